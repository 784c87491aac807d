/- Package cycles: Visit and Stages. -/
import Derived.Test.YthhdfdkdcabiaaaRows
import Derived.WalkKit
import Derived.Below
import Derived.Lib.Hide
namespace Go.Proofs.Ythhdfdkdcabiaaa
open Go.RowKit

/-- The cycles of n successive visits. -/
def visN (ii dep n : Int) : Int := if n < 1 then 0 else if ii ≤ 0 then n * dep else (n - 1) * ii + dep
theorem visit_any (ii dep n : Int) (v2 v3 v4 : Value) (hb : -1000 ≤ n ∧ n ≤ 1000) (hd : 0 ≤ dep ∧ dep ≤ 5000) (hi : ii ≤ 5000) (hp : -5000000 ≤ n * dep ∧ n * dep ≤ 5000000) (hq : 0 < ii → -5000000 ≤ (n - 1) * ii ∧ (n - 1) * ii ≤ 5000000) (w : World) :
    Calls Try.prog 6 #[.agg #[.int .i64 ii, .int .i64 dep, v2, v3, v4], .int .i64 n] w fun e w' => e = .returned (.int .i64 (visN ii dep n)) ∧ Below w.heap.size w w' := by
  by_cases h1 : n < 1
  · have H := Lib.hid (show visN ii dep n = 0 by unfold visN; rw [if_pos h1])
    go_enter Try.func6, Try.ntmps6
    go_wp2_with fail
    go_ret
    exact ⟨by rw [H.out]; rfl, by repeat (first | exact Below.refl _ _ | apply Below.drew | refine Below.alloc ?_ (by simp <;> omega) _)⟩
  · by_cases h2 : ii ≤ 0
    · have H := Lib.hid (show visN ii dep n = n * dep by unfold visN; rw [if_neg h1, if_pos h2])
      clear hq
      go_enter Try.func6, Try.ntmps6
      go_wp2_with fail
      go_ret
      exact ⟨by rw [H.out]; rfl, by repeat (first | exact Below.refl _ _ | apply Below.drew | refine Below.alloc ?_ (by simp <;> omega) _)⟩
    · have H := Lib.hid (show visN ii dep n = (n - 1) * ii + dep by unfold visN; rw [if_neg h1, if_neg h2])
      have hq' := hq (by omega)
      clear hq
      go_enter Try.func6, Try.ntmps6
      go_wp2_with fail
      go_ret
      exact ⟨by rw [H.out]; rfl, by repeat (first | exact Below.refl _ _ | apply Below.drew | refine Below.alloc ?_ (by simp <;> omega) _)⟩
/-- The stages of a schedule. -/
def staN (ii dep : Int) : Int := if ii ≤ 0 then 1 else if 0 < dep % ii then dep / ii + 1 else dep / ii
theorem stages_any (ii dep : Int) (v2 v3 v4 : Value) (hd : 0 ≤ dep ∧ dep ≤ 5000) (hi : ii ≤ 5000) (w : World) :
    Calls Try.prog 7 #[.agg #[.int .i64 ii, .int .i64 dep, v2, v3, v4]] w fun e w' => e = .returned (.int .i64 (staN ii dep)) ∧ Below w.heap.size w w' := by
  by_cases h2 : ii ≤ 0
  · have H := Lib.hid (show staN ii dep = 1 by unfold staN; rw [if_pos h2])
    go_enter Try.func7, Try.ntmps7
    go_wp2_with fail
    go_ret
    exact ⟨by rw [H.out]; rfl, by repeat (first | exact Below.refl _ _ | apply Below.drew | refine Below.alloc ?_ (by simp <;> omega) _)⟩
  · obtain ⟨i, rfl⟩ := Int.eq_ofNat_of_zero_le (show 0 ≤ ii by omega)
    obtain ⟨d, rfl⟩ := Int.eq_ofNat_of_zero_le hd.1
    have hi0 : ¬ ((i : Nat) : Int) = 0 := by omega
    have hdl : d / i ≤ d := Nat.div_le_self d i
    have hml : d % i ≤ d := Nat.mod_le d i
    have e1 : ((d : Nat) : Int) / ((i : Nat) : Int) = ((d / i : Nat) : Int) := by simp
    have e2 : ((d : Nat) : Int) % ((i : Nat) : Int) = ((d % i : Nat) : Int) := by simp
    have H := Lib.hid (show staN i d = if 0 < d % i then ((d / i : Nat) : Int) + 1 else ((d / i : Nat) : Int) by
      unfold staN; rw [if_neg h2, e1, e2]
      by_cases h : 0 < d % i
      · rw [if_pos h, if_pos (by omega)]
      · rw [if_neg h, if_neg (by omega)])
    generalize d / i = Q at *
    generalize d % i = R at *
    by_cases h : 0 < R
    · rw [if_pos h] at H
      go_enter Try.func7, Try.ntmps7
      go_wp2_with fail
      go_ret
      exact ⟨by rw [H.out]; rfl, by repeat (first | exact Below.refl _ _ | apply Below.drew | refine Below.alloc ?_ (by simp <;> omega) _)⟩
    · rw [if_neg h] at H
      go_enter Try.func7, Try.ntmps7
      go_wp2_with fail
      go_ret
      exact ⟨by rw [H.out]; rfl, by repeat (first | exact Below.refl _ _ | apply Below.drew | refine Below.alloc ?_ (by simp <;> omega) _)⟩
end Go.Proofs.Ythhdfdkdcabiaaa
