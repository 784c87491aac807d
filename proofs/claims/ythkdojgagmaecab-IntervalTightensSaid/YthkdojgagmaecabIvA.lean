/- Package interval: Top and Of; and awake of layer 13. -/
import Derived.Test.YthkdojgagmaecabIvC
namespace Go.Proofs.Ythkdojgagmaecab
open Go.RowKit

/-- The least and the greatest signed number of a width. -/
def smin (a : Int) : Int := -((2 ^ (cw a - 1) : Nat) : Int)
def smax (a : Int) : Int := ((2 ^ (cw a - 1) : Nat) : Int) - 1
theorem least_any (a : Int) (h1 : 1 ≤ a) (h2 : a ≤ 64) (w : World) :
    Calls Try.prog 51 #[.int .i64 a] w fun e w' => e = .returned (.int .i64 (smin a)) ∧ w = w' := by
  have hc : cw a = a.toNat := by unfold cw; split; omega; split <;> omega
  obtain ⟨k, rfl⟩ : ∃ k : Nat, a = ((k + 1 : Nat) : Int) := ⟨a.toNat - 1, by omega⟩
  have hk : k < 64 := by omega
  have hp : 2 ^ k ≤ 9223372036854775808 := pow_lt_64 k hk
  have H := Lib.hid (show smin ((k + 1 : Nat) : Int) = -((2 ^ k : Nat) : Int) by unfold smin; rw [hc]; rw [show ((((k + 1 : Nat)) : Int).toNat - 1) = k by omega])
  rw [H.out]
  have e2 : wrap64 (-(2 : Int) ^ k) = -((2 ^ k : Nat) : Int) := by
    have : ((2 : Int) ^ k) = ((2 ^ k : Nat) : Int) := by simp
    rw [this]
    have := pow_pos k
    unfold wrap64; omega
  have e1 : (((k + 1 : Nat) : Int)) - 1 = ((k : Nat) : Int) := by omega
  clear hc H
  go_enter Try.func51, Try.ntmps51
  go_wp2_with fail
  go_ret
  exact ⟨congrArg (fun z => Ending.returned (Value.int IntKind.i64 z)) e2, rfl⟩
theorem most_any (a : Int) (h1 : 1 ≤ a) (h2 : a ≤ 64) (w : World) :
    Calls Try.prog 52 #[.int .i64 a] w fun e w' => e = .returned (.int .i64 (smax a)) ∧ w = w' := by
  have hc : cw a = a.toNat := by unfold cw; split; omega; split <;> omega
  obtain ⟨k, rfl⟩ : ∃ k : Nat, a = ((k + 1 : Nat) : Int) := ⟨a.toNat - 1, by omega⟩
  have hk : k < 64 := by omega
  have hp : 2 ^ k ≤ 9223372036854775808 := pow_lt_64 k hk
  have hm : maskN ((k : Nat) : Int) = 2 ^ k - 1 := by
    unfold maskN; congr 2; unfold cw; split; omega; split <;> omega
  have H := Lib.hid (show smax ((k + 1 : Nat) : Int) = ((2 ^ k - 1 : Nat) : Int) by unfold smax; rw [hc]; have := pow_pos k; rw [show ((((k + 1 : Nat)) : Int).toNat - 1) = k by omega]; omega)
  rw [H.out]
  have C := fun w => mask_any ((k : Nat) : Int) w
  rw [hm] at C
  have hM : 2 ^ k - 1 < 9223372036854775808 := by have := pow_pos k; omega
  have e1 : (((k + 1 : Nat) : Int)) - 1 = ((k : Nat) : Int) := by omega
  generalize 2 ^ k - 1 = M at C hM ⊢
  clear hc H hm
  go_enter Try.func52, Try.ntmps52
  go_wp2_with fail
  refine (C _).mono ?_
  rintro e w1 ⟨rfl, rfl⟩
  go_wp2_with fail
  go_ret
  exact ⟨rfl, rfl⟩

theorem sgn_fit' (a : Int) (x : Nat) : sgn a (fitN a x) = sgn a x := by unfold sgn; rw [fitN_fitN]
theorem sgn_of_fit (a : Int) (n : Nat) (w : World) :
    Calls Try.prog 50 #[.int .i64 a, .int .u64 (fitN a n : Nat)] w fun e w' => e = .returned (.int .i64 (sgn a n)) ∧ w = w' := by
  have h := signed_any a (fitN a n) w (fitN_lt a n)
  rwa [sgn_fit'] at h
theorem itop_yes (a : Int) (h1 : 1 ≤ a) (h2 : a ≤ 64) (w : World) :
    Calls Try.prog 34 #[.int .i64 a] w fun e w' => e = .returned (.agg #[.int .u64 0, .int .u64 (maskN a : Nat), .int .i64 (smin a), .int .i64 (smax a)]) ∧ Below w.heap.size w w' := by
  have C1 := fun w => isw_yes a h1 h2 w
  have C2 := fun w => mask_any a w
  have C3 := fun w => least_any a h1 h2 w
  have C4 := fun w => most_any a h1 h2 w
  go_enter Try.func34, Try.ntmps34
  go_wp2_with fail
  refine (C1 _).mono ?_
  rintro e w1 ⟨rfl, rfl⟩
  go_wp2_with fail
  refine (C2 _).mono ?_
  rintro e w1 ⟨rfl, rfl⟩
  go_wp2_with fail
  refine (C3 _).mono ?_
  rintro e w1 ⟨rfl, rfl⟩
  go_wp2_with fail
  refine (C4 _).mono ?_
  rintro e w1 ⟨rfl, rfl⟩
  go_wp2_with fail
  refine bodyPost_ret (v := .agg #[.int .u64 0, .int .u64 (maskN a : Nat), .int .i64 (smin a), .int .i64 (smax a)]) (by simp [results, Try.results34, go_sem]) rfl ⟨rfl, ?_⟩
  repeat (first | exact Below.refl _ _ | apply Below.drew | refine Below.alloc ?_ (by simp <;> omega) _ | refine Below.setCell ?_ (by simp) _)
theorem itop_no (a : Int) (h : ¬ (1 ≤ a ∧ a ≤ 64)) (w : World) :
    Calls Try.prog 34 #[.int .i64 a] w fun e w' => e = .returned (.agg #[.int .u64 0, .int .u64 0, .int .i64 0, .int .i64 0]) ∧ Below w.heap.size w w' := by
  have C1 := fun w => isw_no a h w
  go_enter Try.func34, Try.ntmps34
  go_wp2_with fail
  refine (C1 _).mono ?_
  rintro e w1 ⟨rfl, rfl⟩
  go_wp2_with fail
  refine bodyPost_ret (v := .agg #[.int .u64 0, .int .u64 0, .int .i64 0, .int .i64 0]) (by simp [results, Try.results34, go_sem]) rfl ⟨rfl, ?_⟩
  repeat (first | exact Below.refl _ _ | apply Below.drew | refine Below.alloc ?_ (by simp <;> omega) _ | refine Below.setCell ?_ (by simp) _)
theorem iof_yes (a : Int) (n : Nat) (hn : n < 18446744073709551616) (h1 : 1 ≤ a) (h2 : a ≤ 64) (w : World) :
    Calls Try.prog 36 #[.int .i64 a, .int .u64 n] w fun e w' => e = .returned (.agg #[.int .u64 (fitN a n : Nat), .int .u64 (fitN a n : Nat), .int .i64 (sgn a n), .int .i64 (sgn a n)]) ∧ Below w.heap.size w w' := by
  have C1 := fun w => isw_yes a h1 h2 w
  have C2 := fun w => fit_any a n w hn
  have C3 := fun w => sgn_of_fit a n w
  go_enter Try.func36, Try.ntmps36
  go_wp2_with fail
  refine (C1 _).mono ?_
  rintro e w1 ⟨rfl, rfl⟩
  go_wp2_with fail
  refine (C2 _).mono ?_
  rintro e w1 ⟨rfl, rfl⟩
  go_wp2_with fail
  refine (C3 _).mono ?_
  rintro e w1 ⟨rfl, rfl⟩
  go_wp2_with fail
  refine (C3 _).mono ?_
  rintro e w1 ⟨rfl, rfl⟩
  go_wp2_with fail
  refine bodyPost_ret (v := .agg #[.int .u64 (fitN a n : Nat), .int .u64 (fitN a n : Nat), .int .i64 (sgn a n), .int .i64 (sgn a n)]) (by simp [results, Try.results36, go_sem]) rfl ⟨rfl, ?_⟩
  repeat (first | exact Below.refl _ _ | apply Below.drew | refine Below.alloc ?_ (by simp <;> omega) _ | refine Below.setCell ?_ (by simp) _)
theorem iof_no (a : Int) (n : Nat) (h : ¬ (1 ≤ a ∧ a ≤ 64)) (w : World) :
    Calls Try.prog 36 #[.int .i64 a, .int .u64 n] w fun e w' => e = .returned (.agg #[.int .u64 0, .int .u64 0, .int .i64 0, .int .i64 0]) ∧ Below w.heap.size w w' := by
  have C1 := fun w => isw_no a h w
  go_enter Try.func36, Try.ntmps36
  go_wp2_with fail
  refine (C1 _).mono ?_
  rintro e w1 ⟨rfl, rfl⟩
  go_wp2_with fail
  refine bodyPost_ret (v := .agg #[.int .u64 0, .int .u64 0, .int .i64 0, .int .i64 0]) (by simp [results, Try.results36, go_sem]) rfl ⟨rfl, ?_⟩
  repeat (first | exact Below.refl _ _ | apply Below.drew | refine Below.alloc ?_ (by simp <;> omega) _ | refine Below.setCell ?_ (by simp) _)
theorem awake13 (w : World) :
    Calls Try.prog 23 #[] w fun e w' => e = .returned (.bool true) ∧ Below w.heap.size w w' := by
  have C1 := fun w => itop_yes 4 (by decide) (by decide) w
  have C2 := fun w => iof_yes 4 9 (by decide) (by decide) (by decide) w
  rw [show maskN 4 = 15 by decide, show smin 4 = -8 by decide, show smax 4 = 7 by decide] at C1
  rw [show fitN 4 9 = 9 by decide, show sgn 4 9 = -7 by decide] at C2
  go_enter Try.func23, Try.ntmps23
  go_wp2_with fail
  refine (C1 _).mono ?_
  rintro e w1 ⟨rfl, hb1⟩
  go_wp2_with fail
  refine (C2 _).mono ?_
  rintro e w2 ⟨rfl, hb2⟩
  go_wp2_with fail
  go_ret
  exact ⟨rfl, hb1.trans (hb2.mono hb1.size)⟩
end Go.Proofs.Ythkdojgagmaecab
