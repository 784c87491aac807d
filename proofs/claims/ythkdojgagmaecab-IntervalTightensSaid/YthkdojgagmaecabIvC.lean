/- Package interval: contracts of isWidth and Contains. -/
import Derived.Test.YthkdojgagmaecabIvM
import Derived.Test.YthkdojgagmaecabBitsB
namespace Go.Proofs.Ythkdojgagmaecab
open Go.RowKit

theorem isw_any (a : Int) (w : World) :
    Calls Try.prog 49 #[.int .i64 a] w fun e w' => e = .returned (.bool (decide (1 ≤ a) && decide (a ≤ 64))) ∧ w = w' := by
  by_cases h : 1 ≤ a
  · have H := Lib.hid (show (decide (1 ≤ a) && decide (a ≤ 64)) = decide (a ≤ 64) by simp [h])
    rw [H.out]
    go_enter Try.func49, Try.ntmps49
    go_wp2_with fail
    go_ret
    exact ⟨rfl, rfl⟩
  · have H := Lib.hid (show (decide (1 ≤ a) && decide (a ≤ 64)) = false by simp [h])
    rw [H.out]
    go_enter Try.func49, Try.ntmps49
    go_wp2_with fail
    go_ret
    exact ⟨rfl, rfl⟩
theorem isw_yes (a : Int) (h1 : 1 ≤ a) (h2 : a ≤ 64) (w : World) :
    Calls Try.prog 49 #[.int .i64 a] w fun e w' => e = .returned (.bool true) ∧ w = w' := by
  have h := isw_any a w
  rwa [show (decide (1 ≤ a) && decide (a ≤ 64)) = true by simp [h1, h2]] at h
theorem isw_no (a : Int) (h : ¬ (1 ≤ a ∧ a ≤ 64)) (w : World) :
    Calls Try.prog 49 #[.int .i64 a] w fun e w' => e = .returned (.bool false) ∧ w = w' := by
  have h' := isw_any a w
  rwa [show (decide (1 ≤ a) && decide (a ≤ 64)) = false by simp; omega] at h'

/-- The word n of width a lies within both bounds. -/
def iconB (a r0 r1 r2 r3 : Int) (n : Nat) : Bool :=
  (decide (1 ≤ a) && decide (a ≤ 64)) && decide (n ≤ maskN a) && decide (r0 ≤ (n : Int)) && decide ((n : Int) ≤ r1) && decide (r2 ≤ sgn a n) && decide (sgn a n ≤ r3)
theorem icon_any (a r0 r1 r2 r3 : Int) (n : Nat) (hn : n < 18446744073709551616) (w : World) :
    Calls Try.prog 30 #[.int .i64 a, .agg #[.int .u64 r0, .int .u64 r1, .int .i64 r2, .int .i64 r3], .int .u64 n] w fun e w' =>
      e = .returned (.bool (iconB a r0 r1 r2 r3 n)) ∧ Below w.heap.size w w' := by
  have C2 := fun w => mask_any a w
  have C3 := fun w => signed_any a n w hn
  by_cases h : 1 ≤ a ∧ a ≤ 64
  · have C1 := fun w => isw_yes a h.1 h.2 w
    have hr : (decide (1 ≤ a) && decide (a ≤ 64)) = true := by simp [h]
    unfold iconB
    rw [hr]
    clear h hr
    generalize sgn a n = S at C3 ⊢
    generalize maskN a = M at C2 ⊢
    by_cases h1 : n ≤ M
    · by_cases h2 : r0 ≤ (n : Int)
      · by_cases h3 : (n : Int) ≤ r1
        · by_cases h4 : r2 ≤ S
          · simp only [h1, h2, h3, h4, decide_true, Bool.true_and]
            go_enter Try.func30, Try.ntmps30
            go_wp2_with fail
            refine (C1 _).mono ?_
            rintro e w1 ⟨rfl, rfl⟩
            go_wp2_with fail
            refine (C2 _).mono ?_
            rintro e w1 ⟨rfl, rfl⟩
            go_wp2_with fail
            refine (C3 _).mono ?_
            rintro e w1 ⟨rfl, rfl⟩
            go_wp2_with fail
            go_ret
            exact ⟨rfl, by (repeat (first | exact Below.refl _ _ | apply Below.drew | refine Below.alloc ?_ (by simp <;> omega) _ | refine Below.setCell ?_ (by simp) _))⟩
          · simp only [h1, h2, h3, h4, decide_true, decide_false, Bool.true_and, Bool.and_false, Bool.false_and]
            go_enter Try.func30, Try.ntmps30
            go_wp2_with fail
            refine (C1 _).mono ?_
            rintro e w1 ⟨rfl, rfl⟩
            go_wp2_with fail
            refine (C2 _).mono ?_
            rintro e w1 ⟨rfl, rfl⟩
            go_wp2_with fail
            refine (C3 _).mono ?_
            rintro e w1 ⟨rfl, rfl⟩
            go_wp2_with fail
            go_ret
            exact ⟨rfl, by (repeat (first | exact Below.refl _ _ | apply Below.drew | refine Below.alloc ?_ (by simp <;> omega) _ | refine Below.setCell ?_ (by simp) _))⟩
        · simp only [h1, h2, h3, decide_true, decide_false, Bool.true_and, Bool.and_false, Bool.false_and]
          go_enter Try.func30, Try.ntmps30
          go_wp2_with fail
          refine (C1 _).mono ?_
          rintro e w1 ⟨rfl, rfl⟩
          go_wp2_with fail
          refine (C2 _).mono ?_
          rintro e w1 ⟨rfl, rfl⟩
          go_wp2_with fail
          refine (C3 _).mono ?_
          rintro e w1 ⟨rfl, rfl⟩
          go_wp2_with fail
          go_ret
          exact ⟨rfl, by (repeat (first | exact Below.refl _ _ | apply Below.drew | refine Below.alloc ?_ (by simp <;> omega) _ | refine Below.setCell ?_ (by simp) _))⟩
      · simp only [h1, h2, decide_true, decide_false, Bool.true_and, Bool.and_false, Bool.false_and]
        go_enter Try.func30, Try.ntmps30
        go_wp2_with fail
        refine (C1 _).mono ?_
        rintro e w1 ⟨rfl, rfl⟩
        go_wp2_with fail
        refine (C2 _).mono ?_
        rintro e w1 ⟨rfl, rfl⟩
        go_wp2_with fail
        refine (C3 _).mono ?_
        rintro e w1 ⟨rfl, rfl⟩
        go_wp2_with fail
        go_ret
        exact ⟨rfl, by (repeat (first | exact Below.refl _ _ | apply Below.drew | refine Below.alloc ?_ (by simp <;> omega) _ | refine Below.setCell ?_ (by simp) _))⟩
    · simp only [h1, decide_true, decide_false, Bool.true_and, Bool.and_false, Bool.false_and]
      go_enter Try.func30, Try.ntmps30
      go_wp2_with fail
      refine (C1 _).mono ?_
      rintro e w1 ⟨rfl, rfl⟩
      go_wp2_with fail
      refine (C2 _).mono ?_
      rintro e w1 ⟨rfl, rfl⟩
      go_wp2_with fail
      go_ret
      exact ⟨rfl, by (repeat (first | exact Below.refl _ _ | apply Below.drew | refine Below.alloc ?_ (by simp <;> omega) _ | refine Below.setCell ?_ (by simp) _))⟩
  · have C1 := fun w => isw_no a h w
    have hr : (decide (1 ≤ a) && decide (a ≤ 64)) = false := by simp; omega
    unfold iconB
    rw [hr]
    simp only [Bool.false_and]
    clear h hr
    go_enter Try.func30, Try.ntmps30
    go_wp2_with fail
    refine (C1 _).mono ?_
    rintro e w1 ⟨rfl, rfl⟩
    go_wp2_with fail
    go_ret
    exact ⟨rfl, by (repeat (first | exact Below.refl _ _ | apply Below.drew | refine Below.alloc ?_ (by simp <;> omega) _ | refine Below.setCell ?_ (by simp) _))⟩
end Go.Proofs.Ythkdojgagmaecab
