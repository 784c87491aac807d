/- Package interval and its reference: Valid; the reference's Contains, Top, Of. -/
import Derived.Test.YthkdojgagmaecabIvE
namespace Go.Proofs.Ythkdojgagmaecab
open Go.RowKit

theorem same_of {P : Program} {f : Nat} {args : Array Value} {w : World} {R : Ending} (h : Calls P f args w fun e w' => e = R ∧ w = w') : Calls P f args w fun e w' => e = R ∧ w' = w :=
  h.mono fun _ _ ⟨h1, h2⟩ => ⟨h1, h2.symm⟩
theorem below_drewN' {B : Nat} {a w : World} (h : Below B a w) (n : Nat) : Below B a (w.drewN n) := h.trans ⟨rfl, rfl, rfl, Nat.le_refl _, fun _ _ => rfl⟩
/-- The bounds of a range belong to a width, and are in order. -/
def ivalB (a r0 r1 r2 r3 : Int) : Bool :=
  (decide (1 ≤ a) && decide (a ≤ 64)) && decide (r0 ≤ r1) && decide (r1 ≤ ((maskN a : Nat) : Int)) && decide (smin a ≤ r2) && decide (r2 ≤ r3) && decide (r3 ≤ smax a)
theorem ival_any (a r0 r1 r2 r3 : Int) (w : World) :
    Calls Try.prog 31 #[.int .i64 a, .agg #[.int .u64 r0, .int .u64 r1, .int .i64 r2, .int .i64 r3]] w fun e w' => e = .returned (.bool (ivalB a r0 r1 r2 r3)) ∧ Below w.heap.size w w' := by
  by_cases h : 1 ≤ a ∧ a ≤ 64
  · obtain ⟨g1, g2⟩ := h
    have hr : (decide (1 ≤ a) && decide (a ≤ 64)) = true := by simp [g1, g2]
    have C1 := fun w => same_of (isw_yes a g1 g2 w)
    have C2 := fun w => same_of (mask_any a w)
    have C3 := fun w => same_of (least_any a g1 g2 w)
    have C4 := fun w => same_of (most_any a g1 g2 w)
    unfold ivalB
    rw [hr]
    clear hr
    generalize maskN a = M at C2 ⊢
    generalize smin a = mn at C3 ⊢
    generalize smax a = mx at C4 ⊢
    by_cases h1 : r0 ≤ r1
    · by_cases h2 : r1 ≤ (M : Int)
      · by_cases h3 : mn ≤ r2
        · by_cases h4 : r2 ≤ r3
          · by_cases h5 : r3 ≤ mx
            · simp only [h1, h2, h3, h4, h5, decide_true, Bool.true_and, Bool.and_true]
              go_enter Try.func31, Try.ntmps31
              go_wp2_with fail
              go_quiet ((first | (go_at_call 49; exact Calls.quiet_of_same (C1 _)) | (go_at_call 46; exact Calls.quiet_of_same (C2 _)) | (go_at_call 51; exact Calls.quiet_of_same (C3 _)) | (go_at_call 52; exact Calls.quiet_of_same (C4 _))))
              go_wp2_with fail
              go_ret
              exact ⟨rfl, below_drewN' ((Below.refl _ _).alloc (Nat.le_refl _) _) _⟩
            · simp only [h1, h2, h3, h4, h5, decide_true, decide_false, Bool.true_and, Bool.and_true, Bool.and_false, Bool.false_and]
              have h5d : decide (r3 ≤ mx) = false := decide_eq_false h5
              go_enter Try.func31, Try.ntmps31
              go_wp2_with fail
              go_quiet ((first | (go_at_call 49; exact Calls.quiet_of_same (C1 _)) | (go_at_call 46; exact Calls.quiet_of_same (C2 _)) | (go_at_call 51; exact Calls.quiet_of_same (C3 _)) | (go_at_call 52; exact Calls.quiet_of_same (C4 _))))
              go_wp2_with fail
              go_ret
              exact ⟨rfl, below_drewN' ((Below.refl _ _).alloc (Nat.le_refl _) _) _⟩
          · simp only [h1, h2, h3, h4, decide_true, decide_false, Bool.true_and, Bool.and_true, Bool.and_false, Bool.false_and]
            have h4d : decide (r2 ≤ r3) = false := decide_eq_false h4
            go_enter Try.func31, Try.ntmps31
            go_wp2_with fail
            go_quiet ((first | (go_at_call 49; exact Calls.quiet_of_same (C1 _)) | (go_at_call 46; exact Calls.quiet_of_same (C2 _)) | (go_at_call 51; exact Calls.quiet_of_same (C3 _)) | (go_at_call 52; exact Calls.quiet_of_same (C4 _))))
            go_wp2_with fail
            go_ret
            exact ⟨rfl, below_drewN' ((Below.refl _ _).alloc (Nat.le_refl _) _) _⟩
        · simp only [h1, h2, h3, decide_true, decide_false, Bool.true_and, Bool.and_true, Bool.and_false, Bool.false_and]
          have h3d : decide (mn ≤ r2) = false := decide_eq_false h3
          go_enter Try.func31, Try.ntmps31
          go_wp2_with fail
          go_quiet ((first | (go_at_call 49; exact Calls.quiet_of_same (C1 _)) | (go_at_call 46; exact Calls.quiet_of_same (C2 _)) | (go_at_call 51; exact Calls.quiet_of_same (C3 _)) | (go_at_call 52; exact Calls.quiet_of_same (C4 _))))
          go_wp2_with fail
          go_ret
          exact ⟨rfl, below_drewN' ((Below.refl _ _).alloc (Nat.le_refl _) _) _⟩
      · simp only [h1, h2, decide_true, decide_false, Bool.true_and, Bool.and_true, Bool.and_false, Bool.false_and]
        have h2d : decide (r1 ≤ (M : Int)) = false := decide_eq_false h2
        go_enter Try.func31, Try.ntmps31
        go_wp2_with fail
        go_quiet ((first | (go_at_call 49; exact Calls.quiet_of_same (C1 _)) | (go_at_call 46; exact Calls.quiet_of_same (C2 _)) | (go_at_call 51; exact Calls.quiet_of_same (C3 _)) | (go_at_call 52; exact Calls.quiet_of_same (C4 _))))
        go_wp2_with fail
        go_ret
        exact ⟨rfl, below_drewN' ((Below.refl _ _).alloc (Nat.le_refl _) _) _⟩
    · simp only [h1, decide_true, decide_false, Bool.true_and, Bool.and_true, Bool.and_false, Bool.false_and]
      have h1d : decide (r0 ≤ r1) = false := decide_eq_false h1
      go_enter Try.func31, Try.ntmps31
      go_wp2_with fail
      go_quiet ((first | (go_at_call 49; exact Calls.quiet_of_same (C1 _)) | (go_at_call 46; exact Calls.quiet_of_same (C2 _)) | (go_at_call 51; exact Calls.quiet_of_same (C3 _)) | (go_at_call 52; exact Calls.quiet_of_same (C4 _))))
      go_wp2_with fail
      go_ret
      exact ⟨rfl, below_drewN' ((Below.refl _ _).alloc (Nat.le_refl _) _) _⟩
  · have hr : (decide (1 ≤ a) && decide (a ≤ 64)) = false := by simp; omega
    unfold ivalB
    rw [hr]
    simp only [Bool.false_and]
    have C1 := fun w => same_of (isw_no a h w)
    clear h hr
    go_enter Try.func31, Try.ntmps31
    go_wp2_with fail
    go_quiet ((go_at_call 49; exact Calls.quiet_of_same (C1 _)))
    go_wp2_with fail
    go_ret
    exact ⟨rfl, below_drewN' ((Below.refl _ _).alloc (Nat.le_refl _) _) _⟩
theorem ival_ref (a r0 r1 r2 r3 : Int) (w : World) :
    Calls Try.prog 32 #[.int .i64 a, .agg #[.int .u64 r0, .int .u64 r1, .int .i64 r2, .int .i64 r3]] w fun e w' => e = .returned (.bool (ivalB a r0 r1 r2 r3)) ∧ Below w.heap.size w w' := by
  by_cases h : 1 ≤ a ∧ a ≤ 64
  · obtain ⟨g1, g2⟩ := h
    have hr : (decide (1 ≤ a) && decide (a ≤ 64)) = true := by simp [g1, g2]
    have C2 := fun w => same_of (rumax_any a g1 g2 w)
    have C3 := fun w => same_of (rsmin_any a g1 g2 w)
    have C4 := fun w => same_of (rsmax_any a g1 g2 w)
    unfold ivalB
    rw [hr]
    clear hr
    generalize maskN a = M at C2 ⊢
    generalize smin a = mn at C3 ⊢
    generalize smax a = mx at C4 ⊢
    by_cases h1 : r0 ≤ r1
    · by_cases h2 : r1 ≤ (M : Int)
      · by_cases h3 : mn ≤ r2
        · by_cases h4 : r2 ≤ r3
          · by_cases h5 : r3 ≤ mx
            · simp only [h1, h2, h3, h4, h5, decide_true, Bool.true_and, Bool.and_true]
              go_enter Try.func32, Try.ntmps32
              go_wp2_with fail
              go_quiet ((first | (go_at_call 53; exact Calls.quiet_of_same (C2 _)) | (go_at_call 54; exact Calls.quiet_of_same (C3 _)) | (go_at_call 55; exact Calls.quiet_of_same (C4 _))))
              go_wp2_with fail
              go_ret
              exact ⟨rfl, below_drewN' ((Below.refl _ _).alloc (Nat.le_refl _) _) _⟩
            · simp only [h1, h2, h3, h4, h5, decide_true, decide_false, Bool.true_and, Bool.and_true, Bool.and_false, Bool.false_and]
              have h5d : decide (r3 ≤ mx) = false := decide_eq_false h5
              go_enter Try.func32, Try.ntmps32
              go_wp2_with fail
              go_quiet ((first | (go_at_call 53; exact Calls.quiet_of_same (C2 _)) | (go_at_call 54; exact Calls.quiet_of_same (C3 _)) | (go_at_call 55; exact Calls.quiet_of_same (C4 _))))
              go_wp2_with fail
              go_ret
              exact ⟨rfl, below_drewN' ((Below.refl _ _).alloc (Nat.le_refl _) _) _⟩
          · simp only [h1, h2, h3, h4, decide_true, decide_false, Bool.true_and, Bool.and_true, Bool.and_false, Bool.false_and]
            have h4d : decide (r2 ≤ r3) = false := decide_eq_false h4
            go_enter Try.func32, Try.ntmps32
            go_wp2_with fail
            go_quiet ((first | (go_at_call 53; exact Calls.quiet_of_same (C2 _)) | (go_at_call 54; exact Calls.quiet_of_same (C3 _)) | (go_at_call 55; exact Calls.quiet_of_same (C4 _))))
            go_wp2_with fail
            go_ret
            exact ⟨rfl, below_drewN' ((Below.refl _ _).alloc (Nat.le_refl _) _) _⟩
        · simp only [h1, h2, h3, decide_true, decide_false, Bool.true_and, Bool.and_true, Bool.and_false, Bool.false_and]
          have h3d : decide (mn ≤ r2) = false := decide_eq_false h3
          go_enter Try.func32, Try.ntmps32
          go_wp2_with fail
          go_quiet ((first | (go_at_call 53; exact Calls.quiet_of_same (C2 _)) | (go_at_call 54; exact Calls.quiet_of_same (C3 _)) | (go_at_call 55; exact Calls.quiet_of_same (C4 _))))
          go_wp2_with fail
          go_ret
          exact ⟨rfl, below_drewN' ((Below.refl _ _).alloc (Nat.le_refl _) _) _⟩
      · simp only [h1, h2, decide_true, decide_false, Bool.true_and, Bool.and_true, Bool.and_false, Bool.false_and]
        have h2d : decide (r1 ≤ (M : Int)) = false := decide_eq_false h2
        go_enter Try.func32, Try.ntmps32
        go_wp2_with fail
        go_quiet ((first | (go_at_call 53; exact Calls.quiet_of_same (C2 _)) | (go_at_call 54; exact Calls.quiet_of_same (C3 _)) | (go_at_call 55; exact Calls.quiet_of_same (C4 _))))
        go_wp2_with fail
        go_ret
        exact ⟨rfl, below_drewN' ((Below.refl _ _).alloc (Nat.le_refl _) _) _⟩
    · simp only [h1, decide_true, decide_false, Bool.true_and, Bool.and_true, Bool.and_false, Bool.false_and]
      have h1d : decide (r0 ≤ r1) = false := decide_eq_false h1
      go_enter Try.func32, Try.ntmps32
      go_wp2_with fail
      go_quiet ((first | (go_at_call 53; exact Calls.quiet_of_same (C2 _)) | (go_at_call 54; exact Calls.quiet_of_same (C3 _)) | (go_at_call 55; exact Calls.quiet_of_same (C4 _))))
      go_wp2_with fail
      go_ret
      exact ⟨rfl, below_drewN' ((Below.refl _ _).alloc (Nat.le_refl _) _) _⟩
  · have hr : (decide (1 ≤ a) && decide (a ≤ 64)) = false := by simp; omega
    unfold ivalB
    rw [hr]
    simp only [Bool.false_and]
    clear hr
    by_cases g1 : 1 ≤ a
    · have g2 : ¬ a ≤ 64 := by omega
      have g2d : decide (a ≤ 64) = false := decide_eq_false g2
      clear h
      go_enter Try.func32, Try.ntmps32
      go_wp2_with fail
      go_quiet (fail)
      go_wp2_with fail
      go_ret
      exact ⟨rfl, below_drewN' ((Below.refl _ _).alloc (Nat.le_refl _) _) _⟩
    · have g1d : decide (1 ≤ a) = false := decide_eq_false g1
      clear h
      go_enter Try.func32, Try.ntmps32
      go_wp2_with fail
      go_quiet (fail)
      go_wp2_with fail
      go_ret
      exact ⟨rfl, below_drewN' ((Below.refl _ _).alloc (Nat.le_refl _) _) _⟩
theorem fit_small (a : Int) (n : Nat) (h : n ≤ maskN a) : fitN a n = n := by
  unfold fitN; refine Nat.mod_eq_of_lt ?_
  unfold maskN at h; have := pow_pos (cw a); omega
theorem icon_ref (a r0 r1 r2 r3 : Int) (n : Nat) (hn : n < 18446744073709551616) (w : World) :
    Calls Try.prog 33 #[.int .i64 a, .agg #[.int .u64 r0, .int .u64 r1, .int .i64 r2, .int .i64 r3], .int .u64 n] w fun e w' =>
      e = .returned (.bool (iconB a r0 r1 r2 r3 n)) ∧ Below w.heap.size w w' := by
  by_cases h : 1 ≤ a ∧ a ≤ 64
  · obtain ⟨g1, g2⟩ := h
    have hr : (decide (1 ≤ a) && decide (a ≤ 64)) = true := by simp [g1, g2]
    have C2 := fun w => rumax_any a g1 g2 w
    have C3 := fun (h : n ≤ maskN a) w => rsigned_any a n g1 g2 (fit_small a n h) w
    unfold iconB
    rw [hr]
    clear hr
    generalize sgn a n = S at C3 ⊢
    generalize maskN a = M at C2 C3 ⊢
    by_cases h1 : n ≤ M
    · have C3 := C3 h1
      by_cases h2 : r0 ≤ (n : Int)
      · by_cases h3 : (n : Int) ≤ r1
        · by_cases h4 : r2 ≤ S
          · simp only [h1, h2, h3, h4, decide_true, Bool.true_and]
            go_enter Try.func33, Try.ntmps33
            go_wp2_with fail
            refine (C2 _).mono ?_
            rintro e w1 ⟨rfl, rfl⟩
            go_wp2_with fail
            refine (C3 _).mono ?_
            rintro e w1 ⟨rfl, rfl⟩
            go_wp2_with fail
            go_ret
            exact ⟨rfl, by (repeat (first | exact Below.refl _ _ | apply Below.drew | refine Below.alloc ?_ (by simp <;> omega) _ | refine Below.setCell ?_ (by simp) _))⟩
          · simp only [h1, h2, h3, h4, decide_true, decide_false, Bool.true_and, Bool.and_false, Bool.false_and]
            go_enter Try.func33, Try.ntmps33
            go_wp2_with fail
            refine (C2 _).mono ?_
            rintro e w1 ⟨rfl, rfl⟩
            go_wp2_with fail
            refine (C3 _).mono ?_
            rintro e w1 ⟨rfl, rfl⟩
            go_wp2_with fail
            go_ret
            exact ⟨rfl, by (repeat (first | exact Below.refl _ _ | apply Below.drew | refine Below.alloc ?_ (by simp <;> omega) _ | refine Below.setCell ?_ (by simp) _))⟩
        · simp only [h1, h2, h3, decide_true, decide_false, Bool.true_and, Bool.and_false, Bool.false_and]
          go_enter Try.func33, Try.ntmps33
          go_wp2_with fail
          refine (C2 _).mono ?_
          rintro e w1 ⟨rfl, rfl⟩
          go_wp2_with fail
          refine (C3 _).mono ?_
          rintro e w1 ⟨rfl, rfl⟩
          go_wp2_with fail
          go_ret
          exact ⟨rfl, by (repeat (first | exact Below.refl _ _ | apply Below.drew | refine Below.alloc ?_ (by simp <;> omega) _ | refine Below.setCell ?_ (by simp) _))⟩
      · simp only [h1, h2, decide_true, decide_false, Bool.true_and, Bool.and_false, Bool.false_and]
        go_enter Try.func33, Try.ntmps33
        go_wp2_with fail
        refine (C2 _).mono ?_
        rintro e w1 ⟨rfl, rfl⟩
        go_wp2_with fail
        refine (C3 _).mono ?_
        rintro e w1 ⟨rfl, rfl⟩
        go_wp2_with fail
        go_ret
        exact ⟨rfl, by (repeat (first | exact Below.refl _ _ | apply Below.drew | refine Below.alloc ?_ (by simp <;> omega) _ | refine Below.setCell ?_ (by simp) _))⟩
    · simp only [h1, decide_true, decide_false, Bool.true_and, Bool.and_false, Bool.false_and]
      clear C3
      go_enter Try.func33, Try.ntmps33
      go_wp2_with fail
      refine (C2 _).mono ?_
      rintro e w1 ⟨rfl, rfl⟩
      go_wp2_with fail
      go_ret
      exact ⟨rfl, by (repeat (first | exact Below.refl _ _ | apply Below.drew | refine Below.alloc ?_ (by simp <;> omega) _ | refine Below.setCell ?_ (by simp) _))⟩
  · have hr : (decide (1 ≤ a) && decide (a ≤ 64)) = false := by simp; omega
    unfold iconB
    rw [hr]
    simp only [Bool.false_and]
    clear hr
    by_cases g1 : a < 1
    · clear h
      go_enter Try.func33, Try.ntmps33
      go_wp2_with fail
      go_ret
      exact ⟨rfl, by (repeat (first | exact Below.refl _ _ | apply Below.drew | refine Below.alloc ?_ (by simp <;> omega) _ | refine Below.setCell ?_ (by simp) _))⟩
    · have g2 : 64 < a := by omega
      clear h
      go_enter Try.func33, Try.ntmps33
      go_wp2_with fail
      go_ret
      exact ⟨rfl, by (repeat (first | exact Below.refl _ _ | apply Below.drew | refine Below.alloc ?_ (by simp <;> omega) _ | refine Below.setCell ?_ (by simp) _))⟩
theorem itop_ryes (a : Int) (h1 : 1 ≤ a) (h2 : a ≤ 64) (w : World) :
    Calls Try.prog 35 #[.int .i64 a] w fun e w' => e = .returned (.agg #[.int .u64 0, .int .u64 (maskN a : Nat), .int .i64 (smin a), .int .i64 (smax a)]) ∧ Below w.heap.size w w' := by
  have C1 := fun w => rumax_any a h1 h2 w
  have C2 := fun w => rsmin_any a h1 h2 w
  have C3 := fun w => rsmax_any a h1 h2 w
  go_enter Try.func35, Try.ntmps35
  go_wp2_with fail
  refine (C1 _).mono ?_
  rintro e w1 ⟨rfl, rfl⟩
  go_wp2_with fail
  refine (C2 _).mono ?_
  rintro e w1 ⟨rfl, rfl⟩
  go_wp2_with fail
  refine (C3 _).mono ?_
  rintro e w1 ⟨rfl, rfl⟩
  go_wp2_with fail
  refine bodyPost_ret (v := .agg #[.int .u64 0, .int .u64 (maskN a : Nat), .int .i64 (smin a), .int .i64 (smax a)]) (by simp [results, Try.results35, go_sem]) rfl ⟨rfl, by (repeat (first | exact Below.refl _ _ | apply Below.drew | refine Below.alloc ?_ (by simp <;> omega) _ | refine Below.setCell ?_ (by simp) _))⟩
theorem itop_rlo (a : Int) (h1 : a < 1) (w : World) :
    Calls Try.prog 35 #[.int .i64 a] w fun e w' => e = .returned (.agg #[.int .u64 0, .int .u64 0, .int .i64 0, .int .i64 0]) ∧ Below w.heap.size w w' := by
  go_enter Try.func35, Try.ntmps35
  go_wp2_with fail
  refine bodyPost_ret (v := .agg #[.int .u64 0, .int .u64 0, .int .i64 0, .int .i64 0]) (by simp [results, Try.results35, go_sem]) rfl ⟨rfl, by (repeat (first | exact Below.refl _ _ | apply Below.drew | refine Below.alloc ?_ (by simp <;> omega) _ | refine Below.setCell ?_ (by simp) _))⟩
theorem itop_rhi (a : Int) (h0 : ¬ a < 1) (h1 : 64 < a) (w : World) :
    Calls Try.prog 35 #[.int .i64 a] w fun e w' => e = .returned (.agg #[.int .u64 0, .int .u64 0, .int .i64 0, .int .i64 0]) ∧ Below w.heap.size w w' := by
  go_enter Try.func35, Try.ntmps35
  go_wp2_with fail
  refine bodyPost_ret (v := .agg #[.int .u64 0, .int .u64 0, .int .i64 0, .int .i64 0]) (by simp [results, Try.results35, go_sem]) rfl ⟨rfl, by (repeat (first | exact Below.refl _ _ | apply Below.drew | refine Below.alloc ?_ (by simp <;> omega) _ | refine Below.setCell ?_ (by simp) _))⟩
theorem iof_ryes (a : Int) (n : Nat) (hn : n < 18446744073709551616) (h1 : 1 ≤ a) (h2 : a ≤ 64) (w : World) :
    Calls Try.prog 37 #[.int .i64 a, .int .u64 n] w fun e w' => e = .returned (.agg #[.int .u64 (fitN a n : Nat), .int .u64 (fitN a n : Nat), .int .i64 (sgn a n), .int .i64 (sgn a n)]) ∧ Below w.heap.size w w' := by
  have C1 := fun w => rumax_any a h1 h2 w
  have C2 := fun w => rsigned_any a (fitN a n) h1 h2 (fitN_fitN a n) w
  rw [sgn_fit'] at C2
  have hf := and_mask a n hn
  generalize maskN a = M at C1 hf
  generalize sgn a n = S at C2 ⊢
  generalize fitN a n = N at C2 hf ⊢
  go_enter Try.func37, Try.ntmps37
  go_wp2_with fail
  refine (C1 _).mono ?_
  rintro e w1 ⟨rfl, rfl⟩
  go_wp2_with fail
  refine (C2 _).mono ?_
  rintro e w1 ⟨rfl, rfl⟩
  go_wp2_with fail
  refine bodyPost_ret (v := .agg #[.int .u64 (N : Nat), .int .u64 (N : Nat), .int .i64 S, .int .i64 S]) (by simp [results, Try.results37, go_sem]) rfl ⟨rfl, by (repeat (first | exact Below.refl _ _ | apply Below.drew | refine Below.alloc ?_ (by simp <;> omega) _ | refine Below.setCell ?_ (by simp) _))⟩
theorem iof_rlo (a : Int) (n : Nat) (h1 : a < 1) (w : World) :
    Calls Try.prog 37 #[.int .i64 a, .int .u64 n] w fun e w' => e = .returned (.agg #[.int .u64 0, .int .u64 0, .int .i64 0, .int .i64 0]) ∧ Below w.heap.size w w' := by
  go_enter Try.func37, Try.ntmps37
  go_wp2_with fail
  refine bodyPost_ret (v := .agg #[.int .u64 0, .int .u64 0, .int .i64 0, .int .i64 0]) (by simp [results, Try.results37, go_sem]) rfl ⟨rfl, by (repeat (first | exact Below.refl _ _ | apply Below.drew | refine Below.alloc ?_ (by simp <;> omega) _ | refine Below.setCell ?_ (by simp) _))⟩
theorem iof_rhi (a : Int) (n : Nat) (h0 : ¬ a < 1) (h1 : 64 < a) (w : World) :
    Calls Try.prog 37 #[.int .i64 a, .int .u64 n] w fun e w' => e = .returned (.agg #[.int .u64 0, .int .u64 0, .int .i64 0, .int .i64 0]) ∧ Below w.heap.size w w' := by
  go_enter Try.func37, Try.ntmps37
  go_wp2_with fail
  refine bodyPost_ret (v := .agg #[.int .u64 0, .int .u64 0, .int .i64 0, .int .i64 0]) (by simp [results, Try.results37, go_sem]) rfl ⟨rfl, by (repeat (first | exact Below.refl _ _ | apply Below.drew | refine Below.alloc ?_ (by simp <;> omega) _ | refine Below.setCell ?_ (by simp) _))⟩
end Go.Proofs.Ythkdojgagmaecab
