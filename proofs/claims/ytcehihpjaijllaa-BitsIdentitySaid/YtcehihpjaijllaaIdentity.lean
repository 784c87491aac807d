/- BitsIdentity: the word that Identity returns is a right identity, for every operator, width and word. -/
import Derived.Test.YtcehihpjaijllaaAwake01
namespace Go.Proofs.Ytcehihpjaijllaa
open Go.RowKit

def identB (op a : Int) : Bool := decide (1 ≤ a ∧ a ≤ 64) && decide (op = 2 ∨ op = 3 ∨ op = 4 ∨ op = 5 ∨ op = 7 ∨ op = 9 ∨ op = 10 ∨ op = 11 ∨ op = 12 ∨ op = 13 ∨ op = 14)
def identN (op a : Int) : Nat :=
  if identB op a then (if op = 4 ∨ op = 5 ∨ op = 7 then 1 else if op = 9 then maskN a else 0) else 0

theorem identity_bad (op a : Int) (w : World) (h : identB op a = false) :
    Calls Try.prog 27 #[.int .i64 op, .int .i64 a] w fun e w' => e = .returned (.tuple #[.int .u64 0, .bool false]) ∧ w = w' := by
  by_cases h1 : a < 1
  · clear h
    go_enter Try.func27, Try.ntmps27
    go_wp2_with fail
    go_ret2
    exact ⟨rfl, rfl⟩
  · by_cases h2 : 64 < a
    · clear h
      go_enter Try.func27, Try.ntmps27
      go_wp2_with fail
      go_ret2
      exact ⟨rfl, rfl⟩
    · have h3 : op < 2 ∨ op = 6 ∨ op = 8 ∨ 14 < op := by
        simp only [identB, Bool.and_eq_false_iff, decide_eq_false_iff_not] at h; omega
      clear h
      rcases h3 with h3 | rfl | rfl | h3
      all_goals
        go_enter Try.func27, Try.ntmps27
        go_wp2_with fail
        go_ret2
        exact ⟨rfl, rfl⟩

theorem identN_one (op a : Int) (ha : 1 ≤ a) (hb : a ≤ 64) (h : op = 4 ∨ op = 5 ∨ op = 7) : identN op a = 1 := by
  rcases h with rfl | rfl | rfl <;> simp [identN, identB, ha, hb]
theorem identN_zero (op a : Int) (ha : 1 ≤ a) (hb : a ≤ 64) (h : op = 2 ∨ op = 3 ∨ op = 10 ∨ op = 11 ∨ op = 12 ∨ op = 13 ∨ op = 14) : identN op a = 0 := by
  rcases h with rfl | rfl | rfl | rfl | rfl | rfl | rfl <;> simp [identN]
theorem identN_nine (a : Int) (ha : 1 ≤ a) (hb : a ≤ 64) : identN 9 a = maskN a := by
  simp [identN, identB, ha, hb]

set_option maxHeartbeats 1000000 in
theorem identity_ok (op a : Int) (w : World) (ha : 1 ≤ a) (hb : a ≤ 64) (h : op = 2 ∨ op = 3 ∨ op = 4 ∨ op = 5 ∨ op = 7 ∨ op = 9 ∨ op = 10 ∨ op = 11 ∨ op = 12 ∨ op = 13 ∨ op = 14) :
    Calls Try.prog 27 #[.int .i64 op, .int .i64 a] w fun e w' => e = .returned (.tuple #[.int .u64 (identN op a : Nat), .bool true]) ∧ w = w' := by
  rcases h with rfl | rfl | rfl | rfl | rfl | rfl | rfl | rfl | rfl | rfl | rfl
  case inr.inr.inr.inr.inr.inl =>
    go_enter Try.func27, Try.ntmps27
    go_wp2_with fail
    refine (mask_any a _).mono ?_
    rintro e w' ⟨rfl, rfl⟩
    go_wp2_with fail
    go_ret2
    exact ⟨by rw [identN_nine a ha hb]; rfl, rfl⟩
  case inr.inr.inl | inr.inr.inr.inl | inr.inr.inr.inr.inl =>
    go_enter Try.func27, Try.ntmps27
    go_wp2_with fail
    go_ret2
    exact ⟨by rw [identN_one _ a ha hb (by decide)]; rfl, rfl⟩
  all_goals
    go_enter Try.func27, Try.ntmps27
    go_wp2_with fail
    go_ret2
    exact ⟨by rw [identN_zero _ a ha hb (by decide)]; rfl, rfl⟩

/-! The identities, in plain mathematics. -/
theorem ident_right (op a : Int) (x : Nat) (ha : 1 ≤ a) (hb : a ≤ 64) (h : op = 2 ∨ op = 3 ∨ op = 4 ∨ op = 5 ∨ op = 7 ∨ op = 9 ∨ op = 10 ∨ op = 11 ∨ op = 12 ∨ op = 13 ∨ op = 14) :
    binN op a x (identN op a) = fitN a x := by
  have hf := fitN_lt a x
  have hp := fitN_lt' a x
  have hok : okB op a = true := by simp [okB, isBin]; omega
  unfold binN
  rw [if_pos hok]
  unfold binF
  have hc : isCmp op = false := by simp [isCmp]; omega
  rw [hc]
  have f0 := fitN_zero a
  have f1 := fitN_one a ha
  have fm := fitN_mask a
  have ff := fitN_fitN a x
  have fs := from_sgn a x
  have gs := sgn_fit a x
  have hna : ¬ a ≤ 0 := by omega
  rcases h with rfl | rfl | rfl | rfl | rfl | rfl | rfl | rfl | rfl | rfl | rfl
  · rw [identN_zero _ a ha hb (by decide), f0]
    simp only [plainN, Bool.false_eq_true, if_false, if_true, Nat.add_zero]
    simp [fit_mod, ff]
  · rw [identN_zero _ a ha hb (by decide), f0]
    simp [plainN]
    rw [fit_mod, ff]
  · rw [identN_one _ a ha hb (by decide), f1]
    simp [plainN, fit_mod, ff]
  · rw [identN_one _ a ha hb (by decide), f1]
    simp [plainN, ff]
  · rw [identN_one _ a ha hb (by decide), f1]
    simp only [sdivN, gs]
    by_cases h2 : 2 ≤ a
    · rw [sgn_one a h2]; simp [fs]
    · obtain rfl : a = 1 := by omega
      have hs1 : sgn 1 1 = -1 := by decide
      rw [hs1]
      simp
      have hx1 : fitN 1 x = 0 ∨ fitN 1 x = 1 := by unfold fitN; rw [show (2 : Nat) ^ cw 1 = 2 by decide]; omega
      rcases hx1 with e | e
      · rw [← sgn_fit, e]; decide
      · rw [← sgn_fit, e]; decide
  · rw [identN_nine a ha hb, fm]
    simp [plainN, fit_and, ff]
  · rw [identN_zero _ a ha hb (by decide), f0]
    simp [plainN, ff]
  · rw [identN_zero _ a ha hb (by decide), f0]
    simp [plainN, ff]
  · rw [identN_zero _ a ha hb (by decide), f0]
    simp [shiftN, hna, ff]
  · rw [identN_zero _ a ha hb (by decide), f0]
    simp [shiftN, hna]
  · rw [identN_zero _ a ha hb (by decide), f0]
    simp [shiftN, hna, gs, fs]

/-! The law. -/
set_option maxHeartbeats 4000000 in
theorem law_ok (op a : Int) (x : Nat) (w : World) (hx : x < 18446744073709551616) (ha : 1 ≤ a) (hb : a ≤ 64) (h : op = 2 ∨ op = 3 ∨ op = 4 ∨ op = 5 ∨ op = 7 ∨ op = 9 ∨ op = 10 ∨ op = 11 ∨ op = 12 ∨ op = 13 ∨ op = 14) :
    Calls Try.prog 8 #[.int .i64 op, .int .i64 a, .int .u64 x] w fun e w' => e = .returned (.bool true) ∧ Grown w w' := by
  have hr : rightB a = true := by simp [rightB]; omega
  have H := Lib.hid (ident_right op a x ha hb h)
  have H0 := Lib.hid (show binE op a = 0 by simp [binE, okB, isBin]; omega)
  have hn : identN op a < 18446744073709551616 := by
    have := maskN_lt a
    unfold identN; repeat' split
    all_goals omega
  rcases h with rfl | rfl | rfl | rfl | rfl | rfl | rfl | rfl | rfl | rfl | rfl
  all_goals
    go_enter Try.func8, Try.ntmps8
    go_wp2_with fail
    refine (awake_any _).mono ?_
    rintro e w' ⟨rfl, rfl⟩
    go_wp2_with fail
    refine (identity_ok _ a _ ha hb (by decide)).mono ?_
    rintro e w' ⟨rfl, rfl⟩
    go_wp2_with fail
    refine (right_any a _).mono ?_
    rintro e w' ⟨rfl, rfl⟩
    go_wp2_with fail
    refine (binary_any _ a x _ _ hx hn).mono ?_
    rintro e w' ⟨rfl, rfl⟩
    rw [H.out, H0.out]
    go_wp2_with fail
    refine (fit_any a x _ hx).mono ?_
    rintro e w' ⟨rfl, rfl⟩
    go_wp2_with fail
    go_ret
    exact ⟨by simp, by repeat (first | exact Grown.refl _ | apply Grown.drew | apply Grown.alloc)⟩

set_option maxHeartbeats 4000000 in
theorem law_bad (op a : Int) (x : Nat) (w : World) (h : identB op a = false) :
    Calls Try.prog 8 #[.int .i64 op, .int .i64 a, .int .u64 x] w fun e w' => e = .returned (.bool true) ∧ Grown w w' := by
  by_cases hr : rightB a = true
  · have hr1 : 1 ≤ a ∧ a ≤ 64 := by simpa [rightB] using hr
    have h3 : op < 2 ∨ op = 6 ∨ op = 8 ∨ 14 < op := by
      simp only [identB, Bool.and_eq_false_iff, decide_eq_false_iff_not] at h; omega
    rcases h3 with h3 | rfl | rfl | h3
    all_goals
      have hh := Lib.hid h
      clear h hr1
      go_enter Try.func8, Try.ntmps8
      go_wp2_with fail
      refine (awake_any _).mono ?_
      rintro e w' ⟨rfl, rfl⟩
      go_wp2_with fail
      refine (identity_bad _ a _ hh.out).mono ?_
      rintro e w' ⟨rfl, rfl⟩
      go_wp2_with fail
      go_ret
      exact ⟨rfl, by repeat (first | exact Grown.refl _ | apply Grown.drew | apply Grown.alloc)⟩
  · have hr' : rightB a = false := by simpa using hr
    have hh := Lib.hid h
    have h3 : op < 2 ∨ (2 ≤ op ∧ op ≤ 4) ∨ op = 5 ∨ op = 6 ∨ op = 7 ∨ op = 8 ∨ (9 ≤ op ∧ op ≤ 14) ∨ 14 < op := by omega
    clear h hr
    rcases h3 with h3 | ⟨h3, h4⟩ | rfl | rfl | rfl | rfl | ⟨h3, h4⟩ | h3
    case inl | inr.inr.inr.inl | inr.inr.inr.inr.inr.inl | inr.inr.inr.inr.inr.inr.inr =>
      go_enter Try.func8, Try.ntmps8
      go_wp2_with fail
      refine (awake_any _).mono ?_
      rintro e w' ⟨rfl, rfl⟩
      go_wp2_with fail
      refine (identity_bad _ a _ hh.out).mono ?_
      rintro e w' ⟨rfl, rfl⟩
      go_wp2_with fail
      go_ret
      exact ⟨rfl, by repeat (first | exact Grown.refl _ | apply Grown.drew | apply Grown.alloc)⟩
    all_goals
      go_enter Try.func8, Try.ntmps8
      go_wp2_with fail
      refine (awake_any _).mono ?_
      rintro e w' ⟨rfl, rfl⟩
      go_wp2_with fail
      refine (identity_bad _ a _ hh.out).mono ?_
      rintro e w' ⟨rfl, rfl⟩
      go_wp2_with fail
      refine (right_any a _).mono ?_
      rintro e w' ⟨rfl, rfl⟩
      go_wp2_with fail
      go_ret
      exact ⟨rfl, by repeat (first | exact Grown.refl _ | apply Grown.drew | apply Grown.alloc)⟩

theorem identity_walk (op a : Int) (x : Nat) (w : World) (hx : x < 18446744073709551616) :
    Calls Try.prog 8 #[.int .i64 op, .int .i64 a, .int .u64 x] w fun e w' => e = .returned (.bool true) ∧ Grown w w' := by
  by_cases h : identB op a = true
  · have h1 := h
    simp only [identB, Bool.and_eq_true, decide_eq_true_eq] at h1
    exact law_ok op a x w hx h1.1.1 h1.1.2 h1.2
  · exact law_bad op a x w (by simpa using h)
end Go.Proofs.Ytcehihpjaijllaa
