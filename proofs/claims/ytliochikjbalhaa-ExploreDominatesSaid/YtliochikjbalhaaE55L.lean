/- What Dominates says of its integers. -/
import Derived.Test.YtliochikjbalhaaE55
namespace Go.Proofs.Ytliochikjbalhaa.Abs
open Go
theorem F20_iff (a b c d e f g i : Int) : F20 a b c d e f g i = true ↔ (b ≤ f ∧ c ≤ g ∧ d ≤ i ∧ (b < f ∨ c < g ∨ d < i)) := by
  unfold F20; simp only [Bool.cond_eq_ite]; (repeat' split) <;> simp_all <;> omega
theorem F21_iff (a b c d e f g i : Int) : F21 a b c d e f g i = true ↔ (b ≤ f ∧ c ≤ g ∧ d ≤ i ∧ (b < f ∨ c < g ∨ d < i)) := by
  unfold F21 F29 F30; simp only [Bool.cond_eq_ite]; (repeat' split) <;> simp_all <;> omega
theorem F5_true (x0 x1 x2 x3 x4 x5 x6 x7 x8 x9 x10 x11 : Int) : F5 x0 x1 x2 x3 x4 x5 x6 x7 x8 x9 x10 x11 = true := by
  have e : F20 x0 x1 x2 x3 x4 x5 x6 x7 = F21 x0 x1 x2 x3 x4 x5 x6 x7 := Bool.eq_iff_iff.2 (by rw [F20_iff, F21_iff])
  have n : F20 x0 x1 x2 x3 x0 x1 x2 x3 = false := by rw [← Bool.not_eq_true, F20_iff]; omega
  unfold F5
  rw [← e, n]
  cases h1 : F20 x0 x1 x2 x3 x4 x5 x6 x7
  · simp
  · cases h2 : F20 x4 x5 x6 x7 x8 x9 x10 x11
    · simp
    · have : F20 x0 x1 x2 x3 x8 x9 x10 x11 = true := by rw [F20_iff] at *; omega
      simp [this]
theorem explore_law : Law Try.prog 5 8 [41, 41, 41] := F5_law fun _ _ _ _ _ _ _ _ _ _ _ _ _ _ _ _ _ _ _ _ _ _ _ _ => F5_true ..
end Go.Proofs.Ytliochikjbalhaa.Abs
