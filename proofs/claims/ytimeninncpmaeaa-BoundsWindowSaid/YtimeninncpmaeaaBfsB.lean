/- Bounds: the law of the recurrences. -/
import Derived.Test.YtimeninncpmaeaaBfsA
import Derived.Test.YtimeninncpmaeaaBfwG
namespace Go.Proofs.Ytimeninncpmaeaa.Abs
open Go
set_option linter.unusedVariables false
set_option linter.unusedSimpArgs false
set_option maxHeartbeats 1000000
section
variable (x1 x2 : Int) (x3 : Bool) (l4 l5 : List Quad) (l6 : List (Int × Int))
def Dim (n : Nat) : Prop := n ≤ 20 ∧ (n : Int) = x1 + x2 + 2 ∧ F42 x1 x2 x3 l4 l5 l6 = (n : Int) ∧ IntKind.i64.wrap (F26 x1 x2 x3 l4 l5 l6 + 1) = (n : Int) ∧ F48 x1 x2 x3 l4 l5 l6 = x1 + x2 + 1 ∧ F49 x1 x2 x3 l4 l5 l6 = x1 + x2 ∧ F28 x1 x2 x3 l4 l5 l6 = x1 + x2 ∧ F26 x1 x2 x3 l4 l5 l6 = x1 + x2 + 1
def Few : Prop := l4.length ≤ 90 ∧ l5.length ≤ 6 ∧ l6.length ≤ 20 ∧ x1 ≤ 12 ∧ x2 ≤ 6
theorem dim_any (hf : Few x1 x2 l4 l5 l6) (hh : HeadOK x1 x2 l6) : ∃ n, Dim x1 x2 x3 l4 l5 l6 n := dims x1 x2 x3 l4 l5 l6 hh hf.2.2.2.1 hf.2.2.2.2
theorem dist_any (hv : ValidOK x1 x2 x3 l4 l5 l6) : ∀ y ∈ l4, 0 ≤ y.2.2.2 := fun y hy => (hv.2.1 y hy).2.2.2.2.2.2.1
theorem rec_gen (hf : Few x1 x2 l4 l5 l6) : Yields (fun r => (¬ ValidOK x1 x2 x3 l4 l5 l6 ∧ r = (0, 0, [], 0, 3)) ∨ (ValidOK x1 x2 x3 l4 l5 l6 ∧ x3 = false ∧ r = (0, 0, [], 0, 1)) ∨ (ValidOK x1 x2 x3 l4 l5 l6 ∧ x3 = true ∧ ∃ n, Dim x1 x2 x3 l4 l5 l6 n ∧ RecR n l4 r)) (F13 x1 x2 x3 l4 l5 l6) := by
  obtain ⟨f1, f2, f3, f4, f5⟩ := hf
  by_cases hv : ValidOK x1 x2 x3 l4 l5 l6
  · cases h3 : x3
    · subst h3
      unfold F13
      refine Yields.bind (valid_prog x1 x2 false l4 l5 l6 (by omega) (by omega) (by omega)) fun r hr => ?_
      rw [hr.2 hv]
      exact Yields.some (.inr (.inl ⟨hv, rfl, rfl⟩))
    · obtain ⟨n, hn⟩ := dim_any x1 x2 x3 l4 l5 l6 ⟨f1, f2, f3, f4, f5⟩ hv.1
      subst h3
      exact (rec_any x1 x2 true l4 l5 l6 hn.1 f1 hv rfl f2 f3 hn.2.2.1).mono fun r hr => .inr (.inr ⟨hv, rfl, n, hn, hr⟩)
  · unfold F13
    refine Yields.bind (valid_prog x1 x2 x3 l4 l5 l6 (by omega) (by omega) (by omega)) fun r hr => ?_
    have : r = false := by
      cases r
      · rfl
      · exact absurd (hr.1 rfl) hv
    rw [this]
    exact Yields.some (.inl ⟨hv, rfl⟩)
end
end Go.Proofs.Ytimeninncpmaeaa.Abs
