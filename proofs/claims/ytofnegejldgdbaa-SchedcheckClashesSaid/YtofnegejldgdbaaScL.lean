/- SchedcheckClashes. -/
import Derived.Test.YtofnegejldgdbaaScK
namespace Go.Proofs.Ytofnegejldgdbaa.Abs
open Go
set_option linter.unusedVariables false
set_option linter.unusedSimpArgs false
set_option maxHeartbeats 1000000
section
variable (x1 x2 : Int) (x3 : Bool) (l4 l5 : List Quad) (l6 : List (Int × Int)) (x7 x8 : Int) (l9 l10 l11 : List Int)
theorem clashes_eq (k4 : l4.length ≤ maxLen) (k6 : l6.length ≤ maxLen) : F5 x1 x2 x3 l4 l5 l6 x7 x8 l9 l10 l11 = some true := by
  apply Yields.eq
  unfold F5
  refine Yields.bind (few_any x1 x2 x3 l4 l5 l6 x7 x8 l9 l10 l11 k4 k6) fun r hr => Yields.bif (fun _ => Yields.some rfl) fun q => ?_
  obtain ⟨_, _, s4, s5, s6, s9, s10, s11⟩ := hr (by simpa using q)
  refine Yields.bind (clashes_any x1 x2 x3 l4 l5 l6 x7 x8 l9 l10 l11 (by omega) (by omega) (by omega) (by omega) (by omega)) fun L hL => Yields.bind (fit_ref x1 x2 x3 l4 l5 l6 x7 x8 l9 l10 l11 (by omega) (by omega) (by omega) (by omega) (by omega)) fun f hf => Yields.bif (fun q => Yields.some ?_) fun q => ?_
  · have no : ¬ (ValidOK x1 x2 x3 l4 l5 l6 ∧ FitOK x1 x2 x3 l5 l6 x7 x8 l9 l10 l11) := fun h => by rw [hf.2 h] at q; cases q
    rw [hL.2 no]; rfl
  obtain ⟨hv, hfit⟩ := hf.1 (by simpa using q)
  have hl : (l6.length : Int) = x1 := hv.1.2.2.2.2
  refine Yields.bind (clashes_ref x1 x2 x3 l4 l5 l6 x7 x8 l9 l10 l11 hv.2.2.2.2.2.2 hfit.2.2.2.2.2.2.2.2.1 ⟨hfit.2.2.2.1, hfit.2.2.2.2.1⟩ hl (by omega) (by have := hfit.1; omega) (by have := hfit.2.1; omega)) fun L' hL' => ?_
  obtain rfl := IsCl.eq l6 x7 l9 l11 (hL.1 ⟨hv, hfit⟩) hL'
  rw [bne_self_eq_false, cond_false]
  refine Yields.bind (P := fun t => t = 1) (Yields.loop L.length (fun (i : Nat) z => z = (i : Int)) rfl ?_) (by rintro t rfl; exact Yields.some rfl)
  rintro i z hi rfl
  unfold F5_s1
  refine Yields.bif (fun hc => ?_) fun _ => Yields.some rfl
  have hc := of_decide_eq_true hc
  obtain ⟨y, hy⟩ := some_nat (l := L) (i := i) (by omega)
  refine Yields.bindE (atn hy) (Yields.bindE (atn hy) ?_)
  rw [beq_self_eq_true, beq_self_eq_true]
  simp only [Bool.and_true, Bool.not_true, cond_false]
  refine Yields.some ⟨by omega, ?_⟩
  have hlen := IsCl.len l6 x7 l9 l11 hL' (by omega)
  exact wr1 (n := L.length) (by omega) (by omega)
end
theorem clashes : Law Try.prog 5 10 [26, 29] := F5_law (fun x1 x2 x3 l4 l5 l6 x7 x8 l9 l10 l11 _ _ h4 _ _ _ h6 _ _ _ _ _ _ _ _ _ => clashes_eq x1 x2 x3 l4 l5 l6 x7 x8 l9 l10 l11 h4.1 h6.1)
end Go.Proofs.Ytofnegejldgdbaa.Abs
