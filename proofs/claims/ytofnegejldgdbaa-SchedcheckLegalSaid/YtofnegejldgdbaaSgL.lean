/- SchedcheckLegal. -/
import Derived.Test.YtofnegejldgdbaaScK
namespace Go.Proofs.Ytofnegejldgdbaa.Abs
open Go
set_option linter.unusedVariables false
set_option linter.unusedSimpArgs false
set_option maxHeartbeats 1000000
section
variable (x1 x2 : Int) (x3 : Bool) (l4 l5 : List Quad) (l6 : List (Int × Int)) (x7 x8 : Int) (l9 l10 l11 : List Int)
theorem legal_eq (k4 : l4.length ≤ maxLen) (k6 : l6.length ≤ maxLen) : F4 x1 x2 x3 l4 l5 l6 x7 x8 l9 l10 l11 = some true := by
  apply Yields.eq
  unfold F4
  refine Yields.bind (few_any x1 x2 x3 l4 l5 l6 x7 x8 l9 l10 l11 k4 k6) fun r hr => Yields.bif (fun _ => Yields.some rfl) fun q => ?_
  obtain ⟨_, _, s4, s5, s6, s9, s10, s11⟩ := hr (by simpa using q)
  have chk := check_any x1 x2 x3 l4 l5 l6 x7 x8 l9 l10 l11 (by omega) (by omega) (by omega) (by omega) (by omega)
  have fit := fits_prog x1 x2 x3 l4 l5 l6 x7 x8 l9 l10 l11 (by omega) (by omega) (by omega) (by omega) (by omega)
  refine Yields.bind (fit_ref x1 x2 x3 l4 l5 l6 x7 x8 l9 l10 l11 (by omega) (by omega) (by omega) (by omega) (by omega)) fun f hf => Yields.bif (fun q => ?_) fun q => ?_
  · have no : ¬ (ValidOK x1 x2 x3 l4 l5 l6 ∧ FitOK x1 x2 x3 l5 l6 x7 x8 l9 l10 l11) := fun h => by rw [hf.2 h] at q; cases q
    refine Yields.bind chk fun e he => ?_
    obtain rfl := he.1 no
    refine Yields.bind fit fun b hb => Yields.some ?_
    have : b = false := Bool.eq_false_iff.2 fun h => no (hb.1 h)
    rw [this]; rfl
  have hvf := hf.1 (by simpa using q)
  refine Yields.bind (legal_ref x1 x2 x3 l4 l5 l6 x7 x8 l9 l10 l11 hvf.1 hvf.2 (by omega) (by omega) (by omega) (by omega)) fun r hr => Yields.bif (fun w => Yields.bind chk fun e he => ?_) fun w => Yields.bind chk fun e he => ?_
  · have no : ¬ LegalP x1 x2 x3 l4 l6 x7 x8 l9 l10 l11 := fun h => by rw [hr.2 h] at w; cases w
    obtain rfl := (he.2 hvf).2 no
    exact Yields.bind fit fun b hb => Yields.some (by rw [hb.2 hvf]; rfl)
  · obtain rfl := (he.2 hvf).1 (hr.1 (by simpa using w))
    exact Yields.bind fit fun b hb => Yields.some (by rw [hb.2 hvf]; rfl)
end
theorem legal : Law Try.prog 4 10 [26, 29] := F4_law (fun x1 x2 x3 l4 l5 l6 x7 x8 l9 l10 l11 _ _ h4 _ _ _ h6 _ _ _ _ _ _ _ _ _ => legal_eq x1 x2 x3 l4 l5 l6 x7 x8 l9 l10 l11 h4.1 h6.1)
end Go.Proofs.Ytofnegejldgdbaa.Abs
