/- SchedcheckArcs. -/
import Derived.Test.YtofnegejldgdbaaSkT
namespace Go.Proofs.Ytofnegejldgdbaa.Abs
open Go
set_option linter.unusedVariables false
set_option linter.unusedSimpArgs false
set_option maxHeartbeats 1000000
section
variable (x1 x2 : Int) (x3 : Bool) (l4 l5 : List Quad) (l6 : List (Int × Int)) (x7 x8 : Int) (l9 l10 l11 : List Int)
theorem arcs_eq (k4 : l4.length ≤ maxLen) (k6 : l6.length ≤ maxLen) : F3 x1 x2 x3 l4 l5 l6 x7 x8 l9 l10 l11 = some true := by
  apply Yields.eq
  unfold F3
  refine Yields.bind (few_any x1 x2 x3 l4 l5 l6 x7 x8 l9 l10 l11 k4 k6) fun r hr => Yields.bif (fun _ => Yields.some rfl) fun q => ?_
  obtain ⟨_, _, s4, s5, s6, s9, s10, s11⟩ := hr (by simpa using q)
  refine Yields.bind (times_any x1 x2 x3 l4 l5 l6 x7 x8 l9 l10 l11 (by omega) (by omega) (by omega) (by omega) (by omega)) fun T hT => Yields.bind (late_any x1 x2 x3 l4 l5 l6 x7 x8 l9 l10 l11 (by omega) (by omega) (by omega) (by omega) (by omega)) fun A hA => Yields.bind (slack_any x1 x2 x3 l4 l5 l6 x7 x8 l9 l10 l11 (by omega) (by omega) (by omega) (by omega) (by omega)) fun S hS => Yields.bind (fit_ref x1 x2 x3 l4 l5 l6 x7 x8 l9 l10 l11 (by omega) (by omega) (by omega) (by omega) (by omega)) fun f hf => Yields.bif (fun q => Yields.some ?_) fun q => ?_
  · have no : ¬ (ValidOK x1 x2 x3 l4 l5 l6 ∧ FitOK x1 x2 x3 l5 l6 x7 x8 l9 l10 l11) := fun h => by rw [hf.2 h] at q; cases q
    rw [hT.2 no, hA.2 no, hS.2 no]; rfl
  obtain ⟨hv, hfit⟩ := hf.1 (by simpa using q)
  obtain rfl := hT.1 ⟨hv, hfit⟩
  obtain rfl := hA.1 ⟨hv, hfit⟩
  obtain rfl := hS.1 ⟨hv, hfit⟩
  obtain ⟨h1, h2, h3, h4, _⟩ := hv.1
  have f7 := hfit.2.2.2.1; have f8 := hfit.2.2.2.2.1
  have tl : ((timesL x1 x2 x8 l9 l10).length : Int) = x1 + x2 + 2 := by unfold timesL; rw [List.length_map, List.length_range]; omega
  have tg : ∀ v : Int, 0 ≤ v → v < x1 + x2 + 2 → (timesL x1 x2 x8 l9 l10)[v.toNat]? = some (tm x1 x2 x8 l9 l10 v) := by
    intro v v0 v1
    unfold timesL
    rw [List.getElem?_map, List.getElem?_range (by omega), Option.map_some, show ((v.toNat : Nat) : Int) = v by omega]
  have e15 : F15 x1 x2 x3 l4 l5 l6 = x1 + x2 + 1 := by unfold F15; rw [wr (x := x1 + x2), wr] <;> omega
  rw [e15, wr (x := x1 + x2 + 1 + 1) (by omega) (by omega), tl, List.length_map]
  rw [show (x1 + x2 + 2 != x1 + x2 + 1 + 1) = false from bne_eq_false_iff_eq.2 (by omega), bne_self_eq_false, cond_false, cond_false]
  refine Yields.bindE (late_ref x1 x2 x3 l4 l5 l6 x7 x8 l9 l10 l11 hv hfit (by omega)) (Yields.bindE (same_self _ (by have := idxs_len (fun i => decide ((((l4.map (slk x1 x2 x7 x8 l9 l10))[i]?).getD 0) < 0)) l4.length; unfold lateL; omega)) ?_)
  rw [Bool.not_true, cond_false]
  refine Yields.bind (P := fun t => t = 1) (Yields.loop (timesL x1 x2 x8 l9 l10).length (fun (i : Nat) z => z = (i : Int)) rfl ?_) ?_
  · rintro i z hi rfl
    unfold F3_s1
    refine Yields.bif (fun hc => ?_) fun _ => Yields.some rfl
    have hc := of_decide_eq_true hc
    refine Yields.bindE (atI (by omega) (tg (i : Int) (by omega) (by omega))) (Yields.bindE (time_eq x1 x2 x3 l4 l5 l6 x7 x8 l9 l10 l11 hv.1 hfit (by omega) (by omega)) ?_)
    rw [bne_self_eq_false, cond_false]
    exact Yields.some ⟨by omega, wr1 (n := (timesL x1 x2 x8 l9 l10).length) (by omega) (by omega)⟩
  rintro t rfl
  simp only [show Nat.beq 1 0 = false from rfl, cond_false]
  refine Yields.bind (P := fun t => t = 1) (Yields.loop l4.length (fun (i : Nat) z => z = (i : Int)) rfl ?_) (by rintro t rfl; exact Yields.some rfl)
  rintro i z hi rfl
  unfold F3_s2
  refine Yields.bif (fun hc => ?_) fun _ => Yields.some rfl
  have hc := of_decide_eq_true hc
  obtain ⟨a, ha⟩ := some_nat (l := l4) (i := i) (by omega)
  obtain ⟨a1, a2, a3, a4, a5, a6, a7, a8, a9⟩ := hv.2.1 a (List.mem_of_getElem? ha)
  have eg : (l4.map (slk x1 x2 x7 x8 l9 l10))[i]? = some (slk x1 x2 x7 x8 l9 l10 a) := by rw [List.getElem?_map, ha]; rfl
  refine Yields.bindE (atn ha) (Yields.bindE (atn eg) (Yields.bindE (atI a3 (tg _ a3 a4)) (Yields.bindE (atI a1 (tg _ a1 (by omega))) ?_)))
  have b1 := tm_bd x1 x2 x3 l5 l6 x7 x8 l9 l10 l11 hv.1 hfit a1
  have b3 := tm_bd x1 x2 x3 l5 l6 x7 x8 l9 l10 l11 hv.1 hfit a3
  have mb := mul_bd f7 f8 a7 a8
  have e : F3__2 x7 a (tm x1 x2 x8 l9 l10 a.2.1) (tm x1 x2 x8 l9 l10 a.1) = slk x1 x2 x7 x8 l9 l10 a := by
    unfold F3__2 F19 slk
    rw [wr (x := x7 * a.2.2.2) (by omega) (by omega), wr (x := a.2.2.1 - x7 * a.2.2.2) (by omega) (by omega), wr (x := tm x1 x2 x8 l9 l10 a.2.1 - tm x1 x2 x8 l9 l10 a.1) (by omega) (by omega), wr (by omega) (by omega)]
  rw [e, bne_self_eq_false, cond_false]
  exact Yields.some ⟨by omega, wr1 (n := l4.length) (by omega) (by omega)⟩
end
theorem arcs : Law Try.prog 3 10 [26, 29] := F3_law (fun x1 x2 x3 l4 l5 l6 x7 x8 l9 l10 l11 _ _ h4 _ _ _ h6 _ _ _ _ _ _ _ _ _ => arcs_eq x1 x2 x3 l4 l5 l6 x7 x8 l9 l10 l11 h4.1 h6.1)
end Go.Proofs.Ytofnegejldgdbaa.Abs
