/- ExploreBest. -/
import Derived.Test.YtofnegejldgdbaaEbM
namespace Go.Proofs.Ytofnegejldgdbaa.Abs
open Go
set_option linter.unusedVariables false
set_option linter.unusedSimpArgs false
set_option maxHeartbeats 1000000
theorem exbest_eq (l : List Pt) (a b : Int) : F8 l a b = some true := by
  apply Yields.eq
  unfold F8
  refine Yields.bif (fun _ => Yields.some rfl) fun q => ?_
  have q := of_decide_eq_false q
  refine Yields.bind (best_any l a b (by omega)) fun r hr => Yields.bind (best_ref l a b (by omega)) fun k hk => Yields.bif (fun n => ?_) fun n => ?_
  · have n := of_decide_eq_true n
    rcases hk with ⟨_, hk⟩ | ⟨hk, _⟩
    · rcases hr with ⟨rfl, _⟩ | ⟨_, hl⟩
      · exact Yields.some rfl
      · exact absurd hl.2.1 (hk _ hl.1)
    · omega
  have n := of_decide_eq_false n
  rcases hk with ⟨hk, _⟩ | ⟨hk, m, hm, hL⟩
  · omega
  rcases hr with ⟨_, hr⟩ | ⟨hf, hl⟩
  · exact absurd hL.2.1 (hr _ hL.1)
  have em := hl.eq hL
  obtain ⟨r1, r2, r3, r4, r5⟩ := r
  simp only at hf em hl
  subst hf
  subst em
  refine Yields.bind (pareto_any l (by omega)) fun R hR => ?_
  obtain ⟨S, pS, sS, hF⟩ := hR
  have rS : R.length ≤ 1000 := by have := hF.1.length_le; rw [pS.length_eq] at this; omega
  refine Yields.bind (best_any R a b rS) fun w hw => ?_
  simp only [cond_true]
  refine Yields.bindE (atI hk hm) ?_
  have e1 : F8__1 (r1, r2, r3, r4, true) (r1, r2, r3, r4) = true := by unfold F8__1; simp
  rw [e1, cond_true]
  have mS : ((r1, r2, r3, r4) : Pt) ∈ S := pS.mem_iff.2 hL.1
  obtain ⟨c, hc, hv⟩ := hF.2.1 _ mS
  have hcl : c ∈ l := pS.mem_iff.1 (hF.1.subset hc)
  have limc : Lim a b c := by
    have := hL.2.1
    unfold Lim at *; unfold Cov at hv; simp only at *; omega
  rcases hw with ⟨_, hw⟩ | ⟨hwf, hwl⟩
  · exact absurd limc (hw c hc)
  obtain ⟨w1, w2, w3, w4, w5⟩ := w
  simp only at hwf hwl
  subst hwf
  have wl : ((w1, w2, w3, w4) : Pt) ∈ l := pS.mem_iff.1 (hF.1.subset hwl.1)
  have t1 := Bt.two (hL.2.2 c hcl limc)
  have t2 := Bt.two (hL.2.2 _ wl hwl.2.1)
  have t3 := Bt.two (hwl.2.2 c hc limc)
  unfold Cov at hv
  simp only at t1 t2 t3 hv
  simp only [cond_true]
  rw [show (w2 == r2) = true from beq_iff_eq.2 (by omega), cond_true, show (w4 == r4) = true from beq_iff_eq.2 (by omega)]
  exact Yields.some rfl
theorem exbest : Law Try.prog 8 10 [61, 3, 3] := F8_law (fun l a b _ _ _ _ => exbest_eq l a b)
end Go.Proofs.Ytofnegejldgdbaa.Abs
