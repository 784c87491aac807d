/- Start times satisfy all arcs, and later bounds start nothing earlier. -/
import Derived.Test.YtimeninncpmaeaaBfqL
namespace Go.Proofs.Ytimeninncpmaeaa.Abs
namespace D
open Go
set_option linter.unusedVariables false
set_option linter.unusedSimpArgs false

theorem ref_bound (l : List Int) (v : Nat) : F52 l (v : Int) = some (bndI l v) := by
  apply Yields.eq
  unfold F52 bndI
  refine Yields.bif (fun hc => ?_) (fun hc => ?_)
  · have hc := of_decide_eq_true hc
    rw [if_pos (by omega)]; exact Yields.some rfl
  · have hc := of_decide_eq_false hc
    rw [if_neg (by omega)]
    refine Yields.bindE (at_gd (by omega) (by omega)) (Yields.some ?_)
    exact lim11 _

theorem bound_max (a b : List Int) (n v : Nat) (hv : v < n) : bndI ((List.range n).map fun v => if bndI b v > bndI a v then bndI b v else bndI a v) v = if bndI b v > bndI a v then bndI b v else bndI a v := by
  unfold bndI
  rw [if_neg (by simp; omega), gd_map hv]
  have h1 := bndI_bd a v
  have h2 := bndI_bd b v
  unfold bndI at h1 h2
  generalize (if a.length ≤ v then (0 : Int) else F68 (gd a v) 1073741824) = p at *
  generalize (if b.length ≤ v then (0 : Int) else F68 (gd b v) 1073741824) = q at *
  rw [limit_eq _ _ (by omega) (by omega)]
  repeat' split <;> omega

end D
end Go.Proofs.Ytimeninncpmaeaa.Abs
