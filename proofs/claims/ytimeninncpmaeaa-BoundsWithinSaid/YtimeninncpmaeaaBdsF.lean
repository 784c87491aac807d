/- Bounds: the law of the depth. -/
import Derived.Test.YtimeninncpmaeaaBdsC
namespace Go.Proofs.Ytimeninncpmaeaa.Abs
open Go
set_option linter.unusedVariables false
set_option linter.unusedSimpArgs false
set_option maxHeartbeats 1000000
section
variable {x1 x2 : Int} {x3 : Bool} {l4 l5 : List Quad} {l6 : List (Int × Int)}
def shr (l5 : List Quad) (l6 : List (Int × Int)) (i : Nat) : Int := shv (busyOf (i : Int) l6) ((l5[i]?).getD (0, 0, 0, 1)).2.2.2
def depF (l5 : List Quad) (l6 : List (Int × Int)) (m0 : Int) : Nat → Int
  | 0 => m0
  | i + 1 => if shr l5 l6 i > depF l5 l6 m0 i then shr l5 l6 i else depF l5 l6 m0 i
theorem depF_succ (m0 : Int) (i : Nat) : depF l5 l6 m0 (i + 1) = if shr l5 l6 i > depF l5 l6 m0 i then shr l5 l6 i else depF l5 l6 m0 i := rfl
theorem depF_ge (m0 : Int) : ∀ i, m0 ≤ depF l5 l6 m0 i
  | 0 => Int.le_refl _
  | i + 1 => by
    have := depF_ge m0 i
    rw [depF_succ]
    split <;> omega
theorem depF_le {m0 B : Int} (h0 : m0 ≤ B) (h : ∀ i, i < l5.length → shr l5 l6 i ≤ B) : ∀ i, i ≤ l5.length → depF l5 l6 m0 i ≤ B
  | 0, _ => h0
  | i + 1, hi => by
    have := depF_le h0 h i (by omega)
    have := h i (by omega)
    rw [depF_succ]
    split <;> omega
theorem share_some' {s c : Int} (h : c ≠ 0) : F43 s c = some (shv s c) := by
  unfold F43
  rw [beq_eq_false_iff_ne.2 h]; rfl
theorem dep_prog (hv : ValidOK x1 x2 x3 l4 l5 l6) (hf : Few x1 x2 l4 l5 l6) {u : List Int × List Int} (hu : UsR l5 l6 u) (m0 : Int) : loopO (fun (s : Int × Int) => F23_s1 l5 u s.1 s.2) (m0, 0) = some (depF l5 l6 m0 l5.length) := by
  apply Yields.eq
  refine Yields.loop (z := (m0, (0 : Int))) l5.length (fun (i : Nat) z => z.2 = (i : Int) ∧ z.1 = depF l5 l6 m0 i) ⟨rfl, rfl⟩ ?_
  rintro i ⟨a, b⟩ hi ⟨h1, h2⟩
  simp only at h1 h2
  subst h1 h2
  unfold F23_s1
  simp only
  refine Yields.bif (fun hc => ?_) fun hc => Yields.some ?_
  · have hc := of_decide_eq_true hc
    obtain ⟨q, hq⟩ := some_nat (l := l5) (i := i) (by omega)
    have hq2 := hv.2.2.2.2.1 q (List.mem_of_getElem? hq)
    have ui := hu.2.2 i (by omega)
    have nx : IntKind.i64.wrap ((i : Int) + 1) = ((i + 1 : Nat) : Int) := wr1 (n := l5.length) (by omega) (by have := hf.2.1; omega)
    refine Yields.bindE (atn hq) (Yields.bindE (D.at_gd (by omega) (by have := hu.1; omega)) (Yields.bindE (share_some' (by have := hq2.2.2.1; omega)) (Yields.some ⟨by omega, nx, ?_⟩)))
    rw [show ((i : Int)).toNat = i from rfl, ui.1]
    have e : shr l5 l6 i = shv (busyOf i l6) q.2.2.2 := by unfold shr; rw [hq]; rfl
    show _ = depF l5 l6 m0 (i + 1)
    rw [depF_succ, e]
  · have hc := of_decide_eq_false hc
    have : i = l5.length := by omega
    show depF l5 l6 m0 i = _
    rw [this]
/-- What Depth comes to. -/
def DepR (n : Nat) (l4 l5 : List Quad) (l6 : List (Int × Int)) (r : Int × Int) : Prop := (¬ Feas n l4 0 ∧ r = (0, 14)) ∨ (∃ st, D.Least n (D.lks n 0 l4) (fun _ => 0) st ∧ r = (depF l5 l6 (if D.gd st (n - 1) > 1 then D.gd st (n - 1) else 1) l5.length, 0))
theorem dep_any (hv : ValidOK x1 x2 false l4 l5 l6) (hf : Few x1 x2 l4 l5 l6) {n : Nat} (hd : Dim x1 x2 false l4 l5 l6 n) : Yields (DepR n l4 l5 l6) (F23 x1 x2 false l4 l5 l6) := by
  obtain ⟨f1, f2, f3, f4, f5⟩ := id hf
  have hh := hv.1
  unfold F23
  refine Yields.bind (valid_prog x1 x2 false l4 l5 l6 (by omega) (by omega) (by omega)) fun r hr => ?_
  rw [hr.2 hv]
  simp only [Bool.not_true, cond_false]
  rw [hd.2.2.1, hd.2.2.2.2.1]
  refine Yields.bind (earl_any hd.1 f1 0) fun y hy => ?_
  rcases hy with ⟨h1, h2⟩ | ⟨h1, h2, h3⟩
  · rw [h1]
    simp only [List.isEmpty_nil, Bool.not_true, cond_false]
    have hN := hd.2.1
    have hlen := h2.1
    refine Yields.bindE (D.at_gd (by have := hh.1; have := hh.2.2.1; omega) (by omega)) (Yields.bind (usage_any x1 x2 false l4 l5 l6 hv.2.2.2.2.2.2 f2 f3) fun u hu => ?_)
    rw [show (x1 + x2 + 1).toNat = n - 1 by omega]
    exact Yields.bindE (dep_prog hv hf hu _) (Yields.some (.inr ⟨y.1, h2, rfl⟩))
  · rw [ne_isEmpty (pos_ne h2)]
    exact Yields.some (.inl ⟨h3, rfl⟩)
end
end Go.Proofs.Ytimeninncpmaeaa.Abs
