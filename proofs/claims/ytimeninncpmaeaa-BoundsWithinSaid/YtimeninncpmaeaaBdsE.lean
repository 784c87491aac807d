/- Bounds: the laws of the certificates, of the resources, and of the greatest bound. -/
import Derived.Test.YtimeninncpmaeaaBdsC
namespace Go.Proofs.Ytimeninncpmaeaa.Abs
open Go
set_option linter.unusedVariables false
set_option linter.unusedSimpArgs false
set_option maxHeartbeats 1000000
section
variable {x1 x2 : Int} {x3 : Bool} {l4 l5 : List Quad} {l6 : List (Int × Int)}
/-! Resources. -/
def resOf (l6 : List (Int × Int)) (i : Int) (q : Quad) : Int × Int × Unit × Int := if busyOf i l6 = 0 then (1, 1, (), i) else if maxOf i l6 > shv (busyOf i l6) q.2.2.2 then (4, maxOf i l6, (), i) else (3, shv (busyOf i l6) q.2.2.2, (), i)
def ResR (l5 : List Quad) (l6 : List (Int × Int)) (L : List (Int × Int × Unit × Int)) : Prop := L.length = l5.length ∧ ∀ (i : Nat) q, l5[i]? = some q → L[i]? = some (resOf l6 i q)
theorem share_some {s c : Int} (h : c ≠ 0) : F43 s c = some (shv s c) := by
  unfold F43
  rw [beq_eq_false_iff_ne.2 h]; rfl
theorem snoc_get {α : Type} {L : List α} {y : α} {i : Nat} (h : L.length = i) (j : Nat) : (L ++ [y])[j]? = if j = i then some y else L[j]? := by
  rw [List.getElem?_append]
  split
  · rename_i hj; rw [if_neg (by omega)]
  · rename_i hj
    by_cases e : j = i
    · rw [if_pos e, show j - L.length = 0 by omega]; rfl
    · rw [if_neg e, List.getElem?_eq_none (by simp; omega), List.getElem?_eq_none (by omega)]
theorem res_any (hv : ValidOK x1 x2 true l4 l5 l6) (hf : Few x1 x2 l4 l5 l6) : Yields (ResR l5 l6) (F18 x1 x2 true l4 l5 l6) := by
  obtain ⟨f1, f2, f3, f4, f5⟩ := hf
  have hN := hv.2.2.2.2.2.2
  have hR := hv.2.2.2.2.1
  unfold F18
  refine Yields.bind (valid_prog x1 x2 true l4 l5 l6 (by omega) (by omega) (by omega)) fun r hr => ?_
  rw [hr.2 hv]
  simp only [Bool.not_true, cond_false]
  refine Yields.bind (usage_any x1 x2 true l4 l5 l6 hN f2 f3) fun u hu => ?_
  refine Yields.bind (P := ResR l5 l6) (Yields.loop l5.length (fun (i : Nat) z => z.1 = (i : Int) ∧ z.2.length = i ∧ ∀ (j : Nat) q, j < i → l5[j]? = some q → z.2[j]? = some (resOf l6 j q)) ⟨rfl, rfl, fun j q h => absurd h (by omega)⟩ ?_) fun y hy => Yields.some hy
  rintro i ⟨a, L⟩ hi ⟨h1, h2, h3⟩
  simp only at h1 h2 h3
  subst h1
  unfold F18_s1
  simp only
  refine Yields.bif (fun hc => ?_) fun hc => Yields.some ⟨by have := of_decide_eq_false hc; show L.length = _; omega, fun j q hq => h3 j q (by have := of_decide_eq_false hc; have := (List.getElem?_eq_some_iff.1 hq).1; omega) hq⟩
  have hc := of_decide_eq_true hc
  obtain ⟨q, hq⟩ := some_nat (l := l5) (i := i) (by omega)
  have hq2 := hR q (List.mem_of_getElem? hq)
  have ui := hu.2.2 i (by omega)
  have nx : IntKind.i64.wrap ((i : Int) + 1) = ((i + 1 : Nat) : Int) := wr1 (n := l5.length) (by omega) (by omega)
  have step : ∀ {v : Int × Int × Unit × Int}, v = resOf l6 i q → Yields (Nx i l5.length (fun (i : Nat) (z : Int × List (Int × Int × Unit × Int)) => z.1 = (i : Int) ∧ z.2.length = i ∧ ∀ (j : Nat) q, j < i → l5[j]? = some q → z.2[j]? = some (resOf l6 j q)) (ResR l5 l6)) (bif (!(okApp (L.length + ([v] : List (Int × Int × Unit × Int)).length) 48)) then none else some (.inl ((IntKind.i64.wrap ((i : Int) + 1)), (L ++ ([v] : List (Int × Int × Unit × Int)))))) := by
    intro v e
    rw [ok_app (by simp only [List.length_singleton]; omega) (by simp only [List.length_singleton]; omega)]
    simp only [Bool.not_true, cond_false]
    refine Yields.some ⟨by omega, nx, by simp [h2], fun j q' hj hq' => ?_⟩
    show (L ++ [v])[j]? = _
    rw [snoc_get h2]
    split
    · rename_i ej; subst ej; rw [hq] at hq'; cases hq'; rw [e]
    · exact h3 j q' (by omega) hq'
  refine Yields.bindE (atn hq) (Yields.bindE (D.at_gd (by omega) (by have := hu.1; omega)) (Yields.bindE (share_some (by have := hq2.2.2.1; omega)) ?_))
  rw [show ((i : Int)).toNat = i from rfl, ui.1]
  refine Yields.bif (fun k => ?_) fun k => ?_
  · have k := beq_iff_eq.1 k
    exact step (by unfold resOf; rw [if_pos k])
  · have k := beq_eq_false_iff_ne.1 k
    refine Yields.bindE (D.at_gd (by omega) (by have := hu.2.1; omega)) ?_
    rw [show ((i : Int)).toNat = i from rfl, ui.2]
    refine Yields.bif (fun w => ?_) fun w => ?_
    · have w := of_decide_eq_true w
      exact step (by unfold resOf; rw [if_neg k, if_pos w])
    · have w := of_decide_eq_false w
      exact step (by unfold resOf; rw [if_neg k, if_neg w])
theorem res_acc (hv : ValidOK x1 x2 true l4 l5 l6) (hf : Few x1 x2 l4 l5 l6) {n : Nat} {i : Nat} {q : Quad} (hq : l5[i]? = some q) (h : (resOf l6 i q).2.1 ≤ 256) : AccP l4 l5 l6 n (resOf l6 i q).1 (resOf l6 i q).2.1 [] (i : Int) ∧ (resOf l6 i q).2.2.2 = (i : Int) := by
  have hq2 := hv.2.2.2.2.1 q (List.mem_of_getElem? hq)
  have hi := (List.getElem?_eq_some_iff.1 hq).1
  have bb := busy_bd l5 l6 hv.2.2.2.2.2.2 hf.2.2.1 (i : Int)
  have sp := shv_spec (s := busyOf i l6) (c := q.2.2.2) bb.1 (by omega) hq2.2.2.1 hq2.2.2.2
  unfold resOf at h ⊢
  split
  · exact ⟨⟨show (1 : Int) ≤ 1 by omega, show (1 : Int) ≤ 256 by omega, .inl ⟨rfl, rfl⟩⟩, rfl⟩
  · rename_i k
    rw [if_neg k] at h
    have s1 : 1 ≤ busyOf i l6 := by omega
    split
    · rename_i w
      rw [if_pos w] at h
      have := sp.2.1 s1
      exact ⟨⟨by simp only; omega, h, .inr (.inr (.inr ⟨rfl, by omega, by omega, Int.le_refl _⟩))⟩, rfl⟩
    · rename_i w
      rw [if_neg w] at h
      refine ⟨⟨sp.2.1 s1, h, .inr (.inr (.inl ⟨rfl, by omega, by omega, fun q' hq' => ?_⟩))⟩, rfl⟩
      rw [show ((i : Int)).toNat = i from rfl, hq] at hq'
      cases hq'
      exact sp.2.2.1 s1
/-! The greatest bound. -/
theorem low_loop {Q : Int → Int → Int → List Int → Prop} {L : List (Int × Int × Unit × Int)} (k : L.length ≤ 6) (hL : ∀ y ∈ L, Q y.1 y.2.1 y.2.2.2 []) {a b c : Int} {d : List Int} (h0 : Q a b c d) : Yields (fun r => Q r.1 r.2.1 r.2.2.1 r.2.2.2) (loopO (fun (s : Int × Int × Int × Int × (List Int)) => F21_s1 L s.1 s.2.1 s.2.2.1 s.2.2.2.1 s.2.2.2.2) (0, a, b, c, d)) := by
  refine Yields.loop (z := ((0 : Int), a, b, c, d)) L.length (fun (i : Nat) z => z.1 = (i : Int) ∧ Q z.2.1 z.2.2.1 z.2.2.2.1 z.2.2.2.2) ⟨rfl, h0⟩ ?_
  rintro i ⟨j, a, b, c, d⟩ hi ⟨h1, h2⟩
  simp only at h1 h2
  subst h1
  unfold F21_s1
  simp only
  refine Yields.bif (fun hc => ?_) fun hc => Yields.some h2
  have hc := of_decide_eq_true hc
  have nx : IntKind.i64.wrap ((i : Int) + 1) = ((i + 1 : Nat) : Int) := wr1 (n := L.length) (by omega) (by omega)
  refine Yields.at (by omega) hc fun y hy hm => Yields.bif (fun _ => Yields.some ⟨by omega, nx, hL y hm⟩) fun _ => Yields.some ⟨by omega, nx, h2⟩
theorem low_bad {e : Int} (he : e ≠ 0) (hy : F13 x1 x2 x3 l4 l5 l6 = some (0, 0, [], 0, e)) : F21 x1 x2 x3 l4 l5 l6 = some (0, 0, [], 0, e) := by
  unfold F21
  rw [hy]
  simp only [Option.bind_some]
  rw [show (e != 0) = true from bne_iff_ne.2 he]
  rfl
theorem low_good (hv : ValidOK x1 x2 true l4 l5 l6) (hf : Few x1 x2 l4 l5 l6) {y : Int × Int × List Int × Int × Int} (hy : F13 x1 x2 true l4 l5 l6 = some y) (e0 : y.2.2.2.2 = 0) {Q : Int → Int → Int → List Int → Prop} (h0 : Q y.1 y.2.1 y.2.2.2.1 y.2.2.1)
    (hQ : ∀ (i : Nat) q, l5[i]? = some q → Q (resOf l6 i q).1 (resOf l6 i q).2.1 (resOf l6 i q).2.2.2 []) :
    ∃ L w, F18 x1 x2 true l4 l5 l6 = some L ∧ loopO (fun (s : Int × Int × Int × Int × (List Int)) => F21_s1 L s.1 s.2.1 s.2.2.1 s.2.2.2.1 s.2.2.2.2) (0, y.1, y.2.1, y.2.2.2.1, y.2.2.1) = some w ∧ Q w.1 w.2.1 w.2.2.1 w.2.2.2 ∧ F21 x1 x2 true l4 l5 l6 = some (bif decide (w.2.1 > 256) then (0, 0, [], 0, 14) else (w.1, w.2.1, w.2.2.2, w.2.2.1, 0)) := by
  obtain ⟨L, hL, hLL⟩ := res_any hv hf
  have hmem : ∀ v ∈ L, Q v.1 v.2.1 v.2.2.2 [] := by
    intro v hv'
    obtain ⟨i, hi⟩ := List.mem_iff_getElem?.1 hv'
    obtain ⟨q, hq⟩ := some_nat (l := l5) (i := i) (by have := (List.getElem?_eq_some_iff.1 hi).1; have := hLL.1; omega)
    rw [hLL.2 i q hq] at hi
    cases hi
    exact hQ i q hq
  obtain ⟨w, hw, hww⟩ := low_loop (Q := Q) (L := L) (by have := hLL.1; have := hf.2.1; omega) hmem h0
  refine ⟨L, w, hL, hw, hww, ?_⟩
  unfold F21
  rw [hy]
  simp only [Option.bind_some, e0, bne_self_eq_false, cond_false]
  rw [hL]
  simp only [Option.bind_some]
  rw [hw]
  simp only [Option.bind_some]
  cases decide (w.2.1 > 256) <;> rfl
end
end Go.Proofs.Ytimeninncpmaeaa.Abs
