/- Two laws of difference constraints: Latest is After turned round; greater intervals start nothing later. -/
import Derived.Test.YtimeninncpmaeaaBfqC
namespace Go.Proofs.Ytimeninncpmaeaa.Abs
namespace D
open Go
set_option linter.unusedVariables false
set_option linter.unusedSimpArgs false

theorem list_gd {l : List Int} {n : Nat} {f : Nat → Int} (h : l.length = n) (hf : ∀ v, v < n → gd l v = f v) : l = (List.range n).map f := by
  apply List.ext_getElem?
  intro i
  rw [List.getElem?_map]
  by_cases hi : i < n
  · rw [gd_some (by omega), List.getElem?_range hi, hf i hi]; rfl
  · rw [List.getElem?_eq_none (by omega), List.getElem?_eq_none (by simp; omega)]; rfl
theorem gd_map {n v : Nat} {f : Nat → Int} (h : v < n) : gd ((List.range n).map f) v = f v := by
  apply gd_eq; rw [List.getElem?_map, List.getElem?_range h]; rfl
def bndI (l : List Int) (v : Nat) : Int := if l.length ≤ v then 0 else F68 (gd l v) 1073741824
theorem bound_ok (l : List Int) (v : Nat) : F64 l v = some (bndI l v) := by
  apply Yields.eq
  unfold F64 bndI
  refine Yields.bif (fun hc => ?_) (fun hc => ?_)
  · have hc := of_decide_eq_true hc
    rw [if_pos (by omega)]; exact Yields.some rfl
  · have hc := of_decide_eq_false hc
    rw [if_neg (by omega)]
    refine Yields.bindE (at_gd (by omega) (by omega)) (Yields.some rfl)
theorem bndI_bd (l : List Int) (v : Nat) : -1073741824 ≤ bndI l v ∧ bndI l v ≤ 1073741824 := by
  unfold bndI
  have := limit_bd (gd l v) 1073741824 (by omega) (by omega)
  split <;> omega
def sts (l : List Int) (n : Nat) : List Int := (List.range n).map (bndI l)
theorem sts_bd (l : List Int) (n : Nat) : ∀ v, v < (sts l n).length → -1073741824 ≤ gd (sts l n) v ∧ gd (sts l n) v ≤ 1073741824 := by
  intro v hv
  have hv : v < n := by simpa [sts] using hv
  unfold sts; rw [gd_map hv]; exact bndI_bd l v
theorem sts_len (l : List Int) (n : Nat) : (sts l n).length = n := by simp [sts]

/-- A list that is filled from the front. -/
theorem fill_ok (n : Nat) (hn : n ≤ 1000) (f : Nat → Int) (step : Int × List Int → Option ((Int × List Int) ⊕ List Int)) (l0 : List Int) (h0 : l0.length = n)
    (h1 : ∀ (i : Nat) m, i < n → m.length = n → gd m i = gd l0 i → step ((i : Int), m) = some (.inl (((i + 1 : Nat) : Int), setI m (i : Int) (f i)))) (h2 : ∀ m, m.length = n → step ((n : Int), m) = some (.inr m)) :
    loopO step (0, l0) = some ((List.range n).map f) := by
  apply Yields.eq
  refine Yields.loop n (fun (i : Nat) z => z.1 = (i : Int) ∧ z.2.length = n ∧ (∀ v, v < i → gd z.2 v = f v) ∧ (∀ v, i ≤ v → gd z.2 v = gd l0 v)) ⟨rfl, h0, fun v h => absurd h (by omega), fun _ _ => rfl⟩ ?_
  rintro i ⟨a, m⟩ hi ⟨e1, e2, e3, e4⟩
  simp only at e1 e2 e3 e4
  subst e1
  by_cases h : i < n
  · rw [h1 i m h e2 (e4 i (Nat.le_refl _))]
    refine Yields.some ⟨h, rfl, by simp only [len_set]; exact e2, ?_, ?_⟩
    · intro v hv
      simp only
      rw [gd_set (by omega) (by omega)]
      by_cases hvi : v = i
      · rw [if_pos (by omega), hvi]
      · rw [if_neg (by omega)]; exact e3 v (by omega)
    · intro v hv
      simp only
      rw [gd_set (by omega) (by omega), if_neg (by omega)]
      exact e4 v (by omega)
  · have : i = n := by omega
    subst this
    rw [h2 m e2]
    exact Yields.some (list_gd e2 e3)
theorem wrap_n {i : Nat} (h : i ≤ 1000) : IntKind.i64.wrap ((i : Int) + 1) = ((i + 1 : Nat) : Int) := by rw [wrap_i64] <;> omega

theorem after_ok {n : Nat} (hn : n ≤ 20) {x1 ii : Int} (e : F57 x1 = (n : Int)) {l2 : List Ed} (hm : l2.length ≤ 90) (l4 : List Int) {r : List Int × List Int} (hr : F65 (sts l4 n) (eds n ii false l2 l2.length) = some r) :
    F62 x1 l2 ii l4 = some (bif r.1.isEmpty then (r.2, []) else ([], r.1)) := by
  apply Yields.eq
  unfold F62
  rw [e, edges_ok _ _ _ _ (by omega)]
  refine Yields.bindE rfl (Yields.bif (fun hc => ?_) (fun hc => ?_))
  · rw [ok_len (by omega) (by omega)] at hc; cases hc
  refine Yields.bindE (y := sts l4 n) (fill_ok n (by omega) (bndI l4) _ _ (by simp) ?_ ?_) ?_
  · intro i m hi hmm _
    simp only
    unfold F62_s1
    rw [e, decide_eq_true (by simp; omega), cond_true, bound_ok, at_gd (by omega) (by omega), wrap_n (by omega)]
    rfl
  · intro m hmm
    simp only
    unfold F62_s1
    rw [e, decide_eq_false (by simp), cond_false]
  refine Yields.bindE hr ?_
  cases h : r.1.isEmpty
  · exact Yields.some rfl
  · exact Yields.some rfl
theorem latest_ok {n : Nat} (hn : n ≤ 20) {x1 ii : Int} (e : F57 x1 = (n : Int)) {l2 : List Ed} (hm : l2.length ≤ 90) (l4 : List Int) {r : List Int × List Int} (hl : r.2.length = n) (hl1 : r.1.length ≤ 1000)
    (hr : F65 ((List.range n).map fun v => IntKind.i64.wrap (0 - bndI l4 v)) (eds n ii true l2 l2.length) = some r) :
    Yields (fun q => bif r.1.isEmpty then q = ((List.range n).map (fun v => IntKind.i64.wrap (0 - gd r.2 v)), []) else q.1 = [] ∧ q.2 = r.1.reverse) (F50 x1 l2 ii l4) := by
  unfold F50
  rw [e, edges_ok _ _ _ _ (by omega)]
  refine Yields.bindE rfl (Yields.bif (fun hc => ?_) (fun hc => ?_))
  · rw [ok_len (by omega) (by omega)] at hc; cases hc
  refine Yields.bindE (y := (List.range n).map fun v => IntKind.i64.wrap (0 - bndI l4 v)) (fill_ok n (by omega) (fun v => IntKind.i64.wrap (0 - bndI l4 v)) _ _ (by simp) ?_ ?_) ?_
  · intro i m hi hmm _
    simp only
    unfold F50_s1
    rw [e, decide_eq_true (by simp; omega), cond_true, bound_ok, at_gd (by omega) (by omega), wrap_n (by omega)]
    rfl
  · intro m hmm
    simp only
    unfold F50_s1
    rw [e, decide_eq_false (by simp), cond_false]
  refine Yields.bindE hr ?_
  cases h : r.1.isEmpty
  · refine Yields.bind (rev_all r.1 hl1) (fun y hy => Yields.some ⟨rfl, hy⟩)
  · refine Yields.bindE (y := (List.range n).map (fun v => IntKind.i64.wrap (0 - gd r.2 v))) (fill_ok n (by omega) (fun v => IntKind.i64.wrap (0 - gd r.2 v)) _ _ hl ?_ ?_) (Yields.some rfl)
    · intro i m hi hmm hg
      simp only
      unfold F50_s2
      rw [decide_eq_true (by rw [hl]; omega), cond_true, at_gd (by omega) (by omega), wrap_n (by omega)]
      show some _ = some _
      rw [show gd m (i : Int).toNat = gd r.2 i from hg]
    · intro m hmm
      simp only
      unfold F50_s2
      rw [decide_eq_false (by rw [hl]; omega), cond_false]

def rev (y : Ed) : Ed := (y.2.1, y.1, y.2.2.1, y.2.2.2)
theorem eds_rev (n ii : Int) (l : List Ed) (k : Nat) : eds n ii false (l.map rev) k = eds n ii true l k := by
  unfold eds
  congr 1
  funext i
  rw [List.getElem?_map]
  cases l[i]? with
  | none => rfl
  | some y =>
    show ed1 n ii false i (rev y) = ed1 n ii true i y
    have : cnt46 n (rev y) = cnt46 n y := by
      rw [Bool.eq_iff_iff, cnt46_iff, cnt46_iff]
      exact And.comm
    unfold ed1
    rw [this]
    rfl
theorem lim11 (y : Int) : F52__1 y = F68 y 1073741824 := by
  rw [limit_eq _ _ (by omega) (by omega)]; rfl
theorem bnd_rev (l : List Int) (v : Nat) : bndI (l.map fun y => IntKind.i64.wrap (0 - F52__1 y)) v = IntKind.i64.wrap (0 - bndI l v) := by
  unfold bndI
  rw [List.length_map]
  split
  · rw [wrap_i64] <;> omega
  · rename_i h
    have e : gd (l.map fun y => IntKind.i64.wrap (0 - F52__1 y)) v = IntKind.i64.wrap (0 - F52__1 (gd l v)) := by
      apply gd_eq; rw [List.getElem?_map, gd_some (by omega)]; rfl
    rw [e, lim11]
    have b := limit_bd (gd l v) 1073741824 (by omega) (by omega)
    generalize F68 (gd l v) 1073741824 = z at *
    rw [show IntKind.i64.wrap (0 - z) = 0 - z by rw [wrap_i64] <;> omega]
    rw [limit_eq _ _ (by omega) (by omega)]
    repeat' split <;> omega

theorem take_map {α β : Type} (f : α → β) (l : List α) (i : Nat) (y : α) (h : l[i]? = some y) : (l.take (i + 1)).map f = (l.take i).map f ++ [f y] := by
  rw [List.take_add_one, h]; simp

theorem raise_len {l1 : List Int} {l2 : List Ed} (hn : l1.length ≤ 20) (hm : l2.length ≤ 90) (hl : ∀ v, v < l1.length → -1073741824 ≤ gd l1 v ∧ gd l1 v ≤ 1073741824) (ho : ∀ e ∈ l2, EOk l1.length e) {r : List Int × List Int} (h : F65 l1 l2 = some r) :
    r.2.length = l1.length ∧ r.1.length ≤ 1000 ∧ (r.1 = [] → Raised l1 l2 r.2) ∧ ((∃ x, Sol l2 x ∧ ∀ v, v < l1.length → gd l1 v ≤ x v) → r.1 = []) := by
  obtain ⟨r', e, h'⟩ := raise_ok hn hm hl ho
  rw [h] at e; cases e; exact h'

theorem weight_le {a b c d i1 i2 : Int} (h0 : 0 ≤ i1) (h1 : i1 ≤ i2) (h2 : i2 ≤ 256) (hd : 0 ≤ d) : F59 a b c d i2 ≤ F59 a b c d i1 := by
  rw [(weight_eq a b c d i2).1, (weight_eq a b c d i1).1]
  have e1 : clampI i1 = i1 := by unfold clampI; repeat' split <;> omega
  have e2 : clampI i2 = i2 := by unfold clampI; repeat' split <;> omega
  rw [e1, e2]
  have hq : 0 ≤ F68 d 1048576 := by rw [limit_eq _ _ (by omega) (by omega)]; repeat' split <;> omega
  have := Int.mul_le_mul_of_nonneg_right h1 hq
  omega
theorem sol_more {n i1 i2 : Int} {l : List Ed} {x : Nat → Int} (h0 : 0 ≤ i1) (h1 : i1 ≤ i2) (h2 : i2 ≤ 256) (hd : ∀ y ∈ l, 0 ≤ y.2.2.2) (h : Sol (eds n i1 false l l.length) x) : Sol (eds n i2 false l l.length) x := by
  intro e he
  obtain ⟨i, y, k1, k2, k3, rfl⟩ := eds_mem he
  have := h _ (mem_eds (ii := i1) (ag := false) k1 k2 k3)
  simp only [cond_false] at this ⊢
  have w := weight_le (a := y.1) (b := y.2.1) (c := y.2.2.1) (d := y.2.2.2) h0 h1 h2 (hd y (List.mem_of_getElem? k2))
  omega

theorem earliest_ok {n : Nat} (hn : n ≤ 20) {x1 ii : Int} (e : F57 x1 = (n : Int)) {l2 : List Ed} (hm : l2.length ≤ 90) :
    ∃ r : List Int × List Int, F47 x1 l2 ii = some (bif r.1.isEmpty then (r.2, []) else ([], r.1)) ∧ r.2.length = n ∧ (r.1 = [] → Raised (sts [] n) (eds n ii false l2 l2.length) r.2) ∧ ((∃ x, Sol (eds n ii false l2 l2.length) x ∧ ∀ v, v < n → gd (sts [] n) v ≤ x v) → r.1 = []) := by
  have hE := eds_len (n : Int) ii false l2 l2.length
  have hs := sts_len [] n
  have ho : ∀ e ∈ eds (n : Int) ii false l2 l2.length, EOk (sts [] n).length e := by rw [hs]; exact eds_ok
  obtain ⟨r, er, r1, r2, r3, r4⟩ := raise_ok (by rw [hs]; exact hn) (by omega) (sts_bd [] n) ho
  rw [hs] at r1 r4
  refine ⟨r, ?_, r1, r3, r4⟩
  unfold F47
  rw [after_ok hn e hm [] er]
  rfl

end D
end Go.Proofs.Ytimeninncpmaeaa.Abs
