/- What raise, follow, edges, After and Earliest yield. -/
import Derived.Test.YtimeninncpmaeaaBfqB
namespace Go.Proofs.Ytimeninncpmaeaa.Abs
namespace D
open Go
set_option linter.unusedVariables false
set_option linter.unusedSimpArgs false

theorem rev_len (l : List Int) (h : l.length ≤ 1000) : Yields (fun r => r.length = l.length) (F66 l) := by
  unfold F66
  refine Yields.bind (P := fun r => r.length = l.length) (Yields.loop (l.length) (fun (i : Nat) z => z.1 = (i : Int) ∧ z.2.1 = (l.length : Int) - 1 - i ∧ z.2.2.length = l.length) ⟨rfl, by simp only; rw [wrap_i64] <;> omega, rfl⟩ ?_) (fun y hy => Yields.some hy)
  rintro i ⟨a, b, m⟩ hi ⟨h1, h2, h3⟩
  simp only at h1 h2 h3
  subst h1 h2
  unfold F66_s1
  simp only
  refine Yields.bif (fun hc => ?_) (fun hc => Yields.some h3)
  have hc := of_decide_eq_true hc
  refine Yields.at (by omega) (by rw [h3]; omega) (fun y8 _ _ => ?_)
  refine Yields.at (by omega) (by rw [h3]; omega) (fun y9 _ _ => ?_)
  refine Yields.at (by omega) (by rw [len_set, h3]; omega) (fun y11 _ _ => ?_)
  refine Yields.some ⟨by omega, ?_, ?_, ?_⟩
  · simp only; rw [wrap_i64] <;> omega
  · simp only; rw [wrap_i64] <;> omega
  · simp only [len_set]; exact h3

theorem rev_all (l : List Int) (h : l.length ≤ 1000) : Yields (fun r => r = l.reverse) (F66 l) := by
  unfold F66
  refine Yields.bind (P := fun r => r = l.reverse) (Yields.loop l.length (fun (i : Nat) z => z.1 = (i : Int) ∧ z.2.1 = (l.length : Int) - 1 - i ∧ z.2.2.length = l.length ∧ ∀ j : Nat, j < l.length → gd z.2.2 j = if j < i ∨ l.length < i + j + 1 then gd l (l.length - 1 - j) else gd l j)
    ⟨rfl, by simp only; rw [wrap_i64] <;> omega, rfl, fun j hj => (if_neg (by omega)).symm⟩ ?_) fun y hy => Yields.some hy
  rintro i ⟨a, b, m⟩ hi ⟨h1, h2, h3, h4⟩
  simp only at h1 h2 h3 h4
  subst h1 h2
  unfold F66_s1
  simp only
  refine Yields.bif (fun hc => ?_) (fun hc => Yields.some ?_)
  · have hc := of_decide_eq_true hc
    have e8 := h4 (l.length - 1 - i) (by omega)
    rw [if_neg (by omega)] at e8
    have e9 := h4 i (by omega)
    rw [if_neg (by omega)] at e9
    have a8 := at_gd (l := m) (i := (l.length : Int) - 1 - i) (by omega) (by omega)
    rw [show ((l.length : Int) - 1 - i).toNat = l.length - 1 - i by omega, e8] at a8
    have a9 := at_gd (l := m) (i := (i : Int)) (by omega) (by omega)
    rw [Int.toNat_natCast, e9] at a9
    refine Yields.bindE a8 (Yields.bindE a9 (Yields.at (by omega) (by rw [len_set]; omega) fun y _ _ => Yields.some ⟨by omega, ?_, ?_, ?_, fun j hj => ?_⟩))
    · simp only; rw [wrap_i64] <;> omega
    · simp only; rw [wrap_i64] <;> omega
    · simp only [len_set]; exact h3
    · simp only
      rw [gd_set (by omega) (by rw [len_set]; omega), gd_set (by omega) (by omega), Int.toNat_natCast, show ((l.length : Int) - 1 - i).toNat = l.length - 1 - i by omega]
      by_cases k1 : j = l.length - 1 - i
      · rw [if_pos k1, if_pos (by omega)]; congr 1; omega
      · rw [if_neg k1]
        by_cases k2 : j = i
        · rw [if_pos k2, if_pos (by omega), k2]
        · rw [if_neg k2, h4 j hj]
          by_cases k3 : j < i ∨ l.length < i + j + 1
          · rw [if_pos k3, if_pos (by omega)]
          · rw [if_neg k3, if_neg (by omega)]
  · have hc := of_decide_eq_false hc
    show m = l.reverse
    apply List.ext_getElem?
    intro j
    by_cases hj : j < l.length
    · rw [List.getElem?_reverse hj, gd_some (by omega), gd_some (by omega), h4 j hj]
      split
      · rfl
      · congr 2; omega
    · rw [List.getElem?_eq_none (by omega), List.getElem?_eq_none (by rw [List.length_reverse]; omega)]
def ssum (g : Nat → Int) : Nat → Int
  | 0 => 0
  | m + 1 => ssum g m + g m
theorem ssum_front (g : Nat → Int) : ∀ m, ssum g (m + 1) = g 0 + ssum (fun i => g (i + 1)) m
  | 0 => by simp [ssum]
  | m + 1 => by
    have := ssum_front g m
    simp only [ssum] at this ⊢
    omega
theorem ssum_congr {g g' : Nat → Int} : ∀ {m}, (∀ i, i < m → g i = g' i) → ssum g m = ssum g' m
  | 0, _ => rfl
  | m + 1, h => by
    simp only [ssum]
    rw [ssum_congr fun i hi => h i (by omega), h m (by omega)]
theorem ssum_rev (g : Nat → Int) : ∀ m, ssum (fun i => g (m - 1 - i)) m = ssum g m
  | 0 => rfl
  | m + 1 => by
    rw [ssum_front]
    have := ssum_rev g m
    rw [show (fun i => g (m + 1 - 1 - (i + 1))) = fun i => g (m - 1 - i) from funext fun i => by congr 1; omega, this]
    simp only [ssum]
    rw [show m + 1 - 1 - 0 = m by omega]; omega
theorem range_map_rev {β : Type} (f : Nat → β) (m : Nat) : ((List.range m).map f).reverse = (List.range m).map fun i => f (m - 1 - i) := by
  apply List.ext_getElem
  · simp
  · intro i h1 h2
    simp [List.getElem_reverse]
/-- A cycle of edges with a positive weight, by the arcs' numbers. -/
def Cyc (N : Nat) (l2 : List Ed) (r : List Int) : Prop := ∃ (m : Nat) (es : Nat → Ed), 1 ≤ m ∧ m ≤ N ∧ r = (List.range m).map (fun i => (es i).2.2.2) ∧ (∀ i, i < m → es i ∈ l2) ∧ (∀ i, i < m → (es i).2.1 = (es ((i + 1) % m)).1) ∧ (∀ i j, i < j → j < m → (es i).1 ≠ (es j).1) ∧ 0 < ssum (fun i => (es i).2.2.1) m
def edAt (l2 : List Ed) (bl : List Int) (s t : Nat) : Ed := (l2[(gd bl (way l2 bl s t)).toNat]?).getD (0, 0, 0, 0)
theorem edAt_spec {l1 : List Int} {l2 : List Ed} {R T : Nat → Nat} {c k : Nat} {st bl : List Int} (H : BInv l1 l2 R T c k st bl) (ho : ∀ e ∈ l2, EOk l1.length e) {s d : Nat} (G : Ring l1 l2 R bl s d) (t : Nat) :
    at? bl (way l2 bl s t : Nat) = some (gd bl (way l2 bl s t)) ∧ at? l2 (gd bl (way l2 bl s t)) = some (edAt l2 bl s t) ∧ edAt l2 bl s t ∈ l2 ∧ (edAt l2 bl s t).1 = (way l2 bl s (t + 1) : Nat) ∧ (edAt l2 bl s t).2.1 = (way l2 bl s t : Nat) ∧
    gd st (way l2 bl s t) ≤ gd st (way l2 bl s (t + 1)) + (edAt l2 bl s t).2.2.1 ∧ (gd st (way l2 bl s t) = gd st (way l2 bl s (t + 1)) + (edAt l2 bl s t).2.2.1 → T (way l2 bl s (t + 1)) < T (way l2 bl s t)) := by
  obtain ⟨e, p⟩ := H.pre _ (G.lt t) (G.ri t)
  have he : edAt l2 bl s t = e := by unfold edAt; rw [p.at_]; rfl
  have hm := List.mem_of_getElem? p.at_
  have q0 := (ho e hm).f0
  have q1 := (ho e hm).t0
  have e1 : way l2 bl s (t + 1) = e.1.toNat := p.back
  have e2 := p.to
  rw [he]
  refine ⟨?_, ?_, hm, by omega, by omega, by rw [e1]; exact p.le, fun h => by rw [e1] at h ⊢; exact p.tt h⟩
  · have := at_gd (l := bl) (i := (way l2 bl s t : Nat)) (by omega) (by have := G.lt t; have := H.lb; omega)
    rw [this]; rfl
  · unfold at?; rw [decide_eq_true p.b0, cond_true]; exact p.at_
theorem way_shift {l2 : List Ed} {bl : List Int} {s i j : Nat} (h : way l2 bl s i = way l2 bl s j) : ∀ t, way l2 bl s (i + t) = way l2 bl s (j + t)
  | 0 => h
  | t + 1 => by show back l2 bl (way l2 bl s (i + t)) = back l2 bl (way l2 bl s (j + t)); rw [way_shift h t]
/-- The ring, once around. -/
theorem ring_cyc {l1 : List Int} {l2 : List Ed} {R T : Nat → Nat} {c k : Nat} {st bl : List Int} (H : BInv l1 l2 R T c k st bl) (ho : ∀ e ∈ l2, EOk l1.length e) {s d : Nat} (G : Ring l1 l2 R bl s d) {m : Nat} (m1 : 1 ≤ m) (m2 : m ≤ d)
    (he : way l2 bl s (l1.length + m) = way l2 bl s l1.length) (hn : ∀ t, 0 < t → t < m → way l2 bl s (l1.length + t) ≠ way l2 bl s l1.length) :
    Cyc l1.length l2 ((List.range m).map fun i => (edAt l2 bl s (l1.length + i)).2.2.2).reverse := by
  have sp := edAt_spec H ho G
  refine ⟨m, fun i => edAt l2 bl s (l1.length + (m - 1 - i)), m1, by have := G.d2; omega, range_map_rev _ _, fun i hi => (sp _).2.2.1, fun i hi => ?_, fun i j hij hj e => ?_, ?_⟩
  · simp only
    rw [(sp _).2.2.2.2.1, (sp _).2.2.2.1]
    by_cases hl : i + 1 < m
    · rw [Nat.mod_eq_of_lt hl]
      congr 2; omega
    · have : i + 1 = m := by omega
      rw [this, Nat.mod_self]
      rw [show l1.length + (m - 1 - i) = l1.length by omega, show l1.length + (m - 1 - 0) + 1 = l1.length + m by omega, he]
  · simp only at e
    rw [(sp _).2.2.2.1, (sp _).2.2.2.1] at e
    have e' : way l2 bl s (l1.length + (m - j)) = way l2 bl s (l1.length + (m - i)) := by
      rw [show l1.length + (m - 1 - i) + 1 = l1.length + (m - i) by omega, show l1.length + (m - 1 - j) + 1 = l1.length + (m - j) by omega] at e
      omega
    have sh := way_shift e' i
    rw [show l1.length + (m - i) + i = l1.length + m by omega, he] at sh
    exact hn (m - j + i) (by omega) (by omega) (by rw [← sh]; congr 1; omega)
  · rw [ssum_rev fun i => (edAt l2 bl s (l1.length + i)).2.2.1]
    have key : ∀ j, j ≤ m → gd st (way l2 bl s l1.length) ≤ gd st (way l2 bl s (l1.length + j)) + ssum (fun i => (edAt l2 bl s (l1.length + i)).2.2.1) j ∧
        (gd st (way l2 bl s l1.length) = gd st (way l2 bl s (l1.length + j)) + ssum (fun i => (edAt l2 bl s (l1.length + i)).2.2.1) j → T (way l2 bl s (l1.length + j)) + j ≤ T (way l2 bl s l1.length)) := by
      intro j
      induction j with
      | zero => intro _; exact ⟨by simp [ssum], fun _ => Nat.le_refl _⟩
      | succ j ih =>
        intro hj
        obtain ⟨i1, i2⟩ := ih (by omega)
        obtain ⟨_, _, _, _, _, s1, s2⟩ := sp (l1.length + j)
        simp only [ssum]
        rw [show l1.length + (j + 1) = l1.length + j + 1 by omega]
        exact ⟨by omega, fun h => by have := i2 (by omega); have := s2 (by omega); omega⟩
    obtain ⟨k1, k2⟩ := key m (Nat.le_refl _)
    rw [he] at k1 k2
    by_cases z : ssum (fun i => (edAt l2 bl s (l1.length + i)).2.2.1) m = 0
    · have := k2 (by omega); omega
    · omega
theorem follow_all {l1 : List Int} {l2 : List Ed} {R T : Nat → Nat} {c k : Nat} {st bl : List Int} (H : BInv l1 l2 R T c k st bl) (ho : ∀ e ∈ l2, EOk l1.length e) (hn : l1.length ≤ 1000) {s : Int} {d : Nat} (hs : 0 ≤ s) (G : Ring l1 l2 R bl s.toNat d) :
    Yields (Cyc l1.length l2) (F70 bl l2 s) := by
  have hb := H.lb
  have sp := edAt_spec H ho G
  unfold F70
  refine Yields.bind (P := fun (y : Int) => y = ((way l2 bl s.toNat l1.length : Nat) : Int)) (Yields.loop l1.length (fun (i : Nat) z => z.2 = (i : Int) ∧ z.1 = ((way l2 bl s.toNat i : Nat) : Int)) ⟨rfl, by show s = (s.toNat : Int); omega⟩ ?_) ?_
  · rintro i ⟨a, b⟩ hi ⟨h1, h2⟩
    simp only at h1 h2
    subst h1 h2
    obtain ⟨e1, e2, _, e3, _⟩ := sp i
    unfold F70_s1
    simp only
    refine Yields.bif (fun hc => ?_) (fun hc => Yields.some ?_)
    · have hc := of_decide_eq_true hc
      refine Yields.bindE e1 (Yields.bindE e2 (Yields.some ⟨by omega, ?_, ?_⟩))
      · simp only; rw [wrap_i64] <;> omega
      · exact e3
    · have hc := of_decide_eq_false hc
      have : i = l1.length := by omega
      show _ = _
      rw [this]
  · rintro y rfl
    refine Yields.bind (P := fun (r : List Int) => ∃ m, 1 ≤ m ∧ m ≤ d ∧ r = (List.range m).map (fun i => (edAt l2 bl s.toNat (l1.length + i)).2.2.2) ∧ way l2 bl s.toNat (l1.length + m) = way l2 bl s.toNat l1.length ∧ ∀ t, 0 < t → t < m → way l2 bl s.toNat (l1.length + t) ≠ way l2 bl s.toNat l1.length)
      (Yields.loop d (fun (i : Nat) z => z.1 = ((way l2 bl s.toNat (l1.length + i) : Nat) : Int) ∧ z.2 = (List.range i).map (fun i => (edAt l2 bl s.toNat (l1.length + i)).2.2.2) ∧ i < d ∧ ∀ t, 0 < t → t ≤ i → way l2 bl s.toNat (l1.length + t) ≠ way l2 bl s.toNat l1.length) ⟨rfl, rfl, G.d1, fun t h1 h2 => by omega⟩ ?_) ?_
    · rintro i ⟨a, m⟩ hi ⟨h1, h2, h3, h4⟩
      simp only at h1 h2
      subst h1 h2
      obtain ⟨e1, e2, _, e3, _⟩ := sp (l1.length + i)
      have d2 := G.d2
      unfold F70_s2
      simp only
      have app : (List.range i).map (fun i => (edAt l2 bl s.toNat (l1.length + i)).2.2.2) ++ [(edAt l2 bl s.toNat (l1.length + i)).2.2.2] = (List.range (i + 1)).map (fun i => (edAt l2 bl s.toNat (l1.length + i)).2.2.2) := by
        rw [List.range_succ, List.map_append]; rfl
      refine Yields.bindE e1 (Yields.bindE e2 (Yields.bif (fun hc => ?_) (fun hc => Yields.bif (fun hq => ?_) (fun hq => ?_))))
      · rw [ok_app (by simp; omega) (by simp; omega)] at hc; cases hc
      · have hq := beq_iff_eq.1 hq
        rw [e3] at hq
        exact Yields.some ⟨i + 1, by omega, by omega, app, by rw [← Nat.add_assoc]; omega, fun t t0 t1 => h4 t t0 (by omega)⟩
      · have hq := (beq_eq_false_iff_ne.1 hq)
        rw [e3] at hq
        have hne : i + 1 ≠ d := by
          intro h
          apply hq
          rw [show l1.length + i + 1 = l1.length + d by omega, G.eq]
        refine Yields.some ⟨by omega, e3, app, by omega, fun t t0 t1 => ?_⟩
        by_cases te : t = i + 1
        · subst te; intro w; apply hq; rw [Nat.add_assoc, w]
        · exact h4 t t0 (by omega)
    · rintro y ⟨m, m1, m2, rfl, m4, m5⟩
      refine Yields.bind (rev_all _ (by simp; have := G.d2; omega)) (fun r hr => Yields.some ?_)
      rw [hr]
      exact ring_cyc H ho G m1 m2 m4 m5
theorem Cyc.ne {N : Nat} {l2 : List Ed} {r : List Int} (h : Cyc N l2 r) (hN : N ≤ 1000) : r ≠ [] ∧ r.length ≤ 1000 := by
  obtain ⟨m, es, h1, h2, rfl, _⟩ := h
  refine ⟨fun e => ?_, by simp; omega⟩
  have := congrArg List.length e
  simp at this; omega

theorem pass_ok {l1 : List Int} {l2 : List Ed} (ho : ∀ e ∈ l2, EOk l1.length e) (hm : l2.length ≤ 90) {R T : Nat → Nat} {c k : Nat} (hk : 1 ≤ k) (hc : c ≤ 2000) {st bl : List Int} (hl : ∀ v, v < l1.length → -1073741824 ≤ gd l1 v) (H : RInv l1 l2 R T c k (-1) 0 st bl) :
    Yields (fun r => ∃ R' T' c', c' ≤ c + l2.length ∧ RInv l1 l2 R' T' c' k r.1 l2.length r.2.1 r.2.2)
      (loopO (fun (s : Int × Int × (List Int) × (List Int)) => F65_s2 l2 s.1 s.2.1 s.2.2.1 s.2.2.2) ((-1), 0, st, bl)) := by
  refine Yields.loop l2.length (fun (i : Nat) z => z.2.1 = (i : Int) ∧ ∃ R' T' c', c' ≤ c + i ∧ RInv l1 l2 R' T' c' k z.1 i z.2.2.1 z.2.2.2) ⟨rfl, R, T, c, Nat.le_refl _, H⟩ ?_
  rintro i ⟨a, b, m, q⟩ hi ⟨h1, R', T', c', h2, h3⟩
  simp only at h1 h2 h3
  subst h1
  unfold F65_s2
  simp only
  refine Yields.bif (fun hc' => ?_) (fun hc' => ?_)
  · have hc' := of_decide_eq_true hc'
    refine Yields.at (by omega) hc' (fun y27 hy hy' => ?_)
    have hy := at_nat hy
    have o := ho _ hy'
    obtain ⟨f0, f1, t0, t1, w0, w1⟩ := o
    have ls := h3.ls
    have lb := h3.lb
    refine Yields.bindE (at_gd f0 (by omega)) (Yields.bindE (at_gd t0 (by omega)) ?_)
    have b1 := h3.hi y27.1.toNat (by omega)
    have b2 := h3.lo y27.1.toNat (by omega)
    have b3 := hl y27.1.toNat (by omega)
    have ew : IntKind.i64.wrap (gd m y27.1.toNat + y27.2.2.1) = gd m y27.1.toNat + y27.2.2.1 := by
      rw [wrap_i64] <;> omega
    rw [ew]
    refine Yields.bif (fun hd => ?_) (fun hd => ?_)
    · have hd := of_decide_eq_true hd
      refine Yields.bindE (at_gd t0 (by omega)) (Yields.some ⟨by omega, ?_, ?_⟩)
      · simp only; rw [wrap_i64] <;> omega
      · exact ⟨_, _, c' + 1, by omega, h3.relax hk hy ⟨f0, f1, t0, t1, w0, w1⟩ hd⟩
    · have hd := of_decide_eq_false hd
      refine Yields.some ⟨by omega, ?_, ?_⟩
      · simp only; rw [wrap_i64] <;> omega
      · exact ⟨R', T', c', by omega, h3.idle hy (by omega)⟩
  · have hc' := of_decide_eq_false hc'
    have : i = l2.length := by omega
    subst this
    exact Yields.some ⟨R', T', c', h2, h3⟩

structure Raised (l1 : List Int) (l2 : List Ed) (st : List Int) : Prop where
  len : st.length = l1.length
  sat : ∀ e ∈ l2, gd st e.1.toNat + e.2.2.1 ≤ gd st e.2.1.toNat
  lo : ∀ v, v < l1.length → gd l1 v ≤ gd st v
  hi : ∀ v, v < l1.length → gd st v ≤ 1099511627775
  least : ∀ x, Sol l2 x → (∀ v, v < l1.length → gd l1 v ≤ x v) → ∀ v, v < l1.length → gd st v ≤ x v

theorem raise_all {l1 : List Int} {l2 : List Ed} (hn : l1.length ≤ 20) (hm : l2.length ≤ 90) (hl : ∀ v, v < l1.length → -1073741824 ≤ gd l1 v ∧ gd l1 v ≤ 1073741824) (ho : ∀ e ∈ l2, EOk l1.length e) :
    Yields (fun r => (r.2.length = l1.length ∧ r.1.length ≤ 1000 ∧ (r.1 = [] → Raised l1 l2 r.2) ∧ ((∃ x, Sol l2 x ∧ ∀ v, v < l1.length → gd l1 v ≤ x v) → r.1 = [])) ∧ (r.1 = [] ∨ Cyc l1.length l2 r.1)) (F65 l1 l2) := by
  unfold F65
  refine Yields.bif (fun hc => ?_) (fun hc => ?_)
  · rw [ok_len (by omega) (by omega)] at hc; cases hc
  refine Yields.bind (P := fun (y : List Int) => y.length = l1.length) (Yields.loop l1.length (fun (i : Nat) z => z.1 = (i : Int) ∧ z.2.length = l1.length) ⟨rfl, by simp⟩ ?_) ?_
  · rintro i ⟨a, m⟩ hi ⟨h1, h2⟩
    simp only at h1 h2
    subst h1
    unfold F65_s1
    simp only
    refine Yields.bif (fun hc => ?_) (fun hc => Yields.some h2)
    have hc := of_decide_eq_true hc
    simp at hc
    refine Yields.at (by omega) (by omega) (fun y _ _ => Yields.some ⟨by omega, ?_, ?_⟩)
    · simp only; rw [wrap_i64] <;> omega
    · simp only [len_set]; exact h2
  intro y13 hy
  refine Yields.bind (P := fun (r : Int × List Int × List Int) => ∃ R T c k, c ≤ 1800 ∧ BInv l1 l2 R T c k r.2.1 r.2.2 ∧ ((r.1 = -1 ∧ ∀ e ∈ l2, gd r.2.1 e.1.toNat + e.2.2.1 ≤ gd r.2.1 e.2.1.toNat) ∨ (0 ≤ r.1 ∧ r.1 < (l1.length : Int) ∧ R r.1.toNat = l1.length))) (Yields.loop l1.length (fun (i : Nat) z => z.2.1 = (i : Int) ∧ ∃ R T c, c ≤ 90 * i ∧ BInv l1 l2 R T c i z.2.2.1 z.2.2.2 ∧ (∀ (j : Nat) e, l2[j]? = some e → R e.1.toNat < i → gd z.2.2.1 e.1.toNat + e.2.2.1 ≤ gd z.2.2.1 e.2.1.toNat) ∧ ((i = 0 ∧ z.1 = -1) ∨ (0 ≤ z.1 ∧ z.1 < (l1.length : Int) ∧ R z.1.toNat = i))) ?_ ?_) ?_
  · refine ⟨rfl, fun _ => 0, fun _ => 0, 0, Nat.le_refl _, ⟨rfl, hy, fun v => Nat.le_refl _, fun v => Nat.le_refl _, ?_, fun v hv => Int.le_refl _, ?_, fun x _ h v hv => h v hv⟩, ?_, .inl ⟨rfl, rfl⟩⟩
    · intro v _ h; omega
    · intro v hv; have := (hl v hv).2; simp only; omega
    · intro j e _ h; omega
  · rintro i ⟨a, b, m, q⟩ hi ⟨h1, R, T, c, h2, h3, h4, h5⟩
    simp only at h1 h2 h3 h4 h5
    subst h1
    unfold F65_s3
    simp only
    refine Yields.bif (fun hc => ?_) (fun hc => ?_)
    · have hc := of_decide_eq_true hc
      have H : RInv l1 l2 R T c (i + 1) (-1) 0 m q := by
        refine ⟨⟨h3.ls, h3.lb, fun v => Nat.le_succ_of_le (h3.rk v), h3.tc, h3.pre, h3.lo, h3.hi, h3.sol⟩, ?_, ?_, .inl ⟨rfl, ?_⟩⟩
        · intro j e hj; omega
        · intro j e _ he hr; exact h4 j e he (by omega)
        · intro j e hj; omega
      refine Yields.bind (pass_ok ho hm (Nat.succ_le_succ (Nat.zero_le i)) (by omega) (fun v hv => (hl v hv).1) H) ?_
      rintro y ⟨R', T', c', k1, k2⟩
      refine Yields.bif (fun hd => ?_) (fun hd => ?_)
      · have hd := of_decide_eq_true hd
        refine Yields.some ⟨R', T', c', i + 1, by omega, k2.toBInv, .inl ?_⟩
        rcases k2.la with ⟨q1, q2⟩ | ⟨q1, _⟩
        · refine ⟨q1, fun e he => ?_⟩
          obtain ⟨j, hj⟩ := List.mem_iff_getElem?.1 he
          exact q2 j e ((List.getElem?_eq_some_iff.1 hj).1) hj
        · omega
      · have hd := of_decide_eq_false hd
        refine Yields.some ⟨by omega, ?_, R', T', c', by omega, k2.toBInv, ?_, ?_⟩
        · simp only; rw [wrap_i64] <;> omega
        · intro j e he hr
          exact k2.done j e ((List.getElem?_eq_some_iff.1 he).1) he hr
        · rcases k2.la with ⟨q1, q2⟩ | q
          · omega
          · exact .inr q
    · have hc := of_decide_eq_false hc
      have : i = l1.length := by omega
      subst this
      refine Yields.some ⟨R, T, c, l1.length, by omega, h3, ?_⟩
      rcases h5 with ⟨q1, q2⟩ | q
      · refine .inl ⟨q2, fun e he => ?_⟩
        have o := ho e he
        have o1 := o.f0
        have o2 := o.f1
        omega
      · exact .inr q
  · rintro ⟨last, st, bl⟩ ⟨R, T, c, k, hc2, H, h⟩
    simp only at H h ⊢
    refine Yields.bif (fun hd => ?_) (fun hd => ?_)
    · have hd := of_decide_eq_true hd
      refine Yields.some ⟨⟨H.ls, by simp, fun _ => ?_, fun _ => rfl⟩, .inl rfl⟩
      rcases h with ⟨_, hs⟩ | h
      · exact ⟨H.ls, hs, H.lo, fun v hv => by have := H.hi v hv; show gd st v ≤ _; omega, H.sol⟩
      · omega
    · have hd := of_decide_eq_false hd
      rcases h with ⟨h, _⟩ | ⟨q1, q2, q3⟩
      · omega
      obtain ⟨d, G⟩ := ring_of H ho (s := last.toNat) (by omega) q3
      refine Yields.bind (follow_all H ho (by omega) q1 G) (fun y hy => Yields.some ⟨⟨H.ls, (hy.ne (by omega)).2, fun e => absurd e (hy.ne (by omega)).1, ?_⟩, .inr hy⟩)
      rintro ⟨x, hx, _⟩
      exact (no_ring H G x hx).elim

theorem raise_ok {l1 : List Int} {l2 : List Ed} (hn : l1.length ≤ 20) (hm : l2.length ≤ 90) (hl : ∀ v, v < l1.length → -1073741824 ≤ gd l1 v ∧ gd l1 v ≤ 1073741824) (ho : ∀ e ∈ l2, EOk l1.length e) :
    Yields (fun r => r.2.length = l1.length ∧ r.1.length ≤ 1000 ∧ (r.1 = [] → Raised l1 l2 r.2) ∧ ((∃ x, Sol l2 x ∧ ∀ v, v < l1.length → gd l1 v ≤ x v) → r.1 = [])) (F65 l1 l2) := (raise_all hn hm hl ho).mono fun _ h => h.1

/-! The edges. -/
def cnt46 (n : Int) (y : Ed) : Bool := F58 n y.1 y.2.1 y.2.2.1 y.2.2.2
def ed1 (n ii : Int) (ag : Bool) (i : Nat) (y : Ed) : List Ed :=
  bif cnt46 n y then [(bif ag then y.2.1 else y.1, bif ag then y.1 else y.2.1, F59 y.1 y.2.1 y.2.2.1 y.2.2.2 ii, (i : Int))] else []
def eds (n ii : Int) (ag : Bool) (l : List Ed) (k : Nat) : List Ed := (List.range k).flatMap fun i => match l[i]? with
  | some y => ed1 n ii ag i y
  | none => []
theorem eds_succ (n ii : Int) (ag : Bool) (l : List Ed) (k : Nat) (y : Ed) (h : l[k]? = some y) : eds n ii ag l (k + 1) = eds n ii ag l k ++ ed1 n ii ag k y := by
  unfold eds; rw [List.range_succ, List.flatMap_append]; simp [h]
theorem ed1_len (n ii : Int) (ag : Bool) (i : Nat) (y : Ed) : (ed1 n ii ag i y).length ≤ 1 := by
  unfold ed1; cases cnt46 n y <;> simp
theorem eds_len (n ii : Int) (ag : Bool) (l : List Ed) : ∀ k, (eds n ii ag l k).length ≤ k
  | 0 => by simp [eds]
  | k + 1 => by
    have ih := eds_len n ii ag l k
    cases h : l[k]? with
    | some y => rw [eds_succ n ii ag l k y h, List.length_append]; have := ed1_len n ii ag k y; omega
    | none =>
      unfold eds at ih ⊢
      rw [List.range_succ, List.flatMap_append]; simp [h] at ih ⊢; omega
theorem edges_ok (n ii : Int) (ag : Bool) (l : List Ed) (h : l.length ≤ 1000) : F63 n l ii ag = some (eds n ii ag l l.length) := by
  apply Yields.eq
  unfold F63
  refine Yields.bind (P := fun y => y = eds n ii ag l l.length) (Yields.loop l.length (fun (i : Nat) z => z.1 = (i : Int) ∧ z.2 = eds n ii ag l i) ⟨rfl, rfl⟩ ?_) (fun y hy => Yields.some hy)
  rintro i ⟨a, m⟩ hi ⟨h1, h2⟩
  simp only at h1 h2
  subst h1 h2
  have hlen := eds_len n ii ag l i
  unfold F63_s1
  simp only
  refine Yields.bif (fun hc => ?_) (fun hc => ?_)
  · have hc := of_decide_eq_true hc
    refine Yields.at (by omega) hc (fun y hy hy' => ?_)
    have hy := at_nat hy
    have es := eds_succ n ii ag l i y hy
    unfold ed1 cnt46 at es
    have ew : IntKind.i64.wrap ((i : Int) + 1) = ((i + 1 : Nat) : Int) := by rw [wrap_i64] <;> omega
    rw [ew]
    refine Yields.bif (fun hq => ?_) (fun hq => ?_)
    · have hq' : F58 n y.1 y.2.1 y.2.2.1 y.2.2.2 = false := by simpa using hq
      rw [hq'] at es
      simp only [cond_false, List.append_nil] at es
      exact Yields.some ⟨by omega, rfl, es.symm⟩
    · have hq' : F58 n y.1 y.2.1 y.2.2.1 y.2.2.2 = true := by simpa using hq
      rw [hq'] at es
      simp only [cond_true] at es
      refine Yields.bif (fun hg => ?_) (fun hg => ?_)
      · subst hg
        refine Yields.bif (fun hk => ?_) (fun hk => ?_)
        · rw [ok_app (by simp; omega) (by simp; omega)] at hk; cases hk
        · exact Yields.some ⟨by omega, rfl, es.symm⟩
      · subst hg
        refine Yields.bif (fun hk => ?_) (fun hk => ?_)
        · rw [ok_app (by simp; omega) (by simp; omega)] at hk; cases hk
        · exact Yields.some ⟨by omega, rfl, es.symm⟩
  · have hc := of_decide_eq_false hc
    have : i = l.length := by omega
    subst this
    exact Yields.some rfl
theorem eds_mem {n ii : Int} {ag : Bool} {l : List Ed} {k : Nat} {e : Ed} (h : e ∈ eds n ii ag l k) : ∃ i y, i < k ∧ l[i]? = some y ∧ cnt46 n y = true ∧ e = (bif ag then y.2.1 else y.1, bif ag then y.1 else y.2.1, F59 y.1 y.2.1 y.2.2.1 y.2.2.2 ii, (i : Int)) := by
  unfold eds at h
  rw [List.mem_flatMap] at h
  obtain ⟨i, h1, h2⟩ := h
  cases hy : l[i]? with
  | none => rw [hy] at h2; cases h2
  | some y =>
    rw [hy] at h2
    simp only [ed1] at h2
    cases hc : cnt46 n y with
    | false => rw [hc] at h2; cases h2
    | true =>
      rw [hc] at h2
      exact ⟨i, y, List.mem_range.1 h1, hy, hc, by simpa using h2⟩
theorem mem_eds {n ii : Int} {ag : Bool} {l : List Ed} {k i : Nat} {y : Ed} (h1 : i < k) (h2 : l[i]? = some y) (h3 : cnt46 n y = true) : (bif ag then y.2.1 else y.1, bif ag then y.1 else y.2.1, F59 y.1 y.2.1 y.2.2.1 y.2.2.2 ii, (i : Int)) ∈ eds n ii ag l k := by
  unfold eds
  rw [List.mem_flatMap]
  exact ⟨i, List.mem_range.2 h1, by rw [h2]; simp [ed1, h3]⟩
theorem cnt46_iff {n : Int} {y : Ed} : cnt46 n y = true ↔ (0 ≤ y.1 ∧ y.1 < n) ∧ (0 ≤ y.2.1 ∧ y.2.1 < n) := by
  unfold cnt46 F58
  simp only [Bool.cond_eq_ite]
  constructor
  · intro h
    split at h
    · split at h
      · split at h
        · rename_i a b c
          have a := of_decide_eq_true a
          have b := of_decide_eq_true b
          have c := of_decide_eq_true c
          have d := of_decide_eq_true h
          omega
        · cases h
      · cases h
    · cases h
  · rintro ⟨⟨a, b⟩, c, d⟩
    simp [a, b, c, d]
theorem limit_eq (x m : Int) (hm : 0 ≤ m) (hm2 : m ≤ 9223372036854775807) : F68 x m = if m < (if -m > x then -m else x) then m else (if -m > x then -m else x) := by
  unfold F68 F68__1
  rw [show IntKind.i64.wrap (0 - m) = -m by rw [wrap_i64] <;> omega]
theorem limit_bd (x m : Int) (hm : 0 ≤ m) (hm2 : m ≤ 9223372036854775807) : -m ≤ F68 x m ∧ F68 x m ≤ m := by
  rw [limit_eq x m hm hm2]; repeat' split <;> omega
def clampI (ii : Int) : Int := if 256 < (if 0 > ii then 0 else ii) then 256 else (if 0 > ii then 0 else ii)
theorem clamp_bd (ii : Int) : 0 ≤ clampI ii ∧ clampI ii ≤ 256 := by unfold clampI; repeat' split <;> omega
theorem weight_eq (a b c d ii : Int) : F59 a b c d ii = F68 c 1048576 - clampI ii * F68 d 1048576 ∧ -269484032 ≤ F59 a b c d ii ∧ F59 a b c d ii ≤ 269484032 := by
  have h1 := limit_bd c 1048576 (by omega) (by omega)
  have h2 := limit_bd d 1048576 (by omega) (by omega)
  have h3 := clamp_bd ii
  have h4 : -268435456 ≤ clampI ii * F68 d 1048576 ∧ clampI ii * F68 d 1048576 ≤ 268435456 := by
    generalize clampI ii = k at *
    generalize F68 d 1048576 = q at *
    have a1 : 0 ≤ k * (1048576 - q) := Int.mul_nonneg h3.1 (by omega)
    have a2 : 0 ≤ k * (1048576 + q) := Int.mul_nonneg h3.1 (by omega)
    rw [Int.mul_sub] at a1
    rw [Int.mul_add] at a2
    omega
  have e : F59 a b c d ii = IntKind.i64.wrap (F68 c 1048576 - IntKind.i64.wrap (clampI ii * F68 d 1048576)) := rfl
  rw [e]
  generalize clampI ii * F68 d 1048576 = z at *
  have e1 : IntKind.i64.wrap z = z := by rw [wrap_i64] <;> omega
  rw [e1]
  have e2 : IntKind.i64.wrap (F68 c 1048576 - z) = F68 c 1048576 - z := by rw [wrap_i64] <;> omega
  rw [e2]
  exact ⟨rfl, by omega, by omega⟩
theorem eds_ok {n : Nat} {ii : Int} {ag : Bool} {l : List Ed} {k : Nat} : ∀ e ∈ eds (n : Int) ii ag l k, EOk n e := by
  intro e he
  obtain ⟨i, y, h1, h2, h3, rfl⟩ := eds_mem he
  obtain ⟨⟨a, b⟩, c, d⟩ := cnt46_iff.1 h3
  have w := weight_eq y.1 y.2.1 y.2.2.1 y.2.2.2 ii
  refine ⟨?_, ?_, ?_, ?_, w.2.1, w.2.2⟩ <;> simp only <;> cases ag <;> simp only [cond_true, cond_false] <;> assumption
end D
end Go.Proofs.Ytimeninncpmaeaa.Abs
