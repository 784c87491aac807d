/- A legal schedule has units enough; the law. -/
import Derived.Test.YtimeninncpmaeaaBdpU
import Derived.Test.YtimeninncpmaeaaBdpF
namespace Go.Proofs.Ytimeninncpmaeaa.Abs
open Go
set_option linter.unusedVariables false
set_option linter.unusedSimpArgs false
set_option maxHeartbeats 1000000

theorem emod_one {a n r q : Int} (h0 : 0 ≤ r) (h1 : r < n) (h : a = r + n * q) : a % n = r := by
  rw [h, Int.add_mul_emod_self_left, Int.emod_eq_of_lt h0 h1]
theorem tmod_fix {a n : Int} (hn : 0 < n) : (if a.tmod n < 0 then a.tmod n + n else a.tmod n) = a % n := by
  rcases Int.lt_or_le a 0 with h | h
  · have e : a.tmod n = -((-a) % n) := by
      rw [← Int.tmod_eq_emod_of_nonneg (show 0 ≤ -a by omega), Int.neg_tmod]; omega
    have d := Int.mul_ediv_add_emod (-a) n
    have m0 := Int.emod_nonneg (-a) (show n ≠ 0 by omega)
    have m1 := Int.emod_lt_of_pos (-a) hn
    rw [e]
    generalize (-a) % n = m at *
    generalize (-a) / n = k at *
    split
    · refine (emod_one (q := -k - 1) (by omega) (by omega) ?_).symm
      have : n * (-k - 1) = -(n * k) - n := by rw [Int.mul_sub, Int.mul_neg, Int.mul_one]
      omega
    · refine (emod_one (q := -k) (by omega) (by omega) ?_).symm
      have : n * (-k) = -(n * k) := Int.mul_neg ..
      omega
  · rw [Int.tmod_eq_emod_of_nonneg h]
    have := Int.emod_nonneg a (show n ≠ 0 by omega)
    rw [if_neg (by omega)]
theorem nodup_le {D : List Int} {W : Nat} (hd : D.Nodup) (hw : ∀ v ∈ D, 0 ≤ v ∧ v < (W : Int)) : D.length ≤ W := by
  have p : (((List.range W).filter fun k : Nat => decide ((k : Int) ∈ D)).map fun k : Nat => (k : Int)).Perm D := by
    rw [List.perm_ext_iff_of_nodup _ hd]
    · intro v
      rw [List.mem_map]
      constructor
      · rintro ⟨k, hk, rfl⟩
        exact of_decide_eq_true (List.mem_filter.1 hk).2
      · intro hv
        have := hw v hv
        refine ⟨v.toNat, List.mem_filter.2 ⟨List.mem_range.2 (by omega), ?_⟩, by omega⟩
        rw [show ((v.toNat : Nat) : Int) = v by omega]
        exact decide_eq_true hv
    · unfold List.Nodup
      rw [List.pairwise_map]
      refine List.Pairwise.imp ?_ ((List.nodup_range (n := W)).filter _)
      intro a b hab e
      exact hab (by omega)
  rw [← p.length_eq, List.length_map]
  exact Nat.le_trans (List.length_filter_le _ _) (by simp)
/-- Whether an instruction occupies its unit in a cycle. -/
def Occ (x7 s busy c : Int) : Prop := if 0 < x7 then (c - s) % x7 < busy else s ≤ c ∧ c < s + busy
section
variable (x1 x2 : Int) (x3 : Bool) (l4 l5 : List Quad) (l6 : List (Int × Int)) (x7 x8 : Int) (l9 l10 l11 : List Int)
theorem occ_any {i : Nat} {s c : Int} {y : Int × Int} (hs : l9[i]? = some s) (hy : l6[i]? = some y) (h7 : 0 ≤ x7 ∧ x7 ≤ 256) (s0 : 0 ≤ s ∧ s ≤ 4096) (c0 : -10000 ≤ c ∧ c ≤ 10000) :
    Yields (fun b => b = true ↔ Occ x7 s y.2 c) (F69 x1 x2 x3 l4 l5 l6 x7 x8 l9 l10 l11 (i : Int) c) := by
  unfold F69 Occ
  refine Yields.bindE (atn hs) ?_
  rw [wr (x := c - s) (by omega) (by omega)]
  refine Yields.bif (fun k => ?_) fun k => ?_
  · have k := of_decide_eq_true k
    rw [if_pos (show 0 < x7 from k)]
    have e := tmod_fix (a := c - s) k
    have m0 := Int.emod_nonneg (c - s) (show x7 ≠ 0 by omega)
    refine Yields.bif (fun q => ?_) fun q => ?_
    · have q := of_decide_eq_true q
      rw [if_pos q] at e
      rw [wr (x := (c - s).tmod x7 + x7) (by omega) (by have := Int.emod_lt_of_pos (c - s) k; omega), e, decide_eq_true (show (c - s) % x7 ≥ 0 from m0), cond_true]
      exact Yields.bindE (atn hy) (Yields.some decide_eq_true_iff)
    · have q := of_decide_eq_false q
      rw [if_neg q] at e
      rw [e, decide_eq_true (show (c - s) % x7 ≥ 0 from m0), cond_true]
      exact Yields.bindE (atn hy) (Yields.some decide_eq_true_iff)
  · have k := of_decide_eq_false k
    rw [if_neg (show ¬ 0 < x7 from k)]
    refine Yields.bif (fun q => Yields.bindE (atn hy) (Yields.some ?_)) fun q => Yields.some ?_
    · have q := of_decide_eq_true q
      rw [decide_eq_true_iff]; omega
    · have q := of_decide_eq_false q
      exact ⟨fun h => (by cases h), fun h => by omega⟩
def Free (i j : Nat) : Prop := ∀ yi yj u si sj, l6[i]? = some yi → l6[j]? = some yj → l11[i]? = some u → l11[j]? = some u → l9[i]? = some si → l9[j]? = some sj → 0 ≤ yi.1 → yi.1 = yj.1 →
  (i = j → 0 < x7 → yi.2 ≤ x7) ∧ (i ≠ j → ∀ c, (0 < x7 → 0 ≤ c ∧ c < x7) → ¬ (Occ x7 si yi.2 c ∧ Occ x7 sj yj.2 c))
theorem clash_any (hN : ∀ y ∈ l6, NeedOK l5 y) (hT : ∀ s ∈ l9, TimeOK s) (h7 : 0 ≤ x7 ∧ x7 ≤ 256) (e9 : l9.length = l6.length) (e11 : l11.length = l6.length) {i j : Nat} (hi : i < l6.length) (hj : j < l6.length) :
    Yields (fun b => b = false → Free l6 x7 l9 l11 i j) (F61 x1 x2 x3 l4 l5 l6 x7 x8 l9 l10 l11 (i : Int) (j : Int)) := by
  obtain ⟨yi, hyi⟩ := some_nat hi
  obtain ⟨yj, hyj⟩ := some_nat hj
  obtain ⟨ui, hui⟩ := some_nat (l := l11) (i := i) (by omega)
  obtain ⟨uj, huj⟩ := some_nat (l := l11) (i := j) (by omega)
  obtain ⟨si, hsi⟩ := some_nat (l := l9) (i := i) (by omega)
  obtain ⟨sj, hsj⟩ := some_nat (l := l9) (i := j) (by omega)
  have bi := need_bd l5 l6 hN yi (List.mem_of_getElem? hyi)
  have bj := need_bd l5 l6 hN yj (List.mem_of_getElem? hyj)
  have ti : 0 ≤ si ∧ si ≤ 4096 := hT si (List.mem_of_getElem? hsi)
  have tj : 0 ≤ sj ∧ sj ≤ 4096 := hT sj (List.mem_of_getElem? hsj)
  have free : ∀ {p : Prop}, (p → (ui = uj → 0 ≤ yi.1 → yi.1 = yj.1 → (i = j → 0 < x7 → yi.2 ≤ x7) ∧ (i ≠ j → ∀ c, (0 < x7 → 0 ≤ c ∧ c < x7) → ¬ (Occ x7 si yi.2 c ∧ Occ x7 sj yj.2 c)))) → p → Free l6 x7 l9 l11 i j := by
    intro p h hp yi' yj' u si' sj' q1 q2 q3 q4 q5 q6 q7 q8
    rw [hyi] at q1; cases q1; rw [hyj] at q2; cases q2; rw [hsi] at q5; cases q5; rw [hsj] at q6; cases q6
    rw [hui] at q3; cases q3; rw [huj] at q4; cases q4
    exact h hp rfl q7 q8
  unfold F61
  refine Yields.bindE (atn hyi) (Yields.bif (fun k => Yields.some (free fun _ _ h => ?_)) fun k => Yields.bindE (atn hyj) (Yields.bif (fun q => Yields.some (free fun _ _ _ h => absurd h (bne_iff_ne.1 q))) fun q => Yields.bindE (atn hui) (Yields.bindE (atn huj) (Yields.bif (fun w => Yields.some (free fun _ h => absurd h (bne_iff_ne.1 w))) fun w => Yields.bif (fun e => ?_) fun e => Yields.bindE (atn hsi) (Yields.bindE (atn hsj) ?_)))))
  · have := of_decide_eq_true k; omega
  · have e := beq_iff_eq.1 e
    have e : i = j := by omega
    refine Yields.bif (fun z => Yields.some (free fun h _ _ _ => ⟨fun _ _ => ?_, fun h => absurd e h⟩)) fun z => Yields.some (free fun _ _ _ _ => ⟨fun _ h => absurd h (of_decide_eq_false z), fun h => absurd e h⟩)
    have := of_decide_eq_false h; omega
  have e := beq_eq_false_iff_ne.1 e
  have e : i ≠ j := fun h => e (by rw [h])
  have sub1 : F61_s1 x1 x2 x3 l4 l5 l6 x7 x8 l9 l10 l11 = F61_s1 x1 x2 x3 l4 l5 l6 x7 x8 l9 l10 l11 := rfl
  refine Yields.bif (fun z => ?_) fun z => ?_
  · have z := of_decide_eq_true z
    obtain ⟨n, hn⟩ : ∃ n : Nat, x7 = n := ⟨x7.toNat, by omega⟩
    refine Yields.bind (loop_chk n (fun c => ¬ (Occ x7 si yi.2 c ∧ Occ x7 sj yj.2 c)) ?_ ?_) ?_
    · intro c hc
      unfold F61_s1
      rw [wr (x := x7 - 1) (by omega) (by omega), decide_eq_true (show (c : Int) ≤ x7 - 1 by omega), cond_true]
      have nx : (Sum.inl (IntKind.i64.wrap ((c : Int) + 1)) : Int ⊕ Nat) = .inl ((c + 1 : Nat) : Int) := by rw [wr1 hc (by omega)]
      refine Yields.bind (occ_any x1 x2 x3 l4 l5 l6 x7 x8 l9 l10 l11 hsi hyi h7 ti (by omega)) fun b hb => Yields.bif (fun q => Yields.bind (occ_any x1 x2 x3 l4 l5 l6 x7 x8 l9 l10 l11 hsj hyj h7 tj (by omega)) fun b' hb' => Yields.bif (fun q' => Yields.some (.inr ⟨rfl, fun h => h ⟨hb.1 q, hb'.1 q'⟩⟩)) fun q' => Yields.some (.inl ⟨nx, fun h => ?_⟩)) fun q => Yields.some (.inl ⟨nx, fun h => ?_⟩)
      · rw [hb'.2 h.2] at q'; cases q'
      · rw [hb.2 h.1] at q; cases q
    · unfold F61_s1
      rw [wr (x := x7 - 1) (by omega) (by omega), decide_eq_false (by omega)]; rfl
    rintro r (⟨rfl, h⟩ | ⟨rfl, h⟩)
    · refine Yields.some (free fun _ _ _ _ => ⟨fun h => absurd h e, fun _ c hc => ?_⟩)
      have hc := hc z
      have := h c.toNat (by omega)
      rwa [show ((c.toNat : Nat) : Int) = c by omega] at this
    · exact Yields.some fun h => by cases h
  · have z := of_decide_eq_false z
    have lo : (if sj < si then sj else si) ≤ si ∧ (if sj < si then sj else si) ≤ sj ∧ 0 ≤ (if sj < si then sj else si) ∧ (if sj < si then sj else si) ≤ 4096 := by split <;> omega
    have up : si ≤ (if sj > si then sj else si) ∧ sj ≤ (if sj > si then sj else si) ∧ (if sj > si then sj else si) ≤ 4096 := by split <;> omega
    generalize (if sj < si then sj else si) = a at *
    generalize hb : (if sj > si then sj else si) = b at *
    obtain ⟨n, hn⟩ : ∃ n : Nat, b + 257 - a = n := ⟨(b + 257 - a).toNat, by omega⟩
    refine Yields.bind (P := fun r : Nat => r = 0 ∨ r = 1 ∧ ∀ c, a ≤ c → c ≤ b + 256 → ¬ (Occ x7 si yi.2 c ∧ Occ x7 sj yj.2 c)) (Yields.loop n (fun (i : Nat) z => z = a + (i : Int) ∧ ∀ c, a ≤ c → c < a + (i : Int) → ¬ (Occ x7 si yi.2 c ∧ Occ x7 sj yj.2 c)) ⟨by omega, fun c h1 h2 => by omega⟩ ?_) ?_
    · rintro m c hm ⟨rfl, hk⟩
      unfold F61_s2
      rw [hb, wr (x := b + 256) (by omega) (by omega)]
      refine Yields.bif (fun hc => ?_) fun hc => Yields.some (.inr ⟨rfl, fun c h1 h2 => hk c h1 (by have := of_decide_eq_false hc; omega)⟩)
      have hc := of_decide_eq_true hc
      have nx : IntKind.i64.wrap (a + (m : Int) + 1) = a + ((m + 1 : Nat) : Int) := by rw [wr] <;> omega
      have more : ¬ (Occ x7 si yi.2 (a + m) ∧ Occ x7 sj yj.2 (a + m)) → ∀ c, a ≤ c → c < a + ((m + 1 : Nat) : Int) → ¬ (Occ x7 si yi.2 c ∧ Occ x7 sj yj.2 c) := by
        intro h c h1 h2
        by_cases e : c = a + m
        · rw [e]; exact h
        · exact hk c h1 (by omega)
      refine Yields.bind (occ_any x1 x2 x3 l4 l5 l6 x7 x8 l9 l10 l11 hsi hyi h7 ti (by omega)) fun b hb => Yields.bif (fun q => Yields.bind (occ_any x1 x2 x3 l4 l5 l6 x7 x8 l9 l10 l11 hsj hyj h7 tj (by omega)) fun b' hb' => Yields.bif (fun q' => Yields.some (.inl rfl)) fun q' => Yields.some ⟨by omega, nx, more fun h => ?_⟩) fun q => Yields.some ⟨by omega, nx, more fun h => ?_⟩
      · rw [hb'.2 h.2] at q'; cases q'
      · rw [hb.2 h.1] at q; cases q
    · rintro r (rfl | ⟨rfl, h⟩)
      · exact Yields.some fun h => by cases h
      · refine Yields.some (free fun _ _ _ _ => ⟨fun h => absurd h e, fun _ c _ hcc => ?_⟩)
        have h1 := hcc.1; have h2 := hcc.2
        unfold Occ at h1 h2
        rw [if_neg z] at h1 h2
        exact h c (by omega) (by omega) hcc
theorem clashes_any (hN : ∀ y ∈ l6, NeedOK l5 y) (hT : ∀ s ∈ l9, TimeOK s) (h7 : 0 ≤ x7 ∧ x7 ≤ 256) (e6 : (l6.length : Int) = x1) (k6 : l6.length ≤ 1000) (e9 : l9.length = l6.length) (e11 : l11.length = l6.length) :
    Yields (fun L => L = [] → ∀ i j, i ≤ j → j < l6.length → Free l6 x7 l9 l11 i j) (F46 x1 x2 x3 l4 l5 l6 x7 x8 l9 l10 l11) := by
  unfold F46
  refine Yields.bind (P := fun L : List (Int × Int) => L = [] → ∀ i j, i ≤ j → j < l6.length → Free l6 x7 l9 l11 i j) (Yields.loop l6.length (fun (m : Nat) z => z.1 = (m : Int) ∧ z.2.length ≤ 1000 * m ∧ (z.2 = [] → ∀ i j, i < m → i ≤ j → j < l6.length → Free l6 x7 l9 l11 i j)) ⟨rfl, Nat.zero_le _, fun _ i j h => absurd h (by omega)⟩ ?_) fun L hL => Yields.some hL
  rintro m ⟨a, L⟩ hm ⟨h1, h2, h3⟩
  simp only at h1 h2 h3
  subst h1
  unfold F46_s2
  simp only
  refine Yields.bif (fun hc => ?_) fun hc => Yields.some fun e i j h4 h5 => h3 e i j (by have := of_decide_eq_false hc; omega) h4 h5
  have hc := of_decide_eq_true hc
  refine Yields.bind (P := fun L' : List (Int × Int) => L'.length ≤ L.length + 1000 ∧ (L' = [] → L = [] ∧ ∀ j, m ≤ j → j < l6.length → Free l6 x7 l9 l11 m j)) (Yields.loop (l6.length - m) (fun (t : Nat) z => z.1 = ((m + t : Nat) : Int) ∧ z.2.length ≤ L.length + t ∧ (z.2 = [] → L = [] ∧ ∀ j, m ≤ j → j < m + t → Free l6 x7 l9 l11 m j)) ⟨rfl, Nat.le_refl _, fun e => ⟨e, fun j h h' => by omega⟩⟩ ?_) ?_
  · rintro t ⟨b, L'⟩ ht ⟨g1, g2, g3⟩
    simp only at g1 g2 g3
    subst g1
    unfold F46_s1
    simp only
    refine Yields.bif (fun hq => ?_) fun hq => Yields.some ⟨by omega, fun e => ⟨(g3 e).1, fun j h h' => (g3 e).2 j h (by have := of_decide_eq_false hq; omega)⟩⟩
    have hq := of_decide_eq_true hq
    have nx : IntKind.i64.wrap (((m + t : Nat) : Int) + 1) = ((m + (t + 1) : Nat) : Int) := by rw [wr] <;> omega
    refine Yields.bind (clash_any x1 x2 x3 l4 l5 l6 x7 x8 l9 l10 l11 hN hT h7 e9 e11 (i := m) (j := m + t) (by omega) (by omega)) fun c hcl => Yields.bif (fun q => ?_) fun q => Yields.some ⟨by omega, nx, by simp only; omega, ?_⟩
    · rw [ok_app (by simp only [List.length_singleton]; omega) (by simp only [List.length_singleton]; omega)]
      simp only [Bool.not_true, cond_false]
      exact Yields.some ⟨by omega, nx, by simp; omega, fun e => by simp at e⟩
    · intro e
      refine ⟨(g3 e).1, fun j h h' => ?_⟩
      by_cases ej : j = m + t
      · subst ej; exact hcl q
      · exact (g3 e).2 j h (by omega)
  · rintro L' ⟨g1, g2⟩
    refine Yields.some ⟨by omega, by rw [wr] <;> omega, by simp only; omega, ?_⟩
    intro e i j h4 h5 h6
    by_cases ei : i = m
    · subst ei; exact (g2 e).2 j h5 h6
    · exact h3 (g2 e).1 i j (by omega) h5 h6
/-- What an arc of a schedule that is not late says, where it leads from an instruction to the end. -/
def ArcEnd (a : Quad) : Prop := ∀ s, a.1 < x1 → l9[a.1.toNat]? = some s → a.2.1 = x1 + x2 + 1 → a.2.2.2 = 0 → s + a.2.2.1 ≤ x8
theorem time_any (hh : HeadOK x1 x2 l6) (hf : FitOK x1 x2 x3 l5 l6 x7 x8 l9 l10 l11) {v : Int} (v0 : 0 ≤ v) (v1 : v < x1 + x2 + 2) :
    Yields (fun t => 0 ≤ t ∧ t ≤ 4096 ∧ (v < x1 → l9[v.toNat]? = some t) ∧ (v = x1 + x2 + 1 → t = x8)) (F30 x1 x2 x3 l4 l5 l6 x7 x8 l9 l10 l11 v) := by
  obtain ⟨h1, h2, h3, h4, _⟩ := hh
  obtain ⟨f1, _, f2, _, _, _, f3, f4, f5, f6, _⟩ := hf
  unfold F30 F28
  rw [wr (x := x1 + x2) (by omega) (by omega)]
  refine Yields.bif (fun k => ?_) fun k => Yields.bif (fun q => ?_) fun q => Yields.bif (fun w => Yields.some ?_) fun w => Yields.some ?_
  · have k := of_decide_eq_true k
    refine Yields.at v0 (by omega) fun s hs hm => Yields.some ⟨(f5 s hm).1, (f5 s hm).2, fun _ => hs, fun e => by omega⟩
  · have k := of_decide_eq_false k; have q := of_decide_eq_true q
    rw [wr (x := v - x1) (by omega) (by omega)]
    refine Yields.at (by omega) (by omega) fun s hs hm => Yields.some ⟨(f6 s hm).1, (f6 s hm).2, fun e => by omega, fun e => by omega⟩
  · have k := of_decide_eq_false k; have w := beq_iff_eq.1 w
    exact ⟨by omega, by omega, fun e => by omega, fun e => by omega⟩
  · have k := of_decide_eq_false k
    exact ⟨by omega, by omega, fun e => by omega, fun _ => rfl⟩
theorem late_any (hh : HeadOK x1 x2 l6) (hA : ∀ a ∈ l4, ArcOK x1 x2 x3 a) (hf : FitOK x1 x2 x3 l5 l6 x7 x8 l9 l10 l11) (k4 : l4.length ≤ 1000) :
    Yields (fun L => L = [] → ∀ a ∈ l4, ArcEnd x1 x2 x8 l9 a) (F45 x1 x2 x3 l4 l5 l6 x7 x8 l9 l10 l11) := by
  have f7 := hf.2.2.2.1; have f8 := hf.2.2.2.2.1
  unfold F45
  refine Yields.bind (P := fun L : List Int => L = [] → ∀ a ∈ l4, ArcEnd x1 x2 x8 l9 a) (Yields.loop l4.length (fun (i : Nat) z => z.1 = (i : Int) ∧ z.2.length ≤ i ∧ (z.2 = [] → ∀ j a, j < i → l4[j]? = some a → ArcEnd x1 x2 x8 l9 a)) ⟨rfl, Nat.le_refl _, fun _ j a h => absurd h (by omega)⟩ ?_) fun L hL => Yields.some hL
  rintro i ⟨m, L⟩ hi ⟨h1, h2, h3⟩
  simp only at h1 h2 h3
  subst h1
  unfold F45_s1
  simp only
  refine Yields.bif (fun hc => ?_) fun hc => Yields.some fun e a ha => ?_
  · have hc := of_decide_eq_true hc
    obtain ⟨a, ha⟩ := some_nat (l := l4) (i := i) (by omega)
    obtain ⟨a1, a2, a3, a4, a5, a6, a7, a8, a9⟩ := hA a (List.mem_of_getElem? ha)
    have nx : IntKind.i64.wrap ((i : Int) + 1) = ((i + 1 : Nat) : Int) := wr1 (n := l4.length) (by omega) (by omega)
    refine Yields.bindE (atn ha) (Yields.bind (time_any x1 x2 x3 l4 l5 l6 x7 x8 l9 l10 l11 hh hf a3 a4) fun t ht => Yields.bind (time_any x1 x2 x3 l4 l5 l6 x7 x8 l9 l10 l11 hh hf a1 (by omega)) fun s hs => Yields.bif (fun q => ?_) fun q => Yields.some ⟨by omega, nx, by simp only; omega, ?_⟩)
    · rw [ok_app (by simp only [List.length_singleton]; omega) (by simp only [List.length_singleton]; omega)]
      simp only [Bool.not_true, cond_false]
      exact Yields.some ⟨by omega, nx, by simp; omega, fun e => by simp at e⟩
    · intro e j a' hj ha'
      by_cases ej : j = i
      · subst ej
        rw [ha] at ha'; cases ha'
        intro s' c1 c2 c3 c4
        have es := hs.2.2.1 c1
        rw [c2] at es; cases es
        have et := ht.2.2.2 c3
        have q := of_decide_eq_false q
        unfold F60 at q
        rw [c4, Int.mul_zero, wr (x := (0 : Int)) (by omega) (by omega), Int.sub_zero, wr (x := a.2.2.1) (by omega) (by omega), wr (x := t - s) (by have := ht.1; have := hs.2.1; omega) (by have := ht.2.1; have := hs.1; omega)] at q
        omega
      · exact h3 e j a' (by omega) ha'
  · have hc := of_decide_eq_false hc
    obtain ⟨j, hj⟩ := List.mem_iff_getElem?.1 ha
    exact h3 e j a (by have := (List.getElem?_eq_some_iff.1 hj).1; omega) hj
theorem legal_any (hh : HeadOK x1 x2 l6) (hv : ValidOK x1 x2 x3 l4 l5 l6) (hf : FitOK x1 x2 x3 l5 l6 x7 x8 l9 l10 l11) (k4 : l4.length ≤ 1000) (k6 : l6.length ≤ 1000) (k9 : l9.length ≤ 1000) (k10 : l10.length ≤ 1000) :
    Yields (fun r => r = true → (∀ a ∈ l4, ArcEnd x1 x2 x8 l9 a) ∧ ∀ i j, i ≤ j → j < l6.length → Free l6 x7 l9 l11 i j) (F22 x1 x2 x3 l4 l5 l6 x7 x8 l9 l10 l11) := by
  unfold F22
  refine Yields.bind (fits_ref x1 x2 x3 l4 l5 l6 x7 x8 l9 l10 l11 hv k6 k9 k10) fun r hr => Yields.bif (fun _ => Yields.some fun h => by cases h) fun _ => Yields.bif (fun _ => Yields.some fun h => by cases h) fun _ => ?_
  refine Yields.bind (P := fun _ => True) (Yields.loop l10.length (fun (i : Nat) z => z = (i : Int)) rfl ?_) fun t _ => Yields.bif (fun _ => Yields.some fun h => by cases h) fun _ => ?_
  · rintro i z hi rfl
    unfold F22_s1
    refine Yields.bif (fun hc => ?_) fun _ => Yields.some trivial
    have hc := of_decide_eq_true hc
    have nx : IntKind.i64.wrap ((i : Int) + 1) = ((i + 1 : Nat) : Int) := wr1 (n := l10.length) (by omega) (by omega)
    exact Yields.bif (fun _ => Yields.at (by omega) hc fun _ _ _ => Yields.bif (fun _ => Yields.some trivial) fun _ => Yields.some ⟨by omega, nx⟩) fun _ => Yields.some ⟨by omega, nx⟩
  have hl : (l6.length : Int) = x1 := hv.1.2.2.2.2
  refine Yields.bind (late_any x1 x2 x3 l4 l5 l6 x7 x8 l9 l10 l11 hh hv.2.1 hf k4) fun L hL => Yields.bif (fun q => ?_) fun _ => Yields.some fun h => by cases h
  have q : L = [] := List.eq_nil_of_length_eq_zero (by have := beq_iff_eq.1 q; omega)
  refine Yields.bind (clashes_any x1 x2 x3 l4 l5 l6 x7 x8 l9 l10 l11 hv.2.2.2.2.2.2 hf.2.2.2.2.2.2.2.2.1 ⟨hf.2.2.2.1, hf.2.2.2.2.1⟩ hl k6 (by have := hf.1; omega) (by have := hf.2.1; omega)) fun C hC => Yields.some fun h => ⟨hL q, hC ?_⟩
  exact List.eq_nil_of_length_eq_zero (by have := beq_iff_eq.1 h; omega)
end
end Go.Proofs.Ytimeninncpmaeaa.Abs
