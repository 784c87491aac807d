/- Parts of the time that have a cycle in common; the lists of clashes. -/
import Derived.Test.YtofnegejldgdbaaScT
namespace Go.Proofs.Ytofnegejldgdbaa.Abs
open Go
set_option linter.unusedVariables false
set_option linter.unusedSimpArgs false
set_option maxHeartbeats 1000000
theorem emod_one {a n r q : Int} (h0 : 0 ≤ r) (h1 : r < n) (h : a = r + n * q) : a % n = r := by
  rw [h, Int.add_mul_emod_self_left, Int.emod_eq_of_lt h0 h1]
theorem tmod_fix {a n : Int} (hn : 0 < n) : (if a.tmod n < 0 then a.tmod n + n else a.tmod n) = a % n := by
  rcases Int.lt_or_le a 0 with h | h
  · have e : a.tmod n = -((-a) % n) := by
      rw [← Int.tmod_eq_emod_of_nonneg (show 0 ≤ -a by omega), Int.neg_tmod]; omega
    have d := Int.mul_ediv_add_emod (-a) n
    have m0 := Int.emod_nonneg (-a) (show n ≠ 0 by omega)
    have m1 := Int.emod_lt_of_pos (-a) hn
    rw [e]
    generalize (-a) % n = m at *
    generalize (-a) / n = k at *
    split
    · refine (emod_one (q := -k - 1) (by omega) (by omega) ?_).symm
      have : n * (-k - 1) = -(n * k) - n := by rw [Int.mul_sub, Int.mul_neg, Int.mul_one]
      omega
    · refine (emod_one (q := -k) (by omega) (by omega) ?_).symm
      have : n * (-k) = -(n * k) := Int.mul_neg ..
      omega
  · rw [Int.tmod_eq_emod_of_nonneg h]
    have := Int.emod_nonneg a (show n ≠ 0 by omega)
    rw [if_neg (by omega)]
/-- Whether an instruction occupies its unit in a cycle. -/
def Occ (x7 s busy c : Int) : Prop := if 0 < x7 then (c - s) % x7 < busy else s ≤ c ∧ c < s + busy
section
variable (x1 x2 : Int) (x3 : Bool) (l4 l5 : List Quad) (l6 : List (Int × Int)) (x7 x8 : Int) (l9 l10 l11 : List Int)
theorem occ_any {i : Nat} {s c : Int} {y : Int × Int} (hs : l9[i]? = some s) (hy : l6[i]? = some y) (h7 : 0 ≤ x7 ∧ x7 ≤ 256) (s0 : 0 ≤ s ∧ s ≤ 4096) (c0 : -10000 ≤ c ∧ c ≤ 10000) :
    Yields (fun b => b = true ↔ Occ x7 s y.2 c) (F74 x1 x2 x3 l4 l5 l6 x7 x8 l9 l10 l11 (i : Int) c) := by
  unfold F74 Occ
  refine Yields.bindE (atn hs) ?_
  rw [wr (x := c - s) (by omega) (by omega)]
  refine Yields.bif (fun k => ?_) fun k => ?_
  · have k := of_decide_eq_true k
    rw [if_pos (show 0 < x7 from k)]
    have e := tmod_fix (a := c - s) k
    have m0 := Int.emod_nonneg (c - s) (show x7 ≠ 0 by omega)
    refine Yields.bif (fun q => ?_) fun q => ?_
    · have q := of_decide_eq_true q
      rw [if_pos q] at e
      rw [wr (x := (c - s).tmod x7 + x7) (by omega) (by have := Int.emod_lt_of_pos (c - s) k; omega), e, decide_eq_true (show (c - s) % x7 ≥ 0 from m0), cond_true]
      exact Yields.bindE (atn hy) (Yields.some decide_eq_true_iff)
    · have q := of_decide_eq_false q
      rw [if_neg q] at e
      rw [e, decide_eq_true (show (c - s) % x7 ≥ 0 from m0), cond_true]
      exact Yields.bindE (atn hy) (Yields.some decide_eq_true_iff)
  · have k := of_decide_eq_false k
    rw [if_neg (show ¬ 0 < x7 from k)]
    refine Yields.bif (fun q => Yields.bindE (atn hy) (Yields.some ?_)) fun q => Yields.some ?_
    · have q := of_decide_eq_true q
      rw [decide_eq_true_iff]; omega
    · have q := of_decide_eq_false q
      exact ⟨fun h => (by cases h), fun h => by omega⟩
def Ov (x7 s m t n : Int) : Prop := ∃ c, (0 < x7 → 0 ≤ c ∧ c < x7) ∧ Occ x7 s m c ∧ Occ x7 t n c
def Cl (i j : Nat) : Prop := ∃ yi yj u si sj, l6[i]? = some yi ∧ l6[j]? = some yj ∧ l11[i]? = some u ∧ l11[j]? = some u ∧ l9[i]? = some si ∧ l9[j]? = some sj ∧ 0 ≤ yi.1 ∧ yi.1 = yj.1 ∧ ((i = j ∧ 0 < x7 ∧ x7 < yi.2) ∨ (i ≠ j ∧ Ov x7 si yi.2 sj yj.2))
theorem need_bd (hN : ∀ y ∈ l6, NeedOK l5 y) : ∀ y ∈ l6, 0 ≤ y.2 ∧ y.2 ≤ 256 := fun y hy => by
  rcases hN y hy with h | h <;> omega
theorem cl_iff {i j : Nat} {yi yj : Int × Int} {ui uj si sj : Int} (hyi : l6[i]? = some yi) (hyj : l6[j]? = some yj) (hui : l11[i]? = some ui) (huj : l11[j]? = some uj) (hsi : l9[i]? = some si) (hsj : l9[j]? = some sj) :
    Cl l6 x7 l9 l11 i j ↔ ui = uj ∧ 0 ≤ yi.1 ∧ yi.1 = yj.1 ∧ ((i = j ∧ 0 < x7 ∧ x7 < yi.2) ∨ (i ≠ j ∧ Ov x7 si yi.2 sj yj.2)) := by
  constructor
  · rintro ⟨yi', yj', u, si', sj', q1, q2, q3, q4, q5, q6, q7, q8, q9⟩
    rw [hyi] at q1; cases q1; rw [hyj] at q2; cases q2; rw [hsi] at q5; cases q5; rw [hsj] at q6; cases q6
    rw [hui] at q3; cases q3; rw [huj] at q4; cases q4
    exact ⟨rfl, q7, q8, q9⟩
  · rintro ⟨rfl, q7, q8, q9⟩
    exact ⟨yi, yj, ui, si, sj, hyi, hyj, hui, huj, hsi, hsj, q7, q8, q9⟩
theorem clash_iff (hN : ∀ y ∈ l6, NeedOK l5 y) (hT : ∀ s ∈ l9, TimeOK s) (h7 : 0 ≤ x7 ∧ x7 ≤ 256) (e9 : l9.length = l6.length) (e11 : l11.length = l6.length) {i j : Nat} (hi : i < l6.length) (hj : j < l6.length) :
    Yields (fun b => b = true ↔ Cl l6 x7 l9 l11 i j) (F53 x1 x2 x3 l4 l5 l6 x7 x8 l9 l10 l11 (i : Int) (j : Int)) := by
  obtain ⟨yi, hyi⟩ := some_nat hi
  obtain ⟨yj, hyj⟩ := some_nat hj
  obtain ⟨ui, hui⟩ := some_nat (l := l11) (i := i) (by omega)
  obtain ⟨uj, huj⟩ := some_nat (l := l11) (i := j) (by omega)
  obtain ⟨si, hsi⟩ := some_nat (l := l9) (i := i) (by omega)
  obtain ⟨sj, hsj⟩ := some_nat (l := l9) (i := j) (by omega)
  have bi := need_bd l5 l6 hN yi (List.mem_of_getElem? hyi)
  have bj := need_bd l5 l6 hN yj (List.mem_of_getElem? hyj)
  have ti : 0 ≤ si ∧ si ≤ 4096 := hT si (List.mem_of_getElem? hsi)
  have tj : 0 ≤ sj ∧ sj ≤ 4096 := hT sj (List.mem_of_getElem? hsj)
  rw [show (fun b : Bool => b = true ↔ Cl l6 x7 l9 l11 i j) = fun b : Bool => b = true ↔ (ui = uj ∧ 0 ≤ yi.1 ∧ yi.1 = yj.1 ∧ ((i = j ∧ 0 < x7 ∧ x7 < yi.2) ∨ (i ≠ j ∧ Ov x7 si yi.2 sj yj.2))) from funext fun b => by rw [cl_iff l6 x7 l9 l11 hyi hyj hui huj hsi hsj]]
  have no : ∀ {p : Prop}, ¬ p → (false = true ↔ p) := fun h => ⟨fun e => (by cases e), fun e => absurd e h⟩
  have yes : ∀ {p : Prop}, p → (true = true ↔ p) := fun h => ⟨fun _ => h, fun _ => rfl⟩
  unfold F53
  refine Yields.bindE (atn hyi) (Yields.bif (fun k => Yields.some (no fun h => ?_)) fun k => Yields.bindE (atn hyj) (Yields.bif (fun q => Yields.some (no fun h => bne_iff_ne.1 q h.2.2.1)) fun q => Yields.bindE (atn hui) (Yields.bindE (atn huj) (Yields.bif (fun w => Yields.some (no fun h => bne_iff_ne.1 w h.1)) fun w => Yields.bif (fun e => ?_) fun e => Yields.bindE (atn hsi) (Yields.bindE (atn hsj) ?_)))))
  · have := of_decide_eq_true k; omega
  · have e := beq_iff_eq.1 e
    have e : i = j := by omega
    have k := of_decide_eq_false k
    have q : yi.1 = yj.1 := by simpa using q
    have w : ui = uj := by simpa using w
    refine Yields.bif (fun z => Yields.some ?_) fun z => Yields.some (no ?_)
    · have z := of_decide_eq_true z
      rw [decide_eq_true_iff]
      exact ⟨fun h => ⟨w, by omega, q, .inl ⟨e, z, h⟩⟩, fun h => (h.2.2.2.resolve_right fun r => r.1 e).2.2⟩
    · rintro ⟨_, _, _, h | h⟩
      · exact of_decide_eq_false z h.2.1
      · exact h.1 e
  have e := beq_eq_false_iff_ne.1 e
  have e : i ≠ j := fun h => e (by rw [h])
  have k := of_decide_eq_false k
  have q : yi.1 = yj.1 := by simpa using q
  have w : ui = uj := by simpa using w
  rw [show (fun b : Bool => b = true ↔ (ui = uj ∧ 0 ≤ yi.1 ∧ yi.1 = yj.1 ∧ ((i = j ∧ 0 < x7 ∧ x7 < yi.2) ∨ (i ≠ j ∧ Ov x7 si yi.2 sj yj.2)))) = fun b : Bool => b = true ↔ Ov x7 si yi.2 sj yj.2 from funext fun b => propext (by
    constructor
    · intro h
      exact h.trans ⟨fun r => (r.2.2.2.resolve_left fun l => e l.1).2, fun r => ⟨w, by omega, q, .inr ⟨e, r⟩⟩⟩
    · intro h
      exact h.trans ⟨fun r => ⟨w, by omega, q, .inr ⟨e, r⟩⟩, fun r => (r.2.2.2.resolve_left fun l => e l.1).2⟩)]
  refine Yields.bif (fun z => ?_) fun z => ?_
  · have z := of_decide_eq_true z
    obtain ⟨n, hn⟩ : ∃ n : Nat, x7 = n := ⟨x7.toNat, by omega⟩
    refine Yields.bind (loop_chk n (fun c => ¬ (Occ x7 si yi.2 c ∧ Occ x7 sj yj.2 c)) ?_ ?_) ?_
    · intro c hc
      unfold F53_s1
      rw [wr (x := x7 - 1) (by omega) (by omega), decide_eq_true (show (c : Int) ≤ x7 - 1 by omega), cond_true]
      have nx : (Sum.inl (IntKind.i64.wrap ((c : Int) + 1)) : Int ⊕ Nat) = .inl ((c + 1 : Nat) : Int) := by rw [wr1 hc (by omega)]
      refine Yields.bind (occ_any x1 x2 x3 l4 l5 l6 x7 x8 l9 l10 l11 hsi hyi h7 ti (by omega)) fun b hb => Yields.bif (fun q => Yields.bind (occ_any x1 x2 x3 l4 l5 l6 x7 x8 l9 l10 l11 hsj hyj h7 tj (by omega)) fun b' hb' => Yields.bif (fun q' => Yields.some (.inr ⟨rfl, fun h => h ⟨hb.1 q, hb'.1 q'⟩⟩)) fun q' => Yields.some (.inl ⟨nx, fun h => ?_⟩)) fun q => Yields.some (.inl ⟨nx, fun h => ?_⟩)
      · rw [hb'.2 h.2] at q'; cases q'
      · rw [hb.2 h.1] at q; cases q
    · unfold F53_s1
      rw [wr (x := x7 - 1) (by omega) (by omega), decide_eq_false (by omega)]; rfl
    rintro r (⟨rfl, h⟩ | ⟨rfl, h⟩)
    · refine Yields.some (no ?_)
      rintro ⟨c, hc, h1, h2⟩
      have hc := hc z
      have := h c.toNat (by omega)
      rw [show ((c.toNat : Nat) : Int) = c by omega] at this
      exact this ⟨h1, h2⟩
    · refine Yields.some (yes ?_)
      refine Classical.byContradiction fun h2 => h fun c hc hcc => h2 ⟨c, fun _ => ⟨by omega, by omega⟩, hcc.1, hcc.2⟩
  · have z := of_decide_eq_false z
    have lo : (if sj < si then sj else si) ≤ si ∧ (if sj < si then sj else si) ≤ sj ∧ 0 ≤ (if sj < si then sj else si) ∧ (if sj < si then sj else si) ≤ 4096 := by split <;> omega
    have up : si ≤ (if sj > si then sj else si) ∧ sj ≤ (if sj > si then sj else si) ∧ (if sj > si then sj else si) ≤ 4096 := by split <;> omega
    generalize (if sj < si then sj else si) = a at *
    generalize hb : (if sj > si then sj else si) = b at *
    obtain ⟨n, hn⟩ : ∃ n : Nat, b + 257 - a = n := ⟨(b + 257 - a).toNat, by omega⟩
    refine Yields.bind (P := fun r : Nat => (r = 0 ∧ Ov x7 si yi.2 sj yj.2) ∨ r = 1 ∧ ∀ c, a ≤ c → c ≤ b + 256 → ¬ (Occ x7 si yi.2 c ∧ Occ x7 sj yj.2 c)) (Yields.loop n (fun (i : Nat) z => z = a + (i : Int) ∧ ∀ c, a ≤ c → c < a + (i : Int) → ¬ (Occ x7 si yi.2 c ∧ Occ x7 sj yj.2 c)) ⟨by omega, fun c h1 h2 => by omega⟩ ?_) ?_
    · rintro m c hm ⟨rfl, hk⟩
      unfold F53_s2
      rw [hb, wr (x := b + 256) (by omega) (by omega)]
      refine Yields.bif (fun hc => ?_) fun hc => Yields.some (.inr ⟨rfl, fun c h1 h2 => hk c h1 (by have := of_decide_eq_false hc; omega)⟩)
      have hc := of_decide_eq_true hc
      have nx : IntKind.i64.wrap (a + (m : Int) + 1) = a + ((m + 1 : Nat) : Int) := by rw [wr] <;> omega
      have more : ¬ (Occ x7 si yi.2 (a + m) ∧ Occ x7 sj yj.2 (a + m)) → ∀ c, a ≤ c → c < a + ((m + 1 : Nat) : Int) → ¬ (Occ x7 si yi.2 c ∧ Occ x7 sj yj.2 c) := by
        intro h c h1 h2
        by_cases e : c = a + m
        · rw [e]; exact h
        · exact hk c h1 (by omega)
      refine Yields.bind (occ_any x1 x2 x3 l4 l5 l6 x7 x8 l9 l10 l11 hsi hyi h7 ti (by omega)) fun b hb => Yields.bif (fun q => Yields.bind (occ_any x1 x2 x3 l4 l5 l6 x7 x8 l9 l10 l11 hsj hyj h7 tj (by omega)) fun b' hb' => Yields.bif (fun q' => Yields.some (.inl ⟨rfl, a + m, fun h => absurd h z, hb.1 q, hb'.1 q'⟩)) fun q' => Yields.some ⟨by omega, nx, more fun h => ?_⟩) fun q => Yields.some ⟨by omega, nx, more fun h => ?_⟩
      · rw [hb'.2 h.2] at q'; cases q'
      · rw [hb.2 h.1] at q; cases q
    · rintro r (⟨rfl, h⟩ | ⟨rfl, h⟩)
      · exact Yields.some (yes h)
      · refine Yields.some (no ?_)
        rintro ⟨c, _, hc1, hc2⟩
        have h1 := hc1; have h2 := hc2
        unfold Occ at h1 h2
        rw [if_neg z] at h1 h2
        exact h c (by omega) (by omega) ⟨hc1, hc2⟩
end
theorem emod_sub_l (a b n : Int) : (a % n - b) % n = (a - b) % n := by
  rw [Int.sub_emod, Int.emod_emod, ← Int.sub_emod]
theorem ov_mod {x7 s m t n : Int} (z : 0 < x7) (hm : 1 ≤ m) (hn : 1 ≤ n) : ((t - s) % x7 < m ∨ x7 - (t - s) % x7 < n) ↔ Ov x7 s m t n := by
  have d0 := Int.emod_nonneg (t - s) (show x7 ≠ 0 by omega)
  have d1 := Int.emod_lt_of_pos (t - s) z
  have dd := Int.mul_ediv_add_emod (t - s) x7
  constructor
  · rintro (h | h)
    · refine ⟨t % x7, fun _ => ⟨Int.emod_nonneg _ (by omega), Int.emod_lt_of_pos _ z⟩, ?_, ?_⟩
      · unfold Occ; rw [if_pos z, emod_sub_l]; exact h
      · unfold Occ; rw [if_pos z, emod_sub_l, Int.sub_self, Int.zero_emod]; omega
    · refine ⟨s % x7, fun _ => ⟨Int.emod_nonneg _ (by omega), Int.emod_lt_of_pos _ z⟩, ?_, ?_⟩
      · unfold Occ; rw [if_pos z, emod_sub_l, Int.sub_self, Int.zero_emod]; omega
      · unfold Occ; rw [if_pos z, emod_sub_l]
        generalize (t - s) % x7 = d at *
        generalize (t - s) / x7 = k at *
        by_cases e : d = 0
        · have : (s - t) % x7 = 0 := emod_one (q := -k) (by omega) (by omega) (by rw [Int.mul_neg]; omega)
          omega
        · have : (s - t) % x7 = x7 - d := emod_one (q := -k - 1) (by omega) (by omega) (by rw [Int.mul_sub, Int.mul_neg, Int.mul_one]; omega)
          omega
  · rintro ⟨c, _, h1, h2⟩
    unfold Occ at h1 h2
    rw [if_pos z] at h1 h2
    have p0 := Int.emod_nonneg (c - s) (show x7 ≠ 0 by omega)
    have p1 := Int.emod_lt_of_pos (c - s) z
    have pp := Int.mul_ediv_add_emod (c - s) x7
    have q0 := Int.emod_nonneg (c - t) (show x7 ≠ 0 by omega)
    have q1 := Int.emod_lt_of_pos (c - t) z
    have qq := Int.mul_ediv_add_emod (c - t) x7
    generalize (c - s) % x7 = p at *
    generalize (c - t) % x7 = q at *
    generalize (c - s) / x7 = a at *
    generalize (c - t) / x7 = b at *
    by_cases e : q ≤ p
    · have : (t - s) % x7 = p - q := emod_one (q := a - b) (by omega) (by omega) (by rw [Int.mul_sub]; omega)
      exact .inl (by omega)
    · have : (t - s) % x7 = p - q + x7 := emod_one (q := a - b - 1) (by omega) (by omega) (by rw [Int.mul_sub, Int.mul_sub, Int.mul_one]; omega)
      exact .inr (by omega)
theorem overlap_iff {x7 s m t n : Int} (h7 : 0 ≤ x7 ∧ x7 ≤ 256) (s0 : 0 ≤ s ∧ s ≤ 4096) (t0 : 0 ≤ t ∧ t ≤ 4096) (m0 : 1 ≤ m ∧ m ≤ 256) (n0 : 1 ≤ n ∧ n ≤ 256) : F48 x7 s m t n = true ↔ Ov x7 s m t n := by
  unfold F48
  by_cases e : x7 = 0
  · subst e
    rw [show ((0 : Int) == 0) = true from rfl, cond_true, wr (x := t + n) (by omega) (by omega), wr (x := s + m) (by omega) (by omega)]
    have : (bif decide (s < t + n) then decide (t < s + m) else false) = true ↔ s < t + n ∧ t < s + m := by
      cases h : decide (s < t + n)
      · have := of_decide_eq_false h
        exact ⟨fun e => (by cases e), fun e => by omega⟩
      · have := of_decide_eq_true h
        simp only [cond_true, decide_eq_true_iff]; omega
    rw [this]
    constructor
    · rintro ⟨h1, h2⟩
      refine ⟨if s < t then t else s, fun h => by omega, ?_, ?_⟩
      · unfold Occ; rw [if_neg (by omega)]; split <;> omega
      · unfold Occ; rw [if_neg (by omega)]; split <;> omega
    · rintro ⟨c, _, h1, h2⟩
      unfold Occ at h1 h2
      rw [if_neg (by omega)] at h1 h2
      omega
  · have z : 0 < x7 := by omega
    have fx := tmod_fix (a := t - s) z
    have d0 := Int.emod_nonneg (t - s) (show x7 ≠ 0 by omega)
    have d1 := Int.emod_lt_of_pos (t - s) z
    rw [show (x7 == 0) = false from beq_eq_false_iff_ne.2 e, cond_false, wr (x := t - s) (by omega) (by omega), ← ov_mod z m0.1 n0.1]
    have both : ∀ d : Int, d = (t - s) % x7 → ((bif decide (d < m) then true else decide (x7 - d < n)) = true ↔ ((t - s) % x7 < m ∨ x7 - (t - s) % x7 < n)) := by
      rintro d rfl
      cases h : decide ((t - s) % x7 < m)
      · have := of_decide_eq_false h
        rw [cond_false, decide_eq_true_iff]
        exact ⟨.inr, fun h => h.resolve_left this⟩
      · exact ⟨fun _ => .inl (of_decide_eq_true h), fun _ => rfl⟩
    cases hr : decide ((t - s).tmod x7 < 0)
    · have hr' := of_decide_eq_false hr
      rw [if_neg hr'] at fx
      rw [cond_false, wr (x := x7 - (t - s).tmod x7) (by omega) (by omega)]
      exact both _ fx
    · have hr' := of_decide_eq_true hr
      rw [if_pos hr'] at fx
      rw [cond_true]
      unfold F48__1
      rw [wr (x := t - s) (by omega) (by omega), wr (x := (t - s).tmod x7 + x7) (by omega) (by omega), wr (x := x7 - ((t - s).tmod x7 + x7)) (by omega) (by omega)]
      exact both _ fx
end Go.Proofs.Ytofnegejldgdbaa.Abs
