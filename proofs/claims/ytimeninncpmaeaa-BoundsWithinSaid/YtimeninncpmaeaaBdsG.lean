/- Bounds: a legal schedule is above every bound. -/
import Derived.Test.YtimeninncpmaeaaBdsE
import Derived.Test.YtimeninncpmaeaaBdpP
namespace Go.Proofs.Ytimeninncpmaeaa.Abs
open Go
set_option linter.unusedVariables false
set_option linter.unusedSimpArgs false
set_option maxHeartbeats 1000000
section
variable {x1 x2 : Int} {x3 : Bool} {l4 l5 : List Quad} {l6 : List (Int × Int)} {x7 x8 : Int} {l9 l10 l11 : List Int}
def tmv (x1 x2 x8 : Int) (l9 l10 : List Int) (v : Int) : Int := if v < x1 then D.gd l9 v.toNat else if v < x1 + x2 then D.gd l10 (v - x1).toNat else if v = x1 + x2 then 0 else x8
theorem time2_any (hh : HeadOK x1 x2 l6) (hf : FitOK x1 x2 x3 l5 l6 x7 x8 l9 l10 l11) {v : Int} (v0 : 0 ≤ v) (v1 : v < x1 + x2 + 2) :
    F30 x1 x2 x3 l4 l5 l6 x7 x8 l9 l10 l11 v = some (tmv x1 x2 x8 l9 l10 v) ∧ 0 ≤ tmv x1 x2 x8 l9 l10 v ∧ tmv x1 x2 x8 l9 l10 v ≤ 4096 := by
  obtain ⟨h1, h2, h3, h4, _⟩ := hh
  obtain ⟨f1, _, f2, _, _, _, f3, f4, f5, f6, _⟩ := hf
  have e28 : F28 x1 x2 x3 l4 l5 l6 = x1 + x2 := by unfold F28; rw [wr] <;> omega
  have key : ∀ {o : Option Int} {t : Int}, Yields (fun r => r = t ∧ 0 ≤ t ∧ t ≤ 4096) o → o = some t ∧ 0 ≤ t ∧ t ≤ 4096 := by
    rintro o t ⟨r, h, rfl, a, b⟩; exact ⟨h, a, b⟩
  apply key
  unfold F30 tmv
  rw [e28]
  refine Yields.bif (fun k => ?_) fun k => Yields.bif (fun q => ?_) fun q => Yields.bif (fun w => Yields.some ?_) fun w => Yields.some ?_
  · have k := of_decide_eq_true k
    rw [if_pos k]
    refine Yields.bindE (D.at_gd v0 (by omega)) (Yields.some ⟨rfl, ?_⟩)
    have := f5 (D.gd l9 v.toNat) (List.mem_of_getElem? (D.gd_some (by omega)))
    exact this
  · have k := of_decide_eq_false k; have q := of_decide_eq_true q
    rw [if_neg k, if_pos q, wr (x := v - x1) (by omega) (by omega)]
    refine Yields.bindE (D.at_gd (by omega) (by omega)) (Yields.some ⟨rfl, ?_⟩)
    have := f6 (D.gd l10 (v - x1).toNat) (List.mem_of_getElem? (D.gd_some (by omega)))
    exact this
  · have k := of_decide_eq_false k; have q := of_decide_eq_false q
    rw [if_neg k, if_neg q, if_pos (beq_iff_eq.1 w)]
    exact ⟨rfl, by omega, by omega⟩
  · have k := of_decide_eq_false k; have q := of_decide_eq_false q
    rw [if_neg k, if_neg q, if_neg (beq_eq_false_iff_ne.1 w)]
    exact ⟨rfl, by omega, by omega⟩
/-- What an arc that is not late says. -/
def ArcSat (x1 x2 x7 x8 : Int) (l9 l10 : List Int) (a : Quad) : Prop := a.2.2.1 - x7 * a.2.2.2 ≤ tmv x1 x2 x8 l9 l10 a.2.1 - tmv x1 x2 x8 l9 l10 a.1
theorem late2_any (hh : HeadOK x1 x2 l6) (hA : ∀ a ∈ l4, ArcOK x1 x2 x3 a) (hf : FitOK x1 x2 x3 l5 l6 x7 x8 l9 l10 l11) (k4 : l4.length ≤ 1000) :
    Yields (fun L => L = [] → ∀ a ∈ l4, ArcSat x1 x2 x7 x8 l9 l10 a) (F45 x1 x2 x3 l4 l5 l6 x7 x8 l9 l10 l11) := by
  have f7 := hf.2.2.2.1; have f8 := hf.2.2.2.2.1
  unfold F45
  refine Yields.bind (P := fun L : List Int => L = [] → ∀ a ∈ l4, ArcSat x1 x2 x7 x8 l9 l10 a) (Yields.loop l4.length (fun (i : Nat) z => z.1 = (i : Int) ∧ z.2.length ≤ i ∧ (z.2 = [] → ∀ j a, j < i → l4[j]? = some a → ArcSat x1 x2 x7 x8 l9 l10 a)) ⟨rfl, Nat.le_refl _, fun _ j a h => absurd h (by omega)⟩ ?_) fun L hL => Yields.some hL
  rintro i ⟨m, L⟩ hi ⟨h1, h2, h3⟩
  simp only at h1 h2 h3
  subst h1
  unfold F45_s1
  simp only
  refine Yields.bif (fun hc => ?_) fun hc => Yields.some fun e a ha => ?_
  · have hc := of_decide_eq_true hc
    obtain ⟨a, ha⟩ := some_nat (l := l4) (i := i) (by omega)
    obtain ⟨a1, a2, a3, a4, a5, a6, a7, a8, a9⟩ := hA a (List.mem_of_getElem? ha)
    have nx : IntKind.i64.wrap ((i : Int) + 1) = ((i + 1 : Nat) : Int) := wr1 (n := l4.length) (by omega) (by omega)
    obtain ⟨t1, t2, t3⟩ := time2_any (x3 := x3) (l4 := l4) (l11 := l11) hh hf a3 a4
    obtain ⟨s1, s2, s3⟩ := time2_any (x3 := x3) (l4 := l4) (l11 := l11) hh hf a1 (by omega)
    refine Yields.bindE (atn ha) (Yields.bindE t1 (Yields.bindE s1 (Yields.bif (fun q => ?_) fun q => Yields.some ⟨by omega, nx, by simp only; omega, ?_⟩)))
    · rw [ok_app (by simp only [List.length_singleton]; omega) (by simp only [List.length_singleton]; omega)]
      simp only [Bool.not_true, cond_false]
      exact Yields.some ⟨by omega, nx, by simp; omega, fun e => by simp at e⟩
    · intro e j a' hj ha'
      by_cases ej : j = i
      · subst ej
        rw [ha] at ha'; cases ha'
        have q := of_decide_eq_false q
        unfold F60 at q
        have pb := prod_bd (a := x7) (b := a.2.2.2) f7 (by omega) a7 (by omega)
        rw [wr (x := x7 * a.2.2.2) (by omega) (by omega), wr (x := a.2.2.1 - x7 * a.2.2.2) (by omega) (by omega), wr (x := tmv x1 x2 x8 l9 l10 a.2.1 - tmv x1 x2 x8 l9 l10 a.1) (by omega) (by omega)] at q
        unfold ArcSat
        omega
      · exact h3 e j a' (by omega) ha'
  · have hc := of_decide_eq_false hc
    obtain ⟨j, hj⟩ := List.mem_iff_getElem?.1 ha
    exact h3 e j a (by have := (List.getElem?_eq_some_iff.1 hj).1; omega) hj
/-- What a legal schedule says. -/
def LegOK (x1 x2 : Int) (x3 : Bool) (l4 l5 : List Quad) (l6 : List (Int × Int)) (x7 x8 : Int) (l9 l10 l11 : List Int) : Prop := FitOK x1 x2 x3 l5 l6 x7 x8 l9 l10 l11 ∧ (∀ a ∈ l4, ArcSat x1 x2 x7 x8 l9 l10 a) ∧ (∀ a ∈ l4, ArcEnd x1 x2 x8 l9 a) ∧ ∀ i j, i ≤ j → j < l6.length → Free l6 x7 l9 l11 i j
theorem legal2_any (hv : ValidOK x1 x2 x3 l4 l5 l6) (k4 : l4.length ≤ 1000) (k6 : l6.length ≤ 1000) (k9 : l9.length ≤ 1000) (k10 : l10.length ≤ 1000) :
    Yields (fun r => r = true → LegOK x1 x2 x3 l4 l5 l6 x7 x8 l9 l10 l11) (F22 x1 x2 x3 l4 l5 l6 x7 x8 l9 l10 l11) := by
  by_cases hf : FitOK x1 x2 x3 l5 l6 x7 x8 l9 l10 l11
  · obtain ⟨r, hr, h1⟩ := legal_any x1 x2 x3 l4 l5 l6 x7 x8 l9 l10 l11 hv.1 hv hf k4 k6 k9 k10
    have h2 : Yields (fun r => r = true → ∀ a ∈ l4, ArcSat x1 x2 x7 x8 l9 l10 a) (F22 x1 x2 x3 l4 l5 l6 x7 x8 l9 l10 l11) := by
      have hr2 := hr
      unfold F22 at hr2 ⊢
      refine Yields.bind (fits_ref x1 x2 x3 l4 l5 l6 x7 x8 l9 l10 l11 hv k6 k9 k10) fun r hr => Yields.bif (fun _ => Yields.some fun h => by cases h) fun _ => Yields.bif (fun _ => Yields.some fun h => by cases h) fun _ => ?_
      refine Yields.bind (P := fun _ => True) (Yields.loop l10.length (fun (i : Nat) z => z = (i : Int)) rfl ?_) fun t _ => Yields.bif (fun _ => Yields.some fun h => by cases h) fun _ => ?_
      · rintro i z hi rfl
        unfold F22_s1
        refine Yields.bif (fun hc => ?_) fun _ => Yields.some trivial
        have hc := of_decide_eq_true hc
        have nx : IntKind.i64.wrap ((i : Int) + 1) = ((i + 1 : Nat) : Int) := wr1 (n := l10.length) (by omega) (by omega)
        exact Yields.bif (fun _ => Yields.at (by omega) hc fun _ _ _ => Yields.bif (fun _ => Yields.some trivial) fun _ => Yields.some ⟨by omega, nx⟩) fun _ => Yields.some ⟨by omega, nx⟩
      refine Yields.bind (late2_any hv.1 hv.2.1 hf k4) fun L hL => Yields.bif (fun q => ?_) fun _ => Yields.some fun h => by cases h
      have q : L = [] := List.eq_nil_of_length_eq_zero (by have := beq_iff_eq.1 q; omega)
      refine Yields.bind (clashes_any x1 x2 x3 l4 l5 l6 x7 x8 l9 l10 l11 hv.2.2.2.2.2.2 hf.2.2.2.2.2.2.2.2.1 ⟨hf.2.2.2.1, hf.2.2.2.2.1⟩ hv.1.2.2.2.2 k6 (by have := hf.1; have := hv.1.2.2.2.2; omega) (by have := hf.2.1; have := hv.1.2.2.2.2; omega)) fun C hC => Yields.some fun h => hL q
    obtain ⟨r', hr', h2⟩ := h2
    rw [hr] at hr'
    cases hr'
    exact ⟨r, hr, fun h => ⟨hf, h2 h, (h1 h).1, (h1 h).2⟩⟩
  · unfold F22
    refine Yields.bind (fits_ref x1 x2 x3 l4 l5 l6 x7 x8 l9 l10 l11 hv k6 k9 k10) fun r hr => Yields.bif (fun _ => Yields.some fun h => by cases h) fun q => absurd (hr.1 (by simpa using q)) hf
theorem lim_id {x : Int} (h0 : 0 ≤ x) (h1 : x ≤ 4096) : F68 x 1048576 = x := by
  rw [D.limit_eq _ _ (by omega) (by omega)]
  repeat' split <;> omega
theorem wt_arc {a : Quad} (ha : ArcOK x1 x2 x3 a) (h7 : 0 ≤ x7 ∧ x7 ≤ 256) : F59 a.1 a.2.1 a.2.2.1 a.2.2.2 x7 = a.2.2.1 - x7 * a.2.2.2 := by
  obtain ⟨a1, a2, a3, a4, a5, a6, a7, a8, a9⟩ := ha
  rw [(D.weight_eq _ _ _ _ _).1, lim_id a5 a6, lim_id a7 (by omega)]
  have : D.clampI x7 = x7 := by unfold D.clampI; repeat' split <;> omega
  rw [this]
/-- The times of a legal schedule are a solution. -/
theorem leg_sol (hv : ValidOK x1 x2 x3 l4 l5 l6) (hl : LegOK x1 x2 x3 l4 l5 l6 x7 x8 l9 l10 l11) {n : Nat} : D.SolL (D.lks n x7 l4) (fun v => tmv x1 x2 x8 l9 l10 v) := by
  intro e he
  obtain ⟨y, hy, hc, rfl⟩ := D.lks_mem.1 he
  have ha := hv.2.1 y hy
  have hs := hl.2.1 y hy
  obtain ⟨a1, a2, a3, a4, _⟩ := id ha
  unfold ArcSat at hs
  unfold D.lkOf
  simp only
  rw [wt_arc ha ⟨hl.1.2.2.2.1, hl.1.2.2.2.2.1⟩, show ((y.1.toNat : Nat) : Int) = y.1 by omega, show ((y.2.1.toNat : Nat) : Int) = y.2.1 by omega]
  omega
theorem busy_le (hv : ValidOK x1 x2 x3 l4 l5 l6) (hl : LegOK x1 x2 x3 l4 l5 l6 x7 x8 l9 l10 l11) (h7 : 0 < x7) (r : Nat) : maxOf r l6 ≤ x7 := by
  refine (maxOf_le (by omega) fun y hy hr => ?_).2
  obtain ⟨i, hi⟩ := List.mem_iff_getElem?.1 hy
  have hlt := (List.getElem?_eq_some_iff.1 hi).1
  have hN := hv.2.2.2.2.2.2 y hy
  have e6 := hv.1.2.2.2.2
  obtain ⟨u, hu⟩ := some_nat (l := l11) (i := i) (by have := hl.1.2.1; omega)
  obtain ⟨s, hs⟩ := some_nat (l := l9) (i := i) (by have := hl.1.1; omega)
  exact (hl.2.2.2 i i (Nat.le_refl _) hlt y y u s s hi hi hu hu hs hs (by omega) rfl).1 rfl h7
theorem mul_lt_of {a b c : Int} (h : a * c < b) (hb : b ≤ c * x7) (hc : 1 ≤ c) : a < x7 := by
  rcases Int.lt_or_le a x7 with h1 | h1
  · exact h1
  · have := Int.mul_le_mul_of_nonneg_left h1 (show 0 ≤ c by omega)
    have e : a * c = c * a := Int.mul_comm ..
    omega
theorem res_le (hv : ValidOK x1 x2 true l4 l5 l6) (hf : Few x1 x2 l4 l5 l6) (hl : LegOK x1 x2 true l4 l5 l6 x7 x8 l9 l10 l11) (h7 : 0 < x7) {i : Nat} {q : Quad} (hq : l5[i]? = some q) : (resOf l6 i q).2.1 ≤ x7 := by
  have hq2 := hv.2.2.2.2.1 q (List.mem_of_getElem? hq)
  have bb := busy_bd l5 l6 hv.2.2.2.2.2.2 hf.2.2.1 (i : Int)
  have sp := shv_spec (s := busyOf i l6) (c := q.2.2.2) bb.1 (by omega) hq2.2.2.1 hq2.2.2.2
  have rm := room x1 x2 true l4 l5 l6 x7 x8 l9 l10 l11 hv hl.1 hl.2.2.1 hl.2.2.2 hq
  have mx := busy_le hv hl h7 i
  unfold resOf
  split
  · show (1 : Int) ≤ x7; omega
  · rename_i k
    split
    · exact mx
    · have s1 : 1 ≤ busyOf i l6 := by omega
      have := mul_lt_of (x7 := x7) (sp.2.2.1 s1) (by unfold lenOf at rm; exact rm) hq2.2.2.1
      show shv (busyOf i l6) q.2.2.2 ≤ x7
      omega
theorem cyc_no {n : Nat} (hn : n ≤ 20) {ii : Int} {A : List Quad} {c : List Int} (h : R.OkC n A c) (hp : 0 < R.sumC ii A c c.length) : ¬ Feas n A ii := by
  rintro ⟨x, hx⟩
  have fr : ∀ i, i < c.length → R.wt ii (R.ar A (R.gd c i)) ≤ x (R.ar A (R.gd c ((i + 1) % c.length))).1.toNat - x (R.ar A (R.gd c i)).1.toNat := by
    intro i hi
    obtain ⟨⟨g1, g2, g3⟩, lk, _⟩ := h i hi
    have hm : R.ar A (R.gd c i) ∈ A := by
      have : A[(R.gd c i).toNat]? = some (R.ar A (R.gd c i)) := by
        unfold R.ar
        rw [List.getD_eq_getElem?_getD, List.getElem?_eq_getElem (by omega)]; rfl
      exact List.mem_of_getElem? this
    have hc : D.cnt46 n (R.ar A (R.gd c i)) = true := by
      unfold R.cnt at g3
      rw [size_fix hn] at g3
      exact g3
    have := hx _ (D.lks_mem.2 ⟨_, hm, hc, rfl⟩)
    unfold D.lkOf at this
    simp only at this
    unfold R.LinkC at lk
    rw [← lk]
    unfold R.wt
    omega
  have key : ∀ i, i ≤ c.length → 0 < c.length → R.sumC ii A c i ≤ x (R.ar A (R.gd c (i % c.length))).1.toNat - x (R.ar A (R.gd c 0)).1.toNat := by
    intro i
    induction i with
    | zero => intro _ h0; rw [Nat.zero_mod]; simp [R.sumC]
    | succ i ih =>
      intro hi h0
      have a := ih (by omega) h0
      have b := fr i (by omega)
      rw [Nat.mod_eq_of_lt (show i < c.length by omega)] at a
      unfold R.sumC
      omega
  by_cases h0 : 0 < c.length
  · have := key c.length (Nat.le_refl _) h0
    rw [Nat.mod_self] at this
    omega
  · have : c.length = 0 := by omega
    rw [this] at hp
    simp [R.sumC] at hp
end
end Go.Proofs.Ytimeninncpmaeaa.Abs
