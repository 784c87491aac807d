/- Latest. -/
import Derived.Test.YtimeninncpmaeaaBfqP
namespace Go.Proofs.Ytimeninncpmaeaa.Abs
namespace D
open Go
set_option linter.unusedVariables false
set_option linter.unusedSimpArgs false
set_option maxHeartbeats 1000000
theorem pos_rev {n : Nat} {ii : Int} {l : List Ed} {c : List Int} (h : Cyc n (eds n ii true l l.length) c) : Pos n ii l c.reverse := by
  obtain ⟨m, es, h1, h2, h3, h4, h5, h6, h7⟩ := h
  have key : ∀ i, i < m → l[(es i).2.2.2.toNat]? = some ((l[(es i).2.2.2.toNat]?).getD (0, 0, 0, 0)) ∧ cnt46 n ((l[(es i).2.2.2.toNat]?).getD (0, 0, 0, 0)) = true ∧
      es i = (((l[(es i).2.2.2.toNat]?).getD (0, 0, 0, 0)).2.1, ((l[(es i).2.2.2.toNat]?).getD (0, 0, 0, 0)).1, F59 ((l[(es i).2.2.2.toNat]?).getD (0, 0, 0, 0)).1 ((l[(es i).2.2.2.toNat]?).getD (0, 0, 0, 0)).2.1 ((l[(es i).2.2.2.toNat]?).getD (0, 0, 0, 0)).2.2.1 ((l[(es i).2.2.2.toNat]?).getD (0, 0, 0, 0)).2.2.2 ii, ((es i).2.2.2.toNat : Int)) := by
    intro i hi
    obtain ⟨j, y, g1, g2, g3, g4⟩ := eds_mem (h4 i hi)
    rw [g4]
    simp only [cond_true, Int.toNat_natCast, g2, Option.getD_some]
    exact ⟨trivial, g3, trivial⟩
  generalize hy : (fun i => (l[(es i).2.2.2.toNat]?).getD (0, 0, 0, 0)) = ys at *
  have ey : ∀ i, (l[(es i).2.2.2.toNat]?).getD (0, 0, 0, 0) = ys i := fun i => congrFun hy i
  simp only [ey] at key
  have ea : ∀ i, i < m → (es i).1 = (ys i).2.1 := fun i hi => congrArg (fun z : Ed => z.1) (key i hi).2.2
  have eb : ∀ i, i < m → (es i).2.1 = (ys i).1 := fun i hi => congrArg (fun z : Ed => z.2.1) (key i hi).2.2
  refine ⟨m, fun i => (es (m - 1 - i)).2.2.2.toNat, fun i => ys (m - 1 - i), h1, h2, ?_, fun i hi => ⟨(key _ (by omega)).1, (key _ (by omega)).2.1⟩, fun i hi => ?_, fun i j hij hj e => ?_, ?_⟩
  · rw [h3, range_map_rev]
    apply List.map_congr_left
    intro i hi
    have hi := List.mem_range.1 hi
    have := (key (m - 1 - i) (by omega)).2.2
    exact congrArg (fun z : Ed => z.2.2.2) this
  · have hk : (i + 1) % m < m := Nat.mod_lt _ (by omega)
    simp only
    rw [← ea _ (by omega), ← eb _ (by omega), h5 _ (by omega)]
    congr 2
    by_cases hl : i + 1 < m
    · rw [Nat.mod_eq_of_lt hl, Nat.mod_eq_of_lt (by omega)]; omega
    · have : i + 1 = m := by omega
      rw [this, Nat.mod_self, show m - 1 - 0 + 1 = m by omega, Nat.mod_self]; omega
  · simp only at e
    rw [← eb _ (by omega), ← eb _ (by omega), h5 _ (by omega), h5 _ (by omega)] at e
    rw [show (m - 1 - j + 1) % m = m - j by rw [Nat.mod_eq_of_lt (by omega)]; omega] at e
    by_cases z : i = 0
    · subst z
      rw [show m - 1 - 0 + 1 = m by omega, Nat.mod_self] at e
      exact h6 0 (m - j) (by omega) (by omega) e
    · rw [show (m - 1 - i + 1) % m = m - i by rw [Nat.mod_eq_of_lt (by omega)]; omega] at e
      exact h6 (m - j) (m - i) (by omega) (by omega) e.symm
  · rw [ssum_congr (g' := fun i => (fun i => (es i).2.2.1) (m - 1 - i)) fun i hi => ?_, ssum_rev (fun i => (es i).2.2.1)]
    · exact h7
    · exact (congrArg (fun z : Ed => z.2.2.1) (key (m - 1 - i) (by omega)).2.2).symm
theorem sol_neg {n : Nat} {ii : Int} {l : List Ed} {z : Nat → Int} : Sol (eds n ii true l l.length) z ↔ SolL (lks n ii l) (fun v => - z v) := by
  constructor
  · intro h e he
    obtain ⟨y, h1, h2, rfl⟩ := lks_mem.1 he
    obtain ⟨i, hi⟩ := List.mem_iff_getElem?.1 h1
    have := h _ (mem_eds (ag := true) (ii := ii) (List.getElem?_eq_some_iff.1 hi).1 hi h2)
    simp only [cond_true] at this
    unfold lkOf
    simp only
    omega
  · intro h e he
    obtain ⟨i, y, h1, h2, h3, rfl⟩ := eds_mem he
    have := h (lkOf ii y) (lks_mem.2 ⟨y, List.mem_of_getElem? h2, h3, rfl⟩)
    unfold lkOf at this
    simp only [cond_true] at this ⊢
    omega
def IsOutL (n : Nat) (d : Nat → Nat → Int) (up : Nat → Int) (a : Nat) (y : Int) : Prop :=
  y ≤ up a ∧ (∀ b, b < n → noW < d a b → y ≤ up b - d a b) ∧ (y = up a ∨ ∃ b, b < n ∧ noW < d a b ∧ y = up b - d a b)
theorem FW.lat_sol {n : Nat} {E : List Lk} {B : Int} {d : Nat → Nat → Int} (H : FW n E B n d) (hB : 0 ≤ B ∧ B ≤ 562949953421312) (hE : ∀ e ∈ E, e.1 < n ∧ e.2.1 < n ∧ noW < e.2.2) {up out : Nat → Int} (ho : ∀ b, b < n → IsOutL n d up b (out b)) : SolL E out := by
  intro e he
  obtain ⟨h1, h2, h3⟩ := hE e he
  have w := H.ar e he
  have nw : noW < d e.1 e.2.1 := by omega
  obtain ⟨_, k2, _⟩ := ho e.1 h1
  obtain ⟨_, _, g3⟩ := ho e.2.1 h2
  rcases g3 with g3 | ⟨b, hb, q, g3⟩
  · have := k2 e.2.1 h2 nw
    omega
  · have c := H.cl e.2.1 h2 e.1 b h1 hb nw q
    have v1 := (H.bd e.2.1 b h2 hb).resolve_left (by omega)
    have v2 := (H.bd e.1 e.2.1 h1 h2).resolve_left (by omega)
    have := k2 b hb (by unfold noW at *; omega)
    omega
theorem FW.lat_most {n : Nat} {E : List Lk} {B : Int} {k : Nat} {d : Nat → Nat → Int} (H : FW n E B k d) {up : Nat → Int} {a : Nat} {y : Int} (ha : a < n) (ho : IsOutL n d up a y) {x : Nat → Int} (hx : SolL E x) (hl : ∀ v, v < n → x v ≤ up v) : x a ≤ y := by
  rcases ho.2.2 with e | ⟨b, hb, q, e⟩
  · rw [e]; exact hl a ha
  · have := H.so x hx a b ha hb q
    have := hl b hb
    omega
section
variable {x1 ii : Int} {n : Nat} {l : List Ed}
theorem best_lat (hn : n ≤ 20) {d : Nat → Nat → Int} {L : List (List Int)} {t : Bool} (hL : RowsN n n (mat d) L) (bd : ∀ a b, a < n → b < n → d a b = noW ∨ (-562949953421312 ≤ d a b ∧ d a b ≤ 562949953421312)) (l4 : List Int) {a : Nat} (ha : a < n) :
    Yields (IsOutL n d (bndI l4) a) (loopO (fun (s : Int × Int) => F29_s1 l4 (L, t) (a : Int) s.1 s.2) (bndI l4 a, 0)) := by
  refine Yields.loop n (fun (i : Nat) z => z.2 = (i : Int) ∧ z.1 ≤ bndI l4 a ∧ (∀ b, b < i → noW < d a b → z.1 ≤ bndI l4 b - d a b) ∧ (z.1 = bndI l4 a ∨ ∃ b, b < i ∧ noW < d a b ∧ z.1 = bndI l4 b - d a b)) ⟨rfl, Int.le_refl _, fun a h => absurd h (by omega), .inl rfl⟩ ?_
  rintro i ⟨y, c⟩ hi ⟨h1, h2, h3, h4⟩
  simp only at h1 h2 h3 h4
  subst h1
  unfold F29_s1
  simp only [hL.1]
  refine Yields.bif (fun hc => ?_) fun hc => Yields.some ?_
  · have hc := of_decide_eq_true hc
    have hin : i < n := by omega
    have nx : IntKind.i64.wrap ((i : Int) + 1) = ((i + 1 : Nat) : Int) := wr1 (n := n) (by omega) (by omega)
    obtain ⟨row, r1, r2⟩ := mat_at hL ha
    refine Yields.bindE r1 (Yields.bindE (r2 i hin) (Yields.bif (fun q => Yields.bindE (ref_bound l4 i) (Yields.some ⟨by omega, nx, ?_⟩)) fun q => Yields.some ⟨by omega, nx, h2, fun b hb w => ?_, ?_⟩))
    · have q : noW < d a i := of_decide_eq_true q
      have b1 := (bd a i ha hin).resolve_left (by omega)
      have b2 := bndI_bd l4 i
      simp only
      rw [wr (x := bndI l4 i - d a i) (by omega) (by omega)]
      split
      · rename_i g
        refine ⟨by omega, fun b hb w => ?_, .inr ⟨i, by omega, q, rfl⟩⟩
        by_cases eb : b = i
        · subst eb; omega
        · have := h3 b (by omega) w; omega
      · rename_i g
        refine ⟨h2, fun b hb w => ?_, h4.imp id fun ⟨b, hb, w⟩ => ⟨b, by omega, w⟩⟩
        by_cases eb : b = i
        · subst eb; omega
        · exact h3 b (by omega) w
    · have q : ¬ noW < d a i := of_decide_eq_false q
      by_cases eb : b = i
      · subst eb; exact absurd w q
      · exact h3 b (by omega) w
    · exact h4.imp id fun ⟨b, hb, w⟩ => ⟨b, by omega, w⟩
  · have hc := of_decide_eq_false hc
    have : i = n := by omega
    subst this
    exact ⟨h2, h3, h4⟩
/-- A greatest solution below bounds. -/
def Most (n : Nat) (E : List Lk) (up : Nat → Int) (r : List Int) : Prop := r.length = n ∧ SolL E (gd r) ∧ (∀ v, v < n → gd r v ≤ up v) ∧ ∀ x, SolL E x → (∀ v, v < n → x v ≤ up v) → ∀ v, v < n → x v ≤ gd r v
theorem Most.eq {E : List Lk} {up : Nat → Int} {r r' : List Int} (h : Most n E up r) (h' : Most n E up r') : r = r' := by
  apply List.ext_getElem?
  intro v
  by_cases hv : v < n
  · rw [gd_some (by have := h.1; omega), gd_some (by have := h'.1; omega)]
    have := h.2.2.2 _ h'.2.1 h'.2.2.1 v hv
    have := h'.2.2.2 _ h.2.1 h.2.2.1 v hv
    congr 1; omega
  · rw [List.getElem?_eq_none (by have := h.1; omega), List.getElem?_eq_none (by have := h'.1; omega)]
theorem latest_ref (hn : n ≤ 20) (e : F67 x1 = (n : Int)) (hl : l.length ≤ 100) (l4 : List Int) :
    Yields (fun r => (r.2 = true ∧ Most n (lks n ii l) (bndI l4) r.1) ∨ (r.2 = false ∧ ∀ x, ¬ SolL (lks n ii l) x)) (F29 x1 l ii l4) := by
  unfold F29
  refine Yields.bind (walks_any (ii := ii) hn e hl) ?_
  rintro ⟨L, t⟩ (⟨h1, d, h2, h3⟩ | ⟨h1, h2⟩)
  · simp only at h1 h2
    subst h1
    have bb := bk_bd (k := n) hn
    have bd : ∀ a b, a < n → b < n → d a b = noW ∨ (-562949953421312 ≤ d a b ∧ d a b ≤ 562949953421312) := fun a b ha hb => (h3.bd a b ha hb).imp id fun w => by omega
    simp only [Bool.not_true, cond_false]
    refine Yields.bind (P := fun r => r.length = n ∧ ∀ b, b < n → IsOutL n d (bndI l4) b (gd r b)) ?_ fun r hr => Yields.some (.inl ⟨rfl, hr.1, ?_, fun v hv => (hr.2 v hv).1, fun x hx hlo v hv => h3.lat_most hv (hr.2 v hv) hx hlo⟩)
    · refine Yields.loop n (fun (i : Nat) z => z.1 = (i : Int) ∧ z.2.length = i ∧ ∀ b, b < i → IsOutL n d (bndI l4) b (gd z.2 b)) ⟨rfl, rfl, fun b h => absurd h (by omega)⟩ ?_
      rintro i ⟨c, m⟩ hi ⟨g1, g2, g3⟩
      simp only at g1 g2 g3
      subst g1
      unfold F29_s2
      simp only [h2.1]
      refine Yields.bif (fun hc => ?_) fun hc => Yields.some ?_
      · have hc := of_decide_eq_true hc
        refine Yields.bindE (ref_bound l4 i) (Yields.bind (best_lat hn h2 bd l4 (show i < n by omega)) fun y hy => ?_)
        rw [oka (by show m.length + 1 ≤ 100000; omega) (by omega), cond_false]
        refine Yields.some ⟨by omega, wr1 (n := n) (by omega) (by omega), by simp [g2], fun b hb => ?_⟩
        have at1 : gd (m ++ [y]) b = if b = i then y else gd m b := by
          unfold gd
          by_cases eb : b = i
          · rw [if_pos eb, eb]; simp [List.getD, g2]
          · rw [if_neg eb]; simp only [List.getD]; rw [List.getElem?_append_left (by omega)]
        show IsOutL n d (bndI l4) b (gd (m ++ [y]) b)
        rw [at1]
        split
        · rename_i eb; rw [eb]; exact hy
        · exact g3 b (by omega)
      · have hc := of_decide_eq_false hc
        have : i = n := by omega
        subst this
        exact ⟨g2, g3⟩
    · exact h3.lat_sol bb (fun e he => by
        have := lks_ok e he
        refine ⟨this.1, this.2.1, ?_⟩
        unfold noW; omega) hr.2
  · simp only at h1
    subst h1
    exact Yields.some (.inr ⟨rfl, h2⟩)
theorem latest_all (hn : n ≤ 20) (e : F57 x1 = (n : Int)) (hm : l.length ≤ 90) (l4 : List Int) :
    Yields (fun r => (r.2 = [] ∧ Most n (lks n ii l) (bndI l4) r.1) ∨ (r.1 = [] ∧ Pos n ii l r.2 ∧ ∀ x, SolL (lks n ii l) x → (∀ v, v < n → x v ≤ bndI l4 v) → False)) (F50 x1 l ii l4) := by
  have ln : ((List.range n).map fun v => IntKind.i64.wrap (0 - bndI l4 v)).length = n := by simp
  have gs : ∀ v, v < n → gd ((List.range n).map fun v => IntKind.i64.wrap (0 - bndI l4 v)) v = - bndI l4 v := fun v hv => by
    have := bndI_bd l4 v
    rw [gd_map hv, wr (by omega) (by omega)]; omega
  obtain ⟨r, hr, ⟨r1, r2, r3, r4⟩, r5⟩ := raise_all (l1 := (List.range n).map fun v => IntKind.i64.wrap (0 - bndI l4 v)) (l2 := eds n ii true l l.length) (by omega) (Nat.le_trans (eds_len _ _ _ _ _) hm) (by
    intro v hv
    rw [ln] at hv
    have := bndI_bd l4 v
    rw [gs v hv]; omega) (by rw [ln]; exact eds_ok)
  rw [ln] at r1 r4 r5
  refine Yields.mono (latest_ok hn e hm l4 r1 r2 hr) fun q hq => ?_
  rcases r5 with ez | ez
  · have R := r3 ez
    rw [ez] at hq
    obtain rfl : q = ((List.range n).map (fun v => IntKind.i64.wrap (0 - gd r.2 v)), []) := hq
    have gn : ∀ v, v < n → gd ((List.range n).map (fun v => IntKind.i64.wrap (0 - gd r.2 v))) v = - gd r.2 v := fun v hv => by
      have a := R.lo v (by omega)
      rw [gs v hv] at a
      have b := R.hi v (by omega)
      have c := bndI_bd l4 v
      rw [gd_map hv, wr (by omega) (by omega)]; omega
    refine .inl ⟨rfl, by simp, fun e he => ?_, fun v hv => ?_, fun x hx hlo v hv => ?_⟩
    · obtain ⟨u1, u2, _⟩ := lks_ok e he
      have := sol_neg.1 R.sat e he
      simp only at this ⊢
      rw [gn _ u1, gn _ u2]; exact this
    · have := R.lo v (by omega)
      rw [gs v hv] at this
      simp only
      rw [gn v hv]; omega
    · have := R.least (fun v => - x v) (sol_neg.2 (by
        have : (fun v => - - x v) = x := funext fun v => Int.neg_neg _
        rw [this]; exact hx)) (fun v hv => by rw [ln] at hv; rw [gs v hv]; have := hlo v hv; omega) v (by omega)
      simp only
      rw [gn v hv]; omega
  · have ne := (ez.ne (by omega)).1
    have : r.1.isEmpty = false := by
      cases h : r.1 with
      | nil => exact absurd h ne
      | cons => rfl
    rw [this] at hq
    obtain ⟨q1, q2⟩ : q.1 = [] ∧ q.2 = r.1.reverse := hq
    refine .inr ⟨q1, by rw [q2]; exact pos_rev ez, fun x hx hlo => ne (r4 ⟨fun v => - x v, sol_neg.2 ?_, fun v hv => ?_⟩)⟩
    · have : (fun v => - - x v) = x := funext fun v => Int.neg_neg _
      rw [this]; exact hx
    · rw [gs v hv]; have := hlo v hv; show - bndI l4 v ≤ - x v; omega
end
end D
end Go.Proofs.Ytimeninncpmaeaa.Abs
