/- Latest. -/
import Derived.Test.YtimeninncpmaeaaBdqP
namespace Go.Proofs.Ytimeninncpmaeaa.Abs
namespace D
open Go
set_option linter.unusedVariables false
set_option linter.unusedSimpArgs false
set_option maxHeartbeats 1000000
theorem pos_rev {n : Nat} {ii : Int} {l : List Ed} {c : List Int} (h : Cyc n (eds n ii true l l.length) c) : Pos n ii l c.reverse := by
  obtain ⟨m, es, h1, h2, h3, h4, h5, h6, h7⟩ := h
  have key : ∀ i, i < m → l[(es i).2.2.2.toNat]? = some ((l[(es i).2.2.2.toNat]?).getD (0, 0, 0, 0)) ∧ cnt46 n ((l[(es i).2.2.2.toNat]?).getD (0, 0, 0, 0)) = true ∧
      es i = (((l[(es i).2.2.2.toNat]?).getD (0, 0, 0, 0)).2.1, ((l[(es i).2.2.2.toNat]?).getD (0, 0, 0, 0)).1, F59 ((l[(es i).2.2.2.toNat]?).getD (0, 0, 0, 0)).1 ((l[(es i).2.2.2.toNat]?).getD (0, 0, 0, 0)).2.1 ((l[(es i).2.2.2.toNat]?).getD (0, 0, 0, 0)).2.2.1 ((l[(es i).2.2.2.toNat]?).getD (0, 0, 0, 0)).2.2.2 ii, ((es i).2.2.2.toNat : Int)) := by
    intro i hi
    obtain ⟨j, y, g1, g2, g3, g4⟩ := eds_mem (h4 i hi)
    rw [g4]
    simp only [cond_true, Int.toNat_natCast, g2, Option.getD_some]
    exact ⟨trivial, g3, trivial⟩
  generalize hy : (fun i => (l[(es i).2.2.2.toNat]?).getD (0, 0, 0, 0)) = ys at *
  have ey : ∀ i, (l[(es i).2.2.2.toNat]?).getD (0, 0, 0, 0) = ys i := fun i => congrFun hy i
  simp only [ey] at key
  have ea : ∀ i, i < m → (es i).1 = (ys i).2.1 := fun i hi => congrArg (fun z : Ed => z.1) (key i hi).2.2
  have eb : ∀ i, i < m → (es i).2.1 = (ys i).1 := fun i hi => congrArg (fun z : Ed => z.2.1) (key i hi).2.2
  refine ⟨m, fun i => (es (m - 1 - i)).2.2.2.toNat, fun i => ys (m - 1 - i), h1, h2, ?_, fun i hi => ⟨(key _ (by omega)).1, (key _ (by omega)).2.1⟩, fun i hi => ?_, fun i j hij hj e => ?_, ?_⟩
  · rw [h3, range_map_rev]
    apply List.map_congr_left
    intro i hi
    have hi := List.mem_range.1 hi
    have := (key (m - 1 - i) (by omega)).2.2
    exact congrArg (fun z : Ed => z.2.2.2) this
  · have hk : (i + 1) % m < m := Nat.mod_lt _ (by omega)
    simp only
    rw [← ea _ (by omega), ← eb _ (by omega), h5 _ (by omega)]
    congr 2
    by_cases hl : i + 1 < m
    · rw [Nat.mod_eq_of_lt hl, Nat.mod_eq_of_lt (by omega)]; omega
    · have : i + 1 = m := by omega
      rw [this, Nat.mod_self, show m - 1 - 0 + 1 = m by omega, Nat.mod_self]; omega
  · simp only at e
    rw [← eb _ (by omega), ← eb _ (by omega), h5 _ (by omega), h5 _ (by omega)] at e
    rw [show (m - 1 - j + 1) % m = m - j by rw [Nat.mod_eq_of_lt (by omega)]; omega] at e
    by_cases z : i = 0
    · subst z
      rw [show m - 1 - 0 + 1 = m by omega, Nat.mod_self] at e
      exact h6 0 (m - j) (by omega) (by omega) e
    · rw [show (m - 1 - i + 1) % m = m - i by rw [Nat.mod_eq_of_lt (by omega)]; omega] at e
      exact h6 (m - j) (m - i) (by omega) (by omega) e.symm
  · rw [ssum_congr (g' := fun i => (fun i => (es i).2.2.1) (m - 1 - i)) fun i hi => ?_, ssum_rev (fun i => (es i).2.2.1)]
    · exact h7
    · exact (congrArg (fun z : Ed => z.2.2.1) (key (m - 1 - i) (by omega)).2.2).symm
theorem sol_neg {n : Nat} {ii : Int} {l : List Ed} {z : Nat → Int} : Sol (eds n ii true l l.length) z ↔ SolL (lks n ii l) (fun v => - z v) := by
  constructor
  · intro h e he
    obtain ⟨y, h1, h2, rfl⟩ := lks_mem.1 he
    obtain ⟨i, hi⟩ := List.mem_iff_getElem?.1 h1
    have := h _ (mem_eds (ag := true) (ii := ii) (List.getElem?_eq_some_iff.1 hi).1 hi h2)
    simp only [cond_true] at this
    unfold lkOf
    simp only
    omega
  · intro h e he
    obtain ⟨i, y, h1, h2, h3, rfl⟩ := eds_mem he
    have := h (lkOf ii y) (lks_mem.2 ⟨y, List.mem_of_getElem? h2, h3, rfl⟩)
    unfold lkOf at this
    simp only [cond_true] at this ⊢
    omega
section
variable {x1 ii : Int} {n : Nat} {l : List Ed}
/-- A greatest solution below bounds. -/
def Most (n : Nat) (E : List Lk) (up : Nat → Int) (r : List Int) : Prop := r.length = n ∧ SolL E (gd r) ∧ (∀ v, v < n → gd r v ≤ up v) ∧ ∀ x, SolL E x → (∀ v, v < n → x v ≤ up v) → ∀ v, v < n → x v ≤ gd r v
theorem Most.eq {E : List Lk} {up : Nat → Int} {r r' : List Int} (h : Most n E up r) (h' : Most n E up r') : r = r' := by
  apply List.ext_getElem?
  intro v
  by_cases hv : v < n
  · rw [gd_some (by have := h.1; omega), gd_some (by have := h'.1; omega)]
    have := h.2.2.2 _ h'.2.1 h'.2.2.1 v hv
    have := h'.2.2.2 _ h.2.1 h.2.2.1 v hv
    congr 1; omega
  · rw [List.getElem?_eq_none (by have := h.1; omega), List.getElem?_eq_none (by have := h'.1; omega)]
theorem latest_all (hn : n ≤ 20) (e : F57 x1 = (n : Int)) (hm : l.length ≤ 90) (l4 : List Int) :
    Yields (fun r => (r.2 = [] ∧ Most n (lks n ii l) (bndI l4) r.1) ∨ (r.1 = [] ∧ Pos n ii l r.2 ∧ ∀ x, SolL (lks n ii l) x → (∀ v, v < n → x v ≤ bndI l4 v) → False)) (F50 x1 l ii l4) := by
  have ln : ((List.range n).map fun v => IntKind.i64.wrap (0 - bndI l4 v)).length = n := by simp
  have gs : ∀ v, v < n → gd ((List.range n).map fun v => IntKind.i64.wrap (0 - bndI l4 v)) v = - bndI l4 v := fun v hv => by
    have := bndI_bd l4 v
    rw [gd_map hv, wr (by omega) (by omega)]; omega
  obtain ⟨r, hr, ⟨r1, r2, r3, r4⟩, r5⟩ := raise_all (l1 := (List.range n).map fun v => IntKind.i64.wrap (0 - bndI l4 v)) (l2 := eds n ii true l l.length) (by omega) (Nat.le_trans (eds_len _ _ _ _ _) hm) (by
    intro v hv
    rw [ln] at hv
    have := bndI_bd l4 v
    rw [gs v hv]; omega) (by rw [ln]; exact eds_ok)
  rw [ln] at r1 r4 r5
  refine Yields.mono (latest_ok hn e hm l4 r1 r2 hr) fun q hq => ?_
  rcases r5 with ez | ez
  · have R := r3 ez
    rw [ez] at hq
    obtain rfl : q = ((List.range n).map (fun v => IntKind.i64.wrap (0 - gd r.2 v)), []) := hq
    have gn : ∀ v, v < n → gd ((List.range n).map (fun v => IntKind.i64.wrap (0 - gd r.2 v))) v = - gd r.2 v := fun v hv => by
      have a := R.lo v (by omega)
      rw [gs v hv] at a
      have b := R.hi v (by omega)
      have c := bndI_bd l4 v
      rw [gd_map hv, wr (by omega) (by omega)]; omega
    refine .inl ⟨rfl, by simp, fun e he => ?_, fun v hv => ?_, fun x hx hlo v hv => ?_⟩
    · obtain ⟨u1, u2, _⟩ := lks_ok e he
      have := sol_neg.1 R.sat e he
      simp only at this ⊢
      rw [gn _ u1, gn _ u2]; exact this
    · have := R.lo v (by omega)
      rw [gs v hv] at this
      simp only
      rw [gn v hv]; omega
    · have := R.least (fun v => - x v) (sol_neg.2 (by
        have : (fun v => - - x v) = x := funext fun v => Int.neg_neg _
        rw [this]; exact hx)) (fun v hv => by rw [ln] at hv; rw [gs v hv]; have := hlo v hv; omega) v (by omega)
      simp only
      rw [gn v hv]; omega
  · have ne := (ez.ne (by omega)).1
    have : r.1.isEmpty = false := by
      cases h : r.1 with
      | nil => exact absurd h ne
      | cons => rfl
    rw [this] at hq
    obtain ⟨q1, q2⟩ : q.1 = [] ∧ q.2 = r.1.reverse := hq
    refine .inr ⟨q1, by rw [q2]; exact pos_rev ez, fun x hx hlo => ne (r4 ⟨fun v => - x v, sol_neg.2 ?_, fun v hv => ?_⟩)⟩
    · have : (fun v => - - x v) = x := funext fun v => Int.neg_neg _
      rw [this]; exact hx
    · rw [gs v hv]; have := hlo v hv; show - bndI l4 v ≤ - x v; omega
end
end D
end Go.Proofs.Ytimeninncpmaeaa.Abs
