/- The cycle that is returned is one, and positive; After and Earliest. -/
import Derived.Test.YtimeninncpmaeaaBfqX
namespace Go.Proofs.Ytimeninncpmaeaa.Abs
namespace D
open Go
set_option linter.unusedVariables false
set_option linter.unusedSimpArgs false
set_option maxHeartbeats 1000000
theorem mget_put (a : Int) (b : Bool) (v : Int) : ∀ xs : List (Int × Bool), (mget v (mput a b xs)).getD false = if v = a then b else (mget v xs).getD false
  | [] => by
    simp only [mput, mget]
    by_cases h : v = a
    · subst h; simp
    · have hva : (v == a) = false := beq_eq_false_iff_ne.2 h
      simp [h, hva]
  | p :: r => by
    have ih := mget_put a b v r
    simp only [mput]
    cases hp : (a == p.1) with
    | true =>
      have hp := beq_iff_eq.1 hp
      simp only [cond_true, mget]
      by_cases h : v = a
      · subst h; simp
      · have hva : (v == a) = false := beq_eq_false_iff_ne.2 h
        have : (v == p.1) = false := by rw [beq_eq_false_iff_ne, ← hp]; exact h
        simp [h, this, hva]
    | false =>
      have hp := beq_eq_false_iff_ne.1 hp
      simp only [cond_false, mget]
      cases hv : (v == p.1) with
      | true =>
        have hv := beq_iff_eq.1 hv
        have : v ≠ a := fun e => hp (e ▸ hv)
        simp [this]
      | false => simp only [cond_false]; exact ih
/-- A simple cycle of arcs that count, with a positive weight. -/
def Pos (n : Nat) (ii : Int) (l : List Ed) (c : List Int) : Prop := ∃ (m : Nat) (ix : Nat → Nat) (ys : Nat → Ed), 1 ≤ m ∧ m ≤ n ∧ c = (List.range m).map (fun i => (ix i : Int)) ∧ (∀ i, i < m → l[ix i]? = some (ys i) ∧ cnt46 n (ys i) = true) ∧
  (∀ i, i < m → (ys i).2.1 = (ys ((i + 1) % m)).1) ∧ (∀ i j, i < j → j < m → (ys i).1 ≠ (ys j).1) ∧ 0 < ssum (fun i => F59 (ys i).1 (ys i).2.1 (ys i).2.2.1 (ys i).2.2.2 ii) m
theorem pos_of {n : Nat} {ii : Int} {l : List Ed} {c : List Int} (h : Cyc n (eds n ii false l l.length) c) : Pos n ii l c := by
  obtain ⟨m, es, h1, h2, h3, h4, h5, h6, h7⟩ := h
  have key : ∀ i, i < m → l[(es i).2.2.2.toNat]? = some ((l[(es i).2.2.2.toNat]?).getD (0, 0, 0, 0)) ∧ cnt46 n ((l[(es i).2.2.2.toNat]?).getD (0, 0, 0, 0)) = true ∧
      es i = (((l[(es i).2.2.2.toNat]?).getD (0, 0, 0, 0)).1, ((l[(es i).2.2.2.toNat]?).getD (0, 0, 0, 0)).2.1, F59 ((l[(es i).2.2.2.toNat]?).getD (0, 0, 0, 0)).1 ((l[(es i).2.2.2.toNat]?).getD (0, 0, 0, 0)).2.1 ((l[(es i).2.2.2.toNat]?).getD (0, 0, 0, 0)).2.2.1 ((l[(es i).2.2.2.toNat]?).getD (0, 0, 0, 0)).2.2.2 ii, ((es i).2.2.2.toNat : Int)) := by
    intro i hi
    obtain ⟨j, y, g1, g2, g3, g4⟩ := eds_mem (h4 i hi)
    rw [g4]
    simp only [cond_false, Int.toNat_natCast, g2, Option.getD_some]
    exact ⟨trivial, g3, trivial⟩
  generalize hy : (fun i => (l[(es i).2.2.2.toNat]?).getD (0, 0, 0, 0)) = ys at *
  have ey : ∀ i, (l[(es i).2.2.2.toNat]?).getD (0, 0, 0, 0) = ys i := fun i => congrFun hy i
  simp only [ey] at key
  refine ⟨m, fun i => (es i).2.2.2.toNat, ys, h1, h2, ?_, fun i hi => ⟨(key i hi).1, (key i hi).2.1⟩, fun i hi => ?_, fun i j hij hj e => ?_, ?_⟩
  · rw [h3]
    apply List.map_congr_left
    intro i hi
    have := (key i (List.mem_range.1 hi)).2.2
    exact congrArg (fun z : Ed => z.2.2.2) this
  · have a := congrArg (fun z : Ed => z.2.1) (key i hi).2.2
    have b := congrArg (fun z : Ed => z.1) (key ((i + 1) % m) (Nat.mod_lt _ (by omega))).2.2
    simp only at a b
    rw [← a, ← b]; exact h5 i hi
  · have a := congrArg (fun z : Ed => z.1) (key i (by omega)).2.2
    have b := congrArg (fun z : Ed => z.1) (key j hj).2.2
    simp only at a b
    rw [← a, ← b] at e
    exact h6 i j hij hj e
  · rw [ssum_congr (g' := fun i => (es i).2.2.1) fun i hi => ?_]
    · exact h7
    · have a := congrArg (fun z : Ed => z.2.2.1) (key i hi).2.2
      simp only at a
      exact a.symm
theorem ssum_bd {g : Nat → Int} {B : Int} (hB : 0 ≤ B) : ∀ {m : Nat}, (∀ i, -B ≤ g i ∧ g i ≤ B) → -(B * m) ≤ ssum g m ∧ ssum g m ≤ B * m
  | 0, _ => by simp [ssum]
  | m + 1, h => by
    have h1 := ssum_bd hB (m := m) h
    have h2 := h m
    simp only [ssum]
    have : B * ((m + 1 : Nat) : Int) = B * m + B := by rw [Int.natCast_succ, Int.mul_add, Int.mul_one]
    omega
section
variable {x1 ii : Int} {n : Nat} {l : List Ed} {c : List Int}
theorem next_ix {i m : Nat} (hm : 1 ≤ m) (hi : i < m) (hm2 : m ≤ 1000) : (IntKind.i64.wrap ((i : Int) + 1)).tmod (m : Int) = (((i + 1) % m : Nat) : Int) := by
  rw [wr (x := (i : Int) + 1) (by omega) (by omega), Int.tmod_eq_emod_of_nonneg (by omega)]
  rfl
theorem at_map {f : Nat → Int} {m i : Nat} (hi : i < m) : at? ((List.range m).map f) (i : Int) = some (f i) := by
  refine atn ?_
  rw [List.getElem?_map, List.getElem?_range hi]; rfl
theorem after_all (hn : n ≤ 20) (e : F57 x1 = (n : Int)) (hm : l.length ≤ 90) (l4 : List Int) :
    Yields (fun r => (r.2 = [] ∧ Least n (lks n ii l) (bndI l4) r.1) ∨ (r.1 = [] ∧ Pos n ii l r.2 ∧ ∀ x, SolL (lks n ii l) x → (∀ v, v < n → bndI l4 v ≤ x v) → False)) (F62 x1 l ii l4) := by
  have ln := sts_len l4 n
  have gs : ∀ v, v < n → gd (sts l4 n) v = bndI l4 v := fun v hv => gd_map hv
  obtain ⟨r, hr, ⟨r1, r2, r3, r4⟩, r5⟩ := raise_all (l1 := sts l4 n) (l2 := eds n ii false l l.length) (by omega) (Nat.le_trans (eds_len _ _ _ _ _) hm) (sts_bd l4 n) (by rw [ln]; exact eds_ok)
  rw [after_ok hn e hm l4 hr]
  rw [ln] at r1 r4 r5
  have ez : r.1 = [] ∨ Pos n ii l r.1 := r5.imp id pos_of
  rcases ez with ez | ez
  · rw [ez]
    have R := r3 ez
    refine Yields.some (.inl ⟨rfl, r1, sol_lks.2 R.sat, fun v hv => ?_, fun x hx hlo v hv => ?_⟩)
    · have := R.lo v (by omega)
      rw [gs v hv] at this; exact this
    · exact R.least x (sol_lks.1 hx) (fun v hv => by rw [gs v (by omega)]; exact hlo v (by omega)) v (by omega)
  · have ne : r.1 ≠ [] := by
      obtain ⟨m, ix, ys, h1, _, h3, _⟩ := ez
      intro w
      rw [w] at h3
      have := congrArg List.length h3
      simp at this; omega
    have : r.1.isEmpty = false := by
      cases h : r.1 with
      | nil => exact absurd h ne
      | cons => rfl
    rw [this]
    refine Yields.some (.inr ⟨rfl, ez, fun x hx hlo => ne (r4 ⟨x, sol_lks.1 hx, fun v hv => ?_⟩)⟩)
    rw [gs v hv]; exact hlo v hv
end
end D
end Go.Proofs.Ytimeninncpmaeaa.Abs
