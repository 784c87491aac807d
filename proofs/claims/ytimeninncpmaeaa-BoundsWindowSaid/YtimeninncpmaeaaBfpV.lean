/- Flows and schedules: what both validators demand. -/
import Derived.Test.YtimeninncpmaeaaVw
import Derived.Test.YtimeninncpmaeaaBf
namespace Go.Proofs.Ytimeninncpmaeaa.Abs
open Go
set_option linter.unusedVariables false
set_option linter.unusedSimpArgs false
set_option maxHeartbeats 1000000

/-- A loop over the numbers below n that stops where something does not hold. -/
theorem loop_chk {step : Int → Option (Int ⊕ Nat)} (n : Nat) (p : Nat → Prop) (h1 : ∀ i : Nat, i < n → Yields (fun o : Int ⊕ Nat => (o = .inl ((i + 1 : Nat) : Int) ∧ p i) ∨ (o = .inr 0 ∧ ¬ p i)) (step i)) (h2 : step n = some (.inr 1)) :
    Yields (fun r => (r = 1 ∧ ∀ i, i < n → p i) ∨ (r = 0 ∧ ¬ ∀ i, i < n → p i)) (loopO step 0) := by
  refine Yields.loop n (fun (i : Nat) z => z = (i : Int) ∧ ∀ k, k < i → p k) ⟨rfl, fun k h => absurd h (by omega)⟩ ?_
  rintro i z hi ⟨rfl, hk⟩
  rcases Nat.lt_or_ge i n with h | h
  · refine (h1 i h).mono ?_
    rintro o (⟨rfl, hp⟩ | ⟨rfl, hp⟩)
    · refine ⟨h, rfl, fun k hk' => ?_⟩
      by_cases e : k = i
      · subst e; exact hp
      · exact hk k (by omega)
    · exact .inr ⟨rfl, fun q => hp (q i h)⟩
  · have : i = n := by omega
    subst this
    rw [h2]
    exact Yields.some (.inl ⟨rfl, hk⟩)
theorem wr {x : Int} (h1 : -9000000000000000000 ≤ x) (h2 : x ≤ 9000000000000000000) : IntKind.i64.wrap x = x := by rw [wrap_i64] <;> omega
theorem wr1 {i n : Nat} (h : i < n) (hn : n ≤ 9000000000000000000) : IntKind.i64.wrap ((i : Int) + 1) = ((i + 1 : Nat) : Int) := by rw [wr] <;> omega
theorem atn {α : Type} {l : List α} {i : Nat} {y : α} (h : l[i]? = some y) : at? l (i : Int) = some y := by
  unfold at?; rw [decide_eq_true (Int.natCast_nonneg i), cond_true, Int.toNat_natCast]; exact h
theorem atI {α : Type} {l : List α} {k : Int} {y : α} (h0 : 0 ≤ k) (h : l[k.toNat]? = some y) : at? l k = some y := by
  unfold at?; rw [decide_eq_true h0, cond_true]; exact h
theorem some_nat {α : Type} {l : List α} {i : Nat} (h : i < l.length) : ∃ y, l[i]? = some y := ⟨l[i], List.getElem?_eq_getElem h⟩
theorem all_idx {α : Type} {l : List α} {p : α → Prop} : (∀ i, i < l.length → ∃ y, l[i]? = some y ∧ p y) ↔ ∀ y ∈ l, p y := by
  constructor
  · intro h y hy
    obtain ⟨i, hi⟩ := List.mem_iff_getElem?.1 hy
    obtain ⟨z, hz, pz⟩ := h i (List.getElem?_eq_some_iff.1 hi).1
    rw [hi] at hz; cases hz; exact pz
  · intro h i hi
    obtain ⟨y, hy⟩ := some_nat hi
    exact ⟨y, hy, h y (List.mem_of_getElem? hy)⟩

abbrev Quad := Int × Int × Int × Int
section
variable (x1 x2 : Int) (x3 : Bool) (l4 l5 : List Quad) (l6 : List (Int × Int))
def ArcOK (a : Quad) : Prop := 0 ≤ a.1 ∧ a.1 < x1 + x2 + 1 ∧ 0 ≤ a.2.1 ∧ a.2.1 < x1 + x2 + 2 ∧ 0 ≤ a.2.2.1 ∧ a.2.2.1 ≤ 4096 ∧ 0 ≤ a.2.2.2 ∧ a.2.2.2 ≤ 256 ∧ (a.2.2.2 = 0 ∨ x3 = true)
def ResOK (r : Quad) : Prop := 1 ≤ r.1 ∧ r.1 ≤ 4 ∧ 1 ≤ r.2.2.2 ∧ r.2.2.2 ≤ 1024
def NeedOK (y : Int × Int) : Prop := (y.1 = -1 ∧ y.2 = 0) ∨ (0 ≤ y.1 ∧ y.1 < l5.length ∧ 1 ≤ y.2 ∧ y.2 ≤ 256)
def FrameOK (i : Nat) : Prop := l4[i]? = some (x1 + x2, if (i : Int) = x1 + x2 then x1 + x2 + 1 else (i : Int), 0, 0)
def EndOK (i : Nat) : Prop := ∃ a, l4[(x1 + x2 + 1 + i).toNat]? = some a ∧ a.1 = i ∧ a.2.1 = x1 + x2 + 1 ∧ a.2.2.2 = 0 ∧ ((i : Int) < x1 → ∀ y, l6[i]? = some y → 1 ≤ a.2.2.1 ∧ y.2 ≤ a.2.2.1)
def HeadOK : Prop := 0 ≤ x1 ∧ x1 ≤ 4096 ∧ 0 ≤ x2 ∧ x2 ≤ 4094 ∧ (l6.length : Int) = x1
def ValidOK : Prop := HeadOK x1 x2 l6 ∧ (∀ a ∈ l4, ArcOK x1 x2 x3 a) ∧ 2 * (x1 + x2) + 1 ≤ l4.length ∧ (∀ i : Nat, (i : Int) < x1 + x2 + 1 → FrameOK x1 x2 l4 i) ∧ (∀ r ∈ l5, ResOK r) ∧ (∀ i : Nat, (i : Int) < x1 + x2 → EndOK x1 x2 l4 l6 i) ∧ ∀ y ∈ l6, NeedOK l5 y
theorem bif_iff {b : Bool} {p : Prop} (h : b = true ↔ p) : (b = false ↔ ¬ p) := by
  cases b <;> simp_all

theorem arc_prog (hh : HeadOK x1 x2 l6) (a : Quad) : F53 x1 x2 x3 l4 l5 l6 a.1 a.2.1 a.2.2.1 a.2.2.2 = true ↔ ArcOK x1 x2 x3 a := by
  obtain ⟨h1, h2, h3, h4, _⟩ := hh
  have e1 : F42 x1 x2 x3 l4 l5 l6 = x1 + x2 + 2 := by unfold F42; rw [wr (x := x1 + x2), wr] <;> omega
  have e2 : F48 x1 x2 x3 l4 l5 l6 = x1 + x2 + 1 := by unfold F48; rw [wr (x := x1 + x2), wr] <;> omega
  unfold F53 ArcOK
  rw [e1, e2]
  obtain ⟨a, b, c, d⟩ := a
  simp only [Bool.cond_eq_ite, decide_eq_true_eq, bne_iff_ne, beq_iff_eq]
  repeat' split
  all_goals first
    | (constructor
       · intro _; refine ⟨by omega, by omega, by omega, by omega, by omega, by omega, by omega, by omega, .inl (by omega)⟩
       · intro _; rfl)
    | (constructor
       · intro h; refine ⟨by omega, by omega, by omega, by omega, by omega, by omega, by omega, by omega, .inr h⟩
       · rintro ⟨_, _, _, _, _, _, _, _, h | h⟩
         · omega
         · exact h)
    | (constructor
       · intro h; cases h
       · rintro ⟨_, _, _, _, _, _, _, _, _⟩; omega)
theorem need_split (y : Int × Int) : NeedOK l5 y ∨ ¬ NeedOK l5 y := Classical.em _
theorem small_len (hs : (l4.length : Int) ≤ 100) : l4.length ≤ 9000000000000000000 := by omega
theorem valid_prog (k4 : l4.length ≤ 1000) (k5 : l5.length ≤ 1000) (k6 : l6.length ≤ 1000) : Yields (fun r => r = true ↔ ValidOK x1 x2 x3 l4 l5 l6) (F33 x1 x2 x3 l4 l5 l6) := by
  unfold F33
  have no : ∀ {p : Prop}, ¬ p → (false = true ↔ p) := fun h => ⟨fun e => (by cases e), fun e => absurd e h⟩
  refine Yields.bif (fun h => Yields.some (no fun v => ?_)) fun h1 => Yields.bif (fun h => Yields.some (no fun v => ?_)) fun h2 => Yields.bif (fun h => Yields.some (no fun v => ?_)) fun h3 => Yields.bif (fun h => Yields.some (no fun v => ?_)) fun h4 => Yields.bif (fun h => Yields.some (no fun v => ?_)) fun h5 => ?_
  · have := of_decide_eq_true h; have := v.1.1; omega
  · have := of_decide_eq_true h; have := v.1.2.1; omega
  · have := of_decide_eq_true h; have := v.1.2.2.1; omega
  · have := of_decide_eq_true h; have := v.1.2.2.2.1; omega
  · exact bne_iff_ne.1 h v.1.2.2.2.2
  have h1 := of_decide_eq_false h1; have h2 := of_decide_eq_false h2; have h3 := of_decide_eq_false h3; have h4 := of_decide_eq_false h4
  have h5 := bne_eq_false_iff_eq.1 h5
  have hh : HeadOK x1 x2 l6 := ⟨by omega, by omega, by omega, by omega, h5⟩
  obtain ⟨m, hm⟩ : ∃ m : Nat, x1 + x2 = m := ⟨(x1 + x2).toNat, by omega⟩
  have w0 : IntKind.i64.wrap (x1 + x2) = x1 + x2 := by rw [wr] <;> omega
  have e2 : F48 x1 x2 x3 l4 l5 l6 = x1 + x2 + 1 := by unfold F48; rw [w0, wr] <;> omega
  have e3 : F49 x1 x2 x3 l4 l5 l6 = x1 + x2 := by unfold F49; rw [w0]
  refine Yields.bind (loop_chk l4.length (fun i => ∃ a, l4[i]? = some a ∧ ArcOK x1 x2 x3 a) ?_ ?_) ?_
  · intro i hi
    obtain ⟨a, ha⟩ := some_nat hi
    unfold F33_s1
    rw [decide_eq_true (show (i : Int) < l4.length by omega), cond_true]
    refine Yields.bindE (atn ha) ?_
    have q := arc_prog x1 x2 x3 l4 l5 l6 hh a
    refine Yields.bif (fun k => Yields.some (.inr ⟨rfl, ?_⟩)) fun k => Yields.some (.inl ⟨by rw [wr1 hi (by omega)], a, ha, q.1 (by simpa using k)⟩)
    rintro ⟨a', ha', ok⟩
    rw [ha] at ha'; cases ha'
    rw [q.2 ok] at k; cases k
  · unfold F33_s1; rw [decide_eq_false (by omega)]; rfl
  rintro r (⟨rfl, hA⟩ | ⟨rfl, hA⟩)
  rotate_left
  · exact Yields.some (no fun v => hA (all_idx.2 v.2.1))
  have hA := all_idx.1 hA
  show Yields _ (Option.bind _ _)
  refine Yields.bind (loop_chk l5.length (fun i => ∃ a, l5[i]? = some a ∧ ResOK a) ?_ ?_) ?_
  · intro i hi
    obtain ⟨a, ha⟩ := some_nat hi
    unfold F33_s2
    rw [decide_eq_true (show (i : Int) < l5.length by omega), cond_true]
    refine Yields.bindE (atn ha) ?_
    have bad : ¬ ResOK a → ¬ ∃ a, l5[i]? = some a ∧ ResOK a := by
      rintro h ⟨a', ha', ok⟩
      rw [ha] at ha'; cases ha'; exact h ok
    refine Yields.bif (fun k => Yields.some (.inr ⟨rfl, bad fun ok => ?_⟩)) fun k1 => Yields.bif (fun k => Yields.some (.inr ⟨rfl, bad fun ok => ?_⟩)) fun k2 => Yields.bif (fun k => Yields.some (.inr ⟨rfl, bad fun ok => ?_⟩)) fun k3 => Yields.bif (fun k => Yields.some (.inr ⟨rfl, bad fun ok => ?_⟩)) fun k4 => Yields.some (.inl ⟨by rw [wr1 hi (by omega)], a, ha, ?_⟩)
    · have := of_decide_eq_true k; have := ok.1; omega
    · have := of_decide_eq_true k; have := ok.2.1; omega
    · have := of_decide_eq_true k; have := ok.2.2.1; omega
    · have := of_decide_eq_true k; have := ok.2.2.2; omega
    · have := of_decide_eq_false k1; have := of_decide_eq_false k2; have := of_decide_eq_false k3; have := of_decide_eq_false k4
      exact ⟨by omega, by omega, by omega, by omega⟩
  · unfold F33_s2; rw [decide_eq_false (by omega)]; rfl
  rintro r (⟨rfl, hR⟩ | ⟨rfl, hR⟩)
  rotate_left
  · exact Yields.some (no fun v => hR (all_idx.2 v.2.2.2.2.1))
  have hR := all_idx.1 hR
  show Yields _ (Option.bind _ _)
  refine Yields.bind (loop_chk l6.length (fun i => ∃ a, l6[i]? = some a ∧ NeedOK l5 a) ?_ ?_) ?_
  · intro i hi
    obtain ⟨a, ha⟩ := some_nat hi
    unfold F33_s3
    rw [decide_eq_true (show (i : Int) < l6.length by omega), cond_true]
    refine Yields.bindE (atn ha) ?_
    have bad : ¬ NeedOK l5 a → ¬ ∃ a, l6[i]? = some a ∧ NeedOK l5 a := by
      rintro h ⟨a', ha', ok⟩
      rw [ha] at ha'; cases ha'; exact h ok
    have go : NeedOK l5 a → Yields (fun o : Int ⊕ Nat => (o = .inl ((i + 1 : Nat) : Int) ∧ ∃ a, l6[i]? = some a ∧ NeedOK l5 a) ∨ (o = .inr 0 ∧ ¬ ∃ a, l6[i]? = some a ∧ NeedOK l5 a)) (some (.inl (IntKind.i64.wrap ((i : Int) + 1)))) := fun ok => Yields.some (.inl ⟨by rw [wr1 hi (by omega)], a, ha, ok⟩)
    have st : ¬ NeedOK l5 a → Yields (fun o : Int ⊕ Nat => (o = .inl ((i + 1 : Nat) : Int) ∧ ∃ a, l6[i]? = some a ∧ NeedOK l5 a) ∨ (o = .inr 0 ∧ ¬ ∃ a, l6[i]? = some a ∧ NeedOK l5 a)) (some (.inr 0)) := fun ok => Yields.some (.inr ⟨rfl, bad ok⟩)
    simp only [Bool.cond_eq_ite, decide_eq_true_eq, beq_iff_eq, Bool.not_eq_true', beq_eq_false_iff_ne, ne_eq]
    repeat' split
    all_goals first
      | (refine go ?_; unfold NeedOK; omega)
      | (refine st ?_; unfold NeedOK; omega)
  · unfold F33_s3; rw [decide_eq_false (by omega)]; rfl
  rintro r (⟨rfl, hN⟩ | ⟨rfl, hN⟩)
  rotate_left
  · exact Yields.some (no fun v => hN (all_idx.2 v.2.2.2.2.2.2))
  have hN := all_idx.1 hN
  show Yields _ (Option.bind _ _)
  refine Yields.bind (P := fun r => r = true ↔ ValidOK x1 x2 x3 l4 l5 l6) ?_ fun r hr => Yields.some hr
  unfold F54 F54__1
  rw [w0, wr (x := 2 * (x1 + x2)) (by omega) (by omega), wr (x := 2 * (x1 + x2) + 1) (by omega) (by omega)]
  refine Yields.bif (fun h => Yields.some (no fun v => ?_)) fun hlen => ?_
  · have := of_decide_eq_true h; have := v.2.2.1; omega
  have hlen := of_decide_eq_false hlen
  refine Yields.bind (loop_chk (m + 1) (fun i => FrameOK x1 x2 l4 i) ?_ ?_) ?_
  · intro i hi
    obtain ⟨a, ha⟩ := some_nat (l := l4) (i := i) (by omega)
    unfold F54_s1 F54__2 F54__3
    rw [w0, wr (x := x1 + x2 + 1) (by omega) (by omega), decide_eq_true (show (i : Int) < x1 + x2 + 1 by omega), cond_true, e2, e3]
    have key : ∀ t : Int, (t = if (i : Int) = x1 + x2 then x1 + x2 + 1 else (i : Int)) → ((!((a.1 == (x1 + x2)) && ((a.2.1 == t) && ((a.2.2.1 == 0) && ((a.2.2.2 == 0) && true))))) = false ↔ FrameOK x1 x2 l4 i) := by
      intro t ht
      unfold FrameOK
      rw [ha, ← ht]
      obtain ⟨a, b, c, d⟩ := a
      simp only [Bool.not_eq_false', Bool.and_eq_true, beq_iff_eq, Option.some.injEq, Prod.mk.injEq, and_true]
    refine Yields.bif (fun hi' => Yields.bindE (atn ha) ?_) fun hi' => Yields.bindE (atn ha) ?_
    · have q := key (x1 + x2 + 1) (by rw [if_pos (beq_iff_eq.1 hi')])
      refine Yields.bif (fun k => Yields.some (.inr ⟨rfl, fun ok => ?_⟩)) fun k => Yields.some (.inl ⟨by rw [wr1 hi (by omega)], q.1 k⟩)
      rw [q.2 ok] at k; cases k
    · have q := key (i : Int) (by rw [if_neg (beq_eq_false_iff_ne.1 hi')])
      refine Yields.bif (fun k => Yields.some (.inr ⟨rfl, fun ok => ?_⟩)) fun k => Yields.some (.inl ⟨by rw [wr1 hi (by omega)], q.1 k⟩)
      rw [q.2 ok] at k; cases k
  · unfold F54_s1
    rw [w0, wr (x := x1 + x2 + 1) (by omega) (by omega), decide_eq_false (by omega)]; rfl
  rintro r (⟨rfl, hF⟩ | ⟨rfl, hF⟩)
  rotate_left
  · exact Yields.some (no fun v => hF fun i hi => v.2.2.2.1 i (by omega))
  show Yields _ (Option.bind _ _)
  refine Yields.bind (loop_chk m (fun i => EndOK x1 x2 l4 l6 i) ?_ ?_) ?_
  · intro i hi
    obtain ⟨a, ha⟩ := some_nat (l := l4) (i := (x1 + x2 + 1 + i).toNat) (by omega)
    have ha' : at? l4 (x1 + x2 + 1 + (i : Int)) = some a := atI (by omega) ha
    have bad : ∀ {p : Prop}, (EndOK x1 x2 l4 l6 i → p) → ¬ p → ¬ EndOK x1 x2 l4 l6 i := fun h hp ok => hp (h ok)
    have get : EndOK x1 x2 l4 l6 i → a.1 = i ∧ a.2.1 = x1 + x2 + 1 ∧ a.2.2.2 = 0 ∧ ((i : Int) < x1 → ∀ y, l6[i]? = some y → 1 ≤ a.2.2.1 ∧ y.2 ≤ a.2.2.1) := by
      rintro ⟨a', h1, h2⟩
      rw [ha] at h1; cases h1; exact h2
    unfold F54_s2
    rw [w0, wr (x := x1 + x2 + 1) (by omega) (by omega), wr (x := x1 + x2 + 1 + (i : Int)) (by omega) (by omega), decide_eq_true (show (i : Int) < x1 + x2 by omega), cond_true, e2]
    refine Yields.bindE ha' ?_
    refine Yields.bif (fun k => Yields.some (.inr ⟨rfl, fun ok => bne_iff_ne.1 k (get ok).1⟩)) fun k1 => Yields.bif (fun k => Yields.some (.inr ⟨rfl, fun ok => bne_iff_ne.1 k (get ok).2.1⟩)) fun k2 => Yields.bif (fun k => Yields.some (.inr ⟨rfl, fun ok => bne_iff_ne.1 k (get ok).2.2.1⟩)) fun k3 => ?_
    have k1 := bne_eq_false_iff_eq.1 k1; have k2 := bne_eq_false_iff_eq.1 k2; have k3 := bne_eq_false_iff_eq.1 k3
    refine Yields.bif (fun k => ?_) fun k => Yields.some (.inl ⟨by rw [wr1 hi (by omega)], a, ha, k1, k2, k3, fun q => absurd q (of_decide_eq_false k)⟩)
    have k := of_decide_eq_true k
    obtain ⟨y, hy⟩ := some_nat (l := l6) (i := i) (by omega)
    refine Yields.bindE (atn hy) (Yields.bif (fun q => Yields.some (.inr ⟨rfl, fun ok => ?_⟩)) fun q => Yields.some (.inl ⟨by rw [wr1 hi (by omega)], a, ha, k1, k2, k3, ?_⟩))
    · have q := of_decide_eq_true q
      have := (get ok).2.2.2 k y hy
      split at q <;> omega
    · have q := of_decide_eq_false q
      intro _ y' hy'
      rw [hy] at hy'; cases hy'
      split at q <;> omega
  · unfold F54_s2
    rw [w0, decide_eq_false (by omega)]; rfl
  rintro r (⟨rfl, hE⟩ | ⟨rfl, hE⟩)
  · exact Yields.some ⟨fun _ => ⟨hh, hA, by omega, fun i hi => hF i (by omega), hR, fun i hi => hE i (by omega), hN⟩, fun _ => rfl⟩
  · exact Yields.some (no fun v => hE fun i hi => v.2.2.2.2.2.1 i (by omega))
theorem valid_ref (k4 : l4.length ≤ 1000) (k5 : l5.length ≤ 1000) (k6 : l6.length ≤ 1000) : Yields (fun r => r = true ↔ ValidOK x1 x2 x3 l4 l5 l6) (F14 x1 x2 x3 l4 l5 l6) := by
  unfold F14
  have no : ∀ {p : Prop}, ¬ p → (false = true ↔ p) := fun h => ⟨fun e => (by cases e), fun e => absurd e h⟩
  refine Yields.bif (fun h => Yields.some (no fun v => ?_)) fun h1 => Yields.bif (fun h => Yields.some (no fun v => ?_)) fun h2 => Yields.bif (fun h => Yields.some (no fun v => ?_)) fun h3 => Yields.bif (fun h => Yields.some (no fun v => ?_)) fun h4 => Yields.bif (fun h => Yields.some (no fun v => ?_)) fun h5 => ?_
  · have := of_decide_eq_true h; have := v.1.1; omega
  · have := of_decide_eq_true h; have := v.1.2.1; omega
  · have := of_decide_eq_true h; have := v.1.2.2.1; omega
  · have := of_decide_eq_true h; have := v.1.2.2.2.1; omega
  · exact bne_iff_ne.1 h v.1.2.2.2.2
  have h1 := of_decide_eq_false h1; have h2 := of_decide_eq_false h2; have h3 := of_decide_eq_false h3; have h4 := of_decide_eq_false h4
  have h5 := bne_eq_false_iff_eq.1 h5
  have hh : HeadOK x1 x2 l6 := ⟨by omega, by omega, by omega, by omega, h5⟩
  obtain ⟨m, hm⟩ : ∃ m : Nat, x1 + x2 = m := ⟨(x1 + x2).toNat, by omega⟩
  have w0 : IntKind.i64.wrap (x1 + x2) = x1 + x2 := by rw [wr] <;> omega
  have e2 : F26 x1 x2 x3 l4 l5 l6 = x1 + x2 + 1 := by unfold F26; rw [w0, wr] <;> omega
  have e3 : F28 x1 x2 x3 l4 l5 l6 = x1 + x2 := by unfold F28; rw [w0]
  have w2 : IntKind.i64.wrap (x1 + x2 + 2) = x1 + x2 + 2 := by rw [wr] <;> omega
  have w3 : IntKind.i64.wrap (x1 + x2 + 2 - 1) = x1 + x2 + 1 := by rw [wr] <;> omega
  have w4 : IntKind.i64.wrap (x1 + x2 + 2 - 2) = x1 + x2 := by rw [wr] <;> omega
  refine Yields.bind (loop_chk l4.length (fun i => ∃ a, l4[i]? = some a ∧ ArcOK x1 x2 x3 a) ?_ ?_) ?_
  · intro i hi
    obtain ⟨a, ha⟩ := some_nat hi
    unfold F14_s1 F14__1
    rw [decide_eq_true (show (i : Int) < l4.length by omega), cond_true]
    refine Yields.bindE (atn ha) ?_
    rw [w0, w2, w3]
    have bad : ¬ ArcOK x1 x2 x3 a → ¬ ∃ a, l4[i]? = some a ∧ ArcOK x1 x2 x3 a := by
      rintro h ⟨a', ha', ok⟩
      rw [ha] at ha'; cases ha'; exact h ok
    have go : ArcOK x1 x2 x3 a → Yields (fun o : Int ⊕ Nat => (o = .inl ((i + 1 : Nat) : Int) ∧ ∃ a, l4[i]? = some a ∧ ArcOK x1 x2 x3 a) ∨ (o = .inr 0 ∧ ¬ ∃ a, l4[i]? = some a ∧ ArcOK x1 x2 x3 a)) (some (.inl (IntKind.i64.wrap ((i : Int) + 1)))) := fun ok => Yields.some (.inl ⟨by rw [wr1 hi (by omega)], a, ha, ok⟩)
    have st : ¬ ArcOK x1 x2 x3 a → Yields (fun o : Int ⊕ Nat => (o = .inl ((i + 1 : Nat) : Int) ∧ ∃ a, l4[i]? = some a ∧ ArcOK x1 x2 x3 a) ∨ (o = .inr 0 ∧ ¬ ∃ a, l4[i]? = some a ∧ ArcOK x1 x2 x3 a)) (some (.inr 0)) := fun ok => Yields.some (.inr ⟨rfl, bad ok⟩)
    simp only [Bool.cond_eq_ite, decide_eq_true_eq, Bool.not_eq_true']
    repeat' split
    all_goals first
      | (refine st ?_; rintro ⟨_, _, _, _, _, _, _, _, _⟩; omega)
      | (refine go ⟨by omega, by omega, by omega, by omega, by omega, by omega, by omega, by omega, .inl (by omega)⟩)
      | (refine go ⟨by omega, by omega, by omega, by omega, by omega, by omega, by omega, by omega, .inr ?_⟩; simp_all)
      | (refine st ?_; rintro ⟨_, _, _, _, _, _, _, _, h | h⟩ <;> first | omega | simp_all)
  · unfold F14_s1; rw [decide_eq_false (by omega)]; rfl
  rintro r (⟨rfl, hA⟩ | ⟨rfl, hA⟩)
  rotate_left
  · exact Yields.some (no fun v => hA (all_idx.2 v.2.1))
  have hA := all_idx.1 hA
  unfold F14__2
  rw [w0, w2, wr (x := 2 * (x1 + x2 + 2)) (by omega) (by omega), wr (x := 2 * (x1 + x2 + 2) - 3) (by omega) (by omega)]
  refine Yields.bif (fun h => by cases h) fun _ => Yields.bif (fun h => Yields.some (no fun v => ?_)) fun hlen => ?_
  · have := of_decide_eq_true h; have := v.2.2.1; omega
  have hlen := of_decide_eq_false hlen
  refine Yields.bind (loop_chk (m + 1) (fun i => FrameOK x1 x2 l4 i) ?_ ?_) ?_
  · intro i hi
    obtain ⟨a, ha⟩ := some_nat (l := l4) (i := i) (by omega)
    unfold F14_s2 F14__3 F14__4 F14__5
    rw [w0, w2, w3, decide_eq_true (show (i : Int) < x1 + x2 + 1 by omega), cond_true, e3]
    have key : ∀ t : Int, (t = if (i : Int) = x1 + x2 then x1 + x2 + 1 else (i : Int)) → ((!((a.1 == (x1 + x2)) && ((a.2.1 == t) && ((a.2.2.1 == 0) && ((a.2.2.2 == 0) && true))))) = false ↔ FrameOK x1 x2 l4 i) := by
      intro t ht
      unfold FrameOK
      rw [ha, ← ht]
      obtain ⟨a, b, c, d⟩ := a
      simp only [Bool.not_eq_false', Bool.and_eq_true, beq_iff_eq, Option.some.injEq, Prod.mk.injEq, and_true]
    rw [wr (x := (i : Int) + 1) (by omega) (by omega)]
    refine Yields.bif (fun hi' => Yields.bindE (atn ha) ?_) fun hi' => Yields.bindE (atn ha) ?_
    · have hi' := of_decide_eq_true hi'
      have q := key ((i : Int) + 1) (by rw [if_pos (by omega)]; omega)
      refine Yields.bif (fun k => Yields.some (.inr ⟨rfl, fun ok => ?_⟩)) fun k => Yields.some (.inl ⟨by simp, q.1 k⟩)
      rw [q.2 ok] at k; cases k
    · have hi' := of_decide_eq_false hi'
      have q := key (i : Int) (by rw [if_neg (by omega)])
      refine Yields.bif (fun k => Yields.some (.inr ⟨rfl, fun ok => ?_⟩)) fun k => Yields.some (.inl ⟨by simp, q.1 k⟩)
      rw [q.2 ok] at k; cases k
  · unfold F14_s2 F14__3
    rw [w0, w2, w3, decide_eq_false (by omega)]; rfl
  rintro r (⟨rfl, hF⟩ | ⟨rfl, hF⟩)
  rotate_left
  · exact Yields.some (no fun v => hF fun i hi => v.2.2.2.1 i (by omega))
  show Yields _ (Option.bind _ _)
  refine Yields.bind (loop_chk l5.length (fun i => ∃ a, l5[i]? = some a ∧ ResOK a) ?_ ?_) ?_
  · intro i hi
    obtain ⟨a, ha⟩ := some_nat hi
    unfold F14_s3
    rw [decide_eq_true (show (i : Int) < l5.length by omega), cond_true]
    refine Yields.bindE (atn ha) ?_
    have bad : ¬ ResOK a → ¬ ∃ a, l5[i]? = some a ∧ ResOK a := by
      rintro h ⟨a', ha', ok⟩
      rw [ha] at ha'; cases ha'; exact h ok
    refine Yields.bif (fun k => Yields.some (.inr ⟨rfl, bad fun ok => ?_⟩)) fun k1 => Yields.bif (fun k => Yields.some (.inr ⟨rfl, bad fun ok => ?_⟩)) fun k2 => Yields.bif (fun k => Yields.some (.inr ⟨rfl, bad fun ok => ?_⟩)) fun k3 => Yields.bif (fun k => Yields.some (.inr ⟨rfl, bad fun ok => ?_⟩)) fun k4 => Yields.some (.inl ⟨by rw [wr1 hi (by omega)], a, ha, ?_⟩)
    · have := of_decide_eq_true k; have := ok.1; omega
    · have := of_decide_eq_true k; have := ok.2.1; omega
    · have := of_decide_eq_true k; have := ok.2.2.1; omega
    · have := of_decide_eq_true k; have := ok.2.2.2; omega
    · have := of_decide_eq_false k1; have := of_decide_eq_false k2; have := of_decide_eq_false k3; have := of_decide_eq_false k4
      exact ⟨by omega, by omega, by omega, by omega⟩
  · unfold F14_s3; rw [decide_eq_false (by omega)]; rfl
  rintro r (⟨rfl, hR⟩ | ⟨rfl, hR⟩)
  rotate_left
  · exact Yields.some (no fun v => hR (all_idx.2 v.2.2.2.2.1))
  have hR := all_idx.1 hR
  show Yields _ (Option.bind _ _)
  refine Yields.bind (loop_chk m (fun i => EndOK x1 x2 l4 l6 i) ?_ ?_) ?_
  · intro i hi
    obtain ⟨a, ha⟩ := some_nat (l := l4) (i := (x1 + x2 + 1 + i).toNat) (by omega)
    have ha' : at? l4 (x1 + x2 + 1 + (i : Int)) = some a := atI (by omega) ha
    have bad : ∀ {p : Prop}, (EndOK x1 x2 l4 l6 i → p) → ¬ p → ¬ EndOK x1 x2 l4 l6 i := fun h hp ok => hp (h ok)
    have get : EndOK x1 x2 l4 l6 i → a.1 = i ∧ a.2.1 = x1 + x2 + 1 ∧ a.2.2.2 = 0 ∧ ((i : Int) < x1 → ∀ y, l6[i]? = some y → 1 ≤ a.2.2.1 ∧ y.2 ≤ a.2.2.1) := by
      rintro ⟨a', h1, h2⟩
      rw [ha] at h1; cases h1; exact h2
    unfold F14_s4 F14__6 F14__7
    rw [w0, w2, w3, w4, wr (x := x1 + x2 + 1 + (i : Int)) (by omega) (by omega), decide_eq_true (show (i : Int) < x1 + x2 by omega), cond_true, e2]
    refine Yields.bindE ha' ?_
    refine Yields.bif (fun k => Yields.some (.inr ⟨rfl, fun ok => bne_iff_ne.1 k (get ok).1⟩)) fun k1 => Yields.bif (fun k => Yields.some (.inr ⟨rfl, fun ok => bne_iff_ne.1 k (get ok).2.1⟩)) fun k2 => Yields.bif (fun k => Yields.some (.inr ⟨rfl, fun ok => bne_iff_ne.1 k (get ok).2.2.1⟩)) fun k3 => ?_
    have k1 := bne_eq_false_iff_eq.1 k1; have k2 := bne_eq_false_iff_eq.1 k2; have k3 := bne_eq_false_iff_eq.1 k3
    refine Yields.bif (fun k => ?_) fun k => Yields.some (.inl ⟨by rw [wr1 hi (by omega)], a, ha, k1, k2, k3, fun q => absurd q (of_decide_eq_false k)⟩)
    have k := of_decide_eq_true k
    obtain ⟨y, hy⟩ := some_nat (l := l6) (i := i) (by omega)
    refine Yields.bindE (atn hy) (Yields.bif (fun q => Yields.some (.inr ⟨rfl, fun ok => ?_⟩)) fun q => Yields.some (.inl ⟨by rw [wr1 hi (by omega)], a, ha, k1, k2, k3, ?_⟩))
    · have q := of_decide_eq_true q
      have := (get ok).2.2.2 k y hy
      split at q <;> omega
    · have q := of_decide_eq_false q
      intro _ y' hy'
      rw [hy] at hy'; cases hy'
      split at q <;> omega
  · unfold F14_s4 F14__6
    rw [w0, w2, w4, decide_eq_false (by omega)]; rfl
  rintro r (⟨rfl, hE⟩ | ⟨rfl, hE⟩)
  rotate_left
  · exact Yields.some (no fun v => hE fun i hi => v.2.2.2.2.2.1 i (by omega))
  show Yields _ (Option.bind _ _)
  refine Yields.bind (loop_chk l6.length (fun i => ∃ a, l6[i]? = some a ∧ NeedOK l5 a) ?_ ?_) ?_
  · intro i hi
    obtain ⟨a, ha⟩ := some_nat hi
    unfold F14_s5
    rw [decide_eq_true (show (i : Int) < l6.length by omega), cond_true]
    refine Yields.bindE (atn ha) ?_
    have bad : ¬ NeedOK l5 a → ¬ ∃ a, l6[i]? = some a ∧ NeedOK l5 a := by
      rintro h ⟨a', ha', ok⟩
      rw [ha] at ha'; cases ha'; exact h ok
    have go : NeedOK l5 a → Yields (fun o : Int ⊕ Nat => (o = .inl ((i + 1 : Nat) : Int) ∧ ∃ a, l6[i]? = some a ∧ NeedOK l5 a) ∨ (o = .inr 0 ∧ ¬ ∃ a, l6[i]? = some a ∧ NeedOK l5 a)) (some (.inl (IntKind.i64.wrap ((i : Int) + 1)))) := fun ok => Yields.some (.inl ⟨by rw [wr1 hi (by omega)], a, ha, ok⟩)
    have st : ¬ NeedOK l5 a → Yields (fun o : Int ⊕ Nat => (o = .inl ((i + 1 : Nat) : Int) ∧ ∃ a, l6[i]? = some a ∧ NeedOK l5 a) ∨ (o = .inr 0 ∧ ¬ ∃ a, l6[i]? = some a ∧ NeedOK l5 a)) (some (.inr 0)) := fun ok => Yields.some (.inr ⟨rfl, bad ok⟩)
    simp only [Bool.cond_eq_ite, decide_eq_true_eq, beq_iff_eq, bne_iff_ne, ne_eq]
    repeat' split
    all_goals first
      | (refine go ?_; unfold NeedOK; omega)
      | (refine st ?_; unfold NeedOK; omega)
  · unfold F14_s5; rw [decide_eq_false (by omega)]; rfl
  rintro r (⟨rfl, hN⟩ | ⟨rfl, hN⟩)
  rotate_left
  · exact Yields.some (no fun v => hN (all_idx.2 v.2.2.2.2.2.2))
  have hN := all_idx.1 hN
  exact Yields.some ⟨fun _ => ⟨hh, hA, by omega, fun i hi => hF i (by omega), hR, fun i hi => hE i (by omega), hN⟩, fun _ => rfl⟩
end
end Go.Proofs.Ytimeninncpmaeaa.Abs
