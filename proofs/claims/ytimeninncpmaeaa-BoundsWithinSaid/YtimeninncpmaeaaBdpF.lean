/- Schedules that fit. -/
import Derived.Test.YtimeninncpmaeaaBdpV
namespace Go.Proofs.Ytimeninncpmaeaa.Abs
open Go
set_option linter.unusedVariables false
set_option linter.unusedSimpArgs false
set_option maxHeartbeats 1000000
section
variable (x1 x2 : Int) (x3 : Bool) (l4 l5 : List Quad) (l6 : List (Int × Int)) (x7 x8 : Int) (l9 l10 l11 : List Int)
def UnitOK (y : Int × Int) (u : Int) : Prop := (y.1 < 0 → u = -1) ∧ (0 ≤ y.1 → 0 ≤ u ∧ ∀ r, l5[y.1.toNat]? = some r → u < r.2.2.2)
def TimeOK (s : Int) : Prop := 0 ≤ s ∧ s ≤ 4096
def UnitsOK (i : Nat) : Prop := ∃ y u, l6[i]? = some y ∧ l11[i]? = some u ∧ UnitOK l5 y u
def FitOK : Prop := (l9.length : Int) = x1 ∧ (l11.length : Int) = x1 ∧ (l10.length : Int) = x2 ∧ 0 ≤ x7 ∧ x7 ≤ 256 ∧ (0 < x7 ↔ x3 = true) ∧ 1 ≤ x8 ∧ x8 ≤ 4096 ∧ (∀ s ∈ l9, TimeOK s) ∧ (∀ s ∈ l10, TimeOK s) ∧ ∀ i, i < l6.length → UnitsOK l5 l6 l11 i
theorem fits_ref (hv : ValidOK x1 x2 x3 l4 l5 l6) (k6 : l6.length ≤ 1000) (k9 : l9.length ≤ 1000) (k10 : l10.length ≤ 1000) : Yields (fun r => r = true ↔ FitOK x1 x2 x3 l5 l6 x7 x8 l9 l10 l11) (F44 x1 x2 x3 l4 l5 l6 x7 x8 l9 l10 l11) := by
  unfold F44
  have no : ∀ {p : Prop}, ¬ p → (false = true ↔ p) := fun h => ⟨fun e => (by cases e), fun e => absurd e h⟩
  refine Yields.bif (fun h => Yields.some (no fun v => bne_iff_ne.1 h v.1)) fun h1 => Yields.bif (fun h => Yields.some (no fun v => bne_iff_ne.1 h v.2.1)) fun h2 => Yields.bif (fun h => Yields.some (no fun v => bne_iff_ne.1 h v.2.2.1)) fun h3 => Yields.bif (fun h => Yields.some (no fun v => ?_)) fun h4 => Yields.bif (fun h => Yields.some (no fun v => ?_)) fun h5 => Yields.bif (fun h => Yields.some (no fun v => ?_)) fun h6 => Yields.bif (fun h => Yields.some (no fun v => ?_)) fun h7 => Yields.bif (fun h => Yields.some (no fun v => ?_)) fun h8 => ?_
  · have := of_decide_eq_true h; have := v.2.2.2.1; omega
  · have := of_decide_eq_true h; have := v.2.2.2.2.1; omega
  · have e := v.2.2.2.2.2.1
    cases x3 with
    | true => rw [decide_eq_true (show x7 > 0 from e.2 rfl)] at h; cases h
    | false => rw [decide_eq_false (show ¬ x7 > 0 from fun q => by have := e.1 q; cases this)] at h; cases h
  · have := of_decide_eq_true h; have := v.2.2.2.2.2.2.1; omega
  · have := of_decide_eq_true h; have := v.2.2.2.2.2.2.2.1; omega
  have h1 := bne_eq_false_iff_eq.1 h1; have h2 := bne_eq_false_iff_eq.1 h2; have h3 := bne_eq_false_iff_eq.1 h3
  have h4 := of_decide_eq_false h4; have h5 := of_decide_eq_false h5; have h7 := of_decide_eq_false h7; have h8 := of_decide_eq_false h8
  have h6' : 0 < x7 ↔ x3 = true := by
    cases x3 with
    | true => simp at h6; exact ⟨fun _ => rfl, fun _ => h6⟩
    | false => simp at h6; exact ⟨fun q => by omega, fun q => by cases q⟩
  have hl : (l6.length : Int) = x1 := hv.1.2.2.2.2
  have e9 : l9.length = l6.length := by omega
  refine Yields.bind (loop_chk l9.length (fun i => (∃ s, l9[i]? = some s ∧ TimeOK s) ∧ UnitsOK l5 l6 l11 i) ?_ ?_) ?_
  · intro i hi
    obtain ⟨s, hs⟩ := some_nat hi
    obtain ⟨y, hy⟩ := some_nat (l := l6) (i := i) (by omega)
    obtain ⟨u, hu⟩ := some_nat (l := l11) (i := i) (by omega)
    have bad : ¬ (TimeOK s ∧ UnitOK l5 y u) → ¬ ((∃ s, l9[i]? = some s ∧ TimeOK s) ∧ UnitsOK l5 l6 l11 i) := by
      rintro h ⟨⟨s', hs', ts⟩, y', u', hy', hu', ok⟩
      rw [hs] at hs'; cases hs'; rw [hy] at hy'; cases hy'; rw [hu] at hu'; cases hu'; exact h ⟨ts, ok⟩
    have go : TimeOK s ∧ UnitOK l5 y u → Yields (fun o : Int ⊕ Nat => (o = .inl ((i + 1 : Nat) : Int) ∧ ((∃ s, l9[i]? = some s ∧ TimeOK s) ∧ UnitsOK l5 l6 l11 i)) ∨ (o = .inr 0 ∧ ¬ ((∃ s, l9[i]? = some s ∧ TimeOK s) ∧ UnitsOK l5 l6 l11 i))) (some (.inl (IntKind.i64.wrap ((i : Int) + 1)))) := fun ok => Yields.some (.inl ⟨by rw [wr1 hi (by omega)], ⟨s, hs, ok.1⟩, y, u, hy, hu, ok.2⟩)
    have st : ¬ (TimeOK s ∧ UnitOK l5 y u) → Yields (fun o : Int ⊕ Nat => (o = .inl ((i + 1 : Nat) : Int) ∧ ((∃ s, l9[i]? = some s ∧ TimeOK s) ∧ UnitsOK l5 l6 l11 i)) ∨ (o = .inr 0 ∧ ¬ ((∃ s, l9[i]? = some s ∧ TimeOK s) ∧ UnitsOK l5 l6 l11 i))) (some (.inr 0)) := fun ok => Yields.some (.inr ⟨rfl, bad ok⟩)
    have hres : 0 ≤ y.1 → y.1 < l5.length := fun h => by
      rcases hv.2.2.2.2.2.2 y (List.mem_of_getElem? hy) with q | q
      · omega
      · exact q.2.1
    unfold F44_s1
    rw [decide_eq_true (show (i : Int) < l9.length by omega), cond_true]
    refine Yields.bindE (atn hy) (Yields.bindE (atn hs) (Yields.bif (fun q => st fun ok => ?_) fun q1 => Yields.bif (fun q => st fun ok => ?_) fun q2 => ?_))
    · have q := of_decide_eq_true q; have := ok.1.1; omega
    · have q := of_decide_eq_true q; have := ok.1.2; omega
    have ts : TimeOK s := ⟨by have := of_decide_eq_false q1; omega, by have := of_decide_eq_false q2; omega⟩
    refine Yields.bif (fun c => Yields.bindE (atn hu) ?_) fun c => ?_
    · have c := of_decide_eq_true c
      refine Yields.bif (fun q => st fun ok => bne_iff_ne.1 q (ok.2.1 c)) fun q => ?_
      have q := bne_eq_false_iff_eq.1 q
      rw [decide_eq_false (show ¬ y.1 ≥ 0 by omega), cond_false]
      exact go ⟨ts, fun _ => q, fun h => by omega⟩
    · have c := of_decide_eq_false c
      rw [decide_eq_true (show y.1 ≥ 0 by omega), cond_true]
      refine Yields.bindE (atn hu) (Yields.bif (fun q => st fun ok => ?_) fun q => ?_)
      · have q := of_decide_eq_true q; have := (ok.2.2 (by omega)).1; omega
      have q := of_decide_eq_false q
      have hr' := hres (by omega)
      obtain ⟨r, hr⟩ := some_nat (l := l5) (i := y.1.toNat) (by omega)
      refine Yields.bindE (atI (by omega) hr) (Yields.bif (fun z => st fun ok => ?_) fun z => go ⟨ts, fun h => by omega, fun _ => ⟨by omega, fun r' hr'' => ?_⟩⟩)
      · have z := of_decide_eq_true z; have := (ok.2.2 (by omega)).2 r hr; omega
      · rw [hr] at hr''; cases hr''; have z := of_decide_eq_false z; omega
  · unfold F44_s1; rw [decide_eq_false (by omega)]; rfl
  rintro r (⟨rfl, hU⟩ | ⟨rfl, hU⟩)
  rotate_left
  · exact Yields.some (no fun v => hU fun i hi => ⟨all_idx.2 v.2.2.2.2.2.2.2.2.1 i hi, v.2.2.2.2.2.2.2.2.2.2 i (by omega)⟩)
  show Yields _ (Option.bind _ _)
  refine Yields.bind (loop_chk l10.length (fun i => ∃ s, l10[i]? = some s ∧ TimeOK s) ?_ ?_) ?_
  · intro i hi
    obtain ⟨s, hs⟩ := some_nat hi
    unfold F44_s2
    rw [decide_eq_true (show (i : Int) < l10.length by omega), cond_true]
    have bad : ¬ TimeOK s → ¬ ∃ s, l10[i]? = some s ∧ TimeOK s := by
      rintro h ⟨s', hs', ok⟩
      rw [hs] at hs'; cases hs'; exact h ok
    refine Yields.bindE (atn hs) (Yields.bif (fun q => Yields.some (.inr ⟨rfl, bad fun ok => ?_⟩)) fun q1 => Yields.bif (fun q => Yields.some (.inr ⟨rfl, bad fun ok => ?_⟩)) fun q2 => Yields.some (.inl ⟨by rw [wr1 hi (by omega)], s, hs, ?_, ?_⟩))
    · have q := of_decide_eq_true q; have := ok.1; omega
    · have q := of_decide_eq_true q; have := ok.2; omega
    · have := of_decide_eq_false q1; omega
    · have := of_decide_eq_false q2; omega
  · unfold F44_s2; rw [decide_eq_false (by omega)]; rfl
  rintro r (⟨rfl, hT⟩ | ⟨rfl, hT⟩)
  · exact Yields.some ⟨fun _ => ⟨h1, h2, h3, by omega, by omega, h6', by omega, by omega, all_idx.1 fun i hi => (hU i hi).1, all_idx.1 hT, fun i hi => (hU i (by omega)).2⟩, fun _ => rfl⟩
  · exact Yields.some (no fun v => hT (all_idx.2 v.2.2.2.2.2.2.2.2.2.1))
end
end Go.Proofs.Ytimeninncpmaeaa.Abs
