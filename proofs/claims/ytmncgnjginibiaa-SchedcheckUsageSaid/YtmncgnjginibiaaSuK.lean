/- What Check and Clashes answer. -/
import Derived.Test.YtmncgnjginibiaaSuD
namespace Go.Proofs.Ytmncgnjginibiaa.Abs
open Go
set_option linter.unusedVariables false
set_option linter.unusedSimpArgs false
set_option maxHeartbeats 1000000
theorem nodup_le {D : List Int} {W : Nat} (hd : D.Nodup) (hw : ∀ v ∈ D, 0 ≤ v ∧ v < (W : Int)) : D.length ≤ W := by
  have p : (((List.range W).filter fun k : Nat => decide ((k : Int) ∈ D)).map fun k : Nat => (k : Int)).Perm D := by
    rw [List.perm_ext_iff_of_nodup _ hd]
    · intro v
      rw [List.mem_map]
      constructor
      · rintro ⟨k, hk, rfl⟩
        exact of_decide_eq_true (List.mem_filter.1 hk).2
      · intro hv
        have := hw v hv
        refine ⟨v.toNat, List.mem_filter.2 ⟨List.mem_range.2 (by omega), ?_⟩, by omega⟩
        rw [show ((v.toNat : Nat) : Int) = v by omega]
        exact decide_eq_true hv
    · unfold List.Nodup
      rw [List.pairwise_map]
      refine List.Pairwise.imp ?_ ((List.nodup_range (n := W)).filter _)
      intro a b hab e
      exact hab (by omega)
  rw [← p.length_eq, List.length_map]
  exact Nat.le_trans (List.length_filter_le _ _) (by simp)
theorem nz_iff (s : Int) : F40 s = true ↔ ¬ s = 0 := by
  unfold F40
  exact bne_iff_ne
theorem any_nonzero (l : List Int) (k : l.length ≤ 1000) : Yields (fun r => r = false ↔ ∀ s ∈ l, s = 0) (F39w40 l) := by
  unfold F39w40 F71w40
  refine Yields.bind (P := fun r : Int => (r = -1 ∧ ∀ s ∈ l, s = 0) ∨ (0 ≤ r ∧ ¬ ∀ s ∈ l, s = 0)) ?_ ?_
  · refine Yields.bind (P := fun r : Nat × Int => (r.1 = 1 ∧ ∀ s ∈ l, s = 0) ∨ (r.1 = 0 ∧ 0 ≤ r.2 ∧ ¬ ∀ s ∈ l, s = 0)) (Yields.loop l.length (fun (i : Nat) z => z = (i : Int) ∧ ∀ j s, j < i → l[j]? = some s → s = 0) ⟨rfl, fun j s h => absurd h (by omega)⟩ ?_) ?_
    · rintro i z hi ⟨rfl, hk⟩
      unfold F71w40_s2
      refine Yields.bif (fun hc => ?_) fun hc => Yields.some (.inl ⟨rfl, ?_⟩)
      · have hc := of_decide_eq_true hc
        refine Yields.at (by omega) hc fun s hs hm => ?_
        rw [Int.toNat_natCast] at hs
        refine Yields.bif (fun q => Yields.some (.inr ⟨rfl, by omega, fun h => (nz_iff s).1 q (h s hm)⟩)) fun q => Yields.some ⟨by omega, by rw [wr1 (n := l.length) (by omega) (by omega)], ?_⟩
        intro j s' hj hs'
        by_cases e : j = i
        · subst e; rw [hs] at hs'; cases hs'
          exact Classical.byContradiction fun h => by rw [(nz_iff s).2 h] at q; cases q
        · exact hk j s' (by omega) hs'
      · have hc := of_decide_eq_false hc
        intro s hs
        obtain ⟨j, hj⟩ := List.mem_iff_getElem?.1 hs
        exact hk j s (by have := (List.getElem?_eq_some_iff.1 hj).1; omega) hj
    · rintro ⟨c, v⟩ (⟨h1, h2⟩ | ⟨h1, h2, h3⟩)
      · simp only at h1; subst h1; exact Yields.some (.inl ⟨rfl, h2⟩)
      · simp only at h1 h2; subst h1; exact Yields.some (.inr ⟨h2, h3⟩)
  · rintro r (⟨rfl, h⟩ | ⟨h0, h⟩)
    · exact Yields.some ⟨fun _ => h, fun _ => by decide⟩
    · refine Yields.some ⟨fun e => ?_, fun e => absurd e h⟩
      have := of_decide_eq_false e; omega
section
variable (x1 x2 : Int) (x3 : Bool) (l4 l5 : List Quad) (l6 : List (Int × Int)) (x7 x8 : Int) (l9 l10 l11 : List Int)
theorem IsCl.nil {L : List (Int × Int)} (h : IsCl l6 x7 l9 l11 L) : L = [] ↔ ∀ p, ¬ PairCl l6 x7 l9 l11 l6.length p := by
  constructor
  · rintro rfl p hp
    have := (h.2.1 p).2 hp
    cases this
  · intro hp
    cases L with
    | nil => rfl
    | cons q r => exact absurd ((h.2.1 q).1 (List.mem_cons_self ..)) (hp q)
theorem IsCl.len {L : List (Int × Int)} (h : IsCl l6 x7 l9 l11 L) (k6 : l6.length ≤ 1000) : L.length ≤ 1000000 := by
  have hd : (L.map fun p => p.1 * 1000 + p.2).Nodup := by
    unfold List.Nodup
    rw [List.pairwise_map]
    refine h.1.imp_of_mem fun {p q} hp hq hne e => hne ?_
    obtain ⟨j, k, rfl, h1, h2, _⟩ := (h.2.1 p).1 hp
    obtain ⟨j', k', rfl, h1', h2', _⟩ := (h.2.1 q).1 hq
    simp only at e
    rw [Prod.mk.injEq]
    omega
  have := nodup_le (W := 1000000) hd (by
    intro v hv
    obtain ⟨p, hp, rfl⟩ := List.mem_map.1 hv
    obtain ⟨j, k, rfl, h1, h2, _⟩ := (h.2.1 p).1 hp
    simp only; omega)
  rwa [List.length_map] at this
theorem clashes_any (k4 : l4.length ≤ 1000) (k5 : l5.length ≤ 1000) (k6 : l6.length ≤ 100) (k9 : l9.length ≤ 1000) (k10 : l10.length ≤ 1000) :
    Yields (fun L => (ValidOK x1 x2 x3 l4 l5 l6 ∧ FitOK x1 x2 x3 l5 l6 x7 x8 l9 l10 l11 → IsCl l6 x7 l9 l11 L) ∧ (¬ (ValidOK x1 x2 x3 l4 l5 l6 ∧ FitOK x1 x2 x3 l5 l6 x7 x8 l9 l10 l11) → L = [])) (F42 x1 x2 x3 l4 l5 l6 x7 x8 l9 l10 l11) := by
  obtain ⟨r, hr, hri⟩ := fits_prog x1 x2 x3 l4 l5 l6 x7 x8 l9 l10 l11 k4 k5 (by omega) k9 k10
  by_cases h : ValidOK x1 x2 x3 l4 l5 l6 ∧ FitOK x1 x2 x3 l5 l6 x7 x8 l9 l10 l11
  · obtain ⟨hv, hf⟩ := h
    have hl : (l6.length : Int) = x1 := hv.1.2.2.2.2
    have := clashes_prog x1 x2 x3 l4 l5 l6 x7 x8 l9 l10 l11 hv.2.2.2.2.2.2 hf.2.2.2.2.2.2.2.2.1 ⟨hf.2.2.2.1, hf.2.2.2.2.1⟩ hf.2.2.2.2.2.1 k6 (by have := hf.1; omega) (by have := hf.2.1; omega) hr
    refine this.mono fun L hL => ?_
    rw [if_pos (hri.2 ⟨hv, hf⟩)] at hL
    exact ⟨fun _ => hL, fun h => absurd ⟨hv, hf⟩ h⟩
  · have : r = false := Bool.eq_false_iff.2 fun e => h (hri.1 e)
    subst this
    unfold F42
    exact Yields.bindE hr (Yields.some ⟨fun k => absurd k h, fun _ => rfl⟩)
/-- What makes a schedule that fits legal. -/
def LegalP : Prop := (x3 = true ∨ ∀ t ∈ l10, t = 0) ∧ ¬ x8 < x7 ∧ lateL x1 x2 l4 x7 x8 l9 l10 = [] ∧ ∀ p, ¬ PairCl l6 x7 l9 l11 l6.length p
theorem len_pos {β : Type} (L : List β) : decide ((L.length : Int) > 0) = true ↔ ¬ L = [] := by
  rw [decide_eq_true_iff]
  constructor
  · rintro h rfl; simp at h
  · intro h
    have := List.length_pos_iff.2 h
    omega
theorem check_any (k4 : l4.length ≤ 1000) (k5 : l5.length ≤ 1000) (k6 : l6.length ≤ 100) (k9 : l9.length ≤ 1000) (k10 : l10.length ≤ 1000) :
    Yields (fun e => (¬ (ValidOK x1 x2 x3 l4 l5 l6 ∧ FitOK x1 x2 x3 l5 l6 x7 x8 l9 l10 l11) → e = 3) ∧ (ValidOK x1 x2 x3 l4 l5 l6 ∧ FitOK x1 x2 x3 l5 l6 x7 x8 l9 l10 l11 → (LegalP x1 x2 x3 l4 l6 x7 x8 l9 l10 l11 → e = 0) ∧ (¬ LegalP x1 x2 x3 l4 l6 x7 x8 l9 l10 l11 → e = 20))) (F14 x1 x2 x3 l4 l5 l6 x7 x8 l9 l10 l11) := by
  unfold F14
  refine Yields.bind (fits_prog x1 x2 x3 l4 l5 l6 x7 x8 l9 l10 l11 k4 k5 (by omega) k9 k10) fun r hr => Yields.bif (fun q => Yields.some ⟨fun _ => rfl, fun h => ?_⟩) fun q => ?_
  · rw [hr.2 h] at q; cases q
  have hvf := hr.1 (by simpa using q)
  have bad : ∀ {e : Int}, e = 20 → ¬ LegalP x1 x2 x3 l4 l6 x7 x8 l9 l10 l11 → (¬ (ValidOK x1 x2 x3 l4 l5 l6 ∧ FitOK x1 x2 x3 l5 l6 x7 x8 l9 l10 l11) → e = 3) ∧ (ValidOK x1 x2 x3 l4 l5 l6 ∧ FitOK x1 x2 x3 l5 l6 x7 x8 l9 l10 l11 → (LegalP x1 x2 x3 l4 l6 x7 x8 l9 l10 l11 → e = 0) ∧ (¬ LegalP x1 x2 x3 l4 l6 x7 x8 l9 l10 l11 → e = 20)) := fun h1 h2 => ⟨fun h => absurd hvf h, fun _ => ⟨fun h => absurd h h2, fun _ => h1⟩⟩
  have rest : (x3 = true ∨ ∀ t ∈ l10, t = 0) → ¬ x8 < x7 → Yields (fun e => (¬ (ValidOK x1 x2 x3 l4 l5 l6 ∧ FitOK x1 x2 x3 l5 l6 x7 x8 l9 l10 l11) → e = 3) ∧ (ValidOK x1 x2 x3 l4 l5 l6 ∧ FitOK x1 x2 x3 l5 l6 x7 x8 l9 l10 l11 → (LegalP x1 x2 x3 l4 l6 x7 x8 l9 l10 l11 → e = 0) ∧ (¬ LegalP x1 x2 x3 l4 l6 x7 x8 l9 l10 l11 → e = 20)))
      (Option.bind (F41 x1 x2 x3 l4 l5 l6 x7 x8 l9 l10 l11) fun y20 => bif decide ((y20.length : Int) > 0) then some (20 : Int) else Option.bind (F42 x1 x2 x3 l4 l5 l6 x7 x8 l9 l10 l11) fun y24 => bif decide ((y24.length : Int) > 0) then some 20 else some 0) := by
    intro g1 g2
    refine Yields.bind (late_any x1 x2 x3 l4 l5 l6 x7 x8 l9 l10 l11 k4 k5 (by omega) k9 k10) fun A hA => Yields.bif (fun h => Yields.some (bad rfl fun p => ?_)) fun h => Yields.bind (clashes_any x1 x2 x3 l4 l5 l6 x7 x8 l9 l10 l11 k4 k5 k6 k9 k10) fun L hL => Yields.bif (fun h' => Yields.some (bad rfl fun p => ?_)) fun h' => Yields.some ⟨fun h => absurd hvf h, fun _ => ⟨fun _ => rfl, fun p => absurd ⟨g1, g2, ?_, ?_⟩ p⟩⟩
    · rw [hA.1 hvf] at h; exact (len_pos _).1 h p.2.2.1
    · exact (len_pos _).1 h' ((hL.1 hvf).nil.2 p.2.2.2)
    · rw [← hA.1 hvf]
      exact Classical.byContradiction fun k => by rw [(len_pos _).2 k] at h; cases h
    · refine (hL.1 hvf).nil.1 (Classical.byContradiction fun k => ?_)
      rw [(len_pos _).2 k] at h'; cases h'
  have depth : (x3 = true ∨ ∀ t ∈ l10, t = 0) → Yields (fun e => (¬ (ValidOK x1 x2 x3 l4 l5 l6 ∧ FitOK x1 x2 x3 l5 l6 x7 x8 l9 l10 l11) → e = 3) ∧ (ValidOK x1 x2 x3 l4 l5 l6 ∧ FitOK x1 x2 x3 l5 l6 x7 x8 l9 l10 l11 → (LegalP x1 x2 x3 l4 l6 x7 x8 l9 l10 l11 → e = 0) ∧ (¬ LegalP x1 x2 x3 l4 l6 x7 x8 l9 l10 l11 → e = 20)))
      (bif decide (x8 < x7) then some (20 : Int) else (Option.bind (F41 x1 x2 x3 l4 l5 l6 x7 x8 l9 l10 l11) fun y20 => bif decide ((y20.length : Int) > 0) then some (20 : Int) else Option.bind (F42 x1 x2 x3 l4 l5 l6 x7 x8 l9 l10 l11) fun y24 => bif decide ((y24.length : Int) > 0) then some 20 else some 0)) := fun g =>
    Yields.bif (fun h => Yields.some (bad rfl fun p => p.2.1 (of_decide_eq_true h))) fun h => rest g (of_decide_eq_false h)
  refine Yields.bif (fun h => Yields.bind (any_nonzero l10 k10) fun b hb => Yields.bif (fun c => Yields.some (bad rfl fun p => ?_)) fun c => depth (.inr (hb.1 c))) fun h => depth (.inl (by simpa using h))
  have h' : x3 = false := by simpa using h
  rcases p.1 with e | e
  · rw [h'] at e; cases e
  · rw [hb.2 e] at c; cases c
end
end Go.Proofs.Ytmncgnjginibiaa.Abs
