/- SchedcheckAgrees. -/
import Derived.Test.YtgglfpnllkegpaaSaK
namespace Go.Proofs.Ytgglfpnllkegpaa.Abs
open Go
set_option linter.unusedVariables false
set_option linter.unusedSimpArgs false
set_option maxHeartbeats 1000000
section
variable (x1 x2 : Int) (x3 : Bool) (l4 l5 : List Quad) (l6 : List (Int × Int)) (x7 x8 : Int) (l9 l10 l11 : List Int)
theorem par_any (b0 : Bool) (k10 : l10.length ≤ 1000) : Yields (fun r => r = true ↔ b0 = true ∧ (x3 = true ∨ ∀ t ∈ l10, t = 0)) (loopO (fun (s : Bool × Int) => F3_s1 x3 l10 s.1 s.2) (b0, 0)) := by
  refine Yields.loop l10.length (fun (i : Nat) z => z.2 = (i : Int) ∧ (z.1 = true ↔ b0 = true ∧ (x3 = true ∨ ∀ t ∈ l10.take i, t = 0))) ⟨rfl, ⟨fun h => ⟨h, .inr fun t h => by simp at h⟩, fun h => h.1⟩⟩ ?_
  rintro i ⟨c, j⟩ hi ⟨h1, h2⟩
  simp only at h1 h2
  subst h1
  unfold F3_s1
  refine Yields.bif (fun hc => ?_) fun hc => Yields.some (by
    have hc := of_decide_eq_false hc
    rw [List.take_of_length_le (by omega)] at h2
    exact h2)
  have hc := of_decide_eq_true hc
  have nx : IntKind.i64.wrap ((i : Int) + 1) = ((i + 1 : Nat) : Int) := wr1 (n := l10.length) (by omega) (by omega)
  obtain ⟨y, hy⟩ := some_nat (l := l10) (i := i) (by omega)
  have tk := take_succ' hy
  have all : (∀ t ∈ l10.take (i + 1), t = 0) ↔ (∀ t ∈ l10.take i, t = 0) ∧ y = 0 := by
    rw [tk]
    constructor
    · intro h; exact ⟨fun t ht => h t (List.mem_append_left _ ht), h y (List.mem_append_right _ (List.mem_singleton.2 rfl))⟩
    · rintro ⟨h, hy0⟩ t ht
      rcases List.mem_append.1 ht with ht | ht
      · exact h t ht
      · rw [List.mem_singleton] at ht; rw [ht]; exact hy0
  refine Yields.bif (fun q => Yields.bif (fun w => Yields.some ⟨by omega, nx, ?_⟩) fun w => Yields.bindE (atn hy) (Yields.some ⟨by omega, nx, ?_⟩)) fun q => Yields.some ⟨by omega, nx, ?_⟩
  · exact ⟨fun _ => ⟨(h2.1 q).1, .inl w⟩, fun _ => rfl⟩
  · have hw := (h2.1 q).2.resolve_left (by rw [w]; exact fun h => by cases h)
    show (y == 0) = true ↔ _
    rw [beq_iff_eq, all]
    exact ⟨fun e => ⟨(h2.1 q).1, .inr ⟨hw, e⟩⟩, fun h => (h.2.resolve_left (by rw [w]; exact fun h => by cases h)).2⟩
  · refine ⟨fun h => (by cases h), fun h => ?_⟩
    have : c = true := h2.2 ⟨h.1, h.2.imp id fun k => (all.1 k).1⟩
    rw [this] at q; cases q
theorem agrees_eq (k4 : l4.length ≤ maxLen) (k6 : l6.length ≤ maxLen) : F3 x1 x2 x3 l4 l5 l6 x7 x8 l9 l10 l11 = some true := by
  apply Yields.eq
  unfold F3
  refine Yields.bind (few_any x1 x2 x3 l4 l5 l6 x7 x8 l9 l10 l11 k4 k6) fun r hr => Yields.bif (fun _ => Yields.some rfl) fun q => ?_
  obtain ⟨_, _, s4, s5, s6, s9, s10, s11⟩ := hr (by simpa using q)
  refine Yields.bind (fits_prog x1 x2 x3 l4 l5 l6 x7 x8 l9 l10 l11 (by omega) (by omega) (by omega) (by omega) (by omega)) fun f hf => Yields.bif (fun _ => Yields.some rfl) fun q => ?_
  have hvf := hf.1 (by simpa using q)
  have chk := check_any x1 x2 x3 l4 l5 l6 x7 x8 l9 l10 l11 (by omega) (by omega) (by omega) (by omega) (by omega)
  have len0 : ∀ {β : Type} (L : List β), ((L.length : Int) == 0) = true ↔ L = [] := fun L => by
    rw [beq_iff_eq]
    exact ⟨fun h => List.eq_nil_of_length_eq_zero (by omega), fun h => by rw [h]; rfl⟩
  have bad : ¬ LegalP x1 x2 x3 l4 l6 x7 x8 l9 l10 l11 → Yields (fun x => x = true) (Option.bind (loopO (fun (s : Bool × Int) => F3_s1 x3 l10 s.1 s.2) (false, 0)) fun y => Option.bind (F14 x1 x2 x3 l4 l5 l6 x7 x8 l9 l10 l11) fun z => some (y == (z == 0))) := fun no =>
    Yields.bind (par_any x3 l10 false (by omega)) fun y hy => Yields.bind chk fun e he => Yields.some (by
      obtain rfl := (he.2 hvf).2 no
      have : y = false := Bool.eq_false_iff.2 fun h => by have := (hy.1 h).1; cases this
      rw [this]; rfl)
  refine Yields.bind (late_any x1 x2 x3 l4 l5 l6 x7 x8 l9 l10 l11 (by omega) (by omega) (by omega) (by omega) (by omega)) fun A hA => Yields.bif (fun a => Yields.bind (clashes_any x1 x2 x3 l4 l5 l6 x7 x8 l9 l10 l11 (by omega) (by omega) (by omega) (by omega) (by omega)) fun L hL => Yields.bif (fun c => ?_) fun c => ?_) fun a => ?_
  · have a := (len0 _).1 a
    have c := (len0 _).1 c
    rw [hA.1 hvf] at a
    have cl := (IsCl.nil l6 x7 l9 l11 (hL.1 hvf)).1 c
    refine Yields.bind (par_any x3 l10 (decide (x8 ≥ x7)) (by omega)) fun y hy => Yields.bind chk fun e he => Yields.some ?_
    by_cases p : LegalP x1 x2 x3 l4 l6 x7 x8 l9 l10 l11
    · obtain rfl := (he.2 hvf).1 p
      rw [hy.2 ⟨decide_eq_true (by have := p.2.1; omega), p.1⟩]; rfl
    · obtain rfl := (he.2 hvf).2 p
      have : y = false := Bool.eq_false_iff.2 fun h => p ⟨(hy.1 h).2, by have := of_decide_eq_true (hy.1 h).1; omega, a, cl⟩
      rw [this]; rfl
  · refine bad fun p => ?_
    rw [(len0 _).2 ((IsCl.nil l6 x7 l9 l11 (hL.1 hvf)).2 p.2.2.2)] at c; cases c
  · refine bad fun p => ?_
    rw [(len0 _).2 ((hA.1 hvf).trans p.2.2.1)] at a; cases a
end
theorem agrees : Law Try.prog 3 10 [26, 29] := F3_law (fun x1 x2 x3 l4 l5 l6 x7 x8 l9 l10 l11 _ _ h4 _ _ _ h6 _ _ _ _ _ _ _ _ _ => agrees_eq x1 x2 x3 l4 l5 l6 x7 x8 l9 l10 l11 h4.1 h6.1)
end Go.Proofs.Ytgglfpnllkegpaa.Abs
