/- SelfLoop is as specified. -/
import Derived.Test.YtchjhbakmdhmgaaIlV
namespace Go.Proofs.Ytchjhbakmdhmgaa.Abs
open Go
set_option linter.unusedVariables false
set_option linter.unusedSimpArgs false
set_option maxHeartbeats 1000000
section
variable (x1 : ByteArray) (l2 : List Int) (l3 : List TArr) (l4 : List TStr) (l5 : List Int) (l6 : List TBlk)
theorem few_any (hf : InF x1 l2 l3 l4 l5 l6) : Yields (fun r => r = true → l6.length ≤ 30) (F25 x1 l2 l3 l4 l5 l6) := by
  obtain ⟨h1, ⟨h2, h2'⟩, h3, w3, h4, w4, h5, h6, w6⟩ := hf
  unfold F25
  refine Yields.bind (P := Any) (Yields.loop l6.length (fun (i : Nat) z => z.2 = (i : Int)) rfl ?_) fun r _ => Yields.bif (fun _ => Yields.some fun h => by cases h) fun _ => Yields.bif (fun h => ?_) fun _ => Yields.some fun h => by cases h
  · rintro i ⟨a, b⟩ hi e
    simp only at e
    subst e
    unfold F25_s1
    simp only
    refine Yields.bif (fun hc => ?_) fun _ => Yields.some trivial
    have hc := of_decide_eq_true hc
    exact Yields.at (by omega) hc fun y _ _ => Yields.bif (fun _ => Yields.some trivial) fun _ => Yields.some ⟨by omega, wrap_succ (by omega) h6⟩
  · have h := of_decide_eq_true h
    exact Yields.bif (fun _ => Yields.some fun _ => by omega) fun _ => Yields.some fun _ => by omega
/-- What the two answer. -/
def SameL (r : Int × Bool) (s : Int) : Prop := (r = (0, false) ∧ s = -1) ∨ (r = (0, true) ∧ s = 0) ∨ (r = (1, true) ∧ s = 1)
theorem SameL.one {r : Int × Bool} {s : Int} (h : SameL r s) : (r.2 == decide (s ≥ 0)) = true ∧ r.1 = (if 0 > s then 0 else s) := by
  rcases h with ⟨rfl, rfl⟩ | ⟨rfl, rfl⟩ | ⟨rfl, rfl⟩ <;> decide
theorem self_eq (x : Int) (hv : ∀ y ∈ l6, y.2.2.1 = 2 → y.2.2.2.2.1.length = 2) : ∃ r s, F27 x1 l2 l3 l4 l5 l6 x = some r ∧ F28 x1 l2 l3 l4 l5 l6 x = some s ∧ SameL r s := by
  unfold F27 F28 F53
  by_cases h0 : 0 ≤ x
  · by_cases h1 : x < l6.length
    · obtain ⟨y, hy, hm⟩ : ∃ y, at? l6 x = some y ∧ y ∈ l6 := by
        refine ⟨l6[x.toNat]'(by omega), ?_, List.getElem_mem _⟩
        unfold at?; rw [decide_eq_true h0, cond_true, List.getElem?_eq_getElem]
      rw [hy, decide_eq_true (show x ≥ 0 from h0), decide_eq_true h1, decide_eq_false (show ¬ x < 0 by omega), decide_eq_false (show ¬ x ≥ l6.length by omega)]
      simp only [cond_true, Bool.not_true, cond_false, Option.bind_some]
      by_cases hk : y.2.2.1 = 2
      · have hl := hv y hm hk
        rw [hk, hl]
        obtain ⟨a, b, hab⟩ : ∃ a b, y.2.2.2.2.1 = [a, b] := by
          match y.2.2.2.2.1, hl with
          | [a, b], _ => exact ⟨a, b, rfl⟩
        rw [hab]
        simp only [show at? [a, b] 0 = some a from rfl, show at? [a, b] 1 = some b from rfl, Option.bind_some, bne_self_eq_false, cond_false]
        rw [show (((2 : Nat) : Int) != 2) = false by decide]
        simp only [cond_false]
        cases ((a.1 == x) == (b.1 == x))
        · cases (a.1 == x)
          · exact ⟨_, _, rfl, rfl, .inr (.inr ⟨rfl, rfl⟩)⟩
          · exact ⟨_, _, rfl, rfl, .inr (.inl ⟨rfl, rfl⟩)⟩
        · exact ⟨_, _, rfl, rfl, .inl ⟨rfl, rfl⟩⟩
      · rw [show (y.2.2.1 != 2) = true from bne_iff_ne.2 hk]
        exact ⟨_, _, rfl, rfl, .inl ⟨rfl, rfl⟩⟩
    · rw [decide_eq_true (show x ≥ 0 from h0), decide_eq_false h1, decide_eq_false (show ¬ x < 0 by omega), decide_eq_true (show x ≥ l6.length by omega)]
      exact ⟨_, _, rfl, rfl, .inl ⟨rfl, rfl⟩⟩
  · rw [decide_eq_false (show ¬ x ≥ 0 from h0), decide_eq_true (show x < 0 by omega)]
    exact ⟨_, _, rfl, rfl, .inl ⟨rfl, rfl⟩⟩
theorem loops_eq (x7 : Int) (hf : InF x1 l2 l3 l4 l5 l6) : F8 x1 l2 l3 l4 l5 l6 x7 = some true := by
  apply Yields.eq
  unfold F8
  refine Yields.bind (few_any x1 l2 l3 l4 l5 l6 hf) fun r hr => Yields.bif (fun _ => Yields.some rfl) fun q => ?_
  have h30 := hr (by simpa using q)
  refine Yields.bind (valid_any x1 l2 l3 l4 l5 l6 hf) fun r hr => Yields.bif (fun _ => Yields.some rfl) fun q => ?_
  have hv := hr (by simpa using q)
  refine Yields.bind (P := fun t => t = 1) (Yields.loop (l6.length + 2) (fun (i : Nat) z => z = (i : Int) - 1) rfl ?_) ?_
  · rintro i z hi rfl
    unfold F8_s1
    refine Yields.bif (fun hc => ?_) fun _ => Yields.some rfl
    have hc := of_decide_eq_true hc
    obtain ⟨r, s, e1, e2, hs⟩ := self_eq x1 l2 l3 l4 l5 l6 ((i : Int) - 1) hv
    obtain ⟨s1, s2⟩ := hs.one
    refine Yields.bindE e1 (Yields.bindE e2 ?_)
    rw [s1, s2]
    simp only [Bool.not_true, cond_false, bne_self_eq_false]
    exact Yields.some ⟨by omega, by rw [wrap_i64] <;> omega⟩
  · rintro t rfl
    obtain ⟨r, s, e1, e2, hs⟩ := self_eq x1 l2 l3 l4 l5 l6 x7 hv
    show Yields _ (Option.bind _ _)
    refine Yields.bindE e1 (Yields.bindE e2 (Yields.some hs.one.1))
end
theorem loops : Law Try.prog 8 10 [46, 3] := F8_law (fun x1 l2 l3 l4 l5 l6 x7 h1 h2 _ h3 w3 h4 w4 h5 _ h6 w6 _ => loops_eq x1 l2 l3 l4 l5 l6 x7 ⟨h1, h2, h3.2, w3, h4.2, w4, h5.1, h6.1, w6⟩)
end Go.Proofs.Ytchjhbakmdhmgaa.Abs
