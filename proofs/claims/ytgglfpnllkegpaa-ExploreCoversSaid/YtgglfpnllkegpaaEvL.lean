/- ExploreCovers. -/
import Derived.Test.YtgglfpnllkegpaaEvM
namespace Go.Proofs.Ytgglfpnllkegpaa.Abs
open Go
set_option linter.unusedVariables false
set_option linter.unusedSimpArgs false
set_option maxHeartbeats 1000000
theorem sub_len {β : Type} [DecidableEq β] : ∀ (a b : List β), a.Nodup → (∀ x ∈ a, x ∈ b) → a.length ≤ b.length
  | [], b, _, _ => Nat.zero_le _
  | x :: a, b, hd, hs => by
    obtain ⟨h1, h2⟩ := List.nodup_cons.1 hd
    have hx : x ∈ b := hs x (List.mem_cons_self ..)
    have ih := sub_len a (b.erase x) h2 fun y hy => (List.mem_erase_of_ne (by rintro rfl; exact h1 hy)).2 (hs y (List.mem_cons_of_mem _ hy))
    rw [List.length_erase_of_mem hx] at ih
    have := List.length_pos_of_mem hx
    rw [List.length_cons]; omega
def Same3 (q p : Pt) : Prop := q.2.1 = p.2.1 ∧ q.2.2.1 = p.2.2.1 ∧ q.2.2.2 = p.2.2.2
theorem same3_iff (q p : Pt) : F18 q.1 q.2.1 q.2.2.1 q.2.2.2 p.1 p.2.1 p.2.2.1 p.2.2.2 = true ↔ Same3 q p := by
  unfold F18 Same3
  simp only [Bool.cond_eq_ite, beq_iff_eq]
  repeat' split
  all_goals simp_all
theorem dom_iff (q p : Pt) : F19 q.1 q.2.1 q.2.2.1 q.2.2.2 p.1 p.2.1 p.2.2.1 p.2.2.2 = true ↔ Cov q p ∧ ¬ Same3 q p := by
  have hs := same3_iff q p
  have hl : F41 q.1 q.2.1 q.2.2.1 q.2.2.2 p.1 p.2.1 p.2.2.1 p.2.2.2 = true ↔ q.2.1 < p.2.1 ∨ (q.2.1 = p.2.1 ∧ (q.2.2.1 < p.2.2.1 ∨ (q.2.2.1 = p.2.2.1 ∧ q.2.2.2 < p.2.2.2))) := by
    unfold F41
    by_cases h : q.2.1 = p.2.1
    · rw [show (q.2.1 != p.2.1) = false from by rw [h]; exact bne_self_eq_false _, cond_false]
      by_cases h' : q.2.2.1 = p.2.2.1
      · rw [show (q.2.2.1 != p.2.2.1) = false from by rw [h']; exact bne_self_eq_false _, cond_false, decide_eq_true_iff]; omega
      · rw [bne_iff_ne.2 h', cond_true, decide_eq_true_iff]; omega
    · rw [bne_iff_ne.2 h, cond_true, decide_eq_true_iff]; omega
  unfold F19
  cases h1 : decide (q.2.1 ≤ p.2.1)
  · have := of_decide_eq_false h1
    exact ⟨fun e => (by cases e), fun e => absurd e.1.1 this⟩
  cases h2 : decide (q.2.2.1 ≤ p.2.2.1)
  · have := of_decide_eq_false h2
    exact ⟨fun e => (by cases e), fun e => absurd e.1.2.1 this⟩
  cases h3 : decide (q.2.2.2 ≤ p.2.2.2)
  · have := of_decide_eq_false h3
    exact ⟨fun e => (by cases e), fun e => absurd e.1.2.2 this⟩
  have h1 := of_decide_eq_true h1; have h2 := of_decide_eq_true h2; have h3 := of_decide_eq_true h3
  simp only [cond_true]
  cases h4 : F41 q.1 q.2.1 q.2.2.1 q.2.2.2 p.1 p.2.1 p.2.2.1 p.2.2.2
  · rw [cond_false]
    refine ⟨fun e => (by cases e), fun e => absurd ?_ e.2⟩
    have : ¬ _ := fun h => by rw [hl.2 h] at h4; cases h4
    unfold Same3; omega
  · rw [cond_true, Bool.not_eq_true']
    constructor
    · intro e
      exact ⟨⟨h1, h2, h3⟩, fun s => by rw [hs.2 s] at e; cases e⟩
    · intro e
      exact Bool.eq_false_iff.2 fun s => e.2 (hs.1 s)
theorem LEk.anti {p q : Pt} (h : LEk p q) (k : LEk q p) : p = q := key37_inj (cmpL_tot _ _ rfl k h)
theorem pareto_self (R : List Pt) (k : R.length ≤ 1000) (hs : R.Pairwise LEk) (hp : R.Pairwise fun a b => ¬ Cov a b) : F17 R = some R := by
  apply Yields.eq
  unfold F17
  refine Yields.bindE (clone_eq R k) ?_
  have ex : ∃ S, F36w37 R = some S := by
    unfold F36w37
    rw [decide_eq_true (by omega)]
    exact ⟨_, rfl⟩
  obtain ⟨S, hS⟩ := ex
  obtain ⟨p1, p2⟩ := sorted37 hS
  have e : S = R := List.Perm.eq_of_pairwise (le := LEk) (fun a b _ _ h1 h2 => h1.anti h2) p2 hs p1
  subst e
  refine Yields.bindE hS (Yields.bind (front_loop S k) fun R hR => Yields.some ?_)
  have nd : S.Nodup := hp.imp fun {a b} h e => by subst e; exact h ⟨Int.le_refl _, Int.le_refl _, Int.le_refl _⟩
  refine hR.1.eq_of_length_le (sub_len S R nd fun p hp' => ?_)
  obtain ⟨q, hq, hv⟩ := hR.2.1 p hp'
  have hqS := hR.1.subset hq
  obtain ⟨i, hi, ei⟩ := List.getElem_of_mem hp'
  obtain ⟨j, hj, ej⟩ := List.getElem_of_mem hqS
  have : i = j := by
    rcases Nat.lt_trichotomy i j with h | h | h
    · have a1 := List.pairwise_iff_getElem.1 hs i j hi hj h
      have a2 := List.pairwise_iff_getElem.1 hp i j hi hj h
      rw [ei, ej] at a1 a2
      exact absurd (a1.cov hv) a2
    · exact h
    · have a2 := List.pairwise_iff_getElem.1 hp j i hj hi h
      rw [ei, ej] at a2
      exact absurd hv a2
  subst this
  rw [← ei, ej]; exact hq
theorem same_self (l : List Pt) (k : l.length ≤ 100000) : F20 l l = some true := by
  apply Yields.eq
  unfold F20
  rw [bne_self_eq_false, cond_false]
  refine Yields.bind (P := fun t => t = 1) (Yields.loop l.length (fun (i : Nat) z => z = (i : Int)) rfl ?_) (by rintro t rfl; exact Yields.some rfl)
  rintro i z hi rfl
  unfold F20_s1
  refine Yields.bif (fun hc => ?_) fun _ => Yields.some rfl
  have hc := of_decide_eq_true hc
  obtain ⟨y, hy⟩ := some_nat (l := l) (i := i) (by omega)
  refine Yields.bindE (atn hy) (Yields.bindE (atn hy) ?_)
  unfold F20__1
  rw [beq_self_eq_true, beq_self_eq_true, beq_self_eq_true, beq_self_eq_true]
  simp only [Bool.and_true, Bool.not_true, cond_false]
  exact Yields.some ⟨by omega, wr1 (n := l.length) (by omega) (by omega)⟩
theorem covers_eq (l : List Pt) : F7 l = some true := by
  apply Yields.eq
  unfold F7
  refine Yields.bif (fun _ => Yields.some rfl) fun q => ?_
  have q := of_decide_eq_false q
  refine Yields.bind (pareto_any l (by omega)) fun R hR => ?_
  obtain ⟨S, pS, sS, hF⟩ := hR
  have rS : R.length ≤ 60 := by have := hF.1.length_le; rw [pS.length_eq] at this; omega
  have sR : R.Pairwise LEk := sS.sublist hF.1
  refine Yields.bind (P := fun t => t = 1) (Yields.loop l.length (fun (i : Nat) z => z = (i : Int)) rfl ?_) ?_
  · rintro i z hi rfl
    unfold F7_s2
    refine Yields.bif (fun hc => ?_) fun _ => Yields.some rfl
    have hc := of_decide_eq_true hc
    obtain ⟨p, hp⟩ := some_nat (l := l) (i := i) (by omega)
    obtain ⟨c, hcR, hv⟩ := hF.2.1 p (pS.mem_iff.2 (List.mem_of_getElem? hp))
    obtain ⟨m, hm⟩ := List.mem_iff_getElem?.1 hcR
    have hm' := (List.getElem?_eq_some_iff.1 hm).1
    refine Yields.bind (P := fun c => c = true) (Yields.loop R.length (fun (t : Nat) z => z.2 = (t : Int) ∧ (m < t → z.1 = true)) ⟨rfl, fun h => absurd h (by omega)⟩ ?_) ?_
    · rintro t ⟨b, j⟩ ht ⟨g1, g2⟩
      simp only at g1 g2
      subst g1
      unfold F7_s1
      refine Yields.bif (fun hq => ?_) fun hq => Yields.some (g2 (by have := of_decide_eq_false hq; omega))
      have hq := of_decide_eq_true hq
      have nx : IntKind.i64.wrap ((t : Int) + 1) = ((t + 1 : Nat) : Int) := wr1 (n := R.length) (by omega) (by omega)
      refine Yields.bif (fun cc => Yields.some ⟨by omega, nx, fun _ => rfl⟩) fun cc => ?_
      obtain ⟨v, hv'⟩ := some_nat (l := R) (i := t) (by omega)
      refine Yields.bindE (atn hv') (Yields.bindE (atn hp) (Yields.bif (fun w => Yields.some ⟨by omega, nx, fun _ => rfl⟩) fun w => Yields.some ⟨by omega, nx, fun h => ?_⟩))
      by_cases e : t = m
      · subst e
        rw [hm] at hv'; cases hv'
        exact (dom_iff c p).2 ⟨hv, fun s => by rw [(same3_iff c p).2 s] at w; cases w⟩
      · have := g2 (by omega)
        simp only at cc
        rw [this] at cc; cases cc
    · rintro c rfl
      exact Yields.some ⟨by omega, wr1 (n := l.length) (by omega) (by omega)⟩
  rintro t rfl
  simp only [show Nat.beq 1 0 = false from rfl, cond_false]
  refine Yields.bind (P := fun t => t = 1) (Yields.loop R.length (fun (i : Nat) z => z = (i : Int)) rfl ?_) ?_
  · rintro i z hi rfl
    unfold F7_s4
    refine Yields.bif (fun hc => ?_) fun _ => Yields.some rfl
    have hc := of_decide_eq_true hc
    refine Yields.bind (P := fun t => t = 1) (Yields.loop R.length (fun (j : Nat) z => z = (j : Int)) rfl ?_) (by
      rintro t rfl
      exact Yields.some ⟨by omega, wr1 (n := R.length) (by omega) (by omega)⟩)
    rintro j z hj rfl
    unfold F7_s3
    refine Yields.bif (fun hq => ?_) fun _ => Yields.some rfl
    have hq := of_decide_eq_true hq
    have nx : IntKind.i64.wrap ((j : Int) + 1) = ((j + 1 : Nat) : Int) := wr1 (n := R.length) (by omega) (by omega)
    refine Yields.bif (fun ne => ?_) fun _ => Yields.some ⟨by omega, nx⟩
    have ne : i ≠ j := fun e => bne_iff_ne.1 ne (by rw [e])
    have hil : i < R.length := by omega
    have hjl : j < R.length := by omega
    have no : ¬ Cov R[i] R[j] := by
      rcases Nat.lt_or_gt_of_ne ne with h | h
      · exact List.pairwise_iff_getElem.1 hF.2.2 i j hil hjl h
      · intro c
        exact List.pairwise_iff_getElem.1 hF.2.2 j i hjl hil h ((List.pairwise_iff_getElem.1 sR j i hjl hil h).cov c)
    refine Yields.bindE (atn (List.getElem?_eq_getElem hil)) (Yields.bindE (atn (List.getElem?_eq_getElem hjl)) (Yields.bif (fun w => ?_) fun _ => Yields.bif (fun w => ?_) fun _ => Yields.some ⟨by omega, nx⟩))
    · obtain ⟨a1, a2, a3⟩ := (same3_iff _ _).1 w
      exact absurd (show Cov R[i] R[j] from ⟨by omega, by omega, by omega⟩) no
    · exact absurd ((dom_iff _ _).1 w).1 no
  rintro t rfl
  simp only [show Nat.beq 1 0 = false from rfl, cond_false]
  refine Yields.bindE (pareto_self R (by omega) sR hF.2.2) (Yields.bindE (same_self R (by omega)) (Yields.some rfl))
theorem covers : Law Try.prog 7 10 [45] := F7_law (fun l _ _ => covers_eq l)
end Go.Proofs.Ytgglfpnllkegpaa.Abs
