/- SchedcheckBusy. -/
import Derived.Test.YtgglfpnllkegpaaSaK
namespace Go.Proofs.Ytgglfpnllkegpaa.Abs
open Go
set_option linter.unusedVariables false
set_option linter.unusedSimpArgs false
set_option maxHeartbeats 1000000
theorem sub_len {β : Type} [DecidableEq β] : ∀ (a b : List β), a.Nodup → (∀ x ∈ a, x ∈ b) → a.length ≤ b.length
  | [], b, _, _ => Nat.zero_le _
  | x :: a, b, hd, hs => by
    obtain ⟨h1, h2⟩ := List.nodup_cons.1 hd
    have hx : x ∈ b := hs x (List.mem_cons_self ..)
    have ih := sub_len a (b.erase x) h2 fun y hy => (List.mem_erase_of_ne (by rintro rfl; exact h1 hy)).2 (hs y (List.mem_cons_of_mem _ hy))
    rw [List.length_erase_of_mem hx] at ih
    have := List.length_pos_of_mem hx
    rw [List.length_cons]; omega
theorem occ_more {x7 s m m' c : Int} (h : m ≤ m') (k : Occ x7 s m c) : Occ x7 s m' c := by
  unfold Occ at *
  split at k
  · rename_i h7; rw [if_pos h7]; omega
  · rename_i h7; rw [if_neg h7]; omega
section
variable (x1 x2 : Int) (x3 : Bool) (l4 l5 : List Quad) (l6 : List (Int × Int)) (x7 x8 : Int) (l9 l10 l11 : List Int)
theorem cl_more {l6' : List (Int × Int)} (hm : ∀ (i : Nat) y, l6[i]? = some y → ∃ y', l6'[i]? = some y' ∧ y'.1 = y.1 ∧ y.2 ≤ y'.2) {i j : Nat} (h : Cl l6 x7 l9 l11 i j) : Cl l6' x7 l9 l11 i j := by
  obtain ⟨yi, yj, u, si, sj, q1, q2, q3, q4, q5, q6, q7, q8, q9⟩ := h
  obtain ⟨yi', r1, r2, r3⟩ := hm i yi q1
  obtain ⟨yj', t1, t2, t3⟩ := hm j yj q2
  refine ⟨yi', yj', u, si, sj, r1, t1, q3, q4, q5, q6, by omega, by omega, ?_⟩
  rcases q9 with ⟨a1, a2, a3⟩ | ⟨a1, c, a2, a3, a4⟩
  · exact .inl ⟨a1, a2, by omega⟩
  · exact .inr ⟨a1, c, a2, occ_more r3 a3, occ_more t3 a4⟩
theorem busy_eq (x12 : Int) (k12 : 0 ≤ x12 ∧ x12 ≤ 255) (k4 : l4.length ≤ maxLen) (k6 : l6.length ≤ maxLen) : F6 x1 x2 x3 l4 l5 l6 x7 x8 l9 l10 l11 x12 = some true := by
  apply Yields.eq
  unfold F6
  refine Yields.bind (few_any x1 x2 x3 l4 l5 l6 x7 x8 l9 l10 l11 k4 k6) fun r hr => Yields.bif (fun _ => Yields.some rfl) fun q => ?_
  obtain ⟨_, _, s4, s5, s6, s9, s10, s11⟩ := hr (by simpa using q)
  refine Yields.bind (fits_prog x1 x2 x3 l4 l5 l6 x7 x8 l9 l10 l11 (by omega) (by omega) (by omega) (by omega) (by omega)) fun f hf => Yields.bif (fun _ => Yields.some rfl) fun q => Yields.bif (fun _ => Yields.some rfl) fun q3 => ?_
  obtain ⟨hv, hfit⟩ := hf.1 (by simpa using q)
  obtain ⟨v1, v2, v3, v4, v5, v6, v7⟩ := id hv
  obtain ⟨h1, h2, h4, h5, h6⟩ := id v1
  have n1 : x1 ≠ 0 := beq_eq_false_iff_ne.1 q3
  have m0 := Int.emod_nonneg x12 n1
  have m1 := Int.emod_lt_of_pos x12 (show 0 < x1 by omega)
  rw [show IntKind.i64.wrap x12 = x12 from wr (by omega) (by omega), Int.tmod_eq_emod_of_nonneg k12.1]
  obtain ⟨k, ek⟩ : ∃ k : Nat, x12 % x1 = (k : Int) := ⟨(x12 % x1).toNat, by omega⟩
  rw [ek] at m0 m1 ⊢
  have hk : k < l6.length := by omega
  obtain ⟨y, hy⟩ := some_nat hk
  refine Yields.bindE (atn hy) (Yields.bif (fun _ => Yields.some rfl) fun w => Yields.bif (fun _ => Yields.some rfl) fun w' => ?_)
  have w := of_decide_eq_false w; have w' := of_decide_eq_false w'
  have ny : 0 ≤ y.1 ∧ y.1 < l5.length ∧ 1 ≤ y.2 ∧ y.2 ≤ 256 := by rcases v7 y (List.mem_of_getElem? hy) with h | h <;> omega
  have e6 : F6__1 x1 x2 x12 = ((x1 + x2 + 1).toNat + k : Nat) := by
    unfold F6__1
    rw [wr (x := x1 + x2) (by omega) (by omega), wr (x := x1 + x2 + 1) (by omega) (by omega), wr (x := x12) (by omega) (by omega), Int.tmod_eq_emod_of_nonneg k12.1, ek, wr (by omega) (by omega)]
    omega
  obtain ⟨A, hA, a1, a2, a3, a4⟩ := v6 k (by omega)
  have hA : l4[(x1 + x2 + 1).toNat + k]? = some A := by rw [← hA]; congr 1; omega
  simp only [List.length_nil, Nat.zero_add, List.nil_append]
  rw [okg (n := l6.length) (B := 16) (by omega) (by omega), okg (n := l4.length) (B := 32) (by omega) (by omega)]
  simp only [cond_false]
  rw [e6]
  refine Yields.bindE (atn hy) (Yields.bindE (atn hA) ?_)
  rw [wr (x := y.2 + 1) (by omega) (by omega)]
  have e4 := a4 (by omega) y hy
  have gs : (setI l6 (k : Int) (y.1, y.2 + 1))[k]? = some (y.1, y.2 + 1) := by
    simp only [setI, Int.toNat_natCast]
    rw [List.getElem?_set, if_pos rfl, if_pos hk]
  refine Yields.bindE (atn gs) ?_
  simp only
  generalize hlat : (if y.2 + 1 > A.2.2.1 then y.2 + 1 else A.2.2.1) = lat
  have lb : y.2 + 1 ≤ lat ∧ A.2.2.1 ≤ lat ∧ (lat = y.2 + 1 ∨ lat = A.2.2.1) := by rw [← hlat]; split <;> omega
  generalize hl6 : setI l6 (k : Int) (y.1, y.2 + 1) = l6'
  generalize hl4 : setI l4 ((((x1 + x2 + 1).toNat + k : Nat)) : Int) (A.1, A.2.1, lat, A.2.2.2) = l4'
  have g6 : ∀ i : Nat, l6'[i]? = if i = k then some (y.1, y.2 + 1) else l6[i]? := by
    intro i
    rw [← hl6]
    simp only [setI, Int.toNat_natCast]
    rw [List.getElem?_set]
    by_cases e : i = k
    · subst e; rw [if_pos rfl, if_pos hk, if_pos rfl]
    · rw [if_neg (Ne.symm e), if_neg e]
  have hlt4 : (x1 + x2 + 1).toNat + k < l4.length := (List.getElem?_eq_some_iff.1 hA).1
  have g4 : ∀ i : Nat, l4'[i]? = if i = (x1 + x2 + 1).toNat + k then some (A.1, A.2.1, lat, A.2.2.2) else l4[i]? := by
    intro i
    rw [← hl4]
    simp only [setI, Int.toNat_natCast]
    rw [List.getElem?_set]
    by_cases e : i = (x1 + x2 + 1).toNat + k
    · subst e; rw [if_pos rfl, if_pos hlt4, if_pos rfl]
    · rw [if_neg (Ne.symm e), if_neg e]
  have n6 : l6'.length = l6.length := by rw [← hl6]; simp [setI]
  have n4 : l4'.length = l4.length := by rw [← hl4]; simp [setI]
  have oA := v2 A (List.mem_of_getElem? hA)
  have hv' : ValidOK x1 x2 x3 l4' l5 l6' := by
    refine ⟨⟨h1, h2, h4, h5, by rw [n6]; exact h6⟩, fun a ha => ?_, by rw [n4]; exact v3, fun i hi => ?_, v5, fun i hi => ?_, fun z hz => ?_⟩
    · obtain ⟨i, hi⟩ := List.mem_iff_getElem?.1 ha
      rw [g4] at hi
      split at hi
      · cases hi
        obtain ⟨c1, c2, c3, c4, c5, c6, c7⟩ := oA
        exact ⟨c1, c2, c3, c4, by show 0 ≤ lat; omega, by show lat ≤ 4096; omega, c7⟩
      · exact v2 a (List.mem_of_getElem? hi)
    · unfold FrameOK
      rw [g4, if_neg (by omega)]
      exact v4 i hi
    · obtain ⟨B, hB, b1, b2, b3, b4⟩ := v6 i hi
      unfold EndOK
      by_cases e : i = k
      · subst e
        refine ⟨(A.1, A.2.1, lat, A.2.2.2), by rw [g4, if_pos (by omega)], a1, a2, a3, fun _ z hz => ?_⟩
        rw [g6, if_pos rfl] at hz
        cases hz
        exact ⟨by show 1 ≤ lat; omega, by show y.2 + 1 ≤ lat; omega⟩
      · refine ⟨B, by rw [g4, if_neg (by omega)]; exact hB, b1, b2, b3, fun hx z hz => ?_⟩
        rw [g6, if_neg e] at hz
        exact b4 hx z hz
    · obtain ⟨i, hi⟩ := List.mem_iff_getElem?.1 hz
      rw [g6] at hi
      split at hi
      · cases hi; exact .inr ⟨ny.1, ny.2.1, by show 1 ≤ y.2 + 1; omega, by show y.2 + 1 ≤ 256; omega⟩
      · exact v7 z (List.mem_of_getElem? hi)
  have hf' : FitOK x1 x2 x3 l5 l6' x7 x8 l9 l10 l11 := by
    obtain ⟨f1, f2, f3, f4, f5, f6, f7, f8, f9, f10, f11⟩ := hfit
    refine ⟨f1, f2, f3, f4, f5, f6, f7, f8, f9, f10, fun i hi => ?_⟩
    obtain ⟨z, u, hz, hu, w1, w2⟩ := f11 i (by rw [← n6]; exact hi)
    by_cases e : i = k
    · subst e
      rw [hy] at hz; cases hz
      exact ⟨(y.1, y.2 + 1), u, by rw [g6, if_pos rfl], hu, w1, w2⟩
    · exact ⟨z, u, by rw [g6, if_neg e]; exact hz, hu, w1, w2⟩
  refine Yields.bind (clashes_any x1 x2 x3 l4 l5 l6 x7 x8 l9 l10 l11 (by omega) (by omega) (by omega) (by omega) (by omega)) fun L hL => Yields.bind (clashes_any x1 x2 x3 l4' l5 l6' x7 x8 l9 l10 l11 (by omega) (by omega) (by omega) (by omega) (by omega)) fun L' hL' => ?_
  have i1 := hL.1 ⟨hv, hfit⟩
  have i2 := hL'.1 ⟨hv', hf'⟩
  have sub : ∀ p ∈ L, p ∈ L' := by
    intro p hp
    obtain ⟨j, m, e, c1, c2, c3⟩ := (i1.2.1 p).1 hp
    refine (i2.2.1 p).2 ⟨j, m, e, c1, by rw [n6]; exact c2, cl_more l6 x7 l9 l11 (fun i z hz => ?_) c3⟩
    rw [g6]
    by_cases e : i = k
    · subst e; rw [hy] at hz; cases hz
      exact ⟨(y.1, y.2 + 1), by rw [if_pos rfl], rfl, by show y.2 ≤ y.2 + 1; omega⟩
    · exact ⟨z, by rw [if_neg e]; exact hz, rfl, Int.le_refl _⟩
  have len := sub_len L L' i1.1 sub
  have len1 := IsCl.len l6 x7 l9 l11 i1 (by omega)
  have len2 := IsCl.len l6' x7 l9 l11 i2 (by omega)
  refine Yields.bind (P := fun t => t = 1) (Yields.loop L.length (fun (i : Nat) z => z = (i : Int)) rfl ?_) (by
    rintro t rfl
    exact Yields.some (decide_eq_true (by omega)))
  rintro i z hi rfl
  unfold F6_s2
  refine Yields.bif (fun hc => ?_) fun _ => Yields.some rfl
  have hc := of_decide_eq_true hc
  obtain ⟨p, hp⟩ := some_nat (l := L) (i := i) (by omega)
  obtain ⟨m, hm⟩ := List.mem_iff_getElem?.1 (sub p (List.mem_of_getElem? hp))
  have hm' := (List.getElem?_eq_some_iff.1 hm).1
  refine Yields.bind (P := fun c => c = true) (Yields.loop L'.length (fun (t : Nat) z => z.2 = (t : Int) ∧ (m < t → z.1 = true)) ⟨rfl, fun h => absurd h (by omega)⟩ ?_) ?_
  · rintro t ⟨c, b⟩ ht ⟨g1, g2⟩
    simp only at g1 g2
    subst g1
    unfold F6_s1
    refine Yields.bif (fun hq => ?_) fun hq => Yields.some (g2 (by have := of_decide_eq_false hq; omega))
    have hq := of_decide_eq_true hq
    have nx : IntKind.i64.wrap ((t : Int) + 1) = ((t + 1 : Nat) : Int) := wr1 (n := L'.length) (by omega) (by omega)
    refine Yields.bif (fun cc => Yields.some ⟨by omega, nx, fun _ => rfl⟩) fun cc => ?_
    obtain ⟨v, hv⟩ := some_nat (l := L') (i := t) (by omega)
    refine Yields.bindE (atn hp) (Yields.bindE (atn hv) (Yields.some ⟨by omega, nx, fun h => ?_⟩))
    by_cases e : t = m
    · subst e
      rw [hm] at hv; cases hv
      simp
    · have := g2 (by omega)
      simp only at cc
      rw [this] at cc; cases cc
  · rintro c rfl
    exact Yields.some ⟨by omega, wr1 (n := L.length) (by omega) (by omega)⟩
end
theorem busy : Law Try.prog 6 10 [26, 29, 5] := F6_law (fun x1 x2 x3 l4 l5 l6 x7 x8 l9 l10 l11 x12 _ _ h4 _ _ _ h6 _ _ _ _ _ _ _ _ _ h12 => busy_eq x1 x2 x3 l4 l5 l6 x7 x8 l9 l10 l11 x12 (wf_u8 h12) h4.1 h6.1)
end Go.Proofs.Ytgglfpnllkegpaa.Abs
