/- SchedcheckMoves. -/
import Derived.Test.YtgglfpnllkegpaaSaK
namespace Go.Proofs.Ytgglfpnllkegpaa.Abs
open Go
set_option linter.unusedVariables false
set_option linter.unusedSimpArgs false
set_option maxHeartbeats 1000000
theorem ov_move {x7 s m t n b : Int} (h7 : 0 < x7) (hm : 1 ≤ m) (hn : 1 ≤ n) : Ov x7 (s + b) m (t + b) n ↔ Ov x7 s m t n := by
  rw [← ov_mod h7 hm hn, ← ov_mod h7 hm hn, show t + b - (s + b) = t - s by omega]
section
variable (x1 x2 : Int) (x3 : Bool) (l4 l5 : List Quad) (l6 : List (Int × Int)) (x7 x8 : Int) (l9 l10 l11 : List Int)
theorem cl_move (b : Int) (h7 : 0 < x7) (hN : ∀ y ∈ l6, NeedOK l5 y) (i j : Nat) : Cl l6 x7 (l9.map (· + b)) l11 i j ↔ Cl l6 x7 l9 l11 i j := by
  have nb : ∀ {k : Nat} {y : Int × Int}, l6[k]? = some y → 0 ≤ y.1 → 1 ≤ y.2 := fun {k y} hy h0 => by
    rcases hN y (List.mem_of_getElem? hy) with h | h <;> omega
  constructor
  · rintro ⟨yi, yj, u, si, sj, q1, q2, q3, q4, q5, q6, q7, q8, q9⟩
    rw [List.getElem?_map] at q5 q6
    cases h5 : l9[i]? with
    | none => rw [h5] at q5; cases q5
    | some s =>
      cases h6 : l9[j]? with
      | none => rw [h6] at q6; cases q6
      | some t =>
        rw [h5] at q5; rw [h6] at q6; cases q5; cases q6
        exact ⟨yi, yj, u, s, t, q1, q2, q3, q4, h5, h6, q7, q8, q9.imp id fun h => ⟨h.1, (ov_move h7 (nb q1 q7) (nb q2 (by omega))).1 h.2⟩⟩
  · rintro ⟨yi, yj, u, si, sj, q1, q2, q3, q4, q5, q6, q7, q8, q9⟩
    exact ⟨yi, yj, u, si + b, sj + b, q1, q2, q3, q4, by rw [List.getElem?_map, q5]; rfl, by rw [List.getElem?_map, q6]; rfl, q7, q8, q9.imp id fun h => ⟨h.1, (ov_move h7 (nb q1 q7) (nb q2 (by omega))).2 h.2⟩⟩
theorem tm_move (b v : Int) (e9 : (l9.length : Int) = x1) (e10 : (l10.length : Int) = x2) (h1 : 0 ≤ x1) (h2 : 0 ≤ x2) (v0 : 0 ≤ v) : tm x1 x2 x8 (l9.map (· + b)) (l10.map (· + b)) v = if v < x1 + x2 then tm x1 x2 x8 l9 l10 v + b else tm x1 x2 x8 l9 l10 v := by
  unfold tm
  by_cases a : v < x1
  · rw [if_pos a, if_pos a, if_pos (show v < x1 + x2 by omega), List.getElem?_map]
    obtain ⟨y, hy⟩ := some_nat (l := l9) (i := v.toNat) (by omega)
    rw [hy]; rfl
  · rw [if_neg a, if_neg a]
    by_cases c : v < x1 + x2
    · rw [if_pos c, if_pos c, if_pos c, List.getElem?_map]
      obtain ⟨y, hy⟩ := some_nat (l := l10) (i := (v - x1).toNat) (by omega)
      rw [hy]; rfl
    · rw [if_neg c, if_neg c, if_neg c]
theorem add_loop1 (b : Int) (hb : 0 ≤ b ∧ b ≤ 255) (hT : ∀ s ∈ l9, TimeOK s) (k9 : l9.length ≤ 1000) : loopO (fun (s : Int × Int × Int × (List Int)) => F4_s1 l9 b s.1 s.2.1 s.2.2.1 s.2.2.2) (0, x7, x8, ([] : List Int)) = some (x7, x8, l9.map (· + b)) := by
  apply Yields.eq
  refine Yields.loop l9.length (fun (i : Nat) z => z = ((i : Int), x7, x8, (l9.take i).map (· + b))) rfl ?_
  rintro i z hi rfl
  unfold F4_s1
  simp only
  refine Yields.bif (fun hc => ?_) fun hc => Yields.some (by
    have hc := of_decide_eq_false hc
    rw [List.take_of_length_le (by omega)]; exact rfl)
  have hc := of_decide_eq_true hc
  obtain ⟨y, hy⟩ := some_nat (l := l9) (i := i) (by omega)
  have nx : IntKind.i64.wrap ((i : Int) + 1) = ((i + 1 : Nat) : Int) := wr1 (n := l9.length) (by omega) (by omega)
  have ty : 0 ≤ y ∧ y ≤ 4096 := hT y (List.mem_of_getElem? hy)
  refine Yields.bindE (atn hy) ?_
  rw [okg (by simp only [List.length_map, List.length_take, List.length_singleton]; omega) (by omega), cond_false, nx, wr (x := b) (by omega) (by omega), wr (x := y + b) (by omega) (by omega)]
  refine Yields.some ⟨by omega, ?_⟩
  show (((i + 1 : Nat) : Int), x7, x8, List.map (· + b) (l9.take i) ++ [y + b]) = (((i + 1 : Nat) : Int), x7, x8, (l9.take (i + 1)).map (· + b))
  rw [take_succ' hy, List.map_append]; rfl
theorem moves_eq (x12 : Int) (k12 : 0 ≤ x12 ∧ x12 ≤ 255) (k4 : l4.length ≤ maxLen) (k6 : l6.length ≤ maxLen) : F4 x1 x2 x3 l4 l5 l6 x7 x8 l9 l10 l11 x12 = some true := by
  apply Yields.eq
  unfold F4
  refine Yields.bind (few_any x1 x2 x3 l4 l5 l6 x7 x8 l9 l10 l11 k4 k6) fun r hr => Yields.bif (fun _ => Yields.some rfl) fun q => ?_
  obtain ⟨_, _, s4, s5, s6, s9, s10, s11⟩ := hr (by simpa using q)
  refine Yields.bind (fits_prog x1 x2 x3 l4 l5 l6 x7 x8 l9 l10 l11 (by omega) (by omega) (by omega) (by omega) (by omega)) fun f hf => Yields.bif (fun _ => Yields.some rfl) fun q => Yields.bif (fun _ => Yields.some rfl) fun q3 => ?_
  obtain ⟨hv, hfit⟩ := hf.1 (by simpa using q)
  have h3 : x3 = true := by simpa using q3
  obtain ⟨h1, h2, h4, h5, h6⟩ := id hv.1
  have p7 : 0 < x7 := hfit.2.2.2.2.2.1.2 h3
  have f8 := hfit.2.2.2.2.1
  have e9 := hfit.1
  have e10 := hfit.2.2.1
  have hT := hfit.2.2.2.2.2.2.2.2.1
  have hT' := hfit.2.2.2.2.2.2.2.2.2.1
  refine Yields.bindE (add_loop1 x7 x8 l9 x12 k12 hT (by omega)) ?_
  have al : loopO (fun (s : Int × Int × Int × (List Int)) => F4_s2 l10 x12 s.1 s.2.1 s.2.2.1 s.2.2.2) (0, x7, x8, ([] : List Int)) = some (x7, x8, l10.map (· + x12)) := add_loop1 x7 x8 l10 x12 k12 hT' (by omega)
  refine Yields.bindE al ?_
  simp only
  have m9 : (l9.map (· + x12)).length ≤ 1000 := by rw [List.length_map]; omega
  have m10 : (l10.map (· + x12)).length ≤ 1000 := by rw [List.length_map]; omega
  refine Yields.bind (fits_prog x1 x2 x3 l4 l5 l6 x7 x8 (l9.map (· + x12)) (l10.map (· + x12)) l11 (by omega) (by omega) (by omega) m9 m10) fun f' hf' => Yields.bif (fun _ => Yields.some rfl) fun q' => ?_
  obtain ⟨_, hfit'⟩ := hf'.1 (by simpa using q')
  refine Yields.bind (clashes_any x1 x2 x3 l4 l5 l6 x7 x8 l9 l10 l11 (by omega) (by omega) (by omega) (by omega) (by omega)) fun L hL => Yields.bind (clashes_any x1 x2 x3 l4 l5 l6 x7 x8 (l9.map (· + x12)) (l10.map (· + x12)) l11 (by omega) (by omega) (by omega) m9 m10) fun L' hL' => ?_
  have i1 := hL.1 ⟨hv, hfit⟩
  have i2 := hL'.1 ⟨hv, hfit'⟩
  have i3 : IsCl l6 x7 l9 l11 L' := by
    refine ⟨i2.1, fun p => (i2.2.1 p).trans ?_, i2.2.2⟩
    unfold PairCl
    exact ⟨fun ⟨j, k, a1, a2, a3, a4⟩ => ⟨j, k, a1, a2, a3, (cl_move l5 l6 x7 l9 l11 x12 p7 hv.2.2.2.2.2.2 j k).1 a4⟩, fun ⟨j, k, a1, a2, a3, a4⟩ => ⟨j, k, a1, a2, a3, (cl_move l5 l6 x7 l9 l11 x12 p7 hv.2.2.2.2.2.2 j k).2 a4⟩⟩
  obtain rfl := IsCl.eq l6 x7 l9 l11 i1 i3
  rw [bne_self_eq_false, cond_false]
  have hlen := IsCl.len l6 x7 l9 l11 i1 (by omega)
  refine Yields.bind (P := fun t => t = 1) (Yields.loop L.length (fun (i : Nat) z => z = (i : Int)) rfl ?_) ?_
  · rintro i z hi rfl
    unfold F4_s3
    refine Yields.bif (fun hc => ?_) fun _ => Yields.some rfl
    have hc := of_decide_eq_true hc
    obtain ⟨y, hy⟩ := some_nat (l := L) (i := i) (by omega)
    refine Yields.bindE (atn hy) (Yields.bindE (atn hy) ?_)
    rw [beq_self_eq_true, beq_self_eq_true]
    simp only [Bool.and_true, Bool.not_true, cond_false]
    exact Yields.some ⟨by omega, wr1 (n := L.length) (by omega) (by omega)⟩
  rintro t rfl
  simp only [show Nat.beq 1 0 = false from rfl, cond_false]
  refine Yields.bind (slack_any x1 x2 x3 l4 l5 l6 x7 x8 l9 l10 l11 (by omega) (by omega) (by omega) (by omega) (by omega)) fun S hS => Yields.bind (slack_any x1 x2 x3 l4 l5 l6 x7 x8 (l9.map (· + x12)) (l10.map (· + x12)) l11 (by omega) (by omega) (by omega) m9 m10) fun S' hS' => ?_
  obtain rfl := hS.1 ⟨hv, hfit⟩
  obtain rfl := hS'.1 ⟨hv, hfit'⟩
  refine Yields.bind (P := fun t => t = 1) (Yields.loop l4.length (fun (i : Nat) z => z = (i : Int)) rfl ?_) (by rintro t rfl; exact Yields.some (by simp))
  rintro i z hi rfl
  unfold F4_s4
  refine Yields.bif (fun hc => ?_) fun _ => Yields.some rfl
  have hc := of_decide_eq_true hc
  rw [List.length_map] at hc
  obtain ⟨a, ha⟩ := some_nat (l := l4) (i := i) (by omega)
  obtain ⟨a1, a2, a3, a4, a5, a6, a7, a8, a9⟩ := hv.2.1 a (List.mem_of_getElem? ha)
  have eg : (l4.map (slk x1 x2 x7 x8 l9 l10))[i]? = some (slk x1 x2 x7 x8 l9 l10 a) := by rw [List.getElem?_map, ha]; rfl
  have eg' : (l4.map (slk x1 x2 x7 x8 (l9.map (· + x12)) (l10.map (· + x12))))[i]? = some (slk x1 x2 x7 x8 (l9.map (· + x12)) (l10.map (· + x12)) a) := by rw [List.getElem?_map, ha]; rfl
  have b1 := tm_bd x1 x2 x3 l5 l6 x7 x8 l9 l10 l11 hv.1 hfit a1
  have b3 := tm_bd x1 x2 x3 l5 l6 x7 x8 l9 l10 l11 hv.1 hfit a3
  have mb := mul_bd (show 0 ≤ x7 by omega) f8 a7 a8
  have t1 := tm_move x1 x2 x8 l9 l10 x12 a.1 e9 e10 h1 h4 a1
  have t3 := tm_move x1 x2 x8 l9 l10 x12 a.2.1 e9 e10 h1 h4 a3
  have nx : IntKind.i64.wrap ((i : Int) + 1) = ((i + 1 : Nat) : Int) := wr1 (n := l4.length) (by omega) (by omega)
  have fin : ∀ d : Int, -1000 ≤ d → d ≤ 1000 → slk x1 x2 x7 x8 (l9.map (· + x12)) (l10.map (· + x12)) a = slk x1 x2 x7 x8 l9 l10 a + d → Yields (Nx i l4.length (fun (i : Nat) (z : Int) => z = (i : Int)) (fun t : Nat => t = 1))
      (Option.bind (at? (l4.map (slk x1 x2 x7 x8 (l9.map (· + x12)) (l10.map (· + x12)))) (i : Int)) fun y76 => Option.bind (at? (l4.map (slk x1 x2 x7 x8 l9 l10)) (i : Int)) fun y73 => bif (y76 != IntKind.i64.wrap (y73 + d)) then some (.inr 0) else some (.inl (IntKind.i64.wrap ((i : Int) + 1)))) := by
    intro d d0 d1 h
    refine Yields.bindE (atn eg') (Yields.bindE (atn eg) ?_)
    rw [h, wr (x := slk x1 x2 x7 x8 l9 l10 a + d) (by unfold slk; omega) (by unfold slk; omega), bne_self_eq_false, cond_false]
    exact Yields.some ⟨by omega, nx⟩
  have w12 : IntKind.i64.wrap x12 = x12 := wr (by omega) (by omega)
  refine Yields.bindE (atn ha) ?_
  rw [wr (x := x1 + x2) (by omega) (by omega)]
  unfold F4__1
  rw [w12, wr (x := 0 + x12) (by omega) (by omega), wr (x := 0 - x12) (by omega) (by omega), wr (x := 0 + x12 - x12) (by omega) (by omega)]
  refine Yields.bif (fun c => Yields.bif (fun c' => fin _ (by omega) (by omega) ?_) fun c' => fin _ (by omega) (by omega) ?_) fun c => Yields.bif (fun c' => fin _ (by omega) (by omega) ?_) fun c' => fin _ (by omega) (by omega) ?_
  · have c := of_decide_eq_true c; have c' := of_decide_eq_true c'
    rw [if_neg (by omega)] at t1 t3
    unfold slk; rw [t1, t3]; omega
  · have c := of_decide_eq_true c; have c' := of_decide_eq_false c'
    rw [if_neg (by omega)] at t1
    rw [if_pos (by omega)] at t3
    unfold slk; rw [t1, t3]; omega
  · have c := of_decide_eq_false c; have c' := of_decide_eq_true c'
    rw [if_pos (by omega)] at t1
    rw [if_neg (by omega)] at t3
    unfold slk; rw [t1, t3]; omega
  · have c := of_decide_eq_false c; have c' := of_decide_eq_false c'
    rw [if_pos (by omega)] at t1 t3
    unfold slk; rw [t1, t3]; omega
end
theorem moves : Law Try.prog 4 10 [26, 29, 5] := F4_law (fun x1 x2 x3 l4 l5 l6 x7 x8 l9 l10 l11 x12 _ _ h4 _ _ _ h6 _ _ _ _ _ _ _ _ _ h12 => moves_eq x1 x2 x3 l4 l5 l6 x7 x8 l9 l10 l11 x12 (wf_u8 h12) h4.1 h6.1)
end Go.Proofs.Ytgglfpnllkegpaa.Abs
