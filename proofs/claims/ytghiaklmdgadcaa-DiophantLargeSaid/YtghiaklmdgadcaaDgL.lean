/- The law of large ranges, in plain numbers. -/
import Derived.Test.YtghiaklmdgadcaaVw
import Derived.Test.YtghiaklmdgadcaaDg
namespace Go.Proofs.Ytghiaklmdgadcaa.Abs
open Go
set_option linter.unusedVariables false
set_option linter.unusedSimpArgs false

/-- What holds at each round: M bounds a and b. -/
structure GInv (M : Nat) (a b g s t h u v : Int) : Prop where
  eg : g = s * a + t * b
  eh : h = u * a + v * b
  gc : Nat.gcd g.natAbs h.natAbs = Nat.gcd a.natAbs b.natAbs
  mu : u.natAbs * g.natAbs + s.natAbs * h.natAbs ≤ M
  mv : v.natAbs * g.natAbs + t.natAbs * h.natAbs ≤ M
  bg : g.natAbs ≤ M
  bh : h.natAbs ≤ M
  bs : s.natAbs ≤ M
  bt : t.natAbs ≤ M
  bu : u.natAbs ≤ M
  bv : v.natAbs ≤ M

theorem GInv.start (M : Nat) (a b : Int) (h1 : 1 ≤ M) (ha : a.natAbs ≤ M) (hb : b.natAbs ≤ M) : GInv M a b a 1 0 b 0 1 :=
  ⟨by omega, by omega, rfl, by simpa using hb, by simpa using ha, ha, hb, by simpa using h1, by simp, by simp, by simpa using h1⟩

theorem quo_le (g h : Int) (hh : h ≠ 0) : (g.tdiv h).natAbs ≤ g.natAbs := by
  rw [Int.natAbs_tdiv]; exact Nat.div_le_self _ _
theorem quo_mul (g h : Int) : ((g.tdiv h) * h).natAbs ≤ g.natAbs := by
  rw [Int.natAbs_mul, Int.natAbs_tdiv]; exact Nat.div_mul_le_self _ _
theorem quo_rest (g h : Int) : g - (g.tdiv h) * h = g.tmod h := by
  rw [Int.tmod_def, Int.mul_comm]
theorem quo_u {M : Nat} (g h u : Int) (x : Nat) (m : u.natAbs * g.natAbs + x ≤ M) : ((g.tdiv h) * u).natAbs ≤ M := by
  have h1 : (g.natAbs / h.natAbs) * u.natAbs ≤ g.natAbs * u.natAbs := Nat.mul_le_mul_right _ (Nat.div_le_self _ _)
  rw [Int.natAbs_mul, Int.natAbs_tdiv]
  have h2 : g.natAbs * u.natAbs = u.natAbs * g.natAbs := Nat.mul_comm _ _
  show (g.natAbs / h.natAbs) * u.natAbs ≤ M
  generalize u.natAbs * g.natAbs = y at *
  generalize (g.natAbs / h.natAbs) * u.natAbs = z at *
  generalize g.natAbs * u.natAbs = y' at *
  omega
theorem step_bd {M : Nat} (g h s u : Int) (hh : h ≠ 0) (m : u.natAbs * g.natAbs + s.natAbs * h.natAbs ≤ M) :
    (s - (g.tdiv h) * u).natAbs * h.natAbs + u.natAbs * (g.tmod h).natAbs ≤ M := by
  have h1 : (s - (g.tdiv h) * u).natAbs ≤ s.natAbs + (g.natAbs / h.natAbs) * u.natAbs := by
    have := Int.natAbs_sub_le s ((g.tdiv h) * u)
    rwa [Int.natAbs_mul, Int.natAbs_tdiv] at this
  rw [Int.natAbs_tmod]
  generalize g.natAbs = G at *
  generalize h.natAbs = K at *
  generalize u.natAbs = U at *
  generalize s.natAbs = S at *
  have h2 := Nat.mul_le_mul_right K h1
  have h3 : (S + G / K * U) * K + U * (G % K) = U * G + S * K := by
    have e := Nat.div_add_mod G K
    calc (S + G / K * U) * K + U * (G % K) = S * K + U * (K * (G / K) + G % K) := by
          rw [Nat.add_mul, Nat.mul_add, Nat.add_assoc]
          congr 2
          rw [Nat.mul_comm (G / K) U, Nat.mul_assoc, Nat.mul_comm (G / K) K]
      _ = U * G + S * K := by rw [e, Nat.add_comm]
  omega
theorem GInv.step {M : Nat} {a b g s t h u v : Int} (H : GInv M a b g s t h u v) (hh : h ≠ 0) :
    GInv M a b h u v (g - (g.tdiv h) * h) (s - (g.tdiv h) * u) (t - (g.tdiv h) * v) := by
  have m1 := step_bd g h s u hh H.mu
  have m2 := step_bd g h t v hh H.mv
  have hp : 1 ≤ h.natAbs := by omega
  have l1 : (s - (g.tdiv h) * u).natAbs ≤ M := by
    have := Nat.mul_le_mul_left (s - (g.tdiv h) * u).natAbs hp
    omega
  have l2 : (t - (g.tdiv h) * v).natAbs ≤ M := by
    have := Nat.mul_le_mul_left (t - (g.tdiv h) * v).natAbs hp
    omega
  have r1 : (g.tmod h).natAbs ≤ M := by
    rw [Int.natAbs_tmod]
    exact Nat.le_trans (Nat.mod_le _ _) H.bg
  refine ⟨H.eh, ?_, ?_, ?_, ?_, H.bh, ?_, H.bu, H.bv, l1, l2⟩
  · have e1 := H.eg
    have e2 := H.eh
    generalize g.tdiv h = q
    rw [Int.sub_mul, Int.sub_mul, Int.mul_assoc, Int.mul_assoc]
    have : q * h = q * (u * a) + q * (v * b) := by rw [e2, Int.mul_add]
    omega
  · rw [quo_rest, Int.natAbs_tmod, ← H.gc, Nat.gcd_comm h.natAbs, ← Nat.gcd_rec, Nat.gcd_comm]
  · rw [quo_rest]; exact m1
  · rw [quo_rest]; exact m2
  · rw [quo_rest]; exact r1
theorem GInv.less {M : Nat} {a b g s t h u v : Int} (H : GInv M a b g s t h u v) (hh : h ≠ 0) : (g - (g.tdiv h) * h).natAbs < h.natAbs := by
  rw [quo_rest, Int.natAbs_tmod]; exact Nat.mod_lt _ (by omega)

def Nm {Z τ : Type} (m : Nat) (I : Z → Prop) (μ : Z → Nat) (R : τ → Prop) : Z ⊕ τ → Prop
  | .inl z => I z ∧ μ z < m
  | .inr t => R t
theorem Yields.while {Z τ : Type} {step : Z → Option (Z ⊕ τ)} {R : τ → Prop} (I : Z → Prop) (μ : Z → Nat) {z : Z} (h0 : I z) (h : ∀ z, I z → Yields (Nm (μ z) I μ R) (step z)) : Yields R (loopO step z) := by
  obtain ⟨t, e, r⟩ := loopO_ind I μ R (fun s hs => by
    obtain ⟨o, e, p⟩ := h s hs
    cases o with
    | inl z' => exact .inl ⟨z', e, p.1, p.2⟩
    | inr t => exact .inr ⟨t, e, p⟩) h0
  exact ⟨t, e, r⟩
theorem wrap_add (x y : Int) : IntKind.i64.wrap (IntKind.i64.wrap x + IntKind.i64.wrap y) = IntKind.i64.wrap (x + y) := by
  unfold IntKind.wrap; simp [IntKind.signed, IntKind.bits, Int.bmod_def]; omega
theorem wrap_small {x : Int} {M : Nat} (h : x.natAbs ≤ M) (hM : M ≤ 9223372036854775807) : IntKind.i64.wrap x = x := wrap_i64 (by omega) (by omega)
theorem mul_small {x y : Int} {A B : Nat} (hx : x.natAbs ≤ A) (hy : y.natAbs ≤ B) : (x * y).natAbs ≤ A * B := by
  rw [Int.natAbs_mul]; exact Nat.mul_le_mul hx hy
def gg (a b : Int) : Nat := Nat.gcd a.natAbs b.natAbs
def MM : Nat := 2147483648
theorem gcd_eq (a b : Int) (ha : a.natAbs ≤ MM) (hb : b.natAbs ≤ MM) : ∃ s t : Int, F25 a b = some ((gg a b : Int), s, t) ∧ (gg a b : Int) = s * a + t * b ∧ s.natAbs ≤ MM ∧ t.natAbs ≤ MM := by
  have key : Yields (fun (r : Int × Int × Int) => r.1 = r.2.1 * a + r.2.2 * b ∧ r.1.natAbs = gg a b ∧ r.2.1.natAbs ≤ MM ∧ r.2.2.natAbs ≤ MM) (loopO (fun (s : Int × Int × Int × Int × Int × Int) => F25_s1 s.1 s.2.1 s.2.2.1 s.2.2.2.1 s.2.2.2.2.1 s.2.2.2.2.2) ((F25__1 a), 1, 0, (F25__2 b), 0, 1)) := by
    have e1 : F25__1 a = a := by unfold F25__1; unfold MM at ha; (repeat' split) <;> omega
    have e2 : F25__2 b = b := by unfold F25__2; unfold MM at hb; (repeat' split) <;> omega
    rw [e1, e2]
    refine Yields.while (fun (z : Int × Int × Int × Int × Int × Int) => GInv MM a b z.1 z.2.1 z.2.2.1 z.2.2.2.1 z.2.2.2.2.1 z.2.2.2.2.2) (fun z => z.2.2.2.1.natAbs) (GInv.start MM a b (by decide) ha hb) ?_
    rintro ⟨g, s, t, h, u, v⟩ H
    simp only at H ⊢
    unfold F25_s1
    refine Yields.bif (fun c => ?_) (fun c => ?_)
    · have hh : h ≠ 0 := by simpa using c
      have hM : MM ≤ 9223372036854775807 := by decide
      have hs := H.step hh
      have q1 : IntKind.i64.wrap (g.tdiv h) = g.tdiv h := wrap_small (Nat.le_trans (quo_le g h hh) H.bg) hM
      have q2 : IntKind.i64.wrap (g.tdiv h * h) = g.tdiv h * h := wrap_small (Nat.le_trans (quo_mul g h) H.bg) hM
      have q3 : IntKind.i64.wrap (g.tdiv h * u) = g.tdiv h * u := wrap_small (quo_u g h u _ H.mu) hM
      have q4 : IntKind.i64.wrap (g.tdiv h * v) = g.tdiv h * v := wrap_small (quo_u g h v _ H.mv) hM
      rw [q1, q2, q3, q4, wrap_small hs.bh hM, wrap_small hs.bu hM, wrap_small hs.bv hM]
      exact Yields.some ⟨hs, H.less hh⟩
    · have hh : h = 0 := by simpa using c
      subst hh
      refine Yields.some ⟨H.eg, ?_, H.bs, H.bt⟩
      have := H.gc
      simpa [gg] using this
  obtain ⟨⟨g, s, t⟩, e, h1, h2, h3, h4⟩ := key
  simp only at h1 h2 h3 h4
  unfold F25
  rw [e]
  simp only [Option.bind_some]
  have hM : MM ≤ 9223372036854775807 := by decide
  have hgM : gg a b ≤ MM ∨ True := .inr trivial
  by_cases hneg : g < 0
  · have d : decide (g < 0) = true := by simpa using hneg
    rw [d]
    have hgb : g.natAbs ≤ MM := by
      rw [h2]; unfold gg
      rcases Nat.eq_zero_or_pos a.natAbs with hz | hz
      · rw [hz, Nat.gcd_zero_left]; exact hb
      · exact Nat.le_trans (Nat.gcd_le_left _ hz) ha
    have w1 : IntKind.i64.wrap (0 - g) = -g := by rw [Int.zero_sub]; exact wrap_small (by rw [Int.natAbs_neg]; exact hgb) hM
    have w2 : IntKind.i64.wrap (0 - s) = -s := by rw [Int.zero_sub]; exact wrap_small (by rw [Int.natAbs_neg]; exact h3) hM
    have w3 : IntKind.i64.wrap (0 - t) = -t := by rw [Int.zero_sub]; exact wrap_small (by rw [Int.natAbs_neg]; exact h4) hM
    rw [w1, w2, w3]
    have z : ((-g) == 0) = false := beq_eq_false_iff_ne.2 (by omega)
    rw [z]
    simp only [cond_true, cond_false]
    have eg : (gg a b : Int) = -g := by omega
    exact ⟨-s, -t, by rw [eg], by rw [eg, h1, Int.neg_mul, Int.neg_mul]; omega, by rw [Int.natAbs_neg]; exact h3, by rw [Int.natAbs_neg]; exact h4⟩
  · have d : decide (g < 0) = false := by simpa using hneg
    rw [d]
    simp only [cond_false]
    by_cases hz : g = 0
    · subst hz
      have e0 : (gg a b : Int) = 0 := by omega
      exact ⟨0, 0, by rw [e0]; rfl, by rw [e0]; omega, by decide, by decide⟩
    · have z : (g == 0) = false := beq_eq_false_iff_ne.2 hz
      rw [z]
      have eg : (gg a b : Int) = g := by omega
      exact ⟨s, t, by rw [eg]; rfl, by rw [eg]; exact h1, h3, h4⟩
theorem rem_eq {x m : Int} (hm : 0 < m) (hm2 : m ≤ 2147483648) : F26 x m = some (x % m) := by
  have g2 := Int.emod_lt_of_pos x hm
  have g1 := Int.emod_nonneg x (show m ≠ 0 by omega)
  have tf : (if x.tmod m < 0 then x.tmod m + m else x.tmod m) = x % m := by
    rcases Int.lt_or_le x 0 with hx | hx
    · have e : x.tmod m = -((-x) % m) := by
        rw [← Int.tmod_eq_emod_of_nonneg (by omega : 0 ≤ -x), Int.neg_tmod]; omega
      have g1 := Int.emod_nonneg (-x) (show m ≠ 0 by omega)
      have g2 := Int.emod_lt_of_pos (-x) hm
      rw [e]
      by_cases hz : (-x) % m = 0
      · rw [hz]; simp
        exact (Int.emod_eq_zero_of_dvd (Int.dvd_neg.1 (Int.dvd_of_emod_eq_zero hz))).symm
      · rw [if_pos (by omega)]
        have q := Int.mul_ediv_add_emod (-x) m
        generalize hr : (-x) % m = r at *
        generalize (-x) / m = d at *
        have ex : x = (m - r) + m * (-d - 1) := by rw [Int.mul_sub, Int.mul_neg]; omega
        rw [ex, Int.add_mul_emod_self_left, Int.emod_eq_of_lt (by omega) (by omega)]
        omega
    · rw [Int.tmod_eq_emod_of_nonneg hx]
      rw [if_neg (by omega)]
  refine Yields.eq ?_
  unfold F26
  have z : (m == 0) = false := beq_eq_false_iff_ne.2 (by omega)
  rw [z]
  simp only [cond_false]
  refine Yields.bif (fun e => ?_) (fun e => ?_)
  · have e' : x.tmod m < 0 := by simpa using e
    rw [if_pos e'] at tf
    refine Yields.some ?_
    rw [tf, wrap_i64 (by omega) (by omega)]
  · have e' : ¬ x.tmod m < 0 := by simpa using e
    rw [if_neg e'] at tf
    exact Yields.some tf
theorem w_most : IntKind.i64.wrap (0 - 2147483648) = -2147483648 := by decide
theorem w_big : IntKind.i64.wrap (0 - 2305843009213693952) = -2305843009213693952 := by decide
theorem within_iff (x : Int) : F22 x 2147483648 = true ↔ x.natAbs ≤ MM := by
  unfold F22 MM; rw [w_most]; simp; omega
theorem within_big (x : Int) : F22 x 2305843009213693952 = true ↔ x.natAbs ≤ 2305843009213693952 := by
  unfold F22; rw [w_big]; simp; omega
theorem valid_iff (x1 x2 x3 x4 x5 x6 x7 x8 x9 : Int) : F9 x1 x2 x3 x4 x5 x6 x7 x8 x9 = true ↔ (x1.natAbs ≤ MM ∧ x2.natAbs ≤ MM ∧ x3.natAbs ≤ 2305843009213693952 ∧ x4.natAbs ≤ MM ∧ x5.natAbs ≤ MM ∧ x6.natAbs ≤ MM ∧ x7.natAbs ≤ MM ∧ x8.natAbs ≤ MM ∧ x9.natAbs ≤ MM) := by
  unfold F9
  simp only [← within_iff, ← within_big]
  cases F22 x1 2147483648 <;> cases F22 x2 2147483648 <;> cases F22 x3 2305843009213693952 <;> cases F22 x4 2147483648 <;> cases F22 x5 2147483648 <;> cases F22 x6 2147483648 <;> cases F22 x7 2147483648 <;> cases F22 x8 2147483648 <;> simp
theorem valid_prog {x1 x2 x3 x4 x5 x6 x7 x8 x9 : Int} (h : F9 x1 x2 x3 x4 x5 x6 x7 x8 x9 = true) : F13 x1 x2 x3 x4 x5 x6 x7 x8 x9 = some true := by
  obtain ⟨h1, h2, h3, h4, h5, h6, h7, h8, h9⟩ := (valid_iff _ _ _ _ _ _ _ _ _).1 h
  rw [← within_iff] at h1 h2 h4 h5 h6 h7 h8 h9
  rw [← within_big] at h3
  unfold F13
  rw [loop_forall (n := 8) (by decide) (fun i => F22 (([x1, x2, x4, x5, x6, x7, x8, x9] : List Int).getD i 0) 2147483648) (by
    intro i hi
    unfold F13_s1
    have hd : decide ((i : Int) < 8) = true := by simp; omega
    rw [hd, in_range (n := 8) (by omega) (by omega)]
    simp only [cond_true, Bool.not_true, cond_false, Int.toNat_natCast]
    show (bif !(F22 (([x1, x2, x4, x5, x6, x7, x8, x9] : List Int).getD i 0) 2147483648) then _ else _) = _
    cases F22 (([x1, x2, x4, x5, x6, x7, x8, x9] : List Int).getD i 0) 2147483648 <;> rfl) rfl]
  have hall : ((List.range 8).all fun i => F22 (([x1, x2, x4, x5, x6, x7, x8, x9] : List Int).getD i 0) 2147483648) = true := by
    rw [List.all_eq_true]
    intro i hi
    have := List.mem_range.1 hi
    rcases (by omega : i = 0 ∨ i = 1 ∨ i = 2 ∨ i = 3 ∨ i = 4 ∨ i = 5 ∨ i = 6 ∨ i = 7) with h | h | h | h | h | h | h | h <;> subst h <;> assumption
  rw [if_pos hall]
  show some (F22 x3 2305843009213693952) = _
  rw [h3]

def DYof (a b : Int) : Int := if b < 0 then a / (gg a b : Int) else -(a / (gg a b : Int))
def Yof (a b c X : Int) : Int := IntKind.i64.wrap ((IntKind.i64.wrap (c - IntKind.i64.wrap (a * X))).tdiv b)
/-- What All answers. -/
def Line (a b c : Int) (y : Int × Int × Int × Int × Bool) : Prop :=
  if gg a b = 0 ∨ ¬ ((gg a b : Int) ∣ c) then y = (0, 0, 0, 0, false)
  else if b = 0 then y = (IntKind.i64.wrap (c.tdiv a), 0, 0, 1, true)
  else ∃ X, y = (X, Yof a b c X, (b.natAbs : Int) / (gg a b : Int), DYof a b, true) ∧ 0 ≤ X ∧ X < (b.natAbs : Int) / (gg a b : Int) ∧ b ∣ c - a * X
theorem gg_dvd (a b : Int) : (gg a b : Int) ∣ a ∧ (gg a b : Int) ∣ b := ⟨Int.gcd_dvd_left .., Int.gcd_dvd_right ..⟩
theorem gg_zero {a b : Int} : gg a b = 0 ↔ a = 0 ∧ b = 0 := by
  unfold gg; rw [Nat.gcd_eq_zero_iff]; omega
/-- The facts about a line with b other than 0. -/
theorem line_facts {a b c : Int} (hb0 : b ≠ 0) (ha : a.natAbs ≤ MM) (hb : b.natAbs ≤ MM) :
    0 < (gg a b : Int) ∧ (gg a b : Int) ≤ 2147483648 ∧ 0 < (b.natAbs : Int) / (gg a b : Int) ∧ (b.natAbs : Int) / (gg a b : Int) ≤ 2147483648 ∧ (gg a b : Int) * ((b.natAbs : Int) / (gg a b : Int)) = b.natAbs ∧ (gg a b : Int) * (a / (gg a b : Int)) = a ∧ (a / (gg a b : Int)).natAbs ≤ MM ∧ a * ((b.natAbs : Int) / (gg a b : Int)) + b * DYof a b = 0 := by
  have hg0 : 0 < gg a b := Nat.pos_of_ne_zero fun h => hb0 (gg_zero.1 h).2
  obtain ⟨d1, d2⟩ := gg_dvd a b
  have hle : gg a b ≤ b.natAbs := Nat.le_of_dvd (by omega) (Int.natAbs_dvd_natAbs.2 d2)
  have d3 : (gg a b : Int) ∣ (b.natAbs : Int) := Int.dvd_natAbs.2 d2
  have e1 : (gg a b : Int) * ((b.natAbs : Int) / (gg a b : Int)) = b.natAbs := Int.mul_ediv_cancel' d3
  have e2 : (gg a b : Int) * (a / (gg a b : Int)) = a := Int.mul_ediv_cancel' d1
  have hm : 0 < (b.natAbs : Int) / (gg a b : Int) := by
    rcases Int.lt_or_le 0 ((b.natAbs : Int) / (gg a b : Int)) with h | h
    · exact h
    · have := Int.mul_nonpos_of_nonneg_of_nonpos (show (0 : Int) ≤ (gg a b : Int) by omega) h
      omega
  have hm2 : (b.natAbs : Int) / (gg a b : Int) ≤ (b.natAbs : Int) := Int.ediv_le_self _ (by omega)
  have hq : (a / (gg a b : Int)).natAbs ≤ a.natAbs := by
    have : a.natAbs = (gg a b) * (a / (gg a b : Int)).natAbs := by
      conv => lhs; rw [← e2]
      rw [Int.natAbs_mul, Int.natAbs_natCast]
    rw [this]; exact Nat.le_mul_of_pos_left _ hg0
  unfold MM at *
  refine ⟨by omega, by omega, hm, by omega, e1, e2, by omega, ?_⟩
  generalize hgv : (gg a b : Int) = g at *
  generalize hmv : (b.natAbs : Int) / g = m at *
  generalize hav : a / g = a' at *
  unfold DYof
  rw [hgv, hav]
  by_cases hbn : b < 0
  · rw [if_pos hbn]
    have eb : b = -(g * m) := by omega
    rw [eb, ← e2, Int.neg_mul, Int.mul_right_comm g m a', Int.mul_right_comm]; omega
  · rw [if_neg hbn]
    have eb : b = g * m := by omega
    rw [eb, ← e2, Int.mul_neg, Int.mul_right_comm g m a']; omega
theorem solve_dvd {a b c g s t c' m q X : Int} (e : g = s * a + t * b) (ec : c = g * c') (em : g * m = b ∨ g * m = -b) (hga : g ∣ a) (hX : X = s * c' - m * q) : b ∣ c - a * X := by
  obtain ⟨a', ha⟩ := hga
  have : c - a * X = b * (t * c') + a' * q * (g * m) := by
    rw [ec, hX, Int.mul_sub]
    have h1 : g * c' = s * a * c' + t * b * c' := by rw [e, Int.add_mul]
    have h2 : a * (s * c') = s * a * c' := by rw [← Int.mul_assoc, Int.mul_comm a s]
    have h3 : t * b * c' = b * (t * c') := by rw [Int.mul_comm t b, Int.mul_assoc]
    have h4 : a * (m * q) = a' * q * (g * m) := by
      rw [ha]
      rw [Int.mul_comm g a', Int.mul_assoc a' g (m * q), Int.mul_assoc a' q (g * m)]
      congr 1
      rw [← Int.mul_assoc, Int.mul_comm (g * m) q]
    rw [h1, h2, h3, h4]; omega
  rw [this]
  refine Int.dvd_add (Int.dvd_mul_right _ _) ?_
  rcases em with em | em
  · rw [em]; exact Int.dvd_mul_left _ _
  · rw [em]; exact Int.dvd_trans (Int.dvd_neg.2 (Int.dvd_refl b)) (Int.dvd_mul_left _ _)
theorem abs_text (b : Int) (hb : b.natAbs ≤ MM) : (if IntKind.i64.wrap (0 - b) > b then IntKind.i64.wrap (0 - b) else b) = (b.natAbs : Int) := by
  unfold MM at hb
  rw [wrap_i64 (by omega) (by omega)]
  split <;> omega
theorem dy_text (a b : Int) (ha : a.natAbs ≤ MM) (hb0 : b ≠ 0) (hb : b.natAbs ≤ MM) : (b < 0 → IntKind.i64.wrap (a.tdiv (gg a b : Int)) = DYof a b) ∧ (¬ b < 0 → IntKind.i64.wrap ((IntKind.i64.wrap (0 - a)).tdiv (gg a b : Int)) = DYof a b) := by
  obtain ⟨f1, f2, f3, f4, f5, f6, f7, f8⟩ := line_facts (c := 0) hb0 ha hb
  obtain ⟨d1, d2⟩ := gg_dvd a b
  unfold MM at ha f7
  have w : IntKind.i64.wrap (0 - a) = -a := by rw [Int.zero_sub]; exact wrap_i64 (by omega) (by omega)
  rw [w, Int.neg_tdiv, Int.tdiv_eq_ediv_of_dvd d1]
  unfold DYof
  constructor
  · intro h; rw [if_pos h]; exact wrap_i64 (by omega) (by omega)
  · intro h; rw [if_neg h]; exact wrap_i64 (by omega) (by omega)
theorem all_eq {a b c x4 x5 x6 x7 x8 x9 : Int} (hv : F9 a b c x4 x5 x6 x7 x8 x9 = true) : Yields (Line a b c) (F11 a b c x4 x5 x6 x7 x8 x9) := by
  obtain ⟨ha, hb, hc, _⟩ := (valid_iff _ _ _ _ _ _ _ _ _).1 hv
  unfold F11
  refine Yields.bindE (valid_prog hv) ?_
  simp only [Bool.not_true, cond_false]
  obtain ⟨s, t, e33, eg, hs, ht⟩ := gcd_eq a b ha hb
  -- the general case
  have gen : gg a b ≠ 0 → (gg a b : Int) ∣ c → b ≠ 0 → Yields (Line a b c) (Option.bind (F26 s (F11__1 b ((gg a b : Int), s, t))) fun y19 =>
      (Option.bind (F26 (IntKind.i64.wrap (c.tdiv (gg a b : Int))) (F11__1 b ((gg a b : Int), s, t))) fun y21 =>
      (Option.bind (F26 (IntKind.i64.wrap (y19 * y21)) (F11__1 b ((gg a b : Int), s, t))) fun y23 =>
      (bif decide (b < 0) then
       some (y23, (IntKind.i64.wrap ((IntKind.i64.wrap (c - (IntKind.i64.wrap (a * y23)))).tdiv b)), (F11__1 b ((gg a b : Int), s, t)), (IntKind.i64.wrap (a.tdiv (gg a b : Int))), true)
      else
       some (y23, (IntKind.i64.wrap ((IntKind.i64.wrap (c - (IntKind.i64.wrap (a * y23)))).tdiv b)), (F11__1 b ((gg a b : Int), s, t)), (IntKind.i64.wrap ((IntKind.i64.wrap (0 - a)).tdiv (gg a b : Int))), true))))) := by
    intro hg0 hdc hb0
    obtain ⟨f1, f2, f3, f4, f5, f6, f7, f8⟩ := line_facts (c := c) hb0 ha hb
    have em : F11__1 b ((gg a b : Int), s, t) = (b.natAbs : Int) / (gg a b : Int) := by
      unfold F11__1
      dsimp only
      rw [abs_text b hb, Int.tdiv_eq_ediv_of_nonneg (by omega)]
      exact wrap_i64 (by omega) (by omega)
    rw [em]
    have hL : ∀ X, Line a b c (X, Yof a b c X, (b.natAbs : Int) / (gg a b : Int), DYof a b, true) ↔ (0 ≤ X ∧ X < (b.natAbs : Int) / (gg a b : Int) ∧ b ∣ c - a * X) := by
      intro X
      unfold Line
      rw [if_neg (by rintro (h | h); exact hg0 h; exact h hdc), if_neg hb0]
      constructor
      · rintro ⟨X', e, h⟩; cases e; exact h
      · intro h; exact ⟨X, rfl, h⟩
    obtain ⟨dy1, dy2⟩ := dy_text a b ha hb0 hb
    refine Yields.bindE (rem_eq f3 f4) ?_
    refine Yields.bindE (rem_eq f3 f4) ?_
    refine Yields.bindE (rem_eq f3 f4) ?_
    obtain ⟨c', hc'⟩ := hdc
    have ec' : c.tdiv (gg a b : Int) = c' := by rw [hc']; exact Int.mul_tdiv_cancel_left _ (by omega)
    have hcb : c'.natAbs ≤ 2305843009213693952 := by
      have : c.natAbs = gg a b * c'.natAbs := by rw [hc', Int.natAbs_mul, Int.natAbs_natCast]
      have := Nat.le_mul_of_pos_left c'.natAbs (show 0 < gg a b by omega)
      omega
    rw [ec', wrap_i64 (x := c') (by omega) (by omega)]
    generalize hmv : (b.natAbs : Int) / (gg a b : Int) = m at *
    have p1 := Int.emod_nonneg s (show m ≠ 0 by omega)
    have p2 := Int.emod_lt_of_pos s f3
    have p3 := Int.emod_nonneg c' (show m ≠ 0 by omega)
    have p4 := Int.emod_lt_of_pos c' f3
    have pw : IntKind.i64.wrap (s % m * (c' % m)) = s % m * (c' % m) := by
      have := mul_small (x := s % m) (y := c' % m) (A := 2147483648) (B := 2147483648) (by omega) (by omega)
      exact wrap_small this (by omega)
    rw [pw, ← Int.mul_emod]
    have q1 := Int.emod_nonneg (s * c') (show m ≠ 0 by omega)
    have q2 := Int.emod_lt_of_pos (s * c') f3
    have hX : (s * c') % m = s * c' - m * ((s * c') / m) := by have := Int.mul_ediv_add_emod (s * c') m; omega
    have hdv : b ∣ c - a * ((s * c') % m) := solve_dvd eg hc' (by rcases Int.natAbs_eq b with h | h <;> omega) (gg_dvd a b).1 hX
    refine Yields.bif (fun e => ?_) (fun e => ?_)
    · rw [dy1 (by simpa using e)]
      exact Yields.some ((hL _).2 ⟨q1, q2, hdv⟩)
    · rw [dy2 (by simpa using e)]
      exact Yields.some ((hL _).2 ⟨q1, q2, hdv⟩)
  have nod : ¬ ((gg a b : Int) ∣ c) → Line a b c (0, 0, 0, 0, false) := fun h => by unfold Line; rw [if_pos (.inr h)]
  have tz : (c.tmod (gg a b : Int) != 0) = true ↔ ¬ ((gg a b : Int) ∣ c) := by
    rw [bne_iff_ne, ne_eq, Int.dvd_iff_tmod_eq_zero]
  refine Yields.bif (fun c1 => ?_) (fun c1 => ?_)
  · have ha0 : a = 0 := by simpa using c1
    refine Yields.bif (fun c2 => ?_) (fun c2 => ?_)
    · have hb0 : b = 0 := by simpa using c2
      refine Yields.some ?_
      unfold Line
      rw [if_pos (.inl (gg_zero.2 ⟨ha0, hb0⟩))]
    · have hb0 : b ≠ 0 := by simpa using c2
      have hg0 : gg a b ≠ 0 := fun h => hb0 (gg_zero.1 h).2
      refine Yields.bindE e33 ?_
      have z : ((gg a b : Int) == 0) = false := beq_eq_false_iff_ne.2 (by omega)
      simp only [z, cond_false]
      refine Yields.bif (fun c3 => ?_) (fun c3 => ?_)
      · exact Yields.some (nod (tz.1 c3))
      · have hd : (gg a b : Int) ∣ c := Classical.byContradiction fun h => by have := tz.2 h; rw [c3] at this; cases this
        exact gen hg0 hd hb0
  · have ha0 : a ≠ 0 := by simpa using c1
    have hg0 : gg a b ≠ 0 := fun h => ha0 (gg_zero.1 h).1
    refine Yields.bindE e33 ?_
    have z : ((gg a b : Int) == 0) = false := beq_eq_false_iff_ne.2 (by omega)
    simp only [z, cond_false]
    refine Yields.bif (fun c3 => ?_) (fun c3 => ?_)
    · exact Yields.some (nod (tz.1 c3))
    · have hd : (gg a b : Int) ∣ c := Classical.byContradiction fun h => by have := tz.2 h; rw [c3] at this; cases this
      refine Yields.bif (fun c4 => ?_) (fun c4 => ?_)
      · have hb0 : b = 0 := by simpa using c4
        refine Yields.some ?_
        unfold Line
        rw [if_neg (by rintro (h | h); exact hg0 h; exact h hd), if_pos hb0]
      · have hb0 : b ≠ 0 := by simpa using c4
        exact gen hg0 hd hb0

theorem small_sub {c y : Int} (hc : c.natAbs ≤ 2305843009213693952) (hy : y.natAbs ≤ 4611686018427387904) : IntKind.i64.wrap (c - y) = c - y := wrap_i64 (by omega) (by omega)
theorem sub_abs {c y : Int} (hc : c.natAbs ≤ 2305843009213693952) (hy : y.natAbs ≤ 4611686018427387904) : (c - y).natAbs ≤ 6917529027641081856 := by omega

/-! What a line is. -/
structure LF (a b c X Y DX DY : Int) : Prop where
  on : a * X + b * Y = c
  dir : a * DX + b * DY = 0
  prim : ∀ u v, a * u + b * v = 0 → ∃ k, u = k * DX ∧ v = k * DY
  some : DX ≠ 0 ∨ DY ≠ 0
def Shape (X Y DX DY : Int) : Prop := (1 ≤ DX ∧ DX ≤ 2147483648 ∧ 0 ≤ X ∧ X < DX ∧ DY.natAbs ≤ 2147483648 ∧ Y.natAbs ≤ 6917529027641081856) ∨ (DX = 0 ∧ DY = 1 ∧ Y = 0 ∧ X.natAbs ≤ 2305843009213693952)
theorem tdiv_of_dvd {x b : Int} (hb : b ≠ 0) (h : b ∣ x) : ∃ q, x = b * q ∧ x.tdiv b = q ∧ q.natAbs ≤ x.natAbs := by
  obtain ⟨q, rfl⟩ := h
  refine ⟨q, rfl, Int.mul_tdiv_cancel_left _ hb, ?_⟩
  rw [Int.natAbs_mul]
  exact Nat.le_mul_of_pos_left _ (by omega)
theorem prim_of {a b g s t m DY : Int} (eg : g = s * a + t * b) (hg : 0 < g) (hb0 : b ≠ 0) (em : g * m = b ∨ g * m = -b) (hdir : a * m + b * DY = 0) (u v : Int) (h : a * u + b * v = 0) : ∃ k, u = k * m ∧ v = k * DY := by
  have hu : g * u = b * (t * u - s * v) := by
    have h1 : s * (a * u + b * v) = 0 := by rw [h, Int.mul_zero]
    have h2 : s * (a * u + b * v) = s * a * u + b * (s * v) := by
      rw [Int.mul_add, Int.mul_assoc s a u, Int.mul_left_comm s b v]
    rw [eg, Int.add_mul, Int.mul_sub]
    have h3 : t * b * u = b * (t * u) := by rw [Int.mul_comm t b, Int.mul_assoc]
    rw [h3]; omega
  have key : ∃ k, u = k * m := by
    generalize t * u - s * v = w at hu
    rcases em with em | em
    · rw [← em, Int.mul_assoc] at hu
      have := Int.eq_of_mul_eq_mul_left (by omega) hu
      exact ⟨w, by rw [this, Int.mul_comm]⟩
    · have e : b = g * (-m) := by rw [Int.mul_neg]; omega
      rw [e, Int.mul_assoc] at hu
      have := Int.eq_of_mul_eq_mul_left (by omega) hu
      exact ⟨-w, by rw [this, Int.neg_mul, Int.neg_mul, Int.mul_comm]⟩
  obtain ⟨k, hk⟩ := key
  refine ⟨k, hk, ?_⟩
  have h1 : b * v = b * (k * DY) := by
    have e1 : k * (a * m + b * DY) = 0 := by rw [hdir, Int.mul_zero]
    have e2 : k * (a * m + b * DY) = a * (k * m) + b * (k * DY) := by rw [Int.mul_add, Int.mul_left_comm k a m, Int.mul_left_comm k b DY]
    rw [hk] at h; omega
  exact Int.eq_of_mul_eq_mul_left hb0 h1
theorem line_LF {a b c : Int} (ha : a.natAbs ≤ MM) (hb : b.natAbs ≤ MM) (hc : c.natAbs ≤ 2305843009213693952) {y : Int × Int × Int × Int × Bool} (h : Line a b c y) :
    ((gg a b = 0 ∨ ¬ ((gg a b : Int) ∣ c)) ∧ y = (0, 0, 0, 0, false)) ∨ (gg a b ≠ 0 ∧ ((gg a b : Int) ∣ c) ∧ ∃ X Y DX DY, y = (X, Y, DX, DY, true) ∧ LF a b c X Y DX DY ∧ Shape X Y DX DY) := by
  unfold Line at h
  by_cases hno : gg a b = 0 ∨ ¬ ((gg a b : Int) ∣ c)
  · rw [if_pos hno] at h; exact .inl ⟨hno, h⟩
  · rw [if_neg hno] at h
    have hg : gg a b ≠ 0 := fun e => hno (.inl e)
    have hd : (gg a b : Int) ∣ c := Classical.byContradiction fun e => hno (.inr e)
    refine .inr ⟨hg, hd, ?_⟩
    by_cases hb0 : b = 0
    · rw [if_pos hb0] at h
      have ha0 : a ≠ 0 := fun e => hg (gg_zero.2 ⟨e, hb0⟩)
      have hga : (gg a b : Int) = a.natAbs := by unfold gg; rw [hb0]; simp
      rw [hga] at hd
      obtain ⟨q, e1, e2, e3⟩ := tdiv_of_dvd ha0 (Int.natAbs_dvd.1 hd)
      rw [e2, wrap_small (Nat.le_trans e3 hc) (by omega)] at h
      subst hb0
      refine ⟨q, 0, 0, 1, h, ⟨by omega, by omega, fun u v hu => ⟨v, ?_, by omega⟩, .inr (by omega)⟩, .inr ⟨rfl, rfl, rfl, Nat.le_trans e3 hc⟩⟩
      have hu' : a * u = a * 0 := by omega
      have := Int.eq_of_mul_eq_mul_left ha0 hu'
      omega
    · rw [if_neg hb0] at h
      obtain ⟨X, rfl, hX0, hX1, hdv⟩ := h
      obtain ⟨f1, f2, f3, f4, f5, f6, f7, f8⟩ := line_facts (c := c) hb0 ha hb
      obtain ⟨s, t, _, eg, _, _⟩ := gcd_eq a b ha hb
      have haX : (a * X).natAbs ≤ 4611686018427387904 := Nat.le_trans (mul_small (x := a) (y := X) (A := 2147483648) (B := 2147483648) ha (by clear hdv; omega)) (by decide)
      have w1 : IntKind.i64.wrap (a * X) = a * X := wrap_small haX (by decide)
      have w2 := small_sub hc haX
      obtain ⟨q, e1, e2, e3⟩ := tdiv_of_dvd hb0 hdv
      have hq := Nat.le_trans e3 (sub_abs hc haX)
      have eY : Yof a b c X = q := by
        unfold Yof; rw [w1, w2, e2]; exact wrap_small hq (by omega)
      have hDY : (DYof a b).natAbs ≤ 2147483648 := by
        unfold DYof; unfold MM at f7; split
        · exact f7
        · rw [Int.natAbs_neg]; exact f7
      rw [eY]
      refine ⟨X, q, _, _, rfl, ⟨by rw [← e1]; omega, f8, fun u v hu => prim_of eg f1 hb0 ?_ f8 u v hu, .inl (by omega)⟩, .inl ⟨by omega, f4, hX0, hX1, hDY, hq⟩⟩
      rcases Int.natAbs_eq b with hh | hh
      · left; rw [f5]; exact hh.symm
      · right; rw [f5]; omega

/-! Which parameters are in the ranges. -/
def inD (f s lo hi t : Int) : Prop := lo ≤ f + t * s ∧ f + t * s ≤ hi
theorem floor_eq {x b : Int} (hb : 0 < b) (hx : x.natAbs ≤ 9000000000000000000) : F36 x b = some (x / b) := by
  have q := Int.mul_ediv_add_emod x b
  have r1 := Int.emod_nonneg x (show b ≠ 0 by omega)
  have r2 := Int.emod_lt_of_pos x hb
  unfold F36
  have z : (b == 0) = false := beq_eq_false_iff_ne.2 (by omega)
  rw [z]
  simp only [cond_false]
  have hdb : (x / b).natAbs ≤ 9000000000000000000 := by
    rcases Int.lt_or_le x 0 with h | h
    · have h1 : x / b < 0 := Int.ediv_neg_of_neg_of_pos h hb
      have h2 : x ≤ x / b := by
        refine (Int.le_ediv_iff_mul_le hb).2 ?_
        have := Int.mul_le_mul_of_nonpos_left (show x ≤ 0 by omega) (show (1 : Int) ≤ b by omega)
        omega
      omega
    · have h1 := Int.ediv_nonneg h (show 0 ≤ b by omega)
      have h2 := Int.ediv_le_self b h
      omega
  have htd : x.tmod b < 0 ∧ x.tdiv b = x / b + 1 ∨ ¬ x.tmod b < 0 ∧ x.tdiv b = x / b := by
    rcases Int.lt_or_le x 0 with h | h
    · have e1 : x.tdiv b = -((-x) / b) := by
        rw [← Int.tdiv_eq_ediv_of_nonneg (by omega : 0 ≤ -x), Int.neg_tdiv]; omega
      have e2 : x.tmod b = -((-x) % b) := by
        rw [← Int.tmod_eq_emod_of_nonneg (by omega : 0 ≤ -x), Int.neg_tmod]; omega
      have q' := Int.mul_ediv_add_emod (-x) b
      have p1 := Int.emod_nonneg (-x) (show b ≠ 0 by omega)
      have p2 := Int.emod_lt_of_pos (-x) hb
      rw [e1, e2]
      by_cases hz : (-x) % b = 0
      · right
        refine ⟨by omega, ?_⟩
        have : x = b * (-((-x) / b)) := by rw [Int.mul_neg]; omega
        conv => rhs; rw [this]
        rw [Int.mul_ediv_cancel_left _ (by omega)]
      · left
        refine ⟨by omega, ?_⟩
        have e3 : x = (b - (-x) % b) + b * (-((-x) / b) - 1) := by rw [Int.mul_sub, Int.mul_neg]; omega
        have e4 : x / b = -((-x) / b) - 1 := by
          conv => lhs; rw [e3]
          rw [Int.add_mul_ediv_left _ _ (by omega), Int.ediv_eq_zero_of_lt (by omega) (by omega)]; omega
        omega
    · right
      refine ⟨?_, Int.tdiv_eq_ediv_of_nonneg h⟩
      rw [Int.tmod_eq_emod_of_nonneg h]; omega
  rcases htd with ⟨h1, h2⟩ | ⟨h1, h2⟩
  · have d : decide (x.tmod b < 0) = true := by simpa using h1
    rw [d, h2]
    simp only [cond_true]
    rw [wrap_i64 (x := x / b + 1) (by omega) (by omega), wrap_i64 (by omega) (by omega)]
    congr 1; omega
  · have d : decide (x.tmod b < 0) = false := by simpa using h1
    rw [d, h2]
    simp only [cond_false]
    rw [wrap_small hdb (by omega)]
theorem ceil_eq {x b : Int} (hb : 0 < b) (hx : x.natAbs ≤ 9000000000000000000) : ∃ p, F35 x b = some p ∧ ∀ t, p ≤ t ↔ x ≤ t * b := by
  unfold F35
  have w : IntKind.i64.wrap (0 - x) = -x := by rw [Int.zero_sub]; exact wrap_small (by rw [Int.natAbs_neg]; exact hx) (by omega)
  rw [w, floor_eq hb (by rw [Int.natAbs_neg]; exact hx)]
  have hdb : ((-x) / b).natAbs ≤ 9000000000000000000 := by
    rcases Int.lt_or_le (-x) 0 with h | h
    · have h1 : (-x) / b < 0 := Int.ediv_neg_of_neg_of_pos h hb
      have h2 : (-x) ≤ (-x) / b := by
        refine (Int.le_ediv_iff_mul_le hb).2 ?_
        have := Int.mul_le_mul_of_nonpos_left (show (-x) ≤ 0 by omega) (show (1 : Int) ≤ b by omega)
        omega
      omega
    · have h1 := Int.ediv_nonneg h (show 0 ≤ b by omega)
      have h2 := Int.ediv_le_self b h
      omega
  refine ⟨-((-x) / b), ?_, fun t => ?_⟩
  · simp only [Option.bind_some]
    rw [Int.zero_sub, wrap_small (by rw [Int.natAbs_neg]; exact hdb) (by omega)]
  · have := Int.le_ediv_iff_mul_le (a := -t) (b := -x) hb
    rw [Int.neg_mul] at this
    omega
theorem par {f s lo hi : Int} (hf : f.natAbs ≤ 6917529029788565504) (hs : s.natAbs ≤ 4294967296) (hlo : lo.natAbs ≤ 2147483648) (hhi : hi.natAbs ≤ 2147483648) :
    ∃ p q, F29 f s lo hi = some (p, q) ∧ (∀ t, p ≤ t → t ≤ q → inD f s lo hi t) ∧ ∀ t : Int, t.natAbs ≤ 4611686018427387904 → inD f s lo hi t → p ≤ t ∧ t ≤ q := by
  have w1 : IntKind.i64.wrap (lo - f) = lo - f := wrap_i64 (by omega) (by omega)
  have w2 : IntKind.i64.wrap (hi - f) = hi - f := wrap_i64 (by omega) (by omega)
  have w3 : IntKind.i64.wrap (f - hi) = f - hi := wrap_i64 (by omega) (by omega)
  have w4 : IntKind.i64.wrap (f - lo) = f - lo := wrap_i64 (by omega) (by omega)
  have w5 : IntKind.i64.wrap (0 - s) = -s := by rw [Int.zero_sub]; exact wrap_i64 (by omega) (by omega)
  unfold F29
  rw [w1, w2, w3, w4, w5]
  by_cases hp : s > 0
  · have d : decide (s > 0) = true := by simpa using hp
    rw [d]
    obtain ⟨p, e1, h1⟩ := ceil_eq (x := lo - f) hp (by omega)
    rw [e1, floor_eq hp (by omega)]
    refine ⟨p, (hi - f) / s, rfl, fun t ht1 ht2 => ?_, fun t _ ht => ?_⟩
    · have a1 := (h1 t).1 ht1
      have a2 := (Int.le_ediv_iff_mul_le hp).1 ht2
      unfold inD; omega
    · unfold inD at ht
      exact ⟨(h1 t).2 (by omega), (Int.le_ediv_iff_mul_le hp).2 (by omega)⟩
  · have d : decide (s > 0) = false := by simpa using hp
    rw [d]
    by_cases hn : s < 0
    · have d2 : decide (s < 0) = true := by simpa using hn
      rw [d2]
      have hp' : 0 < -s := by omega
      obtain ⟨p, e1, h1⟩ := ceil_eq (x := f - hi) hp' (by omega)
      simp only [cond_false, cond_true]
      rw [e1, floor_eq hp' (by omega)]
      refine ⟨p, (f - lo) / -s, rfl, fun t ht1 ht2 => ?_, fun t _ ht => ?_⟩
      · have a1 := (h1 t).1 ht1
        have a2 := (Int.le_ediv_iff_mul_le hp').1 ht2
        rw [Int.mul_neg] at a1 a2
        unfold inD; omega
      · unfold inD at ht
        refine ⟨(h1 t).2 ?_, (Int.le_ediv_iff_mul_le hp').2 ?_⟩
        · rw [Int.mul_neg]; omega
        · rw [Int.mul_neg]; omega
    · have d2 : decide (s < 0) = false := by simpa using hn
      rw [d2]
      have hs0 : s = 0 := by omega
      subst hs0
      simp only [cond_false]
      by_cases hA : f < lo
      · have d3 : decide (f < lo) = true := by simpa using hA
        rw [d3]
        refine ⟨1, 0, rfl, fun t a b => by omega, fun t _ ht => ?_⟩
        unfold inD at ht; rw [Int.mul_zero] at ht; omega
      · have d3 : decide (f < lo) = false := by simpa using hA
        rw [d3]
        simp only [cond_false]
        by_cases hB : f > hi
        · have d4 : decide (f > hi) = true := by simpa using hB
          rw [d4]
          refine ⟨1, 0, rfl, fun t a b => by omega, fun t _ ht => ?_⟩
          unfold inD at ht; rw [Int.mul_zero] at ht; omega
        · have d4 : decide (f > hi) = false := by simpa using hB
          rw [d4]
          refine ⟨-4611686018427387904, 4611686018427387904, rfl, fun t a b => ?_, fun t ht _ => by omega⟩
          unfold inD; rw [Int.mul_zero]; omega
def sol (x4 x5 x6 x7 x8 x9 X Y DX DY t : Int) : Prop := inD X DX x4 x5 t ∧ inD Y DY x6 x7 t ∧ inD (X + Y) (DX + DY) x8 x9 t
theorem sol_small {x4 x5 x6 x7 x8 x9 X Y DX DY t : Int} (hsh : Shape X Y DX DY) (h4 : x4.natAbs ≤ MM) (h5 : x5.natAbs ≤ MM) (h6 : x6.natAbs ≤ MM) (h7 : x7.natAbs ≤ MM) (h : sol x4 x5 x6 x7 x8 x9 X Y DX DY t) : t.natAbs ≤ 4294967296 := by
  unfold MM at *
  obtain ⟨⟨a1, a2⟩, ⟨b1, b2⟩, _⟩ := h
  rcases hsh with ⟨k1, k2, k3, k4, _, _⟩ | ⟨k1, k2, k3, _⟩
  · rcases Int.lt_or_le t 0 with ht | ht
    · have : t * DX ≤ t := by
        have := Int.mul_le_mul_of_nonpos_left (show t ≤ 0 by omega) k1
        omega
      omega
    · have : t ≤ t * DX := by
        have := Int.mul_le_mul_of_nonneg_left k1 ht
        omega
      omega
  · subst k2; subst k3; omega
def dimv (x4 x5 x6 x7 x8 x9 X Y DX DY : Int) : Nat → Int × Int × Int × Int
  | 0 => (X, DX, x4, x5)
  | 1 => (Y, DY, x6, x7)
  | _ => (X + Y, DX + DY, x8, x9)
theorem solved {a b c x4 x5 x6 x7 x8 x9 X Y DX DY : Int} (hsh : Shape X Y DX DY) (h4 : x4.natAbs ≤ MM) (h5 : x5.natAbs ≤ MM) (h6 : x6.natAbs ≤ MM) (h7 : x7.natAbs ≤ MM) (h8 : x8.natAbs ≤ MM) (h9 : x9.natAbs ≤ MM) :
    ∃ lo hi, F24 a b c x4 x5 x6 x7 x8 x9 X Y DX DY = some (lo, hi) ∧ ∀ t, (lo ≤ t ∧ t ≤ hi) ↔ sol x4 x5 x6 x7 x8 x9 X Y DX DY t := by
  have hb : X.natAbs ≤ 6917529027641081856 ∧ Y.natAbs ≤ 6917529027641081856 ∧ (X + Y).natAbs ≤ 6917529029788565504 ∧ DX.natAbs ≤ 2147483648 ∧ DY.natAbs ≤ 2147483648 := by
    rcases hsh with ⟨k1, k2, k3, k4, k5, k6⟩ | ⟨k1, k2, k3, k4⟩ <;> omega
  obtain ⟨b1, b2, b3, b4, b5⟩ := hb
  have w1 : IntKind.i64.wrap (X + Y) = X + Y := wrap_small b3 (by omega)
  have w2 : IntKind.i64.wrap (DX + DY) = DX + DY := wrap_i64 (by omega) (by omega)
  let d := dimv x4 x5 x6 x7 x8 x9 X Y DX DY
  have hd : ∀ i : Nat, i < 3 → F24__1 a b c x4 x5 x6 x7 x8 x9 X Y DX DY i = (d i).1 ∧ F24__2 a b c x4 x5 x6 x7 x8 x9 X Y DX DY i = (d i).2.1 ∧ F24__3 a b c x4 x5 x6 x7 x8 x9 X Y DX DY i = (d i).2.2.1 ∧ F24__4 a b c x4 x5 x6 x7 x8 x9 X Y DX DY i = (d i).2.2.2 := by
    intro i hi
    unfold F24__1 F24__2 F24__3 F24__4 F28
    rw [w1, w2]
    rcases (by omega : i = 0 ∨ i = 1 ∨ i = 2) with h | h | h <;> subst h <;> exact ⟨rfl, rfl, rfl, rfl⟩
  have hdb : ∀ i : Nat, i < 3 → (d i).1.natAbs ≤ 6917529029788565504 ∧ (d i).2.1.natAbs ≤ 4294967296 ∧ (d i).2.2.1.natAbs ≤ 2147483648 ∧ (d i).2.2.2.natAbs ≤ 2147483648 := by
    intro i hi
    unfold MM at *
    rcases (by omega : i = 0 ∨ i = 1 ∨ i = 2) with h | h | h <;> subst h
    · exact ⟨show X.natAbs ≤ _ by omega, show DX.natAbs ≤ _ by omega, h4, h5⟩
    · exact ⟨show Y.natAbs ≤ _ by omega, show DY.natAbs ≤ _ by omega, h6, h7⟩
    · exact ⟨b3, show (DX + DY).natAbs ≤ _ by omega, h8, h9⟩
  have hall : ∀ t, (∀ i, i < 3 → inD (d i).1 (d i).2.1 (d i).2.2.1 (d i).2.2.2 t) ↔ sol x4 x5 x6 x7 x8 x9 X Y DX DY t := by
    intro t
    constructor
    · intro h; exact ⟨h 0 (by omega), h 1 (by omega), h 2 (by omega)⟩
    · rintro ⟨p0, p1, p2⟩ i hi
      rcases (by omega : i = 0 ∨ i = 1 ∨ i = 2) with h | h | h <;> subst h
      · exact p0
      · exact p1
      · exact p2
  have key : Yields (fun (r : Nat × Int × Int) => (r.1 = 0 ∧ ∀ t, ¬ sol x4 x5 x6 x7 x8 x9 X Y DX DY t) ∨ (r.1 = 1 ∧ ∀ t, (r.2.1 ≤ t ∧ t ≤ r.2.2) ↔ sol x4 x5 x6 x7 x8 x9 X Y DX DY t)) (loopO (fun (s : Int × Int × Int) => F24_s1 a b c x4 x5 x6 x7 x8 x9 X Y DX DY s.1 s.2.1 s.2.2) (0, (-9223372036854775808), 9223372036854775807)) := by
    refine Yields.loop 3 (fun i (z : Int × Int × Int) => z.1 = i ∧ (∀ t, z.2.1 ≤ t → t ≤ z.2.2 → ∀ j, j < i → inD (d j).1 (d j).2.1 (d j).2.2.1 (d j).2.2.2 t) ∧ ∀ t : Int, t.natAbs ≤ 4611686018427387904 → (∀ j, j < i → inD (d j).1 (d j).2.1 (d j).2.2.1 (d j).2.2.2 t) → z.2.1 ≤ t ∧ t ≤ z.2.2) ⟨rfl, fun t _ _ j h => by omega, fun t ht _ => by simp only; omega⟩ ?_
    rintro i ⟨e, lo, hi⟩ hi3 ⟨he, hA, hB⟩
    simp only at he hA hB ⊢
    subst he
    unfold F24_s1
    refine Yields.bif (fun cc => ?_) (fun cc => ?_)
    · have c' : i < 3 := by simp at cc; omega
      obtain ⟨g1, g2, g3, g4⟩ := hd i c'
      obtain ⟨l1, l2, l3, l4⟩ := hdb i c'
      rw [in_range (n := 3) (by omega) (by omega)]
      unfold F24__5
      rw [g1, g2, g3, g4]
      simp only [Bool.not_true, cond_false]
      refine Yields.bif (fun e => ?_) (fun e => ?_)
      · have e' : (d i).2.2.1 > (d i).2.2.2 := by simpa using e
        refine Yields.some (.inl ⟨rfl, fun t hs => ?_⟩)
        have := (hall t).2 hs i c'
        unfold inD at this; omega
      · obtain ⟨p, q, e1, hp1, hp2⟩ := par l1 l2 l3 l4
        refine Yields.bindE e1 ?_
        refine Yields.some ⟨c', wrap_i1 (by omega), fun t ht1 ht2 j hj => ?_, fun t ht hj => ?_⟩
        · simp only at ht1 ht2
          have t1 : p ≤ t ∧ lo ≤ t := by split at ht1 <;> omega
          have t2 : t ≤ q ∧ t ≤ hi := by split at ht2 <;> omega
          by_cases hji : j = i
          · subst hji; exact hp1 t t1.1 t2.1
          · exact hA t t1.2 t2.2 j (by omega)
        · have k1 := hB t ht fun j h => hj j (by omega)
          have k2 := hp2 t ht (hj i (by omega))
          simp only
          constructor
          · split <;> omega
          · split <;> omega
    · have c' : i = 3 := by simp at cc; omega
      subst c'
      refine Yields.some (.inr ⟨rfl, fun t => ⟨fun h => (hall t).1 (hA t h.1 h.2), fun h => hB t ?_ ((hall t).2 h)⟩⟩)
      have := sol_small hsh h4 h5 h6 h7 h
      omega
  obtain ⟨⟨r, lo, hi⟩, e, hr⟩ := key
  unfold F24
  rw [e]
  simp only [Option.bind_some]
  rcases hr with ⟨h0, hn⟩ | ⟨h1, hh⟩
  · simp only at h0; subst h0
    exact ⟨1, 0, rfl, fun t => ⟨fun h => by omega, fun h => absurd h (hn t)⟩⟩
  · simp only at h1 hh; subst h1
    exact ⟨lo, hi, rfl, hh⟩

/-! Solve and Count. -/
theorem F24_any (a b c a' b' c' x4 x5 x6 x7 x8 x9 X Y DX DY : Int) : F24 a b c x4 x5 x6 x7 x8 x9 X Y DX DY = F24 a' b' c' x4 x5 x6 x7 x8 x9 X Y DX DY := by
  unfold F24 F24_s1 F24__5 F24__4 F24__3 F24__2 F24__1 F28; rfl
theorem F23_any (a b c a' b' c' x4 x5 x6 x7 x8 x9 : Int) : F23 a b c x4 x5 x6 x7 x8 x9 = F23 a' b' c' x4 x5 x6 x7 x8 x9 := by
  unfold F23; rfl
def tOf (DY lo hi : Int) : Int := if DY < 0 then hi else lo
theorem solve_line {a b c x4 x5 x6 x7 x8 x9 X Y DX DY lo hi : Int} (hv : F9 a b c x4 x5 x6 x7 x8 x9 = true) (h0 : a ≠ 0 ∨ b ≠ 0) (hl : F11 a b c x4 x5 x6 x7 x8 x9 = some (X, Y, DX, DY, true)) (hs : F24 a b c x4 x5 x6 x7 x8 x9 X Y DX DY = some (lo, hi)) :
    F10 a b c x4 x5 x6 x7 x8 x9 = some (if lo > hi then (0, 0, false) else (IntKind.i64.wrap (X + IntKind.i64.wrap (tOf DY lo hi * DX)), IntKind.i64.wrap (Y + IntKind.i64.wrap (tOf DY lo hi * DY)), true)) := by
  unfold F10
  rw [valid_prog hv, hl]
  simp only [Option.bind_some, Bool.not_true, cond_false, hs]
  have gen : (bif decide (lo > hi) then some (0, 0, false) else bif decide (DY < 0) then some (IntKind.i64.wrap (X + IntKind.i64.wrap (hi * DX)), IntKind.i64.wrap (Y + IntKind.i64.wrap (hi * DY)), true) else some (IntKind.i64.wrap (X + IntKind.i64.wrap (lo * DX)), IntKind.i64.wrap (Y + IntKind.i64.wrap (lo * DY)), true)) = some (if lo > hi then (0, 0, false) else (IntKind.i64.wrap (X + IntKind.i64.wrap (tOf DY lo hi * DX)), IntKind.i64.wrap (Y + IntKind.i64.wrap (tOf DY lo hi * DY)), true)) := by
    unfold tOf
    by_cases h1 : lo > hi
    · have d : decide (lo > hi) = true := by simpa using h1
      rw [d, if_pos h1]; rfl
    · have d : decide (lo > hi) = false := by simpa using h1
      rw [d, if_neg h1]
      by_cases h2 : DY < 0
      · have d : decide (DY < 0) = true := by simpa using h2
        rw [d, if_pos h2]; rfl
      · have d : decide (DY < 0) = false := by simpa using h2
        rw [d, if_neg h2]; rfl
  by_cases ha : a = 0
  · have hb : b ≠ 0 := by omega
    have z1 : (a == 0) = true := by simpa using ha
    have z2 : (b == 0) = false := beq_eq_false_iff_ne.2 hb
    rw [z1, z2]
    exact gen
  · have z1 : (a == 0) = false := beq_eq_false_iff_ne.2 ha
    rw [z1]
    exact gen
theorem solve_none {a b c x4 x5 x6 x7 x8 x9 : Int} (hv : F9 a b c x4 x5 x6 x7 x8 x9 = true) (h0 : a ≠ 0 ∨ b ≠ 0) (hl : F11 a b c x4 x5 x6 x7 x8 x9 = some (0, 0, 0, 0, false)) : F10 a b c x4 x5 x6 x7 x8 x9 = some (0, 0, false) := by
  unfold F10
  rw [valid_prog hv, hl]
  simp only [Option.bind_some, Bool.not_true, cond_false, Bool.not_false, cond_true]
  by_cases ha : a = 0
  · have hb : b ≠ 0 := by omega
    have z1 : (a == 0) = true := by simpa using ha
    have z2 : (b == 0) = false := beq_eq_false_iff_ne.2 hb
    rw [z1, z2]; rfl
  · have z1 : (a == 0) = false := beq_eq_false_iff_ne.2 ha
    rw [z1]; rfl
theorem count_line {a b c x4 x5 x6 x7 x8 x9 X Y DX DY lo hi : Int} (hv : F9 a b c x4 x5 x6 x7 x8 x9 = true) (h0 : a ≠ 0 ∨ b ≠ 0) (hl : F11 a b c x4 x5 x6 x7 x8 x9 = some (X, Y, DX, DY, true)) (hs : F24 a b c x4 x5 x6 x7 x8 x9 X Y DX DY = some (lo, hi)) (hb : lo ≤ hi → lo.natAbs ≤ 4294967296 ∧ hi.natAbs ≤ 4294967296) :
    F14 a b c x4 x5 x6 x7 x8 x9 = some (if lo > hi then 0 else hi - lo + 1) := by
  have e := solve_line hv h0 hl hs
  unfold F14
  rw [e]
  by_cases h : lo > hi
  · rw [if_pos h, if_pos h]; rfl
  · rw [if_neg h, if_neg h]
    simp only [Option.bind_some, Bool.not_true, cond_false]
    rw [hl]
    simp only [Option.bind_some, hs, cond_false, Bool.not_true]
    have := hb (by omega)
    rw [wrap_i64 (by omega) (by omega)]
    have w : ∀ x : Int, 0 ≤ x → x ≤ 18446744073709551615 → IntKind.u64.wrap x = x := fun x h1 h2 => by
      unfold IntKind.wrap; simp [IntKind.signed, IntKind.bits]; omega
    rw [w (hi - lo) (by omega) (by omega), w _ (by omega) (by omega)]
theorem count_none {a b c x4 x5 x6 x7 x8 x9 : Int} (hv : F9 a b c x4 x5 x6 x7 x8 x9 = true) (h0 : a ≠ 0 ∨ b ≠ 0) (hl : F11 a b c x4 x5 x6 x7 x8 x9 = some (0, 0, 0, 0, false)) : F14 a b c x4 x5 x6 x7 x8 x9 = some 0 := by
  unfold F14; rw [solve_none hv h0 hl]; rfl
def sumOK (x4 x5 x6 x7 x8 x9 : Int) : Bool := decide (x4 ≤ x5) && (decide (x8 ≤ x9) && (decide (x6 ≤ x7) && (decide (x8 - x5 ≤ x7) && decide (x6 ≤ x9 - x4))))
theorem sumOK_comm (x4 x5 x6 x7 x8 x9 : Int) : sumOK x6 x7 x4 x5 x8 x9 = sumOK x4 x5 x6 x7 x8 x9 := by
  unfold sumOK; rw [Bool.eq_iff_iff]; simp; omega
theorem sum_range {a b c x4 x5 x6 x7 x8 x9 : Int} (hv : F9 a b c x4 x5 x6 x7 x8 x9 = true) : (F23 a b c x4 x5 x6 x7 x8 x9).2.2 = sumOK x4 x5 x6 x7 x8 x9 ∧ (sumOK x4 x5 x6 x7 x8 x9 = true → (F23 a b c x4 x5 x6 x7 x8 x9).1 = max x6 (x8 - x5)) := by
  obtain ⟨_, _, _, h4, h5, h6, h7, h8, h9⟩ := (valid_iff _ _ _ _ _ _ _ _ _).1 hv
  unfold MM at *
  unfold F23 F23__1 sumOK
  rw [wrap_i64 (x := x8 - x5) (by omega) (by omega), wrap_i64 (x := x9 - x4) (by omega) (by omega)]
  by_cases k1 : x4 > x5
  · have d : decide (x4 > x5) = true := by simpa using k1
    have d' : decide (x4 ≤ x5) = false := by simp; omega
    rw [d, d']; exact ⟨rfl, by intro h; cases h⟩
  · have d : decide (x4 > x5) = false := by simpa using k1
    have d' : decide (x4 ≤ x5) = true := by simp; omega
    rw [d, d']
    by_cases k2 : x8 > x9
    · have d : decide (x8 > x9) = true := by simpa using k2
      have d' : decide (x8 ≤ x9) = false := by simp; omega
      rw [d, d']; exact ⟨rfl, by intro h; cases h⟩
    · have d : decide (x8 > x9) = false := by simpa using k2
      have d' : decide (x8 ≤ x9) = true := by simp; omega
      rw [d, d']
      simp only [cond_false, Bool.true_and]
      constructor
      · rw [Bool.eq_iff_iff]
        simp only [decide_eq_true_eq, Bool.and_eq_true]
        constructor
        · intro h; split at h <;> split at h <;> omega
        · intro h; split <;> split <;> omega
      · intro _; split <;> omega
theorem solve_zero {c x4 x5 x6 x7 x8 x9 : Int} (hv : F9 0 0 c x4 x5 x6 x7 x8 x9 = true) : F10 0 0 c x4 x5 x6 x7 x8 x9 = some (if sumOK x4 x5 x6 x7 x8 x9 = true ∧ c = 0 then (max x4 (x8 - max x6 (x8 - x5)), max x6 (x8 - x5), true) else (0, 0, false)) := by
  obtain ⟨s1, s2⟩ := sum_range hv
  obtain ⟨_, _, _, h4, h5, h6, h7, h8, h9⟩ := (valid_iff _ _ _ _ _ _ _ _ _).1 hv
  unfold MM at *
  unfold F10 F10__1
  rw [valid_prog hv, s1]
  simp only [Option.bind_some, Bool.not_true, cond_false, beq_self_eq_true, cond_true]
  cases hs : sumOK x4 x5 x6 x7 x8 x9
  · simp
  · rw [s2 hs, wrap_i64 (by omega) (by omega)]
    by_cases hc : c = 0
    · have z : (c != 0) = false := by simpa using hc
      have hcd : true = true ∧ c = 0 := ⟨rfl, hc⟩
      rw [z, if_pos hcd]
      simp only [Bool.not_true, cond_false]
      congr 2
      split <;> omega
    · have z : (c != 0) = true := by simpa using hc
      rw [z]; simp [hc]
theorem count_zero {c x4 x5 x6 x7 x8 x9 : Int} (hv : F9 0 0 c x4 x5 x6 x7 x8 x9 = true) : F14 0 0 c x4 x5 x6 x7 x8 x9 = some (if sumOK x4 x5 x6 x7 x8 x9 = true ∧ c = 0 then 1 else 0) := by
  obtain ⟨_, _, _, h4, h5, h6, h7, h8, h9⟩ := (valid_iff _ _ _ _ _ _ _ _ _).1 hv
  unfold MM at *
  have e36 : (F23 0 0 c x4 x5 x6 x7 x8 x9).2.2 = sumOK x4 x5 x6 x7 x8 x9 := by
    unfold F23 F23__1 sumOK
    rw [wrap_i64 (x := x8 - x5) (by omega) (by omega), wrap_i64 (x := x9 - x4) (by omega) (by omega)]
    by_cases k1 : x4 > x5
    · have d : decide (x4 > x5) = true := by simpa using k1
      have d' : decide (x4 ≤ x5) = false := by simp; omega
      rw [d, d']; rfl
    · have d : decide (x4 > x5) = false := by simpa using k1
      have d' : decide (x4 ≤ x5) = true := by simp; omega
      rw [d, d']
      by_cases k2 : x8 > x9
      · have d : decide (x8 > x9) = true := by simpa using k2
        have d' : decide (x8 ≤ x9) = false := by simp; omega
        rw [d, d']; rfl
      · have d : decide (x8 > x9) = false := by simpa using k2
        have d' : decide (x8 ≤ x9) = true := by simp; omega
        rw [d, d']
        simp only [cond_false, Bool.true_and]
        rw [Bool.eq_iff_iff]
        simp only [decide_eq_true_eq, Bool.and_eq_true]
        constructor
        · intro h; split at h <;> split at h <;> omega
        · intro h; split <;> split <;> omega
  have hl : F11 0 0 c x4 x5 x6 x7 x8 x9 = some (0, 0, 0, 0, false) := by
    unfold F11; rw [valid_prog hv]; rfl
  unfold F14 F10
  rw [valid_prog hv, e36, hl]
  simp only [Option.bind_some, Bool.not_true, cond_false, beq_self_eq_true, cond_true]
  cases hs : sumOK x4 x5 x6 x7 x8 x9
  · simp
  · by_cases hc : c = 0
    · have z : (c != 0) = false := by simpa using hc
      rw [z]; simp [hc]
    · have z : (c != 0) = true := by simpa using hc
      rw [z]; simp [hc]
/-! Trying all pairs. -/
def hold (a b c x8 x9 x y : Int) : Prop := a * x + b * y = c ∧ x8 ≤ x + y ∧ x + y ≤ x9
theorem holds_iff {a b c x4 x5 x6 x7 x8 x9 x y : Int} (ha : a.natAbs ≤ MM) (hb : b.natAbs ≤ MM) (hc : c.natAbs ≤ 2305843009213693952) (hx : x.natAbs ≤ MM) (hy : y.natAbs ≤ MM) : F21 a b c x4 x5 x6 x7 x8 x9 x y = true ↔ hold a b c x8 x9 x y := by
  have p1 : (a * x).natAbs ≤ 4611686018427387904 := mul_small ha hx
  have p2 : (b * y).natAbs ≤ 4611686018427387904 := mul_small hb hy
  unfold F21 hold
  rw [wrap_small p1 (by omega), wrap_small p2 (by omega)]
  unfold MM at hx hy
  rw [wrap_i64 (x := x + y) (by omega) (by omega)]
  generalize a * x = p at *
  generalize b * y = q at *
  have hw : (IntKind.i64.wrap (p + q) == c) = decide (p + q = c) := by
    by_cases hbig : p + q = 9223372036854775808
    · have : IntKind.i64.wrap (p + q) = -9223372036854775808 := by rw [hbig]; decide
      rw [this, Bool.eq_iff_iff]; simp; omega
    · rw [wrap_i64 (by omega) (by omega), Bool.eq_iff_iff]; simp
  rw [hw]
  by_cases h1 : p + q = c
  · by_cases h2 : x8 ≤ x + y
    · simp [h1, h2]
    · simp [h1, h2]
  · simp [h1]
theorem pt_wrap {X P lo hi : Int} (hX : X.natAbs ≤ 6917529027641081856) (h1 : lo ≤ X + P) (h2 : X + P ≤ hi) (hlo : lo.natAbs ≤ 2147483648) (hhi : hi.natAbs ≤ 2147483648) : IntKind.i64.wrap (X + IntKind.i64.wrap P) = X + P := by
  rw [wrap_i64 (x := P) (by omega) (by omega), wrap_i64 (by omega) (by omega)]
/-! Products of 64 bits. -/
theorem low32 {x : Int} (h0 : 0 ≤ x) (h1 : x < 18446744073709551616) : IntKind.u64.wrap (((BitVec.ofInt 64 x &&& BitVec.ofInt 64 4294967295)).toNat) = x % 4294967296 := by
  have e : ((BitVec.ofInt 64 x &&& BitVec.ofInt 64 4294967295)).toNat = x.toNat % 2 ^ 32 := by
    rw [BitVec.toNat_and, BitVec.toNat_ofInt, BitVec.toNat_ofInt]
    have e1 : (x % ((2 ^ 64 : Nat) : Int)).toNat = x.toNat := by
      rw [Int.emod_eq_of_lt h0 (by simpa using h1)]
    have e2 : ((4294967295 : Int) % ((2 ^ 64 : Nat) : Int)).toNat = 2 ^ 32 - 1 := by decide
    rw [e1, e2, Nat.and_two_pow_sub_one_eq_mod]
  rw [e]
  unfold IntKind.wrap; simp [IntKind.signed, IntKind.bits]; omega
theorem u64_id {x : Int} (h0 : 0 ≤ x) (h1 : x < 18446744073709551616) : IntKind.u64.wrap x = x := by
  unfold IntKind.wrap; simp [IntKind.signed, IntKind.bits]; omega
theorem fdiv32 (x : Int) : x.fdiv (2 ^ 32) = x / 4294967296 := by
  rw [Int.fdiv_eq_ediv_of_nonneg x (by decide)]; rfl
theorem mul32 {x y : Int} (hx : 0 ≤ x) (hx1 : x < 4294967296) (hy : 0 ≤ y) (hy1 : y < 4294967296) : 0 ≤ x * y ∧ x * y ≤ 18446744065119617025 := by
  refine ⟨Int.mul_nonneg hx hy, ?_⟩
  have := mul_small (x := x) (y := y) (A := 4294967295) (B := 4294967295) (by omega) (by omega)
  have h0 := Int.mul_nonneg hx hy
  omega
theorem mul64 {x y : Int} (hx : 0 ≤ x) (hx1 : x < 18446744073709551616) (hy : 0 ≤ y) (hy1 : y < 18446744073709551616) : 0 ≤ (F38 x y).1 ∧ 0 ≤ (F38 x y).2 ∧ (F38 x y).2 < 18446744073709551616 ∧ (F38 x y).1 * 18446744073709551616 + (F38 x y).2 = x * y := by
  have k00 := mul32 (x := x % 4294967296) (y := y % 4294967296) (by omega) (by omega) (by omega) (by omega)
  have k10 := mul32 (x := x / 4294967296) (y := y % 4294967296) (by omega) (by omega) (by omega) (by omega)
  have k01 := mul32 (x := x % 4294967296) (y := y / 4294967296) (by omega) (by omega) (by omega) (by omega)
  have k11 := mul32 (x := x / 4294967296) (y := y / 4294967296) (by omega) (by omega) (by omega) (by omega)
  have hxy : x * y = (x / 4294967296) * (y / 4294967296) * 18446744073709551616 + ((x / 4294967296) * (y % 4294967296) + (x % 4294967296) * (y / 4294967296)) * 4294967296 + (x % 4294967296) * (y % 4294967296) := by
    have ex : x = (x / 4294967296) * 4294967296 + x % 4294967296 := by omega
    have ey : y = (y / 4294967296) * 4294967296 + y % 4294967296 := by omega
    generalize x / 4294967296 = x1 at *
    generalize x % 4294967296 = x0 at *
    generalize y / 4294967296 = y1 at *
    generalize y % 4294967296 = y0 at *
    rw [ex, ey, Int.add_mul, Int.mul_add, Int.mul_add]
    have e1 : x1 * 4294967296 * (y1 * 4294967296) = x1 * y1 * 18446744073709551616 := by
      rw [Int.mul_assoc, Int.mul_left_comm 4294967296 y1, Int.mul_assoc]; rfl
    have e2 : x1 * 4294967296 * y0 = x1 * y0 * 4294967296 := Int.mul_right_comm _ _ _
    have e3 : x0 * (y1 * 4294967296) = x0 * y1 * 4294967296 := (Int.mul_assoc _ _ _).symm
    rw [e1, e2, e3, Int.add_mul]; omega
  have a1 : F38__1 x y = (x % 4294967296) * (y % 4294967296) := by unfold F38__1; rw [low32 hx hx1, low32 hy hy1]; exact u64_id (by omega) (by omega)
  have a2 : F38__2 x y = (x / 4294967296) * (y % 4294967296) := by unfold F38__2; rw [low32 hy hy1, fdiv32]; exact u64_id (by omega) (by omega)
  have a4 : F38__4 x y = (x % 4294967296) * (y / 4294967296) := by unfold F38__4; rw [low32 hx hx1, fdiv32]; exact u64_id (by omega) (by omega)
  have hh : (F38 x y).2 = x * y % 18446744073709551616 := by
    show IntKind.u64.wrap (x * y) = _
    unfold IntKind.wrap; simp [IntKind.signed, IntKind.bits]
  have a3 : F38__3 x y = ((x / 4294967296) * (y % 4294967296) + (x % 4294967296) * (y % 4294967296) / 4294967296) % 4294967296 := by
    unfold F38__3; rw [a1, a2]
    simp only [fdiv32]
    clear a1 a2 a4 hh hxy
    generalize (x / 4294967296) * (y % 4294967296) = p10 at *
    generalize (x % 4294967296) * (y % 4294967296) = p00 at *
    rw [u64_id (x := p10 + p00 / 4294967296) (by omega) (by omega)]; exact low32 (by omega) (by omega)
  have a5 : F38__5 x y = (x / 4294967296) * (y / 4294967296) + ((x / 4294967296) * (y % 4294967296) + (x % 4294967296) * (y % 4294967296) / 4294967296) / 4294967296 := by
    unfold F38__5; rw [a1, a2]
    simp only [fdiv32]
    clear a1 a2 a3 a4 hh hxy
    generalize (x / 4294967296) * (y / 4294967296) = p11 at *
    generalize (x / 4294967296) * (y % 4294967296) = p10 at *
    generalize (x % 4294967296) * (y % 4294967296) = p00 at *
    rw [u64_id (x := p10 + p00 / 4294967296) (by omega) (by omega), u64_id (x := p11) (by omega) (by omega)]; exact u64_id (by omega) (by omega)
  have a6 : (F38 x y).1 = (x / 4294967296) * (y / 4294967296) + ((x / 4294967296) * (y % 4294967296) + (x % 4294967296) * (y % 4294967296) / 4294967296) / 4294967296 + (((x / 4294967296) * (y % 4294967296) + (x % 4294967296) * (y % 4294967296) / 4294967296) % 4294967296 + (x % 4294967296) * (y / 4294967296)) / 4294967296 := by
    show F38__6 x y = _
    unfold F38__6; rw [a3, a4, a5, fdiv32]
    clear a1 a2 a3 a4 a5 hh
    generalize (x / 4294967296) * (y / 4294967296) = p11 at *
    generalize (x / 4294967296) * (y % 4294967296) = p10 at *
    generalize (x % 4294967296) * (y / 4294967296) = p01 at *
    generalize (x % 4294967296) * (y % 4294967296) = p00 at *
    rw [u64_id (x := (p10 + p00 / 4294967296) % 4294967296 + p01) (by omega) (by omega)]
    exact u64_id (by omega) (by omega)
  rw [a6, hh, hxy]
  generalize (x / 4294967296) * (y / 4294967296) = p11 at *
  generalize (x / 4294967296) * (y % 4294967296) = p10 at *
  generalize (x % 4294967296) * (y / 4294967296) = p01 at *
  generalize (x % 4294967296) * (y % 4294967296) = p00 at *
  omega
theorem size_eq {n : Int} (h : n.natAbs ≤ 9223372036854775808) : F39 n = n.natAbs := by
  unfold F39
  by_cases hn : n < 0
  · have d : decide (n < 0) = true := by simpa using hn
    rw [d]
    simp only [cond_true]
    have : IntKind.u64.wrap (0 - IntKind.u64.wrap n) = -n := by
      unfold IntKind.wrap; simp [IntKind.signed, IntKind.bits]; omega
    rw [this]; omega
  · have d : decide (n < 0) = false := by simpa using hn
    rw [d]
    simp only [cond_false]
    rw [u64_id (by omega) (by omega)]; omega
theorem cmp_eq {a b c : Int} (ha : a.natAbs ≤ 9223372036854775808) (hb : b.natAbs ≤ 9223372036854775808) (hc : c.natAbs ≤ 9223372036854775808) : (F37 a b c < 0 ↔ a * b < c) ∧ (F37 a b c > 0 ↔ c < a * b) := by
  obtain ⟨m1, m2, m3, m4⟩ := mul64 (x := (a.natAbs : Int)) (y := (b.natAbs : Int)) (by omega) (by omega) (by omega) (by omega)
  have hP : (a.natAbs : Int) * (b.natAbs : Int) = ((a * b).natAbs : Int) := by rw [Int.natAbs_mul]; simp
  rw [hP] at m4
  have hsg : (a < 0 ∧ b < 0 → 0 < a * b) ∧ (a < 0 ∧ b > 0 → a * b < 0) ∧ (a > 0 ∧ b < 0 → a * b < 0) ∧ (a > 0 ∧ b > 0 → 0 < a * b) ∧ (a = 0 → a * b = 0) ∧ (b = 0 → a * b = 0) :=
    ⟨fun h => Int.mul_pos_of_neg_of_neg h.1 h.2, fun h => Int.mul_neg_of_neg_of_pos h.1 h.2, fun h => Int.mul_neg_of_pos_of_neg h.1 h.2, fun h => Int.mul_pos h.1 h.2, fun h => by rw [h, Int.zero_mul], fun h => by rw [h, Int.mul_zero]⟩
  unfold F37
  rw [size_eq ha, size_eq hb, size_eq hc]
  generalize (F38 (a.natAbs : Int) (b.natAbs : Int)).1 = H at *
  generalize (F38 (a.natAbs : Int) (b.natAbs : Int)).2 = W at *
  generalize a * b = P at *
  clear hP
  rcases (by omega : a < 0 ∨ a = 0 ∨ a > 0) with sa | sa | sa <;> rcases (by omega : b < 0 ∨ b = 0 ∨ b > 0) with sb | sb | sb <;> rcases (by omega : c < 0 ∨ ¬ c < 0) with sc | sc
  all_goals
    first
    | have da : decide (a < 0) = true := decide_eq_true sa
    | have da : decide (a < 0) = false := decide_eq_false (by omega)
    first
    | have db : decide (b < 0) = true := decide_eq_true sb
    | have db : decide (b < 0) = false := decide_eq_false (by omega)
    first
    | have dc : decide (c < 0) = true := decide_eq_true sc
    | have dc : decide (c < 0) = false := decide_eq_false sc
    first
    | have na : (a != 0) = true := by simp; omega
    | have na : (a != 0) = false := by simp; omega
    first
    | have nb : (b != 0) = true := by simp; omega
    | have nb : (b != 0) = false := by simp; omega
    rw [da, db, dc, na, nb]
    simp only [beq_self_eq_true, show (true == false) = false from rfl, show (false == true) = false from rfl, Bool.not_true, Bool.not_false, cond_true, cond_false, Bool.cond_eq_ite, beq_iff_eq, decide_eq_true_eq, if_true, Bool.false_eq_true, if_false]
    first
    | omega
    | ((repeat' split) <;> omega)

/-! Ends of a line. -/
def LE (d : Int × Int × Int × Int) (t g : Int) : Prop := (t * d.2.1 < d.2.2.1 - d.1 ∧ 0 ≤ d.2.1 * g) ∨ (d.2.2.2 - d.1 < t * d.2.1 ∧ d.2.1 * g ≤ 0)
theorem LE_left {d : Int × Int × Int × Int} {T : Int} (h : LE d T 1) (t : Int) (ht : t ≤ T) : ¬ inD d.1 d.2.1 d.2.2.1 d.2.2.2 t := by
  rintro ⟨h1, h2⟩
  unfold LE at h
  rw [Int.mul_one] at h
  rcases h with ⟨a, b⟩ | ⟨a, b⟩
  · have := Int.mul_le_mul_of_nonneg_right ht b; omega
  · have := Int.mul_le_mul_of_nonpos_right ht b; omega
theorem LE_right {d : Int × Int × Int × Int} {T : Int} (h : LE d T (-1)) (t : Int) (ht : T ≤ t) : ¬ inD d.1 d.2.1 d.2.2.1 d.2.2.2 t := by
  rintro ⟨h1, h2⟩
  unfold LE at h
  rw [Int.mul_neg, Int.mul_one] at h
  rcases h with ⟨a, b⟩ | ⟨a, b⟩
  · have := Int.mul_le_mul_of_nonpos_right ht (show d.2.1 ≤ 0 by omega); omega
  · have := Int.mul_le_mul_of_nonneg_right ht (show 0 ≤ d.2.1 by omega); omega
theorem left_eq {f s lo hi t g : Int} (hf : f.natAbs ≤ 6917529029788565504) (hs : s.natAbs ≤ 4294967296) (hlo : lo.natAbs ≤ 2147483648) (hhi : hi.natAbs ≤ 2147483648) (ht : t.natAbs ≤ 4611686018427387905) (hg : g = 1 ∨ g = -1) : F31 f s lo hi t g = true ↔ LE (f, s, lo, hi) t g := by
  have c1 := cmp_eq (a := t) (b := s) (c := lo - f) (by omega) (by omega) (by omega)
  have c2 := cmp_eq (a := t) (b := s) (c := hi - f) (by omega) (by omega) (by omega)
  unfold F31 LE
  rw [wrap_i64 (x := lo - f) (by omega) (by omega), wrap_i64 (x := hi - f) (by omega) (by omega)]
  have w : IntKind.i64.wrap (s * g) = s * g := by
    rcases hg with rfl | rfl
    · rw [Int.mul_one]; exact wrap_i64 (by omega) (by omega)
    · rw [Int.mul_neg, Int.mul_one]; exact wrap_i64 (by omega) (by omega)
  rw [w]
  simp only
  generalize F37 t s (lo - f) = p at *
  generalize F37 t s (hi - f) = q at *
  simp only [Bool.cond_eq_ite, decide_eq_true_eq]
  (repeat' split) <;> simp <;> omega
theorem within_T (x : Int) : F30 x 4611686018427387904 = true ↔ x.natAbs ≤ 4611686018427387904 := by
  have w : IntKind.i64.wrap (0 - 4611686018427387904) = -4611686018427387904 := by decide
  unfold F30; rw [w]; simp; omega
theorem s2_eq : @F15_s2 = @F15_s1 := rfl
/-- What both rounds over the dimensions come to. -/
theorem ends_eq {a b c x4 x5 x6 x7 x8 x9 X Y DX DY T : Int} (hsh : Shape X Y DX DY) (h4 : x4.natAbs ≤ MM) (h5 : x5.natAbs ≤ MM) (h6 : x6.natAbs ≤ MM) (h7 : x7.natAbs ≤ MM) (h8 : x8.natAbs ≤ MM) (h9 : x9.natAbs ≤ MM) (hT : T.natAbs ≤ 4611686018427387904) :
    Yields (fun (r : Bool × Bool) => (r.1 = true ↔ ∃ i, i < 3 ∧ LE (dimv x4 x5 x6 x7 x8 x9 X Y DX DY i) T 1) ∧ (r.2 = true ↔ ∃ i, i < 3 ∧ LE (dimv x4 x5 x6 x7 x8 x9 X Y DX DY i) (T + 1) (-1))) (loopO (fun (s : Bool × Bool × Int) => F15_s1 a b c x4 x5 x6 x7 x8 x9 T (X, Y, DX, DY, true) s.1 s.2.1 s.2.2) (false, false, 0)) := by
  have hb : X.natAbs ≤ 6917529027641081856 ∧ Y.natAbs ≤ 6917529027641081856 ∧ (X + Y).natAbs ≤ 6917529029788565504 ∧ DX.natAbs ≤ 2147483648 ∧ DY.natAbs ≤ 2147483648 := by
    rcases hsh with ⟨k1, k2, k3, k4, k5, k6⟩ | ⟨k1, k2, k3, k4⟩ <;> omega
  obtain ⟨b1, b2, b3, b4, b5⟩ := hb
  have w1 : IntKind.i64.wrap (X + Y) = X + Y := wrap_small b3 (by omega)
  have w2 : IntKind.i64.wrap (DX + DY) = DX + DY := wrap_i64 (by omega) (by omega)
  have w3 : IntKind.i64.wrap (T + 1) = T + 1 := wrap_i64 (by omega) (by omega)
  have hT0 : T.natAbs ≤ 4611686018427387905 := by omega
  have hT1 : (T + 1).natAbs ≤ 4611686018427387905 := by omega
  let d := dimv x4 x5 x6 x7 x8 x9 X Y DX DY
  have hd : ∀ i : Nat, i < 3 → F15__1 a b c x4 x5 x6 x7 x8 x9 (X, Y, DX, DY, true) i = (d i).1 ∧ F15__2 a b c x4 x5 x6 x7 x8 x9 (X, Y, DX, DY, true) i = (d i).2.1 ∧ F15__3 a b c x4 x5 x6 x7 x8 x9 (X, Y, DX, DY, true) i = (d i).2.2.1 ∧ F15__4 a b c x4 x5 x6 x7 x8 x9 (X, Y, DX, DY, true) i = (d i).2.2.2 := by
    intro i hi
    unfold F15__1 F15__2 F15__3 F15__4 F28
    rw [w1, w2]
    rcases (by omega : i = 0 ∨ i = 1 ∨ i = 2) with h | h | h <;> subst h <;> exact ⟨rfl, rfl, rfl, rfl⟩
  have hdb : ∀ i : Nat, i < 3 → (d i).1.natAbs ≤ 6917529029788565504 ∧ (d i).2.1.natAbs ≤ 4294967296 ∧ (d i).2.2.1.natAbs ≤ 2147483648 ∧ (d i).2.2.2.natAbs ≤ 2147483648 := by
    intro i hi
    unfold MM at *
    rcases (by omega : i = 0 ∨ i = 1 ∨ i = 2) with h | h | h <;> subst h
    · exact ⟨show X.natAbs ≤ _ by omega, show DX.natAbs ≤ _ by omega, h4, h5⟩
    · exact ⟨show Y.natAbs ≤ _ by omega, show DY.natAbs ≤ _ by omega, h6, h7⟩
    · exact ⟨b3, show (DX + DY).natAbs ≤ _ by omega, h8, h9⟩
  refine Yields.loop 3 (fun i (z : Bool × Bool × Int) => z.2.2 = i ∧ (z.1 = true ↔ ∃ j, j < i ∧ LE (d j) T 1) ∧ (z.2.1 = true ↔ ∃ j, j < i ∧ LE (d j) (T + 1) (-1))) ⟨rfl, ⟨fun h => (by cases h), fun ⟨j, h, _⟩ => (by omega)⟩, ⟨fun h => (by cases h), fun ⟨j, h, _⟩ => (by omega)⟩⟩ ?_
  rintro i ⟨l, r, e⟩ hi3 ⟨he, hl, hr⟩
  simp only at he hl hr ⊢
  subst he
  unfold F15_s1
  refine Yields.bif (fun cc => ?_) (fun cc => ?_)
  · have c' : i < 3 := by simp at cc; omega
    obtain ⟨g1, g2, g3, g4⟩ := hd i c'
    obtain ⟨q1, q2, q3, q4⟩ := hdb i c'
    rw [in_range (n := 3) (by omega) (by omega), g1, g2, g3, g4, w3]
    simp only [Bool.not_true, cond_false]
    have hL := left_eq (t := T) (g := 1) q1 q2 q3 q4 hT0 (.inl rfl)
    have hR := left_eq (t := T + 1) (g := -1) q1 q2 q3 q4 hT1 (.inr rfl)
    have up : ∀ (t g : Int) (o : Bool), (o = true ↔ ∃ j, j < i ∧ LE (d j) t g) → ∀ o' : Bool, (o' = true ↔ LE ((d i).1, (d i).2.1, (d i).2.2.1, (d i).2.2.2) t g) → ((bif o then true else o') = true ↔ ∃ j, j < i + 1 ∧ LE (d j) t g) := by
      intro t g o ho o' ho'
      constructor
      · intro h
        cases o with
        | true => obtain ⟨j, h1, h2⟩ := ho.1 rfl; exact ⟨j, by omega, h2⟩
        | false => exact ⟨i, by omega, ho'.1 h⟩
      · rintro ⟨j, h1, h2⟩
        cases o with
        | true => rfl
        | false =>
          rcases Nat.lt_or_ge j i with h | h
          · have := ho.2 ⟨j, h, h2⟩; cases this
          · have : j = i := by omega
            subst this; exact ho'.2 h2
    have uL := up T 1 l hl _ hL
    have uR := up (T + 1) (-1) r hr _ hR
    cases l <;> cases r <;> exact Yields.some ⟨c', wrap_i1 (by omega), uL, uR⟩
  · have c' : i = 3 := by simp at cc; omega
    subst c'
    exact Yields.some ⟨hl, hr⟩
/-- Which certificates are accepted. -/
def CHK (a b c x4 x5 x6 x7 x8 x9 k T : Int) (y : Int × Int × Int × Int × Bool) : Prop :=
  (k = 1 ∧ sumOK x4 x5 x6 x7 x8 x9 = false) ∨ (k = 2 ∧ a = 0 ∧ b = 0 ∧ c ≠ 0) ∨ (k = 3 ∧ ¬ (a = 0 ∧ b = 0) ∧ y.2.2.2.2 = false) ∨
    (k = 4 ∧ y.2.2.2.2 = true ∧ T.natAbs ≤ 4611686018427387904 ∧ (∃ i, i < 3 ∧ LE (dimv x4 x5 x6 x7 x8 x9 y.1 y.2.1 y.2.2.1 y.2.2.2.1 i) T 1) ∧ ∃ i, i < 3 ∧ LE (dimv x4 x5 x6 x7 x8 x9 y.1 y.2.1 y.2.2.1 y.2.2.2.1 i) (T + 1) (-1))
theorem checked_eq {a b c x4 x5 x6 x7 x8 x9 k T : Int} (hv : F9 a b c x4 x5 x6 x7 x8 x9 = true) {y : Int × Int × Int × Int × Bool} (e : F11 a b c x4 x5 x6 x7 x8 x9 = some y) (hy : Line a b c y) :
    Yields (fun r => r = true ↔ CHK a b c x4 x5 x6 x7 x8 x9 k T y) (F15 a b c x4 x5 x6 x7 x8 x9 k T) := by
  obtain ⟨h1, h2, h3, h4, h5, h6, h7, h8, h9⟩ := (valid_iff _ _ _ _ _ _ _ _ _).1 hv
  have e27 : F27 a b c x4 x5 x6 x7 x8 x9 = !(sumOK x4 x5 x6 x7 x8 x9) := by unfold F27; rw [(sum_range hv).1]
  unfold F15
  refine Yields.bindE (valid_prog hv) ?_
  simp only [Bool.not_true, cond_false]
  refine Yields.bindE e ?_
  rw [e27]
  have kind1 : k = 1 → Yields (fun r => r = true ↔ CHK a b c x4 x5 x6 x7 x8 x9 k T y) (some (!(sumOK x4 x5 x6 x7 x8 x9))) := by
    rintro rfl
    refine Yields.some ?_
    unfold CHK
    simp
  have other : k ≠ 1 → k ≠ 2 → k ≠ 3 → k ≠ 4 → Yields (fun r => r = true ↔ CHK a b c x4 x5 x6 x7 x8 x9 k T y) (some false) := by
    intro n1 n2 n3 n4
    refine Yields.some ?_
    unfold CHK
    simp [n1, n2, n3, n4]
  have kind4 : k = 4 → Yields (fun r => r = true ↔ CHK a b c x4 x5 x6 x7 x8 x9 k T y) (bif (!y.2.2.2.2) then some (false) else (bif (!(F30 T 4611686018427387904)) then some (false) else (Option.bind (loopO (fun (s : Bool × Bool × Int) => F15_s1 a b c x4 x5 x6 x7 x8 x9 T y s.1 s.2.1 s.2.2) (false, false, 0)) fun y40 => (bif y40.1 then some (y40.2) else some (false))))) := by
    rintro rfl
    refine Yields.bif (fun hno => ?_) (fun hno => ?_)
    · refine Yields.some ?_
      have : y.2.2.2.2 = false := by simpa using hno
      unfold CHK; simp [this]
    · have hyes : y.2.2.2.2 = true := by simpa using hno
      refine Yields.bif (fun hT => ?_) (fun hT => ?_)
      · refine Yields.some ?_
        have : ¬ T.natAbs ≤ 4611686018427387904 := by rw [← within_T]; simpa using hT
        unfold CHK; simp; intro _ h; exact absurd h this
      · have hT' : T.natAbs ≤ 4611686018427387904 := by rw [← within_T]; simpa using hT
        rcases line_LF h1 h2 h3 hy with ⟨_, rfl⟩ | ⟨_, _, X, Y, DX, DY, rfl, L, S⟩
        · cases hyes
        · refine Yields.bind (ends_eq S h4 h5 h6 h7 h8 h9 hT') ?_
          rintro ⟨l, r⟩ ⟨hl, hr⟩
          simp only at hl hr ⊢
          have fin : (bif l then r else false) = true ↔ CHK a b c x4 x5 x6 x7 x8 x9 4 T (X, Y, DX, DY, true) := by
            unfold CHK
            constructor
            · intro h
              cases l with
              | false => cases h
              | true => exact .inr (.inr (.inr ⟨rfl, rfl, hT', hl.1 rfl, hr.1 h⟩))
            · rintro (⟨h, _⟩ | ⟨h, _⟩ | ⟨h, _⟩ | ⟨_, _, _, g1, g2⟩)
              · omega
              · omega
              · omega
              · rw [hl.2 g1]; exact hr.2 g2
          cases l
          · exact Yields.some fin
          · exact Yields.some fin
  rw [s2_eq]
  refine Yields.bif (fun ca => ?_) (fun ca => ?_)
  · have ha : a = 0 := by simpa using ca
    refine Yields.bif (fun k1 => kind1 (by simpa using k1)) (fun k1 => ?_)
    have n1 : k ≠ 1 := by simpa using k1
    refine Yields.bif (fun k2 => ?_) (fun k2 => ?_)
    · have k2' : k = 2 := by simpa using k2
      subst k2'
      refine Yields.bif (fun cb => ?_) (fun cb => ?_)
      · have hb : b = 0 := by simpa using cb
        refine Yields.some ?_
        unfold CHK; simp [ha, hb]
      · have hb : b ≠ 0 := by simpa using cb
        refine Yields.some ?_
        unfold CHK; simp [hb]
    · have n2 : k ≠ 2 := by simpa using k2
      refine Yields.bif (fun k3 => ?_) (fun k3 => ?_)
      · have k3' : k = 3 := by simpa using k3
        subst k3'
        refine Yields.bif (fun cb => ?_) (fun cb => ?_)
        · have hb : b ≠ 0 := by simpa using cb
          refine Yields.some ?_
          unfold CHK; simp [hb]
        · have hb : b = 0 := by simpa using cb
          refine Yields.some ?_
          unfold CHK; simp [ha, hb]
      · have n3 : k ≠ 3 := by simpa using k3
        exact Yields.bif (fun k4 => kind4 (by simpa using k4)) (fun k4 => other n1 n2 n3 (by simpa using k4))
  · have ha : a ≠ 0 := by simpa using ca
    refine Yields.bif (fun k1 => kind1 (by simpa using k1)) (fun k1 => ?_)
    have n1 : k ≠ 1 := by simpa using k1
    refine Yields.bif (fun k2 => ?_) (fun k2 => ?_)
    · have k2' : k = 2 := by simpa using k2
      subst k2'
      refine Yields.some ?_
      unfold CHK; simp [ha]
    · have n2 : k ≠ 2 := by simpa using k2
      refine Yields.bif (fun k3 => ?_) (fun k3 => ?_)
      · have k3' : k = 3 := by simpa using k3
        subst k3'
        refine Yields.some ?_
        unfold CHK; simp [ha]
      · have n3 : k ≠ 3 := by simpa using k3
        exact Yields.bif (fun k4 => kind4 (by simpa using k4)) (fun k4 => other n1 n2 n3 (by simpa using k4))
/-- What is accepted has no solution. -/
theorem sound {a b c x4 x5 x6 x7 x8 x9 k T : Int} (hv : F9 a b c x4 x5 x6 x7 x8 x9 = true) {y : Int × Int × Int × Int × Bool} (hy : Line a b c y) (h : CHK a b c x4 x5 x6 x7 x8 x9 k T y) (x z : Int) (q1 : x4 ≤ x) (q2 : x ≤ x5) (q3 : x6 ≤ z) (q4 : z ≤ x7) : ¬ hold a b c x8 x9 x z := by
  obtain ⟨h1, h2, h3, h4, h5, h6, h7, h8, h9⟩ := (valid_iff _ _ _ _ _ _ _ _ _).1 hv
  rintro ⟨p1, p2, p3⟩
  rcases h with ⟨_, hs⟩ | ⟨_, ha, hb, hc⟩ | ⟨_, h0, hn⟩ | ⟨_, hl, hT, ⟨i, hi, hL⟩, ⟨j, hj, hR⟩⟩
  · have : sumOK x4 x5 x6 x7 x8 x9 = true := by
      simp only [sumOK, Bool.and_eq_true, decide_eq_true_eq]; omega
    rw [hs] at this; cases this
  · subst ha; subst hb; omega
  · rcases line_LF h1 h2 h3 hy with ⟨n1, _⟩ | ⟨_, _, X, Y, DX, DY, rfl, _, _⟩
    · rcases n1 with n1 | n1
      · exact h0 (gg_zero.1 n1)
      · apply n1
        obtain ⟨d1, d2⟩ := gg_dvd a b
        rw [← p1]
        exact Int.dvd_add (Int.dvd_trans d1 (Int.dvd_mul_right _ _)) (Int.dvd_trans d2 (Int.dvd_mul_right _ _))
    · cases hn
  · rcases line_LF h1 h2 h3 hy with ⟨_, rfl⟩ | ⟨_, _, X, Y, DX, DY, rfl, L, S⟩
    · cases hl
    · simp only at hL hR
      obtain ⟨r, r1, r2⟩ := L.prim (x - X) (z - Y) (by
        have := L.on
        rw [Int.mul_sub, Int.mul_sub]; omega)
      have hall : ∀ i, i < 3 → inD (dimv x4 x5 x6 x7 x8 x9 X Y DX DY i).1 (dimv x4 x5 x6 x7 x8 x9 X Y DX DY i).2.1 (dimv x4 x5 x6 x7 x8 x9 X Y DX DY i).2.2.1 (dimv x4 x5 x6 x7 x8 x9 X Y DX DY i).2.2.2 r := by
        intro i hi
        unfold inD
        rcases (by omega : i = 0 ∨ i = 1 ∨ i = 2) with h | h | h <;> subst h
        · show x4 ≤ X + r * DX ∧ X + r * DX ≤ x5; omega
        · show x6 ≤ Y + r * DY ∧ Y + r * DY ≤ x7; omega
        · show x8 ≤ X + Y + r * (DX + DY) ∧ X + Y + r * (DX + DY) ≤ x9
          rw [Int.mul_add]; omega
      rcases Int.lt_or_le T r with h | h
      · exact LE_right hR r (by omega) (hall j hj)
      · exact LE_left hL r h (hall i hi)
/-! What Refuse answers. -/
theorem LE_mid {d : Int × Int × Int × Int} {t : Int} (hs : d.2.1 ≠ 0) (h1 : ¬ LE d t 1) (h2 : ¬ LE d t (-1)) : inD d.1 d.2.1 d.2.2.1 d.2.2.2 t := by
  unfold LE at h1 h2
  unfold inD
  generalize t * d.2.1 = P at *
  omega
theorem LE_zero {d : Int × Int × Int × Int} (hs : d.2.1 = 0) (h : ¬ inD d.1 d.2.1 d.2.2.1 d.2.2.2 0) (t g : Int) : LE d t g := by
  unfold inD at h
  unfold LE
  rw [hs, Int.mul_zero] at h
  rw [hs, Int.mul_zero, Int.zero_mul]
  omega
theorem inD_zero {d : Int × Int × Int × Int} (hs : d.2.1 = 0) (h : inD d.1 d.2.1 d.2.2.1 d.2.2.2 0) (t : Int) : inD d.1 d.2.1 d.2.2.1 d.2.2.2 t := by
  unfold inD at *
  rw [hs, Int.mul_zero] at *
  exact h
theorem ceil_bd {x b p : Int} (hb : 0 < b) (h : ∀ t, p ≤ t ↔ x ≤ t * b) : p.natAbs ≤ x.natAbs + 1 := by
  have h1 := (h (x.natAbs : Int)).2 (by
    have := Int.mul_le_mul_of_nonneg_left (show 1 ≤ b by omega) (show 0 ≤ (x.natAbs : Int) by omega)
    rw [Int.mul_one] at this; omega)
  have h2 : ¬ p ≤ -(x.natAbs : Int) - 1 := fun h' => by
    have a1 := (h _).1 h'
    have a2 := Int.mul_le_mul_of_nonpos_left (show -(x.natAbs : Int) - 1 ≤ 0 by omega) (show 1 ≤ b by omega)
    rw [Int.mul_one] at a2; omega
  omega
theorem par_ne {f s lo hi : Int} (hf : f.natAbs ≤ 2305843013508661248) (hs : s.natAbs ≤ 4294967296) (hs0 : s ≠ 0) (hlo : lo.natAbs ≤ 2147483648) (hhi : hi.natAbs ≤ 2147483648) :
    ∃ p q, F29 f s lo hi = some (p, q) ∧ p.natAbs ≤ 2305843015656144900 ∧ ∀ t, t < p ↔ LE (f, s, lo, hi) t 1 := by
  have w1 : IntKind.i64.wrap (lo - f) = lo - f := wrap_i64 (by omega) (by omega)
  have w2 : IntKind.i64.wrap (hi - f) = hi - f := wrap_i64 (by omega) (by omega)
  have w3 : IntKind.i64.wrap (f - hi) = f - hi := wrap_i64 (by omega) (by omega)
  have w4 : IntKind.i64.wrap (f - lo) = f - lo := wrap_i64 (by omega) (by omega)
  have w5 : IntKind.i64.wrap (0 - s) = -s := by rw [Int.zero_sub]; exact wrap_i64 (by omega) (by omega)
  unfold F29
  rw [w1, w2, w3, w4, w5]
  by_cases hp : s > 0
  · have d : decide (s > 0) = true := by simpa using hp
    rw [d]
    obtain ⟨p, e1, h1⟩ := ceil_eq (x := lo - f) hp (by omega)
    rw [e1, floor_eq hp (by omega)]
    have hb := ceil_bd hp h1
    refine ⟨p, (hi - f) / s, rfl, by omega, fun t => ?_⟩
    have a1 := h1 t
    unfold LE
    simp only
    generalize t * s = P at *
    omega
  · have d : decide (s > 0) = false := by simpa using hp
    rw [d]
    have hn : s < 0 := by omega
    have d2 : decide (s < 0) = true := by simpa using hn
    rw [d2]
    have hp' : 0 < -s := by omega
    obtain ⟨p, e1, h1⟩ := ceil_eq (x := f - hi) hp' (by omega)
    simp only [cond_false, cond_true]
    rw [e1, floor_eq hp' (by omega)]
    have hb := ceil_bd hp' h1
    refine ⟨p, (f - lo) / -s, rfl, by omega, fun t => ?_⟩
    have a1 := h1 t
    rw [Int.mul_neg] at a1
    unfold LE
    simp only
    generalize t * s = P at *
    omega
theorem par_zero {f lo hi : Int} : ∃ p q, F29 f 0 lo hi = some (p, q) ∧ (p > q ↔ ¬ inD f 0 lo hi 0) := by
  unfold F29
  have d : decide ((0 : Int) > 0) = false := by decide
  rw [d]
  simp only [cond_false]
  by_cases hA : f < lo
  · have d3 : decide (f < lo) = true := by simpa using hA
    rw [d3]
    exact ⟨1, 0, rfl, by unfold inD; omega⟩
  · have d3 : decide (f < lo) = false := by simpa using hA
    rw [d3]
    simp only [cond_false]
    by_cases hB : f > hi
    · have d4 : decide (f > hi) = true := by simpa using hB
      rw [d4]
      exact ⟨1, 0, rfl, by unfold inD; omega⟩
    · have d4 : decide (f > hi) = false := by simpa using hB
      rw [d4]
      exact ⟨-4611686018427387904, 4611686018427387904, rfl, by unfold inD; omega⟩
theorem n_add {x y : Int} (hx : x.natAbs ≤ 2147483648) (hy : y.natAbs ≤ 2147483648) : (x + y).natAbs ≤ 4294967296 := by omega
theorem n_le {x : Int} {A B : Nat} (hx : x.natAbs ≤ A) (h : A ≤ B) : x.natAbs ≤ B := Nat.le_trans hx h
theorem front_wrap {p : Int} (h : p.natAbs ≤ 2305843015656144900) : IntKind.i64.wrap (p - 1) = p - 1 := wrap_i64 (by omega) (by omega)
theorem r2_eq : @F12_s2 = @F12_s1 := rfl
theorem fronts {a b c x4 x5 x6 x7 x8 x9 X Y DX DY : Int} (hsh : DX ≠ 0 ∨ DY ≠ 0) (hX : X.natAbs ≤ 2305843009213693952) (hY : Y.natAbs ≤ 2305843011361177600) (hXY : (X + Y).natAbs ≤ 2305843013508661248) (hDX : DX.natAbs ≤ 2147483648) (hDY : DY.natAbs ≤ 2147483648) (h4 : x4.natAbs ≤ MM) (h5 : x5.natAbs ≤ MM) (h6 : x6.natAbs ≤ MM) (h7 : x7.natAbs ≤ MM) (h8 : x8.natAbs ≤ MM) (h9 : x9.natAbs ≤ MM) :
    Yields (fun (r : Nat × Int × Int × Int) => (r.1 = 0 ∧ ∃ i, i < 3 ∧ (dimv x4 x5 x6 x7 x8 x9 X Y DX DY i).2.1 = 0 ∧ ¬ inD (dimv x4 x5 x6 x7 x8 x9 X Y DX DY i).1 (dimv x4 x5 x6 x7 x8 x9 X Y DX DY i).2.1 (dimv x4 x5 x6 x7 x8 x9 X Y DX DY i).2.2.1 (dimv x4 x5 x6 x7 x8 x9 X Y DX DY i).2.2.2 0) ∨
      (r.1 = 1 ∧ r.2.1.natAbs ≤ 4611686018427387904 ∧ (∀ i, i < 3 → (dimv x4 x5 x6 x7 x8 x9 X Y DX DY i).2.1 = 0 → inD (dimv x4 x5 x6 x7 x8 x9 X Y DX DY i).1 (dimv x4 x5 x6 x7 x8 x9 X Y DX DY i).2.1 (dimv x4 x5 x6 x7 x8 x9 X Y DX DY i).2.2.1 (dimv x4 x5 x6 x7 x8 x9 X Y DX DY i).2.2.2 0) ∧
        (∃ i, i < 3 ∧ LE (dimv x4 x5 x6 x7 x8 x9 X Y DX DY i) r.2.1 1) ∧ ∀ i, i < 3 → (dimv x4 x5 x6 x7 x8 x9 X Y DX DY i).2.1 ≠ 0 → ∀ t, r.2.1 < t → ¬ LE (dimv x4 x5 x6 x7 x8 x9 X Y DX DY i) t 1))
      (loopO (fun (s : Int × Int × Int × Int) => F12_s1 a b c x4 x5 x6 x7 x8 x9 (X, Y, DX, DY, true) s.1 s.2.1 s.2.2.1 s.2.2.2) ((-9223372036854775808), 0, 0, 0)) := by
  have w1 : IntKind.i64.wrap (X + Y) = X + Y := wrap_small hXY (by decide)
  have w2 : IntKind.i64.wrap (DX + DY) = DX + DY := wrap_i64 (by omega) (by omega)
  generalize hd0 : dimv x4 x5 x6 x7 x8 x9 X Y DX DY = d
  have d0 : d 0 = (X, DX, x4, x5) := by rw [← hd0]; rfl
  have d1 : d 1 = (Y, DY, x6, x7) := by rw [← hd0]; rfl
  have d2 : d 2 = (X + Y, DX + DY, x8, x9) := by rw [← hd0]; rfl
  have hd : ∀ i : Nat, i < 3 → F12__1 a b c x4 x5 x6 x7 x8 x9 (X, Y, DX, DY, true) i = (d i).1 ∧ F12__2 a b c x4 x5 x6 x7 x8 x9 (X, Y, DX, DY, true) i = (d i).2.1 ∧ F12__3 a b c x4 x5 x6 x7 x8 x9 (X, Y, DX, DY, true) i = (d i).2.2.1 ∧ F12__4 a b c x4 x5 x6 x7 x8 x9 (X, Y, DX, DY, true) i = (d i).2.2.2 := by
    intro i hi
    unfold F12__1 F12__2 F12__3 F12__4 F28
    rw [w1, w2, ← hd0]
    rcases (by omega : i = 0 ∨ i = 1 ∨ i = 2) with h | h | h <;> subst h <;> exact ⟨rfl, rfl, rfl, rfl⟩
  have hdb : ∀ i : Nat, i < 3 → (d i).1.natAbs ≤ 2305843013508661248 ∧ (d i).2.1.natAbs ≤ 4294967296 ∧ (d i).2.2.1.natAbs ≤ 2147483648 ∧ (d i).2.2.2.natAbs ≤ 2147483648 := by
    intro i hi
    unfold MM at *
    rcases (by omega : i = 0 ∨ i = 1 ∨ i = 2) with h | h | h <;> subst h
    · rw [d0]; exact ⟨n_le hX (by decide), n_le hDX (by decide), h4, h5⟩
    · rw [d1]; exact ⟨n_le hY (by decide), n_le hDY (by decide), h6, h7⟩
    · rw [d2]; exact ⟨hXY, n_add hDX hDY, h8, h9⟩
  refine Yields.loop 3 (fun i (z : Int × Int × Int × Int) => z.2.1 = i ∧ (∀ j, j < i → (d j).2.1 = 0 → inD (d j).1 (d j).2.1 (d j).2.2.1 (d j).2.2.2 0) ∧ ((z.1 = -9223372036854775808 ∧ ∀ j, j < i → (d j).2.1 = 0) ∨ (z.1.natAbs ≤ 4611686018427387904 ∧ (∃ j, j < i ∧ LE (d j) z.1 1) ∧ ∀ j, j < i → (d j).2.1 ≠ 0 → ∀ t, z.1 < t → ¬ LE (d j) t 1))) ⟨rfl, fun j h => by omega, .inl ⟨rfl, fun j h => by omega⟩⟩ ?_
  rintro i ⟨T, e, g1, g2⟩ hi3 ⟨he, hz, hm⟩
  simp only at he hz hm ⊢
  subst he
  unfold F12_s1
  refine Yields.bif (fun cc => ?_) (fun cc => ?_)
  · have c' : i < 3 := by simp at cc; omega
    obtain ⟨e1, e2, e3, e4⟩ := hd i c'
    obtain ⟨q1, q2, q3, q4⟩ := hdb i c'
    rw [in_range (n := 3) (by omega) (by omega), e1, e2, e3, e4]
    simp only [Bool.not_true, cond_false]
    by_cases hs0 : (d i).2.1 = 0
    · obtain ⟨p, q, ep, hp⟩ := par_zero (f := (d i).1) (lo := (d i).2.2.1) (hi := (d i).2.2.2)
      rw [← hs0] at ep
      refine Yields.bindE ep ?_
      have z : ((d i).2.1 != 0) = false := by rw [hs0]; rfl
      rw [z]
      simp only [cond_false]
      have hp' : p > q ↔ ¬ inD (d i).1 (d i).2.1 (d i).2.2.1 (d i).2.2.2 0 := by rw [hs0]; exact hp
      refine Yields.bif (fun cp => ?_) (fun cp => ?_)
      · have cp' : p > q := by simpa using cp
        exact Yields.some (.inl ⟨rfl, i, c', hs0, hp'.1 cp'⟩)
      · have cp' : ¬ p > q := by simpa using cp
        have hin : inD (d i).1 (d i).2.1 (d i).2.2.1 (d i).2.2.2 0 := Classical.byContradiction fun h => cp' (hp'.2 h)
        refine Yields.some ⟨c', wrap_i1 (by omega), fun j hj h0 => ?_, ?_⟩
        · rcases Nat.lt_or_ge j i with h | h
          · exact hz j h h0
          · have : j = i := by omega
            subst this; exact hin
        · rcases hm with ⟨m1, m2⟩ | ⟨m1, ⟨j, hj, m2⟩, m3⟩
          · refine .inl ⟨m1, fun j hj => ?_⟩
            rcases Nat.lt_or_ge j i with h | h
            · exact m2 j h
            · have : j = i := by omega
              subst this; exact hs0
          · refine .inr ⟨m1, ⟨j, by omega, m2⟩, fun l hl hl0 => ?_⟩
            rcases Nat.lt_or_ge l i with h | h
            · exact m3 l h hl0
            · have : l = i := by omega
              subst this; exact absurd hs0 hl0
    · obtain ⟨p, q, ep, hpb, hp⟩ := par_ne q1 q2 hs0 q3 q4
      have hp' : ∀ t, t < p ↔ LE (d i) t 1 := hp
      refine Yields.bindE ep ?_
      have z : ((d i).2.1 != 0) = true := bne_iff_ne.2 hs0
      rw [z, front_wrap hpb]
      simp only [cond_true]
      refine Yields.some ⟨c', wrap_i1 (by omega), fun j hj h0 => ?_, .inr ?_⟩
      · rcases Nat.lt_or_ge j i with h | h
        · exact hz j h h0
        · have : j = i := by omega
          subst this; exact absurd h0 hs0
      · have hpi : ∀ t, p - 1 < t → ¬ LE (d i) t 1 := fun t ht h => by have := (hp' t).2 h; omega
        have hp0 : LE (d i) (p - 1) 1 := (hp' _).1 (by omega)
        simp only
        by_cases hgt : p - 1 > T
        · rw [if_pos hgt]
          refine ⟨by omega, ⟨i, by omega, hp0⟩, fun l hl hl0 t ht => ?_⟩
          rcases Nat.lt_or_ge l i with h | h
          · rcases hm with ⟨m1, m2⟩ | ⟨m1, _, m3⟩
            · exact absurd (m2 l h) hl0
            · exact m3 l h hl0 t (by omega)
          · have : l = i := by omega
            subst this; exact hpi t ht
        · rw [if_neg hgt]
          rcases hm with ⟨m1, m2⟩ | ⟨m1, ⟨j, hj, m2⟩, m3⟩
          · exfalso; omega
          · refine ⟨m1, ⟨j, by omega, m2⟩, fun l hl hl0 t ht => ?_⟩
            rcases Nat.lt_or_ge l i with h | h
            · exact m3 l h hl0 t ht
            · have : l = i := by omega
              subst this; exact hpi t (by omega)
  · have c' : i = 3 := by simp at cc; omega
    subst c'
    refine Yields.some (.inr ⟨rfl, ?_⟩)
    rcases hm with ⟨m1, m2⟩ | ⟨m1, m2, m3⟩
    · exfalso
      have a0 := m2 0 (by omega)
      have a1 := m2 1 (by omega)
      rw [d0] at a0
      rw [d1] at a1
      simp only at a0 a1
      omega
    · exact ⟨m1, hz, m2, m3⟩
theorem Y_small {a b c X Y DX DY : Int} (ha : a.natAbs ≤ MM) (hc : c.natAbs ≤ 2305843009213693952) (hg : gg a b ≠ 0) (L : LF a b c X Y DX DY) (S : Shape X Y DX DY) : Y.natAbs ≤ 2305843011361177600 ∧ X.natAbs ≤ 2305843009213693952 := by
  unfold MM at ha
  rcases S with ⟨k1, k2, k3, k4, k5, k6⟩ | ⟨k1, k2, k3, k4⟩
  · refine ⟨?_, by omega⟩
    have hb0 : b ≠ 0 := by
      intro h
      have hd := L.dir
      rw [h, Int.zero_mul, Int.add_zero] at hd
      rcases Int.mul_eq_zero.1 hd with h' | h'
      · exact hg (gg_zero.2 ⟨h', h⟩)
      · omega
    obtain ⟨k, hk, _⟩ := L.prim b (-a) (by rw [Int.mul_neg, Int.mul_comm]; omega)
    have hDb : DX.natAbs ≤ b.natAbs := by
      have hk0 : k ≠ 0 := by rintro rfl; rw [Int.zero_mul] at hk; exact hb0 hk
      have : b.natAbs = k.natAbs * DX.natAbs := by rw [← Int.natAbs_mul, ← hk]
      rw [this]; exact Nat.le_mul_of_pos_left _ (by omega)
    have hXb : X.natAbs ≤ b.natAbs := by omega
    have e1 : b.natAbs * Y.natAbs ≤ (c.natAbs + a.natAbs) * b.natAbs := by
      have e2 : b * Y = c - a * X := by have := L.on; omega
      rw [← Int.natAbs_mul, e2]
      have e3 : (c - a * X).natAbs ≤ c.natAbs + a.natAbs * X.natAbs := by
        rw [← Int.natAbs_mul]; omega
      have e4 := Nat.mul_le_mul_left a.natAbs hXb
      have e5 : c.natAbs ≤ c.natAbs * b.natAbs := Nat.le_mul_of_pos_right _ (by omega)
      rw [Nat.add_mul]; omega
    rw [Nat.mul_comm] at e1
    have := Nat.le_of_mul_le_mul_right e1 (show 0 < b.natAbs by omega)
    omega
  · subst k3; omega
/-- Which certificate Refuse gives. -/
def KT (a b x4 x5 x6 x7 x8 x9 k T : Int) (y : Int × Int × Int × Int × Bool) : Prop :=
  (sumOK x4 x5 x6 x7 x8 x9 = false ∧ k = 1 ∧ T = 0) ∨ (sumOK x4 x5 x6 x7 x8 x9 = true ∧ a = 0 ∧ b = 0 ∧ k = 2 ∧ T = 0) ∨
    (sumOK x4 x5 x6 x7 x8 x9 = true ∧ ¬ (a = 0 ∧ b = 0) ∧ y.2.2.2.2 = false ∧ k = 3 ∧ T = 0) ∨ (sumOK x4 x5 x6 x7 x8 x9 = true ∧ ¬ (a = 0 ∧ b = 0) ∧ y.2.2.2.2 = true ∧ k = 4)
theorem refuse_eq {a b c x4 x5 x6 x7 x8 x9 : Int} (hv : F9 a b c x4 x5 x6 x7 x8 x9 = true) {y : Int × Int × Int × Int × Bool} (e : F11 a b c x4 x5 x6 x7 x8 x9 = some y) (hy : Line a b c y) (hn : F10 a b c x4 x5 x6 x7 x8 x9 = some (0, 0, false)) :
    Yields (fun r => ∃ k T, r = (k, T, true) ∧ CHK a b c x4 x5 x6 x7 x8 x9 k T y ∧ KT a b x4 x5 x6 x7 x8 x9 k T y) (F12 a b c x4 x5 x6 x7 x8 x9) := by
  obtain ⟨h1, h2, h3, h4, h5, h6, h7, h8, h9⟩ := (valid_iff _ _ _ _ _ _ _ _ _).1 hv
  have e27 : F27 a b c x4 x5 x6 x7 x8 x9 = !(sumOK x4 x5 x6 x7 x8 x9) := by unfold F27; rw [(sum_range hv).1]
  unfold F12
  refine Yields.bindE hn ?_
  simp only [cond_false]
  refine Yields.bindE (valid_prog hv) ?_
  simp only [Bool.not_true, cond_false]
  refine Yields.bindE e ?_
  rw [e27, r2_eq]
  refine Yields.bif (fun hs => ?_) (fun hs => ?_)
  · have hs' : sumOK x4 x5 x6 x7 x8 x9 = false := by simpa using hs
    exact Yields.some ⟨1, 0, rfl, .inl ⟨rfl, hs'⟩, .inl ⟨hs', rfl, rfl⟩⟩
  have hs' : sumOK x4 x5 x6 x7 x8 x9 = true := by simpa using hs
  have line : ¬ (a = 0 ∧ b = 0) → Yields (fun r => ∃ k T, r = (k, T, true) ∧ CHK a b c x4 x5 x6 x7 x8 x9 k T y ∧ KT a b x4 x5 x6 x7 x8 x9 k T y) (bif (!y.2.2.2.2) then some (3, 0, true) else (Option.bind (loopO (fun (s : Int × Int × Int × Int) => F12_s1 a b c x4 x5 x6 x7 x8 x9 y s.1 s.2.1 s.2.2.1 s.2.2.2) ((-9223372036854775808), 0, 0, 0)) fun y34 => (bif (Nat.beq y34.1 0) then some (4, 0, true) else some (4, y34.2.1, true)))) := by
    intro h0
    refine Yields.bif (fun hl => ?_) (fun hl => ?_)
    · have hl' : y.2.2.2.2 = false := by simpa using hl
      exact Yields.some ⟨3, 0, rfl, .inr (.inr (.inl ⟨rfl, h0, hl'⟩)), .inr (.inr (.inl ⟨hs', h0, hl', rfl, rfl⟩))⟩
    · have hl' : y.2.2.2.2 = true := by simpa using hl
      rcases line_LF h1 h2 h3 hy with ⟨_, rfl⟩ | ⟨hg, _, X, Y, DX, DY, rfl, L, S⟩
      · cases hl'
      obtain ⟨lo, hi, es, hso⟩ := solved (a := a) (b := b) (c := c) S h4 h5 h6 h7 h8 h9
      have hno : ∀ t, ¬ sol x4 x5 x6 x7 x8 x9 X Y DX DY t := by
        have es' := solve_line hv (by omega) e es
        rw [hn] at es'
        by_cases hlh : lo > hi
        · intro t ht; have := (hso t).2 ht; omega
        · rw [if_neg hlh] at es'; simp at es'
      obtain ⟨yb, xb⟩ := Y_small h1 h3 hg L S
      have db : DX.natAbs ≤ 2147483648 ∧ DY.natAbs ≤ 2147483648 ∧ (X + Y).natAbs ≤ 2305843013508661248 := by
        rcases S with ⟨k1, k2, k3, k4, k5, k6⟩ | ⟨k1, k2, k3, k4⟩ <;> omega
      refine Yields.bind (fronts L.some xb yb db.2.2 db.1 db.2.1 h4 h5 h6 h7 h8 h9) ?_
      rintro ⟨r, T, g1, g2⟩ (⟨hr, i, hi3, hi0, hiD⟩ | ⟨hr, hT, hz, hL, hR⟩)
      · simp only at hr
        subst hr
        refine Yields.some ⟨4, 0, rfl, .inr (.inr (.inr ⟨rfl, rfl, by decide, ⟨i, hi3, LE_zero hi0 hiD _ _⟩, ⟨i, hi3, LE_zero hi0 hiD _ _⟩⟩)), .inr (.inr (.inr ⟨hs', h0, rfl, rfl⟩))⟩
      · simp only at hr hT hL hR
        subst hr
        have hR' : ∃ i, i < 3 ∧ LE (dimv x4 x5 x6 x7 x8 x9 X Y DX DY i) (T + 1) (-1) := by
          refine Classical.byContradiction fun hc => ?_
          have hin : ∀ i, i < 3 → inD (dimv x4 x5 x6 x7 x8 x9 X Y DX DY i).1 (dimv x4 x5 x6 x7 x8 x9 X Y DX DY i).2.1 (dimv x4 x5 x6 x7 x8 x9 X Y DX DY i).2.2.1 (dimv x4 x5 x6 x7 x8 x9 X Y DX DY i).2.2.2 (T + 1) := by
            intro i hi
            by_cases h0 : (dimv x4 x5 x6 x7 x8 x9 X Y DX DY i).2.1 = 0
            · exact inD_zero h0 (hz i hi h0) _
            · exact LE_mid h0 (hR i hi h0 _ (by omega)) (fun h => hc ⟨i, hi, h⟩)
          exact hno (T + 1) ⟨hin 0 (by omega), hin 1 (by omega), hin 2 (by omega)⟩
        exact Yields.some ⟨4, T, rfl, .inr (.inr (.inr ⟨rfl, rfl, hT, hL, hR'⟩)), .inr (.inr (.inr ⟨hs', h0, rfl, rfl⟩))⟩
  refine Yields.bif (fun ca => ?_) (fun ca => ?_)
  · have ha : a = 0 := by simpa using ca
    refine Yields.bif (fun cb => ?_) (fun cb => ?_)
    · have hb : b = 0 := by simpa using cb
      subst ha; subst hb
      have hc : c ≠ 0 := by
        intro hc
        have := solve_zero hv
        rw [hn, if_pos ⟨hs', hc⟩] at this
        simp at this
      exact Yields.some ⟨2, 0, rfl, .inr (.inl ⟨rfl, rfl, rfl, hc⟩), .inr (.inl ⟨hs', rfl, rfl, rfl, rfl⟩)⟩
    · have hb : b ≠ 0 := by simpa using cb
      exact line (fun h => hb h.2)
  · have ha : a ≠ 0 := by simpa using ca
    exact line (fun h => ha h.1)
/-- What Solve answers. -/
theorem solve_spec {a b c x4 x5 x6 x7 x8 x9 : Int} (hv : F9 a b c x4 x5 x6 x7 x8 x9 = true) :
    ∃ x z ok, F10 a b c x4 x5 x6 x7 x8 x9 = some (x, z, ok) ∧ (ok = true → x4 ≤ x ∧ x ≤ x5 ∧ x6 ≤ z ∧ z ≤ x7 ∧ hold a b c x8 x9 x z ∧ ∀ x' z', x4 ≤ x' → x' ≤ x5 → x6 ≤ z' → z' ≤ x7 → hold a b c x8 x9 x' z' → z ≤ z') ∧ (ok = false → x = 0 ∧ z = 0) := by
  obtain ⟨h1, h2, h3, h4, h5, h6, h7, h8, h9⟩ := (valid_iff _ _ _ _ _ _ _ _ _).1 hv
  by_cases h0 : a = 0 ∧ b = 0
  · obtain ⟨rfl, rfl⟩ := h0
    rw [solve_zero hv]
    by_cases hs : sumOK x4 x5 x6 x7 x8 x9 = true ∧ c = 0
    · rw [if_pos hs]
      refine ⟨_, _, _, rfl, fun _ => ?_, fun h => (by cases h)⟩
      obtain ⟨hs, hc⟩ := hs
      simp only [sumOK, Bool.and_eq_true, decide_eq_true_eq] at hs
      refine ⟨by omega, by omega, by omega, by omega, ⟨by omega, by omega, by omega⟩, fun x' z' a1 a2 a3 a4 hh => ?_⟩
      obtain ⟨_, b1, b2⟩ := hh
      omega
    · rw [if_neg hs]
      exact ⟨_, _, _, rfl, fun h => (by cases h), fun _ => ⟨rfl, rfl⟩⟩
  · have h0' : a ≠ 0 ∨ b ≠ 0 := by omega
    obtain ⟨y, e, hy⟩ := all_eq hv
    rcases line_LF h1 h2 h3 hy with ⟨n1, rfl⟩ | ⟨g1, g2, X, Y, DX, DY, rfl, L, S⟩
    · rw [solve_none hv h0' e]
      exact ⟨_, _, _, rfl, fun h => (by cases h), fun _ => ⟨rfl, rfl⟩⟩
    · obtain ⟨lo, hi, es, hs⟩ := solved (a := a) (b := b) (c := c) S h4 h5 h6 h7 h8 h9
      rw [solve_line hv h0' e es]
      by_cases hlh : lo > hi
      · rw [if_pos hlh]
        exact ⟨_, _, _, rfl, fun h => (by cases h), fun _ => ⟨rfl, rfl⟩⟩
      · rw [if_neg hlh]
        have htr : lo ≤ tOf DY lo hi ∧ tOf DY lo hi ≤ hi := by unfold tOf; split <;> omega
        have hmin : ∀ r, lo ≤ r → r ≤ hi → tOf DY lo hi * DY ≤ r * DY := by
          intro r r1 r2
          unfold tOf
          split
          · exact Int.mul_le_mul_of_nonpos_right r2 (by omega)
          · exact Int.mul_le_mul_of_nonneg_right r1 (by omega)
        generalize tOf DY lo hi = t at *
        obtain ⟨⟨a1, a2⟩, ⟨b1, b2⟩, c1, c2⟩ := (hs t).1 htr
        have hb : X.natAbs ≤ 6917529027641081856 ∧ Y.natAbs ≤ 6917529027641081856 := by
          rcases S with ⟨k1, k2, k3, k4, k5, k6⟩ | ⟨k1, k2, k3, k4⟩
          · exact ⟨by omega, k6⟩
          · exact ⟨by omega, by omega⟩
        rw [pt_wrap hb.1 a1 a2 h4 h5, pt_wrap hb.2 b1 b2 h6 h7]
        refine ⟨_, _, _, rfl, fun _ => ⟨a1, a2, b1, b2, ⟨?_, ?_, ?_⟩, fun x' z' q1 q2 q3 q4 hh => ?_⟩, fun h => (by cases h)⟩
        · have q1 := L.on
          have q2 : t * (a * DX + b * DY) = 0 := by rw [L.dir, Int.mul_zero]
          rw [Int.mul_add, Int.mul_left_comm, Int.mul_left_comm t b DY] at q2
          rw [Int.mul_add, Int.mul_add]; omega
        · rw [Int.mul_add] at c1; omega
        · rw [Int.mul_add] at c2; omega
        · obtain ⟨hq, hq1, hq2⟩ := hh
          obtain ⟨r, r1, r2⟩ := L.prim (x' - X) (z' - Y) (by
            have := L.on
            rw [Int.mul_sub, Int.mul_sub]; omega)
          have hr : lo ≤ r ∧ r ≤ hi := (hs r).2 ⟨⟨by omega, by omega⟩, ⟨by omega, by omega⟩, ⟨by rw [Int.mul_add]; omega, by rw [Int.mul_add]; omega⟩⟩
          have := hmin r hr.1 hr.2
          omega
theorem accepted {a b c x4 x5 x6 x7 x8 x9 k T : Int} (hv : F9 a b c x4 x5 x6 x7 x8 x9 = true) {y : Int × Int × Int × Int × Bool} (e : F11 a b c x4 x5 x6 x7 x8 x9 = some y) (hy : Line a b c y) (h : CHK a b c x4 x5 x6 x7 x8 x9 k T y) : F15 a b c x4 x5 x6 x7 x8 x9 k T = some true := by
  obtain ⟨r, er, hr⟩ := checked_eq (k := k) (T := T) hv e hy
  rw [er, hr.2 h]
theorem not_refused {a b c x4 x5 x6 x7 x8 x9 x z : Int} (h : F10 a b c x4 x5 x6 x7 x8 x9 = some (x, z, true)) : F12 a b c x4 x5 x6 x7 x8 x9 = some (0, 0, false) := by
  unfold F12; rw [h]; rfl
theorem count_spec {a b c x4 x5 x6 x7 x8 x9 x z : Int} {ok : Bool} (hv : F9 a b c x4 x5 x6 x7 x8 x9 = true) (e10 : F10 a b c x4 x5 x6 x7 x8 x9 = some (x, z, ok)) : ∃ n, F14 a b c x4 x5 x6 x7 x8 x9 = some n ∧ decide (n > 0) = ok := by
  obtain ⟨h1, h2, h3, h4, h5, h6, h7, h8, h9⟩ := (valid_iff _ _ _ _ _ _ _ _ _).1 hv
  by_cases h0 : a = 0 ∧ b = 0
  · obtain ⟨rfl, rfl⟩ := h0
    refine ⟨_, count_zero hv, ?_⟩
    rw [solve_zero hv] at e10
    by_cases hs : sumOK x4 x5 x6 x7 x8 x9 = true ∧ c = 0
    · rw [if_pos hs] at e10 ⊢
      simp only [Option.some.injEq, Prod.mk.injEq] at e10
      rw [← e10.2.2]; rfl
    · rw [if_neg hs] at e10 ⊢
      simp only [Option.some.injEq, Prod.mk.injEq] at e10
      rw [← e10.2.2]; rfl
  · have h0' : a ≠ 0 ∨ b ≠ 0 := by omega
    obtain ⟨y, e, hy⟩ := all_eq hv
    rcases line_LF h1 h2 h3 hy with ⟨n1, rfl⟩ | ⟨g1, g2, X, Y, DX, DY, rfl, L, S⟩
    · rw [solve_none hv h0' e] at e10
      simp only [Option.some.injEq, Prod.mk.injEq] at e10
      exact ⟨_, count_none hv h0' e, by rw [← e10.2.2]; rfl⟩
    · obtain ⟨lo, hi, es, hs⟩ := solved (a := a) (b := b) (c := c) S h4 h5 h6 h7 h8 h9
      have bd : lo ≤ hi → lo.natAbs ≤ 4294967296 ∧ hi.natAbs ≤ 4294967296 := fun h => ⟨sol_small S h4 h5 h6 h7 ((hs lo).1 ⟨Int.le_refl _, h⟩), sol_small S h4 h5 h6 h7 ((hs hi).1 ⟨h, Int.le_refl _⟩)⟩
      refine ⟨_, count_line hv h0' e es bd, ?_⟩
      rw [solve_line hv h0' e es] at e10
      by_cases hlh : lo > hi
      · rw [if_pos hlh] at e10 ⊢
        simp only [Option.some.injEq, Prod.mk.injEq] at e10
        rw [← e10.2.2]; rfl
      · rw [if_neg hlh] at e10 ⊢
        simp only [Option.some.injEq, Prod.mk.injEq] at e10
        rw [← e10.2.2]
        exact decide_eq_true (by omega)
theorem large_law : Law Try.prog 7 10 [25] := by
  refine F7_law fun a b c x4 x5 x6 x7 x8 x9 _ _ _ _ _ _ _ _ _ => Yields.eq ?_
  unfold F7
  refine Yields.bif (fun _ => Yields.some rfl) (fun hv0 => ?_)
  have hv : F9 a b c x4 x5 x6 x7 x8 x9 = true := by simpa using hv0
  obtain ⟨h1, h2, h3, h4, h5, h6, h7, h8, h9⟩ := (valid_iff _ _ _ _ _ _ _ _ _).1 hv
  obtain ⟨x, z, ok, e10, hyes, hno⟩ := solve_spec hv
  obtain ⟨n, e14, hn⟩ := count_spec hv e10
  refine Yields.bindE e10 ?_
  cases ok with
  | false =>
    obtain ⟨rfl, rfl⟩ := hno rfl
    obtain ⟨y, e, hy⟩ := all_eq hv
    obtain ⟨_, e12, k, T, rfl, hchk, hkt⟩ := refuse_eq hv e hy e10
    refine Yields.bindE e12 ?_
    have z1 : (false == true) = false := rfl
    simp only [z1, cond_false]
    refine Yields.bindE e14 ?_
    rw [hn]
    exact Yields.bindE (accepted hv e hy hchk) (Yields.some rfl)
  | true =>
    obtain ⟨p1, p2, p3, p4, hh, hmin⟩ := hyes rfl
    refine Yields.bindE (not_refused e10) ?_
    have z1 : (true == false) = false := rfl
    simp only [z1, cond_false]
    refine Yields.bindE e14 ?_
    rw [hn]
    simp only [beq_self_eq_true, Bool.not_true, cond_false]
    have hx : x.natAbs ≤ MM := by unfold MM at *; omega
    have hz : z.natAbs ≤ MM := by unfold MM at *; omega
    have i1 : decide (x < x4) = false := decide_eq_false (by omega)
    have i2 : decide (x > x5) = false := decide_eq_false (by omega)
    have i3 : decide (z < x6) = false := decide_eq_false (by omega)
    have i4 : decide (z > x7) = false := decide_eq_false (by omega)
    rw [i1, i2, i3, i4, (holds_iff h1 h2 h3 hx hz).2 hh]
    simp only [Bool.not_true, cond_false]
    refine Yields.bif (fun _ => Yields.some rfl) (fun hl => ?_)
    have hl' : ¬ z ≤ -2147483648 := by simpa using hl
    have wz : IntKind.i64.wrap (z - 1) = z - 1 := by unfold MM at hz; exact wrap_i64 (by omega) (by omega)
    rw [wz]
    have hv2 : F9 a b c x4 x5 x6 (z - 1) x8 x9 = true := (valid_iff _ _ _ _ _ _ _ _ _).2 ⟨h1, h2, h3, h4, h5, h6, by unfold MM at *; omega, h8, h9⟩
    obtain ⟨x', z', ok', e10', hyes', hno'⟩ := solve_spec hv2
    cases ok' with
    | true =>
      obtain ⟨r1, r2, r3, r4, hh', _⟩ := hyes' rfl
      have := hmin x' z' r1 r2 r3 (by omega) hh'
      omega
    | false =>
      obtain ⟨rfl, rfl⟩ := hno' rfl
      obtain ⟨y, e, hy⟩ := all_eq hv2
      obtain ⟨_, e12, k, T, rfl, hchk, hkt⟩ := refuse_eq hv2 e hy e10'
      refine Yields.bindE e10' ?_
      refine Yields.bindE e12 ?_
      exact Yields.bindE (accepted hv2 e hy hchk) (Yields.some rfl)
end Go.Proofs.Ytghiaklmdgadcaa.Abs
