/- The law of equations that are multiplied or turned, in plain numbers. -/
import Derived.Test.YtdbkalephkgniaaVw
import Derived.Test.YtdbkalephkgniaaDs
namespace Go.Proofs.Ytdbkalephkgniaa.Abs
open Go
set_option linter.unusedVariables false
set_option linter.unusedSimpArgs false

/-- What holds at each round: M bounds a and b. -/
structure GInv (M : Nat) (a b g s t h u v : Int) : Prop where
  eg : g = s * a + t * b
  eh : h = u * a + v * b
  gc : Nat.gcd g.natAbs h.natAbs = Nat.gcd a.natAbs b.natAbs
  mu : u.natAbs * g.natAbs + s.natAbs * h.natAbs ≤ M
  mv : v.natAbs * g.natAbs + t.natAbs * h.natAbs ≤ M
  bg : g.natAbs ≤ M
  bh : h.natAbs ≤ M
  bs : s.natAbs ≤ M
  bt : t.natAbs ≤ M
  bu : u.natAbs ≤ M
  bv : v.natAbs ≤ M

theorem GInv.start (M : Nat) (a b : Int) (h1 : 1 ≤ M) (ha : a.natAbs ≤ M) (hb : b.natAbs ≤ M) : GInv M a b a 1 0 b 0 1 :=
  ⟨by omega, by omega, rfl, by simpa using hb, by simpa using ha, ha, hb, by simpa using h1, by simp, by simp, by simpa using h1⟩

theorem quo_le (g h : Int) (hh : h ≠ 0) : (g.tdiv h).natAbs ≤ g.natAbs := by
  rw [Int.natAbs_tdiv]; exact Nat.div_le_self _ _
theorem quo_mul (g h : Int) : ((g.tdiv h) * h).natAbs ≤ g.natAbs := by
  rw [Int.natAbs_mul, Int.natAbs_tdiv]; exact Nat.div_mul_le_self _ _
theorem quo_rest (g h : Int) : g - (g.tdiv h) * h = g.tmod h := by
  rw [Int.tmod_def, Int.mul_comm]
theorem quo_u {M : Nat} (g h u : Int) (x : Nat) (m : u.natAbs * g.natAbs + x ≤ M) : ((g.tdiv h) * u).natAbs ≤ M := by
  have h1 : (g.natAbs / h.natAbs) * u.natAbs ≤ g.natAbs * u.natAbs := Nat.mul_le_mul_right _ (Nat.div_le_self _ _)
  rw [Int.natAbs_mul, Int.natAbs_tdiv]
  have h2 : g.natAbs * u.natAbs = u.natAbs * g.natAbs := Nat.mul_comm _ _
  show (g.natAbs / h.natAbs) * u.natAbs ≤ M
  generalize u.natAbs * g.natAbs = y at *
  generalize (g.natAbs / h.natAbs) * u.natAbs = z at *
  generalize g.natAbs * u.natAbs = y' at *
  omega
theorem step_bd {M : Nat} (g h s u : Int) (hh : h ≠ 0) (m : u.natAbs * g.natAbs + s.natAbs * h.natAbs ≤ M) :
    (s - (g.tdiv h) * u).natAbs * h.natAbs + u.natAbs * (g.tmod h).natAbs ≤ M := by
  have h1 : (s - (g.tdiv h) * u).natAbs ≤ s.natAbs + (g.natAbs / h.natAbs) * u.natAbs := by
    have := Int.natAbs_sub_le s ((g.tdiv h) * u)
    rwa [Int.natAbs_mul, Int.natAbs_tdiv] at this
  rw [Int.natAbs_tmod]
  generalize g.natAbs = G at *
  generalize h.natAbs = K at *
  generalize u.natAbs = U at *
  generalize s.natAbs = S at *
  have h2 := Nat.mul_le_mul_right K h1
  have h3 : (S + G / K * U) * K + U * (G % K) = U * G + S * K := by
    have e := Nat.div_add_mod G K
    calc (S + G / K * U) * K + U * (G % K) = S * K + U * (K * (G / K) + G % K) := by
          rw [Nat.add_mul, Nat.mul_add, Nat.add_assoc]
          congr 2
          rw [Nat.mul_comm (G / K) U, Nat.mul_assoc, Nat.mul_comm (G / K) K]
      _ = U * G + S * K := by rw [e, Nat.add_comm]
  omega
theorem GInv.step {M : Nat} {a b g s t h u v : Int} (H : GInv M a b g s t h u v) (hh : h ≠ 0) :
    GInv M a b h u v (g - (g.tdiv h) * h) (s - (g.tdiv h) * u) (t - (g.tdiv h) * v) := by
  have m1 := step_bd g h s u hh H.mu
  have m2 := step_bd g h t v hh H.mv
  have hp : 1 ≤ h.natAbs := by omega
  have l1 : (s - (g.tdiv h) * u).natAbs ≤ M := by
    have := Nat.mul_le_mul_left (s - (g.tdiv h) * u).natAbs hp
    omega
  have l2 : (t - (g.tdiv h) * v).natAbs ≤ M := by
    have := Nat.mul_le_mul_left (t - (g.tdiv h) * v).natAbs hp
    omega
  have r1 : (g.tmod h).natAbs ≤ M := by
    rw [Int.natAbs_tmod]
    exact Nat.le_trans (Nat.mod_le _ _) H.bg
  refine ⟨H.eh, ?_, ?_, ?_, ?_, H.bh, ?_, H.bu, H.bv, l1, l2⟩
  · have e1 := H.eg
    have e2 := H.eh
    generalize g.tdiv h = q
    rw [Int.sub_mul, Int.sub_mul, Int.mul_assoc, Int.mul_assoc]
    have : q * h = q * (u * a) + q * (v * b) := by rw [e2, Int.mul_add]
    omega
  · rw [quo_rest, Int.natAbs_tmod, ← H.gc, Nat.gcd_comm h.natAbs, ← Nat.gcd_rec, Nat.gcd_comm]
  · rw [quo_rest]; exact m1
  · rw [quo_rest]; exact m2
  · rw [quo_rest]; exact r1
theorem GInv.less {M : Nat} {a b g s t h u v : Int} (H : GInv M a b g s t h u v) (hh : h ≠ 0) : (g - (g.tdiv h) * h).natAbs < h.natAbs := by
  rw [quo_rest, Int.natAbs_tmod]; exact Nat.mod_lt _ (by omega)

def Nm {Z τ : Type} (m : Nat) (I : Z → Prop) (μ : Z → Nat) (R : τ → Prop) : Z ⊕ τ → Prop
  | .inl z => I z ∧ μ z < m
  | .inr t => R t
theorem Yields.while {Z τ : Type} {step : Z → Option (Z ⊕ τ)} {R : τ → Prop} (I : Z → Prop) (μ : Z → Nat) {z : Z} (h0 : I z) (h : ∀ z, I z → Yields (Nm (μ z) I μ R) (step z)) : Yields R (loopO step z) := by
  obtain ⟨t, e, r⟩ := loopO_ind I μ R (fun s hs => by
    obtain ⟨o, e, p⟩ := h s hs
    cases o with
    | inl z' => exact .inl ⟨z', e, p.1, p.2⟩
    | inr t => exact .inr ⟨t, e, p⟩) h0
  exact ⟨t, e, r⟩
theorem wrap_add (x y : Int) : IntKind.i64.wrap (IntKind.i64.wrap x + IntKind.i64.wrap y) = IntKind.i64.wrap (x + y) := by
  unfold IntKind.wrap; simp [IntKind.signed, IntKind.bits, Int.bmod_def]; omega
theorem wrap_small {x : Int} {M : Nat} (h : x.natAbs ≤ M) (hM : M ≤ 9223372036854775807) : IntKind.i64.wrap x = x := wrap_i64 (by omega) (by omega)
theorem mul_small {x y : Int} {A B : Nat} (hx : x.natAbs ≤ A) (hy : y.natAbs ≤ B) : (x * y).natAbs ≤ A * B := by
  rw [Int.natAbs_mul]; exact Nat.mul_le_mul hx hy
def gg (a b : Int) : Nat := Nat.gcd a.natAbs b.natAbs
def MM : Nat := 2147483648
theorem gcd_eq (a b : Int) (ha : a.natAbs ≤ MM) (hb : b.natAbs ≤ MM) : ∃ s t : Int, F33 a b = some ((gg a b : Int), s, t) ∧ (gg a b : Int) = s * a + t * b ∧ s.natAbs ≤ MM ∧ t.natAbs ≤ MM := by
  have key : Yields (fun (r : Int × Int × Int) => r.1 = r.2.1 * a + r.2.2 * b ∧ r.1.natAbs = gg a b ∧ r.2.1.natAbs ≤ MM ∧ r.2.2.natAbs ≤ MM) (loopO (fun (s : Int × Int × Int × Int × Int × Int) => F33_s1 s.1 s.2.1 s.2.2.1 s.2.2.2.1 s.2.2.2.2.1 s.2.2.2.2.2) ((F33__1 a), 1, 0, (F33__2 b), 0, 1)) := by
    have e1 : F33__1 a = a := by unfold F33__1; unfold MM at ha; (repeat' split) <;> omega
    have e2 : F33__2 b = b := by unfold F33__2; unfold MM at hb; (repeat' split) <;> omega
    rw [e1, e2]
    refine Yields.while (fun (z : Int × Int × Int × Int × Int × Int) => GInv MM a b z.1 z.2.1 z.2.2.1 z.2.2.2.1 z.2.2.2.2.1 z.2.2.2.2.2) (fun z => z.2.2.2.1.natAbs) (GInv.start MM a b (by decide) ha hb) ?_
    rintro ⟨g, s, t, h, u, v⟩ H
    simp only at H ⊢
    unfold F33_s1
    refine Yields.bif (fun c => ?_) (fun c => ?_)
    · have hh : h ≠ 0 := by simpa using c
      have hM : MM ≤ 9223372036854775807 := by decide
      have hs := H.step hh
      have q1 : IntKind.i64.wrap (g.tdiv h) = g.tdiv h := wrap_small (Nat.le_trans (quo_le g h hh) H.bg) hM
      have q2 : IntKind.i64.wrap (g.tdiv h * h) = g.tdiv h * h := wrap_small (Nat.le_trans (quo_mul g h) H.bg) hM
      have q3 : IntKind.i64.wrap (g.tdiv h * u) = g.tdiv h * u := wrap_small (quo_u g h u _ H.mu) hM
      have q4 : IntKind.i64.wrap (g.tdiv h * v) = g.tdiv h * v := wrap_small (quo_u g h v _ H.mv) hM
      rw [q1, q2, q3, q4, wrap_small hs.bh hM, wrap_small hs.bu hM, wrap_small hs.bv hM]
      exact Yields.some ⟨hs, H.less hh⟩
    · have hh : h = 0 := by simpa using c
      subst hh
      refine Yields.some ⟨H.eg, ?_, H.bs, H.bt⟩
      have := H.gc
      simpa [gg] using this
  obtain ⟨⟨g, s, t⟩, e, h1, h2, h3, h4⟩ := key
  simp only at h1 h2 h3 h4
  unfold F33
  rw [e]
  simp only [Option.bind_some]
  have hM : MM ≤ 9223372036854775807 := by decide
  have hgM : gg a b ≤ MM ∨ True := .inr trivial
  by_cases hneg : g < 0
  · have d : decide (g < 0) = true := by simpa using hneg
    rw [d]
    have hgb : g.natAbs ≤ MM := by
      rw [h2]; unfold gg
      rcases Nat.eq_zero_or_pos a.natAbs with hz | hz
      · rw [hz, Nat.gcd_zero_left]; exact hb
      · exact Nat.le_trans (Nat.gcd_le_left _ hz) ha
    have w1 : IntKind.i64.wrap (0 - g) = -g := by rw [Int.zero_sub]; exact wrap_small (by rw [Int.natAbs_neg]; exact hgb) hM
    have w2 : IntKind.i64.wrap (0 - s) = -s := by rw [Int.zero_sub]; exact wrap_small (by rw [Int.natAbs_neg]; exact h3) hM
    have w3 : IntKind.i64.wrap (0 - t) = -t := by rw [Int.zero_sub]; exact wrap_small (by rw [Int.natAbs_neg]; exact h4) hM
    rw [w1, w2, w3]
    have z : ((-g) == 0) = false := beq_eq_false_iff_ne.2 (by omega)
    rw [z]
    simp only [cond_true, cond_false]
    have eg : (gg a b : Int) = -g := by omega
    exact ⟨-s, -t, by rw [eg], by rw [eg, h1, Int.neg_mul, Int.neg_mul]; omega, by rw [Int.natAbs_neg]; exact h3, by rw [Int.natAbs_neg]; exact h4⟩
  · have d : decide (g < 0) = false := by simpa using hneg
    rw [d]
    simp only [cond_false]
    by_cases hz : g = 0
    · subst hz
      have e0 : (gg a b : Int) = 0 := by omega
      exact ⟨0, 0, by rw [e0]; rfl, by rw [e0]; omega, by decide, by decide⟩
    · have z : (g == 0) = false := beq_eq_false_iff_ne.2 hz
      rw [z]
      have eg : (gg a b : Int) = g := by omega
      exact ⟨s, t, by rw [eg]; rfl, by rw [eg]; exact h1, h3, h4⟩
theorem abs_eq (a : Int) (ha : a.natAbs ≤ MM) : F13 a = a.natAbs := by
  unfold MM at ha
  unfold F13
  by_cases h : a < 0
  · have d : decide (a < 0) = true := by simpa using h
    rw [d]
    simp only [cond_true]
    rw [wrap_i64 (by omega) (by omega)]; omega
  · have d : decide (a < 0) = false := by simpa using h
    rw [d]
    simp only [cond_false]; omega
theorem rem_eq {x m : Int} (hm : 0 < m) (hm2 : m ≤ 2147483648) : F34 x m = some (x % m) := by
  have g2 := Int.emod_lt_of_pos x hm
  have g1 := Int.emod_nonneg x (show m ≠ 0 by omega)
  have tf : (if x.tmod m < 0 then x.tmod m + m else x.tmod m) = x % m := by
    rcases Int.lt_or_le x 0 with hx | hx
    · have e : x.tmod m = -((-x) % m) := by
        rw [← Int.tmod_eq_emod_of_nonneg (by omega : 0 ≤ -x), Int.neg_tmod]; omega
      have g1 := Int.emod_nonneg (-x) (show m ≠ 0 by omega)
      have g2 := Int.emod_lt_of_pos (-x) hm
      rw [e]
      by_cases hz : (-x) % m = 0
      · rw [hz]; simp
        exact (Int.emod_eq_zero_of_dvd (Int.dvd_neg.1 (Int.dvd_of_emod_eq_zero hz))).symm
      · rw [if_pos (by omega)]
        have q := Int.mul_ediv_add_emod (-x) m
        generalize hr : (-x) % m = r at *
        generalize (-x) / m = d at *
        have ex : x = (m - r) + m * (-d - 1) := by rw [Int.mul_sub, Int.mul_neg]; omega
        rw [ex, Int.add_mul_emod_self_left, Int.emod_eq_of_lt (by omega) (by omega)]
        omega
    · rw [Int.tmod_eq_emod_of_nonneg hx]
      rw [if_neg (by omega)]
  refine Yields.eq ?_
  unfold F34
  have z : (m == 0) = false := beq_eq_false_iff_ne.2 (by omega)
  rw [z]
  simp only [cond_false]
  refine Yields.bif (fun e => ?_) (fun e => ?_)
  · have e' : x.tmod m < 0 := by simpa using e
    rw [if_pos e'] at tf
    refine Yields.some ?_
    rw [tf, wrap_i64 (by omega) (by omega)]
  · have e' : ¬ x.tmod m < 0 := by simpa using e
    rw [if_neg e'] at tf
    exact Yields.some tf
theorem w_most : IntKind.i64.wrap (0 - 2147483648) = -2147483648 := by decide
theorem w_big : IntKind.i64.wrap (0 - 2305843009213693952) = -2305843009213693952 := by decide
theorem within_iff (x : Int) : F32 x 2147483648 = true ↔ x.natAbs ≤ MM := by
  unfold F32 MM; rw [w_most]; simp; omega
theorem within_big (x : Int) : F32 x 2305843009213693952 = true ↔ x.natAbs ≤ 2305843009213693952 := by
  unfold F32; rw [w_big]; simp; omega
theorem valid_iff (x1 x2 x3 x4 x5 x6 x7 x8 x9 : Int) : F10 x1 x2 x3 x4 x5 x6 x7 x8 x9 = true ↔ (x1.natAbs ≤ MM ∧ x2.natAbs ≤ MM ∧ x3.natAbs ≤ 2305843009213693952 ∧ x4.natAbs ≤ MM ∧ x5.natAbs ≤ MM ∧ x6.natAbs ≤ MM ∧ x7.natAbs ≤ MM ∧ x8.natAbs ≤ MM ∧ x9.natAbs ≤ MM) := by
  unfold F10
  simp only [← within_iff, ← within_big]
  cases F32 x1 2147483648 <;> cases F32 x2 2147483648 <;> cases F32 x3 2305843009213693952 <;> cases F32 x4 2147483648 <;> cases F32 x5 2147483648 <;> cases F32 x6 2147483648 <;> cases F32 x7 2147483648 <;> cases F32 x8 2147483648 <;> simp
theorem valid_prog {x1 x2 x3 x4 x5 x6 x7 x8 x9 : Int} (h : F10 x1 x2 x3 x4 x5 x6 x7 x8 x9 = true) : F31 x1 x2 x3 x4 x5 x6 x7 x8 x9 = some true := by
  obtain ⟨h1, h2, h3, h4, h5, h6, h7, h8, h9⟩ := (valid_iff _ _ _ _ _ _ _ _ _).1 h
  rw [← within_iff] at h1 h2 h4 h5 h6 h7 h8 h9
  rw [← within_big] at h3
  unfold F31
  rw [loop_forall (n := 8) (by decide) (fun i => F32 (([x1, x2, x4, x5, x6, x7, x8, x9] : List Int).getD i 0) 2147483648) (by
    intro i hi
    unfold F31_s1
    have hd : decide ((i : Int) < 8) = true := by simp; omega
    rw [hd, in_range (n := 8) (by omega) (by omega)]
    simp only [cond_true, Bool.not_true, cond_false, Int.toNat_natCast]
    show (bif !(F32 (([x1, x2, x4, x5, x6, x7, x8, x9] : List Int).getD i 0) 2147483648) then _ else _) = _
    cases F32 (([x1, x2, x4, x5, x6, x7, x8, x9] : List Int).getD i 0) 2147483648 <;> rfl) rfl]
  have hall : ((List.range 8).all fun i => F32 (([x1, x2, x4, x5, x6, x7, x8, x9] : List Int).getD i 0) 2147483648) = true := by
    rw [List.all_eq_true]
    intro i hi
    have := List.mem_range.1 hi
    rcases (by omega : i = 0 ∨ i = 1 ∨ i = 2 ∨ i = 3 ∨ i = 4 ∨ i = 5 ∨ i = 6 ∨ i = 7) with h | h | h | h | h | h | h | h <;> subst h <;> assumption
  rw [if_pos hall]
  show some (F32 x3 2305843009213693952) = _
  rw [h3]

def DYof (a b : Int) : Int := if b < 0 then a / (gg a b : Int) else -(a / (gg a b : Int))
def Yof (a b c X : Int) : Int := IntKind.i64.wrap ((IntKind.i64.wrap (c - IntKind.i64.wrap (a * X))).tdiv b)
/-- What All answers. -/
def Line (a b c : Int) (y : Int × Int × Int × Int × Bool) : Prop :=
  if gg a b = 0 ∨ ¬ ((gg a b : Int) ∣ c) then y = (0, 0, 0, 0, false)
  else if b = 0 then y = (IntKind.i64.wrap (c.tdiv a), 0, 0, 1, true)
  else ∃ X, y = (X, Yof a b c X, (b.natAbs : Int) / (gg a b : Int), DYof a b, true) ∧ 0 ≤ X ∧ X < (b.natAbs : Int) / (gg a b : Int) ∧ b ∣ c - a * X
theorem gg_dvd (a b : Int) : (gg a b : Int) ∣ a ∧ (gg a b : Int) ∣ b := ⟨Int.gcd_dvd_left .., Int.gcd_dvd_right ..⟩
theorem gg_zero {a b : Int} : gg a b = 0 ↔ a = 0 ∧ b = 0 := by
  unfold gg; rw [Nat.gcd_eq_zero_iff]; omega
/-- The facts about a line with b other than 0. -/
theorem line_facts {a b c : Int} (hb0 : b ≠ 0) (ha : a.natAbs ≤ MM) (hb : b.natAbs ≤ MM) :
    0 < (gg a b : Int) ∧ (gg a b : Int) ≤ 2147483648 ∧ 0 < (b.natAbs : Int) / (gg a b : Int) ∧ (b.natAbs : Int) / (gg a b : Int) ≤ 2147483648 ∧ (gg a b : Int) * ((b.natAbs : Int) / (gg a b : Int)) = b.natAbs ∧ (gg a b : Int) * (a / (gg a b : Int)) = a ∧ (a / (gg a b : Int)).natAbs ≤ MM ∧ a * ((b.natAbs : Int) / (gg a b : Int)) + b * DYof a b = 0 := by
  have hg0 : 0 < gg a b := Nat.pos_of_ne_zero fun h => hb0 (gg_zero.1 h).2
  obtain ⟨d1, d2⟩ := gg_dvd a b
  have hle : gg a b ≤ b.natAbs := Nat.le_of_dvd (by omega) (Int.natAbs_dvd_natAbs.2 d2)
  have d3 : (gg a b : Int) ∣ (b.natAbs : Int) := Int.dvd_natAbs.2 d2
  have e1 : (gg a b : Int) * ((b.natAbs : Int) / (gg a b : Int)) = b.natAbs := Int.mul_ediv_cancel' d3
  have e2 : (gg a b : Int) * (a / (gg a b : Int)) = a := Int.mul_ediv_cancel' d1
  have hm : 0 < (b.natAbs : Int) / (gg a b : Int) := by
    rcases Int.lt_or_le 0 ((b.natAbs : Int) / (gg a b : Int)) with h | h
    · exact h
    · have := Int.mul_nonpos_of_nonneg_of_nonpos (show (0 : Int) ≤ (gg a b : Int) by omega) h
      omega
  have hm2 : (b.natAbs : Int) / (gg a b : Int) ≤ (b.natAbs : Int) := Int.ediv_le_self _ (by omega)
  have hq : (a / (gg a b : Int)).natAbs ≤ a.natAbs := by
    have : a.natAbs = (gg a b) * (a / (gg a b : Int)).natAbs := by
      conv => lhs; rw [← e2]
      rw [Int.natAbs_mul, Int.natAbs_natCast]
    rw [this]; exact Nat.le_mul_of_pos_left _ hg0
  unfold MM at *
  refine ⟨by omega, by omega, hm, by omega, e1, e2, by omega, ?_⟩
  generalize hgv : (gg a b : Int) = g at *
  generalize hmv : (b.natAbs : Int) / g = m at *
  generalize hav : a / g = a' at *
  unfold DYof
  rw [hgv, hav]
  by_cases hbn : b < 0
  · rw [if_pos hbn]
    have eb : b = -(g * m) := by omega
    rw [eb, ← e2, Int.neg_mul, Int.mul_right_comm g m a', Int.mul_right_comm]; omega
  · rw [if_neg hbn]
    have eb : b = g * m := by omega
    rw [eb, ← e2, Int.mul_neg, Int.mul_right_comm g m a']; omega
theorem solve_dvd {a b c g s t c' m q X : Int} (e : g = s * a + t * b) (ec : c = g * c') (em : g * m = b ∨ g * m = -b) (hga : g ∣ a) (hX : X = s * c' - m * q) : b ∣ c - a * X := by
  obtain ⟨a', ha⟩ := hga
  have : c - a * X = b * (t * c') + a' * q * (g * m) := by
    rw [ec, hX, Int.mul_sub]
    have h1 : g * c' = s * a * c' + t * b * c' := by rw [e, Int.add_mul]
    have h2 : a * (s * c') = s * a * c' := by rw [← Int.mul_assoc, Int.mul_comm a s]
    have h3 : t * b * c' = b * (t * c') := by rw [Int.mul_comm t b, Int.mul_assoc]
    have h4 : a * (m * q) = a' * q * (g * m) := by
      rw [ha]
      rw [Int.mul_comm g a', Int.mul_assoc a' g (m * q), Int.mul_assoc a' q (g * m)]
      congr 1
      rw [← Int.mul_assoc, Int.mul_comm (g * m) q]
    rw [h1, h2, h3, h4]; omega
  rw [this]
  refine Int.dvd_add (Int.dvd_mul_right _ _) ?_
  rcases em with em | em
  · rw [em]; exact Int.dvd_mul_left _ _
  · rw [em]; exact Int.dvd_trans (Int.dvd_neg.2 (Int.dvd_refl b)) (Int.dvd_mul_left _ _)
theorem abs_text (b : Int) (hb : b.natAbs ≤ MM) : (if IntKind.i64.wrap (0 - b) > b then IntKind.i64.wrap (0 - b) else b) = (b.natAbs : Int) := by
  unfold MM at hb
  rw [wrap_i64 (by omega) (by omega)]
  split <;> omega
theorem dy_text (a b : Int) (ha : a.natAbs ≤ MM) (hb0 : b ≠ 0) (hb : b.natAbs ≤ MM) : (b < 0 → IntKind.i64.wrap (a.tdiv (gg a b : Int)) = DYof a b) ∧ (¬ b < 0 → IntKind.i64.wrap ((IntKind.i64.wrap (0 - a)).tdiv (gg a b : Int)) = DYof a b) := by
  obtain ⟨f1, f2, f3, f4, f5, f6, f7, f8⟩ := line_facts (c := 0) hb0 ha hb
  obtain ⟨d1, d2⟩ := gg_dvd a b
  unfold MM at ha f7
  have w : IntKind.i64.wrap (0 - a) = -a := by rw [Int.zero_sub]; exact wrap_i64 (by omega) (by omega)
  rw [w, Int.neg_tdiv, Int.tdiv_eq_ediv_of_dvd d1]
  unfold DYof
  constructor
  · intro h; rw [if_pos h]; exact wrap_i64 (by omega) (by omega)
  · intro h; rw [if_neg h]; exact wrap_i64 (by omega) (by omega)
theorem all_eq {a b c x4 x5 x6 x7 x8 x9 : Int} (hv : F10 a b c x4 x5 x6 x7 x8 x9 = true) : Yields (Line a b c) (F11 a b c x4 x5 x6 x7 x8 x9) := by
  obtain ⟨ha, hb, hc, _⟩ := (valid_iff _ _ _ _ _ _ _ _ _).1 hv
  unfold F11
  refine Yields.bindE (valid_prog hv) ?_
  simp only [Bool.not_true, cond_false]
  obtain ⟨s, t, e33, eg, hs, ht⟩ := gcd_eq a b ha hb
  -- the general case
  have gen : gg a b ≠ 0 → (gg a b : Int) ∣ c → b ≠ 0 → Yields (Line a b c) (Option.bind (F34 s (F11__1 b ((gg a b : Int), s, t))) fun y19 =>
      (Option.bind (F34 (IntKind.i64.wrap (c.tdiv (gg a b : Int))) (F11__1 b ((gg a b : Int), s, t))) fun y21 =>
      (Option.bind (F34 (IntKind.i64.wrap (y19 * y21)) (F11__1 b ((gg a b : Int), s, t))) fun y23 =>
      (bif decide (b < 0) then
       some (y23, (IntKind.i64.wrap ((IntKind.i64.wrap (c - (IntKind.i64.wrap (a * y23)))).tdiv b)), (F11__1 b ((gg a b : Int), s, t)), (IntKind.i64.wrap (a.tdiv (gg a b : Int))), true)
      else
       some (y23, (IntKind.i64.wrap ((IntKind.i64.wrap (c - (IntKind.i64.wrap (a * y23)))).tdiv b)), (F11__1 b ((gg a b : Int), s, t)), (IntKind.i64.wrap ((IntKind.i64.wrap (0 - a)).tdiv (gg a b : Int))), true))))) := by
    intro hg0 hdc hb0
    obtain ⟨f1, f2, f3, f4, f5, f6, f7, f8⟩ := line_facts (c := c) hb0 ha hb
    have em : F11__1 b ((gg a b : Int), s, t) = (b.natAbs : Int) / (gg a b : Int) := by
      unfold F11__1
      dsimp only
      rw [abs_text b hb, Int.tdiv_eq_ediv_of_nonneg (by omega)]
      exact wrap_i64 (by omega) (by omega)
    rw [em]
    have hL : ∀ X, Line a b c (X, Yof a b c X, (b.natAbs : Int) / (gg a b : Int), DYof a b, true) ↔ (0 ≤ X ∧ X < (b.natAbs : Int) / (gg a b : Int) ∧ b ∣ c - a * X) := by
      intro X
      unfold Line
      rw [if_neg (by rintro (h | h); exact hg0 h; exact h hdc), if_neg hb0]
      constructor
      · rintro ⟨X', e, h⟩; cases e; exact h
      · intro h; exact ⟨X, rfl, h⟩
    obtain ⟨dy1, dy2⟩ := dy_text a b ha hb0 hb
    refine Yields.bindE (rem_eq f3 f4) ?_
    refine Yields.bindE (rem_eq f3 f4) ?_
    refine Yields.bindE (rem_eq f3 f4) ?_
    obtain ⟨c', hc'⟩ := hdc
    have ec' : c.tdiv (gg a b : Int) = c' := by rw [hc']; exact Int.mul_tdiv_cancel_left _ (by omega)
    have hcb : c'.natAbs ≤ 2305843009213693952 := by
      have : c.natAbs = gg a b * c'.natAbs := by rw [hc', Int.natAbs_mul, Int.natAbs_natCast]
      have := Nat.le_mul_of_pos_left c'.natAbs (show 0 < gg a b by omega)
      omega
    rw [ec', wrap_i64 (x := c') (by omega) (by omega)]
    generalize hmv : (b.natAbs : Int) / (gg a b : Int) = m at *
    have p1 := Int.emod_nonneg s (show m ≠ 0 by omega)
    have p2 := Int.emod_lt_of_pos s f3
    have p3 := Int.emod_nonneg c' (show m ≠ 0 by omega)
    have p4 := Int.emod_lt_of_pos c' f3
    have pw : IntKind.i64.wrap (s % m * (c' % m)) = s % m * (c' % m) := by
      have := mul_small (x := s % m) (y := c' % m) (A := 2147483648) (B := 2147483648) (by omega) (by omega)
      exact wrap_small this (by omega)
    rw [pw, ← Int.mul_emod]
    have q1 := Int.emod_nonneg (s * c') (show m ≠ 0 by omega)
    have q2 := Int.emod_lt_of_pos (s * c') f3
    have hX : (s * c') % m = s * c' - m * ((s * c') / m) := by have := Int.mul_ediv_add_emod (s * c') m; omega
    have hdv : b ∣ c - a * ((s * c') % m) := solve_dvd eg hc' (by rcases Int.natAbs_eq b with h | h <;> omega) (gg_dvd a b).1 hX
    refine Yields.bif (fun e => ?_) (fun e => ?_)
    · rw [dy1 (by simpa using e)]
      exact Yields.some ((hL _).2 ⟨q1, q2, hdv⟩)
    · rw [dy2 (by simpa using e)]
      exact Yields.some ((hL _).2 ⟨q1, q2, hdv⟩)
  have nod : ¬ ((gg a b : Int) ∣ c) → Line a b c (0, 0, 0, 0, false) := fun h => by unfold Line; rw [if_pos (.inr h)]
  have tz : (c.tmod (gg a b : Int) != 0) = true ↔ ¬ ((gg a b : Int) ∣ c) := by
    rw [bne_iff_ne, ne_eq, Int.dvd_iff_tmod_eq_zero]
  refine Yields.bif (fun c1 => ?_) (fun c1 => ?_)
  · have ha0 : a = 0 := by simpa using c1
    refine Yields.bif (fun c2 => ?_) (fun c2 => ?_)
    · have hb0 : b = 0 := by simpa using c2
      refine Yields.some ?_
      unfold Line
      rw [if_pos (.inl (gg_zero.2 ⟨ha0, hb0⟩))]
    · have hb0 : b ≠ 0 := by simpa using c2
      have hg0 : gg a b ≠ 0 := fun h => hb0 (gg_zero.1 h).2
      refine Yields.bindE e33 ?_
      have z : ((gg a b : Int) == 0) = false := beq_eq_false_iff_ne.2 (by omega)
      simp only [z, cond_false]
      refine Yields.bif (fun c3 => ?_) (fun c3 => ?_)
      · exact Yields.some (nod (tz.1 c3))
      · have hd : (gg a b : Int) ∣ c := Classical.byContradiction fun h => by have := tz.2 h; rw [c3] at this; cases this
        exact gen hg0 hd hb0
  · have ha0 : a ≠ 0 := by simpa using c1
    have hg0 : gg a b ≠ 0 := fun h => ha0 (gg_zero.1 h).1
    refine Yields.bindE e33 ?_
    have z : ((gg a b : Int) == 0) = false := beq_eq_false_iff_ne.2 (by omega)
    simp only [z, cond_false]
    refine Yields.bif (fun c3 => ?_) (fun c3 => ?_)
    · exact Yields.some (nod (tz.1 c3))
    · have hd : (gg a b : Int) ∣ c := Classical.byContradiction fun h => by have := tz.2 h; rw [c3] at this; cases this
      refine Yields.bif (fun c4 => ?_) (fun c4 => ?_)
      · have hb0 : b = 0 := by simpa using c4
        refine Yields.some ?_
        unfold Line
        rw [if_neg (by rintro (h | h); exact hg0 h; exact h hd), if_pos hb0]
      · have hb0 : b ≠ 0 := by simpa using c4
        exact gen hg0 hd hb0

theorem small_sub {c y : Int} (hc : c.natAbs ≤ 2305843009213693952) (hy : y.natAbs ≤ 4611686018427387904) : IntKind.i64.wrap (c - y) = c - y := wrap_i64 (by omega) (by omega)
theorem sub_abs {c y : Int} (hc : c.natAbs ≤ 2305843009213693952) (hy : y.natAbs ≤ 4611686018427387904) : (c - y).natAbs ≤ 6917529027641081856 := by omega

/-! What a line is. -/
structure LF (a b c X Y DX DY : Int) : Prop where
  on : a * X + b * Y = c
  dir : a * DX + b * DY = 0
  prim : ∀ u v, a * u + b * v = 0 → ∃ k, u = k * DX ∧ v = k * DY
  some : DX ≠ 0 ∨ DY ≠ 0
def Shape (X Y DX DY : Int) : Prop := (1 ≤ DX ∧ DX ≤ 2147483648 ∧ 0 ≤ X ∧ X < DX ∧ DY.natAbs ≤ 2147483648 ∧ Y.natAbs ≤ 6917529027641081856) ∨ (DX = 0 ∧ DY = 1 ∧ Y = 0 ∧ X.natAbs ≤ 2305843009213693952)
theorem tdiv_of_dvd {x b : Int} (hb : b ≠ 0) (h : b ∣ x) : ∃ q, x = b * q ∧ x.tdiv b = q ∧ q.natAbs ≤ x.natAbs := by
  obtain ⟨q, rfl⟩ := h
  refine ⟨q, rfl, Int.mul_tdiv_cancel_left _ hb, ?_⟩
  rw [Int.natAbs_mul]
  exact Nat.le_mul_of_pos_left _ (by omega)
theorem prim_of {a b g s t m DY : Int} (eg : g = s * a + t * b) (hg : 0 < g) (hb0 : b ≠ 0) (em : g * m = b ∨ g * m = -b) (hdir : a * m + b * DY = 0) (u v : Int) (h : a * u + b * v = 0) : ∃ k, u = k * m ∧ v = k * DY := by
  have hu : g * u = b * (t * u - s * v) := by
    have h1 : s * (a * u + b * v) = 0 := by rw [h, Int.mul_zero]
    have h2 : s * (a * u + b * v) = s * a * u + b * (s * v) := by
      rw [Int.mul_add, Int.mul_assoc s a u, Int.mul_left_comm s b v]
    rw [eg, Int.add_mul, Int.mul_sub]
    have h3 : t * b * u = b * (t * u) := by rw [Int.mul_comm t b, Int.mul_assoc]
    rw [h3]; omega
  have key : ∃ k, u = k * m := by
    generalize t * u - s * v = w at hu
    rcases em with em | em
    · rw [← em, Int.mul_assoc] at hu
      have := Int.eq_of_mul_eq_mul_left (by omega) hu
      exact ⟨w, by rw [this, Int.mul_comm]⟩
    · have e : b = g * (-m) := by rw [Int.mul_neg]; omega
      rw [e, Int.mul_assoc] at hu
      have := Int.eq_of_mul_eq_mul_left (by omega) hu
      exact ⟨-w, by rw [this, Int.neg_mul, Int.neg_mul, Int.mul_comm]⟩
  obtain ⟨k, hk⟩ := key
  refine ⟨k, hk, ?_⟩
  have h1 : b * v = b * (k * DY) := by
    have e1 : k * (a * m + b * DY) = 0 := by rw [hdir, Int.mul_zero]
    have e2 : k * (a * m + b * DY) = a * (k * m) + b * (k * DY) := by rw [Int.mul_add, Int.mul_left_comm k a m, Int.mul_left_comm k b DY]
    rw [hk] at h; omega
  exact Int.eq_of_mul_eq_mul_left hb0 h1
theorem line_LF {a b c : Int} (ha : a.natAbs ≤ MM) (hb : b.natAbs ≤ MM) (hc : c.natAbs ≤ 2305843009213693952) {y : Int × Int × Int × Int × Bool} (h : Line a b c y) :
    ((gg a b = 0 ∨ ¬ ((gg a b : Int) ∣ c)) ∧ y = (0, 0, 0, 0, false)) ∨ (gg a b ≠ 0 ∧ ((gg a b : Int) ∣ c) ∧ ∃ X Y DX DY, y = (X, Y, DX, DY, true) ∧ LF a b c X Y DX DY ∧ Shape X Y DX DY) := by
  unfold Line at h
  by_cases hno : gg a b = 0 ∨ ¬ ((gg a b : Int) ∣ c)
  · rw [if_pos hno] at h; exact .inl ⟨hno, h⟩
  · rw [if_neg hno] at h
    have hg : gg a b ≠ 0 := fun e => hno (.inl e)
    have hd : (gg a b : Int) ∣ c := Classical.byContradiction fun e => hno (.inr e)
    refine .inr ⟨hg, hd, ?_⟩
    by_cases hb0 : b = 0
    · rw [if_pos hb0] at h
      have ha0 : a ≠ 0 := fun e => hg (gg_zero.2 ⟨e, hb0⟩)
      have hga : (gg a b : Int) = a.natAbs := by unfold gg; rw [hb0]; simp
      rw [hga] at hd
      obtain ⟨q, e1, e2, e3⟩ := tdiv_of_dvd ha0 (Int.natAbs_dvd.1 hd)
      rw [e2, wrap_small (Nat.le_trans e3 hc) (by omega)] at h
      subst hb0
      refine ⟨q, 0, 0, 1, h, ⟨by omega, by omega, fun u v hu => ⟨v, ?_, by omega⟩, .inr (by omega)⟩, .inr ⟨rfl, rfl, rfl, Nat.le_trans e3 hc⟩⟩
      have hu' : a * u = a * 0 := by omega
      have := Int.eq_of_mul_eq_mul_left ha0 hu'
      omega
    · rw [if_neg hb0] at h
      obtain ⟨X, rfl, hX0, hX1, hdv⟩ := h
      obtain ⟨f1, f2, f3, f4, f5, f6, f7, f8⟩ := line_facts (c := c) hb0 ha hb
      obtain ⟨s, t, _, eg, _, _⟩ := gcd_eq a b ha hb
      have haX : (a * X).natAbs ≤ 4611686018427387904 := Nat.le_trans (mul_small (x := a) (y := X) (A := 2147483648) (B := 2147483648) ha (by clear hdv; omega)) (by decide)
      have w1 : IntKind.i64.wrap (a * X) = a * X := wrap_small haX (by decide)
      have w2 := small_sub hc haX
      obtain ⟨q, e1, e2, e3⟩ := tdiv_of_dvd hb0 hdv
      have hq := Nat.le_trans e3 (sub_abs hc haX)
      have eY : Yof a b c X = q := by
        unfold Yof; rw [w1, w2, e2]; exact wrap_small hq (by omega)
      have hDY : (DYof a b).natAbs ≤ 2147483648 := by
        unfold DYof; unfold MM at f7; split
        · exact f7
        · rw [Int.natAbs_neg]; exact f7
      rw [eY]
      refine ⟨X, q, _, _, rfl, ⟨by rw [← e1]; omega, f8, fun u v hu => prim_of eg f1 hb0 ?_ f8 u v hu, .inl (by omega)⟩, .inl ⟨by omega, f4, hX0, hX1, hDY, hq⟩⟩
      rcases Int.natAbs_eq b with hh | hh
      · left; rw [f5]; exact hh.symm
      · right; rw [f5]; omega

/-! Which parameters are in the ranges. -/
def inD (f s lo hi t : Int) : Prop := lo ≤ f + t * s ∧ f + t * s ≤ hi
theorem floor_eq {x b : Int} (hb : 0 < b) (hx : x.natAbs ≤ 9000000000000000000) : F89 x b = some (x / b) := by
  have q := Int.mul_ediv_add_emod x b
  have r1 := Int.emod_nonneg x (show b ≠ 0 by omega)
  have r2 := Int.emod_lt_of_pos x hb
  unfold F89
  have z : (b == 0) = false := beq_eq_false_iff_ne.2 (by omega)
  rw [z]
  simp only [cond_false]
  have hdb : (x / b).natAbs ≤ 9000000000000000000 := by
    rcases Int.lt_or_le x 0 with h | h
    · have h1 : x / b < 0 := Int.ediv_neg_of_neg_of_pos h hb
      have h2 : x ≤ x / b := by
        refine (Int.le_ediv_iff_mul_le hb).2 ?_
        have := Int.mul_le_mul_of_nonpos_left (show x ≤ 0 by omega) (show (1 : Int) ≤ b by omega)
        omega
      omega
    · have h1 := Int.ediv_nonneg h (show 0 ≤ b by omega)
      have h2 := Int.ediv_le_self b h
      omega
  have htd : x.tmod b < 0 ∧ x.tdiv b = x / b + 1 ∨ ¬ x.tmod b < 0 ∧ x.tdiv b = x / b := by
    rcases Int.lt_or_le x 0 with h | h
    · have e1 : x.tdiv b = -((-x) / b) := by
        rw [← Int.tdiv_eq_ediv_of_nonneg (by omega : 0 ≤ -x), Int.neg_tdiv]; omega
      have e2 : x.tmod b = -((-x) % b) := by
        rw [← Int.tmod_eq_emod_of_nonneg (by omega : 0 ≤ -x), Int.neg_tmod]; omega
      have q' := Int.mul_ediv_add_emod (-x) b
      have p1 := Int.emod_nonneg (-x) (show b ≠ 0 by omega)
      have p2 := Int.emod_lt_of_pos (-x) hb
      rw [e1, e2]
      by_cases hz : (-x) % b = 0
      · right
        refine ⟨by omega, ?_⟩
        have : x = b * (-((-x) / b)) := by rw [Int.mul_neg]; omega
        conv => rhs; rw [this]
        rw [Int.mul_ediv_cancel_left _ (by omega)]
      · left
        refine ⟨by omega, ?_⟩
        have e3 : x = (b - (-x) % b) + b * (-((-x) / b) - 1) := by rw [Int.mul_sub, Int.mul_neg]; omega
        have e4 : x / b = -((-x) / b) - 1 := by
          conv => lhs; rw [e3]
          rw [Int.add_mul_ediv_left _ _ (by omega), Int.ediv_eq_zero_of_lt (by omega) (by omega)]; omega
        omega
    · right
      refine ⟨?_, Int.tdiv_eq_ediv_of_nonneg h⟩
      rw [Int.tmod_eq_emod_of_nonneg h]; omega
  rcases htd with ⟨h1, h2⟩ | ⟨h1, h2⟩
  · have d : decide (x.tmod b < 0) = true := by simpa using h1
    rw [d, h2]
    simp only [cond_true]
    rw [wrap_i64 (x := x / b + 1) (by omega) (by omega), wrap_i64 (by omega) (by omega)]
    congr 1; omega
  · have d : decide (x.tmod b < 0) = false := by simpa using h1
    rw [d, h2]
    simp only [cond_false]
    rw [wrap_small hdb (by omega)]
theorem ceil_eq {x b : Int} (hb : 0 < b) (hx : x.natAbs ≤ 9000000000000000000) : ∃ p, F88 x b = some p ∧ ∀ t, p ≤ t ↔ x ≤ t * b := by
  unfold F88
  have w : IntKind.i64.wrap (0 - x) = -x := by rw [Int.zero_sub]; exact wrap_small (by rw [Int.natAbs_neg]; exact hx) (by omega)
  rw [w, floor_eq hb (by rw [Int.natAbs_neg]; exact hx)]
  have hdb : ((-x) / b).natAbs ≤ 9000000000000000000 := by
    rcases Int.lt_or_le (-x) 0 with h | h
    · have h1 : (-x) / b < 0 := Int.ediv_neg_of_neg_of_pos h hb
      have h2 : (-x) ≤ (-x) / b := by
        refine (Int.le_ediv_iff_mul_le hb).2 ?_
        have := Int.mul_le_mul_of_nonpos_left (show (-x) ≤ 0 by omega) (show (1 : Int) ≤ b by omega)
        omega
      omega
    · have h1 := Int.ediv_nonneg h (show 0 ≤ b by omega)
      have h2 := Int.ediv_le_self b h
      omega
  refine ⟨-((-x) / b), ?_, fun t => ?_⟩
  · simp only [Option.bind_some]
    rw [Int.zero_sub, wrap_small (by rw [Int.natAbs_neg]; exact hdb) (by omega)]
  · have := Int.le_ediv_iff_mul_le (a := -t) (b := -x) hb
    rw [Int.neg_mul] at this
    omega
theorem par {f s lo hi : Int} (hf : f.natAbs ≤ 6917529029788565504) (hs : s.natAbs ≤ 4294967296) (hlo : lo.natAbs ≤ 2147483648) (hhi : hi.natAbs ≤ 2147483648) :
    ∃ p q, F71 f s lo hi = some (p, q) ∧ (∀ t, p ≤ t → t ≤ q → inD f s lo hi t) ∧ ∀ t : Int, t.natAbs ≤ 4611686018427387904 → inD f s lo hi t → p ≤ t ∧ t ≤ q := by
  have w1 : IntKind.i64.wrap (lo - f) = lo - f := wrap_i64 (by omega) (by omega)
  have w2 : IntKind.i64.wrap (hi - f) = hi - f := wrap_i64 (by omega) (by omega)
  have w3 : IntKind.i64.wrap (f - hi) = f - hi := wrap_i64 (by omega) (by omega)
  have w4 : IntKind.i64.wrap (f - lo) = f - lo := wrap_i64 (by omega) (by omega)
  have w5 : IntKind.i64.wrap (0 - s) = -s := by rw [Int.zero_sub]; exact wrap_i64 (by omega) (by omega)
  unfold F71
  rw [w1, w2, w3, w4, w5]
  by_cases hp : s > 0
  · have d : decide (s > 0) = true := by simpa using hp
    rw [d]
    obtain ⟨p, e1, h1⟩ := ceil_eq (x := lo - f) hp (by omega)
    rw [e1, floor_eq hp (by omega)]
    refine ⟨p, (hi - f) / s, rfl, fun t ht1 ht2 => ?_, fun t _ ht => ?_⟩
    · have a1 := (h1 t).1 ht1
      have a2 := (Int.le_ediv_iff_mul_le hp).1 ht2
      unfold inD; omega
    · unfold inD at ht
      exact ⟨(h1 t).2 (by omega), (Int.le_ediv_iff_mul_le hp).2 (by omega)⟩
  · have d : decide (s > 0) = false := by simpa using hp
    rw [d]
    by_cases hn : s < 0
    · have d2 : decide (s < 0) = true := by simpa using hn
      rw [d2]
      have hp' : 0 < -s := by omega
      obtain ⟨p, e1, h1⟩ := ceil_eq (x := f - hi) hp' (by omega)
      simp only [cond_false, cond_true]
      rw [e1, floor_eq hp' (by omega)]
      refine ⟨p, (f - lo) / -s, rfl, fun t ht1 ht2 => ?_, fun t _ ht => ?_⟩
      · have a1 := (h1 t).1 ht1
        have a2 := (Int.le_ediv_iff_mul_le hp').1 ht2
        rw [Int.mul_neg] at a1 a2
        unfold inD; omega
      · unfold inD at ht
        refine ⟨(h1 t).2 ?_, (Int.le_ediv_iff_mul_le hp').2 ?_⟩
        · rw [Int.mul_neg]; omega
        · rw [Int.mul_neg]; omega
    · have d2 : decide (s < 0) = false := by simpa using hn
      rw [d2]
      have hs0 : s = 0 := by omega
      subst hs0
      simp only [cond_false]
      by_cases hA : f < lo
      · have d3 : decide (f < lo) = true := by simpa using hA
        rw [d3]
        refine ⟨1, 0, rfl, fun t a b => by omega, fun t _ ht => ?_⟩
        unfold inD at ht; rw [Int.mul_zero] at ht; omega
      · have d3 : decide (f < lo) = false := by simpa using hA
        rw [d3]
        simp only [cond_false]
        by_cases hB : f > hi
        · have d4 : decide (f > hi) = true := by simpa using hB
          rw [d4]
          refine ⟨1, 0, rfl, fun t a b => by omega, fun t _ ht => ?_⟩
          unfold inD at ht; rw [Int.mul_zero] at ht; omega
        · have d4 : decide (f > hi) = false := by simpa using hB
          rw [d4]
          refine ⟨-4611686018427387904, 4611686018427387904, rfl, fun t a b => ?_, fun t ht _ => by omega⟩
          unfold inD; rw [Int.mul_zero]; omega
def sol (x4 x5 x6 x7 x8 x9 X Y DX DY t : Int) : Prop := inD X DX x4 x5 t ∧ inD Y DY x6 x7 t ∧ inD (X + Y) (DX + DY) x8 x9 t
theorem sol_small {x4 x5 x6 x7 x8 x9 X Y DX DY t : Int} (hsh : Shape X Y DX DY) (h4 : x4.natAbs ≤ MM) (h5 : x5.natAbs ≤ MM) (h6 : x6.natAbs ≤ MM) (h7 : x7.natAbs ≤ MM) (h : sol x4 x5 x6 x7 x8 x9 X Y DX DY t) : t.natAbs ≤ 4294967296 := by
  unfold MM at *
  obtain ⟨⟨a1, a2⟩, ⟨b1, b2⟩, _⟩ := h
  rcases hsh with ⟨k1, k2, k3, k4, _, _⟩ | ⟨k1, k2, k3, _⟩
  · rcases Int.lt_or_le t 0 with ht | ht
    · have : t * DX ≤ t := by
        have := Int.mul_le_mul_of_nonpos_left (show t ≤ 0 by omega) k1
        omega
      omega
    · have : t ≤ t * DX := by
        have := Int.mul_le_mul_of_nonneg_left k1 ht
        omega
      omega
  · subst k2; subst k3; omega
def dimv (x4 x5 x6 x7 x8 x9 X Y DX DY : Int) : Nat → Int × Int × Int × Int
  | 0 => (X, DX, x4, x5)
  | 1 => (Y, DY, x6, x7)
  | _ => (X + Y, DX + DY, x8, x9)
theorem solved {a b c x4 x5 x6 x7 x8 x9 X Y DX DY : Int} (hsh : Shape X Y DX DY) (h4 : x4.natAbs ≤ MM) (h5 : x5.natAbs ≤ MM) (h6 : x6.natAbs ≤ MM) (h7 : x7.natAbs ≤ MM) (h8 : x8.natAbs ≤ MM) (h9 : x9.natAbs ≤ MM) :
    ∃ lo hi, F35 a b c x4 x5 x6 x7 x8 x9 X Y DX DY = some (lo, hi) ∧ ∀ t, (lo ≤ t ∧ t ≤ hi) ↔ sol x4 x5 x6 x7 x8 x9 X Y DX DY t := by
  have hb : X.natAbs ≤ 6917529027641081856 ∧ Y.natAbs ≤ 6917529027641081856 ∧ (X + Y).natAbs ≤ 6917529029788565504 ∧ DX.natAbs ≤ 2147483648 ∧ DY.natAbs ≤ 2147483648 := by
    rcases hsh with ⟨k1, k2, k3, k4, k5, k6⟩ | ⟨k1, k2, k3, k4⟩ <;> omega
  obtain ⟨b1, b2, b3, b4, b5⟩ := hb
  have w1 : IntKind.i64.wrap (X + Y) = X + Y := wrap_small b3 (by omega)
  have w2 : IntKind.i64.wrap (DX + DY) = DX + DY := wrap_i64 (by omega) (by omega)
  let d := dimv x4 x5 x6 x7 x8 x9 X Y DX DY
  have hd : ∀ i : Nat, i < 3 → F35__1 a b c x4 x5 x6 x7 x8 x9 X Y DX DY i = (d i).1 ∧ F35__2 a b c x4 x5 x6 x7 x8 x9 X Y DX DY i = (d i).2.1 ∧ F35__3 a b c x4 x5 x6 x7 x8 x9 X Y DX DY i = (d i).2.2.1 ∧ F35__4 a b c x4 x5 x6 x7 x8 x9 X Y DX DY i = (d i).2.2.2 := by
    intro i hi
    unfold F35__1 F35__2 F35__3 F35__4 F70
    rw [w1, w2]
    rcases (by omega : i = 0 ∨ i = 1 ∨ i = 2) with h | h | h <;> subst h <;> exact ⟨rfl, rfl, rfl, rfl⟩
  have hdb : ∀ i : Nat, i < 3 → (d i).1.natAbs ≤ 6917529029788565504 ∧ (d i).2.1.natAbs ≤ 4294967296 ∧ (d i).2.2.1.natAbs ≤ 2147483648 ∧ (d i).2.2.2.natAbs ≤ 2147483648 := by
    intro i hi
    unfold MM at *
    rcases (by omega : i = 0 ∨ i = 1 ∨ i = 2) with h | h | h <;> subst h
    · exact ⟨show X.natAbs ≤ _ by omega, show DX.natAbs ≤ _ by omega, h4, h5⟩
    · exact ⟨show Y.natAbs ≤ _ by omega, show DY.natAbs ≤ _ by omega, h6, h7⟩
    · exact ⟨b3, show (DX + DY).natAbs ≤ _ by omega, h8, h9⟩
  have hall : ∀ t, (∀ i, i < 3 → inD (d i).1 (d i).2.1 (d i).2.2.1 (d i).2.2.2 t) ↔ sol x4 x5 x6 x7 x8 x9 X Y DX DY t := by
    intro t
    constructor
    · intro h; exact ⟨h 0 (by omega), h 1 (by omega), h 2 (by omega)⟩
    · rintro ⟨p0, p1, p2⟩ i hi
      rcases (by omega : i = 0 ∨ i = 1 ∨ i = 2) with h | h | h <;> subst h
      · exact p0
      · exact p1
      · exact p2
  have key : Yields (fun (r : Nat × Int × Int) => (r.1 = 0 ∧ ∀ t, ¬ sol x4 x5 x6 x7 x8 x9 X Y DX DY t) ∨ (r.1 = 1 ∧ ∀ t, (r.2.1 ≤ t ∧ t ≤ r.2.2) ↔ sol x4 x5 x6 x7 x8 x9 X Y DX DY t)) (loopO (fun (s : Int × Int × Int) => F35_s1 a b c x4 x5 x6 x7 x8 x9 X Y DX DY s.1 s.2.1 s.2.2) (0, (-9223372036854775808), 9223372036854775807)) := by
    refine Yields.loop 3 (fun i (z : Int × Int × Int) => z.1 = i ∧ (∀ t, z.2.1 ≤ t → t ≤ z.2.2 → ∀ j, j < i → inD (d j).1 (d j).2.1 (d j).2.2.1 (d j).2.2.2 t) ∧ ∀ t : Int, t.natAbs ≤ 4611686018427387904 → (∀ j, j < i → inD (d j).1 (d j).2.1 (d j).2.2.1 (d j).2.2.2 t) → z.2.1 ≤ t ∧ t ≤ z.2.2) ⟨rfl, fun t _ _ j h => by omega, fun t ht _ => by simp only; omega⟩ ?_
    rintro i ⟨e, lo, hi⟩ hi3 ⟨he, hA, hB⟩
    simp only at he hA hB ⊢
    subst he
    unfold F35_s1
    refine Yields.bif (fun cc => ?_) (fun cc => ?_)
    · have c' : i < 3 := by simp at cc; omega
      obtain ⟨g1, g2, g3, g4⟩ := hd i c'
      obtain ⟨l1, l2, l3, l4⟩ := hdb i c'
      rw [in_range (n := 3) (by omega) (by omega)]
      unfold F35__5
      rw [g1, g2, g3, g4]
      simp only [Bool.not_true, cond_false]
      refine Yields.bif (fun e => ?_) (fun e => ?_)
      · have e' : (d i).2.2.1 > (d i).2.2.2 := by simpa using e
        refine Yields.some (.inl ⟨rfl, fun t hs => ?_⟩)
        have := (hall t).2 hs i c'
        unfold inD at this; omega
      · obtain ⟨p, q, e1, hp1, hp2⟩ := par l1 l2 l3 l4
        refine Yields.bindE e1 ?_
        refine Yields.some ⟨c', wrap_i1 (by omega), fun t ht1 ht2 j hj => ?_, fun t ht hj => ?_⟩
        · simp only at ht1 ht2
          have t1 : p ≤ t ∧ lo ≤ t := by split at ht1 <;> omega
          have t2 : t ≤ q ∧ t ≤ hi := by split at ht2 <;> omega
          by_cases hji : j = i
          · subst hji; exact hp1 t t1.1 t2.1
          · exact hA t t1.2 t2.2 j (by omega)
        · have k1 := hB t ht fun j h => hj j (by omega)
          have k2 := hp2 t ht (hj i (by omega))
          simp only
          constructor
          · split <;> omega
          · split <;> omega
    · have c' : i = 3 := by simp at cc; omega
      subst c'
      refine Yields.some (.inr ⟨rfl, fun t => ⟨fun h => (hall t).1 (hA t h.1 h.2), fun h => hB t ?_ ((hall t).2 h)⟩⟩)
      have := sol_small hsh h4 h5 h6 h7 h
      omega
  obtain ⟨⟨r, lo, hi⟩, e, hr⟩ := key
  unfold F35
  rw [e]
  simp only [Option.bind_some]
  rcases hr with ⟨h0, hn⟩ | ⟨h1, hh⟩
  · simp only at h0; subst h0
    exact ⟨1, 0, rfl, fun t => ⟨fun h => by omega, fun h => absurd h (hn t)⟩⟩
  · simp only at h1 hh; subst h1
    exact ⟨lo, hi, rfl, hh⟩

/-! Solve and Count. -/
theorem F35_any (a b c a' b' c' x4 x5 x6 x7 x8 x9 X Y DX DY : Int) : F35 a b c x4 x5 x6 x7 x8 x9 X Y DX DY = F35 a' b' c' x4 x5 x6 x7 x8 x9 X Y DX DY := by
  unfold F35 F35_s1 F35__5 F35__4 F35__3 F35__2 F35__1 F70; rfl
theorem F36_any (a b c a' b' c' x4 x5 x6 x7 x8 x9 : Int) : F36 a b c x4 x5 x6 x7 x8 x9 = F36 a' b' c' x4 x5 x6 x7 x8 x9 := by
  unfold F36; rfl
theorem solve_line {a b c x4 x5 x6 x7 x8 x9 X Y DX DY lo hi : Int} (hv : F10 a b c x4 x5 x6 x7 x8 x9 = true) (h0 : a ≠ 0 ∨ b ≠ 0) (hl : F11 a b c x4 x5 x6 x7 x8 x9 = some (X, Y, DX, DY, true)) (hs : F35 a b c x4 x5 x6 x7 x8 x9 X Y DX DY = some (lo, hi)) :
    ∃ u v, F15 a b c x4 x5 x6 x7 x8 x9 = some (u, v, !decide (lo > hi)) := by
  unfold F15
  rw [valid_prog hv, hl]
  simp only [Option.bind_some, Bool.not_true, cond_false, hs]
  have gen : ∃ u v, (bif decide (lo > hi) then some (0, 0, false) else bif decide (DY < 0) then some (IntKind.i64.wrap (X + IntKind.i64.wrap (hi * DX)), IntKind.i64.wrap (Y + IntKind.i64.wrap (hi * DY)), true) else some (IntKind.i64.wrap (X + IntKind.i64.wrap (lo * DX)), IntKind.i64.wrap (Y + IntKind.i64.wrap (lo * DY)), true)) = some (u, v, !decide (lo > hi)) := by
    cases decide (lo > hi)
    · cases decide (DY < 0)
      · exact ⟨_, _, rfl⟩
      · exact ⟨_, _, rfl⟩
    · exact ⟨_, _, rfl⟩
  by_cases ha : a = 0
  · have hb : b ≠ 0 := by omega
    have z1 : (a == 0) = true := by simpa using ha
    have z2 : (b == 0) = false := beq_eq_false_iff_ne.2 hb
    rw [z1, z2]
    exact gen
  · have z1 : (a == 0) = false := beq_eq_false_iff_ne.2 ha
    rw [z1]
    exact gen
theorem solve_none {a b c x4 x5 x6 x7 x8 x9 : Int} (hv : F10 a b c x4 x5 x6 x7 x8 x9 = true) (h0 : a ≠ 0 ∨ b ≠ 0) (hl : F11 a b c x4 x5 x6 x7 x8 x9 = some (0, 0, 0, 0, false)) : F15 a b c x4 x5 x6 x7 x8 x9 = some (0, 0, false) := by
  unfold F15
  rw [valid_prog hv, hl]
  simp only [Option.bind_some, Bool.not_true, cond_false, Bool.not_false, cond_true]
  by_cases ha : a = 0
  · have hb : b ≠ 0 := by omega
    have z1 : (a == 0) = true := by simpa using ha
    have z2 : (b == 0) = false := beq_eq_false_iff_ne.2 hb
    rw [z1, z2]; rfl
  · have z1 : (a == 0) = false := beq_eq_false_iff_ne.2 ha
    rw [z1]; rfl
theorem count_line {a b c x4 x5 x6 x7 x8 x9 X Y DX DY lo hi : Int} (hv : F10 a b c x4 x5 x6 x7 x8 x9 = true) (h0 : a ≠ 0 ∨ b ≠ 0) (hl : F11 a b c x4 x5 x6 x7 x8 x9 = some (X, Y, DX, DY, true)) (hs : F35 a b c x4 x5 x6 x7 x8 x9 X Y DX DY = some (lo, hi)) (hb : lo ≤ hi → lo.natAbs ≤ 4294967296 ∧ hi.natAbs ≤ 4294967296) :
    F14 a b c x4 x5 x6 x7 x8 x9 = some (if lo > hi then 0 else hi - lo + 1) := by
  obtain ⟨u, v, e⟩ := solve_line hv h0 hl hs
  unfold F14
  rw [e, hl]
  simp only [Option.bind_some, hs, Bool.not_not]
  by_cases h : lo > hi
  · have d : decide (lo > hi) = true := by simpa using h
    rw [d, if_pos h]; rfl
  · have d : decide (lo > hi) = false := by simpa using h
    rw [d, if_neg h]
    simp only [cond_false, Bool.not_true]
    have := hb (by omega)
    rw [wrap_i64 (by omega) (by omega)]
    have w : ∀ x : Int, 0 ≤ x → x ≤ 18446744073709551615 → IntKind.u64.wrap x = x := fun x h1 h2 => by
      unfold IntKind.wrap; simp [IntKind.signed, IntKind.bits]; omega
    rw [w (hi - lo) (by omega) (by omega), w _ (by omega) (by omega)]
theorem count_none {a b c x4 x5 x6 x7 x8 x9 : Int} (hv : F10 a b c x4 x5 x6 x7 x8 x9 = true) (h0 : a ≠ 0 ∨ b ≠ 0) (hl : F11 a b c x4 x5 x6 x7 x8 x9 = some (0, 0, 0, 0, false)) : F14 a b c x4 x5 x6 x7 x8 x9 = some 0 := by
  unfold F14; rw [solve_none hv h0 hl]; rfl
def sumOK (x4 x5 x6 x7 x8 x9 : Int) : Bool := decide (x4 ≤ x5) && (decide (x8 ≤ x9) && (decide (x6 ≤ x7) && (decide (x8 - x5 ≤ x7) && decide (x6 ≤ x9 - x4))))
theorem sumOK_comm (x4 x5 x6 x7 x8 x9 : Int) : sumOK x6 x7 x4 x5 x8 x9 = sumOK x4 x5 x6 x7 x8 x9 := by
  unfold sumOK; rw [Bool.eq_iff_iff]; simp; omega
theorem count_zero {c x4 x5 x6 x7 x8 x9 : Int} (hv : F10 0 0 c x4 x5 x6 x7 x8 x9 = true) : F14 0 0 c x4 x5 x6 x7 x8 x9 = some (if sumOK x4 x5 x6 x7 x8 x9 = true ∧ c = 0 then 1 else 0) := by
  obtain ⟨_, _, _, h4, h5, h6, h7, h8, h9⟩ := (valid_iff _ _ _ _ _ _ _ _ _).1 hv
  unfold MM at *
  have e36 : (F36 0 0 c x4 x5 x6 x7 x8 x9).2.2 = sumOK x4 x5 x6 x7 x8 x9 := by
    unfold F36 F36__1 sumOK
    rw [wrap_i64 (x := x8 - x5) (by omega) (by omega), wrap_i64 (x := x9 - x4) (by omega) (by omega)]
    by_cases k1 : x4 > x5
    · have d : decide (x4 > x5) = true := by simpa using k1
      have d' : decide (x4 ≤ x5) = false := by simp; omega
      rw [d, d']; rfl
    · have d : decide (x4 > x5) = false := by simpa using k1
      have d' : decide (x4 ≤ x5) = true := by simp; omega
      rw [d, d']
      by_cases k2 : x8 > x9
      · have d : decide (x8 > x9) = true := by simpa using k2
        have d' : decide (x8 ≤ x9) = false := by simp; omega
        rw [d, d']; rfl
      · have d : decide (x8 > x9) = false := by simpa using k2
        have d' : decide (x8 ≤ x9) = true := by simp; omega
        rw [d, d']
        simp only [cond_false, Bool.true_and]
        rw [Bool.eq_iff_iff]
        simp only [decide_eq_true_eq, Bool.and_eq_true]
        constructor
        · intro h; split at h <;> split at h <;> omega
        · intro h; split <;> split <;> omega
  have hl : F11 0 0 c x4 x5 x6 x7 x8 x9 = some (0, 0, 0, 0, false) := by
    unfold F11; rw [valid_prog hv]; rfl
  unfold F14 F15
  rw [valid_prog hv, e36, hl]
  simp only [Option.bind_some, Bool.not_true, cond_false, beq_self_eq_true, cond_true]
  cases hs : sumOK x4 x5 x6 x7 x8 x9
  · simp
  · by_cases hc : c = 0
    · have z : (c != 0) = false := by simpa using hc
      rw [z]; simp [hc]
    · have z : (c != 0) = true := by simpa using hc
      rw [z]; simp [hc]
theorem same_size {lo hi lo' hi' k s : Int} (hs : s = 1 ∨ s = -1) (h : ∀ t, (lo' ≤ t ∧ t ≤ hi') ↔ (lo ≤ k + t * s ∧ k + t * s ≤ hi)) : (if lo' > hi' then (0 : Int) else hi' - lo' + 1) = if lo > hi then 0 else hi - lo + 1 := by
  rcases hs with rfl | rfl
  · have a1 := h lo'
    have a2 := h hi'
    have a3 := h (lo - k)
    have a4 := h (hi - k)
    simp only [Int.mul_one] at a1 a2 a3 a4
    split <;> split <;> omega
  · have a1 := h lo'
    have a2 := h hi'
    have a3 := h (k - lo)
    have a4 := h (k - hi)
    simp only [Int.mul_neg, Int.mul_one] at a1 a2 a3 a4
    split <;> split <;> omega
theorem gg_comm (a b : Int) : gg b a = gg a b := Nat.gcd_comm _ _
theorem turn_valid {a b c x4 x5 x6 x7 x8 x9 : Int} (hv : F10 a b c x4 x5 x6 x7 x8 x9 = true) : F10 b a c x6 x7 x4 x5 x8 x9 = true := by
  rw [valid_iff] at hv ⊢
  obtain ⟨h1, h2, h3, h4, h5, h6, h7, h8, h9⟩ := hv
  exact ⟨h2, h1, h3, h6, h7, h4, h5, h8, h9⟩
theorem turned {a b c x4 x5 x6 x7 x8 x9 : Int} (hv : F10 a b c x4 x5 x6 x7 x8 x9 = true) : ∃ n, F14 a b c x4 x5 x6 x7 x8 x9 = some n ∧ F14 b a c x6 x7 x4 x5 x8 x9 = some n := by
  have hv' := turn_valid hv
  obtain ⟨h1, h2, h3, h4, h5, h6, h7, h8, h9⟩ := (valid_iff _ _ _ _ _ _ _ _ _).1 hv
  by_cases h0 : a = 0 ∧ b = 0
  · obtain ⟨rfl, rfl⟩ := h0
    exact ⟨_, count_zero hv, by rw [count_zero hv', sumOK_comm]⟩
  · have h0' : a ≠ 0 ∨ b ≠ 0 := by omega
    have h0'' : b ≠ 0 ∨ a ≠ 0 := by omega
    obtain ⟨y, e, hy⟩ := all_eq hv
    obtain ⟨y', e', hy'⟩ := all_eq hv'
    rcases line_LF h1 h2 h3 hy with ⟨n1, rfl⟩ | ⟨g1, g2, X, Y, DX, DY, rfl, L, S⟩
    · rcases line_LF h2 h1 h3 hy' with ⟨n2, rfl⟩ | ⟨k1, k2, _⟩
      · exact ⟨0, count_none hv h0' e, count_none hv' h0'' e'⟩
      · rw [gg_comm] at k1 k2
        rcases n1 with n1 | n1
        · exact absurd n1 k1
        · exact absurd k2 n1
    · rcases line_LF h2 h1 h3 hy' with ⟨n2, _⟩ | ⟨k1, k2, X', Y', DX', DY', rfl, L', S'⟩
      · rw [gg_comm] at n2
        rcases n2 with n2 | n2
        · exact absurd n2 g1
        · exact absurd g2 n2
      · obtain ⟨lo, hi, es, hs⟩ := solved (a := a) (b := b) (c := c) S h4 h5 h6 h7 h8 h9
        obtain ⟨lo', hi', es', hs'⟩ := solved (a := b) (b := a) (c := c) S' h6 h7 h4 h5 h8 h9
        have bd : lo ≤ hi → lo.natAbs ≤ 4294967296 ∧ hi.natAbs ≤ 4294967296 := fun h => ⟨sol_small S h4 h5 h6 h7 ((hs lo).1 ⟨Int.le_refl _, h⟩), sol_small S h4 h5 h6 h7 ((hs hi).1 ⟨h, Int.le_refl _⟩)⟩
        have bd' : lo' ≤ hi' → lo'.natAbs ≤ 4294967296 ∧ hi'.natAbs ≤ 4294967296 := fun h => ⟨sol_small S' h6 h7 h4 h5 ((hs' lo').1 ⟨Int.le_refl _, h⟩), sol_small S' h6 h7 h4 h5 ((hs' hi').1 ⟨h, Int.le_refl _⟩)⟩
        refine ⟨_, count_line hv h0' e es bd, ?_⟩
        rw [count_line hv' h0'' e' es' bd']
        -- the two lines are one
        obtain ⟨s, s1, s2⟩ := L.prim DY' DX' (by have := L'.dir; omega)
        obtain ⟨r, r1, r2⟩ := L'.prim DY DX (by have := L.dir; omega)
        obtain ⟨k, k1, k2⟩ := L.prim (Y' - X) (X' - Y) (by
          have q1 := L.on
          have q2 := L'.on
          rw [Int.mul_sub, Int.mul_sub]; omega)
        have hsr : s = 1 ∨ s = -1 := by
          have hx : DX = r * s * DX := by rw [Int.mul_assoc, ← s1]; exact r2
          have hy : DY = r * s * DY := by rw [Int.mul_assoc, ← s2]; exact r1
          have hrs : r * s = 1 := by
            rcases L.some with h | h
            · have : (r * s) * DX = 1 * DX := by omega
              exact Int.eq_of_mul_eq_mul_right h this
            · have : (r * s) * DY = 1 * DY := by omega
              exact Int.eq_of_mul_eq_mul_right h this
          have hn : r.natAbs * s.natAbs = 1 := by rw [← Int.natAbs_mul, hrs]; rfl
          have := Nat.eq_one_of_mul_eq_one_left hn
          omega
        congr 1
        refine same_size (k := k) hsr fun t => ?_
        rw [hs', hs]
        have ex : X' + t * DX' = Y + (k + t * s) * DY := by
          have : X' = Y + k * DY := by omega
          rw [this, s2, Int.add_mul, Int.mul_assoc t s DY]; omega
        have ey : Y' + t * DY' = X + (k + t * s) * DX := by
          have : Y' = X + k * DX := by omega
          rw [this, s1, Int.add_mul, Int.mul_assoc t s DX]; omega
        have exy : X' + Y' + t * (DX' + DY') = X + Y + (k + t * s) * (DX + DY) := by
          rw [Int.mul_add, Int.mul_add]; omega
        unfold sol inD
        rw [ex, ey, exy]
        constructor
        · rintro ⟨p, q, r⟩; exact ⟨q, p, r⟩
        · rintro ⟨p, q, r⟩; exact ⟨q, p, r⟩

/-! Multiples. -/
theorem gg_mul (m a b : Int) : gg (m * a) (m * b) = m.natAbs * gg a b := by
  unfold gg; rw [Int.natAbs_mul, Int.natAbs_mul, Nat.gcd_mul_left]
theorem tdiv_scale {m x b : Int} (hm : m ≠ 0) (hb : b ≠ 0) (h : b ∣ x) : (m * x).tdiv (m * b) = x.tdiv b := by
  obtain ⟨q, rfl⟩ := h
  have hmb : m * b ≠ 0 := by
    intro h; rcases Int.mul_eq_zero.1 h with h | h
    · exact hm h
    · exact hb h
  rw [← Int.mul_assoc, Int.mul_tdiv_cancel_left _ hmb, Int.mul_tdiv_cancel_left _ hb]
theorem line_scale {a b c m : Int} (hm : m ≠ 0) (h1 : a.natAbs ≤ MM) (h2 : b.natAbs ≤ MM) (h3 : c.natAbs ≤ 2305843009213693952) (h1' : (m * a).natAbs ≤ MM) (h2' : (m * b).natAbs ≤ MM) (h3' : (m * c).natAbs ≤ 2305843009213693952)
    {y y' : Int × Int × Int × Int × Bool} (hy : Line a b c y) (hy' : Line (m * a) (m * b) (m * c) y') : y' = y := by
  have hmn : 0 < m.natAbs := Int.natAbs_pos.2 hm
  have hdv : (((m.natAbs * gg a b : Nat) : Int) ∣ m * c) ↔ ((gg a b : Int) ∣ c) := by
    rw [Int.natCast_mul]
    have key : ∀ M : Int, M ≠ 0 → (M * (gg a b : Int) ∣ M * c ↔ (gg a b : Int) ∣ c) := by
      intro M hM
      constructor
      · rintro ⟨q, hq⟩
        exact ⟨q, by rw [Int.mul_assoc] at hq; exact Int.eq_of_mul_eq_mul_left hM hq⟩
      · rintro ⟨q, hq⟩
        exact ⟨q, by rw [hq, Int.mul_assoc]⟩
    have k1 := key (m.natAbs : Int) (by omega)
    rcases Int.natAbs_eq m with hh | hh
    · generalize (m.natAbs : Int) = M at *
      rw [hh]; exact k1
    · generalize (m.natAbs : Int) = M at *
      rw [hh, Int.neg_mul, Int.dvd_neg]; exact k1
  have hz : gg (m * a) (m * b) = 0 ↔ gg a b = 0 := by
    rw [gg_mul]; constructor
    · intro h; rcases Nat.mul_eq_zero.1 h with h | h
      · omega
      · exact h
    · intro h; rw [h, Nat.mul_zero]
  unfold Line at hy hy'
  rw [gg_mul m a b] at hy'
  by_cases hno : gg a b = 0 ∨ ¬ ((gg a b : Int) ∣ c)
  · rw [if_pos hno] at hy
    rw [if_pos (by
      rcases hno with h | h
      · left; rw [h, Nat.mul_zero]
      · right; rw [hdv]; exact h)] at hy'
    rw [hy, hy']
  · rw [if_neg hno] at hy
    rw [if_neg (by
      rintro (h | h)
      · exact hno (.inl (by rw [← gg_mul] at h; exact hz.1 h))
      · rw [hdv] at h; exact hno (.inr h))] at hy'
    have hg : gg a b ≠ 0 := fun e => hno (.inl e)
    have hd : (gg a b : Int) ∣ c := Classical.byContradiction fun e => hno (.inr e)
    by_cases hb0 : b = 0
    · rw [if_pos hb0] at hy
      rw [if_pos (by rw [hb0, Int.mul_zero])] at hy'
      have ha0 : a ≠ 0 := fun e => hg (gg_zero.2 ⟨e, hb0⟩)
      have hga : (gg a b : Int) = a.natAbs := by unfold gg; rw [hb0]; simp
      rw [hga] at hd
      rw [hy, hy', tdiv_scale hm ha0 (Int.natAbs_dvd.1 hd)]
    · rw [if_neg hb0] at hy
      have hmb : m * b ≠ 0 := by
        intro h; rcases Int.mul_eq_zero.1 h with h | h
        · exact hm h
        · exact hb0 h
      rw [if_neg hmb] at hy'
      obtain ⟨X, rfl, hX0, hX1, hXd⟩ := hy
      obtain ⟨X', rfl, hX0', hX1', hXd'⟩ := hy'
      obtain ⟨f1, f2, f3, f4, f5, f6, f7, f8⟩ := line_facts (c := c) hb0 h1 h2
      have eDX : ((m * b).natAbs : Int) / ((m.natAbs * gg a b : Nat) : Int) = (b.natAbs : Int) / (gg a b : Int) := by
        rw [Int.natAbs_mul, Int.natCast_mul, Int.natCast_mul]
        exact Int.mul_ediv_mul_of_pos _ _ (by omega)
      have eDY : DYof (m * a) (m * b) = DYof a b := by
        unfold DYof
        rw [gg_mul]
        have hpos : 0 < (m.natAbs : Int) := by omega
        rcases Int.natAbs_eq m with hh | hh
        · have e1 : m * a / ((m.natAbs * gg a b : Nat) : Int) = a / (gg a b : Int) := by
            rw [Int.natCast_mul, ← hh]; exact Int.mul_ediv_mul_of_pos _ _ (by omega)
          have e2 : m * b < 0 ↔ b < 0 := by
            constructor
            · intro h
              rcases Int.lt_or_le b 0 with h' | h'
              · exact h'
              · have := Int.mul_nonneg (show 0 ≤ m by omega) h'; omega
            · intro h; exact Int.mul_neg_of_pos_of_neg (by omega) h
          rw [e1]
          by_cases hbn : b < 0
          · rw [if_pos hbn, if_pos (e2.2 hbn)]
          · rw [if_neg hbn, if_neg (fun h => hbn (e2.1 h))]
        · have e1 : m * a / ((m.natAbs * gg a b : Nat) : Int) = -(a / (gg a b : Int)) := by
            have e0 : m * a = (m.natAbs : Int) * (-a) := by rw [Int.mul_neg, ← Int.neg_mul, ← hh]
            rw [Int.natCast_mul, e0, Int.mul_ediv_mul_of_pos _ _ hpos]
            exact Int.neg_ediv_of_dvd (gg_dvd a b).1
          have e2 : m * b < 0 ↔ ¬ b < 0 := by
            constructor
            · intro h h'
              have := Int.mul_pos_of_neg_of_neg (show m < 0 by omega) h'; omega
            · intro h; exact Int.mul_neg_of_neg_of_pos (by omega) (by omega)
          rw [e1]
          by_cases hbn : b < 0
          · rw [if_pos hbn, if_neg (fun h => e2.1 h hbn)]; omega
          · rw [if_neg hbn, if_pos (e2.2 hbn)]
      rw [eDX] at hX1' ⊢
      rw [eDY]
      have hXX : X' = X := by
        -- b divides m * c - ..: both are solutions below DX
        obtain ⟨s, t, _, eg, _, _⟩ := gcd_eq a b h1 h2
        obtain ⟨q', hq'⟩ := hXd'
        have hq2 : c - a * X' = b * q' := by
          have : m * (c - a * X') = m * (b * q') := by
            rw [Int.mul_sub, ← Int.mul_assoc, ← Int.mul_assoc]; exact hq'
          exact Int.eq_of_mul_eq_mul_left hm this
        obtain ⟨q, hq⟩ := hXd
        have h0 : a * (X - X') + b * (q - q') = 0 := by rw [Int.mul_sub, Int.mul_sub]; omega
        obtain ⟨k, hk, _⟩ := prim_of eg f1 hb0 (by
          rcases Int.natAbs_eq b with hh | hh
          · left; rw [f5]; exact hh.symm
          · right; rw [f5]; omega) f8 _ _ h0
        generalize (b.natAbs : Int) / (gg a b : Int) = m' at *
        have hk0 : k = 0 := by
          rcases Int.lt_or_le k 1 with h | h
          · rcases Int.lt_or_le (-1) k with h' | h'
            · omega
            · have := Int.mul_le_mul_of_nonneg_right h' (show 0 ≤ m' by omega)
              omega
          · have := Int.mul_le_mul_of_nonneg_right h (show 0 ≤ m' by omega)
            omega
        rw [hk0, Int.zero_mul] at hk
        omega
      subst hXX
      have eY : Yof (m * a) (m * b) (m * c) X' = Yof a b c X' := by
        have haX : (a * X').natAbs ≤ 4611686018427387904 := Nat.le_trans (mul_small (x := a) (y := X') (A := 2147483648) (B := 2147483648) h1 (by clear hXd hXd'; omega)) (by decide)
        have haX' : (m * a * X').natAbs ≤ 4611686018427387904 := Nat.le_trans (mul_small (x := m * a) (y := X') (A := 2147483648) (B := 2147483648) h1' (by clear hXd hXd'; omega)) (by decide)
        unfold Yof
        rw [wrap_small haX (by decide), wrap_small haX' (by decide), small_sub h3 haX, small_sub h3' haX']
        have : m * c - m * a * X' = m * (c - a * X') := by rw [Int.mul_sub, Int.mul_assoc]
        rw [this, tdiv_scale hm hb0 hXd]
      rw [eY]
theorem scaled {a b c m x4 x5 x6 x7 x8 x9 : Int} (hm : m ≠ 0) (hv : F10 a b c x4 x5 x6 x7 x8 x9 = true) (hv' : F10 (m * a) (m * b) (m * c) x4 x5 x6 x7 x8 x9 = true) : F11 (m * a) (m * b) (m * c) x4 x5 x6 x7 x8 x9 = F11 a b c x4 x5 x6 x7 x8 x9 := by
  obtain ⟨h1, h2, h3, _⟩ := (valid_iff _ _ _ _ _ _ _ _ _).1 hv
  obtain ⟨h1', h2', h3', _⟩ := (valid_iff _ _ _ _ _ _ _ _ _).1 hv'
  obtain ⟨y, e, hy⟩ := all_eq hv
  obtain ⟨y', e', hy'⟩ := all_eq hv'
  rw [e, e', line_scale hm h1 h2 h3 h1' h2' h3' hy hy']
theorem beq_mul_zero {m a : Int} (hm : m ≠ 0) : (m * a == 0) = (a == 0) := by
  rw [Bool.eq_iff_iff]
  simp only [beq_iff_eq]
  constructor
  · intro h; rcases Int.mul_eq_zero.1 h with h | h
    · exact absurd h hm
    · exact h
  · intro h; rw [h, Int.mul_zero]
theorem solve_scaled {a b c m x4 x5 x6 x7 x8 x9 : Int} (hm : m ≠ 0) (hv : F10 a b c x4 x5 x6 x7 x8 x9 = true) (hv' : F10 (m * a) (m * b) (m * c) x4 x5 x6 x7 x8 x9 = true) : F15 (m * a) (m * b) (m * c) x4 x5 x6 x7 x8 x9 = F15 a b c x4 x5 x6 x7 x8 x9 := by
  unfold F15 F15__1
  rw [valid_prog hv, valid_prog hv', scaled hm hv hv', beq_mul_zero hm, beq_mul_zero hm, F36_any (m * a) (m * b) (m * c) a b c]
  have : (m * c != 0) = (c != 0) := by
    show (!(m * c == 0)) = !(c == 0)
    rw [beq_mul_zero hm]
  rw [this]
  simp only [F35_any (m * a) (m * b) (m * c) a b c]
theorem count_scaled {a b c m x4 x5 x6 x7 x8 x9 : Int} (hm : m ≠ 0) (hv : F10 a b c x4 x5 x6 x7 x8 x9 = true) (hv' : F10 (m * a) (m * b) (m * c) x4 x5 x6 x7 x8 x9 = true) : F14 (m * a) (m * b) (m * c) x4 x5 x6 x7 x8 x9 = F14 a b c x4 x5 x6 x7 x8 x9 := by
  unfold F14
  rw [solve_scaled hm hv hv', scaled hm hv hv']
  simp only [F35_any (m * a) (m * b) (m * c) a b c]

theorem solve_some {a b c x4 x5 x6 x7 x8 x9 : Int} (hv : F10 a b c x4 x5 x6 x7 x8 x9 = true) : ∃ r, F15 a b c x4 x5 x6 x7 x8 x9 = some r := by
  obtain ⟨n, h, _⟩ := turned hv
  unfold F14 at h
  cases hf : F15 a b c x4 x5 x6 x7 x8 x9 with
  | none => rw [hf] at h; cases h
  | some r => exact ⟨r, rfl⟩
theorem scales_law : Law Try.prog 4 10 [25, 36] := by
  refine F4_law fun a b c x4 x5 x6 x7 x8 x9 m _ _ _ _ _ _ _ _ _ hm => Yields.eq ?_
  have hm8 : -128 ≤ m ∧ m ≤ 127 := bounds_i8 hm
  unfold F4
  refine Yields.bif (fun _ => Yields.some rfl) (fun hv => ?_)
  have hv' : F10 a b c x4 x5 x6 x7 x8 x9 = true := by simpa using hv
  refine Yields.bif (fun _ => Yields.some rfl) (fun hm0 => ?_)
  have hm' : m ≠ 0 := by simpa using hm0
  obtain ⟨h1, h2, h3, _⟩ := (valid_iff _ _ _ _ _ _ _ _ _).1 hv'
  obtain ⟨n, e1, e2⟩ := turned hv'
  refine Yields.bindE e2 ?_
  refine Yields.bindE e1 ?_
  simp only [bne_self_eq_false, cond_false]
  refine Yields.bif (fun _ => Yields.some rfl) (fun hc => ?_)
  have hc' : c.natAbs ≤ 1125899906842624 := by
    have k : ¬ F13 c > 1125899906842624 := by simpa using hc
    unfold F13 at k
    by_cases hn : c < 0
    · have d : decide (c < 0) = true := by simpa using hn
      rw [d] at k
      simp only [cond_true] at k
      rw [wrap_i64 (by omega) (by omega)] at k
      omega
    · have d : decide (c < 0) = false := by simpa using hn
      rw [d] at k
      simp only [cond_false] at k
      omega
  have wm : IntKind.i64.wrap m = m := wrap_i64 (by omega) (by omega)
  have wa : IntKind.i64.wrap (m * a) = m * a := wrap_small (mul_small (x := m) (A := 128) (by omega) h1) (by decide)
  have wb : IntKind.i64.wrap (m * b) = m * b := wrap_small (mul_small (x := m) (A := 128) (by omega) h2) (by decide)
  have wc : IntKind.i64.wrap (m * c) = m * c := wrap_small (mul_small (x := m) (A := 128) (by omega) hc') (by decide)
  unfold F4__1
  rw [wm, wa, wb, wc]
  refine Yields.bif (fun _ => Yields.some rfl) (fun hw => ?_)
  have hw' : F10 (m * a) (m * b) (m * c) x4 x5 x6 x7 x8 x9 = true := by simpa using hw
  obtain ⟨r, er⟩ := solve_some hv'
  refine Yields.bindE er ?_
  refine Yields.bindE ((solve_scaled hm' hv' hw').trans er) ?_
  simp only [beq_self_eq_true, cond_true]
  refine Yields.bindE ((count_scaled hm' hv' hw').trans e1) ?_
  refine Yields.bindE e1 ?_
  exact Yields.some (by simp)
end Go.Proofs.Ytdbkalephkgniaa.Abs
