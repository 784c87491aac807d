/- The law of the lines of solutions, in plain numbers. -/
import Derived.Test.YtdbkalephkgniaaVw
import Derived.Test.YtdbkalephkgniaaDl
namespace Go.Proofs.Ytdbkalephkgniaa.Abs
open Go
set_option linter.unusedVariables false
set_option linter.unusedSimpArgs false

/-- What holds at each round: M bounds a and b. -/
structure GInv (M : Nat) (a b g s t h u v : Int) : Prop where
  eg : g = s * a + t * b
  eh : h = u * a + v * b
  gc : Nat.gcd g.natAbs h.natAbs = Nat.gcd a.natAbs b.natAbs
  mu : u.natAbs * g.natAbs + s.natAbs * h.natAbs ≤ M
  mv : v.natAbs * g.natAbs + t.natAbs * h.natAbs ≤ M
  bg : g.natAbs ≤ M
  bh : h.natAbs ≤ M
  bs : s.natAbs ≤ M
  bt : t.natAbs ≤ M
  bu : u.natAbs ≤ M
  bv : v.natAbs ≤ M

theorem GInv.start (M : Nat) (a b : Int) (h1 : 1 ≤ M) (ha : a.natAbs ≤ M) (hb : b.natAbs ≤ M) : GInv M a b a 1 0 b 0 1 :=
  ⟨by omega, by omega, rfl, by simpa using hb, by simpa using ha, ha, hb, by simpa using h1, by simp, by simp, by simpa using h1⟩

theorem quo_le (g h : Int) (hh : h ≠ 0) : (g.tdiv h).natAbs ≤ g.natAbs := by
  rw [Int.natAbs_tdiv]; exact Nat.div_le_self _ _
theorem quo_mul (g h : Int) : ((g.tdiv h) * h).natAbs ≤ g.natAbs := by
  rw [Int.natAbs_mul, Int.natAbs_tdiv]; exact Nat.div_mul_le_self _ _
theorem quo_rest (g h : Int) : g - (g.tdiv h) * h = g.tmod h := by
  rw [Int.tmod_def, Int.mul_comm]
theorem quo_u {M : Nat} (g h u : Int) (x : Nat) (m : u.natAbs * g.natAbs + x ≤ M) : ((g.tdiv h) * u).natAbs ≤ M := by
  have h1 : (g.natAbs / h.natAbs) * u.natAbs ≤ g.natAbs * u.natAbs := Nat.mul_le_mul_right _ (Nat.div_le_self _ _)
  rw [Int.natAbs_mul, Int.natAbs_tdiv]
  have h2 : g.natAbs * u.natAbs = u.natAbs * g.natAbs := Nat.mul_comm _ _
  show (g.natAbs / h.natAbs) * u.natAbs ≤ M
  generalize u.natAbs * g.natAbs = y at *
  generalize (g.natAbs / h.natAbs) * u.natAbs = z at *
  generalize g.natAbs * u.natAbs = y' at *
  omega
theorem step_bd {M : Nat} (g h s u : Int) (hh : h ≠ 0) (m : u.natAbs * g.natAbs + s.natAbs * h.natAbs ≤ M) :
    (s - (g.tdiv h) * u).natAbs * h.natAbs + u.natAbs * (g.tmod h).natAbs ≤ M := by
  have h1 : (s - (g.tdiv h) * u).natAbs ≤ s.natAbs + (g.natAbs / h.natAbs) * u.natAbs := by
    have := Int.natAbs_sub_le s ((g.tdiv h) * u)
    rwa [Int.natAbs_mul, Int.natAbs_tdiv] at this
  rw [Int.natAbs_tmod]
  generalize g.natAbs = G at *
  generalize h.natAbs = K at *
  generalize u.natAbs = U at *
  generalize s.natAbs = S at *
  have h2 := Nat.mul_le_mul_right K h1
  have h3 : (S + G / K * U) * K + U * (G % K) = U * G + S * K := by
    have e := Nat.div_add_mod G K
    calc (S + G / K * U) * K + U * (G % K) = S * K + U * (K * (G / K) + G % K) := by
          rw [Nat.add_mul, Nat.mul_add, Nat.add_assoc]
          congr 2
          rw [Nat.mul_comm (G / K) U, Nat.mul_assoc, Nat.mul_comm (G / K) K]
      _ = U * G + S * K := by rw [e, Nat.add_comm]
  omega
theorem GInv.step {M : Nat} {a b g s t h u v : Int} (H : GInv M a b g s t h u v) (hh : h ≠ 0) :
    GInv M a b h u v (g - (g.tdiv h) * h) (s - (g.tdiv h) * u) (t - (g.tdiv h) * v) := by
  have m1 := step_bd g h s u hh H.mu
  have m2 := step_bd g h t v hh H.mv
  have hp : 1 ≤ h.natAbs := by omega
  have l1 : (s - (g.tdiv h) * u).natAbs ≤ M := by
    have := Nat.mul_le_mul_left (s - (g.tdiv h) * u).natAbs hp
    omega
  have l2 : (t - (g.tdiv h) * v).natAbs ≤ M := by
    have := Nat.mul_le_mul_left (t - (g.tdiv h) * v).natAbs hp
    omega
  have r1 : (g.tmod h).natAbs ≤ M := by
    rw [Int.natAbs_tmod]
    exact Nat.le_trans (Nat.mod_le _ _) H.bg
  refine ⟨H.eh, ?_, ?_, ?_, ?_, H.bh, ?_, H.bu, H.bv, l1, l2⟩
  · have e1 := H.eg
    have e2 := H.eh
    generalize g.tdiv h = q
    rw [Int.sub_mul, Int.sub_mul, Int.mul_assoc, Int.mul_assoc]
    have : q * h = q * (u * a) + q * (v * b) := by rw [e2, Int.mul_add]
    omega
  · rw [quo_rest, Int.natAbs_tmod, ← H.gc, Nat.gcd_comm h.natAbs, ← Nat.gcd_rec, Nat.gcd_comm]
  · rw [quo_rest]; exact m1
  · rw [quo_rest]; exact m2
  · rw [quo_rest]; exact r1
theorem GInv.less {M : Nat} {a b g s t h u v : Int} (H : GInv M a b g s t h u v) (hh : h ≠ 0) : (g - (g.tdiv h) * h).natAbs < h.natAbs := by
  rw [quo_rest, Int.natAbs_tmod]; exact Nat.mod_lt _ (by omega)

def Nm {Z τ : Type} (m : Nat) (I : Z → Prop) (μ : Z → Nat) (R : τ → Prop) : Z ⊕ τ → Prop
  | .inl z => I z ∧ μ z < m
  | .inr t => R t
theorem Yields.while {Z τ : Type} {step : Z → Option (Z ⊕ τ)} {R : τ → Prop} (I : Z → Prop) (μ : Z → Nat) {z : Z} (h0 : I z) (h : ∀ z, I z → Yields (Nm (μ z) I μ R) (step z)) : Yields R (loopO step z) := by
  obtain ⟨t, e, r⟩ := loopO_ind I μ R (fun s hs => by
    obtain ⟨o, e, p⟩ := h s hs
    cases o with
    | inl z' => exact .inl ⟨z', e, p.1, p.2⟩
    | inr t => exact .inr ⟨t, e, p⟩) h0
  exact ⟨t, e, r⟩
theorem wrap_add (x y : Int) : IntKind.i64.wrap (IntKind.i64.wrap x + IntKind.i64.wrap y) = IntKind.i64.wrap (x + y) := by
  unfold IntKind.wrap; simp [IntKind.signed, IntKind.bits, Int.bmod_def]; omega
theorem wrap_small {x : Int} {M : Nat} (h : x.natAbs ≤ M) (hM : M ≤ 9223372036854775807) : IntKind.i64.wrap x = x := wrap_i64 (by omega) (by omega)
theorem mul_small {x y : Int} {A B : Nat} (hx : x.natAbs ≤ A) (hy : y.natAbs ≤ B) : (x * y).natAbs ≤ A * B := by
  rw [Int.natAbs_mul]; exact Nat.mul_le_mul hx hy
def gg (a b : Int) : Nat := Nat.gcd a.natAbs b.natAbs
def MM : Nat := 2147483648
theorem gcd_eq (a b : Int) (ha : a.natAbs ≤ MM) (hb : b.natAbs ≤ MM) : ∃ s t : Int, F33 a b = some ((gg a b : Int), s, t) ∧ (gg a b : Int) = s * a + t * b ∧ s.natAbs ≤ MM ∧ t.natAbs ≤ MM := by
  have key : Yields (fun (r : Int × Int × Int) => r.1 = r.2.1 * a + r.2.2 * b ∧ r.1.natAbs = gg a b ∧ r.2.1.natAbs ≤ MM ∧ r.2.2.natAbs ≤ MM) (loopO (fun (s : Int × Int × Int × Int × Int × Int) => F33_s1 s.1 s.2.1 s.2.2.1 s.2.2.2.1 s.2.2.2.2.1 s.2.2.2.2.2) ((F33__1 a), 1, 0, (F33__2 b), 0, 1)) := by
    have e1 : F33__1 a = a := by unfold F33__1; unfold MM at ha; (repeat' split) <;> omega
    have e2 : F33__2 b = b := by unfold F33__2; unfold MM at hb; (repeat' split) <;> omega
    rw [e1, e2]
    refine Yields.while (fun (z : Int × Int × Int × Int × Int × Int) => GInv MM a b z.1 z.2.1 z.2.2.1 z.2.2.2.1 z.2.2.2.2.1 z.2.2.2.2.2) (fun z => z.2.2.2.1.natAbs) (GInv.start MM a b (by decide) ha hb) ?_
    rintro ⟨g, s, t, h, u, v⟩ H
    simp only at H ⊢
    unfold F33_s1
    refine Yields.bif (fun c => ?_) (fun c => ?_)
    · have hh : h ≠ 0 := by simpa using c
      have hM : MM ≤ 9223372036854775807 := by decide
      have hs := H.step hh
      have q1 : IntKind.i64.wrap (g.tdiv h) = g.tdiv h := wrap_small (Nat.le_trans (quo_le g h hh) H.bg) hM
      have q2 : IntKind.i64.wrap (g.tdiv h * h) = g.tdiv h * h := wrap_small (Nat.le_trans (quo_mul g h) H.bg) hM
      have q3 : IntKind.i64.wrap (g.tdiv h * u) = g.tdiv h * u := wrap_small (quo_u g h u _ H.mu) hM
      have q4 : IntKind.i64.wrap (g.tdiv h * v) = g.tdiv h * v := wrap_small (quo_u g h v _ H.mv) hM
      rw [q1, q2, q3, q4, wrap_small hs.bh hM, wrap_small hs.bu hM, wrap_small hs.bv hM]
      exact Yields.some ⟨hs, H.less hh⟩
    · have hh : h = 0 := by simpa using c
      subst hh
      refine Yields.some ⟨H.eg, ?_, H.bs, H.bt⟩
      have := H.gc
      simpa [gg] using this
  obtain ⟨⟨g, s, t⟩, e, h1, h2, h3, h4⟩ := key
  simp only at h1 h2 h3 h4
  unfold F33
  rw [e]
  simp only [Option.bind_some]
  have hM : MM ≤ 9223372036854775807 := by decide
  have hgM : gg a b ≤ MM ∨ True := .inr trivial
  by_cases hneg : g < 0
  · have d : decide (g < 0) = true := by simpa using hneg
    rw [d]
    have hgb : g.natAbs ≤ MM := by
      rw [h2]; unfold gg
      rcases Nat.eq_zero_or_pos a.natAbs with hz | hz
      · rw [hz, Nat.gcd_zero_left]; exact hb
      · exact Nat.le_trans (Nat.gcd_le_left _ hz) ha
    have w1 : IntKind.i64.wrap (0 - g) = -g := by rw [Int.zero_sub]; exact wrap_small (by rw [Int.natAbs_neg]; exact hgb) hM
    have w2 : IntKind.i64.wrap (0 - s) = -s := by rw [Int.zero_sub]; exact wrap_small (by rw [Int.natAbs_neg]; exact h3) hM
    have w3 : IntKind.i64.wrap (0 - t) = -t := by rw [Int.zero_sub]; exact wrap_small (by rw [Int.natAbs_neg]; exact h4) hM
    rw [w1, w2, w3]
    have z : ((-g) == 0) = false := beq_eq_false_iff_ne.2 (by omega)
    rw [z]
    simp only [cond_true, cond_false]
    have eg : (gg a b : Int) = -g := by omega
    exact ⟨-s, -t, by rw [eg], by rw [eg, h1, Int.neg_mul, Int.neg_mul]; omega, by rw [Int.natAbs_neg]; exact h3, by rw [Int.natAbs_neg]; exact h4⟩
  · have d : decide (g < 0) = false := by simpa using hneg
    rw [d]
    simp only [cond_false]
    by_cases hz : g = 0
    · subst hz
      have e0 : (gg a b : Int) = 0 := by omega
      exact ⟨0, 0, by rw [e0]; rfl, by rw [e0]; omega, by decide, by decide⟩
    · have z : (g == 0) = false := beq_eq_false_iff_ne.2 hz
      rw [z]
      have eg : (gg a b : Int) = g := by omega
      exact ⟨s, t, by rw [eg]; rfl, by rw [eg]; exact h1, h3, h4⟩
theorem abs_eq (a : Int) (ha : a.natAbs ≤ MM) : F13 a = a.natAbs := by
  unfold MM at ha
  unfold F13
  by_cases h : a < 0
  · have d : decide (a < 0) = true := by simpa using h
    rw [d]
    simp only [cond_true]
    rw [wrap_i64 (by omega) (by omega)]; omega
  · have d : decide (a < 0) = false := by simpa using h
    rw [d]
    simp only [cond_false]; omega
theorem refgcd_eq (a b : Int) (ha : a.natAbs ≤ MM) (hb : b.natAbs ≤ MM) : F12 a b = some (gg a b : Int) := by
  refine Yields.eq ?_
  unfold F12
  rw [abs_eq a ha, abs_eq b hb]
  refine Yields.bind (P := fun t => t = (gg a b : Int)) (Yields.while (fun (z : Int × Int) => 0 ≤ z.1 ∧ 0 ≤ z.2 ∧ Nat.gcd z.1.natAbs z.2.natAbs = gg a b) (fun z => z.2.natAbs) ⟨by simp only; omega, by simp only; omega, by simp [gg]⟩ ?_) (fun y h => Yields.some h)
  rintro ⟨x, y⟩ ⟨hx, hy, hg⟩
  simp only at hx hy hg ⊢
  unfold F12_s1
  refine Yields.bif (fun c => ?_) (fun c => ?_)
  · have hh : y ≠ 0 := by simpa using c
    refine Yields.some ⟨⟨hy, Int.tmod_nonneg y hx, ?_⟩, ?_⟩
    · simp only
      rw [Int.natAbs_tmod, ← hg, Nat.gcd_comm y.natAbs, ← Nat.gcd_rec, Nat.gcd_comm]
    · simp only
      rw [Int.natAbs_tmod]; exact Nat.mod_lt _ (by omega)
  · have hh : y = 0 := by simpa using c
    subst hh
    refine Yields.some ?_
    show x = _
    simp at hg; omega
theorem rem_eq {x m : Int} (hm : 0 < m) (hm2 : m ≤ 2147483648) : F34 x m = some (x % m) := by
  have g2 := Int.emod_lt_of_pos x hm
  have g1 := Int.emod_nonneg x (show m ≠ 0 by omega)
  have tf : (if x.tmod m < 0 then x.tmod m + m else x.tmod m) = x % m := by
    rcases Int.lt_or_le x 0 with hx | hx
    · have e : x.tmod m = -((-x) % m) := by
        rw [← Int.tmod_eq_emod_of_nonneg (by omega : 0 ≤ -x), Int.neg_tmod]; omega
      have g1 := Int.emod_nonneg (-x) (show m ≠ 0 by omega)
      have g2 := Int.emod_lt_of_pos (-x) hm
      rw [e]
      by_cases hz : (-x) % m = 0
      · rw [hz]; simp
        exact (Int.emod_eq_zero_of_dvd (Int.dvd_neg.1 (Int.dvd_of_emod_eq_zero hz))).symm
      · rw [if_pos (by omega)]
        have q := Int.mul_ediv_add_emod (-x) m
        generalize hr : (-x) % m = r at *
        generalize (-x) / m = d at *
        have ex : x = (m - r) + m * (-d - 1) := by rw [Int.mul_sub, Int.mul_neg]; omega
        rw [ex, Int.add_mul_emod_self_left, Int.emod_eq_of_lt (by omega) (by omega)]
        omega
    · rw [Int.tmod_eq_emod_of_nonneg hx]
      rw [if_neg (by omega)]
  refine Yields.eq ?_
  unfold F34
  have z : (m == 0) = false := beq_eq_false_iff_ne.2 (by omega)
  rw [z]
  simp only [cond_false]
  refine Yields.bif (fun e => ?_) (fun e => ?_)
  · have e' : x.tmod m < 0 := by simpa using e
    rw [if_pos e'] at tf
    refine Yields.some ?_
    rw [tf, wrap_i64 (by omega) (by omega)]
  · have e' : ¬ x.tmod m < 0 := by simpa using e
    rw [if_neg e'] at tf
    exact Yields.some tf
theorem w_most : IntKind.i64.wrap (0 - 2147483648) = -2147483648 := by decide
theorem w_big : IntKind.i64.wrap (0 - 2305843009213693952) = -2305843009213693952 := by decide
theorem within_iff (x : Int) : F32 x 2147483648 = true ↔ x.natAbs ≤ MM := by
  unfold F32 MM; rw [w_most]; simp; omega
theorem within_big (x : Int) : F32 x 2305843009213693952 = true ↔ x.natAbs ≤ 2305843009213693952 := by
  unfold F32; rw [w_big]; simp; omega
theorem valid_iff (x1 x2 x3 x4 x5 x6 x7 x8 x9 : Int) : F10 x1 x2 x3 x4 x5 x6 x7 x8 x9 = true ↔ (x1.natAbs ≤ MM ∧ x2.natAbs ≤ MM ∧ x3.natAbs ≤ 2305843009213693952 ∧ x4.natAbs ≤ MM ∧ x5.natAbs ≤ MM ∧ x6.natAbs ≤ MM ∧ x7.natAbs ≤ MM ∧ x8.natAbs ≤ MM ∧ x9.natAbs ≤ MM) := by
  unfold F10
  simp only [← within_iff, ← within_big]
  cases F32 x1 2147483648 <;> cases F32 x2 2147483648 <;> cases F32 x3 2305843009213693952 <;> cases F32 x4 2147483648 <;> cases F32 x5 2147483648 <;> cases F32 x6 2147483648 <;> cases F32 x7 2147483648 <;> cases F32 x8 2147483648 <;> simp
theorem valid_prog {x1 x2 x3 x4 x5 x6 x7 x8 x9 : Int} (h : F10 x1 x2 x3 x4 x5 x6 x7 x8 x9 = true) : F31 x1 x2 x3 x4 x5 x6 x7 x8 x9 = some true := by
  obtain ⟨h1, h2, h3, h4, h5, h6, h7, h8, h9⟩ := (valid_iff _ _ _ _ _ _ _ _ _).1 h
  rw [← within_iff] at h1 h2 h4 h5 h6 h7 h8 h9
  rw [← within_big] at h3
  unfold F31
  rw [loop_forall (n := 8) (by decide) (fun i => F32 (([x1, x2, x4, x5, x6, x7, x8, x9] : List Int).getD i 0) 2147483648) (by
    intro i hi
    unfold F31_s1
    have hd : decide ((i : Int) < 8) = true := by simp; omega
    rw [hd, in_range (n := 8) (by omega) (by omega)]
    simp only [cond_true, Bool.not_true, cond_false, Int.toNat_natCast]
    show (bif !(F32 (([x1, x2, x4, x5, x6, x7, x8, x9] : List Int).getD i 0) 2147483648) then _ else _) = _
    cases F32 (([x1, x2, x4, x5, x6, x7, x8, x9] : List Int).getD i 0) 2147483648 <;> rfl) rfl]
  have hall : ((List.range 8).all fun i => F32 (([x1, x2, x4, x5, x6, x7, x8, x9] : List Int).getD i 0) 2147483648) = true := by
    rw [List.all_eq_true]
    intro i hi
    have := List.mem_range.1 hi
    rcases (by omega : i = 0 ∨ i = 1 ∨ i = 2 ∨ i = 3 ∨ i = 4 ∨ i = 5 ∨ i = 6 ∨ i = 7) with h | h | h | h | h | h | h | h <;> subst h <;> assumption
  rw [if_pos hall]
  show some (F32 x3 2305843009213693952) = _
  rw [h3]

def DYof (a b : Int) : Int := if b < 0 then a / (gg a b : Int) else -(a / (gg a b : Int))
def Yof (a b c X : Int) : Int := IntKind.i64.wrap ((IntKind.i64.wrap (c - IntKind.i64.wrap (a * X))).tdiv b)
/-- What All answers. -/
def Line (a b c : Int) (y : Int × Int × Int × Int × Bool) : Prop :=
  if gg a b = 0 ∨ ¬ ((gg a b : Int) ∣ c) then y = (0, 0, 0, 0, false)
  else if b = 0 then y = (IntKind.i64.wrap (c.tdiv a), 0, 0, 1, true)
  else ∃ X, y = (X, Yof a b c X, (b.natAbs : Int) / (gg a b : Int), DYof a b, true) ∧ 0 ≤ X ∧ X < (b.natAbs : Int) / (gg a b : Int) ∧ b ∣ c - a * X
theorem gg_dvd (a b : Int) : (gg a b : Int) ∣ a ∧ (gg a b : Int) ∣ b := ⟨Int.gcd_dvd_left .., Int.gcd_dvd_right ..⟩
theorem gg_zero {a b : Int} : gg a b = 0 ↔ a = 0 ∧ b = 0 := by
  unfold gg; rw [Nat.gcd_eq_zero_iff]; omega
/-- The facts about a line with b other than 0. -/
theorem line_facts {a b c : Int} (hb0 : b ≠ 0) (ha : a.natAbs ≤ MM) (hb : b.natAbs ≤ MM) :
    0 < (gg a b : Int) ∧ (gg a b : Int) ≤ 2147483648 ∧ 0 < (b.natAbs : Int) / (gg a b : Int) ∧ (b.natAbs : Int) / (gg a b : Int) ≤ 2147483648 ∧ (gg a b : Int) * ((b.natAbs : Int) / (gg a b : Int)) = b.natAbs ∧ (gg a b : Int) * (a / (gg a b : Int)) = a ∧ (a / (gg a b : Int)).natAbs ≤ MM ∧ a * ((b.natAbs : Int) / (gg a b : Int)) + b * DYof a b = 0 := by
  have hg0 : 0 < gg a b := Nat.pos_of_ne_zero fun h => hb0 (gg_zero.1 h).2
  obtain ⟨d1, d2⟩ := gg_dvd a b
  have hle : gg a b ≤ b.natAbs := Nat.le_of_dvd (by omega) (Int.natAbs_dvd_natAbs.2 d2)
  have d3 : (gg a b : Int) ∣ (b.natAbs : Int) := Int.dvd_natAbs.2 d2
  have e1 : (gg a b : Int) * ((b.natAbs : Int) / (gg a b : Int)) = b.natAbs := Int.mul_ediv_cancel' d3
  have e2 : (gg a b : Int) * (a / (gg a b : Int)) = a := Int.mul_ediv_cancel' d1
  have hm : 0 < (b.natAbs : Int) / (gg a b : Int) := by
    rcases Int.lt_or_le 0 ((b.natAbs : Int) / (gg a b : Int)) with h | h
    · exact h
    · have := Int.mul_nonpos_of_nonneg_of_nonpos (show (0 : Int) ≤ (gg a b : Int) by omega) h
      omega
  have hm2 : (b.natAbs : Int) / (gg a b : Int) ≤ (b.natAbs : Int) := Int.ediv_le_self _ (by omega)
  have hq : (a / (gg a b : Int)).natAbs ≤ a.natAbs := by
    have : a.natAbs = (gg a b) * (a / (gg a b : Int)).natAbs := by
      conv => lhs; rw [← e2]
      rw [Int.natAbs_mul, Int.natAbs_natCast]
    rw [this]; exact Nat.le_mul_of_pos_left _ hg0
  unfold MM at *
  refine ⟨by omega, by omega, hm, by omega, e1, e2, by omega, ?_⟩
  generalize hgv : (gg a b : Int) = g at *
  generalize hmv : (b.natAbs : Int) / g = m at *
  generalize hav : a / g = a' at *
  unfold DYof
  rw [hgv, hav]
  by_cases hbn : b < 0
  · rw [if_pos hbn]
    have eb : b = -(g * m) := by omega
    rw [eb, ← e2, Int.neg_mul, Int.mul_right_comm g m a', Int.mul_right_comm]; omega
  · rw [if_neg hbn]
    have eb : b = g * m := by omega
    rw [eb, ← e2, Int.mul_neg, Int.mul_right_comm g m a']; omega
theorem solve_dvd {a b c g s t c' m q X : Int} (e : g = s * a + t * b) (ec : c = g * c') (em : g * m = b ∨ g * m = -b) (hga : g ∣ a) (hX : X = s * c' - m * q) : b ∣ c - a * X := by
  obtain ⟨a', ha⟩ := hga
  have : c - a * X = b * (t * c') + a' * q * (g * m) := by
    rw [ec, hX, Int.mul_sub]
    have h1 : g * c' = s * a * c' + t * b * c' := by rw [e, Int.add_mul]
    have h2 : a * (s * c') = s * a * c' := by rw [← Int.mul_assoc, Int.mul_comm a s]
    have h3 : t * b * c' = b * (t * c') := by rw [Int.mul_comm t b, Int.mul_assoc]
    have h4 : a * (m * q) = a' * q * (g * m) := by
      rw [ha]
      rw [Int.mul_comm g a', Int.mul_assoc a' g (m * q), Int.mul_assoc a' q (g * m)]
      congr 1
      rw [← Int.mul_assoc, Int.mul_comm (g * m) q]
    rw [h1, h2, h3, h4]; omega
  rw [this]
  refine Int.dvd_add (Int.dvd_mul_right _ _) ?_
  rcases em with em | em
  · rw [em]; exact Int.dvd_mul_left _ _
  · rw [em]; exact Int.dvd_trans (Int.dvd_neg.2 (Int.dvd_refl b)) (Int.dvd_mul_left _ _)
theorem abs_text (b : Int) (hb : b.natAbs ≤ MM) : (if IntKind.i64.wrap (0 - b) > b then IntKind.i64.wrap (0 - b) else b) = (b.natAbs : Int) := by
  unfold MM at hb
  rw [wrap_i64 (by omega) (by omega)]
  split <;> omega
theorem dy_text (a b : Int) (ha : a.natAbs ≤ MM) (hb0 : b ≠ 0) (hb : b.natAbs ≤ MM) : (b < 0 → IntKind.i64.wrap (a.tdiv (gg a b : Int)) = DYof a b) ∧ (¬ b < 0 → IntKind.i64.wrap ((IntKind.i64.wrap (0 - a)).tdiv (gg a b : Int)) = DYof a b) := by
  obtain ⟨f1, f2, f3, f4, f5, f6, f7, f8⟩ := line_facts (c := 0) hb0 ha hb
  obtain ⟨d1, d2⟩ := gg_dvd a b
  unfold MM at ha f7
  have w : IntKind.i64.wrap (0 - a) = -a := by rw [Int.zero_sub]; exact wrap_i64 (by omega) (by omega)
  rw [w, Int.neg_tdiv, Int.tdiv_eq_ediv_of_dvd d1]
  unfold DYof
  constructor
  · intro h; rw [if_pos h]; exact wrap_i64 (by omega) (by omega)
  · intro h; rw [if_neg h]; exact wrap_i64 (by omega) (by omega)
theorem all_eq {a b c x4 x5 x6 x7 x8 x9 : Int} (hv : F10 a b c x4 x5 x6 x7 x8 x9 = true) : Yields (Line a b c) (F11 a b c x4 x5 x6 x7 x8 x9) := by
  obtain ⟨ha, hb, hc, _⟩ := (valid_iff _ _ _ _ _ _ _ _ _).1 hv
  unfold F11
  refine Yields.bindE (valid_prog hv) ?_
  simp only [Bool.not_true, cond_false]
  obtain ⟨s, t, e33, eg, hs, ht⟩ := gcd_eq a b ha hb
  -- the general case
  have gen : gg a b ≠ 0 → (gg a b : Int) ∣ c → b ≠ 0 → Yields (Line a b c) (Option.bind (F34 s (F11__1 b ((gg a b : Int), s, t))) fun y19 =>
      (Option.bind (F34 (IntKind.i64.wrap (c.tdiv (gg a b : Int))) (F11__1 b ((gg a b : Int), s, t))) fun y21 =>
      (Option.bind (F34 (IntKind.i64.wrap (y19 * y21)) (F11__1 b ((gg a b : Int), s, t))) fun y23 =>
      (bif decide (b < 0) then
       some (y23, (IntKind.i64.wrap ((IntKind.i64.wrap (c - (IntKind.i64.wrap (a * y23)))).tdiv b)), (F11__1 b ((gg a b : Int), s, t)), (IntKind.i64.wrap (a.tdiv (gg a b : Int))), true)
      else
       some (y23, (IntKind.i64.wrap ((IntKind.i64.wrap (c - (IntKind.i64.wrap (a * y23)))).tdiv b)), (F11__1 b ((gg a b : Int), s, t)), (IntKind.i64.wrap ((IntKind.i64.wrap (0 - a)).tdiv (gg a b : Int))), true))))) := by
    intro hg0 hdc hb0
    obtain ⟨f1, f2, f3, f4, f5, f6, f7, f8⟩ := line_facts (c := c) hb0 ha hb
    have em : F11__1 b ((gg a b : Int), s, t) = (b.natAbs : Int) / (gg a b : Int) := by
      unfold F11__1
      dsimp only
      rw [abs_text b hb, Int.tdiv_eq_ediv_of_nonneg (by omega)]
      exact wrap_i64 (by omega) (by omega)
    rw [em]
    have hL : ∀ X, Line a b c (X, Yof a b c X, (b.natAbs : Int) / (gg a b : Int), DYof a b, true) ↔ (0 ≤ X ∧ X < (b.natAbs : Int) / (gg a b : Int) ∧ b ∣ c - a * X) := by
      intro X
      unfold Line
      rw [if_neg (by rintro (h | h); exact hg0 h; exact h hdc), if_neg hb0]
      constructor
      · rintro ⟨X', e, h⟩; cases e; exact h
      · intro h; exact ⟨X, rfl, h⟩
    obtain ⟨dy1, dy2⟩ := dy_text a b ha hb0 hb
    refine Yields.bindE (rem_eq f3 f4) ?_
    refine Yields.bindE (rem_eq f3 f4) ?_
    refine Yields.bindE (rem_eq f3 f4) ?_
    obtain ⟨c', hc'⟩ := hdc
    have ec' : c.tdiv (gg a b : Int) = c' := by rw [hc']; exact Int.mul_tdiv_cancel_left _ (by omega)
    have hcb : c'.natAbs ≤ 2305843009213693952 := by
      have : c.natAbs = gg a b * c'.natAbs := by rw [hc', Int.natAbs_mul, Int.natAbs_natCast]
      have := Nat.le_mul_of_pos_left c'.natAbs (show 0 < gg a b by omega)
      omega
    rw [ec', wrap_i64 (x := c') (by omega) (by omega)]
    generalize hmv : (b.natAbs : Int) / (gg a b : Int) = m at *
    have p1 := Int.emod_nonneg s (show m ≠ 0 by omega)
    have p2 := Int.emod_lt_of_pos s f3
    have p3 := Int.emod_nonneg c' (show m ≠ 0 by omega)
    have p4 := Int.emod_lt_of_pos c' f3
    have pw : IntKind.i64.wrap (s % m * (c' % m)) = s % m * (c' % m) := by
      have := mul_small (x := s % m) (y := c' % m) (A := 2147483648) (B := 2147483648) (by omega) (by omega)
      exact wrap_small this (by omega)
    rw [pw, ← Int.mul_emod]
    have q1 := Int.emod_nonneg (s * c') (show m ≠ 0 by omega)
    have q2 := Int.emod_lt_of_pos (s * c') f3
    have hX : (s * c') % m = s * c' - m * ((s * c') / m) := by have := Int.mul_ediv_add_emod (s * c') m; omega
    have hdv : b ∣ c - a * ((s * c') % m) := solve_dvd eg hc' (by rcases Int.natAbs_eq b with h | h <;> omega) (gg_dvd a b).1 hX
    refine Yields.bif (fun e => ?_) (fun e => ?_)
    · rw [dy1 (by simpa using e)]
      exact Yields.some ((hL _).2 ⟨q1, q2, hdv⟩)
    · rw [dy2 (by simpa using e)]
      exact Yields.some ((hL _).2 ⟨q1, q2, hdv⟩)
  have nod : ¬ ((gg a b : Int) ∣ c) → Line a b c (0, 0, 0, 0, false) := fun h => by unfold Line; rw [if_pos (.inr h)]
  have tz : (c.tmod (gg a b : Int) != 0) = true ↔ ¬ ((gg a b : Int) ∣ c) := by
    rw [bne_iff_ne, ne_eq, Int.dvd_iff_tmod_eq_zero]
  refine Yields.bif (fun c1 => ?_) (fun c1 => ?_)
  · have ha0 : a = 0 := by simpa using c1
    refine Yields.bif (fun c2 => ?_) (fun c2 => ?_)
    · have hb0 : b = 0 := by simpa using c2
      refine Yields.some ?_
      unfold Line
      rw [if_pos (.inl (gg_zero.2 ⟨ha0, hb0⟩))]
    · have hb0 : b ≠ 0 := by simpa using c2
      have hg0 : gg a b ≠ 0 := fun h => hb0 (gg_zero.1 h).2
      refine Yields.bindE e33 ?_
      have z : ((gg a b : Int) == 0) = false := beq_eq_false_iff_ne.2 (by omega)
      simp only [z, cond_false]
      refine Yields.bif (fun c3 => ?_) (fun c3 => ?_)
      · exact Yields.some (nod (tz.1 c3))
      · have hd : (gg a b : Int) ∣ c := Classical.byContradiction fun h => by have := tz.2 h; rw [c3] at this; cases this
        exact gen hg0 hd hb0
  · have ha0 : a ≠ 0 := by simpa using c1
    have hg0 : gg a b ≠ 0 := fun h => ha0 (gg_zero.1 h).1
    refine Yields.bindE e33 ?_
    have z : ((gg a b : Int) == 0) = false := beq_eq_false_iff_ne.2 (by omega)
    simp only [z, cond_false]
    refine Yields.bif (fun c3 => ?_) (fun c3 => ?_)
    · exact Yields.some (nod (tz.1 c3))
    · have hd : (gg a b : Int) ∣ c := Classical.byContradiction fun h => by have := tz.2 h; rw [c3] at this; cases this
      refine Yields.bif (fun c4 => ?_) (fun c4 => ?_)
      · have hb0 : b = 0 := by simpa using c4
        refine Yields.some ?_
        unfold Line
        rw [if_neg (by rintro (h | h); exact hg0 h; exact h hd), if_pos hb0]
      · have hb0 : b ≠ 0 := by simpa using c4
        exact gen hg0 hd hb0

theorem small_sub {c y : Int} (hc : c.natAbs ≤ 2305843009213693952) (hy : y.natAbs ≤ 4611686018427387904) : IntKind.i64.wrap (c - y) = c - y := wrap_i64 (by omega) (by omega)
theorem small_le {x y : Int} {A B : Nat} (h : (x * y).natAbs ≤ A * B) (n : Nat) (hn : A * B ≤ n) : (x * y).natAbs ≤ n := Nat.le_trans h hn
theorem lines_law : Law Try.prog 3 10 [25, 26] := by
  refine F3_law fun a b c x4 x5 x6 x7 x8 x9 k _ _ _ _ _ _ _ _ _ hk => Yields.eq ?_
  have hk16 : -32768 ≤ k ∧ k ≤ 32767 := bounds_i16 hk
  unfold F3
  refine Yields.bif (fun _ => Yields.some rfl) (fun hv => ?_)
  have hv' : F10 a b c x4 x5 x6 x7 x8 x9 = true := by simpa using hv
  obtain ⟨ha, hb, hc, _⟩ := (valid_iff _ _ _ _ _ _ _ _ _).1 hv'
  refine Yields.bind (all_eq hv') fun y hy => ?_
  refine Yields.bindE (refgcd_eq a b ha hb) ?_
  unfold Line at hy
  refine Yields.bif (fun c1 => ?_) (fun c1 => ?_)
  · have hg : gg a b = 0 := by simpa using c1
    rw [if_pos (.inl hg)] at hy
    subst hy
    exact Yields.some rfl
  · have hg : gg a b ≠ 0 := by simpa using c1
    refine Yields.bif (fun c2 => ?_) (fun c2 => ?_)
    · have hd : ¬ ((gg a b : Int) ∣ c) := by rw [Int.dvd_iff_tmod_eq_zero]; simpa using c2
      rw [if_pos (.inr hd)] at hy
      subst hy
      exact Yields.some rfl
    · have hd : (gg a b : Int) ∣ c := by rw [Int.dvd_iff_tmod_eq_zero]; simpa using c2
      rw [if_neg (by rintro (h | h); exact hg h; exact h hd)] at hy
      refine Yields.bif (fun c3 => ?_) (fun c3 => ?_)
      · split at hy
        · subst hy; cases c3
        · obtain ⟨X, rfl, _⟩ := hy; cases c3
      · refine Yields.bif (fun c4 => ?_) (fun c4 => ?_)
        · have hb0 : b = 0 := by simpa using c4
          rw [if_pos hb0] at hy
          subst hy
          have ha0 : (a == 0) = false := beq_eq_false_iff_ne.2 fun h => hg (gg_zero.2 ⟨h, hb0⟩)
          rw [ha0]
          exact Yields.some (by simp [F3__1])
        · have hb0 : b ≠ 0 := by simpa using c4
          rw [if_neg hb0] at hy
          obtain ⟨X, rfl, hX0, hX1, hdv⟩ := hy
          obtain ⟨f1, f2, f3, f4, f5, f6, f7, f8⟩ := line_facts (c := c) hb0 ha hb
          simp only
          have d1 : decide (X < 0) = false := by simp; omega
          have d2 : decide (X ≥ (b.natAbs : Int) / (gg a b : Int)) = false := by simp; omega
          rw [d1, d2]
          simp only [cond_false]
          have e13 : IntKind.i64.wrap ((F13 b).tdiv (gg a b : Int)) = (b.natAbs : Int) / (gg a b : Int) := by
            rw [abs_eq b hb, Int.tdiv_eq_ediv_of_nonneg (by omega)]
            exact wrap_i64 (by omega) (by omega)
          rw [e13]
          simp only [bne_self_eq_false, cond_false]
          have e2 : F3__2 a b (X, Yof a b c X, (b.natAbs : Int) / (gg a b : Int), DYof a b, true) = 0 := by
            unfold F3__2; simp only; rw [wrap_add, f8]; rfl
          rw [e2]
          simp only [bne_self_eq_false, cond_false]
          have haX : (a * X).natAbs ≤ 4611686018427387904 := by
            exact small_le (mul_small (x := a) (y := X) (A := 2147483648) (B := 2147483648) ha (by clear hdv; omega)) _ (by decide)
          have w1 : IntKind.i64.wrap (a * X) = a * X := wrap_small haX (by omega)
          have w2 : IntKind.i64.wrap (c - a * X) = c - a * X := small_sub hc haX
          rw [w1, w2]
          have t0 : (c - a * X).tmod b = 0 := (Int.dvd_iff_tmod_eq_zero ..).1 hdv
          rw [t0]
          have e3 : F3__3 a b c (X, Yof a b c X, (b.natAbs : Int) / (gg a b : Int), DYof a b, true) = true := by
            unfold F3__3 Yof; simp
          rw [e3]
          simp only [beq_self_eq_true, cond_true]
          refine Yields.some ?_
          have wk : IntKind.i64.wrap k = k := wrap_i64 (by omega) (by omega)
          have hkm : (k.tmod 1000).natAbs ≤ 1000 := by
            rw [Int.natAbs_tmod]; have := Nat.mod_lt k.natAbs (show 0 < (1000 : Int).natAbs by decide); simp at this ⊢; omega
          have hDY : (DYof a b).natAbs ≤ MM := by unfold DYof; split <;> omega
          unfold F3__4 F3__5
          simp only
          rw [wk]
          have k1 := mul_small (y := (b.natAbs : Int) / (gg a b : Int)) (B := 2147483648) hkm (by omega)
          have k2 := mul_small (y := DYof a b) (B := 2147483648) hkm hDY
          rw [wrap_small k1 (by omega), wrap_small k2 (by decide), wrap_add]
          have : a * (k.tmod 1000 * ((b.natAbs : Int) / (gg a b : Int))) + b * (k.tmod 1000 * DYof a b) = k.tmod 1000 * (a * ((b.natAbs : Int) / (gg a b : Int)) + b * DYof a b) := by
            rw [Int.mul_add, Int.mul_left_comm a, Int.mul_left_comm b]
          rw [this, f8, Int.mul_zero]
          rfl
end Go.Proofs.Ytdbkalephkgniaa.Abs
