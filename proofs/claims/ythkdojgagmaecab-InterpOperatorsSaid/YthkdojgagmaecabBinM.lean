/- The reference's answers are the operators' results: arithmetic. -/
import Derived.Test.YthkdojgagmaecabRefE
import Derived.Test.YthkdojgagmaecabMathD
namespace Go.Proofs.Ythkdojgagmaecab
open Go.RowKit

theorem cw_dvd (a : Int) : ∃ K, 1 ≤ K ∧ 18446744073709551616 = 2 ^ cw a * K := by
  refine ⟨2 ^ (64 - cw a), pow_pos _, ?_⟩
  rw [← Nat.pow_add, show cw a + (64 - cw a) = 64 by have := cw_le a; omega, pow64]
theorem m_sub (a : Int) (x y : Nat) (ha : 1 ≤ a) (hb : a ≤ 64) : (fitN a x % 2 ^ wid a + (maskN a - fitN a y) % 2 ^ wid a + 1) % 2 ^ wid a = binN 3 a x y := by
  rw [binN, if_pos (okB_of _ _ (by omega) (by omega) ha hb)]
  rw [show binF 3 a (fitN a x) (fitN a y) = fitN a ((fitN a x + (18446744073709551616 - fitN a y)) % 18446744073709551616) from by simp [binF, isCmp, plainN], fit_mod, wid_cw]
  have h1 := fitN_lt' a x
  have h2 := fitN_lt' a y
  obtain ⟨K, hK, e⟩ := cw_dvd a
  rw [e]
  unfold maskN
  generalize fitN a x = X at *
  generalize fitN a y = Y at *
  unfold fitN
  generalize 2 ^ cw a = M at *
  obtain ⟨k, rfl⟩ : ∃ k, K = k + 1 := ⟨K - 1, by omega⟩
  rw [show X + (M * (k + 1) - Y) = (X + (M - Y)) + M * k by rw [Nat.mul_succ]; omega, Nat.add_mul_mod_self_left]
  rw [Nat.mod_eq_of_lt h1, Nat.mod_eq_of_lt (show M - 1 - Y < M by omega)]
  congr 1; omega
theorem m_mul (a : Int) (x y : Nat) (ha : 1 ≤ a) (hb : a ≤ 64) : fitN a (fitN a x * fitN a y) = binN 4 a x y := by
  rw [bin_mul _ _ _ ha hb]; unfold fitN; rw [← Nat.mul_mod]
theorem m_and (a : Int) (x y : Nat) (ha : 1 ≤ a) (hb : a ≤ 64) : (fitN a x &&& fitN a y) % 2 ^ wid a = binN 9 a x y := by
  rw [bin_and _ _ _ ha hb, wid_cw]; unfold fitN; simp only [Nat.and_mod_two_pow, Nat.mod_mod]
theorem m_or (a : Int) (x y : Nat) (ha : 1 ≤ a) (hb : a ≤ 64) : (fitN a x ||| fitN a y) % 2 ^ wid a = binN 10 a x y := by
  rw [bin_or _ _ _ ha hb, wid_cw]; unfold fitN; simp only [Nat.or_mod_two_pow, Nat.mod_mod]
theorem m_xor (a : Int) (x y : Nat) (ha : 1 ≤ a) (hb : a ≤ 64) : (fitN a x ^^^ fitN a y) % 2 ^ wid a = binN 11 a x y := by
  rw [bin_xor _ _ _ ha hb, wid_cw]; unfold fitN; simp only [Nat.xor_mod_two_pow, Nat.mod_mod]
theorem m_add (a : Int) (x y : Nat) (ha : 1 ≤ a) (hb : a ≤ 64) : (fitN a x + fitN a y) % 2 ^ wid a = binN 2 a x y := by
  rw [bin_add _ _ _ ha hb, wid_cw]; unfold fitN; rw [← Nat.add_mod]
theorem sh_bin (op a : Int) (x y : Nat) (ha : 1 ≤ a) (hb : a ≤ 64) (h : op = 12 ∨ op = 13 ∨ op = 14) : binN op a x y = shiftN op a (fitN a x) (fitN a y) := by
  rw [binN, if_pos (okB_of _ _ (by omega) (by omega) ha hb)]
  rcases h with rfl | rfl | rfl <;> simp [binF, isCmp]
theorem cw_nat (a : Int) (ha : 1 ≤ a) (hb : a ≤ 64) : ((cw a : Nat) : Int) = a := by unfold cw; split; omega; split <;> omega
theorem am_far (a : Int) (y : Nat) (ha : 1 ≤ a) (hb : a ≤ 64) (h : a ≤ y) : amN a y = cw a := by
  have := cw_nat a ha hb; unfold amN; rw [wid_cw]; omega
theorem am_near (a : Int) (y : Nat) (ha : 1 ≤ a) (hb : a ≤ 64) (h : ¬ a ≤ y) : amN a y = y ∧ y < cw a := by
  have := cw_nat a ha hb; unfold amN; rw [wid_cw]; omega
theorem m_shl (a : Int) (x y : Nat) (ha : 1 ≤ a) (hb : a ≤ 64) : fitN a (fitN a x * 2 ^ amN a (fitN a y)) = binN 12 a x y := by
  rw [sh_bin 12 a x y ha hb (.inl rfl)]
  by_cases h : a ≤ (fitN a y : Nat)
  · rw [am_far _ _ ha hb h, sh_far12 _ _ _ h]
    show _ * 2 ^ cw a % 2 ^ cw a = 0
    exact Nat.mul_mod_left _ _
  · rw [(am_near _ _ ha hb h).1, sh_near12 _ _ _ h, fit_mod]
theorem shr_val (a : Int) (X n f : Nat) (hX : X < 2 ^ cw a) (hn : n ≤ cw a) : shrN a X n f + f * 2 ^ (cw a - n) = X / 2 ^ n + f * 2 ^ cw a := by
  unfold shrN
  rw [wid_cw]
  have h := word_ext_out (cw a - n) (X / 2 ^ n) f n
  rw [show cw a - n + n = cw a by omega] at h
  rw [h, Nat.mod_eq_of_lt]
  rw [Nat.div_lt_iff_lt_mul (pow_pos n), ← Nat.pow_add, show cw a - n + n = cw a by omega]; exact hX
theorem m_lshr (a : Int) (x y : Nat) (ha : 1 ≤ a) (hb : a ≤ 64) : shrN a (fitN a x) (amN a (fitN a y)) 0 = binN 13 a x y := by
  rw [sh_bin 13 a x y ha hb (.inr (.inl rfl))]
  have hl := fitN_lt' a x
  by_cases h : a ≤ (fitN a y : Nat)
  · have := shr_val a (fitN a x) (cw a) 0 hl (Nat.le_refl _)
    rw [am_far _ _ ha hb h, sh_far13 _ _ _ h]
    rw [Nat.div_eq_of_lt hl] at this
    omega
  · obtain ⟨e, hlt⟩ := am_near _ _ ha hb h
    have := shr_val a (fitN a x) (fitN a y) 0 hl (by omega)
    rw [e]
    have h2 : shiftN 13 a (fitN a x) (fitN a y) = fitN a x / 2 ^ fitN a y := by simp [shiftN, h]
    omega
theorem from_small (a : Int) (n : Nat) (h : n < 2 ^ cw a) : fromN a (n : Int) = n := by rw [from_nat]; exact Nat.mod_eq_of_lt h
theorem neg_sgn (a : Int) (x : Nat) (h : negB a x = true) : sgn a x = (fitN a x : Int) - (2 ^ cw a : Nat) ∧ 2 ^ (cw a - 1) ≤ fitN a x ∧ 0 < cw a := by
  obtain ⟨h0, h1⟩ := neg_big a x h
  exact ⟨by unfold sgn; rw [if_neg (cw_pos_iff a h0), if_neg (by omega)], h1, h0⟩
theorem m_ashr (a : Int) (x y : Nat) (ha : 1 ≤ a) (hb : a ≤ 64) : shrN a (fitN a x) (amN a (fitN a y)) (b2n (negB a (fitN a x))) = binN 14 a x y := by
  rw [sh_bin 14 a x y ha hb (.inr (.inr rfl))]
  have hl := fitN_lt' a x
  have hff := fitN_fitN a x
  have hp := pow_pos (cw a)
  cases hn : negB a (fitN a x)
  · obtain ⟨s1, s2⟩ := sgn_small a _ hn
    rw [hff] at s1 s2
    show shrN a (fitN a x) (amN a (fitN a y)) 0 = _
    by_cases h : a ≤ (fitN a y : Nat)
    · have := shr_val a (fitN a x) (cw a) 0 hl (Nat.le_refl _)
      rw [am_far _ _ ha hb h, sh_far14 _ _ _ h, s2]
      rw [Nat.div_eq_of_lt hl] at this
      rw [show ((fitN a x : Nat) : Int) / 9223372036854775808 = ((0 : Nat) : Int) by omega, from_small a 0 hp]
      omega
    · obtain ⟨e, hlt⟩ := am_near _ _ ha hb h
      have := shr_val a (fitN a x) (fitN a y) 0 hl (by omega)
      rw [e, sh_near14 _ _ _ h, s2, shr_word, from_small]
      · omega
      · exact Nat.lt_of_le_of_lt (Nat.div_le_self _ _) hl
  · obtain ⟨s1, s2, s3⟩ := neg_sgn a _ hn
    rw [hff] at s1 s2
    show shrN a (fitN a x) (amN a (fitN a y)) 1 = _
    by_cases h : a ≤ (fitN a y : Nat)
    · have := shr_val a (fitN a x) (cw a) 1 hl (Nat.le_refl _)
      rw [am_far _ _ ha hb h, sh_far14 _ _ _ h, s1]
      rw [Nat.div_eq_of_lt hl] at this
      have h63 : 2 ^ (cw a - 1) ≤ 9223372036854775808 := by rw [← pow63]; exact Nat.pow_le_pow_right (by decide) (by have := cw_le a; omega)
      have hh := pow_half (cw a) s3
      have e1 : ((fitN a x : Int) - (2 ^ cw a : Nat)) / 9223372036854775808 = -1 := by
        generalize 2 ^ (cw a - 1) = q at *
        generalize 2 ^ cw a = p at *
        generalize fitN a x = f at *
        omega
      rw [e1]
      have e2 : fromN a (-1) = 2 ^ cw a - 1 := by
        unfold fromN
        rw [show (-1 : Int) = ((2 ^ cw a - 1 : Nat) : Int) + (2 ^ cw a : Nat) * (-1) by omega, Int.add_mul_emod_self_left, ← Int.natCast_emod, Nat.mod_eq_of_lt (by omega)]; rfl
      rw [e2]
      simp only [Nat.sub_self, Nat.pow_zero] at this
      omega
    · obtain ⟨e, hlt⟩ := am_near _ _ ha hb h
      have := shr_val a (fitN a x) (fitN a y) 1 hl (by omega)
      rw [e, sh_near14 _ _ _ h, s1]
      generalize fitN a y = n at *
      have hpn := pow_pos n
      have hs : 2 ^ cw a = 2 ^ n * 2 ^ (cw a - n) := by rw [← Nat.pow_add]; congr 1; omega
      have e1 : ((fitN a x : Int) - (2 ^ cw a : Nat)) / 2 ^ n = ((fitN a x / 2 ^ n : Nat) : Int) - (2 ^ (cw a - n) : Nat) := by
        have e3 : ((2 : Int) ^ n) = ((2 ^ n : Nat) : Int) := by simp
        rw [hs, e3, show ((fitN a x : Int) - ((2 ^ n * 2 ^ (cw a - n) : Nat) : Int)) = (fitN a x : Int) + ((2 ^ n : Nat) : Int) * (-(2 ^ (cw a - n) : Nat)) by rw [Int.natCast_mul, Int.mul_neg]; omega,
          Int.add_mul_ediv_left _ _ (by omega), ← Int.natCast_ediv]
        omega
      rw [e1]
      have hd : fitN a x / 2 ^ n < 2 ^ (cw a - n) := by rw [Nat.div_lt_iff_lt_mul hpn, Nat.mul_comm, ← hs]; exact hl
      have hle : 2 ^ (cw a - n) ≤ 2 ^ cw a := Nat.pow_le_pow_right (by decide) (by omega)
      have e2 : fromN a (((fitN a x / 2 ^ n : Nat) : Int) - (2 ^ (cw a - n) : Nat)) = fitN a x / 2 ^ n + 2 ^ cw a - 2 ^ (cw a - n) := by
        unfold fromN
        generalize fitN a x / 2 ^ n = D at *
        generalize 2 ^ (cw a - n) = E at *
        generalize 2 ^ cw a = M at *
        rw [show ((D : Int) - (E : Int)) = ((D + M - E : Nat) : Int) + (M : Nat) * (-1) by omega, Int.add_mul_emod_self_left, ← Int.natCast_emod, Nat.mod_eq_of_lt (by omega)]; rfl
      rw [e2]
      omega
theorem mag_zero (a : Int) (y : Nat) (hz : ¬ fitN a y = 0) : ¬ magN2 a (fitN a y) = 0 := by
  unfold magN2
  cases hn : negB a (fitN a y)
  · simpa [fitN_fitN] using hz
  · have := (min_neg a _ hn).1
    simp; omega
theorem min_from (a : Int) (q : Nat) : minN a q = fromN a (-(q : Int)) := by
  unfold minN
  rw [fit_mod]
  unfold fromN maskN fitN
  have hp := pow_pos (cw a)
  generalize 2 ^ cw a = M at *
  have hr := Nat.mod_lt q hp
  have hd := Nat.div_add_mod q M
  rw [show (-(q : Int)) = ((M - 1 - q % M + 1 : Nat) : Int) + (M : Nat) * (-((q / M : Nat) : Int) - 1) by
    have hc : (q : Int) = (M : Int) * ((q / M : Nat) : Int) + ((q % M : Nat) : Int) := by rw [← Int.natCast_mul, ← Int.natCast_add, hd]
    rw [Int.mul_sub, Int.mul_neg]; omega]
  rw [Int.add_mul_emod_self_left, ← Int.natCast_emod]; rfl
theorem mag_sgn (a : Int) (x : Nat) : sgn a x = bif negB a x then -(magN2 a x : Int) else (magN2 a x : Int) := by
  unfold magN2
  cases hn : negB a x
  · exact (sgn_small a x hn).2
  · exact (min_neg a x hn).2.2
theorem fit_from' (a n : Int) : fitN a (fromN a n) = fromN a n := by
  have := from_lt' a n
  exact Nat.mod_eq_of_lt this
theorem div_from (a : Int) (X Y : Nat) : divQ a X Y = fromN a ((sgn a X).tdiv (sgn a Y)) := by
  unfold divQ
  rw [mag_sgn a X, mag_sgn a Y, min_from]
  cases negB a X <;> cases negB a Y <;> simp only [cond_true, cond_false, bne_self_eq_false, Bool.true_bne, Bool.false_bne, Bool.not_true, Bool.not_false, Int.neg_tdiv, Int.tdiv_neg, Int.neg_neg, ← Int.ofNat_tdiv, from_nat, fit_from']
theorem rem_from (a : Int) (X Y : Nat) : divR a X Y = fromN a ((sgn a X).tmod (sgn a Y)) := by
  unfold divR
  rw [mag_sgn a X, mag_sgn a Y, min_from]
  cases negB a X <;> cases negB a Y <;> simp only [cond_true, cond_false, Int.neg_tmod, Int.tmod_neg, ← Int.ofNat_tmod, from_nat, fit_from']
theorem sgn_ne (a : Int) (y : Nat) (ha : 1 ≤ a) (hz : ¬ fitN a y = 0) : ¬ sgn a (fitN a y) = 0 := fun h => hz (by have := (sgn_zero _ _ ha).1 h; rwa [fitN_fitN] at this)
theorem m_sdiv (a : Int) (x y : Nat) (ha : 1 ≤ a) (hb : a ≤ 64) (hz : ¬ fitN a y = 0) : divQ a (fitN a x) (fitN a y) = binN 7 a x y := by
  rw [sbin 7 _ _ _ ha hb (.inl rfl), div_from]
  have hs := sgn_ne a y ha hz
  unfold sdivN
  rw [if_neg hs]
  by_cases h1 : sgn a (fitN a y) = -1
  · rw [if_pos h1, if_pos rfl, h1, Int.tdiv_neg, Int.tdiv_one]
  · rw [if_neg h1, if_pos rfl]
theorem m_srem (a : Int) (x y : Nat) (ha : 1 ≤ a) (hb : a ≤ 64) (hz : ¬ fitN a y = 0) : divR a (fitN a x) (fitN a y) = binN 8 a x y := by
  rw [sbin 8 _ _ _ ha hb (.inr rfl), rem_from]
  have hs := sgn_ne a y ha hz
  unfold sdivN
  rw [if_neg hs]
  by_cases h1 : sgn a (fitN a y) = -1
  · rw [if_pos h1, if_neg (by decide), h1, Int.tmod_neg, Int.tmod_one, fromN_zero]
  · rw [if_neg h1, if_neg (by decide)]
theorem m_sdiv0 (a : Int) (x y : Nat) (ha : 1 ≤ a) (hb : a ≤ 64) (hz : fitN a y = 0) : maskN a = binN 7 a x y := by
  rw [sbin 7 _ _ _ ha hb (.inl rfl)]
  unfold sdivN
  rw [if_pos ((sgn_zero _ _ ha).2 (by rw [fitN_fitN, hz])), if_pos rfl]
theorem m_srem0 (a : Int) (x y : Nat) (ha : 1 ≤ a) (hb : a ≤ 64) (hz : fitN a y = 0) : fitN a x = binN 8 a x y := by
  rw [sbin 8 _ _ _ ha hb (.inr rfl)]
  unfold sdivN
  rw [if_pos ((sgn_zero _ _ ha).2 (by rw [fitN_fitN, hz])), if_neg (by decide)]
theorem m_cmp (op a : Int) (x y : Nat) (h1 : 15 ≤ op) (h2 : op ≤ 20) (ha : 1 ≤ a) (hb : a ≤ 64) : b2n (cmpB op a (fitN a x) (fitN a y)) = binN op a x y :=
  (bin_cmp op a x y h1 h2 ha hb).symm

theorem and_bit (X Y k : Nat) : (X &&& Y) / 2 ^ k % 2 = (X / 2 ^ k % 2) * (Y / 2 ^ k % 2) := by
  rw [Nat.and_div_two_pow]
  have h := Nat.and_mod_two_pow (a := X / 2 ^ k) (b := Y / 2 ^ k) (n := 1)
  rw [Nat.pow_one] at h
  rw [h]
  rcases Nat.mod_two_eq_zero_or_one (X / 2 ^ k) with e | e <;> rcases Nat.mod_two_eq_zero_or_one (Y / 2 ^ k) with f | f <;> rw [e, f] <;> rfl
theorem or_bit (X Y k : Nat) : (X ||| Y) / 2 ^ k % 2 = max (X / 2 ^ k % 2) (Y / 2 ^ k % 2) := by
  rw [Nat.or_div_two_pow]
  have h := Nat.or_mod_two_pow (a := X / 2 ^ k) (b := Y / 2 ^ k) (n := 1)
  rw [Nat.pow_one] at h
  rw [h]
  rcases Nat.mod_two_eq_zero_or_one (X / 2 ^ k) with e | e <;> rcases Nat.mod_two_eq_zero_or_one (Y / 2 ^ k) with f | f <;> rw [e, f] <;> rfl
theorem xor_bit (X Y k : Nat) : (X ^^^ Y) / 2 ^ k % 2 = ((X / 2 ^ k % 2) + (Y / 2 ^ k % 2)) % 2 := by
  rw [Nat.xor_div_two_pow]
  have h := Nat.xor_mod_two_pow (a := X / 2 ^ k) (b := Y / 2 ^ k) (n := 1)
  rw [Nat.pow_one] at h
  rw [h]
  rcases Nat.mod_two_eq_zero_or_one (X / 2 ^ k) with e | e <;> rcases Nat.mod_two_eq_zero_or_one (Y / 2 ^ k) with f | f <;> rw [e, f] <;> rfl
end Go.Proofs.Ythkdojgagmaecab
