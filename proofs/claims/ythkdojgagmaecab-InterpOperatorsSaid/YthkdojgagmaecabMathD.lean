/- Division with remainder, and the orders of words. No program is imported. -/
import Derived.Test.YthkdojgagmaecabMathC
namespace Go.Proofs.Ythkdojgagmaecab
open Go.RowKit

theorem sgn_inj (a : Int) (x y : Nat) (ha : 1 ≤ a) : sgn a x = sgn a y ↔ fitN a x = fitN a y := by
  have h1 := fitN_lt' a x
  have h2 := fitN_lt' a y
  unfold sgn
  simp only [show ¬ a ≤ 0 by omega, if_false]
  generalize 2 ^ cw a = m at *
  generalize 2 ^ (cw a - 1) = q at *
  generalize fitN a x = f at *
  generalize fitN a y = g at *
  constructor
  · intro h
    split at h <;> split at h <;> omega
  · rintro rfl; rfl
theorem sgn_range (a : Int) (x : Nat) (ha : 1 ≤ a) : - (2 ^ (cw a - 1) : Nat) ≤ sgn a x ∧ sgn a x < (2 ^ (cw a - 1) : Nat) := by
  have h1 := fitN_lt' a x
  have hh := pow_half (cw a) (cw_pos a ha)
  unfold sgn
  rw [if_neg (by omega)]
  generalize 2 ^ cw a = m at *
  generalize 2 ^ (cw a - 1) = q at *
  generalize fitN a x = f at *
  split <;> omega
theorem sgn_cong (a : Int) (x : Nat) : (sgn a x) % (2 ^ cw a : Nat) = (fitN a x : Int) % (2 ^ cw a : Nat) := by
  have h := from_sgn a x
  unfold fromN at h
  have hp : (0 : Int) < (2 ^ cw a : Nat) := by have := pow_pos (cw a); omega
  have h0 := Int.emod_nonneg (sgn a x) (by omega : ((2 ^ cw a : Nat) : Int) ≠ 0)
  have h1 := fitN_lt' a x
  rw [Int.emod_eq_of_lt (a := (fitN a x : Int)) (by omega) (by omega)]
  omega
theorem from_cong (a n : Int) : ((fromN a n : Nat) : Int) % (2 ^ cw a : Nat) = n % (2 ^ cw a : Nat) := by
  have hp : (0 : Int) < (2 ^ cw a : Nat) := by have := pow_pos (cw a); omega
  have h0 := Int.emod_nonneg n (by omega : ((2 ^ cw a : Nat) : Int) ≠ 0)
  unfold fromN
  rw [Int.toNat_of_nonneg h0, Int.emod_emod_of_dvd _ (Int.dvd_refl _)]
theorem from_lt' (a n : Int) : fromN a n < 2 ^ cw a := by
  have hp : (0 : Int) < (2 ^ cw a : Nat) := by have := pow_pos (cw a); omega
  have h0 := Int.emod_nonneg n (by omega : ((2 ^ cw a : Nat) : Int) ≠ 0)
  have h1 := Int.emod_lt_of_pos n hp
  unfold fromN; omega
theorem sgn_from (a n : Int) (ha : 1 ≤ a) (h1 : - (2 ^ (cw a - 1) : Nat) ≤ n) (h2 : n < (2 ^ (cw a - 1) : Nat)) : sgn a (fromN a n) = n := by
  have hh := pow_half (cw a) (cw_pos a ha)
  have hlt := from_lt' a n
  have hc := from_cong a n
  unfold sgn
  rw [if_neg (by omega)]
  have hf : fitN a (fromN a n) = fromN a n := Nat.mod_eq_of_lt hlt
  rw [hf]
  have hp := pow_pos (cw a - 1)
  generalize 2 ^ cw a = m at *
  generalize 2 ^ (cw a - 1) = q at *
  generalize fromN a n = f at *
  rw [Int.emod_eq_of_lt (by omega) (by omega)] at hc
  by_cases hn : 0 ≤ n
  · rw [Int.emod_eq_of_lt hn (by omega)] at hc
    rw [if_pos (by omega)]; omega
  · have : n % (m : Int) = n + m := by
      rw [← Int.add_emod_right, Int.emod_eq_of_lt (by omega) (by omega)]
    rw [this] at hc
    rw [if_neg (by omega)]; omega

/-- The unsigned quotient and remainder of words that have been cut. -/
theorem udiv_val (a : Int) (x y : Nat) (ha : 1 ≤ a) (hb : a ≤ 64) (h : fitN a y ≠ 0) : binN 5 a x y = fitN a x / fitN a y := by
  rw [binN, if_pos (okB_of _ _ (by omega) (by omega) ha hb)]
  simp [binF, isCmp, plainN, h]
  exact Nat.mod_eq_of_lt (Nat.lt_of_le_of_lt (Nat.div_le_self _ _) (fitN_lt' a x))
theorem urem_val (a : Int) (x y : Nat) (ha : 1 ≤ a) (hb : a ≤ 64) (h : fitN a y ≠ 0) : binN 6 a x y = fitN a x % fitN a y := by
  rw [binN, if_pos (okB_of _ _ (by omega) (by omega) ha hb)]
  simp [binF, isCmp, plainN, h]
  exact Nat.mod_eq_of_lt (Nat.lt_of_le_of_lt (Nat.mod_le _ _) (fitN_lt' a x))
theorem udiv_zero (a : Int) (x y : Nat) (ha : 1 ≤ a) (hb : a ≤ 64) (h : fitN a y = 0) : binN 5 a x y = maskN a := by
  rw [binN, if_pos (okB_of _ _ (by omega) (by omega) ha hb)]
  simp [binF, isCmp, plainN, h, fitN_mask]
theorem urem_zero (a : Int) (x y : Nat) (ha : 1 ≤ a) (hb : a ≤ 64) (h : fitN a y = 0) : binN 6 a x y = fitN a x := by
  rw [binN, if_pos (okB_of _ _ (by omega) (by omega) ha hb)]
  simp [binF, isCmp, plainN, h, fitN_fitN]
theorem sgn_zero (a : Int) (y : Nat) (ha : 1 ≤ a) : sgn a y = 0 ↔ fitN a y = 0 := by
  have h0 : sgn a 0 = 0 := by
    unfold sgn; rw [if_neg (by omega), fitN_zero, if_pos (pow_pos _)]; rfl
  rw [← h0, sgn_inj a y 0 ha, fitN_zero]
theorem sbin (op a : Int) (x y : Nat) (ha : 1 ≤ a) (hb : a ≤ 64) (h : op = 7 ∨ op = 8) : binN op a x y = sdivN op a (fitN a x) (fitN a y) := by
  rw [binN, if_pos (okB_of _ _ (by omega) (by omega) ha hb)]
  have h2 : isCmp op = false := by simp [isCmp]; omega
  simp [binF, h2, h]

/-- Quotient times divisor plus remainder is the dividend. -/
theorem div_back (op1 op2 a : Int) (x y : Nat) (ha : 1 ≤ a) (hb : a ≤ 64) (h : (op1 = 5 ∧ op2 = 6) ∨ (op1 = 7 ∧ op2 = 8)) :
    binN 2 a (binN 4 a (binN op1 a x y) y) (binN op2 a x y) = fitN a x := by
  have hlt := fitN_lt' a x
  rw [bin_add _ _ _ ha hb, bin_mul _ _ _ ha hb, Nat.mod_add_mod]
  have hmod : ∀ q : Nat, q * y % 2 ^ cw a = q * fitN a y % 2 ^ cw a := fun q => by unfold fitN; rw [Nat.mul_mod_mod]
  have hmod2 : ∀ q r : Nat, (q * y + r) % 2 ^ cw a = (q * fitN a y + r) % 2 ^ cw a := fun q r => by
    rw [Nat.add_mod, hmod, ← Nat.add_mod]
  rw [hmod2]
  rcases h with ⟨rfl, rfl⟩ | ⟨rfl, rfl⟩
  · by_cases hz : fitN a y = 0
    · rw [hz, urem_zero _ _ _ ha hb hz]; simp; exact Nat.mod_eq_of_lt hlt
    · rw [udiv_val _ _ _ ha hb hz, urem_val _ _ _ ha hb hz, Nat.div_add_mod', Nat.mod_eq_of_lt hlt]
  · rw [sbin 7 _ _ _ ha hb (.inl rfl), sbin 8 _ _ _ ha hb (.inr rfl)]
    by_cases hz : fitN a y = 0
    · have hs : sgn a (fitN a y) = 0 := (sgn_zero _ _ ha).2 (by rw [fitN_fitN, hz])
      simp only [sdivN, hs]
      rw [hz]
      simp; exact Nat.mod_eq_of_lt hlt
    · have hs : ¬ sgn a (fitN a y) = 0 := fun h => hz (by have := (sgn_zero _ _ ha).1 h; rwa [fitN_fitN] at this)
      -- in the integers modulo 2^w
      have hy := sgn_cong a (fitN a y)
      have hx := sgn_cong a (fitN a x)
      rw [fitN_fitN] at hx hy
      have goal : ∀ Q R : Int, Q * sgn a (fitN a y) + R = sgn a (fitN a x) → (fromN a Q * fitN a y + fromN a R) % 2 ^ cw a = fitN a x := by
        intro Q R hQ
        have e : (((fromN a Q * fitN a y + fromN a R) % 2 ^ cw a : Nat) : Int) = (fitN a x : Int) := by
          rw [Int.natCast_emod, Int.natCast_add, Int.natCast_mul, Int.add_emod, Int.mul_emod, from_cong, from_cong, ← hy, ← Int.mul_emod, ← Int.add_emod, hQ, hx]
          exact Int.emod_eq_of_lt (by omega) (by omega)
        omega
      by_cases h1 : sgn a (fitN a y) = -1
      · have g := goal (- sgn a (fitN a x)) 0 (by rw [h1]; omega)
        simp only [sdivN, h1]
        simpa [fromN_zero] using g
      · have g := goal ((sgn a (fitN a x)).tdiv (sgn a (fitN a y))) ((sgn a (fitN a x)).tmod (sgn a (fitN a y))) (by rw [Int.mul_comm]; exact Int.mul_tdiv_add_tmod _ _)
        simp only [sdivN, hs, h1]
        simpa using g

/-- The signed remainder: smaller than the divisor in magnitude, with the sign of the dividend. -/
theorem srem_sgn (a : Int) (x y : Nat) (ha : 1 ≤ a) (hb : a ≤ 64) (hz : fitN a y ≠ 0) :
    ∃ t : Int, sgn a (binN 8 a x y) = t ∧ (t ≠ 0 → (t < 0 ↔ sgn a x < 0)) ∧ (0 < sgn a y → t < sgn a y ∧ - sgn a y < t) ∧ (sgn a y < 0 → t < - sgn a y ∧ sgn a y < t) := by
  rw [sbin 8 _ _ _ ha hb (.inr rfl)]
  have hs : ¬ sgn a (fitN a y) = 0 := fun h => hz (by have := (sgn_zero _ _ ha).1 h; rwa [fitN_fitN] at this)
  rw [sgn_fit] at hs
  have ry := sgn_range a y ha
  have rx := sgn_range a x ha
  by_cases h1 : sgn a y = -1
  · refine ⟨0, ?_, by simp, by omega, by omega⟩
    simp [sdivN, sgn_fit, h1]
    exact (sgn_zero _ _ ha).2 (fitN_zero a)
  · have b1 : - ((sgn a y).natAbs : Int) < (sgn a x).tmod (sgn a y) := by
      have := Int.lt_tmod_of_pos (a := sgn a x) (b := ((sgn a y).natAbs : Int)) (by omega)
      rwa [show (sgn a x).tmod ((sgn a y).natAbs : Int) = (sgn a x).tmod (sgn a y) from by rcases Int.natAbs_eq (sgn a y) with e | e <;> (rw [e]; simp)] at this
    have b2 : (sgn a x).tmod (sgn a y) < ((sgn a y).natAbs : Int) := by
      have := Int.tmod_lt_of_pos (sgn a x) (b := ((sgn a y).natAbs : Int)) (by omega)
      rwa [show (sgn a x).tmod ((sgn a y).natAbs : Int) = (sgn a x).tmod (sgn a y) from by rcases Int.natAbs_eq (sgn a y) with e | e <;> (rw [e]; simp)] at this
    refine ⟨(sgn a x).tmod (sgn a y), ?_, ?_, by omega, by omega⟩
    · simp only [sdivN, sgn_fit, hs, h1, if_false]
      have e8 : (if (8 : Int) = 7 then fromN a ((sgn a x).tdiv (sgn a y)) else fromN a ((sgn a x).tmod (sgn a y))) = fromN a ((sgn a x).tmod (sgn a y)) := by simp
      rw [e8]
      exact sgn_from a _ ha (by omega) (by omega)
    · intro hne
      by_cases hx : 0 ≤ sgn a x
      · have := Int.tmod_nonneg (sgn a y) hx
        omega
      · have h3 := Int.tmod_nonneg (sgn a y) (show 0 ≤ - sgn a x by omega)
        rw [Int.neg_tmod] at h3
        omega
end Go.Proofs.Ythkdojgagmaecab
