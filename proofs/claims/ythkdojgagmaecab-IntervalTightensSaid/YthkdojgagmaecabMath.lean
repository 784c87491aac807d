/- Plain mathematics of words of 1 to 64 bits: masks, low bits, signed values. No program is imported. -/
import Derived.WalkKit
import Derived.ProofKit
import Derived.OpenShut
import Derived.Outline
import Derived.Lib.Hide
import Derived.Laws.Shifts
import Derived.Laws.ShiftsVar
import Derived.Laws.ShiftsVarLaws
import Derived.Laws.Bits
import Derived.Laws.Bits64
import Derived.Laws.Bits64b
import Derived.Laws.BitsAll
import Derived.Laws.BitsAllLaws
namespace Go.Proofs.Ythkdojgagmaecab
open Go.RowKit

/-- A width, clamped to 0 .. 64. -/
def cw (a : Int) : Nat := if a ≤ 0 then 0 else if 64 ≤ a then 64 else a.toNat

theorem cw_le (a : Int) : cw a ≤ 64 := by unfold cw; split; omega; split <;> omega
theorem pow64 : (2 : Nat) ^ 64 = 18446744073709551616 := by decide
theorem pow63 : (2 : Nat) ^ 63 = 9223372036854775808 := by decide
theorem pow_cw_le (a : Int) : 2 ^ cw a ≤ 18446744073709551616 := by
  rw [← pow64]; exact Nat.pow_le_pow_right (by decide) (cw_le a)
theorem pow_pos (n : Nat) : 0 < 2 ^ n := Nat.pow_pos (by decide)

/-- The word of ones. -/
def maskN (a : Int) : Nat := 2 ^ cw a - 1
/-- The low bits. -/
def fitN (a : Int) (x : Nat) : Nat := x % 2 ^ cw a
/-- The signed value. -/
def sgn (a : Int) (x : Nat) : Int :=
  if a ≤ 0 then 0 else if fitN a x < 2 ^ (cw a - 1) then (fitN a x : Int) else (fitN a x : Int) - (2 ^ cw a : Nat)
/-- The word that is n modulo 2^w. -/
def fromN (a : Int) (n : Int) : Nat := (n % (2 ^ cw a : Nat)).toNat

theorem maskN_lt (a : Int) : maskN a < 18446744073709551616 := by
  unfold maskN; have := pow_cw_le a; have := pow_pos (cw a); omega
theorem fitN_lt (a : Int) (x : Nat) : fitN a x < 18446744073709551616 :=
  Nat.lt_of_lt_of_le (Nat.mod_lt _ (pow_pos _)) (pow_cw_le a)
theorem fitN_lt' (a : Int) (x : Nat) : fitN a x < 2 ^ cw a := Nat.mod_lt _ (pow_pos _)
theorem fit_and (a : Int) (x : Nat) : x &&& maskN a = fitN a x := Nat.and_two_pow_sub_one_eq_mod x (cw a)
theorem fitN_fitN (a : Int) (x : Nat) : fitN a (fitN a x) = fitN a x := Nat.mod_mod _ _
theorem maskN_lo (a : Int) (h : a ≤ 0) : maskN a = 0 := by simp [maskN, cw, h]
theorem maskN_hi (a : Int) (h1 : ¬ a ≤ 0) (h : 64 ≤ a) : maskN a = 18446744073709551615 := by simp [maskN, cw, h, h1]
theorem maskN_mid (a : Int) (h1 : ¬ a ≤ 0) (h : ¬ 64 ≤ a) : maskN a = 2 ^ a.toNat - 1 := by simp [maskN, cw, h, h1]
theorem pow_lt_64 (n : Nat) (h : n < 64) : 2 ^ n ≤ 9223372036854775808 := by
  rw [← pow63]; exact Nat.pow_le_pow_right (by decide) (by omega)
theorem wrap_mask (a : Int) (h1 : ¬ a ≤ 0) (h : ¬ 64 ≤ a) : IntKind.u64.wrap (IntKind.u64.wrap (2 ^ a.toNat) - 1) = (maskN a : Nat) := by
  rw [maskN_mid a h1 h, IntKind.wrap_u64, IntKind.wrap_u64]
  have h2 := pow_lt_64 a.toNat (by omega)
  have h3 := pow_pos a.toNat
  have h4 : ((2 : Int) ^ a.toNat) = ((2 ^ a.toNat : Nat) : Int) := by simp
  rw [h4]
  generalize 2 ^ a.toNat = p at *
  omega
theorem and_mask (a : Int) (x : Nat) (hx : x < 18446744073709551616) : bits .and .u64 (x : Int) ((maskN a : Nat) : Int) = (fitN a x : Nat) := by
  rw [u64_and_nat x _ hx (maskN_lt a), fit_and]

theorem cw_hi (a : Int) (h1 : ¬ a ≤ 0) (h : 64 ≤ a) : cw a = 64 := by simp [cw, h, h1]
theorem cw_mid (a : Int) (h1 : ¬ a ≤ 0) (h : ¬ 64 ≤ a) : cw a = a.toNat := by simp [cw, h, h1]
theorem cw_lo (a : Int) (h1 : a ≤ 0) : cw a = 0 := by simp [cw, h1]
theorem sgn_hi (a : Int) (x : Nat) (h1 : ¬ a ≤ 0) (h : 64 ≤ a) (hx : x < 18446744073709551616) : wrap64 (x : Int) = sgn a x := by
  have e : fitN a x = x := by unfold fitN; rw [cw_hi a h1 h, pow64]; omega
  unfold sgn
  rw [if_neg h1, e, cw_hi a h1 h, show 64 - 1 = 63 from rfl, pow63, pow64]
  unfold wrap64
  split <;> omega
theorem pow_half (n : Nat) (h : 0 < n) : 2 ^ n = 2 * 2 ^ (n - 1) := by
  obtain ⟨k, rfl⟩ : ∃ k, n = k + 1 := ⟨n - 1, by omega⟩
  rw [Nat.pow_succ]; simp; omega
theorem sgn_pos (a : Int) (x : Nat) (h1 : ¬ a ≤ 0) (h : ¬ 64 ≤ a) (hs : fitN a x < 2 ^ (cw a - 1)) : wrap64 (fitN a x : Int) = sgn a x := by
  unfold sgn
  rw [if_neg h1, if_pos hs]
  have := pow_lt_64 (cw a - 1) (by rw [cw_mid a h1 h]; omega)
  unfold wrap64; omega
theorem not_mask (a : Int) : bits .xor .u64 IntKind.u64.max ((maskN a : Nat) : Int) = ((18446744073709551615 - maskN a : Nat) : Int) := by
  have h := maskN_lt a
  rw [show IntKind.u64.max = ((18446744073709551615 : Nat) : Int) from rfl, u64_xor_nat _ _ (by omega) h]
  have : (18446744073709551615 : Nat) ^^^ maskN a = 18446744073709551615 - maskN a := by
    unfold maskN
    have hc := cw_le a
    generalize cw a = c at *
    apply Nat.eq_of_testBit_eq
    intro i
    rw [Nat.testBit_xor, Nat.testBit_two_pow_sub_one]
    have e : 18446744073709551615 - (2 ^ c - 1) = 2 ^ 64 - (2 ^ c - 1 + 1) := by have := pow_pos c; rw [pow64]; omega
    rw [e, Nat.testBit_two_pow_sub_succ (by have := pow_pos c; have := Nat.pow_le_pow_right (show 0 < 2 by decide) hc; omega), Nat.testBit_two_pow_sub_one, show (18446744073709551615 : Nat) = 2 ^ 64 - 1 by decide, Nat.testBit_two_pow_sub_one]
    by_cases hi : i < c
    · have : i < 64 := by omega
      simp [hi, this]
    · simp [hi]
  rw [this]
theorem sgn_neg (a : Int) (x : Nat) (h1 : ¬ a ≤ 0) (h : ¬ 64 ≤ a) (hs : ¬ fitN a x < 2 ^ (cw a - 1)) :
    wrap64 (bits .or .u64 (fitN a x : Int) (bits .xor .u64 IntKind.u64.max ((maskN a : Nat) : Int))) = sgn a x := by
  have hf := fitN_lt' a x
  rw [not_mask, u64_or_nat _ _ (fitN_lt a x) (by omega)]
  unfold sgn
  rw [if_neg h1, if_neg hs]
  unfold maskN
  have h63 := pow_lt_64 (cw a) (by rw [cw_mid a h1 h]; omega)
  have hh := pow_half (cw a) (by rw [cw_mid a h1 h]; omega)
  have hp := pow_pos (cw a)
  have hle := cw_le a
  have e : fitN a x ||| (18446744073709551615 - (2 ^ cw a - 1)) = (18446744073709551616 - 2 ^ cw a) + fitN a x := by
    rw [Nat.or_comm, show 18446744073709551615 - (2 ^ cw a - 1) = 18446744073709551616 - 2 ^ cw a by omega]
    refine nat_join (cw a) _ _ ?_ hf
    rw [← pow64]
    refine Nat.mod_eq_zero_of_dvd (Nat.dvd_sub (Nat.pow_dvd_pow 2 hle) (Nat.dvd_refl _))
  rw [e]
  generalize 2 ^ (cw a - 1) = q at *
  generalize 2 ^ cw a = p at *
  generalize fitN a x = f at *
  unfold wrap64
  omega
theorem shr_zero (a : Int) (x : Nat) (h1 : ¬ a ≤ 0) (h : ¬ 64 ≤ a) (hs : fitN a x < 2 ^ (cw a - 1)) : ((fitN a x : Int) / 2 ^ (a.toNat - 1) != 0) = false := by
  rw [cw_mid a h1 h] at hs
  have e : ((2 : Int) ^ (a.toNat - 1)) = ((2 ^ (a.toNat - 1) : Nat) : Int) := by simp
  rw [e, ← Int.natCast_ediv, Nat.div_eq_of_lt hs]; rfl
theorem shr_one (a : Int) (x : Nat) (h1 : ¬ a ≤ 0) (h : ¬ 64 ≤ a) (hs : ¬ fitN a x < 2 ^ (cw a - 1)) : ((fitN a x : Int) / 2 ^ (a.toNat - 1) != 0) = true := by
  rw [cw_mid a h1 h] at hs
  have e : ((2 : Int) ^ (a.toNat - 1)) = ((2 ^ (a.toNat - 1) : Nat) : Int) := by simp
  rw [e, ← Int.natCast_ediv, bne_iff_ne]
  have := Nat.div_pos (Nat.le_of_not_lt hs) (pow_pos _)
  omega
theorem wrapU (n : Int) : IntKind.u64.wrap n = (((n % 18446744073709551616).toNat : Nat) : Int) := by rw [IntKind.wrap_u64]; omega
theorem wrapU_lt (n : Int) : (n % 18446744073709551616).toNat < 18446744073709551616 := by omega
theorem dvd64 (a : Int) : ((2 ^ cw a : Nat) : Int) ∣ 18446744073709551616 := by
  have : (2 ^ cw a : Nat) ∣ 2 ^ 64 := Nat.pow_dvd_pow 2 (cw_le a)
  rw [pow64] at this
  obtain ⟨k, hk⟩ := this
  exact ⟨(k : Int), by rw [← Int.natCast_mul, ← hk]; rfl⟩
theorem fit_from (a : Int) (n : Int) : fitN a (n % 18446744073709551616).toNat = fromN a n := by
  unfold fitN fromN
  have h0 : 0 ≤ n % 18446744073709551616 := by omega
  have h1 : ((n % 18446744073709551616) % ((2 ^ cw a : Nat) : Int)) = n % ((2 ^ cw a : Nat) : Int) := Int.emod_emod_of_dvd _ (dvd64 a)
  rw [← h1]
  obtain ⟨k, hk⟩ := Int.eq_ofNat_of_zero_le h0
  rw [hk]
  have : ((k : Int) % ((2 ^ cw a : Nat) : Int)) = ((k % 2 ^ cw a : Nat) : Int) := (Int.natCast_emod _ _).symm
  rw [this]; rfl
end Go.Proofs.Ythkdojgagmaecab
