/- Plain mathematics of the binary operators on words. No program is imported. -/
import Derived.Test.YthkdojgagmaecabMath
namespace Go.Proofs.Ythkdojgagmaecab
open Go.RowKit

def plainN (op a : Int) (x y : Nat) : Nat :=
  if op = 2 then (x + y) % 18446744073709551616
  else if op = 3 then (x + (18446744073709551616 - y)) % 18446744073709551616
  else if op = 4 then (x * y) % 18446744073709551616
  else if op = 5 then (if y = 0 then maskN a else x / y)
  else if op = 6 then (if y = 0 then x else x % y)
  else if op = 9 then x &&& y
  else if op = 10 then x ||| y
  else x ^^^ y
def shiftN (op a : Int) (x y : Nat) : Nat :=
  if op = 14 then fromN a (sgn a x / (2 ^ (if a ≤ y then 63 else y) : Nat))
  else if a ≤ y then 0
  else if op = 12 then fitN a (x * 2 ^ y)
  else x / 2 ^ y
def sdivN (op a : Int) (x y : Nat) : Nat :=
  if sgn a y = 0 then (if op = 7 then maskN a else x)
  else if sgn a y = -1 then (if op = 7 then fromN a (- sgn a x) else 0)
  else if op = 7 then fromN a ((sgn a x).tdiv (sgn a y)) else fromN a ((sgn a x).tmod (sgn a y))
def cmpB (op a : Int) (x y : Nat) : Bool :=
  if op = 15 then ((x : Int) == (y : Int)) else if op = 16 then ((x : Int) != (y : Int)) else if op = 17 then decide (x < y) else if op = 18 then decide (x ≤ y)
  else if op = 19 then decide (sgn a x < sgn a y) else decide (sgn a x ≤ sgn a y)
def isBin (op : Int) : Bool := decide (2 ≤ op ∧ op ≤ 20)
def isCmp (op : Int) : Bool := decide (15 ≤ op ∧ op ≤ 20)
def b2n (b : Bool) : Nat := bif b then 1 else 0
/-- The result of a binary operator on words that have been cut. -/
def binF (op a : Int) (x y : Nat) : Nat :=
  if isCmp op then b2n (cmpB op a x y)
  else if op = 7 ∨ op = 8 then sdivN op a x y
  else if op = 12 ∨ op = 13 ∨ op = 14 then shiftN op a x y
  else fitN a (plainN op a x y)
def okB (op a : Int) : Bool := isBin op && decide (1 ≤ a ∧ a ≤ 64)
def binN (op a : Int) (x y : Nat) : Nat := if okB op a then binF op a (fitN a x) (fitN a y) else 0
def binE (op a : Int) : Int := if okB op a then 0 else 1

theorem wrapNat (n : Nat) : IntKind.u64.wrap (n : Int) = ((n % 18446744073709551616 : Nat) : Int) := by rw [IntKind.wrap_u64]; omega
theorem pl2 (a : Int) (x y : Nat) : IntKind.u64.wrap ((x : Int) + y) = (plainN 2 a x y : Nat) := by
  rw [← Int.natCast_add, wrapNat]; rfl
theorem pl3 (a : Int) (x y : Nat) (hy : y < 18446744073709551616) : IntKind.u64.wrap ((x : Int) - y) = (plainN 3 a x y : Nat) := by
  rw [IntKind.wrap_u64]; unfold plainN; simp; omega
theorem pl4 (a : Int) (x y : Nat) : IntKind.u64.wrap ((x : Int) * y) = (plainN 4 a x y : Nat) := by
  rw [← Int.natCast_mul, wrapNat]; rfl
theorem pl5 (a : Int) (x y : Nat) (h : ¬ y = 0) (hx : x < 18446744073709551616) : IntKind.u64.wrap ((x : Int) / y) = (plainN 5 a x y : Nat) := by
  rw [← Int.natCast_ediv, wrapNat, Nat.mod_eq_of_lt (Nat.lt_of_le_of_lt (Nat.div_le_self x y) hx)]; simp [plainN, h]
theorem pl6 (a : Int) (x y : Nat) (h : ¬ y = 0) : (x : Int) % y = (plainN 6 a x y : Nat) := by
  simp [plainN, h]
theorem pl9 (a : Int) (x y : Nat) (hx : x < 18446744073709551616) (hy : y < 18446744073709551616) : bits .and .u64 (x : Int) y = (plainN 9 a x y : Nat) := by
  rw [u64_and_nat _ _ hx hy]; rfl
theorem pl10 (a : Int) (x y : Nat) (hx : x < 18446744073709551616) (hy : y < 18446744073709551616) : bits .or .u64 (x : Int) y = (plainN 10 a x y : Nat) := by
  rw [u64_or_nat _ _ hx hy]; rfl
theorem pl11 (a : Int) (x y : Nat) (hx : x < 18446744073709551616) (hy : y < 18446744073709551616) : bits .xor .u64 (x : Int) y = (plainN 11 a x y : Nat) := by
  rw [u64_xor_nat _ _ hx hy]; rfl
theorem plain_lt (op a : Int) (x y : Nat) (hx : x < 18446744073709551616) (hy : y < 18446744073709551616) : plainN op a x y < 18446744073709551616 := by
  unfold plainN
  have := maskN_lt a
  have h1 := Nat.div_le_self x y
  have h2 := Nat.mod_le x y
  have h3 : x &&& y < 2 ^ 64 := Nat.and_lt_two_pow _ (by rw [pow64]; exact hy)
  have h4 : x ||| y < 2 ^ 64 := Nat.or_lt_two_pow (by rw [pow64]; exact hx) (by rw [pow64]; exact hy)
  have h5 : x ^^^ y < 2 ^ 64 := Nat.xor_lt_two_pow (by rw [pow64]; exact hx) (by rw [pow64]; exact hy)
  rw [pow64] at h3 h4 h5
  repeat' split
  all_goals omega

theorem emod_wrap64 (n : Int) : wrap64 n % 18446744073709551616 = n % 18446744073709551616 := by unfold wrap64; omega
theorem from_wrap (a n : Int) : fromN a (wrap64 n) = fromN a n := by
  rw [← fit_from, ← fit_from, emod_wrap64]
theorem fit_mod (a : Int) (n : Nat) : fitN a (n % 18446744073709551616) = fitN a n := by
  unfold fitN
  refine Nat.mod_mod_of_dvd _ ?_
  rw [← pow64]; exact Nat.pow_dvd_pow 2 (cw_le a)
theorem fromN_lt (a n : Int) : fromN a n < 18446744073709551616 := by rw [← fit_from]; exact fitN_lt _ _
theorem shl_word (x y : Nat) : IntKind.u64.wrap ((x : Int) * 2 ^ y) = ((x * 2 ^ y % 18446744073709551616 : Nat) : Int) := by
  rw [show (x : Int) * 2 ^ y = ((x * 2 ^ y : Nat) : Int) by simp, wrapNat]
theorem shr_word (x y : Nat) : (x : Int) / 2 ^ y = ((x / 2 ^ y : Nat) : Int) := by simp
theorem sh_far14 (a : Int) (x y : Nat) (h : a ≤ y) : shiftN 14 a x y = fromN a (sgn a x / 9223372036854775808) := by
  simp [shiftN, h]
theorem sh_near14 (a : Int) (x y : Nat) (h : ¬ a ≤ y) : shiftN 14 a x y = fromN a (sgn a x / 2 ^ y) := by
  simp [shiftN, h]
theorem sh_far12 (a : Int) (x y : Nat) (h : a ≤ y) : shiftN 12 a x y = 0 := by simp [shiftN, h]
theorem sh_far13 (a : Int) (x y : Nat) (h : a ≤ y) : shiftN 13 a x y = 0 := by simp [shiftN, h]
theorem sh_near12 (a : Int) (x y : Nat) (h : ¬ a ≤ y) : shiftN 12 a x y = fitN a (x * 2 ^ y % 18446744073709551616) := by
  rw [fit_mod]; simp [shiftN, h]
theorem sh_near13 (a : Int) (x y : Nat) (h : ¬ a ≤ y) : ((shiftN 13 a x y : Nat) : Int) = (x : Int) / 2 ^ y := by simp [shiftN, h]
theorem cw_pos (a : Int) (ha : 1 ≤ a) : 1 ≤ cw a := by unfold cw; split; omega; split <;> omega
theorem sgn_fit (a : Int) (x : Nat) : sgn a (fitN a x) = sgn a x := by unfold sgn; rw [fitN_fitN]
theorem from_sgn (a : Int) (x : Nat) : fromN a (sgn a x) = fitN a x := by
  unfold sgn
  have hf := fitN_lt' a x
  split
  · next h => unfold fromN fitN; rw [cw_lo a h]; simp; omega
  · split
    · unfold fromN
      rw [← Int.natCast_emod, Nat.mod_eq_of_lt hf]; rfl
    · unfold fromN
      rw [Int.sub_emod_right, ← Int.natCast_emod, Nat.mod_eq_of_lt hf]; rfl
theorem fromN_zero (a : Int) : fromN a 0 = 0 := by simp [fromN]
theorem fitN_zero (a : Int) : fitN a 0 = 0 := by simp [fitN]
theorem fitN_one (a : Int) (ha : 1 ≤ a) : fitN a 1 = 1 := by
  unfold fitN; refine Nat.mod_eq_of_lt ?_
  calc 1 < 2 ^ 1 := by decide
    _ ≤ 2 ^ cw a := Nat.pow_le_pow_right (by decide) (cw_pos a ha)
theorem fitN_mask (a : Int) : fitN a (maskN a) = maskN a := by unfold fitN maskN; have := pow_pos (cw a); exact Nat.mod_eq_of_lt (by omega)
theorem sgn_one (a : Int) (ha : 2 ≤ a) : sgn a 1 = 1 := by
  unfold sgn
  rw [if_neg (by omega), fitN_one a (by omega), if_pos]; rfl
  calc 1 < 2 ^ 1 := by decide
    _ ≤ 2 ^ (cw a - 1) := Nat.pow_le_pow_right (by decide) (by have : 2 ≤ cw a := by { unfold cw; split; omega; split <;> omega }; omega)
end Go.Proofs.Ythkdojgagmaecab
