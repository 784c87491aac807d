/- Sums, products and bits of words: commutative and associative. No program is imported. -/
import Derived.Test.YthkdojgagmaecabMathB
namespace Go.Proofs.Ythkdojgagmaecab
open Go.RowKit

theorem okB_of (op a : Int) (h1 : 2 ≤ op) (h2 : op ≤ 20) (ha : 1 ≤ a) (hb : a ≤ 64) : okB op a = true := by simp [okB, isBin]; omega
theorem bin_add (a : Int) (x y : Nat) (ha : 1 ≤ a) (hb : a ≤ 64) : binN 2 a x y = (x + y) % 2 ^ cw a := by
  rw [binN, if_pos (okB_of _ _ (by omega) (by omega) ha hb)]
  rw [show binF 2 a (fitN a x) (fitN a y) = fitN a ((fitN a x + fitN a y) % 18446744073709551616) from by simp [binF, isCmp, plainN], fit_mod]
  simp [fitN]
theorem bin_mul (a : Int) (x y : Nat) (ha : 1 ≤ a) (hb : a ≤ 64) : binN 4 a x y = (x * y) % 2 ^ cw a := by
  rw [binN, if_pos (okB_of _ _ (by omega) (by omega) ha hb)]
  rw [show binF 4 a (fitN a x) (fitN a y) = fitN a ((fitN a x * fitN a y) % 18446744073709551616) from by simp [binF, isCmp, plainN], fit_mod]
  simp [fitN]
theorem bin_and (a : Int) (x y : Nat) (ha : 1 ≤ a) (hb : a ≤ 64) : binN 9 a x y = (x &&& y) % 2 ^ cw a := by
  rw [binN, if_pos (okB_of _ _ (by omega) (by omega) ha hb)]
  simp [binF, isCmp, plainN, fitN, Nat.and_mod_two_pow]
theorem bin_or (a : Int) (x y : Nat) (ha : 1 ≤ a) (hb : a ≤ 64) : binN 10 a x y = (x ||| y) % 2 ^ cw a := by
  rw [binN, if_pos (okB_of _ _ (by omega) (by omega) ha hb)]
  simp [binF, isCmp, plainN, fitN, Nat.or_mod_two_pow]
theorem bin_xor (a : Int) (x y : Nat) (ha : 1 ≤ a) (hb : a ≤ 64) : binN 11 a x y = (x ^^^ y) % 2 ^ cw a := by
  rw [binN, if_pos (okB_of _ _ (by omega) (by omega) ha hb)]
  simp [binF, isCmp, plainN, fitN, Nat.xor_mod_two_pow]
theorem bin_cmp (op a : Int) (x y : Nat) (h1 : 15 ≤ op) (h2 : op ≤ 20) (ha : 1 ≤ a) (hb : a ≤ 64) : binN op a x y = b2n (cmpB op a (fitN a x) (fitN a y)) := by
  rw [binN, if_pos (okB_of _ _ (by omega) (by omega) ha hb)]
  have : isCmp op = true := by simp [isCmp]; omega
  simp [binF, this]
theorem bin_comm (op a : Int) (x y : Nat) (ha : 1 ≤ a) (hb : a ≤ 64) (h : op = 2 ∨ op = 4 ∨ op = 9 ∨ op = 10 ∨ op = 11 ∨ op = 15 ∨ op = 16) : binN op a x y = binN op a y x := by
  rcases h with rfl | rfl | rfl | rfl | rfl | rfl | rfl
  · rw [bin_add _ _ _ ha hb, bin_add _ _ _ ha hb, Nat.add_comm]
  · rw [bin_mul _ _ _ ha hb, bin_mul _ _ _ ha hb, Nat.mul_comm]
  · rw [bin_and _ _ _ ha hb, bin_and _ _ _ ha hb, Nat.and_comm]
  · rw [bin_or _ _ _ ha hb, bin_or _ _ _ ha hb, Nat.or_comm]
  · rw [bin_xor _ _ _ ha hb, bin_xor _ _ _ ha hb, Nat.xor_comm]
  · rw [bin_cmp _ _ _ _ (by omega) (by omega) ha hb, bin_cmp _ _ _ _ (by omega) (by omega) ha hb]
    simp [cmpB, Bool.beq_comm, eq_comm]
  · rw [bin_cmp _ _ _ _ (by omega) (by omega) ha hb, bin_cmp _ _ _ _ (by omega) (by omega) ha hb]
    simp [cmpB, bne, Bool.beq_comm, eq_comm]
theorem bin_assoc (op a : Int) (x y z : Nat) (ha : 1 ≤ a) (hb : a ≤ 64) (h : op = 2 ∨ op = 4 ∨ op = 9 ∨ op = 10 ∨ op = 11) : binN op a (binN op a x y) z = binN op a x (binN op a y z) := by
  rcases h with rfl | rfl | rfl | rfl | rfl
  · simp only [bin_add _ _ _ ha hb, Nat.mod_add_mod, Nat.add_mod_mod, Nat.add_assoc]
  · simp only [bin_mul _ _ _ ha hb, Nat.mod_mul_mod, Nat.mul_mod_mod, Nat.mul_assoc]
  · simp only [bin_and _ _ _ ha hb, Nat.and_mod_two_pow, Nat.mod_mod, Nat.and_assoc]
  · simp only [bin_or _ _ _ ha hb, Nat.or_mod_two_pow, Nat.mod_mod, Nat.or_assoc]
  · simp only [bin_xor _ _ _ ha hb, Nat.xor_mod_two_pow, Nat.mod_mod, Nat.xor_assoc]
theorem bin_lt (op a : Int) (x y : Nat) : binN op a x y < 18446744073709551616 := by
  unfold binN
  split
  · unfold binF
    have h0 := maskN_lt a
    have h1 := fitN_lt a x
    repeat' split
    · unfold b2n; cases cmpB op a (fitN a x) (fitN a y) <;> simp
    · unfold sdivN
      repeat' split
      all_goals first | omega | exact fromN_lt _ _
    · unfold shiftN
      repeat' split
      all_goals first | omega | exact fromN_lt _ _ | exact fitN_lt _ _ | (exact Nat.lt_of_le_of_lt (Nat.div_le_self _ _) h1)
    · exact fitN_lt _ _
  · omega
end Go.Proofs.Ythkdojgagmaecab
