/- Division by a constant, in plain mathematics. No program is imported. -/
import Derived.Test.YthkdojgagmaecaaMath
namespace Go.Proofs.Ythkdojgagmaecaa
open Go.RowKit

def ceilD (a c : Nat) : Nat := (a + c - 1) / c
/-- The conditions on a multiplier m and a shift k for a divisor c of words of w bits. -/
def okM (w c m k : Nat) : Bool := decide (m * (2 ^ w - 1) ≤ 2 ^ (2 * w) - 1 ∧ 2 ^ k ≤ m * c ∧ m * c ≤ 2 ^ k + 2 ^ (k - w))
/-- The search from a shift k on, for so many steps. -/
def magS (w c : Nat) : Nat → Nat → Option (Nat × Nat)
  | 0, _ => none
  | f + 1, k => if okM w c (ceilD (2 ^ k) c) k then some (ceilD (2 ^ k) c, k) else magS w c f (k + 1)
def magN (w c : Nat) : Nat := match magS w c w w with | some (m, _) => m | none => 0
def magK (w c : Nat) : Nat := match magS w c w w with | some (_, k) => k | none => 0
def magE (w c : Nat) : Int := match magS w c w w with | some _ => 0 | none => 6

theorem magS_spec (w c : Nat) : ∀ (f k m j : Nat), magS w c f k = some (m, j) → okM w c m j = true ∧ k ≤ j ∧ j < k + f ∧ m = ceilD (2 ^ j) c
  | 0, _, _, _, h => by simp [magS] at h
  | f + 1, k, m, j, h => by
    unfold magS at h
    split at h
    · next hk =>
      simp at h
      obtain ⟨rfl, rfl⟩ := h
      exact ⟨hk, by omega, by omega, rfl⟩
    · obtain ⟨h1, h2, h3, h4⟩ := magS_spec w c f (k + 1) m j h
      exact ⟨h1, by omega, by omega, h4⟩

theorem magic_div (w c m k x : Nat) (hc : 1 ≤ c) (hk : w ≤ k) (h1 : 2 ^ k ≤ m * c) (h2 : m * c ≤ 2 ^ k + 2 ^ (k - w)) (hx : x < 2 ^ w) :
    x * m / 2 ^ k = x / c := by
  have hp : 0 < 2 ^ k := Nat.pow_pos (by decide)
  have hsplit : 2 ^ w * 2 ^ (k - w) = 2 ^ k := by rw [← Nat.pow_add]; congr 1; omega
  have hr : x % c < c := Nat.mod_lt _ (by omega)
  have hq := Nat.div_add_mod x c
  generalize x / c = q at *
  apply Nat.div_eq_of_lt_le
  · -- q * 2^k ≤ x * m
    refine Nat.le_of_mul_le_mul_right (c := c) ?_ (by omega)
    calc q * 2 ^ k * c = (c * q) * 2 ^ k := by rw [Nat.mul_right_comm, Nat.mul_comm q c]
      _ ≤ x * 2 ^ k := Nat.mul_le_mul_right _ (by omega)
      _ ≤ x * (m * c) := Nat.mul_le_mul_left _ h1
      _ = x * m * c := by rw [Nat.mul_assoc]
  · -- x * m < (q + 1) * 2^k
    refine Nat.lt_of_mul_lt_mul_right (a := c) ?_
    have hp2 : 0 < 2 ^ (k - w) := Nat.pow_pos (by decide)
    have e1 : x * 2 ^ (k - w) < 2 ^ k := by rw [← hsplit]; exact Nat.mul_lt_mul_of_pos_right hx hp2
    calc x * m * c = x * (m * c) := by rw [Nat.mul_assoc]
      _ ≤ x * (2 ^ k + 2 ^ (k - w)) := Nat.mul_le_mul_left _ h2
      _ = x * 2 ^ k + x * 2 ^ (k - w) := Nat.mul_add _ _ _
      _ < x * 2 ^ k + 2 ^ k := by omega
      _ = (x + 1) * 2 ^ k := by rw [Nat.add_mul, Nat.one_mul]
      _ ≤ ((q + 1) * c) * 2 ^ k := Nat.mul_le_mul_right _ (by rw [Nat.add_mul, Nat.one_mul, Nat.mul_comm q c]; omega)
      _ = (q + 1) * 2 ^ k * c := by rw [Nat.mul_right_comm]

theorem pow_mono {a b : Nat} (h : a ≤ b) : 2 ^ a ≤ 2 ^ b := Nat.pow_le_pow_right (by decide) h
theorem pow_ge_one (a : Nat) : 1 ≤ 2 ^ a := Nat.pow_pos (by decide)
theorem maskN_nat (w : Nat) (h : w ≤ 64) : maskN (w : Int) = 2 ^ w - 1 := by
  unfold maskN; congr 2; unfold cw
  split
  · have : w = 0 := by omega
    simp [this]
  · split <;> omega
/-- A multiplier that passes the first condition is at most 2^w + 1. -/
theorem mul_small (w m : Nat) (hw : 1 ≤ w) (h : m * (2 ^ w - 1) ≤ 2 ^ (2 * w) - 1) : m ≤ 2 ^ w + 1 := by
  have hp : 2 ≤ 2 ^ w := by calc 2 = 2 ^ 1 := rfl
                            _ ≤ 2 ^ w := pow_mono hw
  have e : 2 ^ (2 * w) = 2 ^ w * 2 ^ w := by rw [← Nat.pow_add]; congr 1; omega
  rw [e] at h
  generalize 2 ^ w = p at *
  refine Nat.le_of_mul_le_mul_right (c := p - 1) ?_ (by omega)
  obtain ⟨q, rfl⟩ : ∃ q, p = q + 1 := ⟨p - 1, by omega⟩
  simp only [Nat.add_sub_cancel] at *
  have : (q + 1) * (q + 1) = q * q + 2 * q + 1 := by rw [Nat.add_mul, Nat.mul_add]; omega
  have h2 : (q + 1 + 1) * q = q * q + 2 * q := by rw [Nat.add_mul, Nat.add_mul]; omega
  omega
theorem prod_small (w c m : Nat) (hw : 1 ≤ w) (hw' : w ≤ 32) (hc : c < 2 ^ w) (h : m * (2 ^ w - 1) ≤ 2 ^ (2 * w) - 1) : m * c < 18446744073709551616 := by
  have h1 : m * c ≤ m * (2 ^ w - 1) := Nat.mul_le_mul_left _ (by omega)
  have h2 : 2 ^ (2 * w) ≤ 18446744073709551616 := by rw [← pow64]; exact pow_mono (by omega)
  have h3 := pow_ge_one (2 * w)
  omega
theorem ceil_eq (a c : Nat) (hc : 1 ≤ c) : ceilD a c = a / c + (if a % c = 0 then 0 else 1) := by
  unfold ceilD
  have h := Nat.div_add_mod a c
  have hr := Nat.mod_lt a (show c > 0 by omega)
  split
  · next e =>
    rw [e] at h
    rw [Nat.add_zero]
    apply Nat.div_eq_of_lt_le
    · rw [Nat.mul_comm]; omega
    · rw [Nat.add_mul, Nat.mul_comm]; omega
  · apply Nat.div_eq_of_lt_le
    · rw [Nat.add_mul, Nat.mul_comm]; omega
    · rw [Nat.add_mul, Nat.add_mul, Nat.mul_comm]; omega
theorem ceil_le (a c : Nat) (hc : 1 ≤ c) : ceilD a c ≤ a ∨ a = 0 := by
  by_cases h : a = 0
  · exact .inr h
  · left
    unfold ceilD
    apply Nat.div_le_of_le_mul
    calc a + c - 1 ≤ a + (c - 1) * a := by
          have : c - 1 ≤ (c - 1) * a := Nat.le_mul_of_pos_right _ (by omega)
          omega
      _ = c * a := by obtain ⟨d, rfl⟩ : ∃ d, c = d + 1 := ⟨c - 1, by omega⟩; simp [Nat.add_mul]; omega
end Go.Proofs.Ythkdojgagmaecaa
