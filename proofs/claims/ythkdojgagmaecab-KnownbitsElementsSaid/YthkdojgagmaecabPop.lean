/- The number of bits that are 1, and how words of pairs, nibbles and bytes count it. No program is imported. -/
import Derived.Test.YthkdojgagmaecabMath
namespace Go.Proofs.Ythkdojgagmaecab
open Go.RowKit

/-- The number of ones among the low n bits. -/
def popc : Nat → Nat → Nat
  | 0, _ => 0
  | n + 1, x => x % 2 + popc n (x / 2)
theorem popc_le : ∀ n x, popc n x ≤ n
  | 0, _ => by simp [popc]
  | n + 1, x => by have := popc_le n (x / 2); simp only [popc]; omega
theorem popc_add : ∀ m n x, popc (m + n) x = popc m x + popc n (x / 2 ^ m)
  | 0, n, x => by simp [popc]
  | m + 1, n, x => by
    rw [show m + 1 + n = (m + n) + 1 by omega]
    simp only [popc]
    rw [popc_add m n (x / 2), Nat.div_div_eq_div_mul, show 2 * 2 ^ m = 2 ^ (m + 1) from (Nat.pow_succ').symm]
    omega
theorem popc_zero : ∀ n, popc n 0 = 0
  | 0 => rfl
  | n + 1 => by simp [popc, popc_zero n]
theorem popc_mod : ∀ m x, popc m (x % 2 ^ m) = popc m x
  | 0, x => by simp [popc]
  | m + 1, x => by
    simp only [popc]
    have h1 : x % 2 ^ (m + 1) % 2 = x % 2 := by rw [Nat.pow_succ']; exact Nat.mod_mul_right_mod x 2 (2 ^ m)
    have h2 : x % 2 ^ (m + 1) / 2 = x / 2 % 2 ^ m := by rw [Nat.pow_succ', Nat.mod_mul_right_div_self]
    rw [h1, h2, popc_mod m (x / 2)]
theorem popc_full : ∀ n x, x < 2 ^ n → (popc n x = n ↔ x = 2 ^ n - 1)
  | 0, x, h => by simp [popc] at *; omega
  | n + 1, x, h => by
    have hx : x / 2 < 2 ^ n := by rw [Nat.pow_succ'] at h; omega
    have ih := popc_full n (x / 2) hx
    have hl := popc_le n (x / 2)
    have hp := pow_pos n
    simp only [popc]
    rw [Nat.pow_succ'] at h ⊢
    constructor
    · intro e
      have : popc n (x / 2) = n := by omega
      have := ih.1 this
      omega
    · intro e
      have : x / 2 = 2 ^ n - 1 := by omega
      have := ih.2 this
      omega
theorem popc_mask (w x : Nat) (hw : w ≤ 64) (h : x < 2 ^ w) : popc 64 x = w ↔ x = 2 ^ w - 1 := by
  rw [← popc_full w x h, show (64 : Nat) = w + (64 - w) by omega, popc_add, Nat.div_eq_of_lt h, popc_zero]
  simp
/-- By bytes. -/
def pc (d : Nat) : Nat := popc 8 d
theorem popc_byte (n x : Nat) : popc (8 + n) x = pc (x % 256) + popc n (x / 256) := by
  rw [popc_add]
  have := popc_mod 8 x
  rw [show (2 : Nat) ^ 8 = 256 from rfl] at *
  unfold pc
  rw [this]

/-- A word of bytes: the lowest first. -/
def val : List Nat → Nat
  | [] => 0
  | d :: l => d + 256 * val l
theorem and_cons (d m a b : Nat) (hd : d < 256) (hm : m < 256) : (d + 256 * a) &&& (m + 256 * b) = (d &&& m) + 256 * (a &&& b) := by
  have hdm : d &&& m < 256 := Nat.lt_of_le_of_lt Nat.and_le_left hd
  apply Nat.eq_of_testBit_eq
  intro i
  rw [Nat.testBit_and, Nat.add_comm d, Nat.add_comm m, Nat.add_comm (d &&& m), show (256 : Nat) = 2 ^ 8 from rfl, Nat.testBit_two_pow_mul_add _ hd, Nat.testBit_two_pow_mul_add _ hm, Nat.testBit_two_pow_mul_add _ hdm]
  split
  · rw [Nat.testBit_and]
  · rw [Nat.testBit_and]
/-- A mask of equal bytes. -/
def msk (m : Nat) : Nat → Nat
  | 0 => 0
  | n + 1 => m + 256 * msk m n
theorem and_low (k X m : Nat) (hm : m < 2 ^ k) : X &&& m = (X % 2 ^ k) &&& m := by
  apply Nat.eq_of_testBit_eq
  intro i
  rw [Nat.testBit_and, Nat.testBit_and, Nat.testBit_mod_two_pow]
  by_cases h : i < k
  · simp [h]
  · have : m.testBit i = false := Nat.testBit_lt_two_pow (Nat.lt_of_lt_of_le hm (Nat.pow_le_pow_right (by decide) (by omega)))
    simp [this]
theorem shr_and (j k m d a n : Nat) (hjk : j + k = 8) (hd : d < 256) (hm : m < 2 ^ k) : ((d + 256 * a) / 2 ^ j) &&& (msk m (n + 1)) = ((d / 2 ^ j) &&& m) + 256 * ((a / 2 ^ j) &&& msk m n) := by
  have hq : 2 ^ j * 2 ^ k = 256 := by rw [← Nat.pow_add, hjk]
  have hq0 := pow_pos j
  have hc0 := pow_pos k
  generalize hqq : 2 ^ j = q at *
  generalize hcc : 2 ^ k = c at *
  have e : (d + 256 * a) / q = (d / q + c * (a % q)) + 256 * (a / q) := by
    have h1 : d + 256 * a = d + q * (c * a) := by rw [← Nat.mul_assoc, hq]
    rw [h1, Nat.add_mul_div_left _ _ hq0]
    have h2 := Nat.mod_add_div a q
    have h3 : c * a = c * (a % q) + 256 * (a / q) := by
      have h4 : c * (a % q + q * (a / q)) = c * (a % q) + 256 * (a / q) := by rw [Nat.mul_add, ← Nat.mul_assoc, Nat.mul_comm c q, hq]
      rw [h2] at h4; exact h4
    omega
  have hdq : d / q < c := by rw [Nat.div_lt_iff_lt_mul hq0, Nat.mul_comm, hq]; exact hd
  have ha := Nat.mod_lt a hq0
  have hlt : d / q + c * (a % q) < 256 := by
    have h5 : c * (a % q + 1) ≤ c * q := Nat.mul_le_mul_left _ (by omega)
    rw [Nat.mul_comm c q, hq, Nat.mul_add, Nat.mul_one] at h5
    omega
  have hm2 : m < 256 := by
    have h6 : 1 * c ≤ q * c := Nat.mul_le_mul_right _ hq0
    rw [hq] at h6; omega
  show _ &&& (m + 256 * msk m n) = _
  rw [e, and_cons _ _ _ _ hlt hm2]
  congr 1
  have h7 := and_low k (d / q + c * (a % q)) m (by rw [hcc]; exact hm)
  rw [hcc, Nat.add_mul_mod_self_left, Nat.mod_eq_of_lt hdq] at h7
  exact h7
theorem and_msk (m d a n : Nat) (hd : d < 256) (hm : m < 256) : (d + 256 * a) &&& msk m (n + 1) = (d &&& m) + 256 * (a &&& msk m n) := and_cons d m a (msk m n) hd hm

/-- One byte of the first two steps. -/
def tb (j m d : Nat) : Nat := ((d / 2 ^ j) &&& m) + (d &&& m)
theorem step_one (j k m : Nat) (hjk : j + k = 8) (hm : m < 2 ^ k) : ∀ l : List Nat, (∀ d ∈ l, d < 256) → ((val l / 2 ^ j) &&& msk m l.length) + (val l &&& msk m l.length) = val (l.map (tb j m))
  | [], _ => by simp [val, msk]
  | d :: l, h => by
    have hd := h d (by simp)
    have ih := step_one j k m hjk hm l (fun x hx => h x (by simp [hx]))
    have hm2 : m < 256 := by
      have : 2 ^ k ≤ 2 ^ 8 := Nat.pow_le_pow_right (by decide) (by omega)
      have e8 : (2 : Nat) ^ 8 = 256 := rfl
      omega
    show (((d + 256 * val l) / 2 ^ j) &&& msk m (l.length + 1)) + ((d + 256 * val l) &&& msk m (l.length + 1)) = tb j m d + 256 * val (l.map (tb j m))
    rw [shr_and j k m d _ _ hjk hd hm, and_msk m d _ _ hd hm2, ← ih]
    unfold tb
    omega
/-- The third step: every nibble is at most 4. -/
def t3 (d : Nat) : Nat := (d / 16 + d) &&& 15
theorem t3_low : ∀ d : Nat, d < 69 → ∀ r : Nat, r < 5 → (d / 16 + 16 * r + d) &&& 15 = t3 d := by decide
theorem step_three : ∀ l : List Nat, (∀ d ∈ l, d < 69 ∧ d % 16 < 5) → (val l / 16 + val l) &&& msk 15 l.length = val (l.map t3)
  | [], _ => by simp [val, msk]
  | d :: l, h => by
    obtain ⟨hd, hd2⟩ := h d (by simp)
    have ih := step_three l (fun x hx => h x (by simp [hx]))
    have hr : val l % 16 < 5 := by
      match l, h with
      | [], _ => simp [val]
      | c :: l', h => have := (h c (by simp)).2; simp only [val]; omega
    show ((d + 256 * val l) / 16 + (d + 256 * val l)) &&& (15 + 256 * msk 15 l.length) = t3 d + 256 * val (l.map t3)
    have e : (d + 256 * val l) / 16 + (d + 256 * val l) = (d / 16 + 16 * (val l % 16) + d) + 256 * (val l / 16 + val l) := by omega
    rw [e, and_cons _ _ _ _ (by omega) (by decide), ih, t3_low d hd _ hr]
theorem byte_all : ∀ d : Nat, d < 256 → tb 1 85 d < 256 ∧ tb 2 51 (tb 1 85 d) < 69 ∧ tb 2 51 (tb 1 85 d) % 16 < 5 ∧ t3 (tb 2 51 (tb 1 85 d)) = pc d ∧ pc d ≤ 8 := by decide +kernel
/-- The bytes of a word. -/
def byt (x i : Nat) : Nat := x / 256 ^ i % 256
def bytes8 (x : Nat) : List Nat := [x % 256, x / 256 % 256, x / 65536 % 256, x / 16777216 % 256, x / 4294967296 % 256, x / 1099511627776 % 256, x / 281474976710656 % 256, x / 72057594037927936 % 256]
theorem val_bytes (x : Nat) (h : x < 18446744073709551616) : val (bytes8 x) = x := by
  simp only [bytes8, val]; omega
theorem bytes_lt (x : Nat) : ∀ d ∈ bytes8 x, d < 256 := by
  intro d hd
  simp only [bytes8, List.mem_cons, List.not_mem_nil, or_false] at hd
  omega
/-- The first three steps leave the number of ones of each byte. -/
def w1 (x : Nat) : Nat := ((x / 2) &&& 6148914691236517205) + (x &&& 6148914691236517205)
def w2 (x : Nat) : Nat := ((x / 4) &&& 3689348814741910323) + (x &&& 3689348814741910323)
def w3 (x : Nat) : Nat := (x / 16 + x) &&& 1085102592571150095
theorem steps (x : Nat) (h : x < 18446744073709551616) : w3 (w2 (w1 x)) = val ((bytes8 x).map pc) := by
  have b := bytes_lt x
  have hl : (bytes8 x).length = 8 := rfl
  have m1 : msk 85 8 = 6148914691236517205 := by decide
  have m2 : msk 51 8 = 3689348814741910323 := by decide
  have m3 : msk 15 8 = 1085102592571150095 := by decide
  have e1 : w1 x = val ((bytes8 x).map (tb 1 85)) := by
    have := step_one 1 7 85 rfl (by decide) (bytes8 x) b
    rw [val_bytes x h, hl, m1, Nat.pow_one] at this
    exact this
  have e2 : w2 (w1 x) = val (((bytes8 x).map (tb 1 85)).map (tb 2 51)) := by
    have := step_one 2 6 51 rfl (by decide) ((bytes8 x).map (tb 1 85)) (by
      intro d hd
      obtain ⟨c, hc, rfl⟩ := List.mem_map.1 hd
      exact (byte_all c (b c hc)).1)
    rw [← e1, List.length_map, hl, m2, show (2 : Nat) ^ 2 = 4 from rfl] at this
    exact this
  have e3 : w3 (w2 (w1 x)) = val ((((bytes8 x).map (tb 1 85)).map (tb 2 51)).map t3) := by
    have := step_three (((bytes8 x).map (tb 1 85)).map (tb 2 51)) (by
      intro d hd
      obtain ⟨c, hc, rfl⟩ := List.mem_map.1 hd
      obtain ⟨c', hc', rfl⟩ := List.mem_map.1 hc
      have := byte_all c' (b c' hc')
      exact ⟨this.2.1, this.2.2.1⟩)
    rw [← e2, List.length_map, List.length_map, hl, m3] at this
    exact this
  rw [e3, List.map_map, List.map_map]
  congr 1
  refine List.map_congr_left fun d hd => ?_
  exact (byte_all d (b d hd)).2.2.2.1
/-- The last three steps add the bytes. -/
theorem last_sum (p0 p1 p2 p3 p4 p5 p6 p7 y : Nat) (h0 : p0 ≤ 8) (h1 : p1 ≤ 8) (h2 : p2 ≤ 8) (h3 : p3 ≤ 8) (h4 : p4 ≤ 8) (h5 : p5 ≤ 8) (h6 : p6 ≤ 8) (h7 : p7 ≤ 8)
    (hy : y = val [p0, p1, p2, p3, p4, p5, p6, p7]) (a b c : Nat) (ha : a = y + y / 256) (hb : b = a + a / 65536) (hc : c = b + b / 4294967296) :
    c % 128 = p0 + p1 + p2 + p3 + p4 + p5 + p6 + p7 ∧ c < 9223372036854775808 ∧ y < 9223372036854775808 := by
  simp only [val] at hy
  have d1 : y / 256 = p1 + 256 * (p2 + 256 * (p3 + 256 * (p4 + 256 * (p5 + 256 * (p6 + 256 * p7))))) := by omega
  have a1 : a = (p0 + p1) + 256 * ((p1 + p2) + 256 * ((p2 + p3) + 256 * ((p3 + p4) + 256 * ((p4 + p5) + 256 * ((p5 + p6) + 256 * ((p6 + p7) + 256 * p7)))))) := by omega
  have hyb : y < 9223372036854775808 := by omega
  clear hy ha d1
  have d2 : a / 65536 = (p2 + p3) + 256 * ((p3 + p4) + 256 * ((p4 + p5) + 256 * ((p5 + p6) + 256 * ((p6 + p7) + 256 * p7)))) := by omega
  have b1 : b = (p0 + p1 + p2 + p3) + 256 * ((p1 + p2 + p3 + p4) + 256 * ((p2 + p3 + p4 + p5) + 256 * ((p3 + p4 + p5 + p6) + 256 * ((p4 + p5 + p6 + p7) + 256 * ((p5 + p6 + p7) + 256 * ((p6 + p7) + 256 * p7)))))) := by omega
  clear a1 hb d2
  have d3 : b / 4294967296 = (p4 + p5 + p6 + p7) + 256 * ((p5 + p6 + p7) + 256 * ((p6 + p7) + 256 * p7)) := by omega
  have c1 : c = (p0 + p1 + p2 + p3 + p4 + p5 + p6 + p7) + 256 * ((p1 + p2 + p3 + p4 + p5 + p6 + p7) + 256 * ((p2 + p3 + p4 + p5 + p6 + p7) + 256 * ((p3 + p4 + p5 + p6 + p7) + 256 * ((p4 + p5 + p6 + p7) + 256 * ((p5 + p6 + p7) + 256 * ((p6 + p7) + 256 * p7)))))) := by omega
  clear b1 hc d3
  refine ⟨?_, by omega, hyb⟩
  omega
theorem popc_bytes (x : Nat) : popc 64 x = pc (x % 256) + pc (x / 256 % 256) + pc (x / 65536 % 256) + pc (x / 16777216 % 256) + pc (x / 4294967296 % 256) + pc (x / 1099511627776 % 256) + pc (x / 281474976710656 % 256) + pc (x / 72057594037927936 % 256) := by
  have e0 : popc 64 x = _ := popc_byte 56 x
  have e1 : popc 56 (x / 256) = _ := popc_byte 48 (x / 256)
  have e2 : popc 48 (x / 256 / 256) = _ := popc_byte 40 (x / 256 / 256)
  have e3 : popc 40 (x / 256 / 256 / 256) = _ := popc_byte 32 (x / 256 / 256 / 256)
  have e4 : popc 32 (x / 256 / 256 / 256 / 256) = _ := popc_byte 24 (x / 256 / 256 / 256 / 256)
  have e5 : popc 24 (x / 256 / 256 / 256 / 256 / 256) = _ := popc_byte 16 (x / 256 / 256 / 256 / 256 / 256)
  have e6 : popc 16 (x / 256 / 256 / 256 / 256 / 256 / 256) = _ := popc_byte 8 (x / 256 / 256 / 256 / 256 / 256 / 256)
  have e7 : popc 8 (x / 256 / 256 / 256 / 256 / 256 / 256 / 256) = _ := popc_byte 0 (x / 256 / 256 / 256 / 256 / 256 / 256 / 256)
  rw [e0, e1, e2, e3, e4, e5, e6, e7]
  rw [show popc 0 (x / 256 / 256 / 256 / 256 / 256 / 256 / 256 / 256) = 0 from rfl]
  simp only [Nat.div_div_eq_div_mul, Nat.reduceMul]
  omega
/-- The number of ones, as the function of the library reckons it. -/
theorem ones_val (x y a b c : Nat) (h : x < 18446744073709551616) (hy : y = w3 (w2 (w1 x))) (ha : a = y + y / 256) (hb : b = a + a / 65536) (hc : c = b + b / 4294967296) :
    c % 128 = popc 64 x ∧ c < 9223372036854775808 ∧ y < 9223372036854775808 := by
  rw [steps x h] at hy
  have := last_sum (pc (x % 256)) (pc (x / 256 % 256)) (pc (x / 65536 % 256)) (pc (x / 16777216 % 256)) (pc (x / 4294967296 % 256)) (pc (x / 1099511627776 % 256)) (pc (x / 281474976710656 % 256)) (pc (x / 72057594037927936 % 256)) y
    (popc_le _ _) (popc_le _ _) (popc_le _ _) (popc_le _ _) (popc_le _ _) (popc_le _ _) (popc_le _ _) (popc_le _ _) hy a b c ha hb hc
  rw [popc_bytes]
  exact this
end Go.Proofs.Ythkdojgagmaecab
