/- Words of 64 bits as plain numbers, and words of a width. -/
import Derived.Test.YtpmbcnknnolojaaVw
namespace Go.Proofs.Ytpmbcnknnolojaa.Abs
open Go
set_option linter.unusedVariables false
set_option linter.unusedSimpArgs false

theorem wrapu (n : Int) : IntKind.u64.wrap n = n % 18446744073709551616 := by simp [IntKind.wrap, IntKind.bits, IntKind.signed]
abbrev Wd := BitVec 64
def nv (x : Wd) : Int := (x.toNat : Int)
theorem nv_lt (x : Wd) : nv x < 18446744073709551616 := by have := x.isLt; unfold nv; omega
theorem nv_nn (x : Wd) : 0 ≤ nv x := by unfold nv; omega
theorem ofInt_nv (x : Wd) : BitVec.ofInt 64 (nv x) = x := by
  apply BitVec.eq_of_toNat_eq
  have := x.isLt
  unfold nv
  rw [BitVec.toNat_ofInt]
  omega
theorem wrap_u64 {n : Int} (h0 : 0 ≤ n) (h1 : n < 18446744073709551616) : IntKind.u64.wrap n = n := by rw [wrapu]; omega
theorem wrap_nv (x : Wd) : IntKind.u64.wrap (nv x) = nv x := wrap_u64 (nv_nn x) (nv_lt x)
theorem wrap_tn (x : Wd) : IntKind.u64.wrap (x.toNat : Int) = nv x := wrap_nv x
theorem nv_ex {n : Int} (h0 : 0 ≤ n) (h1 : n < 18446744073709551616) : ∃ x, n = nv x := by
  refine ⟨BitVec.ofInt 64 n, ?_⟩
  unfold nv; rw [BitVec.toNat_ofInt]; omega
theorem ofInt_wrap (n : Int) : BitVec.ofInt 64 (IntKind.u64.wrap n) = BitVec.ofInt 64 n := by
  apply BitVec.eq_of_toNat_eq
  rw [BitVec.toNat_ofInt, BitVec.toNat_ofInt, wrapu]
  omega
theorem nv_inj {x y : Wd} : nv x = nv y ↔ x = y := by
  constructor
  · intro h; apply BitVec.eq_of_toNat_eq; unfold nv at h; omega
  · rintro rfl; rfl
theorem nv_zero {x : Wd} : nv x = 0 ↔ x = 0#64 := by
  rw [← nv_inj]; rfl

/-! A width. -/
structure Wid (W : Nat) : Prop where
  one : 1 ≤ W
  top : W ≤ 64
theorem p_le {W : Nat} (h : W ≤ 64) : 2 ^ W ≤ 18446744073709551616 := by
  have : 2 ^ W ≤ 2 ^ 64 := Nat.pow_le_pow_right (by decide) h
  simpa using this
theorem p_half {W : Nat} (h : 1 ≤ W) : 2 ^ W = 2 * 2 ^ (W - 1) := by
  have : W = (W - 1) + 1 := by omega
  rw [this, Nat.pow_succ]; simp [Nat.mul_comm]
theorem p_pos (W : Nat) : 0 < 2 ^ W := Nat.pow_pos (by decide)
/-- The mask of a width. -/
def mk (W : Nat) : Wd := BitVec.ofNat 64 (2 ^ W - 1)
theorem mk_nat {W : Nat} (h : W ≤ 64) : (mk W).toNat = 2 ^ W - 1 := by
  unfold mk; rw [BitVec.toNat_ofNat]
  have := p_le h
  have := p_pos W
  exact Nat.mod_eq_of_lt (by omega)
theorem mk_nv {W : Nat} (h : W ≤ 64) : nv (mk W) = (2 ^ W : Nat) - 1 := by
  unfold nv; rw [mk_nat h]; have := p_pos W; omega
theorem mk_bit {W : Nat} (h : W ≤ 64) (i : Nat) : (mk W).getLsbD i = decide (i < W) := by
  unfold BitVec.getLsbD
  rw [mk_nat h, Nat.testBit_two_pow_sub_one]
/-- The sign's word. -/
def sb (W : Nat) : Wd := BitVec.ofNat 64 (2 ^ (W - 1))
theorem sb_nat {W : Nat} (h : Wid W) : (sb W).toNat = 2 ^ (W - 1) := by
  unfold sb; rw [BitVec.toNat_ofNat]
  have := p_le h.top
  have := p_half h.one
  have := p_pos (W - 1)
  exact Nat.mod_eq_of_lt (by omega)
theorem sb_bit {W : Nat} (h : Wid W) (i : Nat) : (sb W).getLsbD i = decide (W - 1 = i) := by
  unfold BitVec.getLsbD
  rw [sb_nat h, Nat.testBit_two_pow]
/-- Words that fit. -/
def Fits (W : Nat) (x : Wd) : Prop := x.toNat < 2 ^ W
theorem fits_bits {W : Nat} {x : Wd} : Fits W x ↔ ∀ i, W ≤ i → x.getLsbD i = false := by
  constructor
  · intro h i hi
    unfold BitVec.getLsbD
    exact Nat.testBit_lt_two_pow (Nat.lt_of_lt_of_le h (Nat.pow_le_pow_right (by decide) hi))
  · intro h
    exact Nat.lt_pow_two_of_testBit _ fun i hi => h i hi
theorem fits_mk {W : Nat} (h : W ≤ 64) {x : Wd} : Fits W x ↔ nv x ≤ nv (mk W) := by
  rw [mk_nv h]; unfold Fits nv; have := p_pos W; omega
theorem not_mk {W : Nat} (h : W ≤ 64) {x : Wd} : x &&& ~~~ (mk W) = 0#64 ↔ Fits W x := by
  rw [fits_bits]
  constructor
  · intro e i hi
    by_cases h64 : i < 64
    · have := congrArg (fun v => BitVec.getLsbD v i) e
      simp only [BitVec.getLsbD_and, BitVec.getLsbD_not, mk_bit h, BitVec.getLsbD_zero, h64, decide_true, Bool.true_and] at this
      rw [decide_eq_false (by omega)] at this
      simpa using this
    · exact BitVec.getLsbD_of_ge x i (by omega)
  · intro hb
    apply BitVec.eq_of_getLsbD_eq
    intro i hi
    simp only [BitVec.getLsbD_and, BitVec.getLsbD_not, mk_bit h, BitVec.getLsbD_zero, hi, decide_true, Bool.true_and]
    by_cases hw : W ≤ i
    · rw [hb i hw]; rfl
    · rw [decide_eq_true (by omega)]; simp
theorem and_mk {W : Nat} (h : W ≤ 64) {x : Wd} (hx : Fits W x) : x &&& mk W = x := by
  apply BitVec.eq_of_getLsbD_eq
  intro i hi
  rw [BitVec.getLsbD_and, mk_bit h]
  by_cases hw : W ≤ i
  · rw [fits_bits.1 hx i hw]; rfl
  · rw [decide_eq_true (by omega), Bool.and_true]
theorem fits_and {W : Nat} (h : W ≤ 64) (x : Wd) : Fits W (x &&& mk W) := by
  rw [fits_bits]
  intro i hi
  rw [BitVec.getLsbD_and, mk_bit h, decide_eq_false (by omega), Bool.and_false]
theorem and_mk_nv {W : Nat} (h : W ≤ 64) (n : Int) : nv (BitVec.ofInt 64 n &&& mk W) = n % (2 ^ W : Nat) := by
  unfold nv mk
  have e : (BitVec.ofInt 64 n &&& BitVec.ofNat 64 (2 ^ W - 1)).toNat = (BitVec.ofInt 64 n).toNat % 2 ^ W := by
    rw [BitVec.toNat_and, show (BitVec.ofNat 64 (2 ^ W - 1)).toNat = 2 ^ W - 1 from mk_nat h, Nat.and_two_pow_sub_one_eq_mod]
  rw [e, BitVec.toNat_ofInt]
  have hd : ((2 ^ W : Nat) : Int) ∣ ((2 ^ 64 : Nat) : Int) := by
    rw [Int.natCast_dvd_natCast]; exact Nat.pow_dvd_pow 2 h
  have h0 : 0 ≤ n % ((2 ^ 64 : Nat) : Int) := Int.emod_nonneg _ (by decide)
  rw [Int.natCast_emod, Int.toNat_of_nonneg h0, Int.emod_emod_of_dvd _ hd]
theorem sign_iff {W : Nat} (h : Wid W) {x : Wd} (hx : Fits W x) : x.getLsbD (W - 1) = true ↔ 2 ^ (W - 1) ≤ x.toNat := by
  unfold BitVec.getLsbD Fits at *
  rw [Nat.testBit_eq_decide_div_mod_eq]
  have hp := p_pos (W - 1)
  rw [p_half h.one] at hx
  have hq : x.toNat / 2 ^ (W - 1) < 2 := Nat.div_lt_of_lt_mul (by rw [Nat.mul_comm]; exact hx)
  have hm : x.toNat / 2 ^ (W - 1) % 2 = x.toNat / 2 ^ (W - 1) := Nat.mod_eq_of_lt hq
  rw [hm]
  constructor
  · intro e
    have e := of_decide_eq_true e
    have := Nat.div_mul_le_self x.toNat (2 ^ (W - 1))
    rw [e] at this; omega
  · intro e
    have : 1 ≤ x.toNat / 2 ^ (W - 1) := (Nat.le_div_iff_mul_le hp).2 (by omega)
    exact decide_eq_true (by omega)
/-- The signed number of a word that fits. -/
def sg (W : Nat) (n : Int) : Int := if n < (2 ^ (W - 1) : Nat) then n else n - (2 ^ W : Nat)

theorem and_le (x y : Wd) : (x &&& y).toNat ≤ x.toNat := by rw [BitVec.toNat_and]; exact Nat.and_le_left
theorem sub_le {x y : Wd} (h : x &&& y = y) : nv y ≤ nv x := by
  have := and_le x y; rw [h] at this; unfold nv; omega
theorem fits_le {W : Nat} {x y : Wd} (h : Fits W x) (hl : nv y ≤ nv x) : Fits W y := by
  unfold Fits nv at *; omega
theorem fits_sub {W : Nat} {x y : Wd} (h : Fits W x) (hl : x &&& y = y) : Fits W y := fits_le h (sub_le hl)

/-- The length of a word. -/
def IsLen (x : Nat) (l : Nat) : Prop := x < 2 ^ l ∧ (l = 0 ∨ 2 ^ (l - 1) ≤ x)
theorem IsLen.up {x l k : Nat} (h : IsLen (x / 2 ^ k) l) (hl : 1 ≤ x / 2 ^ k) : IsLen x (k + l) := by
  obtain ⟨h1, h2⟩ := h
  have hp := p_pos k
  rcases h2 with h2 | h2
  · subst h2; rw [Nat.pow_zero] at h1; omega
  have l1 : 1 ≤ l := by
    rcases Nat.eq_zero_or_pos l with e | e
    · subst e; rw [Nat.pow_zero] at h1; omega
    · exact e
  refine ⟨?_, .inr ?_⟩
  · rw [Nat.pow_add]; exact (Nat.div_lt_iff_lt_mul hp).1 h1 |> fun h => by rw [Nat.mul_comm]; exact h
  · have : 2 ^ (l - 1) * 2 ^ k ≤ x := (Nat.le_div_iff_mul_le hp).1 h2
    rw [show k + l - 1 = (l - 1) + k by omega, Nat.pow_add]; exact this
/-- What lies between words that agree from a bit on agrees there too. -/
theorem between {a b n : Wd} {l : Nat} (h : (a ^^^ b).toNat < 2 ^ l) (h1 : nv a ≤ nv n) (h2 : nv n ≤ nv b) : ∀ i, l ≤ i → n.getLsbD i = a.getLsbD i := by
  have hp := p_pos l
  have hab : a.toNat / 2 ^ l = b.toNat / 2 ^ l := by
    apply Nat.eq_of_testBit_eq
    intro i
    rw [Nat.testBit_div_two_pow, Nat.testBit_div_two_pow]
    have h3 : (a ^^^ b).toNat.testBit (l + i) = false := Nat.testBit_lt_two_pow (Nat.lt_of_lt_of_le h (Nat.pow_le_pow_right (by decide) (by omega)))
    rw [BitVec.toNat_xor, Nat.testBit_xor] at h3
    revert h3
    rw [Nat.add_comm i l] <;> try rfl
    cases a.toNat.testBit (l + i) <;> cases b.toNat.testBit (l + i) <;> simp
  have hn : n.toNat / 2 ^ l = a.toNat / 2 ^ l := by
    have k1 : a.toNat / 2 ^ l ≤ n.toNat / 2 ^ l := Nat.div_le_div_right (by unfold nv at h1; omega)
    have k2 : n.toNat / 2 ^ l ≤ b.toNat / 2 ^ l := Nat.div_le_div_right (by unfold nv at h2; omega)
    omega
  intro i hi
  have e := congrArg (fun v => Nat.testBit v (i - l)) hn
  simp only [Nat.testBit_div_two_pow] at e
  rw [show i - l + l = i by omega] at e
  exact e
end Go.Proofs.Ytpmbcnknnolojaa.Abs
