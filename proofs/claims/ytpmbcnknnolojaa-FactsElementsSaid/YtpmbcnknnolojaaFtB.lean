/- Masks, signs and bits of words of a width, as the program and the reference compute them. -/
import Derived.Test.YtpmbcnknnolojaaFm
import Derived.Test.YtpmbcnknnolojaaFt
namespace Go.Proofs.Ytpmbcnknnolojaa.Abs
open Go
set_option linter.unusedVariables false
set_option linter.unusedSimpArgs false

theorem wrapi_any {n : Int} (h0 : 0 ≤ n) (h1 : n < 18446744073709551616) : IntKind.i64.wrap n = if n < 9223372036854775808 then n else n - 18446744073709551616 := by
  simp [IntKind.wrap, IntKind.bits, IntKind.signed]
  split <;> split <;> omega
theorem p_int (W : Nat) : ((2 : Int) ^ W) = ((2 ^ W : Nat) : Int) := by simp
theorem wid_of {x : Int} (h1 : 1 ≤ x) (h2 : x ≤ 64) : ∃ W : Nat, x = (W : Int) ∧ Wid W := ⟨x.toNat, by omega, ⟨by omega, by omega⟩⟩

theorem mask_ok {W : Nat} (h : W ≤ 64) : F79 (W : Int) = some (nv (mk W)) := by
  apply Yields.eq
  unfold F79
  refine Yields.bif (fun hc => ?_) (fun hc => Yields.bif (fun hd => ?_) (fun hd => Yields.bif (fun he => ?_) (fun _ => ?_)))
  · have hc := of_decide_eq_true hc
    have : W = 0 := by omega
    subst this; exact Yields.some rfl
  · have hd := of_decide_eq_true hd
    have : W = 64 := by omega
    subst this; exact Yields.some rfl
  · have he := of_decide_eq_true he
    rw [wrapu] at he; omega
  · have hc := of_decide_eq_false hc
    have hd := of_decide_eq_false hd
    refine Yields.some ?_
    unfold F79__1
    have e1 : min (IntKind.u64.wrap (W : Int)).toNat 64 = W := by rw [wrap_u64 (by omega) (by omega)]; omega
    have h2 : 2 ^ W ≤ 9223372036854775808 := by
      have : 2 ^ W ≤ 2 ^ 63 := Nat.pow_le_pow_right (by decide) (by omega)
      simpa using this
    have h3 := p_pos W
    rw [e1, p_int, mk_nv h]
    rw [show IntKind.u64.wrap (1 * ((2 ^ W : Nat) : Int)) = ((2 ^ W : Nat) : Int) by rw [wrap_u64] <;> omega]
    rw [wrap_u64] <;> omega
theorem rmask_ok {W : Nat} (h : W ≤ 64) : F99 (W : Int) = some (nv (mk W)) := by
  apply Yields.eq
  unfold F99
  refine Yields.bind (P := fun y => y = nv (mk W)) (Yields.loop W (fun (i : Nat) z => z.2 = (i : Int) ∧ z.1 = ((2 ^ i : Nat) : Int) - 1) ⟨rfl, rfl⟩ ?_) (fun y hy => Yields.some hy)
  rintro i ⟨a, b⟩ hi ⟨h1, h2⟩
  simp only at h1 h2
  subst h1 h2
  unfold F99_s1
  simp only
  refine Yields.bif (fun hc => ?_) (fun hc => ?_)
  · have hc := of_decide_eq_true hc
    have h3 := p_pos i
    have h4 := p_le (W := i + 1) (by omega)
    rw [Nat.pow_succ] at h4
    refine Yields.some ⟨by omega, ?_, ?_⟩
    · simp only; rw [wrap_i64] <;> omega
    · simp only
      rw [Nat.pow_succ]
      rw [show IntKind.u64.wrap ((((2 ^ i : Nat) : Int) - 1) * 2) = (((2 ^ i : Nat) : Int) - 1) * 2 by rw [wrap_u64] <;> omega]
      rw [wrap_u64] <;> omega
  · have hc := of_decide_eq_false hc
    have : i = W := by omega
    subst this
    exact Yields.some (mk_nv h).symm
structure PW (W : Nat) (p : Int) : Prop where
  ep : ((2 ^ (W - 1) : Nat) : Int) = p
  eW : ((2 ^ W : Nat) : Int) = 2 * p
  one : 1 ≤ p
  top : p ≤ 9223372036854775808
theorem pw {W : Nat} (h : Wid W) : PW W ((2 ^ (W - 1) : Nat) : Int) := by
  have h1 := p_half h.one
  have h2 := p_pos (W - 1)
  have h3 : 2 ^ (W - 1) ≤ 9223372036854775808 := by
    have : 2 ^ (W - 1) ≤ 2 ^ 63 := Nat.pow_le_pow_right (by decide) (by have := h.top; omega)
    simpa using this
  exact ⟨rfl, by omega, by omega, by omega⟩
theorem w1 {W : Nat} (h : Wid W) : IntKind.i64.wrap ((W : Int) - 1) = ((W - 1 : Nat) : Int) := by
  have := h.one
  have := h.top
  rw [wrap_i64] <;> omega
theorem least_ok {W : Nat} (h : Wid W) : F93 (W : Int) = some (-((2 ^ (W - 1) : Nat) : Int)) := by
  have h1 := h.one
  have h2 := h.top
  have hp := pw h
  apply Yields.eq
  unfold F93
  rw [w1 h]
  refine Yields.bif (fun he => ?_) (fun _ => Yields.some ?_)
  · have he := of_decide_eq_true he
    rw [wrapu] at he; omega
  · unfold F93__1
    rw [w1 h, show min (IntKind.u64.wrap ((W - 1 : Nat) : Int)).toNat 64 = W - 1 by rw [wrap_u64 (by omega) (by omega)]; omega, p_int, hp.ep]
    have := hp.one
    have := hp.top
    rw [wrap_i64] <;> omega
theorem most_ok {W : Nat} (h : Wid W) : F94 (W : Int) = some (((2 ^ (W - 1) : Nat) : Int) - 1) := by
  have h2 := h.top
  have hp := pw h
  unfold F94
  rw [w1 h, mask_ok (by omega)]
  show some _ = some _
  rw [mk_nv (by omega)]
  have := hp.ep
  have := hp.one
  have := hp.top
  rw [wrap_i64] <;> omega
theorem umax_ok {W : Nat} (h : W ≤ 64) : F95 (W : Int) = some (nv (mk W)) := by unfold F95; rw [rmask_ok h]; rfl
theorem smax_ok {W : Nat} (h : Wid W) : F97 (W : Int) = some (((2 ^ (W - 1) : Nat) : Int) - 1) := by
  have hp := pw h
  unfold F97
  rw [umax_ok h.top]
  show some _ = some _
  rw [mk_nv h.top, hp.eW]
  have h1 := hp.one
  have h2 := hp.top
  have e : (2 * ((2 ^ (W - 1) : Nat) : Int) - 1).fdiv (2 ^ 1) = ((2 ^ (W - 1) : Nat) : Int) - 1 := by
    rw [Int.fdiv_eq_ediv_of_nonneg _ (by decide)]
    omega
  rw [e]
  rw [wrap_i64] <;> omega
theorem smin_ok {W : Nat} (h : Wid W) : F96 (W : Int) = some (-((2 ^ (W - 1) : Nat) : Int)) := by
  have hp := pw h
  have h1 := hp.one
  have h2 := hp.top
  unfold F96
  rw [smax_ok h]
  show some _ = some _
  congr 1
  rw [show IntKind.i64.wrap (0 - (((2 ^ (W - 1) : Nat) : Int) - 1)) = 0 - (((2 ^ (W - 1) : Nat) : Int) - 1) by rw [wrap_i64] <;> omega]
  rw [wrap_i64] <;> omega
theorem fit_ok {W : Nat} (h : W ≤ 64) (n : Int) : F98 (W : Int) n = some (nv (BitVec.ofInt 64 n &&& mk W)) := by
  unfold F98
  rw [mask_ok h]
  show some _ = some _
  rw [ofInt_nv, wrap_tn]
theorem from_ok {W : Nat} (h : W ≤ 64) (n : Int) : F101 (W : Int) n = some (n % (2 ^ W : Nat)) := by
  unfold F101
  rw [fit_ok h]
  show some _ = some _
  rw [ofInt_wrap, and_mk_nv h]
theorem shr_nv (x : Wd) (k : Nat) : (nv x).fdiv (2 ^ k) = ((x.toNat / 2 ^ k : Nat) : Int) := by
  unfold nv
  rw [p_int, Int.fdiv_eq_ediv_of_nonneg _ (by have := p_pos k; omega)]
  rw [Int.natCast_ediv]
theorem or_not {W : Nat} (h : W ≤ 64) {x : Wd} (hx : Fits W x) : nv (x ||| ~~~ (mk W)) = nv x + 18446744073709551616 - (2 ^ W : Nat) := by
  have e := (not_mk h).2 hx
  have e2 := BitVec.add_eq_or_of_and_eq_zero x (~~~ (mk W)) e
  rw [← e2]
  unfold nv
  rw [BitVec.toNat_add, BitVec.toNat_not, mk_nat h]
  have := p_le h
  have := p_pos W
  unfold Fits at hx
  rw [Nat.mod_eq_of_lt (by omega)]
  omega
theorem ones_xor (x : Wd) : IntKind.u64.wrap (((BitVec.ofInt 64 18446744073709551615 ^^^ BitVec.ofInt 64 (nv x)).toNat : Nat) : Int) = nv (~~~ x) := by
  rw [ofInt_nv, wrap_tn]
  congr 1
theorem sg64 (x : Wd) : IntKind.i64.wrap (nv x) = sg 64 (nv x) := by
  have h0 := nv_nn x
  have h1 := nv_lt x
  rw [wrapi_any h0 h1]
  rfl
theorem neg_val {W : Nat} (h : Wid W) {x : Wd} (hx : Fits W x) (hs : ((2 ^ (W - 1) : Nat) : Int) ≤ nv x) : IntKind.i64.wrap (nv (x ||| ~~~ (mk W))) = sg W (nv x) := by
  have hp := pw h
  have h0 := nv_nn (x ||| ~~~ (mk W))
  have h1 := nv_lt (x ||| ~~~ (mk W))
  rw [wrapi_any h0 h1, or_not h.top hx]
  unfold sg
  have h2 := nv_lt x
  have h3 : nv x < (2 ^ W : Nat) := by unfold Fits at hx; unfold nv; omega
  have := hp.eW
  have := hp.top
  rw [if_neg (by omega), if_neg (by omega)]
  omega
theorem pos_val {W : Nat} (h : Wid W) {x : Wd} (hs : nv x < ((2 ^ (W - 1) : Nat) : Int)) : IntKind.i64.wrap (nv x) = sg W (nv x) := by
  have hp := pw h
  have := hp.top
  have := nv_nn x
  unfold sg
  rw [if_pos hs, wrap_i64] <;> omega
theorem signed_ok {W : Nat} (h : Wid W) {x : Wd} (hx : Fits W x) : F80 (W : Int) (nv x) = some (sg W (nv x)) := by
  have h1 := h.one
  have h2 := h.top
  apply Yields.eq
  unfold F80
  refine Yields.bif (fun hc => ?_) (fun hc => Yields.bif (fun hd => ?_) (fun hd => ?_))
  · have hc := of_decide_eq_true hc; omega
  · have hd := of_decide_eq_true hd
    have : W = 64 := by omega
    subst this
    exact Yields.some (sg64 x)
  · have e0 : F98 (W : Int) (nv x) = some (nv x) := by rw [fit_ok h.top, ofInt_nv, and_mk h.top hx]
    refine Yields.bindE e0 ?_
    rw [w1 h]
    refine Yields.bif (fun he => ?_) (fun _ => ?_)
    · have he := of_decide_eq_true he
      rw [wrapu] at he; omega
    have hd := of_decide_eq_false hd
    rw [show min (IntKind.u64.wrap ((W - 1 : Nat) : Int)).toNat 64 = W - 1 by rw [wrap_u64 (by omega) (by omega)]; omega, shr_nv]
    have hp := p_pos (W - 1)
    refine Yields.bif (fun hs => ?_) (fun hs => ?_)
    · have hs : x.toNat / 2 ^ (W - 1) ≠ 0 := by
        intro e; rw [e] at hs; cases hs
      have hs : 2 ^ (W - 1) ≤ x.toNat := by
        rcases Nat.lt_or_ge x.toNat (2 ^ (W - 1)) with q | q
        · exact absurd (Nat.div_eq_of_lt q) hs
        · exact q
      refine Yields.bindE (mask_ok h.top) (Yields.some ?_)
      unfold F80__1
      rw [ones_xor, ofInt_nv, ofInt_nv, wrap_tn]
      exact neg_val h hx (by unfold nv; omega)
    · have hs : x.toNat / 2 ^ (W - 1) = 0 := by
        have := bne_eq_false_iff_eq.1 hs; omega
      have hs : x.toNat < 2 ^ (W - 1) := by
        rcases Nat.lt_or_ge x.toNat (2 ^ (W - 1)) with q | q
        · exact q
        · have := (Nat.le_div_iff_mul_le hp).2 (show 1 * 2 ^ (W - 1) ≤ x.toNat by omega); omega
      exact Yields.some (pos_val h (by unfold nv; omega))
def b2i (b : Bool) : Int := bif b then 1 else 0
theorem bit_ok (x : Wd) {i : Nat} (h : i < 64) : F86 (nv x) (i : Int) = some (b2i (x.getLsbD i)) := by
  apply Yields.eq
  unfold F86
  refine Yields.bif (fun hc => ?_) (fun _ => Yields.some ?_)
  · have hc := of_decide_eq_true hc; omega
  · unfold F86__1
    rw [show min ((i : Int)).toNat 64 = i by omega, shr_nv]
    have e : ((x.toNat / 2 ^ i : Nat) : Int) = nv (x >>> i) := by unfold nv; rw [BitVec.toNat_ushiftRight, Nat.shiftRight_eq_div_pow]
    rw [e, ofInt_nv, wrap_tn]
    have e2 : (x >>> i &&& BitVec.ofInt 64 1) = bif x.getLsbD i then 1#64 else 0#64 := by
      apply BitVec.eq_of_toNat_eq
      rw [BitVec.toNat_and, BitVec.toNat_ushiftRight, Nat.shiftRight_eq_div_pow, show (BitVec.ofInt 64 1).toNat = 1 from by decide, Nat.and_one_is_mod]
      unfold BitVec.getLsbD
      rw [Nat.testBit_eq_decide_div_mod_eq]
      have hm := Nat.mod_two_eq_zero_or_one (x.toNat / 2 ^ i)
      rcases hm with hm | hm <;> rw [hm] <;> rfl
    rw [e2]
    cases x.getLsbD i <;> rfl
theorem rsigned_ok {W : Nat} (h : Wid W) {x : Wd} (hx : Fits W x) : F100 (W : Int) (nv x) = some (sg W (nv x)) := by
  have h1 := h.one
  have h2 := h.top
  apply Yields.eq
  unfold F100
  rw [w1 h]
  refine Yields.bindE (bit_ok x (by omega)) ?_
  have hs := sign_iff h hx
  refine Yields.bif (fun hc => ?_) (fun hc => ?_)
  · have hb : x.getLsbD (W - 1) = true := by
      cases hq : x.getLsbD (W - 1) with
      | true => rfl
      | false => rw [hq] at hc; cases hc
    refine Yields.bindE (rmask_ok h.top) (Yields.some ?_)
    unfold F100__1
    rw [ones_xor, ofInt_nv, ofInt_nv, wrap_tn]
    have := hs.1 hb
    exact neg_val h hx (by unfold nv; omega)
  · have hb : ¬ x.getLsbD (W - 1) = true := by
      intro hq; rw [hq] at hc; cases hc
    refine Yields.some (pos_val h ?_)
    have : ¬ 2 ^ (W - 1) ≤ x.toNat := fun e => hb (hs.2 e)
    unfold nv; omega
end Go.Proofs.Ytpmbcnknnolojaa.Abs
