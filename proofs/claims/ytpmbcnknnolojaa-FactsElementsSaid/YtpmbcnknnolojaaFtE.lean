/- Facts: tightening in the program and in the reference yields the same. -/
import Derived.Test.YtpmbcnknnolojaaFtD
namespace Go.Proofs.Ytpmbcnknnolojaa.Abs
open Go
set_option linter.unusedVariables false
set_option linter.unusedSimpArgs false

theorem len_uniq {x l : Nat} (h : IsLen x l) : l = blen x := by
  have h2 := blen_len x
  have := len_le h h2.1
  have := len_le h2 h.1
  omega
/-- The bits from l on, below W. -/
def gb (W l : Nat) : Wd := mk W &&& ~~~ (mk l)
theorem gb_bit {W l : Nat} (hW : W ≤ 64) (hl : l ≤ 64) {i : Nat} (hi : i < 64) : (gb W l).getLsbD i = (decide (i < W) && !decide (i < l)) := by
  unfold gb
  rw [BitVec.getLsbD_and, BitVec.getLsbD_not, mk_bit hW, mk_bit hl, decide_eq_true hi, Bool.true_and]
def zz (W : Nat) (z X : Wd) (l : Nat) : Wd := z ||| (gb W l &&& ~~~ X)
def oo (W : Nat) (o X : Wd) (l : Nat) : Wd := o ||| (gb W l &&& X)
abbrev R7 := Int × Int × Int × Int × Int × Int × Bool
def no7 : R7 := (0, 0, 0, 0, 0, 0, false)
def outK (W : Nat) (z o X Y : Wd) (e f : Int) : R7 :=
  if zz W z X (blen (X ^^^ Y).toNat) &&& oo W o X (blen (X ^^^ Y).toNat) = 0#64 then
    (nv (zz W z X (blen (X ^^^ Y).toNat)), nv (oo W o X (blen (X ^^^ Y).toNat)), nv X, nv Y, e, f, true)
  else no7
def outR (W : Nat) (z o : Wd) (R : Rg) : R7 := bif R.2.2.2.2 then outK W z o (BitVec.ofInt 64 R.1) (BitVec.ofInt 64 R.2.1) R.2.2.1 R.2.2.2.1 else no7

def hiW (W : Nat) (z : Wd) : Wd := mk W &&& ~~~ z
def leW (W : Nat) (z o : Wd) : Wd := o ||| (sb W &&& ~~~ z)
def moW (W : Nat) (z o : Wd) : Wd := hiW W z &&& ~~~ (sb W &&& ~~~ o)
theorem fits_of_bits {W : Nat} {x : Wd} (h : ∀ i, W ≤ i → i < 64 → x.getLsbD i = false) : Fits W x := by
  rw [fits_bits]
  intro i hi
  by_cases h64 : i < 64
  · exact h i hi h64
  · exact BitVec.getLsbD_of_ge x i (by omega)
theorem hi_fits {W : Nat} (h : Wid W) (z : Wd) : Fits W (hiW W z) := by
  apply fits_of_bits
  intro i hi _
  unfold hiW
  rw [BitVec.getLsbD_and, mk_bit h.top, decide_eq_false (by omega), Bool.false_and]
theorem mo_fits {W : Nat} (h : Wid W) (z o : Wd) : Fits W (moW W z o) := by
  apply fits_of_bits
  intro i hi _
  unfold moW
  rw [BitVec.getLsbD_and, fits_bits.1 (hi_fits h z) i hi, Bool.false_and]
theorem le_fits {W : Nat} (h : Wid W) {z o : Wd} (ho : Fits W o) : Fits W (leW W z o) := by
  have h1 := h.one
  apply fits_of_bits
  intro i hi _
  unfold leW
  rw [BitVec.getLsbD_or, fits_bits.1 ho i hi, BitVec.getLsbD_and, sb_bit h, decide_eq_false (by omega)]; rfl

theorem imx_cm (x y : Int) : imx x y = imx y x := by unfold imx; split <;> split <;> omega
theorem imn_cm (x y : Int) : imn x y = imn y x := by unfold imn; split <;> split <;> omega
theorem sign_pow {W : Nat} (h : Wid W) : IntKind.u64.wrap (1 * 2 ^ (W - 1)) = nv (sb W) := by
  have hp := pw h
  have := hp.one
  have := hp.top
  rw [p_int]
  unfold nv
  rw [sb_nat h, wrap_u64] <;> omega

/-- The bounds that both start from. -/
structure Tt (W : Nat) (z o : Wd) (a b c d : Int) (v : Bool) (R : Rg) : Prop where
  hv : v = true ↔ IVal W (imx a (nv o)) (imn b (nv (hiW W z))) (imx c (sg W (nv (leW W z o)))) (imn d (sg W (nv (moW W z o))))
  eR : R = tgA W v (imx a (nv o)) (imn b (nv (hiW W z))) (imx c (sg W (nv (leW W z o)))) (imn d (sg W (nv (moW W z o))))
theorem tt_words {W : Nat} (h : Wid W) {z o : Wd} {a b c d : Int} {v : Bool} {R : Rg} (T : Tt W z o a b c d v R) (ha : 0 ≤ a) (hok : R.2.2.2.2 = true) :
    v = true ∧ ∃ X Y : Wd, R = (nv X, nv Y, R.2.2.1, R.2.2.2.1, true) ∧ Fits W X ∧ Fits W Y ∧ nv X ≤ nv Y ∧ imx a (nv o) ≤ nv X ∧ nv Y ≤ imn b (nv (hiW W z)) ∧ imx c (sg W (nv (leW W z o))) ≤ R.2.2.1 ∧ R.2.2.2.1 ≤ imn d (sg W (nv (moW W z o))) := by
  obtain ⟨hv, eR⟩ := T
  cases v with
  | false => rw [eR] at hok; cases hok
  | true =>
    refine ⟨rfl, ?_⟩
    have I := hv.1 rfl
    have e : R = tgM W (imx a (nv o)) (imn b (nv (hiW W z))) (imx c (sg W (nv (leW W z o)))) (imn d (sg W (nv (moW W z o)))) := eR
    have k0 := imx_of a (nv o)
    have k := tg_keep h (by omega) I (by rw [← e]; exact hok)
    rw [← e] at k
    have hm := nv_lt (mk W)
    have bm := I.bm
    obtain ⟨X, eX⟩ := nv_ex (n := R.1) (by omega) (by omega)
    obtain ⟨Y, eY⟩ := nv_ex (n := R.2.1) (by omega) (by omega)
    rw [eX, eY] at k
    refine ⟨X, Y, ?_, (fits_mk h.top).2 (by omega), (fits_mk h.top).2 (by omega), k.2.1, k.1, k.2.2.1, k.2.2.2.1, k.2.2.2.2⟩
    rw [← eX, ← eY, ← hok]

theorem prog_tight {W : Nat} (h : Wid W) {z o : Wd} {a b c d : Int} (ha : 0 ≤ a) (hb : 0 ≤ b) (K : KVal W z o) (I : IVal W a b c d) :
    ∃ v R, Tt W z o a b c d v R ∧ F32 (W : Int) (nv z) (nv o) a b c d = some (outR W z o R) := by
  have h1 := h.one
  have h2 := h.top
  have hH := nv_nn (hiW W z)
  have ho0 := nv_nn o
  have ka := imx_of a (nv o)
  have kb := imn_of b (nv (hiW W z))
  obtain ⟨v, hv, eT⟩ := it_prog h (a := imx a (nv o)) (b := imn b (nv (hiW W z))) (c := imx c (sg W (nv (leW W z o)))) (d := imn d (sg W (nv (moW W z o)))) (by omega) (by omega)
  refine ⟨v, _, ⟨hv, rfl⟩, ?_⟩
  have T : Tt W z o a b c d v (tgA W v (imx a (nv o)) (imn b (nv (hiW W z))) (imx c (sg W (nv (leW W z o)))) (imn d (sg W (nv (moW W z o))))) := ⟨hv, rfl⟩
  generalize eR : tgA W v (imx a (nv o)) (imn b (nv (hiW W z))) (imx c (sg W (nv (leW W z o)))) (imn d (sg W (nv (moW W z o)))) = R at *
  obtain ⟨v0, e0, k0⟩ := fval_prog h z o a b c d
  have : v0 = true := k0.2 ⟨K, I⟩
  subst this
  have notok : ¬ IVal W (imx a (nv o)) (imn b (nv (hiW W z))) (imx c (sg W (nv (leW W z o)))) (imn d (sg W (nv (moW W z o)))) → outR W z o R = no7 := by
    intro hn
    have : v = false := by cases v with | false => rfl | true => exact absurd (hv.1 rfl) hn
    subst this
    rw [← eR]; rfl
  apply Yields.eq
  unfold F32
  refine Yields.bindE e0 (Yields.bif (fun hc => by cases hc) (fun _ => ?_))
  have ew : IntKind.u64.wrap (IntKind.i64.wrap ((W : Int) - 1)) = ((W - 1 : Nat) : Int) := by rw [w1 h, wrap_u64 (by omega) (by omega)]
  have es : F32__1 (W : Int) = nv (sb W) := by
    unfold F32__1
    rw [ew, show min (((W - 1 : Nat) : Int)).toNat 64 = W - 1 by omega]
    exact sign_pow h
  refine Yields.bif (fun hc => ?_) (fun _ => ?_)
  · rw [ew] at hc; have hc := of_decide_eq_true hc; omega
  refine Yields.bindE (mask_ok h2) ?_
  have e3 : F32__3 (W : Int) (nv z) (nv o) = nv (leW W z o) := by unfold F32__3; rw [es]; simp only [ofInt_nv, wrap_tn]; rfl
  have e4 : F32__4 (W : Int) (nv z) (nv o) (nv (mk W)) = nv (moW W z o) := by unfold F32__4; rw [es]; simp only [ofInt_nv, wrap_tn]; rfl
  have e2 : F32__2 (nv z) (nv o) a b c d (nv (mk W)) = imn b (nv (hiW W z)) := by unfold F32__2; simp only [ofInt_nv, wrap_tn]; rfl
  have e5 : F32__5 (nv z) (nv o) a b c d (nv (mk W)) = decide (imx a (nv o) > imn b (nv (hiW W z))) := by unfold F32__5; rw [e2]; rfl
  have e6 : F32__6 (nv z) (nv o) a b c d (sg W (nv (leW W z o))) (sg W (nv (moW W z o))) = decide (imx c (sg W (nv (leW W z o))) > imn d (sg W (nv (moW W z o)))) := rfl
  rw [e3, e4]
  refine Yields.bindE (signed_ok h (le_fits h K.fo)) (Yields.bindE (signed_ok h (mo_fits h z o)) ?_)
  rw [e5, e6, e2]
  refine Yields.bif (fun hc => ?_) (fun _ => Yields.bif (fun hc => ?_) (fun _ => ?_))
  · have hc := of_decide_eq_true hc
    rw [notok (fun I => by have := I.ab; omega)]; exact Yields.some rfl
  · have hc := of_decide_eq_true hc
    rw [notok (fun I => by have := I.cd; omega)]; exact Yields.some rfl
  refine Yields.bindE (show F81 (W : Int) (imx a (nv o)) (imn b (nv (hiW W z))) (imx c (sg W (nv (leW W z o)))) (imn d (sg W (nv (moW W z o)))) = some R from eT) ?_
  cases hok : R.2.2.2.2 with
  | false =>
    simp only [Bool.not_false, cond_true]
    unfold outR
    rw [hok]
    exact Yields.some rfl
  | true =>
    simp only [Bool.not_true, cond_false]
    obtain ⟨_, X, Y, e, fX, fY, xy, _⟩ := tt_words h T ha hok
    unfold outR
    rw [hok]
    rw [e]
    simp only [ofInt_nv, cond_true]
    refine Yields.bindE (mask_ok h2) ?_
    obtain ⟨l, el, hl⟩ := len_ok (X ^^^ Y)
    have hll : l ≤ W := len_le hl (by
      rw [BitVec.toNat_xor]; exact Nat.xor_lt_two_pow fX fY)
    have e82 : F82 (IntKind.u64.wrap (((X ^^^ Y).toNat : Nat) : Int)) = some (l : Int) := by
      unfold F82; rw [wrap_tn, el]; rfl
    refine Yields.bindE e82 (Yields.bindE (mask_ok (by omega)) ?_)
    have e7 : F32__7 (nv X, nv Y, R.2.2.1, R.2.2.2.1, true) (nv (mk W)) (nv (mk l)) = nv (gb W l &&& ~~~ X) := by unfold F32__7; simp only [ofInt_nv, wrap_tn]; rfl
    have e8 : F32__8 (nv X, nv Y, R.2.2.1, R.2.2.2.1, true) (nv (mk W)) (nv (mk l)) = nv (gb W l &&& X) := by unfold F32__8; simp only [ofInt_nv, wrap_tn]; rfl
    have e9 : F32__9 (nv z) (nv o) a b c d (nv X, nv Y, R.2.2.1, R.2.2.2.1, true) (nv (mk W)) (nv (mk l)) = !(F76 (nv z) (nv o) (nv (gb W l &&& ~~~ X)) (nv (gb W l &&& X))).2.2 := by unfold F32__9; rw [e7, e8]; rfl
    rw [e7, e8, e9]
    have lb := len_uniq hl
    have m1 : F76__1 (nv z) (nv o) (nv (gb W l &&& ~~~ X)) (nv (gb W l &&& X)) = nv (zz W z X l &&& oo W o X l) := by unfold F76__1; simp only [ofInt_nv, wrap_tn]; rfl
    have m2 : F76 (nv z) (nv o) (nv (gb W l &&& ~~~ X)) (nv (gb W l &&& X)) = bif (nv (zz W z X l &&& oo W o X l) != 0) then (0, 0, false) else (nv (zz W z X l), nv (oo W o X l), true) := by
      unfold F76; rw [m1]; simp only [ofInt_nv, wrap_tn]; rfl
    simp only [F57, F59, F48]
    rw [m2]
    unfold outK
    rw [← lb]
    by_cases hz : zz W z X l &&& oo W o X l = 0#64
    · rw [if_pos hz]
      have : (nv (zz W z X l &&& oo W o X l) != 0) = false := by rw [bne_eq_false_iff_eq]; exact nv_zero.2 hz
      rw [this]
      simp only [cond_false, Bool.not_true]
      exact Yields.some rfl
    · rw [if_neg hz]
      have : (nv (zz W z X l &&& oo W o X l) != 0) = true := by rw [bne_iff_ne]; exact fun e => hz (nv_zero.1 e)
      rw [this]
      simp only [cond_true, Bool.not_false]
      exact Yields.some rfl

/-! The reference. -/
theorem b2i_one (b : Bool) : (b2i b == 1) = b := by cases b <;> rfl
theorem known_ok {W : Nat} (h : Wid W) (z o : Wd) : F103 (nv z) (nv o) ((W - 1 : Nat) : Int) = some (bif o.getLsbD (W - 1) then 1 else bif z.getLsbD (W - 1) then 0 else -1) := by
  have h2 := h.top
  have h1 := h.one
  apply Yields.eq
  unfold F103
  refine Yields.bindE (bit_ok o (by omega)) ?_
  rw [b2i_one]
  refine Yields.bif (fun q => ?_) (fun q => ?_)
  · rw [q]; exact Yields.some rfl
  · rw [q]
    refine Yields.bindE (bit_ok z (by omega)) ?_
    rw [b2i_one]
    refine Yields.bif (fun q => ?_) (fun q => ?_)
    · rw [q]; exact Yields.some rfl
    · rw [q]; exact Yields.some rfl
theorem le_cases {W : Nat} (h : Wid W) {z o : Wd} (K : KVal W z o) :
    (o.getLsbD (W - 1) = true → leW W z o = o ∧ moW W z o = hiW W z) ∧ (z.getLsbD (W - 1) = true → leW W z o = o ∧ moW W z o = hiW W z) ∧
    (o.getLsbD (W - 1) = false → z.getLsbD (W - 1) = false → leW W z o = o ||| sb W ∧ moW W z o = hiW W z &&& ~~~ (sb W)) := by
  have h1 := h.one
  have h2 := h.top
  have no : ∀ i, z.getLsbD i = true → o.getLsbD i = true → False := by
    intro i a b
    have := congrArg (fun v => BitVec.getLsbD v i) K.no
    simp only [BitVec.getLsbD_and, a, b, BitVec.getLsbD_zero] at this
    cases this
  have ext : ∀ {x y : Wd}, (∀ i, i < 64 → x.getLsbD i = y.getLsbD i) → x = y := fun hh => BitVec.eq_of_getLsbD_eq hh
  refine ⟨fun q => ⟨ext fun i hi => ?_, ext fun i hi => ?_⟩, fun q => ⟨ext fun i hi => ?_, ext fun i hi => ?_⟩, fun q q' => ⟨ext fun i hi => ?_, ext fun i hi => ?_⟩⟩
  all_goals
    (try unfold leW) <;> (try unfold moW) <;> (try unfold hiW)
  all_goals
    simp only [BitVec.getLsbD_or, BitVec.getLsbD_and, BitVec.getLsbD_not, sb_bit h, mk_bit h2, hi, decide_true, Bool.true_and]
    by_cases e : W - 1 = i
    · subst e
      have := no (W - 1)
      simp only [decide_true, Bool.true_and]
      cases ho : o.getLsbD (W - 1) <;> cases hz : z.getLsbD (W - 1) <;> simp_all
    · simp [e]
theorem lims_ok {W : Nat} (h : Wid W) {z o : Wd} (K : KVal W z o) : F84 (W : Int) (nv z) (nv o) = some (sg W (nv (leW W z o)), sg W (nv (moW W z o))) := by
  have h1 := h.one
  have h2 := h.top
  obtain ⟨c1, c2, c3⟩ := le_cases h K
  have fl := le_fits h (z := z) K.fo
  have fm := mo_fits h z o
  have eH : IntKind.u64.wrap (((BitVec.ofInt 64 (nv (mk W)) &&& ~~~ (BitVec.ofInt 64 (nv z))).toNat : Nat) : Int) = nv (hiW W z) := by simp only [ofInt_nv, wrap_tn]; rfl
  have ep : IntKind.u64.wrap (1 * 2 ^ (min (IntKind.i64.wrap ((W : Int) - 1)).toNat 64)) = nv (sb W) := by
    rw [w1 h, show min (((W - 1 : Nat) : Int)).toNat 64 = W - 1 by omega]; exact sign_pow h
  apply Yields.eq
  unfold F84
  refine Yields.bindE (rmask_ok h2) ?_
  rw [w1 h]
  refine Yields.bindE (known_ok h z o) ?_
  cases q : o.getLsbD (W - 1) with
  | true =>
    simp only [cond_true]
    refine Yields.bif (fun hc => by simp at hc) (fun _ => ?_)
    rw [(c1 q).1] at fl ⊢
    rw [(c1 q).2] at fm ⊢
    rw [eH]
    exact Yields.bindE (rsigned_ok h fl) (Yields.bindE (rsigned_ok h fm) (Yields.some rfl))
  | false =>
    cases q' : z.getLsbD (W - 1) with
    | true =>
      simp only [cond_true, cond_false]
      refine Yields.bif (fun hc => by simp at hc) (fun _ => ?_)
      rw [(c2 q').1] at fl ⊢
      rw [(c2 q').2] at fm ⊢
      rw [eH]
      exact Yields.bindE (rsigned_ok h fl) (Yields.bindE (rsigned_ok h fm) (Yields.some rfl))
    | false =>
      simp only [cond_false]
      refine Yields.bif (fun _ => Yields.bif (fun hc => ?_) (fun _ => ?_)) (fun hc => by simp at hc)
      · have hc := of_decide_eq_true hc; omega
      · have k1 : F84__1 (W : Int) (nv o) = nv (leW W z o) := by unfold F84__1; rw [ep, (c3 q q').1]; simp only [ofInt_nv, wrap_tn]
        have k2 : F84__2 (W : Int) (nv z) (nv (mk W)) = nv (moW W z o) := by unfold F84__2; rw [ep, (c3 q q').2]; simp only [ofInt_nv, wrap_tn]; rfl
        rw [k1, k2]
        exact Yields.bindE (rsigned_ok h fl) (Yields.bindE (rsigned_ok h fm) (Yields.some rfl))
def tw (k : Nat) : Wd := BitVec.ofNat 64 (2 ^ k)
theorem tw_bit {k : Nat} (h : k < 64) (i : Nat) : (tw k).getLsbD i = decide (k = i) := by
  unfold tw BitVec.getLsbD
  have : 2 ^ k < 2 ^ 64 := Nat.pow_lt_pow_right (by decide) h
  rw [BitVec.toNat_ofNat, Nat.mod_eq_of_lt this, Nat.testBit_two_pow]
theorem tw_pow {k : Nat} (h : k < 64) : IntKind.u64.wrap (1 * 2 ^ k) = nv (tw k) := by
  have : 2 ^ k < 2 ^ 64 := Nat.pow_lt_pow_right (by decide) h
  have h64 : (2 : Nat) ^ 64 = 18446744073709551616 := by decide
  have hpp := p_pos k
  unfold nv tw
  rw [BitVec.toNat_ofNat, Nat.mod_eq_of_lt this, p_int, wrap_u64] <;> omega
theorem grow {W l : Nat} (hW : W ≤ 64) (hl : l < W) (z o X : Wd) :
    (X.getLsbD l = true → oo W o X (l + 1) ||| tw l = oo W o X l ∧ zz W z X (l + 1) = zz W z X l) ∧
    (X.getLsbD l = false → zz W z X (l + 1) ||| tw l = zz W z X l ∧ oo W o X (l + 1) = oo W o X l) := by
  have ext : ∀ {x y : Wd}, (∀ i, i < 64 → x.getLsbD i = y.getLsbD i) → x = y := fun hh => BitVec.eq_of_getLsbD_eq hh
  refine ⟨fun q => ⟨ext fun i hi => ?_, ext fun i hi => ?_⟩, fun q => ⟨ext fun i hi => ?_, ext fun i hi => ?_⟩⟩
  all_goals
    (try unfold oo) <;> (try unfold zz)
  all_goals
    simp only [BitVec.getLsbD_or, BitVec.getLsbD_and, BitVec.getLsbD_not, gb_bit hW (show l ≤ 64 by omega) hi, gb_bit hW (show l + 1 ≤ 64 by omega) hi, tw_bit (show l < 64 by omega), hi, decide_true, Bool.true_and]
    by_cases e : l = i
    · subst e
      rw [q]
      rw [decide_eq_true hl]
      simp
    · have e1 : decide (i < l + 1) = decide (i < l) := by
        by_cases k : i < l
        · rw [decide_eq_true k, decide_eq_true (by omega)]
        · rw [decide_eq_false k, decide_eq_false (by omega)]
      rw [e1]
      try simp [e]
theorem all_gb {W : Nat} (hW : W ≤ 64) (z X : Wd) : zz W z X W = z ∧ oo W z X W = z := by
  have : gb W W = 0#64 := by
    apply BitVec.eq_of_getLsbD_eq
    intro i hi
    rw [gb_bit hW hW hi, BitVec.getLsbD_zero]; simp
  unfold zz oo
  rw [this]
  simp
theorem fill_bits {W : Nat} (h : Wid W) {z o X Y : Wd} {e f : Int} {l : Nat} (hl : IsLen (X ^^^ Y).toNat l) (hlW : l ≤ W) :
    loopO (fun (s : Int × Int × Int) => F33_s1 (nv X, nv Y, e, f, true) s.1 s.2.1 s.2.2) (IntKind.i64.wrap ((W : Int) - 1), nv z, nv o) = some (nv (zz W z X l), nv (oo W o X l)) := by
  have h1 := h.one
  have h2 := h.top
  have hx : ∀ i, (X ^^^ Y).getLsbD i = (X.getLsbD i ^^ Y.getLsbD i) := fun i => BitVec.getLsbD_xor
  apply Yields.eq
  refine Yields.loop (W - l) (fun (j : Nat) s => s.1 = (W : Int) - j - 1 ∧ s.2.1 = nv (zz W z X (W - j)) ∧ s.2.2 = nv (oo W o X (W - j))) ⟨by simp only; rw [w1 h]; omega, by simp only; rw [Nat.sub_zero, (all_gb h2 z X).1], by simp only; rw [Nat.sub_zero, (all_gb h2 o X).2]⟩ ?_
  rintro j ⟨p, q, r⟩ hj ⟨e1, e2, e3⟩
  simp only at e1 e2 e3
  subst e1 e2 e3
  unfold F33_s1
  simp only
  refine Yields.bif (fun hc => ?_) (fun hc => ?_)
  · have hc := of_decide_eq_true hc
    obtain ⟨i, hi⟩ : ∃ i : Nat, W - j = i + 1 := ⟨W - j - 1, by omega⟩
    have ei : (W : Int) - j - 1 = (i : Int) := by omega
    rw [ei, hi]
    refine Yields.bindE (bit_ok X (by omega)) (Yields.bindE (bit_ok Y (by omega)) ?_)
    have tp : IntKind.u64.wrap (1 * 2 ^ (min ((i : Int)).toNat 64)) = nv (tw i) := by
      rw [show min ((i : Int)).toNat 64 = i by omega]; exact tw_pow (by omega)
    obtain ⟨g1, g2⟩ := grow h2 (show i < W by omega) z o X
    have wi : IntKind.i64.wrap ((i : Int) - 1) = (W : Int) - (j + 1 : Nat) - 1 := by rw [wrap_i64] <;> omega
    have i1 : W - (j + 1) = i := by omega
    by_cases hij : l ≤ i
    · have hb : X.getLsbD i = Y.getLsbD i := by
        have k := hx i
        have k2 : (X ^^^ Y).getLsbD i = false := by
          unfold BitVec.getLsbD
          exact Nat.testBit_lt_two_pow (Nat.lt_of_lt_of_le hl.1 (Nat.pow_le_pow_right (by decide) hij))
        rw [k2] at k
        revert k
        cases X.getLsbD i <;> cases Y.getLsbD i <;> simp
      rw [← hb]
      refine Yields.bif (fun _ => ?_) (fun hq => by simp at hq)
      refine Yields.bindE (bit_ok X (by omega)) ?_
      rw [b2i_one]
      refine Yields.bif (fun q => ?_) (fun q => ?_)
      · refine Yields.some ⟨by omega, wi, ?_, ?_⟩
        · simp only; rw [i1, (g1 q).2]
        · simp only
          unfold F33__1
          rw [tp, i1, ← (g1 q).1]
          simp only [ofInt_nv, wrap_tn]
      · refine Yields.some ⟨by omega, wi, ?_, ?_⟩
        · simp only
          unfold F33__2
          rw [tp, i1, ← (g2 q).1]
          simp only [ofInt_nv, wrap_tn]
        · simp only; rw [i1, (g2 q).2]
    · have hl1 : l = i + 1 := by omega
      have hb : X.getLsbD i ≠ Y.getLsbD i := by
        intro hb
        have k := hx i
        rw [hb, Bool.xor_self] at k
        rcases hl.2 with q | q
        · omega
        · have := hl.1
          rw [hl1, Nat.add_sub_cancel] at q
          rw [hl1] at this
          have fx : Fits (i + 1) (X ^^^ Y) := this
          have := (sign_iff (W := i + 1) ⟨by omega, by omega⟩ fx).2 (by simpa using q)
          rw [Nat.add_sub_cancel, k] at this
          cases this
      refine Yields.bif (fun hq => ?_) (fun _ => ?_)
      · exfalso; revert hq hb
        cases X.getLsbD i <;> cases Y.getLsbD i <;> simp [b2i]
      · rw [← hl1]; exact Yields.some rfl
  · have hc := of_decide_eq_false hc
    have : W - j = l := by omega
    rw [this]
    exact Yields.some rfl
end Go.Proofs.Ytpmbcnknnolojaa.Abs
