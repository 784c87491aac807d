/- The law of tightened facts. -/
import Derived.Test.YtpmbcnknnolojaaFtE
namespace Go.Proofs.Ytpmbcnknnolojaa.Abs
open Go
set_option linter.unusedVariables false
set_option linter.unusedSimpArgs false

theorem ref_tight {W : Nat} (h : Wid W) {z o : Wd} {a b c d : Int} (ha : 0 ≤ a) (hb : 0 ≤ b) (K : KVal W z o) (I : IVal W a b c d) {v : Bool} {R : Rg} (T : Tt W z o a b c d v R) :
    F33 (W : Int) (nv z) (nv o) a b c d = some (outR W z o R) := by
  have h1 := h.one
  have h2 := h.top
  have hH := nv_nn (hiW W z)
  have ho0 := nv_nn o
  have ka := imx_of a (nv o)
  have kb := imn_of b (nv (hiW W z))
  obtain ⟨v', hv', eT⟩ := it_ref h (a := imx a (nv o)) (b := imn b (nv (hiW W z))) (c := imx c (sg W (nv (leW W z o)))) (d := imn d (sg W (nv (moW W z o)))) (by omega) (by omega)
  have evv : v' = v := by rw [Bool.eq_iff_iff, hv', T.hv]
  subst evv
  rw [← T.eR] at eT
  obtain ⟨v0, e0, k0⟩ := fval_ref h z o a b c d
  have : v0 = true := k0.2 ⟨K, I⟩
  subst this
  apply Yields.eq
  unfold F33
  refine Yields.bindE e0 (Yields.bif (fun hc => by cases hc) (fun _ => ?_))
  have e83 : F83 (W : Int) (nv z) (nv o) = some (nv o, nv (hiW W z)) := by
    unfold F83; rw [rmask_ok h2]; show some _ = some _; simp only [ofInt_nv, wrap_tn]; rfl
  refine Yields.bindE (show F83 (W : Int) (F61 (nv z) (nv o) a b c d).1 (F61 (nv z) (nv o) a b c d).2 = some (nv o, nv (hiW W z)) from e83) ?_
  refine Yields.bindE (show F84 (W : Int) (F61 (nv z) (nv o) a b c d).1 (F61 (nv z) (nv o) a b c d).2 = some _ from lims_ok h K) ?_
  have e1 : (if a > (nv o) then a else nv o) = imx a (nv o) := by rw [imx_cm]; rfl
  have e2 : (if b < nv (hiW W z) then b else nv (hiW W z)) = imn b (nv (hiW W z)) := by rw [imn_cm]; rfl
  have e3 : (if c > sg W (nv (leW W z o)) then c else sg W (nv (leW W z o))) = imx c (sg W (nv (leW W z o))) := by rw [imx_cm]; rfl
  have e4 : (if d < sg W (nv (moW W z o)) then d else sg W (nv (moW W z o))) = imn d (sg W (nv (moW W z o))) := by rw [imn_cm]; rfl
  simp only [e1, e2, e3, e4]
  refine Yields.bindE eT ?_
  cases hok : R.2.2.2.2 with
  | false =>
    simp only [Bool.not_false, cond_true]
    unfold outR
    rw [hok]
    exact Yields.some rfl
  | true =>
    simp only [Bool.not_true, cond_false]
    obtain ⟨_, X, Y, e, fX, fY, xy, _⟩ := tt_words h T ha hok
    unfold outR
    rw [hok]
    rw [e]
    simp only [ofInt_nv, cond_true]
    have hl := blen_len (X ^^^ Y).toNat
    have hll : blen (X ^^^ Y).toNat ≤ W := len_le hl (by
      rw [BitVec.toNat_xor]; exact Nat.xor_lt_two_pow fX fY)
    refine Yields.bindE (show loopO (fun (s : Int × Int × Int) => F33_s1 (nv X, nv Y, R.2.2.1, R.2.2.2.1, true) s.1 s.2.1 s.2.2) (IntKind.i64.wrap ((W : Int) - 1), (F61 (nv z) (nv o) a b c d).1, (F61 (nv z) (nv o) a b c d).2) = some _ from fill_bits h hl hll) ?_
    unfold outK
    simp only [ofInt_nv, wrap_tn, F50]
    by_cases hz : zz W z X (blen (X ^^^ Y).toNat) &&& oo W o X (blen (X ^^^ Y).toNat) = 0#64
    · rw [if_pos hz]
      have : (nv (zz W z X (blen (X ^^^ Y).toNat) &&& oo W o X (blen (X ^^^ Y).toNat)) != 0) = false := by rw [bne_eq_false_iff_eq]; exact nv_zero.2 hz
      rw [this]
      simp only [cond_false]
      exact Yields.some rfl
    · rw [if_neg hz]
      have : (nv (zz W z X (blen (X ^^^ Y).toNat) &&& oo W o X (blen (X ^^^ Y).toNat)) != 0) = true := by rw [bne_iff_ne]; exact fun e => hz (nv_zero.1 e)
      rw [this]
      simp only [cond_true]
      exact Yields.some rfl

/-! What a fact contains. -/
structure Con (W : Nat) (z o : Wd) (a b c d : Int) (n : Wd) : Prop where
  nz : n &&& z = 0#64
  no : n &&& o = o
  fn : Fits W n
  a1 : a ≤ nv n
  b1 : nv n ≤ b
  c1 : c ≤ sg W (nv n)
  d1 : sg W (nv n) ≤ d
theorem con_ok {W : Nat} (h : Wid W) (z o : Wd) (a b c d : Int) (n : Wd) : ∃ v : Bool, F24 (W : Int) (nv z) (nv o) a b c d (nv n) = some v ∧ (v = true ↔ Con W z o a b c d n) := by
  have h1 := h.one
  have h2 := h.top
  have w : F92 (W : Int) = true := by unfold F92; rw [decide_eq_true (by omega), cond_true]; exact decide_eq_true (by omega)
  have key : Yields (fun v : Bool => v = true ↔ Con W z o a b c d n) (F24 (W : Int) (nv z) (nv o) a b c d (nv n)) := by
    unfold F24
    have e64 : F64 (F57 (nv z) (nv o) a b c d).1 (F57 (nv z) (nv o) a b c d).2 (nv n) = bif nv (n &&& z) == 0 then nv (n &&& o) == nv o else false := by
      unfold F64; simp only [F57, ofInt_nv, wrap_tn]
    rw [e64]
    refine Yields.bif (fun q => ?_) (fun q => ?_)
    · have q1 : (nv (n &&& z) == 0) = true := by
        cases k : (nv (n &&& z) == 0) with
        | true => rfl
        | false => rw [k] at q; cases q
      rw [q1, cond_true] at q
      have q1 := z_iff.1 q1
      have q2 := nv_inj.1 (beq_iff_eq.1 q)
      refine Yields.bind (P := fun v : Bool => v = true ↔ Con W z o a b c d n) ?_ (fun v hv => Yields.some hv)
      unfold F65
      simp only [F59]
      rw [w]
      simp only [Bool.not_true, cond_false]
      refine Yields.bindE (mask_ok h2) (Yields.bif (fun k => ?_) (fun k => ?_))
      · have k := of_decide_eq_true k
        refine Yields.some ⟨fun e => (by cases e), fun C => ?_⟩
        have := (fits_mk h2).1 C.fn
        omega
      · have k := of_decide_eq_false k
        have fn : Fits W n := (fits_mk h2).2 (by omega)
        refine Yields.bindE (signed_ok h fn) ?_
        refine Yields.bif (fun k1 => Yields.bif (fun k2 => Yields.bif (fun k3 => Yields.some ?_) (fun k3 => Yields.some ?_)) (fun k2 => Yields.some ?_)) (fun k1 => Yields.some ?_)
        · exact ⟨fun k4 => ⟨q1, q2, fn, of_decide_eq_true k1, of_decide_eq_true k2, of_decide_eq_true k3, of_decide_eq_true k4⟩, fun C => decide_eq_true C.d1⟩
        · exact ⟨fun e => (by cases e), fun C => absurd C.c1 (of_decide_eq_false k3)⟩
        · exact ⟨fun e => (by cases e), fun C => absurd C.b1 (of_decide_eq_false k2)⟩
        · exact ⟨fun e => (by cases e), fun C => absurd C.a1 (of_decide_eq_false k1)⟩
    · refine Yields.some ⟨fun e => (by cases e), fun C => ?_⟩
      rw [z_iff.2 C.nz, C.no, cond_true, beq_self_eq_true] at q
      cases q
  exact key

theorem bits_zero {x y : Wd} (h : x &&& y = 0#64) (i : Nat) (hx : x.getLsbD i = true) : y.getLsbD i = false := by
  have := congrArg (fun v => BitVec.getLsbD v i) h
  simp only [BitVec.getLsbD_and, hx, Bool.true_and, BitVec.getLsbD_zero] at this
  exact this
theorem bits_sub {x y : Wd} (h : x &&& y = y) (i : Nat) (hy : y.getLsbD i = true) : x.getLsbD i = true := by
  have := congrArg (fun v => BitVec.getLsbD v i) h
  simp only [BitVec.getLsbD_and, hy, Bool.and_true] at this
  exact this
theorem zero_of {x y : Wd} (h : ∀ i, i < 64 → x.getLsbD i = true → y.getLsbD i = false) : x &&& y = 0#64 := by
  apply BitVec.eq_of_getLsbD_eq
  intro i hi
  rw [BitVec.getLsbD_and, BitVec.getLsbD_zero]
  cases hx : x.getLsbD i with
  | false => rfl
  | true => rw [h i hi hx]; rfl
theorem sub_of {x y : Wd} (h : ∀ i, i < 64 → y.getLsbD i = true → x.getLsbD i = true) : x &&& y = y := by
  apply BitVec.eq_of_getLsbD_eq
  intro i hi
  rw [BitVec.getLsbD_and]
  cases hy : y.getLsbD i with
  | false => rw [Bool.and_false]
  | true => rw [h i hi hy]; rfl
theorem in_hi {W : Nat} (h : Wid W) {z n : Wd} (hz : n &&& z = 0#64) (fn : Fits W n) : hiW W z &&& n = n := by
  apply sub_of
  intro i hi hn
  unfold hiW
  rw [BitVec.getLsbD_and, BitVec.getLsbD_not, mk_bit h.top, decide_eq_true hi, bits_zero hz i hn]
  rcases Nat.lt_or_ge i W with q | q
  · rw [decide_eq_true q]; rfl
  · rw [fits_bits.1 fn i q] at hn; cases hn
theorem sg_low {W : Nat} (h : Wid W) {z o n : Wd} (K : KVal W z o) (hz : n &&& z = 0#64) (hn : n &&& o = o) (fn : Fits W n) : sg W (nv (leW W z o)) ≤ sg W (nv n) := by
  have fl := le_fits h (z := z) K.fo
  have s1 := sg_of h (nv (leW W z o))
  have s2 := sg_of h (nv n)
  have b1 := sign_iff h fl
  have b2 := sign_iff h fn
  have l1 : nv (leW W z o) < (2 ^ W : Nat) := by unfold Fits at fl; unfold nv; omega
  have eW := (pw h).eW
  have n0 := nv_nn n
  by_cases q : n.getLsbD (W - 1) = true
  · -- the word has a sign: so it has all bits of the least one
    have : nv (leW W z o) ≤ nv n := by
      apply sub_le
      apply sub_of
      intro i hi hb
      unfold leW at hb
      rw [BitVec.getLsbD_or, BitVec.getLsbD_and, sb_bit h] at hb
      by_cases e : W - 1 = i
      · subst e; exact q
      · rw [decide_eq_false e, Bool.false_and, Bool.or_false] at hb
        exact bits_sub hn i hb
    by_cases q' : (leW W z o).getLsbD (W - 1) = true
    · have := b1.1 q'
      have := b2.1 q
      unfold nv at *
      omega
    · exfalso
      apply q'
      unfold leW
      rw [BitVec.getLsbD_or, BitVec.getLsbD_and, sb_bit h, BitVec.getLsbD_not, bits_zero hz _ q, decide_eq_true rfl, decide_eq_true (show W - 1 < 64 by have := h.top; have := h.one; omega)]
      simp
  · have hnp : nv n < ((2 ^ (W - 1) : Nat) : Int) := by
      have : ¬ 2 ^ (W - 1) ≤ n.toNat := fun e => q (b2.2 e)
      unfold nv; omega
    by_cases q' : (leW W z o).getLsbD (W - 1) = true
    · have := b1.1 q'
      unfold nv at *
      omega
    · have : nv (leW W z o) ≤ nv n := by
        apply sub_le
        apply sub_of
        intro i hi hb
        by_cases e : W - 1 = i
        · subst e; exact absurd hb q'
        · unfold leW at hb
          rw [BitVec.getLsbD_or, BitVec.getLsbD_and, sb_bit h, decide_eq_false e, Bool.false_and, Bool.or_false] at hb
          exact bits_sub hn i hb
      omega
theorem sg_high {W : Nat} (h : Wid W) {z o n : Wd} (K : KVal W z o) (hz : n &&& z = 0#64) (hn : n &&& o = o) (fn : Fits W n) : sg W (nv n) ≤ sg W (nv (moW W z o)) := by
  have fl := mo_fits h z o
  have s1 := sg_of h (nv (moW W z o))
  have s2 := sg_of h (nv n)
  have b1 := sign_iff h fl
  have b2 := sign_iff h fn
  have l1 : nv n < (2 ^ W : Nat) := by unfold Fits at fn; unfold nv; omega
  have eW := (pw h).eW
  have n0 := nv_nn (moW W z o)
  have hh := in_hi h hz fn
  by_cases q : (moW W z o).getLsbD (W - 1) = true
  · have qo : o.getLsbD (W - 1) = true := by
      unfold moW at q
      rw [BitVec.getLsbD_and, BitVec.getLsbD_not, BitVec.getLsbD_and, sb_bit h, BitVec.getLsbD_not, decide_eq_true rfl] at q
      cases k : o.getLsbD (W - 1) with
      | true => rfl
      | false =>
        have h64 : W - 1 < 64 := by have := h.top; have := h.one; omega
        rw [k, decide_eq_true h64] at q
        simp at q
    have qn := bits_sub hn _ qo
    have : nv n ≤ nv (moW W z o) := by
      apply sub_le
      apply sub_of
      intro i hi hb
      have k := bits_sub hh i hb
      unfold moW
      rw [BitVec.getLsbD_and, k, BitVec.getLsbD_not, BitVec.getLsbD_and, sb_bit h, BitVec.getLsbD_not, decide_eq_true hi]
      by_cases e : W - 1 = i
      · subst e; rw [qo]; simp
      · simp [e]
    have := b1.1 q
    have := b2.1 qn
    unfold nv at *
    omega
  · have hmp : nv (moW W z o) < ((2 ^ (W - 1) : Nat) : Int) := by
      have : ¬ 2 ^ (W - 1) ≤ (moW W z o).toNat := fun e => q (b1.2 e)
      unfold nv; omega
    by_cases q' : n.getLsbD (W - 1) = true
    · have := b2.1 q'
      unfold nv at *
      omega
    · have : nv n ≤ nv (moW W z o) := by
        apply sub_le
        apply sub_of
        intro i hi hb
        have k := bits_sub hh i hb
        unfold moW
        rw [BitVec.getLsbD_and, k, BitVec.getLsbD_not, BitVec.getLsbD_and, sb_bit h, BitVec.getLsbD_not, decide_eq_true hi]
        by_cases e : W - 1 = i
        · subst e; exact absurd hb q'
        · simp [e]
      omega

/-- What a fact contains lies within its tightened bounds. -/
theorem con_in {W : Nat} (h : Wid W) {z o : Wd} {a b c d : Int} (ha : 0 ≤ a) (K : KVal W z o) (I : IVal W a b c d) {v : Bool} {R : Rg} (T : Tt W z o a b c d v R) {n : Wd} (C : Con W z o a b c d n) :
    R.2.2.2.2 = true ∧ R.1 ≤ nv n ∧ nv n ≤ R.2.1 ∧ R.2.2.1 ≤ sg W (nv n) ∧ sg W (nv n) ≤ R.2.2.2.1 := by
  obtain ⟨nz, no, fn, a1, b1, c1, d1⟩ := C
  have l1 := sub_le no
  have l2 := sub_le (in_hi h nz fn)
  have l3 := sg_low h K nz no fn
  have l4 := sg_high h K nz no fn
  have k1 := imx_of a (nv o)
  have k2 := imn_of b (nv (hiW W z))
  have k3 := imx_of c (sg W (nv (leW W z o)))
  have k4 := imn_of d (sg W (nv (moW W z o)))
  have I2 : IVal W (imx a (nv o)) (imn b (nv (hiW W z))) (imx c (sg W (nv (leW W z o)))) (imn d (sg W (nv (moW W z o)))) := by
    obtain ⟨i1, i2, i3, i4, i5⟩ := I
    exact ⟨by omega, by omega, by omega, by omega, by omega⟩
  have hv : v = true := T.hv.2 I2
  subst hv
  have e := T.eR
  have := tg_holds h (n := nv n) (by omega) I2 (by omega) (by omega) (by omega) (by omega)
  rw [show tgM W (imx a (nv o)) (imn b (nv (hiW W z))) (imx c (sg W (nv (leW W z o)))) (imn d (sg W (nv (moW W z o)))) = R from e.symm] at this
  exact this
theorem leq_ok {W : Nat} {z o : Wd} {a b c d : Int} {X : Wd} {l : Nat} {x y e f : Int} (h1 : a ≤ x) (h2 : y ≤ b) (h3 : c ≤ e) (h4 : f ≤ d) :
    F26 (nv (zz W z X l)) (nv (oo W o X l)) x y e f (nv z) (nv o) a b c d = true := by
  unfold F26
  have e68 : F68 (nv (zz W z X l)) (nv (oo W o X l)) (nv z) (nv o) = true := by
    unfold F68
    simp only [ofInt_nv, wrap_tn]
    have k1 : z &&& ~~~ (zz W z X l) = 0#64 := zero_of fun i hi hz => by
      unfold zz; rw [BitVec.getLsbD_not, BitVec.getLsbD_or, hz]; simp
    have k2 : o &&& ~~~ (oo W o X l) = 0#64 := zero_of fun i hi hz => by
      unfold oo; rw [BitVec.getLsbD_not, BitVec.getLsbD_or, hz]; simp
    rw [k1, k2]; rfl
  have e69 : F69 x y e f a b c d = true := by
    unfold F69
    rw [decide_eq_true h1, decide_eq_true h2, decide_eq_true (show e ≥ c from h3), decide_eq_true h4]; rfl
  simp only [F57, F59]
  rw [e68, e69]; rfl

theorem tightens_eq {x1 x2 x3 x4 x5 x6 x7 x8 : Int} (w2 : (Lit.int .u64 x2).wf = true) (w3 : (Lit.int .u64 x3).wf = true) (w4 : (Lit.int .u64 x4).wf = true) (w5 : (Lit.int .u64 x5).wf = true) (w8 : (Lit.int .u64 x8).wf = true) :
    F7 x1 x2 x3 x4 x5 x6 x7 x8 = some true := by
  have b2 := bounds_u64 w2
  have b3 := bounds_u64 w3
  have b4 := bounds_u64 w4
  have b5 := bounds_u64 w5
  have b8 := bounds_u64 w8
  obtain ⟨z, rfl⟩ := nv_ex (n := x2) (by omega) (by omega)
  obtain ⟨o, rfl⟩ := nv_ex (n := x3) (by omega) (by omega)
  obtain ⟨n, rfl⟩ := nv_ex (n := x8) (by omega) (by omega)
  have same7 : ∀ y : R7, F7__1 y y = false := by intro y; unfold F7__1; simp
  by_cases hw : 1 ≤ x1 ∧ x1 ≤ 64
  · obtain ⟨W, rfl, h⟩ := wid_of hw.1 hw.2
    obtain ⟨v1, e1, k1⟩ := fval_prog h z o x4 x5 x6 x7
    obtain ⟨v2, e2, k2⟩ := fval_ref h z o x4 x5 x6 x7
    have ev : v1 = v2 := by rw [Bool.eq_iff_iff, k1, k2]
    subst ev
    apply Yields.eq
    unfold F7
    cases v1 with
    | false =>
      have p : F32 (W : Int) (nv z) (nv o) x4 x5 x6 x7 = some no7 := by unfold F32; rw [e1]; rfl
      have r : F33 (W : Int) (nv z) (nv o) x4 x5 x6 x7 = some no7 := by unfold F33; rw [e2]; rfl
      refine Yields.bindE p (Yields.bindE r ?_)
      rw [same7]
      refine Yields.bindE e2 (Yields.some rfl)
    | true =>
      obtain ⟨K, I⟩ := k1.1 rfl
      obtain ⟨v, R, T, p⟩ := prog_tight h (by omega) (by omega) K I
      have r := ref_tight h (by omega) (by omega) K I T
      refine Yields.bindE p (Yields.bindE r ?_)
      rw [same7]
      simp only [cond_false]
      refine Yields.bif (fun hc => by simp at hc) (fun _ => ?_)
      refine Yields.bindE e2 (Yields.bif (fun hc => by cases hc) (fun _ => ?_))
      obtain ⟨u, eu, ku⟩ := con_ok h z o x4 x5 x6 x7 n
      cases hok : R.2.2.2.2 with
      | false =>
        have eo : outR W z o R = no7 := by unfold outR; rw [hok]; rfl
        rw [eo]
        refine Yields.bif (fun _ => ?_) (fun hc => by cases hc)
        refine Yields.bindE eu (Yields.some ?_)
        cases hu : u with
        | false => rfl
        | true =>
          have := (con_in h (by omega) K I T (ku.1 hu)).1
          rw [hok] at this; cases this
      | true =>
        obtain ⟨_, X, Y, e, fX, fY, xy, m1, m2, m3, m4⟩ := tt_words h T (by omega) hok
        have eo : outR W z o R = outK W z o X Y R.2.2.1 R.2.2.2.1 := by
          unfold outR; rw [hok, e]; simp only [ofInt_nv, cond_true]
        have hl := blen_len (X ^^^ Y).toNat
        have hll : blen (X ^^^ Y).toNat ≤ W := len_le hl (by
          rw [BitVec.toNat_xor]; exact Nat.xor_lt_two_pow fX fY)
        have h64 := h.top
        generalize hL : blen (X ^^^ Y).toNat = l at *
        -- the bits that all words between the bounds have in common
        have same : ∀ m : Wd, nv X ≤ nv m → nv m ≤ nv Y → ∀ i, l ≤ i → m.getLsbD i = X.getLsbD i := fun m q1 q2 => between hl.1 q1 q2
        have gbit : ∀ i, i < 64 → (gb W l).getLsbD i = true → l ≤ i := by
          intro i hi q
          rw [gb_bit h64 (by omega) hi] at q
          rcases Nat.lt_or_ge i l with k | k
          · rw [decide_eq_true k] at q; simp at q
          · exact k
        have cz : ∀ m : Wd, nv X ≤ nv m → nv m ≤ nv Y → m &&& z = 0#64 → m &&& zz W z X l = 0#64 := by
          intro m q1 q2 q3
          apply zero_of
          intro i hi hm
          unfold zz
          rw [BitVec.getLsbD_or, bits_zero q3 i hm, Bool.false_or, BitVec.getLsbD_and, BitVec.getLsbD_not, decide_eq_true hi, Bool.true_and]
          cases hg : (gb W l).getLsbD i with
          | false => rfl
          | true => rw [← same m q1 q2 i (gbit i hi hg), hm]; rfl
        have co : ∀ m : Wd, nv X ≤ nv m → nv m ≤ nv Y → m &&& o = o → m &&& oo W o X l = oo W o X l := by
          intro m q1 q2 q3
          apply sub_of
          intro i hi hm
          unfold oo at hm
          rw [BitVec.getLsbD_or, BitVec.getLsbD_and] at hm
          cases ho : o.getLsbD i with
          | true => exact bits_sub q3 i ho
          | false =>
            rw [ho, Bool.false_or] at hm
            simp only [Bool.and_eq_true] at hm
            rw [same m q1 q2 i (gbit i hi hm.1)]; exact hm.2
        have ki := imx_of x4 (nv o)
        have kj := imn_of x5 (nv (hiW W z))
        have kk := imx_of x6 (sg W (nv (leW W z o)))
        have km := imn_of x7 (sg W (nv (moW W z o)))
        rw [eo]
        unfold outK
        rw [hL]
        by_cases hz : zz W z X l &&& oo W o X l = 0#64
        · rw [if_pos hz]
          refine Yields.bif (fun hc => by cases hc) (fun _ => ?_)
          simp only
          rw [leq_ok (by omega) (by omega) (by omega) (by omega)]
          simp only [cond_true]
          obtain ⟨t, et, kt⟩ := con_ok h (zz W z X l) (oo W o X l) (nv X) (nv Y) R.2.2.1 R.2.2.2.1 n
          refine Yields.bindE et (Yields.bindE eu (Yields.some ?_))
          have : t = u := by
            rw [Bool.eq_iff_iff, kt, ku]
            constructor
            · intro C
              refine ⟨?_, ?_, C.fn, by have := C.a1; omega, by have := C.b1; omega, by have := C.c1; omega, by have := C.d1; omega⟩
              · apply zero_of
                intro i hi hn
                have := bits_zero C.nz i hn
                unfold zz at this
                rw [BitVec.getLsbD_or, Bool.or_eq_false_iff] at this
                exact this.1
              · apply sub_of
                intro i hi ho
                refine bits_sub C.no i ?_
                unfold oo
                rw [BitVec.getLsbD_or, ho, Bool.true_or]
            · intro C
              obtain ⟨_, q1, q2, q3, q4⟩ := con_in h (by omega) K I T C
              rw [e] at q1 q2
              exact ⟨cz n q1 q2 C.nz, co n q1 q2 C.no, C.fn, q1, q2, q3, q4⟩
          rw [this]; simp
        · rw [if_neg hz]
          refine Yields.bif (fun _ => ?_) (fun hc => by cases hc)
          refine Yields.bindE eu (Yields.some ?_)
          cases hu : u with
          | false => rfl
          | true =>
            exfalso
            have C := ku.1 hu
            obtain ⟨_, q1, q2, _, _⟩ := con_in h (by omega) K I T C
            rw [e] at q1 q2
            have c1 := cz n q1 q2 C.nz
            have c2 := co n q1 q2 C.no
            apply hz
            apply zero_of
            intro i hi hb
            cases ho : (oo W o X l).getLsbD i with
            | false => rfl
            | true =>
              have := bits_zero c1 i (bits_sub c2 i ho)
              rw [hb] at this; cases this
  · have w56 : ∀ z o, F56 x1 z o = some false := by
      intro z o
      unfold F56
      by_cases h1 : x1 ≥ 1
      · rw [decide_eq_true h1, cond_true, decide_eq_false (by omega)]; rfl
      · rw [decide_eq_false h1]; rfl
    have w60 : ∀ z o, F60 x1 z o = some false := by
      intro z o
      unfold F60
      by_cases h1 : x1 ≥ 1
      · rw [decide_eq_true h1, cond_true, decide_eq_false (by omega)]; rfl
      · rw [decide_eq_false h1]; rfl
    have e1 : F22 x1 (nv z) (nv o) x4 x5 x6 x7 = some false := by unfold F22; rw [w56]; rfl
    have e2 : F23 x1 (nv z) (nv o) x4 x5 x6 x7 = some false := by unfold F23; rw [w60]; rfl
    have p : F32 x1 (nv z) (nv o) x4 x5 x6 x7 = some no7 := by unfold F32; rw [e1]; rfl
    have r : F33 x1 (nv z) (nv o) x4 x5 x6 x7 = some no7 := by unfold F33; rw [e2]; rfl
    apply Yields.eq
    unfold F7
    refine Yields.bindE p (Yields.bindE r ?_)
    rw [same7]
    refine Yields.bindE e2 (Yields.some rfl)
theorem tightens : Law Try.prog 7 10 [3, 41, 39] := F7_law (fun x1 x2 x3 x4 x5 x6 x7 x8 _ w2 w3 w4 w5 _ _ w8 => tightens_eq w2 w3 w4 w5 w8)
end Go.Proofs.Ytpmbcnknnolojaa.Abs
