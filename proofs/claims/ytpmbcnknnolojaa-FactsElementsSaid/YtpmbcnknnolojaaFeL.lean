/- The law of the elements of the lattice of facts. -/
import Derived.Test.YtpmbcnknnolojaaFtL
namespace Go.Proofs.Ytpmbcnknnolojaa.Abs
open Go
set_option linter.unusedVariables false
set_option linter.unusedSimpArgs false

/-! Tightening, once more: the same in both, and the same words. -/
theorem tight_con {W : Nat} (h : Wid W) {z o : Wd} {a b c d : Int} (ha : 0 ≤ a) (hb : 0 ≤ b) (K : KVal W z o) (I : IVal W a b c d) :
    ∃ t : R7, F32 (W : Int) (nv z) (nv o) a b c d = some t ∧ F33 (W : Int) (nv z) (nv o) a b c d = some t ∧
      (t.2.2.2.2.2.2 = true → ∀ n, ∃ v, F24 (W : Int) t.1 t.2.1 t.2.2.1 t.2.2.2.1 t.2.2.2.2.1 t.2.2.2.2.2.1 (nv n) = some v ∧ (v = true ↔ Con W z o a b c d n)) ∧
      (t.2.2.2.2.2.2 = false → ∀ n, ¬ Con W z o a b c d n) := by
  obtain ⟨v, R, T, p⟩ := prog_tight h ha hb K I
  have r := ref_tight h ha hb K I T
  refine ⟨_, p, r, ?_⟩
  cases hok : R.2.2.2.2 with
  | false =>
    have eo : outR W z o R = no7 := by unfold outR; rw [hok]; rfl
    rw [eo]
    refine ⟨fun q => (by cases q), fun _ n C => ?_⟩
    have := (con_in h ha K I T C).1
    rw [hok] at this; cases this
  | true =>
    obtain ⟨_, X, Y, e, fX, fY, xy, m1, m2, m3, m4⟩ := tt_words h T ha hok
    have eo : outR W z o R = outK W z o X Y R.2.2.1 R.2.2.2.1 := by
      unfold outR; rw [hok, e]; simp only [ofInt_nv, cond_true]
    have hl := blen_len (X ^^^ Y).toNat
    have hll : blen (X ^^^ Y).toNat ≤ W := len_le hl (by
      rw [BitVec.toNat_xor]; exact Nat.xor_lt_two_pow fX fY)
    have h64 := h.top
    rw [eo]
    unfold outK
    generalize hL : blen (X ^^^ Y).toNat = l at *
    have same : ∀ m : Wd, nv X ≤ nv m → nv m ≤ nv Y → ∀ i, l ≤ i → m.getLsbD i = X.getLsbD i := fun m q1 q2 => between hl.1 q1 q2
    have gbit : ∀ i, i < 64 → (gb W l).getLsbD i = true → l ≤ i := by
      intro i hi q
      rw [gb_bit h64 (by omega) hi] at q
      rcases Nat.lt_or_ge i l with k | k
      · rw [decide_eq_true k] at q; simp at q
      · exact k
    have cz : ∀ m : Wd, nv X ≤ nv m → nv m ≤ nv Y → m &&& z = 0#64 → m &&& zz W z X l = 0#64 := by
      intro m q1 q2 q3
      apply zero_of
      intro i hi hm
      unfold zz
      rw [BitVec.getLsbD_or, bits_zero q3 i hm, Bool.false_or, BitVec.getLsbD_and, BitVec.getLsbD_not, decide_eq_true hi, Bool.true_and]
      cases hg : (gb W l).getLsbD i with
      | false => rfl
      | true => rw [← same m q1 q2 i (gbit i hi hg), hm]; rfl
    have co : ∀ m : Wd, nv X ≤ nv m → nv m ≤ nv Y → m &&& o = o → m &&& oo W o X l = oo W o X l := by
      intro m q1 q2 q3
      apply sub_of
      intro i hi hm
      unfold oo at hm
      rw [BitVec.getLsbD_or, BitVec.getLsbD_and] at hm
      cases ho : o.getLsbD i with
      | true => exact bits_sub q3 i ho
      | false =>
        rw [ho, Bool.false_or] at hm
        simp only [Bool.and_eq_true] at hm
        rw [same m q1 q2 i (gbit i hi hm.1)]; exact hm.2
    have ki := imx_of a (nv o)
    have kj := imn_of b (nv (hiW W z))
    have kk := imx_of c (sg W (nv (leW W z o)))
    have km := imn_of d (sg W (nv (moW W z o)))
    by_cases hz : zz W z X l &&& oo W o X l = 0#64
    · rw [if_pos hz]
      refine ⟨fun _ n => ?_, fun q => by cases q⟩
      obtain ⟨t, et, kt⟩ := con_ok h (zz W z X l) (oo W o X l) (nv X) (nv Y) R.2.2.1 R.2.2.2.1 n
      refine ⟨t, et, ?_⟩
      rw [kt]
      constructor
      · intro C
        refine ⟨?_, ?_, C.fn, by have := C.a1; omega, by have := C.b1; omega, by have := C.c1; omega, by have := C.d1; omega⟩
        · apply zero_of
          intro i hi hn
          have := bits_zero C.nz i hn
          unfold zz at this
          rw [BitVec.getLsbD_or, Bool.or_eq_false_iff] at this
          exact this.1
        · apply sub_of
          intro i hi ho
          refine bits_sub C.no i ?_
          unfold oo
          rw [BitVec.getLsbD_or, ho, Bool.true_or]
      · intro C
        obtain ⟨_, q1, q2, q3, q4⟩ := con_in h ha K I T C
        rw [e] at q1 q2
        exact ⟨cz n q1 q2 C.nz, co n q1 q2 C.no, C.fn, q1, q2, q3, q4⟩
    · rw [if_neg hz]
      refine ⟨fun q => (by cases q), fun _ n C => ?_⟩
      obtain ⟨_, q1, q2, _, _⟩ := con_in h ha K I T C
      rw [e] at q1 q2
      have c1 := cz n q1 q2 C.nz
      have c2 := co n q1 q2 C.no
      apply hz
      apply zero_of
      intro i hi hb
      cases ho : (oo W o X l).getLsbD i with
      | false => rfl
      | true =>
        have := bits_zero c1 i (bits_sub c2 i ho)
        rw [hb] at this; cases this
theorem out_valid {x1 : Int} (hw : ¬ (1 ≤ x1 ∧ x1 ≤ 64)) (z o : Int) (a b c d : Int) : F22 x1 z o a b c d = some false ∧ F23 x1 z o a b c d = some false := by
  have w56 : ∀ z o, F56 x1 z o = some false := by
    intro z o
    unfold F56
    by_cases h1 : x1 ≥ 1
    · rw [decide_eq_true h1, cond_true, decide_eq_false (by omega)]; rfl
    · rw [decide_eq_false h1]; rfl
  have w60 : ∀ z o, F60 x1 z o = some false := by
    intro z o
    unfold F60
    by_cases h1 : x1 ≥ 1
    · rw [decide_eq_true h1, cond_true, decide_eq_false (by omega)]; rfl
    · rw [decide_eq_false h1]; rfl
  exact ⟨by unfold F22; rw [w56]; rfl, by unfold F23; rw [w60]; rfl⟩
theorem tight_same (x1 : Int) (z o : Wd) {a b : Int} (c d : Int) (ha : 0 ≤ a) (hb : 0 ≤ b) : ∃ t : R7, F32 x1 (nv z) (nv o) a b c d = some t ∧ F33 x1 (nv z) (nv o) a b c d = some t := by
  by_cases hw : 1 ≤ x1 ∧ x1 ≤ 64
  · obtain ⟨W, rfl, h⟩ := wid_of hw.1 hw.2
    obtain ⟨v1, e1, k1⟩ := fval_prog h z o a b c d
    obtain ⟨v2, e2, k2⟩ := fval_ref h z o a b c d
    have ev : v1 = v2 := by rw [Bool.eq_iff_iff, k1, k2]
    subst ev
    cases v1 with
    | false => exact ⟨no7, by unfold F32; rw [e1]; rfl, by unfold F33; rw [e2]; rfl⟩
    | true =>
      obtain ⟨K, I⟩ := k1.1 rfl
      obtain ⟨t, p, r, _⟩ := tight_con h ha hb K I
      exact ⟨t, p, r⟩
  · obtain ⟨e1, e2⟩ := out_valid hw (nv z) (nv o) a b c d
    exact ⟨no7, by unfold F32; rw [e1]; rfl, by unfold F33; rw [e2]; rfl⟩

/-! Top and Of. -/
abbrev R6 := Int × Int × Int × Int × Int × Int
theorem top_same (x1 : Int) : ∃ t : R6, F18 x1 = some t ∧ F19 x1 = some t := by
  by_cases hw : 1 ≤ x1 ∧ x1 ≤ 64
  · obtain ⟨W, rfl, h⟩ := wid_of hw.1 hw.2
    have h1 := h.one
    have h2 := h.top
    have w : F92 (W : Int) = true := by unfold F92; rw [decide_eq_true (by omega), cond_true]; exact decide_eq_true (by omega)
    refine ⟨(0, 0, 0, nv (mk W), -((2 ^ (W - 1) : Nat) : Int), ((2 ^ (W - 1) : Nat) : Int) - 1), ?_, ?_⟩
    · unfold F18 F49
      rw [w, mask_ok h2, least_ok h, most_ok h]; rfl
    · unfold F19 F51
      rw [decide_eq_false (by omega), decide_eq_false (by omega), umax_ok h2, smin_ok h, smax_ok h]; rfl
  · refine ⟨(0, 0, 0, 0, 0, 0), ?_, ?_⟩
    · have w : F92 x1 = false := by
        unfold F92
        by_cases h1 : x1 ≥ 1
        · rw [decide_eq_true h1, cond_true]; exact decide_eq_false (by omega)
        · rw [decide_eq_false h1]; rfl
      unfold F18 F49
      rw [w]; rfl
    · unfold F19 F51
      by_cases h1 : x1 < 1
      · rw [decide_eq_true h1]; rfl
      · rw [decide_eq_false h1, decide_eq_true (show x1 > 64 by omega)]; rfl
theorem of_same (x1 : Int) (n : Wd) : ∃ t : R6, F20 x1 (nv n) = some t ∧ F21 x1 (nv n) = some t := by
  by_cases hw : 1 ≤ x1 ∧ x1 ≤ 64
  · obtain ⟨W, rfl, h⟩ := wid_of hw.1 hw.2
    have h1 := h.one
    have h2 := h.top
    have w : F92 (W : Int) = true := by unfold F92; rw [decide_eq_true (by omega), cond_true]; exact decide_eq_true (by omega)
    have fm : Fits W (n &&& mk W) := fits_and h2 n
    have e98 : F98 (W : Int) (nv n) = some (nv (n &&& mk W)) := by rw [fit_ok h2, ofInt_nv]
    have eb : mk W &&& ~~~ (n &&& mk W) = mk W &&& ~~~ n := by
      apply BitVec.eq_of_getLsbD_eq
      intro i hi
      simp only [BitVec.getLsbD_and, BitVec.getLsbD_not, hi, decide_true, Bool.true_and]
      cases (mk W).getLsbD i <;> cases n.getLsbD i <;> rfl
    refine ⟨(nv (mk W &&& ~~~ n), nv (n &&& mk W), nv (n &&& mk W), nv (n &&& mk W), sg W (nv (n &&& mk W)), sg W (nv (n &&& mk W))), ?_, ?_⟩
    · have e52 : F52 (W : Int) (nv n) = some (nv (mk W &&& ~~~ n), nv (n &&& mk W)) := by
        unfold F52
        rw [decide_eq_false (by omega), decide_eq_false (by omega), e98, mask_ok h2]
        show some _ = some _
        simp only [ofInt_nv, wrap_tn, eb]
      have e53 : F53 (W : Int) (nv n) = some (nv (n &&& mk W), nv (n &&& mk W), sg W (nv (n &&& mk W)), sg W (nv (n &&& mk W))) := by
        unfold F53
        rw [w, e98]
        show Option.bind (F80 (W : Int) (nv (n &&& mk W))) _ = _
        rw [signed_ok h fm]; rfl
      unfold F20
      rw [e52, e53]; rfl
    · have e54 : F54 (W : Int) (nv n) = some (nv (mk W &&& ~~~ n), nv (n &&& mk W)) := by
        unfold F54
        rw [rmask_ok h2]
        show some _ = some _
        simp only [ofInt_nv, wrap_tn]
      have e55 : F55 (W : Int) (nv n) = some (nv (n &&& mk W), nv (n &&& mk W), sg W (nv (n &&& mk W)), sg W (nv (n &&& mk W))) := by
        unfold F55
        rw [decide_eq_false (by omega), decide_eq_false (by omega), umax_ok h2]
        show Option.bind (F100 (W : Int) (IntKind.u64.wrap (((BitVec.ofInt 64 (nv n) &&& BitVec.ofInt 64 (nv (mk W))).toNat : Nat) : Int))) _ = _
        simp only [ofInt_nv, wrap_tn]
        rw [rsigned_ok h fm]; rfl
      unfold F21
      rw [decide_eq_false (by omega), decide_eq_false (by omega), e54, e55]; rfl
  · refine ⟨(0, 0, 0, 0, 0, 0), ?_, ?_⟩
    · have w : F92 x1 = false := by
        unfold F92
        by_cases h1 : x1 ≥ 1
        · rw [decide_eq_true h1, cond_true]; exact decide_eq_false (by omega)
        · rw [decide_eq_false h1]; rfl
      have e52 : F52 x1 (nv n) = some (0, 0) := by
        unfold F52
        by_cases h1 : x1 < 1
        · rw [decide_eq_true h1]; rfl
        · rw [decide_eq_false h1, decide_eq_true (show x1 > 64 by omega)]; rfl
      have e53 : F53 x1 (nv n) = some (0, 0, 0, 0) := by unfold F53; rw [w]; rfl
      unfold F20
      rw [e52, e53]; rfl
    · unfold F21
      by_cases h1 : x1 < 1
      · rw [decide_eq_true h1]; rfl
      · rw [decide_eq_false h1, decide_eq_true (show x1 > 64 by omega)]; rfl

/-! Contains in the reference. -/
theorem con_ref {W : Nat} (h : Wid W) (z o : Wd) (a b c d : Int) (n : Wd) : ∃ v : Bool, F25 (W : Int) (nv z) (nv o) a b c d (nv n) = some v ∧ (v = true ↔ Con W z o a b c d n) := by
  have h1 := h.one
  have h2 := h.top
  have key : Yields (fun v : Bool => v = true ↔ Con W z o a b c d n) (F25 (W : Int) (nv z) (nv o) a b c d (nv n)) := by
    unfold F25
    have e66 : F66 (F61 (nv z) (nv o) a b c d).1 (F61 (nv z) (nv o) a b c d).2 (nv n) = bif nv (n &&& z) == 0 then nv (n &&& o) == nv o else false := by
      unfold F66; simp only [F61, ofInt_nv, wrap_tn]
    rw [e66]
    refine Yields.bif (fun q => ?_) (fun q => ?_)
    · have q1 : (nv (n &&& z) == 0) = true := by
        cases k : (nv (n &&& z) == 0) with
        | true => rfl
        | false => rw [k] at q; cases q
      rw [q1, cond_true] at q
      have q1 := z_iff.1 q1
      have q2 := nv_inj.1 (beq_iff_eq.1 q)
      refine Yields.bind (P := fun v : Bool => v = true ↔ Con W z o a b c d n) ?_ (fun v hv => Yields.some hv)
      unfold F67
      simp only [F63]
      refine Yields.bif (fun k => absurd (of_decide_eq_true k) (by omega)) (fun _ => Yields.bif (fun k => absurd (of_decide_eq_true k) (by omega)) (fun _ => ?_))
      refine Yields.bindE (umax_ok h2) (Yields.bif (fun k => ?_) (fun k => ?_))
      · have k := of_decide_eq_true k
        refine Yields.some ⟨fun e => (by cases e), fun C => ?_⟩
        have := (fits_mk h2).1 C.fn
        omega
      · have k := of_decide_eq_false k
        have fn : Fits W n := (fits_mk h2).2 (by omega)
        refine Yields.bindE (rsigned_ok h fn) ?_
        refine Yields.bif (fun k1 => Yields.bif (fun k2 => Yields.bif (fun k3 => Yields.some ?_) (fun k3 => Yields.some ?_)) (fun k2 => Yields.some ?_)) (fun k1 => Yields.some ?_)
        · exact ⟨fun k4 => ⟨q1, q2, fn, of_decide_eq_true k1, of_decide_eq_true k2, of_decide_eq_true k3, of_decide_eq_true k4⟩, fun C => decide_eq_true C.d1⟩
        · exact ⟨fun e => (by cases e), fun C => absurd C.c1 (of_decide_eq_false k3)⟩
        · exact ⟨fun e => (by cases e), fun C => absurd C.b1 (of_decide_eq_false k2)⟩
        · exact ⟨fun e => (by cases e), fun C => absurd C.a1 (of_decide_eq_false k1)⟩
    · refine Yields.some ⟨fun e => (by cases e), fun C => ?_⟩
      rw [z_iff.2 C.nz, C.no, cond_true, beq_self_eq_true] at q
      cases q
  exact key
theorem con_out {x1 : Int} (hw : ¬ (1 ≤ x1 ∧ x1 ≤ 64)) (z o a b c d n : Int) : F24 x1 z o a b c d n = some false ∧ F25 x1 z o a b c d n = some false := by
  have w : F92 x1 = false := by
    unfold F92
    by_cases h1 : x1 ≥ 1
    · rw [decide_eq_true h1, cond_true]; exact decide_eq_false (by omega)
    · rw [decide_eq_false h1]; rfl
  constructor
  · unfold F24
    cases F64 (F57 z o a b c d).1 (F57 z o a b c d).2 n
    · rfl
    · unfold F65; rw [w]; rfl
  · unfold F25
    cases F66 (F61 z o a b c d).1 (F61 z o a b c d).2 n
    · rfl
    · unfold F67
      by_cases h1 : x1 < 1
      · rw [decide_eq_true h1]; rfl
      · rw [decide_eq_false h1, decide_eq_true (show x1 > 64 by omega)]; rfl
theorem con_same (x1 : Int) (z o : Wd) (a b c d : Int) (n : Wd) : ∃ v, F24 x1 (nv z) (nv o) a b c d (nv n) = some v ∧ F25 x1 (nv z) (nv o) a b c d (nv n) = some v := by
  by_cases hw : 1 ≤ x1 ∧ x1 ≤ 64
  · obtain ⟨W, rfl, h⟩ := wid_of hw.1 hw.2
    obtain ⟨v, e, k⟩ := con_ok h z o a b c d n
    obtain ⟨v', e', k'⟩ := con_ref h z o a b c d n
    have : v = v' := by rw [Bool.eq_iff_iff, k, k']
    subst this
    exact ⟨v, e, e'⟩
  · exact ⟨false, con_out hw _ _ _ _ _ _ _⟩
theorem valid_same (x1 : Int) (z o : Wd) (a b c d : Int) : ∃ v, F22 x1 (nv z) (nv o) a b c d = some v ∧ F23 x1 (nv z) (nv o) a b c d = some v ∧ (v = true → ∃ W : Nat, x1 = (W : Int) ∧ Wid W ∧ KVal W z o ∧ IVal W a b c d) := by
  by_cases hw : 1 ≤ x1 ∧ x1 ≤ 64
  · obtain ⟨W, rfl, h⟩ := wid_of hw.1 hw.2
    obtain ⟨v, e, k⟩ := fval_prog h z o a b c d
    obtain ⟨v', e', k'⟩ := fval_ref h z o a b c d
    have : v = v' := by rw [Bool.eq_iff_iff, k, k']
    subst this
    exact ⟨v, e, e', fun q => ⟨W, rfl, h, (k.1 q).1, (k.1 q).2⟩⟩
  · obtain ⟨e1, e2⟩ := out_valid hw (nv z) (nv o) a b c d
    exact ⟨false, e1, e2, fun q => by cases q⟩

/-! Join and Meet. -/
theorem join_eq (z o : Wd) (a b c d : Int) (z' o' : Wd) (a' b' c' d' : Int) :
    F28 (nv z) (nv o) a b c d (nv z') (nv o') a' b' c' d' = (nv (z &&& z'), nv (o &&& o'), imn a a', imx b b', imn c c', imx d d') ∧
    F29 (nv z) (nv o) a b c d (nv z') (nv o') a' b' c' d' = (nv (z &&& z'), nv (o &&& o'), imn a a', imx b b', imn c c', imx d d') := by
  constructor
  · unfold F28; simp only [F48, F57, F59, F72, F73, ofInt_nv, wrap_tn]; rfl
  · unfold F29; simp only [F50, F61, F63, F74, F75, ofInt_nv, wrap_tn]; rfl
def kmB (z o z' o' : Wd) : Bool := nv ((z ||| z') &&& (o ||| o')) != 0
theorem km_eq (z o z' o' : Wd) : F76 (nv z) (nv o) (nv z') (nv o') = bif kmB z o z' o' then (0, 0, false) else (nv (z ||| z'), nv (o ||| o'), true) := by
  unfold F76 F76__1; simp only [ofInt_nv, wrap_tn]; rfl
theorem im_eq (a b c d a' b' c' d' : Int) : F77 a b c d a' b' c' d' = (if imx a a' > imn b b' ∨ imx c c' > imn d d' then (0, 0, 0, 0, false) else (imx a a', imn b b', imx c c', imn d d', true)) ∧ F78 a b c d a' b' c' d' = F77 a b c d a' b' c' d' := by
  refine ⟨?_, rfl⟩
  unfold F77
  show (bif decide (imx a a' > imn b b') then _ else bif decide (imx c c' > imn d d') then _ else (imx a a', imn b b', imx c c', imn d d', true)) = _
  by_cases h1 : imx a a' > imn b b'
  · rw [decide_eq_true h1, if_pos (.inl h1)]; rfl
  · by_cases h2 : imx c c' > imn d d'
    · rw [decide_eq_false h1, decide_eq_true h2, if_pos (.inr h2)]; rfl
    · rw [decide_eq_false h1, decide_eq_false h2, if_neg (by simp only [not_or]; exact ⟨h1, h2⟩)]; rfl
theorem eta7 (y : R7) : (y.1, y.2.1, y.2.2.1, y.2.2.2.1, y.2.2.2.2.1, y.2.2.2.2.2.1, y.2.2.2.2.2.2) = y := rfl
/-- What the meet yields: nothing, or what tightening does. -/
theorem meet_eq (x1 : Int) (z o : Wd) (a b c d : Int) (z' o' : Wd) (a' b' c' d' : Int) :
    ((kmB z o z' o' = true ∨ imx a a' > imn b b' ∨ imx c c' > imn d d') ∧ F30 x1 (nv z) (nv o) a b c d (nv z') (nv o') a' b' c' d' = some no7 ∧ F31 x1 (nv z) (nv o) a b c d (nv z') (nv o') a' b' c' d' = some no7) ∨
    ((kmB z o z' o' = false ∧ ¬ (imx a a' > imn b b' ∨ imx c c' > imn d d')) ∧
      F30 x1 (nv z) (nv o) a b c d (nv z') (nv o') a' b' c' d' = F32 x1 (nv (z ||| z')) (nv (o ||| o')) (imx a a') (imn b b') (imx c c') (imn d d') ∧
      F31 x1 (nv z) (nv o) a b c d (nv z') (nv o') a' b' c' d' = F33 x1 (nv (z ||| z')) (nv (o ||| o')) (imx a a') (imn b b') (imx c c') (imn d d')) := by
  have e1 : F30__1 (nv z) (nv o) a b c d (nv z') (nv o') a' b' c' d' = kmB z o z' o' := by
    unfold F30__1; simp only [F57]; rw [km_eq]; cases kmB z o z' o' <;> rfl
  have e2 : F30__2 (nv z) (nv o) a b c d (nv z') (nv o') a' b' c' d' = decide (imx a a' > imn b b' ∨ imx c c' > imn d d') := by
    unfold F30__2; simp only [F59]; rw [(im_eq _ _ _ _ _ _ _ _).1]
    by_cases h : imx a a' > imn b b' ∨ imx c c' > imn d d'
    · rw [if_pos h, decide_eq_true h]; rfl
    · rw [if_neg h, decide_eq_false h]; rfl
  have e3 : F31__1 (nv z) (nv o) a b c d (nv z') (nv o') a' b' c' d' = decide (imx a a' > imn b b' ∨ imx c c' > imn d d') := by
    unfold F31__1; simp only [F63]; rw [(im_eq _ _ _ _ _ _ _ _).2, (im_eq _ _ _ _ _ _ _ _).1]
    by_cases h : imx a a' > imn b b' ∨ imx c c' > imn d d'
    · rw [if_pos h, decide_eq_true h]; rfl
    · rw [if_neg h, decide_eq_false h]; rfl
  have e4 : (F31__2 (nv z) (nv o) (nv z') (nv o') != 0) = kmB z o z' o' := by
    unfold F31__2 kmB; simp only [ofInt_nv, wrap_tn]
  by_cases h : imx a a' > imn b b' ∨ imx c c' > imn d d'
  · refine .inl ⟨.inr h, ?_, ?_⟩
    · unfold F30; rw [e1, e2, decide_eq_true h]; cases kmB z o z' o' <;> rfl
    · unfold F31; rw [e3, decide_eq_true h]; rfl
  · cases hk : kmB z o z' o' with
    | true =>
      refine .inl ⟨.inl rfl, ?_, ?_⟩
      · unfold F30; rw [e1, hk]; rfl
      · unfold F31; rw [e3, decide_eq_false h, e4, hk]; rfl
    | false =>
      refine .inr ⟨⟨rfl, h⟩, ?_, ?_⟩
      · unfold F30; rw [e1, e2, hk, decide_eq_false h]
        simp only [cond_false, F48, F57, F59]
        rw [km_eq, hk, (im_eq _ _ _ _ _ _ _ _).1, if_neg h]
        simp only [cond_false]
        cases F32 x1 (nv (z ||| z')) (nv (o ||| o')) (imx a a') (imn b b') (imx c c') (imn d d') <;> rfl
      · unfold F31; rw [e3, e4, hk, decide_eq_false h]
        simp only [cond_false, F50, F63]
        rw [(im_eq _ _ _ _ _ _ _ _).2, (im_eq _ _ _ _ _ _ _ _).1, if_neg h]
        simp only [ofInt_nv, wrap_tn]
        cases F33 x1 (nv (z ||| z')) (nv (o ||| o')) (imx a a') (imn b b') (imx c c') (imn d d') <;> rfl

theorem con_meet {W : Nat} {z o z' o' n : Wd} {a b c d a' b' c' d' : Int} : (Con W z o a b c d n ∧ Con W z' o' a' b' c' d' n) ↔ Con W (z ||| z') (o ||| o') (imx a a') (imn b b') (imx c c') (imn d d') n := by
  have k1 := imx_of a a'
  have k2 := imn_of b b'
  have k3 := imx_of c c'
  have k4 := imn_of d d'
  constructor
  · rintro ⟨A, B⟩
    obtain ⟨a1, a2, a3, a4, a5, a6, a7⟩ := A
    obtain ⟨b1, b2, b3, b4, b5, b6, b7⟩ := B
    refine ⟨?_, ?_, a3, by omega, by omega, by omega, by omega⟩
    · apply zero_of
      intro i hi hn
      rw [BitVec.getLsbD_or, bits_zero a1 i hn, bits_zero b1 i hn]; rfl
    · apply sub_of
      intro i hi ho
      rw [BitVec.getLsbD_or, Bool.or_eq_true] at ho
      rcases ho with q | q
      · exact bits_sub a2 i q
      · exact bits_sub b2 i q
  · rintro ⟨c1, c2, c3, c4, c5, c6, c7⟩
    have z1 : ∀ i, n.getLsbD i = true → z.getLsbD i = false ∧ z'.getLsbD i = false := by
      intro i hn
      have := bits_zero c1 i hn
      rwa [BitVec.getLsbD_or, Bool.or_eq_false_iff] at this
    have o1 : ∀ i, o.getLsbD i = true ∨ o'.getLsbD i = true → n.getLsbD i = true := by
      intro i q
      refine bits_sub c2 i ?_
      rwa [BitVec.getLsbD_or, Bool.or_eq_true]
    exact ⟨⟨zero_of fun i _ hn => (z1 i hn).1, sub_of fun i _ ho => o1 i (.inl ho), c3, by omega, by omega, by omega, by omega⟩,
      ⟨zero_of fun i _ hn => (z1 i hn).2, sub_of fun i _ ho => o1 i (.inr ho), c3, by omega, by omega, by omega, by omega⟩⟩
theorem con_join {W : Nat} {z o z' o' n : Wd} {a b c d a' b' c' d' : Int} (h : Con W z o a b c d n ∨ Con W z' o' a' b' c' d' n) : Con W (z &&& z') (o &&& o') (imn a a') (imx b b') (imn c c') (imx d d') n := by
  have k1 := imn_of a a'
  have k2 := imx_of b b'
  have k3 := imn_of c c'
  have k4 := imx_of d d'
  rcases h with A | A <;> obtain ⟨a1, a2, a3, a4, a5, a6, a7⟩ := A
  · refine ⟨?_, ?_, a3, by omega, by omega, by omega, by omega⟩
    · apply zero_of
      intro i hi hn
      rw [BitVec.getLsbD_and, bits_zero a1 i hn]; rfl
    · apply sub_of
      intro i hi ho
      rw [BitVec.getLsbD_and, Bool.and_eq_true] at ho
      exact bits_sub a2 i ho.1
  · refine ⟨?_, ?_, a3, by omega, by omega, by omega, by omega⟩
    · apply zero_of
      intro i hi hn
      rw [BitVec.getLsbD_and, bits_zero a1 i hn, Bool.and_false]
    · apply sub_of
      intro i hi ho
      rw [BitVec.getLsbD_and, Bool.and_eq_true] at ho
      exact bits_sub a2 i ho.2
theorem con_apart {W : Nat} {z o z' o' n : Wd} {a b c d a' b' c' d' : Int} (A : Con W z o a b c d n) (B : Con W z' o' a' b' c' d' n) : ¬ (kmB z o z' o' = true ∨ imx a a' > imn b b' ∨ imx c c' > imn d d') := by
  have C := con_meet.1 ⟨A, B⟩
  rintro (h | h | h)
  · unfold kmB at h
    have : (z ||| z') &&& (o ||| o') = 0#64 := by
      apply zero_of
      intro i hi hz
      cases ho : (o ||| o').getLsbD i with
      | false => rfl
      | true =>
        have := bits_zero C.nz i (bits_sub C.no i ho)
        rw [hz] at this; cases this
    rw [this] at h
    cases h
  · have := C.a1; have := C.b1; omega
  · have := C.c1; have := C.d1; omega

theorem elements_eq {x1 x2 x3 x4 x5 x6 x7 x8 x9 x10 x11 x12 x13 x14 : Int} (w2 : (Lit.int .u64 x2).wf = true) (w3 : (Lit.int .u64 x3).wf = true) (w4 : (Lit.int .u64 x4).wf = true) (w5 : (Lit.int .u64 x5).wf = true)
    (w8 : (Lit.int .u64 x8).wf = true) (w9 : (Lit.int .u64 x9).wf = true) (w10 : (Lit.int .u64 x10).wf = true) (w11 : (Lit.int .u64 x11).wf = true) (w14 : (Lit.int .u64 x14).wf = true) :
    F6 x1 x2 x3 x4 x5 x6 x7 x8 x9 x10 x11 x12 x13 x14 = some true := by
  have b2 := bounds_u64 w2
  have b3 := bounds_u64 w3
  have b4 := bounds_u64 w4
  have b5 := bounds_u64 w5
  have b8 := bounds_u64 w8
  have b9 := bounds_u64 w9
  have b10 := bounds_u64 w10
  have b11 := bounds_u64 w11
  have b14 := bounds_u64 w14
  obtain ⟨z, rfl⟩ := nv_ex (n := x2) (by omega) (by omega)
  obtain ⟨o, rfl⟩ := nv_ex (n := x3) (by omega) (by omega)
  obtain ⟨z', rfl⟩ := nv_ex (n := x8) (by omega) (by omega)
  obtain ⟨o', rfl⟩ := nv_ex (n := x9) (by omega) (by omega)
  obtain ⟨n, rfl⟩ := nv_ex (n := x14) (by omega) (by omega)
  obtain ⟨t1, p1, r1⟩ := top_same x1
  obtain ⟨t2, p2, r2⟩ := of_same x1 n
  obtain ⟨v1, p3, r3, V1⟩ := valid_same x1 z o x4 x5 x6 x7
  obtain ⟨v2, p5, r5, V2⟩ := valid_same x1 z' o' x10 x11 x12 x13
  obtain ⟨u1, p4, r4⟩ := con_same x1 z o x4 x5 x6 x7 n
  obtain ⟨u2, p6, r6⟩ := con_same x1 z' o' x10 x11 x12 x13 n
  obtain ⟨j1, j2⟩ := join_eq z o x4 x5 x6 x7 z' o' x10 x11 x12 x13
  have hm : ∃ t : R7, F30 x1 (nv z) (nv o) x4 x5 x6 x7 (nv z') (nv o') x10 x11 x12 x13 = some t ∧ F31 x1 (nv z) (nv o) x4 x5 x6 x7 (nv z') (nv o') x10 x11 x12 x13 = some t ∧
      (v1 = true → v2 = true → (t.2.2.2.2.2.2 = true → F24 x1 t.1 t.2.1 t.2.2.1 t.2.2.2.1 t.2.2.2.2.1 t.2.2.2.2.2.1 (nv n) = some (u1 && u2)) ∧ (t.2.2.2.2.2.2 = false → (u1 && u2) = false)) := by
    have kb := imn_of x5 x11
    have ka := imx_of x4 x10
    have kc := imx_of x6 x12
    have kd := imn_of x7 x13
    rcases meet_eq x1 z o x4 x5 x6 x7 z' o' x10 x11 x12 x13 with ⟨hn, m1, m2⟩ | ⟨⟨hk, hr⟩, m1, m2⟩
    · refine ⟨no7, m1, m2, fun q1 q2 => ⟨fun q => (by cases q), fun _ => ?_⟩⟩
      obtain ⟨W, e, h, K1, I1⟩ := V1 q1
      subst e
      obtain ⟨y1, f1, g1⟩ := con_ok h z o x4 x5 x6 x7 n
      obtain ⟨y2, f2, g2⟩ := con_ok h z' o' x10 x11 x12 x13 n
      rw [p4] at f1
      rw [p6] at f2
      cases f1; cases f2
      cases hu : (u1 && u2) with
      | false => rfl
      | true =>
        simp only [Bool.and_eq_true] at hu
        exact absurd hn (con_apart (g1.1 hu.1) (g2.1 hu.2))
    · by_cases hv : v1 = true ∧ v2 = true
      · obtain ⟨W, e, h, K1, I1⟩ := V1 hv.1
        obtain ⟨W', e', h', K2, I2⟩ := V2 hv.2
        have : W' = W := by omega
        subst this
        subst e
        have K : KVal W' (z ||| z') (o ||| o') := ⟨or_fits.2 ⟨K1.fz, K2.fz⟩, or_fits.2 ⟨K1.fo, K2.fo⟩, by
          unfold kmB at hk; exact nv_zero.1 (bne_eq_false_iff_eq.1 hk)⟩
        have I : IVal W' (imx x4 x10) (imn x5 x11) (imx x6 x12) (imn x7 x13) := by
          obtain ⟨i1, i2, i3, i4, i5⟩ := I1
          obtain ⟨l1, l2, l3, l4, l5⟩ := I2
          exact ⟨by omega, by omega, by omega, by omega, by omega⟩
        obtain ⟨t, f1, f2, g1, g2⟩ := tight_con h (by omega) (by omega) K I
        refine ⟨t, m1.trans f1, m2.trans f2, fun _ _ => ⟨fun q => ?_, fun q => ?_⟩⟩
        · obtain ⟨y, fy, gy⟩ := g1 q n
          obtain ⟨y1, e1, k1⟩ := con_ok h z o x4 x5 x6 x7 n
          obtain ⟨y2, e2, k2⟩ := con_ok h z' o' x10 x11 x12 x13 n
          rw [p4] at e1
          rw [p6] at e2
          cases e1; cases e2
          rw [fy]
          congr 1
          rw [Bool.eq_iff_iff, gy, Bool.and_eq_true, k1, k2]
          exact con_meet.symm
        · obtain ⟨y1, e1, k1⟩ := con_ok h z o x4 x5 x6 x7 n
          obtain ⟨y2, e2, k2⟩ := con_ok h z' o' x10 x11 x12 x13 n
          rw [p4] at e1
          rw [p6] at e2
          cases e1; cases e2
          cases hu : (u1 && u2) with
          | false => rfl
          | true =>
            simp only [Bool.and_eq_true] at hu
            exact absurd (con_meet.1 ⟨k1.1 hu.1, k2.1 hu.2⟩) (g2 q n)
      · obtain ⟨t, f1, f2⟩ := tight_same x1 (z ||| z') (o ||| o') (a := imx x4 x10) (b := imn x5 x11) (imx x6 x12) (imn x7 x13) (by omega) (by omega)
        exact ⟨t, m1.trans f1, m2.trans f2, fun q1 q2 => absurd ⟨q1, q2⟩ hv⟩
  have hj : v1 = true → (u1 || u2) = true → F24 x1 (nv (z &&& z')) (nv (o &&& o')) (imn x4 x10) (imx x5 x11) (imn x6 x12) (imx x7 x13) (nv n) = some true := by
    intro q1 hu
    obtain ⟨W, e, h, K1, I1⟩ := V1 q1
    subst e
    obtain ⟨y1, e1, k1⟩ := con_ok h z o x4 x5 x6 x7 n
    obtain ⟨y2, e2, k2⟩ := con_ok h z' o' x10 x11 x12 x13 n
    rw [p4] at e1
    rw [p6] at e2
    cases e1; cases e2
    obtain ⟨y, f, g⟩ := con_ok h (z &&& z') (o &&& o') (imn x4 x10) (imx x5 x11) (imn x6 x12) (imx x7 x13) n
    rw [f]
    congr 1
    refine g.2 (con_join ?_)
    rw [Bool.or_eq_true] at hu
    rcases hu with hu | hu
    · exact .inl (k1.1 hu)
    · exact .inr (k2.1 hu)
  obtain ⟨t, m1, m2, m3⟩ := hm
  have s1 : F6__1 t1 t1 = false := by unfold F6__1; simp
  have s2 : F6__2 t2 t2 = false := by unfold F6__2; simp
  have s3 : F6__3 (nv z) (nv o) x4 x5 x6 x7 (nv z') (nv o') x10 x11 x12 x13 = false := by
    unfold F6__3
    rw [show F27 (nv z) (nv o) x4 x5 x6 x7 (nv z') (nv o') x10 x11 x12 x13 = F26 (nv z) (nv o) x4 x5 x6 x7 (nv z') (nv o') x10 x11 x12 x13 from rfl]
    simp
  have s4 : F6__4 (nv z) (nv o) x4 x5 x6 x7 (nv z') (nv o') x10 x11 x12 x13 = false := by
    unfold F6__4; rw [j1, j2]; simp
  have s5 : F6__5 t t = false := by unfold F6__5; simp
  apply Yields.eq
  unfold F6
  refine Yields.bindE p1 (Yields.bindE r1 ?_)
  rw [s1]
  simp only [cond_false]
  refine Yields.bindE p2 (Yields.bindE r2 ?_)
  rw [s2]
  simp only [cond_false]
  refine Yields.bindE p3 (Yields.bindE r3 (Yields.bif (fun q => by simp at q) (fun _ => ?_)))
  refine Yields.bindE p4 (Yields.bindE r4 (Yields.bif (fun q => by simp at q) (fun _ => ?_)))
  rw [s3, s4]
  simp only [cond_false]
  refine Yields.bindE m1 (Yields.bindE m2 ?_)
  rw [s5]
  simp only [cond_false]
  refine Yields.bif (fun q => by simp at q) (fun _ => ?_)
  refine Yields.bindE r3 ?_
  cases v1 with
  | false => exact Yields.some rfl
  | true =>
    refine Yields.bindE r5 ?_
    cases v2 with
    | false => exact Yields.some rfl
    | true =>
      obtain ⟨g1, g2⟩ := m3 rfl rfl
      have hj := hj rfl
      refine Yields.bindE p4 (Yields.bindE p6 ?_)
      rw [j1]
      simp only
      cases hok : t.2.2.2.2.2.2 with
      | true =>
        have g := g1 hok
        cases u1 <;> cases u2
        · simp only [Bool.not_false, cond_true, cond_false, Bool.false_eq_true, if_false]
          exact Yields.bindE g (Yields.some rfl)
        · simp only [Bool.not_false, Bool.not_true, cond_true, cond_false]
          exact Yields.bindE (hj rfl) (Yields.bindE g (Yields.some rfl))
        · simp only [Bool.not_false, Bool.not_true, cond_true, cond_false]
          exact Yields.bindE (hj rfl) (Yields.bindE g (Yields.some rfl))
        · simp only [Bool.not_true, cond_true, cond_false]
          exact Yields.bindE (hj rfl) (Yields.bindE g (Yields.some rfl))
      | false =>
        have g := g2 hok
        cases u1 <;> cases u2
        · exact Yields.some rfl
        · exact Yields.bindE (hj rfl) (Yields.some rfl)
        · exact Yields.bindE (hj rfl) (Yields.some rfl)
        · cases g
theorem elements : Law Try.prog 6 10 [3, 42, 39] := F6_law (fun x1 x2 x3 x4 x5 x6 x7 x8 x9 x10 x11 x12 x13 x14 _ w2 w3 w4 w5 _ _ w8 w9 w10 w11 _ _ w14 => elements_eq w2 w3 w4 w5 w8 w9 w10 w11 w14)
end Go.Proofs.Ytpmbcnknnolojaa.Abs
