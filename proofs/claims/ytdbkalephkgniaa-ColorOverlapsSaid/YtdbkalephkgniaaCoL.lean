/- The law of spans that overlap. -/
import Derived.Test.YtdbkalephkgniaaVw
import Derived.Test.YtdbkalephkgniaaCo
namespace Go.Proofs.Ytdbkalephkgniaa.Abs
open Go
set_option linter.unusedVariables false
set_option linter.unusedSimpArgs false

theorem tmod_fix {x n : Int} (hn : n > 0) : (if x.tmod n < 0 then x.tmod n + n else x.tmod n) = x % n := by
  rcases Int.lt_or_le x 0 with hx | hx
  · have e : x.tmod n = -((-x) % n) := by
      rw [← Int.tmod_eq_emod_of_nonneg (by omega : 0 ≤ -x), Int.neg_tmod]; omega
    have g1 := Int.emod_nonneg (-x) (show n ≠ 0 by omega)
    have g2 := Int.emod_lt_of_pos (-x) hn
    rw [e]
    by_cases hz : (-x) % n = 0
    · rw [hz]; simp
      exact (Int.emod_eq_zero_of_dvd (Int.dvd_neg.1 (Int.dvd_of_emod_eq_zero hz))).symm
    · rw [if_pos (by omega)]
      have q := Int.mul_ediv_add_emod (-x) n
      generalize hr : (-x) % n = r at *
      generalize (-x) / n = d at *
      have ex : x = (n - r) + n * (-d - 1) := by rw [Int.mul_sub, Int.mul_neg]; omega
      rw [ex, Int.add_mul_emod_self_left, Int.emod_eq_of_lt (by omega) (by omega)]
      omega
  · rw [Int.tmod_eq_emod_of_nonneg hx]
    have g1 := Int.emod_nonneg x (show n ≠ 0 by omega)
    rw [if_neg (by omega)]
theorem I_bounds (x : Int) : 0 ≤ F40 x ∧ F40 x ≤ 256 := by
  unfold F40; (repeat' split) <;> omega
theorem I_again (x : Int) : F40 (F40 x) = F40 x := by
  have := I_bounds x
  generalize F40 x = n at *
  unfold F40; (repeat' split) <;> omega
theorem I_zero : F40 0 = 0 := by decide
theorem from_bounds (a b : Int) : -1073741824 ≤ F42 a b ∧ F42 a b ≤ 1073741824 := by
  unfold F42 F42__1; (repeat' split) <;> omega
theorem len_bounds (a b x : Int) : 0 ≤ F41 a b x ∧ F41 a b x ≤ 1048576 ∧ (F40 x > 0 → F41 a b x ≤ F40 x) := by
  have := I_bounds x
  unfold F41 F41__1
  generalize F40 x = n at *
  simp only [Bool.cond_eq_ite, decide_eq_true_eq]
  (repeat' split) <;> (refine ⟨?_, ?_, ?_⟩ <;> omega)
theorem len_again (a b x : Int) : F41 a b (F40 x) = F41 a b x := by
  unfold F41 F41__1; rw [I_again]
theorem len_zero (a b x : Int) (h : F40 x = 0) : F41 a b x = F41 a b 0 := by
  unfold F41 F41__1; rw [h, I_zero]
def lim (x : Int) (y : Int × Int) : Int × Int := (if F40 x > 0 then F42 y.1 y.2 % F40 x else F42 y.1 y.2, F41 y.1 y.2 x)
theorem limits (l : List (Int × Int)) (x : Int) (hl : l.length * 16 ≤ reachBytes) : F38 l x = some (l.map (lim x), F40 x) := by
  have hr : l.length * 16 ≤ 140737488351232 := hl
  refine Yields.eq ?_
  unfold F38
  rw [ok_len (by omega) (by omega)]
  simp only [Bool.not_true, cond_false]
  refine Yields.bind (P := fun t => t = l.map (lim x)) (Yields.loop l.length (fun i (z : Int × List (Int × Int)) => z.1 = i ∧ z.2.length = l.length ∧ ∀ j y, j < i → l[j]? = some y → z.2[j]? = some (lim x y)) ⟨rfl, by simp, fun j y h => by omega⟩ ?_) (fun y h => Yields.some (by rw [h]; rfl))
  rintro i ⟨a, r⟩ hi ⟨ha, hr, hj⟩
  simp only at ha hr hj ⊢
  subst ha
  unfold F38_s1
  refine Yields.bif (fun c => ?_) (fun c => ?_)
  · have c' : i < l.length := by simpa using c
    refine Yields.at (by omega) (by omega) fun y hy hmem => ?_
    have hy' := at_nat hy
    have hI := I_bounds x
    have key : ∀ z : Int × Int, z = lim x y → Yields (Nx i l.length (fun i (z : Int × List (Int × Int)) => z.1 = i ∧ z.2.length = l.length ∧ ∀ j y, j < i → l[j]? = some y → z.2[j]? = some (lim x y)) (fun t => t = l.map (lim x))) (some (.inl (IntKind.i64.wrap ((i : Int) + 1), setI r i z))) := by
      intro z hz
      refine Yields.some ⟨c', wrap_i1 (by omega), by simp [setI, hr], ?_⟩
      intro j y' hji hy2
      simp only [setI, Int.toNat_natCast]
      by_cases hij : i = j
      · subst hij
        rw [hy'] at hy2; cases hy2
        rw [List.getElem?_set_self (by omega), hz]
      · rw [List.getElem?_set_ne hij]
        exact hj j y' (by omega) hy2
    have e1 : F38__1 y = F42 y.1 y.2 := rfl
    have e3 : F38__3 x = decide (F40 x > 0) := rfl
    have e5 : F38__5 x y = (F42 y.1 y.2).tmod (F40 x) := rfl
    have eI : (if 256 < (if 0 > x then 0 else x) then 256 else (if 0 > x then 0 else x)) = F40 x := rfl
    have hf := from_bounds y.1 y.2
    rw [e3]
    refine Yields.bif (fun d => ?_) (fun d => ?_)
    · have d' : F40 x > 0 := by simpa using d
      rw [eI]
      have hz : (F40 x == 0) = false := beq_eq_false_iff_ne.2 (by omega)
      rw [hz]
      simp only [cond_false]
      have tf := tmod_fix (x := F42 y.1 y.2) d'
      have g2 := Int.emod_lt_of_pos (F42 y.1 y.2) d'
      have g1 := Int.emod_nonneg (F42 y.1 y.2) (show F40 x ≠ 0 by omega)
      have e4 : F38__4 x y = F41 y.1 y.2 x := by
        have hd : decide (F40 x > 0) = true := d
        show _ = (bif decide (F40 x > 0) then F41__1 y.2 x else _)
        rw [hd]; rfl
      rw [e5]
      refine Yields.bif (fun e => ?_) (fun e => ?_)
      · have e' : (F42 y.1 y.2).tmod (F40 x) < 0 := by simpa using e
        rw [if_pos e'] at tf
        refine Yields.at (by omega) (by omega) fun _ _ _ => key _ ?_
        have e6 : F38__6 x y = IntKind.i64.wrap ((F42 y.1 y.2).tmod (F40 x) + F40 x) := rfl
        rw [e6, e4, tf, wrap_i64 (by omega) (by omega)]
        simp [lim, d']
      · have e' : ¬ (F42 y.1 y.2).tmod (F40 x) < 0 := by simpa using e
        rw [if_neg e'] at tf
        refine Yields.at (by omega) (by omega) fun _ _ _ => key _ ?_
        rw [e4, tf]
        simp [lim, d']
    · have d' : ¬ F40 x > 0 := by simpa using d
      refine Yields.at (by omega) (by omega) fun _ _ _ => key _ ?_
      have e2 : F38__2 y = F41 y.1 y.2 x := by
        have hd : decide (F40 x > 0) = false := d
        show _ = (bif decide (F40 x > 0) then F41__1 y.2 x else _)
        rw [hd]; rfl
      rw [e1, e2]
      simp [lim, d']
  · refine Yields.some ?_
    have : i = l.length := by simp at c; omega
    subst this
    show r = _
    apply List.ext_getElem?
    intro j
    rcases Nat.lt_or_ge j l.length with h | h
    · rw [hj j l[j] h (List.getElem?_eq_getElem h), List.getElem?_map, List.getElem?_eq_getElem h]; rfl
    · rw [List.getElem?_eq_none (by omega), List.getElem?_eq_none (by simp; omega)]

/-! What it means that two spans overlap. -/
def con (x : Int) (a : Int × Int) (c : Int) : Bool := decide ((c - F42 a.1 a.2) % F40 x < F41 a.1 a.2 x)
def OV (x : Int) (a b : Int × Int) : Bool :=
  if F40 x = 0 then decide (0 < F41 a.1 a.2 x) && decide (0 < F41 b.1 b.2 x) && decide (F42 a.1 a.2 < F42 b.1 b.2 + F41 b.1 b.2 x) && decide (F42 b.1 b.2 < F42 a.1 a.2 + F41 a.1 a.2 x)
  else !((List.range (F40 x).toNat).all fun (c : Nat) => !(con x a c && con x b c))
theorem OV_comm (x : Int) (a b : Int × Int) : OV x a b = OV x b a := by
  unfold OV
  split
  · rw [Bool.eq_iff_iff]; simp; omega
  · congr 2
    funext c
    rw [Bool.and_comm]
theorem OV_iff {x : Int} (hn : F40 x > 0) (a b : Int × Int) : OV x a b = true ↔ ∃ c : Int, 0 ≤ c ∧ c < F40 x ∧ con x a c = true ∧ con x b c = true := by
  unfold OV
  rw [if_neg (by omega), Bool.not_eq_true', ← Bool.not_eq_true, List.all_eq_true]
  constructor
  · intro h
    apply Classical.byContradiction
    intro hx
    refine h fun c hc => ?_
    have hlt := List.mem_range.1 hc
    cases h1 : con x a c <;> cases h2 : con x b c <;> simp
    exact hx ⟨c, by omega, by omega, h1, h2⟩
  · rintro ⟨c, h0, h1, h2, h3⟩ h
    have := h c.toNat (List.mem_range.2 (by omega))
    rw [Int.toNat_of_nonneg h0, h2, h3] at this
    cases this
theorem ov_eq (x : Int) (a b : Int × Int) : F39 (lim x a).1 (lim x a).2 (lim x b).1 (lim x b).2 (F40 x) = OV x a b := by
  have hI := I_bounds x
  have fa := from_bounds a.1 a.2
  have fb := from_bounds b.1 b.2
  have la := len_bounds a.1 a.2 x
  have lb := len_bounds b.1 b.2 x
  by_cases hn : F40 x > 0
  · rw [Bool.eq_iff_iff, OV_iff hn]
    simp only [lim, hn, if_true, con, decide_eq_true_eq]
    generalize F42 a.1 a.2 = A at *
    generalize F42 b.1 b.2 = B at *
    generalize F41 a.1 a.2 x = la' at *
    generalize F41 b.1 b.2 x = lb' at *
    generalize F40 x = n at *
    have a2 := Int.emod_lt_of_pos A hn
    have a1 := Int.emod_nonneg A (show n ≠ 0 by omega)
    have b2 := Int.emod_lt_of_pos B hn
    have b1 := Int.emod_nonneg B (show n ≠ 0 by omega)
    have hd : (IntKind.i64.wrap (IntKind.i64.wrap (B % n - A % n) + n)).tmod n = (B - A) % n := by
      rw [wrap_i64 (x := B % n - A % n) (by omega) (by omega), wrap_i64 (by omega) (by omega), Int.tmod_eq_emod_of_nonneg (by omega)]
      rw [Int.add_emod_right, ← Int.sub_emod]
    have d2 := Int.emod_lt_of_pos (B - A) hn
    have d1 := Int.emod_nonneg (B - A) (show n ≠ 0 by omega)
    have hm : (A - B) % n = (-((B - A) % n)) % n := by
      have e : A - B = 0 - (B - A) := by omega
      rw [e, Int.sub_emod, Int.zero_emod]; rw [Int.zero_sub]
    unfold F39 F39__1
    rw [hd]
    constructor
    · intro h
      by_cases z1 : la' = 0
      · simp [z1] at h
      · by_cases z2 : lb' = 0
        · simp [z1, z2] at h
        · have z3 : (n == 0) = false := beq_eq_false_iff_ne.2 (by omega)
          have z1' : (la' == 0) = false := beq_eq_false_iff_ne.2 z1
          have z2' : (lb' == 0) = false := beq_eq_false_iff_ne.2 z2
          rw [z1', z2', z3] at h
          simp only [cond_false] at h
          by_cases hda : (B - A) % n < la'
          · refine ⟨B % n, b1, b2, ?_, ?_⟩
            · rw [Int.emod_sub_emod]; exact hda
            · rw [Int.emod_sub_emod, Int.sub_self, Int.zero_emod]; omega
          · have hda' : decide ((B - A) % n < la') = false := by simpa using hda
            rw [hda'] at h
            simp only [cond_false, decide_eq_true_eq] at h
            rw [wrap_i64 (by omega) (by omega)] at h
            refine ⟨A % n, a1, a2, ?_, ?_⟩
            · rw [Int.emod_sub_emod, Int.sub_self, Int.zero_emod]; omega
            · rw [Int.emod_sub_emod, hm]
              have e : -((B - A) % n) = (n - (B - A) % n) + n * (-1) := by omega
              rw [e, Int.add_mul_emod_self_left, Int.emod_eq_of_lt (by omega) (by omega)]
              omega
    · rintro ⟨c, c0, c1, h1, h2⟩
      have u2 := Int.emod_lt_of_pos (c - A) hn
      have u1 := Int.emod_nonneg (c - A) (show n ≠ 0 by omega)
      have v2 := Int.emod_lt_of_pos (c - B) hn
      have v1 := Int.emod_nonneg (c - B) (show n ≠ 0 by omega)
      have hdd : (B - A) % n = ((c - A) % n - (c - B) % n) % n := by
        rw [← Int.sub_emod]; congr 1; omega
      have z3 : (n == 0) = false := beq_eq_false_iff_ne.2 (by omega)
      have z1' : (la' == 0) = false := beq_eq_false_iff_ne.2 (by omega)
      have z2' : (lb' == 0) = false := beq_eq_false_iff_ne.2 (by omega)
      rw [z1', z2', z3]
      simp only [cond_false]
      generalize (c - A) % n = u at *
      generalize (c - B) % n = v at *
      by_cases huv : v ≤ u
      · have : (B - A) % n = u - v := by rw [hdd]; exact Int.emod_eq_of_lt (by omega) (by omega)
        have hda' : decide ((B - A) % n < la') = true := by simp; omega
        rw [hda']; rfl
      · have : (B - A) % n = u - v + n := by
          rw [hdd]
          have e : u - v = (u - v + n) + n * (-1) := by omega
          rw [e, Int.add_mul_emod_self_left, Int.emod_eq_of_lt (by omega) (by omega)]; omega
        have hx : IntKind.i64.wrap (n - (B - A) % n) = n - (B - A) % n := wrap_i64 (by omega) (by omega)
        rw [hx]
        cases hda' : decide ((B - A) % n < la')
        · simp only [cond_false, decide_eq_true_eq]; omega
        · rfl
  · have h0 : F40 x = 0 := by omega
    unfold OV
    rw [if_pos h0]
    simp only [lim, hn, if_false]
    unfold F39
    rw [h0]
    rw [wrap_i64 (by omega) (by omega), wrap_i64 (by omega) (by omega)]
    rw [Bool.eq_iff_iff]
    simp only [Bool.cond_eq_ite, beq_iff_eq, Bool.and_eq_true, decide_eq_true_eq]
    simp only [beq_self_eq_true, if_true]
    (repeat' split) <;> simp <;> omega
theorem con_eq {x : Int} (hn : F40 x > 0) (a : Int × Int) (c : Nat) (hc : (c : Int) < F40 x) : F43 a.1 a.2 (F40 x) c = some (con x a c) := by
  have hI := I_bounds x
  have fa := from_bounds a.1 a.2
  unfold F43
  rw [I_again, len_again]
  have z : (F40 x == 0) = false := beq_eq_false_iff_ne.2 (by omega)
  rw [z]
  simp only [cond_false]
  rw [wrap_i64 (by omega) (by omega)]
  have hm : F81 ((c : Int) - F42 a.1 a.2) (F40 x) = some (((c : Int) - F42 a.1 a.2) % F40 x) := by
    have tf := tmod_fix (x := (c : Int) - F42 a.1 a.2) hn
    have g2 := Int.emod_lt_of_pos ((c : Int) - F42 a.1 a.2) hn
    have g1 := Int.emod_nonneg ((c : Int) - F42 a.1 a.2) (show F40 x ≠ 0 by omega)
    refine Yields.eq ?_
    unfold F81
    rw [z]
    simp only [cond_false]
    refine Yields.bif (fun e => ?_) (fun e => ?_)
    · have e' : ((c : Int) - F42 a.1 a.2).tmod (F40 x) < 0 := by simpa using e
      rw [if_pos e'] at tf
      refine Yields.some ?_
      rw [tf, wrap_i64 (by omega) (by omega)]
    · have e' : ¬ ((c : Int) - F42 a.1 a.2).tmod (F40 x) < 0 := by simpa using e
      rw [if_neg e'] at tf
      exact Yields.some tf
  rw [hm]
  rfl
theorem rov_eq (x : Int) (a b : Int × Int) : F18 a.1 a.2 b.1 b.2 x = some (OV x a b) := by
  have hI := I_bounds x
  have fa := from_bounds a.1 a.2
  have fb := from_bounds b.1 b.2
  unfold F18 OV
  by_cases h0 : F40 x = 0
  · have la := len_bounds a.1 a.2 0
    have lb := len_bounds b.1 b.2 0
    rw [if_pos h0, h0, len_zero a.1 a.2 x h0, len_zero b.1 b.2 x h0]
    rw [wrap_i64 (x := F42 b.1 b.2 + F41 b.1 b.2 0) (by omega) (by omega), wrap_i64 (x := F42 a.1 a.2 + F41 a.1 a.2 0) (by omega) (by omega)]
    simp only [beq_self_eq_true, cond_true]
    generalize F42 a.1 a.2 = A at *
    generalize F42 b.1 b.2 = B at *
    generalize F41 a.1 a.2 0 = la' at *
    generalize F41 b.1 b.2 0 = lb' at *
    by_cases z1 : 0 < la'
    · by_cases z2 : 0 < lb'
      · by_cases z3 : A < B + lb'
        · simp [z1, z2, z3]
        · simp [z1, z2, z3]
      · simp [z1, z2]
    · simp [z1]
  · have hn : F40 x > 0 := by omega
    have z : (F40 x == 0) = false := beq_eq_false_iff_ne.2 h0
    rw [if_neg h0, z]
    simp only [cond_false]
    rw [loop_forall (n := (F40 x).toNat) (by unfold maxLen; omega) (fun c => !(con x a c && con x b c)) (by
      intro i hi
      unfold F18_s1
      have hd : decide ((i : Int) < F40 x) = true := by simp; omega
      rw [hd, con_eq hn a i (by omega), con_eq hn b i (by omega)]
      simp only [cond_true, Option.bind_some]
      cases con x a i <;> cases con x b i <;> simp) (by
      unfold F18_s1
      have hd : decide ((((F40 x).toNat : Nat) : Int) < F40 x) = false := by simp; omega
      rw [hd]; rfl)]
    simp only [Option.bind_some]
    cases (List.range (F40 x).toNat).all fun c => !(con x a c && con x b c) <;> rfl

theorem F17_eq (x1 x2 x3 x4 x : Int) : F17 x1 x2 x3 x4 x = some (OV x (x1, x2) (x3, x4)) := by
  have h := limits [(x1, x2), (x3, x4)] x (by simp [reachBytes])
  unfold F17
  rw [h]
  have e := ov_eq x (x1, x2) (x3, x4)
  simp only [Option.bind_some, List.map_cons, List.map_nil]
  simp only [at?, List.getElem?_cons_zero]
  show some _ = _
  exact congrArg some e
theorem overlaps_law : Law Try.prog 5 10 [43, 43, 3] := by
  refine F5_law fun x1 x2 x3 x4 x _ _ _ _ _ => ?_
  unfold F5
  have r := rov_eq x (x1, x2) (x3, x4)
  simp only at r
  rw [F17_eq, F17_eq, r, OV_comm x (x3, x4) (x1, x2)]
  simp
end Go.Proofs.Ytdbkalephkgniaa.Abs
