/- The law of proper colors, on lists. -/
import Derived.Test.YtdoafmfkbddmlacVw
import Derived.Test.YtdoafmfkbddmlacCp
namespace Go.Proofs.Ytdoafmfkbddmlac.Abs
open Go
set_option linter.unusedVariables false
set_option linter.unusedSimpArgs false

theorem tmod_fix {x n : Int} (hn : n > 0) : (if x.tmod n < 0 then x.tmod n + n else x.tmod n) = x % n := by
  rcases Int.lt_or_le x 0 with hx | hx
  · have e : x.tmod n = -((-x) % n) := by
      rw [← Int.tmod_eq_emod_of_nonneg (by omega : 0 ≤ -x), Int.neg_tmod]; omega
    have g1 := Int.emod_nonneg (-x) (show n ≠ 0 by omega)
    have g2 := Int.emod_lt_of_pos (-x) hn
    rw [e]
    by_cases hz : (-x) % n = 0
    · rw [hz]; simp
      exact (Int.emod_eq_zero_of_dvd (Int.dvd_neg.1 (Int.dvd_of_emod_eq_zero hz))).symm
    · rw [if_pos (by omega)]
      have q := Int.mul_ediv_add_emod (-x) n
      generalize hr : (-x) % n = r at *
      generalize (-x) / n = d at *
      have ex : x = (n - r) + n * (-d - 1) := by rw [Int.mul_sub, Int.mul_neg]; omega
      rw [ex, Int.add_mul_emod_self_left, Int.emod_eq_of_lt (by omega) (by omega)]
      omega
  · rw [Int.tmod_eq_emod_of_nonneg hx]
    have g1 := Int.emod_nonneg x (show n ≠ 0 by omega)
    rw [if_neg (by omega)]
theorem I_bounds (x : Int) : 0 ≤ F16 x ∧ F16 x ≤ 256 := by
  unfold F16; (repeat' split) <;> omega
theorem I_again (x : Int) : F16 (F16 x) = F16 x := by
  have := I_bounds x
  generalize F16 x = n at *
  unfold F16; (repeat' split) <;> omega
theorem I_zero : F16 0 = 0 := by decide
theorem from_bounds (a b : Int) : -1073741824 ≤ F35 a b ∧ F35 a b ≤ 1073741824 := by
  unfold F35 F35__1; (repeat' split) <;> omega
theorem len_bounds (a b x : Int) : 0 ≤ F34 a b x ∧ F34 a b x ≤ 1048576 ∧ (F16 x > 0 → F34 a b x ≤ F16 x) := by
  have := I_bounds x
  unfold F34 F34__1
  generalize F16 x = n at *
  simp only [Bool.cond_eq_ite, decide_eq_true_eq]
  (repeat' split) <;> (refine ⟨?_, ?_, ?_⟩ <;> omega)
theorem len_again (a b x : Int) : F34 a b (F16 x) = F34 a b x := by
  unfold F34 F34__1; rw [I_again]
theorem len_zero (a b x : Int) (h : F16 x = 0) : F34 a b x = F34 a b 0 := by
  unfold F34 F34__1; rw [h, I_zero]
def lim (x : Int) (y : Int × Int) : Int × Int := (if F16 x > 0 then F35 y.1 y.2 % F16 x else F35 y.1 y.2, F34 y.1 y.2 x)
theorem limits (l : List (Int × Int)) (x : Int) (hl : l.length * 16 ≤ reachBytes) : F29 l x = some (l.map (lim x), F16 x) := by
  have hr : l.length * 16 ≤ 140737488351232 := hl
  refine Yields.eq ?_
  unfold F29
  rw [ok_len (by omega) (by omega)]
  simp only [Bool.not_true, cond_false]
  refine Yields.bind (P := fun t => t = l.map (lim x)) (Yields.loop l.length (fun i (z : Int × List (Int × Int)) => z.1 = i ∧ z.2.length = l.length ∧ ∀ j y, j < i → l[j]? = some y → z.2[j]? = some (lim x y)) ⟨rfl, by simp, fun j y h => by omega⟩ ?_) (fun y h => Yields.some (by rw [h]; rfl))
  rintro i ⟨a, r⟩ hi ⟨ha, hr, hj⟩
  simp only at ha hr hj ⊢
  subst ha
  unfold F29_s1
  refine Yields.bif (fun c => ?_) (fun c => ?_)
  · have c' : i < l.length := by simpa using c
    refine Yields.at (by omega) (by omega) fun y hy hmem => ?_
    have hy' := at_nat hy
    have hI := I_bounds x
    have key : ∀ z : Int × Int, z = lim x y → Yields (Nx i l.length (fun i (z : Int × List (Int × Int)) => z.1 = i ∧ z.2.length = l.length ∧ ∀ j y, j < i → l[j]? = some y → z.2[j]? = some (lim x y)) (fun t => t = l.map (lim x))) (some (.inl (IntKind.i64.wrap ((i : Int) + 1), setI r i z))) := by
      intro z hz
      refine Yields.some ⟨c', wrap_i1 (by omega), by simp [setI, hr], ?_⟩
      intro j y' hji hy2
      simp only [setI, Int.toNat_natCast]
      by_cases hij : i = j
      · subst hij
        rw [hy'] at hy2; cases hy2
        rw [List.getElem?_set_self (by omega), hz]
      · rw [List.getElem?_set_ne hij]
        exact hj j y' (by omega) hy2
    have e1 : F29__1 y = F35 y.1 y.2 := rfl
    have e3 : F29__3 x = decide (F16 x > 0) := rfl
    have e5 : F29__5 x y = (F35 y.1 y.2).tmod (F16 x) := rfl
    have eI : (if 256 < (if 0 > x then 0 else x) then 256 else (if 0 > x then 0 else x)) = F16 x := rfl
    have hf := from_bounds y.1 y.2
    rw [e3]
    refine Yields.bif (fun d => ?_) (fun d => ?_)
    · have d' : F16 x > 0 := by simpa using d
      rw [eI]
      have hz : (F16 x == 0) = false := beq_eq_false_iff_ne.2 (by omega)
      rw [hz]
      simp only [cond_false]
      have tf := tmod_fix (x := F35 y.1 y.2) d'
      have g2 := Int.emod_lt_of_pos (F35 y.1 y.2) d'
      have g1 := Int.emod_nonneg (F35 y.1 y.2) (show F16 x ≠ 0 by omega)
      have e4 : F29__4 x y = F34 y.1 y.2 x := by
        have hd : decide (F16 x > 0) = true := d
        show _ = (bif decide (F16 x > 0) then F34__1 y.2 x else _)
        rw [hd]; rfl
      rw [e5]
      refine Yields.bif (fun e => ?_) (fun e => ?_)
      · have e' : (F35 y.1 y.2).tmod (F16 x) < 0 := by simpa using e
        rw [if_pos e'] at tf
        refine Yields.at (by omega) (by omega) fun _ _ _ => key _ ?_
        have e6 : F29__6 x y = IntKind.i64.wrap ((F35 y.1 y.2).tmod (F16 x) + F16 x) := rfl
        rw [e6, e4, tf, wrap_i64 (by omega) (by omega)]
        simp [lim, d']
      · have e' : ¬ (F35 y.1 y.2).tmod (F16 x) < 0 := by simpa using e
        rw [if_neg e'] at tf
        refine Yields.at (by omega) (by omega) fun _ _ _ => key _ ?_
        rw [e4, tf]
        simp [lim, d']
    · have d' : ¬ F16 x > 0 := by simpa using d
      refine Yields.at (by omega) (by omega) fun _ _ _ => key _ ?_
      have e2 : F29__2 y = F34 y.1 y.2 x := by
        have hd : decide (F16 x > 0) = false := d
        show _ = (bif decide (F16 x > 0) then F34__1 y.2 x else _)
        rw [hd]; rfl
      rw [e1, e2]
      simp [lim, d']
  · refine Yields.some ?_
    have : i = l.length := by simp at c; omega
    subst this
    show r = _
    apply List.ext_getElem?
    intro j
    rcases Nat.lt_or_ge j l.length with h | h
    · rw [hj j l[j] h (List.getElem?_eq_getElem h), List.getElem?_map, List.getElem?_eq_getElem h]; rfl
    · rw [List.getElem?_eq_none (by omega), List.getElem?_eq_none (by simp; omega)]

/-! What it means that two spans overlap. -/
def con (x : Int) (a : Int × Int) (c : Int) : Bool := decide ((c - F35 a.1 a.2) % F16 x < F34 a.1 a.2 x)
def OV (x : Int) (a b : Int × Int) : Bool :=
  if F16 x = 0 then decide (0 < F34 a.1 a.2 x) && decide (0 < F34 b.1 b.2 x) && decide (F35 a.1 a.2 < F35 b.1 b.2 + F34 b.1 b.2 x) && decide (F35 b.1 b.2 < F35 a.1 a.2 + F34 a.1 a.2 x)
  else !((List.range (F16 x).toNat).all fun (c : Nat) => !(con x a c && con x b c))
theorem OV_comm (x : Int) (a b : Int × Int) : OV x a b = OV x b a := by
  unfold OV
  split
  · rw [Bool.eq_iff_iff]; simp; omega
  · congr 2
    funext c
    rw [Bool.and_comm]
theorem OV_iff {x : Int} (hn : F16 x > 0) (a b : Int × Int) : OV x a b = true ↔ ∃ c : Int, 0 ≤ c ∧ c < F16 x ∧ con x a c = true ∧ con x b c = true := by
  unfold OV
  rw [if_neg (by omega), Bool.not_eq_true', ← Bool.not_eq_true, List.all_eq_true]
  constructor
  · intro h
    apply Classical.byContradiction
    intro hx
    refine h fun c hc => ?_
    have hlt := List.mem_range.1 hc
    cases h1 : con x a c <;> cases h2 : con x b c <;> simp
    exact hx ⟨c, by omega, by omega, h1, h2⟩
  · rintro ⟨c, h0, h1, h2, h3⟩ h
    have := h c.toNat (List.mem_range.2 (by omega))
    rw [Int.toNat_of_nonneg h0, h2, h3] at this
    cases this
theorem ov_eq (x : Int) (a b : Int × Int) : F31 (lim x a).1 (lim x a).2 (lim x b).1 (lim x b).2 (F16 x) = OV x a b := by
  have hI := I_bounds x
  have fa := from_bounds a.1 a.2
  have fb := from_bounds b.1 b.2
  have la := len_bounds a.1 a.2 x
  have lb := len_bounds b.1 b.2 x
  by_cases hn : F16 x > 0
  · rw [Bool.eq_iff_iff, OV_iff hn]
    simp only [lim, hn, if_true, con, decide_eq_true_eq]
    generalize F35 a.1 a.2 = A at *
    generalize F35 b.1 b.2 = B at *
    generalize F34 a.1 a.2 x = la' at *
    generalize F34 b.1 b.2 x = lb' at *
    generalize F16 x = n at *
    have a2 := Int.emod_lt_of_pos A hn
    have a1 := Int.emod_nonneg A (show n ≠ 0 by omega)
    have b2 := Int.emod_lt_of_pos B hn
    have b1 := Int.emod_nonneg B (show n ≠ 0 by omega)
    have hd : (IntKind.i64.wrap (IntKind.i64.wrap (B % n - A % n) + n)).tmod n = (B - A) % n := by
      rw [wrap_i64 (x := B % n - A % n) (by omega) (by omega), wrap_i64 (by omega) (by omega), Int.tmod_eq_emod_of_nonneg (by omega)]
      rw [Int.add_emod_right, ← Int.sub_emod]
    have d2 := Int.emod_lt_of_pos (B - A) hn
    have d1 := Int.emod_nonneg (B - A) (show n ≠ 0 by omega)
    have hm : (A - B) % n = (-((B - A) % n)) % n := by
      have e : A - B = 0 - (B - A) := by omega
      rw [e, Int.sub_emod, Int.zero_emod]; rw [Int.zero_sub]
    unfold F31 F31__1
    rw [hd]
    constructor
    · intro h
      by_cases z1 : la' = 0
      · simp [z1] at h
      · by_cases z2 : lb' = 0
        · simp [z1, z2] at h
        · have z3 : (n == 0) = false := beq_eq_false_iff_ne.2 (by omega)
          have z1' : (la' == 0) = false := beq_eq_false_iff_ne.2 z1
          have z2' : (lb' == 0) = false := beq_eq_false_iff_ne.2 z2
          rw [z1', z2', z3] at h
          simp only [cond_false] at h
          by_cases hda : (B - A) % n < la'
          · refine ⟨B % n, b1, b2, ?_, ?_⟩
            · rw [Int.emod_sub_emod]; exact hda
            · rw [Int.emod_sub_emod, Int.sub_self, Int.zero_emod]; omega
          · have hda' : decide ((B - A) % n < la') = false := by simpa using hda
            rw [hda'] at h
            simp only [cond_false, decide_eq_true_eq] at h
            rw [wrap_i64 (by omega) (by omega)] at h
            refine ⟨A % n, a1, a2, ?_, ?_⟩
            · rw [Int.emod_sub_emod, Int.sub_self, Int.zero_emod]; omega
            · rw [Int.emod_sub_emod, hm]
              have e : -((B - A) % n) = (n - (B - A) % n) + n * (-1) := by omega
              rw [e, Int.add_mul_emod_self_left, Int.emod_eq_of_lt (by omega) (by omega)]
              omega
    · rintro ⟨c, c0, c1, h1, h2⟩
      have u2 := Int.emod_lt_of_pos (c - A) hn
      have u1 := Int.emod_nonneg (c - A) (show n ≠ 0 by omega)
      have v2 := Int.emod_lt_of_pos (c - B) hn
      have v1 := Int.emod_nonneg (c - B) (show n ≠ 0 by omega)
      have hdd : (B - A) % n = ((c - A) % n - (c - B) % n) % n := by
        rw [← Int.sub_emod]; congr 1; omega
      have z3 : (n == 0) = false := beq_eq_false_iff_ne.2 (by omega)
      have z1' : (la' == 0) = false := beq_eq_false_iff_ne.2 (by omega)
      have z2' : (lb' == 0) = false := beq_eq_false_iff_ne.2 (by omega)
      rw [z1', z2', z3]
      simp only [cond_false]
      generalize (c - A) % n = u at *
      generalize (c - B) % n = v at *
      by_cases huv : v ≤ u
      · have : (B - A) % n = u - v := by rw [hdd]; exact Int.emod_eq_of_lt (by omega) (by omega)
        have hda' : decide ((B - A) % n < la') = true := by simp; omega
        rw [hda']; rfl
      · have : (B - A) % n = u - v + n := by
          rw [hdd]
          have e : u - v = (u - v + n) + n * (-1) := by omega
          rw [e, Int.add_mul_emod_self_left, Int.emod_eq_of_lt (by omega) (by omega)]; omega
        have hx : IntKind.i64.wrap (n - (B - A) % n) = n - (B - A) % n := wrap_i64 (by omega) (by omega)
        rw [hx]
        cases hda' : decide ((B - A) % n < la')
        · simp only [cond_false, decide_eq_true_eq]; omega
        · rfl
  · have h0 : F16 x = 0 := by omega
    unfold OV
    rw [if_pos h0]
    simp only [lim, hn, if_false]
    unfold F31
    rw [h0]
    rw [wrap_i64 (by omega) (by omega), wrap_i64 (by omega) (by omega)]
    rw [Bool.eq_iff_iff]
    simp only [Bool.cond_eq_ite, beq_iff_eq, Bool.and_eq_true, decide_eq_true_eq]
    simp only [beq_self_eq_true, if_true]
    (repeat' split) <;> simp <;> omega
theorem con_eq {x : Int} (hn : F16 x > 0) (a : Int × Int) (c : Nat) (hc : (c : Int) < F16 x) : F36 a.1 a.2 (F16 x) c = some (con x a c) := by
  have hI := I_bounds x
  have fa := from_bounds a.1 a.2
  unfold F36
  rw [I_again, len_again]
  have z : (F16 x == 0) = false := beq_eq_false_iff_ne.2 (by omega)
  rw [z]
  simp only [cond_false]
  rw [wrap_i64 (by omega) (by omega)]
  have hm : F17 ((c : Int) - F35 a.1 a.2) (F16 x) = some (((c : Int) - F35 a.1 a.2) % F16 x) := by
    have tf := tmod_fix (x := (c : Int) - F35 a.1 a.2) hn
    have g2 := Int.emod_lt_of_pos ((c : Int) - F35 a.1 a.2) hn
    have g1 := Int.emod_nonneg ((c : Int) - F35 a.1 a.2) (show F16 x ≠ 0 by omega)
    refine Yields.eq ?_
    unfold F17
    rw [z]
    simp only [cond_false]
    refine Yields.bif (fun e => ?_) (fun e => ?_)
    · have e' : ((c : Int) - F35 a.1 a.2).tmod (F16 x) < 0 := by simpa using e
      rw [if_pos e'] at tf
      refine Yields.some ?_
      rw [tf, wrap_i64 (by omega) (by omega)]
    · have e' : ¬ ((c : Int) - F35 a.1 a.2).tmod (F16 x) < 0 := by simpa using e
      rw [if_neg e'] at tf
      exact Yields.some tf
  rw [hm]
  rfl
theorem rov_eq (x : Int) (a b : Int × Int) : F32 a.1 a.2 b.1 b.2 x = some (OV x a b) := by
  have hI := I_bounds x
  have fa := from_bounds a.1 a.2
  have fb := from_bounds b.1 b.2
  unfold F32 OV
  by_cases h0 : F16 x = 0
  · have la := len_bounds a.1 a.2 0
    have lb := len_bounds b.1 b.2 0
    rw [if_pos h0, h0, len_zero a.1 a.2 x h0, len_zero b.1 b.2 x h0]
    rw [wrap_i64 (x := F35 b.1 b.2 + F34 b.1 b.2 0) (by omega) (by omega), wrap_i64 (x := F35 a.1 a.2 + F34 a.1 a.2 0) (by omega) (by omega)]
    simp only [beq_self_eq_true, cond_true]
    generalize F35 a.1 a.2 = A at *
    generalize F35 b.1 b.2 = B at *
    generalize F34 a.1 a.2 0 = la' at *
    generalize F34 b.1 b.2 0 = lb' at *
    by_cases z1 : 0 < la'
    · by_cases z2 : 0 < lb'
      · by_cases z3 : A < B + lb'
        · simp [z1, z2, z3]
        · simp [z1, z2, z3]
      · simp [z1, z2]
    · simp [z1]
  · have hn : F16 x > 0 := by omega
    have z : (F16 x == 0) = false := beq_eq_false_iff_ne.2 h0
    rw [if_neg h0, z]
    simp only [cond_false]
    rw [loop_forall (n := (F16 x).toNat) (by unfold maxLen; omega) (fun c => !(con x a c && con x b c)) (by
      intro i hi
      unfold F32_s1
      have hd : decide ((i : Int) < F16 x) = true := by simp; omega
      rw [hd, con_eq hn a i (by omega), con_eq hn b i (by omega)]
      simp only [cond_true, Option.bind_some]
      cases con x a i <;> cases con x b i <;> simp) (by
      unfold F32_s1
      have hd : decide ((((F16 x).toNat : Nat) : Int) < F16 x) = false := by simp; omega
      rw [hd]; rfl)]
    simp only [Option.bind_some]
    cases (List.range (F16 x).toNat).all fun c => !(con x a c && con x b c) <;> rfl

theorem subL_map {α β : Type} (f : α → β) (l : List α) (i : Nat) : subL (l.map f) (0 : Int) (i : Int) = (l.take i).map f := by
  simp [subL, List.map_take]
def bad (l : List (Int × Int)) (x : Int) (cs : List Int) (i j : Nat) : Bool := match cs[i]?, cs[j]?, l[i]?, l[j]? with
  | some p, some q, some a, some b => p == q && OV x a b
  | _, _, _, _ => false
def okAt (l : List (Int × Int)) (x : Int) (cs : List Int) (i : Nat) : Bool := (match cs[i]? with | some p => decide (0 ≤ p) | none => true) && (List.range i).all fun j => !(bad l x cs i j)
def proper (l : List (Int × Int)) (x : Int) (cs : List Int) : Bool := cs.length == l.length && (List.range l.length).all (okAt l x cs)
theorem F12_eq (l : List (Int × Int)) (x : Int) (cs : List Int) (hl : l.length ≤ 30) : F12 l x cs = some (proper l x cs) := by
  unfold F12 proper
  by_cases hlen : cs.length = l.length
  · have e1 : ((cs.length : Int) != (l.length : Int)) = false := by rw [hlen]; simp
    have e2 : (cs.length == l.length) = true := by simp [hlen]
    rw [e1, e2, limits l x (by unfold reachBytes; omega)]
    simp only [cond_false, Option.bind_some, Bool.true_and]
    rw [loop_forall (n := l.length) (by unfold maxLen; omega) (okAt l x cs) (by
      intro i hi
      have hg : l[i]? = some l[i] := List.getElem?_eq_getElem hi
      have hc : cs[i]? = some cs[i] := List.getElem?_eq_getElem (by omega)
      have hif : (if okAt l x cs i = true then some (Sum.inl (IntKind.i64.wrap ((i : Int) + 1)) : Int ⊕ Nat) else some (Sum.inr 0)) = some (if okAt l x cs i = true then Sum.inl (IntKind.i64.wrap ((i : Int) + 1)) else Sum.inr 0) := by split <;> rfl
      rw [hif]
      refine Yields.eq ?_
      unfold F12_s2
      simp only [List.length_map]
      have hd : decide ((i : Int) < (l.length : Int)) = true := by simp; omega
      rw [hd, at?_nat, at?_nat, List.getElem?_map, hg, hc]
      simp only [cond_true, Option.map_some, Option.bind_some]
      have so : subOk (0 : Int) (i : Int) l.length = true := subOk_iff.2 ⟨by omega, by omega, by omega⟩
      rw [so]
      simp only [Bool.not_true, cond_false]
      unfold okAt
      rw [hc]
      simp only
      refine Yields.bif (fun d => ?_) (fun d => ?_)
      · have d' : ¬ (0 ≤ cs[i]) := by simp at d; omega
        refine Yields.some ?_
        simp [d']
      · have d' : 0 ≤ cs[i] := by simpa using d
        rw [loop_forall (n := i) (by unfold maxLen; omega) (fun j => !(bad l x cs i j)) (by
          intro j hj
          have hgj : l[j]? = some l[j] := List.getElem?_eq_getElem (by omega)
          have hcj : cs[j]? = some cs[j] := List.getElem?_eq_getElem (by omega)
          unfold F12_s1
          simp only
          rw [subL_map]
          have hlt : ((List.map (lim x) (l.take i)).length : Int) = i := by simp; omega
          have hd2 : decide ((j : Int) < ((List.map (lim x) (l.take i)).length : Int)) = true := by rw [hlt]; simp; omega
          rw [hd2, at?_nat, at?_nat, List.getElem?_map, List.getElem?_take, if_pos hj, hgj, hcj]
          simp only [cond_true, Option.map_some, Option.bind_some]
          rw [ov_eq]
          simp only [bad, hg, hc, hgj, hcj]
          cases (cs[i] == cs[j]) <;> cases OV x l[i] l[j] <;> rfl) (by
          unfold F12_s1
          simp only
          rw [subL_map]
          have hlt : ((List.map (lim x) (l.take i)).length : Int) = i := by simp; omega
          have hd2 : decide ((i : Int) < ((List.map (lim x) (l.take i)).length : Int)) = false := by rw [hlt]; simp
          rw [hd2]; rfl)]
        simp only [Option.bind_some, d', decide_true, Bool.true_and]
        refine Yields.of ?_
        cases (List.range i).all fun j => !(bad l x cs i j) <;> rfl) (by
      unfold F12_s2
      simp)]
    simp only [Option.bind_some]
    cases (List.range l.length).all (okAt l x cs) <;> rfl
  · have e1 : ((cs.length : Int) != (l.length : Int)) = true := by simp; omega
    have e2 : (cs.length == l.length) = false := by simp [hlen]
    rw [e1, e2]; rfl
theorem F13_eq (l : List (Int × Int)) (x : Int) (cs : List Int) (hl : l.length ≤ 30) : F13 l x cs = some (proper l x cs) := by
  unfold F13 proper
  by_cases hlen : cs.length = l.length
  · have e1 : ((cs.length : Int) != (l.length : Int)) = false := by rw [hlen]; simp
    have e2 : (cs.length == l.length) = true := by simp [hlen]
    rw [e1, e2]
    simp only [cond_false, Bool.true_and]
    rw [loop_forall (n := l.length) (by unfold maxLen; omega) (okAt l x cs) (by
      intro i hi
      have hg : l[i]? = some l[i] := List.getElem?_eq_getElem hi
      have hc : cs[i]? = some cs[i] := List.getElem?_eq_getElem (by omega)
      have hif : (if okAt l x cs i = true then some (Sum.inl (IntKind.i64.wrap ((i : Int) + 1)) : Int ⊕ Nat) else some (Sum.inr 0)) = some (if okAt l x cs i = true then Sum.inl (IntKind.i64.wrap ((i : Int) + 1)) else Sum.inr 0) := by split <;> rfl
      rw [hif]
      refine Yields.eq ?_
      unfold F13_s2
      have hd : decide ((i : Int) < (l.length : Int)) = true := by simp; omega
      rw [hd, at?_nat, hc]
      simp only [cond_true, Option.bind_some]
      unfold okAt
      rw [hc]
      simp only
      refine Yields.bif (fun d => ?_) (fun d => ?_)
      · have d' : ¬ (0 ≤ cs[i]) := by simp at d; omega
        refine Yields.some ?_
        simp [d']
      · have d' : 0 ≤ cs[i] := by simpa using d
        rw [loop_forall (n := i) (by unfold maxLen; omega) (fun j => !(bad l x cs i j)) (by
          intro j hj
          have hgj : l[j]? = some l[j] := List.getElem?_eq_getElem (by omega)
          have hcj : cs[j]? = some cs[j] := List.getElem?_eq_getElem (by omega)
          unfold F13_s1
          have hd2 : decide ((j : Int) < (i : Int)) = true := by simp; omega
          rw [hd2, at?_nat, at?_nat, at?_nat, hg, hgj, hcj]
          simp only [cond_true, Option.bind_some]
          rw [rov_eq, OV_comm]
          simp only [bad, hg, hc, hgj, hcj, Option.bind_some]
          rw [show (cs[j] == cs[i]) = (cs[i] == cs[j]) by rw [Bool.eq_iff_iff]; simp; omega]
          cases (cs[i] == cs[j]) <;> cases OV x l[i] l[j] <;> rfl) (by
          unfold F13_s1
          simp)]
        simp only [Option.bind_some, d', decide_true, Bool.true_and]
        refine Yields.of ?_
        cases (List.range i).all fun j => !(bad l x cs i j) <;> rfl) (by
      unfold F13_s2
      simp)]
    simp only [Option.bind_some]
    cases (List.range l.length).all (okAt l x cs) <;> rfl
  · have e1 : ((cs.length : Int) != (l.length : Int)) = true := by simp; omega
    have e2 : (cs.length == l.length) = false := by simp [hlen]
    rw [e1, e2]; rfl
theorem proper_law : Law Try.prog 4 10 [22, 3, 31] := by
  refine F4_law fun l x cs _ _ _ _ _ => Yields.eq ?_
  unfold F4
  refine Yields.bif (fun c => Yields.some rfl) (fun c => ?_)
  refine Yields.bif (fun c2 => Yields.some rfl) (fun c2 => ?_)
  have hn : l.length ≤ 30 := by simp at c; omega
  rw [F12_eq l x cs hn, F13_eq l x cs hn]
  exact Yields.some (by simp)
end Go.Proofs.Ytdoafmfkbddmlac.Abs
