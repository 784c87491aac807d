/- Package knownbits: Valid, Exact, Of; math/bits.OnesCount64; and the reference. -/
import Derived.Test.YthkdojgagmaecabKbB
import Derived.Test.YthkdojgagmaecabPop
import Derived.Test.YthkdojgagmaecabIvE
import Derived.Laws.Bits128
import Derived.BigGuard
import Derived.BigRegion
namespace Go.Proofs.Ythkdojgagmaecab
open Go.RowKit

theorem ones_any (x : Nat) (hx : x < 18446744073709551616) (w : World) :
    Calls Try.prog 47 #[.int .u64 (x : Nat)] w fun e w' => e = .returned (.int .i64 (popc 64 x : Nat)) ∧ w = w' := by
  have l1 : ∀ y : Nat, y &&& 6148914691236517205 < 6148914691236517206 := fun y => Nat.lt_succ_of_le Nat.and_le_right
  have l2 : ∀ y : Nat, y &&& 3689348814741910323 < 3689348814741910324 := fun y => Nat.lt_succ_of_le Nat.and_le_right
  have hY1 : w1 x < 18446744073709551616 := by unfold w1; have := l1 (x / 2); have := l1 x; omega
  have hY2 : w2 (w1 x) < 18446744073709551616 := by unfold w2; have := l2 (w1 x / 4); have := l2 (w1 x); omega
  obtain ⟨a, ha⟩ : ∃ a, a = w3 (w2 (w1 x)) + w3 (w2 (w1 x)) / 256 := ⟨_, rfl⟩
  obtain ⟨b, hb⟩ : ∃ b, b = a + a / 65536 := ⟨_, rfl⟩
  obtain ⟨c, hc⟩ : ∃ c, c = b + b / 4294967296 := ⟨_, rfl⟩
  obtain ⟨r1, r2, r3⟩ := ones_val x _ a b c hx rfl ha hb hc
  have e1 : bits .and .u64 ((x : Int) / 2) 6148914691236517205 = (((x / 2) &&& 6148914691236517205 : Nat) : Int) := u64_and_nat (x / 2) 6148914691236517205 (by omega) (by decide)
  have e2 : bits .and .u64 (x : Int) 6148914691236517205 = ((x &&& 6148914691236517205 : Nat) : Int) := u64_and_nat x 6148914691236517205 hx (by decide)
  have f1 : (((x / 2) &&& 6148914691236517205 : Nat) : Int) + ((x &&& 6148914691236517205 : Nat) : Int) = ((w1 x : Nat) : Int) := by unfold w1; omega
  have l1a := l1 (x / 2)
  have l1b := l1 x
  generalize (x / 2) &&& 6148914691236517205 = P1 at e1 f1 l1a
  generalize x &&& 6148914691236517205 = P2 at e2 f1 l1b
  generalize w1 x = Y1 at *
  have e3 : bits .and .u64 ((Y1 : Int) / 4) 3689348814741910323 = (((Y1 / 4) &&& 3689348814741910323 : Nat) : Int) := u64_and_nat (Y1 / 4) 3689348814741910323 (by omega) (by decide)
  have e4 : bits .and .u64 (Y1 : Int) 3689348814741910323 = ((Y1 &&& 3689348814741910323 : Nat) : Int) := u64_and_nat Y1 3689348814741910323 hY1 (by decide)
  have f2 : (((Y1 / 4) &&& 3689348814741910323 : Nat) : Int) + ((Y1 &&& 3689348814741910323 : Nat) : Int) = ((w2 Y1 : Nat) : Int) := by unfold w2; omega
  have l2a := l2 (Y1 / 4)
  have l2b := l2 Y1
  have hY2s : w2 Y1 < 7378697629483820648 := by unfold w2; omega
  generalize (Y1 / 4) &&& 3689348814741910323 = P3 at e3 f2 l2a
  generalize Y1 &&& 3689348814741910323 = P4 at e4 f2 l2b
  generalize w2 Y1 = Y2 at *
  have e5 : bits .and .u64 ((Y2 : Int) / 16 + (Y2 : Int)) 1085102592571150095 = ((w3 Y2 : Nat) : Int) := u64_and_nat (Y2 / 16 + Y2) 1085102592571150095 (by omega) (by decide)
  generalize w3 Y2 = Y3 at *
  have g1 : (Y3 : Int) + (Y3 : Int) / 256 = (a : Int) := by omega
  have g2 : (a : Int) + (a : Int) / 65536 = (b : Int) := by omega
  have g3 : (b : Int) + (b : Int) / 4294967296 = (c : Int) := by omega
  have e6 : bits .and .i64 (c : Int) 127 = ((popc 64 x : Nat) : Int) := by
    rw [← r1]
    rw [i64_and127]; omega
  have ha1 : a ≤ b := by rw [hb]; exact Nat.le_add_right _ _
  have hb2 : b ≤ c := by rw [hc]; exact Nat.le_add_right _ _
  have ha2 : a ≤ c := Nat.le_trans ha1 hb2
  generalize popc 64 x = R at *
  clear ha hb hc r1 l1 l2
  go_enter Try.func47, Try.ntmps47
  go_wp2_with fail
  go_ret
  exact ⟨rfl, rfl⟩

/-! Masks and complements of words. -/
theorem andnot_mask (a : Int) (u : Nat) (hu : u < 18446744073709551616) : (u &&& (18446744073709551615 - maskN a) = 0) ↔ u ≤ maskN a := by
  have hc := cw_le a
  have hp := pow_pos (cw a)
  have key : u &&& (18446744073709551615 - maskN a) = 2 ^ cw a * (u / 2 ^ cw a) := by
    unfold maskN
    generalize cw a = c at *
    apply Nat.eq_of_testBit_eq
    intro i
    have hle := Nat.pow_le_pow_right (show 0 < 2 by decide) hc
    have e : 18446744073709551615 - (2 ^ c - 1) = 2 ^ 64 - (2 ^ c - 1 + 1) := by rw [pow64] at *; omega
    rw [Nat.testBit_and, e, Nat.testBit_two_pow_sub_succ (by omega), Nat.testBit_two_pow_sub_one, Nat.testBit_two_pow_mul, Nat.testBit_div_two_pow]
    by_cases h1 : i < c
    · have : ¬ c ≤ i := by omega
      simp [h1, this]
    · have h2 : c ≤ i := by omega
      rw [show i - c + c = i by omega]
      by_cases h3 : i < 64
      · simp [h1, h2, h3]
      · have : u.testBit i = false := Nat.testBit_lt_two_pow (Nat.lt_of_lt_of_le (by rw [pow64]; exact hu) (Nat.pow_le_pow_right (by decide) (by omega)))
        simp [this]
  rw [key]
  have hd := Nat.div_add_mod u (2 ^ cw a)
  have hm := Nat.mod_lt u hp
  unfold maskN
  constructor
  · intro h; rw [h] at hd; omega
  · intro h; rw [Nat.div_eq_of_lt (by omega), Nat.mul_zero]
theorem mask_not (a : Int) (n : Nat) (hn : n < 18446744073709551616) : maskN a &&& (18446744073709551615 - fitN a n) = maskN a &&& (18446744073709551615 - n) := by
  have hf := fitN_lt a n
  have e1 : 18446744073709551615 - fitN a n = 2 ^ 64 - (fitN a n + 1) := by rw [pow64]; omega
  have e2 : 18446744073709551615 - n = 2 ^ 64 - (n + 1) := by rw [pow64]; omega
  apply Nat.eq_of_testBit_eq
  intro i
  rw [Nat.testBit_and, Nat.testBit_and, e1, e2, Nat.testBit_two_pow_sub_succ (by rw [pow64]; exact hf), Nat.testBit_two_pow_sub_succ (by rw [pow64]; exact hn)]
  unfold maskN fitN
  rw [Nat.testBit_two_pow_sub_one, Nat.testBit_mod_two_pow]
  by_cases h : i < cw a <;> simp [h]
/-- An element belongs to a width, and contains a word. -/
def kvalB (a : Int) (z o : W64) : Bool := (decide (1 ≤ a) && decide (a ≤ 64)) && decide (nv (z ||| o) ≤ ((maskN a : Nat) : Int)) && isZ (z &&& o)
/-- All bits are known. -/
def kexB (a : Int) (z o : W64) : Bool := kvalB a z o && (nv (z ||| o) == ((maskN a : Nat) : Int))
theorem pop_full (a : Int) (u : Nat) (h1 : 1 ≤ a) (h2 : a ≤ 64) (h : u ≤ maskN a) : (((popc 64 u : Nat) : Int) = a) ↔ ((u : Int) = ((maskN a : Nat) : Int)) := by
  have hc : ((cw a : Nat) : Int) = a := by unfold cw; split; omega; split <;> omega
  have hp := pow_pos (cw a)
  have := popc_mask (cw a) u (cw_le a) (by unfold maskN at h; omega)
  unfold maskN
  omega
theorem rmask_s (a : Int) (h1 : 1 ≤ a) (h2 : a ≤ 64) (w : World) :
    Calls Try.prog 38 #[.int .i64 a] w fun e w' => e = .returned (.int .u64 (maskN a : Nat)) ∧ w' = w := (rmask_i a h1 h2 w).mono fun _ _ ⟨h1, h2⟩ => ⟨h1, h2.symm⟩
theorem kval_any (a : Int) (z o : W64) (w : World) :
    Calls Try.prog 10 #[.int .i64 a, .agg #[.int .u64 (nv z), .int .u64 (nv o)]] w fun e w' => e = .returned (.bool (kvalB a z o)) ∧ Below w.heap.size w w' := by
  have k1 := kor z o
  have k2 := kand z o
  have hUl : (z ||| o).toNat < 18446744073709551616 := lt64 _
  by_cases g1 : 1 ≤ a
  · by_cases g2 : a ≤ 64
    · have C2 := fun w => mask_same a w
      have k3 := u64_andNot_nat (z ||| o).toNat (maskN a) hUl (maskN_lt a)
      have k4 := andnot_mask a (z ||| o).toNat hUl
      have k5 : nv (z ||| o) = (((z ||| o).toNat : Nat) : Int) := rfl
      generalize hV : (z ||| o).toNat &&& (18446744073709551615 - maskN a) = V at k3 k4
      rw [← k5] at k3
      by_cases h1 : nv (z ||| o) ≤ ((maskN a : Nat) : Int)
      · have hV0 : V = 0 := k4.2 (by rw [k5] at h1; omega)
        have H := Lib.hid (show kvalB a z o = isZ (z &&& o) by simp only [kvalB, g1, g2, h1, decide_true, Bool.true_and])
        rw [H.out]
        unfold isZ
        subst hV0
        have v0 : (((0 : Nat) : Int) == 0) = true := rfl
        clear k4 k5 hV hUl H
        generalize maskN a = M at *
        generalize nv (z ||| o) = U at *
        go_enter Try.func10, Try.ntmps10
        go_wp2_with fail
        go_quiet ((go_at_call 46; exact Calls.quiet_of_same (C2 _)))
        go_wp2_with fail
        go_ret
        exact ⟨rfl, below_drewN' ((Below.refl _ _).alloc (Nat.le_refl _) _) _⟩
      · have hV0 : ¬ V = 0 := fun h => h1 (by rw [k5]; have := k4.1 h; omega)
        have H := Lib.hid (show kvalB a z o = false by simp only [kvalB, h1, decide_false, Bool.false_and, Bool.and_false])
        rw [H.out]
        have h1d : decide (nv (z ||| o) ≤ ((maskN a : Nat) : Int)) = false := decide_eq_false h1
        have v0 : (((V : Nat) : Int) == 0) = false := by rw [beq_eq_false_iff_ne]; omega
        clear k4 k5 hV hUl H hV0
        generalize maskN a = M at *
        generalize nv (z ||| o) = U at *
        go_enter Try.func10, Try.ntmps10
        go_wp2_with fail
        go_quiet ((go_at_call 46; exact Calls.quiet_of_same (C2 _)))
        go_wp2_with fail
        go_ret
        exact ⟨rfl, below_drewN' ((Below.refl _ _).alloc (Nat.le_refl _) _) _⟩
    · have H := Lib.hid (show kvalB a z o = false by simp only [kvalB, g2, decide_false, Bool.false_and, Bool.and_false])
      rw [H.out]
      have g2d : decide (a ≤ 64) = false := decide_eq_false g2
      clear hUl H
      go_enter Try.func10, Try.ntmps10
      go_wp2_with fail
      go_quiet (fail)
      go_wp2_with fail
      go_ret
      exact ⟨rfl, below_drewN' ((Below.refl _ _).alloc (Nat.le_refl _) _) _⟩
  · have H := Lib.hid (show kvalB a z o = false by simp only [kvalB, g1, decide_false, Bool.false_and])
    rw [H.out]
    have g1d : decide (1 ≤ a) = false := decide_eq_false g1
    clear hUl H
    go_enter Try.func10, Try.ntmps10
    go_wp2_with fail
    go_quiet (fail)
    go_wp2_with fail
    go_ret
    exact ⟨rfl, below_drewN' ((Below.refl _ _).alloc (Nat.le_refl _) _) _⟩
theorem kval_ref (a : Int) (z o : W64) (w : World) :
    Calls Try.prog 11 #[.int .i64 a, .agg #[.int .u64 (nv z), .int .u64 (nv o)]] w fun e w' => e = .returned (.bool (kvalB a z o)) ∧ Below w.heap.size w w' := by
  have k1 := kor z o
  have k2 := kand z o
  have hUl : (z ||| o).toNat < 18446744073709551616 := lt64 _
  by_cases g1 : 1 ≤ a
  · by_cases g2 : a ≤ 64
    · have C2 := fun w => rmask_s a g1 g2 w
      have k3 := u64_andNot_nat (z ||| o).toNat (maskN a) hUl (maskN_lt a)
      have k4 := andnot_mask a (z ||| o).toNat hUl
      have k5 : nv (z ||| o) = (((z ||| o).toNat : Nat) : Int) := rfl
      generalize hV : (z ||| o).toNat &&& (18446744073709551615 - maskN a) = V at k3 k4
      rw [← k5] at k3
      by_cases h1 : nv (z ||| o) ≤ ((maskN a : Nat) : Int)
      · have hV0 : V = 0 := k4.2 (by rw [k5] at h1; omega)
        have H := Lib.hid (show kvalB a z o = isZ (z &&& o) by simp only [kvalB, g1, g2, h1, decide_true, Bool.true_and])
        rw [H.out]
        unfold isZ
        subst hV0
        have v0 : (((0 : Nat) : Int) == 0) = true := rfl
        clear k4 k5 hV hUl H
        generalize maskN a = M at *
        generalize nv (z ||| o) = U at *
        go_enter Try.func11, Try.ntmps11
        go_wp2_with fail
        go_quiet ((go_at_call 38; exact Calls.quiet_of_same (C2 _)))
        go_wp2_with fail
        go_ret
        exact ⟨rfl, below_drewN' ((Below.refl _ _).alloc (Nat.le_refl _) _) _⟩
      · have hV0 : ¬ V = 0 := fun h => h1 (by rw [k5]; have := k4.1 h; omega)
        have H := Lib.hid (show kvalB a z o = false by simp only [kvalB, h1, decide_false, Bool.false_and, Bool.and_false])
        rw [H.out]
        have h1d : decide (nv (z ||| o) ≤ ((maskN a : Nat) : Int)) = false := decide_eq_false h1
        have v0 : (((V : Nat) : Int) == 0) = false := by rw [beq_eq_false_iff_ne]; omega
        clear k4 k5 hV hUl H hV0
        generalize maskN a = M at *
        generalize nv (z ||| o) = U at *
        go_enter Try.func11, Try.ntmps11
        go_wp2_with fail
        go_quiet ((go_at_call 38; exact Calls.quiet_of_same (C2 _)))
        go_wp2_with fail
        go_ret
        exact ⟨rfl, below_drewN' ((Below.refl _ _).alloc (Nat.le_refl _) _) _⟩
    · have H := Lib.hid (show kvalB a z o = false by simp only [kvalB, g2, decide_false, Bool.false_and, Bool.and_false])
      rw [H.out]
      have g2d : decide (a ≤ 64) = false := decide_eq_false g2
      clear hUl H
      go_enter Try.func11, Try.ntmps11
      go_wp2_with fail
      go_quiet (fail)
      go_wp2_with fail
      go_ret
      exact ⟨rfl, below_drewN' ((Below.refl _ _).alloc (Nat.le_refl _) _) _⟩
  · have H := Lib.hid (show kvalB a z o = false by simp only [kvalB, g1, decide_false, Bool.false_and])
    rw [H.out]
    have g1d : decide (1 ≤ a) = false := decide_eq_false g1
    clear hUl H
    go_enter Try.func11, Try.ntmps11
    go_wp2_with fail
    go_quiet (fail)
    go_wp2_with fail
    go_ret
    exact ⟨rfl, below_drewN' ((Below.refl _ _).alloc (Nat.le_refl _) _) _⟩
theorem kcon_ref (z o n : W64) (w : World) :
    Calls Try.prog 13 #[.agg #[.int .u64 (nv z), .int .u64 (nv o)], .int .u64 (nv n)] w fun e w' => e = .returned (.bool (kcon z o n)) ∧ Below w.heap.size w w' := by
  have h0 := kand n z
  have h1 := kand n o
  by_cases hz : isZ (n &&& z) = true
  · have H := Lib.hid (show kcon z o n = isQ (n &&& o) o by simp [kcon, hz])
    unfold isZ at hz
    go_enter Try.func13, Try.ntmps13
    go_wp2_with fail
    go_ret
    exact ⟨by rw [H.out]; rfl, by (repeat (first | exact Below.refl _ _ | apply Below.drew | refine Below.alloc ?_ (by simp <;> omega) _ | refine Below.setCell ?_ (by simp) _))⟩
  · have hz' : isZ (n &&& z) = false := by simpa using hz
    have H := Lib.hid (show kcon z o n = false by simp [kcon, hz'])
    clear hz
    unfold isZ at hz'
    go_enter Try.func13, Try.ntmps13
    go_wp2_with fail
    go_ret
    exact ⟨by rw [H.out]; rfl, by (repeat (first | exact Below.refl _ _ | apply Below.drew | refine Below.alloc ?_ (by simp <;> omega) _ | refine Below.setCell ?_ (by simp) _))⟩
/-- What Exact answers. -/
def kexN (a : Int) (z o : W64) : Int := bif kexB a z o then nv o else 0
theorem kex_any (a : Int) (z o : W64) (w : World) :
    Calls Try.prog 14 #[.int .i64 a, .agg #[.int .u64 (nv z), .int .u64 (nv o)]] w fun e w' => e = .returned (.tuple #[.int .u64 (kexN a z o), .bool (kexB a z o)]) ∧ Below w.heap.size w w' := by
  have CV := fun w => kval_any a z o w
  have k1 := kor z o
  cases hv : kvalB a z o
  · have e1 : kexB a z o = false := by simp only [kexB, hv, Bool.false_and]
    have e2 : kexN a z o = 0 := by simp only [kexN, e1, cond_false]
    rw [e1, e2]
    rw [hv] at CV
    clear e1 e2 hv
    go_enter Try.func14, Try.ntmps14
    go_wp2_with fail
    refine (CV _).mono ?_
    rintro e w1 ⟨rfl, hb1⟩
    have hz1 : w.heap.size < w1.heap.size := by have := hb1.size; simp at this; omega
    obtain ⟨hcc, hff⟩ := bcell hb1
    have B1 := ((Below.refl w.heap.size w).alloc (Nat.le_refl _) _).trans (hb1.mono (by simp))
    clear hb1
    go_wp2_with fail
    go_ret2
    exact ⟨rfl, B1⟩
  · have hv2 := hv
    simp only [kvalB, Bool.and_eq_true, decide_eq_true_eq] at hv2
    obtain ⟨⟨⟨g1, g2⟩, g3⟩, _⟩ := hv2
    have CO := fun w => ones_any (z ||| o).toNat (lt64 _) w
    have k5 : nv (z ||| o) = (((z ||| o).toNat : Nat) : Int) := rfl
    have pf := pop_full a (z ||| o).toNat g1 g2 (by rw [k5] at g3; omega)
    rw [← k5] at pf
    rw [show ((((z ||| o).toNat : Nat) : Int)) = nv (z ||| o) from rfl] at CO
    have e1 : kexB a z o = (nv (z ||| o) == ((maskN a : Nat) : Int)) := by simp only [kexB, hv, Bool.true_and]
    rw [hv] at CV
    generalize ((popc 64 (z ||| o).toNat : Nat) : Int) = P at pf CO
    by_cases hP : P = a
    · have e2 : kexB a z o = true := by rw [e1, pf.1 hP]; exact beq_self_eq_true _
      have e3 : kexN a z o = nv o := by simp only [kexN, e2, cond_true]
      rw [e2, e3]
      subst hP
      clear e1 e2 e3 pf g1 g2 g3 k5 hv
      generalize nv (z ||| o) = U at *
      go_enter Try.func14, Try.ntmps14
      go_wp2_with fail
      refine (CV _).mono ?_
      rintro e w1 ⟨rfl, hb1⟩
      have hz1 : w.heap.size < w1.heap.size := by have := hb1.size; simp at this; omega
      obtain ⟨hcc, hff⟩ := bcell hb1
      have B1 := ((Below.refl w.heap.size w).alloc (Nat.le_refl _) _).trans (hb1.mono (by simp))
      clear hb1
      go_wp2_with fail
      refine (CO _).mono ?_
      rintro e w2 ⟨rfl, rfl⟩
      go_wp2_with fail
      go_ret2
      exact ⟨rfl, B1⟩
    · have e2 : kexB a z o = false := by rw [e1, beq_eq_false_iff_ne]; exact fun h => hP (pf.2 h)
      have e3 : kexN a z o = 0 := by simp only [kexN, e2, cond_false]
      rw [e2, e3]
      have hPb : (P != a) = true := by rw [bne_iff_ne]; exact hP
      clear e1 e2 e3 pf g1 g2 g3 k5 hv
      generalize nv (z ||| o) = U at *
      go_enter Try.func14, Try.ntmps14
      go_wp2_with fail
      refine (CV _).mono ?_
      rintro e w1 ⟨rfl, hb1⟩
      have hz1 : w.heap.size < w1.heap.size := by have := hb1.size; simp at this; omega
      obtain ⟨hcc, hff⟩ := bcell hb1
      have B1 := ((Below.refl w.heap.size w).alloc (Nat.le_refl _) _).trans (hb1.mono (by simp))
      clear hb1
      go_wp2_with fail
      refine (CO _).mono ?_
      rintro e w2 ⟨rfl, rfl⟩
      go_wp2_with fail
      go_ret2
      exact ⟨rfl, B1⟩
abbrev LatX (B : Nat) (w0 : World) (A : Nat) (z o : W64) (w' : World) : Prop :=
  Below B w0 w' ∧ A < w'.heap.size ∧ w'.cell? ⟨A, 0, none⟩ = some (.int .u64 (nv z)) ∧ w'.cell? ⟨A, 1, none⟩ = some (.int .u64 (nv o))
theorem LatX.go {B : Nat} {w0 : World} {A : Nat} {z o : W64} {w1 w2 : World} (h : LatX B w0 A z o w1) (hb : Below w1.heap.size w1 w2) (hB : B ≤ w0.heap.size) : LatX B w0 A z o w2 := by
  obtain ⟨h0, s1, c0, c1⟩ := h
  have hz := hb.size
  have hc := (bcell hb).1
  have := h0.size
  refine ⟨h0.trans (hb.mono (by omega)), by omega, ?_, ?_⟩
  all_goals (rw [hc _ _ (by assumption)]; assumption)
theorem latX_begin (w : World) (z o : W64) (t : TypeId) : LatX w.heap.size w w.heap.size z o (w.alloc (.cells #[.int .u64 (nv z), .int .u64 (nv o)] t)) :=
  ⟨(Below.refl _ w).alloc (Nat.le_refl _) _, by simp, World.cell?_alloc_at _ _ _ _ rfl, World.cell?_alloc_at _ _ _ _ rfl⟩
set_option maxHeartbeats 800000 in
theorem kex_ref (a : Int) (z o : W64) (w : World) :
    Calls Try.prog 15 #[.int .i64 a, .agg #[.int .u64 (nv z), .int .u64 (nv o)]] w fun e w' => e = .returned (.bool (kexB a z o)) ∧ Below w.heap.size w w' := by
  have CV := fun w => kval_ref a z o w
  have k1 := kor z o
  have hB : w.heap.size ≤ w.heap.size := Nat.le_refl _
  have L' := latX_begin w z o 24
  obtain ⟨l0, l1, c0, c1⟩ := latX_begin w z o 24
  cases hv : kvalB a z o
  · have e1 : kexB a z o = false := by simp only [kexB, hv, Bool.false_and]
    rw [e1]
    rw [hv] at CV
    clear e1 hv
    go_enter Try.func15, Try.ntmps15
    go_wp2_with fail
    generalize w.alloc (.cells #[.int .u64 (nv z), .int .u64 (nv o)] 24) = W at *
    refine wp_region_any (by kernel_rfl) ?_
    change wpAny _ _ _ _ _ _ _ (World.drew _)
    refine wpAny_take (i := 0) (v := .int .i64 a) rfl (by kernel_rfl) (by kernel_rfl) (by kernel_rfl) (fun _ _ _ h => h) (Or.inl ⟨by rfl, fun w => by go_simp⟩) ?_
    try simp only [List.getElem_toArray, List.getElem_cons_succ, List.getElem_cons_zero, Act.put, List.setIfInBounds_toArray, List.set_cons_zero, List.set_cons_succ]
    refine wpAny_ready (rs := [1]) (by kernel_rfl) (by simp) ?_
    refine AllReady.cons rfl (fun K hK => ?_) AllReady.nil
    go_simp
    refine hK _ _ ?_
    clear hK K
    refine wpAny_ready (rs := [2]) (by kernel_rfl) (by simp) ?_
    refine AllReady.cons rfl (fun K hK => ?_) AllReady.nil
    go_simp
    refine (CV _).mono ?_
    rintro e wq ⟨rfl, hbq⟩
    go_simp
    refine hK _ _ ?_
    clear hK K
    refine wpAny_take (i := 3) (v := .bool false) rfl (by kernel_rfl) (by kernel_rfl) (by kernel_rfl) (fun _ _ _ h => h) (Or.inl ⟨by rfl, fun w => by go_simp⟩) ?_
    try simp only [List.getElem_toArray, List.getElem_cons_succ, List.getElem_cons_zero, Act.put, List.setIfInBounds_toArray, List.set_cons_zero, List.set_cons_succ]
    refine wpAny_take (i := 4) (v := undef) rfl (by kernel_rfl) (by kernel_rfl) (by kernel_rfl) (fun _ _ _ h => h) (Or.inr ⟨by rfl, rfl⟩) ?_
    try simp only [List.getElem_toArray, List.getElem_cons_succ, List.getElem_cons_zero, Act.put, List.setIfInBounds_toArray, List.set_cons_zero, List.set_cons_succ]
    refine wpAny_take (i := 5) (v := undef) rfl (by kernel_rfl) (by kernel_rfl) (by kernel_rfl) (fun _ _ _ h => h) (Or.inr ⟨by rfl, rfl⟩) ?_
    try simp only [List.getElem_toArray, List.getElem_cons_succ, List.getElem_cons_zero, Act.put, List.setIfInBounds_toArray, List.set_cons_zero, List.set_cons_succ]
    refine wpAny_take (i := 6) (v := undef) rfl (by kernel_rfl) (by kernel_rfl) (by kernel_rfl) (fun _ _ _ h => h) (Or.inr ⟨by rfl, rfl⟩) ?_
    try simp only [List.getElem_toArray, List.getElem_cons_succ, List.getElem_cons_zero, Act.put, List.setIfInBounds_toArray, List.set_cons_zero, List.set_cons_succ]
    refine wpAny_take (i := 7) (v := undef) rfl (by kernel_rfl) (by kernel_rfl) (by kernel_rfl) (fun _ _ _ h => h) (Or.inr ⟨by rfl, rfl⟩) ?_
    try simp only [List.getElem_toArray, List.getElem_cons_succ, List.getElem_cons_zero, Act.put, List.setIfInBounds_toArray, List.set_cons_zero, List.set_cons_succ]
    refine wpAny_take (i := 8) (v := undef) rfl (by kernel_rfl) (by kernel_rfl) (by kernel_rfl) (fun _ _ _ h => h) (Or.inr ⟨by rfl, rfl⟩) ?_
    try simp only [List.getElem_toArray, List.getElem_cons_succ, List.getElem_cons_zero, Act.put, List.setIfInBounds_toArray, List.set_cons_zero, List.set_cons_succ]
    refine wpAny_take (i := 9) (v := undef) rfl (by kernel_rfl) (by kernel_rfl) (by kernel_rfl) (fun _ _ _ h => h) (Or.inr ⟨by rfl, rfl⟩) ?_
    try simp only [List.getElem_toArray, List.getElem_cons_succ, List.getElem_cons_zero, Act.put, List.setIfInBounds_toArray, List.set_cons_zero, List.set_cons_succ]
    refine wpAny_take (i := 10) (v := undef) rfl (by kernel_rfl) (by kernel_rfl) (by kernel_rfl) (fun _ _ _ h => h) (Or.inr ⟨by rfl, rfl⟩) ?_
    try simp only [List.getElem_toArray, List.getElem_cons_succ, List.getElem_cons_zero, Act.put, List.setIfInBounds_toArray, List.set_cons_zero, List.set_cons_succ]
    refine wpAny_take (i := 11) (v := undef) rfl (by kernel_rfl) (by kernel_rfl) (by kernel_rfl) (fun _ _ _ h => h) (Or.inr ⟨by rfl, rfl⟩) ?_
    try simp only [List.getElem_toArray, List.getElem_cons_succ, List.getElem_cons_zero, Act.put, List.setIfInBounds_toArray, List.set_cons_zero, List.set_cons_succ]
    refine wpAny_take (i := 12) (v := .bool false) rfl (by kernel_rfl) (by kernel_rfl) (by kernel_rfl) (fun _ _ _ h => h) (Or.inl ⟨by rfl, fun w => by go_simp⟩) ?_
    try simp only [List.getElem_toArray, List.getElem_cons_succ, List.getElem_cons_zero, Act.put, List.setIfInBounds_toArray, List.set_cons_zero, List.set_cons_succ]
    refine wpAny_take (i := 13) (v := .bool false) rfl (by kernel_rfl) (by kernel_rfl) (by kernel_rfl) (fun _ _ _ h => h) (Or.inl ⟨by rfl, fun w => by go_simp⟩) ?_
    try simp only [List.getElem_toArray, List.getElem_cons_succ, List.getElem_cons_zero, Act.put, List.setIfInBounds_toArray, List.set_cons_zero, List.set_cons_succ]
    refine wpAny_done (by kernel_rfl) ?_ _
    go_wp2_with fail
    go_ret
    exact ⟨rfl, (LatX.go (LatX.go L' (below_drewN' (Below.refl _ _) 1) hB) hbq hB).1⟩
  · have hv2 := hv
    simp only [kvalB, Bool.and_eq_true, decide_eq_true_eq] at hv2
    obtain ⟨⟨⟨g1, g2⟩, g3⟩, _⟩ := hv2
    have CM := fun w => rmask_s a g1 g2 w
    have e1 : kexB a z o = (nv (z ||| o) == ((maskN a : Nat) : Int)) := by simp only [kexB, hv, Bool.true_and]
    rw [e1]
    rw [hv] at CV
    clear e1 hv g1 g2 g3
    generalize nv (z ||| o) = U at *
    generalize maskN a = M at *
    go_enter Try.func15, Try.ntmps15
    go_wp2_with fail
    generalize w.alloc (.cells #[.int .u64 (nv z), .int .u64 (nv o)] 24) = W at *
    go_region_held3 (fun w' => Below w.heap.size w w' ∧ w.heap.size < w'.heap.size ∧ w'.cell? ⟨w.heap.size, 0, none⟩ = some (.int .u64 (nv z)) ∧ w'.cell? ⟨w.heap.size, 1, none⟩ = some (.int .u64 (nv o)))
      (first
        | exact LatX.go L' (below_drewN' (Below.refl _ _) 1) hB
        | exact LatX.go (by assumption) (by assumption) hB
        | exact LatX.go (by assumption) (below_drewN' (Below.refl _ _) 1) hB
        | go_keep)
      (first
        | (go_at_call 11; refine (CV _).mono ?_; rintro e wq ⟨rfl, hbq⟩)
        | (go_at_call 38; refine (CM _).mono ?_; rintro e wr ⟨rfl, rfl⟩))
    go_wp2_with fail
    have Z : LatX w.heap.size w w.heap.size z o wr := by assumption
    go_ret
    exact ⟨rfl, Z.1⟩
theorem kof_yes (a : Int) (n Z N : Nat) (hn : n < 18446744073709551616) (h1 : ¬ a < 1) (h2 : ¬ 64 < a) (hZ : Hid (maskN a &&& (18446744073709551615 - n) = Z)) (hN : Hid (fitN a n = N)) (w : World) :
    Calls Try.prog 16 #[.int .i64 a, .int .u64 (n : Nat)] w fun e w' => e = .returned (.agg #[.int .u64 (Z : Nat), .int .u64 (N : Nat)]) ∧ Below w.heap.size w w' := by
  have C1 := fun w => mask_any a w
  have C2 := fun w => fit_any a n w hn
  have q1 := u64_andNot_nat (maskN a) (fitN a n) (maskN_lt a) (fitN_lt a n)
  have q2 := u64_andNot_nat (maskN a) n (maskN_lt a) hn
  rw [mask_not a n hn, hZ.out] at q1
  rw [hZ.out] at q2
  have q3 := and_mask a n hn
  rw [hN.out] at q1 q3 C2
  generalize maskN a = M at *
  clear hZ hN
  go_enter Try.func16, Try.ntmps16
  go_wp2_with fail
  refine (C2 _).mono ?_
  rintro e w1 ⟨rfl, rfl⟩
  go_wp2_with fail
  refine (C1 _).mono ?_
  rintro e w1 ⟨rfl, rfl⟩
  go_wp2_with fail
  refine bodyPost_ret (v := .agg #[.int .u64 (Z : Nat), .int .u64 (N : Nat)]) (by simp [results, Try.results16, go_sem]) rfl ⟨rfl, by (repeat (first | exact Below.refl _ _ | apply Below.drew | refine Below.alloc ?_ (by simp <;> omega) _ | refine Below.setCell ?_ (by simp) _))⟩
theorem kof_ryes (a : Int) (n Z N : Nat) (hn : n < 18446744073709551616) (h1 : ¬ a < 1) (h2 : ¬ 64 < a) (hZ : Hid (maskN a &&& (18446744073709551615 - n) = Z)) (hN : Hid (fitN a n = N)) (w : World) :
    Calls Try.prog 17 #[.int .i64 a, .int .u64 (n : Nat)] w fun e w' => e = .returned (.agg #[.int .u64 (Z : Nat), .int .u64 (N : Nat)]) ∧ Below w.heap.size w w' := by
  have C1 := fun w => rmask_i a (by omega) (by omega) w
  have C2 := fun w => fit_any a n w hn
  have q1 := u64_andNot_nat (maskN a) (fitN a n) (maskN_lt a) (fitN_lt a n)
  have q2 := u64_andNot_nat (maskN a) n (maskN_lt a) hn
  rw [mask_not a n hn, hZ.out] at q1
  rw [hZ.out] at q2
  have q3 := and_mask a n hn
  rw [hN.out] at q1 q3 C2
  generalize maskN a = M at *
  clear hZ hN
  go_enter Try.func17, Try.ntmps17
  go_wp2_with fail
  refine (C1 _).mono ?_
  rintro e w1 ⟨rfl, rfl⟩
  go_wp2_with fail
  refine (C1 _).mono ?_
  rintro e w1 ⟨rfl, rfl⟩
  go_wp2_with fail
  refine bodyPost_ret (v := .agg #[.int .u64 (Z : Nat), .int .u64 (N : Nat)]) (by simp [results, Try.results17, go_sem]) rfl ⟨rfl, by (repeat (first | exact Below.refl _ _ | apply Below.drew | refine Below.alloc ?_ (by simp <;> omega) _ | refine Below.setCell ?_ (by simp) _))⟩
theorem kof_lo (a : Int) (n : Nat) (h1 : a < 1) (w : World) :
    Calls Try.prog 16 #[.int .i64 a, .int .u64 (n : Nat)] w fun e w' => e = .returned (.agg #[.int .u64 0, .int .u64 0]) ∧ Below w.heap.size w w' := by
  go_enter Try.func16, Try.ntmps16
  go_wp2_with fail
  refine bodyPost_ret (v := .agg #[.int .u64 0, .int .u64 0]) (by simp [results, Try.results16, go_sem]) rfl ⟨rfl, by (repeat (first | exact Below.refl _ _ | apply Below.drew | refine Below.alloc ?_ (by simp <;> omega) _ | refine Below.setCell ?_ (by simp) _))⟩
theorem kof_hi (a : Int) (n : Nat) (h1 : ¬ a < 1) (h2 : 64 < a) (w : World) :
    Calls Try.prog 16 #[.int .i64 a, .int .u64 (n : Nat)] w fun e w' => e = .returned (.agg #[.int .u64 0, .int .u64 0]) ∧ Below w.heap.size w w' := by
  go_enter Try.func16, Try.ntmps16
  go_wp2_with fail
  refine bodyPost_ret (v := .agg #[.int .u64 0, .int .u64 0]) (by simp [results, Try.results16, go_sem]) rfl ⟨rfl, by (repeat (first | exact Below.refl _ _ | apply Below.drew | refine Below.alloc ?_ (by simp <;> omega) _ | refine Below.setCell ?_ (by simp) _))⟩
end Go.Proofs.Ythkdojgagmaecab
