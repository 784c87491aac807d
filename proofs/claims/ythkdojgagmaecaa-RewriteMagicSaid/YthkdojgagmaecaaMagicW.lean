/- Contracts of the masks, of isMagic and fits. -/
import Derived.Test.YthkdojgagmaecaaMaskA
import Derived.Test.YthkdojgagmaecaaMagicM
import Derived.Test.YthkdojgagmaecaaShelf
import Derived.Shelf.Spec.BitsCarry
import Derived.Below
namespace Go.Proofs.Ythkdojgagmaecaa
open Go.RowKit

def mulHi (x y : Nat) : Nat := x * y / 18446744073709551616
def mulLo (x y : Nat) : Nat := x * y % 18446744073709551616
theorem mulLo_lt (x y : Nat) : mulLo x y < 18446744073709551616 := Nat.mod_lt _ (by decide)
theorem mul_any (x y : Nat) (w : World) (hx : x < 18446744073709551616) (hy : y < 18446744073709551616) :
    Calls Try.prog 41 #[.int .u64 x, .int .u64 y] w fun e w' => e = .returned (.tuple #[.int .u64 (mulHi x y : Nat), .int .u64 (mulLo x y : Nat)]) ∧ w = w' :=
  (Go.Proofs.Try.bits_Mul64 x y hx hy w).mono fun _ _ ⟨h1, h2⟩ => ⟨h1, h2.symm⟩
def borN (x y : Nat) : Int := if x < y then 1 else 0
def difN (x y : Nat) : Nat := (x + 18446744073709551616 - y) % 18446744073709551616
theorem sub_run (x y : Nat) (w : World) : (callFunc 42 #[.int .u64 x, .int .u64 y, .int .u64 0]).run Try.prog w =
    .ok (.value (.tuple #[.int .u64 (difN x y : Nat), .int .u64 (borN x y)])) w := by
  have h := run_sub64 (P := Try.prog) x y 0 (by decide) w
  rw [run_callFunc_extern Try.func42 (by kernel_rfl) (by kernel_rfl) (by kernel_rfl) (e := Go.Proofs.sub64Entry) (by kernel_rfl)]
  have e : (Value.int .u64 0) = .int .u64 ((0 : Nat) : Int) := rfl
  rw [e, h]
  have e2 : ((if x < y + 0 then 1 else 0 : Nat) : Int) = borN x y := by unfold borN; rw [Nat.add_zero]; split <;> rfl
  rw [e2]
  rfl

def p2 (k : Nat) : Nat := 2 ^ k
theorem wrap_p2 (k : Nat) (h : k < 64) : IntKind.u64.wrap ((2 : Int) ^ k) = ((p2 k : Nat) : Int) := by
  have h1 := pow_lt_64 k h
  have e : ((2 : Int) ^ k) = ((2 ^ k : Nat) : Int) := by simp
  rw [e, IntKind.wrap_u64]
  unfold p2
  generalize 2 ^ k = p at *
  omega

def MkAt (i M : Nat) : Prop := M + 1 = 2 ^ i
theorem refmask_any (a : Nat) (w : World) (ha : a ≤ 64) :
    Calls Try.prog 23 #[.int .i64 a] w fun e w' => e = .returned (.int .u64 (maskN a : Nat)) ∧ w = w' := by
  have Hm := Lib.hid (maskN_nat a ha)
  go_enter Try.func23, Try.ntmps23
  go_wp2_with fail
  go_loop [3, 4] (fun m i => ∃ k M : Nat, k ≤ a ∧ MkAt k M ∧ i = .int .i64 k ∧ m = .int .u64 M) (fun _ i => a - (intOf i).toNat)
  case atStart => exact ⟨0, 0, by omega, rfl, rfl, rfl⟩
  case round =>
    obtain ⟨k, M, hk, hM, rfl, rfl⟩ := hrel
    by_cases h1 : k < a
    · have hb : M < 9223372036854775808 := by have := pow_lt_64 k (by omega); unfold MkAt at hM; omega
      have HM := Lib.hid (show MkAt (k + 1) (2 * M + 1) by unfold MkAt at *; rw [Nat.pow_succ]; omega)
      clear hM
      go_wp2_with fail
      go_round
      case rel => exact ⟨k + 1, 2 * M + 1, by omega, HM.out, by go_num, by (congr 1; omega)⟩
      case measure => simp [intOf]; omega
    · have h2 : k = a := by omega
      have HM := Lib.hid (show M = 2 ^ a - 1 by unfold MkAt at hM; rw [h2] at hM; omega)
      clear hM h2
      go_wp2_with fail
      go_ret
      exact ⟨by rw [Hm.out, ← HM.out]; rfl, rfl⟩

theorem dif_eq (x y : Nat) (hx : x < 18446744073709551616) (h : y ≤ x) : (x + 18446744073709551616 - y) % 18446744073709551616 = x - y := by omega
theorem okM_first (W c m K : Nat) (h : ¬ m * (2 ^ W - 1) ≤ 2 ^ (2 * W) - 1) : okM W c m K = false := by simp [okM]; intro h2; exact absurd h2 h

set_option maxHeartbeats 1000000 in
theorem ismagic_any (W c m K : Nat) (w : World) (hW : 1 ≤ W) (hW' : W ≤ 32) (hc : 1 ≤ c) (hc' : c < 2 ^ W) (hm : m < 18446744073709551616) (hK : W ≤ K) (hK' : K < 2 * W) :
    Calls Try.prog 36 #[.int .i64 W, .int .u64 c, .int .u64 m, .int .i64 K] w fun e w' => e = .returned (.bool (okM W c m K)) ∧ w = w' := by
  have c0 : ((c : Int) == 0) = false := by rw [beq_eq_false_iff_ne]; omega
  have hX : maskN (W : Int) * m = m * (2 ^ W - 1) := by rw [maskN_nat W (by omega), Nat.mul_comm]
  have hM2 : maskN (2 * (W : Int)) = 2 ^ (2 * W) - 1 := by have := maskN_nat (2 * W) (by omega); rw [← this]; congr 1
  have hlt : 2 ^ (2 * W) - 1 < 18446744073709551616 := by have h2 : 2 ^ (2 * W) ≤ 2 ^ 64 := pow_mono (by omega); rw [pow64] at h2; have := pow_ge_one (2 * W); omega
  have hc64 : c < 18446744073709551616 := by have h2 : 2 ^ W ≤ 2 ^ 64 := pow_mono (by omega); rw [pow64] at h2; omega
  by_cases hi : mulHi (maskN W) m = 0
  · have hlo : mulLo (maskN W) m = m * (2 ^ W - 1) := by
      unfold mulHi at hi; unfold mulLo; rw [← hX]; omega
    by_cases hl : mulLo (maskN W) m ≤ maskN (2 * (W : Int))
    · have hcond : m * (2 ^ W - 1) ≤ 2 ^ (2 * W) - 1 := by rw [← hlo, ← hM2]; exact hl
      have hP := prod_small W c m hW hW' hc' hcond
      have hi2 : mulHi m c = 0 := by unfold mulHi; exact Nat.div_eq_of_lt hP
      have hlo2 : mulLo m c = m * c := by unfold mulLo; exact Nat.mod_eq_of_lt hP
      have hs := sub_run (mulLo m c) (p2 K)
      have w1 := wrap_p2 K (by omega)
      have w2 := wrap_p2 (K - W) (by omega)
      by_cases hb : m * c < 2 ^ K
      · have hbor : ((0 : Int) == borN (mulLo m c) (p2 K)) = false := by
          rw [hlo2]; unfold borN p2; rw [if_pos hb]; rfl
        have H := Lib.hid (show okM W c m K = false by simp [okM]; intro _ h; omega)
        clear hX hM2 hlt hlo hcond hP hlo2
        go_enter Try.func36, Try.ntmps36
        go_wp2_with fail
        refine (mask_any W _).mono ?_
        rintro e w' ⟨rfl, rfl⟩
        go_wp2_with fail
        refine (mul_any (maskN W) m _ (maskN_lt _) hm).mono ?_
        rintro e w' ⟨rfl, rfl⟩
        go_wp2_with fail
        refine (mask_any _ _).mono ?_
        rintro e w' ⟨rfl, rfl⟩
        go_wp2_with fail
        refine (mul_any m c _ hm hc64).mono ?_
        rintro e w' ⟨rfl, rfl⟩
        go_wp2_with (simp only [hs])
        go_ret
        exact ⟨by rw [H.out]; rfl, rfl⟩
      · have hbor : ((0 : Int) == borN (mulLo m c) (p2 K)) = true := by
          rw [hlo2]; unfold borN p2; rw [if_neg hb]; rfl
        have hd : difN (mulLo m c) (p2 K) = m * c - 2 ^ K := by
          rw [hlo2]; unfold difN p2
          exact dif_eq _ _ hP (by omega)
        have H := Lib.hid (show okM W c m K = decide (difN (mulLo m c) (p2 K) ≤ p2 (K - W)) by
          rw [hd]; unfold okM p2; congr 1; simp only [hcond, true_and, eq_iff_iff]; omega)
        clear hX hM2 hlt hlo hcond hP hlo2 hd
        go_enter Try.func36, Try.ntmps36
        go_wp2_with fail
        refine (mask_any W _).mono ?_
        rintro e w' ⟨rfl, rfl⟩
        go_wp2_with fail
        refine (mul_any (maskN W) m _ (maskN_lt _) hm).mono ?_
        rintro e w' ⟨rfl, rfl⟩
        go_wp2_with fail
        refine (mask_any _ _).mono ?_
        rintro e w' ⟨rfl, rfl⟩
        go_wp2_with fail
        refine (mul_any m c _ hm hc64).mono ?_
        rintro e w' ⟨rfl, rfl⟩
        go_wp2_with (simp only [hs])
        go_ret
        exact ⟨by rw [H.out]; rfl, rfl⟩
    · have H := Lib.hid (okM_first W c m K (by rw [← hlo, ← hM2]; exact hl))
      clear hX hM2 hlt hlo
      go_enter Try.func36, Try.ntmps36
      go_wp2_with fail
      refine (mask_any W _).mono ?_
      rintro e w' ⟨rfl, rfl⟩
      go_wp2_with fail
      refine (mul_any (maskN W) m _ (maskN_lt _) hm).mono ?_
      rintro e w' ⟨rfl, rfl⟩
      go_wp2_with fail
      refine (mask_any _ _).mono ?_
      rintro e w' ⟨rfl, rfl⟩
      go_wp2_with fail
      go_ret
      exact ⟨by rw [H.out]; rfl, rfl⟩
  · have H := Lib.hid (okM_first W c m K (by
      intro h; apply hi; unfold mulHi; rw [hX]; exact Nat.div_eq_of_lt (by omega)))
    have hi' : ((mulHi (maskN W) m : Int) != 0) = true := by rw [bne_iff_ne]; omega
    clear hX hM2 hlt hi
    go_enter Try.func36, Try.ntmps36
    go_wp2_with fail
    refine (mask_any W _).mono ?_
    rintro e w' ⟨rfl, rfl⟩
    go_wp2_with fail
    refine (mul_any (maskN W) m _ (maskN_lt _) hm).mono ?_
    rintro e w' ⟨rfl, rfl⟩
    go_wp2_with fail
    go_ret
    exact ⟨by rw [H.out]; rfl, rfl⟩

theorem fmask_any (a : Nat) (w : World) (ha : a ≤ 64) :
    Calls Try.prog 37 #[.int .i64 a] w fun e w' => e = .returned (.int .u64 (maskN a : Nat)) ∧ w = w' := by
  go_enter Try.func37, Try.ntmps37
  go_wp2_with fail
  refine (refmask_any a _ ha).mono ?_
  rintro e w' ⟨rfl, rfl⟩
  go_wp2_with fail
  go_ret
  exact ⟨rfl, rfl⟩
end Go.Proofs.Ythkdojgagmaecaa
