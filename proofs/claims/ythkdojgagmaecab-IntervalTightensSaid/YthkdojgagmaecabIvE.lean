/- Package interval: Valid; and its reference: Umax, Smax, Smin, Signed, Valid, Contains, Top, Of. -/
import Derived.Test.YthkdojgagmaecabIvA
import Derived.Deep.QuietTactic
import Derived.BigQuiet
import Derived.WalkSmall
namespace Go.Proofs.Ythkdojgagmaecab
open Go.RowKit

theorem maskN_nat (w : Nat) (h : w ≤ 64) : maskN (w : Int) = 2 ^ w - 1 := by
  unfold maskN; congr 2; unfold cw; split; omega; split <;> omega
def MkAt (i M : Nat) : Prop := M + 1 = 2 ^ i
theorem refmask_any (a : Nat) (w : World) (ha : a ≤ 64) :
    Calls Try.prog 38 #[.int .i64 a] w fun e w' => e = .returned (.int .u64 (maskN a : Nat)) ∧ w = w' := by
  have Hm := Lib.hid (maskN_nat a ha)
  go_enter Try.func38, Try.ntmps38
  go_wp2_with fail
  go_loop [3, 4] (fun m i => ∃ k M : Nat, k ≤ a ∧ MkAt k M ∧ i = .int .i64 k ∧ m = .int .u64 M) (fun _ i => a - (intOf i).toNat)
  case atStart => exact ⟨0, 0, by omega, rfl, rfl, rfl⟩
  case round =>
    obtain ⟨k, M, hk, hM, rfl, rfl⟩ := hrel
    by_cases h1 : k < a
    · have hb : M < 9223372036854775808 := by have := pow_lt_64 k (by omega); unfold MkAt at hM; omega
      have HM := Lib.hid (show MkAt (k + 1) (2 * M + 1) by unfold MkAt at *; rw [Nat.pow_succ]; omega)
      clear hM
      go_wp2_with fail
      go_round
      case rel => exact ⟨k + 1, 2 * M + 1, by omega, HM.out, by go_num, by (congr 1; omega)⟩
      case measure => simp [intOf]; omega
    · have h2 : k = a := by omega
      have HM := Lib.hid (show M = 2 ^ a - 1 by unfold MkAt at hM; rw [h2] at hM; omega)
      clear hM h2
      go_wp2_with fail
      go_ret
      exact ⟨by rw [Hm.out, ← HM.out]; rfl, rfl⟩
theorem rmask_i (a : Int) (h1 : 1 ≤ a) (h2 : a ≤ 64) (w : World) :
    Calls Try.prog 38 #[.int .i64 a] w fun e w' => e = .returned (.int .u64 (maskN a : Nat)) ∧ w = w' := by
  obtain ⟨n, rfl⟩ := Int.eq_ofNat_of_zero_le (show 0 ≤ a by omega)
  exact refmask_any n w (by omega)
theorem rumax_any (a : Int) (h1 : 1 ≤ a) (h2 : a ≤ 64) (w : World) :
    Calls Try.prog 53 #[.int .i64 a] w fun e w' => e = .returned (.int .u64 (maskN a : Nat)) ∧ w = w' := by
  have C := fun w => rmask_i a h1 h2 w
  generalize maskN a = M at C ⊢
  go_enter Try.func53, Try.ntmps53
  go_wp2_with fail
  refine (C _).mono ?_
  rintro e w1 ⟨rfl, rfl⟩
  go_wp2_with fail
  go_ret
  exact ⟨rfl, rfl⟩
theorem cw_pos' (a : Int) (ha : 1 ≤ a) : 1 ≤ cw a := by unfold cw; split; omega; split <;> omega
theorem mask_half (a : Int) (h1 : 1 ≤ a) : ((maskN a : Nat) : Int) / 2 = smax a ∧ 0 ≤ smax a ∧ smax a < 9223372036854775808 ∧ smin a = - smax a - 1 := by
  have hp := cw_pos' a h1
  have hh := pow_half (cw a) hp
  have hl : 2 ^ (cw a - 1) ≤ 9223372036854775808 := by rw [← pow63]; exact Nat.pow_le_pow_right (by decide) (by have := cw_le a; omega)
  have := pow_pos (cw a - 1)
  unfold maskN smax smin
  generalize 2 ^ (cw a - 1) = q at *
  generalize 2 ^ cw a = p at *
  omega
theorem rsmax_any (a : Int) (h1 : 1 ≤ a) (h2 : a ≤ 64) (w : World) :
    Calls Try.prog 55 #[.int .i64 a] w fun e w' => e = .returned (.int .i64 (smax a)) ∧ w = w' := by
  have C := fun w => rumax_any a h1 h2 w
  obtain ⟨e1, e2, e3, _⟩ := mask_half a h1
  generalize smax a = X at *
  generalize maskN a = M at *
  go_enter Try.func55, Try.ntmps55
  go_wp2_with fail
  refine (C _).mono ?_
  rintro e w1 ⟨rfl, rfl⟩
  go_wp2_with fail
  go_ret
  exact ⟨rfl, rfl⟩
theorem rsmin_any (a : Int) (h1 : 1 ≤ a) (h2 : a ≤ 64) (w : World) :
    Calls Try.prog 54 #[.int .i64 a] w fun e w' => e = .returned (.int .i64 (smin a)) ∧ w = w' := by
  have C := fun w => rsmax_any a h1 h2 w
  obtain ⟨_, e2, e3, e4⟩ := mask_half a h1
  rw [e4]
  clear e4
  generalize smax a = X at *
  go_enter Try.func54, Try.ntmps54
  go_wp2_with fail
  refine (C _).mono ?_
  rintro e w1 ⟨rfl, rfl⟩
  go_wp2_with fail
  go_ret
  exact ⟨rfl, rfl⟩
theorem rbit12_any (n i : Nat) (hn : n < 18446744073709551616) (hi : i < 64) (w : World) :
    Calls Try.prog 69 #[.int .u64 n, .int .i64 i] w fun e w' => e = .returned (.int .i64 (n / 2 ^ i % 2 : Nat)) ∧ w = w' := by
  have e1 : (n : Int) / 2 ^ i = ((n / 2 ^ i : Nat) : Int) := by simp
  have hl : n / 2 ^ i < 18446744073709551616 := Nat.lt_of_le_of_lt (Nat.div_le_self _ _) hn
  generalize n / 2 ^ i = Q at *
  have e2 : bits .and .u64 ((Q : Nat) : Int) 1 = ((Q % 2 : Nat) : Int) := by
    rw [show (1 : Int) = ((1 : Nat) : Int) from rfl, u64_and_nat _ _ hl (by decide), Nat.and_one_is_mod]
  have hr := Nat.mod_lt Q (show 0 < 2 by decide)
  generalize Q % 2 = R at *
  clear hl
  go_enter Try.func69, Try.ntmps69
  go_wp2_with fail
  go_ret
  exact ⟨rfl, rfl⟩
theorem sgn_negG (a : Int) (x : Nat) (h1 : 1 ≤ a) (h2 : a ≤ 64) (hx : fitN a x = x) (hs : ¬ x < 2 ^ (cw a - 1)) :
    wrap64 (bits .or .u64 (x : Int) (bits .xor .u64 IntKind.u64.max ((maskN a : Nat) : Int))) = sgn a x := by
  have hxl : x < 18446744073709551616 := by rw [← hx]; exact fitN_lt a x
  by_cases h : 64 ≤ a
  · rw [not_mask, maskN_hi a (by omega) h, u64_or_nat _ _ hxl (by decide)]
    simp
    exact sgn_hi a x (by omega) h hxl
  · have := sgn_neg a x (by omega) h (by rw [hx]; exact hs)
    rwa [hx] at this
theorem sgn_posG (a : Int) (x : Nat) (h1 : 1 ≤ a) (h2 : a ≤ 64) (hx : fitN a x = x) (hs : x < 2 ^ (cw a - 1)) : sgn a x = (x : Int) ∧ x < 9223372036854775808 := by
  have hl : 2 ^ (cw a - 1) ≤ 9223372036854775808 := by rw [← pow63]; exact Nat.pow_le_pow_right (by decide) (by have := cw_le a; omega)
  refine ⟨?_, by omega⟩
  unfold sgn
  rw [if_neg (by omega), hx, if_pos hs]
theorem rsigned_any (a : Int) (x : Nat) (h1 : 1 ≤ a) (h2 : a ≤ 64) (hx : fitN a x = x) (w : World) :
    Calls Try.prog 56 #[.int .i64 a, .int .u64 x] w fun e w' => e = .returned (.int .i64 (sgn a x)) ∧ w = w' := by
  have hxl : x < 18446744073709551616 := by rw [← hx]; exact fitN_lt a x
  have hlt := fitN_lt' a x
  rw [hx] at hlt
  have hh := pow_half (cw a) (cw_pos' a h1)
  have hc : ((cw a : Nat) : Int) = a := by unfold cw; split; omega; split <;> omega
  obtain ⟨k, hk⟩ : ∃ k : Nat, cw a = k + 1 := ⟨cw a - 1, by have := cw_pos' a h1; omega⟩
  have e1 : a - 1 = ((k : Nat) : Int) := by omega
  have C1 := fun w => rbit12_any x k hxl (by omega) w
  have C2 := fun w => rmask_i a h1 h2 w
  have hp := pow_pos k
  by_cases hs : x < 2 ^ (cw a - 1)
  · obtain ⟨s1, s2⟩ := sgn_posG a x h1 h2 hx hs
    rw [show x / 2 ^ k % 2 = 0 by rw [Nat.div_eq_of_lt (by rw [hk] at hs; exact hs)]] at C1
    rw [s1]
    clear hlt hh hc hk hp hs s1 hx C2
    go_enter Try.func56, Try.ntmps56
    go_wp2_with fail
    refine (C1 _).mono ?_
    rintro e w1 ⟨rfl, rfl⟩
    go_wp2_with fail
    go_ret
    exact ⟨rfl, rfl⟩
  · have HS := Lib.hid (sgn_negG a x h1 h2 hx hs)
    rw [hk] at hs hlt hh
    rw [show k + 1 - 1 = k from rfl] at hs hh
    rw [show x / 2 ^ k % 2 = 1 by rw [show x / 2 ^ k = 1 from Nat.div_eq_of_lt_le (by omega) (by omega)]] at C1
    generalize maskN a = M at C2 HS
    generalize sgn a x = S at HS ⊢
    clear hlt hh hc hk hp hs hx
    go_enter Try.func56, Try.ntmps56
    go_wp2_with fail
    refine (C1 _).mono ?_
    rintro e w1 ⟨rfl, rfl⟩
    go_wp2_with fail
    refine (C2 _).mono ?_
    rintro e w1 ⟨rfl, rfl⟩
    go_wp2_with fail
    go_ret
    exact ⟨by rw [← HS.out]; rfl, rfl⟩
end Go.Proofs.Ythkdojgagmaecab
