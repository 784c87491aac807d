/- RewriteMagic: the numbers for a division by a constant, and that every quotient is right with them. -/
import Derived.Test.YthkdojgagmaecaaMagicV
import Derived.Deep.QuietTactic
import Derived.BigQuiet
import Derived.IntWalk
namespace Go.Proofs.Ythkdojgagmaecaa
open Go.RowKit

theorem awake15 (w : World) :
    Calls Try.prog 20 #[] w fun e w' => e = .returned (.bool true) ∧ w = w' := by
  have e1 := Lib.hid (show magN 8 3 = 171 by decide)
  have e2 := Lib.hid (show magK 8 3 = 9 by decide)
  have e3 := Lib.hid (show magE 8 3 = 0 by decide)
  go_enter Try.func20, Try.ntmps20
  go_wp2_with fail
  refine (magic_any 8 3 _ (by decide) (by decide) (by decide) (by decide)).mono ?_
  rintro e w' ⟨rfl, rfl⟩
  rw [e1.out, e2.out, e3.out]
  go_wp2_with fail
  go_ret
  exact ⟨rfl, rfl⟩

def goodM (a : Int) (c : Nat) : Prop := 1 ≤ a ∧ a ≤ 32 ∧ 1 ≤ c ∧ c ≤ maskN a
set_option maxHeartbeats 1000000 in
theorem magic_bad (a : Int) (c : Nat) (w : World) (hc : c < 18446744073709551616) (h : ¬ goodM a c) :
    Calls Try.prog 21 #[.int .i64 a, .int .u64 c] w fun e w' => e = .returned (.tuple #[.int .u64 0, .int .i64 0, .int .i64 1]) ∧ w = w' := by
  have hh : a < 1 ∨ (1 ≤ a ∧ 32 < a) ∨ ((1 ≤ a ∧ a ≤ 32) ∧ c < 1) ∨ ((1 ≤ a ∧ a ≤ 32) ∧ 1 ≤ c ∧ maskN a < c) := by unfold goodM at h; omega
  clear h
  rcases hh with h | ⟨h1, h⟩ | ⟨⟨h1, h2⟩, h⟩ | ⟨⟨h1, h2⟩, h3, h⟩
  case inr.inr.inr =>
    go_enter Try.func21, Try.ntmps21
    go_wp2_with fail
    refine (mask_any a _).mono ?_
    rintro e w' ⟨rfl, rfl⟩
    go_wp2_with fail
    go_ret3
    exact ⟨rfl, rfl⟩
  all_goals
    go_enter Try.func21, Try.ntmps21
    go_wp2_with fail
    go_ret3
    exact ⟨rfl, rfl⟩
theorem fmask_i (a : Int) (w : World) (h1 : 1 ≤ a) (h2 : a ≤ 64) :
    Calls Try.prog 37 #[.int .i64 a] w fun e w' => e = .returned (.int .u64 (maskN a : Nat)) ∧ w = w' := by
  obtain ⟨n, rfl⟩ := Int.eq_ofNat_of_zero_le (show 0 ≤ a by omega)
  exact fmask_any n w (by omega)
set_option maxHeartbeats 1000000 in
theorem magic_bad_ref (a : Int) (c : Nat) (w : World) (hc : c < 18446744073709551616) (h : ¬ goodM a c) :
    Calls Try.prog 22 #[.int .i64 a, .int .u64 c] w fun e w' => e = .returned (.tuple #[.int .u64 0, .int .i64 0, .int .i64 1]) ∧ w = w' := by
  have hh : a < 1 ∨ (1 ≤ a ∧ 32 < a) ∨ ((1 ≤ a ∧ a ≤ 32) ∧ c < 1) ∨ ((1 ≤ a ∧ a ≤ 32) ∧ 1 ≤ c ∧ maskN a < c) := by unfold goodM at h; omega
  clear h
  rcases hh with h | ⟨h1, h⟩ | ⟨⟨h1, h2⟩, h⟩ | ⟨⟨h1, h2⟩, h3, h⟩
  case inr.inr.inr =>
    go_enter Try.func22, Try.ntmps22
    go_wp2_with fail
    refine (fmask_i a _ h1 (by omega)).mono ?_
    rintro e w' ⟨rfl, rfl⟩
    go_wp2_with fail
    go_ret3
    exact ⟨rfl, rfl⟩
  all_goals
    go_enter Try.func22, Try.ntmps22
    go_wp2_with fail
    go_ret3
    exact ⟨rfl, rfl⟩

theorem refmask_i (a : Int) (w : World) (h1 : 1 ≤ a) (h2 : a ≤ 64) :
    Calls Try.prog 23 #[.int .i64 a] w fun e w' => e = .returned (.int .u64 (maskN a : Nat)) ∧ w' = w := by
  obtain ⟨n, rfl⟩ := Int.eq_ofNat_of_zero_le (show 0 ≤ a by omega)
  exact (refmask_any n w (by omega)).mono fun _ _ ⟨h1, h2⟩ => ⟨h1, h2.symm⟩
theorem below_drewM {B : Nat} {a w : World} (h : Below B a w) (n : Nat) : Below B a (w.drewN n) := h.trans ⟨rfl, rfl, rfl, Nat.le_refl _, fun _ _ => rfl⟩
theorem law_badM (a : Int) (c x : Nat) (w : World) (hc : c < 18446744073709551616) (hx : x < 18446744073709551616) (h : ¬ goodM a c) :
    Calls Try.prog 7 #[.int .i64 a, .int .u64 c, .int .u64 x] w fun e w' => e = .returned (.bool true) ∧ Below w.heap.size w w' := by
  go_enter Try.func7, Try.ntmps7
  go_wp2_with fail
  refine (awake15 _).mono ?_
  rintro e w' ⟨rfl, rfl⟩
  go_wp2_with fail
  refine (magic_bad a c _ hc h).mono ?_
  rintro e w' ⟨rfl, rfl⟩
  go_wp2_with fail
  refine (magic_bad_ref a c _ hc h).mono ?_
  rintro e w' ⟨rfl, rfl⟩
  go_wp2_with fail
  go_ret
  exact ⟨rfl, Below.refl _ _⟩

theorem magN_some (W c m k : Nat) (h : magS W c W W = some (m, k)) : magN W c = m ∧ magK W c = k ∧ magE W c = 0 := by
  unfold magN magK magE; rw [h]; exact ⟨rfl, rfl, rfl⟩
theorem magN_none (W c : Nat) (h : magS W c W W = none) : magN W c = 0 ∧ magK W c = 0 ∧ magE W c = 6 := by
  unfold magN magK magE; rw [h]; exact ⟨rfl, rfl, rfl⟩

set_option maxHeartbeats 1000000 in
theorem law_goodM (W c x : Nat) (w : World) (hx : x < 18446744073709551616) (hW : 1 ≤ W) (hW' : W ≤ 32) (hc : 1 ≤ c) (hc' : c < 2 ^ W) :
    Calls Try.prog 7 #[.int .i64 W, .int .u64 c, .int .u64 x] w fun e w' => e = .returned (.bool true) ∧ Below w.heap.size w w' := by
  cases hS : magS W c W W with
  | none =>
    obtain ⟨m1, m2, m3⟩ := magN_none W c hS
    have M1 := Lib.hid m1
    have M2 := Lib.hid m2
    have M3 := Lib.hid m3
    clear m1 m2 m3 hS
    go_enter Try.func7, Try.ntmps7
    go_wp2_with fail
    refine (awake15 _).mono ?_
    rintro e w' ⟨rfl, rfl⟩
    go_wp2_with fail
    refine (magic_any W c _ hW hW' hc hc').mono ?_
    rintro e w' ⟨rfl, rfl⟩
    rw [M1.out, M2.out, M3.out]
    go_wp2_with fail
    refine (magic_ref W c _ hW hW' hc hc').mono ?_
    rintro e w' ⟨rfl, rfl⟩
    rw [M1.out, M2.out, M3.out]
    go_wp2_with fail
    go_ret
    exact ⟨rfl, Below.refl _ _⟩
  | some p =>
    obtain ⟨m, k⟩ := p
    obtain ⟨m1, m2, m3⟩ := magN_some W c m k hS
    obtain ⟨ho, hk, hk2, hm⟩ := magS_spec W c W W m k hS
    have ho' : m * (2 ^ W - 1) ≤ 2 ^ (2 * W) - 1 ∧ 2 ^ k ≤ m * c ∧ m * c ≤ 2 ^ k + 2 ^ (k - W) := by simpa [okM] using ho
    obtain ⟨o1, o2, o3⟩ := ho'
    have hml : m < 18446744073709551616 := by rw [hm]; exact ceil_lt k c (by omega) hc
    have M1 := Lib.hid m1
    have M2 := Lib.hid m2
    have M3 := Lib.hid m3
    clear m1 m2 m3 hS ho hm
    have hc64 : c < 18446744073709551616 := by have h2 : 2 ^ W ≤ 2 ^ 64 := pow_mono (by omega); rw [pow64] at h2; omega
    obtain ⟨X, hX⟩ : ∃ X : Nat, X = x &&& maskN (W : Int) := ⟨_, rfl⟩
    have a1 : bits .and .u64 (x : Int) ((maskN (W : Int) : Nat) : Int) = (X : Nat) := by rw [hX]; exact u64_and_nat x _ hx (maskN_lt _)
    have hXl : X < 2 ^ W := by
      rw [hX, maskN_nat W (by omega), Nat.and_two_pow_sub_one_eq_mod]
      exact Nat.mod_lt _ (Nat.pow_pos (by decide))
    have hXm : X * m ≤ 2 ^ (2 * W) - 1 := by
      calc X * m ≤ (2 ^ W - 1) * m := Nat.mul_le_mul_right _ (by omega)
        _ = m * (2 ^ W - 1) := Nat.mul_comm _ _
        _ ≤ _ := o1
    have h22 : 2 ^ (2 * W) ≤ 18446744073709551616 := by rw [← pow64]; exact pow_mono (by omega)
    have hXm64 : X * m < 18446744073709551616 := by have := pow_ge_one (2 * W); omega
    have hdiv := magic_div W c m k X hc hk o2 o3 hXl
    have hm0 : 0 < m := by
      rcases Nat.eq_zero_or_pos m with e | e
      · rw [e] at o2; have := pow_ge_one k; omega
      · exact e
    obtain ⟨Y, hY⟩ : ∃ Y : Nat, Y = X / c := ⟨_, rfl⟩
    have w3 := wrapM X m hXm64
    have w4 : ((pm X m : Nat) : Int) / 2 ^ k = (Y : Nat) := by
      have e : ((2 : Int) ^ k) = ((2 ^ k : Nat) : Int) := by simp
      rw [e, ← Int.natCast_ediv, hY, ← hdiv]; rfl
    have hX64 : X < 18446744073709551616 := by have h2 : 2 ^ W ≤ 2 ^ 64 := pow_mono (by omega); rw [pow64] at h2; omega
    have w5 : IntKind.u64.wrap ((X : Int) / c) = ((Y : Nat) : Int) := by rw [hY]; exact wrapQ X c hX64
    obtain ⟨Z, hZ⟩ : ∃ Z : Nat, Z = maskN (2 * (W : Int)) / m := ⟨_, rfl⟩
    have w6 : IntKind.u64.wrap ((maskN (2 * (W : Int)) : Int) / (m : Int)) = ((Z : Nat) : Int) := by rw [hZ]; exact wrapQ _ _ (maskN_lt _)
    have hM2 : maskN (2 * (W : Int)) = 2 ^ (2 * W) - 1 := by have := maskN_nat (2 * W) (by omega); rw [← this]; congr 1
    have hXZ : X ≤ Z := by rw [hZ, hM2]; exact (Nat.le_div_iff_mul_le hm0).2 hXm
    have z2 : ¬ m = 0 := by omega
    have z4 : ¬ (m : Int) = 0 := by omega
    have n1 : ((m : Int) != 0) = true := by rw [bne_iff_ne]; omega
    have n2 : ((m : Int) == 0) = false := by rw [beq_eq_false_iff_ne]; omega
    have n3 : ((c : Int) == 0) = false := by rw [beq_eq_false_iff_ne]; omega
    have E2 := Lib.hid (show (2 * (W : Int)) = ((2 * W : Nat) : Int) by omega)
    clear o1 o2 o3 hX hXl hXm h22 hXm64 hdiv hm0 hY hZ hM2
    go_enter Try.func7, Try.ntmps7
    go_wp2_with fail
    refine (awake15 _).mono ?_
    rintro e w' ⟨rfl, rfl⟩
    go_wp2_with fail
    refine (magic_any W c _ hW hW' hc hc').mono ?_
    rintro e w' ⟨rfl, rfl⟩
    rw [M1.out, M2.out, M3.out]
    go_wp2_with fail
    refine (magic_ref W c _ hW hW' hc hc').mono ?_
    rintro e w' ⟨rfl, rfl⟩
    rw [M1.out, M2.out, M3.out]
    go_wp2_with fail
    refine (refmask_any W _ (by omega)).mono ?_
    rintro e w' ⟨rfl, rfl⟩
    go_wp2_with fail
    have z1 : ¬ c = 0 := by omega
    have z3 : ¬ (c : Int) = 0 := by omega
    have s1 : IntKind.i64.wrap (2 * (W : Int)) = 2 * (W : Int) := IntWalk.i64_in _ (by omega)
    have s2 : (1 : Int) ≤ 2 * W := by omega
    have s3 : (2 : Int) * W ≤ 64 := by omega
    go_quiet ((go_at_call 23; exact Calls.quiet_of_same (refmask_i _ _ s2 s3)))
    go_wp2_with fail
    go_ret
    exact ⟨by simp, below_drewM (Below.refl _ _) _⟩

theorem magic_walk (a : Int) (c x : Nat) (w : World) (hc : c < 18446744073709551616) (hx : x < 18446744073709551616) :
    Calls Try.prog 7 #[.int .i64 a, .int .u64 c, .int .u64 x] w fun e w' => e = .returned (.bool true) ∧ Below w.heap.size w w' := by
  by_cases h : goodM a c
  · obtain ⟨h1, h2, h3, h4⟩ := h
    obtain ⟨W, rfl⟩ := Int.eq_ofNat_of_zero_le (show 0 ≤ a by omega)
    have e : maskN (W : Int) = 2 ^ W - 1 := maskN_nat W (by omega)
    have hp : 0 < 2 ^ W := Nat.pow_pos (by decide)
    exact law_goodM W c x w hx (by omega) (by omega) h3 (by have h5 : c ≤ maskN (W : Int) := h4; omega)
  · exact law_badM a c x w hc hx h
end Go.Proofs.Ythkdojgagmaecaa
