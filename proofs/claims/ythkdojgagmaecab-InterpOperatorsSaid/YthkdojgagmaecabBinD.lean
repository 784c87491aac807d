/- Layer 1's reference: Binary at sub. -/
import Derived.Test.YthkdojgagmaecabBin
namespace Go.Proofs.Ythkdojgagmaecab
open Go.RowKit

set_option maxRecDepth 100000 in
theorem rbin_sub (a : Int) (x y : Nat) (hx : x < 18446744073709551616) (hy : y < 18446744073709551616) (w : World) :
    Calls Try.prog 63 #[.int .i64 3, .int .i64 a, .int .u64 x, .int .u64 y] w fun e w' => e = .returned (.int .u64 ((fitN a x % 2 ^ wid a + (maskN a - fitN a y) % 2 ^ wid a + 1) % 2 ^ wid a : Nat)) ∧ Below w.heap.size w w' := by
  have CX := fun w => rfit_any a x hx w
  have CY := fun w => rfit_any a y hy w
  have BX := fun w => rbits_any a (fitN a x) (fitN_lt a x) w
  have BY := fun w => rbits_any a (fitN a y) (fitN_lt a y) w
  have CN := fun w => rneg_any a (fitN a x) (fitN_lt a x) w
  have CO := fun w => rones_any a w
  obtain ⟨D, hD⟩ : ∃ D : Nat, D = maskN a - fitN a y := ⟨_, rfl⟩
  have hDl : D < 18446744073709551616 := by have := maskN_lt a; omega
  have BD := fun w => rbits_any a D hDl w
  have hle := fit_le_mask a y
  have q1 : IntKind.u64.wrap (((maskN a : Nat) : Int) - ((fitN a y : Nat) : Int)) = ((D : Nat) : Int) := by rw [IntKind.wrap_u64]; omega
  have HD : Hid (maskN a - fitN a y = D) := Lib.hid hD.symm
  rw [HD.out]
  generalize maskN a = M at CO q1 HD hD hle
  clear hD hle HD
  generalize fitN a x = X at CX BX CN ⊢
  generalize fitN a y = Y at q1 CY BY
  have hm := wid_le a
  generalize wid a = N at BX BY BD hm ⊢
  generalize negB a X = S at CN
  cases S
  · go_enter Try.func63, Try.ntmps63
    go_wp2_with fail
    refine (CX _).mono ?_
    rintro e u1 ⟨rfl, hb1⟩
    go_wp2_with fail
    refine (CY _).mono ?_
    rintro e u2 ⟨rfl, hb2⟩
    have B2 := hb1.trans (hb2.mono hb1.size)
    clear hb1 hb2
    go_wp2_with fail
    refine (BX _).mono ?_
    rintro e u3 ⟨v1, rfl, hown1, hb3⟩
    rw [bitsL_len] at hown1
    have R1 := Lib.hid (ReadRow.of_owns (bitsL_len N X) hown1)
    clear hown1
    go_wp2_with fail
    refine (BY _).mono ?_
    rintro e u4 ⟨v2, rfl, hown2, hb4⟩
    rw [bitsL_len] at hown2
    have R2 := Lib.hid (ReadRow.of_owns (bitsL_len N Y) hown2)
    have R1' := Lib.hid (R1.out.below hb4)
    have B4 := B2.trans ((hb3.trans (hb4.mono hb3.size)).mono B2.size)
    clear hown2 R1 hb3 hb4 B2
    obtain ⟨s1, c1, rfl⟩ := R1'.out.len
    obtain ⟨s2, c2, rfl⟩ := R2.out.len
    go_wp2_with fail
    go_loop [12] (fun i => ∃ k : Nat, k ≤ N ∧ i = .int .i64 (k : Nat)) (fun i => N - (intOf i).toNat)
    case atStart => exact ⟨0, Nat.zero_le _, rfl⟩
    obtain ⟨k, hk, rfl⟩ := hrel
    by_cases hlt : k < N
    · go_wp2_with fail
      go_round
      case rel => exact ⟨k + 1, by omega, by go_num⟩
      case measure => (simp [intOf] <;> omega)
    have hkN : k = N := by omega
    subst hkN
    go_wp2_with fail
    refine (CN _).mono ?_
    rintro e u5 ⟨rfl, hb5⟩
    have B5 := B4.trans (hb5.mono B4.size)
    have Q1 := Lib.hid (R1'.out.below hb5)
    have Q2 := Lib.hid (R2.out.below hb5)
    clear hb5 B4 R1' R2
    go_wp2_with fail
    refine (CO _).mono ?_
    rintro e u6 ⟨rfl, rfl⟩
    go_wp2_with fail
    refine (BD _).mono ?_
    rintro e u7 ⟨v7, rfl, hown7, hb7⟩
    rw [bitsL_len] at hown7
    have R7 := Lib.hid (ReadRow.of_owns (bitsL_len k D) hown7)
    have Q1' := Lib.hid (Q1.out.below hb7)
    have B7 := B5.trans (hb7.mono B5.size)
    clear hown7 hb7 B5 Q1 Q2
    go_wp2_with fail
    refine (radd_any _ _ (bitsL k X) (bitsL k D) k 1 _ hm (bitsL_le _ _) (bitsL_le _ _) (by decide) Q1'.out R7.out).mono ?_
    rintro e u8 ⟨v5, L5, rfl, hown5, hL5, hL51, hW5, hb8⟩
    rw [word_bits, word_bits] at hW5
    have HW5 := Lib.hid hW5
    have B8 := B7.trans (hb8.mono B7.size)
    clear hW5 B7 hb8
    go_wp2_with fail
    refine (word_row _ _ _ L5 (by omega) hL51 _ (by rw [hL5]; exact hown5)).mono ?_
    rintro e u9 ⟨rfl, rfl⟩
    go_wp2_with fail
    go_ret
    exact ⟨by rw [← HW5.out]; rfl, B8⟩
  · go_enter Try.func63, Try.ntmps63
    go_wp2_with fail
    refine (CX _).mono ?_
    rintro e u1 ⟨rfl, hb1⟩
    go_wp2_with fail
    refine (CY _).mono ?_
    rintro e u2 ⟨rfl, hb2⟩
    have B2 := hb1.trans (hb2.mono hb1.size)
    clear hb1 hb2
    go_wp2_with fail
    refine (BX _).mono ?_
    rintro e u3 ⟨v1, rfl, hown1, hb3⟩
    rw [bitsL_len] at hown1
    have R1 := Lib.hid (ReadRow.of_owns (bitsL_len N X) hown1)
    clear hown1
    go_wp2_with fail
    refine (BY _).mono ?_
    rintro e u4 ⟨v2, rfl, hown2, hb4⟩
    rw [bitsL_len] at hown2
    have R2 := Lib.hid (ReadRow.of_owns (bitsL_len N Y) hown2)
    have R1' := Lib.hid (R1.out.below hb4)
    have B4 := B2.trans ((hb3.trans (hb4.mono hb3.size)).mono B2.size)
    clear hown2 R1 hb3 hb4 B2
    obtain ⟨s1, c1, rfl⟩ := R1'.out.len
    obtain ⟨s2, c2, rfl⟩ := R2.out.len
    go_wp2_with fail
    go_loop [12] (fun i => ∃ k : Nat, k ≤ N ∧ i = .int .i64 (k : Nat)) (fun i => N - (intOf i).toNat)
    case atStart => exact ⟨0, Nat.zero_le _, rfl⟩
    obtain ⟨k, hk, rfl⟩ := hrel
    by_cases hlt : k < N
    · go_wp2_with fail
      go_round
      case rel => exact ⟨k + 1, by omega, by go_num⟩
      case measure => (simp [intOf] <;> omega)
    have hkN : k = N := by omega
    subst hkN
    go_wp2_with fail
    refine (CN _).mono ?_
    rintro e u5 ⟨rfl, hb5⟩
    have B5 := B4.trans (hb5.mono B4.size)
    have Q1 := Lib.hid (R1'.out.below hb5)
    have Q2 := Lib.hid (R2.out.below hb5)
    clear hb5 B4 R1' R2
    go_wp2_with fail
    refine (CO _).mono ?_
    rintro e u6 ⟨rfl, rfl⟩
    go_wp2_with fail
    refine (BD _).mono ?_
    rintro e u7 ⟨v7, rfl, hown7, hb7⟩
    rw [bitsL_len] at hown7
    have R7 := Lib.hid (ReadRow.of_owns (bitsL_len k D) hown7)
    have Q1' := Lib.hid (Q1.out.below hb7)
    have B7 := B5.trans (hb7.mono B5.size)
    clear hown7 hb7 B5 Q1 Q2
    go_wp2_with fail
    refine (radd_any _ _ (bitsL k X) (bitsL k D) k 1 _ hm (bitsL_le _ _) (bitsL_le _ _) (by decide) Q1'.out R7.out).mono ?_
    rintro e u8 ⟨v5, L5, rfl, hown5, hL5, hL51, hW5, hb8⟩
    rw [word_bits, word_bits] at hW5
    have HW5 := Lib.hid hW5
    have B8 := B7.trans (hb8.mono B7.size)
    clear hW5 B7 hb8
    go_wp2_with fail
    refine (word_row _ _ _ L5 (by omega) hL51 _ (by rw [hL5]; exact hown5)).mono ?_
    rintro e u9 ⟨rfl, rfl⟩
    go_wp2_with fail
    go_ret
    exact ⟨by rw [← HW5.out]; rfl, B8⟩
end Go.Proofs.Ythkdojgagmaecab
