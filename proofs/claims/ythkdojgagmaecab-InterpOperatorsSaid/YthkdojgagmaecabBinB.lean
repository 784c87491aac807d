/- Layer 1's reference: Binary at mul, shl, lshr, ashr. -/
import Derived.Test.YthkdojgagmaecabBin
namespace Go.Proofs.Ythkdojgagmaecab
open Go.RowKit

theorem amN_le (a : Int) (y : Nat) : amN a y ≤ 64 := Nat.le_trans (Nat.min_le_right _ _) (wid_le a)

set_option maxRecDepth 100000 in
theorem rbin_mul (a : Int) (x y : Nat) (hx : x < 18446744073709551616) (hy : y < 18446744073709551616) (w : World) :
    Calls Try.prog 63 #[.int .i64 4, .int .i64 a, .int .u64 x, .int .u64 y] w fun e w' => e = .returned (.int .u64 (fitN a (fitN a x * fitN a y) : Nat)) ∧ Below w.heap.size w w' := by
  have CX := fun w => rfit_any a x hx w
  have CY := fun w => rfit_any a y hy w
  have BX := fun w => rbits_any a (fitN a x) (fitN_lt a x) w
  have BY := fun w => rbits_any a (fitN a y) (fitN_lt a y) w
  have CN := fun w => rneg_any a (fitN a x) (fitN_lt a x) w
  have CM := fun w => rmul_any a (fitN a x) (fitN a y) (fitN_lt a x) (fitN_lt a y) w
  generalize fitN a x = X at CM CX BX CN ⊢
  generalize fitN a y = Y at CM CY BY ⊢
  have hm := wid_le a
  generalize wid a = N at BX BY hm
  generalize negB a X = S at CN
  cases S
  · go_enter Try.func63, Try.ntmps63
    go_wp2_with fail
    refine (CX _).mono ?_
    rintro e u1 ⟨rfl, hb1⟩
    go_wp2_with fail
    refine (CY _).mono ?_
    rintro e u2 ⟨rfl, hb2⟩
    have B2 := hb1.trans (hb2.mono hb1.size)
    clear hb1 hb2
    go_wp2_with fail
    refine (BX _).mono ?_
    rintro e u3 ⟨v1, rfl, hown1, hb3⟩
    rw [bitsL_len] at hown1
    have R1 := Lib.hid (ReadRow.of_owns (bitsL_len N X) hown1)
    clear hown1
    go_wp2_with fail
    refine (BY _).mono ?_
    rintro e u4 ⟨v2, rfl, hown2, hb4⟩
    rw [bitsL_len] at hown2
    have R2 := Lib.hid (ReadRow.of_owns (bitsL_len N Y) hown2)
    have R1' := Lib.hid (R1.out.below hb4)
    have B4 := B2.trans ((hb3.trans (hb4.mono hb3.size)).mono B2.size)
    clear hown2 R1 hb3 hb4 B2
    obtain ⟨s1, c1, rfl⟩ := R1'.out.len
    obtain ⟨s2, c2, rfl⟩ := R2.out.len
    go_wp2_with fail
    go_loop [12] (fun i => ∃ k : Nat, k ≤ N ∧ i = .int .i64 (k : Nat)) (fun i => N - (intOf i).toNat)
    case atStart => exact ⟨0, Nat.zero_le _, rfl⟩
    obtain ⟨k, hk, rfl⟩ := hrel
    by_cases hlt : k < N
    · go_wp2_with fail
      go_round
      case rel => exact ⟨k + 1, by omega, by go_num⟩
      case measure => (simp [intOf] <;> omega)
    have hkN : k = N := by omega
    subst hkN
    go_wp2_with fail
    refine (CN _).mono ?_
    rintro e u5 ⟨rfl, hb5⟩
    have B5 := B4.trans (hb5.mono B4.size)
    have Q1 := Lib.hid (R1'.out.below hb5)
    have Q2 := Lib.hid (R2.out.below hb5)
    clear hb5 B4 R1' R2
    go_wp2_with fail
    refine (CM _).mono ?_
    rintro e u6 ⟨rfl, hb6⟩
    have B6 := B5.trans (hb6.mono B5.size)
    clear hb6 B5
    go_wp2_with fail
    go_ret
    exact ⟨rfl, B6⟩
  · go_enter Try.func63, Try.ntmps63
    go_wp2_with fail
    refine (CX _).mono ?_
    rintro e u1 ⟨rfl, hb1⟩
    go_wp2_with fail
    refine (CY _).mono ?_
    rintro e u2 ⟨rfl, hb2⟩
    have B2 := hb1.trans (hb2.mono hb1.size)
    clear hb1 hb2
    go_wp2_with fail
    refine (BX _).mono ?_
    rintro e u3 ⟨v1, rfl, hown1, hb3⟩
    rw [bitsL_len] at hown1
    have R1 := Lib.hid (ReadRow.of_owns (bitsL_len N X) hown1)
    clear hown1
    go_wp2_with fail
    refine (BY _).mono ?_
    rintro e u4 ⟨v2, rfl, hown2, hb4⟩
    rw [bitsL_len] at hown2
    have R2 := Lib.hid (ReadRow.of_owns (bitsL_len N Y) hown2)
    have R1' := Lib.hid (R1.out.below hb4)
    have B4 := B2.trans ((hb3.trans (hb4.mono hb3.size)).mono B2.size)
    clear hown2 R1 hb3 hb4 B2
    obtain ⟨s1, c1, rfl⟩ := R1'.out.len
    obtain ⟨s2, c2, rfl⟩ := R2.out.len
    go_wp2_with fail
    go_loop [12] (fun i => ∃ k : Nat, k ≤ N ∧ i = .int .i64 (k : Nat)) (fun i => N - (intOf i).toNat)
    case atStart => exact ⟨0, Nat.zero_le _, rfl⟩
    obtain ⟨k, hk, rfl⟩ := hrel
    by_cases hlt : k < N
    · go_wp2_with fail
      go_round
      case rel => exact ⟨k + 1, by omega, by go_num⟩
      case measure => (simp [intOf] <;> omega)
    have hkN : k = N := by omega
    subst hkN
    go_wp2_with fail
    refine (CN _).mono ?_
    rintro e u5 ⟨rfl, hb5⟩
    have B5 := B4.trans (hb5.mono B4.size)
    have Q1 := Lib.hid (R1'.out.below hb5)
    have Q2 := Lib.hid (R2.out.below hb5)
    clear hb5 B4 R1' R2
    go_wp2_with fail
    refine (CM _).mono ?_
    rintro e u6 ⟨rfl, hb6⟩
    have B6 := B5.trans (hb6.mono B5.size)
    clear hb6 B5
    go_wp2_with fail
    go_ret
    exact ⟨rfl, B6⟩

set_option maxRecDepth 100000 in
theorem rbin_shl (a : Int) (x y : Nat) (hx : x < 18446744073709551616) (hy : y < 18446744073709551616) (w : World) :
    Calls Try.prog 63 #[.int .i64 12, .int .i64 a, .int .u64 x, .int .u64 y] w fun e w' => e = .returned (.int .u64 (fitN a (fitN a x * 2 ^ amN a (fitN a y)) : Nat)) ∧ Below w.heap.size w w' := by
  have CX := fun w => rfit_any a x hx w
  have CY := fun w => rfit_any a y hy w
  have BX := fun w => rbits_any a (fitN a x) (fitN_lt a x) w
  have BY := fun w => rbits_any a (fitN a y) (fitN_lt a y) w
  have CN := fun w => rneg_any a (fitN a x) (fitN_lt a x) w
  have CA := fun w => ramount_any a (fitN a y) w
  have CS := fun w => rshl_any a (fitN a x) (amN a (fitN a y)) (fitN_lt a x) (amN_le _ _) w
  generalize fitN a x = X at CS CX BX CN ⊢
  generalize fitN a y = Y at CA CS CY BY ⊢
  have hm := wid_le a
  generalize wid a = N at BX BY hm
  generalize negB a X = S at CN
  cases S
  · go_enter Try.func63, Try.ntmps63
    go_wp2_with fail
    refine (CX _).mono ?_
    rintro e u1 ⟨rfl, hb1⟩
    go_wp2_with fail
    refine (CY _).mono ?_
    rintro e u2 ⟨rfl, hb2⟩
    have B2 := hb1.trans (hb2.mono hb1.size)
    clear hb1 hb2
    go_wp2_with fail
    refine (BX _).mono ?_
    rintro e u3 ⟨v1, rfl, hown1, hb3⟩
    rw [bitsL_len] at hown1
    have R1 := Lib.hid (ReadRow.of_owns (bitsL_len N X) hown1)
    clear hown1
    go_wp2_with fail
    refine (BY _).mono ?_
    rintro e u4 ⟨v2, rfl, hown2, hb4⟩
    rw [bitsL_len] at hown2
    have R2 := Lib.hid (ReadRow.of_owns (bitsL_len N Y) hown2)
    have R1' := Lib.hid (R1.out.below hb4)
    have B4 := B2.trans ((hb3.trans (hb4.mono hb3.size)).mono B2.size)
    clear hown2 R1 hb3 hb4 B2
    obtain ⟨s1, c1, rfl⟩ := R1'.out.len
    obtain ⟨s2, c2, rfl⟩ := R2.out.len
    go_wp2_with fail
    go_loop [12] (fun i => ∃ k : Nat, k ≤ N ∧ i = .int .i64 (k : Nat)) (fun i => N - (intOf i).toNat)
    case atStart => exact ⟨0, Nat.zero_le _, rfl⟩
    obtain ⟨k, hk, rfl⟩ := hrel
    by_cases hlt : k < N
    · go_wp2_with fail
      go_round
      case rel => exact ⟨k + 1, by omega, by go_num⟩
      case measure => (simp [intOf] <;> omega)
    have hkN : k = N := by omega
    subst hkN
    go_wp2_with fail
    refine (CN _).mono ?_
    rintro e u5 ⟨rfl, hb5⟩
    have B5 := B4.trans (hb5.mono B4.size)
    have Q1 := Lib.hid (R1'.out.below hb5)
    have Q2 := Lib.hid (R2.out.below hb5)
    clear hb5 B4 R1' R2
    go_wp2_with fail
    refine (CA _).mono ?_
    rintro e u6 ⟨rfl, rfl⟩
    go_wp2_with fail
    refine (CS _).mono ?_
    rintro e u7 ⟨rfl, hb7⟩
    have B7 := B5.trans (hb7.mono B5.size)
    clear hb7 B5
    go_wp2_with fail
    go_ret
    exact ⟨rfl, B7⟩
  · go_enter Try.func63, Try.ntmps63
    go_wp2_with fail
    refine (CX _).mono ?_
    rintro e u1 ⟨rfl, hb1⟩
    go_wp2_with fail
    refine (CY _).mono ?_
    rintro e u2 ⟨rfl, hb2⟩
    have B2 := hb1.trans (hb2.mono hb1.size)
    clear hb1 hb2
    go_wp2_with fail
    refine (BX _).mono ?_
    rintro e u3 ⟨v1, rfl, hown1, hb3⟩
    rw [bitsL_len] at hown1
    have R1 := Lib.hid (ReadRow.of_owns (bitsL_len N X) hown1)
    clear hown1
    go_wp2_with fail
    refine (BY _).mono ?_
    rintro e u4 ⟨v2, rfl, hown2, hb4⟩
    rw [bitsL_len] at hown2
    have R2 := Lib.hid (ReadRow.of_owns (bitsL_len N Y) hown2)
    have R1' := Lib.hid (R1.out.below hb4)
    have B4 := B2.trans ((hb3.trans (hb4.mono hb3.size)).mono B2.size)
    clear hown2 R1 hb3 hb4 B2
    obtain ⟨s1, c1, rfl⟩ := R1'.out.len
    obtain ⟨s2, c2, rfl⟩ := R2.out.len
    go_wp2_with fail
    go_loop [12] (fun i => ∃ k : Nat, k ≤ N ∧ i = .int .i64 (k : Nat)) (fun i => N - (intOf i).toNat)
    case atStart => exact ⟨0, Nat.zero_le _, rfl⟩
    obtain ⟨k, hk, rfl⟩ := hrel
    by_cases hlt : k < N
    · go_wp2_with fail
      go_round
      case rel => exact ⟨k + 1, by omega, by go_num⟩
      case measure => (simp [intOf] <;> omega)
    have hkN : k = N := by omega
    subst hkN
    go_wp2_with fail
    refine (CN _).mono ?_
    rintro e u5 ⟨rfl, hb5⟩
    have B5 := B4.trans (hb5.mono B4.size)
    have Q1 := Lib.hid (R1'.out.below hb5)
    have Q2 := Lib.hid (R2.out.below hb5)
    clear hb5 B4 R1' R2
    go_wp2_with fail
    refine (CA _).mono ?_
    rintro e u6 ⟨rfl, rfl⟩
    go_wp2_with fail
    refine (CS _).mono ?_
    rintro e u7 ⟨rfl, hb7⟩
    have B7 := B5.trans (hb7.mono B5.size)
    clear hb7 B5
    go_wp2_with fail
    go_ret
    exact ⟨rfl, B7⟩

set_option maxRecDepth 100000 in
theorem rbin_lshr (a : Int) (x y : Nat) (hx : x < 18446744073709551616) (hy : y < 18446744073709551616) (w : World) :
    Calls Try.prog 63 #[.int .i64 13, .int .i64 a, .int .u64 x, .int .u64 y] w fun e w' => e = .returned (.int .u64 (shrN a (fitN a x) (amN a (fitN a y)) 0 : Nat)) ∧ Below w.heap.size w w' := by
  have CX := fun w => rfit_any a x hx w
  have CY := fun w => rfit_any a y hy w
  have BX := fun w => rbits_any a (fitN a x) (fitN_lt a x) w
  have BY := fun w => rbits_any a (fitN a y) (fitN_lt a y) w
  have CN := fun w => rneg_any a (fitN a x) (fitN_lt a x) w
  have CA := fun w => ramount_any a (fitN a y) w
  have CS := fun w => rshr_any a (fitN a x) (amN a (fitN a y)) 0 (fitN_lt a x) (amN_le _ _) (by decide) w
  generalize fitN a x = X at CS CX BX CN ⊢
  generalize fitN a y = Y at CA CS CY BY ⊢
  have hm := wid_le a
  generalize wid a = N at BX BY hm
  generalize negB a X = S at CN
  cases S
  · go_enter Try.func63, Try.ntmps63
    go_wp2_with fail
    refine (CX _).mono ?_
    rintro e u1 ⟨rfl, hb1⟩
    go_wp2_with fail
    refine (CY _).mono ?_
    rintro e u2 ⟨rfl, hb2⟩
    have B2 := hb1.trans (hb2.mono hb1.size)
    clear hb1 hb2
    go_wp2_with fail
    refine (BX _).mono ?_
    rintro e u3 ⟨v1, rfl, hown1, hb3⟩
    rw [bitsL_len] at hown1
    have R1 := Lib.hid (ReadRow.of_owns (bitsL_len N X) hown1)
    clear hown1
    go_wp2_with fail
    refine (BY _).mono ?_
    rintro e u4 ⟨v2, rfl, hown2, hb4⟩
    rw [bitsL_len] at hown2
    have R2 := Lib.hid (ReadRow.of_owns (bitsL_len N Y) hown2)
    have R1' := Lib.hid (R1.out.below hb4)
    have B4 := B2.trans ((hb3.trans (hb4.mono hb3.size)).mono B2.size)
    clear hown2 R1 hb3 hb4 B2
    obtain ⟨s1, c1, rfl⟩ := R1'.out.len
    obtain ⟨s2, c2, rfl⟩ := R2.out.len
    go_wp2_with fail
    go_loop [12] (fun i => ∃ k : Nat, k ≤ N ∧ i = .int .i64 (k : Nat)) (fun i => N - (intOf i).toNat)
    case atStart => exact ⟨0, Nat.zero_le _, rfl⟩
    obtain ⟨k, hk, rfl⟩ := hrel
    by_cases hlt : k < N
    · go_wp2_with fail
      go_round
      case rel => exact ⟨k + 1, by omega, by go_num⟩
      case measure => (simp [intOf] <;> omega)
    have hkN : k = N := by omega
    subst hkN
    go_wp2_with fail
    refine (CN _).mono ?_
    rintro e u5 ⟨rfl, hb5⟩
    have B5 := B4.trans (hb5.mono B4.size)
    have Q1 := Lib.hid (R1'.out.below hb5)
    have Q2 := Lib.hid (R2.out.below hb5)
    clear hb5 B4 R1' R2
    go_wp2_with fail
    refine (CA _).mono ?_
    rintro e u6 ⟨rfl, rfl⟩
    go_wp2_with fail
    refine (CS _).mono ?_
    rintro e u7 ⟨rfl, hb7⟩
    have B7 := B5.trans (hb7.mono B5.size)
    clear hb7 B5
    go_wp2_with fail
    go_ret
    exact ⟨rfl, B7⟩
  · go_enter Try.func63, Try.ntmps63
    go_wp2_with fail
    refine (CX _).mono ?_
    rintro e u1 ⟨rfl, hb1⟩
    go_wp2_with fail
    refine (CY _).mono ?_
    rintro e u2 ⟨rfl, hb2⟩
    have B2 := hb1.trans (hb2.mono hb1.size)
    clear hb1 hb2
    go_wp2_with fail
    refine (BX _).mono ?_
    rintro e u3 ⟨v1, rfl, hown1, hb3⟩
    rw [bitsL_len] at hown1
    have R1 := Lib.hid (ReadRow.of_owns (bitsL_len N X) hown1)
    clear hown1
    go_wp2_with fail
    refine (BY _).mono ?_
    rintro e u4 ⟨v2, rfl, hown2, hb4⟩
    rw [bitsL_len] at hown2
    have R2 := Lib.hid (ReadRow.of_owns (bitsL_len N Y) hown2)
    have R1' := Lib.hid (R1.out.below hb4)
    have B4 := B2.trans ((hb3.trans (hb4.mono hb3.size)).mono B2.size)
    clear hown2 R1 hb3 hb4 B2
    obtain ⟨s1, c1, rfl⟩ := R1'.out.len
    obtain ⟨s2, c2, rfl⟩ := R2.out.len
    go_wp2_with fail
    go_loop [12] (fun i => ∃ k : Nat, k ≤ N ∧ i = .int .i64 (k : Nat)) (fun i => N - (intOf i).toNat)
    case atStart => exact ⟨0, Nat.zero_le _, rfl⟩
    obtain ⟨k, hk, rfl⟩ := hrel
    by_cases hlt : k < N
    · go_wp2_with fail
      go_round
      case rel => exact ⟨k + 1, by omega, by go_num⟩
      case measure => (simp [intOf] <;> omega)
    have hkN : k = N := by omega
    subst hkN
    go_wp2_with fail
    refine (CN _).mono ?_
    rintro e u5 ⟨rfl, hb5⟩
    have B5 := B4.trans (hb5.mono B4.size)
    have Q1 := Lib.hid (R1'.out.below hb5)
    have Q2 := Lib.hid (R2.out.below hb5)
    clear hb5 B4 R1' R2
    go_wp2_with fail
    refine (CA _).mono ?_
    rintro e u6 ⟨rfl, rfl⟩
    go_wp2_with fail
    refine (CS _).mono ?_
    rintro e u7 ⟨rfl, hb7⟩
    have B7 := B5.trans (hb7.mono B5.size)
    clear hb7 B5
    go_wp2_with fail
    go_ret
    exact ⟨rfl, B7⟩

set_option maxRecDepth 100000 in
theorem rbin_ashr (a : Int) (x y : Nat) (hx : x < 18446744073709551616) (hy : y < 18446744073709551616) (w : World) :
    Calls Try.prog 63 #[.int .i64 14, .int .i64 a, .int .u64 x, .int .u64 y] w fun e w' => e = .returned (.int .u64 (shrN a (fitN a x) (amN a (fitN a y)) (b2n (negB a (fitN a x))) : Nat)) ∧ Below w.heap.size w w' := by
  have CX := fun w => rfit_any a x hx w
  have CY := fun w => rfit_any a y hy w
  have BX := fun w => rbits_any a (fitN a x) (fitN_lt a x) w
  have BY := fun w => rbits_any a (fitN a y) (fitN_lt a y) w
  have CN := fun w => rneg_any a (fitN a x) (fitN_lt a x) w
  have CA := fun w => ramount_any a (fitN a y) w
  have CS0 := fun w => rshr_any a (fitN a x) (amN a (fitN a y)) 0 (fitN_lt a x) (amN_le _ _) (by decide) w
  have CS1 := fun w => rshr_any a (fitN a x) (amN a (fitN a y)) 1 (fitN_lt a x) (amN_le _ _) (by decide) w
  generalize fitN a x = X at CS0 CS1 CX BX CN ⊢
  generalize fitN a y = Y at CA CS0 CS1 CY BY ⊢
  have hm := wid_le a
  generalize wid a = N at BX BY hm
  generalize negB a X = S at CN ⊢
  cases S
  · go_enter Try.func63, Try.ntmps63
    go_wp2_with fail
    refine (CX _).mono ?_
    rintro e u1 ⟨rfl, hb1⟩
    go_wp2_with fail
    refine (CY _).mono ?_
    rintro e u2 ⟨rfl, hb2⟩
    have B2 := hb1.trans (hb2.mono hb1.size)
    clear hb1 hb2
    go_wp2_with fail
    refine (BX _).mono ?_
    rintro e u3 ⟨v1, rfl, hown1, hb3⟩
    rw [bitsL_len] at hown1
    have R1 := Lib.hid (ReadRow.of_owns (bitsL_len N X) hown1)
    clear hown1
    go_wp2_with fail
    refine (BY _).mono ?_
    rintro e u4 ⟨v2, rfl, hown2, hb4⟩
    rw [bitsL_len] at hown2
    have R2 := Lib.hid (ReadRow.of_owns (bitsL_len N Y) hown2)
    have R1' := Lib.hid (R1.out.below hb4)
    have B4 := B2.trans ((hb3.trans (hb4.mono hb3.size)).mono B2.size)
    clear hown2 R1 hb3 hb4 B2
    obtain ⟨s1, c1, rfl⟩ := R1'.out.len
    obtain ⟨s2, c2, rfl⟩ := R2.out.len
    go_wp2_with fail
    go_loop [12] (fun i => ∃ k : Nat, k ≤ N ∧ i = .int .i64 (k : Nat)) (fun i => N - (intOf i).toNat)
    case atStart => exact ⟨0, Nat.zero_le _, rfl⟩
    obtain ⟨k, hk, rfl⟩ := hrel
    by_cases hlt : k < N
    · go_wp2_with fail
      go_round
      case rel => exact ⟨k + 1, by omega, by go_num⟩
      case measure => (simp [intOf] <;> omega)
    have hkN : k = N := by omega
    subst hkN
    go_wp2_with fail
    refine (CN _).mono ?_
    rintro e u5 ⟨rfl, hb5⟩
    have B5 := B4.trans (hb5.mono B4.size)
    have Q1 := Lib.hid (R1'.out.below hb5)
    have Q2 := Lib.hid (R2.out.below hb5)
    clear hb5 B4 R1' R2
    go_wp2_with fail
    refine (CA _).mono ?_
    rintro e u6 ⟨rfl, rfl⟩
    go_wp2_with fail
    refine (CS0 _).mono ?_
    rintro e u7 ⟨rfl, hb7⟩
    have B7 := B5.trans (hb7.mono B5.size)
    clear hb7 B5
    go_wp2_with fail
    go_ret
    exact ⟨rfl, B7⟩
  · go_enter Try.func63, Try.ntmps63
    go_wp2_with fail
    refine (CX _).mono ?_
    rintro e u1 ⟨rfl, hb1⟩
    go_wp2_with fail
    refine (CY _).mono ?_
    rintro e u2 ⟨rfl, hb2⟩
    have B2 := hb1.trans (hb2.mono hb1.size)
    clear hb1 hb2
    go_wp2_with fail
    refine (BX _).mono ?_
    rintro e u3 ⟨v1, rfl, hown1, hb3⟩
    rw [bitsL_len] at hown1
    have R1 := Lib.hid (ReadRow.of_owns (bitsL_len N X) hown1)
    clear hown1
    go_wp2_with fail
    refine (BY _).mono ?_
    rintro e u4 ⟨v2, rfl, hown2, hb4⟩
    rw [bitsL_len] at hown2
    have R2 := Lib.hid (ReadRow.of_owns (bitsL_len N Y) hown2)
    have R1' := Lib.hid (R1.out.below hb4)
    have B4 := B2.trans ((hb3.trans (hb4.mono hb3.size)).mono B2.size)
    clear hown2 R1 hb3 hb4 B2
    obtain ⟨s1, c1, rfl⟩ := R1'.out.len
    obtain ⟨s2, c2, rfl⟩ := R2.out.len
    go_wp2_with fail
    go_loop [12] (fun i => ∃ k : Nat, k ≤ N ∧ i = .int .i64 (k : Nat)) (fun i => N - (intOf i).toNat)
    case atStart => exact ⟨0, Nat.zero_le _, rfl⟩
    obtain ⟨k, hk, rfl⟩ := hrel
    by_cases hlt : k < N
    · go_wp2_with fail
      go_round
      case rel => exact ⟨k + 1, by omega, by go_num⟩
      case measure => (simp [intOf] <;> omega)
    have hkN : k = N := by omega
    subst hkN
    go_wp2_with fail
    refine (CN _).mono ?_
    rintro e u5 ⟨rfl, hb5⟩
    have B5 := B4.trans (hb5.mono B4.size)
    have Q1 := Lib.hid (R1'.out.below hb5)
    have Q2 := Lib.hid (R2.out.below hb5)
    clear hb5 B4 R1' R2
    go_wp2_with fail
    refine (CA _).mono ?_
    rintro e u6 ⟨rfl, rfl⟩
    go_wp2_with fail
    refine (CS1 _).mono ?_
    rintro e u7 ⟨rfl, hb7⟩
    have B7 := B5.trans (hb7.mono B5.size)
    clear hb7 B5
    go_wp2_with fail
    go_ret
    exact ⟨rfl, B7⟩
end Go.Proofs.Ythkdojgagmaecab
