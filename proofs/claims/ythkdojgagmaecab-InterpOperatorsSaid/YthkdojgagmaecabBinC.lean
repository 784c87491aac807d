/- Layer 1's reference: Binary at the comparisons. -/
import Derived.Test.YthkdojgagmaecabBin
namespace Go.Proofs.Ythkdojgagmaecab
open Go.RowKit

set_option maxRecDepth 100000 in
theorem rbin_eq (a : Int) (x y : Nat) (hx : x < 18446744073709551616) (hy : y < 18446744073709551616) (w : World) :
    Calls Try.prog 63 #[.int .i64 15, .int .i64 a, .int .u64 x, .int .u64 y] w fun e w' => e = .returned (.int .u64 (b2n (cmpB 15 a (fitN a x) (fitN a y)) : Nat)) ∧ Below w.heap.size w w' := by
  have CX := fun w => rfit_any a x hx w
  have CY := fun w => rfit_any a y hy w
  have BX := fun w => rbits_any a (fitN a x) (fitN_lt a x) w
  have BY := fun w => rbits_any a (fitN a y) (fitN_lt a y) w
  have CN := fun w => rneg_any a (fitN a x) (fitN_lt a x) w
  have CB := fun (b : Bool) (w : World) => rbit_any b w
  generalize fitN a x = X at CX BX CN ⊢
  generalize fitN a y = Y at CY BY ⊢
  have hm := wid_le a
  generalize wid a = N at BX BY hm
  generalize negB a X = S at CN
  cases S
  · go_enter Try.func63, Try.ntmps63
    go_wp2_with fail
    refine (CX _).mono ?_
    rintro e u1 ⟨rfl, hb1⟩
    go_wp2_with fail
    refine (CY _).mono ?_
    rintro e u2 ⟨rfl, hb2⟩
    have B2 := hb1.trans (hb2.mono hb1.size)
    clear hb1 hb2
    go_wp2_with fail
    refine (BX _).mono ?_
    rintro e u3 ⟨v1, rfl, hown1, hb3⟩
    rw [bitsL_len] at hown1
    have R1 := Lib.hid (ReadRow.of_owns (bitsL_len N X) hown1)
    clear hown1
    go_wp2_with fail
    refine (BY _).mono ?_
    rintro e u4 ⟨v2, rfl, hown2, hb4⟩
    rw [bitsL_len] at hown2
    have R2 := Lib.hid (ReadRow.of_owns (bitsL_len N Y) hown2)
    have R1' := Lib.hid (R1.out.below hb4)
    have B4 := B2.trans ((hb3.trans (hb4.mono hb3.size)).mono B2.size)
    clear hown2 R1 hb3 hb4 B2
    obtain ⟨s1, c1, rfl⟩ := R1'.out.len
    obtain ⟨s2, c2, rfl⟩ := R2.out.len
    go_wp2_with fail
    go_loop [12] (fun i => ∃ k : Nat, k ≤ N ∧ i = .int .i64 (k : Nat)) (fun i => N - (intOf i).toNat)
    case atStart => exact ⟨0, Nat.zero_le _, rfl⟩
    obtain ⟨k, hk, rfl⟩ := hrel
    by_cases hlt : k < N
    · go_wp2_with fail
      go_round
      case rel => exact ⟨k + 1, by omega, by go_num⟩
      case measure => (simp [intOf] <;> omega)
    have hkN : k = N := by omega
    subst hkN
    go_wp2_with fail
    refine (CN _).mono ?_
    rintro e u5 ⟨rfl, hb5⟩
    have B5 := B4.trans (hb5.mono B4.size)
    have Q1 := Lib.hid (R1'.out.below hb5)
    have Q2 := Lib.hid (R2.out.below hb5)
    clear hb5 B4 R1' R2
    go_wp2_with fail
    refine (CB _ _).mono ?_
    rintro e u6 ⟨rfl, rfl⟩
    go_wp2_with fail
    go_ret
    exact ⟨by first | rfl | (simp [cmpB]; done) | (simp [cmpB, go_sem]; done) | (congr 1; simp [cmpB]), B5⟩
  · go_enter Try.func63, Try.ntmps63
    go_wp2_with fail
    refine (CX _).mono ?_
    rintro e u1 ⟨rfl, hb1⟩
    go_wp2_with fail
    refine (CY _).mono ?_
    rintro e u2 ⟨rfl, hb2⟩
    have B2 := hb1.trans (hb2.mono hb1.size)
    clear hb1 hb2
    go_wp2_with fail
    refine (BX _).mono ?_
    rintro e u3 ⟨v1, rfl, hown1, hb3⟩
    rw [bitsL_len] at hown1
    have R1 := Lib.hid (ReadRow.of_owns (bitsL_len N X) hown1)
    clear hown1
    go_wp2_with fail
    refine (BY _).mono ?_
    rintro e u4 ⟨v2, rfl, hown2, hb4⟩
    rw [bitsL_len] at hown2
    have R2 := Lib.hid (ReadRow.of_owns (bitsL_len N Y) hown2)
    have R1' := Lib.hid (R1.out.below hb4)
    have B4 := B2.trans ((hb3.trans (hb4.mono hb3.size)).mono B2.size)
    clear hown2 R1 hb3 hb4 B2
    obtain ⟨s1, c1, rfl⟩ := R1'.out.len
    obtain ⟨s2, c2, rfl⟩ := R2.out.len
    go_wp2_with fail
    go_loop [12] (fun i => ∃ k : Nat, k ≤ N ∧ i = .int .i64 (k : Nat)) (fun i => N - (intOf i).toNat)
    case atStart => exact ⟨0, Nat.zero_le _, rfl⟩
    obtain ⟨k, hk, rfl⟩ := hrel
    by_cases hlt : k < N
    · go_wp2_with fail
      go_round
      case rel => exact ⟨k + 1, by omega, by go_num⟩
      case measure => (simp [intOf] <;> omega)
    have hkN : k = N := by omega
    subst hkN
    go_wp2_with fail
    refine (CN _).mono ?_
    rintro e u5 ⟨rfl, hb5⟩
    have B5 := B4.trans (hb5.mono B4.size)
    have Q1 := Lib.hid (R1'.out.below hb5)
    have Q2 := Lib.hid (R2.out.below hb5)
    clear hb5 B4 R1' R2
    go_wp2_with fail
    refine (CB _ _).mono ?_
    rintro e u6 ⟨rfl, rfl⟩
    go_wp2_with fail
    go_ret
    exact ⟨by first | rfl | (simp [cmpB]; done) | (simp [cmpB, go_sem]; done) | (congr 1; simp [cmpB]), B5⟩

set_option maxRecDepth 100000 in
theorem rbin_ne (a : Int) (x y : Nat) (hx : x < 18446744073709551616) (hy : y < 18446744073709551616) (w : World) :
    Calls Try.prog 63 #[.int .i64 16, .int .i64 a, .int .u64 x, .int .u64 y] w fun e w' => e = .returned (.int .u64 (b2n (cmpB 16 a (fitN a x) (fitN a y)) : Nat)) ∧ Below w.heap.size w w' := by
  have CX := fun w => rfit_any a x hx w
  have CY := fun w => rfit_any a y hy w
  have BX := fun w => rbits_any a (fitN a x) (fitN_lt a x) w
  have BY := fun w => rbits_any a (fitN a y) (fitN_lt a y) w
  have CN := fun w => rneg_any a (fitN a x) (fitN_lt a x) w
  have CB := fun (b : Bool) (w : World) => rbit_any b w
  generalize fitN a x = X at CX BX CN ⊢
  generalize fitN a y = Y at CY BY ⊢
  have hm := wid_le a
  generalize wid a = N at BX BY hm
  generalize negB a X = S at CN
  cases S
  · go_enter Try.func63, Try.ntmps63
    go_wp2_with fail
    refine (CX _).mono ?_
    rintro e u1 ⟨rfl, hb1⟩
    go_wp2_with fail
    refine (CY _).mono ?_
    rintro e u2 ⟨rfl, hb2⟩
    have B2 := hb1.trans (hb2.mono hb1.size)
    clear hb1 hb2
    go_wp2_with fail
    refine (BX _).mono ?_
    rintro e u3 ⟨v1, rfl, hown1, hb3⟩
    rw [bitsL_len] at hown1
    have R1 := Lib.hid (ReadRow.of_owns (bitsL_len N X) hown1)
    clear hown1
    go_wp2_with fail
    refine (BY _).mono ?_
    rintro e u4 ⟨v2, rfl, hown2, hb4⟩
    rw [bitsL_len] at hown2
    have R2 := Lib.hid (ReadRow.of_owns (bitsL_len N Y) hown2)
    have R1' := Lib.hid (R1.out.below hb4)
    have B4 := B2.trans ((hb3.trans (hb4.mono hb3.size)).mono B2.size)
    clear hown2 R1 hb3 hb4 B2
    obtain ⟨s1, c1, rfl⟩ := R1'.out.len
    obtain ⟨s2, c2, rfl⟩ := R2.out.len
    go_wp2_with fail
    go_loop [12] (fun i => ∃ k : Nat, k ≤ N ∧ i = .int .i64 (k : Nat)) (fun i => N - (intOf i).toNat)
    case atStart => exact ⟨0, Nat.zero_le _, rfl⟩
    obtain ⟨k, hk, rfl⟩ := hrel
    by_cases hlt : k < N
    · go_wp2_with fail
      go_round
      case rel => exact ⟨k + 1, by omega, by go_num⟩
      case measure => (simp [intOf] <;> omega)
    have hkN : k = N := by omega
    subst hkN
    go_wp2_with fail
    refine (CN _).mono ?_
    rintro e u5 ⟨rfl, hb5⟩
    have B5 := B4.trans (hb5.mono B4.size)
    have Q1 := Lib.hid (R1'.out.below hb5)
    have Q2 := Lib.hid (R2.out.below hb5)
    clear hb5 B4 R1' R2
    go_wp2_with fail
    refine (CB _ _).mono ?_
    rintro e u6 ⟨rfl, rfl⟩
    go_wp2_with fail
    go_ret
    exact ⟨by first | rfl | (simp [cmpB]; done) | (simp [cmpB, go_sem]; done) | (congr 1; simp [cmpB]), B5⟩
  · go_enter Try.func63, Try.ntmps63
    go_wp2_with fail
    refine (CX _).mono ?_
    rintro e u1 ⟨rfl, hb1⟩
    go_wp2_with fail
    refine (CY _).mono ?_
    rintro e u2 ⟨rfl, hb2⟩
    have B2 := hb1.trans (hb2.mono hb1.size)
    clear hb1 hb2
    go_wp2_with fail
    refine (BX _).mono ?_
    rintro e u3 ⟨v1, rfl, hown1, hb3⟩
    rw [bitsL_len] at hown1
    have R1 := Lib.hid (ReadRow.of_owns (bitsL_len N X) hown1)
    clear hown1
    go_wp2_with fail
    refine (BY _).mono ?_
    rintro e u4 ⟨v2, rfl, hown2, hb4⟩
    rw [bitsL_len] at hown2
    have R2 := Lib.hid (ReadRow.of_owns (bitsL_len N Y) hown2)
    have R1' := Lib.hid (R1.out.below hb4)
    have B4 := B2.trans ((hb3.trans (hb4.mono hb3.size)).mono B2.size)
    clear hown2 R1 hb3 hb4 B2
    obtain ⟨s1, c1, rfl⟩ := R1'.out.len
    obtain ⟨s2, c2, rfl⟩ := R2.out.len
    go_wp2_with fail
    go_loop [12] (fun i => ∃ k : Nat, k ≤ N ∧ i = .int .i64 (k : Nat)) (fun i => N - (intOf i).toNat)
    case atStart => exact ⟨0, Nat.zero_le _, rfl⟩
    obtain ⟨k, hk, rfl⟩ := hrel
    by_cases hlt : k < N
    · go_wp2_with fail
      go_round
      case rel => exact ⟨k + 1, by omega, by go_num⟩
      case measure => (simp [intOf] <;> omega)
    have hkN : k = N := by omega
    subst hkN
    go_wp2_with fail
    refine (CN _).mono ?_
    rintro e u5 ⟨rfl, hb5⟩
    have B5 := B4.trans (hb5.mono B4.size)
    have Q1 := Lib.hid (R1'.out.below hb5)
    have Q2 := Lib.hid (R2.out.below hb5)
    clear hb5 B4 R1' R2
    go_wp2_with fail
    refine (CB _ _).mono ?_
    rintro e u6 ⟨rfl, rfl⟩
    go_wp2_with fail
    go_ret
    exact ⟨by first | rfl | (simp [cmpB]; done) | (simp [cmpB, go_sem]; done) | (congr 1; simp [cmpB]), B5⟩

set_option maxRecDepth 100000 in
theorem rbin_ult (a : Int) (x y : Nat) (hx : x < 18446744073709551616) (hy : y < 18446744073709551616) (w : World) :
    Calls Try.prog 63 #[.int .i64 17, .int .i64 a, .int .u64 x, .int .u64 y] w fun e w' => e = .returned (.int .u64 (b2n (cmpB 17 a (fitN a x) (fitN a y)) : Nat)) ∧ Below w.heap.size w w' := by
  have CX := fun w => rfit_any a x hx w
  have CY := fun w => rfit_any a y hy w
  have BX := fun w => rbits_any a (fitN a x) (fitN_lt a x) w
  have BY := fun w => rbits_any a (fitN a y) (fitN_lt a y) w
  have CN := fun w => rneg_any a (fitN a x) (fitN_lt a x) w
  have CB := fun (b : Bool) (w : World) => rbit_any b w
  generalize fitN a x = X at CX BX CN ⊢
  generalize fitN a y = Y at CY BY ⊢
  have hm := wid_le a
  generalize wid a = N at BX BY hm
  generalize negB a X = S at CN
  cases S
  · go_enter Try.func63, Try.ntmps63
    go_wp2_with fail
    refine (CX _).mono ?_
    rintro e u1 ⟨rfl, hb1⟩
    go_wp2_with fail
    refine (CY _).mono ?_
    rintro e u2 ⟨rfl, hb2⟩
    have B2 := hb1.trans (hb2.mono hb1.size)
    clear hb1 hb2
    go_wp2_with fail
    refine (BX _).mono ?_
    rintro e u3 ⟨v1, rfl, hown1, hb3⟩
    rw [bitsL_len] at hown1
    have R1 := Lib.hid (ReadRow.of_owns (bitsL_len N X) hown1)
    clear hown1
    go_wp2_with fail
    refine (BY _).mono ?_
    rintro e u4 ⟨v2, rfl, hown2, hb4⟩
    rw [bitsL_len] at hown2
    have R2 := Lib.hid (ReadRow.of_owns (bitsL_len N Y) hown2)
    have R1' := Lib.hid (R1.out.below hb4)
    have B4 := B2.trans ((hb3.trans (hb4.mono hb3.size)).mono B2.size)
    clear hown2 R1 hb3 hb4 B2
    obtain ⟨s1, c1, rfl⟩ := R1'.out.len
    obtain ⟨s2, c2, rfl⟩ := R2.out.len
    go_wp2_with fail
    go_loop [12] (fun i => ∃ k : Nat, k ≤ N ∧ i = .int .i64 (k : Nat)) (fun i => N - (intOf i).toNat)
    case atStart => exact ⟨0, Nat.zero_le _, rfl⟩
    obtain ⟨k, hk, rfl⟩ := hrel
    by_cases hlt : k < N
    · go_wp2_with fail
      go_round
      case rel => exact ⟨k + 1, by omega, by go_num⟩
      case measure => (simp [intOf] <;> omega)
    have hkN : k = N := by omega
    subst hkN
    go_wp2_with fail
    refine (CN _).mono ?_
    rintro e u5 ⟨rfl, hb5⟩
    have B5 := B4.trans (hb5.mono B4.size)
    have Q1 := Lib.hid (R1'.out.below hb5)
    have Q2 := Lib.hid (R2.out.below hb5)
    clear hb5 B4 R1' R2
    go_wp2_with fail
    refine (CB _ _).mono ?_
    rintro e u6 ⟨rfl, rfl⟩
    go_wp2_with fail
    go_ret
    exact ⟨by first | rfl | (simp [cmpB]; done) | (simp [cmpB, go_sem]; done) | (congr 1; simp [cmpB]), B5⟩
  · go_enter Try.func63, Try.ntmps63
    go_wp2_with fail
    refine (CX _).mono ?_
    rintro e u1 ⟨rfl, hb1⟩
    go_wp2_with fail
    refine (CY _).mono ?_
    rintro e u2 ⟨rfl, hb2⟩
    have B2 := hb1.trans (hb2.mono hb1.size)
    clear hb1 hb2
    go_wp2_with fail
    refine (BX _).mono ?_
    rintro e u3 ⟨v1, rfl, hown1, hb3⟩
    rw [bitsL_len] at hown1
    have R1 := Lib.hid (ReadRow.of_owns (bitsL_len N X) hown1)
    clear hown1
    go_wp2_with fail
    refine (BY _).mono ?_
    rintro e u4 ⟨v2, rfl, hown2, hb4⟩
    rw [bitsL_len] at hown2
    have R2 := Lib.hid (ReadRow.of_owns (bitsL_len N Y) hown2)
    have R1' := Lib.hid (R1.out.below hb4)
    have B4 := B2.trans ((hb3.trans (hb4.mono hb3.size)).mono B2.size)
    clear hown2 R1 hb3 hb4 B2
    obtain ⟨s1, c1, rfl⟩ := R1'.out.len
    obtain ⟨s2, c2, rfl⟩ := R2.out.len
    go_wp2_with fail
    go_loop [12] (fun i => ∃ k : Nat, k ≤ N ∧ i = .int .i64 (k : Nat)) (fun i => N - (intOf i).toNat)
    case atStart => exact ⟨0, Nat.zero_le _, rfl⟩
    obtain ⟨k, hk, rfl⟩ := hrel
    by_cases hlt : k < N
    · go_wp2_with fail
      go_round
      case rel => exact ⟨k + 1, by omega, by go_num⟩
      case measure => (simp [intOf] <;> omega)
    have hkN : k = N := by omega
    subst hkN
    go_wp2_with fail
    refine (CN _).mono ?_
    rintro e u5 ⟨rfl, hb5⟩
    have B5 := B4.trans (hb5.mono B4.size)
    have Q1 := Lib.hid (R1'.out.below hb5)
    have Q2 := Lib.hid (R2.out.below hb5)
    clear hb5 B4 R1' R2
    go_wp2_with fail
    refine (CB _ _).mono ?_
    rintro e u6 ⟨rfl, rfl⟩
    go_wp2_with fail
    go_ret
    exact ⟨by first | rfl | (simp [cmpB]; done) | (simp [cmpB, go_sem]; done) | (congr 1; simp [cmpB]), B5⟩

set_option maxRecDepth 100000 in
theorem rbin_ule (a : Int) (x y : Nat) (hx : x < 18446744073709551616) (hy : y < 18446744073709551616) (w : World) :
    Calls Try.prog 63 #[.int .i64 18, .int .i64 a, .int .u64 x, .int .u64 y] w fun e w' => e = .returned (.int .u64 (b2n (cmpB 18 a (fitN a x) (fitN a y)) : Nat)) ∧ Below w.heap.size w w' := by
  have CX := fun w => rfit_any a x hx w
  have CY := fun w => rfit_any a y hy w
  have BX := fun w => rbits_any a (fitN a x) (fitN_lt a x) w
  have BY := fun w => rbits_any a (fitN a y) (fitN_lt a y) w
  have CN := fun w => rneg_any a (fitN a x) (fitN_lt a x) w
  have CB := fun (b : Bool) (w : World) => rbit_any b w
  generalize fitN a x = X at CX BX CN ⊢
  generalize fitN a y = Y at CY BY ⊢
  have hm := wid_le a
  generalize wid a = N at BX BY hm
  generalize negB a X = S at CN
  cases S
  · go_enter Try.func63, Try.ntmps63
    go_wp2_with fail
    refine (CX _).mono ?_
    rintro e u1 ⟨rfl, hb1⟩
    go_wp2_with fail
    refine (CY _).mono ?_
    rintro e u2 ⟨rfl, hb2⟩
    have B2 := hb1.trans (hb2.mono hb1.size)
    clear hb1 hb2
    go_wp2_with fail
    refine (BX _).mono ?_
    rintro e u3 ⟨v1, rfl, hown1, hb3⟩
    rw [bitsL_len] at hown1
    have R1 := Lib.hid (ReadRow.of_owns (bitsL_len N X) hown1)
    clear hown1
    go_wp2_with fail
    refine (BY _).mono ?_
    rintro e u4 ⟨v2, rfl, hown2, hb4⟩
    rw [bitsL_len] at hown2
    have R2 := Lib.hid (ReadRow.of_owns (bitsL_len N Y) hown2)
    have R1' := Lib.hid (R1.out.below hb4)
    have B4 := B2.trans ((hb3.trans (hb4.mono hb3.size)).mono B2.size)
    clear hown2 R1 hb3 hb4 B2
    obtain ⟨s1, c1, rfl⟩ := R1'.out.len
    obtain ⟨s2, c2, rfl⟩ := R2.out.len
    go_wp2_with fail
    go_loop [12] (fun i => ∃ k : Nat, k ≤ N ∧ i = .int .i64 (k : Nat)) (fun i => N - (intOf i).toNat)
    case atStart => exact ⟨0, Nat.zero_le _, rfl⟩
    obtain ⟨k, hk, rfl⟩ := hrel
    by_cases hlt : k < N
    · go_wp2_with fail
      go_round
      case rel => exact ⟨k + 1, by omega, by go_num⟩
      case measure => (simp [intOf] <;> omega)
    have hkN : k = N := by omega
    subst hkN
    go_wp2_with fail
    refine (CN _).mono ?_
    rintro e u5 ⟨rfl, hb5⟩
    have B5 := B4.trans (hb5.mono B4.size)
    have Q1 := Lib.hid (R1'.out.below hb5)
    have Q2 := Lib.hid (R2.out.below hb5)
    clear hb5 B4 R1' R2
    go_wp2_with fail
    refine (CB _ _).mono ?_
    rintro e u6 ⟨rfl, rfl⟩
    go_wp2_with fail
    go_ret
    exact ⟨by first | rfl | (simp [cmpB]; done) | (simp [cmpB, go_sem]; done) | (congr 1; simp [cmpB]), B5⟩
  · go_enter Try.func63, Try.ntmps63
    go_wp2_with fail
    refine (CX _).mono ?_
    rintro e u1 ⟨rfl, hb1⟩
    go_wp2_with fail
    refine (CY _).mono ?_
    rintro e u2 ⟨rfl, hb2⟩
    have B2 := hb1.trans (hb2.mono hb1.size)
    clear hb1 hb2
    go_wp2_with fail
    refine (BX _).mono ?_
    rintro e u3 ⟨v1, rfl, hown1, hb3⟩
    rw [bitsL_len] at hown1
    have R1 := Lib.hid (ReadRow.of_owns (bitsL_len N X) hown1)
    clear hown1
    go_wp2_with fail
    refine (BY _).mono ?_
    rintro e u4 ⟨v2, rfl, hown2, hb4⟩
    rw [bitsL_len] at hown2
    have R2 := Lib.hid (ReadRow.of_owns (bitsL_len N Y) hown2)
    have R1' := Lib.hid (R1.out.below hb4)
    have B4 := B2.trans ((hb3.trans (hb4.mono hb3.size)).mono B2.size)
    clear hown2 R1 hb3 hb4 B2
    obtain ⟨s1, c1, rfl⟩ := R1'.out.len
    obtain ⟨s2, c2, rfl⟩ := R2.out.len
    go_wp2_with fail
    go_loop [12] (fun i => ∃ k : Nat, k ≤ N ∧ i = .int .i64 (k : Nat)) (fun i => N - (intOf i).toNat)
    case atStart => exact ⟨0, Nat.zero_le _, rfl⟩
    obtain ⟨k, hk, rfl⟩ := hrel
    by_cases hlt : k < N
    · go_wp2_with fail
      go_round
      case rel => exact ⟨k + 1, by omega, by go_num⟩
      case measure => (simp [intOf] <;> omega)
    have hkN : k = N := by omega
    subst hkN
    go_wp2_with fail
    refine (CN _).mono ?_
    rintro e u5 ⟨rfl, hb5⟩
    have B5 := B4.trans (hb5.mono B4.size)
    have Q1 := Lib.hid (R1'.out.below hb5)
    have Q2 := Lib.hid (R2.out.below hb5)
    clear hb5 B4 R1' R2
    go_wp2_with fail
    refine (CB _ _).mono ?_
    rintro e u6 ⟨rfl, rfl⟩
    go_wp2_with fail
    go_ret
    exact ⟨by first | rfl | (simp [cmpB]; done) | (simp [cmpB, go_sem]; done) | (congr 1; simp [cmpB]), B5⟩

set_option maxRecDepth 100000 in
theorem rbin_slt (a : Int) (x y : Nat) (hx : x < 18446744073709551616) (hy : y < 18446744073709551616) (w : World) :
    Calls Try.prog 63 #[.int .i64 19, .int .i64 a, .int .u64 x, .int .u64 y] w fun e w' => e = .returned (.int .u64 (b2n (cmpB 19 a (fitN a x) (fitN a y)) : Nat)) ∧ Below w.heap.size w w' := by
  have CX := fun w => rfit_any a x hx w
  have CY := fun w => rfit_any a y hy w
  have BX := fun w => rbits_any a (fitN a x) (fitN_lt a x) w
  have BY := fun w => rbits_any a (fitN a y) (fitN_lt a y) w
  have CN := fun w => rneg_any a (fitN a x) (fitN_lt a x) w
  have CB := fun (b : Bool) (w : World) => rbit_any b w
  have S1 := fun w => rsgn_any a (fitN a x) (fitN_lt a x) w
  have S2 := fun w => rsgn_any a (fitN a y) (fitN_lt a y) w
  generalize fitN a x = X at S1 CX BX CN ⊢
  generalize fitN a y = Y at S2 CY BY ⊢
  have hm := wid_le a
  generalize wid a = N at BX BY hm
  generalize negB a X = S at CN
  cases S
  · go_enter Try.func63, Try.ntmps63
    go_wp2_with fail
    refine (CX _).mono ?_
    rintro e u1 ⟨rfl, hb1⟩
    go_wp2_with fail
    refine (CY _).mono ?_
    rintro e u2 ⟨rfl, hb2⟩
    have B2 := hb1.trans (hb2.mono hb1.size)
    clear hb1 hb2
    go_wp2_with fail
    refine (BX _).mono ?_
    rintro e u3 ⟨v1, rfl, hown1, hb3⟩
    rw [bitsL_len] at hown1
    have R1 := Lib.hid (ReadRow.of_owns (bitsL_len N X) hown1)
    clear hown1
    go_wp2_with fail
    refine (BY _).mono ?_
    rintro e u4 ⟨v2, rfl, hown2, hb4⟩
    rw [bitsL_len] at hown2
    have R2 := Lib.hid (ReadRow.of_owns (bitsL_len N Y) hown2)
    have R1' := Lib.hid (R1.out.below hb4)
    have B4 := B2.trans ((hb3.trans (hb4.mono hb3.size)).mono B2.size)
    clear hown2 R1 hb3 hb4 B2
    obtain ⟨s1, c1, rfl⟩ := R1'.out.len
    obtain ⟨s2, c2, rfl⟩ := R2.out.len
    go_wp2_with fail
    go_loop [12] (fun i => ∃ k : Nat, k ≤ N ∧ i = .int .i64 (k : Nat)) (fun i => N - (intOf i).toNat)
    case atStart => exact ⟨0, Nat.zero_le _, rfl⟩
    obtain ⟨k, hk, rfl⟩ := hrel
    by_cases hlt : k < N
    · go_wp2_with fail
      go_round
      case rel => exact ⟨k + 1, by omega, by go_num⟩
      case measure => (simp [intOf] <;> omega)
    have hkN : k = N := by omega
    subst hkN
    go_wp2_with fail
    refine (CN _).mono ?_
    rintro e u5 ⟨rfl, hb5⟩
    have B5 := B4.trans (hb5.mono B4.size)
    have Q1 := Lib.hid (R1'.out.below hb5)
    have Q2 := Lib.hid (R2.out.below hb5)
    clear hb5 B4 R1' R2
    go_wp2_with fail
    refine (S1 _).mono ?_
    rintro e u6 ⟨rfl, hb6⟩
    have B6 := B5.trans (hb6.mono B5.size)
    clear hb6 B5
    go_wp2_with fail
    refine (S2 _).mono ?_
    rintro e u7 ⟨rfl, hb7⟩
    have B7 := B6.trans (hb7.mono B6.size)
    clear hb7 B6
    go_wp2_with fail
    refine (CB _ _).mono ?_
    rintro e u8 ⟨rfl, rfl⟩
    go_wp2_with fail
    go_ret
    exact ⟨by first | rfl | (simp [cmpB]; done) | (simp [cmpB, go_sem]; done) | (congr 1; simp [cmpB]), B7⟩
  · go_enter Try.func63, Try.ntmps63
    go_wp2_with fail
    refine (CX _).mono ?_
    rintro e u1 ⟨rfl, hb1⟩
    go_wp2_with fail
    refine (CY _).mono ?_
    rintro e u2 ⟨rfl, hb2⟩
    have B2 := hb1.trans (hb2.mono hb1.size)
    clear hb1 hb2
    go_wp2_with fail
    refine (BX _).mono ?_
    rintro e u3 ⟨v1, rfl, hown1, hb3⟩
    rw [bitsL_len] at hown1
    have R1 := Lib.hid (ReadRow.of_owns (bitsL_len N X) hown1)
    clear hown1
    go_wp2_with fail
    refine (BY _).mono ?_
    rintro e u4 ⟨v2, rfl, hown2, hb4⟩
    rw [bitsL_len] at hown2
    have R2 := Lib.hid (ReadRow.of_owns (bitsL_len N Y) hown2)
    have R1' := Lib.hid (R1.out.below hb4)
    have B4 := B2.trans ((hb3.trans (hb4.mono hb3.size)).mono B2.size)
    clear hown2 R1 hb3 hb4 B2
    obtain ⟨s1, c1, rfl⟩ := R1'.out.len
    obtain ⟨s2, c2, rfl⟩ := R2.out.len
    go_wp2_with fail
    go_loop [12] (fun i => ∃ k : Nat, k ≤ N ∧ i = .int .i64 (k : Nat)) (fun i => N - (intOf i).toNat)
    case atStart => exact ⟨0, Nat.zero_le _, rfl⟩
    obtain ⟨k, hk, rfl⟩ := hrel
    by_cases hlt : k < N
    · go_wp2_with fail
      go_round
      case rel => exact ⟨k + 1, by omega, by go_num⟩
      case measure => (simp [intOf] <;> omega)
    have hkN : k = N := by omega
    subst hkN
    go_wp2_with fail
    refine (CN _).mono ?_
    rintro e u5 ⟨rfl, hb5⟩
    have B5 := B4.trans (hb5.mono B4.size)
    have Q1 := Lib.hid (R1'.out.below hb5)
    have Q2 := Lib.hid (R2.out.below hb5)
    clear hb5 B4 R1' R2
    go_wp2_with fail
    refine (S1 _).mono ?_
    rintro e u6 ⟨rfl, hb6⟩
    have B6 := B5.trans (hb6.mono B5.size)
    clear hb6 B5
    go_wp2_with fail
    refine (S2 _).mono ?_
    rintro e u7 ⟨rfl, hb7⟩
    have B7 := B6.trans (hb7.mono B6.size)
    clear hb7 B6
    go_wp2_with fail
    refine (CB _ _).mono ?_
    rintro e u8 ⟨rfl, rfl⟩
    go_wp2_with fail
    go_ret
    exact ⟨by first | rfl | (simp [cmpB]; done) | (simp [cmpB, go_sem]; done) | (congr 1; simp [cmpB]), B7⟩

set_option maxRecDepth 100000 in
theorem rbin_sle (a : Int) (x y : Nat) (hx : x < 18446744073709551616) (hy : y < 18446744073709551616) (w : World) :
    Calls Try.prog 63 #[.int .i64 20, .int .i64 a, .int .u64 x, .int .u64 y] w fun e w' => e = .returned (.int .u64 (b2n (cmpB 20 a (fitN a x) (fitN a y)) : Nat)) ∧ Below w.heap.size w w' := by
  have CX := fun w => rfit_any a x hx w
  have CY := fun w => rfit_any a y hy w
  have BX := fun w => rbits_any a (fitN a x) (fitN_lt a x) w
  have BY := fun w => rbits_any a (fitN a y) (fitN_lt a y) w
  have CN := fun w => rneg_any a (fitN a x) (fitN_lt a x) w
  have CB := fun (b : Bool) (w : World) => rbit_any b w
  have S1 := fun w => rsgn_any a (fitN a x) (fitN_lt a x) w
  have S2 := fun w => rsgn_any a (fitN a y) (fitN_lt a y) w
  generalize fitN a x = X at S1 CX BX CN ⊢
  generalize fitN a y = Y at S2 CY BY ⊢
  have hm := wid_le a
  generalize wid a = N at BX BY hm
  generalize negB a X = S at CN
  cases S
  · go_enter Try.func63, Try.ntmps63
    go_wp2_with fail
    refine (CX _).mono ?_
    rintro e u1 ⟨rfl, hb1⟩
    go_wp2_with fail
    refine (CY _).mono ?_
    rintro e u2 ⟨rfl, hb2⟩
    have B2 := hb1.trans (hb2.mono hb1.size)
    clear hb1 hb2
    go_wp2_with fail
    refine (BX _).mono ?_
    rintro e u3 ⟨v1, rfl, hown1, hb3⟩
    rw [bitsL_len] at hown1
    have R1 := Lib.hid (ReadRow.of_owns (bitsL_len N X) hown1)
    clear hown1
    go_wp2_with fail
    refine (BY _).mono ?_
    rintro e u4 ⟨v2, rfl, hown2, hb4⟩
    rw [bitsL_len] at hown2
    have R2 := Lib.hid (ReadRow.of_owns (bitsL_len N Y) hown2)
    have R1' := Lib.hid (R1.out.below hb4)
    have B4 := B2.trans ((hb3.trans (hb4.mono hb3.size)).mono B2.size)
    clear hown2 R1 hb3 hb4 B2
    obtain ⟨s1, c1, rfl⟩ := R1'.out.len
    obtain ⟨s2, c2, rfl⟩ := R2.out.len
    go_wp2_with fail
    go_loop [12] (fun i => ∃ k : Nat, k ≤ N ∧ i = .int .i64 (k : Nat)) (fun i => N - (intOf i).toNat)
    case atStart => exact ⟨0, Nat.zero_le _, rfl⟩
    obtain ⟨k, hk, rfl⟩ := hrel
    by_cases hlt : k < N
    · go_wp2_with fail
      go_round
      case rel => exact ⟨k + 1, by omega, by go_num⟩
      case measure => (simp [intOf] <;> omega)
    have hkN : k = N := by omega
    subst hkN
    go_wp2_with fail
    refine (CN _).mono ?_
    rintro e u5 ⟨rfl, hb5⟩
    have B5 := B4.trans (hb5.mono B4.size)
    have Q1 := Lib.hid (R1'.out.below hb5)
    have Q2 := Lib.hid (R2.out.below hb5)
    clear hb5 B4 R1' R2
    go_wp2_with fail
    refine (S1 _).mono ?_
    rintro e u6 ⟨rfl, hb6⟩
    have B6 := B5.trans (hb6.mono B5.size)
    clear hb6 B5
    go_wp2_with fail
    refine (S2 _).mono ?_
    rintro e u7 ⟨rfl, hb7⟩
    have B7 := B6.trans (hb7.mono B6.size)
    clear hb7 B6
    go_wp2_with fail
    refine (CB _ _).mono ?_
    rintro e u8 ⟨rfl, rfl⟩
    go_wp2_with fail
    go_ret
    exact ⟨by first | rfl | (simp [cmpB]; done) | (simp [cmpB, go_sem]; done) | (congr 1; simp [cmpB]), B7⟩
  · go_enter Try.func63, Try.ntmps63
    go_wp2_with fail
    refine (CX _).mono ?_
    rintro e u1 ⟨rfl, hb1⟩
    go_wp2_with fail
    refine (CY _).mono ?_
    rintro e u2 ⟨rfl, hb2⟩
    have B2 := hb1.trans (hb2.mono hb1.size)
    clear hb1 hb2
    go_wp2_with fail
    refine (BX _).mono ?_
    rintro e u3 ⟨v1, rfl, hown1, hb3⟩
    rw [bitsL_len] at hown1
    have R1 := Lib.hid (ReadRow.of_owns (bitsL_len N X) hown1)
    clear hown1
    go_wp2_with fail
    refine (BY _).mono ?_
    rintro e u4 ⟨v2, rfl, hown2, hb4⟩
    rw [bitsL_len] at hown2
    have R2 := Lib.hid (ReadRow.of_owns (bitsL_len N Y) hown2)
    have R1' := Lib.hid (R1.out.below hb4)
    have B4 := B2.trans ((hb3.trans (hb4.mono hb3.size)).mono B2.size)
    clear hown2 R1 hb3 hb4 B2
    obtain ⟨s1, c1, rfl⟩ := R1'.out.len
    obtain ⟨s2, c2, rfl⟩ := R2.out.len
    go_wp2_with fail
    go_loop [12] (fun i => ∃ k : Nat, k ≤ N ∧ i = .int .i64 (k : Nat)) (fun i => N - (intOf i).toNat)
    case atStart => exact ⟨0, Nat.zero_le _, rfl⟩
    obtain ⟨k, hk, rfl⟩ := hrel
    by_cases hlt : k < N
    · go_wp2_with fail
      go_round
      case rel => exact ⟨k + 1, by omega, by go_num⟩
      case measure => (simp [intOf] <;> omega)
    have hkN : k = N := by omega
    subst hkN
    go_wp2_with fail
    refine (CN _).mono ?_
    rintro e u5 ⟨rfl, hb5⟩
    have B5 := B4.trans (hb5.mono B4.size)
    have Q1 := Lib.hid (R1'.out.below hb5)
    have Q2 := Lib.hid (R2.out.below hb5)
    clear hb5 B4 R1' R2
    go_wp2_with fail
    refine (S1 _).mono ?_
    rintro e u6 ⟨rfl, hb6⟩
    have B6 := B5.trans (hb6.mono B5.size)
    clear hb6 B5
    go_wp2_with fail
    refine (S2 _).mono ?_
    rintro e u7 ⟨rfl, hb7⟩
    have B7 := B6.trans (hb7.mono B6.size)
    clear hb7 B6
    go_wp2_with fail
    refine (CB _ _).mono ?_
    rintro e u8 ⟨rfl, rfl⟩
    go_wp2_with fail
    go_ret
    exact ⟨by first | rfl | (simp [cmpB]; done) | (simp [cmpB, go_sem]; done) | (congr 1; simp [cmpB]), B7⟩
end Go.Proofs.Ythkdojgagmaecab
