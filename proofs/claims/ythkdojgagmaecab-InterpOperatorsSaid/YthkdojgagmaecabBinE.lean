/- Layer 1's reference: Binary at udiv and urem. -/
import Derived.Test.YthkdojgagmaecabBin
namespace Go.Proofs.Ythkdojgagmaecab
open Go.RowKit



set_option maxRecDepth 100000 in
theorem rbin_udiv0 (a : Int) (x y : Nat) (hx : x < 18446744073709551616) (hy : y < 18446744073709551616) (hz : fitN a y = 0) (w : World) :
    Calls Try.prog 63 #[.int .i64 5, .int .i64 a, .int .u64 x, .int .u64 y] w fun e w' => e = .returned (.int .u64 (maskN a : Nat)) ∧ Below w.heap.size w w' := by
  have CX := fun w => rfit_any a x hx w
  have CY := fun w => rfit_any a y hy w
  have BX := fun w => rbits_any a (fitN a x) (fitN_lt a x) w
  have BY := fun w => rbits_any a (fitN a y) (fitN_lt a y) w
  have CN := fun w => rneg_any a (fitN a x) (fitN_lt a x) w
  have CO := fun w => rones_any a w
  generalize fitN a x = X at CX BX CN
  generalize fitN a y = Y at hz CY BY
  subst hz
  have hm := wid_le a
  generalize wid a = N at BX BY hm
  generalize negB a X = S at CN
  cases S
  · go_enter Try.func63, Try.ntmps63
    go_wp2_with fail
    refine (CX _).mono ?_
    rintro e u1 ⟨rfl, hb1⟩
    go_wp2_with fail
    refine (CY _).mono ?_
    rintro e u2 ⟨rfl, hb2⟩
    have B2 := hb1.trans (hb2.mono hb1.size)
    clear hb1 hb2
    go_wp2_with fail
    refine (BX _).mono ?_
    rintro e u3 ⟨v1, rfl, hown1, hb3⟩
    rw [bitsL_len] at hown1
    have R1 := Lib.hid (ReadRow.of_owns (bitsL_len N _) hown1)
    clear hown1
    go_wp2_with fail
    refine (BY _).mono ?_
    rintro e u4 ⟨v2, rfl, hown2, hb4⟩
    rw [bitsL_len] at hown2
    have R2 := Lib.hid (ReadRow.of_owns (bitsL_len N _) hown2)
    have R1' := Lib.hid (R1.out.below hb4)
    have B4 := B2.trans ((hb3.trans (hb4.mono hb3.size)).mono B2.size)
    clear hown2 R1 hb3 hb4 B2
    obtain ⟨s1, c1, rfl⟩ := R1'.out.len
    obtain ⟨s2, c2, rfl⟩ := R2.out.len
    go_wp2_with fail
    go_loop [12] (fun i => ∃ k : Nat, k ≤ N ∧ i = .int .i64 (k : Nat)) (fun i => N - (intOf i).toNat)
    case atStart => exact ⟨0, Nat.zero_le _, rfl⟩
    obtain ⟨k, hk, rfl⟩ := hrel
    by_cases hlt : k < N
    · go_wp2_with fail
      go_round
      case rel => exact ⟨k + 1, by omega, by go_num⟩
      case measure => (simp [intOf] <;> omega)
    have hkN : k = N := by omega
    subst hkN
    go_wp2_with fail
    refine (CN _).mono ?_
    rintro e u5 ⟨rfl, hb5⟩
    have B5 := B4.trans (hb5.mono B4.size)
    have Q1 := Lib.hid (R1'.out.below hb5)
    have Q2 := Lib.hid (R2.out.below hb5)
    clear hb5 B4 R1' R2
    go_wp2_with fail
    refine (CO _).mono ?_
    rintro e u6 ⟨rfl, rfl⟩
    go_wp2_with fail
    go_ret
    exact ⟨rfl, B5⟩
  · go_enter Try.func63, Try.ntmps63
    go_wp2_with fail
    refine (CX _).mono ?_
    rintro e u1 ⟨rfl, hb1⟩
    go_wp2_with fail
    refine (CY _).mono ?_
    rintro e u2 ⟨rfl, hb2⟩
    have B2 := hb1.trans (hb2.mono hb1.size)
    clear hb1 hb2
    go_wp2_with fail
    refine (BX _).mono ?_
    rintro e u3 ⟨v1, rfl, hown1, hb3⟩
    rw [bitsL_len] at hown1
    have R1 := Lib.hid (ReadRow.of_owns (bitsL_len N _) hown1)
    clear hown1
    go_wp2_with fail
    refine (BY _).mono ?_
    rintro e u4 ⟨v2, rfl, hown2, hb4⟩
    rw [bitsL_len] at hown2
    have R2 := Lib.hid (ReadRow.of_owns (bitsL_len N _) hown2)
    have R1' := Lib.hid (R1.out.below hb4)
    have B4 := B2.trans ((hb3.trans (hb4.mono hb3.size)).mono B2.size)
    clear hown2 R1 hb3 hb4 B2
    obtain ⟨s1, c1, rfl⟩ := R1'.out.len
    obtain ⟨s2, c2, rfl⟩ := R2.out.len
    go_wp2_with fail
    go_loop [12] (fun i => ∃ k : Nat, k ≤ N ∧ i = .int .i64 (k : Nat)) (fun i => N - (intOf i).toNat)
    case atStart => exact ⟨0, Nat.zero_le _, rfl⟩
    obtain ⟨k, hk, rfl⟩ := hrel
    by_cases hlt : k < N
    · go_wp2_with fail
      go_round
      case rel => exact ⟨k + 1, by omega, by go_num⟩
      case measure => (simp [intOf] <;> omega)
    have hkN : k = N := by omega
    subst hkN
    go_wp2_with fail
    refine (CN _).mono ?_
    rintro e u5 ⟨rfl, hb5⟩
    have B5 := B4.trans (hb5.mono B4.size)
    have Q1 := Lib.hid (R1'.out.below hb5)
    have Q2 := Lib.hid (R2.out.below hb5)
    clear hb5 B4 R1' R2
    go_wp2_with fail
    refine (CO _).mono ?_
    rintro e u6 ⟨rfl, rfl⟩
    go_wp2_with fail
    go_ret
    exact ⟨rfl, B5⟩

set_option maxRecDepth 100000 in
theorem rbin_urem0 (a : Int) (x y : Nat) (hx : x < 18446744073709551616) (hy : y < 18446744073709551616) (hz : fitN a y = 0) (w : World) :
    Calls Try.prog 63 #[.int .i64 6, .int .i64 a, .int .u64 x, .int .u64 y] w fun e w' => e = .returned (.int .u64 (fitN a x : Nat)) ∧ Below w.heap.size w w' := by
  have CX := fun w => rfit_any a x hx w
  have CY := fun w => rfit_any a y hy w
  have BX := fun w => rbits_any a (fitN a x) (fitN_lt a x) w
  have BY := fun w => rbits_any a (fitN a y) (fitN_lt a y) w
  have CN := fun w => rneg_any a (fitN a x) (fitN_lt a x) w
  generalize fitN a x = X at CX BX CN ⊢
  generalize fitN a y = Y at hz CY BY
  subst hz
  have hm := wid_le a
  generalize wid a = N at BX BY hm
  generalize negB a X = S at CN
  cases S
  · go_enter Try.func63, Try.ntmps63
    go_wp2_with fail
    refine (CX _).mono ?_
    rintro e u1 ⟨rfl, hb1⟩
    go_wp2_with fail
    refine (CY _).mono ?_
    rintro e u2 ⟨rfl, hb2⟩
    have B2 := hb1.trans (hb2.mono hb1.size)
    clear hb1 hb2
    go_wp2_with fail
    refine (BX _).mono ?_
    rintro e u3 ⟨v1, rfl, hown1, hb3⟩
    rw [bitsL_len] at hown1
    have R1 := Lib.hid (ReadRow.of_owns (bitsL_len N _) hown1)
    clear hown1
    go_wp2_with fail
    refine (BY _).mono ?_
    rintro e u4 ⟨v2, rfl, hown2, hb4⟩
    rw [bitsL_len] at hown2
    have R2 := Lib.hid (ReadRow.of_owns (bitsL_len N _) hown2)
    have R1' := Lib.hid (R1.out.below hb4)
    have B4 := B2.trans ((hb3.trans (hb4.mono hb3.size)).mono B2.size)
    clear hown2 R1 hb3 hb4 B2
    obtain ⟨s1, c1, rfl⟩ := R1'.out.len
    obtain ⟨s2, c2, rfl⟩ := R2.out.len
    go_wp2_with fail
    go_loop [12] (fun i => ∃ k : Nat, k ≤ N ∧ i = .int .i64 (k : Nat)) (fun i => N - (intOf i).toNat)
    case atStart => exact ⟨0, Nat.zero_le _, rfl⟩
    obtain ⟨k, hk, rfl⟩ := hrel
    by_cases hlt : k < N
    · go_wp2_with fail
      go_round
      case rel => exact ⟨k + 1, by omega, by go_num⟩
      case measure => (simp [intOf] <;> omega)
    have hkN : k = N := by omega
    subst hkN
    go_wp2_with fail
    refine (CN _).mono ?_
    rintro e u5 ⟨rfl, hb5⟩
    have B5 := B4.trans (hb5.mono B4.size)
    have Q1 := Lib.hid (R1'.out.below hb5)
    have Q2 := Lib.hid (R2.out.below hb5)
    clear hb5 B4 R1' R2
    go_wp2_with fail
    go_ret
    exact ⟨rfl, B5⟩
  · go_enter Try.func63, Try.ntmps63
    go_wp2_with fail
    refine (CX _).mono ?_
    rintro e u1 ⟨rfl, hb1⟩
    go_wp2_with fail
    refine (CY _).mono ?_
    rintro e u2 ⟨rfl, hb2⟩
    have B2 := hb1.trans (hb2.mono hb1.size)
    clear hb1 hb2
    go_wp2_with fail
    refine (BX _).mono ?_
    rintro e u3 ⟨v1, rfl, hown1, hb3⟩
    rw [bitsL_len] at hown1
    have R1 := Lib.hid (ReadRow.of_owns (bitsL_len N _) hown1)
    clear hown1
    go_wp2_with fail
    refine (BY _).mono ?_
    rintro e u4 ⟨v2, rfl, hown2, hb4⟩
    rw [bitsL_len] at hown2
    have R2 := Lib.hid (ReadRow.of_owns (bitsL_len N _) hown2)
    have R1' := Lib.hid (R1.out.below hb4)
    have B4 := B2.trans ((hb3.trans (hb4.mono hb3.size)).mono B2.size)
    clear hown2 R1 hb3 hb4 B2
    obtain ⟨s1, c1, rfl⟩ := R1'.out.len
    obtain ⟨s2, c2, rfl⟩ := R2.out.len
    go_wp2_with fail
    go_loop [12] (fun i => ∃ k : Nat, k ≤ N ∧ i = .int .i64 (k : Nat)) (fun i => N - (intOf i).toNat)
    case atStart => exact ⟨0, Nat.zero_le _, rfl⟩
    obtain ⟨k, hk, rfl⟩ := hrel
    by_cases hlt : k < N
    · go_wp2_with fail
      go_round
      case rel => exact ⟨k + 1, by omega, by go_num⟩
      case measure => (simp [intOf] <;> omega)
    have hkN : k = N := by omega
    subst hkN
    go_wp2_with fail
    refine (CN _).mono ?_
    rintro e u5 ⟨rfl, hb5⟩
    have B5 := B4.trans (hb5.mono B4.size)
    have Q1 := Lib.hid (R1'.out.below hb5)
    have Q2 := Lib.hid (R2.out.below hb5)
    clear hb5 B4 R1' R2
    go_wp2_with fail
    go_ret
    exact ⟨rfl, B5⟩

set_option maxRecDepth 100000 in
theorem rbin_udiv (a : Int) (x y : Nat) (hx : x < 18446744073709551616) (hy : y < 18446744073709551616) (hz : ¬ fitN a y = 0) (w : World) :
    Calls Try.prog 63 #[.int .i64 5, .int .i64 a, .int .u64 x, .int .u64 y] w fun e w' => e = .returned (.int .u64 (fitN a x / fitN a y : Nat)) ∧ Below w.heap.size w w' := by
  have CX := fun w => rfit_any a x hx w
  have CY := fun w => rfit_any a y hy w
  have BX := fun w => rbits_any a (fitN a x) (fitN_lt a x) w
  have BY := fun w => rbits_any a (fitN a y) (fitN_lt a y) w
  have CN := fun w => rneg_any a (fitN a x) (fitN_lt a x) w
  obtain ⟨q, hq⟩ : ∃ q : Nat, q = fitN a x / fitN a y := ⟨_, rfl⟩
  have q1 : ((fitN a x : Nat) : Int) / ((fitN a y : Nat) : Int) = ((q : Nat) : Int) := by rw [hq]; rfl
  have hql : q < 18446744073709551616 := by rw [hq]; exact Nat.lt_of_le_of_lt (Nat.div_le_self _ _) (fitN_lt a x)
  rw [← hq]
  clear hq
  have hXl := fitN_lt a x
  have hYl := fitN_lt a y
  generalize fitN a x = X at hXl q1 CX BX CN
  generalize fitN a y = Y at hz hYl q1 CY BY
  have hm := wid_le a
  generalize wid a = N at BX BY hm
  generalize negB a X = S at CN
  cases S
  · go_enter Try.func63, Try.ntmps63
    go_wp2_with fail
    refine (CX _).mono ?_
    rintro e u1 ⟨rfl, hb1⟩
    go_wp2_with fail
    refine (CY _).mono ?_
    rintro e u2 ⟨rfl, hb2⟩
    have B2 := hb1.trans (hb2.mono hb1.size)
    clear hb1 hb2
    go_wp2_with fail
    refine (BX _).mono ?_
    rintro e u3 ⟨v1, rfl, hown1, hb3⟩
    rw [bitsL_len] at hown1
    have R1 := Lib.hid (ReadRow.of_owns (bitsL_len N X) hown1)
    clear hown1
    go_wp2_with fail
    refine (BY _).mono ?_
    rintro e u4 ⟨v2, rfl, hown2, hb4⟩
    rw [bitsL_len] at hown2
    have R2 := Lib.hid (ReadRow.of_owns (bitsL_len N Y) hown2)
    have R1' := Lib.hid (R1.out.below hb4)
    have B4 := B2.trans ((hb3.trans (hb4.mono hb3.size)).mono B2.size)
    clear hown2 R1 hb3 hb4 B2
    obtain ⟨s1, c1, rfl⟩ := R1'.out.len
    obtain ⟨s2, c2, rfl⟩ := R2.out.len
    go_wp2_with fail
    go_loop [12] (fun i => ∃ k : Nat, k ≤ N ∧ i = .int .i64 (k : Nat)) (fun i => N - (intOf i).toNat)
    case atStart => exact ⟨0, Nat.zero_le _, rfl⟩
    obtain ⟨k, hk, rfl⟩ := hrel
    by_cases hlt : k < N
    · go_wp2_with fail
      go_round
      case rel => exact ⟨k + 1, by omega, by go_num⟩
      case measure => (simp [intOf] <;> omega)
    have hkN : k = N := by omega
    subst hkN
    go_wp2_with fail
    refine (CN _).mono ?_
    rintro e u5 ⟨rfl, hb5⟩
    have B5 := B4.trans (hb5.mono B4.size)
    have Q1 := Lib.hid (R1'.out.below hb5)
    have Q2 := Lib.hid (R2.out.below hb5)
    clear hb5 B4 R1' R2
    go_wp2_with fail
    go_ret
    exact ⟨by first | rfl | (congr 1; simp), B5⟩
  · go_enter Try.func63, Try.ntmps63
    go_wp2_with fail
    refine (CX _).mono ?_
    rintro e u1 ⟨rfl, hb1⟩
    go_wp2_with fail
    refine (CY _).mono ?_
    rintro e u2 ⟨rfl, hb2⟩
    have B2 := hb1.trans (hb2.mono hb1.size)
    clear hb1 hb2
    go_wp2_with fail
    refine (BX _).mono ?_
    rintro e u3 ⟨v1, rfl, hown1, hb3⟩
    rw [bitsL_len] at hown1
    have R1 := Lib.hid (ReadRow.of_owns (bitsL_len N X) hown1)
    clear hown1
    go_wp2_with fail
    refine (BY _).mono ?_
    rintro e u4 ⟨v2, rfl, hown2, hb4⟩
    rw [bitsL_len] at hown2
    have R2 := Lib.hid (ReadRow.of_owns (bitsL_len N Y) hown2)
    have R1' := Lib.hid (R1.out.below hb4)
    have B4 := B2.trans ((hb3.trans (hb4.mono hb3.size)).mono B2.size)
    clear hown2 R1 hb3 hb4 B2
    obtain ⟨s1, c1, rfl⟩ := R1'.out.len
    obtain ⟨s2, c2, rfl⟩ := R2.out.len
    go_wp2_with fail
    go_loop [12] (fun i => ∃ k : Nat, k ≤ N ∧ i = .int .i64 (k : Nat)) (fun i => N - (intOf i).toNat)
    case atStart => exact ⟨0, Nat.zero_le _, rfl⟩
    obtain ⟨k, hk, rfl⟩ := hrel
    by_cases hlt : k < N
    · go_wp2_with fail
      go_round
      case rel => exact ⟨k + 1, by omega, by go_num⟩
      case measure => (simp [intOf] <;> omega)
    have hkN : k = N := by omega
    subst hkN
    go_wp2_with fail
    refine (CN _).mono ?_
    rintro e u5 ⟨rfl, hb5⟩
    have B5 := B4.trans (hb5.mono B4.size)
    have Q1 := Lib.hid (R1'.out.below hb5)
    have Q2 := Lib.hid (R2.out.below hb5)
    clear hb5 B4 R1' R2
    go_wp2_with fail
    go_ret
    exact ⟨by first | rfl | (congr 1; simp), B5⟩

set_option maxRecDepth 100000 in
theorem rbin_urem (a : Int) (x y : Nat) (hx : x < 18446744073709551616) (hy : y < 18446744073709551616) (hz : ¬ fitN a y = 0) (w : World) :
    Calls Try.prog 63 #[.int .i64 6, .int .i64 a, .int .u64 x, .int .u64 y] w fun e w' => e = .returned (.int .u64 (fitN a x % fitN a y : Nat)) ∧ Below w.heap.size w w' := by
  have CX := fun w => rfit_any a x hx w
  have CY := fun w => rfit_any a y hy w
  have BX := fun w => rbits_any a (fitN a x) (fitN_lt a x) w
  have BY := fun w => rbits_any a (fitN a y) (fitN_lt a y) w
  have CN := fun w => rneg_any a (fitN a x) (fitN_lt a x) w
  have hXl := fitN_lt a x
  have hYl := fitN_lt a y
  generalize fitN a x = X at hXl CX BX CN ⊢
  generalize fitN a y = Y at hz hYl CY BY ⊢
  have hm := wid_le a
  generalize wid a = N at BX BY hm
  generalize negB a X = S at CN
  cases S
  · go_enter Try.func63, Try.ntmps63
    go_wp2_with fail
    refine (CX _).mono ?_
    rintro e u1 ⟨rfl, hb1⟩
    go_wp2_with fail
    refine (CY _).mono ?_
    rintro e u2 ⟨rfl, hb2⟩
    have B2 := hb1.trans (hb2.mono hb1.size)
    clear hb1 hb2
    go_wp2_with fail
    refine (BX _).mono ?_
    rintro e u3 ⟨v1, rfl, hown1, hb3⟩
    rw [bitsL_len] at hown1
    have R1 := Lib.hid (ReadRow.of_owns (bitsL_len N X) hown1)
    clear hown1
    go_wp2_with fail
    refine (BY _).mono ?_
    rintro e u4 ⟨v2, rfl, hown2, hb4⟩
    rw [bitsL_len] at hown2
    have R2 := Lib.hid (ReadRow.of_owns (bitsL_len N Y) hown2)
    have R1' := Lib.hid (R1.out.below hb4)
    have B4 := B2.trans ((hb3.trans (hb4.mono hb3.size)).mono B2.size)
    clear hown2 R1 hb3 hb4 B2
    obtain ⟨s1, c1, rfl⟩ := R1'.out.len
    obtain ⟨s2, c2, rfl⟩ := R2.out.len
    go_wp2_with fail
    go_loop [12] (fun i => ∃ k : Nat, k ≤ N ∧ i = .int .i64 (k : Nat)) (fun i => N - (intOf i).toNat)
    case atStart => exact ⟨0, Nat.zero_le _, rfl⟩
    obtain ⟨k, hk, rfl⟩ := hrel
    by_cases hlt : k < N
    · go_wp2_with fail
      go_round
      case rel => exact ⟨k + 1, by omega, by go_num⟩
      case measure => (simp [intOf] <;> omega)
    have hkN : k = N := by omega
    subst hkN
    go_wp2_with fail
    refine (CN _).mono ?_
    rintro e u5 ⟨rfl, hb5⟩
    have B5 := B4.trans (hb5.mono B4.size)
    have Q1 := Lib.hid (R1'.out.below hb5)
    have Q2 := Lib.hid (R2.out.below hb5)
    clear hb5 B4 R1' R2
    go_wp2_with fail
    go_ret
    exact ⟨by first | rfl | (congr 1; simp), B5⟩
  · go_enter Try.func63, Try.ntmps63
    go_wp2_with fail
    refine (CX _).mono ?_
    rintro e u1 ⟨rfl, hb1⟩
    go_wp2_with fail
    refine (CY _).mono ?_
    rintro e u2 ⟨rfl, hb2⟩
    have B2 := hb1.trans (hb2.mono hb1.size)
    clear hb1 hb2
    go_wp2_with fail
    refine (BX _).mono ?_
    rintro e u3 ⟨v1, rfl, hown1, hb3⟩
    rw [bitsL_len] at hown1
    have R1 := Lib.hid (ReadRow.of_owns (bitsL_len N X) hown1)
    clear hown1
    go_wp2_with fail
    refine (BY _).mono ?_
    rintro e u4 ⟨v2, rfl, hown2, hb4⟩
    rw [bitsL_len] at hown2
    have R2 := Lib.hid (ReadRow.of_owns (bitsL_len N Y) hown2)
    have R1' := Lib.hid (R1.out.below hb4)
    have B4 := B2.trans ((hb3.trans (hb4.mono hb3.size)).mono B2.size)
    clear hown2 R1 hb3 hb4 B2
    obtain ⟨s1, c1, rfl⟩ := R1'.out.len
    obtain ⟨s2, c2, rfl⟩ := R2.out.len
    go_wp2_with fail
    go_loop [12] (fun i => ∃ k : Nat, k ≤ N ∧ i = .int .i64 (k : Nat)) (fun i => N - (intOf i).toNat)
    case atStart => exact ⟨0, Nat.zero_le _, rfl⟩
    obtain ⟨k, hk, rfl⟩ := hrel
    by_cases hlt : k < N
    · go_wp2_with fail
      go_round
      case rel => exact ⟨k + 1, by omega, by go_num⟩
      case measure => (simp [intOf] <;> omega)
    have hkN : k = N := by omega
    subst hkN
    go_wp2_with fail
    refine (CN _).mono ?_
    rintro e u5 ⟨rfl, hb5⟩
    have B5 := B4.trans (hb5.mono B4.size)
    have Q1 := Lib.hid (R1'.out.below hb5)
    have Q2 := Lib.hid (R2.out.below hb5)
    clear hb5 B4 R1' R2
    go_wp2_with fail
    go_ret
    exact ⟨by first | rfl | (congr 1; simp), B5⟩
end Go.Proofs.Ythkdojgagmaecab
