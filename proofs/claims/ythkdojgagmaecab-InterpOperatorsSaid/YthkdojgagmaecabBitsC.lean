/- Contracts of bits.plain, bits.shift, bits.signedDivision, bits.compare. -/
import Derived.Test.YthkdojgagmaecabBitsB
import Derived.Test.YthkdojgagmaecabMathB
namespace Go.Proofs.Ythkdojgagmaecab
open Go.RowKit

theorem plain_any (op a : Int) (x y : Nat) (w : World) (hop : op = 2 ∨ op = 3 ∨ op = 4 ∨ op = 5 ∨ op = 6 ∨ op = 9 ∨ op = 10 ∨ op = 11) (hx : x < 18446744073709551616) (hy : y < 18446744073709551616) :
    Calls Try.prog 76 #[.int .i64 op, .int .i64 a, .int .u64 x, .int .u64 y] w fun e w' => e = .returned (.int .u64 (plainN op a x y : Nat)) ∧ w = w' := by
  have H2 := Lib.hid (pl2 a x y)
  have H3 := Lib.hid (pl3 a x y hy)
  have H4 := Lib.hid (pl4 a x y)
  have H9 := Lib.hid (pl9 a x y hx hy)
  have H10 := Lib.hid (pl10 a x y hx hy)
  have H11 := Lib.hid (pl11 a x y hx hy)
  by_cases hb : y = 0
  · have hb' : ((y : Int) == 0) = true := by rw [beq_iff_eq]; omega
    have H5 := Lib.hid (show plainN 5 a x y = maskN a by simp [plainN, hb])
    have H6 := Lib.hid (show plainN 6 a x y = x by simp [plainN, hb])
    clear hb
    rcases hop with rfl | rfl | rfl | rfl | rfl | rfl | rfl | rfl
    case inr.inr.inr.inl =>
      go_enter Try.func76, Try.ntmps76
      go_wp2_with fail
      refine (mask_any a _).mono ?_
      rintro e w' ⟨rfl, rfl⟩
      go_wp2_with fail
      go_ret
      exact ⟨by rw [H5.out]; rfl, rfl⟩
    all_goals
      go_enter Try.func76, Try.ntmps76
      go_wp2_with fail
      go_ret
      refine ⟨?_, rfl⟩
      first
        | rw [← H2.out]; rfl
        | rw [← H3.out]; rfl
        | rw [← H4.out]; rfl
        | rw [H6.out]; rfl
        | rw [← H9.out]; rfl
        | rw [← H10.out]; rfl
        | rw [← H11.out]; rfl
  · have hb' : ((y : Int) == 0) = false := by rw [beq_eq_false_iff_ne]; omega
    have H5 := Lib.hid (pl5 a x y hb hx)
    have H6 := Lib.hid (pl6 a x y hb)
    rcases hop with rfl | rfl | rfl | rfl | rfl | rfl | rfl | rfl
    all_goals
      go_enter Try.func76, Try.ntmps76
      go_wp2_with fail
      go_ret
      refine ⟨?_, rfl⟩
      first
        | rw [← H2.out]; rfl
        | rw [← H3.out]; rfl
        | rw [← H4.out]; rfl
        | rw [← H5.out]; rfl
        | rw [← H6.out]; rfl
        | rw [← H9.out]; rfl
        | rw [← H10.out]; rfl
        | rw [← H11.out]; rfl

theorem sdiv_any (op a : Int) (x y : Nat) (w : World) (hop : op = 7 ∨ op = 8) (hx : x < 18446744073709551616) (hy : y < 18446744073709551616) :
    Calls Try.prog 74 #[.int .i64 op, .int .i64 a, .int .u64 x, .int .u64 y] w fun e w' => e = .returned (.int .u64 (sdivN op a x y : Nat)) ∧ w = w' := by
  have hin : sgn a y = 0 ∨ sgn a y = -1 ∨ (sgn a y ≠ 0 ∧ sgn a y ≠ -1) := by omega
  rcases hin with h | h | ⟨h0, h1⟩
  · have hb : (sgn a y == 0) = true := by rw [beq_iff_eq]; exact h
    have H7 := Lib.hid (show sdivN 7 a x y = maskN a by simp [sdivN, h])
    have H8 := Lib.hid (show sdivN 8 a x y = x by simp [sdivN, h])
    clear h
    rcases hop with rfl | rfl
    · go_enter Try.func74, Try.ntmps74
      go_wp2_with fail
      refine (signed_any a x _ hx).mono ?_
      rintro e w' ⟨rfl, rfl⟩
      go_wp2_with fail
      refine (signed_any a y _ hy).mono ?_
      rintro e w' ⟨rfl, rfl⟩
      go_wp2_with fail
      refine (mask_any a _).mono ?_
      rintro e w' ⟨rfl, rfl⟩
      go_wp2_with fail
      go_ret
      exact ⟨by rw [H7.out]; rfl, rfl⟩
    · go_enter Try.func74, Try.ntmps74
      go_wp2_with fail
      refine (signed_any a x _ hx).mono ?_
      rintro e w' ⟨rfl, rfl⟩
      go_wp2_with fail
      refine (signed_any a y _ hy).mono ?_
      rintro e w' ⟨rfl, rfl⟩
      go_wp2_with fail
      go_ret
      exact ⟨by rw [H8.out]; rfl, rfl⟩
  · have hb : (sgn a y == 0) = false := by rw [beq_eq_false_iff_ne, h]; decide
    have hb1 : (sgn a y == -1) = true := by rw [beq_iff_eq]; exact h
    have H7 := Lib.hid (show sdivN 7 a x y = fromN a (wrap64 (- sgn a x)) by rw [from_wrap]; simp [sdivN, h])
    have H8 := Lib.hid (show sdivN 8 a x y = 0 by simp [sdivN, h])
    clear h
    rcases hop with rfl | rfl
    · go_enter Try.func74, Try.ntmps74
      go_wp2_with fail
      refine (signed_any a x _ hx).mono ?_
      rintro e w' ⟨rfl, rfl⟩
      go_wp2_with fail
      refine (signed_any a y _ hy).mono ?_
      rintro e w' ⟨rfl, rfl⟩
      go_wp2_with fail
      refine (from_any a _ _).mono ?_
      rintro e w' ⟨rfl, rfl⟩
      go_wp2_with fail
      go_ret
      exact ⟨by rw [H7.out]; rfl, rfl⟩
    · go_enter Try.func74, Try.ntmps74
      go_wp2_with fail
      refine (signed_any a x _ hx).mono ?_
      rintro e w' ⟨rfl, rfl⟩
      go_wp2_with fail
      refine (signed_any a y _ hy).mono ?_
      rintro e w' ⟨rfl, rfl⟩
      go_wp2_with fail
      go_ret
      exact ⟨by rw [H8.out]; rfl, rfl⟩
  · have hb : (sgn a y == 0) = false := by rw [beq_eq_false_iff_ne]; exact h0
    have hb1 : (sgn a y == -1) = false := by rw [beq_eq_false_iff_ne]; exact h1
    have H7 := Lib.hid (show sdivN 7 a x y = fromN a (wrap64 ((sgn a x).tdiv (sgn a y))) by rw [from_wrap]; simp [sdivN, h0, h1])
    have H8 := Lib.hid (show sdivN 8 a x y = fromN a ((sgn a x).tmod (sgn a y)) by simp [sdivN, h0, h1])
    rcases hop with rfl | rfl
    · go_enter Try.func74, Try.ntmps74
      go_wp2_with fail
      refine (signed_any a x _ hx).mono ?_
      rintro e w' ⟨rfl, rfl⟩
      go_wp2_with fail
      refine (signed_any a y _ hy).mono ?_
      rintro e w' ⟨rfl, rfl⟩
      go_wp2_with fail
      refine (from_any a _ _).mono ?_
      rintro e w' ⟨rfl, rfl⟩
      go_wp2_with fail
      go_ret
      exact ⟨by rw [H7.out]; rfl, rfl⟩
    · go_enter Try.func74, Try.ntmps74
      go_wp2_with fail
      refine (signed_any a x _ hx).mono ?_
      rintro e w' ⟨rfl, rfl⟩
      go_wp2_with fail
      refine (signed_any a y _ hy).mono ?_
      rintro e w' ⟨rfl, rfl⟩
      go_wp2_with fail
      refine (from_any a _ _).mono ?_
      rintro e w' ⟨rfl, rfl⟩
      go_wp2_with fail
      go_ret
      exact ⟨by rw [H8.out]; rfl, rfl⟩

theorem cmp_any (op a : Int) (x y : Nat) (w : World) (hop : 15 ≤ op ∧ op ≤ 20) (hx : x < 18446744073709551616) (hy : y < 18446744073709551616) :
    Calls Try.prog 73 #[.int .i64 op, .int .i64 a, .int .u64 x, .int .u64 y] w fun e w' => e = .returned (.bool (cmpB op a x y)) ∧ w = w' := by
  have h : op = 15 ∨ op = 16 ∨ op = 17 ∨ op = 18 ∨ op = 19 ∨ op = 20 := by omega
  clear hop
  rcases h with rfl | rfl | rfl | rfl | rfl | rfl
  case inr.inr.inr.inr.inl | inr.inr.inr.inr.inr =>
    go_enter Try.func73, Try.ntmps73
    go_wp2_with fail
    refine (signed_any a x _ hx).mono ?_
    rintro e w' ⟨rfl, rfl⟩
    go_wp2_with fail
    refine (signed_any a y _ hy).mono ?_
    rintro e w' ⟨rfl, rfl⟩
    go_wp2_with fail
    go_ret
    exact ⟨rfl, rfl⟩
  all_goals
    go_enter Try.func73, Try.ntmps73
    go_wp2_with fail
    go_ret
    exact ⟨rfl, rfl⟩

theorem shift_any (op a : Int) (x y : Nat) (w : World) (hop : op = 12 ∨ op = 13 ∨ op = 14) (ha : 1 ≤ a ∧ a ≤ 64) (hx : x < 18446744073709551616) (hy : y < 18446744073709551616) :
    Calls Try.prog 75 #[.int .i64 op, .int .i64 a, .int .u64 x, .int .u64 y] w fun e w' => e = .returned (.int .u64 (shiftN op a x y : Nat)) ∧ w = w' := by
  by_cases hb : a ≤ y
  · have H2 := Lib.hid (sh_far12 a x y hb)
    have H3 := Lib.hid (sh_far13 a x y hb)
    have H4 := Lib.hid (sh_far14 a x y hb)
    rcases hop with rfl | rfl | rfl
    · go_enter Try.func75, Try.ntmps75
      go_wp2_with fail
      go_ret
      exact ⟨by rw [H2.out]; rfl, rfl⟩
    · go_enter Try.func75, Try.ntmps75
      go_wp2_with fail
      go_ret
      exact ⟨by rw [H3.out]; rfl, rfl⟩
    · go_enter Try.func75, Try.ntmps75
      go_wp2_with fail
      refine (signed_any a x _ hx).mono ?_
      rintro e w' ⟨rfl, rfl⟩
      go_wp2_with fail
      refine (from_any a _ _).mono ?_
      rintro e w' ⟨rfl, rfl⟩
      go_wp2_with fail
      go_ret
      exact ⟨by rw [H4.out]; rfl, rfl⟩
  · have H2 := Lib.hid (sh_near12 a x y hb)
    have H3 := Lib.hid (sh_near13 a x y hb)
    have H4 := Lib.hid (sh_near14 a x y hb)
    rcases hop with rfl | rfl | rfl
    · go_enter Try.func75, Try.ntmps75
      go_wp2_with fail
      rw [shl_word]
      refine (fit_any a _ _ (Nat.mod_lt _ (by decide))).mono ?_
      rintro e w' ⟨rfl, rfl⟩
      go_wp2_with fail
      go_ret
      exact ⟨by rw [H2.out]; rfl, rfl⟩
    · go_enter Try.func75, Try.ntmps75
      go_wp2_with fail
      go_ret
      exact ⟨by rw [H3.out]; rfl, rfl⟩
    · go_enter Try.func75, Try.ntmps75
      go_wp2_with fail
      refine (signed_any a x _ hx).mono ?_
      rintro e w' ⟨rfl, rfl⟩
      go_wp2_with fail
      refine (from_any a _ _).mono ?_
      rintro e w' ⟨rfl, rfl⟩
      go_wp2_with fail
      go_ret
      exact ⟨by rw [H4.out]; rfl, rfl⟩

theorem word_any (b : Bool) (w : World) :
    Calls Try.prog 72 #[.bool b] w fun e w' => e = .returned (.int .u64 (b2n b : Nat)) ∧ w = w' := by
  cases b
  all_goals
    go_enter Try.func72, Try.ntmps72
    go_wp2_with fail
    go_ret
    exact ⟨rfl, rfl⟩
end Go.Proofs.Ythkdojgagmaecab
