/- The contract of bits.Binary for any operator and width. -/
import Derived.Test.YthkdojgagmaecabBitsC
namespace Go.Proofs.Ythkdojgagmaecab
open Go.RowKit

theorem isbin_any (op : Int) (w : World) :
    Calls Try.prog 70 #[.int .i64 op] w fun e w' => e = .returned (.bool (isBin op)) ∧ w = w' := by
  by_cases h : 2 ≤ op
  · have H := Lib.hid (show isBin op = decide (op ≤ 20) by simp [isBin, h])
    go_enter Try.func70, Try.ntmps70
    go_wp2_with fail
    go_ret
    exact ⟨by rw [H.out]; rfl, rfl⟩
  · have H := Lib.hid (show isBin op = false by simp [isBin]; omega)
    go_enter Try.func70, Try.ntmps70
    go_wp2_with fail
    go_ret
    exact ⟨by rw [H.out]; rfl, rfl⟩
theorem iscmp_any (op : Int) (w : World) :
    Calls Try.prog 71 #[.int .i64 op] w fun e w' => e = .returned (.bool (isCmp op)) ∧ w = w' := by
  by_cases h : 15 ≤ op
  · have H := Lib.hid (show isCmp op = decide (op ≤ 20) by simp [isCmp, h])
    go_enter Try.func71, Try.ntmps71
    go_wp2_with fail
    go_ret
    exact ⟨by rw [H.out]; rfl, rfl⟩
  · have H := Lib.hid (show isCmp op = false by simp [isCmp]; omega)
    go_enter Try.func71, Try.ntmps71
    go_wp2_with fail
    go_ret
    exact ⟨by rw [H.out]; rfl, rfl⟩

theorem binary_bad (op a : Int) (x y : Nat) (w : World) (h : okB op a = false) :
    Calls Try.prog 61 #[.int .i64 op, .int .i64 a, .int .u64 x, .int .u64 y] w fun e w' => e = .returned (.tuple #[.int .u64 0, .int .i64 1]) ∧ w = w' := by
  by_cases h1 : isBin op = true
  · by_cases h2 : a < 1
    · clear h
      go_enter Try.func61, Try.ntmps61
      go_wp2_with fail
      refine (isbin_any op _).mono ?_
      rintro e w' ⟨rfl, rfl⟩
      go_wp2_with fail
      go_ret2
      exact ⟨rfl, rfl⟩
    · have h3 : 64 < a := by simp [okB, h1] at h; omega
      clear h
      go_enter Try.func61, Try.ntmps61
      go_wp2_with fail
      refine (isbin_any op _).mono ?_
      rintro e w' ⟨rfl, rfl⟩
      go_wp2_with fail
      go_ret2
      exact ⟨rfl, rfl⟩
  · have h1' : isBin op = false := by simpa using h1
    clear h h1
    go_enter Try.func61, Try.ntmps61
    go_wp2_with fail
    refine (isbin_any op _).mono ?_
    rintro e w' ⟨rfl, rfl⟩
    go_wp2_with fail
    go_ret2
    exact ⟨rfl, rfl⟩

theorem binary_cmp (op a : Int) (x y : Nat) (w : World) (hop : 15 ≤ op ∧ op ≤ 20) (ha : 1 ≤ a ∧ a ≤ 64) (hx : x < 18446744073709551616) (hy : y < 18446744073709551616) :
    Calls Try.prog 61 #[.int .i64 op, .int .i64 a, .int .u64 x, .int .u64 y] w fun e w' => e = .returned (.tuple #[.int .u64 (b2n (cmpB op a (fitN a x) (fitN a y)) : Nat), .int .i64 0]) ∧ w = w' := by
  have h1 : isBin op = true := by simp [isBin]; omega
  have h2 : isCmp op = true := by simp [isCmp]; omega
  go_enter Try.func61, Try.ntmps61
  go_wp2_with fail
  refine (isbin_any op _).mono ?_
  rintro e w' ⟨rfl, rfl⟩
  go_wp2_with fail
  refine (fit_any a x _ hx).mono ?_
  rintro e w' ⟨rfl, rfl⟩
  go_wp2_with fail
  refine (fit_any a y _ hy).mono ?_
  rintro e w' ⟨rfl, rfl⟩
  go_wp2_with fail
  refine (iscmp_any op _).mono ?_
  rintro e w' ⟨rfl, rfl⟩
  go_wp2_with fail
  refine (cmp_any op a _ _ _ hop (fitN_lt a x) (fitN_lt a y)).mono ?_
  rintro e w' ⟨rfl, rfl⟩
  go_wp2_with fail
  refine (word_any _ _).mono ?_
  rintro e w' ⟨rfl, rfl⟩
  go_wp2_with fail
  go_ret2
  exact ⟨rfl, rfl⟩

theorem binary_sdiv (op a : Int) (x y : Nat) (w : World) (hop : op = 7 ∨ op = 8) (ha : 1 ≤ a ∧ a ≤ 64) (hx : x < 18446744073709551616) (hy : y < 18446744073709551616) :
    Calls Try.prog 61 #[.int .i64 op, .int .i64 a, .int .u64 x, .int .u64 y] w fun e w' => e = .returned (.tuple #[.int .u64 (sdivN op a (fitN a x) (fitN a y) : Nat), .int .i64 0]) ∧ w = w' := by
  have h1 : isBin op = true := by simp [isBin]; omega
  have h2 : isCmp op = false := by simp [isCmp]; omega
  have hop' := hop
  rcases hop' with rfl | rfl
  all_goals
    clear hop
    go_enter Try.func61, Try.ntmps61
    go_wp2_with fail
    refine (isbin_any _ _).mono ?_
    rintro e w' ⟨rfl, rfl⟩
    go_wp2_with fail
    refine (fit_any a x _ hx).mono ?_
    rintro e w' ⟨rfl, rfl⟩
    go_wp2_with fail
    refine (fit_any a y _ hy).mono ?_
    rintro e w' ⟨rfl, rfl⟩
    go_wp2_with fail
    refine (iscmp_any _ _).mono ?_
    rintro e w' ⟨rfl, rfl⟩
    go_wp2_with fail
    refine (sdiv_any _ a _ _ _ (by omega) (fitN_lt a x) (fitN_lt a y)).mono ?_
    rintro e w' ⟨rfl, rfl⟩
    go_wp2_with fail
    go_ret2
    exact ⟨rfl, rfl⟩

theorem binary_shift (op a : Int) (x y : Nat) (w : World) (hop : op = 12 ∨ op = 13 ∨ op = 14) (ha : 1 ≤ a ∧ a ≤ 64) (hx : x < 18446744073709551616) (hy : y < 18446744073709551616) :
    Calls Try.prog 61 #[.int .i64 op, .int .i64 a, .int .u64 x, .int .u64 y] w fun e w' => e = .returned (.tuple #[.int .u64 (shiftN op a (fitN a x) (fitN a y) : Nat), .int .i64 0]) ∧ w = w' := by
  have h1 : isBin op = true := by simp [isBin]; omega
  have h2 : isCmp op = false := by simp [isCmp]; omega
  have hop' := hop
  rcases hop' with rfl | rfl | rfl
  all_goals
    clear hop
    go_enter Try.func61, Try.ntmps61
    go_wp2_with fail
    refine (isbin_any _ _).mono ?_
    rintro e w' ⟨rfl, rfl⟩
    go_wp2_with fail
    refine (fit_any a x _ hx).mono ?_
    rintro e w' ⟨rfl, rfl⟩
    go_wp2_with fail
    refine (fit_any a y _ hy).mono ?_
    rintro e w' ⟨rfl, rfl⟩
    go_wp2_with fail
    refine (iscmp_any _ _).mono ?_
    rintro e w' ⟨rfl, rfl⟩
    go_wp2_with fail
    refine (shift_any _ a _ _ _ (by omega) ha (fitN_lt a x) (fitN_lt a y)).mono ?_
    rintro e w' ⟨rfl, rfl⟩
    go_wp2_with fail
    go_ret2
    exact ⟨rfl, rfl⟩

theorem binary_plain (op a : Int) (x y : Nat) (w : World) (hop : op = 2 ∨ op = 3 ∨ op = 4 ∨ op = 5 ∨ op = 6 ∨ op = 9 ∨ op = 10 ∨ op = 11) (ha : 1 ≤ a ∧ a ≤ 64) (hx : x < 18446744073709551616) (hy : y < 18446744073709551616) :
    Calls Try.prog 61 #[.int .i64 op, .int .i64 a, .int .u64 x, .int .u64 y] w fun e w' => e = .returned (.tuple #[.int .u64 (fitN a (plainN op a (fitN a x) (fitN a y)) : Nat), .int .i64 0]) ∧ w = w' := by
  have h1 : isBin op = true := by simp [isBin]; omega
  have h2 : isCmp op = false := by simp [isCmp]; omega
  have hop' := hop
  rcases hop' with rfl | rfl | rfl | rfl | rfl | rfl | rfl | rfl
  all_goals
    clear hop
    go_enter Try.func61, Try.ntmps61
    go_wp2_with fail
    refine (isbin_any _ _).mono ?_
    rintro e w' ⟨rfl, rfl⟩
    go_wp2_with fail
    refine (fit_any a x _ hx).mono ?_
    rintro e w' ⟨rfl, rfl⟩
    go_wp2_with fail
    refine (fit_any a y _ hy).mono ?_
    rintro e w' ⟨rfl, rfl⟩
    go_wp2_with fail
    refine (iscmp_any _ _).mono ?_
    rintro e w' ⟨rfl, rfl⟩
    go_wp2_with fail
    refine (plain_any _ a _ _ _ (by omega) (fitN_lt a x) (fitN_lt a y)).mono ?_
    rintro e w' ⟨rfl, rfl⟩
    go_wp2_with fail
    refine (fit_any a _ _ (plain_lt _ a _ _ (fitN_lt a x) (fitN_lt a y))).mono ?_
    rintro e w' ⟨rfl, rfl⟩
    go_wp2_with fail
    go_ret2
    exact ⟨rfl, rfl⟩

theorem binary_any (op a : Int) (x y : Nat) (w : World) (hx : x < 18446744073709551616) (hy : y < 18446744073709551616) :
    Calls Try.prog 61 #[.int .i64 op, .int .i64 a, .int .u64 x, .int .u64 y] w fun e w' => e = .returned (.tuple #[.int .u64 (binN op a x y : Nat), .int .i64 (binE op a)]) ∧ w = w' := by
  by_cases h : okB op a = true
  · have hop : 2 ≤ op ∧ op ≤ 20 := by simp [okB, isBin] at h; omega
    have ha : 1 ≤ a ∧ a ≤ 64 := by simp [okB] at h; omega
    have e0 : binE op a = 0 := by simp [binE, h]
    have e1 : binN op a x y = binF op a (fitN a x) (fitN a y) := by simp [binN, h]
    rw [e0, e1]
    by_cases hc : 15 ≤ op
    · have h2 : isCmp op = true := by simp [isCmp]; omega
      rw [show binF op a (fitN a x) (fitN a y) = b2n (cmpB op a (fitN a x) (fitN a y)) by simp only [binF, h2, if_true]]
      exact binary_cmp op a x y w ⟨hc, hop.2⟩ ha hx hy
    · have h2 : isCmp op = false := by simp [isCmp]; omega
      by_cases hd : op = 7 ∨ op = 8
      · rw [show binF op a (fitN a x) (fitN a y) = sdivN op a (fitN a x) (fitN a y) by simp [binF, h2, hd]]
        exact binary_sdiv op a x y w hd ha hx hy
      · by_cases hs : op = 12 ∨ op = 13 ∨ op = 14
        · rw [show binF op a (fitN a x) (fitN a y) = shiftN op a (fitN a x) (fitN a y) by simp [binF, h2, hd, hs]]
          exact binary_shift op a x y w hs ha hx hy
        · rw [show binF op a (fitN a x) (fitN a y) = fitN a (plainN op a (fitN a x) (fitN a y)) by simp [binF, h2, hd, hs]]
          exact binary_plain op a x y w (by omega) ha hx hy
  · have h' : okB op a = false := by simpa using h
    have e0 : binE op a = 1 := by simp [binE, h']
    have e1 : binN op a x y = 0 := by simp [binN, h']
    rw [e0, e1]
    exact binary_bad op a x y w h'
end Go.Proofs.Ythkdojgagmaecab
