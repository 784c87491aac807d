/- BitsCommute: operators that Commutes and Associates name have these properties. -/
import Derived.Test.YtcehihpjaijllaaAwake01
import Derived.Test.YtcehihpjaijllaaMathC
import Derived.Below
namespace Go.Proofs.Ytcehihpjaijllaa
open Go.RowKit

def comB (op : Int) : Bool := decide (op = 2 ∨ op = 4 ∨ op = 9 ∨ op = 10 ∨ op = 11 ∨ op = 15 ∨ op = 16)
def assB (op : Int) : Bool := decide (op = 2 ∨ op = 4 ∨ op = 9 ∨ op = 10 ∨ op = 11)
theorem op_cases (op : Int) : op = 2 ∨ op = 4 ∨ op = 9 ∨ op = 10 ∨ op = 11 ∨ op = 15 ∨ op = 16 ∨ op < 2 ∨ op = 3 ∨ (5 ≤ op ∧ op ≤ 8) ∨ (12 ≤ op ∧ op ≤ 14) ∨ 17 ≤ op := by omega

set_option maxHeartbeats 1000000 in
theorem commutes_any (op : Int) (w : World) :
    Calls Try.prog 25 #[.int .i64 op] w fun e w' => e = .returned (.bool (comB op)) ∧ w = w' := by
  rcases op_cases op with rfl | rfl | rfl | rfl | rfl | rfl | rfl | h | rfl | ⟨h, h'⟩ | ⟨h, h'⟩ | h
  case inr.inr.inr.inr.inr.inr.inr.inl | inr.inr.inr.inr.inr.inr.inr.inr.inr.inl | inr.inr.inr.inr.inr.inr.inr.inr.inr.inr.inl | inr.inr.inr.inr.inr.inr.inr.inr.inr.inr.inr =>
    have H := Lib.hid (show comB op = false by simp [comB]; omega)
    go_enter Try.func25, Try.ntmps25
    go_wp2_with fail
    go_ret
    exact ⟨by rw [H.out]; rfl, rfl⟩
  all_goals
    go_enter Try.func25, Try.ntmps25
    go_wp2_with fail
    go_ret
    exact ⟨rfl, rfl⟩
set_option maxHeartbeats 1000000 in
theorem associates_any (op : Int) (w : World) :
    Calls Try.prog 26 #[.int .i64 op] w fun e w' => e = .returned (.bool (assB op)) ∧ w = w' := by
  rcases op_cases op with rfl | rfl | rfl | rfl | rfl | rfl | rfl | h | rfl | ⟨h, h'⟩ | ⟨h, h'⟩ | h
  case inr.inr.inr.inr.inr.inr.inr.inl | inr.inr.inr.inr.inr.inr.inr.inr.inr.inl | inr.inr.inr.inr.inr.inr.inr.inr.inr.inr.inl | inr.inr.inr.inr.inr.inr.inr.inr.inr.inr.inr =>
    have H := Lib.hid (show assB op = false by simp [assB]; omega)
    go_enter Try.func26, Try.ntmps26
    go_wp2_with fail
    go_ret
    exact ⟨by rw [H.out]; rfl, rfl⟩
  all_goals
    go_enter Try.func26, Try.ntmps26
    go_wp2_with fail
    go_ret
    exact ⟨rfl, rfl⟩

set_option maxHeartbeats 4000000 in
theorem commute_none (op a : Int) (x y z : Nat) (w : World) (hr : rightB a = false) (h : op = 2 ∨ op = 4 ∨ op = 9 ∨ op = 10 ∨ op = 11 ∨ op = 15 ∨ op = 16) :
    Calls Try.prog 7 #[.int .i64 op, .int .i64 a, .agg #[.int .u64 x, .int .u64 y, .int .u64 z]] w fun e w' => e = .returned (.bool true) ∧ Below w.heap.size w w' := by
  have hc : comB op = true := by simp [comB]; omega
  have hs5 : op ≤ 11 → assB op = true := by intro h; simp [assB]; omega
  have hs2 : 15 ≤ op → assB op = false := by intro h; simp [assB]; omega
  rcases h with rfl | rfl | rfl | rfl | rfl | rfl | rfl
  case inr.inr.inr.inr.inr.inl | inr.inr.inr.inr.inr.inr =>
    have hs := hs2 (by omega)
    clear hs2 hs5
    go_enter Try.func7, Try.ntmps7
    go_wp2_with fail
    refine (awake_any _).mono ?_
    rintro e w' ⟨rfl, rfl⟩
    go_wp2_with fail
    refine (commutes_any _ _).mono ?_
    rintro e w' ⟨rfl, rfl⟩
    go_wp2_with fail
    refine (associates_any _ _).mono ?_
    rintro e w' ⟨rfl, rfl⟩
    go_wp2_with fail
    refine (right_any a _).mono ?_
    rintro e w' ⟨rfl, rfl⟩
    go_wp2_with fail
    go_ret
    exact ⟨rfl, by repeat (first | exact Below.refl _ _ | apply Below.drew | refine Below.alloc ?_ (Nat.le_refl _) _)⟩
  all_goals
    have hs := hs5 (by omega)
    clear hs2 hs5
    go_enter Try.func7, Try.ntmps7
    go_wp2_with fail
    refine (awake_any _).mono ?_
    rintro e w' ⟨rfl, rfl⟩
    go_wp2_with fail
    refine (commutes_any _ _).mono ?_
    rintro e w' ⟨rfl, rfl⟩
    go_wp2_with fail
    refine (associates_any _ _).mono ?_
    rintro e w' ⟨rfl, rfl⟩
    go_wp2_with fail
    refine (right_any a _).mono ?_
    rintro e w' ⟨rfl, rfl⟩
    go_wp2_with fail
    go_ret
    exact ⟨rfl, by repeat (first | exact Below.refl _ _ | apply Below.drew | refine Below.alloc ?_ (Nat.le_refl _) _)⟩

set_option maxHeartbeats 4000000 in
theorem commute_two (op a : Int) (x y z : Nat) (w : World) (hx : x < 18446744073709551616) (hy : y < 18446744073709551616) (ha : 1 ≤ a) (hb : a ≤ 64) (h : op = 15 ∨ op = 16) :
    Calls Try.prog 7 #[.int .i64 op, .int .i64 a, .agg #[.int .u64 x, .int .u64 y, .int .u64 z]] w fun e w' => e = .returned (.bool true) ∧ Below w.heap.size w w' := by
  have hr : rightB a = true := by simp [rightB]; omega
  have H1 := Lib.hid (bin_comm op a y x ha hb (by omega))
  have hc : comB op = true := by simp [comB]; omega
  have hs : assB op = false := by simp [assB]; omega
  rcases h with rfl | rfl
  all_goals
    go_enter Try.func7, Try.ntmps7
    go_wp2_with fail
    refine (awake_any _).mono ?_
    rintro e w' ⟨rfl, rfl⟩
    go_wp2_with fail
    refine (commutes_any _ _).mono ?_
    rintro e w' ⟨rfl, rfl⟩
    go_wp2_with fail
    refine (associates_any _ _).mono ?_
    rintro e w' ⟨rfl, rfl⟩
    go_wp2_with fail
    refine (right_any a _).mono ?_
    rintro e w' ⟨rfl, rfl⟩
    go_wp2_with fail
    refine (commutes_any _ _).mono ?_
    rintro e w' ⟨rfl, rfl⟩
    go_wp2_with fail
    refine (binary_any _ a x y _ hx hy).mono ?_
    rintro e w' ⟨rfl, rfl⟩
    go_wp2_with fail
    refine (binary_any _ a y x _ hy hx).mono ?_
    rintro e w' ⟨rfl, rfl⟩
    rw [H1.out]
    go_wp2_with fail
    refine (associates_any _ _).mono ?_
    rintro e w' ⟨rfl, rfl⟩
    go_wp2_with fail
    go_ret
    exact ⟨rfl, by repeat (first | exact Below.refl _ _ | apply Below.drew | refine Below.alloc ?_ (Nat.le_refl _) _)⟩

set_option maxHeartbeats 4000000 in
theorem commute_five (op a : Int) (x y z : Nat) (w : World) (hx : x < 18446744073709551616) (hy : y < 18446744073709551616) (hz : z < 18446744073709551616) (ha : 1 ≤ a) (hb : a ≤ 64) (h : op = 2 ∨ op = 4 ∨ op = 9 ∨ op = 10 ∨ op = 11) :
    Calls Try.prog 7 #[.int .i64 op, .int .i64 a, .agg #[.int .u64 x, .int .u64 y, .int .u64 z]] w fun e w' => e = .returned (.bool true) ∧ Below w.heap.size w w' := by
  have hr : rightB a = true := by simp [rightB]; omega
  have H1 := Lib.hid (bin_comm op a y x ha hb (by omega))
  have H2 := Lib.hid (bin_assoc op a x y z ha hb h)
  have hc : comB op = true := by simp [comB]; omega
  have hs : assB op = true := by simp [assB]; omega
  have l1 := bin_lt op a x y
  have l2 := bin_lt op a y z
  rcases h with rfl | rfl | rfl | rfl | rfl
  all_goals
    go_enter Try.func7, Try.ntmps7
    go_wp2_with fail
    refine (awake_any _).mono ?_
    rintro e w' ⟨rfl, rfl⟩
    go_wp2_with fail
    refine (commutes_any _ _).mono ?_
    rintro e w' ⟨rfl, rfl⟩
    go_wp2_with fail
    refine (associates_any _ _).mono ?_
    rintro e w' ⟨rfl, rfl⟩
    go_wp2_with fail
    refine (right_any a _).mono ?_
    rintro e w' ⟨rfl, rfl⟩
    go_wp2_with fail
    refine (commutes_any _ _).mono ?_
    rintro e w' ⟨rfl, rfl⟩
    go_wp2_with fail
    refine (binary_any _ a x y _ hx hy).mono ?_
    rintro e w' ⟨rfl, rfl⟩
    go_wp2_with fail
    refine (binary_any _ a y x _ hy hx).mono ?_
    rintro e w' ⟨rfl, rfl⟩
    rw [H1.out]
    go_wp2_with fail
    refine (associates_any _ _).mono ?_
    rintro e w' ⟨rfl, rfl⟩
    go_wp2_with fail
    refine (binary_any _ a x y _ hx hy).mono ?_
    rintro e w' ⟨rfl, rfl⟩
    go_wp2_with fail
    refine (binary_any _ a y z _ hy hz).mono ?_
    rintro e w' ⟨rfl, rfl⟩
    go_wp2_with fail
    refine (binary_any _ a _ z _ l1 hz).mono ?_
    rintro e w' ⟨rfl, rfl⟩
    go_wp2_with fail
    refine (binary_any _ a x _ _ hx l2).mono ?_
    rintro e w' ⟨rfl, rfl⟩
    rw [H2.out]
    go_wp2_with fail
    go_ret
    exact ⟨rfl, by repeat (first | exact Below.refl _ _ | apply Below.drew | refine Below.alloc ?_ (Nat.le_refl _) _)⟩
set_option maxHeartbeats 4000000 in
theorem commute_other (op a : Int) (x y z : Nat) (w : World) (h : op < 2 ∨ op = 3 ∨ (5 ≤ op ∧ op ≤ 8) ∨ (12 ≤ op ∧ op ≤ 14) ∨ 17 ≤ op) :
    Calls Try.prog 7 #[.int .i64 op, .int .i64 a, .agg #[.int .u64 x, .int .u64 y, .int .u64 z]] w fun e w' => e = .returned (.bool true) ∧ Below w.heap.size w w' := by
  have hc : comB op = false := by simp [comB]; omega
  have hs : assB op = false := by simp [assB]; omega
  have e2 : (op == 2) = false := by rw [beq_eq_false_iff_ne]; omega
  have e4 : (op == 4) = false := by rw [beq_eq_false_iff_ne]; omega
  have e9 : (op == 9) = false := by rw [beq_eq_false_iff_ne]; omega
  have e10 : (op == 10) = false := by rw [beq_eq_false_iff_ne]; omega
  have e11 : (op == 11) = false := by rw [beq_eq_false_iff_ne]; omega
  have e15 : (op == 15) = false := by rw [beq_eq_false_iff_ne]; omega
  have e16 : (op == 16) = false := by rw [beq_eq_false_iff_ne]; omega
  clear h
  by_cases hr : rightB a = true
  · go_enter Try.func7, Try.ntmps7
    go_wp2_with fail
    refine (awake_any _).mono ?_
    rintro e w' ⟨rfl, rfl⟩
    go_wp2_with fail
    refine (commutes_any _ _).mono ?_
    rintro e w' ⟨rfl, rfl⟩
    go_wp2_with fail
    refine (associates_any _ _).mono ?_
    rintro e w' ⟨rfl, rfl⟩
    go_wp2_with fail
    refine (right_any a _).mono ?_
    rintro e w' ⟨rfl, rfl⟩
    go_wp2_with fail
    refine (commutes_any _ _).mono ?_
    rintro e w' ⟨rfl, rfl⟩
    go_wp2_with fail
    refine (associates_any _ _).mono ?_
    rintro e w' ⟨rfl, rfl⟩
    go_wp2_with fail
    go_ret
    exact ⟨rfl, by repeat (first | exact Below.refl _ _ | apply Below.drew | refine Below.alloc ?_ (Nat.le_refl _) _)⟩
  · have hr' : rightB a = false := by simpa using hr
    clear hr
    go_enter Try.func7, Try.ntmps7
    go_wp2_with fail
    refine (awake_any _).mono ?_
    rintro e w' ⟨rfl, rfl⟩
    go_wp2_with fail
    refine (commutes_any _ _).mono ?_
    rintro e w' ⟨rfl, rfl⟩
    go_wp2_with fail
    refine (associates_any _ _).mono ?_
    rintro e w' ⟨rfl, rfl⟩
    go_wp2_with fail
    refine (right_any a _).mono ?_
    rintro e w' ⟨rfl, rfl⟩
    go_wp2_with fail
    go_ret
    exact ⟨rfl, by repeat (first | exact Below.refl _ _ | apply Below.drew | refine Below.alloc ?_ (Nat.le_refl _) _)⟩

theorem commute_walk (op a : Int) (x y z : Nat) (w : World) (hx : x < 18446744073709551616) (hy : y < 18446744073709551616) (hz : z < 18446744073709551616) :
    Calls Try.prog 7 #[.int .i64 op, .int .i64 a, .agg #[.int .u64 x, .int .u64 y, .int .u64 z]] w fun e w' => e = .returned (.bool true) ∧ Below w.heap.size w w' := by
  have c := op_cases op
  by_cases h : op < 2 ∨ op = 3 ∨ (5 ≤ op ∧ op ≤ 8) ∨ (12 ≤ op ∧ op ≤ 14) ∨ 17 ≤ op
  · exact commute_other op a x y z w h
  · by_cases hr : rightB a = true
    · have hr1 : 1 ≤ a ∧ a ≤ 64 := by simpa [rightB] using hr
      by_cases h5 : op ≤ 11
      · exact commute_five op a x y z w hx hy hz hr1.1 hr1.2 (by omega)
      · exact commute_two op a x y z w hx hy hr1.1 hr1.2 (by omega)
    · exact commute_none op a x y z w (by simpa using hr) (by omega)
end Go.Proofs.Ytcehihpjaijllaa
