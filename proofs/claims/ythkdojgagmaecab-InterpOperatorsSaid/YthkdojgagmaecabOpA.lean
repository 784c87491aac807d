/- Binary operators of the source language: interp.Apply, interp.Convert, and the reference. -/
import Derived.Test.YthkdojgagmaecabMathC
import Derived.Test.YthkdojgagmaecabBitsD
import Derived.Test.YthkdojgagmaecabExt
namespace Go.Proofs.Ythkdojgagmaecab
open Go.RowKit

/-- The operator of layer 1, 0 if there is none. -/
def f2N (op : Int) (s : Bool) : Int :=
  if op = 1 then 2 else if op = 2 then 3 else if op = 3 then 4 else if op = 4 then (bif s then 7 else 5) else if op = 5 then (bif s then 8 else 6) else if op = 6 then 9 else if op = 7 then 10 else if op = 8 then 11 else if op = 9 then 12 else if op = 10 then (bif s then 14 else 13) else if op = 11 then 15 else if op = 12 then 16 else if op = 13 then (bif s then 19 else 17) else if op = 14 then (bif s then 20 else 18) else if op = 15 then (bif s then 19 else 17) else if op = 16 then (bif s then 20 else 18) else if op = 17 then 9 else if op = 18 then 10 else 0
def plN (op : Int) (s : Bool) : Int :=
  if op = 1 then 2 else if op = 2 then 3 else if op = 3 then 4 else if op = 6 then 9 else if op = 7 then 10 else if op = 8 then 11 else if op = 9 then 12 else if op = 11 then 15 else if op = 12 then 16 else 0
theorem opr_any (op : Int) (w : World) :
    Calls Try.prog 60 #[.int .i64 op] w fun e w' => e = .returned (.int .i64 (plN op false)) ∧ w = w' := by
  by_cases h : op = 1 ∨ op = 2 ∨ op = 3 ∨ op = 6 ∨ op = 7 ∨ op = 8 ∨ op = 9 ∨ op = 11 ∨ op = 12
  · rcases h with rfl | rfl | rfl | rfl | rfl | rfl | rfl | rfl | rfl
    · have H := Lib.hid (show plN 1 false = 2 by decide)
      go_enter Try.func60, Try.ntmps60
      go_wp2_with fail
      go_ret
      exact ⟨by rw [H.out]; rfl, rfl⟩
    · have H := Lib.hid (show plN 2 false = 3 by decide)
      go_enter Try.func60, Try.ntmps60
      go_wp2_with fail
      go_ret
      exact ⟨by rw [H.out]; rfl, rfl⟩
    · have H := Lib.hid (show plN 3 false = 4 by decide)
      go_enter Try.func60, Try.ntmps60
      go_wp2_with fail
      go_ret
      exact ⟨by rw [H.out]; rfl, rfl⟩
    · have H := Lib.hid (show plN 6 false = 9 by decide)
      go_enter Try.func60, Try.ntmps60
      go_wp2_with fail
      go_ret
      exact ⟨by rw [H.out]; rfl, rfl⟩
    · have H := Lib.hid (show plN 7 false = 10 by decide)
      go_enter Try.func60, Try.ntmps60
      go_wp2_with fail
      go_ret
      exact ⟨by rw [H.out]; rfl, rfl⟩
    · have H := Lib.hid (show plN 8 false = 11 by decide)
      go_enter Try.func60, Try.ntmps60
      go_wp2_with fail
      go_ret
      exact ⟨by rw [H.out]; rfl, rfl⟩
    · have H := Lib.hid (show plN 9 false = 12 by decide)
      go_enter Try.func60, Try.ntmps60
      go_wp2_with fail
      go_ret
      exact ⟨by rw [H.out]; rfl, rfl⟩
    · have H := Lib.hid (show plN 11 false = 15 by decide)
      go_enter Try.func60, Try.ntmps60
      go_wp2_with fail
      go_ret
      exact ⟨by rw [H.out]; rfl, rfl⟩
    · have H := Lib.hid (show plN 12 false = 16 by decide)
      go_enter Try.func60, Try.ntmps60
      go_wp2_with fail
      go_ret
      exact ⟨by rw [H.out]; rfl, rfl⟩
  · simp only [not_or] at h
    obtain ⟨q1, q2, q3, q6, q7, q8, q9, q11, q12⟩ := h
    have H := Lib.hid (show plN op false = 0 by simp only [plN, q1, q2, q3, q6, q7, q8, q9, q11, q12, if_false])
    go_enter Try.func60, Try.ntmps60
    go_wp2_with fail
    go_ret
    exact ⟨by rw [H.out]; rfl, rfl⟩
theorem sop_4_0 (w : World) :
    Calls Try.prog 59 #[.int .i64 4, .bool false] w fun e w' => e = .returned (.int .i64 5) ∧ w = w' := by
  go_enter Try.func59, Try.ntmps59
  go_wp2_with fail
  go_ret
  exact ⟨rfl, rfl⟩
theorem sop_4_1 (w : World) :
    Calls Try.prog 59 #[.int .i64 4, .bool true] w fun e w' => e = .returned (.int .i64 7) ∧ w = w' := by
  go_enter Try.func59, Try.ntmps59
  go_wp2_with fail
  go_ret
  exact ⟨rfl, rfl⟩
theorem sop_5_0 (w : World) :
    Calls Try.prog 59 #[.int .i64 5, .bool false] w fun e w' => e = .returned (.int .i64 6) ∧ w = w' := by
  go_enter Try.func59, Try.ntmps59
  go_wp2_with fail
  go_ret
  exact ⟨rfl, rfl⟩
theorem sop_5_1 (w : World) :
    Calls Try.prog 59 #[.int .i64 5, .bool true] w fun e w' => e = .returned (.int .i64 8) ∧ w = w' := by
  go_enter Try.func59, Try.ntmps59
  go_wp2_with fail
  go_ret
  exact ⟨rfl, rfl⟩
theorem sop_10_0 (w : World) :
    Calls Try.prog 59 #[.int .i64 10, .bool false] w fun e w' => e = .returned (.int .i64 13) ∧ w = w' := by
  go_enter Try.func59, Try.ntmps59
  go_wp2_with fail
  go_ret
  exact ⟨rfl, rfl⟩
theorem sop_10_1 (w : World) :
    Calls Try.prog 59 #[.int .i64 10, .bool true] w fun e w' => e = .returned (.int .i64 14) ∧ w = w' := by
  go_enter Try.func59, Try.ntmps59
  go_wp2_with fail
  go_ret
  exact ⟨rfl, rfl⟩
theorem sop_13_0 (w : World) :
    Calls Try.prog 59 #[.int .i64 13, .bool false] w fun e w' => e = .returned (.int .i64 17) ∧ w = w' := by
  go_enter Try.func59, Try.ntmps59
  go_wp2_with fail
  go_ret
  exact ⟨rfl, rfl⟩
theorem sop_13_1 (w : World) :
    Calls Try.prog 59 #[.int .i64 13, .bool true] w fun e w' => e = .returned (.int .i64 19) ∧ w = w' := by
  go_enter Try.func59, Try.ntmps59
  go_wp2_with fail
  go_ret
  exact ⟨rfl, rfl⟩
theorem sop_14_0 (w : World) :
    Calls Try.prog 59 #[.int .i64 14, .bool false] w fun e w' => e = .returned (.int .i64 18) ∧ w = w' := by
  go_enter Try.func59, Try.ntmps59
  go_wp2_with fail
  go_ret
  exact ⟨rfl, rfl⟩
theorem sop_14_1 (w : World) :
    Calls Try.prog 59 #[.int .i64 14, .bool true] w fun e w' => e = .returned (.int .i64 20) ∧ w = w' := by
  go_enter Try.func59, Try.ntmps59
  go_wp2_with fail
  go_ret
  exact ⟨rfl, rfl⟩
set_option maxHeartbeats 4000000 in
theorem func2_any (op : Int) (s : Bool) (w : World) :
    Calls Try.prog 62 #[.int .i64 op, .bool s] w fun e w' => e = .returned (.int .i64 (f2N op s)) ∧ Below w.heap.size w w' := by
  by_cases h : op = 1 ∨ op = 2 ∨ op = 3 ∨ op = 4 ∨ op = 5 ∨ op = 6 ∨ op = 7 ∨ op = 8 ∨ op = 9 ∨ op = 10 ∨ op = 11 ∨ op = 12 ∨ op = 13 ∨ op = 14 ∨ op = 15 ∨ op = 16 ∨ op = 17 ∨ op = 18
  · rcases h with rfl | rfl | rfl | rfl | rfl | rfl | rfl | rfl | rfl | rfl | rfl | rfl | rfl | rfl | rfl | rfl | rfl | rfl
    · cases s
      · have H := Lib.hid (show f2N 1 false = 2 by decide)
        go_enter Try.func62, Try.ntmps62
        go_wp2_with fail
        go_ret
        exact ⟨by rw [H.out]; rfl, by (repeat (first | exact Below.refl _ _ | apply Below.drew | refine Below.alloc ?_ (by simp <;> omega) _ | refine Below.setCell ?_ (by simp) _))⟩
      · have H := Lib.hid (show f2N 1 true = 2 by decide)
        go_enter Try.func62, Try.ntmps62
        go_wp2_with fail
        go_ret
        exact ⟨by rw [H.out]; rfl, by (repeat (first | exact Below.refl _ _ | apply Below.drew | refine Below.alloc ?_ (by simp <;> omega) _ | refine Below.setCell ?_ (by simp) _))⟩
    · cases s
      · have H := Lib.hid (show f2N 2 false = 3 by decide)
        go_enter Try.func62, Try.ntmps62
        go_wp2_with fail
        go_ret
        exact ⟨by rw [H.out]; rfl, by (repeat (first | exact Below.refl _ _ | apply Below.drew | refine Below.alloc ?_ (by simp <;> omega) _ | refine Below.setCell ?_ (by simp) _))⟩
      · have H := Lib.hid (show f2N 2 true = 3 by decide)
        go_enter Try.func62, Try.ntmps62
        go_wp2_with fail
        go_ret
        exact ⟨by rw [H.out]; rfl, by (repeat (first | exact Below.refl _ _ | apply Below.drew | refine Below.alloc ?_ (by simp <;> omega) _ | refine Below.setCell ?_ (by simp) _))⟩
    · cases s
      · have H := Lib.hid (show f2N 3 false = 4 by decide)
        go_enter Try.func62, Try.ntmps62
        go_wp2_with fail
        go_ret
        exact ⟨by rw [H.out]; rfl, by (repeat (first | exact Below.refl _ _ | apply Below.drew | refine Below.alloc ?_ (by simp <;> omega) _ | refine Below.setCell ?_ (by simp) _))⟩
      · have H := Lib.hid (show f2N 3 true = 4 by decide)
        go_enter Try.func62, Try.ntmps62
        go_wp2_with fail
        go_ret
        exact ⟨by rw [H.out]; rfl, by (repeat (first | exact Below.refl _ _ | apply Below.drew | refine Below.alloc ?_ (by simp <;> omega) _ | refine Below.setCell ?_ (by simp) _))⟩
    · cases s
      · have H := Lib.hid (show f2N 4 false = 5 by decide)
        go_enter Try.func62, Try.ntmps62
        go_wp2_with fail
        go_ret
        exact ⟨by rw [H.out]; rfl, by (repeat (first | exact Below.refl _ _ | apply Below.drew | refine Below.alloc ?_ (by simp <;> omega) _ | refine Below.setCell ?_ (by simp) _))⟩
      · have H := Lib.hid (show f2N 4 true = 7 by decide)
        go_enter Try.func62, Try.ntmps62
        go_wp2_with fail
        go_ret
        exact ⟨by rw [H.out]; rfl, by (repeat (first | exact Below.refl _ _ | apply Below.drew | refine Below.alloc ?_ (by simp <;> omega) _ | refine Below.setCell ?_ (by simp) _))⟩
    · cases s
      · have H := Lib.hid (show f2N 5 false = 6 by decide)
        go_enter Try.func62, Try.ntmps62
        go_wp2_with fail
        go_ret
        exact ⟨by rw [H.out]; rfl, by (repeat (first | exact Below.refl _ _ | apply Below.drew | refine Below.alloc ?_ (by simp <;> omega) _ | refine Below.setCell ?_ (by simp) _))⟩
      · have H := Lib.hid (show f2N 5 true = 8 by decide)
        go_enter Try.func62, Try.ntmps62
        go_wp2_with fail
        go_ret
        exact ⟨by rw [H.out]; rfl, by (repeat (first | exact Below.refl _ _ | apply Below.drew | refine Below.alloc ?_ (by simp <;> omega) _ | refine Below.setCell ?_ (by simp) _))⟩
    · cases s
      · have H := Lib.hid (show f2N 6 false = 9 by decide)
        go_enter Try.func62, Try.ntmps62
        go_wp2_with fail
        go_ret
        exact ⟨by rw [H.out]; rfl, by (repeat (first | exact Below.refl _ _ | apply Below.drew | refine Below.alloc ?_ (by simp <;> omega) _ | refine Below.setCell ?_ (by simp) _))⟩
      · have H := Lib.hid (show f2N 6 true = 9 by decide)
        go_enter Try.func62, Try.ntmps62
        go_wp2_with fail
        go_ret
        exact ⟨by rw [H.out]; rfl, by (repeat (first | exact Below.refl _ _ | apply Below.drew | refine Below.alloc ?_ (by simp <;> omega) _ | refine Below.setCell ?_ (by simp) _))⟩
    · cases s
      · have H := Lib.hid (show f2N 7 false = 10 by decide)
        go_enter Try.func62, Try.ntmps62
        go_wp2_with fail
        go_ret
        exact ⟨by rw [H.out]; rfl, by (repeat (first | exact Below.refl _ _ | apply Below.drew | refine Below.alloc ?_ (by simp <;> omega) _ | refine Below.setCell ?_ (by simp) _))⟩
      · have H := Lib.hid (show f2N 7 true = 10 by decide)
        go_enter Try.func62, Try.ntmps62
        go_wp2_with fail
        go_ret
        exact ⟨by rw [H.out]; rfl, by (repeat (first | exact Below.refl _ _ | apply Below.drew | refine Below.alloc ?_ (by simp <;> omega) _ | refine Below.setCell ?_ (by simp) _))⟩
    · cases s
      · have H := Lib.hid (show f2N 8 false = 11 by decide)
        go_enter Try.func62, Try.ntmps62
        go_wp2_with fail
        go_ret
        exact ⟨by rw [H.out]; rfl, by (repeat (first | exact Below.refl _ _ | apply Below.drew | refine Below.alloc ?_ (by simp <;> omega) _ | refine Below.setCell ?_ (by simp) _))⟩
      · have H := Lib.hid (show f2N 8 true = 11 by decide)
        go_enter Try.func62, Try.ntmps62
        go_wp2_with fail
        go_ret
        exact ⟨by rw [H.out]; rfl, by (repeat (first | exact Below.refl _ _ | apply Below.drew | refine Below.alloc ?_ (by simp <;> omega) _ | refine Below.setCell ?_ (by simp) _))⟩
    · cases s
      · have H := Lib.hid (show f2N 9 false = 12 by decide)
        go_enter Try.func62, Try.ntmps62
        go_wp2_with fail
        go_ret
        exact ⟨by rw [H.out]; rfl, by (repeat (first | exact Below.refl _ _ | apply Below.drew | refine Below.alloc ?_ (by simp <;> omega) _ | refine Below.setCell ?_ (by simp) _))⟩
      · have H := Lib.hid (show f2N 9 true = 12 by decide)
        go_enter Try.func62, Try.ntmps62
        go_wp2_with fail
        go_ret
        exact ⟨by rw [H.out]; rfl, by (repeat (first | exact Below.refl _ _ | apply Below.drew | refine Below.alloc ?_ (by simp <;> omega) _ | refine Below.setCell ?_ (by simp) _))⟩
    · cases s
      · have H := Lib.hid (show f2N 10 false = 13 by decide)
        go_enter Try.func62, Try.ntmps62
        go_wp2_with fail
        go_ret
        exact ⟨by rw [H.out]; rfl, by (repeat (first | exact Below.refl _ _ | apply Below.drew | refine Below.alloc ?_ (by simp <;> omega) _ | refine Below.setCell ?_ (by simp) _))⟩
      · have H := Lib.hid (show f2N 10 true = 14 by decide)
        go_enter Try.func62, Try.ntmps62
        go_wp2_with fail
        go_ret
        exact ⟨by rw [H.out]; rfl, by (repeat (first | exact Below.refl _ _ | apply Below.drew | refine Below.alloc ?_ (by simp <;> omega) _ | refine Below.setCell ?_ (by simp) _))⟩
    · cases s
      · have H := Lib.hid (show f2N 11 false = 15 by decide)
        go_enter Try.func62, Try.ntmps62
        go_wp2_with fail
        go_ret
        exact ⟨by rw [H.out]; rfl, by (repeat (first | exact Below.refl _ _ | apply Below.drew | refine Below.alloc ?_ (by simp <;> omega) _ | refine Below.setCell ?_ (by simp) _))⟩
      · have H := Lib.hid (show f2N 11 true = 15 by decide)
        go_enter Try.func62, Try.ntmps62
        go_wp2_with fail
        go_ret
        exact ⟨by rw [H.out]; rfl, by (repeat (first | exact Below.refl _ _ | apply Below.drew | refine Below.alloc ?_ (by simp <;> omega) _ | refine Below.setCell ?_ (by simp) _))⟩
    · cases s
      · have H := Lib.hid (show f2N 12 false = 16 by decide)
        go_enter Try.func62, Try.ntmps62
        go_wp2_with fail
        go_ret
        exact ⟨by rw [H.out]; rfl, by (repeat (first | exact Below.refl _ _ | apply Below.drew | refine Below.alloc ?_ (by simp <;> omega) _ | refine Below.setCell ?_ (by simp) _))⟩
      · have H := Lib.hid (show f2N 12 true = 16 by decide)
        go_enter Try.func62, Try.ntmps62
        go_wp2_with fail
        go_ret
        exact ⟨by rw [H.out]; rfl, by (repeat (first | exact Below.refl _ _ | apply Below.drew | refine Below.alloc ?_ (by simp <;> omega) _ | refine Below.setCell ?_ (by simp) _))⟩
    · cases s
      · have H := Lib.hid (show f2N 13 false = 17 by decide)
        go_enter Try.func62, Try.ntmps62
        go_wp2_with fail
        go_ret
        exact ⟨by rw [H.out]; rfl, by (repeat (first | exact Below.refl _ _ | apply Below.drew | refine Below.alloc ?_ (by simp <;> omega) _ | refine Below.setCell ?_ (by simp) _))⟩
      · have H := Lib.hid (show f2N 13 true = 19 by decide)
        go_enter Try.func62, Try.ntmps62
        go_wp2_with fail
        go_ret
        exact ⟨by rw [H.out]; rfl, by (repeat (first | exact Below.refl _ _ | apply Below.drew | refine Below.alloc ?_ (by simp <;> omega) _ | refine Below.setCell ?_ (by simp) _))⟩
    · cases s
      · have H := Lib.hid (show f2N 14 false = 18 by decide)
        go_enter Try.func62, Try.ntmps62
        go_wp2_with fail
        go_ret
        exact ⟨by rw [H.out]; rfl, by (repeat (first | exact Below.refl _ _ | apply Below.drew | refine Below.alloc ?_ (by simp <;> omega) _ | refine Below.setCell ?_ (by simp) _))⟩
      · have H := Lib.hid (show f2N 14 true = 20 by decide)
        go_enter Try.func62, Try.ntmps62
        go_wp2_with fail
        go_ret
        exact ⟨by rw [H.out]; rfl, by (repeat (first | exact Below.refl _ _ | apply Below.drew | refine Below.alloc ?_ (by simp <;> omega) _ | refine Below.setCell ?_ (by simp) _))⟩
    · cases s
      · have H := Lib.hid (show f2N 15 false = 17 by decide)
        go_enter Try.func62, Try.ntmps62
        go_wp2_with fail
        go_ret
        exact ⟨by rw [H.out]; rfl, by (repeat (first | exact Below.refl _ _ | apply Below.drew | refine Below.alloc ?_ (by simp <;> omega) _ | refine Below.setCell ?_ (by simp) _))⟩
      · have H := Lib.hid (show f2N 15 true = 19 by decide)
        go_enter Try.func62, Try.ntmps62
        go_wp2_with fail
        go_ret
        exact ⟨by rw [H.out]; rfl, by (repeat (first | exact Below.refl _ _ | apply Below.drew | refine Below.alloc ?_ (by simp <;> omega) _ | refine Below.setCell ?_ (by simp) _))⟩
    · cases s
      · have H := Lib.hid (show f2N 16 false = 18 by decide)
        go_enter Try.func62, Try.ntmps62
        go_wp2_with fail
        go_ret
        exact ⟨by rw [H.out]; rfl, by (repeat (first | exact Below.refl _ _ | apply Below.drew | refine Below.alloc ?_ (by simp <;> omega) _ | refine Below.setCell ?_ (by simp) _))⟩
      · have H := Lib.hid (show f2N 16 true = 20 by decide)
        go_enter Try.func62, Try.ntmps62
        go_wp2_with fail
        go_ret
        exact ⟨by rw [H.out]; rfl, by (repeat (first | exact Below.refl _ _ | apply Below.drew | refine Below.alloc ?_ (by simp <;> omega) _ | refine Below.setCell ?_ (by simp) _))⟩
    · cases s
      · have H := Lib.hid (show f2N 17 false = 9 by decide)
        go_enter Try.func62, Try.ntmps62
        go_wp2_with fail
        go_ret
        exact ⟨by rw [H.out]; rfl, by (repeat (first | exact Below.refl _ _ | apply Below.drew | refine Below.alloc ?_ (by simp <;> omega) _ | refine Below.setCell ?_ (by simp) _))⟩
      · have H := Lib.hid (show f2N 17 true = 9 by decide)
        go_enter Try.func62, Try.ntmps62
        go_wp2_with fail
        go_ret
        exact ⟨by rw [H.out]; rfl, by (repeat (first | exact Below.refl _ _ | apply Below.drew | refine Below.alloc ?_ (by simp <;> omega) _ | refine Below.setCell ?_ (by simp) _))⟩
    · cases s
      · have H := Lib.hid (show f2N 18 false = 10 by decide)
        go_enter Try.func62, Try.ntmps62
        go_wp2_with fail
        go_ret
        exact ⟨by rw [H.out]; rfl, by (repeat (first | exact Below.refl _ _ | apply Below.drew | refine Below.alloc ?_ (by simp <;> omega) _ | refine Below.setCell ?_ (by simp) _))⟩
      · have H := Lib.hid (show f2N 18 true = 10 by decide)
        go_enter Try.func62, Try.ntmps62
        go_wp2_with fail
        go_ret
        exact ⟨by rw [H.out]; rfl, by (repeat (first | exact Below.refl _ _ | apply Below.drew | refine Below.alloc ?_ (by simp <;> omega) _ | refine Below.setCell ?_ (by simp) _))⟩
  · simp only [not_or] at h
    obtain ⟨q1, q2, q3, q4, q5, q6, q7, q8, q9, q10, q11, q12, q13, q14, q15, q16, q17, q18⟩ := h
    have H := Lib.hid (show f2N op s = 0 by simp only [f2N, q1, q2, q3, q4, q5, q6, q7, q8, q9, q10, q11, q12, q13, q14, q15, q16, q17, q18, if_false])
    have hlo : op < 1 ∨ 18 < op := by omega
    clear q1 q2 q3 q4 q5 q6 q7 q8 q9 q10 q11 q12 q13 q14 q15 q16 q17 q18
    rcases hlo with hlo | hlo
    · go_enter Try.func62, Try.ntmps62
      go_wp2_with fail
      go_ret
      exact ⟨by rw [H.out]; rfl, by (repeat (first | exact Below.refl _ _ | apply Below.drew | refine Below.alloc ?_ (by simp <;> omega) _ | refine Below.setCell ?_ (by simp) _))⟩
    · have hn : ¬ op < 1 := by omega
      go_enter Try.func62, Try.ntmps62
      go_wp2_with fail
      go_ret
      exact ⟨by rw [H.out]; rfl, by (repeat (first | exact Below.refl _ _ | apply Below.drew | refine Below.alloc ?_ (by simp <;> omega) _ | refine Below.setCell ?_ (by simp) _))⟩
/-- What a binary operator of the source language answers on two words of a type. -/
def appN (op a : Int) (s : Bool) (x y : Nat) : Nat :=
  if op = 15 ∨ op = 16 then binN (f2N op s) a y x else if op = 17 ∨ op = 18 then (if 1 ≤ a ∧ a ≤ 64 then binN (f2N op s) 1 x y else 0) else binN (f2N op s) a x y
theorem bin_none (a : Int) (x y : Nat) : binN 0 a x y = 0 := by simp [binN, okB, isBin]
theorem bin_bad (op a : Int) (x y : Nat) (h : ¬ (1 ≤ a ∧ a ≤ 64)) : binN op a x y = 0 := by
  have : okB op a = false := by simp only [okB, h, decide_false, Bool.and_false]
  simp [binN, this]
theorem app_bad (op a : Int) (s : Bool) (x y : Nat) (h : ¬ (1 ≤ a ∧ a ≤ 64)) : appN op a s x y = 0 := by
  unfold appN; rw [if_neg h, bin_bad _ _ _ _ h, bin_bad _ _ _ _ h]
  split
  · rfl
  · split <;> rfl
theorem app_1_0 (a : Int) (x y : Nat) (hx : x < 18446744073709551616) (hy : y < 18446744073709551616) (w : World) :
    Calls Try.prog 42 #[.int .i64 1, .agg #[.int .i64 a, .bool false], .int .u64 (x : Nat), .int .u64 (y : Nat)] w fun e w' => e = .returned (.int .u64 (binN 2 a x y : Nat)) ∧ Below w.heap.size w w' := by
  have C1 := fun w => opr_any 1 w
  rw [show plN 1 false = 2 by decide] at C1
  have C2 := fun w => binary_any 2 a x y w hx hy
  generalize binN 2 a x y = R at C2 ⊢
  generalize binE 2 a = E at C2
  go_enter Try.func42, Try.ntmps42
  go_wp2_with fail
  refine (C1 _).mono ?_
  rintro e w1 ⟨rfl, rfl⟩
  go_wp2_with fail
  refine (C2 _).mono ?_
  rintro e w1 ⟨rfl, rfl⟩
  go_wp2_with fail
  go_ret
  exact ⟨rfl, by (repeat (first | exact Below.refl _ _ | apply Below.drew | refine Below.alloc ?_ (by simp <;> omega) _ | refine Below.setCell ?_ (by simp) _))⟩
theorem app_1_1 (a : Int) (x y : Nat) (hx : x < 18446744073709551616) (hy : y < 18446744073709551616) (w : World) :
    Calls Try.prog 42 #[.int .i64 1, .agg #[.int .i64 a, .bool true], .int .u64 (x : Nat), .int .u64 (y : Nat)] w fun e w' => e = .returned (.int .u64 (binN 2 a x y : Nat)) ∧ Below w.heap.size w w' := by
  have C1 := fun w => opr_any 1 w
  rw [show plN 1 false = 2 by decide] at C1
  have C2 := fun w => binary_any 2 a x y w hx hy
  generalize binN 2 a x y = R at C2 ⊢
  generalize binE 2 a = E at C2
  go_enter Try.func42, Try.ntmps42
  go_wp2_with fail
  refine (C1 _).mono ?_
  rintro e w1 ⟨rfl, rfl⟩
  go_wp2_with fail
  refine (C2 _).mono ?_
  rintro e w1 ⟨rfl, rfl⟩
  go_wp2_with fail
  go_ret
  exact ⟨rfl, by (repeat (first | exact Below.refl _ _ | apply Below.drew | refine Below.alloc ?_ (by simp <;> omega) _ | refine Below.setCell ?_ (by simp) _))⟩
theorem app_2_0 (a : Int) (x y : Nat) (hx : x < 18446744073709551616) (hy : y < 18446744073709551616) (w : World) :
    Calls Try.prog 42 #[.int .i64 2, .agg #[.int .i64 a, .bool false], .int .u64 (x : Nat), .int .u64 (y : Nat)] w fun e w' => e = .returned (.int .u64 (binN 3 a x y : Nat)) ∧ Below w.heap.size w w' := by
  have C1 := fun w => opr_any 2 w
  rw [show plN 2 false = 3 by decide] at C1
  have C2 := fun w => binary_any 3 a x y w hx hy
  generalize binN 3 a x y = R at C2 ⊢
  generalize binE 3 a = E at C2
  go_enter Try.func42, Try.ntmps42
  go_wp2_with fail
  refine (C1 _).mono ?_
  rintro e w1 ⟨rfl, rfl⟩
  go_wp2_with fail
  refine (C2 _).mono ?_
  rintro e w1 ⟨rfl, rfl⟩
  go_wp2_with fail
  go_ret
  exact ⟨rfl, by (repeat (first | exact Below.refl _ _ | apply Below.drew | refine Below.alloc ?_ (by simp <;> omega) _ | refine Below.setCell ?_ (by simp) _))⟩
theorem app_2_1 (a : Int) (x y : Nat) (hx : x < 18446744073709551616) (hy : y < 18446744073709551616) (w : World) :
    Calls Try.prog 42 #[.int .i64 2, .agg #[.int .i64 a, .bool true], .int .u64 (x : Nat), .int .u64 (y : Nat)] w fun e w' => e = .returned (.int .u64 (binN 3 a x y : Nat)) ∧ Below w.heap.size w w' := by
  have C1 := fun w => opr_any 2 w
  rw [show plN 2 false = 3 by decide] at C1
  have C2 := fun w => binary_any 3 a x y w hx hy
  generalize binN 3 a x y = R at C2 ⊢
  generalize binE 3 a = E at C2
  go_enter Try.func42, Try.ntmps42
  go_wp2_with fail
  refine (C1 _).mono ?_
  rintro e w1 ⟨rfl, rfl⟩
  go_wp2_with fail
  refine (C2 _).mono ?_
  rintro e w1 ⟨rfl, rfl⟩
  go_wp2_with fail
  go_ret
  exact ⟨rfl, by (repeat (first | exact Below.refl _ _ | apply Below.drew | refine Below.alloc ?_ (by simp <;> omega) _ | refine Below.setCell ?_ (by simp) _))⟩
theorem app_3_0 (a : Int) (x y : Nat) (hx : x < 18446744073709551616) (hy : y < 18446744073709551616) (w : World) :
    Calls Try.prog 42 #[.int .i64 3, .agg #[.int .i64 a, .bool false], .int .u64 (x : Nat), .int .u64 (y : Nat)] w fun e w' => e = .returned (.int .u64 (binN 4 a x y : Nat)) ∧ Below w.heap.size w w' := by
  have C1 := fun w => opr_any 3 w
  rw [show plN 3 false = 4 by decide] at C1
  have C2 := fun w => binary_any 4 a x y w hx hy
  generalize binN 4 a x y = R at C2 ⊢
  generalize binE 4 a = E at C2
  go_enter Try.func42, Try.ntmps42
  go_wp2_with fail
  refine (C1 _).mono ?_
  rintro e w1 ⟨rfl, rfl⟩
  go_wp2_with fail
  refine (C2 _).mono ?_
  rintro e w1 ⟨rfl, rfl⟩
  go_wp2_with fail
  go_ret
  exact ⟨rfl, by (repeat (first | exact Below.refl _ _ | apply Below.drew | refine Below.alloc ?_ (by simp <;> omega) _ | refine Below.setCell ?_ (by simp) _))⟩
theorem app_3_1 (a : Int) (x y : Nat) (hx : x < 18446744073709551616) (hy : y < 18446744073709551616) (w : World) :
    Calls Try.prog 42 #[.int .i64 3, .agg #[.int .i64 a, .bool true], .int .u64 (x : Nat), .int .u64 (y : Nat)] w fun e w' => e = .returned (.int .u64 (binN 4 a x y : Nat)) ∧ Below w.heap.size w w' := by
  have C1 := fun w => opr_any 3 w
  rw [show plN 3 false = 4 by decide] at C1
  have C2 := fun w => binary_any 4 a x y w hx hy
  generalize binN 4 a x y = R at C2 ⊢
  generalize binE 4 a = E at C2
  go_enter Try.func42, Try.ntmps42
  go_wp2_with fail
  refine (C1 _).mono ?_
  rintro e w1 ⟨rfl, rfl⟩
  go_wp2_with fail
  refine (C2 _).mono ?_
  rintro e w1 ⟨rfl, rfl⟩
  go_wp2_with fail
  go_ret
  exact ⟨rfl, by (repeat (first | exact Below.refl _ _ | apply Below.drew | refine Below.alloc ?_ (by simp <;> omega) _ | refine Below.setCell ?_ (by simp) _))⟩
theorem app_4_0 (a : Int) (x y : Nat) (hx : x < 18446744073709551616) (hy : y < 18446744073709551616) (w : World) :
    Calls Try.prog 42 #[.int .i64 4, .agg #[.int .i64 a, .bool false], .int .u64 (x : Nat), .int .u64 (y : Nat)] w fun e w' => e = .returned (.int .u64 (binN 5 a x y : Nat)) ∧ Below w.heap.size w w' := by
  have C1 := fun w => sop_4_0 w
  have C2 := fun w => binary_any 5 a x y w hx hy
  generalize binN 5 a x y = R at C2 ⊢
  generalize binE 5 a = E at C2
  go_enter Try.func42, Try.ntmps42
  go_wp2_with fail
  refine (C1 _).mono ?_
  rintro e w1 ⟨rfl, rfl⟩
  go_wp2_with fail
  refine (C2 _).mono ?_
  rintro e w1 ⟨rfl, rfl⟩
  go_wp2_with fail
  go_ret
  exact ⟨rfl, by (repeat (first | exact Below.refl _ _ | apply Below.drew | refine Below.alloc ?_ (by simp <;> omega) _ | refine Below.setCell ?_ (by simp) _))⟩
theorem app_4_1 (a : Int) (x y : Nat) (hx : x < 18446744073709551616) (hy : y < 18446744073709551616) (w : World) :
    Calls Try.prog 42 #[.int .i64 4, .agg #[.int .i64 a, .bool true], .int .u64 (x : Nat), .int .u64 (y : Nat)] w fun e w' => e = .returned (.int .u64 (binN 7 a x y : Nat)) ∧ Below w.heap.size w w' := by
  have C1 := fun w => sop_4_1 w
  have C2 := fun w => binary_any 7 a x y w hx hy
  generalize binN 7 a x y = R at C2 ⊢
  generalize binE 7 a = E at C2
  go_enter Try.func42, Try.ntmps42
  go_wp2_with fail
  refine (C1 _).mono ?_
  rintro e w1 ⟨rfl, rfl⟩
  go_wp2_with fail
  refine (C2 _).mono ?_
  rintro e w1 ⟨rfl, rfl⟩
  go_wp2_with fail
  go_ret
  exact ⟨rfl, by (repeat (first | exact Below.refl _ _ | apply Below.drew | refine Below.alloc ?_ (by simp <;> omega) _ | refine Below.setCell ?_ (by simp) _))⟩
theorem app_5_0 (a : Int) (x y : Nat) (hx : x < 18446744073709551616) (hy : y < 18446744073709551616) (w : World) :
    Calls Try.prog 42 #[.int .i64 5, .agg #[.int .i64 a, .bool false], .int .u64 (x : Nat), .int .u64 (y : Nat)] w fun e w' => e = .returned (.int .u64 (binN 6 a x y : Nat)) ∧ Below w.heap.size w w' := by
  have C1 := fun w => sop_5_0 w
  have C2 := fun w => binary_any 6 a x y w hx hy
  generalize binN 6 a x y = R at C2 ⊢
  generalize binE 6 a = E at C2
  go_enter Try.func42, Try.ntmps42
  go_wp2_with fail
  refine (C1 _).mono ?_
  rintro e w1 ⟨rfl, rfl⟩
  go_wp2_with fail
  refine (C2 _).mono ?_
  rintro e w1 ⟨rfl, rfl⟩
  go_wp2_with fail
  go_ret
  exact ⟨rfl, by (repeat (first | exact Below.refl _ _ | apply Below.drew | refine Below.alloc ?_ (by simp <;> omega) _ | refine Below.setCell ?_ (by simp) _))⟩
theorem app_5_1 (a : Int) (x y : Nat) (hx : x < 18446744073709551616) (hy : y < 18446744073709551616) (w : World) :
    Calls Try.prog 42 #[.int .i64 5, .agg #[.int .i64 a, .bool true], .int .u64 (x : Nat), .int .u64 (y : Nat)] w fun e w' => e = .returned (.int .u64 (binN 8 a x y : Nat)) ∧ Below w.heap.size w w' := by
  have C1 := fun w => sop_5_1 w
  have C2 := fun w => binary_any 8 a x y w hx hy
  generalize binN 8 a x y = R at C2 ⊢
  generalize binE 8 a = E at C2
  go_enter Try.func42, Try.ntmps42
  go_wp2_with fail
  refine (C1 _).mono ?_
  rintro e w1 ⟨rfl, rfl⟩
  go_wp2_with fail
  refine (C2 _).mono ?_
  rintro e w1 ⟨rfl, rfl⟩
  go_wp2_with fail
  go_ret
  exact ⟨rfl, by (repeat (first | exact Below.refl _ _ | apply Below.drew | refine Below.alloc ?_ (by simp <;> omega) _ | refine Below.setCell ?_ (by simp) _))⟩
theorem app_6_0 (a : Int) (x y : Nat) (hx : x < 18446744073709551616) (hy : y < 18446744073709551616) (w : World) :
    Calls Try.prog 42 #[.int .i64 6, .agg #[.int .i64 a, .bool false], .int .u64 (x : Nat), .int .u64 (y : Nat)] w fun e w' => e = .returned (.int .u64 (binN 9 a x y : Nat)) ∧ Below w.heap.size w w' := by
  have C1 := fun w => opr_any 6 w
  rw [show plN 6 false = 9 by decide] at C1
  have C2 := fun w => binary_any 9 a x y w hx hy
  generalize binN 9 a x y = R at C2 ⊢
  generalize binE 9 a = E at C2
  go_enter Try.func42, Try.ntmps42
  go_wp2_with fail
  refine (C1 _).mono ?_
  rintro e w1 ⟨rfl, rfl⟩
  go_wp2_with fail
  refine (C2 _).mono ?_
  rintro e w1 ⟨rfl, rfl⟩
  go_wp2_with fail
  go_ret
  exact ⟨rfl, by (repeat (first | exact Below.refl _ _ | apply Below.drew | refine Below.alloc ?_ (by simp <;> omega) _ | refine Below.setCell ?_ (by simp) _))⟩
theorem app_6_1 (a : Int) (x y : Nat) (hx : x < 18446744073709551616) (hy : y < 18446744073709551616) (w : World) :
    Calls Try.prog 42 #[.int .i64 6, .agg #[.int .i64 a, .bool true], .int .u64 (x : Nat), .int .u64 (y : Nat)] w fun e w' => e = .returned (.int .u64 (binN 9 a x y : Nat)) ∧ Below w.heap.size w w' := by
  have C1 := fun w => opr_any 6 w
  rw [show plN 6 false = 9 by decide] at C1
  have C2 := fun w => binary_any 9 a x y w hx hy
  generalize binN 9 a x y = R at C2 ⊢
  generalize binE 9 a = E at C2
  go_enter Try.func42, Try.ntmps42
  go_wp2_with fail
  refine (C1 _).mono ?_
  rintro e w1 ⟨rfl, rfl⟩
  go_wp2_with fail
  refine (C2 _).mono ?_
  rintro e w1 ⟨rfl, rfl⟩
  go_wp2_with fail
  go_ret
  exact ⟨rfl, by (repeat (first | exact Below.refl _ _ | apply Below.drew | refine Below.alloc ?_ (by simp <;> omega) _ | refine Below.setCell ?_ (by simp) _))⟩
theorem app_7_0 (a : Int) (x y : Nat) (hx : x < 18446744073709551616) (hy : y < 18446744073709551616) (w : World) :
    Calls Try.prog 42 #[.int .i64 7, .agg #[.int .i64 a, .bool false], .int .u64 (x : Nat), .int .u64 (y : Nat)] w fun e w' => e = .returned (.int .u64 (binN 10 a x y : Nat)) ∧ Below w.heap.size w w' := by
  have C1 := fun w => opr_any 7 w
  rw [show plN 7 false = 10 by decide] at C1
  have C2 := fun w => binary_any 10 a x y w hx hy
  generalize binN 10 a x y = R at C2 ⊢
  generalize binE 10 a = E at C2
  go_enter Try.func42, Try.ntmps42
  go_wp2_with fail
  refine (C1 _).mono ?_
  rintro e w1 ⟨rfl, rfl⟩
  go_wp2_with fail
  refine (C2 _).mono ?_
  rintro e w1 ⟨rfl, rfl⟩
  go_wp2_with fail
  go_ret
  exact ⟨rfl, by (repeat (first | exact Below.refl _ _ | apply Below.drew | refine Below.alloc ?_ (by simp <;> omega) _ | refine Below.setCell ?_ (by simp) _))⟩
theorem app_7_1 (a : Int) (x y : Nat) (hx : x < 18446744073709551616) (hy : y < 18446744073709551616) (w : World) :
    Calls Try.prog 42 #[.int .i64 7, .agg #[.int .i64 a, .bool true], .int .u64 (x : Nat), .int .u64 (y : Nat)] w fun e w' => e = .returned (.int .u64 (binN 10 a x y : Nat)) ∧ Below w.heap.size w w' := by
  have C1 := fun w => opr_any 7 w
  rw [show plN 7 false = 10 by decide] at C1
  have C2 := fun w => binary_any 10 a x y w hx hy
  generalize binN 10 a x y = R at C2 ⊢
  generalize binE 10 a = E at C2
  go_enter Try.func42, Try.ntmps42
  go_wp2_with fail
  refine (C1 _).mono ?_
  rintro e w1 ⟨rfl, rfl⟩
  go_wp2_with fail
  refine (C2 _).mono ?_
  rintro e w1 ⟨rfl, rfl⟩
  go_wp2_with fail
  go_ret
  exact ⟨rfl, by (repeat (first | exact Below.refl _ _ | apply Below.drew | refine Below.alloc ?_ (by simp <;> omega) _ | refine Below.setCell ?_ (by simp) _))⟩
theorem app_8_0 (a : Int) (x y : Nat) (hx : x < 18446744073709551616) (hy : y < 18446744073709551616) (w : World) :
    Calls Try.prog 42 #[.int .i64 8, .agg #[.int .i64 a, .bool false], .int .u64 (x : Nat), .int .u64 (y : Nat)] w fun e w' => e = .returned (.int .u64 (binN 11 a x y : Nat)) ∧ Below w.heap.size w w' := by
  have C1 := fun w => opr_any 8 w
  rw [show plN 8 false = 11 by decide] at C1
  have C2 := fun w => binary_any 11 a x y w hx hy
  generalize binN 11 a x y = R at C2 ⊢
  generalize binE 11 a = E at C2
  go_enter Try.func42, Try.ntmps42
  go_wp2_with fail
  refine (C1 _).mono ?_
  rintro e w1 ⟨rfl, rfl⟩
  go_wp2_with fail
  refine (C2 _).mono ?_
  rintro e w1 ⟨rfl, rfl⟩
  go_wp2_with fail
  go_ret
  exact ⟨rfl, by (repeat (first | exact Below.refl _ _ | apply Below.drew | refine Below.alloc ?_ (by simp <;> omega) _ | refine Below.setCell ?_ (by simp) _))⟩
theorem app_8_1 (a : Int) (x y : Nat) (hx : x < 18446744073709551616) (hy : y < 18446744073709551616) (w : World) :
    Calls Try.prog 42 #[.int .i64 8, .agg #[.int .i64 a, .bool true], .int .u64 (x : Nat), .int .u64 (y : Nat)] w fun e w' => e = .returned (.int .u64 (binN 11 a x y : Nat)) ∧ Below w.heap.size w w' := by
  have C1 := fun w => opr_any 8 w
  rw [show plN 8 false = 11 by decide] at C1
  have C2 := fun w => binary_any 11 a x y w hx hy
  generalize binN 11 a x y = R at C2 ⊢
  generalize binE 11 a = E at C2
  go_enter Try.func42, Try.ntmps42
  go_wp2_with fail
  refine (C1 _).mono ?_
  rintro e w1 ⟨rfl, rfl⟩
  go_wp2_with fail
  refine (C2 _).mono ?_
  rintro e w1 ⟨rfl, rfl⟩
  go_wp2_with fail
  go_ret
  exact ⟨rfl, by (repeat (first | exact Below.refl _ _ | apply Below.drew | refine Below.alloc ?_ (by simp <;> omega) _ | refine Below.setCell ?_ (by simp) _))⟩
theorem app_9_0 (a : Int) (x y : Nat) (hx : x < 18446744073709551616) (hy : y < 18446744073709551616) (w : World) :
    Calls Try.prog 42 #[.int .i64 9, .agg #[.int .i64 a, .bool false], .int .u64 (x : Nat), .int .u64 (y : Nat)] w fun e w' => e = .returned (.int .u64 (binN 12 a x y : Nat)) ∧ Below w.heap.size w w' := by
  have C1 := fun w => opr_any 9 w
  rw [show plN 9 false = 12 by decide] at C1
  have C2 := fun w => binary_any 12 a x y w hx hy
  generalize binN 12 a x y = R at C2 ⊢
  generalize binE 12 a = E at C2
  go_enter Try.func42, Try.ntmps42
  go_wp2_with fail
  refine (C1 _).mono ?_
  rintro e w1 ⟨rfl, rfl⟩
  go_wp2_with fail
  refine (C2 _).mono ?_
  rintro e w1 ⟨rfl, rfl⟩
  go_wp2_with fail
  go_ret
  exact ⟨rfl, by (repeat (first | exact Below.refl _ _ | apply Below.drew | refine Below.alloc ?_ (by simp <;> omega) _ | refine Below.setCell ?_ (by simp) _))⟩
theorem app_9_1 (a : Int) (x y : Nat) (hx : x < 18446744073709551616) (hy : y < 18446744073709551616) (w : World) :
    Calls Try.prog 42 #[.int .i64 9, .agg #[.int .i64 a, .bool true], .int .u64 (x : Nat), .int .u64 (y : Nat)] w fun e w' => e = .returned (.int .u64 (binN 12 a x y : Nat)) ∧ Below w.heap.size w w' := by
  have C1 := fun w => opr_any 9 w
  rw [show plN 9 false = 12 by decide] at C1
  have C2 := fun w => binary_any 12 a x y w hx hy
  generalize binN 12 a x y = R at C2 ⊢
  generalize binE 12 a = E at C2
  go_enter Try.func42, Try.ntmps42
  go_wp2_with fail
  refine (C1 _).mono ?_
  rintro e w1 ⟨rfl, rfl⟩
  go_wp2_with fail
  refine (C2 _).mono ?_
  rintro e w1 ⟨rfl, rfl⟩
  go_wp2_with fail
  go_ret
  exact ⟨rfl, by (repeat (first | exact Below.refl _ _ | apply Below.drew | refine Below.alloc ?_ (by simp <;> omega) _ | refine Below.setCell ?_ (by simp) _))⟩
theorem app_10_0 (a : Int) (x y : Nat) (hx : x < 18446744073709551616) (hy : y < 18446744073709551616) (w : World) :
    Calls Try.prog 42 #[.int .i64 10, .agg #[.int .i64 a, .bool false], .int .u64 (x : Nat), .int .u64 (y : Nat)] w fun e w' => e = .returned (.int .u64 (binN 13 a x y : Nat)) ∧ Below w.heap.size w w' := by
  have C1 := fun w => sop_10_0 w
  have C2 := fun w => binary_any 13 a x y w hx hy
  generalize binN 13 a x y = R at C2 ⊢
  generalize binE 13 a = E at C2
  go_enter Try.func42, Try.ntmps42
  go_wp2_with fail
  refine (C1 _).mono ?_
  rintro e w1 ⟨rfl, rfl⟩
  go_wp2_with fail
  refine (C2 _).mono ?_
  rintro e w1 ⟨rfl, rfl⟩
  go_wp2_with fail
  go_ret
  exact ⟨rfl, by (repeat (first | exact Below.refl _ _ | apply Below.drew | refine Below.alloc ?_ (by simp <;> omega) _ | refine Below.setCell ?_ (by simp) _))⟩
theorem app_10_1 (a : Int) (x y : Nat) (hx : x < 18446744073709551616) (hy : y < 18446744073709551616) (w : World) :
    Calls Try.prog 42 #[.int .i64 10, .agg #[.int .i64 a, .bool true], .int .u64 (x : Nat), .int .u64 (y : Nat)] w fun e w' => e = .returned (.int .u64 (binN 14 a x y : Nat)) ∧ Below w.heap.size w w' := by
  have C1 := fun w => sop_10_1 w
  have C2 := fun w => binary_any 14 a x y w hx hy
  generalize binN 14 a x y = R at C2 ⊢
  generalize binE 14 a = E at C2
  go_enter Try.func42, Try.ntmps42
  go_wp2_with fail
  refine (C1 _).mono ?_
  rintro e w1 ⟨rfl, rfl⟩
  go_wp2_with fail
  refine (C2 _).mono ?_
  rintro e w1 ⟨rfl, rfl⟩
  go_wp2_with fail
  go_ret
  exact ⟨rfl, by (repeat (first | exact Below.refl _ _ | apply Below.drew | refine Below.alloc ?_ (by simp <;> omega) _ | refine Below.setCell ?_ (by simp) _))⟩
theorem app_11_0 (a : Int) (x y : Nat) (hx : x < 18446744073709551616) (hy : y < 18446744073709551616) (w : World) :
    Calls Try.prog 42 #[.int .i64 11, .agg #[.int .i64 a, .bool false], .int .u64 (x : Nat), .int .u64 (y : Nat)] w fun e w' => e = .returned (.int .u64 (binN 15 a x y : Nat)) ∧ Below w.heap.size w w' := by
  have C1 := fun w => opr_any 11 w
  rw [show plN 11 false = 15 by decide] at C1
  have C2 := fun w => binary_any 15 a x y w hx hy
  generalize binN 15 a x y = R at C2 ⊢
  generalize binE 15 a = E at C2
  go_enter Try.func42, Try.ntmps42
  go_wp2_with fail
  refine (C1 _).mono ?_
  rintro e w1 ⟨rfl, rfl⟩
  go_wp2_with fail
  refine (C2 _).mono ?_
  rintro e w1 ⟨rfl, rfl⟩
  go_wp2_with fail
  go_ret
  exact ⟨rfl, by (repeat (first | exact Below.refl _ _ | apply Below.drew | refine Below.alloc ?_ (by simp <;> omega) _ | refine Below.setCell ?_ (by simp) _))⟩
theorem app_11_1 (a : Int) (x y : Nat) (hx : x < 18446744073709551616) (hy : y < 18446744073709551616) (w : World) :
    Calls Try.prog 42 #[.int .i64 11, .agg #[.int .i64 a, .bool true], .int .u64 (x : Nat), .int .u64 (y : Nat)] w fun e w' => e = .returned (.int .u64 (binN 15 a x y : Nat)) ∧ Below w.heap.size w w' := by
  have C1 := fun w => opr_any 11 w
  rw [show plN 11 false = 15 by decide] at C1
  have C2 := fun w => binary_any 15 a x y w hx hy
  generalize binN 15 a x y = R at C2 ⊢
  generalize binE 15 a = E at C2
  go_enter Try.func42, Try.ntmps42
  go_wp2_with fail
  refine (C1 _).mono ?_
  rintro e w1 ⟨rfl, rfl⟩
  go_wp2_with fail
  refine (C2 _).mono ?_
  rintro e w1 ⟨rfl, rfl⟩
  go_wp2_with fail
  go_ret
  exact ⟨rfl, by (repeat (first | exact Below.refl _ _ | apply Below.drew | refine Below.alloc ?_ (by simp <;> omega) _ | refine Below.setCell ?_ (by simp) _))⟩
theorem app_12_0 (a : Int) (x y : Nat) (hx : x < 18446744073709551616) (hy : y < 18446744073709551616) (w : World) :
    Calls Try.prog 42 #[.int .i64 12, .agg #[.int .i64 a, .bool false], .int .u64 (x : Nat), .int .u64 (y : Nat)] w fun e w' => e = .returned (.int .u64 (binN 16 a x y : Nat)) ∧ Below w.heap.size w w' := by
  have C1 := fun w => opr_any 12 w
  rw [show plN 12 false = 16 by decide] at C1
  have C2 := fun w => binary_any 16 a x y w hx hy
  generalize binN 16 a x y = R at C2 ⊢
  generalize binE 16 a = E at C2
  go_enter Try.func42, Try.ntmps42
  go_wp2_with fail
  refine (C1 _).mono ?_
  rintro e w1 ⟨rfl, rfl⟩
  go_wp2_with fail
  refine (C2 _).mono ?_
  rintro e w1 ⟨rfl, rfl⟩
  go_wp2_with fail
  go_ret
  exact ⟨rfl, by (repeat (first | exact Below.refl _ _ | apply Below.drew | refine Below.alloc ?_ (by simp <;> omega) _ | refine Below.setCell ?_ (by simp) _))⟩
theorem app_12_1 (a : Int) (x y : Nat) (hx : x < 18446744073709551616) (hy : y < 18446744073709551616) (w : World) :
    Calls Try.prog 42 #[.int .i64 12, .agg #[.int .i64 a, .bool true], .int .u64 (x : Nat), .int .u64 (y : Nat)] w fun e w' => e = .returned (.int .u64 (binN 16 a x y : Nat)) ∧ Below w.heap.size w w' := by
  have C1 := fun w => opr_any 12 w
  rw [show plN 12 false = 16 by decide] at C1
  have C2 := fun w => binary_any 16 a x y w hx hy
  generalize binN 16 a x y = R at C2 ⊢
  generalize binE 16 a = E at C2
  go_enter Try.func42, Try.ntmps42
  go_wp2_with fail
  refine (C1 _).mono ?_
  rintro e w1 ⟨rfl, rfl⟩
  go_wp2_with fail
  refine (C2 _).mono ?_
  rintro e w1 ⟨rfl, rfl⟩
  go_wp2_with fail
  go_ret
  exact ⟨rfl, by (repeat (first | exact Below.refl _ _ | apply Below.drew | refine Below.alloc ?_ (by simp <;> omega) _ | refine Below.setCell ?_ (by simp) _))⟩
theorem app_13_0 (a : Int) (x y : Nat) (hx : x < 18446744073709551616) (hy : y < 18446744073709551616) (w : World) :
    Calls Try.prog 42 #[.int .i64 13, .agg #[.int .i64 a, .bool false], .int .u64 (x : Nat), .int .u64 (y : Nat)] w fun e w' => e = .returned (.int .u64 (binN 17 a x y : Nat)) ∧ Below w.heap.size w w' := by
  have C1 := fun w => sop_13_0 w
  have C2 := fun w => binary_any 17 a x y w hx hy
  generalize binN 17 a x y = R at C2 ⊢
  generalize binE 17 a = E at C2
  go_enter Try.func42, Try.ntmps42
  go_wp2_with fail
  refine (C1 _).mono ?_
  rintro e w1 ⟨rfl, rfl⟩
  go_wp2_with fail
  refine (C2 _).mono ?_
  rintro e w1 ⟨rfl, rfl⟩
  go_wp2_with fail
  go_ret
  exact ⟨rfl, by (repeat (first | exact Below.refl _ _ | apply Below.drew | refine Below.alloc ?_ (by simp <;> omega) _ | refine Below.setCell ?_ (by simp) _))⟩
theorem app_13_1 (a : Int) (x y : Nat) (hx : x < 18446744073709551616) (hy : y < 18446744073709551616) (w : World) :
    Calls Try.prog 42 #[.int .i64 13, .agg #[.int .i64 a, .bool true], .int .u64 (x : Nat), .int .u64 (y : Nat)] w fun e w' => e = .returned (.int .u64 (binN 19 a x y : Nat)) ∧ Below w.heap.size w w' := by
  have C1 := fun w => sop_13_1 w
  have C2 := fun w => binary_any 19 a x y w hx hy
  generalize binN 19 a x y = R at C2 ⊢
  generalize binE 19 a = E at C2
  go_enter Try.func42, Try.ntmps42
  go_wp2_with fail
  refine (C1 _).mono ?_
  rintro e w1 ⟨rfl, rfl⟩
  go_wp2_with fail
  refine (C2 _).mono ?_
  rintro e w1 ⟨rfl, rfl⟩
  go_wp2_with fail
  go_ret
  exact ⟨rfl, by (repeat (first | exact Below.refl _ _ | apply Below.drew | refine Below.alloc ?_ (by simp <;> omega) _ | refine Below.setCell ?_ (by simp) _))⟩
theorem app_14_0 (a : Int) (x y : Nat) (hx : x < 18446744073709551616) (hy : y < 18446744073709551616) (w : World) :
    Calls Try.prog 42 #[.int .i64 14, .agg #[.int .i64 a, .bool false], .int .u64 (x : Nat), .int .u64 (y : Nat)] w fun e w' => e = .returned (.int .u64 (binN 18 a x y : Nat)) ∧ Below w.heap.size w w' := by
  have C1 := fun w => sop_14_0 w
  have C2 := fun w => binary_any 18 a x y w hx hy
  generalize binN 18 a x y = R at C2 ⊢
  generalize binE 18 a = E at C2
  go_enter Try.func42, Try.ntmps42
  go_wp2_with fail
  refine (C1 _).mono ?_
  rintro e w1 ⟨rfl, rfl⟩
  go_wp2_with fail
  refine (C2 _).mono ?_
  rintro e w1 ⟨rfl, rfl⟩
  go_wp2_with fail
  go_ret
  exact ⟨rfl, by (repeat (first | exact Below.refl _ _ | apply Below.drew | refine Below.alloc ?_ (by simp <;> omega) _ | refine Below.setCell ?_ (by simp) _))⟩
theorem app_14_1 (a : Int) (x y : Nat) (hx : x < 18446744073709551616) (hy : y < 18446744073709551616) (w : World) :
    Calls Try.prog 42 #[.int .i64 14, .agg #[.int .i64 a, .bool true], .int .u64 (x : Nat), .int .u64 (y : Nat)] w fun e w' => e = .returned (.int .u64 (binN 20 a x y : Nat)) ∧ Below w.heap.size w w' := by
  have C1 := fun w => sop_14_1 w
  have C2 := fun w => binary_any 20 a x y w hx hy
  generalize binN 20 a x y = R at C2 ⊢
  generalize binE 20 a = E at C2
  go_enter Try.func42, Try.ntmps42
  go_wp2_with fail
  refine (C1 _).mono ?_
  rintro e w1 ⟨rfl, rfl⟩
  go_wp2_with fail
  refine (C2 _).mono ?_
  rintro e w1 ⟨rfl, rfl⟩
  go_wp2_with fail
  go_ret
  exact ⟨rfl, by (repeat (first | exact Below.refl _ _ | apply Below.drew | refine Below.alloc ?_ (by simp <;> omega) _ | refine Below.setCell ?_ (by simp) _))⟩
theorem app_15_0 (a : Int) (x y : Nat) (hx : x < 18446744073709551616) (hy : y < 18446744073709551616) (w : World) :
    Calls Try.prog 42 #[.int .i64 15, .agg #[.int .i64 a, .bool false], .int .u64 (x : Nat), .int .u64 (y : Nat)] w fun e w' => e = .returned (.int .u64 (binN 17 a y x : Nat)) ∧ Below w.heap.size w w' := by
  have C1 := fun w => app_13_0 a y x hy hx w
  generalize binN 17 a y x = R at C1 ⊢
  go_enter Try.func42, Try.ntmps42
  go_wp2_with fail
  refine (C1 _).mono ?_
  rintro e w1 ⟨rfl, hb1⟩
  go_wp2_with fail
  go_ret
  exact ⟨rfl, ((Below.refl _ _).alloc (Nat.le_refl _) _).trans (hb1.mono (by simp))⟩
theorem app_15_1 (a : Int) (x y : Nat) (hx : x < 18446744073709551616) (hy : y < 18446744073709551616) (w : World) :
    Calls Try.prog 42 #[.int .i64 15, .agg #[.int .i64 a, .bool true], .int .u64 (x : Nat), .int .u64 (y : Nat)] w fun e w' => e = .returned (.int .u64 (binN 19 a y x : Nat)) ∧ Below w.heap.size w w' := by
  have C1 := fun w => app_13_1 a y x hy hx w
  generalize binN 19 a y x = R at C1 ⊢
  go_enter Try.func42, Try.ntmps42
  go_wp2_with fail
  refine (C1 _).mono ?_
  rintro e w1 ⟨rfl, hb1⟩
  go_wp2_with fail
  go_ret
  exact ⟨rfl, ((Below.refl _ _).alloc (Nat.le_refl _) _).trans (hb1.mono (by simp))⟩
theorem app_16_0 (a : Int) (x y : Nat) (hx : x < 18446744073709551616) (hy : y < 18446744073709551616) (w : World) :
    Calls Try.prog 42 #[.int .i64 16, .agg #[.int .i64 a, .bool false], .int .u64 (x : Nat), .int .u64 (y : Nat)] w fun e w' => e = .returned (.int .u64 (binN 18 a y x : Nat)) ∧ Below w.heap.size w w' := by
  have C1 := fun w => app_14_0 a y x hy hx w
  generalize binN 18 a y x = R at C1 ⊢
  go_enter Try.func42, Try.ntmps42
  go_wp2_with fail
  refine (C1 _).mono ?_
  rintro e w1 ⟨rfl, hb1⟩
  go_wp2_with fail
  go_ret
  exact ⟨rfl, ((Below.refl _ _).alloc (Nat.le_refl _) _).trans (hb1.mono (by simp))⟩
theorem app_16_1 (a : Int) (x y : Nat) (hx : x < 18446744073709551616) (hy : y < 18446744073709551616) (w : World) :
    Calls Try.prog 42 #[.int .i64 16, .agg #[.int .i64 a, .bool true], .int .u64 (x : Nat), .int .u64 (y : Nat)] w fun e w' => e = .returned (.int .u64 (binN 20 a y x : Nat)) ∧ Below w.heap.size w w' := by
  have C1 := fun w => app_14_1 a y x hy hx w
  generalize binN 20 a y x = R at C1 ⊢
  go_enter Try.func42, Try.ntmps42
  go_wp2_with fail
  refine (C1 _).mono ?_
  rintro e w1 ⟨rfl, hb1⟩
  go_wp2_with fail
  go_ret
  exact ⟨rfl, ((Below.refl _ _).alloc (Nat.le_refl _) _).trans (hb1.mono (by simp))⟩
theorem app_17_0 (a : Int) (x y : Nat) (hx : x < 18446744073709551616) (hy : y < 18446744073709551616) (h1 : 1 ≤ a) (h2 : a ≤ 64) (w : World) :
    Calls Try.prog 42 #[.int .i64 17, .agg #[.int .i64 a, .bool false], .int .u64 (x : Nat), .int .u64 (y : Nat)] w fun e w' => e = .returned (.int .u64 (binN 9 1 x y : Nat)) ∧ Below w.heap.size w w' := by
  have e1 : binN 9 1 x y = (x &&& y) % 2 := bin_and 1 x y (by decide) (by decide)
  have e2 : bits .and .u64 (x : Int) (y : Int) = ((x &&& y : Nat) : Int) := u64_and_nat _ _ hx hy
  have hl : x &&& y < 18446744073709551616 := by rw [← pow64]; exact Nat.and_lt_two_pow _ (by rw [pow64]; exact hy)
  rw [e1]
  generalize x &&& y = Z at *
  have e3 : bits .and .u64 ((Z : Nat) : Int) 1 = ((Z % 2 : Nat) : Int) := by
    rw [show (1 : Int) = ((1 : Nat) : Int) from rfl, u64_and_nat _ _ hl (by decide), Nat.and_one_is_mod]
  generalize Z % 2 = R at *
  clear e1 hl
  go_enter Try.func42, Try.ntmps42
  go_wp2_with fail
  go_ret
  exact ⟨rfl, by (repeat (first | exact Below.refl _ _ | apply Below.drew | refine Below.alloc ?_ (by simp <;> omega) _ | refine Below.setCell ?_ (by simp) _))⟩
theorem app_17_0_bad (a : Int) (x y : Nat) (h : ¬ (1 ≤ a ∧ a ≤ 64)) (w : World) :
    Calls Try.prog 42 #[.int .i64 17, .agg #[.int .i64 a, .bool false], .int .u64 (x : Nat), .int .u64 (y : Nat)] w fun e w' => e = .returned (.int .u64 0) ∧ Below w.heap.size w w' := by
  by_cases h1 : a < 1
  · clear h
    go_enter Try.func42, Try.ntmps42
    go_wp2_with fail
    go_ret
    exact ⟨rfl, by (repeat (first | exact Below.refl _ _ | apply Below.drew | refine Below.alloc ?_ (by simp <;> omega) _ | refine Below.setCell ?_ (by simp) _))⟩
  · have h2 : 64 < a := by omega
    clear h
    go_enter Try.func42, Try.ntmps42
    go_wp2_with fail
    go_ret
    exact ⟨rfl, by (repeat (first | exact Below.refl _ _ | apply Below.drew | refine Below.alloc ?_ (by simp <;> omega) _ | refine Below.setCell ?_ (by simp) _))⟩
theorem app_17_1 (a : Int) (x y : Nat) (hx : x < 18446744073709551616) (hy : y < 18446744073709551616) (h1 : 1 ≤ a) (h2 : a ≤ 64) (w : World) :
    Calls Try.prog 42 #[.int .i64 17, .agg #[.int .i64 a, .bool true], .int .u64 (x : Nat), .int .u64 (y : Nat)] w fun e w' => e = .returned (.int .u64 (binN 9 1 x y : Nat)) ∧ Below w.heap.size w w' := by
  have e1 : binN 9 1 x y = (x &&& y) % 2 := bin_and 1 x y (by decide) (by decide)
  have e2 : bits .and .u64 (x : Int) (y : Int) = ((x &&& y : Nat) : Int) := u64_and_nat _ _ hx hy
  have hl : x &&& y < 18446744073709551616 := by rw [← pow64]; exact Nat.and_lt_two_pow _ (by rw [pow64]; exact hy)
  rw [e1]
  generalize x &&& y = Z at *
  have e3 : bits .and .u64 ((Z : Nat) : Int) 1 = ((Z % 2 : Nat) : Int) := by
    rw [show (1 : Int) = ((1 : Nat) : Int) from rfl, u64_and_nat _ _ hl (by decide), Nat.and_one_is_mod]
  generalize Z % 2 = R at *
  clear e1 hl
  go_enter Try.func42, Try.ntmps42
  go_wp2_with fail
  go_ret
  exact ⟨rfl, by (repeat (first | exact Below.refl _ _ | apply Below.drew | refine Below.alloc ?_ (by simp <;> omega) _ | refine Below.setCell ?_ (by simp) _))⟩
theorem app_17_1_bad (a : Int) (x y : Nat) (h : ¬ (1 ≤ a ∧ a ≤ 64)) (w : World) :
    Calls Try.prog 42 #[.int .i64 17, .agg #[.int .i64 a, .bool true], .int .u64 (x : Nat), .int .u64 (y : Nat)] w fun e w' => e = .returned (.int .u64 0) ∧ Below w.heap.size w w' := by
  by_cases h1 : a < 1
  · clear h
    go_enter Try.func42, Try.ntmps42
    go_wp2_with fail
    go_ret
    exact ⟨rfl, by (repeat (first | exact Below.refl _ _ | apply Below.drew | refine Below.alloc ?_ (by simp <;> omega) _ | refine Below.setCell ?_ (by simp) _))⟩
  · have h2 : 64 < a := by omega
    clear h
    go_enter Try.func42, Try.ntmps42
    go_wp2_with fail
    go_ret
    exact ⟨rfl, by (repeat (first | exact Below.refl _ _ | apply Below.drew | refine Below.alloc ?_ (by simp <;> omega) _ | refine Below.setCell ?_ (by simp) _))⟩
theorem app_18_0 (a : Int) (x y : Nat) (hx : x < 18446744073709551616) (hy : y < 18446744073709551616) (h1 : 1 ≤ a) (h2 : a ≤ 64) (w : World) :
    Calls Try.prog 42 #[.int .i64 18, .agg #[.int .i64 a, .bool false], .int .u64 (x : Nat), .int .u64 (y : Nat)] w fun e w' => e = .returned (.int .u64 (binN 10 1 x y : Nat)) ∧ Below w.heap.size w w' := by
  have e1 : binN 10 1 x y = (x ||| y) % 2 := bin_or 1 x y (by decide) (by decide)
  have e2 : bits .or .u64 (x : Int) (y : Int) = ((x ||| y : Nat) : Int) := u64_or_nat _ _ hx hy
  have hl : x ||| y < 18446744073709551616 := by rw [← pow64]; exact Nat.or_lt_two_pow (by rw [pow64]; exact hx) (by rw [pow64]; exact hy)
  rw [e1]
  generalize x ||| y = Z at *
  have e3 : bits .and .u64 ((Z : Nat) : Int) 1 = ((Z % 2 : Nat) : Int) := by
    rw [show (1 : Int) = ((1 : Nat) : Int) from rfl, u64_and_nat _ _ hl (by decide), Nat.and_one_is_mod]
  generalize Z % 2 = R at *
  clear e1 hl
  go_enter Try.func42, Try.ntmps42
  go_wp2_with fail
  go_ret
  exact ⟨rfl, by (repeat (first | exact Below.refl _ _ | apply Below.drew | refine Below.alloc ?_ (by simp <;> omega) _ | refine Below.setCell ?_ (by simp) _))⟩
theorem app_18_0_bad (a : Int) (x y : Nat) (h : ¬ (1 ≤ a ∧ a ≤ 64)) (w : World) :
    Calls Try.prog 42 #[.int .i64 18, .agg #[.int .i64 a, .bool false], .int .u64 (x : Nat), .int .u64 (y : Nat)] w fun e w' => e = .returned (.int .u64 0) ∧ Below w.heap.size w w' := by
  by_cases h1 : a < 1
  · clear h
    go_enter Try.func42, Try.ntmps42
    go_wp2_with fail
    go_ret
    exact ⟨rfl, by (repeat (first | exact Below.refl _ _ | apply Below.drew | refine Below.alloc ?_ (by simp <;> omega) _ | refine Below.setCell ?_ (by simp) _))⟩
  · have h2 : 64 < a := by omega
    clear h
    go_enter Try.func42, Try.ntmps42
    go_wp2_with fail
    go_ret
    exact ⟨rfl, by (repeat (first | exact Below.refl _ _ | apply Below.drew | refine Below.alloc ?_ (by simp <;> omega) _ | refine Below.setCell ?_ (by simp) _))⟩
theorem app_18_1 (a : Int) (x y : Nat) (hx : x < 18446744073709551616) (hy : y < 18446744073709551616) (h1 : 1 ≤ a) (h2 : a ≤ 64) (w : World) :
    Calls Try.prog 42 #[.int .i64 18, .agg #[.int .i64 a, .bool true], .int .u64 (x : Nat), .int .u64 (y : Nat)] w fun e w' => e = .returned (.int .u64 (binN 10 1 x y : Nat)) ∧ Below w.heap.size w w' := by
  have e1 : binN 10 1 x y = (x ||| y) % 2 := bin_or 1 x y (by decide) (by decide)
  have e2 : bits .or .u64 (x : Int) (y : Int) = ((x ||| y : Nat) : Int) := u64_or_nat _ _ hx hy
  have hl : x ||| y < 18446744073709551616 := by rw [← pow64]; exact Nat.or_lt_two_pow (by rw [pow64]; exact hx) (by rw [pow64]; exact hy)
  rw [e1]
  generalize x ||| y = Z at *
  have e3 : bits .and .u64 ((Z : Nat) : Int) 1 = ((Z % 2 : Nat) : Int) := by
    rw [show (1 : Int) = ((1 : Nat) : Int) from rfl, u64_and_nat _ _ hl (by decide), Nat.and_one_is_mod]
  generalize Z % 2 = R at *
  clear e1 hl
  go_enter Try.func42, Try.ntmps42
  go_wp2_with fail
  go_ret
  exact ⟨rfl, by (repeat (first | exact Below.refl _ _ | apply Below.drew | refine Below.alloc ?_ (by simp <;> omega) _ | refine Below.setCell ?_ (by simp) _))⟩
theorem app_18_1_bad (a : Int) (x y : Nat) (h : ¬ (1 ≤ a ∧ a ≤ 64)) (w : World) :
    Calls Try.prog 42 #[.int .i64 18, .agg #[.int .i64 a, .bool true], .int .u64 (x : Nat), .int .u64 (y : Nat)] w fun e w' => e = .returned (.int .u64 0) ∧ Below w.heap.size w w' := by
  by_cases h1 : a < 1
  · clear h
    go_enter Try.func42, Try.ntmps42
    go_wp2_with fail
    go_ret
    exact ⟨rfl, by (repeat (first | exact Below.refl _ _ | apply Below.drew | refine Below.alloc ?_ (by simp <;> omega) _ | refine Below.setCell ?_ (by simp) _))⟩
  · have h2 : 64 < a := by omega
    clear h
    go_enter Try.func42, Try.ntmps42
    go_wp2_with fail
    go_ret
    exact ⟨rfl, by (repeat (first | exact Below.refl _ _ | apply Below.drew | refine Below.alloc ?_ (by simp <;> omega) _ | refine Below.setCell ?_ (by simp) _))⟩
theorem app_other (op a : Int) (s : Bool) (x y : Nat) (hx : x < 18446744073709551616) (hy : y < 18446744073709551616) (h : ¬ (op = 1 ∨ op = 2 ∨ op = 3 ∨ op = 4 ∨ op = 5 ∨ op = 6 ∨ op = 7 ∨ op = 8 ∨ op = 9 ∨ op = 10 ∨ op = 11 ∨ op = 12 ∨ op = 13 ∨ op = 14 ∨ op = 15 ∨ op = 16 ∨ op = 17 ∨ op = 18)) (w : World) :
    Calls Try.prog 42 #[.int .i64 op, .agg #[.int .i64 a, .bool s], .int .u64 (x : Nat), .int .u64 (y : Nat)] w fun e w' => e = .returned (.int .u64 0) ∧ Below w.heap.size w w' := by
  simp only [not_or] at h
  obtain ⟨q1, q2, q3, q4, q5, q6, q7, q8, q9, q10, q11, q12, q13, q14, q15, q16, q17, q18⟩ := h
  have C1 := fun w => opr_any op w
  have C2 := fun w => binary_any 0 a x y w hx hy
  rw [bin_none] at C2
  generalize binE 0 a = E at C2
  rw [show plN op false = 0 by simp only [plN, q1, q2, q3, q6, q7, q8, q9, q11, q12, if_false]] at C1
  go_enter Try.func42, Try.ntmps42
  go_wp2_with fail
  refine (C1 _).mono ?_
  rintro e w1 ⟨rfl, rfl⟩
  go_wp2_with fail
  refine (C2 _).mono ?_
  rintro e w1 ⟨rfl, rfl⟩
  go_wp2_with fail
  go_ret
  exact ⟨rfl, by (repeat (first | exact Below.refl _ _ | apply Below.drew | refine Below.alloc ?_ (by simp <;> omega) _ | refine Below.setCell ?_ (by simp) _))⟩
theorem f2_other (op : Int) (s : Bool) (h : ¬ (op = 1 ∨ op = 2 ∨ op = 3 ∨ op = 4 ∨ op = 5 ∨ op = 6 ∨ op = 7 ∨ op = 8 ∨ op = 9 ∨ op = 10 ∨ op = 11 ∨ op = 12 ∨ op = 13 ∨ op = 14 ∨ op = 15 ∨ op = 16 ∨ op = 17 ∨ op = 18)) : f2N op s = 0 := by
  simp only [not_or] at h
  obtain ⟨q1, q2, q3, q4, q5, q6, q7, q8, q9, q10, q11, q12, q13, q14, q15, q16, q17, q18⟩ := h
  simp only [f2N, q1, q2, q3, q4, q5, q6, q7, q8, q9, q10, q11, q12, q13, q14, q15, q16, q17, q18, if_false]
theorem apply_any (op a : Int) (s : Bool) (x y : Nat) (hx : x < 18446744073709551616) (hy : y < 18446744073709551616) (w : World) :
    Calls Try.prog 42 #[.int .i64 op, .agg #[.int .i64 a, .bool s], .int .u64 (x : Nat), .int .u64 (y : Nat)] w fun e w' => e = .returned (.int .u64 (appN op a s x y : Nat)) ∧ Below w.heap.size w w' := by
  by_cases h : op = 1 ∨ op = 2 ∨ op = 3 ∨ op = 4 ∨ op = 5 ∨ op = 6 ∨ op = 7 ∨ op = 8 ∨ op = 9 ∨ op = 10 ∨ op = 11 ∨ op = 12 ∨ op = 13 ∨ op = 14 ∨ op = 15 ∨ op = 16 ∨ op = 17 ∨ op = 18
  · rcases h with rfl | rfl | rfl | rfl | rfl | rfl | rfl | rfl | rfl | rfl | rfl | rfl | rfl | rfl | rfl | rfl | rfl | rfl
    · cases s
      · exact app_1_0 a x y hx hy w
      · exact app_1_1 a x y hx hy w
    · cases s
      · exact app_2_0 a x y hx hy w
      · exact app_2_1 a x y hx hy w
    · cases s
      · exact app_3_0 a x y hx hy w
      · exact app_3_1 a x y hx hy w
    · cases s
      · exact app_4_0 a x y hx hy w
      · exact app_4_1 a x y hx hy w
    · cases s
      · exact app_5_0 a x y hx hy w
      · exact app_5_1 a x y hx hy w
    · cases s
      · exact app_6_0 a x y hx hy w
      · exact app_6_1 a x y hx hy w
    · cases s
      · exact app_7_0 a x y hx hy w
      · exact app_7_1 a x y hx hy w
    · cases s
      · exact app_8_0 a x y hx hy w
      · exact app_8_1 a x y hx hy w
    · cases s
      · exact app_9_0 a x y hx hy w
      · exact app_9_1 a x y hx hy w
    · cases s
      · exact app_10_0 a x y hx hy w
      · exact app_10_1 a x y hx hy w
    · cases s
      · exact app_11_0 a x y hx hy w
      · exact app_11_1 a x y hx hy w
    · cases s
      · exact app_12_0 a x y hx hy w
      · exact app_12_1 a x y hx hy w
    · cases s
      · exact app_13_0 a x y hx hy w
      · exact app_13_1 a x y hx hy w
    · cases s
      · exact app_14_0 a x y hx hy w
      · exact app_14_1 a x y hx hy w
    · cases s
      · exact app_15_0 a x y hx hy w
      · exact app_15_1 a x y hx hy w
    · cases s
      · exact app_16_0 a x y hx hy w
      · exact app_16_1 a x y hx hy w
    · cases s
      · by_cases g : 1 ≤ a ∧ a ≤ 64
        · rw [show appN 17 a false x y = binN 9 1 x y by unfold appN; rw [if_neg (by decide), if_pos (by decide), if_pos g]; rfl]
          exact app_17_0 a x y hx hy g.1 g.2 w
        · rw [app_bad _ _ _ _ _ g]; exact app_17_0_bad a x y g w
      · by_cases g : 1 ≤ a ∧ a ≤ 64
        · rw [show appN 17 a true x y = binN 9 1 x y by unfold appN; rw [if_neg (by decide), if_pos (by decide), if_pos g]; rfl]
          exact app_17_1 a x y hx hy g.1 g.2 w
        · rw [app_bad _ _ _ _ _ g]; exact app_17_1_bad a x y g w
    · cases s
      · by_cases g : 1 ≤ a ∧ a ≤ 64
        · rw [show appN 18 a false x y = binN 10 1 x y by unfold appN; rw [if_neg (by decide), if_pos (by decide), if_pos g]; rfl]
          exact app_18_0 a x y hx hy g.1 g.2 w
        · rw [app_bad _ _ _ _ _ g]; exact app_18_0_bad a x y g w
      · by_cases g : 1 ≤ a ∧ a ≤ 64
        · rw [show appN 18 a true x y = binN 10 1 x y by unfold appN; rw [if_neg (by decide), if_pos (by decide), if_pos g]; rfl]
          exact app_18_1 a x y hx hy g.1 g.2 w
        · rw [app_bad _ _ _ _ _ g]; exact app_18_1_bad a x y g w
  · rw [show appN op a s x y = 0 by
      unfold appN; rw [if_neg (by omega), if_neg (by omega), f2_other op s h, bin_none]]
    exact app_other op a s x y hx hy h w
theorem convert_any (a b : Int) (s t : Bool) (x : Nat) (hx : x < 18446744073709551616) (w : World) :
    Calls Try.prog 44 #[.agg #[.int .i64 a, .bool s], .agg #[.int .i64 b, .bool t], .int .u64 (x : Nat)] w fun e w' => e = .returned (.int .u64 (extN a b x s : Nat)) ∧ Below w.heap.size w w' := by
  have C1 := fun w => ext_any a b x hx s w
  generalize extN a b x s = R at C1 ⊢
  go_enter Try.func44, Try.ntmps44
  go_wp2_with fail
  refine (C1 _).mono ?_
  rintro e w1 ⟨rfl, rfl⟩
  go_wp2_with fail
  go_ret
  exact ⟨rfl, by (repeat (first | exact Below.refl _ _ | apply Below.drew | refine Below.alloc ?_ (by simp <;> omega) _ | refine Below.setCell ?_ (by simp) _))⟩
end Go.Proofs.Ythkdojgagmaecab
