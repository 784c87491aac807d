/- Package interval and its reference: contracts of Leq, Join, Meet. -/
import Derived.Test.YthkdojgagmaecabBitsA
import Derived.Below
import Derived.Test.YthkdojgagmaecabRows
namespace Go.Proofs.Ythkdojgagmaecab
open Go.RowKit

def ileB (a0 a1 a2 a3 b0 b1 b2 b3 : Int) : Bool := decide (b0 ≤ a0) && decide (a1 ≤ b1) && decide (b2 ≤ a2) && decide (a3 ≤ b3)


set_option maxHeartbeats 1600000 in
theorem ijoin_any (a0 a1 a2 a3 b0 b1 b2 b3 : Int) (w : World) :
    Calls Try.prog 24 #[.agg #[.int .u64 a0, .int .u64 a1, .int .i64 a2, .int .i64 a3], .agg #[.int .u64 b0, .int .u64 b1, .int .i64 b2, .int .i64 b3]] w fun e w' =>
      e = .returned (.agg #[.int .u64 (min a0 b0), .int .u64 (max a1 b1), .int .i64 (min a2 b2), .int .i64 (max a3 b3)]) ∧ Below w.heap.size w w' := by
  go_enter Try.func24, Try.ntmps24
  go_wp2_with fail
  all_goals
    refine bodyPost_ret (v := .agg #[.int .u64 (min a0 b0), .int .u64 (max a1 b1), .int .i64 (min a2 b2), .int .i64 (max a3 b3)]) ?_ rfl ⟨rfl, ?_⟩
    · simp [results, Try.results24, go_sem] <;> omega
    · repeat (first | exact Below.refl _ _ | apply Below.drew | refine Below.alloc ?_ (by simp <;> omega) _ | refine Below.setCell ?_ (by simp) _)
set_option maxHeartbeats 1600000 in
theorem ijoin_ref (a0 a1 a2 a3 b0 b1 b2 b3 : Int) (w : World) :
    Calls Try.prog 29 #[.agg #[.int .u64 a0, .int .u64 a1, .int .i64 a2, .int .i64 a3], .agg #[.int .u64 b0, .int .u64 b1, .int .i64 b2, .int .i64 b3]] w fun e w' =>
      e = .returned (.agg #[.int .u64 (min a0 b0), .int .u64 (max a1 b1), .int .i64 (min a2 b2), .int .i64 (max a3 b3)]) ∧ Below w.heap.size w w' := by
  go_enter Try.func29, Try.ntmps29
  go_wp2_with fail
  all_goals
    refine bodyPost_ret (v := .agg #[.int .u64 (min a0 b0), .int .u64 (max a1 b1), .int .i64 (min a2 b2), .int .i64 (max a3 b3)]) ?_ rfl ⟨rfl, ?_⟩
    · simp [results, Try.results29, go_sem] <;> omega
    · repeat (first | exact Below.refl _ _ | apply Below.drew | refine Below.alloc ?_ (by simp <;> omega) _ | refine Below.setCell ?_ (by simp) _)
theorem ileq_any (a0 a1 a2 a3 b0 b1 b2 b3 : Int) (w : World) :
    Calls Try.prog 27 #[.agg #[.int .u64 a0, .int .u64 a1, .int .i64 a2, .int .i64 a3], .agg #[.int .u64 b0, .int .u64 b1, .int .i64 b2, .int .i64 b3]] w fun e w' =>
      e = .returned (.bool (ileB a0 a1 a2 a3 b0 b1 b2 b3)) ∧ Below w.heap.size w w' := by
  by_cases h0 : b0 ≤ a0
  · by_cases h1 : a1 ≤ b1
    · by_cases h2 : b2 ≤ a2
      · have H := Lib.hid (show ileB a0 a1 a2 a3 b0 b1 b2 b3 = decide (a3 ≤ b3) by simp [ileB, h0, h1, h2])
        go_enter Try.func27, Try.ntmps27
        go_wp2_with fail
        go_ret
        exact ⟨by rw [H.out]; rfl, by (repeat (first | exact Below.refl _ _ | apply Below.drew | refine Below.alloc ?_ (by simp <;> omega) _ | refine Below.setCell ?_ (by simp) _))⟩
      · have H := Lib.hid (show ileB a0 a1 a2 a3 b0 b1 b2 b3 = false by simp [ileB, h0, h1, h2])
        go_enter Try.func27, Try.ntmps27
        go_wp2_with fail
        go_ret
        exact ⟨by rw [H.out]; rfl, by (repeat (first | exact Below.refl _ _ | apply Below.drew | refine Below.alloc ?_ (by simp <;> omega) _ | refine Below.setCell ?_ (by simp) _))⟩
    · have H := Lib.hid (show ileB a0 a1 a2 a3 b0 b1 b2 b3 = false by simp [ileB, h0, h1])
      go_enter Try.func27, Try.ntmps27
      go_wp2_with fail
      go_ret
      exact ⟨by rw [H.out]; rfl, by (repeat (first | exact Below.refl _ _ | apply Below.drew | refine Below.alloc ?_ (by simp <;> omega) _ | refine Below.setCell ?_ (by simp) _))⟩
  · have H := Lib.hid (show ileB a0 a1 a2 a3 b0 b1 b2 b3 = false by simp [ileB, h0])
    go_enter Try.func27, Try.ntmps27
    go_wp2_with fail
    go_ret
    exact ⟨by rw [H.out]; rfl, by (repeat (first | exact Below.refl _ _ | apply Below.drew | refine Below.alloc ?_ (by simp <;> omega) _ | refine Below.setCell ?_ (by simp) _))⟩
theorem ileq_ref (a0 a1 a2 a3 b0 b1 b2 b3 : Int) (w : World) :
    Calls Try.prog 28 #[.agg #[.int .u64 a0, .int .u64 a1, .int .i64 a2, .int .i64 a3], .agg #[.int .u64 b0, .int .u64 b1, .int .i64 b2, .int .i64 b3]] w fun e w' =>
      e = .returned (.bool (ileB a0 a1 a2 a3 b0 b1 b2 b3)) ∧ Below w.heap.size w w' := by
  by_cases h0 : b0 ≤ a0
  · by_cases h1 : a1 ≤ b1
    · by_cases h2 : b2 ≤ a2
      · have H := Lib.hid (show ileB a0 a1 a2 a3 b0 b1 b2 b3 = decide (a3 ≤ b3) by simp [ileB, h0, h1, h2])
        go_enter Try.func28, Try.ntmps28
        go_wp2_with fail
        go_ret
        exact ⟨by rw [H.out]; rfl, by (repeat (first | exact Below.refl _ _ | apply Below.drew | refine Below.alloc ?_ (by simp <;> omega) _ | refine Below.setCell ?_ (by simp) _))⟩
      · have H := Lib.hid (show ileB a0 a1 a2 a3 b0 b1 b2 b3 = false by simp [ileB, h0, h1, h2])
        go_enter Try.func28, Try.ntmps28
        go_wp2_with fail
        go_ret
        exact ⟨by rw [H.out]; rfl, by (repeat (first | exact Below.refl _ _ | apply Below.drew | refine Below.alloc ?_ (by simp <;> omega) _ | refine Below.setCell ?_ (by simp) _))⟩
    · have H := Lib.hid (show ileB a0 a1 a2 a3 b0 b1 b2 b3 = false by simp [ileB, h0, h1])
      go_enter Try.func28, Try.ntmps28
      go_wp2_with fail
      go_ret
      exact ⟨by rw [H.out]; rfl, by (repeat (first | exact Below.refl _ _ | apply Below.drew | refine Below.alloc ?_ (by simp <;> omega) _ | refine Below.setCell ?_ (by simp) _))⟩
  · have H := Lib.hid (show ileB a0 a1 a2 a3 b0 b1 b2 b3 = false by simp [ileB, h0])
    go_enter Try.func28, Try.ntmps28
    go_wp2_with fail
    go_ret
    exact ⟨by rw [H.out]; rfl, by (repeat (first | exact Below.refl _ _ | apply Below.drew | refine Below.alloc ?_ (by simp <;> omega) _ | refine Below.setCell ?_ (by simp) _))⟩
end Go.Proofs.Ythkdojgagmaecab
