/- Package interval and its reference: contracts of Meet. -/
import Derived.Test.YthkdojgagmaecabIv
namespace Go.Proofs.Ythkdojgagmaecab
open Go.RowKit

/-- A range is left. -/
def MeetOk (m0 m1 m2 m3 : Int) : Prop := m0 ≤ m1 ∧ m2 ≤ m3

set_option maxHeartbeats 3200000 in
theorem imeet_any (a0 a1 a2 a3 b0 b1 b2 b3 m0 m1 m2 m3 : Int) (hm0 : m0 = max a0 b0) (hm1 : m1 = min a1 b1) (hm2 : m2 = max a2 b2) (hm3 : m3 = min a3 b3) (w : World) :
    Calls Try.prog 25 #[.agg #[.int .u64 a0, .int .u64 a1, .int .i64 a2, .int .i64 a3], .agg #[.int .u64 b0, .int .u64 b1, .int .i64 b2, .int .i64 b3]] w fun e w' =>
      (MeetOk m0 m1 m2 m3 → e = .returned (.tuple #[.agg #[.int .u64 m0, .int .u64 m1, .int .i64 m2, .int .i64 m3], .bool true])) ∧
      (¬ MeetOk m0 m1 m2 m3 → e = .returned (.tuple #[.agg #[.int .u64 0, .int .u64 0, .int .i64 0, .int .i64 0], .bool false])) ∧ Below w.heap.size w w' := by
  have H0 := Lib.hid hm0
  have H1 := Lib.hid hm1
  have H2 := Lib.hid hm2
  have H3 := Lib.hid hm3
  clear hm0 hm1 hm2 hm3
  go_enter Try.func25, Try.ntmps25
  go_wp2_with fail
  all_goals
    have e0 := H0.out
    have e1 := H1.out
    have e2 := H2.out
    have e3 := H3.out
    by_cases g : MeetOk m0 m1 m2 m3
    · first
        | (exfalso; unfold MeetOk at g; omega)
        | (refine bodyPost_ret (v := .tuple #[.agg #[.int .u64 m0, .int .u64 m1, .int .i64 m2, .int .i64 m3], .bool true]) ?_ rfl ⟨fun _ => rfl, fun h => absurd g h, ?_⟩
           · simp [results, Try.results25, go_sem] <;> omega
           · (repeat (first | exact Below.refl _ _ | apply Below.drew | refine Below.alloc ?_ (by simp <;> omega) _ | refine Below.setCell ?_ (by simp) _)))
    · first
        | (exfalso; unfold MeetOk at g; omega)
        | (refine bodyPost_ret (v := .tuple #[.agg #[.int .u64 0, .int .u64 0, .int .i64 0, .int .i64 0], .bool false]) ?_ rfl ⟨fun h => absurd h g, fun _ => rfl, ?_⟩
           · simp [results, Try.results25, go_sem]
           · (repeat (first | exact Below.refl _ _ | apply Below.drew | refine Below.alloc ?_ (by simp <;> omega) _ | refine Below.setCell ?_ (by simp) _)))
set_option maxHeartbeats 3200000 in
theorem imeet_ref (a0 a1 a2 a3 b0 b1 b2 b3 m0 m1 m2 m3 : Int) (hm0 : m0 = max a0 b0) (hm1 : m1 = min a1 b1) (hm2 : m2 = max a2 b2) (hm3 : m3 = min a3 b3) (w : World) :
    Calls Try.prog 26 #[.agg #[.int .u64 a0, .int .u64 a1, .int .i64 a2, .int .i64 a3], .agg #[.int .u64 b0, .int .u64 b1, .int .i64 b2, .int .i64 b3]] w fun e w' =>
      (MeetOk m0 m1 m2 m3 → e = .returned (.tuple #[.agg #[.int .u64 m0, .int .u64 m1, .int .i64 m2, .int .i64 m3], .bool true])) ∧
      (¬ MeetOk m0 m1 m2 m3 → e = .returned (.tuple #[.agg #[.int .u64 0, .int .u64 0, .int .i64 0, .int .i64 0], .bool false])) ∧ Below w.heap.size w w' := by
  have H0 := Lib.hid hm0
  have H1 := Lib.hid hm1
  have H2 := Lib.hid hm2
  have H3 := Lib.hid hm3
  clear hm0 hm1 hm2 hm3
  go_enter Try.func26, Try.ntmps26
  go_wp2_with fail
  all_goals
    have e0 := H0.out
    have e1 := H1.out
    have e2 := H2.out
    have e3 := H3.out
    by_cases g : MeetOk m0 m1 m2 m3
    · first
        | (exfalso; unfold MeetOk at g; omega)
        | (refine bodyPost_ret (v := .tuple #[.agg #[.int .u64 m0, .int .u64 m1, .int .i64 m2, .int .i64 m3], .bool true]) ?_ rfl ⟨fun _ => rfl, fun h => absurd g h, ?_⟩
           · simp [results, Try.results26, go_sem] <;> omega
           · (repeat (first | exact Below.refl _ _ | apply Below.drew | refine Below.alloc ?_ (by simp <;> omega) _ | refine Below.setCell ?_ (by simp) _)))
    · first
        | (exfalso; unfold MeetOk at g; omega)
        | (refine bodyPost_ret (v := .tuple #[.agg #[.int .u64 0, .int .u64 0, .int .i64 0, .int .i64 0], .bool false]) ?_ rfl ⟨fun h => absurd h g, fun _ => rfl, ?_⟩
           · simp [results, Try.results26, go_sem]
           · (repeat (first | exact Below.refl _ _ | apply Below.drew | refine Below.alloc ?_ (by simp <;> omega) _ | refine Below.setCell ?_ (by simp) _)))
end Go.Proofs.Ythkdojgagmaecab
