/- The reference's same. -/
import Derived.Test.YthkdojgagmaecabIvT
import Derived.Deep.QuietTactic
import Derived.BigQuiet
import Derived.Laws.Cover1
set_option linter.unusedVariables false
set_option linter.unusedSimpArgs false
namespace Go.Proofs.Ythkdojgagmaecab
open Go.RowKit

theorem same_yes (a T x y : Int) (h1 : 1 ≤ a) (h2 : a ≤ 64) (hT : T = smax a) (hM : ((maskN a : Nat) : Int) = 2 * T + 1) (h : 0 ≤ x) (hxy : x ≤ y) (hy : y ≤ 2 * T + 1) (w : World) :
    Calls Try.prog 58 #[.int .i64 a, .int .u64 x, .int .u64 y] w fun e w' => e = .returned (.tuple #[.agg #[.int .u64 x, .int .u64 y, .int .i64 (sg T x), .int .i64 (sg T y)], .bool true]) ∧ Below w.heap.size w w' := by
  have C1 := fun w => rsigned_i a x T h1 h2 hT hM h (by omega) w
  have C2 := fun w => rsigned_i a y T h1 h2 hT hM (by omega) hy w
  clear hT hM
  go_enter Try.func58, Try.ntmps58
  go_wp2_with fail
  refine (C1 _).mono ?_
  rintro e w1 ⟨rfl, rfl⟩
  go_wp2_with fail
  refine (C2 _).mono ?_
  rintro e w1 ⟨rfl, rfl⟩
  go_wp2_with fail
  refine bodyPost_ret (v := .tuple #[.agg #[.int .u64 x, .int .u64 y, .int .i64 (sg T x), .int .i64 (sg T y)], .bool true]) (by simp [results, Try.results58, go_sem]) rfl ⟨rfl, ?_⟩
  repeat (first | exact Below.refl _ _ | apply Below.drew | refine Below.alloc ?_ (by simp <;> omega) _ | refine Below.setCell ?_ (by simp) _)
theorem same_no (a x y : Int) (hxy : ¬ x ≤ y) (w : World) :
    Calls Try.prog 58 #[.int .i64 a, .int .u64 x, .int .u64 y] w fun e w' => e = .returned (.tuple #[.agg #[.int .u64 0, .int .u64 0, .int .i64 0, .int .i64 0], .bool false]) ∧ Below w.heap.size w w' := by
  go_enter Try.func58, Try.ntmps58
  go_wp2_with fail
  refine bodyPost_ret (v := .tuple #[.agg #[.int .u64 0, .int .u64 0, .int .i64 0, .int .i64 0], .bool false]) (by simp [results, Try.results58, go_sem]) rfl ⟨rfl, ?_⟩
  repeat (first | exact Below.refl _ _ | apply Below.drew | refine Below.alloc ?_ (by simp <;> omega) _ | refine Below.setCell ?_ (by simp) _)
theorem and_neg (a n T : Int) (hM : ((maskN a : Nat) : Int) = 2 * T + 1) (h1 : n < 0) (h2 : -T - 1 ≤ n) : bits .and .u64 (IntKind.u64.wrap n) (2 * T + 1) = n + 2 * T + 2 := by
  rw [wrapU, ← hM, and_mask a _ (wrapU_lt n), fit_from, from_neg a n T hM h1 h2]
end Go.Proofs.Ythkdojgagmaecab
