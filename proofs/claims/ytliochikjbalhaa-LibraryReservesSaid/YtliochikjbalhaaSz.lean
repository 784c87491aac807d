/- Size and Reserve, the program's and the reference's. -/
import Derived.Test.YtliochikjbalhaaLibRl
import Derived.Test.YtliochikjbalhaaSzB
namespace Go.Proofs.Ytliochikjbalhaa
open Go Go.RowKit
set_option linter.unusedVariables false
set_option linter.unusedSimpArgs false

def resV (n : Int) : Value := .agg #[.int .i64 30, .int .i64 (300 + 20 * (lev n : Nat)), .int .i64 (320 + 40 * (lev n : Nat))]

theorem reserve_any (n : Int) (w : World) :
    Calls Try.prog 10 #[.int .i64 n] w fun e w' => e = .returned (resV n) ∧ Below w.heap.size w w' := by
  have hl := lev_le n
  unfold resV
  have hL := fun w => levels_any n w
  generalize lev n = l at *
  go_enter Try.func10, Try.ntmps10
  go_wp2_with fail
  refine (hL _).mono ?_
  rintro e w1 ⟨rfl, rfl⟩
  go_wp2_with fail
  refine bodyPost_ret (v := .agg #[.int .i64 30, .int .i64 (300 + 20 * (l : Nat)), .int .i64 (320 + 40 * (l : Nat))]) (by simp [results, Try.results10, go_sem]) rfl ⟨rfl, ?_⟩
  repeat (first | exact Below.refl _ _ | apply Below.drew | refine Below.alloc ?_ (by simp <;> omega) _ | refine Below.setCell ?_ (by simp) _)
theorem refreserve_any (n : Int) (w : World) :
    Calls Try.prog 11 #[.int .i64 n] w fun e w' => e = .returned (resV n) ∧ Below w.heap.size w w' := by
  have hl := lev_le n
  unfold resV
  have hL := fun w => levels_ref n w
  generalize lev n = l at *
  go_enter Try.func11, Try.ntmps11
  go_wp2_with fail
  refine (hL _).mono ?_
  rintro e w1 ⟨rfl, rfl⟩
  go_wp2_with fail
  refine (hL _).mono ?_
  rintro e w1 ⟨rfl, rfl⟩
  go_wp2_with fail
  refine bodyPost_ret (v := .agg #[.int .i64 30, .int .i64 (300 + 20 * (l : Nat)), .int .i64 (320 + 40 * (l : Nat))]) (by simp [results, Try.results11, go_sem]) rfl ⟨rfl, ?_⟩
  repeat (first | exact Below.refl _ _ | apply Below.drew | refine Below.alloc ?_ (by simp <;> omega) _ | refine Below.setCell ?_ (by simp) _)
end Go.Proofs.Ytliochikjbalhaa
