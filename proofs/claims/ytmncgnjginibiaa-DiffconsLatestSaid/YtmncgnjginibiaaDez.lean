/-
  Contracts, written by program: for each function what its call yields, and that it yields it.
-/
import Derived.Test.YtmncgnjginibiaaVw
import Derived.Test.YtmncgnjginibiaaChecked
namespace Go.Proofs.Ytmncgnjginibiaa.Abs
open Go
set_option linter.unusedVariables false
set_option linter.unusedSimpArgs false

theorem good : Good Try.prog := good_of Try.checked.mixed (by kernel_rfl)
noncomputable section
theorem tabOk_cons {P : Program} {e : FEnt} {r : List FEnt} (h : tabOk P [e] = true) (hr : tabOk P r = true) : tabOk P (e :: r) = true := by
  unfold tabOk at *
  rw [List.all_cons] at *
  rw [hr, Bool.and_true]
  simpa using h
def tabC0 : List FEnt := [
  { f := 15, L := [], D := [] }]
theorem tabC0_ok : tabOk Try.prog tabC0 = true := by kernel_rfl
def tabC1 : List FEnt := [
  { f := 17, L := [], D := [] }]
theorem tabC1_ok : tabOk Try.prog tabC1 = true := by kernel_rfl
def tabC2 : List FEnt := [
  { f := 21, L := [], D := [] }]
theorem tabC2_ok : tabOk Try.prog tabC2 = true := by kernel_rfl
def tabC3 : List FEnt := [
  { f := 48, L := [], D := [] }]
theorem tabC3_ok : tabOk Try.prog tabC3 = true := by kernel_rfl
def tabC4 : List FEnt := [
  { f := 49, L := [11], D := [(8, [(0, 2), (1, 2), (3, 2), (5, 2), (6, 2), (8, 2), (2, 3), (4, 3), (7, 1), (9, 2), (10, 0), (11, 0), (12, 2)]), (5, [(0, 2), (1, 2), (3, 2), (5, 2), (6, 2), (8, 2), (2, 3), (4, 3), (7, 1), (9, 2), (10, 0), (11, 0), (12, 2)])] }]
theorem tabC4_ok : tabOk Try.prog tabC4 = true := by kernel_rfl
def tabC5 : List FEnt := [
  { f := 50, L := [], D := [] }]
theorem tabC5_ok : tabOk Try.prog tabC5 = true := by kernel_rfl
def tabC6 : List FEnt := [
  { f := 51, L := [9], D := [(14, [(0, 2), (1, 2), (2, 2), (3, 2), (4, 2), (5, 2), (6, 2), (7, 2), (8, 2)])] }]
theorem tabC6_ok : tabOk Try.prog tabC6 = true := by kernel_rfl
def tabC7 : List FEnt := [
  { f := 52, L := [], D := [(3, [(0, 2), (1, 2), (2, 2), (3, 2), (4, 2), (5, 2), (6, 2), (7, 2), (8, 2), (9, 2), (10, 2), (11, 2), (12, 2), (13, 0), (14, 2), (15, 0)])] }]
theorem tabC7_ok : tabOk Try.prog tabC7 = true := by kernel_rfl
def tabC8 : List FEnt := [
  { f := 78, L := [3], D := [] }]
theorem tabC8_ok : tabOk Try.prog tabC8 = true := by kernel_rfl
def tabC9 : List FEnt := [
  { f := 79, L := [2], D := [(1, [(0, 2), (1, 2), (3, 2), (4, 2), (5, 2), (6, 2), (7, 3), (2, 1), (8, 1), (9, 2), (10, 2), (11, 2)])] }]
theorem tabC9_ok : tabOk Try.prog tabC9 = true := by kernel_rfl
def tabC10 : List FEnt := [
  { f := 80, L := [], D := [] }]
theorem tabC10_ok : tabOk Try.prog tabC10 = true := by kernel_rfl
def tabC11 : List FEnt := [
  { f := 81, L := [9], D := [] }]
theorem tabC11_ok : tabOk Try.prog tabC11 = true := by kernel_rfl
def tabC : List FEnt := [
  { f := 15, L := [], D := [] },
  { f := 17, L := [], D := [] },
  { f := 21, L := [], D := [] },
  { f := 48, L := [], D := [] },
  { f := 49, L := [11], D := [(8, [(0, 2), (1, 2), (3, 2), (5, 2), (6, 2), (8, 2), (2, 3), (4, 3), (7, 1), (9, 2), (10, 0), (11, 0), (12, 2)]), (5, [(0, 2), (1, 2), (3, 2), (5, 2), (6, 2), (8, 2), (2, 3), (4, 3), (7, 1), (9, 2), (10, 0), (11, 0), (12, 2)])] },
  { f := 50, L := [], D := [] },
  { f := 51, L := [9], D := [(14, [(0, 2), (1, 2), (2, 2), (3, 2), (4, 2), (5, 2), (6, 2), (7, 2), (8, 2)])] },
  { f := 52, L := [], D := [(3, [(0, 2), (1, 2), (2, 2), (3, 2), (4, 2), (5, 2), (6, 2), (7, 2), (8, 2), (9, 2), (10, 2), (11, 2), (12, 2), (13, 0), (14, 2), (15, 0)])] },
  { f := 78, L := [3], D := [] },
  { f := 79, L := [2], D := [(1, [(0, 2), (1, 2), (3, 2), (4, 2), (5, 2), (6, 2), (7, 3), (2, 1), (8, 1), (9, 2), (10, 2), (11, 2)])] },
  { f := 80, L := [], D := [] },
  { f := 81, L := [9], D := [] }]

theorem tabC_ok : tabOk Try.prog tabC = true := tabOk_cons tabC0_ok (tabOk_cons tabC1_ok (tabOk_cons tabC2_ok (tabOk_cons tabC3_ok (tabOk_cons tabC4_ok (tabOk_cons tabC5_ok (tabOk_cons tabC6_ok (tabOk_cons tabC7_ok (tabOk_cons tabC8_ok (tabOk_cons tabC9_ok (tabOk_cons tabC10_ok (tabOk_cons tabC11_ok (rfl))))))))))))
theorem F15_run : rIs (rCall 2000 Try.prog tabC 40 15 [] AHeap.none) true = true := by kernel_rfl
theorem F15_spec0 (h : AHeap) : ACalls Try.prog 15 [] h (fun v' h'' => v' = (.bool true : Value) ∧ h'' = h) := acalls_run good 2000 40 tabC tabC_ok F15_run rfl h
def F15 : Unit := ()
theorem F15_spec (h : AHeap) (r : Unit) (_ : F15 = r) : ACalls Try.prog 15 [] h (fun v' h'' => v' = (.bool true : Value) ∧ h'' = h) := F15_spec0 h
end
end Go.Proofs.Ytmncgnjginibiaa.Abs
