/-
  Contracts, written by program: for each function what its call yields, and that it yields it.
-/
import Derived.Test.YtgglfpnllkegpaaVw
import Derived.Test.YtgglfpnllkegpaaChecked
namespace Go.Proofs.Ytgglfpnllkegpaa.Abs
open Go
set_option linter.unusedVariables false
set_option linter.unusedSimpArgs false

theorem good : Good Try.prog := good_of Try.checked.mixed (by kernel_rfl)
noncomputable section
theorem tabOk_cons {P : Program} {e : FEnt} {r : List FEnt} (h : tabOk P [e] = true) (hr : tabOk P r = true) : tabOk P (e :: r) = true := by
  unfold tabOk at *
  rw [List.all_cons] at *
  rw [hr, Bool.and_true]
  simpa using h
def tabC0 : List FEnt := [
  { f := 16, L := [], D := [] }]
theorem tabC0_ok : tabOk Try.prog tabC0 = true := by kernel_rfl
def tabC1 : List FEnt := [
  { f := 17, L := [], D := [] }]
theorem tabC1_ok : tabOk Try.prog tabC1 = true := by kernel_rfl
def tabC2 : List FEnt := [
  { f := 31, L := [], D := [] }]
theorem tabC2_ok : tabOk Try.prog tabC2 = true := by kernel_rfl
def tabC3 : List FEnt := [
  { f := 32, L := [], D := [] }]
theorem tabC3_ok : tabOk Try.prog tabC3 = true := by kernel_rfl
def tabC4 : List FEnt := [
  { f := 35, L := [], D := [] }]
theorem tabC4_ok : tabOk Try.prog tabC4 = true := by kernel_rfl
def tabC5 : List FEnt := [
  { f := 36, L := [], D := [] }]
theorem tabC5_ok : tabOk Try.prog tabC5 = true := by kernel_rfl
def tabC6 : List FEnt := [
  { f := 37, L := [2, 3], D := [(1, [(0, 2), (1, 2), (2, 2), (3, 2), (5, 2), (7, 2), (10, 2), (12, 2), (15, 2), (17, 2), (6, 3), (8, 3), (11, 3), (13, 3), (16, 3), (18, 3), (4, 1), (9, 1), (14, 1), (19, 1), (20, 0), (21, 1), (22, 2)])] }]
theorem tabC6_ok : tabOk Try.prog tabC6 = true := by kernel_rfl
def tabC7 : List FEnt := [
  { f := 38, L := [], D := [] }]
theorem tabC7_ok : tabOk Try.prog tabC7 = true := by kernel_rfl
def tabC8 : List FEnt := [
  { f := 39, L := [2], D := [] }]
theorem tabC8_ok : tabOk Try.prog tabC8 = true := by kernel_rfl
def tabC9 : List FEnt := [
  { f := 40, L := [2, 3], D := [] }]
theorem tabC9_ok : tabOk Try.prog tabC9 = true := by kernel_rfl
def tabC10 : List FEnt := [
  { f := 47, L := [], D := [] }]
theorem tabC10_ok : tabOk Try.prog tabC10 = true := by kernel_rfl
def tabC11 : List FEnt := [
  { f := 48, L := [], D := [] }]
theorem tabC11_ok : tabOk Try.prog tabC11 = true := by kernel_rfl
def tabC12 : List FEnt := [
  { f := 50, L := [], D := [(17, [(0, 2), (1, 2), (2, 2), (3, 2), (4, 2), (5, 2), (6, 2), (7, 2), (8, 2), (9, 2), (10, 2), (11, 2), (12, 2), (13, 1), (14, 2), (15, 2), (16, 2)])] }]
theorem tabC12_ok : tabOk Try.prog tabC12 = true := by kernel_rfl
def tabC13 : List FEnt := [
  { f := 51, L := [], D := [] }]
theorem tabC13_ok : tabOk Try.prog tabC13 = true := by kernel_rfl
def tabC14 : List FEnt := [
  { f := 63, L := [], D := [] }]
theorem tabC14_ok : tabOk Try.prog tabC14 = true := by kernel_rfl
def tabC15 : List FEnt := [
  { f := 64, L := [], D := [(4, [(0, 2), (1, 2), (2, 2), (3, 2), (4, 2), (5, 2), (6, 2), (7, 2), (8, 2), (9, 2), (10, 2), (11, 2), (12, 2), (13, 2), (14, 1), (15, 2), (16, 2)]), (6, [(0, 2), (1, 2), (2, 2), (3, 2), (4, 2), (5, 2), (6, 2), (7, 2), (8, 2), (9, 2), (10, 2), (11, 2), (12, 2), (13, 2), (14, 2), (15, 0), (16, 2), (17, 0)])] }]
theorem tabC15_ok : tabOk Try.prog tabC15 = true := by kernel_rfl
def tabC : List FEnt := [
  { f := 16, L := [], D := [] },
  { f := 17, L := [], D := [] },
  { f := 31, L := [], D := [] },
  { f := 32, L := [], D := [] },
  { f := 35, L := [], D := [] },
  { f := 36, L := [], D := [] },
  { f := 37, L := [2, 3], D := [(1, [(0, 2), (1, 2), (2, 2), (3, 2), (5, 2), (7, 2), (10, 2), (12, 2), (15, 2), (17, 2), (6, 3), (8, 3), (11, 3), (13, 3), (16, 3), (18, 3), (4, 1), (9, 1), (14, 1), (19, 1), (20, 0), (21, 1), (22, 2)])] },
  { f := 38, L := [], D := [] },
  { f := 39, L := [2], D := [] },
  { f := 40, L := [2, 3], D := [] },
  { f := 47, L := [], D := [] },
  { f := 48, L := [], D := [] },
  { f := 50, L := [], D := [(17, [(0, 2), (1, 2), (2, 2), (3, 2), (4, 2), (5, 2), (6, 2), (7, 2), (8, 2), (9, 2), (10, 2), (11, 2), (12, 2), (13, 1), (14, 2), (15, 2), (16, 2)])] },
  { f := 51, L := [], D := [] },
  { f := 63, L := [], D := [] },
  { f := 64, L := [], D := [(4, [(0, 2), (1, 2), (2, 2), (3, 2), (4, 2), (5, 2), (6, 2), (7, 2), (8, 2), (9, 2), (10, 2), (11, 2), (12, 2), (13, 2), (14, 1), (15, 2), (16, 2)]), (6, [(0, 2), (1, 2), (2, 2), (3, 2), (4, 2), (5, 2), (6, 2), (7, 2), (8, 2), (9, 2), (10, 2), (11, 2), (12, 2), (13, 2), (14, 2), (15, 0), (16, 2), (17, 0)])] }]

theorem tabC_ok : tabOk Try.prog tabC = true := tabOk_cons tabC0_ok (tabOk_cons tabC1_ok (tabOk_cons tabC2_ok (tabOk_cons tabC3_ok (tabOk_cons tabC4_ok (tabOk_cons tabC5_ok (tabOk_cons tabC6_ok (tabOk_cons tabC7_ok (tabOk_cons tabC8_ok (tabOk_cons tabC9_ok (tabOk_cons tabC10_ok (tabOk_cons tabC11_ok (tabOk_cons tabC12_ok (tabOk_cons tabC13_ok (tabOk_cons tabC14_ok (tabOk_cons tabC15_ok (rfl))))))))))))))))
theorem F16_run : rIs (rCall 2000 Try.prog tabC 40 16 [] AHeap.none) true = true := by kernel_rfl
theorem F16_spec0 (h : AHeap) : ACalls Try.prog 16 [] h (fun v' h'' => v' = (.bool true : Value) ∧ h'' = h) := acalls_run good 2000 40 tabC tabC_ok F16_run rfl h
def F16 : Unit := ()
theorem F16_spec (h : AHeap) (r : Unit) (_ : F16 = r) : ACalls Try.prog 16 [] h (fun v' h'' => v' = (.bool true : Value) ∧ h'' = h) := F16_spec0 h
end
end Go.Proofs.Ytgglfpnllkegpaa.Abs
