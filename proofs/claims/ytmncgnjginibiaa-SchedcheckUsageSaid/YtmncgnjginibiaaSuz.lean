/-
  Contracts, written by program: for each function what its call yields, and that it yields it.
-/
import Derived.Test.YtmncgnjginibiaaVw
import Derived.Test.YtmncgnjginibiaaChecked
namespace Go.Proofs.Ytmncgnjginibiaa.Abs
open Go
set_option linter.unusedVariables false
set_option linter.unusedSimpArgs false

theorem good : Good Try.prog := good_of Try.checked.mixed (by kernel_rfl)
noncomputable section
theorem tabOk_cons {P : Program} {e : FEnt} {r : List FEnt} (h : tabOk P [e] = true) (hr : tabOk P r = true) : tabOk P (e :: r) = true := by
  unfold tabOk at *
  rw [List.all_cons] at *
  rw [hr, Bool.and_true]
  simpa using h
def tabC0 : List FEnt := [
  { f := 9, L := [1], D := [] }]
theorem tabC0_ok : tabOk Try.prog tabC0 = true := by kernel_rfl
def tabC1 : List FEnt := [
  { f := 14, L := [2, 3], D := [] }]
theorem tabC1_ok : tabOk Try.prog tabC1 = true := by kernel_rfl
def tabC2 : List FEnt := [
  { f := 34, L := [0], D := [] }]
theorem tabC2_ok : tabOk Try.prog tabC2 = true := by kernel_rfl
def tabC3 : List FEnt := [
  { f := 36, L := [2, 3, 7], D := [(11, [(0, 2), (1, 2), (2, 2), (3, 2), (4, 2), (5, 2), (6, 2), (7, 2), (8, 2), (9, 2), (10, 2), (11, 2), (12, 2), (13, 2), (14, 2), (15, 2), (16, 2), (17, 2), (18, 2), (19, 2), (20, 2), (21, 2), (22, 2), (23, 2), (24, 2), (25, 2), (26, 2), (27, 2), (28, 2), (29, 2), (30, 2), (31, 2), (32, 2), (33, 2), (34, 2), (35, 2), (36, 2), (37, 2), (38, 2)])] }]
theorem tabC3_ok : tabOk Try.prog tabC3 = true := by kernel_rfl
def tabC4 : List FEnt := [
  { f := 39, L := [], D := [] }]
theorem tabC4_ok : tabOk Try.prog tabC4 = true := by kernel_rfl
def tabC5 : List FEnt := [
  { f := 40, L := [], D := [] }]
theorem tabC5_ok : tabOk Try.prog tabC5 = true := by kernel_rfl
def tabC6 : List FEnt := [
  { f := 41, L := [2, 3], D := [] }]
theorem tabC6_ok : tabOk Try.prog tabC6 = true := by kernel_rfl
def tabC7 : List FEnt := [
  { f := 42, L := [2, 3, 8, 9], D := [(11, [(0, 2), (1, 2), (2, 2), (3, 2), (4, 2), (5, 2), (6, 2), (7, 2), (8, 2), (9, 0)]), (15, [(0, 2), (1, 2), (2, 2), (3, 2), (4, 2), (5, 2), (6, 2), (7, 2), (8, 2), (9, 2), (10, 2), (11, 2), (12, 2), (13, 2), (14, 2), (15, 2), (16, 2), (17, 2), (18, 2), (19, 2), (20, 1)])] }]
theorem tabC7_ok : tabOk Try.prog tabC7 = true := by kernel_rfl
def tabC8 : List FEnt := [
  { f := 59, L := [], D := [] }]
theorem tabC8_ok : tabOk Try.prog tabC8 = true := by kernel_rfl
def tabC9 : List FEnt := [
  { f := 60, L := [], D := [] }]
theorem tabC9_ok : tabOk Try.prog tabC9 = true := by kernel_rfl
def tabC10 : List FEnt := [
  { f := 67, L := [1, 4, 6, 8], D := [] }]
theorem tabC10_ok : tabOk Try.prog tabC10 = true := by kernel_rfl
def tabC11 : List FEnt := [
  { f := 68, L := [], D := [] }]
theorem tabC11_ok : tabOk Try.prog tabC11 = true := by kernel_rfl
def tabC12 : List FEnt := [
  { f := 71, L := [], D := [] }]
theorem tabC12_ok : tabOk Try.prog tabC12 = true := by kernel_rfl
def tabC13 : List FEnt := [
  { f := 72, L := [2, 3, 7], D := [(7, [(0, 2), (1, 2), (2, 2), (3, 2), (4, 2), (8, 2), (12, 2), (14, 2), (16, 2), (6, 3), (7, 3), (9, 3), (13, 3), (15, 3), (17, 3), (18, 2), (19, 2), (5, 1), (10, 1), (11, 2), (20, 2), (21, 0), (22, 0), (23, 2)])] }]
theorem tabC13_ok : tabOk Try.prog tabC13 = true := by kernel_rfl
def tabC14 : List FEnt := [
  { f := 73, L := [], D := [] }]
theorem tabC14_ok : tabOk Try.prog tabC14 = true := by kernel_rfl
def tabC15 : List FEnt := [
  { f := 74, L := [], D := [] }]
theorem tabC15_ok : tabOk Try.prog tabC15 = true := by kernel_rfl
def tabC16 : List FEnt := [
  { f := 75, L := [2, 3], D := [(1, [(0, 2), (1, 2), (2, 2), (3, 2), (5, 2), (7, 2), (6, 3), (8, 3), (4, 1), (9, 1), (10, 0), (11, 1), (12, 2)])] }]
theorem tabC16_ok : tabOk Try.prog tabC16 = true := by kernel_rfl
def tabC17 : List FEnt := [
  { f := 84, L := [], D := [] }]
theorem tabC17_ok : tabOk Try.prog tabC17 = true := by kernel_rfl
def tabC18 : List FEnt := [
  { f := 85, L := [], D := [] }]
theorem tabC18_ok : tabOk Try.prog tabC18 = true := by kernel_rfl
def tabC19 : List FEnt := [
  { f := 87, L := [2, 3], D := [(2, [(0, 2), (1, 2), (2, 2), (3, 2), (4, 2), (5, 2), (6, 2), (7, 2), (8, 2), (9, 2), (10, 2), (12, 2), (11, 3), (13, 1), (14, 2), (15, 2), (16, 2), (17, 2), (18, 2), (19, 2), (20, 2), (21, 2), (22, 2), (23, 2), (24, 2), (25, 2), (26, 2), (27, 2), (28, 2), (29, 2), (30, 2), (31, 2), (32, 2), (33, 2), (34, 2), (35, 2), (36, 2), (37, 2), (38, 2), (39, 2), (40, 2), (41, 2), (42, 2), (43, 2), (44, 2), (45, 2), (46, 2), (47, 2), (48, 2), (49, 2), (50, 2), (51, 2), (52, 2), (53, 2), (54, 2), (55, 2), (56, 2)])] }]
theorem tabC19_ok : tabOk Try.prog tabC19 = true := by kernel_rfl
def tabC20 : List FEnt := [
  { f := 88, L := [1, 7], D := [(10, [(0, 2), (2, 2), (5, 2), (7, 2), (1, 3), (3, 2), (4, 5), (6, 1), (8, 2), (9, 2)]), (17, [(0, 2), (1, 2), (2, 2), (3, 2), (4, 2), (5, 2), (7, 2), (6, 3), (8, 1), (9, 2), (10, 2), (11, 2), (12, 2), (13, 2), (14, 2), (15, 2), (16, 2), (17, 2), (18, 2), (19, 2), (20, 2), (21, 2), (22, 2), (23, 2), (24, 2), (25, 2), (26, 2), (27, 2), (28, 2), (29, 2), (30, 2), (31, 2), (32, 2), (33, 2)])] }]
theorem tabC20_ok : tabOk Try.prog tabC20 = true := by kernel_rfl
def tabC21 : List FEnt := [
  { f := 89, L := [3, 4], D := [] }]
theorem tabC21_ok : tabOk Try.prog tabC21 = true := by kernel_rfl
def tabC22 : List FEnt := [
  { f := 90, L := [], D := [(17, [(0, 2), (1, 2), (2, 2), (3, 2), (4, 2), (5, 2), (6, 2), (7, 2), (8, 2), (9, 2), (10, 2), (11, 2), (12, 2), (13, 1), (14, 2), (15, 2), (16, 2)])] }]
theorem tabC22_ok : tabOk Try.prog tabC22 = true := by kernel_rfl
def tabC23 : List FEnt := [
  { f := 99, L := [], D := [] }]
theorem tabC23_ok : tabOk Try.prog tabC23 = true := by kernel_rfl
def tabC24 : List FEnt := [
  { f := 100, L := [], D := [] }]
theorem tabC24_ok : tabOk Try.prog tabC24 = true := by kernel_rfl
def tabC25 : List FEnt := [
  { f := 101, L := [1], D := [] }]
theorem tabC25_ok : tabOk Try.prog tabC25 = true := by kernel_rfl
def tabC26 : List FEnt := [
  { f := 102, L := [1], D := [] }]
theorem tabC26_ok : tabOk Try.prog tabC26 = true := by kernel_rfl
def tabC27 : List FEnt := [
  { f := 103, L := [1], D := [] }]
theorem tabC27_ok : tabOk Try.prog tabC27 = true := by kernel_rfl
def tabC28 : List FEnt := [
  { f := 104, L := [], D := [(4, [(0, 2), (1, 2), (2, 2), (3, 2), (4, 2), (5, 2), (6, 2), (7, 2), (8, 2), (9, 2), (10, 2), (11, 2), (12, 2), (13, 2), (14, 1), (15, 2), (16, 2)]), (6, [(0, 2), (1, 2), (2, 2), (3, 2), (4, 2), (5, 2), (6, 2), (7, 2), (8, 2), (9, 2), (10, 2), (11, 2), (12, 2), (13, 2), (14, 2), (15, 0), (16, 2), (17, 0)])] }]
theorem tabC28_ok : tabOk Try.prog tabC28 = true := by kernel_rfl
def tabC : List FEnt := [
  { f := 9, L := [1], D := [] },
  { f := 14, L := [2, 3], D := [] },
  { f := 34, L := [0], D := [] },
  { f := 36, L := [2, 3, 7], D := [(11, [(0, 2), (1, 2), (2, 2), (3, 2), (4, 2), (5, 2), (6, 2), (7, 2), (8, 2), (9, 2), (10, 2), (11, 2), (12, 2), (13, 2), (14, 2), (15, 2), (16, 2), (17, 2), (18, 2), (19, 2), (20, 2), (21, 2), (22, 2), (23, 2), (24, 2), (25, 2), (26, 2), (27, 2), (28, 2), (29, 2), (30, 2), (31, 2), (32, 2), (33, 2), (34, 2), (35, 2), (36, 2), (37, 2), (38, 2)])] },
  { f := 39, L := [], D := [] },
  { f := 40, L := [], D := [] },
  { f := 41, L := [2, 3], D := [] },
  { f := 42, L := [2, 3, 8, 9], D := [(11, [(0, 2), (1, 2), (2, 2), (3, 2), (4, 2), (5, 2), (6, 2), (7, 2), (8, 2), (9, 0)]), (15, [(0, 2), (1, 2), (2, 2), (3, 2), (4, 2), (5, 2), (6, 2), (7, 2), (8, 2), (9, 2), (10, 2), (11, 2), (12, 2), (13, 2), (14, 2), (15, 2), (16, 2), (17, 2), (18, 2), (19, 2), (20, 1)])] },
  { f := 59, L := [], D := [] },
  { f := 60, L := [], D := [] },
  { f := 67, L := [1, 4, 6, 8], D := [] },
  { f := 68, L := [], D := [] },
  { f := 71, L := [], D := [] },
  { f := 72, L := [2, 3, 7], D := [(7, [(0, 2), (1, 2), (2, 2), (3, 2), (4, 2), (8, 2), (12, 2), (14, 2), (16, 2), (6, 3), (7, 3), (9, 3), (13, 3), (15, 3), (17, 3), (18, 2), (19, 2), (5, 1), (10, 1), (11, 2), (20, 2), (21, 0), (22, 0), (23, 2)])] },
  { f := 73, L := [], D := [] },
  { f := 74, L := [], D := [] },
  { f := 75, L := [2, 3], D := [(1, [(0, 2), (1, 2), (2, 2), (3, 2), (5, 2), (7, 2), (6, 3), (8, 3), (4, 1), (9, 1), (10, 0), (11, 1), (12, 2)])] },
  { f := 84, L := [], D := [] },
  { f := 85, L := [], D := [] },
  { f := 87, L := [2, 3], D := [(2, [(0, 2), (1, 2), (2, 2), (3, 2), (4, 2), (5, 2), (6, 2), (7, 2), (8, 2), (9, 2), (10, 2), (12, 2), (11, 3), (13, 1), (14, 2), (15, 2), (16, 2), (17, 2), (18, 2), (19, 2), (20, 2), (21, 2), (22, 2), (23, 2), (24, 2), (25, 2), (26, 2), (27, 2), (28, 2), (29, 2), (30, 2), (31, 2), (32, 2), (33, 2), (34, 2), (35, 2), (36, 2), (37, 2), (38, 2), (39, 2), (40, 2), (41, 2), (42, 2), (43, 2), (44, 2), (45, 2), (46, 2), (47, 2), (48, 2), (49, 2), (50, 2), (51, 2), (52, 2), (53, 2), (54, 2), (55, 2), (56, 2)])] },
  { f := 88, L := [1, 7], D := [(10, [(0, 2), (2, 2), (5, 2), (7, 2), (1, 3), (3, 2), (4, 5), (6, 1), (8, 2), (9, 2)]), (17, [(0, 2), (1, 2), (2, 2), (3, 2), (4, 2), (5, 2), (7, 2), (6, 3), (8, 1), (9, 2), (10, 2), (11, 2), (12, 2), (13, 2), (14, 2), (15, 2), (16, 2), (17, 2), (18, 2), (19, 2), (20, 2), (21, 2), (22, 2), (23, 2), (24, 2), (25, 2), (26, 2), (27, 2), (28, 2), (29, 2), (30, 2), (31, 2), (32, 2), (33, 2)])] },
  { f := 89, L := [3, 4], D := [] },
  { f := 90, L := [], D := [(17, [(0, 2), (1, 2), (2, 2), (3, 2), (4, 2), (5, 2), (6, 2), (7, 2), (8, 2), (9, 2), (10, 2), (11, 2), (12, 2), (13, 1), (14, 2), (15, 2), (16, 2)])] },
  { f := 99, L := [], D := [] },
  { f := 100, L := [], D := [] },
  { f := 101, L := [1], D := [] },
  { f := 102, L := [1], D := [] },
  { f := 103, L := [1], D := [] },
  { f := 104, L := [], D := [(4, [(0, 2), (1, 2), (2, 2), (3, 2), (4, 2), (5, 2), (6, 2), (7, 2), (8, 2), (9, 2), (10, 2), (11, 2), (12, 2), (13, 2), (14, 1), (15, 2), (16, 2)]), (6, [(0, 2), (1, 2), (2, 2), (3, 2), (4, 2), (5, 2), (6, 2), (7, 2), (8, 2), (9, 2), (10, 2), (11, 2), (12, 2), (13, 2), (14, 2), (15, 0), (16, 2), (17, 0)])] }]

theorem tabC_ok : tabOk Try.prog tabC = true := tabOk_cons tabC0_ok (tabOk_cons tabC1_ok (tabOk_cons tabC2_ok (tabOk_cons tabC3_ok (tabOk_cons tabC4_ok (tabOk_cons tabC5_ok (tabOk_cons tabC6_ok (tabOk_cons tabC7_ok (tabOk_cons tabC8_ok (tabOk_cons tabC9_ok (tabOk_cons tabC10_ok (tabOk_cons tabC11_ok (tabOk_cons tabC12_ok (tabOk_cons tabC13_ok (tabOk_cons tabC14_ok (tabOk_cons tabC15_ok (tabOk_cons tabC16_ok (tabOk_cons tabC17_ok (tabOk_cons tabC18_ok (tabOk_cons tabC19_ok (tabOk_cons tabC20_ok (tabOk_cons tabC21_ok (tabOk_cons tabC22_ok (tabOk_cons tabC23_ok (tabOk_cons tabC24_ok (tabOk_cons tabC25_ok (tabOk_cons tabC26_ok (tabOk_cons tabC27_ok (tabOk_cons tabC28_ok (rfl)))))))))))))))))))))))))))))
theorem F9_run : rIs (rCall 2000 Try.prog tabC 40 9 [] AHeap.none) true = true := by kernel_rfl
theorem F9_spec0 (h : AHeap) : ACalls Try.prog 9 [] h (fun v' h'' => v' = (.bool true : Value) ∧ h'' = h) := acalls_run good 2000 40 tabC tabC_ok F9_run rfl h
def F9 : Unit := ()
theorem F9_spec (h : AHeap) (r : Unit) (_ : F9 = r) : ACalls Try.prog 9 [] h (fun v' h'' => v' = (.bool true : Value) ∧ h'' = h) := F9_spec0 h
end
end Go.Proofs.Ytmncgnjginibiaa.Abs
