/-
  Contracts, written by program: for each function what its call yields, and that it yields it.
-/
import Derived.Test.YtimeninncpmaeaaVw
import Derived.Test.YtimeninncpmaeaaChecked
import Derived.Test.YtimeninncpmaeaaVy
import Derived.Test.YtimeninncpmaeaaVn
import Derived.Test.YtimeninncpmaeaaVm
namespace Go.Proofs.Ytimeninncpmaeaa.Abs
open Go
set_option linter.unusedVariables false
set_option linter.unusedSimpArgs false

theorem good : Good Try.prog := good_of Try.checked.mixed (by kernel_rfl)
noncomputable section
theorem ai {a b : Prop} (x : a) (y : b) : a ∧ b := ⟨x, y⟩
theorem tabOk_cons {P : Program} {e : FEnt} {r : List FEnt} (h : tabOk P [e] = true) (hr : tabOk P r = true) : tabOk P (e :: r) = true := by
  unfold tabOk at *
  rw [List.all_cons] at *
  rw [hr, Bool.and_true]
  simpa using h
def tab0 : List FEnt := [
  { f := 9, L := [3], D := [(28, [(0, 2), (1, 2), (2, 2), (3, 2), (4, 2), (5, 2), (6, 2), (7, 2), (8, 2), (9, 2), (10, 2), (11, 2), (12, 2), (13, 2), (14, 2), (15, 2), (16, 2), (17, 2), (18, 2), (19, 2)])] }]
theorem tab0_ok : tabOk Try.prog tab0 = true := by kernel_rfl
def tab1 : List FEnt := [
  { f := 11, L := [1], D := [] }]
theorem tab1_ok : tabOk Try.prog tab1 = true := by kernel_rfl
def tab2 : List FEnt := [
  { f := 12, L := [1], D := [] }]
theorem tab2_ok : tabOk Try.prog tab2 = true := by kernel_rfl
def tab3 : List FEnt := [
  { f := 13, L := [2], D := [] }]
theorem tab3_ok : tabOk Try.prog tab3 = true := by kernel_rfl
def tab4 : List FEnt := [
  { f := 14, L := [1, 5, 10, 12], D := [(19, [(0, 2), (2, 2), (5, 2), (7, 2), (1, 3), (3, 2), (4, 5), (6, 1), (8, 2), (9, 2)]), (32, [(0, 2), (1, 2), (2, 2), (3, 2), (4, 2), (5, 2), (7, 2), (6, 3), (8, 1), (9, 2), (10, 2), (11, 2), (12, 2), (13, 2), (14, 2), (15, 2), (16, 2), (17, 2), (18, 2), (19, 2), (20, 2), (21, 2), (22, 2), (23, 2), (24, 2), (25, 2), (26, 2), (27, 2), (28, 2), (29, 2), (30, 2), (31, 2), (32, 2), (33, 2)])] }]
theorem tab4_ok : tabOk Try.prog tab4 = true := by kernel_rfl
def tab5 : List FEnt := [
  { f := 18, L := [1, 7, 8], D := [(8, [(0, 2), (1, 2), (2, 2), (3, 2), (4, 2), (5, 2), (7, 2), (9, 2), (6, 1), (8, 2), (10, 0)]), (11, [(0, 2), (1, 2), (2, 2), (3, 2), (4, 2), (5, 2), (6, 2), (7, 2)]), (12, [(0, 2), (1, 2), (2, 2), (4, 2), (3, 4), (5, 0), (6, 2), (7, 0)])] }]
theorem tab5_ok : tabOk Try.prog tab5 = true := by kernel_rfl
def tab6 : List FEnt := [
  { f := 21, L := [1, 2, 4, 7], D := [] }]
theorem tab6_ok : tabOk Try.prog tab6 = true := by kernel_rfl
def tab7 : List FEnt := [
  { f := 25, L := [3], D := [] }]
theorem tab7_ok : tabOk Try.prog tab7 = true := by kernel_rfl
def tab8 : List FEnt := [
  { f := 26, L := [1], D := [] }]
theorem tab8_ok : tabOk Try.prog tab8 = true := by kernel_rfl
def tab9 : List FEnt := [
  { f := 27, L := [], D := [(13, [(0, 2), (1, 2), (2, 2), (4, 2), (5, 2), (6, 2), (8, 2), (7, 5), (9, 2), (10, 5), (3, 1), (11, 2), (12, 2), (13, 2)])] }]
theorem tab9_ok : tabOk Try.prog tab9 = true := by kernel_rfl
def tab10 : List FEnt := [
  { f := 28, L := [1], D := [] }]
theorem tab10_ok : tabOk Try.prog tab10 = true := by kernel_rfl
def tab11 : List FEnt := [
  { f := 29, L := [], D := [(13, [(0, 2), (1, 2), (2, 2), (4, 2), (5, 2), (6, 2), (8, 2), (7, 5), (9, 2), (10, 5), (3, 1), (11, 2), (12, 2), (13, 2)])] }]
theorem tab11_ok : tabOk Try.prog tab11 = true := by kernel_rfl
def tab12 : List FEnt := [
  { f := 31, L := [0], D := [] }]
theorem tab12_ok : tabOk Try.prog tab12 = true := by kernel_rfl
def tab13 : List FEnt := [
  { f := 32, L := [3], D := [] }]
theorem tab13_ok : tabOk Try.prog tab13 = true := by kernel_rfl
def tab14 : List FEnt := [
  { f := 33, L := [1, 4, 6, 8], D := [] }]
theorem tab14_ok : tabOk Try.prog tab14 = true := by kernel_rfl
def tab15 : List FEnt := [
  { f := 34, L := [2], D := [(1, [(0, 2), (2, 2), (4, 2), (3, 3), (1, 1), (5, 1), (6, 2), (7, 2), (8, 2), (9, 2), (10, 2)])] }]
theorem tab15_ok : tabOk Try.prog tab15 = true := by kernel_rfl
def tab16 : List FEnt := [
  { f := 35, L := [], D := [] }]
theorem tab16_ok : tabOk Try.prog tab16 = true := by kernel_rfl
def tab17 : List FEnt := [
  { f := 36, L := [], D := [] }]
theorem tab17_ok : tabOk Try.prog tab17 = true := by kernel_rfl
def tab18 : List FEnt := [
  { f := 40, L := [1, 5], D := [(1, [(0, 2), (4, 2), (1, 3), (2, 2), (5, 3), (6, 2), (3, 1), (8, 2), (7, 0), (9, 2)]), (6, [(0, 2), (1, 2), (2, 2), (3, 2), (4, 2), (5, 2), (6, 2), (7, 2), (8, 2), (9, 0)]), (7, [(0, 2), (1, 2), (2, 2), (3, 2), (4, 2), (5, 2), (6, 2), (7, 2), (8, 2), (9, 2), (10, 2), (11, 2), (12, 0)])] }]
theorem tab18_ok : tabOk Try.prog tab18 = true := by kernel_rfl
def tab19 : List FEnt := [
  { f := 42, L := [1], D := [] }]
theorem tab19_ok : tabOk Try.prog tab19 = true := by kernel_rfl
def tab20 : List FEnt := [
  { f := 43, L := [], D := [] }]
theorem tab20_ok : tabOk Try.prog tab20 = true := by kernel_rfl
def tab21 : List FEnt := [
  { f := 47, L := [], D := [] }]
theorem tab21_ok : tabOk Try.prog tab21 = true := by kernel_rfl
def tab22 : List FEnt := [
  { f := 48, L := [1], D := [] }]
theorem tab22_ok : tabOk Try.prog tab22 = true := by kernel_rfl
def tab23 : List FEnt := [
  { f := 49, L := [1], D := [] }]
theorem tab23_ok : tabOk Try.prog tab23 = true := by kernel_rfl
def tab24 : List FEnt := [
  { f := 50, L := [], D := [] }]
theorem tab24_ok : tabOk Try.prog tab24 = true := by kernel_rfl
def tab25 : List FEnt := [
  { f := 51, L := [], D := [(19, [(0, 2), (1, 2), (2, 2), (3, 2), (4, 2), (8, 2), (9, 2), (10, 2), (11, 2), (13, 2), (14, 2), (15, 2), (16, 2), (17, 2), (21, 2), (22, 2), (23, 2), (24, 2), (28, 2), (29, 2), (30, 2), (31, 2), (32, 2), (5, 6), (6, 2), (7, 6), (12, 6), (18, 6), (19, 2), (20, 6), (25, 6), (26, 2), (27, 6), (33, 1), (34, 2), (35, 2), (36, 0)]), (33, [(0, 2), (1, 2), (2, 2), (3, 2), (4, 2), (5, 2), (6, 2), (7, 2), (8, 2), (9, 2), (10, 2), (11, 2), (12, 2), (13, 2), (14, 2), (15, 2), (16, 2), (17, 2), (18, 2), (19, 2), (20, 2), (21, 2), (22, 2), (23, 2), (24, 2), (25, 2), (26, 2), (27, 2), (28, 2), (29, 0)])] }]
theorem tab25_ok : tabOk Try.prog tab25 = true := by kernel_rfl
def tab26 : List FEnt := [
  { f := 52, L := [], D := [] }]
theorem tab26_ok : tabOk Try.prog tab26 = true := by kernel_rfl
def tab27 : List FEnt := [
  { f := 53, L := [2, 3], D := [(2, [(0, 2), (1, 2), (2, 2), (3, 2), (4, 2), (5, 2), (6, 2), (7, 2), (8, 2), (9, 2), (10, 2), (12, 2), (11, 3), (13, 1), (14, 2), (15, 2), (16, 2), (17, 2), (18, 2), (19, 2), (20, 2), (21, 2), (22, 2), (23, 2), (24, 2), (25, 2), (26, 2), (27, 2), (28, 2), (29, 2), (30, 2), (31, 2), (32, 2), (33, 2), (34, 2), (35, 2), (36, 2), (37, 2), (38, 2), (39, 2), (40, 2), (41, 2), (42, 2), (43, 2), (44, 2), (45, 2), (46, 2), (47, 2), (48, 2), (49, 2), (50, 2), (51, 2), (52, 2), (53, 2), (54, 2), (55, 2), (56, 2)])] }]
theorem tab27_ok : tabOk Try.prog tab27 = true := by kernel_rfl
def tab28 : List FEnt := [
  { f := 54, L := [1, 7], D := [(10, [(0, 2), (2, 2), (5, 2), (7, 2), (1, 3), (3, 2), (4, 5), (6, 1), (8, 2), (9, 2)]), (17, [(0, 2), (1, 2), (2, 2), (3, 2), (4, 2), (5, 2), (7, 2), (6, 3), (8, 1), (9, 2), (10, 2), (11, 2), (12, 2), (13, 2), (14, 2), (15, 2), (16, 2), (17, 2), (18, 2), (19, 2), (20, 2), (21, 2), (22, 2), (23, 2), (24, 2), (25, 2), (26, 2), (27, 2), (28, 2), (29, 2), (30, 2), (31, 2), (32, 2), (33, 2)])] }]
theorem tab28_ok : tabOk Try.prog tab28 = true := by kernel_rfl
def tab29 : List FEnt := [
  { f := 55, L := [3], D := [(1, [(0, 2), (1, 2), (2, 2), (3, 2), (4, 2), (6, 2), (5, 3), (7, 1), (8, 2), (9, 2), (10, 2), (11, 2), (12, 2), (13, 2), (14, 2), (15, 2), (16, 2), (18, 2), (17, 3), (19, 1), (20, 2), (21, 2), (22, 2)])] }]
theorem tab29_ok : tabOk Try.prog tab29 = true := by kernel_rfl
def tab30 : List FEnt := [
  { f := 56, L := [2], D := [] }]
theorem tab30_ok : tabOk Try.prog tab30 = true := by kernel_rfl
def tab31 : List FEnt := [
  { f := 57, L := [], D := [] }]
theorem tab31_ok : tabOk Try.prog tab31 = true := by kernel_rfl
def tab32 : List FEnt := [
  { f := 58, L := [3], D := [] }]
theorem tab32_ok : tabOk Try.prog tab32 = true := by kernel_rfl
def tab33 : List FEnt := [
  { f := 59, L := [2], D := [(1, [(0, 2), (1, 2), (3, 2), (4, 2), (5, 2), (6, 2), (7, 3), (2, 1), (8, 1), (9, 2), (10, 2), (11, 2)])] }]
theorem tab33_ok : tabOk Try.prog tab33 = true := by kernel_rfl
def tab34 : List FEnt := [
  { f := 62, L := [], D := [] }]
theorem tab34_ok : tabOk Try.prog tab34 = true := by kernel_rfl
def tab35 : List FEnt := [
  { f := 63, L := [11], D := [(8, [(0, 2), (1, 2), (3, 2), (5, 2), (6, 2), (8, 2), (2, 3), (4, 3), (7, 1), (9, 2), (10, 0), (11, 0), (12, 2)]), (5, [(0, 2), (1, 2), (3, 2), (5, 2), (6, 2), (8, 2), (2, 3), (4, 3), (7, 1), (9, 2), (10, 0), (11, 0), (12, 2)])] }]
theorem tab35_ok : tabOk Try.prog tab35 = true := by kernel_rfl
def tab36 : List FEnt := [
  { f := 64, L := [], D := [] }]
theorem tab36_ok : tabOk Try.prog tab36 = true := by kernel_rfl
def tab37 : List FEnt := [
  { f := 65, L := [9], D := [(14, [(0, 2), (1, 2), (2, 2), (3, 2), (4, 2), (5, 2), (6, 2), (7, 2), (8, 2)])] }]
theorem tab37_ok : tabOk Try.prog tab37 = true := by kernel_rfl
def tab38 : List FEnt := [
  { f := 66, L := [], D := [(3, [(0, 2), (1, 2), (2, 2), (3, 2), (4, 2), (5, 2), (6, 2), (7, 2), (8, 2), (9, 2), (10, 2), (11, 2), (12, 2), (13, 0), (14, 2), (15, 0)])] }]
theorem tab38_ok : tabOk Try.prog tab38 = true := by kernel_rfl
def tab39 : List FEnt := [
  { f := 67, L := [], D := [] }]
theorem tab39_ok : tabOk Try.prog tab39 = true := by kernel_rfl
def tab40 : List FEnt := [
  { f := 68, L := [], D := [] }]
theorem tab40_ok : tabOk Try.prog tab40 = true := by kernel_rfl
def tab41 : List FEnt := [
  { f := 70, L := [9], D := [] }]
theorem tab41_ok : tabOk Try.prog tab41 = true := by kernel_rfl
def tab : List FEnt := [
  { f := 9, L := [3], D := [(28, [(0, 2), (1, 2), (2, 2), (3, 2), (4, 2), (5, 2), (6, 2), (7, 2), (8, 2), (9, 2), (10, 2), (11, 2), (12, 2), (13, 2), (14, 2), (15, 2), (16, 2), (17, 2), (18, 2), (19, 2)])] },
  { f := 11, L := [1], D := [] },
  { f := 12, L := [1], D := [] },
  { f := 13, L := [2], D := [] },
  { f := 14, L := [1, 5, 10, 12], D := [(19, [(0, 2), (2, 2), (5, 2), (7, 2), (1, 3), (3, 2), (4, 5), (6, 1), (8, 2), (9, 2)]), (32, [(0, 2), (1, 2), (2, 2), (3, 2), (4, 2), (5, 2), (7, 2), (6, 3), (8, 1), (9, 2), (10, 2), (11, 2), (12, 2), (13, 2), (14, 2), (15, 2), (16, 2), (17, 2), (18, 2), (19, 2), (20, 2), (21, 2), (22, 2), (23, 2), (24, 2), (25, 2), (26, 2), (27, 2), (28, 2), (29, 2), (30, 2), (31, 2), (32, 2), (33, 2)])] },
  { f := 18, L := [1, 7, 8], D := [(8, [(0, 2), (1, 2), (2, 2), (3, 2), (4, 2), (5, 2), (7, 2), (9, 2), (6, 1), (8, 2), (10, 0)]), (11, [(0, 2), (1, 2), (2, 2), (3, 2), (4, 2), (5, 2), (6, 2), (7, 2)]), (12, [(0, 2), (1, 2), (2, 2), (4, 2), (3, 4), (5, 0), (6, 2), (7, 0)])] },
  { f := 21, L := [1, 2, 4, 7], D := [] },
  { f := 25, L := [3], D := [] },
  { f := 26, L := [1], D := [] },
  { f := 27, L := [], D := [(13, [(0, 2), (1, 2), (2, 2), (4, 2), (5, 2), (6, 2), (8, 2), (7, 5), (9, 2), (10, 5), (3, 1), (11, 2), (12, 2), (13, 2)])] },
  { f := 28, L := [1], D := [] },
  { f := 29, L := [], D := [(13, [(0, 2), (1, 2), (2, 2), (4, 2), (5, 2), (6, 2), (8, 2), (7, 5), (9, 2), (10, 5), (3, 1), (11, 2), (12, 2), (13, 2)])] },
  { f := 31, L := [0], D := [] },
  { f := 32, L := [3], D := [] },
  { f := 33, L := [1, 4, 6, 8], D := [] },
  { f := 34, L := [2], D := [(1, [(0, 2), (2, 2), (4, 2), (3, 3), (1, 1), (5, 1), (6, 2), (7, 2), (8, 2), (9, 2), (10, 2)])] },
  { f := 35, L := [], D := [] },
  { f := 36, L := [], D := [] },
  { f := 40, L := [1, 5], D := [(1, [(0, 2), (4, 2), (1, 3), (2, 2), (5, 3), (6, 2), (3, 1), (8, 2), (7, 0), (9, 2)]), (6, [(0, 2), (1, 2), (2, 2), (3, 2), (4, 2), (5, 2), (6, 2), (7, 2), (8, 2), (9, 0)]), (7, [(0, 2), (1, 2), (2, 2), (3, 2), (4, 2), (5, 2), (6, 2), (7, 2), (8, 2), (9, 2), (10, 2), (11, 2), (12, 0)])] },
  { f := 42, L := [1], D := [] },
  { f := 43, L := [], D := [] },
  { f := 47, L := [], D := [] },
  { f := 48, L := [1], D := [] },
  { f := 49, L := [1], D := [] },
  { f := 50, L := [], D := [] },
  { f := 51, L := [], D := [(19, [(0, 2), (1, 2), (2, 2), (3, 2), (4, 2), (8, 2), (9, 2), (10, 2), (11, 2), (13, 2), (14, 2), (15, 2), (16, 2), (17, 2), (21, 2), (22, 2), (23, 2), (24, 2), (28, 2), (29, 2), (30, 2), (31, 2), (32, 2), (5, 6), (6, 2), (7, 6), (12, 6), (18, 6), (19, 2), (20, 6), (25, 6), (26, 2), (27, 6), (33, 1), (34, 2), (35, 2), (36, 0)]), (33, [(0, 2), (1, 2), (2, 2), (3, 2), (4, 2), (5, 2), (6, 2), (7, 2), (8, 2), (9, 2), (10, 2), (11, 2), (12, 2), (13, 2), (14, 2), (15, 2), (16, 2), (17, 2), (18, 2), (19, 2), (20, 2), (21, 2), (22, 2), (23, 2), (24, 2), (25, 2), (26, 2), (27, 2), (28, 2), (29, 0)])] },
  { f := 52, L := [], D := [] },
  { f := 53, L := [2, 3], D := [(2, [(0, 2), (1, 2), (2, 2), (3, 2), (4, 2), (5, 2), (6, 2), (7, 2), (8, 2), (9, 2), (10, 2), (12, 2), (11, 3), (13, 1), (14, 2), (15, 2), (16, 2), (17, 2), (18, 2), (19, 2), (20, 2), (21, 2), (22, 2), (23, 2), (24, 2), (25, 2), (26, 2), (27, 2), (28, 2), (29, 2), (30, 2), (31, 2), (32, 2), (33, 2), (34, 2), (35, 2), (36, 2), (37, 2), (38, 2), (39, 2), (40, 2), (41, 2), (42, 2), (43, 2), (44, 2), (45, 2), (46, 2), (47, 2), (48, 2), (49, 2), (50, 2), (51, 2), (52, 2), (53, 2), (54, 2), (55, 2), (56, 2)])] },
  { f := 54, L := [1, 7], D := [(10, [(0, 2), (2, 2), (5, 2), (7, 2), (1, 3), (3, 2), (4, 5), (6, 1), (8, 2), (9, 2)]), (17, [(0, 2), (1, 2), (2, 2), (3, 2), (4, 2), (5, 2), (7, 2), (6, 3), (8, 1), (9, 2), (10, 2), (11, 2), (12, 2), (13, 2), (14, 2), (15, 2), (16, 2), (17, 2), (18, 2), (19, 2), (20, 2), (21, 2), (22, 2), (23, 2), (24, 2), (25, 2), (26, 2), (27, 2), (28, 2), (29, 2), (30, 2), (31, 2), (32, 2), (33, 2)])] },
  { f := 55, L := [3], D := [(1, [(0, 2), (1, 2), (2, 2), (3, 2), (4, 2), (6, 2), (5, 3), (7, 1), (8, 2), (9, 2), (10, 2), (11, 2), (12, 2), (13, 2), (14, 2), (15, 2), (16, 2), (18, 2), (17, 3), (19, 1), (20, 2), (21, 2), (22, 2)])] },
  { f := 56, L := [2], D := [] },
  { f := 57, L := [], D := [] },
  { f := 58, L := [3], D := [] },
  { f := 59, L := [2], D := [(1, [(0, 2), (1, 2), (3, 2), (4, 2), (5, 2), (6, 2), (7, 3), (2, 1), (8, 1), (9, 2), (10, 2), (11, 2)])] },
  { f := 62, L := [], D := [] },
  { f := 63, L := [11], D := [(8, [(0, 2), (1, 2), (3, 2), (5, 2), (6, 2), (8, 2), (2, 3), (4, 3), (7, 1), (9, 2), (10, 0), (11, 0), (12, 2)]), (5, [(0, 2), (1, 2), (3, 2), (5, 2), (6, 2), (8, 2), (2, 3), (4, 3), (7, 1), (9, 2), (10, 0), (11, 0), (12, 2)])] },
  { f := 64, L := [], D := [] },
  { f := 65, L := [9], D := [(14, [(0, 2), (1, 2), (2, 2), (3, 2), (4, 2), (5, 2), (6, 2), (7, 2), (8, 2)])] },
  { f := 66, L := [], D := [(3, [(0, 2), (1, 2), (2, 2), (3, 2), (4, 2), (5, 2), (6, 2), (7, 2), (8, 2), (9, 2), (10, 2), (11, 2), (12, 2), (13, 0), (14, 2), (15, 0)])] },
  { f := 67, L := [], D := [] },
  { f := 68, L := [], D := [] },
  { f := 70, L := [9], D := [] }]

theorem tab_ok : tabOk Try.prog tab = true := tabOk_cons tab0_ok (tabOk_cons tab1_ok (tabOk_cons tab2_ok (tabOk_cons tab3_ok (tabOk_cons tab4_ok (tabOk_cons tab5_ok (tabOk_cons tab6_ok (tabOk_cons tab7_ok (tabOk_cons tab8_ok (tabOk_cons tab9_ok (tabOk_cons tab10_ok (tabOk_cons tab11_ok (tabOk_cons tab12_ok (tabOk_cons tab13_ok (tabOk_cons tab14_ok (tabOk_cons tab15_ok (tabOk_cons tab16_ok (tabOk_cons tab17_ok (tabOk_cons tab18_ok (tabOk_cons tab19_ok (tabOk_cons tab20_ok (tabOk_cons tab21_ok (tabOk_cons tab22_ok (tabOk_cons tab23_ok (tabOk_cons tab24_ok (tabOk_cons tab25_ok (tabOk_cons tab26_ok (tabOk_cons tab27_ok (tabOk_cons tab28_ok (tabOk_cons tab29_ok (tabOk_cons tab30_ok (tabOk_cons tab31_ok (tabOk_cons tab32_ok (tabOk_cons tab33_ok (tabOk_cons tab34_ok (tabOk_cons tab35_ok (tabOk_cons tab36_ok (tabOk_cons tab37_ok (tabOk_cons tab38_ok (tabOk_cons tab39_ok (tabOk_cons tab40_ok (tabOk_cons tab41_ok (rfl))))))))))))))))))))))))))))))))))))))))))
end
end Go.Proofs.Ytimeninncpmaeaa.Abs
