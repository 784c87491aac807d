/-
  Contracts, written by program: for each function what its call yields, and that it yields it.
-/
import Derived.Test.YtmncgnjginibiaaSuz
import Derived.Test.YtmncgnjginibiaaVx
import Derived.Test.YtmncgnjginibiaaVy
import Derived.Test.YtmncgnjginibiaaVn
namespace Go.Proofs.Ytmncgnjginibiaa.Abs
open Go
set_option linter.unusedVariables false
set_option linter.unusedSimpArgs false

noncomputable section
theorem ai {a b : Prop} (x : a) (y : b) : a ∧ b := ⟨x, y⟩
def tab0 : List FEnt := [
  { f := 3, L := [2, 3], D := [(33, [(0, 2), (1, 2), (2, 2), (3, 2), (4, 2), (5, 2), (6, 2), (7, 2), (8, 2), (9, 2), (10, 2), (11, 2), (12, 2), (13, 2), (14, 1), (15, 2), (16, 2)])] }]
theorem tab0_ok : tabOk Try.prog tab0 = true := by kernel_rfl
def tab1 : List FEnt := [
  { f := 10, L := [2, 3], D := [] }]
theorem tab1_ok : tabOk Try.prog tab1 = true := by kernel_rfl
def tab2 : List FEnt := [
  { f := 11, L := [2, 3, 9], D := [] }]
theorem tab2_ok : tabOk Try.prog tab2 = true := by kernel_rfl
def tab3 : List FEnt := [
  { f := 12, L := [2, 3], D := [] }]
theorem tab3_ok : tabOk Try.prog tab3 = true := by kernel_rfl
def tab4 : List FEnt := [
  { f := 13, L := [], D := [(6, [(0, 2), (1, 2), (2, 2), (3, 2), (4, 2), (5, 2), (6, 2), (7, 2), (8, 2)])] }]
theorem tab4_ok : tabOk Try.prog tab4 = true := by kernel_rfl
def tab5 : List FEnt := [
  { f := 14, L := [2, 3], D := [] }]
theorem tab5_ok : tabOk Try.prog tab5 = true := by kernel_rfl
def tab6 : List FEnt := [
  { f := 35, L := [3], D := [] }]
theorem tab6_ok : tabOk Try.prog tab6 = true := by kernel_rfl
def tab7 : List FEnt := [
  { f := 36, L := [2, 3, 7], D := [(11, [(0, 2), (1, 2), (2, 2), (3, 2), (4, 2), (5, 2), (6, 2), (7, 2), (8, 2), (9, 2), (10, 2), (11, 2), (12, 2), (13, 2), (14, 2), (15, 2), (16, 2), (17, 2), (18, 2), (19, 2), (20, 2), (21, 2), (22, 2), (23, 2), (24, 2), (25, 2), (26, 2), (27, 2), (28, 2), (29, 2), (30, 2), (31, 2), (32, 2), (33, 2), (34, 2), (35, 2), (36, 2), (37, 2), (38, 2)])] }]
theorem tab7_ok : tabOk Try.prog tab7 = true := by kernel_rfl
def tab8 : List FEnt := [
  { f := 37, L := [1, 5, 10, 12], D := [(19, [(0, 2), (2, 2), (5, 2), (7, 2), (1, 3), (3, 2), (4, 5), (6, 1), (8, 2), (9, 2)]), (32, [(0, 2), (1, 2), (2, 2), (3, 2), (4, 2), (5, 2), (7, 2), (6, 3), (8, 1), (9, 2), (10, 2), (11, 2), (12, 2), (13, 2), (14, 2), (15, 2), (16, 2), (17, 2), (18, 2), (19, 2), (20, 2), (21, 2), (22, 2), (23, 2), (24, 2), (25, 2), (26, 2), (27, 2), (28, 2), (29, 2), (30, 2), (31, 2), (32, 2), (33, 2)])] }]
theorem tab8_ok : tabOk Try.prog tab8 = true := by kernel_rfl
def tab9 : List FEnt := [
  { f := 38, L := [2, 3, 6], D := [(7, [(0, 2), (1, 2), (2, 2), (3, 2), (4, 2), (5, 2), (6, 2), (7, 2), (8, 2), (9, 2), (10, 2), (11, 2), (12, 2), (13, 2), (14, 2), (15, 2), (16, 2), (17, 2), (18, 2), (19, 2), (20, 2), (21, 2), (22, 2), (23, 2), (24, 2), (25, 2), (26, 2), (27, 2), (28, 2), (29, 2), (30, 2), (31, 2), (32, 2), (33, 2), (34, 2), (35, 2), (36, 2), (37, 2), (38, 2), (39, 2), (40, 2), (41, 2), (42, 2), (43, 2), (44, 2), (45, 2), (46, 2), (47, 2), (48, 2), (49, 2), (50, 2), (51, 2), (52, 2), (53, 2), (54, 2)])] }]
theorem tab9_ok : tabOk Try.prog tab9 = true := by kernel_rfl
def tab10 : List FEnt := [
  { f := 39, L := [], D := [] }]
theorem tab10_ok : tabOk Try.prog tab10 = true := by kernel_rfl
def tab11 : List FEnt := [
  { f := 40, L := [], D := [] }]
theorem tab11_ok : tabOk Try.prog tab11 = true := by kernel_rfl
def tab12 : List FEnt := [
  { f := 41, L := [2, 3], D := [] }]
theorem tab12_ok : tabOk Try.prog tab12 = true := by kernel_rfl
def tab13 : List FEnt := [
  { f := 42, L := [2, 3, 8, 9], D := [(11, [(0, 2), (1, 2), (2, 2), (3, 2), (4, 2), (5, 2), (6, 2), (7, 2), (8, 2), (9, 0)]), (15, [(0, 2), (1, 2), (2, 2), (3, 2), (4, 2), (5, 2), (6, 2), (7, 2), (8, 2), (9, 2), (10, 2), (11, 2), (12, 2), (13, 2), (14, 2), (15, 2), (16, 2), (17, 2), (18, 2), (19, 2), (20, 1)])] }]
theorem tab13_ok : tabOk Try.prog tab13 = true := by kernel_rfl
def tab14 : List FEnt := [
  { f := 59, L := [], D := [] }]
theorem tab14_ok : tabOk Try.prog tab14 = true := by kernel_rfl
def tab15 : List FEnt := [
  { f := 60, L := [], D := [] }]
theorem tab15_ok : tabOk Try.prog tab15 = true := by kernel_rfl
def tab16 : List FEnt := [
  { f := 67, L := [1, 4, 6, 8], D := [] }]
theorem tab16_ok : tabOk Try.prog tab16 = true := by kernel_rfl
def tab17 : List FEnt := [
  { f := 68, L := [], D := [] }]
theorem tab17_ok : tabOk Try.prog tab17 = true := by kernel_rfl
def tab18 : List FEnt := [
  { f := 69, L := [1], D := [] }]
theorem tab18_ok : tabOk Try.prog tab18 = true := by kernel_rfl
def tab19 : List FEnt := [
  { f := 70, L := [1], D := [] }]
theorem tab19_ok : tabOk Try.prog tab19 = true := by kernel_rfl
def tab20 : List FEnt := [
  { f := 71, L := [], D := [] }]
theorem tab20_ok : tabOk Try.prog tab20 = true := by kernel_rfl
def tab21 : List FEnt := [
  { f := 72, L := [2, 3, 7], D := [(7, [(0, 2), (1, 2), (2, 2), (3, 2), (4, 2), (8, 2), (12, 2), (14, 2), (16, 2), (6, 3), (7, 3), (9, 3), (13, 3), (15, 3), (17, 3), (18, 2), (19, 2), (5, 1), (10, 1), (11, 2), (20, 2), (21, 0), (22, 0), (23, 2)])] }]
theorem tab21_ok : tabOk Try.prog tab21 = true := by kernel_rfl
def tab22 : List FEnt := [
  { f := 73, L := [], D := [] }]
theorem tab22_ok : tabOk Try.prog tab22 = true := by kernel_rfl
def tab23 : List FEnt := [
  { f := 75, L := [2, 3], D := [(1, [(0, 2), (1, 2), (2, 2), (3, 2), (5, 2), (7, 2), (6, 3), (8, 3), (4, 1), (9, 1), (10, 0), (11, 1), (12, 2)])] }]
theorem tab23_ok : tabOk Try.prog tab23 = true := by kernel_rfl
def tab24 : List FEnt := [
  { f := 85, L := [], D := [] }]
theorem tab24_ok : tabOk Try.prog tab24 = true := by kernel_rfl
def tab25 : List FEnt := [
  { f := 87, L := [2, 3], D := [(2, [(0, 2), (1, 2), (2, 2), (3, 2), (4, 2), (5, 2), (6, 2), (7, 2), (8, 2), (9, 2), (10, 2), (12, 2), (11, 3), (13, 1), (14, 2), (15, 2), (16, 2), (17, 2), (18, 2), (19, 2), (20, 2), (21, 2), (22, 2), (23, 2), (24, 2), (25, 2), (26, 2), (27, 2), (28, 2), (29, 2), (30, 2), (31, 2), (32, 2), (33, 2), (34, 2), (35, 2), (36, 2), (37, 2), (38, 2), (39, 2), (40, 2), (41, 2), (42, 2), (43, 2), (44, 2), (45, 2), (46, 2), (47, 2), (48, 2), (49, 2), (50, 2), (51, 2), (52, 2), (53, 2), (54, 2), (55, 2), (56, 2)])] }]
theorem tab25_ok : tabOk Try.prog tab25 = true := by kernel_rfl
def tab26 : List FEnt := [
  { f := 88, L := [1, 7], D := [(10, [(0, 2), (2, 2), (5, 2), (7, 2), (1, 3), (3, 2), (4, 5), (6, 1), (8, 2), (9, 2)]), (17, [(0, 2), (1, 2), (2, 2), (3, 2), (4, 2), (5, 2), (7, 2), (6, 3), (8, 1), (9, 2), (10, 2), (11, 2), (12, 2), (13, 2), (14, 2), (15, 2), (16, 2), (17, 2), (18, 2), (19, 2), (20, 2), (21, 2), (22, 2), (23, 2), (24, 2), (25, 2), (26, 2), (27, 2), (28, 2), (29, 2), (30, 2), (31, 2), (32, 2), (33, 2)])] }]
theorem tab26_ok : tabOk Try.prog tab26 = true := by kernel_rfl
def tab27 : List FEnt := [
  { f := 89, L := [3, 4], D := [] }]
theorem tab27_ok : tabOk Try.prog tab27 = true := by kernel_rfl
def tab28 : List FEnt := [
  { f := 101, L := [1], D := [] }]
theorem tab28_ok : tabOk Try.prog tab28 = true := by kernel_rfl
def tab29 : List FEnt := [
  { f := 102, L := [1], D := [] }]
theorem tab29_ok : tabOk Try.prog tab29 = true := by kernel_rfl
def tab30 : List FEnt := [
  { f := 103, L := [1], D := [] }]
theorem tab30_ok : tabOk Try.prog tab30 = true := by kernel_rfl
def tab : List FEnt := [
  { f := 3, L := [2, 3], D := [(33, [(0, 2), (1, 2), (2, 2), (3, 2), (4, 2), (5, 2), (6, 2), (7, 2), (8, 2), (9, 2), (10, 2), (11, 2), (12, 2), (13, 2), (14, 1), (15, 2), (16, 2)])] },
  { f := 10, L := [2, 3], D := [] },
  { f := 11, L := [2, 3, 9], D := [] },
  { f := 12, L := [2, 3], D := [] },
  { f := 13, L := [], D := [(6, [(0, 2), (1, 2), (2, 2), (3, 2), (4, 2), (5, 2), (6, 2), (7, 2), (8, 2)])] },
  { f := 14, L := [2, 3], D := [] },
  { f := 35, L := [3], D := [] },
  { f := 36, L := [2, 3, 7], D := [(11, [(0, 2), (1, 2), (2, 2), (3, 2), (4, 2), (5, 2), (6, 2), (7, 2), (8, 2), (9, 2), (10, 2), (11, 2), (12, 2), (13, 2), (14, 2), (15, 2), (16, 2), (17, 2), (18, 2), (19, 2), (20, 2), (21, 2), (22, 2), (23, 2), (24, 2), (25, 2), (26, 2), (27, 2), (28, 2), (29, 2), (30, 2), (31, 2), (32, 2), (33, 2), (34, 2), (35, 2), (36, 2), (37, 2), (38, 2)])] },
  { f := 37, L := [1, 5, 10, 12], D := [(19, [(0, 2), (2, 2), (5, 2), (7, 2), (1, 3), (3, 2), (4, 5), (6, 1), (8, 2), (9, 2)]), (32, [(0, 2), (1, 2), (2, 2), (3, 2), (4, 2), (5, 2), (7, 2), (6, 3), (8, 1), (9, 2), (10, 2), (11, 2), (12, 2), (13, 2), (14, 2), (15, 2), (16, 2), (17, 2), (18, 2), (19, 2), (20, 2), (21, 2), (22, 2), (23, 2), (24, 2), (25, 2), (26, 2), (27, 2), (28, 2), (29, 2), (30, 2), (31, 2), (32, 2), (33, 2)])] },
  { f := 38, L := [2, 3, 6], D := [(7, [(0, 2), (1, 2), (2, 2), (3, 2), (4, 2), (5, 2), (6, 2), (7, 2), (8, 2), (9, 2), (10, 2), (11, 2), (12, 2), (13, 2), (14, 2), (15, 2), (16, 2), (17, 2), (18, 2), (19, 2), (20, 2), (21, 2), (22, 2), (23, 2), (24, 2), (25, 2), (26, 2), (27, 2), (28, 2), (29, 2), (30, 2), (31, 2), (32, 2), (33, 2), (34, 2), (35, 2), (36, 2), (37, 2), (38, 2), (39, 2), (40, 2), (41, 2), (42, 2), (43, 2), (44, 2), (45, 2), (46, 2), (47, 2), (48, 2), (49, 2), (50, 2), (51, 2), (52, 2), (53, 2), (54, 2)])] },
  { f := 39, L := [], D := [] },
  { f := 40, L := [], D := [] },
  { f := 41, L := [2, 3], D := [] },
  { f := 42, L := [2, 3, 8, 9], D := [(11, [(0, 2), (1, 2), (2, 2), (3, 2), (4, 2), (5, 2), (6, 2), (7, 2), (8, 2), (9, 0)]), (15, [(0, 2), (1, 2), (2, 2), (3, 2), (4, 2), (5, 2), (6, 2), (7, 2), (8, 2), (9, 2), (10, 2), (11, 2), (12, 2), (13, 2), (14, 2), (15, 2), (16, 2), (17, 2), (18, 2), (19, 2), (20, 1)])] },
  { f := 59, L := [], D := [] },
  { f := 60, L := [], D := [] },
  { f := 67, L := [1, 4, 6, 8], D := [] },
  { f := 68, L := [], D := [] },
  { f := 69, L := [1], D := [] },
  { f := 70, L := [1], D := [] },
  { f := 71, L := [], D := [] },
  { f := 72, L := [2, 3, 7], D := [(7, [(0, 2), (1, 2), (2, 2), (3, 2), (4, 2), (8, 2), (12, 2), (14, 2), (16, 2), (6, 3), (7, 3), (9, 3), (13, 3), (15, 3), (17, 3), (18, 2), (19, 2), (5, 1), (10, 1), (11, 2), (20, 2), (21, 0), (22, 0), (23, 2)])] },
  { f := 73, L := [], D := [] },
  { f := 75, L := [2, 3], D := [(1, [(0, 2), (1, 2), (2, 2), (3, 2), (5, 2), (7, 2), (6, 3), (8, 3), (4, 1), (9, 1), (10, 0), (11, 1), (12, 2)])] },
  { f := 85, L := [], D := [] },
  { f := 87, L := [2, 3], D := [(2, [(0, 2), (1, 2), (2, 2), (3, 2), (4, 2), (5, 2), (6, 2), (7, 2), (8, 2), (9, 2), (10, 2), (12, 2), (11, 3), (13, 1), (14, 2), (15, 2), (16, 2), (17, 2), (18, 2), (19, 2), (20, 2), (21, 2), (22, 2), (23, 2), (24, 2), (25, 2), (26, 2), (27, 2), (28, 2), (29, 2), (30, 2), (31, 2), (32, 2), (33, 2), (34, 2), (35, 2), (36, 2), (37, 2), (38, 2), (39, 2), (40, 2), (41, 2), (42, 2), (43, 2), (44, 2), (45, 2), (46, 2), (47, 2), (48, 2), (49, 2), (50, 2), (51, 2), (52, 2), (53, 2), (54, 2), (55, 2), (56, 2)])] },
  { f := 88, L := [1, 7], D := [(10, [(0, 2), (2, 2), (5, 2), (7, 2), (1, 3), (3, 2), (4, 5), (6, 1), (8, 2), (9, 2)]), (17, [(0, 2), (1, 2), (2, 2), (3, 2), (4, 2), (5, 2), (7, 2), (6, 3), (8, 1), (9, 2), (10, 2), (11, 2), (12, 2), (13, 2), (14, 2), (15, 2), (16, 2), (17, 2), (18, 2), (19, 2), (20, 2), (21, 2), (22, 2), (23, 2), (24, 2), (25, 2), (26, 2), (27, 2), (28, 2), (29, 2), (30, 2), (31, 2), (32, 2), (33, 2)])] },
  { f := 89, L := [3, 4], D := [] },
  { f := 101, L := [1], D := [] },
  { f := 102, L := [1], D := [] },
  { f := 103, L := [1], D := [] }]

theorem tab_ok : tabOk Try.prog tab = true := tabOk_cons tab0_ok (tabOk_cons tab1_ok (tabOk_cons tab2_ok (tabOk_cons tab3_ok (tabOk_cons tab4_ok (tabOk_cons tab5_ok (tabOk_cons tab6_ok (tabOk_cons tab7_ok (tabOk_cons tab8_ok (tabOk_cons tab9_ok (tabOk_cons tab10_ok (tabOk_cons tab11_ok (tabOk_cons tab12_ok (tabOk_cons tab13_ok (tabOk_cons tab14_ok (tabOk_cons tab15_ok (tabOk_cons tab16_ok (tabOk_cons tab17_ok (tabOk_cons tab18_ok (tabOk_cons tab19_ok (tabOk_cons tab20_ok (tabOk_cons tab21_ok (tabOk_cons tab22_ok (tabOk_cons tab23_ok (tabOk_cons tab24_ok (tabOk_cons tab25_ok (tabOk_cons tab26_ok (tabOk_cons tab27_ok (tabOk_cons tab28_ok (tabOk_cons tab29_ok (tabOk_cons tab30_ok (rfl)))))))))))))))))))))))))))))))
end
end Go.Proofs.Ytmncgnjginibiaa.Abs
