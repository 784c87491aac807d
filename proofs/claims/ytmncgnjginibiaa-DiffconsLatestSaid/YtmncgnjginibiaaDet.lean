/-
  Contracts, written by program: for each function what its call yields, and that it yields it.
-/
import Derived.Test.YtmncgnjginibiaaDez
import Derived.Test.YtmncgnjginibiaaVx
import Derived.Test.YtmncgnjginibiaaVy
import Derived.Test.YtmncgnjginibiaaVn
import Derived.Test.YtmncgnjginibiaaVm
namespace Go.Proofs.Ytmncgnjginibiaa.Abs
open Go
set_option linter.unusedVariables false
set_option linter.unusedSimpArgs false

noncomputable section
theorem ai {a b : Prop} (x : a) (y : b) : a ∧ b := ⟨x, y⟩
def tab0 : List FEnt := [
  { f := 4, L := [1], D := [] }]
theorem tab0_ok : tabOk Try.prog tab0 = true := by kernel_rfl
def tab1 : List FEnt := [
  { f := 5, L := [2], D := [] }]
theorem tab1_ok : tabOk Try.prog tab1 = true := by kernel_rfl
def tab2 : List FEnt := [
  { f := 6, L := [2], D := [] }]
theorem tab2_ok : tabOk Try.prog tab2 = true := by kernel_rfl
def tab3 : List FEnt := [
  { f := 16, L := [1], D := [] }]
theorem tab3_ok : tabOk Try.prog tab3 = true := by kernel_rfl
def tab4 : List FEnt := [
  { f := 17, L := [], D := [] }]
theorem tab4_ok : tabOk Try.prog tab4 = true := by kernel_rfl
def tab5 : List FEnt := [
  { f := 18, L := [], D := [(13, [(0, 2), (1, 2), (2, 2), (4, 2), (5, 2), (6, 2), (8, 2), (7, 5), (9, 2), (10, 5), (3, 1), (11, 2), (12, 2), (13, 2)])] }]
theorem tab5_ok : tabOk Try.prog tab5 = true := by kernel_rfl
def tab6 : List FEnt := [
  { f := 19, L := [3], D := [] }]
theorem tab6_ok : tabOk Try.prog tab6 = true := by kernel_rfl
def tab7 : List FEnt := [
  { f := 20, L := [], D := [(6, [(0, 2), (1, 2), (2, 2), (3, 2), (4, 2), (5, 2), (6, 2), (7, 2), (8, 2)])] }]
theorem tab7_ok : tabOk Try.prog tab7 = true := by kernel_rfl
def tab8 : List FEnt := [
  { f := 21, L := [], D := [] }]
theorem tab8_ok : tabOk Try.prog tab8 = true := by kernel_rfl
def tab9 : List FEnt := [
  { f := 22, L := [], D := [] }]
theorem tab9_ok : tabOk Try.prog tab9 = true := by kernel_rfl
def tab10 : List FEnt := [
  { f := 23, L := [], D := [(13, [(0, 2), (1, 2), (2, 2), (4, 2), (5, 2), (6, 2), (8, 2), (7, 5), (9, 2), (10, 5), (3, 1), (11, 2), (12, 2), (13, 2)])] }]
theorem tab10_ok : tabOk Try.prog tab10 = true := by kernel_rfl
def tab11 : List FEnt := [
  { f := 43, L := [], D := [] }]
theorem tab11_ok : tabOk Try.prog tab11 = true := by kernel_rfl
def tab12 : List FEnt := [
  { f := 44, L := [], D := [(19, [(0, 2), (1, 2), (2, 2), (3, 2), (4, 2), (8, 2), (9, 2), (10, 2), (11, 2), (13, 2), (14, 2), (15, 2), (16, 2), (17, 2), (21, 2), (22, 2), (23, 2), (24, 2), (28, 2), (29, 2), (30, 2), (31, 2), (32, 2), (5, 6), (6, 2), (7, 6), (12, 6), (18, 6), (19, 2), (20, 6), (25, 6), (26, 2), (27, 6), (33, 1), (34, 2), (35, 2), (36, 0)]), (33, [(0, 2), (1, 2), (2, 2), (3, 2), (4, 2), (5, 2), (6, 2), (7, 2), (8, 2), (9, 2), (10, 2), (11, 2), (12, 2), (13, 2), (14, 2), (15, 2), (16, 2), (17, 2), (18, 2), (19, 2), (20, 2), (21, 2), (22, 2), (23, 2), (24, 2), (25, 2), (26, 2), (27, 2), (28, 2), (29, 0)])] }]
theorem tab12_ok : tabOk Try.prog tab12 = true := by kernel_rfl
def tab13 : List FEnt := [
  { f := 45, L := [], D := [] }]
theorem tab13_ok : tabOk Try.prog tab13 = true := by kernel_rfl
def tab14 : List FEnt := [
  { f := 46, L := [], D := [(13, [(0, 2), (1, 2), (2, 2), (3, 2), (4, 2), (5, 2), (6, 2), (7, 2), (8, 2), (9, 2), (10, 2), (11, 2), (12, 2), (13, 2)]), (18, [(0, 2), (1, 2), (2, 2), (3, 2), (4, 2), (5, 2), (6, 2), (7, 2), (8, 2), (9, 2), (10, 2), (11, 2), (12, 2), (13, 2), (14, 2), (15, 2), (16, 2)])] }]
theorem tab14_ok : tabOk Try.prog tab14 = true := by kernel_rfl
def tab15 : List FEnt := [
  { f := 47, L := [], D := [(9, [(0, 2), (1, 2), (2, 2), (3, 2), (4, 2), (5, 2), (6, 2), (7, 2), (8, 2), (9, 2), (10, 2), (11, 2), (12, 2), (13, 2), (14, 2), (15, 2), (16, 2), (17, 2), (18, 2), (19, 2), (20, 2), (21, 2), (22, 2), (23, 2), (24, 1), (25, 2), (26, 2), (27, 2), (28, 2), (29, 2), (30, 2), (31, 2), (32, 2), (33, 2), (34, 2), (35, 2), (36, 2), (37, 2), (38, 2), (39, 2), (40, 2), (41, 2), (42, 2), (43, 2), (44, 2), (45, 2), (46, 2), (47, 0), (48, 2)])] }]
theorem tab15_ok : tabOk Try.prog tab15 = true := by kernel_rfl
def tab16 : List FEnt := [
  { f := 48, L := [], D := [] }]
theorem tab16_ok : tabOk Try.prog tab16 = true := by kernel_rfl
def tab17 : List FEnt := [
  { f := 49, L := [11], D := [(8, [(0, 2), (1, 2), (3, 2), (5, 2), (6, 2), (8, 2), (2, 3), (4, 3), (7, 1), (9, 2), (10, 0), (11, 0), (12, 2)]), (5, [(0, 2), (1, 2), (3, 2), (5, 2), (6, 2), (8, 2), (2, 3), (4, 3), (7, 1), (9, 2), (10, 0), (11, 0), (12, 2)])] }]
theorem tab17_ok : tabOk Try.prog tab17 = true := by kernel_rfl
def tab18 : List FEnt := [
  { f := 50, L := [], D := [] }]
theorem tab18_ok : tabOk Try.prog tab18 = true := by kernel_rfl
def tab19 : List FEnt := [
  { f := 51, L := [9], D := [(14, [(0, 2), (1, 2), (2, 2), (3, 2), (4, 2), (5, 2), (6, 2), (7, 2), (8, 2)])] }]
theorem tab19_ok : tabOk Try.prog tab19 = true := by kernel_rfl
def tab20 : List FEnt := [
  { f := 52, L := [], D := [(3, [(0, 2), (1, 2), (2, 2), (3, 2), (4, 2), (5, 2), (6, 2), (7, 2), (8, 2), (9, 2), (10, 2), (11, 2), (12, 2), (13, 0), (14, 2), (15, 0)])] }]
theorem tab20_ok : tabOk Try.prog tab20 = true := by kernel_rfl
def tab21 : List FEnt := [
  { f := 76, L := [3], D := [(1, [(0, 2), (1, 2), (2, 2), (3, 2), (4, 2), (6, 2), (5, 3), (7, 1), (8, 2), (9, 2), (10, 2), (11, 2), (12, 2), (13, 2), (14, 2), (15, 2), (16, 2), (18, 2), (17, 3), (19, 1), (20, 2), (21, 2), (22, 2)])] }]
theorem tab21_ok : tabOk Try.prog tab21 = true := by kernel_rfl
def tab22 : List FEnt := [
  { f := 77, L := [2], D := [] }]
theorem tab22_ok : tabOk Try.prog tab22 = true := by kernel_rfl
def tab23 : List FEnt := [
  { f := 78, L := [3], D := [] }]
theorem tab23_ok : tabOk Try.prog tab23 = true := by kernel_rfl
def tab24 : List FEnt := [
  { f := 79, L := [2], D := [(1, [(0, 2), (1, 2), (3, 2), (4, 2), (5, 2), (6, 2), (7, 3), (2, 1), (8, 1), (9, 2), (10, 2), (11, 2)])] }]
theorem tab24_ok : tabOk Try.prog tab24 = true := by kernel_rfl
def tab25 : List FEnt := [
  { f := 80, L := [], D := [] }]
theorem tab25_ok : tabOk Try.prog tab25 = true := by kernel_rfl
def tab26 : List FEnt := [
  { f := 81, L := [9], D := [] }]
theorem tab26_ok : tabOk Try.prog tab26 = true := by kernel_rfl
def tab : List FEnt := [
  { f := 4, L := [1], D := [] },
  { f := 5, L := [2], D := [] },
  { f := 6, L := [2], D := [] },
  { f := 16, L := [1], D := [] },
  { f := 17, L := [], D := [] },
  { f := 18, L := [], D := [(13, [(0, 2), (1, 2), (2, 2), (4, 2), (5, 2), (6, 2), (8, 2), (7, 5), (9, 2), (10, 5), (3, 1), (11, 2), (12, 2), (13, 2)])] },
  { f := 19, L := [3], D := [] },
  { f := 20, L := [], D := [(6, [(0, 2), (1, 2), (2, 2), (3, 2), (4, 2), (5, 2), (6, 2), (7, 2), (8, 2)])] },
  { f := 21, L := [], D := [] },
  { f := 22, L := [], D := [] },
  { f := 23, L := [], D := [(13, [(0, 2), (1, 2), (2, 2), (4, 2), (5, 2), (6, 2), (8, 2), (7, 5), (9, 2), (10, 5), (3, 1), (11, 2), (12, 2), (13, 2)])] },
  { f := 43, L := [], D := [] },
  { f := 44, L := [], D := [(19, [(0, 2), (1, 2), (2, 2), (3, 2), (4, 2), (8, 2), (9, 2), (10, 2), (11, 2), (13, 2), (14, 2), (15, 2), (16, 2), (17, 2), (21, 2), (22, 2), (23, 2), (24, 2), (28, 2), (29, 2), (30, 2), (31, 2), (32, 2), (5, 6), (6, 2), (7, 6), (12, 6), (18, 6), (19, 2), (20, 6), (25, 6), (26, 2), (27, 6), (33, 1), (34, 2), (35, 2), (36, 0)]), (33, [(0, 2), (1, 2), (2, 2), (3, 2), (4, 2), (5, 2), (6, 2), (7, 2), (8, 2), (9, 2), (10, 2), (11, 2), (12, 2), (13, 2), (14, 2), (15, 2), (16, 2), (17, 2), (18, 2), (19, 2), (20, 2), (21, 2), (22, 2), (23, 2), (24, 2), (25, 2), (26, 2), (27, 2), (28, 2), (29, 0)])] },
  { f := 45, L := [], D := [] },
  { f := 46, L := [], D := [(13, [(0, 2), (1, 2), (2, 2), (3, 2), (4, 2), (5, 2), (6, 2), (7, 2), (8, 2), (9, 2), (10, 2), (11, 2), (12, 2), (13, 2)]), (18, [(0, 2), (1, 2), (2, 2), (3, 2), (4, 2), (5, 2), (6, 2), (7, 2), (8, 2), (9, 2), (10, 2), (11, 2), (12, 2), (13, 2), (14, 2), (15, 2), (16, 2)])] },
  { f := 47, L := [], D := [(9, [(0, 2), (1, 2), (2, 2), (3, 2), (4, 2), (5, 2), (6, 2), (7, 2), (8, 2), (9, 2), (10, 2), (11, 2), (12, 2), (13, 2), (14, 2), (15, 2), (16, 2), (17, 2), (18, 2), (19, 2), (20, 2), (21, 2), (22, 2), (23, 2), (24, 1), (25, 2), (26, 2), (27, 2), (28, 2), (29, 2), (30, 2), (31, 2), (32, 2), (33, 2), (34, 2), (35, 2), (36, 2), (37, 2), (38, 2), (39, 2), (40, 2), (41, 2), (42, 2), (43, 2), (44, 2), (45, 2), (46, 2), (47, 0), (48, 2)])] },
  { f := 48, L := [], D := [] },
  { f := 49, L := [11], D := [(8, [(0, 2), (1, 2), (3, 2), (5, 2), (6, 2), (8, 2), (2, 3), (4, 3), (7, 1), (9, 2), (10, 0), (11, 0), (12, 2)]), (5, [(0, 2), (1, 2), (3, 2), (5, 2), (6, 2), (8, 2), (2, 3), (4, 3), (7, 1), (9, 2), (10, 0), (11, 0), (12, 2)])] },
  { f := 50, L := [], D := [] },
  { f := 51, L := [9], D := [(14, [(0, 2), (1, 2), (2, 2), (3, 2), (4, 2), (5, 2), (6, 2), (7, 2), (8, 2)])] },
  { f := 52, L := [], D := [(3, [(0, 2), (1, 2), (2, 2), (3, 2), (4, 2), (5, 2), (6, 2), (7, 2), (8, 2), (9, 2), (10, 2), (11, 2), (12, 2), (13, 0), (14, 2), (15, 0)])] },
  { f := 76, L := [3], D := [(1, [(0, 2), (1, 2), (2, 2), (3, 2), (4, 2), (6, 2), (5, 3), (7, 1), (8, 2), (9, 2), (10, 2), (11, 2), (12, 2), (13, 2), (14, 2), (15, 2), (16, 2), (18, 2), (17, 3), (19, 1), (20, 2), (21, 2), (22, 2)])] },
  { f := 77, L := [2], D := [] },
  { f := 78, L := [3], D := [] },
  { f := 79, L := [2], D := [(1, [(0, 2), (1, 2), (3, 2), (4, 2), (5, 2), (6, 2), (7, 3), (2, 1), (8, 1), (9, 2), (10, 2), (11, 2)])] },
  { f := 80, L := [], D := [] },
  { f := 81, L := [9], D := [] }]

theorem tab_ok : tabOk Try.prog tab = true := tabOk_cons tab0_ok (tabOk_cons tab1_ok (tabOk_cons tab2_ok (tabOk_cons tab3_ok (tabOk_cons tab4_ok (tabOk_cons tab5_ok (tabOk_cons tab6_ok (tabOk_cons tab7_ok (tabOk_cons tab8_ok (tabOk_cons tab9_ok (tabOk_cons tab10_ok (tabOk_cons tab11_ok (tabOk_cons tab12_ok (tabOk_cons tab13_ok (tabOk_cons tab14_ok (tabOk_cons tab15_ok (tabOk_cons tab16_ok (tabOk_cons tab17_ok (tabOk_cons tab18_ok (tabOk_cons tab19_ok (tabOk_cons tab20_ok (tabOk_cons tab21_ok (tabOk_cons tab22_ok (tabOk_cons tab23_ok (tabOk_cons tab24_ok (tabOk_cons tab25_ok (tabOk_cons tab26_ok (rfl)))))))))))))))))))))))))))
end
end Go.Proofs.Ytmncgnjginibiaa.Abs
