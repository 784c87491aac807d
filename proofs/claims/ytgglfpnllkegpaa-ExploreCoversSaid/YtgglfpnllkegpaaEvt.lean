/-
  Contracts, written by program: for each function what its call yields, and that it yields it.
-/
import Derived.Test.YtgglfpnllkegpaaEvz
import Derived.Test.YtgglfpnllkegpaaVx
import Derived.Test.YtgglfpnllkegpaaVy
namespace Go.Proofs.Ytgglfpnllkegpaa.Abs
open Go
set_option linter.unusedVariables false
set_option linter.unusedSimpArgs false

noncomputable section
theorem ai {a b : Prop} (x : a) (y : b) : a ∧ b := ⟨x, y⟩
def tab0 : List FEnt := [
  { f := 7, L := [], D := [(11, [(0, 2), (1, 2), (2, 2), (3, 2), (4, 2), (5, 2), (6, 2), (7, 2), (8, 2), (9, 2), (10, 1), (11, 2), (12, 2), (13, 2), (14, 2), (15, 2), (16, 2), (17, 2), (18, 2), (19, 2), (20, 2), (21, 1), (22, 2), (23, 2)]), (22, [(0, 2), (1, 2), (2, 2), (3, 2), (4, 2), (5, 2), (6, 2), (7, 2), (8, 2), (9, 2), (10, 2), (11, 2), (12, 1), (13, 2), (14, 2), (15, 2), (16, 2), (17, 2), (18, 2), (19, 2), (20, 2), (21, 2), (22, 1), (23, 2), (24, 2)])] }]
theorem tab0_ok : tabOk Try.prog tab0 = true := by kernel_rfl
def tab1 : List FEnt := [
  { f := 17, L := [], D := [] }]
theorem tab1_ok : tabOk Try.prog tab1 = true := by kernel_rfl
def tab2 : List FEnt := [
  { f := 18, L := [2, 3], D := [] }]
theorem tab2_ok : tabOk Try.prog tab2 = true := by kernel_rfl
def tab3 : List FEnt := [
  { f := 19, L := [2, 3], D := [] }]
theorem tab3_ok : tabOk Try.prog tab3 = true := by kernel_rfl
def tab4 : List FEnt := [
  { f := 20, L := [], D := [(6, [(0, 2), (1, 2), (2, 2), (3, 2), (4, 2), (5, 2), (6, 2), (7, 2), (8, 2)])] }]
theorem tab4_ok : tabOk Try.prog tab4 = true := by kernel_rfl
def tab5 : List FEnt := [
  { f := 31, L := [], D := [] }]
theorem tab5_ok : tabOk Try.prog tab5 = true := by kernel_rfl
def tab6 : List FEnt := [
  { f := 32, L := [], D := [] }]
theorem tab6_ok : tabOk Try.prog tab6 = true := by kernel_rfl
def tab7 : List FEnt := [
  { f := 35, L := [], D := [] }]
theorem tab7_ok : tabOk Try.prog tab7 = true := by kernel_rfl
def tab8 : List FEnt := [
  { f := 37, L := [2, 3], D := [(1, [(0, 2), (1, 2), (2, 2), (3, 2), (5, 2), (7, 2), (10, 2), (12, 2), (15, 2), (17, 2), (6, 3), (8, 3), (11, 3), (13, 3), (16, 3), (18, 3), (4, 1), (9, 1), (14, 1), (19, 1), (20, 0), (21, 1), (22, 2)])] }]
theorem tab8_ok : tabOk Try.prog tab8 = true := by kernel_rfl
def tab9 : List FEnt := [
  { f := 38, L := [], D := [] }]
theorem tab9_ok : tabOk Try.prog tab9 = true := by kernel_rfl
def tab10 : List FEnt := [
  { f := 39, L := [2], D := [] }]
theorem tab10_ok : tabOk Try.prog tab10 = true := by kernel_rfl
def tab11 : List FEnt := [
  { f := 40, L := [2, 3], D := [] }]
theorem tab11_ok : tabOk Try.prog tab11 = true := by kernel_rfl
def tab12 : List FEnt := [
  { f := 41, L := [2, 3], D := [] }]
theorem tab12_ok : tabOk Try.prog tab12 = true := by kernel_rfl
def tab13 : List FEnt := [
  { f := 48, L := [], D := [] }]
theorem tab13_ok : tabOk Try.prog tab13 = true := by kernel_rfl
def tab14 : List FEnt := [
  { f := 51, L := [], D := [] }]
theorem tab14_ok : tabOk Try.prog tab14 = true := by kernel_rfl
def tab : List FEnt := [
  { f := 7, L := [], D := [(11, [(0, 2), (1, 2), (2, 2), (3, 2), (4, 2), (5, 2), (6, 2), (7, 2), (8, 2), (9, 2), (10, 1), (11, 2), (12, 2), (13, 2), (14, 2), (15, 2), (16, 2), (17, 2), (18, 2), (19, 2), (20, 2), (21, 1), (22, 2), (23, 2)]), (22, [(0, 2), (1, 2), (2, 2), (3, 2), (4, 2), (5, 2), (6, 2), (7, 2), (8, 2), (9, 2), (10, 2), (11, 2), (12, 1), (13, 2), (14, 2), (15, 2), (16, 2), (17, 2), (18, 2), (19, 2), (20, 2), (21, 2), (22, 1), (23, 2), (24, 2)])] },
  { f := 17, L := [], D := [] },
  { f := 18, L := [2, 3], D := [] },
  { f := 19, L := [2, 3], D := [] },
  { f := 20, L := [], D := [(6, [(0, 2), (1, 2), (2, 2), (3, 2), (4, 2), (5, 2), (6, 2), (7, 2), (8, 2)])] },
  { f := 31, L := [], D := [] },
  { f := 32, L := [], D := [] },
  { f := 35, L := [], D := [] },
  { f := 37, L := [2, 3], D := [(1, [(0, 2), (1, 2), (2, 2), (3, 2), (5, 2), (7, 2), (10, 2), (12, 2), (15, 2), (17, 2), (6, 3), (8, 3), (11, 3), (13, 3), (16, 3), (18, 3), (4, 1), (9, 1), (14, 1), (19, 1), (20, 0), (21, 1), (22, 2)])] },
  { f := 38, L := [], D := [] },
  { f := 39, L := [2], D := [] },
  { f := 40, L := [2, 3], D := [] },
  { f := 41, L := [2, 3], D := [] },
  { f := 48, L := [], D := [] },
  { f := 51, L := [], D := [] }]

theorem tab_ok : tabOk Try.prog tab = true := tabOk_cons tab0_ok (tabOk_cons tab1_ok (tabOk_cons tab2_ok (tabOk_cons tab3_ok (tabOk_cons tab4_ok (tabOk_cons tab5_ok (tabOk_cons tab6_ok (tabOk_cons tab7_ok (tabOk_cons tab8_ok (tabOk_cons tab9_ok (tabOk_cons tab10_ok (tabOk_cons tab11_ok (tabOk_cons tab12_ok (tabOk_cons tab13_ok (tabOk_cons tab14_ok (rfl)))))))))))))))
end
end Go.Proofs.Ytgglfpnllkegpaa.Abs
