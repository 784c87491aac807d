/- The fixed example of layer 24, by computing; DiophantGcd in the model. -/
import Derived.Test.YtliochikjbalhaaVp
import Derived.Test.YtliochikjbalhaaChecked
import Derived.Test.YtliochikjbalhaaGcL
namespace Go.Proofs.Ytliochikjbalhaa
open Go Go.RowKit Go.Proofs.Ytliochikjbalhaa.Abs
theorem good24 : Abs.Good Try.prog := good_of Try.checked.mixed (by kernel_rfl)
def tab24 : List FEnt := [
  { f := 14, L := [1], D := [] },
  { f := 15, L := [], D := [] },
  { f := 26, L := [1, 5, 7, 8], D := [(7, [(0, 1), (1, 1), (2, 1), (3, 1), (4, 1), (5, 1), (6, 1), (7, 1), (8, 1), (9, 1), (10, 1), (11, 1), (12, 1), (13, 1), (14, 1)]), (17, [(0, 1), (1, 1), (2, 1), (3, 1), (4, 1), (5, 1), (6, 1), (7, 1), (8, 1), (9, 1), (10, 1), (11, 1), (12, 1), (13, 1), (14, 1), (15, 1), (16, 1)])] },
  { f := 27, L := [1], D := [] },
  { f := 41, L := [1, 2], D := [] },
  { f := 42, L := [1, 2, 10], D := [(10, [(0, 1), (1, 1), (3, 1), (5, 1), (7, 1), (10, 1), (4, 2), (6, 1), (2, 0), (8, 0), (9, 1), (11, 0), (12, 1)]), (11, [(0, 1), (1, 1), (2, 1), (3, 1), (4, 1), (5, 1), (6, 1), (7, 1), (8, 1), (9, 1), (10, 1), (11, 1), (12, 1), (13, 1), (14, 1), (15, 1), (16, 1), (17, 1), (18, 1), (19, 0)])] },
  { f := 43, L := [2, 3, 4, 6, 7], D := [] },
  { f := 44, L := [], D := [] },
  { f := 60, L := [], D := [] },
  { f := 61, L := [2, 3, 4], D := [] },
  { f := 62, L := [5, 6, 7], D := [(3, [(0, 1), (2, 1), (4, 1), (6, 1), (8, 1), (10, 1), (1, 2), (3, 1), (7, 2), (9, 1), (5, 0), (11, 0), (12, 1), (13, 0)]), (5, [(0, 1), (1, 1), (4, 1), (5, 1), (7, 1), (8, 1), (11, 1), (12, 1), (2, 2), (3, 1), (9, 2), (10, 1), (6, 0), (13, 0), (14, 1), (15, 0)])] },
  { f := 68, L := [], D := [] },
  { f := 69, L := [], D := [] }]

theorem tab24_ok : tabOk Try.prog tab24 = true := by kernel_rfl
theorem run24 : rIs (rCall 1000 Try.prog tab24 30 14 [] AHeap.none) true = true := by kernel_rfl
theorem awake24 (w : World) : Calls Try.prog 14 #[] w fun e w' => e = .returned (.bool true) ∧ Below w.heap.size w w' :=
  calls_of_none ((acalls_run good24 1000 30 tab24 tab24_ok run24 rfl AHeap.none).mono fun v h' h => h.1) w
theorem gcdlaw (a b : Int) (w : World) :
    Calls Try.prog 4 #[.int .i64 a, .int .i64 b] w fun e w' => e = .returned (.bool true) ∧ Below w.heap.size w w' := gcdlaw_any awake24 a b w
end Go.Proofs.Ytliochikjbalhaa
