/- BitsDivision: the law for every width. -/
import Derived.Test.YtcehihpjaijllaaDivision
namespace Go.Proofs.Ytcehihpjaijllaa
open Go.RowKit

theorem division_walk (a : Int) (x y : Nat) (w : World) (hx : x < 18446744073709551616) (hy : y < 18446744073709551616) :
    Calls Try.prog 4 #[.int .i64 a, .int .u64 x, .int .u64 y] w fun e w' => e = .returned (.bool true) ∧ Below w.heap.size w w' := by
  by_cases hr : rightB a = true
  · have hr1 : 1 ≤ a ∧ a ≤ 64 := by simpa [rightB] using hr
    exact division_ok a x y w hx hy hr1.1 hr1.2
  · have hr' : rightB a = false := by simpa using hr
    clear hr
    go_enter Try.func4, Try.ntmps4
    go_wp2_with fail
    refine (awake_any _).mono ?_
    rintro e w' ⟨rfl, rfl⟩
    go_wp2_with fail
    refine (right_any a _).mono ?_
    rintro e w' ⟨rfl, rfl⟩
    go_wp2_with fail
    go_ret
    exact ⟨rfl, Below.refl _ _⟩
end Go.Proofs.Ytcehihpjaijllaa
