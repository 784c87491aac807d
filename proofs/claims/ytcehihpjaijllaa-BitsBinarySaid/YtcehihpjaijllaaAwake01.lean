/- The check at the head of each statement of layer 1, and the small functions of its reference. -/
import Derived.Test.YtcehihpjaijllaaBitsD
namespace Go.Proofs.Ytcehihpjaijllaa
open Go.RowKit

theorem awake_any (w : World) :
    Calls Try.prog 10 #[] w fun e w' => e = .returned (.bool true) ∧ w = w' := by
  have H := Lib.hid (show binN 2 4 9 8 = 1 by decide)
  have H2 := Lib.hid (show binE 2 4 = 0 by decide)
  go_enter Try.func10, Try.ntmps10
  go_wp2_with fail
  refine (binary_any 2 4 9 8 _ (by decide) (by decide)).mono ?_
  rintro e w' ⟨rfl, rfl⟩
  rw [H.out, H2.out]
  go_wp2_with fail
  go_ret
  exact ⟨rfl, rfl⟩

def rightB (a : Int) : Bool := decide (1 ≤ a ∧ a ≤ 64)
theorem right_any (a : Int) (w : World) :
    Calls Try.prog 13 #[.int .i64 a] w fun e w' => e = .returned (.bool (rightB a)) ∧ w = w' := by
  by_cases h : 1 ≤ a
  · have H := Lib.hid (show rightB a = decide (a ≤ 64) by simp [rightB, h])
    go_enter Try.func13, Try.ntmps13
    go_wp2_with fail
    go_ret
    exact ⟨by rw [H.out]; rfl, rfl⟩
  · have H := Lib.hid (show rightB a = false by simp [rightB]; omega)
    go_enter Try.func13, Try.ntmps13
    go_wp2_with fail
    go_ret
    exact ⟨by rw [H.out]; rfl, rfl⟩
end Go.Proofs.Ytcehihpjaijllaa
