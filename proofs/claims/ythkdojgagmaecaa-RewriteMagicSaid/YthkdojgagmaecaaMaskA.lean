/- The contract of bits.Mask. -/
import Derived.Test.YthkdojgagmaecaaRows
import Derived.Test.YthkdojgagmaecaaMath
namespace Go.Proofs.Ythkdojgagmaecaa
open Go.RowKit

theorem mask_any (a : Int) (w : World) :
    Calls Try.prog 35 #[.int .i64 a] w fun e w' => e = .returned (.int .u64 (maskN a : Nat)) ∧ w = w' := by
  by_cases h1 : a ≤ 0
  · have Hm := Lib.hid (maskN_lo a h1)
    go_enter Try.func35, Try.ntmps35
    go_wp2
    go_ret
    exact ⟨by rw [Hm.out]; rfl, rfl⟩
  · by_cases h2 : 64 ≤ a
    · have Hm := Lib.hid (maskN_hi a h1 h2)
      go_enter Try.func35, Try.ntmps35
      go_wp2
      go_ret
      exact ⟨by rw [Hm.out]; rfl, rfl⟩
    · have Hm := Lib.hid (wrap_mask a h1 h2)
      go_enter Try.func35, Try.ntmps35
      go_wp2
      go_ret
      exact ⟨by rw [Hm.out]; rfl, rfl⟩

end Go.Proofs.Ythkdojgagmaecaa
