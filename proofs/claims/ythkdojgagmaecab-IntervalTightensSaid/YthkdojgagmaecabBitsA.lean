/- Contracts of bits.Mask and bits.Fit: the masks and the low bits of words, for any width. -/
import Derived.Test.YthkdojgagmaecabRows
import Derived.Test.YthkdojgagmaecabMath
namespace Go.Proofs.Ythkdojgagmaecab
open Go.RowKit

theorem mask_any (a : Int) (w : World) :
    Calls Try.prog 46 #[.int .i64 a] w fun e w' => e = .returned (.int .u64 (maskN a : Nat)) ∧ w = w' := by
  by_cases h1 : a ≤ 0
  · have Hm := Lib.hid (maskN_lo a h1)
    go_enter Try.func46, Try.ntmps46
    go_wp2
    go_ret
    exact ⟨by rw [Hm.out]; rfl, rfl⟩
  · by_cases h2 : 64 ≤ a
    · have Hm := Lib.hid (maskN_hi a h1 h2)
      go_enter Try.func46, Try.ntmps46
      go_wp2
      go_ret
      exact ⟨by rw [Hm.out]; rfl, rfl⟩
    · have Hm := Lib.hid (wrap_mask a h1 h2)
      go_enter Try.func46, Try.ntmps46
      go_wp2
      go_ret
      exact ⟨by rw [Hm.out]; rfl, rfl⟩

theorem fit_any (a : Int) (x : Nat) (w : World) (hx : x < 18446744073709551616) :
    Calls Try.prog 48 #[.int .i64 a, .int .u64 x] w fun e w' => e = .returned (.int .u64 (fitN a x : Nat)) ∧ w = w' := by
  have Hm := Lib.hid (and_mask a x hx)
  go_enter Try.func48, Try.ntmps48
  go_wp2_with fail
  refine (mask_any a _).mono ?_
  rintro e w' ⟨rfl, rfl⟩
  go_wp2_with fail
  go_ret
  exact ⟨by rw [Hm.out]; rfl, rfl⟩
end Go.Proofs.Ythkdojgagmaecab
