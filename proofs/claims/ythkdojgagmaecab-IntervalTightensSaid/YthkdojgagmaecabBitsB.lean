/- Contracts of bits.Signed, bits.From and bits.Extend, for any width. -/
import Derived.Test.YthkdojgagmaecabBitsA
namespace Go.Proofs.Ythkdojgagmaecab
open Go.RowKit

theorem signed_any (a : Int) (x : Nat) (w : World) (hx : x < 18446744073709551616) :
    Calls Try.prog 50 #[.int .i64 a, .int .u64 x] w fun e w' => e = .returned (.int .i64 (sgn a x)) ∧ w = w' := by
  by_cases h1 : a ≤ 0
  · have Hm := Lib.hid (show sgn a x = 0 by simp [sgn, h1])
    go_enter Try.func50, Try.ntmps50
    go_wp2_with fail
    go_ret
    exact ⟨by rw [Hm.out]; rfl, rfl⟩
  · by_cases h2 : 64 ≤ a
    · have Hm := Lib.hid (sgn_hi a x h1 h2 hx)
      go_enter Try.func50, Try.ntmps50
      go_wp2_with fail
      go_ret
      exact ⟨by rw [Hm.out]; rfl, rfl⟩
    · by_cases hs : fitN a x < 2 ^ (cw a - 1)
      · have Hm := Lib.hid (sgn_pos a x h1 h2 hs)
        have hb := shr_zero a x h1 h2 hs
        clear hs
        go_enter Try.func50, Try.ntmps50
        go_wp2_with fail
        refine (fit_any a x _ hx).mono ?_
        rintro e w' ⟨rfl, rfl⟩
        go_wp2_with fail
        go_ret
        exact ⟨by rw [Hm.out]; rfl, rfl⟩
      · have Hm := Lib.hid (sgn_neg a x h1 h2 hs)
        have hb := shr_one a x h1 h2 hs
        clear hs
        go_enter Try.func50, Try.ntmps50
        go_wp2_with fail
        refine (fit_any a x _ hx).mono ?_
        rintro e w' ⟨rfl, rfl⟩
        go_wp2_with fail
        refine (mask_any a _).mono ?_
        rintro e w' ⟨rfl, rfl⟩
        go_wp2_with fail
        go_ret
        exact ⟨by rw [Hm.out]; rfl, rfl⟩

theorem from_any (a : Int) (n : Int) (w : World) :
    Calls Try.prog 57 #[.int .i64 a, .int .i64 n] w fun e w' => e = .returned (.int .u64 (fromN a n : Nat)) ∧ w = w' := by
  have Hm := Lib.hid (fit_from a n)
  go_enter Try.func57, Try.ntmps57
  go_wp2_with fail
  rw [wrapU]
  refine (fit_any a _ _ (wrapU_lt n)).mono ?_
  rintro e w' ⟨rfl, rfl⟩
  go_wp2_with fail
  go_ret
  exact ⟨by rw [Hm.out]; rfl, rfl⟩
end Go.Proofs.Ythkdojgagmaecab
