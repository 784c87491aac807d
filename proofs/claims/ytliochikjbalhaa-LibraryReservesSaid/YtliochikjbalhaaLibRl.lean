/- LibraryTable: each operator has the unit of the table at each width; others are refused. -/
import Derived.Test.YtliochikjbalhaaLibAw
namespace Go.Proofs.Ytliochikjbalhaa
open Go.RowKit

theorem pow_two_wrap (k : Nat) (hk : k < 62) : wrap64 (2 * (2 : Int) ^ k) = (2 : Int) ^ (k + 1) := by
  have h1 := pow_le61 k hk
  have e : (2 : Int) ^ (k + 1) = 2 * (2 : Int) ^ k := by rw [Int.pow_succ, Int.mul_comm]
  rw [e, powI]
  generalize 2 ^ k = p at *
  unfold wrap64; omega

theorem levels_ref (n : Int) (w : World) :
    Calls Try.prog 9 #[.int .i64 n] w fun e w' => e = .returned (.int .i64 (lev n : Nat)) ∧ w = w' := by
  go_enter Try.func9, Try.ntmps9
  go_wp2_with fail
  go_loop [3, 4] (fun i p => ∃ k : Nat, k ≤ 62 ∧ LevAt k n ∧ i = .int .i64 k ∧ p = .int .i64 ((2 : Int) ^ k)) (fun i _ => 62 - (intOf i).toNat)
  case atStart => exact ⟨0, by omega, rfl, rfl, rfl⟩
  case round =>
    obtain ⟨k, hk, hl, rfl, rfl⟩ := hrel
    by_cases h2 : (2 : Int) ^ k < n
    · by_cases h1 : k < 62
      · have Hl := Lib.hid (lev_go k n hl h1 h2)
        have Hw := Lib.hid (pow_two_wrap k h1)
        clear hl
        go_wp2_with fail
        go_round
        case rel => exact ⟨k + 1, by omega, Hl.out, by go_num, by rw [Hw.out]⟩
        case measure => simp [intOf]; omega
      · have h3 : k = 62 := by omega
        have Hl := Lib.hid (lev_stop k n hl (.inl h3))
        clear hl h3
        go_wp2_with fail
        go_ret
        exact ⟨by rw [Hl.out]; rfl, rfl⟩
    · have Hl := Lib.hid (lev_stop k n hl (.inr h2))
      clear hl
      go_wp2_with fail
      go_ret
      exact ⟨by rw [Hl.out]; rfl, rfl⟩

end Go.Proofs.Ytliochikjbalhaa
