/- Package library: contracts of Levels. -/
import Derived.WalkKit
import Derived.ProofKit
import Derived.OpenShut
import Derived.Outline
import Derived.Lib.Hide
import Derived.Below
import Derived.Laws.Shifts
import Derived.Laws.ShiftsVar
import Derived.Laws.ShiftsVarLaws
import Derived.Laws.ResultCell
import Derived.Test.YtliochikjbalhaaRows
namespace Go.Proofs.Ytliochikjbalhaa
open Go.RowKit

/-- The least k from a start on with n at most 2^k, at most so many steps further. -/
def levF : Nat → Nat → Int → Nat
  | 0, k, _ => k
  | f + 1, k, n => if (2 : Int) ^ k < n then levF f (k + 1) n else k
def lev (n : Int) : Nat := levF 62 0 n
def LevAt (k : Nat) (n : Int) : Prop := levF (62 - k) k n = lev n
theorem lev_stop (k : Nat) (n : Int) (h : LevAt k n) (hk : k = 62 ∨ ¬ (2 : Int) ^ k < n) : lev n = k := by
  unfold LevAt at h
  rw [← h]
  rcases hk with rfl | hk
  · rfl
  · cases e : 62 - k with
    | zero => rfl
    | succ f => simp only [levF, hk, if_false]
theorem lev_go (k : Nat) (n : Int) (h : LevAt k n) (hk : k < 62) (h2 : (2 : Int) ^ k < n) : LevAt (k + 1) n := by
  unfold LevAt at *
  rw [← h, show 62 - k = (62 - (k + 1)) + 1 by omega, levF, if_pos h2]
theorem pow_le61 (k : Nat) (hk : k < 62) : (2 : Nat) ^ k ≤ 2305843009213693952 := by
  rw [show (2305843009213693952 : Nat) = 2 ^ 61 by decide]; exact Nat.pow_le_pow_right (by decide) (by omega)
theorem powI (k : Nat) : ((2 : Int) ^ k) = ((2 ^ k : Nat) : Int) := by simp
theorem wrap_pow (k : Nat) (hk : k < 62) : wrap64 ((2 : Int) ^ k) = (2 : Int) ^ k := by
  have h1 := pow_le61 k hk
  rw [powI]
  generalize 2 ^ k = p at *
  unfold wrap64; omega

theorem levels_any (n : Int) (w : World) :
    Calls Try.prog 8 #[.int .i64 n] w fun e w' => e = .returned (.int .i64 (lev n : Nat)) ∧ w = w' := by
  go_enter Try.func8, Try.ntmps8
  go_wp2_with fail
  go_loop [3] (fun i => ∃ k : Nat, k ≤ 62 ∧ LevAt k n ∧ i = .int .i64 k) (fun i => 62 - (intOf i).toNat)
  case atStart => exact ⟨0, by omega, rfl, rfl⟩
  case round =>
    obtain ⟨k, hk, hl, rfl⟩ := hrel
    by_cases h1 : k < 62
    · by_cases h2 : (2 : Int) ^ k < n
      · have Hl := Lib.hid (lev_go k n hl h1 h2)
        have hw := wrap_pow k h1
        clear hl
        go_wp2_with fail
        go_round
        case rel => exact ⟨k + 1, by omega, Hl.out, by go_num⟩
        case measure => simp [intOf]; omega
      · have Hl := Lib.hid (lev_stop k n hl (.inr h2))
        have hw := wrap_pow k h1
        clear hl
        go_wp2_with fail
        go_ret
        exact ⟨by rw [Hl.out]; rfl, rfl⟩
    · have h3 : k = 62 := by omega
      subst h3
      have Hl := Lib.hid (lev_stop 62 n hl (.inl rfl))
      clear hl h1 hk
      go_wp2_with fail
      go_ret
      exact ⟨by rw [Hl.out]; rfl, rfl⟩
end Go.Proofs.Ytliochikjbalhaa
