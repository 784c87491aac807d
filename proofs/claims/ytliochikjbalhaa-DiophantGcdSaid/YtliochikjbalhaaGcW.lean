/- diophant.Gcd and the reference's. -/
import Derived.OpenShut
import Derived.Outline
import Derived.Below
import Derived.Lib.Hide
import Derived.Test.YtliochikjbalhaaRows
import Derived.Test.YtliochikjbalhaaGc
namespace Go.Proofs.Ytliochikjbalhaa
open Go Go.RowKit
set_option linter.unusedVariables false
set_option linter.unusedSimpArgs false

/-- A number brought within the limits. -/
def lim (a : Int) : Int := min (max a (-2147483648)) 2147483648
theorem lim_bd (a : Int) : -2147483648 ≤ lim a ∧ lim a ≤ 2147483648 := by unfold lim; omega
theorem abs_any (a : Int) (w : World) (ha : -9223372036854775808 < a) (ha' : a ≤ 9223372036854775807) :
    Calls Try.prog 17 #[.int .i64 a] w fun e w' => e = .returned (.int .i64 (a.natAbs : Nat)) ∧ w = w' := by
  by_cases h : a < 0
  · have H := Lib.hid (show ((a.natAbs : Nat) : Int) = -a by omega)
    go_enter Try.func17, Try.ntmps17
    go_wp2_with fail
    go_ret
    exact ⟨by rw [H.out]; first | rfl | go_num, rfl⟩
  · have H := Lib.hid (show ((a.natAbs : Nat) : Int) = a by omega)
    go_enter Try.func17, Try.ntmps17
    go_wp2_with fail
    go_ret
    exact ⟨by rw [H.out]; first | rfl | go_num, rfl⟩
theorem limit_any (a : Int) (w : World) :
    Calls Try.prog 16 #[.int .i64 a] w fun e w' => e = .returned (.int .i64 (lim a)) ∧ w = w' := by
  go_enter Try.func16, Try.ntmps16
  go_wp2_with fail
  all_goals go_ret
  all_goals refine ⟨?_, rfl⟩
  all_goals refine congrArg (fun z => Ending.returned (Value.int .i64 z)) ?_
  all_goals unfold lim
  all_goals first | omega | (split <;> omega)
theorem gcd_ref (a b : Int) (w : World) (ha : -2147483648 ≤ a) (ha' : a ≤ 2147483648) (hb : -2147483648 ≤ b) (hb' : b ≤ 2147483648) :
    Calls Try.prog 18 #[.int .i64 a, .int .i64 b] w fun e w' => e = .returned (.int .i64 (Nat.gcd a.natAbs b.natAbs : Nat)) ∧ w = w' := by
  have CA := fun w => abs_any a w (by omega) (by omega)
  have CB := fun w => abs_any b w (by omega) (by omega)
  have A1 : a.natAbs ≤ 2147483648 := by omega
  have B1 : b.natAbs ≤ 2147483648 := by omega
  generalize a.natAbs = x at *
  generalize b.natAbs = y at *
  clear ha ha' hb hb'
  go_enter Try.func18, Try.ntmps18
  go_wp2_with fail
  refine (CA _).mono ?_
  rintro e w1 ⟨rfl, rfl⟩
  go_wp2_with fail
  refine (CB _).mono ?_
  rintro e w1 ⟨rfl, rfl⟩
  go_wp2_with fail
  go_loop [5, 6] (fun p q => ∃ m n : Nat, m ≤ 2147483648 ∧ n ≤ 2147483648 ∧ Hid (Nat.gcd m n = Nat.gcd x y) ∧ p = .int .i64 (m : Nat) ∧ q = .int .i64 (n : Nat)) (fun _ q => (intOf q).toNat)
  case atStart => exact ⟨x, y, A1, B1, Lib.hid rfl, rfl, rfl⟩
  case round =>
    obtain ⟨m, n, hm, hn, HG, rfl, rfl⟩ := hrel
    by_cases h0 : n = 0
    · subst h0
      go_wp2_with fail
      go_ret
      exact ⟨by rw [← HG.out, Nat.gcd_zero_right]; rfl, rfl⟩
    · have ht : (m : Int).tmod (n : Int) = ((m % n : Nat) : Int) := by simp [Int.natCast_emod, Int.tmod_eq_emod_of_nonneg]
      have hlt : m % n < n := Nat.mod_lt _ (by omega)
      have HG' := Lib.hid (show Nat.gcd n (m % n) = Nat.gcd x y by rw [← HG.out, Nat.gcd_comm n, ← Nat.gcd_rec, Nat.gcd_comm])
      go_wp2_with fail
      go_round
      case rel => exact ⟨n, m % n, by omega, by omega, HG', by go_num, by first | rfl | (rw [← ht]; rfl) | simp⟩
      case measure => simp [intOf]; omega
end Go.Proofs.Ytliochikjbalhaa
