/- BitsWords. -/
import Derived.Test.YtcehihpjaijllaaLstC
import Derived.Test.YtcehihpjaijllaaShelf
import Derived.Test.YtcehihpjaijllaaAwake01
import Derived.Test.YtcehihpjaijllaaOpen
import Derived.Deep.RegionHeld3
namespace Go.Proofs.Ytcehihpjaijllaa
open Go.RowKit

theorem len_any (x : Nat) (hx : x < 18446744073709551616) (w : World) :
    Calls Try.prog 22 #[.int .u64 x] w fun e w' => e = .returned (.int .i64 (Lib.bitLen x : Nat)) ∧ w = w' := by
  have C := fun w => Try.bits_Len64 (x : Int) w (by omega) (by omega)
  rw [show ((x : Nat) : Int).toNat = x by omega] at C
  go_enter Try.func22, Try.ntmps22
  go_wp2_with fail
  refine (C _).mono ?_
  rintro e w1 ⟨rfl, rfl⟩
  go_wp2_with fail
  go_ret
  exact ⟨rfl, rfl⟩

theorem bitLenAux_le : ∀ (f x : Nat), Lib.bitLenAux f x ≤ f
  | 0, x => by simp [Lib.bitLenAux]
  | f + 1, x => by
    have := bitLenAux_le f (x / 2)
    simp only [Lib.bitLenAux]
    split <;> omega
theorem bitLen_le (x : Nat) : Lib.bitLen x ≤ 64 := bitLenAux_le 64 x
theorem bitLen_zero : Lib.bitLen 0 = 0 := by decide
theorem below_trans' {w w1 w2 : World} (h1 : Below w.heap.size w w1) (h2 : Below w1.heap.size w1 w2) : Below w.heap.size w w2 := h1.trans (h2.mono h1.size)

theorem words_any (a : Int) (x : Nat) (n : Int) (hx : x < 18446744073709551616) (w : World) :
    Calls Try.prog 5 #[.int .i64 a, .int .u64 x, .int .i64 n] w fun e w' => e = .returned (.bool true) ∧ Below w.heap.size w w' := by
  obtain ⟨U, hU⟩ : ∃ U : Nat, U = (n % 18446744073709551616).toNat := ⟨_, rfl⟩
  have hUl : U < 18446744073709551616 := by rw [hU]; exact wrapU_lt n
  have hUw : IntKind.u64.wrap n = ((U : Nat) : Int) := by rw [hU]; exact wrapU n
  have C1 := fun w => mask_any a w
  have C2 := fun w => rones_any a w
  have C3 := fun w => fit_any a x w hx
  have C4 := fun w => rfit_any a x hx w
  have C5 := fun w => signed_any a x w hx
  have C6 := fun w => rsgn_any a x hx w
  have C7 := fun w => from_any a (sgn a x) w
  have C8 := fun w => from_any a n w
  have C9 := fun w => fit_any a U w hUl
  have C10 := fun w => len_any x hx w
  rw [from_sgn] at C7
  rw [hU, fit_from, ← hU] at C9
  generalize maskN a = M at C1 C2
  generalize fitN a x = F at C3 C4 C7
  generalize sgn a x = S at C5 C6 C7
  generalize fromN a n = G at C8 C9
  obtain ⟨T, hT⟩ : ∃ T : Nat, T = Lib.bitLen x := ⟨_, rfl⟩
  rw [← hT] at C10
  have HT := Lib.hid hT
  clear hT hU
  go_enter Try.func5, Try.ntmps5
  go_wp2_with fail
  refine (awake_any _).mono ?_
  rintro e w1 ⟨rfl, rfl⟩
  go_wp2_with fail
  refine (C3 _).mono ?_
  rintro e w1 ⟨rfl, rfl⟩
  go_wp2_with fail
  refine (C1 _).mono ?_
  rintro e w1 ⟨rfl, rfl⟩
  go_wp2_with fail
  refine (C2 _).mono ?_
  rintro e w1 ⟨rfl, rfl⟩
  go_wp2_with fail
  refine (C4 _).mono ?_
  rintro e w1 ⟨rfl, hb1⟩
  go_wp2_with fail
  refine (C5 _).mono ?_
  rintro e w2 ⟨rfl, rfl⟩
  go_wp2_with fail
  refine (C6 _).mono ?_
  rintro e w2 ⟨rfl, hb2⟩
  go_wp2_with fail
  refine (C5 _).mono ?_
  rintro e w3 ⟨rfl, rfl⟩
  go_wp2_with fail
  refine (C7 _).mono ?_
  rintro e w3 ⟨rfl, rfl⟩
  go_wp2_with fail
  refine (C8 _).mono ?_
  rintro e w3 ⟨rfl, rfl⟩
  go_wp2_with fail
  refine (C9 _).mono ?_
  rintro e w3 ⟨rfl, rfl⟩
  have HB := Lib.hid (below_trans' hb1 hb2)
  clear hb1 hb2
  go_wp2_with fail
  go_loop [8, 9] (fun kk yy => ∃ k Y : Nat, k ≤ 64 ∧ Y < 18446744073709551616 ∧ Hid (k + Lib.bitLen Y = T) ∧ kk = .int .i64 (k : Nat) ∧ yy = .int .u64 (Y : Nat))
    (fun _ yy => (intOf yy).toNat)
  case atStart => exact ⟨0, x, by omega, hx, Lib.hid (by rw [HT.out]; omega), rfl, rfl⟩
  case round =>
    obtain ⟨k, Y, hk, hY, HK, rfl, rfl⟩ := hrel
    by_cases h0 : Y = 0
    · subst h0
      have hkT : k = T := by have e := HK.out; rw [bitLen_zero] at e; omega
      subst hkT
      go_wp2_with fail
      refine (C10 _).mono ?_
      rintro e w4 ⟨rfl, rfl⟩
      go_wp2_with fail
      go_ret
      exact ⟨rfl, HB.out⟩
    · have e1 := HK.out
      rw [Lib.bitLen_half Y h0 (by omega)] at e1
      have hk2 : k < 64 := by have := bitLen_le x; have := HT.out; omega
      have H1 := Lib.hid (show k + 1 + Lib.bitLen (Y / 2) = T by omega)
      clear e1
      have hp : 0 < Y := by omega
      go_wp2_with fail
      go_round
      case rel => exact ⟨k + 1, Y / 2, by omega, by omega, H1, by go_num, by go_num⟩
      case measure => (simp [intOf] <;> omega)
end Go.Proofs.Ytcehihpjaijllaa
