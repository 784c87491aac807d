/- BitsBinary. -/
import Derived.Test.YtcehihpjaijllaaBinB
import Derived.Test.YtcehihpjaijllaaBinC
import Derived.Test.YtcehihpjaijllaaBinD
import Derived.Test.YtcehihpjaijllaaBinE
import Derived.Test.YtcehihpjaijllaaBinF
import Derived.Test.YtcehihpjaijllaaBinG
import Derived.Test.YtcehihpjaijllaaBinM
import Derived.Test.YtcehihpjaijllaaAwake01
import Derived.Test.YtcehihpjaijllaaOpen
namespace Go.Proofs.Ytcehihpjaijllaa
open Go.RowKit

/-- The reference's Binary at a right operator and width. -/
theorem rbinary_any (op a : Int) (x y : Nat) (h1 : 2 ≤ op) (h2 : op ≤ 20) (ha : 1 ≤ a) (hb : a ≤ 64) (hx : x < 18446744073709551616) (hy : y < 18446744073709551616) (w : World) :
    Calls Try.prog 14 #[.int .i64 op, .int .i64 a, .int .u64 x, .int .u64 y] w fun e w' => e = .returned (.int .u64 (binN op a x y : Nat)) ∧ Below w.heap.size w w' := by
  have h : op = 2 ∨ op = 3 ∨ op = 4 ∨ op = 5 ∨ op = 6 ∨ op = 7 ∨ op = 8 ∨ op = 9 ∨ op = 10 ∨ op = 11 ∨ op = 12 ∨ op = 13 ∨ op = 14 ∨ op = 15 ∨ op = 16 ∨ op = 17 ∨ op = 18 ∨ op = 19 ∨ op = 20 := by omega
  rcases h with rfl | rfl | rfl | rfl | rfl | rfl | rfl | rfl | rfl | rfl | rfl | rfl | rfl | rfl | rfl | rfl | rfl | rfl | rfl
  · rw [← m_add a x y ha hb]; exact rbin_add a x y hx hy w
  · rw [← m_sub a x y ha hb]; exact rbin_sub a x y hx hy w
  · rw [← m_mul a x y ha hb]; exact rbin_mul a x y hx hy w
  · by_cases hz : fitN a y = 0
    · rw [udiv_zero a x y ha hb hz]; exact rbin_udiv0 a x y hx hy hz w
    · rw [udiv_val a x y ha hb hz]; exact rbin_udiv a x y hx hy hz w
  · by_cases hz : fitN a y = 0
    · rw [urem_zero a x y ha hb hz]; exact rbin_urem0 a x y hx hy hz w
    · rw [urem_val a x y ha hb hz]; exact rbin_urem a x y hx hy hz w
  · by_cases hz : fitN a y = 0
    · rw [← m_sdiv0 a x y ha hb hz]; exact rbin_sdiv0 a x y hx hy hz w
    · rw [← m_sdiv a x y ha hb hz]; exact rbin_sdiv a x y hx hy hz (mag_zero a y hz) w
  · by_cases hz : fitN a y = 0
    · rw [← m_srem0 a x y ha hb hz]; exact rbin_srem0 a x y hx hy hz w
    · rw [← m_srem a x y ha hb hz]; exact rbin_srem a x y hx hy hz (mag_zero a y hz) w
  · exact rbin_and a x y _ hx hy (Lib.hid (m_and a x y ha hb)) w
  · exact rbin_or a x y _ hx hy (Lib.hid (m_or a x y ha hb)) w
  · exact rbin_xor a x y _ hx hy (Lib.hid (m_xor a x y ha hb)) w
  · rw [← m_shl a x y ha hb]; exact rbin_shl a x y hx hy w
  · rw [← m_lshr a x y ha hb]; exact rbin_lshr a x y hx hy w
  · rw [← m_ashr a x y ha hb]; exact rbin_ashr a x y hx hy w
  · rw [← m_cmp 15 a x y (by decide) (by decide) ha hb]; exact rbin_eq a x y hx hy w
  · rw [← m_cmp 16 a x y (by decide) (by decide) ha hb]; exact rbin_ne a x y hx hy w
  · rw [← m_cmp 17 a x y (by decide) (by decide) ha hb]; exact rbin_ult a x y hx hy w
  · rw [← m_cmp 18 a x y (by decide) (by decide) ha hb]; exact rbin_ule a x y hx hy w
  · rw [← m_cmp 19 a x y (by decide) (by decide) ha hb]; exact rbin_slt a x y hx hy w
  · rw [← m_cmp 20 a x y (by decide) (by decide) ha hb]; exact rbin_sle a x y hx hy w

theorem risbin_any (op : Int) (w : World) :
    Calls Try.prog 12 #[.int .i64 op] w fun e w' => e = .returned (.bool (isBin op)) ∧ w = w' := by
  by_cases h : 2 ≤ op
  · have H := Lib.hid (show isBin op = decide (op ≤ 20) by simp [isBin, h])
    go_enter Try.func12, Try.ntmps12
    go_wp2_with fail
    go_ret
    exact ⟨by rw [H.out]; rfl, rfl⟩
  · have H := Lib.hid (show isBin op = false by simp [isBin]; omega)
    go_enter Try.func12, Try.ntmps12
    go_wp2_with fail
    go_ret
    exact ⟨by rw [H.out]; rfl, rfl⟩

theorem binlaw_any (op a : Int) (x y : Nat) (hx : x < 18446744073709551616) (hy : y < 18446744073709551616) (w : World) :
    Calls Try.prog 3 #[.int .i64 op, .int .i64 a, .agg #[.int .u64 x, .int .u64 y]] w fun e w' => e = .returned (.bool true) ∧ Below w.heap.size w w' := by
  have C1 := fun w => binary_any op a x y w hx hy
  have C2 := fun w => risbin_any op w
  have C3 := fun w => right_any a w
  cases hB : isBin op
  · have e1 : binN op a x y = 0 := by simp [binN, okB, hB]
    have e2 : binE op a = 1 := by simp [binE, okB, hB]
    rw [e1, e2] at C1
    rw [hB] at C2
    clear hB e1 e2
    go_enter Try.func3, Try.ntmps3
    go_wp2_with fail
    refine (awake_any _).mono ?_
    rintro e w1 ⟨rfl, rfl⟩
    go_wp2_with fail
    refine (C1 _).mono ?_
    rintro e w1 ⟨rfl, rfl⟩
    go_wp2_with fail
    refine (C2 _).mono ?_
    rintro e w1 ⟨rfl, rfl⟩
    go_wp2_with fail
    go_ret
    exact ⟨rfl, (Below.refl _ _).alloc (Nat.le_refl _) _⟩
  · rw [hB] at C2
    cases hR : rightB a
    · have hk : okB op a = false := by simp only [okB, hB, Bool.true_and]; exact hR
      have e1 : binN op a x y = 0 := by simp [binN, hk]
      have e2 : binE op a = 1 := by simp [binE, hk]
      rw [e1, e2] at C1
      rw [hR] at C3
      clear hB hR hk e1 e2
      go_enter Try.func3, Try.ntmps3
      go_wp2_with fail
      refine (awake_any _).mono ?_
      rintro e w1 ⟨rfl, rfl⟩
      go_wp2_with fail
      refine (C1 _).mono ?_
      rintro e w1 ⟨rfl, rfl⟩
      go_wp2_with fail
      refine (C2 _).mono ?_
      rintro e w1 ⟨rfl, rfl⟩
      go_wp2_with fail
      refine (C3 _).mono ?_
      rintro e w1 ⟨rfl, rfl⟩
      go_wp2_with fail
      go_ret
      exact ⟨rfl, (Below.refl _ _).alloc (Nat.le_refl _) _⟩
    · have hk : okB op a = true := by simp only [okB, hB, Bool.true_and]; exact hR
      have e2 : binE op a = 0 := by simp [binE, hk]
      have h1 : 2 ≤ op ∧ op ≤ 20 := by simpa [isBin] using hB
      have h2 : 1 ≤ a ∧ a ≤ 64 := by simpa [rightB] using hR
      have C4 := fun w => rbinary_any op a x y h1.1 h1.2 h2.1 h2.2 hx hy w
      rw [e2] at C1
      rw [hR] at C3
      clear hB hR hk e2 h1 h2
      generalize binN op a x y = B at C1 C4
      go_enter Try.func3, Try.ntmps3
      go_wp2_with fail
      refine (awake_any _).mono ?_
      rintro e w1 ⟨rfl, rfl⟩
      go_wp2_with fail
      refine (C1 _).mono ?_
      rintro e w1 ⟨rfl, rfl⟩
      go_wp2_with fail
      refine (C2 _).mono ?_
      rintro e w1 ⟨rfl, rfl⟩
      go_wp2_with fail
      refine (C3 _).mono ?_
      rintro e w1 ⟨rfl, rfl⟩
      go_wp2_with fail
      refine (C4 _).mono ?_
      rintro e w1 ⟨rfl, hb⟩
      go_wp2_with fail
      go_ret
      exact ⟨rfl, ((Below.refl _ _).alloc (Nat.le_refl _) _).trans (hb.mono (by simp))⟩
end Go.Proofs.Ytcehihpjaijllaa
