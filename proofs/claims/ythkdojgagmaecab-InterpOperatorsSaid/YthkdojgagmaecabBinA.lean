/- The reference's Binary at every right operator and width. -/
import Derived.Test.YthkdojgagmaecabBinB
import Derived.Test.YthkdojgagmaecabBinC
import Derived.Test.YthkdojgagmaecabBinD
import Derived.Test.YthkdojgagmaecabBinE
import Derived.Test.YthkdojgagmaecabBinF
import Derived.Test.YthkdojgagmaecabBinG
import Derived.Test.YthkdojgagmaecabBinM
namespace Go.Proofs.Ythkdojgagmaecab
open Go.RowKit

/-- The reference's Binary at a right operator and width. -/
theorem rbinary_any (op a : Int) (x y : Nat) (h1 : 2 ≤ op) (h2 : op ≤ 20) (ha : 1 ≤ a) (hb : a ≤ 64) (hx : x < 18446744073709551616) (hy : y < 18446744073709551616) (w : World) :
    Calls Try.prog 63 #[.int .i64 op, .int .i64 a, .int .u64 x, .int .u64 y] w fun e w' => e = .returned (.int .u64 (binN op a x y : Nat)) ∧ Below w.heap.size w w' := by
  have h : op = 2 ∨ op = 3 ∨ op = 4 ∨ op = 5 ∨ op = 6 ∨ op = 7 ∨ op = 8 ∨ op = 9 ∨ op = 10 ∨ op = 11 ∨ op = 12 ∨ op = 13 ∨ op = 14 ∨ op = 15 ∨ op = 16 ∨ op = 17 ∨ op = 18 ∨ op = 19 ∨ op = 20 := by omega
  rcases h with rfl | rfl | rfl | rfl | rfl | rfl | rfl | rfl | rfl | rfl | rfl | rfl | rfl | rfl | rfl | rfl | rfl | rfl | rfl
  · rw [← m_add a x y ha hb]; exact rbin_add a x y hx hy w
  · rw [← m_sub a x y ha hb]; exact rbin_sub a x y hx hy w
  · rw [← m_mul a x y ha hb]; exact rbin_mul a x y hx hy w
  · by_cases hz : fitN a y = 0
    · rw [udiv_zero a x y ha hb hz]; exact rbin_udiv0 a x y hx hy hz w
    · rw [udiv_val a x y ha hb hz]; exact rbin_udiv a x y hx hy hz w
  · by_cases hz : fitN a y = 0
    · rw [urem_zero a x y ha hb hz]; exact rbin_urem0 a x y hx hy hz w
    · rw [urem_val a x y ha hb hz]; exact rbin_urem a x y hx hy hz w
  · by_cases hz : fitN a y = 0
    · rw [← m_sdiv0 a x y ha hb hz]; exact rbin_sdiv0 a x y hx hy hz w
    · rw [← m_sdiv a x y ha hb hz]; exact rbin_sdiv a x y hx hy hz (mag_zero a y hz) w
  · by_cases hz : fitN a y = 0
    · rw [← m_srem0 a x y ha hb hz]; exact rbin_srem0 a x y hx hy hz w
    · rw [← m_srem a x y ha hb hz]; exact rbin_srem a x y hx hy hz (mag_zero a y hz) w
  · exact rbin_and a x y _ hx hy (Lib.hid (m_and a x y ha hb)) w
  · exact rbin_or a x y _ hx hy (Lib.hid (m_or a x y ha hb)) w
  · exact rbin_xor a x y _ hx hy (Lib.hid (m_xor a x y ha hb)) w
  · rw [← m_shl a x y ha hb]; exact rbin_shl a x y hx hy w
  · rw [← m_lshr a x y ha hb]; exact rbin_lshr a x y hx hy w
  · rw [← m_ashr a x y ha hb]; exact rbin_ashr a x y hx hy w
  · rw [← m_cmp 15 a x y (by decide) (by decide) ha hb]; exact rbin_eq a x y hx hy w
  · rw [← m_cmp 16 a x y (by decide) (by decide) ha hb]; exact rbin_ne a x y hx hy w
  · rw [← m_cmp 17 a x y (by decide) (by decide) ha hb]; exact rbin_ult a x y hx hy w
  · rw [← m_cmp 18 a x y (by decide) (by decide) ha hb]; exact rbin_ule a x y hx hy w
  · rw [← m_cmp 19 a x y (by decide) (by decide) ha hb]; exact rbin_slt a x y hx hy w
  · rw [← m_cmp 20 a x y (by decide) (by decide) ha hb]; exact rbin_sle a x y hx hy w
end Go.Proofs.Ythkdojgagmaecab
