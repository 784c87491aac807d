/- DiophantGcd, given awake. -/
import Derived.Test.YtliochikjbalhaaGcP
namespace Go.Proofs.Ytliochikjbalhaa
open Go Go.RowKit
set_option linter.unusedVariables false
set_option linter.unusedSimpArgs false

theorem below_transG {w w1 w2 : World} (h1 : Below w.heap.size w w1) (h2 : Below w1.heap.size w1 w2) : Below w.heap.size w w2 := h1.trans (h2.mono h1.size)
theorem prodb {x y : Int} (hx : x.natAbs ≤ 2147483648) (hy : y.natAbs ≤ 2147483648) : -4611686018427387904 ≤ x * y ∧ x * y ≤ 4611686018427387904 := by
  have h : x.natAbs * y.natAbs ≤ 2147483648 * 2147483648 := Nat.mul_le_mul hx hy
  rw [← Int.natAbs_mul] at h
  omega
theorem gcdlaw_any (AW : ∀ w, Calls Try.prog 14 #[] w fun e w' => e = .returned (.bool true) ∧ Below w.heap.size w w') (a b : Int) (w : World) :
    Calls Try.prog 4 #[.int .i64 a, .int .i64 b] w fun e w' => e = .returned (.bool true) ∧ Below w.heap.size w w' := by
  go_enter Try.func4, Try.ntmps4
  go_wp2_with fail
  refine (AW _).mono ?_
  rintro e w1 ⟨rfl, hb1⟩
  go_wp2_with fail
  refine (gcd_any a b _).mono ?_
  rintro e w2 ⟨g, s, t, rfl, rfl, hg, hst, hs, ht⟩
  have CX := fun w => limit_any a w
  have CY := fun w => limit_any b w
  have hX := lim_bd a
  have hY := lim_bd b
  generalize lim a = X at *
  generalize lim b = Y at *
  have CG := fun w => gcd_ref X Y w hX.1 hX.2 hY.1 hY.2
  rw [← hg] at CG
  have CS := fun w => abs_any s w (by omega) (by omega)
  have CT := fun w => abs_any t w (by omega) (by omega)
  have p1 := prodb hs (show X.natAbs ≤ 2147483648 by omega)
  have p2 := prodb ht (show Y.natAbs ≤ 2147483648 by omega)
  have ES := Lib.hid (show max s (-1099511627776) = s by omega)
  have ET := Lib.hid (show max t (-1099511627776) = t by omega)
  have EG := Lib.hid hst
  have gb : -9223372036854775808 ≤ s * X + t * Y ∧ s * X + t * Y ≤ 9223372036854775807 := by
    rw [hst, hg]
    have : Nat.gcd X.natAbs Y.natAbs ≤ 2147483648 := by
      rcases Nat.eq_zero_or_pos X.natAbs with h | h
      · rw [h, Nat.gcd_zero_left]; omega
      · exact Nat.le_trans (Nat.gcd_le_left _ h) (by omega)
    omega
  have sb : -2147483648 ≤ s ∧ s ≤ 2147483648 := by omega
  have tb : -2147483648 ≤ t ∧ t ≤ 2147483648 := by omega
  clear hst hg
  go_wp2_with fail
  refine (CX _).mono ?_
  rintro e w2 ⟨rfl, rfl⟩
  go_wp2_with fail
  refine (CY _).mono ?_
  rintro e w2 ⟨rfl, rfl⟩
  go_wp2_with fail
  refine (CS _).mono ?_
  rintro e w2 ⟨rfl, rfl⟩
  have qs : ((s.natAbs : Nat) : Int) ≤ 2147483648 := by omega
  have qt : ((t.natAbs : Nat) : Int) ≤ 2147483648 := by omega
  go_wp2_with fail
  refine (CT _).mono ?_
  rintro e w2 ⟨rfl, rfl⟩
  go_wp2_with fail
  refine (CG _).mono ?_
  rintro e w2 ⟨rfl, rfl⟩
  go_wp2_with fail
  go_ret
  exact ⟨by have := EG.out; first | (rw [this]; simp; done) | simp [this], hb1⟩
end Go.Proofs.Ytliochikjbalhaa
