/- diophant.Gcd. -/
import Derived.Test.YtliochikjbalhaaGcW
namespace Go.Proofs.Ytliochikjbalhaa
open Go Go.RowKit
set_option linter.unusedVariables false
set_option linter.unusedSimpArgs false

def GcdPost (a b : Int) (w : World) (e : Ending) (w' : World) : Prop :=
  ∃ g s t : Int, e = .returned (.tuple #[.int .i64 g, .int .i64 s, .int .i64 t]) ∧ w = w' ∧ g = (Nat.gcd a.natAbs b.natAbs : Nat) ∧ s * a + t * b = g ∧ s.natAbs ≤ 2147483648 ∧ t.natAbs ≤ 2147483648
theorem ib {x : Int} (h : x.natAbs ≤ 2147483648) : -2147483648 ≤ x ∧ x ≤ 2147483648 := by omega
theorem gcd_any (a b : Int) (w : World) :
    Calls Try.prog 15 #[.int .i64 a, .int .i64 b] w (GcdPost (lim a) (lim b) w) := by
  have hX := lim_bd a
  have hY := lim_bd b
  have HX := Lib.hid (show lim a = min (max a (-2147483648)) 2147483648 from rfl)
  have HY := Lib.hid (show lim b = min (max b (-2147483648)) 2147483648 from rfl)
  generalize lim a = X at *
  generalize lim b = Y at *
  go_enter Try.func15, Try.ntmps15
  go_wp2_with fail
  all_goals
    go_loop [4, 5, 6, 7, 8, 9] (fun g s t h u v => ∃ g' s' t' h' u' v' : Int, Hid (GInv 2147483648 X Y g' s' t' h' u' v') ∧ g = .int .i64 g' ∧ s = .int .i64 s' ∧ t = .int .i64 t' ∧ h = .int .i64 h' ∧ u = .int .i64 u' ∧ v = .int .i64 v') (fun _ _ _ h _ _ => (intOf h).natAbs)
    case atStart =>
      have hx := HX.out
      have hy := HY.out
      refine ⟨X, 1, 0, Y, 0, 1, Lib.hid (GInv.start _ X Y (by omega) (by omega) (by omega)), ?_, rfl, rfl, ?_, rfl, rfl⟩ <;> (congr 1; omega)
    case round =>
      obtain ⟨g, s, t, h, u, v, HG, rfl, rfl, rfl, rfl, rfl, rfl⟩ := hrel
      have b1 := ib HG.out.bg
      have b2 := ib HG.out.bh
      have b3 := ib HG.out.bs
      have b4 := ib HG.out.bt
      have b5 := ib HG.out.bu
      have b6 := ib HG.out.bv
      by_cases h0 : h = 0
      · subst h0
        have E : ((g.natAbs : Nat) : Int) = (Nat.gcd X.natAbs Y.natAbs : Nat) := by have := HG.out.gc; simp at this; rw [this]
        have EG := HG.out.eg
        by_cases hn : g < 0
        · have EE := Lib.hid E
          have EF := Lib.hid EG
          clear E EG
          go_wp2_with fail
          go_ret3
          refine ⟨-g, -s, -t, rfl, rfl, ?_, ?_, by omega, by omega⟩
          · rw [← EE.out]; omega
          · have := EF.out; rw [Int.neg_mul, Int.neg_mul]; omega
        · by_cases hz : g = 0
          · subst hz
            have EE := Lib.hid E
            clear E EG
            go_wp2_with fail
            go_ret3
            refine ⟨0, 0, 0, rfl, rfl, ?_, by simp, by omega, by omega⟩
            · rw [← EE.out]; rfl
          · have EE := Lib.hid E
            have EF := Lib.hid EG
            clear E EG
            go_wp2_with fail
            go_ret3
            refine ⟨g, s, t, rfl, rfl, ?_, ?_, by omega, by omega⟩
            · rw [← EE.out]; omega
            · have := EF.out; omega
      · have HN := Lib.hid (HG.out.step h0)
        have HL := Lib.hid (HG.out.less h0)
        have d1 := ib (Nat.le_trans (quo_le g h h0) HG.out.bg)
        have d2 := ib (Nat.le_trans (quo_mul g h) HG.out.bg)
        have d3 := ib (quo_u g h u _ HG.out.mu)
        have d4 := ib (quo_u g h v _ HG.out.mv)
        clear HG
        go_wp2_with fail
        go_round
        case rel => exact ⟨h, u, v, _, _, _, HN, rfl, rfl, rfl, by go_num, by go_num, by go_num⟩
        case measure => have := HL.out; simpa [intOf] using this
end Go.Proofs.Ytliochikjbalhaa
