/- BitsExtend. -/
import Derived.Test.YtcehihpjaijllaaExt
import Derived.Test.YtcehihpjaijllaaAwake01
import Derived.Test.YtcehihpjaijllaaOpen
import Derived.Deep.QuietTactic
import Derived.BigQuiet
namespace Go.Proofs.Ytcehihpjaijllaa
open Go.RowKit

theorem cw_mono (c d : Int) (h : c ≤ d) : cw c ≤ cw d := by unfold cw; split <;> split <;> (try split) <;> (try split) <;> omega
theorem extN_lt (c d : Int) (x : Nat) (s : Bool) : extN c d x s < 18446744073709551616 := by
  cases s
  · exact fitN_lt _ _
  · exact fromN_lt _ _
theorem ext_sgn (c d : Int) (x : Nat) (h1 : 1 ≤ c) (h2 : c ≤ d) : sgn d (extN c d x true) = sgn c x := by
  show sgn d (fromN d (sgn c x)) = sgn c x
  obtain ⟨r1, r2⟩ := sgn_range c x h1
  have hp : 2 ^ (cw c - 1) ≤ 2 ^ (cw d - 1) := Nat.pow_le_pow_right (by decide) (by have := cw_mono c d h2; omega)
  exact sgn_from d _ (by omega) (by omega) (by omega)
theorem ext_uns (c d : Int) (x : Nat) (h2 : c ≤ d) : extN c d x false = fitN c x := by
  show fitN d (fitN c x) = fitN c x
  have hp : 2 ^ cw c ≤ 2 ^ cw d := Nat.pow_le_pow_right (by decide) (cw_mono c d h2)
  exact Nat.mod_eq_of_lt (Nat.lt_of_lt_of_le (fitN_lt' c x) hp)
theorem ext_back (c d : Int) (x : Nat) (s : Bool) (h1 : 1 ≤ c) (h2 : c ≤ d) : extN d c (extN c d x s) s = fitN c x := by
  cases s
  · rw [ext_uns c d x h2]
    show fitN c (fitN d (fitN c x)) = fitN c x
    have := ext_uns c d x h2
    rw [show fitN d (fitN c x) = fitN c x from this, fitN_fitN]
  · show fromN c (sgn d (extN c d x true)) = fitN c x
    rw [ext_sgn c d x h1 h2, from_sgn]

theorem below_fin {w w1 : World} {o : Obj} {n : Nat} (h : Below ((w.alloc o).drewN n).heap.size ((w.alloc o).drewN n) w1) : Below w.heap.size w w1 := by
  have h1 : Below w.heap.size w ((w.alloc o).drewN n) := ((Below.refl _ _).alloc (Nat.le_refl _) o).trans ⟨rfl, rfl, rfl, Nat.le_refl _, fun _ _ => rfl⟩
  exact h1.trans (h.mono h1.size)
theorem extlaw_any (c d : Int) (x : Nat) (s : Bool) (hx : x < 18446744073709551616) (w : World) :
    Calls Try.prog 6 #[.agg #[.int .i64 c, .int .i64 d], .int .u64 x, .bool s] w fun e w' => e = .returned (.bool true) ∧ Below w.heap.size w w' := by
  have C2 := fun w => ext_any c d x hx s w
  have C3 := fun w => rext_any c d x hx s w
  by_cases hr : 1 ≤ c ∧ c ≤ d ∧ d ≤ 64
  · obtain ⟨h1, h2, h3⟩ := hr
    have n1 : ¬ d < c := by omega
    have n2 : ¬ c < 1 := by omega
    have n3 : ¬ 64 < d := by omega
    have hYl := extN_lt c d x s
    have C4 := fun w => ext_any d c (extN c d x s) hYl s w
    have C5 := fun w => fit_any c x w hx
    rw [ext_back c d x s h1 h2] at C4
    cases s
    · rw [ext_uns c d x h2] at C2 C3 C4
      generalize fitN c x = F at C2 C3 C4 C5
      clear hYl
      go_enter Try.func6, Try.ntmps6
      go_wp2_with fail
      refine (awake_any _).mono ?_
      rintro e w1 ⟨rfl, rfl⟩
      go_wp2_with fail
      go_quiet (fail)
      go_wp2_with fail
      refine (C2 _).mono ?_
      rintro e w1 ⟨rfl, rfl⟩
      go_wp2_with fail
      refine (C3 _).mono ?_
      rintro e w1 ⟨rfl, hb1⟩
      go_wp2_with fail
      refine (C5 _).mono ?_
      rintro e w2 ⟨rfl, rfl⟩
      go_wp2_with fail
      refine (C4 _).mono ?_
      rintro e w2 ⟨rfl, rfl⟩
      go_wp2_with fail
      refine (C5 _).mono ?_
      rintro e w2 ⟨rfl, rfl⟩
      go_wp2_with fail
      go_ret
      exact ⟨rfl, below_fin hb1⟩
    · have C6 := fun w => signed_any d (extN c d x true) w hYl
      have C7 := fun w => signed_any c x w hx
      rw [ext_sgn c d x h1 h2] at C6
      generalize fitN c x = F at C4 C5
      generalize sgn c x = S at C6 C7
      generalize extN c d x true = Y at C2 C3 C4 C6
      clear hYl
      go_enter Try.func6, Try.ntmps6
      go_wp2_with fail
      refine (awake_any _).mono ?_
      rintro e w1 ⟨rfl, rfl⟩
      go_wp2_with fail
      go_quiet (fail)
      go_wp2_with fail
      refine (C2 _).mono ?_
      rintro e w1 ⟨rfl, rfl⟩
      go_wp2_with fail
      refine (C3 _).mono ?_
      rintro e w1 ⟨rfl, hb1⟩
      go_wp2_with fail
      refine (C6 _).mono ?_
      rintro e w2 ⟨rfl, rfl⟩
      go_wp2_with fail
      refine (C7 _).mono ?_
      rintro e w2 ⟨rfl, rfl⟩
      go_wp2_with fail
      refine (C4 _).mono ?_
      rintro e w2 ⟨rfl, rfl⟩
      go_wp2_with fail
      refine (C5 _).mono ?_
      rintro e w2 ⟨rfl, rfl⟩
      go_wp2_with fail
      go_ret
      exact ⟨rfl, below_fin hb1⟩
  · have hY : ∃ Y, Y = extN c d x s := ⟨_, rfl⟩
    generalize extN c d x s = Y at C2 C3
    clear hY
    by_cases n1 : d < c
    · go_enter Try.func6, Try.ntmps6
      go_wp2_with fail
      refine (awake_any _).mono ?_
      rintro e w1 ⟨rfl, rfl⟩
      go_wp2_with fail
      go_quiet (fail)
      go_wp2_with fail
      refine (C2 _).mono ?_
      rintro e w1 ⟨rfl, rfl⟩
      go_wp2_with fail
      refine (C3 _).mono ?_
      rintro e w1 ⟨rfl, hb1⟩
      go_wp2_with fail
      go_ret
      exact ⟨rfl, below_fin hb1⟩
    · have h9 : c < 1 ∨ 64 < d := by omega
      clear hr
      by_cases n2 : c < 1
      · go_enter Try.func6, Try.ntmps6
        go_wp2_with fail
        refine (awake_any _).mono ?_
        rintro e w1 ⟨rfl, rfl⟩
        go_wp2_with fail
        go_quiet (fail)
        go_wp2_with fail
        refine (C2 _).mono ?_
        rintro e w1 ⟨rfl, rfl⟩
        go_wp2_with fail
        refine (C3 _).mono ?_
        rintro e w1 ⟨rfl, hb1⟩
        go_wp2_with fail
        go_ret
        exact ⟨rfl, below_fin hb1⟩
      · have n3 : 64 < d := by omega
        clear h9
        go_enter Try.func6, Try.ntmps6
        go_wp2_with fail
        refine (awake_any _).mono ?_
        rintro e w1 ⟨rfl, rfl⟩
        go_wp2_with fail
        go_quiet (fail)
        go_wp2_with fail
        refine (C2 _).mono ?_
        rintro e w1 ⟨rfl, rfl⟩
        go_wp2_with fail
        refine (C3 _).mono ?_
        rintro e w1 ⟨rfl, hb1⟩
        go_wp2_with fail
        go_ret
        exact ⟨rfl, below_fin hb1⟩
end Go.Proofs.Ytcehihpjaijllaa
