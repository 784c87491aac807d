/- LibraryCounts. -/
import Derived.Test.YthhdfdkdcabiaaaCnA
import Derived.Test.YthhdfdkdcabiaaaLibAw
namespace Go.Proofs.Ythhdfdkdcabiaaa
open Go Go.RowKit
set_option linter.unusedVariables false
set_option linter.unusedSimpArgs false

theorem counts_any (A : Option Addr) (n m : Nat) (c k : Nat → Int) (cl : Int) (hn : (n : Int) ≤ 9223372036854775807) (w : World) (h : Prs w w.heap.size A n c k) :
    Calls Try.prog 4 #[.slice A n m, .int .i64 cl] w fun e w' => e = .returned (.bool true) ∧ Below w.heap.size w w' := by
  go_enter Try.func4, Try.ntmps4
  go_wp2_with fail
  refine (awake27 _).mono ?_
  rintro e w1 ⟨rfl, hb1⟩
  go_wp2_with fail
  go_loopw [5, 6] (fun v i wr => ∃ j : Nat, ∃ iv : Int, j ≤ n ∧ iv = (j : Int) - 1 ∧ v = .int .i64 (cnt c k cl (n - j) j) ∧ i = .int .i64 iv ∧ Below w.heap.size w wr) (fun _ i _ => (intOf i + 1).toNat)
  case atStart => exact ⟨n, (n : Int) - 1, by omega, rfl, by rw [cnt_end], by go_num, hb1⟩
  case round =>
    obtain ⟨j, iv, hj, hiv, rfl, rfl, hb⟩ := hrel
    by_cases h0 : j = 0
    · subst h0
      have hiv' : iv = -1 := by omega
      subst hiv'
      clear hiv
      have hp := (h.below hb).more hb.size
      go_wp2_with fail
      refine (count_any A n m c k cl hn _ hp).mono ?_
      rintro e w2 ⟨rfl, hb2⟩
      go_wp2_with fail
      go_ret
      exact ⟨by simp, below_trans hb hb2⟩
    · obtain ⟨i, rfl⟩ : ∃ i, j = i + 1 := ⟨j - 1, by omega⟩
      have hiv' : iv = (i : Int) := by omega
      subst hiv'
      clear hiv
      obtain ⟨ad, rfl, hl, c0, c1⟩ := (h.below hb) i (by omega)
      have c1' : wr.cell? ⟨(ad.add (i * 2)).block, (ad.add (i * 2)).off + 1, none⟩ = some (.int .i64 (k i)) := by rw [← add_of_add] at c1; exact c1
      clear c1
      have HS := Lib.hid (cnt_step c k cl n i (by omega))
      have hlt : i < n := by omega
      generalize cnt c k cl (n - (i + 1)) (i + 1) = z at *
      generalize c i = ci at *
      generalize k i = ki at *
      by_cases hc : ci = cl
      · subst hc
        go_wp2_with fail
        all_goals go_roundw
        case rel => 
          refine ⟨i, (i : Int) - 1, by omega, rfl, ?_, by go_num, hb⟩
          rw [HS.out, if_pos rfl]
          refine congrArg (fun z => Value.int .i64 z) ?_
          rcases Int.lt_or_le ki 1 with q | q
          · rw [if_pos q, if_neg (by omega)]; omega
          · rw [if_neg (show ¬ ki < 1 by omega)]; split <;> omega
        case measure => simp [intOf]
      · go_wp2_with fail
        go_roundw
        case rel => exact ⟨i, (i : Int) - 1, by omega, rfl, by rw [HS.out, if_neg hc], by go_num, hb⟩
        case measure => simp [intOf]
end Go.Proofs.Ythhdfdkdcabiaaa
