/- library.Count. -/
import Derived.OpenShut
import Derived.Outline
import Derived.Laws.ResultCell
import Derived.Test.YthhdfdkdcabiaaaRows
import Derived.Test.YthhdfdkdcabiaaaCn
namespace Go.Proofs.Ythhdfdkdcabiaaa
open Go Go.RowKit
set_option linter.unusedVariables false
set_option linter.unusedSimpArgs false

theorem count_any (A : Option Addr) (n m : Nat) (c k : Nat → Int) (cl : Int) (hn : (n : Int) ≤ 9223372036854775807) (w : World) (h : Prs w w.heap.size A n c k) :
    Calls Try.prog 9 #[.slice A n m, .int .i64 cl] w fun e w' => e = .returned (.int .i64 (cnt c k cl n 0)) ∧ Below w.heap.size w w' := by
  go_enter Try.func9, Try.ntmps9
  go_wp2_with fail
  go_loopw [9] (fun i wr => ∃ j : Nat, j ≤ n ∧ Hid (cnt c k cl n 0 = cnt c k cl (n - j) j) ∧ i = .int .i64 j ∧ Below w.heap.size w wr) (fun i _ => n - (intOf i).toNat)
  case atStart => exact ⟨0, by omega, Lib.hid rfl, rfl, Below.refl _ _⟩
  case round =>
    obtain ⟨j, hj, HL, rfl, hb⟩ := hrel
    by_cases hlt : j < n
    · obtain ⟨ad, rfl, hl, c0, c1⟩ := (h.below hb) j hlt
      have c1' : wr.cell? ⟨(ad.add (j * 2)).block, (ad.add (j * 2)).off + 1, none⟩ = some (.int .i64 (k j)) := by rw [← add_of_add] at c1; exact c1
      clear c1
      have HS := Lib.hid (cnt_step c k cl n j hlt)
      generalize c j = cj at *
      generalize k j = kj at *
      by_cases hc : cj = cl
      · subst hc
        go_wp2_with fail
        all_goals go_ret
        all_goals refine ⟨?_, hb.alloc hb.size _⟩
        all_goals rw [HL.out, HS.out, if_pos trivial]
        all_goals refine congrArg (fun z => Ending.returned (Value.int .i64 z)) ?_
        all_goals first | omega | (split <;> omega)
      · go_wp2_with fail
        go_roundw
        case rel => exact ⟨j + 1, by omega, Lib.hid (by rw [HL.out, HS.out, if_neg hc]), by go_num, hb.alloc hb.size _⟩
        case measure => simp [intOf]; omega
    · have hjn : j = n := by omega
      subst hjn
      have HE := Lib.hid (HL.out.trans (cnt_end c k cl j))
      go_wp2_with fail
      go_ret
      exact ⟨by rw [HE.out]; rfl, hb⟩
end Go.Proofs.Ythhdfdkdcabiaaa
