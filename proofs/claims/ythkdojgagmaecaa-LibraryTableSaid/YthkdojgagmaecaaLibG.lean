/- LibraryTable: the law. -/
import Derived.Test.YthkdojgagmaecaaLibF
import Derived.Deep.RegionWith
namespace Go.Proofs.Ythkdojgagmaecaa
open Go.RowKit

theorem size_lt_drew {w w1 : World} {o : Obj} (h : Below ((w.alloc o).drew).heap.size ((w.alloc o).drew) w1) : w.heap.size < w1.heap.size := by
  have h2 : (w.alloc o).heap.size ≤ w1.heap.size := h.size
  simp at h2
  omega
theorem table_ok (op a : Int) (w : World) (h1 : 2 ≤ op) (h2 : op ≤ 24) (h3 : 1 ≤ a) (h4 : a ≤ 64) :
    Calls Try.prog 5 #[.int .i64 op, .int .i64 a] w fun e w' => e = .returned (.bool true) ∧ Below w.heap.size w w' := by
  have hh : hasB op = true := by simp [hasB]; omega
  have hr : rightB a = true := by simp [rightB]; omega
  have hok : ofOk op a = true := by simp [ofOk]; omega
  have e1 := Lib.hid (show oC op a = uC op by simp [oC, uC, hok])
  have e2 := Lib.hid (show oW op a = a by simp [oW, hok])
  have e3 := Lib.hid (show oD op a = uD op a by simp [oD, uD, hok])
  have e4 := Lib.hid (show oL op a = uL op a by simp [oL, uL, hok])
  have e5 := Lib.hid (show oB op a = uB op a by simp [oB, uB, hok])
  have e6 := Lib.hid (show oA op a = uA op a by simp [oA, uA, hok])
  have e7 := Lib.hid (show oE op a = 0 by simp [oE, hok])
  go_enter Try.func5, Try.ntmps5
  go_wp2_with fail
  refine (awake27 _).mono ?_
  rintro e w1 ⟨rfl, hb1⟩
  go_wp2_with fail
  refine (of_any _ _ _).mono ?_
  rintro e w2 ⟨rfl, hb2⟩
  rw [e1.out, e2.out, e3.out, e4.out, e5.out, e6.out, e7.out]
  go_wp2_with fail
  refine (has_any _ _).mono ?_
  rintro e w' ⟨rfl, rfl⟩
  go_wp2_with fail
  refine (right_any _ _).mono ?_
  rintro e w' ⟨rfl, rfl⟩
  go_wp2_with fail
  go_region_with (go_at_call 14; refine (refof_any _ _ _ h1 h2 h3 h4).mono ?_; rintro e w3 ⟨rfl, hb3⟩; have hz := size_lt_drew hb3; obtain ⟨hcc, hff⟩ := bcell hb3)
  all_goals
    go_wp2_with fail
    go_ret
    exact ⟨rfl, below_trans (below_alloc (below_trans hb1 hb2) _).drew hb3⟩

theorem table_bad (op a : Int) (w : World) (h : ofOk op a = false) :
    Calls Try.prog 5 #[.int .i64 op, .int .i64 a] w fun e w' => e = .returned (.bool true) ∧ Below w.heap.size w w' := by
  have e1 := Lib.hid (show oC op a = 0 by simp [oC, h])
  have e2 := Lib.hid (show oW op a = 0 by simp [oW, h])
  have e3 := Lib.hid (show oD op a = 0 by simp [oD, h])
  have e4 := Lib.hid (show oL op a = 0 by simp [oL, h])
  have e5 := Lib.hid (show oB op a = 0 by simp [oB, h])
  have e6 := Lib.hid (show oA op a = 0 by simp [oA, h])
  have e7 := Lib.hid (show oE op a = ofE op by simp [oE, h])
  by_cases hh : hasB op = true
  · have h1 : 2 ≤ op ∧ op ≤ 24 := by simpa [hasB] using hh
    have e8 := Lib.hid (show ofE op = 13 by simp [ofE]; omega)
    have hr : rightB a = false := by
      simp only [ofOk, decide_eq_false_iff_not] at h
      simp only [rightB, decide_eq_false_iff_not]
      omega
    clear h h1
    go_enter Try.func5, Try.ntmps5
    go_wp2_with fail
    refine (awake27 _).mono ?_
    rintro e w1 ⟨rfl, hb1⟩
    go_wp2_with fail
    refine (of_any _ _ _).mono ?_
    rintro e w2 ⟨rfl, hb2⟩
    rw [e1.out, e2.out, e3.out, e4.out, e5.out, e6.out, e7.out, e8.out]
    go_wp2_with fail
    refine (has_any _ _).mono ?_
    rintro e w' ⟨rfl, rfl⟩
    go_wp2_with fail
    refine (right_any _ _).mono ?_
    rintro e w' ⟨rfl, rfl⟩
    go_wp2_with fail
    go_ret
    exact ⟨by simp, below_alloc (below_trans hb1 hb2) _⟩
  · have hh' : hasB op = false := by simpa using hh
    have e8 := Lib.hid (show ofE op = 1 by simp only [hasB, decide_eq_false_iff_not] at hh'; simp [ofE]; omega)
    clear h hh
    go_enter Try.func5, Try.ntmps5
    go_wp2_with fail
    refine (awake27 _).mono ?_
    rintro e w1 ⟨rfl, hb1⟩
    go_wp2_with fail
    refine (of_any _ _ _).mono ?_
    rintro e w2 ⟨rfl, hb2⟩
    rw [e1.out, e2.out, e3.out, e4.out, e5.out, e6.out, e7.out, e8.out]
    go_wp2_with fail
    refine (has_any _ _).mono ?_
    rintro e w' ⟨rfl, rfl⟩
    go_wp2_with fail
    go_ret
    exact ⟨by simp, below_alloc (below_trans hb1 hb2) _⟩

theorem table_walk (op a : Int) (w : World) :
    Calls Try.prog 5 #[.int .i64 op, .int .i64 a] w fun e w' => e = .returned (.bool true) ∧ Below w.heap.size w w' := by
  by_cases h : ofOk op a = true
  · have h1 : 2 ≤ op ∧ op ≤ 24 ∧ 1 ≤ a ∧ a ≤ 64 := by simpa [ofOk] using h
    exact table_ok op a w h1.1 h1.2.1 h1.2.2.1 h1.2.2.2
  · exact table_bad op a w (by simpa using h)
end Go.Proofs.Ythkdojgagmaecaa
