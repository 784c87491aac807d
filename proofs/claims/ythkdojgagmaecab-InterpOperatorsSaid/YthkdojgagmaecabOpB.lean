/- The reference's Apply. -/
import Derived.Test.YthkdojgagmaecabOpA
import Derived.Test.YthkdojgagmaecabBinA
namespace Go.Proofs.Ythkdojgagmaecab
open Go.RowKit

theorem rapply_bad (op a : Int) (s : Bool) (x y : Nat) (h : ¬ (1 ≤ a ∧ a ≤ 64)) (w : World) :
    Calls Try.prog 43 #[.int .i64 op, .agg #[.int .i64 a, .bool s], .int .u64 (x : Nat), .int .u64 (y : Nat)] w fun e w' => e = .returned (.int .u64 0) ∧ Below w.heap.size w w' := by
  by_cases h1 : a < 1
  · clear h
    go_enter Try.func43, Try.ntmps43
    go_wp2_with fail
    go_ret
    exact ⟨rfl, by (repeat (first | exact Below.refl _ _ | apply Below.drew | refine Below.alloc ?_ (by simp <;> omega) _ | refine Below.setCell ?_ (by simp) _))⟩
  · have h2 : 64 < a := by omega
    clear h
    go_enter Try.func43, Try.ntmps43
    go_wp2_with fail
    go_ret
    exact ⟨rfl, by (repeat (first | exact Below.refl _ _ | apply Below.drew | refine Below.alloc ?_ (by simp <;> omega) _ | refine Below.setCell ?_ (by simp) _))⟩
theorem obcell {W w1 : World} (hb : Below W.heap.size W w1) : (∀ b o, b < W.heap.size → w1.cell? ⟨b, o, none⟩ = W.cell? ⟨b, o, none⟩) ∧ (∀ b o, b < W.heap.size → w1.frozen? ⟨b, o, none⟩ = W.frozen? ⟨b, o, none⟩) :=
  ⟨fun b o h => hb.cell (p := ⟨b, o, none⟩) h, fun b o h => hb.frozen (p := ⟨b, o, none⟩) h⟩
theorem rapp_1_0 (a : Int) (x y : Nat) (hx : x < 18446744073709551616) (hy : y < 18446744073709551616) (h1 : 1 ≤ a) (h2 : a ≤ 64) (w : World) :
    Calls Try.prog 43 #[.int .i64 1, .agg #[.int .i64 a, .bool false], .int .u64 (x : Nat), .int .u64 (y : Nat)] w fun e w' => e = .returned (.int .u64 (binN 2 a x y : Nat)) ∧ Below w.heap.size w w' := by
  have C1 := fun w => func2_any 1 false w
  rw [show f2N 1 false = 2 by decide] at C1
  have C2 := fun w => rbinary_any 2 a x y (by decide) (by decide) h1 h2 hx hy w
  generalize binN 2 a x y = R at C2 ⊢
  go_enter Try.func43, Try.ntmps43
  go_wp2_with fail
  refine (C1 _).mono ?_
  rintro e w1 ⟨rfl, hb1⟩
  have hz : w.heap.size < w1.heap.size := by have := hb1.size; simp at this; omega
  have B1 := ((Below.refl w.heap.size w).alloc (Nat.le_refl _) _).trans (hb1.mono (by simp))
  obtain ⟨hcc, hff⟩ := obcell hb1
  clear hb1
  go_wp2_with fail
  refine (C2 _).mono ?_
  rintro e w2 ⟨rfl, hb2⟩
  have B2 := B1.trans (hb2.mono B1.size)
  clear hb2
  go_wp2_with fail
  go_ret
  exact ⟨rfl, B2⟩
theorem rapp_1_1 (a : Int) (x y : Nat) (hx : x < 18446744073709551616) (hy : y < 18446744073709551616) (h1 : 1 ≤ a) (h2 : a ≤ 64) (w : World) :
    Calls Try.prog 43 #[.int .i64 1, .agg #[.int .i64 a, .bool true], .int .u64 (x : Nat), .int .u64 (y : Nat)] w fun e w' => e = .returned (.int .u64 (binN 2 a x y : Nat)) ∧ Below w.heap.size w w' := by
  have C1 := fun w => func2_any 1 true w
  rw [show f2N 1 true = 2 by decide] at C1
  have C2 := fun w => rbinary_any 2 a x y (by decide) (by decide) h1 h2 hx hy w
  generalize binN 2 a x y = R at C2 ⊢
  go_enter Try.func43, Try.ntmps43
  go_wp2_with fail
  refine (C1 _).mono ?_
  rintro e w1 ⟨rfl, hb1⟩
  have hz : w.heap.size < w1.heap.size := by have := hb1.size; simp at this; omega
  have B1 := ((Below.refl w.heap.size w).alloc (Nat.le_refl _) _).trans (hb1.mono (by simp))
  obtain ⟨hcc, hff⟩ := obcell hb1
  clear hb1
  go_wp2_with fail
  refine (C2 _).mono ?_
  rintro e w2 ⟨rfl, hb2⟩
  have B2 := B1.trans (hb2.mono B1.size)
  clear hb2
  go_wp2_with fail
  go_ret
  exact ⟨rfl, B2⟩
theorem rapp_2_0 (a : Int) (x y : Nat) (hx : x < 18446744073709551616) (hy : y < 18446744073709551616) (h1 : 1 ≤ a) (h2 : a ≤ 64) (w : World) :
    Calls Try.prog 43 #[.int .i64 2, .agg #[.int .i64 a, .bool false], .int .u64 (x : Nat), .int .u64 (y : Nat)] w fun e w' => e = .returned (.int .u64 (binN 3 a x y : Nat)) ∧ Below w.heap.size w w' := by
  have C1 := fun w => func2_any 2 false w
  rw [show f2N 2 false = 3 by decide] at C1
  have C2 := fun w => rbinary_any 3 a x y (by decide) (by decide) h1 h2 hx hy w
  generalize binN 3 a x y = R at C2 ⊢
  go_enter Try.func43, Try.ntmps43
  go_wp2_with fail
  refine (C1 _).mono ?_
  rintro e w1 ⟨rfl, hb1⟩
  have hz : w.heap.size < w1.heap.size := by have := hb1.size; simp at this; omega
  have B1 := ((Below.refl w.heap.size w).alloc (Nat.le_refl _) _).trans (hb1.mono (by simp))
  obtain ⟨hcc, hff⟩ := obcell hb1
  clear hb1
  go_wp2_with fail
  refine (C2 _).mono ?_
  rintro e w2 ⟨rfl, hb2⟩
  have B2 := B1.trans (hb2.mono B1.size)
  clear hb2
  go_wp2_with fail
  go_ret
  exact ⟨rfl, B2⟩
theorem rapp_2_1 (a : Int) (x y : Nat) (hx : x < 18446744073709551616) (hy : y < 18446744073709551616) (h1 : 1 ≤ a) (h2 : a ≤ 64) (w : World) :
    Calls Try.prog 43 #[.int .i64 2, .agg #[.int .i64 a, .bool true], .int .u64 (x : Nat), .int .u64 (y : Nat)] w fun e w' => e = .returned (.int .u64 (binN 3 a x y : Nat)) ∧ Below w.heap.size w w' := by
  have C1 := fun w => func2_any 2 true w
  rw [show f2N 2 true = 3 by decide] at C1
  have C2 := fun w => rbinary_any 3 a x y (by decide) (by decide) h1 h2 hx hy w
  generalize binN 3 a x y = R at C2 ⊢
  go_enter Try.func43, Try.ntmps43
  go_wp2_with fail
  refine (C1 _).mono ?_
  rintro e w1 ⟨rfl, hb1⟩
  have hz : w.heap.size < w1.heap.size := by have := hb1.size; simp at this; omega
  have B1 := ((Below.refl w.heap.size w).alloc (Nat.le_refl _) _).trans (hb1.mono (by simp))
  obtain ⟨hcc, hff⟩ := obcell hb1
  clear hb1
  go_wp2_with fail
  refine (C2 _).mono ?_
  rintro e w2 ⟨rfl, hb2⟩
  have B2 := B1.trans (hb2.mono B1.size)
  clear hb2
  go_wp2_with fail
  go_ret
  exact ⟨rfl, B2⟩
theorem rapp_3_0 (a : Int) (x y : Nat) (hx : x < 18446744073709551616) (hy : y < 18446744073709551616) (h1 : 1 ≤ a) (h2 : a ≤ 64) (w : World) :
    Calls Try.prog 43 #[.int .i64 3, .agg #[.int .i64 a, .bool false], .int .u64 (x : Nat), .int .u64 (y : Nat)] w fun e w' => e = .returned (.int .u64 (binN 4 a x y : Nat)) ∧ Below w.heap.size w w' := by
  have C1 := fun w => func2_any 3 false w
  rw [show f2N 3 false = 4 by decide] at C1
  have C2 := fun w => rbinary_any 4 a x y (by decide) (by decide) h1 h2 hx hy w
  generalize binN 4 a x y = R at C2 ⊢
  go_enter Try.func43, Try.ntmps43
  go_wp2_with fail
  refine (C1 _).mono ?_
  rintro e w1 ⟨rfl, hb1⟩
  have hz : w.heap.size < w1.heap.size := by have := hb1.size; simp at this; omega
  have B1 := ((Below.refl w.heap.size w).alloc (Nat.le_refl _) _).trans (hb1.mono (by simp))
  obtain ⟨hcc, hff⟩ := obcell hb1
  clear hb1
  go_wp2_with fail
  refine (C2 _).mono ?_
  rintro e w2 ⟨rfl, hb2⟩
  have B2 := B1.trans (hb2.mono B1.size)
  clear hb2
  go_wp2_with fail
  go_ret
  exact ⟨rfl, B2⟩
theorem rapp_3_1 (a : Int) (x y : Nat) (hx : x < 18446744073709551616) (hy : y < 18446744073709551616) (h1 : 1 ≤ a) (h2 : a ≤ 64) (w : World) :
    Calls Try.prog 43 #[.int .i64 3, .agg #[.int .i64 a, .bool true], .int .u64 (x : Nat), .int .u64 (y : Nat)] w fun e w' => e = .returned (.int .u64 (binN 4 a x y : Nat)) ∧ Below w.heap.size w w' := by
  have C1 := fun w => func2_any 3 true w
  rw [show f2N 3 true = 4 by decide] at C1
  have C2 := fun w => rbinary_any 4 a x y (by decide) (by decide) h1 h2 hx hy w
  generalize binN 4 a x y = R at C2 ⊢
  go_enter Try.func43, Try.ntmps43
  go_wp2_with fail
  refine (C1 _).mono ?_
  rintro e w1 ⟨rfl, hb1⟩
  have hz : w.heap.size < w1.heap.size := by have := hb1.size; simp at this; omega
  have B1 := ((Below.refl w.heap.size w).alloc (Nat.le_refl _) _).trans (hb1.mono (by simp))
  obtain ⟨hcc, hff⟩ := obcell hb1
  clear hb1
  go_wp2_with fail
  refine (C2 _).mono ?_
  rintro e w2 ⟨rfl, hb2⟩
  have B2 := B1.trans (hb2.mono B1.size)
  clear hb2
  go_wp2_with fail
  go_ret
  exact ⟨rfl, B2⟩
theorem rapp_4_0 (a : Int) (x y : Nat) (hx : x < 18446744073709551616) (hy : y < 18446744073709551616) (h1 : 1 ≤ a) (h2 : a ≤ 64) (w : World) :
    Calls Try.prog 43 #[.int .i64 4, .agg #[.int .i64 a, .bool false], .int .u64 (x : Nat), .int .u64 (y : Nat)] w fun e w' => e = .returned (.int .u64 (binN 5 a x y : Nat)) ∧ Below w.heap.size w w' := by
  have C1 := fun w => func2_any 4 false w
  rw [show f2N 4 false = 5 by decide] at C1
  have C2 := fun w => rbinary_any 5 a x y (by decide) (by decide) h1 h2 hx hy w
  generalize binN 5 a x y = R at C2 ⊢
  go_enter Try.func43, Try.ntmps43
  go_wp2_with fail
  refine (C1 _).mono ?_
  rintro e w1 ⟨rfl, hb1⟩
  have hz : w.heap.size < w1.heap.size := by have := hb1.size; simp at this; omega
  have B1 := ((Below.refl w.heap.size w).alloc (Nat.le_refl _) _).trans (hb1.mono (by simp))
  obtain ⟨hcc, hff⟩ := obcell hb1
  clear hb1
  go_wp2_with fail
  refine (C2 _).mono ?_
  rintro e w2 ⟨rfl, hb2⟩
  have B2 := B1.trans (hb2.mono B1.size)
  clear hb2
  go_wp2_with fail
  go_ret
  exact ⟨rfl, B2⟩
theorem rapp_4_1 (a : Int) (x y : Nat) (hx : x < 18446744073709551616) (hy : y < 18446744073709551616) (h1 : 1 ≤ a) (h2 : a ≤ 64) (w : World) :
    Calls Try.prog 43 #[.int .i64 4, .agg #[.int .i64 a, .bool true], .int .u64 (x : Nat), .int .u64 (y : Nat)] w fun e w' => e = .returned (.int .u64 (binN 7 a x y : Nat)) ∧ Below w.heap.size w w' := by
  have C1 := fun w => func2_any 4 true w
  rw [show f2N 4 true = 7 by decide] at C1
  have C2 := fun w => rbinary_any 7 a x y (by decide) (by decide) h1 h2 hx hy w
  generalize binN 7 a x y = R at C2 ⊢
  go_enter Try.func43, Try.ntmps43
  go_wp2_with fail
  refine (C1 _).mono ?_
  rintro e w1 ⟨rfl, hb1⟩
  have hz : w.heap.size < w1.heap.size := by have := hb1.size; simp at this; omega
  have B1 := ((Below.refl w.heap.size w).alloc (Nat.le_refl _) _).trans (hb1.mono (by simp))
  obtain ⟨hcc, hff⟩ := obcell hb1
  clear hb1
  go_wp2_with fail
  refine (C2 _).mono ?_
  rintro e w2 ⟨rfl, hb2⟩
  have B2 := B1.trans (hb2.mono B1.size)
  clear hb2
  go_wp2_with fail
  go_ret
  exact ⟨rfl, B2⟩
theorem rapp_5_0 (a : Int) (x y : Nat) (hx : x < 18446744073709551616) (hy : y < 18446744073709551616) (h1 : 1 ≤ a) (h2 : a ≤ 64) (w : World) :
    Calls Try.prog 43 #[.int .i64 5, .agg #[.int .i64 a, .bool false], .int .u64 (x : Nat), .int .u64 (y : Nat)] w fun e w' => e = .returned (.int .u64 (binN 6 a x y : Nat)) ∧ Below w.heap.size w w' := by
  have C1 := fun w => func2_any 5 false w
  rw [show f2N 5 false = 6 by decide] at C1
  have C2 := fun w => rbinary_any 6 a x y (by decide) (by decide) h1 h2 hx hy w
  generalize binN 6 a x y = R at C2 ⊢
  go_enter Try.func43, Try.ntmps43
  go_wp2_with fail
  refine (C1 _).mono ?_
  rintro e w1 ⟨rfl, hb1⟩
  have hz : w.heap.size < w1.heap.size := by have := hb1.size; simp at this; omega
  have B1 := ((Below.refl w.heap.size w).alloc (Nat.le_refl _) _).trans (hb1.mono (by simp))
  obtain ⟨hcc, hff⟩ := obcell hb1
  clear hb1
  go_wp2_with fail
  refine (C2 _).mono ?_
  rintro e w2 ⟨rfl, hb2⟩
  have B2 := B1.trans (hb2.mono B1.size)
  clear hb2
  go_wp2_with fail
  go_ret
  exact ⟨rfl, B2⟩
theorem rapp_5_1 (a : Int) (x y : Nat) (hx : x < 18446744073709551616) (hy : y < 18446744073709551616) (h1 : 1 ≤ a) (h2 : a ≤ 64) (w : World) :
    Calls Try.prog 43 #[.int .i64 5, .agg #[.int .i64 a, .bool true], .int .u64 (x : Nat), .int .u64 (y : Nat)] w fun e w' => e = .returned (.int .u64 (binN 8 a x y : Nat)) ∧ Below w.heap.size w w' := by
  have C1 := fun w => func2_any 5 true w
  rw [show f2N 5 true = 8 by decide] at C1
  have C2 := fun w => rbinary_any 8 a x y (by decide) (by decide) h1 h2 hx hy w
  generalize binN 8 a x y = R at C2 ⊢
  go_enter Try.func43, Try.ntmps43
  go_wp2_with fail
  refine (C1 _).mono ?_
  rintro e w1 ⟨rfl, hb1⟩
  have hz : w.heap.size < w1.heap.size := by have := hb1.size; simp at this; omega
  have B1 := ((Below.refl w.heap.size w).alloc (Nat.le_refl _) _).trans (hb1.mono (by simp))
  obtain ⟨hcc, hff⟩ := obcell hb1
  clear hb1
  go_wp2_with fail
  refine (C2 _).mono ?_
  rintro e w2 ⟨rfl, hb2⟩
  have B2 := B1.trans (hb2.mono B1.size)
  clear hb2
  go_wp2_with fail
  go_ret
  exact ⟨rfl, B2⟩
theorem rapp_6_0 (a : Int) (x y : Nat) (hx : x < 18446744073709551616) (hy : y < 18446744073709551616) (h1 : 1 ≤ a) (h2 : a ≤ 64) (w : World) :
    Calls Try.prog 43 #[.int .i64 6, .agg #[.int .i64 a, .bool false], .int .u64 (x : Nat), .int .u64 (y : Nat)] w fun e w' => e = .returned (.int .u64 (binN 9 a x y : Nat)) ∧ Below w.heap.size w w' := by
  have C1 := fun w => func2_any 6 false w
  rw [show f2N 6 false = 9 by decide] at C1
  have C2 := fun w => rbinary_any 9 a x y (by decide) (by decide) h1 h2 hx hy w
  generalize binN 9 a x y = R at C2 ⊢
  go_enter Try.func43, Try.ntmps43
  go_wp2_with fail
  refine (C1 _).mono ?_
  rintro e w1 ⟨rfl, hb1⟩
  have hz : w.heap.size < w1.heap.size := by have := hb1.size; simp at this; omega
  have B1 := ((Below.refl w.heap.size w).alloc (Nat.le_refl _) _).trans (hb1.mono (by simp))
  obtain ⟨hcc, hff⟩ := obcell hb1
  clear hb1
  go_wp2_with fail
  refine (C2 _).mono ?_
  rintro e w2 ⟨rfl, hb2⟩
  have B2 := B1.trans (hb2.mono B1.size)
  clear hb2
  go_wp2_with fail
  go_ret
  exact ⟨rfl, B2⟩
theorem rapp_6_1 (a : Int) (x y : Nat) (hx : x < 18446744073709551616) (hy : y < 18446744073709551616) (h1 : 1 ≤ a) (h2 : a ≤ 64) (w : World) :
    Calls Try.prog 43 #[.int .i64 6, .agg #[.int .i64 a, .bool true], .int .u64 (x : Nat), .int .u64 (y : Nat)] w fun e w' => e = .returned (.int .u64 (binN 9 a x y : Nat)) ∧ Below w.heap.size w w' := by
  have C1 := fun w => func2_any 6 true w
  rw [show f2N 6 true = 9 by decide] at C1
  have C2 := fun w => rbinary_any 9 a x y (by decide) (by decide) h1 h2 hx hy w
  generalize binN 9 a x y = R at C2 ⊢
  go_enter Try.func43, Try.ntmps43
  go_wp2_with fail
  refine (C1 _).mono ?_
  rintro e w1 ⟨rfl, hb1⟩
  have hz : w.heap.size < w1.heap.size := by have := hb1.size; simp at this; omega
  have B1 := ((Below.refl w.heap.size w).alloc (Nat.le_refl _) _).trans (hb1.mono (by simp))
  obtain ⟨hcc, hff⟩ := obcell hb1
  clear hb1
  go_wp2_with fail
  refine (C2 _).mono ?_
  rintro e w2 ⟨rfl, hb2⟩
  have B2 := B1.trans (hb2.mono B1.size)
  clear hb2
  go_wp2_with fail
  go_ret
  exact ⟨rfl, B2⟩
theorem rapp_7_0 (a : Int) (x y : Nat) (hx : x < 18446744073709551616) (hy : y < 18446744073709551616) (h1 : 1 ≤ a) (h2 : a ≤ 64) (w : World) :
    Calls Try.prog 43 #[.int .i64 7, .agg #[.int .i64 a, .bool false], .int .u64 (x : Nat), .int .u64 (y : Nat)] w fun e w' => e = .returned (.int .u64 (binN 10 a x y : Nat)) ∧ Below w.heap.size w w' := by
  have C1 := fun w => func2_any 7 false w
  rw [show f2N 7 false = 10 by decide] at C1
  have C2 := fun w => rbinary_any 10 a x y (by decide) (by decide) h1 h2 hx hy w
  generalize binN 10 a x y = R at C2 ⊢
  go_enter Try.func43, Try.ntmps43
  go_wp2_with fail
  refine (C1 _).mono ?_
  rintro e w1 ⟨rfl, hb1⟩
  have hz : w.heap.size < w1.heap.size := by have := hb1.size; simp at this; omega
  have B1 := ((Below.refl w.heap.size w).alloc (Nat.le_refl _) _).trans (hb1.mono (by simp))
  obtain ⟨hcc, hff⟩ := obcell hb1
  clear hb1
  go_wp2_with fail
  refine (C2 _).mono ?_
  rintro e w2 ⟨rfl, hb2⟩
  have B2 := B1.trans (hb2.mono B1.size)
  clear hb2
  go_wp2_with fail
  go_ret
  exact ⟨rfl, B2⟩
theorem rapp_7_1 (a : Int) (x y : Nat) (hx : x < 18446744073709551616) (hy : y < 18446744073709551616) (h1 : 1 ≤ a) (h2 : a ≤ 64) (w : World) :
    Calls Try.prog 43 #[.int .i64 7, .agg #[.int .i64 a, .bool true], .int .u64 (x : Nat), .int .u64 (y : Nat)] w fun e w' => e = .returned (.int .u64 (binN 10 a x y : Nat)) ∧ Below w.heap.size w w' := by
  have C1 := fun w => func2_any 7 true w
  rw [show f2N 7 true = 10 by decide] at C1
  have C2 := fun w => rbinary_any 10 a x y (by decide) (by decide) h1 h2 hx hy w
  generalize binN 10 a x y = R at C2 ⊢
  go_enter Try.func43, Try.ntmps43
  go_wp2_with fail
  refine (C1 _).mono ?_
  rintro e w1 ⟨rfl, hb1⟩
  have hz : w.heap.size < w1.heap.size := by have := hb1.size; simp at this; omega
  have B1 := ((Below.refl w.heap.size w).alloc (Nat.le_refl _) _).trans (hb1.mono (by simp))
  obtain ⟨hcc, hff⟩ := obcell hb1
  clear hb1
  go_wp2_with fail
  refine (C2 _).mono ?_
  rintro e w2 ⟨rfl, hb2⟩
  have B2 := B1.trans (hb2.mono B1.size)
  clear hb2
  go_wp2_with fail
  go_ret
  exact ⟨rfl, B2⟩
theorem rapp_8_0 (a : Int) (x y : Nat) (hx : x < 18446744073709551616) (hy : y < 18446744073709551616) (h1 : 1 ≤ a) (h2 : a ≤ 64) (w : World) :
    Calls Try.prog 43 #[.int .i64 8, .agg #[.int .i64 a, .bool false], .int .u64 (x : Nat), .int .u64 (y : Nat)] w fun e w' => e = .returned (.int .u64 (binN 11 a x y : Nat)) ∧ Below w.heap.size w w' := by
  have C1 := fun w => func2_any 8 false w
  rw [show f2N 8 false = 11 by decide] at C1
  have C2 := fun w => rbinary_any 11 a x y (by decide) (by decide) h1 h2 hx hy w
  generalize binN 11 a x y = R at C2 ⊢
  go_enter Try.func43, Try.ntmps43
  go_wp2_with fail
  refine (C1 _).mono ?_
  rintro e w1 ⟨rfl, hb1⟩
  have hz : w.heap.size < w1.heap.size := by have := hb1.size; simp at this; omega
  have B1 := ((Below.refl w.heap.size w).alloc (Nat.le_refl _) _).trans (hb1.mono (by simp))
  obtain ⟨hcc, hff⟩ := obcell hb1
  clear hb1
  go_wp2_with fail
  refine (C2 _).mono ?_
  rintro e w2 ⟨rfl, hb2⟩
  have B2 := B1.trans (hb2.mono B1.size)
  clear hb2
  go_wp2_with fail
  go_ret
  exact ⟨rfl, B2⟩
theorem rapp_8_1 (a : Int) (x y : Nat) (hx : x < 18446744073709551616) (hy : y < 18446744073709551616) (h1 : 1 ≤ a) (h2 : a ≤ 64) (w : World) :
    Calls Try.prog 43 #[.int .i64 8, .agg #[.int .i64 a, .bool true], .int .u64 (x : Nat), .int .u64 (y : Nat)] w fun e w' => e = .returned (.int .u64 (binN 11 a x y : Nat)) ∧ Below w.heap.size w w' := by
  have C1 := fun w => func2_any 8 true w
  rw [show f2N 8 true = 11 by decide] at C1
  have C2 := fun w => rbinary_any 11 a x y (by decide) (by decide) h1 h2 hx hy w
  generalize binN 11 a x y = R at C2 ⊢
  go_enter Try.func43, Try.ntmps43
  go_wp2_with fail
  refine (C1 _).mono ?_
  rintro e w1 ⟨rfl, hb1⟩
  have hz : w.heap.size < w1.heap.size := by have := hb1.size; simp at this; omega
  have B1 := ((Below.refl w.heap.size w).alloc (Nat.le_refl _) _).trans (hb1.mono (by simp))
  obtain ⟨hcc, hff⟩ := obcell hb1
  clear hb1
  go_wp2_with fail
  refine (C2 _).mono ?_
  rintro e w2 ⟨rfl, hb2⟩
  have B2 := B1.trans (hb2.mono B1.size)
  clear hb2
  go_wp2_with fail
  go_ret
  exact ⟨rfl, B2⟩
theorem rapp_9_0 (a : Int) (x y : Nat) (hx : x < 18446744073709551616) (hy : y < 18446744073709551616) (h1 : 1 ≤ a) (h2 : a ≤ 64) (w : World) :
    Calls Try.prog 43 #[.int .i64 9, .agg #[.int .i64 a, .bool false], .int .u64 (x : Nat), .int .u64 (y : Nat)] w fun e w' => e = .returned (.int .u64 (binN 12 a x y : Nat)) ∧ Below w.heap.size w w' := by
  have C1 := fun w => func2_any 9 false w
  rw [show f2N 9 false = 12 by decide] at C1
  have C2 := fun w => rbinary_any 12 a x y (by decide) (by decide) h1 h2 hx hy w
  generalize binN 12 a x y = R at C2 ⊢
  go_enter Try.func43, Try.ntmps43
  go_wp2_with fail
  refine (C1 _).mono ?_
  rintro e w1 ⟨rfl, hb1⟩
  have hz : w.heap.size < w1.heap.size := by have := hb1.size; simp at this; omega
  have B1 := ((Below.refl w.heap.size w).alloc (Nat.le_refl _) _).trans (hb1.mono (by simp))
  obtain ⟨hcc, hff⟩ := obcell hb1
  clear hb1
  go_wp2_with fail
  refine (C2 _).mono ?_
  rintro e w2 ⟨rfl, hb2⟩
  have B2 := B1.trans (hb2.mono B1.size)
  clear hb2
  go_wp2_with fail
  go_ret
  exact ⟨rfl, B2⟩
theorem rapp_9_1 (a : Int) (x y : Nat) (hx : x < 18446744073709551616) (hy : y < 18446744073709551616) (h1 : 1 ≤ a) (h2 : a ≤ 64) (w : World) :
    Calls Try.prog 43 #[.int .i64 9, .agg #[.int .i64 a, .bool true], .int .u64 (x : Nat), .int .u64 (y : Nat)] w fun e w' => e = .returned (.int .u64 (binN 12 a x y : Nat)) ∧ Below w.heap.size w w' := by
  have C1 := fun w => func2_any 9 true w
  rw [show f2N 9 true = 12 by decide] at C1
  have C2 := fun w => rbinary_any 12 a x y (by decide) (by decide) h1 h2 hx hy w
  generalize binN 12 a x y = R at C2 ⊢
  go_enter Try.func43, Try.ntmps43
  go_wp2_with fail
  refine (C1 _).mono ?_
  rintro e w1 ⟨rfl, hb1⟩
  have hz : w.heap.size < w1.heap.size := by have := hb1.size; simp at this; omega
  have B1 := ((Below.refl w.heap.size w).alloc (Nat.le_refl _) _).trans (hb1.mono (by simp))
  obtain ⟨hcc, hff⟩ := obcell hb1
  clear hb1
  go_wp2_with fail
  refine (C2 _).mono ?_
  rintro e w2 ⟨rfl, hb2⟩
  have B2 := B1.trans (hb2.mono B1.size)
  clear hb2
  go_wp2_with fail
  go_ret
  exact ⟨rfl, B2⟩
theorem rapp_10_0 (a : Int) (x y : Nat) (hx : x < 18446744073709551616) (hy : y < 18446744073709551616) (h1 : 1 ≤ a) (h2 : a ≤ 64) (w : World) :
    Calls Try.prog 43 #[.int .i64 10, .agg #[.int .i64 a, .bool false], .int .u64 (x : Nat), .int .u64 (y : Nat)] w fun e w' => e = .returned (.int .u64 (binN 13 a x y : Nat)) ∧ Below w.heap.size w w' := by
  have C1 := fun w => func2_any 10 false w
  rw [show f2N 10 false = 13 by decide] at C1
  have C2 := fun w => rbinary_any 13 a x y (by decide) (by decide) h1 h2 hx hy w
  generalize binN 13 a x y = R at C2 ⊢
  go_enter Try.func43, Try.ntmps43
  go_wp2_with fail
  refine (C1 _).mono ?_
  rintro e w1 ⟨rfl, hb1⟩
  have hz : w.heap.size < w1.heap.size := by have := hb1.size; simp at this; omega
  have B1 := ((Below.refl w.heap.size w).alloc (Nat.le_refl _) _).trans (hb1.mono (by simp))
  obtain ⟨hcc, hff⟩ := obcell hb1
  clear hb1
  go_wp2_with fail
  refine (C2 _).mono ?_
  rintro e w2 ⟨rfl, hb2⟩
  have B2 := B1.trans (hb2.mono B1.size)
  clear hb2
  go_wp2_with fail
  go_ret
  exact ⟨rfl, B2⟩
theorem rapp_10_1 (a : Int) (x y : Nat) (hx : x < 18446744073709551616) (hy : y < 18446744073709551616) (h1 : 1 ≤ a) (h2 : a ≤ 64) (w : World) :
    Calls Try.prog 43 #[.int .i64 10, .agg #[.int .i64 a, .bool true], .int .u64 (x : Nat), .int .u64 (y : Nat)] w fun e w' => e = .returned (.int .u64 (binN 14 a x y : Nat)) ∧ Below w.heap.size w w' := by
  have C1 := fun w => func2_any 10 true w
  rw [show f2N 10 true = 14 by decide] at C1
  have C2 := fun w => rbinary_any 14 a x y (by decide) (by decide) h1 h2 hx hy w
  generalize binN 14 a x y = R at C2 ⊢
  go_enter Try.func43, Try.ntmps43
  go_wp2_with fail
  refine (C1 _).mono ?_
  rintro e w1 ⟨rfl, hb1⟩
  have hz : w.heap.size < w1.heap.size := by have := hb1.size; simp at this; omega
  have B1 := ((Below.refl w.heap.size w).alloc (Nat.le_refl _) _).trans (hb1.mono (by simp))
  obtain ⟨hcc, hff⟩ := obcell hb1
  clear hb1
  go_wp2_with fail
  refine (C2 _).mono ?_
  rintro e w2 ⟨rfl, hb2⟩
  have B2 := B1.trans (hb2.mono B1.size)
  clear hb2
  go_wp2_with fail
  go_ret
  exact ⟨rfl, B2⟩
theorem rapp_11_0 (a : Int) (x y : Nat) (hx : x < 18446744073709551616) (hy : y < 18446744073709551616) (h1 : 1 ≤ a) (h2 : a ≤ 64) (w : World) :
    Calls Try.prog 43 #[.int .i64 11, .agg #[.int .i64 a, .bool false], .int .u64 (x : Nat), .int .u64 (y : Nat)] w fun e w' => e = .returned (.int .u64 (binN 15 a x y : Nat)) ∧ Below w.heap.size w w' := by
  have C1 := fun w => func2_any 11 false w
  rw [show f2N 11 false = 15 by decide] at C1
  have C2 := fun w => rbinary_any 15 a x y (by decide) (by decide) h1 h2 hx hy w
  generalize binN 15 a x y = R at C2 ⊢
  go_enter Try.func43, Try.ntmps43
  go_wp2_with fail
  refine (C1 _).mono ?_
  rintro e w1 ⟨rfl, hb1⟩
  have hz : w.heap.size < w1.heap.size := by have := hb1.size; simp at this; omega
  have B1 := ((Below.refl w.heap.size w).alloc (Nat.le_refl _) _).trans (hb1.mono (by simp))
  obtain ⟨hcc, hff⟩ := obcell hb1
  clear hb1
  go_wp2_with fail
  refine (C2 _).mono ?_
  rintro e w2 ⟨rfl, hb2⟩
  have B2 := B1.trans (hb2.mono B1.size)
  clear hb2
  go_wp2_with fail
  go_ret
  exact ⟨rfl, B2⟩
theorem rapp_11_1 (a : Int) (x y : Nat) (hx : x < 18446744073709551616) (hy : y < 18446744073709551616) (h1 : 1 ≤ a) (h2 : a ≤ 64) (w : World) :
    Calls Try.prog 43 #[.int .i64 11, .agg #[.int .i64 a, .bool true], .int .u64 (x : Nat), .int .u64 (y : Nat)] w fun e w' => e = .returned (.int .u64 (binN 15 a x y : Nat)) ∧ Below w.heap.size w w' := by
  have C1 := fun w => func2_any 11 true w
  rw [show f2N 11 true = 15 by decide] at C1
  have C2 := fun w => rbinary_any 15 a x y (by decide) (by decide) h1 h2 hx hy w
  generalize binN 15 a x y = R at C2 ⊢
  go_enter Try.func43, Try.ntmps43
  go_wp2_with fail
  refine (C1 _).mono ?_
  rintro e w1 ⟨rfl, hb1⟩
  have hz : w.heap.size < w1.heap.size := by have := hb1.size; simp at this; omega
  have B1 := ((Below.refl w.heap.size w).alloc (Nat.le_refl _) _).trans (hb1.mono (by simp))
  obtain ⟨hcc, hff⟩ := obcell hb1
  clear hb1
  go_wp2_with fail
  refine (C2 _).mono ?_
  rintro e w2 ⟨rfl, hb2⟩
  have B2 := B1.trans (hb2.mono B1.size)
  clear hb2
  go_wp2_with fail
  go_ret
  exact ⟨rfl, B2⟩
theorem rapp_12_0 (a : Int) (x y : Nat) (hx : x < 18446744073709551616) (hy : y < 18446744073709551616) (h1 : 1 ≤ a) (h2 : a ≤ 64) (w : World) :
    Calls Try.prog 43 #[.int .i64 12, .agg #[.int .i64 a, .bool false], .int .u64 (x : Nat), .int .u64 (y : Nat)] w fun e w' => e = .returned (.int .u64 (binN 16 a x y : Nat)) ∧ Below w.heap.size w w' := by
  have C1 := fun w => func2_any 12 false w
  rw [show f2N 12 false = 16 by decide] at C1
  have C2 := fun w => rbinary_any 16 a x y (by decide) (by decide) h1 h2 hx hy w
  generalize binN 16 a x y = R at C2 ⊢
  go_enter Try.func43, Try.ntmps43
  go_wp2_with fail
  refine (C1 _).mono ?_
  rintro e w1 ⟨rfl, hb1⟩
  have hz : w.heap.size < w1.heap.size := by have := hb1.size; simp at this; omega
  have B1 := ((Below.refl w.heap.size w).alloc (Nat.le_refl _) _).trans (hb1.mono (by simp))
  obtain ⟨hcc, hff⟩ := obcell hb1
  clear hb1
  go_wp2_with fail
  refine (C2 _).mono ?_
  rintro e w2 ⟨rfl, hb2⟩
  have B2 := B1.trans (hb2.mono B1.size)
  clear hb2
  go_wp2_with fail
  go_ret
  exact ⟨rfl, B2⟩
theorem rapp_12_1 (a : Int) (x y : Nat) (hx : x < 18446744073709551616) (hy : y < 18446744073709551616) (h1 : 1 ≤ a) (h2 : a ≤ 64) (w : World) :
    Calls Try.prog 43 #[.int .i64 12, .agg #[.int .i64 a, .bool true], .int .u64 (x : Nat), .int .u64 (y : Nat)] w fun e w' => e = .returned (.int .u64 (binN 16 a x y : Nat)) ∧ Below w.heap.size w w' := by
  have C1 := fun w => func2_any 12 true w
  rw [show f2N 12 true = 16 by decide] at C1
  have C2 := fun w => rbinary_any 16 a x y (by decide) (by decide) h1 h2 hx hy w
  generalize binN 16 a x y = R at C2 ⊢
  go_enter Try.func43, Try.ntmps43
  go_wp2_with fail
  refine (C1 _).mono ?_
  rintro e w1 ⟨rfl, hb1⟩
  have hz : w.heap.size < w1.heap.size := by have := hb1.size; simp at this; omega
  have B1 := ((Below.refl w.heap.size w).alloc (Nat.le_refl _) _).trans (hb1.mono (by simp))
  obtain ⟨hcc, hff⟩ := obcell hb1
  clear hb1
  go_wp2_with fail
  refine (C2 _).mono ?_
  rintro e w2 ⟨rfl, hb2⟩
  have B2 := B1.trans (hb2.mono B1.size)
  clear hb2
  go_wp2_with fail
  go_ret
  exact ⟨rfl, B2⟩
theorem rapp_13_0 (a : Int) (x y : Nat) (hx : x < 18446744073709551616) (hy : y < 18446744073709551616) (h1 : 1 ≤ a) (h2 : a ≤ 64) (w : World) :
    Calls Try.prog 43 #[.int .i64 13, .agg #[.int .i64 a, .bool false], .int .u64 (x : Nat), .int .u64 (y : Nat)] w fun e w' => e = .returned (.int .u64 (binN 17 a x y : Nat)) ∧ Below w.heap.size w w' := by
  have C1 := fun w => func2_any 13 false w
  rw [show f2N 13 false = 17 by decide] at C1
  have C2 := fun w => rbinary_any 17 a x y (by decide) (by decide) h1 h2 hx hy w
  generalize binN 17 a x y = R at C2 ⊢
  go_enter Try.func43, Try.ntmps43
  go_wp2_with fail
  refine (C1 _).mono ?_
  rintro e w1 ⟨rfl, hb1⟩
  have hz : w.heap.size < w1.heap.size := by have := hb1.size; simp at this; omega
  have B1 := ((Below.refl w.heap.size w).alloc (Nat.le_refl _) _).trans (hb1.mono (by simp))
  obtain ⟨hcc, hff⟩ := obcell hb1
  clear hb1
  go_wp2_with fail
  refine (C2 _).mono ?_
  rintro e w2 ⟨rfl, hb2⟩
  have B2 := B1.trans (hb2.mono B1.size)
  clear hb2
  go_wp2_with fail
  go_ret
  exact ⟨rfl, B2⟩
theorem rapp_13_1 (a : Int) (x y : Nat) (hx : x < 18446744073709551616) (hy : y < 18446744073709551616) (h1 : 1 ≤ a) (h2 : a ≤ 64) (w : World) :
    Calls Try.prog 43 #[.int .i64 13, .agg #[.int .i64 a, .bool true], .int .u64 (x : Nat), .int .u64 (y : Nat)] w fun e w' => e = .returned (.int .u64 (binN 19 a x y : Nat)) ∧ Below w.heap.size w w' := by
  have C1 := fun w => func2_any 13 true w
  rw [show f2N 13 true = 19 by decide] at C1
  have C2 := fun w => rbinary_any 19 a x y (by decide) (by decide) h1 h2 hx hy w
  generalize binN 19 a x y = R at C2 ⊢
  go_enter Try.func43, Try.ntmps43
  go_wp2_with fail
  refine (C1 _).mono ?_
  rintro e w1 ⟨rfl, hb1⟩
  have hz : w.heap.size < w1.heap.size := by have := hb1.size; simp at this; omega
  have B1 := ((Below.refl w.heap.size w).alloc (Nat.le_refl _) _).trans (hb1.mono (by simp))
  obtain ⟨hcc, hff⟩ := obcell hb1
  clear hb1
  go_wp2_with fail
  refine (C2 _).mono ?_
  rintro e w2 ⟨rfl, hb2⟩
  have B2 := B1.trans (hb2.mono B1.size)
  clear hb2
  go_wp2_with fail
  go_ret
  exact ⟨rfl, B2⟩
theorem rapp_14_0 (a : Int) (x y : Nat) (hx : x < 18446744073709551616) (hy : y < 18446744073709551616) (h1 : 1 ≤ a) (h2 : a ≤ 64) (w : World) :
    Calls Try.prog 43 #[.int .i64 14, .agg #[.int .i64 a, .bool false], .int .u64 (x : Nat), .int .u64 (y : Nat)] w fun e w' => e = .returned (.int .u64 (binN 18 a x y : Nat)) ∧ Below w.heap.size w w' := by
  have C1 := fun w => func2_any 14 false w
  rw [show f2N 14 false = 18 by decide] at C1
  have C2 := fun w => rbinary_any 18 a x y (by decide) (by decide) h1 h2 hx hy w
  generalize binN 18 a x y = R at C2 ⊢
  go_enter Try.func43, Try.ntmps43
  go_wp2_with fail
  refine (C1 _).mono ?_
  rintro e w1 ⟨rfl, hb1⟩
  have hz : w.heap.size < w1.heap.size := by have := hb1.size; simp at this; omega
  have B1 := ((Below.refl w.heap.size w).alloc (Nat.le_refl _) _).trans (hb1.mono (by simp))
  obtain ⟨hcc, hff⟩ := obcell hb1
  clear hb1
  go_wp2_with fail
  refine (C2 _).mono ?_
  rintro e w2 ⟨rfl, hb2⟩
  have B2 := B1.trans (hb2.mono B1.size)
  clear hb2
  go_wp2_with fail
  go_ret
  exact ⟨rfl, B2⟩
theorem rapp_14_1 (a : Int) (x y : Nat) (hx : x < 18446744073709551616) (hy : y < 18446744073709551616) (h1 : 1 ≤ a) (h2 : a ≤ 64) (w : World) :
    Calls Try.prog 43 #[.int .i64 14, .agg #[.int .i64 a, .bool true], .int .u64 (x : Nat), .int .u64 (y : Nat)] w fun e w' => e = .returned (.int .u64 (binN 20 a x y : Nat)) ∧ Below w.heap.size w w' := by
  have C1 := fun w => func2_any 14 true w
  rw [show f2N 14 true = 20 by decide] at C1
  have C2 := fun w => rbinary_any 20 a x y (by decide) (by decide) h1 h2 hx hy w
  generalize binN 20 a x y = R at C2 ⊢
  go_enter Try.func43, Try.ntmps43
  go_wp2_with fail
  refine (C1 _).mono ?_
  rintro e w1 ⟨rfl, hb1⟩
  have hz : w.heap.size < w1.heap.size := by have := hb1.size; simp at this; omega
  have B1 := ((Below.refl w.heap.size w).alloc (Nat.le_refl _) _).trans (hb1.mono (by simp))
  obtain ⟨hcc, hff⟩ := obcell hb1
  clear hb1
  go_wp2_with fail
  refine (C2 _).mono ?_
  rintro e w2 ⟨rfl, hb2⟩
  have B2 := B1.trans (hb2.mono B1.size)
  clear hb2
  go_wp2_with fail
  go_ret
  exact ⟨rfl, B2⟩
theorem rapp_15_0 (a : Int) (x y : Nat) (hx : x < 18446744073709551616) (hy : y < 18446744073709551616) (h1 : 1 ≤ a) (h2 : a ≤ 64) (w : World) :
    Calls Try.prog 43 #[.int .i64 15, .agg #[.int .i64 a, .bool false], .int .u64 (x : Nat), .int .u64 (y : Nat)] w fun e w' => e = .returned (.int .u64 (binN 17 a y x : Nat)) ∧ Below w.heap.size w w' := by
  have C1 := fun w => func2_any 15 false w
  rw [show f2N 15 false = 17 by decide] at C1
  have C2 := fun w => rbinary_any 17 a y x (by decide) (by decide) h1 h2 hy hx w
  generalize binN 17 a y x = R at C2 ⊢
  go_enter Try.func43, Try.ntmps43
  go_wp2_with fail
  refine (C1 _).mono ?_
  rintro e w1 ⟨rfl, hb1⟩
  have hz : w.heap.size < w1.heap.size := by have := hb1.size; simp at this; omega
  have B1 := ((Below.refl w.heap.size w).alloc (Nat.le_refl _) _).trans (hb1.mono (by simp))
  obtain ⟨hcc, hff⟩ := obcell hb1
  clear hb1
  go_wp2_with fail
  refine (C2 _).mono ?_
  rintro e w2 ⟨rfl, hb2⟩
  have B2 := B1.trans (hb2.mono B1.size)
  clear hb2
  go_wp2_with fail
  go_ret
  exact ⟨rfl, B2⟩
theorem rapp_15_1 (a : Int) (x y : Nat) (hx : x < 18446744073709551616) (hy : y < 18446744073709551616) (h1 : 1 ≤ a) (h2 : a ≤ 64) (w : World) :
    Calls Try.prog 43 #[.int .i64 15, .agg #[.int .i64 a, .bool true], .int .u64 (x : Nat), .int .u64 (y : Nat)] w fun e w' => e = .returned (.int .u64 (binN 19 a y x : Nat)) ∧ Below w.heap.size w w' := by
  have C1 := fun w => func2_any 15 true w
  rw [show f2N 15 true = 19 by decide] at C1
  have C2 := fun w => rbinary_any 19 a y x (by decide) (by decide) h1 h2 hy hx w
  generalize binN 19 a y x = R at C2 ⊢
  go_enter Try.func43, Try.ntmps43
  go_wp2_with fail
  refine (C1 _).mono ?_
  rintro e w1 ⟨rfl, hb1⟩
  have hz : w.heap.size < w1.heap.size := by have := hb1.size; simp at this; omega
  have B1 := ((Below.refl w.heap.size w).alloc (Nat.le_refl _) _).trans (hb1.mono (by simp))
  obtain ⟨hcc, hff⟩ := obcell hb1
  clear hb1
  go_wp2_with fail
  refine (C2 _).mono ?_
  rintro e w2 ⟨rfl, hb2⟩
  have B2 := B1.trans (hb2.mono B1.size)
  clear hb2
  go_wp2_with fail
  go_ret
  exact ⟨rfl, B2⟩
theorem rapp_16_0 (a : Int) (x y : Nat) (hx : x < 18446744073709551616) (hy : y < 18446744073709551616) (h1 : 1 ≤ a) (h2 : a ≤ 64) (w : World) :
    Calls Try.prog 43 #[.int .i64 16, .agg #[.int .i64 a, .bool false], .int .u64 (x : Nat), .int .u64 (y : Nat)] w fun e w' => e = .returned (.int .u64 (binN 18 a y x : Nat)) ∧ Below w.heap.size w w' := by
  have C1 := fun w => func2_any 16 false w
  rw [show f2N 16 false = 18 by decide] at C1
  have C2 := fun w => rbinary_any 18 a y x (by decide) (by decide) h1 h2 hy hx w
  generalize binN 18 a y x = R at C2 ⊢
  go_enter Try.func43, Try.ntmps43
  go_wp2_with fail
  refine (C1 _).mono ?_
  rintro e w1 ⟨rfl, hb1⟩
  have hz : w.heap.size < w1.heap.size := by have := hb1.size; simp at this; omega
  have B1 := ((Below.refl w.heap.size w).alloc (Nat.le_refl _) _).trans (hb1.mono (by simp))
  obtain ⟨hcc, hff⟩ := obcell hb1
  clear hb1
  go_wp2_with fail
  refine (C2 _).mono ?_
  rintro e w2 ⟨rfl, hb2⟩
  have B2 := B1.trans (hb2.mono B1.size)
  clear hb2
  go_wp2_with fail
  go_ret
  exact ⟨rfl, B2⟩
theorem rapp_16_1 (a : Int) (x y : Nat) (hx : x < 18446744073709551616) (hy : y < 18446744073709551616) (h1 : 1 ≤ a) (h2 : a ≤ 64) (w : World) :
    Calls Try.prog 43 #[.int .i64 16, .agg #[.int .i64 a, .bool true], .int .u64 (x : Nat), .int .u64 (y : Nat)] w fun e w' => e = .returned (.int .u64 (binN 20 a y x : Nat)) ∧ Below w.heap.size w w' := by
  have C1 := fun w => func2_any 16 true w
  rw [show f2N 16 true = 20 by decide] at C1
  have C2 := fun w => rbinary_any 20 a y x (by decide) (by decide) h1 h2 hy hx w
  generalize binN 20 a y x = R at C2 ⊢
  go_enter Try.func43, Try.ntmps43
  go_wp2_with fail
  refine (C1 _).mono ?_
  rintro e w1 ⟨rfl, hb1⟩
  have hz : w.heap.size < w1.heap.size := by have := hb1.size; simp at this; omega
  have B1 := ((Below.refl w.heap.size w).alloc (Nat.le_refl _) _).trans (hb1.mono (by simp))
  obtain ⟨hcc, hff⟩ := obcell hb1
  clear hb1
  go_wp2_with fail
  refine (C2 _).mono ?_
  rintro e w2 ⟨rfl, hb2⟩
  have B2 := B1.trans (hb2.mono B1.size)
  clear hb2
  go_wp2_with fail
  go_ret
  exact ⟨rfl, B2⟩
theorem rapp_17_0 (a : Int) (x y : Nat) (hx : x < 18446744073709551616) (hy : y < 18446744073709551616) (h1 : 1 ≤ a) (h2 : a ≤ 64) (w : World) :
    Calls Try.prog 43 #[.int .i64 17, .agg #[.int .i64 a, .bool false], .int .u64 (x : Nat), .int .u64 (y : Nat)] w fun e w' => e = .returned (.int .u64 (binN 9 1 x y : Nat)) ∧ Below w.heap.size w w' := by
  have C1 := fun w => func2_any 17 false w
  rw [show f2N 17 false = 9 by decide] at C1
  have C2 := fun w => rbinary_any 9 1 x y (by decide) (by decide) (by decide) (by decide) hx hy w
  generalize binN 9 1 x y = R at C2 ⊢
  go_enter Try.func43, Try.ntmps43
  go_wp2_with fail
  refine (C1 _).mono ?_
  rintro e w1 ⟨rfl, hb1⟩
  have hz : w.heap.size < w1.heap.size := by have := hb1.size; simp at this; omega
  have B1 := ((Below.refl w.heap.size w).alloc (Nat.le_refl _) _).trans (hb1.mono (by simp))
  obtain ⟨hcc, hff⟩ := obcell hb1
  clear hb1
  go_wp2_with fail
  refine (C2 _).mono ?_
  rintro e w2 ⟨rfl, hb2⟩
  have B2 := B1.trans (hb2.mono B1.size)
  clear hb2
  go_wp2_with fail
  go_ret
  exact ⟨rfl, B2⟩
theorem rapp_17_1 (a : Int) (x y : Nat) (hx : x < 18446744073709551616) (hy : y < 18446744073709551616) (h1 : 1 ≤ a) (h2 : a ≤ 64) (w : World) :
    Calls Try.prog 43 #[.int .i64 17, .agg #[.int .i64 a, .bool true], .int .u64 (x : Nat), .int .u64 (y : Nat)] w fun e w' => e = .returned (.int .u64 (binN 9 1 x y : Nat)) ∧ Below w.heap.size w w' := by
  have C1 := fun w => func2_any 17 true w
  rw [show f2N 17 true = 9 by decide] at C1
  have C2 := fun w => rbinary_any 9 1 x y (by decide) (by decide) (by decide) (by decide) hx hy w
  generalize binN 9 1 x y = R at C2 ⊢
  go_enter Try.func43, Try.ntmps43
  go_wp2_with fail
  refine (C1 _).mono ?_
  rintro e w1 ⟨rfl, hb1⟩
  have hz : w.heap.size < w1.heap.size := by have := hb1.size; simp at this; omega
  have B1 := ((Below.refl w.heap.size w).alloc (Nat.le_refl _) _).trans (hb1.mono (by simp))
  obtain ⟨hcc, hff⟩ := obcell hb1
  clear hb1
  go_wp2_with fail
  refine (C2 _).mono ?_
  rintro e w2 ⟨rfl, hb2⟩
  have B2 := B1.trans (hb2.mono B1.size)
  clear hb2
  go_wp2_with fail
  go_ret
  exact ⟨rfl, B2⟩
theorem rapp_18_0 (a : Int) (x y : Nat) (hx : x < 18446744073709551616) (hy : y < 18446744073709551616) (h1 : 1 ≤ a) (h2 : a ≤ 64) (w : World) :
    Calls Try.prog 43 #[.int .i64 18, .agg #[.int .i64 a, .bool false], .int .u64 (x : Nat), .int .u64 (y : Nat)] w fun e w' => e = .returned (.int .u64 (binN 10 1 x y : Nat)) ∧ Below w.heap.size w w' := by
  have C1 := fun w => func2_any 18 false w
  rw [show f2N 18 false = 10 by decide] at C1
  have C2 := fun w => rbinary_any 10 1 x y (by decide) (by decide) (by decide) (by decide) hx hy w
  generalize binN 10 1 x y = R at C2 ⊢
  go_enter Try.func43, Try.ntmps43
  go_wp2_with fail
  refine (C1 _).mono ?_
  rintro e w1 ⟨rfl, hb1⟩
  have hz : w.heap.size < w1.heap.size := by have := hb1.size; simp at this; omega
  have B1 := ((Below.refl w.heap.size w).alloc (Nat.le_refl _) _).trans (hb1.mono (by simp))
  obtain ⟨hcc, hff⟩ := obcell hb1
  clear hb1
  go_wp2_with fail
  refine (C2 _).mono ?_
  rintro e w2 ⟨rfl, hb2⟩
  have B2 := B1.trans (hb2.mono B1.size)
  clear hb2
  go_wp2_with fail
  go_ret
  exact ⟨rfl, B2⟩
theorem rapp_18_1 (a : Int) (x y : Nat) (hx : x < 18446744073709551616) (hy : y < 18446744073709551616) (h1 : 1 ≤ a) (h2 : a ≤ 64) (w : World) :
    Calls Try.prog 43 #[.int .i64 18, .agg #[.int .i64 a, .bool true], .int .u64 (x : Nat), .int .u64 (y : Nat)] w fun e w' => e = .returned (.int .u64 (binN 10 1 x y : Nat)) ∧ Below w.heap.size w w' := by
  have C1 := fun w => func2_any 18 true w
  rw [show f2N 18 true = 10 by decide] at C1
  have C2 := fun w => rbinary_any 10 1 x y (by decide) (by decide) (by decide) (by decide) hx hy w
  generalize binN 10 1 x y = R at C2 ⊢
  go_enter Try.func43, Try.ntmps43
  go_wp2_with fail
  refine (C1 _).mono ?_
  rintro e w1 ⟨rfl, hb1⟩
  have hz : w.heap.size < w1.heap.size := by have := hb1.size; simp at this; omega
  have B1 := ((Below.refl w.heap.size w).alloc (Nat.le_refl _) _).trans (hb1.mono (by simp))
  obtain ⟨hcc, hff⟩ := obcell hb1
  clear hb1
  go_wp2_with fail
  refine (C2 _).mono ?_
  rintro e w2 ⟨rfl, hb2⟩
  have B2 := B1.trans (hb2.mono B1.size)
  clear hb2
  go_wp2_with fail
  go_ret
  exact ⟨rfl, B2⟩
theorem rapp_other (op a : Int) (s : Bool) (x y : Nat) (hx : x < 18446744073709551616) (hy : y < 18446744073709551616) (h1 : 1 ≤ a) (h2 : a ≤ 64) (h : ¬ (op = 1 ∨ op = 2 ∨ op = 3 ∨ op = 4 ∨ op = 5 ∨ op = 6 ∨ op = 7 ∨ op = 8 ∨ op = 9 ∨ op = 10 ∨ op = 11 ∨ op = 12 ∨ op = 13 ∨ op = 14 ∨ op = 15 ∨ op = 16 ∨ op = 17 ∨ op = 18)) (w : World) :
    Calls Try.prog 43 #[.int .i64 op, .agg #[.int .i64 a, .bool s], .int .u64 (x : Nat), .int .u64 (y : Nat)] w fun e w' => e = .returned (.int .u64 0) ∧ Below w.heap.size w w' := by
  have C1 := fun w => func2_any op s w
  rw [f2_other op s h] at C1
  simp only [not_or] at h
  obtain ⟨q1, q2, q3, q4, q5, q6, q7, q8, q9, q10, q11, q12, q13, q14, q15, q16, q17, q18⟩ := h
  go_enter Try.func43, Try.ntmps43
  go_wp2_with fail
  refine (C1 _).mono ?_
  rintro e w1 ⟨rfl, hb1⟩
  have hz : w.heap.size < w1.heap.size := by have := hb1.size; simp at this; omega
  have B1 := ((Below.refl w.heap.size w).alloc (Nat.le_refl _) _).trans (hb1.mono (by simp))
  obtain ⟨hcc, hff⟩ := obcell hb1
  clear hb1
  go_wp2_with fail
  go_ret
  exact ⟨rfl, B1⟩
theorem rapply_any (op a : Int) (s : Bool) (x y : Nat) (hx : x < 18446744073709551616) (hy : y < 18446744073709551616) (w : World) :
    Calls Try.prog 43 #[.int .i64 op, .agg #[.int .i64 a, .bool s], .int .u64 (x : Nat), .int .u64 (y : Nat)] w fun e w' => e = .returned (.int .u64 (appN op a s x y : Nat)) ∧ Below w.heap.size w w' := by
  by_cases g : 1 ≤ a ∧ a ≤ 64
  · by_cases h : op = 1 ∨ op = 2 ∨ op = 3 ∨ op = 4 ∨ op = 5 ∨ op = 6 ∨ op = 7 ∨ op = 8 ∨ op = 9 ∨ op = 10 ∨ op = 11 ∨ op = 12 ∨ op = 13 ∨ op = 14 ∨ op = 15 ∨ op = 16 ∨ op = 17 ∨ op = 18
    · rcases h with rfl | rfl | rfl | rfl | rfl | rfl | rfl | rfl | rfl | rfl | rfl | rfl | rfl | rfl | rfl | rfl | rfl | rfl
      · cases s
        · exact rapp_1_0 a x y hx hy g.1 g.2 w
        · exact rapp_1_1 a x y hx hy g.1 g.2 w
      · cases s
        · exact rapp_2_0 a x y hx hy g.1 g.2 w
        · exact rapp_2_1 a x y hx hy g.1 g.2 w
      · cases s
        · exact rapp_3_0 a x y hx hy g.1 g.2 w
        · exact rapp_3_1 a x y hx hy g.1 g.2 w
      · cases s
        · exact rapp_4_0 a x y hx hy g.1 g.2 w
        · exact rapp_4_1 a x y hx hy g.1 g.2 w
      · cases s
        · exact rapp_5_0 a x y hx hy g.1 g.2 w
        · exact rapp_5_1 a x y hx hy g.1 g.2 w
      · cases s
        · exact rapp_6_0 a x y hx hy g.1 g.2 w
        · exact rapp_6_1 a x y hx hy g.1 g.2 w
      · cases s
        · exact rapp_7_0 a x y hx hy g.1 g.2 w
        · exact rapp_7_1 a x y hx hy g.1 g.2 w
      · cases s
        · exact rapp_8_0 a x y hx hy g.1 g.2 w
        · exact rapp_8_1 a x y hx hy g.1 g.2 w
      · cases s
        · exact rapp_9_0 a x y hx hy g.1 g.2 w
        · exact rapp_9_1 a x y hx hy g.1 g.2 w
      · cases s
        · exact rapp_10_0 a x y hx hy g.1 g.2 w
        · exact rapp_10_1 a x y hx hy g.1 g.2 w
      · cases s
        · exact rapp_11_0 a x y hx hy g.1 g.2 w
        · exact rapp_11_1 a x y hx hy g.1 g.2 w
      · cases s
        · exact rapp_12_0 a x y hx hy g.1 g.2 w
        · exact rapp_12_1 a x y hx hy g.1 g.2 w
      · cases s
        · exact rapp_13_0 a x y hx hy g.1 g.2 w
        · exact rapp_13_1 a x y hx hy g.1 g.2 w
      · cases s
        · exact rapp_14_0 a x y hx hy g.1 g.2 w
        · exact rapp_14_1 a x y hx hy g.1 g.2 w
      · cases s
        · exact rapp_15_0 a x y hx hy g.1 g.2 w
        · exact rapp_15_1 a x y hx hy g.1 g.2 w
      · cases s
        · exact rapp_16_0 a x y hx hy g.1 g.2 w
        · exact rapp_16_1 a x y hx hy g.1 g.2 w
      · cases s
        · rw [show appN 17 a false x y = binN 9 1 x y by unfold appN; rw [if_neg (by decide), if_pos (by decide), if_pos g]; rfl]
          exact rapp_17_0 a x y hx hy g.1 g.2 w
        · rw [show appN 17 a true x y = binN 9 1 x y by unfold appN; rw [if_neg (by decide), if_pos (by decide), if_pos g]; rfl]
          exact rapp_17_1 a x y hx hy g.1 g.2 w
      · cases s
        · rw [show appN 18 a false x y = binN 10 1 x y by unfold appN; rw [if_neg (by decide), if_pos (by decide), if_pos g]; rfl]
          exact rapp_18_0 a x y hx hy g.1 g.2 w
        · rw [show appN 18 a true x y = binN 10 1 x y by unfold appN; rw [if_neg (by decide), if_pos (by decide), if_pos g]; rfl]
          exact rapp_18_1 a x y hx hy g.1 g.2 w
    · rw [show appN op a s x y = 0 by
        unfold appN; rw [if_neg (by omega), if_neg (by omega), f2_other op s h, bin_none]]
      exact rapp_other op a s x y hx hy g.1 g.2 h w
  · rw [app_bad _ _ _ _ _ g]; exact rapply_bad op a s x y g w
end Go.Proofs.Ythkdojgagmaecab
