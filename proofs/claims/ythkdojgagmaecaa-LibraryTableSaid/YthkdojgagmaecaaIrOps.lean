/- IrOperators: Arity and Pure are as specified, for every number. -/
import Derived.WalkKit
import Derived.ProofKit
import Derived.OpenShut
import Derived.Outline
import Derived.Lib.Hide
import Derived.Below
import Derived.Test.YthkdojgagmaecaaRows
namespace Go.Proofs.Ythkdojgagmaecaa
open Go.RowKit

def arI (op : Int) : Int :=
  if op = 1 then 0 else if op = 21 ∨ op = 26 then 3 else if op = 22 ∨ op = 23 ∨ op = 24 ∨ op = 27 then 1 else if op = 25 ∨ op = 28 then 2
  else if 2 ≤ op ∧ op ≤ 20 then 2 else -1
def isBinr (op : Int) : Bool := decide (2 ≤ op ∧ op ≤ 20)
def pureB (op : Int) : Bool := decide (1 ≤ op ∧ op ≤ 24)

theorem ar_cases (op : Int) : op = 1 ∨ op = 21 ∨ op = 22 ∨ op = 23 ∨ op = 24 ∨ op = 25 ∨ op = 26 ∨ op = 27 ∨ op = 28 ∨ (2 ≤ op ∧ op ≤ 20) ∨ op < 1 ∨ 28 < op := by omega

theorem isb_any (op : Int) (w : World) :
    Calls Try.prog 34 #[.int .i64 op] w fun e w' => e = .returned (.bool (isBinr op)) ∧ w = w' := by
  by_cases h : 2 ≤ op
  · have H := Lib.hid (show isBinr op = decide (op ≤ 20) by simp [isBinr, h])
    go_enter Try.func34, Try.ntmps34
    go_wp2_with fail
    go_ret
    exact ⟨by rw [H.out]; rfl, rfl⟩
  · have H := Lib.hid (show isBinr op = false by simp [isBinr]; omega)
    go_enter Try.func34, Try.ntmps34
    go_wp2_with fail
    go_ret
    exact ⟨by rw [H.out]; rfl, rfl⟩
theorem isb_ref (op : Int) (w : World) :
    Calls Try.prog 31 #[.int .i64 op] w fun e w' => e = .returned (.bool (isBinr op)) ∧ w = w' := by
  by_cases h : 2 ≤ op
  · have H := Lib.hid (show isBinr op = decide (op ≤ 20) by simp [isBinr, h])
    go_enter Try.func31, Try.ntmps31
    go_wp2_with fail
    go_ret
    exact ⟨by rw [H.out]; rfl, rfl⟩
  · have H := Lib.hid (show isBinr op = false by simp [isBinr]; omega)
    go_enter Try.func31, Try.ntmps31
    go_wp2_with fail
    go_ret
    exact ⟨by rw [H.out]; rfl, rfl⟩
theorem pure_any (op : Int) (w : World) :
    Calls Try.prog 18 #[.int .i64 op] w fun e w' => e = .returned (.bool (pureB op)) ∧ w = w' := by
  by_cases h : 1 ≤ op
  · have H := Lib.hid (show pureB op = decide (op ≤ 24) by simp [pureB, h])
    go_enter Try.func18, Try.ntmps18
    go_wp2_with fail
    go_ret
    exact ⟨by rw [H.out]; rfl, rfl⟩
  · have H := Lib.hid (show pureB op = false by simp [pureB]; omega)
    go_enter Try.func18, Try.ntmps18
    go_wp2_with fail
    go_ret
    exact ⟨by rw [H.out]; rfl, rfl⟩
theorem pure_ref (op : Int) (w : World) :
    Calls Try.prog 19 #[.int .i64 op] w fun e w' => e = .returned (.bool (pureB op)) ∧ w = w' := by
  by_cases h : 1 ≤ op
  · have H := Lib.hid (show pureB op = decide (op ≤ 24) by simp [pureB, h])
    go_enter Try.func19, Try.ntmps19
    go_wp2_with fail
    go_ret
    exact ⟨by rw [H.out]; rfl, rfl⟩
  · have H := Lib.hid (show pureB op = false by simp [pureB]; omega)
    go_enter Try.func19, Try.ntmps19
    go_wp2_with fail
    go_ret
    exact ⟨by rw [H.out]; rfl, rfl⟩

set_option maxHeartbeats 2000000 in
theorem arity_any (op : Int) (w : World) :
    Calls Try.prog 16 #[.int .i64 op] w fun e w' => e = .returned (.int .i64 (arI op)) ∧ w = w' := by
  rcases ar_cases op with rfl | rfl | rfl | rfl | rfl | rfl | rfl | rfl | rfl | ⟨h, h'⟩ | h | h
  case inr.inr.inr.inr.inr.inr.inr.inr.inr.inl =>
    have H := Lib.hid (show arI op = 2 by unfold arI; repeat' split
                                          all_goals omega)
    have hb : isBinr op = true := by simp [isBinr]; omega
    go_enter Try.func16, Try.ntmps16
    go_wp2_with fail
    refine (isb_any _ _).mono ?_
    rintro e w' ⟨rfl, rfl⟩
    go_wp2_with fail
    go_ret
    exact ⟨by rw [H.out]; rfl, rfl⟩
  case inr.inr.inr.inr.inr.inr.inr.inr.inr.inr.inl | inr.inr.inr.inr.inr.inr.inr.inr.inr.inr.inr =>
    have H := Lib.hid (show arI op = -1 by unfold arI; repeat' split
                                           all_goals omega)
    have hb : isBinr op = false := by simp [isBinr]; omega
    go_enter Try.func16, Try.ntmps16
    go_wp2_with fail
    refine (isb_any _ _).mono ?_
    rintro e w' ⟨rfl, rfl⟩
    go_wp2_with fail
    go_ret
    exact ⟨by rw [H.out]; rfl, rfl⟩
  all_goals
    go_enter Try.func16, Try.ntmps16
    go_wp2_with fail
    go_ret
    exact ⟨rfl, rfl⟩
set_option maxHeartbeats 2000000 in
theorem arity_ref (op : Int) (w : World) :
    Calls Try.prog 17 #[.int .i64 op] w fun e w' => e = .returned (.int .i64 (arI op)) ∧ w = w' := by
  have hb0 : (op = 21 ∨ op = 22 ∨ op = 23 ∨ op = 24 ∨ op = 25 ∨ op = 26 ∨ op = 27 ∨ op = 28) → isBinr op = false := by intro h; simp [isBinr]; omega
  rcases ar_cases op with rfl | rfl | rfl | rfl | rfl | rfl | rfl | rfl | rfl | ⟨h, h'⟩ | h | h
  case inr.inr.inr.inr.inr.inr.inr.inr.inr.inl =>
    have H := Lib.hid (show arI op = 2 by unfold arI; repeat' split
                                          all_goals omega)
    have hb : isBinr op = true := by simp [isBinr]; omega
    go_enter Try.func17, Try.ntmps17
    go_wp2_with fail
    refine (isb_ref _ _).mono ?_
    rintro e w' ⟨rfl, rfl⟩
    go_wp2_with fail
    go_ret
    exact ⟨by rw [H.out]; rfl, rfl⟩
  case inr.inr.inr.inr.inr.inr.inr.inr.inr.inr.inl | inr.inr.inr.inr.inr.inr.inr.inr.inr.inr.inr =>
    have H := Lib.hid (show arI op = -1 by unfold arI; repeat' split
                                           all_goals omega)
    have hb : isBinr op = false := by simp [isBinr]; omega
    go_enter Try.func17, Try.ntmps17
    go_wp2_with fail
    refine (isb_ref _ _).mono ?_
    rintro e w' ⟨rfl, rfl⟩
    go_wp2_with fail
    go_ret
    exact ⟨by rw [H.out]; rfl, rfl⟩
  case inl =>
    go_enter Try.func17, Try.ntmps17
    go_wp2_with fail
    go_ret
    exact ⟨rfl, rfl⟩
  all_goals
    have hb := hb0 (by decide)
    clear hb0
    go_enter Try.func17, Try.ntmps17
    go_wp2_with fail
    refine (isb_ref _ _).mono ?_
    rintro e w' ⟨rfl, rfl⟩
    go_wp2_with fail
    go_ret
    exact ⟨rfl, rfl⟩

theorem ir_awake (w : World) :
    Calls Try.prog 15 #[] w fun e w' => e = .returned (.bool true) ∧ w = w' := by
  have h1 : arI 21 = 3 := rfl
  have h2 : pureB 2 = true := rfl
  go_enter Try.func15, Try.ntmps15
  go_wp2_with fail
  refine (arity_any _ _).mono ?_
  rintro e w' ⟨rfl, rfl⟩
  go_wp2_with fail
  refine (pure_any _ _).mono ?_
  rintro e w' ⟨rfl, rfl⟩
  go_wp2_with fail
  go_ret
  exact ⟨by simp [h2], rfl⟩

theorem irops_walk (op : Int) (w : World) :
    Calls Try.prog 6 #[.int .i64 op] w fun e w' => e = .returned (.bool true) ∧ Below w.heap.size w w' := by
  go_enter Try.func6, Try.ntmps6
  go_wp2_with fail
  refine (ir_awake _).mono ?_
  rintro e w' ⟨rfl, rfl⟩
  go_wp2_with fail
  refine (arity_any _ _).mono ?_
  rintro e w' ⟨rfl, rfl⟩
  go_wp2_with fail
  refine (arity_ref _ _).mono ?_
  rintro e w' ⟨rfl, rfl⟩
  go_wp2_with fail
  refine (pure_any _ _).mono ?_
  rintro e w' ⟨rfl, rfl⟩
  go_wp2_with fail
  refine (pure_ref _ _).mono ?_
  rintro e w' ⟨rfl, rfl⟩
  go_wp2_with fail
  go_ret
  exact ⟨by simp, Below.refl _ _⟩
end Go.Proofs.Ythkdojgagmaecaa
