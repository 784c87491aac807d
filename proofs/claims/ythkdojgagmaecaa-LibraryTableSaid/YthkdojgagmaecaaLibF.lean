/- LibraryTable: each operator has the unit of the table at each width; others are refused. -/
import Derived.Test.YthkdojgagmaecaaLibD
import Derived.Test.YthkdojgagmaecaaIrOps
namespace Go.Proofs.Ythkdojgagmaecaa
open Go.RowKit

theorem pow_two_wrap (k : Nat) (hk : k < 62) : wrap64 (2 * (2 : Int) ^ k) = (2 : Int) ^ (k + 1) := by
  have h1 := pow_le61 k hk
  have e : (2 : Int) ^ (k + 1) = 2 * (2 : Int) ^ k := by rw [Int.pow_succ, Int.mul_comm]
  rw [e, powI]
  generalize 2 ^ k = p at *
  unfold wrap64; omega

theorem levels_ref (n : Int) (w : World) :
    Calls Try.prog 32 #[.int .i64 n] w fun e w' => e = .returned (.int .i64 (lev n : Nat)) ∧ w = w' := by
  go_enter Try.func32, Try.ntmps32
  go_wp2_with fail
  go_loop [3, 4] (fun i p => ∃ k : Nat, k ≤ 62 ∧ LevAt k n ∧ i = .int .i64 k ∧ p = .int .i64 ((2 : Int) ^ k)) (fun i _ => 62 - (intOf i).toNat)
  case atStart => exact ⟨0, by omega, rfl, rfl, rfl⟩
  case round =>
    obtain ⟨k, hk, hl, rfl, rfl⟩ := hrel
    by_cases h2 : (2 : Int) ^ k < n
    · by_cases h1 : k < 62
      · have Hl := Lib.hid (lev_go k n hl h1 h2)
        have Hw := Lib.hid (pow_two_wrap k h1)
        clear hl
        go_wp2_with fail
        go_round
        case rel => exact ⟨k + 1, by omega, Hl.out, by go_num, by rw [Hw.out]⟩
        case measure => simp [intOf]; omega
      · have h3 : k = 62 := by omega
        have Hl := Lib.hid (lev_stop k n hl (.inl h3))
        clear hl h3
        go_wp2_with fail
        go_ret
        exact ⟨by rw [Hl.out]; rfl, rfl⟩
    · have Hl := Lib.hid (lev_stop k n hl (.inr h2))
      clear hl
      go_wp2_with fail
      go_ret
      exact ⟨by rw [Hl.out]; rfl, rfl⟩

def hasB (op : Int) : Bool := decide (2 ≤ op ∧ op ≤ 24)
theorem has_any (op : Int) (w : World) :
    Calls Try.prog 12 #[.int .i64 op] w fun e w' => e = .returned (.bool (hasB op)) ∧ w = w' := by
  by_cases h : 2 ≤ op ∧ op ≤ 20
  · have hb : isBinr op = true := by simpa [isBinr] using h
    have H := Lib.hid (show hasB op = true by simp [hasB]; omega)
    clear h
    go_enter Try.func12, Try.ntmps12
    go_wp2_with fail
    refine (isb_ref _ _).mono ?_
    rintro e w' ⟨rfl, rfl⟩
    go_wp2_with fail
    go_ret
    exact ⟨by rw [H.out]; rfl, rfl⟩
  · have hb : isBinr op = false := by simp only [isBinr, decide_eq_false_iff_not]; exact h
    by_cases h2 : 21 ≤ op
    · have H := Lib.hid (show hasB op = decide (op ≤ 24) by simp only [hasB]; congr 1; simp; omega)
      clear h
      go_enter Try.func12, Try.ntmps12
      go_wp2_with fail
      refine (isb_ref _ _).mono ?_
      rintro e w' ⟨rfl, rfl⟩
      go_wp2_with fail
      go_ret
      exact ⟨by rw [H.out]; rfl, rfl⟩
    · have H := Lib.hid (show hasB op = false by simp only [hasB, decide_eq_false_iff_not]; omega)
      clear h
      go_enter Try.func12, Try.ntmps12
      go_wp2_with fail
      refine (isb_ref _ _).mono ?_
      rintro e w' ⟨rfl, rfl⟩
      go_wp2_with fail
      go_ret
      exact ⟨by rw [H.out]; rfl, rfl⟩
def rightB (a : Int) : Bool := decide (1 ≤ a ∧ a ≤ 64)
theorem right_any (a : Int) (w : World) :
    Calls Try.prog 13 #[.int .i64 a] w fun e w' => e = .returned (.bool (rightB a)) ∧ w = w' := by
  by_cases h : 1 ≤ a
  · have H := Lib.hid (show rightB a = decide (a ≤ 64) by simp [rightB, h])
    go_enter Try.func13, Try.ntmps13
    go_wp2_with fail
    go_ret
    exact ⟨by rw [H.out]; rfl, rfl⟩
  · have H := Lib.hid (show rightB a = false by simp [rightB]; omega)
    go_enter Try.func13, Try.ntmps13
    go_wp2_with fail
    go_ret
    exact ⟨by rw [H.out]; rfl, rfl⟩
theorem unit_any (a d r : Int) (w : World) :
    Calls Try.prog 33 #[.int .i64 a, .int .i64 d, .int .i64 r] w fun e w' => e = .returned (.agg #[.int .i64 0, .int .i64 a, .int .i64 d, .int .i64 0, .int .i64 0, .int .i64 r]) ∧ w.alloc (.cells #[.int .i64 0, .int .i64 a, .int .i64 d, .int .i64 0, .int .i64 0, .int .i64 r] 24) = w' := by
  go_enter Try.func33, Try.ntmps33
  go_wp2_with fail
  exact bodyPost_ret (v := .agg #[.int .i64 0, .int .i64 a, .int .i64 d, .int .i64 0, .int .i64 0, .int .i64 r]) (by simp [results, Try.results33, go_sem]) rfl ⟨rfl, rfl⟩

set_option maxRecDepth 100000 in
set_option maxHeartbeats 4000000 in
theorem refof_any (op a : Int) (w : World) (hop : 2 ≤ op) (hop' : op ≤ 24) (ha : 1 ≤ a) (hb : a ≤ 64) :
    Calls Try.prog 14 #[.int .i64 op, .int .i64 a] w fun e w' =>
      e = .returned (.agg #[.int .i64 (uC op), .int .i64 a, .int .i64 (uD op a), .int .i64 (uL op a), .int .i64 (uB op a), .int .i64 (uA op a)]) ∧ Below w.heap.size w w' := by
  have hl := lev_le a
  have hm := lev_le (a + 1)
  obtain ⟨p0, p1⟩ := prod_bd a (lev a) ha hb hl
  obtain ⟨q0, q1⟩ := prod_bd a (lev (a + 1)) ha hb hm
  obtain ⟨r0, r1⟩ := sq_bd a 6 ha hb (by omega) (by omega)
  obtain ⟨s0, s1⟩ := sq_bd a 8 ha hb (by omega) (by omega)
  have hc : op = 2 ∨ op = 3 ∨ op = 4 ∨ op = 5 ∨ op = 6 ∨ op = 7 ∨ op = 8 ∨ op = 9 ∨ op = 10 ∨ op = 11 ∨ op = 12 ∨ op = 13 ∨ op = 14 ∨ op = 15 ∨ op = 16 ∨ op = 17 ∨ op = 18 ∨ op = 19 ∨ op = 20 ∨ op = 21 ∨ op = 22 ∨ op = 23 ∨ op = 24 := by omega
  clear hop hop'
  rcases hc with rfl | rfl | rfl | rfl | rfl | rfl | rfl | rfl | rfl | rfl | rfl | rfl | rfl | rfl | rfl | rfl | rfl | rfl | rfl | rfl | rfl | rfl | rfl
  case inr.inr.inl | inr.inr.inr.inl | inr.inr.inr.inr.inl | inr.inr.inr.inr.inr.inl | inr.inr.inr.inr.inr.inr.inl =>
    go_enter Try.func14, Try.ntmps14
    go_wp2_with fail
    refine (levels_ref _ _).mono ?_
    rintro e w' ⟨rfl, rfl⟩
    go_wp2_with fail
    refine (levels_ref _ _).mono ?_
    rintro e w' ⟨rfl, rfl⟩
    go_wp2_with fail
    refine bodyPost_ret (v := .agg #[.int .i64 (uC _), .int .i64 a, .int .i64 (uD _ a), .int .i64 (uL _ a), .int .i64 (uB _ a), .int .i64 (uA _ a)]) (by simp [results, Try.results14, go_sem]; first | done | (exact ⟨rfl, rfl, rfl, rfl, rfl⟩) | (refine ⟨?_, ?_, ?_, ?_, ?_⟩ <;> rfl)) rfl ⟨rfl, ?_⟩
    repeat (first | exact Below.refl _ _ | apply Below.drew | refine Below.alloc ?_ (by simp <;> omega) _ | refine Below.setCell ?_ (by simp) _)
  all_goals
    go_enter Try.func14, Try.ntmps14
    go_wp2_with fail
    refine (levels_ref _ _).mono ?_
    rintro e w' ⟨rfl, rfl⟩
    go_wp2_with fail
    refine (levels_ref _ _).mono ?_
    rintro e w' ⟨rfl, rfl⟩
    go_wp2_with fail
    refine (unit_any _ _ _ _).mono ?_
    rintro e w' ⟨rfl, rfl⟩
    go_wp2_with fail
    refine bodyPost_ret (v := .agg #[.int .i64 (uC _), .int .i64 a, .int .i64 (uD _ a), .int .i64 (uL _ a), .int .i64 (uB _ a), .int .i64 (uA _ a)]) (by simp [results, Try.results14, go_sem]; first | done | (refine ⟨?_, ?_, ?_, ?_, ?_⟩ <;> rfl)) rfl ⟨rfl, ?_⟩
    repeat (first | exact Below.refl _ _ | apply Below.drew | refine Below.alloc ?_ (by simp <;> omega) _ | refine Below.setCell ?_ (by simp) _)
end Go.Proofs.Ythkdojgagmaecaa
