/- Package library: contracts of classOf, sequential and Of. -/
import Derived.Test.YtliochikjbalhaaLibB
namespace Go.Proofs.Ytliochikjbalhaa
open Go.RowKit

def clsI (op : Int) : Int := if op = 4 then 1 else if op = 5 then 2 else if op = 6 then 3 else if op = 7 then 4 else if op = 8 then 5 else 0
theorem class_any (op : Int) (w : World) :
    Calls Try.prog 39 #[.int .i64 op] w fun e w' => e = .returned (.int .i64 (clsI op)) ∧ w = w' := by
  have hc : op = 4 ∨ op = 5 ∨ op = 6 ∨ op = 7 ∨ op = 8 ∨ op < 4 ∨ 8 < op := by omega
  rcases hc with rfl | rfl | rfl | rfl | rfl | h | h
  case inr.inr.inr.inr.inr.inl | inr.inr.inr.inr.inr.inr =>
    have H := Lib.hid (show clsI op = 0 by unfold clsI; repeat' split
                                           all_goals omega)
    go_enter Try.func39, Try.ntmps39
    go_wp2_with fail
    go_ret
    exact ⟨by rw [H.out]; rfl, rfl⟩
  all_goals
    go_enter Try.func39, Try.ntmps39
    go_wp2_with fail
    go_ret
    exact ⟨rfl, rfl⟩

def seqL (c a : Int) : Int := if c = 1 then 1 + (a + 15) / 16 else 2 + (a + 7) / 8
def seqB (c a : Int) : Int := if c = 1 then 1 else 1 + (a + 15) / 16
def seqA (c a : Int) : Int := if c = 1 then 6 * a * a else 8 * a * a
theorem sq_bd (a k : Int) (ha : 1 ≤ a) (hb : a ≤ 64) (hk : 0 ≤ k) (hk' : k ≤ 8) : 0 ≤ k * a * a ∧ k * a * a ≤ 32768 := by
  have h0 : 0 ≤ k * a := Int.mul_nonneg hk (by omega)
  have h1 : k * a ≤ 512 := by
    calc k * a ≤ 8 * a := Int.mul_le_mul_of_nonneg_right hk' (by omega)
      _ ≤ 512 := by omega
  constructor
  · exact Int.mul_nonneg h0 (by omega)
  · calc k * a * a ≤ 512 * a := Int.mul_le_mul_of_nonneg_right h1 (by omega)
      _ ≤ 32768 := by omega

set_option maxHeartbeats 1000000 in
theorem seq_any (c a : Int) (w : World) (hc : 1 ≤ c) (hc' : c ≤ 5) (ha : 1 ≤ a) (hb : a ≤ 64) :
    Calls Try.prog 40 #[.int .i64 c, .int .i64 a] w fun e w' =>
      e = .returned (.agg #[.int .i64 c, .int .i64 0, .int .i64 0, .int .i64 (seqL c a), .int .i64 (seqB c a), .int .i64 (seqA c a)]) ∧ w.alloc (.cells #[.int .i64 c, .int .i64 0, .int .i64 0, .int .i64 (seqL c a), .int .i64 (seqB c a), .int .i64 (seqA c a)] 48) = w' := by
  obtain ⟨p0, p1⟩ := sq_bd a 6 ha hb (by omega) (by omega)
  obtain ⟨q0, q1⟩ := sq_bd a 8 ha hb (by omega) (by omega)
  by_cases h1 : c = 1
  · subst h1
    go_enter Try.func40, Try.ntmps40
    go_wp2_with fail
    exact bodyPost_ret (v := .agg #[.int .i64 1, .int .i64 0, .int .i64 0, .int .i64 (seqL 1 a), .int .i64 (seqB 1 a), .int .i64 (seqA 1 a)]) (by simp [results, Try.results40, go_sem]; first | done | (exact ⟨rfl, rfl, rfl⟩) | (exact ⟨rfl, rfl⟩) | rfl) rfl ⟨rfl, rfl⟩
  · have e1 : seqL c a = 2 + (a + 7) / 8 := by simp [seqL, h1]
    have e2 : seqB c a = 1 + (a + 15) / 16 := by simp [seqB, h1]
    have e3 : seqA c a = 8 * a * a := by simp [seqA, h1]
    rw [e1, e2, e3]
    clear e1 e2 e3
    go_enter Try.func40, Try.ntmps40
    go_wp2_with fail
    exact bodyPost_ret (v := .agg #[.int .i64 c, .int .i64 0, .int .i64 0, .int .i64 (2 + (a + 7) / 8), .int .i64 (1 + (a + 15) / 16), .int .i64 (8 * a * a)]) (by simp [results, Try.results40, go_sem]) rfl ⟨rfl, rfl⟩

def ofOk (op a : Int) : Bool := decide (2 ≤ op ∧ op ≤ 24 ∧ 1 ≤ a ∧ a ≤ 64)
/-- The six fields of the unit of an operator that has one. -/
def uC (op : Int) : Int := clsI op
def uD (op a : Int) : Int := if clsI op = 0 then combD op a else 0
def uL (op a : Int) : Int := if clsI op = 0 then 0 else seqL (clsI op) a
def uB (op a : Int) : Int := if clsI op = 0 then 0 else seqB (clsI op) a
def uA (op a : Int) : Int := if clsI op = 0 then combA op a else seqA (clsI op) a

set_option maxHeartbeats 1000000 in
theorem of_comb (op a : Int) (w : World) (hop : 2 ≤ op) (hop' : op ≤ 24) (ha : 1 ≤ a) (hb : a ≤ 64) (hc : clsI op = 0) :
    Calls Try.prog 25 #[.int .i64 op, .int .i64 a] w fun e w' =>
      e = .returned (.tuple #[.agg #[.int .i64 0, .int .i64 a, .int .i64 (combD op a), .int .i64 0, .int .i64 0, .int .i64 (combA op a)], .int .i64 0]) ∧ Below w.heap.size w w' := by
  go_enter Try.func25, Try.ntmps25
  go_wp2_with fail
  refine (comb_any op a _ hop hop' ha hb).mono ?_
  rintro e w' ⟨rfl, rfl⟩
  go_wp2_with fail
  refine (class_any op _).mono ?_
  rintro e w' ⟨rfl, rfl⟩
  rw [hc]
  go_wp2_with fail
  refine bodyPost_ret (v := .tuple #[.agg #[.int .i64 0, .int .i64 a, .int .i64 (combD op a), .int .i64 0, .int .i64 0, .int .i64 (combA op a)], .int .i64 0]) (by simp [results, Try.results25, go_sem]) rfl ⟨rfl, ?_⟩
  repeat (first | exact Below.refl _ _ | apply Below.drew | refine Below.alloc ?_ (by simp <;> omega) _ | refine Below.setCell ?_ (by simp) _)

set_option maxHeartbeats 1000000 in
theorem of_seq (op a : Int) (w : World) (hop : 2 ≤ op) (hop' : op ≤ 24) (ha : 1 ≤ a) (hb : a ≤ 64) (hc : 1 ≤ clsI op) (hc' : clsI op ≤ 5) :
    Calls Try.prog 25 #[.int .i64 op, .int .i64 a] w fun e w' =>
      e = .returned (.tuple #[.agg #[.int .i64 (clsI op), .int .i64 a, .int .i64 0, .int .i64 (seqL (clsI op) a), .int .i64 (seqB (clsI op) a), .int .i64 (seqA (clsI op) a)], .int .i64 0]) ∧ Below w.heap.size w w' := by
  have hn : (clsI op != 0) = true := by rw [bne_iff_ne]; omega
  go_enter Try.func25, Try.ntmps25
  go_wp2_with fail
  refine (comb_any op a _ hop hop' ha hb).mono ?_
  rintro e w' ⟨rfl, rfl⟩
  go_wp2_with fail
  refine (class_any op _).mono ?_
  rintro e w' ⟨rfl, rfl⟩
  go_wp2_with fail
  refine (seq_any _ a _ hc hc' ha hb).mono ?_
  rintro e w' ⟨rfl, rfl⟩
  go_wp2_with fail
  refine bodyPost_ret (v := .tuple #[.agg #[.int .i64 (clsI op), .int .i64 a, .int .i64 0, .int .i64 (seqL (clsI op) a), .int .i64 (seqB (clsI op) a), .int .i64 (seqA (clsI op) a)], .int .i64 0]) (by simp [results, Try.results25, go_sem]) rfl ⟨rfl, ?_⟩
  repeat (first | exact Below.refl _ _ | apply Below.drew | refine Below.alloc ?_ (by simp <;> omega) _ | refine Below.setCell ?_ (by simp) _)

/-- The refusals: 1 (ErrArg) for what is no operator of the table, 13 (ErrWidth) for a width that is none. -/
def ofE (op : Int) : Int := if op < 2 ∨ 24 < op then 1 else 13
set_option maxHeartbeats 1000000 in
theorem of_bad (op a : Int) (w : World) (h : ofOk op a = false) :
    Calls Try.prog 25 #[.int .i64 op, .int .i64 a] w fun e w' =>
      e = .returned (.tuple #[.agg #[.int .i64 0, .int .i64 0, .int .i64 0, .int .i64 0, .int .i64 0, .int .i64 0], .int .i64 (ofE op)]) ∧ Below w.heap.size w w' := by
  have hc : op < 2 ∨ 24 < op ∨ ((2 ≤ op ∧ op ≤ 24) ∧ a < 1) ∨ ((2 ≤ op ∧ op ≤ 24) ∧ 64 < a) := by
    simp only [ofOk, decide_eq_false_iff_not] at h; omega
  clear h
  rcases hc with h | h | ⟨⟨h, h'⟩, h2⟩ | ⟨⟨h, h'⟩, h2⟩
  case inl | inr.inl =>
    have H := Lib.hid (show ofE op = 1 by simp [ofE]; omega)
    go_enter Try.func25, Try.ntmps25
    go_wp2_with fail
    rw [H.out]
    refine bodyPost_ret (v := .tuple #[.agg #[.int .i64 0, .int .i64 0, .int .i64 0, .int .i64 0, .int .i64 0, .int .i64 0], .int .i64 1]) (by simp [results, Try.results25, go_sem]) rfl ⟨rfl, ?_⟩
    repeat (first | exact Below.refl _ _ | apply Below.drew | refine Below.alloc ?_ (by simp <;> omega) _ | refine Below.setCell ?_ (by simp) _)
  all_goals
    have H := Lib.hid (show ofE op = 13 by simp [ofE]; omega)
    go_enter Try.func25, Try.ntmps25
    go_wp2_with fail
    rw [H.out]
    refine bodyPost_ret (v := .tuple #[.agg #[.int .i64 0, .int .i64 0, .int .i64 0, .int .i64 0, .int .i64 0, .int .i64 0], .int .i64 13]) (by simp [results, Try.results25, go_sem]) rfl ⟨rfl, ?_⟩
    repeat (first | exact Below.refl _ _ | apply Below.drew | refine Below.alloc ?_ (by simp <;> omega) _ | refine Below.setCell ?_ (by simp) _)
end Go.Proofs.Ytliochikjbalhaa
