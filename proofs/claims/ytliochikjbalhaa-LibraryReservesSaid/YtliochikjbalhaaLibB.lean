/- Package library: contracts of combinational, sequential, classOf and Of. -/
import Derived.Test.YtliochikjbalhaaLib
namespace Go.Proofs.Ytliochikjbalhaa
open Go.RowKit

theorem levF_le (f k : Nat) (n : Int) : levF f k n ≤ f + k := by
  induction f generalizing k with
  | zero => simp [levF]
  | succ f ih => unfold levF; split; have := ih (k + 1); omega; omega
theorem lev_le (n : Int) : lev n ≤ 62 := by have := levF_le 62 0 n; exact this

def combD (op a : Int) : Int :=
  if op = 9 ∨ op = 10 ∨ op = 11 then 20 else if op = 2 then 40 + 40 * (lev a : Nat) else if op = 3 then 50 + 40 * (lev a : Nat)
  else if op = 15 ∨ op = 16 then 30 + 20 * (lev a : Nat) else if op = 17 ∨ op = 18 then 40 + 40 * (lev (a + 1) : Nat)
  else if op = 19 ∨ op = 20 then 50 + 40 * (lev (a + 1) : Nat) else if op = 21 then 50 else if op = 12 ∨ op = 13 then 30 + 40 * (lev a : Nat)
  else if op = 14 then 50 + 40 * (lev a : Nat) else 0
def combA (op a : Int) : Int :=
  if op = 9 ∨ op = 10 ∨ op = 11 then a else if op = 2 then 3 * a + 3 * a * (lev a : Nat) else if op = 3 then 4 * a + 3 * a * (lev a : Nat)
  else if op = 15 ∨ op = 16 then 2 * a else if op = 17 ∨ op = 18 then 4 * a + 3 * a * (lev (a + 1) : Nat)
  else if op = 19 ∨ op = 20 then 4 * a + 3 * a * (lev (a + 1) : Nat) + 2 else if op = 21 then 3 * a + 1 else if op = 12 ∨ op = 13 then 2 * a + 3 * a * (lev a : Nat)
  else if op = 14 then 4 * a + 3 * a * (lev a : Nat) else 0

theorem prod_bd (a : Int) (l : Nat) (ha : 1 ≤ a) (hb : a ≤ 64) (hl : l ≤ 62) : 0 ≤ 3 * a * (l : Int) ∧ 3 * a * (l : Int) ≤ 11904 := by
  constructor
  · exact Int.mul_nonneg (by omega) (by omega)
  · calc 3 * a * (l : Int) ≤ 192 * (l : Int) := Int.mul_le_mul_of_nonneg_right (by omega) (by omega)
      _ ≤ 11904 := by omega

set_option maxHeartbeats 4000000 in
theorem comb_any (op a : Int) (w : World) (hop : 2 ≤ op) (hop' : op ≤ 24) (ha : 1 ≤ a) (hb : a ≤ 64) :
    Calls Try.prog 38 #[.int .i64 op, .int .i64 a] w fun e w' =>
      e = .returned (.agg #[.int .i64 0, .int .i64 0, .int .i64 (combD op a), .int .i64 0, .int .i64 0, .int .i64 (combA op a)]) ∧ w.alloc (.cells #[.int .i64 0, .int .i64 0, .int .i64 (combD op a), .int .i64 0, .int .i64 0, .int .i64 (combA op a)] 48) = w' := by
  have hl := lev_le a
  have hm := lev_le (a + 1)
  obtain ⟨p0, p1⟩ := prod_bd a (lev a) ha hb hl
  obtain ⟨q0, q1⟩ := prod_bd a (lev (a + 1)) ha hb hm
  have hc : op = 2 ∨ op = 3 ∨ op = 4 ∨ op = 5 ∨ op = 6 ∨ op = 7 ∨ op = 8 ∨ op = 9 ∨ op = 10 ∨ op = 11 ∨ op = 12 ∨ op = 13 ∨ op = 14 ∨ op = 15 ∨ op = 16 ∨ op = 17 ∨ op = 18 ∨ op = 19 ∨ op = 20 ∨ op = 21 ∨ op = 22 ∨ op = 23 ∨ op = 24 := by omega
  clear hop hop'
  rcases hc with rfl | rfl | rfl | rfl | rfl | rfl | rfl | rfl | rfl | rfl | rfl | rfl | rfl | rfl | rfl | rfl | rfl | rfl | rfl | rfl | rfl | rfl | rfl
  all_goals
    go_enter Try.func38, Try.ntmps38
    go_wp2_with fail
    refine (levels_any _ _).mono ?_
    rintro e w' ⟨rfl, rfl⟩
    go_wp2_with fail
    refine (levels_any _ _).mono ?_
    rintro e w' ⟨rfl, rfl⟩
    go_wp2_with fail
    exact bodyPost_ret (v := .agg #[.int .i64 0, .int .i64 0, .int .i64 (combD _ a), .int .i64 0, .int .i64 0, .int .i64 (combA _ a)]) (by simp [results, Try.results38, go_sem]; first | done | (exact ⟨rfl, rfl⟩) | rfl) rfl ⟨rfl, rfl⟩
end Go.Proofs.Ytliochikjbalhaa
