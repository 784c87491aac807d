/- interval.Tighten. -/
import Derived.Test.YthkdojgagmaecabIvV
import Derived.Deep.QuietTactic
import Derived.BigQuiet
import Derived.Laws.Cover1
set_option linter.unusedVariables false
set_option linter.unusedSimpArgs false
namespace Go.Proofs.Ythkdojgagmaecab
open Go.RowKit

/-! Tightening, in plain mathematics: T is the greatest signed number. -/
def tA (T r1 r2 : Int) : Prop := r1 ≤ T ∨ 0 ≤ r2
instance (T r1 r2 : Int) : Decidable (tA T r1 r2) := by unfold tA; exact inferInstance
def tiLo (T r0 r1 r2 : Int) : Int := if tA T r1 r2 then max r0 (max r2 0) else max r0 (r2 + 2 * T + 2)
def tiHi (T r1 r2 r3 : Int) : Int := if tA T r1 r2 then min r1 r3 else if r3 < 0 then min r1 (r3 + 2 * T + 2) else r1
/-- 0: no word is left; 1: tightened; 2: as it is. -/
def tiK (T r0 r1 r2 r3 : Int) : Nat :=
  if tA T r1 r2 then (if r3 < 0 then 0 else if tiLo T r0 r1 r2 ≤ tiHi T r1 r2 r3 then 1 else 0)
  else if T < r0 ∨ r3 < 0 then (if tiLo T r0 r1 r2 ≤ tiHi T r1 r2 r3 then 1 else 0) else 2
/-- The signed number of a word. -/
def sg (T x : Int) : Int := if x ≤ T then x else x - (2 * T + 2)
/-- The bounds of a range are right for a width. -/
def rOk (T r0 r1 r2 r3 : Int) : Prop := (0 ≤ T ∧ T < 9223372036854775808) ∧ (0 ≤ r0 ∧ r0 ≤ r1 ∧ r1 ≤ 2 * T + 1) ∧ (-T - 1 ≤ r2 ∧ r2 ≤ r3 ∧ r3 ≤ T)
theorem sgn_sg (a x : Int) (h1 : 1 ≤ a) (h : 0 ≤ x) (hx : x ≤ ((maskN a : Nat) : Int)) : sgn a x.toNat = sg (smax a) x ∧ ((maskN a : Nat) : Int) = 2 * smax a + 1 := by
  have hp := cw_pos' a h1
  have hh := pow_half (cw a) hp
  have hq := pow_pos (cw a - 1)
  unfold sgn sg smax fitN
  unfold maskN at hx ⊢
  rw [if_neg (by omega)]
  generalize 2 ^ (cw a - 1) = q at *
  generalize 2 ^ cw a = p at *
  rw [Nat.mod_eq_of_lt (by omega)]
  constructor
  · split <;> split <;> omega
  · omega
theorem from_neg (a n T : Int) (hT : ((maskN a : Nat) : Int) = 2 * T + 1) (h1 : n < 0) (h2 : -T - 1 ≤ n) : ((fromN a n : Nat) : Int) = n + 2 * T + 2 := by
  have hp := pow_pos (cw a)
  unfold fromN
  unfold maskN at hT
  have e : n % ((2 ^ cw a : Nat) : Int) = n + 2 * T + 2 := by
    generalize 2 ^ cw a = p at *
    have : n + 2 * T + 2 = n + (p : Int) := by omega
    rw [this, ← Int.add_emod_right, Int.emod_eq_of_lt (by omega) (by omega)]
  rw [e]; omega
theorem signed_i (a x T : Int) (h1 : 1 ≤ a) (hT : T = smax a) (hM : ((maskN a : Nat) : Int) = 2 * T + 1) (h : 0 ≤ x) (hx : x ≤ 2 * T + 1) (w : World) :
    Calls Try.prog 50 #[.int .i64 a, .int .u64 x] w fun e w' => e = .returned (.int .i64 (sg T x)) ∧ w = w' := by
  have hl : x.toNat < 18446744073709551616 := by have := maskN_lt a; omega
  have h' := signed_any a x.toNat w hl
  rw [(sgn_sg a x h1 h (by omega)).1, ← hT, show ((x.toNat : Nat) : Int) = x by omega] at h'
  exact h'
theorem rsigned_i (a x T : Int) (h1 : 1 ≤ a) (h2 : a ≤ 64) (hT : T = smax a) (hM : ((maskN a : Nat) : Int) = 2 * T + 1) (h : 0 ≤ x) (hx : x ≤ 2 * T + 1) (w : World) :
    Calls Try.prog 56 #[.int .i64 a, .int .u64 x] w fun e w' => e = .returned (.int .i64 (sg T x)) ∧ w = w' := by
  have h' := rsigned_any a x.toNat h1 h2 (fit_small a x.toNat (by omega)) w
  rw [(sgn_sg a x h1 h (by omega)).1, ← hT, show ((x.toNat : Nat) : Int) = x by omega] at h'
  exact h'
theorem from_i (a n T : Int) (hT : ((maskN a : Nat) : Int) = 2 * T + 1) (h1 : n < 0) (h2 : -T - 1 ≤ n) (w : World) :
    Calls Try.prog 57 #[.int .i64 a, .int .i64 n] w fun e w' => e = .returned (.int .u64 (n + 2 * T + 2)) ∧ w = w' := by
  have h' := from_any a n w
  rwa [from_neg a n T hT h1 h2] at h'
/-- What Tighten answers for a right range. -/
def tiV (T r0 r1 r2 r3 : Int) : Value :=
  if tiK T r0 r1 r2 r3 = 0 then .tuple #[.agg #[.int .u64 0, .int .u64 0, .int .i64 0, .int .i64 0], .bool false] else if tiK T r0 r1 r2 r3 = 1 then
    .tuple #[.agg #[.int .u64 (tiLo T r0 r1 r2), .int .u64 (tiHi T r1 r2 r3), .int .i64 (sg T (tiLo T r0 r1 r2)), .int .i64 (sg T (tiHi T r1 r2 r3))], .bool true]
  else .tuple #[.agg #[.int .u64 r0, .int .u64 r1, .int .i64 r2, .int .i64 r3], .bool true]
theorem tbcell {W w1 : World} (hb : Below W.heap.size W w1) : (∀ b o, b < W.heap.size → w1.cell? ⟨b, o, none⟩ = W.cell? ⟨b, o, none⟩) ∧ (∀ b o, b < W.heap.size → w1.frozen? ⟨b, o, none⟩ = W.frozen? ⟨b, o, none⟩) :=
  ⟨fun b o h => hb.cell (p := ⟨b, o, none⟩) h, fun b o h => hb.frozen (p := ⟨b, o, none⟩) h⟩
set_option maxHeartbeats 8000000 in
theorem tight_any (a r0 r1 r2 r3 T : Int) (h1 : 1 ≤ a) (h2 : a ≤ 64) (hT : T = smax a) (hM : ((maskN a : Nat) : Int) = 2 * T + 1) (hv : rOk T r0 r1 r2 r3)
    (CV : ∀ w, Calls Try.prog 31 #[.int .i64 a, .agg #[.int .u64 r0, .int .u64 r1, .int .i64 r2, .int .i64 r3]] w fun e w' => e = .returned (.bool true) ∧ Below w.heap.size w w') (w : World) :
    Calls Try.prog 39 #[.int .i64 a, .agg #[.int .u64 r0, .int .u64 r1, .int .i64 r2, .int .i64 r3]] w fun e w' => e = .returned (tiV T r0 r1 r2 r3) ∧ Below w.heap.size w w' := by
  obtain ⟨⟨v1, v2⟩, ⟨v3, v4, v5⟩, v6, v7, v8⟩ := hv
  have C2 := fun w => most_any a h1 h2 w
  have CS := fun x (hx1 : 0 ≤ x) (hx2 : x ≤ 2 * T + 1) w => signed_i a x T h1 hT hM hx1 hx2 w
  obtain ⟨F2, hF2⟩ : ∃ F2, F2 = r2 + 2 * T + 2 := ⟨_, rfl⟩
  obtain ⟨F3, hF3⟩ : ∃ F3, F3 = r3 + 2 * T + 2 := ⟨_, rfl⟩
  have CF2 := fun (h : r2 < 0) w => from_i a r2 T hM h (by omega) w
  have CF3 := fun (h : r3 < 0) w => from_i a r3 T hM h (by omega) w
  rw [← hF2] at CF2
  rw [← hF3] at CF3
  rw [← hT] at C2
  clear hT hM
  by_cases g0 : r1 ≤ T
  · by_cases g1 : r3 < 0
    · have hk : tiK T r0 r1 r2 r3 = 0 := by unfold tiK tA; (repeat' split) <;> omega
      have H : tiV T r0 r1 r2 r3 = .tuple #[.agg #[.int .u64 0, .int .u64 0, .int .i64 0, .int .i64 0], .bool false] := by unfold tiV; rw [if_pos hk]
      rw [H]
      clear H hk
      clear hF2 hF3
      go_enter Try.func39, Try.ntmps39
      go_wp2_with fail
      refine (CV _).mono ?_
      rintro e w1 ⟨rfl, hb1⟩
      have bc := tbcell hb1
      have hz0 : w.heap.size < w1.heap.size := by have := hb1.size; simp at this; omega
      have hz1 : w.heap.size + 1 < w1.heap.size := by have := hb1.size; simp at this; omega
      have ea0 : w1.cell? ⟨w.heap.size, 0, none⟩ = some (.int .u64 r0) := (bc.1 _ _ (by simp <;> omega)).trans (by simp)
      have ea1 : w1.cell? ⟨w.heap.size, 1, none⟩ = some (.int .u64 r1) := (bc.1 _ _ (by simp <;> omega)).trans (by simp)
      have ea2 : w1.cell? ⟨w.heap.size, 2, none⟩ = some (.int .i64 r2) := (bc.1 _ _ (by simp <;> omega)).trans (by simp)
      have ea3 : w1.cell? ⟨w.heap.size, 3, none⟩ = some (.int .i64 r3) := (bc.1 _ _ (by simp <;> omega)).trans (by simp)
      have eb0 : w1.cell? ⟨w.heap.size + 1, 0, none⟩ = some (.int .u64 0) := (bc.1 _ _ (by simp <;> omega)).trans (by simp)
      have eb1 : w1.cell? ⟨w.heap.size + 1, 1, none⟩ = some (.int .u64 0) := (bc.1 _ _ (by simp <;> omega)).trans (by simp)
      have eb2 : w1.cell? ⟨w.heap.size + 1, 2, none⟩ = some (.int .i64 0) := (bc.1 _ _ (by simp <;> omega)).trans (by simp)
      have eb3 : w1.cell? ⟨w.heap.size + 1, 3, none⟩ = some (.int .i64 0) := (bc.1 _ _ (by simp <;> omega)).trans (by simp)
      have ef0 : w1.frozen? ⟨w.heap.size + 1, 0, none⟩ = false := (bc.2 _ _ (by simp <;> omega)).trans (by simp)
      have ef1 : w1.frozen? ⟨w.heap.size + 1, 1, none⟩ = false := (bc.2 _ _ (by simp <;> omega)).trans (by simp)
      have ef2 : w1.frozen? ⟨w.heap.size + 1, 2, none⟩ = false := (bc.2 _ _ (by simp <;> omega)).trans (by simp)
      have ef3 : w1.frozen? ⟨w.heap.size + 1, 3, none⟩ = false := (bc.2 _ _ (by simp <;> omega)).trans (by simp)
      have B1 : Below w.heap.size w w1 := (((Below.refl w.heap.size w).alloc (Nat.le_refl _) _).alloc (by simp) _).trans (hb1.mono (by simp <;> omega))
      clear hb1 bc
      go_wp2_with fail
      refine (C2 _).mono ?_
      rintro e w2 ⟨rfl, rfl⟩
      go_wp2_with fail
      go_quiet (fail)
      go_wp2_with fail
      refine bodyPost_ret (v := .tuple #[.agg #[.int .u64 0, .int .u64 0, .int .i64 0, .int .i64 0], .bool false]) (by simp [results, Try.results39, go_sem, eb0, eb1, eb2, eb3]) rfl ⟨rfl, ?_⟩
      repeat (first | exact B1 | exact below_drewN' B1 _ | apply Below.drew | refine Below.alloc ?_ (by simp <;> omega) _ | refine Below.setCell ?_ (by simp) _)
    · by_cases g2 : 0 ≤ r2
      · by_cases g3 : r0 < r2
        · by_cases g4 : r3 < r1
          · by_cases g5 : r2 ≤ r3
            · have hlo : tiLo T r0 r1 r2 = r2 := by unfold tiLo tA; (repeat' split) <;> omega
              have hhi : tiHi T r1 r2 r3 = r3 := by unfold tiHi tA; (repeat' split) <;> omega
              have hk : tiK T r0 r1 r2 r3 = 1 := by unfold tiK; rw [hlo, hhi]; unfold tA; (repeat' split) <;> omega
              have H : tiV T r0 r1 r2 r3 = .tuple #[.agg #[.int .u64 r2, .int .u64 r3, .int .i64 (sg T r2), .int .i64 (sg T r3)], .bool true] := by unfold tiV; rw [if_neg (by omega), if_pos hk, hlo, hhi]
              rw [H]
              clear H hk hlo hhi
              have s1 : 0 ≤ r2 := by omega
              have s2 : r2 ≤ 2 * T + 1 := by omega
              have s3 : 0 ≤ r3 := by omega
              have s4 : r3 ≤ 2 * T + 1 := by omega
              clear hF2 hF3
              go_enter Try.func39, Try.ntmps39
              go_wp2_with fail
              refine (CV _).mono ?_
              rintro e w1 ⟨rfl, hb1⟩
              have bc := tbcell hb1
              have hz0 : w.heap.size < w1.heap.size := by have := hb1.size; simp at this; omega
              have hz1 : w.heap.size + 1 < w1.heap.size := by have := hb1.size; simp at this; omega
              have ea0 : w1.cell? ⟨w.heap.size, 0, none⟩ = some (.int .u64 r0) := (bc.1 _ _ (by simp <;> omega)).trans (by simp)
              have ea1 : w1.cell? ⟨w.heap.size, 1, none⟩ = some (.int .u64 r1) := (bc.1 _ _ (by simp <;> omega)).trans (by simp)
              have ea2 : w1.cell? ⟨w.heap.size, 2, none⟩ = some (.int .i64 r2) := (bc.1 _ _ (by simp <;> omega)).trans (by simp)
              have ea3 : w1.cell? ⟨w.heap.size, 3, none⟩ = some (.int .i64 r3) := (bc.1 _ _ (by simp <;> omega)).trans (by simp)
              have eb0 : w1.cell? ⟨w.heap.size + 1, 0, none⟩ = some (.int .u64 0) := (bc.1 _ _ (by simp <;> omega)).trans (by simp)
              have eb1 : w1.cell? ⟨w.heap.size + 1, 1, none⟩ = some (.int .u64 0) := (bc.1 _ _ (by simp <;> omega)).trans (by simp)
              have eb2 : w1.cell? ⟨w.heap.size + 1, 2, none⟩ = some (.int .i64 0) := (bc.1 _ _ (by simp <;> omega)).trans (by simp)
              have eb3 : w1.cell? ⟨w.heap.size + 1, 3, none⟩ = some (.int .i64 0) := (bc.1 _ _ (by simp <;> omega)).trans (by simp)
              have ef0 : w1.frozen? ⟨w.heap.size + 1, 0, none⟩ = false := (bc.2 _ _ (by simp <;> omega)).trans (by simp)
              have ef1 : w1.frozen? ⟨w.heap.size + 1, 1, none⟩ = false := (bc.2 _ _ (by simp <;> omega)).trans (by simp)
              have ef2 : w1.frozen? ⟨w.heap.size + 1, 2, none⟩ = false := (bc.2 _ _ (by simp <;> omega)).trans (by simp)
              have ef3 : w1.frozen? ⟨w.heap.size + 1, 3, none⟩ = false := (bc.2 _ _ (by simp <;> omega)).trans (by simp)
              have B1 : Below w.heap.size w w1 := (((Below.refl w.heap.size w).alloc (Nat.le_refl _) _).alloc (by simp) _).trans (hb1.mono (by simp <;> omega))
              clear hb1 bc
              go_wp2_with fail
              refine (C2 _).mono ?_
              rintro e w2 ⟨rfl, rfl⟩
              go_wp2_with fail
              go_quiet (fail)
              go_wp2_with fail
              go_quiet (fail)
              go_wp2_with fail
              refine (CS r2 (by assumption) (by assumption) _).mono ?_
              rintro e w2 ⟨rfl, rfl⟩
              go_wp2_with fail
              refine (CS r3 (by assumption) (by assumption) _).mono ?_
              rintro e w2 ⟨rfl, rfl⟩
              go_wp2_with fail
              refine bodyPost_ret (v := .tuple #[.agg #[.int .u64 r2, .int .u64 r3, .int .i64 (sg T r2), .int .i64 (sg T r3)], .bool true]) (by simp [results, Try.results39, go_sem, eb0, eb1, eb2, eb3]) rfl ⟨rfl, ?_⟩
              repeat (first | exact B1 | exact below_drewN' B1 _ | apply Below.drew | refine Below.alloc ?_ (by simp <;> omega) _ | refine Below.setCell ?_ (by simp) _)
            · exfalso; omega
          · by_cases g5 : r2 ≤ r1
            · have hlo : tiLo T r0 r1 r2 = r2 := by unfold tiLo tA; (repeat' split) <;> omega
              have hhi : tiHi T r1 r2 r3 = r1 := by unfold tiHi tA; (repeat' split) <;> omega
              have hk : tiK T r0 r1 r2 r3 = 1 := by unfold tiK; rw [hlo, hhi]; unfold tA; (repeat' split) <;> omega
              have H : tiV T r0 r1 r2 r3 = .tuple #[.agg #[.int .u64 r2, .int .u64 r1, .int .i64 (sg T r2), .int .i64 (sg T r1)], .bool true] := by unfold tiV; rw [if_neg (by omega), if_pos hk, hlo, hhi]
              rw [H]
              clear H hk hlo hhi
              have s1 : 0 ≤ r2 := by omega
              have s2 : r2 ≤ 2 * T + 1 := by omega
              have s3 : 0 ≤ r1 := by omega
              have s4 : r1 ≤ 2 * T + 1 := by omega
              clear hF2 hF3
              go_enter Try.func39, Try.ntmps39
              go_wp2_with fail
              refine (CV _).mono ?_
              rintro e w1 ⟨rfl, hb1⟩
              have bc := tbcell hb1
              have hz0 : w.heap.size < w1.heap.size := by have := hb1.size; simp at this; omega
              have hz1 : w.heap.size + 1 < w1.heap.size := by have := hb1.size; simp at this; omega
              have ea0 : w1.cell? ⟨w.heap.size, 0, none⟩ = some (.int .u64 r0) := (bc.1 _ _ (by simp <;> omega)).trans (by simp)
              have ea1 : w1.cell? ⟨w.heap.size, 1, none⟩ = some (.int .u64 r1) := (bc.1 _ _ (by simp <;> omega)).trans (by simp)
              have ea2 : w1.cell? ⟨w.heap.size, 2, none⟩ = some (.int .i64 r2) := (bc.1 _ _ (by simp <;> omega)).trans (by simp)
              have ea3 : w1.cell? ⟨w.heap.size, 3, none⟩ = some (.int .i64 r3) := (bc.1 _ _ (by simp <;> omega)).trans (by simp)
              have eb0 : w1.cell? ⟨w.heap.size + 1, 0, none⟩ = some (.int .u64 0) := (bc.1 _ _ (by simp <;> omega)).trans (by simp)
              have eb1 : w1.cell? ⟨w.heap.size + 1, 1, none⟩ = some (.int .u64 0) := (bc.1 _ _ (by simp <;> omega)).trans (by simp)
              have eb2 : w1.cell? ⟨w.heap.size + 1, 2, none⟩ = some (.int .i64 0) := (bc.1 _ _ (by simp <;> omega)).trans (by simp)
              have eb3 : w1.cell? ⟨w.heap.size + 1, 3, none⟩ = some (.int .i64 0) := (bc.1 _ _ (by simp <;> omega)).trans (by simp)
              have ef0 : w1.frozen? ⟨w.heap.size + 1, 0, none⟩ = false := (bc.2 _ _ (by simp <;> omega)).trans (by simp)
              have ef1 : w1.frozen? ⟨w.heap.size + 1, 1, none⟩ = false := (bc.2 _ _ (by simp <;> omega)).trans (by simp)
              have ef2 : w1.frozen? ⟨w.heap.size + 1, 2, none⟩ = false := (bc.2 _ _ (by simp <;> omega)).trans (by simp)
              have ef3 : w1.frozen? ⟨w.heap.size + 1, 3, none⟩ = false := (bc.2 _ _ (by simp <;> omega)).trans (by simp)
              have B1 : Below w.heap.size w w1 := (((Below.refl w.heap.size w).alloc (Nat.le_refl _) _).alloc (by simp) _).trans (hb1.mono (by simp <;> omega))
              clear hb1 bc
              go_wp2_with fail
              refine (C2 _).mono ?_
              rintro e w2 ⟨rfl, rfl⟩
              go_wp2_with fail
              go_quiet (fail)
              go_wp2_with fail
              go_quiet (fail)
              go_wp2_with fail
              refine (CS r2 (by assumption) (by assumption) _).mono ?_
              rintro e w2 ⟨rfl, rfl⟩
              go_wp2_with fail
              refine (CS r1 (by assumption) (by assumption) _).mono ?_
              rintro e w2 ⟨rfl, rfl⟩
              go_wp2_with fail
              refine bodyPost_ret (v := .tuple #[.agg #[.int .u64 r2, .int .u64 r1, .int .i64 (sg T r2), .int .i64 (sg T r1)], .bool true]) (by simp [results, Try.results39, go_sem, eb0, eb1, eb2, eb3]) rfl ⟨rfl, ?_⟩
              repeat (first | exact B1 | exact below_drewN' B1 _ | apply Below.drew | refine Below.alloc ?_ (by simp <;> omega) _ | refine Below.setCell ?_ (by simp) _)
            · have hlo : tiLo T r0 r1 r2 = r2 := by unfold tiLo tA; (repeat' split) <;> omega
              have hhi : tiHi T r1 r2 r3 = r1 := by unfold tiHi tA; (repeat' split) <;> omega
              have hk : tiK T r0 r1 r2 r3 = 0 := by unfold tiK; rw [hlo, hhi]; unfold tA; (repeat' split) <;> omega
              have H : tiV T r0 r1 r2 r3 = .tuple #[.agg #[.int .u64 0, .int .u64 0, .int .i64 0, .int .i64 0], .bool false] := by unfold tiV; rw [if_pos hk]
              rw [H]
              clear H hk hlo hhi
              clear hF2 hF3
              go_enter Try.func39, Try.ntmps39
              go_wp2_with fail
              refine (CV _).mono ?_
              rintro e w1 ⟨rfl, hb1⟩
              have bc := tbcell hb1
              have hz0 : w.heap.size < w1.heap.size := by have := hb1.size; simp at this; omega
              have hz1 : w.heap.size + 1 < w1.heap.size := by have := hb1.size; simp at this; omega
              have ea0 : w1.cell? ⟨w.heap.size, 0, none⟩ = some (.int .u64 r0) := (bc.1 _ _ (by simp <;> omega)).trans (by simp)
              have ea1 : w1.cell? ⟨w.heap.size, 1, none⟩ = some (.int .u64 r1) := (bc.1 _ _ (by simp <;> omega)).trans (by simp)
              have ea2 : w1.cell? ⟨w.heap.size, 2, none⟩ = some (.int .i64 r2) := (bc.1 _ _ (by simp <;> omega)).trans (by simp)
              have ea3 : w1.cell? ⟨w.heap.size, 3, none⟩ = some (.int .i64 r3) := (bc.1 _ _ (by simp <;> omega)).trans (by simp)
              have eb0 : w1.cell? ⟨w.heap.size + 1, 0, none⟩ = some (.int .u64 0) := (bc.1 _ _ (by simp <;> omega)).trans (by simp)
              have eb1 : w1.cell? ⟨w.heap.size + 1, 1, none⟩ = some (.int .u64 0) := (bc.1 _ _ (by simp <;> omega)).trans (by simp)
              have eb2 : w1.cell? ⟨w.heap.size + 1, 2, none⟩ = some (.int .i64 0) := (bc.1 _ _ (by simp <;> omega)).trans (by simp)
              have eb3 : w1.cell? ⟨w.heap.size + 1, 3, none⟩ = some (.int .i64 0) := (bc.1 _ _ (by simp <;> omega)).trans (by simp)
              have ef0 : w1.frozen? ⟨w.heap.size + 1, 0, none⟩ = false := (bc.2 _ _ (by simp <;> omega)).trans (by simp)
              have ef1 : w1.frozen? ⟨w.heap.size + 1, 1, none⟩ = false := (bc.2 _ _ (by simp <;> omega)).trans (by simp)
              have ef2 : w1.frozen? ⟨w.heap.size + 1, 2, none⟩ = false := (bc.2 _ _ (by simp <;> omega)).trans (by simp)
              have ef3 : w1.frozen? ⟨w.heap.size + 1, 3, none⟩ = false := (bc.2 _ _ (by simp <;> omega)).trans (by simp)
              have B1 : Below w.heap.size w w1 := (((Below.refl w.heap.size w).alloc (Nat.le_refl _) _).alloc (by simp) _).trans (hb1.mono (by simp <;> omega))
              clear hb1 bc
              go_wp2_with fail
              refine (C2 _).mono ?_
              rintro e w2 ⟨rfl, rfl⟩
              go_wp2_with fail
              go_quiet (fail)
              go_wp2_with fail
              go_quiet (fail)
              go_wp2_with fail
              refine bodyPost_ret (v := .tuple #[.agg #[.int .u64 0, .int .u64 0, .int .i64 0, .int .i64 0], .bool false]) (by simp [results, Try.results39, go_sem, eb0, eb1, eb2, eb3]) rfl ⟨rfl, ?_⟩
              repeat (first | exact B1 | exact below_drewN' B1 _ | apply Below.drew | refine Below.alloc ?_ (by simp <;> omega) _ | refine Below.setCell ?_ (by simp) _)
        · by_cases g4 : r3 < r1
          · by_cases g5 : r0 ≤ r3
            · have hlo : tiLo T r0 r1 r2 = r0 := by unfold tiLo tA; (repeat' split) <;> omega
              have hhi : tiHi T r1 r2 r3 = r3 := by unfold tiHi tA; (repeat' split) <;> omega
              have hk : tiK T r0 r1 r2 r3 = 1 := by unfold tiK; rw [hlo, hhi]; unfold tA; (repeat' split) <;> omega
              have H : tiV T r0 r1 r2 r3 = .tuple #[.agg #[.int .u64 r0, .int .u64 r3, .int .i64 (sg T r0), .int .i64 (sg T r3)], .bool true] := by unfold tiV; rw [if_neg (by omega), if_pos hk, hlo, hhi]
              rw [H]
              clear H hk hlo hhi
              have s1 : 0 ≤ r0 := by omega
              have s2 : r0 ≤ 2 * T + 1 := by omega
              have s3 : 0 ≤ r3 := by omega
              have s4 : r3 ≤ 2 * T + 1 := by omega
              clear hF2 hF3
              go_enter Try.func39, Try.ntmps39
              go_wp2_with fail
              refine (CV _).mono ?_
              rintro e w1 ⟨rfl, hb1⟩
              have bc := tbcell hb1
              have hz0 : w.heap.size < w1.heap.size := by have := hb1.size; simp at this; omega
              have hz1 : w.heap.size + 1 < w1.heap.size := by have := hb1.size; simp at this; omega
              have ea0 : w1.cell? ⟨w.heap.size, 0, none⟩ = some (.int .u64 r0) := (bc.1 _ _ (by simp <;> omega)).trans (by simp)
              have ea1 : w1.cell? ⟨w.heap.size, 1, none⟩ = some (.int .u64 r1) := (bc.1 _ _ (by simp <;> omega)).trans (by simp)
              have ea2 : w1.cell? ⟨w.heap.size, 2, none⟩ = some (.int .i64 r2) := (bc.1 _ _ (by simp <;> omega)).trans (by simp)
              have ea3 : w1.cell? ⟨w.heap.size, 3, none⟩ = some (.int .i64 r3) := (bc.1 _ _ (by simp <;> omega)).trans (by simp)
              have eb0 : w1.cell? ⟨w.heap.size + 1, 0, none⟩ = some (.int .u64 0) := (bc.1 _ _ (by simp <;> omega)).trans (by simp)
              have eb1 : w1.cell? ⟨w.heap.size + 1, 1, none⟩ = some (.int .u64 0) := (bc.1 _ _ (by simp <;> omega)).trans (by simp)
              have eb2 : w1.cell? ⟨w.heap.size + 1, 2, none⟩ = some (.int .i64 0) := (bc.1 _ _ (by simp <;> omega)).trans (by simp)
              have eb3 : w1.cell? ⟨w.heap.size + 1, 3, none⟩ = some (.int .i64 0) := (bc.1 _ _ (by simp <;> omega)).trans (by simp)
              have ef0 : w1.frozen? ⟨w.heap.size + 1, 0, none⟩ = false := (bc.2 _ _ (by simp <;> omega)).trans (by simp)
              have ef1 : w1.frozen? ⟨w.heap.size + 1, 1, none⟩ = false := (bc.2 _ _ (by simp <;> omega)).trans (by simp)
              have ef2 : w1.frozen? ⟨w.heap.size + 1, 2, none⟩ = false := (bc.2 _ _ (by simp <;> omega)).trans (by simp)
              have ef3 : w1.frozen? ⟨w.heap.size + 1, 3, none⟩ = false := (bc.2 _ _ (by simp <;> omega)).trans (by simp)
              have B1 : Below w.heap.size w w1 := (((Below.refl w.heap.size w).alloc (Nat.le_refl _) _).alloc (by simp) _).trans (hb1.mono (by simp <;> omega))
              clear hb1 bc
              go_wp2_with fail
              refine (C2 _).mono ?_
              rintro e w2 ⟨rfl, rfl⟩
              go_wp2_with fail
              go_quiet (fail)
              go_wp2_with fail
              go_quiet (fail)
              go_wp2_with fail
              refine (CS r0 (by assumption) (by assumption) _).mono ?_
              rintro e w2 ⟨rfl, rfl⟩
              go_wp2_with fail
              refine (CS r3 (by assumption) (by assumption) _).mono ?_
              rintro e w2 ⟨rfl, rfl⟩
              go_wp2_with fail
              refine bodyPost_ret (v := .tuple #[.agg #[.int .u64 r0, .int .u64 r3, .int .i64 (sg T r0), .int .i64 (sg T r3)], .bool true]) (by simp [results, Try.results39, go_sem, eb0, eb1, eb2, eb3]) rfl ⟨rfl, ?_⟩
              repeat (first | exact B1 | exact below_drewN' B1 _ | apply Below.drew | refine Below.alloc ?_ (by simp <;> omega) _ | refine Below.setCell ?_ (by simp) _)
            · have hlo : tiLo T r0 r1 r2 = r0 := by unfold tiLo tA; (repeat' split) <;> omega
              have hhi : tiHi T r1 r2 r3 = r3 := by unfold tiHi tA; (repeat' split) <;> omega
              have hk : tiK T r0 r1 r2 r3 = 0 := by unfold tiK; rw [hlo, hhi]; unfold tA; (repeat' split) <;> omega
              have H : tiV T r0 r1 r2 r3 = .tuple #[.agg #[.int .u64 0, .int .u64 0, .int .i64 0, .int .i64 0], .bool false] := by unfold tiV; rw [if_pos hk]
              rw [H]
              clear H hk hlo hhi
              clear hF2 hF3
              go_enter Try.func39, Try.ntmps39
              go_wp2_with fail
              refine (CV _).mono ?_
              rintro e w1 ⟨rfl, hb1⟩
              have bc := tbcell hb1
              have hz0 : w.heap.size < w1.heap.size := by have := hb1.size; simp at this; omega
              have hz1 : w.heap.size + 1 < w1.heap.size := by have := hb1.size; simp at this; omega
              have ea0 : w1.cell? ⟨w.heap.size, 0, none⟩ = some (.int .u64 r0) := (bc.1 _ _ (by simp <;> omega)).trans (by simp)
              have ea1 : w1.cell? ⟨w.heap.size, 1, none⟩ = some (.int .u64 r1) := (bc.1 _ _ (by simp <;> omega)).trans (by simp)
              have ea2 : w1.cell? ⟨w.heap.size, 2, none⟩ = some (.int .i64 r2) := (bc.1 _ _ (by simp <;> omega)).trans (by simp)
              have ea3 : w1.cell? ⟨w.heap.size, 3, none⟩ = some (.int .i64 r3) := (bc.1 _ _ (by simp <;> omega)).trans (by simp)
              have eb0 : w1.cell? ⟨w.heap.size + 1, 0, none⟩ = some (.int .u64 0) := (bc.1 _ _ (by simp <;> omega)).trans (by simp)
              have eb1 : w1.cell? ⟨w.heap.size + 1, 1, none⟩ = some (.int .u64 0) := (bc.1 _ _ (by simp <;> omega)).trans (by simp)
              have eb2 : w1.cell? ⟨w.heap.size + 1, 2, none⟩ = some (.int .i64 0) := (bc.1 _ _ (by simp <;> omega)).trans (by simp)
              have eb3 : w1.cell? ⟨w.heap.size + 1, 3, none⟩ = some (.int .i64 0) := (bc.1 _ _ (by simp <;> omega)).trans (by simp)
              have ef0 : w1.frozen? ⟨w.heap.size + 1, 0, none⟩ = false := (bc.2 _ _ (by simp <;> omega)).trans (by simp)
              have ef1 : w1.frozen? ⟨w.heap.size + 1, 1, none⟩ = false := (bc.2 _ _ (by simp <;> omega)).trans (by simp)
              have ef2 : w1.frozen? ⟨w.heap.size + 1, 2, none⟩ = false := (bc.2 _ _ (by simp <;> omega)).trans (by simp)
              have ef3 : w1.frozen? ⟨w.heap.size + 1, 3, none⟩ = false := (bc.2 _ _ (by simp <;> omega)).trans (by simp)
              have B1 : Below w.heap.size w w1 := (((Below.refl w.heap.size w).alloc (Nat.le_refl _) _).alloc (by simp) _).trans (hb1.mono (by simp <;> omega))
              clear hb1 bc
              go_wp2_with fail
              refine (C2 _).mono ?_
              rintro e w2 ⟨rfl, rfl⟩
              go_wp2_with fail
              go_quiet (fail)
              go_wp2_with fail
              go_quiet (fail)
              go_wp2_with fail
              refine bodyPost_ret (v := .tuple #[.agg #[.int .u64 0, .int .u64 0, .int .i64 0, .int .i64 0], .bool false]) (by simp [results, Try.results39, go_sem, eb0, eb1, eb2, eb3]) rfl ⟨rfl, ?_⟩
              repeat (first | exact B1 | exact below_drewN' B1 _ | apply Below.drew | refine Below.alloc ?_ (by simp <;> omega) _ | refine Below.setCell ?_ (by simp) _)
          · by_cases g5 : r0 ≤ r1
            · have hlo : tiLo T r0 r1 r2 = r0 := by unfold tiLo tA; (repeat' split) <;> omega
              have hhi : tiHi T r1 r2 r3 = r1 := by unfold tiHi tA; (repeat' split) <;> omega
              have hk : tiK T r0 r1 r2 r3 = 1 := by unfold tiK; rw [hlo, hhi]; unfold tA; (repeat' split) <;> omega
              have H : tiV T r0 r1 r2 r3 = .tuple #[.agg #[.int .u64 r0, .int .u64 r1, .int .i64 (sg T r0), .int .i64 (sg T r1)], .bool true] := by unfold tiV; rw [if_neg (by omega), if_pos hk, hlo, hhi]
              rw [H]
              clear H hk hlo hhi
              have s1 : 0 ≤ r0 := by omega
              have s2 : r0 ≤ 2 * T + 1 := by omega
              have s3 : 0 ≤ r1 := by omega
              have s4 : r1 ≤ 2 * T + 1 := by omega
              clear hF2 hF3
              go_enter Try.func39, Try.ntmps39
              go_wp2_with fail
              refine (CV _).mono ?_
              rintro e w1 ⟨rfl, hb1⟩
              have bc := tbcell hb1
              have hz0 : w.heap.size < w1.heap.size := by have := hb1.size; simp at this; omega
              have hz1 : w.heap.size + 1 < w1.heap.size := by have := hb1.size; simp at this; omega
              have ea0 : w1.cell? ⟨w.heap.size, 0, none⟩ = some (.int .u64 r0) := (bc.1 _ _ (by simp <;> omega)).trans (by simp)
              have ea1 : w1.cell? ⟨w.heap.size, 1, none⟩ = some (.int .u64 r1) := (bc.1 _ _ (by simp <;> omega)).trans (by simp)
              have ea2 : w1.cell? ⟨w.heap.size, 2, none⟩ = some (.int .i64 r2) := (bc.1 _ _ (by simp <;> omega)).trans (by simp)
              have ea3 : w1.cell? ⟨w.heap.size, 3, none⟩ = some (.int .i64 r3) := (bc.1 _ _ (by simp <;> omega)).trans (by simp)
              have eb0 : w1.cell? ⟨w.heap.size + 1, 0, none⟩ = some (.int .u64 0) := (bc.1 _ _ (by simp <;> omega)).trans (by simp)
              have eb1 : w1.cell? ⟨w.heap.size + 1, 1, none⟩ = some (.int .u64 0) := (bc.1 _ _ (by simp <;> omega)).trans (by simp)
              have eb2 : w1.cell? ⟨w.heap.size + 1, 2, none⟩ = some (.int .i64 0) := (bc.1 _ _ (by simp <;> omega)).trans (by simp)
              have eb3 : w1.cell? ⟨w.heap.size + 1, 3, none⟩ = some (.int .i64 0) := (bc.1 _ _ (by simp <;> omega)).trans (by simp)
              have ef0 : w1.frozen? ⟨w.heap.size + 1, 0, none⟩ = false := (bc.2 _ _ (by simp <;> omega)).trans (by simp)
              have ef1 : w1.frozen? ⟨w.heap.size + 1, 1, none⟩ = false := (bc.2 _ _ (by simp <;> omega)).trans (by simp)
              have ef2 : w1.frozen? ⟨w.heap.size + 1, 2, none⟩ = false := (bc.2 _ _ (by simp <;> omega)).trans (by simp)
              have ef3 : w1.frozen? ⟨w.heap.size + 1, 3, none⟩ = false := (bc.2 _ _ (by simp <;> omega)).trans (by simp)
              have B1 : Below w.heap.size w w1 := (((Below.refl w.heap.size w).alloc (Nat.le_refl _) _).alloc (by simp) _).trans (hb1.mono (by simp <;> omega))
              clear hb1 bc
              go_wp2_with fail
              refine (C2 _).mono ?_
              rintro e w2 ⟨rfl, rfl⟩
              go_wp2_with fail
              go_quiet (fail)
              go_wp2_with fail
              go_quiet (fail)
              go_wp2_with fail
              refine (CS r0 (by assumption) (by assumption) _).mono ?_
              rintro e w2 ⟨rfl, rfl⟩
              go_wp2_with fail
              refine (CS r1 (by assumption) (by assumption) _).mono ?_
              rintro e w2 ⟨rfl, rfl⟩
              go_wp2_with fail
              refine bodyPost_ret (v := .tuple #[.agg #[.int .u64 r0, .int .u64 r1, .int .i64 (sg T r0), .int .i64 (sg T r1)], .bool true]) (by simp [results, Try.results39, go_sem, eb0, eb1, eb2, eb3]) rfl ⟨rfl, ?_⟩
              repeat (first | exact B1 | exact below_drewN' B1 _ | apply Below.drew | refine Below.alloc ?_ (by simp <;> omega) _ | refine Below.setCell ?_ (by simp) _)
            · exfalso; omega
      · by_cases g3 : r3 < r1
        · by_cases g4 : r0 ≤ r3
          · have hlo : tiLo T r0 r1 r2 = r0 := by unfold tiLo tA; (repeat' split) <;> omega
            have hhi : tiHi T r1 r2 r3 = r3 := by unfold tiHi tA; (repeat' split) <;> omega
            have hk : tiK T r0 r1 r2 r3 = 1 := by unfold tiK; rw [hlo, hhi]; unfold tA; (repeat' split) <;> omega
            have H : tiV T r0 r1 r2 r3 = .tuple #[.agg #[.int .u64 r0, .int .u64 r3, .int .i64 (sg T r0), .int .i64 (sg T r3)], .bool true] := by unfold tiV; rw [if_neg (by omega), if_pos hk, hlo, hhi]
            rw [H]
            clear H hk hlo hhi
            have s1 : 0 ≤ r0 := by omega
            have s2 : r0 ≤ 2 * T + 1 := by omega
            have s3 : 0 ≤ r3 := by omega
            have s4 : r3 ≤ 2 * T + 1 := by omega
            clear hF2 hF3
            go_enter Try.func39, Try.ntmps39
            go_wp2_with fail
            refine (CV _).mono ?_
            rintro e w1 ⟨rfl, hb1⟩
            have bc := tbcell hb1
            have hz0 : w.heap.size < w1.heap.size := by have := hb1.size; simp at this; omega
            have hz1 : w.heap.size + 1 < w1.heap.size := by have := hb1.size; simp at this; omega
            have ea0 : w1.cell? ⟨w.heap.size, 0, none⟩ = some (.int .u64 r0) := (bc.1 _ _ (by simp <;> omega)).trans (by simp)
            have ea1 : w1.cell? ⟨w.heap.size, 1, none⟩ = some (.int .u64 r1) := (bc.1 _ _ (by simp <;> omega)).trans (by simp)
            have ea2 : w1.cell? ⟨w.heap.size, 2, none⟩ = some (.int .i64 r2) := (bc.1 _ _ (by simp <;> omega)).trans (by simp)
            have ea3 : w1.cell? ⟨w.heap.size, 3, none⟩ = some (.int .i64 r3) := (bc.1 _ _ (by simp <;> omega)).trans (by simp)
            have eb0 : w1.cell? ⟨w.heap.size + 1, 0, none⟩ = some (.int .u64 0) := (bc.1 _ _ (by simp <;> omega)).trans (by simp)
            have eb1 : w1.cell? ⟨w.heap.size + 1, 1, none⟩ = some (.int .u64 0) := (bc.1 _ _ (by simp <;> omega)).trans (by simp)
            have eb2 : w1.cell? ⟨w.heap.size + 1, 2, none⟩ = some (.int .i64 0) := (bc.1 _ _ (by simp <;> omega)).trans (by simp)
            have eb3 : w1.cell? ⟨w.heap.size + 1, 3, none⟩ = some (.int .i64 0) := (bc.1 _ _ (by simp <;> omega)).trans (by simp)
            have ef0 : w1.frozen? ⟨w.heap.size + 1, 0, none⟩ = false := (bc.2 _ _ (by simp <;> omega)).trans (by simp)
            have ef1 : w1.frozen? ⟨w.heap.size + 1, 1, none⟩ = false := (bc.2 _ _ (by simp <;> omega)).trans (by simp)
            have ef2 : w1.frozen? ⟨w.heap.size + 1, 2, none⟩ = false := (bc.2 _ _ (by simp <;> omega)).trans (by simp)
            have ef3 : w1.frozen? ⟨w.heap.size + 1, 3, none⟩ = false := (bc.2 _ _ (by simp <;> omega)).trans (by simp)
            have B1 : Below w.heap.size w w1 := (((Below.refl w.heap.size w).alloc (Nat.le_refl _) _).alloc (by simp) _).trans (hb1.mono (by simp <;> omega))
            clear hb1 bc
            go_wp2_with fail
            refine (C2 _).mono ?_
            rintro e w2 ⟨rfl, rfl⟩
            go_wp2_with fail
            go_quiet (fail)
            go_wp2_with fail
            go_quiet (fail)
            go_wp2_with fail
            refine (CS r0 (by assumption) (by assumption) _).mono ?_
            rintro e w2 ⟨rfl, rfl⟩
            go_wp2_with fail
            refine (CS r3 (by assumption) (by assumption) _).mono ?_
            rintro e w2 ⟨rfl, rfl⟩
            go_wp2_with fail
            refine bodyPost_ret (v := .tuple #[.agg #[.int .u64 r0, .int .u64 r3, .int .i64 (sg T r0), .int .i64 (sg T r3)], .bool true]) (by simp [results, Try.results39, go_sem, eb0, eb1, eb2, eb3]) rfl ⟨rfl, ?_⟩
            repeat (first | exact B1 | exact below_drewN' B1 _ | apply Below.drew | refine Below.alloc ?_ (by simp <;> omega) _ | refine Below.setCell ?_ (by simp) _)
          · have hlo : tiLo T r0 r1 r2 = r0 := by unfold tiLo tA; (repeat' split) <;> omega
            have hhi : tiHi T r1 r2 r3 = r3 := by unfold tiHi tA; (repeat' split) <;> omega
            have hk : tiK T r0 r1 r2 r3 = 0 := by unfold tiK; rw [hlo, hhi]; unfold tA; (repeat' split) <;> omega
            have H : tiV T r0 r1 r2 r3 = .tuple #[.agg #[.int .u64 0, .int .u64 0, .int .i64 0, .int .i64 0], .bool false] := by unfold tiV; rw [if_pos hk]
            rw [H]
            clear H hk hlo hhi
            clear hF2 hF3
            go_enter Try.func39, Try.ntmps39
            go_wp2_with fail
            refine (CV _).mono ?_
            rintro e w1 ⟨rfl, hb1⟩
            have bc := tbcell hb1
            have hz0 : w.heap.size < w1.heap.size := by have := hb1.size; simp at this; omega
            have hz1 : w.heap.size + 1 < w1.heap.size := by have := hb1.size; simp at this; omega
            have ea0 : w1.cell? ⟨w.heap.size, 0, none⟩ = some (.int .u64 r0) := (bc.1 _ _ (by simp <;> omega)).trans (by simp)
            have ea1 : w1.cell? ⟨w.heap.size, 1, none⟩ = some (.int .u64 r1) := (bc.1 _ _ (by simp <;> omega)).trans (by simp)
            have ea2 : w1.cell? ⟨w.heap.size, 2, none⟩ = some (.int .i64 r2) := (bc.1 _ _ (by simp <;> omega)).trans (by simp)
            have ea3 : w1.cell? ⟨w.heap.size, 3, none⟩ = some (.int .i64 r3) := (bc.1 _ _ (by simp <;> omega)).trans (by simp)
            have eb0 : w1.cell? ⟨w.heap.size + 1, 0, none⟩ = some (.int .u64 0) := (bc.1 _ _ (by simp <;> omega)).trans (by simp)
            have eb1 : w1.cell? ⟨w.heap.size + 1, 1, none⟩ = some (.int .u64 0) := (bc.1 _ _ (by simp <;> omega)).trans (by simp)
            have eb2 : w1.cell? ⟨w.heap.size + 1, 2, none⟩ = some (.int .i64 0) := (bc.1 _ _ (by simp <;> omega)).trans (by simp)
            have eb3 : w1.cell? ⟨w.heap.size + 1, 3, none⟩ = some (.int .i64 0) := (bc.1 _ _ (by simp <;> omega)).trans (by simp)
            have ef0 : w1.frozen? ⟨w.heap.size + 1, 0, none⟩ = false := (bc.2 _ _ (by simp <;> omega)).trans (by simp)
            have ef1 : w1.frozen? ⟨w.heap.size + 1, 1, none⟩ = false := (bc.2 _ _ (by simp <;> omega)).trans (by simp)
            have ef2 : w1.frozen? ⟨w.heap.size + 1, 2, none⟩ = false := (bc.2 _ _ (by simp <;> omega)).trans (by simp)
            have ef3 : w1.frozen? ⟨w.heap.size + 1, 3, none⟩ = false := (bc.2 _ _ (by simp <;> omega)).trans (by simp)
            have B1 : Below w.heap.size w w1 := (((Below.refl w.heap.size w).alloc (Nat.le_refl _) _).alloc (by simp) _).trans (hb1.mono (by simp <;> omega))
            clear hb1 bc
            go_wp2_with fail
            refine (C2 _).mono ?_
            rintro e w2 ⟨rfl, rfl⟩
            go_wp2_with fail
            go_quiet (fail)
            go_wp2_with fail
            go_quiet (fail)
            go_wp2_with fail
            refine bodyPost_ret (v := .tuple #[.agg #[.int .u64 0, .int .u64 0, .int .i64 0, .int .i64 0], .bool false]) (by simp [results, Try.results39, go_sem, eb0, eb1, eb2, eb3]) rfl ⟨rfl, ?_⟩
            repeat (first | exact B1 | exact below_drewN' B1 _ | apply Below.drew | refine Below.alloc ?_ (by simp <;> omega) _ | refine Below.setCell ?_ (by simp) _)
        · by_cases g4 : r0 ≤ r1
          · have hlo : tiLo T r0 r1 r2 = r0 := by unfold tiLo tA; (repeat' split) <;> omega
            have hhi : tiHi T r1 r2 r3 = r1 := by unfold tiHi tA; (repeat' split) <;> omega
            have hk : tiK T r0 r1 r2 r3 = 1 := by unfold tiK; rw [hlo, hhi]; unfold tA; (repeat' split) <;> omega
            have H : tiV T r0 r1 r2 r3 = .tuple #[.agg #[.int .u64 r0, .int .u64 r1, .int .i64 (sg T r0), .int .i64 (sg T r1)], .bool true] := by unfold tiV; rw [if_neg (by omega), if_pos hk, hlo, hhi]
            rw [H]
            clear H hk hlo hhi
            have s1 : 0 ≤ r0 := by omega
            have s2 : r0 ≤ 2 * T + 1 := by omega
            have s3 : 0 ≤ r1 := by omega
            have s4 : r1 ≤ 2 * T + 1 := by omega
            clear hF2 hF3
            go_enter Try.func39, Try.ntmps39
            go_wp2_with fail
            refine (CV _).mono ?_
            rintro e w1 ⟨rfl, hb1⟩
            have bc := tbcell hb1
            have hz0 : w.heap.size < w1.heap.size := by have := hb1.size; simp at this; omega
            have hz1 : w.heap.size + 1 < w1.heap.size := by have := hb1.size; simp at this; omega
            have ea0 : w1.cell? ⟨w.heap.size, 0, none⟩ = some (.int .u64 r0) := (bc.1 _ _ (by simp <;> omega)).trans (by simp)
            have ea1 : w1.cell? ⟨w.heap.size, 1, none⟩ = some (.int .u64 r1) := (bc.1 _ _ (by simp <;> omega)).trans (by simp)
            have ea2 : w1.cell? ⟨w.heap.size, 2, none⟩ = some (.int .i64 r2) := (bc.1 _ _ (by simp <;> omega)).trans (by simp)
            have ea3 : w1.cell? ⟨w.heap.size, 3, none⟩ = some (.int .i64 r3) := (bc.1 _ _ (by simp <;> omega)).trans (by simp)
            have eb0 : w1.cell? ⟨w.heap.size + 1, 0, none⟩ = some (.int .u64 0) := (bc.1 _ _ (by simp <;> omega)).trans (by simp)
            have eb1 : w1.cell? ⟨w.heap.size + 1, 1, none⟩ = some (.int .u64 0) := (bc.1 _ _ (by simp <;> omega)).trans (by simp)
            have eb2 : w1.cell? ⟨w.heap.size + 1, 2, none⟩ = some (.int .i64 0) := (bc.1 _ _ (by simp <;> omega)).trans (by simp)
            have eb3 : w1.cell? ⟨w.heap.size + 1, 3, none⟩ = some (.int .i64 0) := (bc.1 _ _ (by simp <;> omega)).trans (by simp)
            have ef0 : w1.frozen? ⟨w.heap.size + 1, 0, none⟩ = false := (bc.2 _ _ (by simp <;> omega)).trans (by simp)
            have ef1 : w1.frozen? ⟨w.heap.size + 1, 1, none⟩ = false := (bc.2 _ _ (by simp <;> omega)).trans (by simp)
            have ef2 : w1.frozen? ⟨w.heap.size + 1, 2, none⟩ = false := (bc.2 _ _ (by simp <;> omega)).trans (by simp)
            have ef3 : w1.frozen? ⟨w.heap.size + 1, 3, none⟩ = false := (bc.2 _ _ (by simp <;> omega)).trans (by simp)
            have B1 : Below w.heap.size w w1 := (((Below.refl w.heap.size w).alloc (Nat.le_refl _) _).alloc (by simp) _).trans (hb1.mono (by simp <;> omega))
            clear hb1 bc
            go_wp2_with fail
            refine (C2 _).mono ?_
            rintro e w2 ⟨rfl, rfl⟩
            go_wp2_with fail
            go_quiet (fail)
            go_wp2_with fail
            go_quiet (fail)
            go_wp2_with fail
            refine (CS r0 (by assumption) (by assumption) _).mono ?_
            rintro e w2 ⟨rfl, rfl⟩
            go_wp2_with fail
            refine (CS r1 (by assumption) (by assumption) _).mono ?_
            rintro e w2 ⟨rfl, rfl⟩
            go_wp2_with fail
            refine bodyPost_ret (v := .tuple #[.agg #[.int .u64 r0, .int .u64 r1, .int .i64 (sg T r0), .int .i64 (sg T r1)], .bool true]) (by simp [results, Try.results39, go_sem, eb0, eb1, eb2, eb3]) rfl ⟨rfl, ?_⟩
            repeat (first | exact B1 | exact below_drewN' B1 _ | apply Below.drew | refine Below.alloc ?_ (by simp <;> omega) _ | refine Below.setCell ?_ (by simp) _)
          · exfalso; omega
  · by_cases g1 : 0 ≤ r2
    · by_cases g2 : r3 < 0
      · exfalso; omega
      · by_cases g3 : r0 < r2
        · by_cases g4 : r3 < r1
          · by_cases g5 : r2 ≤ r3
            · have hlo : tiLo T r0 r1 r2 = r2 := by unfold tiLo tA; (repeat' split) <;> omega
              have hhi : tiHi T r1 r2 r3 = r3 := by unfold tiHi tA; (repeat' split) <;> omega
              have hk : tiK T r0 r1 r2 r3 = 1 := by unfold tiK; rw [hlo, hhi]; unfold tA; (repeat' split) <;> omega
              have H : tiV T r0 r1 r2 r3 = .tuple #[.agg #[.int .u64 r2, .int .u64 r3, .int .i64 (sg T r2), .int .i64 (sg T r3)], .bool true] := by unfold tiV; rw [if_neg (by omega), if_pos hk, hlo, hhi]
              rw [H]
              clear H hk hlo hhi
              have s1 : 0 ≤ r2 := by omega
              have s2 : r2 ≤ 2 * T + 1 := by omega
              have s3 : 0 ≤ r3 := by omega
              have s4 : r3 ≤ 2 * T + 1 := by omega
              clear hF2 hF3
              go_enter Try.func39, Try.ntmps39
              go_wp2_with fail
              refine (CV _).mono ?_
              rintro e w1 ⟨rfl, hb1⟩
              have bc := tbcell hb1
              have hz0 : w.heap.size < w1.heap.size := by have := hb1.size; simp at this; omega
              have hz1 : w.heap.size + 1 < w1.heap.size := by have := hb1.size; simp at this; omega
              have ea0 : w1.cell? ⟨w.heap.size, 0, none⟩ = some (.int .u64 r0) := (bc.1 _ _ (by simp <;> omega)).trans (by simp)
              have ea1 : w1.cell? ⟨w.heap.size, 1, none⟩ = some (.int .u64 r1) := (bc.1 _ _ (by simp <;> omega)).trans (by simp)
              have ea2 : w1.cell? ⟨w.heap.size, 2, none⟩ = some (.int .i64 r2) := (bc.1 _ _ (by simp <;> omega)).trans (by simp)
              have ea3 : w1.cell? ⟨w.heap.size, 3, none⟩ = some (.int .i64 r3) := (bc.1 _ _ (by simp <;> omega)).trans (by simp)
              have eb0 : w1.cell? ⟨w.heap.size + 1, 0, none⟩ = some (.int .u64 0) := (bc.1 _ _ (by simp <;> omega)).trans (by simp)
              have eb1 : w1.cell? ⟨w.heap.size + 1, 1, none⟩ = some (.int .u64 0) := (bc.1 _ _ (by simp <;> omega)).trans (by simp)
              have eb2 : w1.cell? ⟨w.heap.size + 1, 2, none⟩ = some (.int .i64 0) := (bc.1 _ _ (by simp <;> omega)).trans (by simp)
              have eb3 : w1.cell? ⟨w.heap.size + 1, 3, none⟩ = some (.int .i64 0) := (bc.1 _ _ (by simp <;> omega)).trans (by simp)
              have ef0 : w1.frozen? ⟨w.heap.size + 1, 0, none⟩ = false := (bc.2 _ _ (by simp <;> omega)).trans (by simp)
              have ef1 : w1.frozen? ⟨w.heap.size + 1, 1, none⟩ = false := (bc.2 _ _ (by simp <;> omega)).trans (by simp)
              have ef2 : w1.frozen? ⟨w.heap.size + 1, 2, none⟩ = false := (bc.2 _ _ (by simp <;> omega)).trans (by simp)
              have ef3 : w1.frozen? ⟨w.heap.size + 1, 3, none⟩ = false := (bc.2 _ _ (by simp <;> omega)).trans (by simp)
              have B1 : Below w.heap.size w w1 := (((Below.refl w.heap.size w).alloc (Nat.le_refl _) _).alloc (by simp) _).trans (hb1.mono (by simp <;> omega))
              clear hb1 bc
              go_wp2_with fail
              refine (C2 _).mono ?_
              rintro e w2 ⟨rfl, rfl⟩
              go_wp2_with fail
              go_quiet (fail)
              go_wp2_with fail
              go_quiet (fail)
              go_wp2_with fail
              refine (CS r2 (by assumption) (by assumption) _).mono ?_
              rintro e w2 ⟨rfl, rfl⟩
              go_wp2_with fail
              refine (CS r3 (by assumption) (by assumption) _).mono ?_
              rintro e w2 ⟨rfl, rfl⟩
              go_wp2_with fail
              refine bodyPost_ret (v := .tuple #[.agg #[.int .u64 r2, .int .u64 r3, .int .i64 (sg T r2), .int .i64 (sg T r3)], .bool true]) (by simp [results, Try.results39, go_sem, eb0, eb1, eb2, eb3]) rfl ⟨rfl, ?_⟩
              repeat (first | exact B1 | exact below_drewN' B1 _ | apply Below.drew | refine Below.alloc ?_ (by simp <;> omega) _ | refine Below.setCell ?_ (by simp) _)
            · exfalso; omega
          · exfalso; omega
        · by_cases g4 : r3 < r1
          · by_cases g5 : r0 ≤ r3
            · have hlo : tiLo T r0 r1 r2 = r0 := by unfold tiLo tA; (repeat' split) <;> omega
              have hhi : tiHi T r1 r2 r3 = r3 := by unfold tiHi tA; (repeat' split) <;> omega
              have hk : tiK T r0 r1 r2 r3 = 1 := by unfold tiK; rw [hlo, hhi]; unfold tA; (repeat' split) <;> omega
              have H : tiV T r0 r1 r2 r3 = .tuple #[.agg #[.int .u64 r0, .int .u64 r3, .int .i64 (sg T r0), .int .i64 (sg T r3)], .bool true] := by unfold tiV; rw [if_neg (by omega), if_pos hk, hlo, hhi]
              rw [H]
              clear H hk hlo hhi
              have s1 : 0 ≤ r0 := by omega
              have s2 : r0 ≤ 2 * T + 1 := by omega
              have s3 : 0 ≤ r3 := by omega
              have s4 : r3 ≤ 2 * T + 1 := by omega
              clear hF2 hF3
              go_enter Try.func39, Try.ntmps39
              go_wp2_with fail
              refine (CV _).mono ?_
              rintro e w1 ⟨rfl, hb1⟩
              have bc := tbcell hb1
              have hz0 : w.heap.size < w1.heap.size := by have := hb1.size; simp at this; omega
              have hz1 : w.heap.size + 1 < w1.heap.size := by have := hb1.size; simp at this; omega
              have ea0 : w1.cell? ⟨w.heap.size, 0, none⟩ = some (.int .u64 r0) := (bc.1 _ _ (by simp <;> omega)).trans (by simp)
              have ea1 : w1.cell? ⟨w.heap.size, 1, none⟩ = some (.int .u64 r1) := (bc.1 _ _ (by simp <;> omega)).trans (by simp)
              have ea2 : w1.cell? ⟨w.heap.size, 2, none⟩ = some (.int .i64 r2) := (bc.1 _ _ (by simp <;> omega)).trans (by simp)
              have ea3 : w1.cell? ⟨w.heap.size, 3, none⟩ = some (.int .i64 r3) := (bc.1 _ _ (by simp <;> omega)).trans (by simp)
              have eb0 : w1.cell? ⟨w.heap.size + 1, 0, none⟩ = some (.int .u64 0) := (bc.1 _ _ (by simp <;> omega)).trans (by simp)
              have eb1 : w1.cell? ⟨w.heap.size + 1, 1, none⟩ = some (.int .u64 0) := (bc.1 _ _ (by simp <;> omega)).trans (by simp)
              have eb2 : w1.cell? ⟨w.heap.size + 1, 2, none⟩ = some (.int .i64 0) := (bc.1 _ _ (by simp <;> omega)).trans (by simp)
              have eb3 : w1.cell? ⟨w.heap.size + 1, 3, none⟩ = some (.int .i64 0) := (bc.1 _ _ (by simp <;> omega)).trans (by simp)
              have ef0 : w1.frozen? ⟨w.heap.size + 1, 0, none⟩ = false := (bc.2 _ _ (by simp <;> omega)).trans (by simp)
              have ef1 : w1.frozen? ⟨w.heap.size + 1, 1, none⟩ = false := (bc.2 _ _ (by simp <;> omega)).trans (by simp)
              have ef2 : w1.frozen? ⟨w.heap.size + 1, 2, none⟩ = false := (bc.2 _ _ (by simp <;> omega)).trans (by simp)
              have ef3 : w1.frozen? ⟨w.heap.size + 1, 3, none⟩ = false := (bc.2 _ _ (by simp <;> omega)).trans (by simp)
              have B1 : Below w.heap.size w w1 := (((Below.refl w.heap.size w).alloc (Nat.le_refl _) _).alloc (by simp) _).trans (hb1.mono (by simp <;> omega))
              clear hb1 bc
              go_wp2_with fail
              refine (C2 _).mono ?_
              rintro e w2 ⟨rfl, rfl⟩
              go_wp2_with fail
              go_quiet (fail)
              go_wp2_with fail
              go_quiet (fail)
              go_wp2_with fail
              refine (CS r0 (by assumption) (by assumption) _).mono ?_
              rintro e w2 ⟨rfl, rfl⟩
              go_wp2_with fail
              refine (CS r3 (by assumption) (by assumption) _).mono ?_
              rintro e w2 ⟨rfl, rfl⟩
              go_wp2_with fail
              refine bodyPost_ret (v := .tuple #[.agg #[.int .u64 r0, .int .u64 r3, .int .i64 (sg T r0), .int .i64 (sg T r3)], .bool true]) (by simp [results, Try.results39, go_sem, eb0, eb1, eb2, eb3]) rfl ⟨rfl, ?_⟩
              repeat (first | exact B1 | exact below_drewN' B1 _ | apply Below.drew | refine Below.alloc ?_ (by simp <;> omega) _ | refine Below.setCell ?_ (by simp) _)
            · have hlo : tiLo T r0 r1 r2 = r0 := by unfold tiLo tA; (repeat' split) <;> omega
              have hhi : tiHi T r1 r2 r3 = r3 := by unfold tiHi tA; (repeat' split) <;> omega
              have hk : tiK T r0 r1 r2 r3 = 0 := by unfold tiK; rw [hlo, hhi]; unfold tA; (repeat' split) <;> omega
              have H : tiV T r0 r1 r2 r3 = .tuple #[.agg #[.int .u64 0, .int .u64 0, .int .i64 0, .int .i64 0], .bool false] := by unfold tiV; rw [if_pos hk]
              rw [H]
              clear H hk hlo hhi
              clear hF2 hF3
              go_enter Try.func39, Try.ntmps39
              go_wp2_with fail
              refine (CV _).mono ?_
              rintro e w1 ⟨rfl, hb1⟩
              have bc := tbcell hb1
              have hz0 : w.heap.size < w1.heap.size := by have := hb1.size; simp at this; omega
              have hz1 : w.heap.size + 1 < w1.heap.size := by have := hb1.size; simp at this; omega
              have ea0 : w1.cell? ⟨w.heap.size, 0, none⟩ = some (.int .u64 r0) := (bc.1 _ _ (by simp <;> omega)).trans (by simp)
              have ea1 : w1.cell? ⟨w.heap.size, 1, none⟩ = some (.int .u64 r1) := (bc.1 _ _ (by simp <;> omega)).trans (by simp)
              have ea2 : w1.cell? ⟨w.heap.size, 2, none⟩ = some (.int .i64 r2) := (bc.1 _ _ (by simp <;> omega)).trans (by simp)
              have ea3 : w1.cell? ⟨w.heap.size, 3, none⟩ = some (.int .i64 r3) := (bc.1 _ _ (by simp <;> omega)).trans (by simp)
              have eb0 : w1.cell? ⟨w.heap.size + 1, 0, none⟩ = some (.int .u64 0) := (bc.1 _ _ (by simp <;> omega)).trans (by simp)
              have eb1 : w1.cell? ⟨w.heap.size + 1, 1, none⟩ = some (.int .u64 0) := (bc.1 _ _ (by simp <;> omega)).trans (by simp)
              have eb2 : w1.cell? ⟨w.heap.size + 1, 2, none⟩ = some (.int .i64 0) := (bc.1 _ _ (by simp <;> omega)).trans (by simp)
              have eb3 : w1.cell? ⟨w.heap.size + 1, 3, none⟩ = some (.int .i64 0) := (bc.1 _ _ (by simp <;> omega)).trans (by simp)
              have ef0 : w1.frozen? ⟨w.heap.size + 1, 0, none⟩ = false := (bc.2 _ _ (by simp <;> omega)).trans (by simp)
              have ef1 : w1.frozen? ⟨w.heap.size + 1, 1, none⟩ = false := (bc.2 _ _ (by simp <;> omega)).trans (by simp)
              have ef2 : w1.frozen? ⟨w.heap.size + 1, 2, none⟩ = false := (bc.2 _ _ (by simp <;> omega)).trans (by simp)
              have ef3 : w1.frozen? ⟨w.heap.size + 1, 3, none⟩ = false := (bc.2 _ _ (by simp <;> omega)).trans (by simp)
              have B1 : Below w.heap.size w w1 := (((Below.refl w.heap.size w).alloc (Nat.le_refl _) _).alloc (by simp) _).trans (hb1.mono (by simp <;> omega))
              clear hb1 bc
              go_wp2_with fail
              refine (C2 _).mono ?_
              rintro e w2 ⟨rfl, rfl⟩
              go_wp2_with fail
              go_quiet (fail)
              go_wp2_with fail
              go_quiet (fail)
              go_wp2_with fail
              refine bodyPost_ret (v := .tuple #[.agg #[.int .u64 0, .int .u64 0, .int .i64 0, .int .i64 0], .bool false]) (by simp [results, Try.results39, go_sem, eb0, eb1, eb2, eb3]) rfl ⟨rfl, ?_⟩
              repeat (first | exact B1 | exact below_drewN' B1 _ | apply Below.drew | refine Below.alloc ?_ (by simp <;> omega) _ | refine Below.setCell ?_ (by simp) _)
          · exfalso; omega
    · by_cases g2 : T < r0
      · by_cases g3 : r0 < F2
        · by_cases g4 : r3 < 0
          · by_cases g5 : F3 < r1
            · by_cases g6 : F2 ≤ F3
              · have hlo : tiLo T r0 r1 r2 = F2 := by unfold tiLo tA; (repeat' split) <;> omega
                have hhi : tiHi T r1 r2 r3 = F3 := by unfold tiHi tA; (repeat' split) <;> omega
                have hk : tiK T r0 r1 r2 r3 = 1 := by unfold tiK; rw [hlo, hhi]; unfold tA; (repeat' split) <;> omega
                have H : tiV T r0 r1 r2 r3 = .tuple #[.agg #[.int .u64 F2, .int .u64 F3, .int .i64 (sg T F2), .int .i64 (sg T F3)], .bool true] := by unfold tiV; rw [if_neg (by omega), if_pos hk, hlo, hhi]
                rw [H]
                clear H hk hlo hhi
                have n2 : r2 < 0 := by omega
                have n3 : T + 1 ≤ F2 := by omega
                have n4 : F2 ≤ 2 * T + 1 := by omega
                have n5 : ¬ F2 < T + 1 := by omega
                have m3 : T + 1 ≤ F3 := by omega
                have m4 : F3 ≤ 2 * T + 1 := by omega
                have s1 : 0 ≤ F2 := by omega
                have s2 : F2 ≤ 2 * T + 1 := by omega
                have s3 : 0 ≤ F3 := by omega
                have s4 : F3 ≤ 2 * T + 1 := by omega
                clear hF2 hF3
                go_enter Try.func39, Try.ntmps39
                go_wp2_with fail
                refine (CV _).mono ?_
                rintro e w1 ⟨rfl, hb1⟩
                have bc := tbcell hb1
                have hz0 : w.heap.size < w1.heap.size := by have := hb1.size; simp at this; omega
                have hz1 : w.heap.size + 1 < w1.heap.size := by have := hb1.size; simp at this; omega
                have ea0 : w1.cell? ⟨w.heap.size, 0, none⟩ = some (.int .u64 r0) := (bc.1 _ _ (by simp <;> omega)).trans (by simp)
                have ea1 : w1.cell? ⟨w.heap.size, 1, none⟩ = some (.int .u64 r1) := (bc.1 _ _ (by simp <;> omega)).trans (by simp)
                have ea2 : w1.cell? ⟨w.heap.size, 2, none⟩ = some (.int .i64 r2) := (bc.1 _ _ (by simp <;> omega)).trans (by simp)
                have ea3 : w1.cell? ⟨w.heap.size, 3, none⟩ = some (.int .i64 r3) := (bc.1 _ _ (by simp <;> omega)).trans (by simp)
                have eb0 : w1.cell? ⟨w.heap.size + 1, 0, none⟩ = some (.int .u64 0) := (bc.1 _ _ (by simp <;> omega)).trans (by simp)
                have eb1 : w1.cell? ⟨w.heap.size + 1, 1, none⟩ = some (.int .u64 0) := (bc.1 _ _ (by simp <;> omega)).trans (by simp)
                have eb2 : w1.cell? ⟨w.heap.size + 1, 2, none⟩ = some (.int .i64 0) := (bc.1 _ _ (by simp <;> omega)).trans (by simp)
                have eb3 : w1.cell? ⟨w.heap.size + 1, 3, none⟩ = some (.int .i64 0) := (bc.1 _ _ (by simp <;> omega)).trans (by simp)
                have ef0 : w1.frozen? ⟨w.heap.size + 1, 0, none⟩ = false := (bc.2 _ _ (by simp <;> omega)).trans (by simp)
                have ef1 : w1.frozen? ⟨w.heap.size + 1, 1, none⟩ = false := (bc.2 _ _ (by simp <;> omega)).trans (by simp)
                have ef2 : w1.frozen? ⟨w.heap.size + 1, 2, none⟩ = false := (bc.2 _ _ (by simp <;> omega)).trans (by simp)
                have ef3 : w1.frozen? ⟨w.heap.size + 1, 3, none⟩ = false := (bc.2 _ _ (by simp <;> omega)).trans (by simp)
                have B1 : Below w.heap.size w w1 := (((Below.refl w.heap.size w).alloc (Nat.le_refl _) _).alloc (by simp) _).trans (hb1.mono (by simp <;> omega))
                clear hb1 bc
                go_wp2_with fail
                refine (C2 _).mono ?_
                rintro e w2 ⟨rfl, rfl⟩
                go_wp2_with fail
                go_quiet (fail)
                go_wp2_with fail
                refine (CF2 (by assumption) _).mono ?_
                rintro e w2 ⟨rfl, rfl⟩
                go_wp2_with fail
                refine (CF3 (by assumption) _).mono ?_
                rintro e w2 ⟨rfl, rfl⟩
                go_wp2_with fail
                refine (CS F2 (by assumption) (by assumption) _).mono ?_
                rintro e w2 ⟨rfl, rfl⟩
                go_wp2_with fail
                refine (CS F3 (by assumption) (by assumption) _).mono ?_
                rintro e w2 ⟨rfl, rfl⟩
                go_wp2_with fail
                refine bodyPost_ret (v := .tuple #[.agg #[.int .u64 F2, .int .u64 F3, .int .i64 (sg T F2), .int .i64 (sg T F3)], .bool true]) (by simp [results, Try.results39, go_sem, eb0, eb1, eb2, eb3]) rfl ⟨rfl, ?_⟩
                repeat (first | exact B1 | exact below_drewN' B1 _ | apply Below.drew | refine Below.alloc ?_ (by simp <;> omega) _ | refine Below.setCell ?_ (by simp) _)
              · exfalso; omega
            · by_cases g6 : F2 ≤ r1
              · have hlo : tiLo T r0 r1 r2 = F2 := by unfold tiLo tA; (repeat' split) <;> omega
                have hhi : tiHi T r1 r2 r3 = r1 := by unfold tiHi tA; (repeat' split) <;> omega
                have hk : tiK T r0 r1 r2 r3 = 1 := by unfold tiK; rw [hlo, hhi]; unfold tA; (repeat' split) <;> omega
                have H : tiV T r0 r1 r2 r3 = .tuple #[.agg #[.int .u64 F2, .int .u64 r1, .int .i64 (sg T F2), .int .i64 (sg T r1)], .bool true] := by unfold tiV; rw [if_neg (by omega), if_pos hk, hlo, hhi]
                rw [H]
                clear H hk hlo hhi
                have n2 : r2 < 0 := by omega
                have n3 : T + 1 ≤ F2 := by omega
                have n4 : F2 ≤ 2 * T + 1 := by omega
                have n5 : ¬ F2 < T + 1 := by omega
                have m3 : T + 1 ≤ F3 := by omega
                have m4 : F3 ≤ 2 * T + 1 := by omega
                have s1 : 0 ≤ F2 := by omega
                have s2 : F2 ≤ 2 * T + 1 := by omega
                have s3 : 0 ≤ r1 := by omega
                have s4 : r1 ≤ 2 * T + 1 := by omega
                clear hF2 hF3
                go_enter Try.func39, Try.ntmps39
                go_wp2_with fail
                refine (CV _).mono ?_
                rintro e w1 ⟨rfl, hb1⟩
                have bc := tbcell hb1
                have hz0 : w.heap.size < w1.heap.size := by have := hb1.size; simp at this; omega
                have hz1 : w.heap.size + 1 < w1.heap.size := by have := hb1.size; simp at this; omega
                have ea0 : w1.cell? ⟨w.heap.size, 0, none⟩ = some (.int .u64 r0) := (bc.1 _ _ (by simp <;> omega)).trans (by simp)
                have ea1 : w1.cell? ⟨w.heap.size, 1, none⟩ = some (.int .u64 r1) := (bc.1 _ _ (by simp <;> omega)).trans (by simp)
                have ea2 : w1.cell? ⟨w.heap.size, 2, none⟩ = some (.int .i64 r2) := (bc.1 _ _ (by simp <;> omega)).trans (by simp)
                have ea3 : w1.cell? ⟨w.heap.size, 3, none⟩ = some (.int .i64 r3) := (bc.1 _ _ (by simp <;> omega)).trans (by simp)
                have eb0 : w1.cell? ⟨w.heap.size + 1, 0, none⟩ = some (.int .u64 0) := (bc.1 _ _ (by simp <;> omega)).trans (by simp)
                have eb1 : w1.cell? ⟨w.heap.size + 1, 1, none⟩ = some (.int .u64 0) := (bc.1 _ _ (by simp <;> omega)).trans (by simp)
                have eb2 : w1.cell? ⟨w.heap.size + 1, 2, none⟩ = some (.int .i64 0) := (bc.1 _ _ (by simp <;> omega)).trans (by simp)
                have eb3 : w1.cell? ⟨w.heap.size + 1, 3, none⟩ = some (.int .i64 0) := (bc.1 _ _ (by simp <;> omega)).trans (by simp)
                have ef0 : w1.frozen? ⟨w.heap.size + 1, 0, none⟩ = false := (bc.2 _ _ (by simp <;> omega)).trans (by simp)
                have ef1 : w1.frozen? ⟨w.heap.size + 1, 1, none⟩ = false := (bc.2 _ _ (by simp <;> omega)).trans (by simp)
                have ef2 : w1.frozen? ⟨w.heap.size + 1, 2, none⟩ = false := (bc.2 _ _ (by simp <;> omega)).trans (by simp)
                have ef3 : w1.frozen? ⟨w.heap.size + 1, 3, none⟩ = false := (bc.2 _ _ (by simp <;> omega)).trans (by simp)
                have B1 : Below w.heap.size w w1 := (((Below.refl w.heap.size w).alloc (Nat.le_refl _) _).alloc (by simp) _).trans (hb1.mono (by simp <;> omega))
                clear hb1 bc
                go_wp2_with fail
                refine (C2 _).mono ?_
                rintro e w2 ⟨rfl, rfl⟩
                go_wp2_with fail
                go_quiet (fail)
                go_wp2_with fail
                refine (CF2 (by assumption) _).mono ?_
                rintro e w2 ⟨rfl, rfl⟩
                go_wp2_with fail
                refine (CF3 (by assumption) _).mono ?_
                rintro e w2 ⟨rfl, rfl⟩
                go_wp2_with fail
                refine (CS F2 (by assumption) (by assumption) _).mono ?_
                rintro e w2 ⟨rfl, rfl⟩
                go_wp2_with fail
                refine (CS r1 (by assumption) (by assumption) _).mono ?_
                rintro e w2 ⟨rfl, rfl⟩
                go_wp2_with fail
                refine bodyPost_ret (v := .tuple #[.agg #[.int .u64 F2, .int .u64 r1, .int .i64 (sg T F2), .int .i64 (sg T r1)], .bool true]) (by simp [results, Try.results39, go_sem, eb0, eb1, eb2, eb3]) rfl ⟨rfl, ?_⟩
                repeat (first | exact B1 | exact below_drewN' B1 _ | apply Below.drew | refine Below.alloc ?_ (by simp <;> omega) _ | refine Below.setCell ?_ (by simp) _)
              · have hlo : tiLo T r0 r1 r2 = F2 := by unfold tiLo tA; (repeat' split) <;> omega
                have hhi : tiHi T r1 r2 r3 = r1 := by unfold tiHi tA; (repeat' split) <;> omega
                have hk : tiK T r0 r1 r2 r3 = 0 := by unfold tiK; rw [hlo, hhi]; unfold tA; (repeat' split) <;> omega
                have H : tiV T r0 r1 r2 r3 = .tuple #[.agg #[.int .u64 0, .int .u64 0, .int .i64 0, .int .i64 0], .bool false] := by unfold tiV; rw [if_pos hk]
                rw [H]
                clear H hk hlo hhi
                have n2 : r2 < 0 := by omega
                have n3 : T + 1 ≤ F2 := by omega
                have n4 : F2 ≤ 2 * T + 1 := by omega
                have n5 : ¬ F2 < T + 1 := by omega
                have m3 : T + 1 ≤ F3 := by omega
                have m4 : F3 ≤ 2 * T + 1 := by omega
                clear hF2 hF3
                go_enter Try.func39, Try.ntmps39
                go_wp2_with fail
                refine (CV _).mono ?_
                rintro e w1 ⟨rfl, hb1⟩
                have bc := tbcell hb1
                have hz0 : w.heap.size < w1.heap.size := by have := hb1.size; simp at this; omega
                have hz1 : w.heap.size + 1 < w1.heap.size := by have := hb1.size; simp at this; omega
                have ea0 : w1.cell? ⟨w.heap.size, 0, none⟩ = some (.int .u64 r0) := (bc.1 _ _ (by simp <;> omega)).trans (by simp)
                have ea1 : w1.cell? ⟨w.heap.size, 1, none⟩ = some (.int .u64 r1) := (bc.1 _ _ (by simp <;> omega)).trans (by simp)
                have ea2 : w1.cell? ⟨w.heap.size, 2, none⟩ = some (.int .i64 r2) := (bc.1 _ _ (by simp <;> omega)).trans (by simp)
                have ea3 : w1.cell? ⟨w.heap.size, 3, none⟩ = some (.int .i64 r3) := (bc.1 _ _ (by simp <;> omega)).trans (by simp)
                have eb0 : w1.cell? ⟨w.heap.size + 1, 0, none⟩ = some (.int .u64 0) := (bc.1 _ _ (by simp <;> omega)).trans (by simp)
                have eb1 : w1.cell? ⟨w.heap.size + 1, 1, none⟩ = some (.int .u64 0) := (bc.1 _ _ (by simp <;> omega)).trans (by simp)
                have eb2 : w1.cell? ⟨w.heap.size + 1, 2, none⟩ = some (.int .i64 0) := (bc.1 _ _ (by simp <;> omega)).trans (by simp)
                have eb3 : w1.cell? ⟨w.heap.size + 1, 3, none⟩ = some (.int .i64 0) := (bc.1 _ _ (by simp <;> omega)).trans (by simp)
                have ef0 : w1.frozen? ⟨w.heap.size + 1, 0, none⟩ = false := (bc.2 _ _ (by simp <;> omega)).trans (by simp)
                have ef1 : w1.frozen? ⟨w.heap.size + 1, 1, none⟩ = false := (bc.2 _ _ (by simp <;> omega)).trans (by simp)
                have ef2 : w1.frozen? ⟨w.heap.size + 1, 2, none⟩ = false := (bc.2 _ _ (by simp <;> omega)).trans (by simp)
                have ef3 : w1.frozen? ⟨w.heap.size + 1, 3, none⟩ = false := (bc.2 _ _ (by simp <;> omega)).trans (by simp)
                have B1 : Below w.heap.size w w1 := (((Below.refl w.heap.size w).alloc (Nat.le_refl _) _).alloc (by simp) _).trans (hb1.mono (by simp <;> omega))
                clear hb1 bc
                go_wp2_with fail
                refine (C2 _).mono ?_
                rintro e w2 ⟨rfl, rfl⟩
                go_wp2_with fail
                go_quiet (fail)
                go_wp2_with fail
                refine (CF2 (by assumption) _).mono ?_
                rintro e w2 ⟨rfl, rfl⟩
                go_wp2_with fail
                refine (CF3 (by assumption) _).mono ?_
                rintro e w2 ⟨rfl, rfl⟩
                go_wp2_with fail
                refine bodyPost_ret (v := .tuple #[.agg #[.int .u64 0, .int .u64 0, .int .i64 0, .int .i64 0], .bool false]) (by simp [results, Try.results39, go_sem, eb0, eb1, eb2, eb3]) rfl ⟨rfl, ?_⟩
                repeat (first | exact B1 | exact below_drewN' B1 _ | apply Below.drew | refine Below.alloc ?_ (by simp <;> omega) _ | refine Below.setCell ?_ (by simp) _)
          · by_cases g5 : F2 ≤ r1
            · have hlo : tiLo T r0 r1 r2 = F2 := by unfold tiLo tA; (repeat' split) <;> omega
              have hhi : tiHi T r1 r2 r3 = r1 := by unfold tiHi tA; (repeat' split) <;> omega
              have hk : tiK T r0 r1 r2 r3 = 1 := by unfold tiK; rw [hlo, hhi]; unfold tA; (repeat' split) <;> omega
              have H : tiV T r0 r1 r2 r3 = .tuple #[.agg #[.int .u64 F2, .int .u64 r1, .int .i64 (sg T F2), .int .i64 (sg T r1)], .bool true] := by unfold tiV; rw [if_neg (by omega), if_pos hk, hlo, hhi]
              rw [H]
              clear H hk hlo hhi
              have n2 : r2 < 0 := by omega
              have n3 : T + 1 ≤ F2 := by omega
              have n4 : F2 ≤ 2 * T + 1 := by omega
              have n5 : ¬ F2 < T + 1 := by omega
              have s1 : 0 ≤ F2 := by omega
              have s2 : F2 ≤ 2 * T + 1 := by omega
              have s3 : 0 ≤ r1 := by omega
              have s4 : r1 ≤ 2 * T + 1 := by omega
              clear hF2 hF3
              go_enter Try.func39, Try.ntmps39
              go_wp2_with fail
              refine (CV _).mono ?_
              rintro e w1 ⟨rfl, hb1⟩
              have bc := tbcell hb1
              have hz0 : w.heap.size < w1.heap.size := by have := hb1.size; simp at this; omega
              have hz1 : w.heap.size + 1 < w1.heap.size := by have := hb1.size; simp at this; omega
              have ea0 : w1.cell? ⟨w.heap.size, 0, none⟩ = some (.int .u64 r0) := (bc.1 _ _ (by simp <;> omega)).trans (by simp)
              have ea1 : w1.cell? ⟨w.heap.size, 1, none⟩ = some (.int .u64 r1) := (bc.1 _ _ (by simp <;> omega)).trans (by simp)
              have ea2 : w1.cell? ⟨w.heap.size, 2, none⟩ = some (.int .i64 r2) := (bc.1 _ _ (by simp <;> omega)).trans (by simp)
              have ea3 : w1.cell? ⟨w.heap.size, 3, none⟩ = some (.int .i64 r3) := (bc.1 _ _ (by simp <;> omega)).trans (by simp)
              have eb0 : w1.cell? ⟨w.heap.size + 1, 0, none⟩ = some (.int .u64 0) := (bc.1 _ _ (by simp <;> omega)).trans (by simp)
              have eb1 : w1.cell? ⟨w.heap.size + 1, 1, none⟩ = some (.int .u64 0) := (bc.1 _ _ (by simp <;> omega)).trans (by simp)
              have eb2 : w1.cell? ⟨w.heap.size + 1, 2, none⟩ = some (.int .i64 0) := (bc.1 _ _ (by simp <;> omega)).trans (by simp)
              have eb3 : w1.cell? ⟨w.heap.size + 1, 3, none⟩ = some (.int .i64 0) := (bc.1 _ _ (by simp <;> omega)).trans (by simp)
              have ef0 : w1.frozen? ⟨w.heap.size + 1, 0, none⟩ = false := (bc.2 _ _ (by simp <;> omega)).trans (by simp)
              have ef1 : w1.frozen? ⟨w.heap.size + 1, 1, none⟩ = false := (bc.2 _ _ (by simp <;> omega)).trans (by simp)
              have ef2 : w1.frozen? ⟨w.heap.size + 1, 2, none⟩ = false := (bc.2 _ _ (by simp <;> omega)).trans (by simp)
              have ef3 : w1.frozen? ⟨w.heap.size + 1, 3, none⟩ = false := (bc.2 _ _ (by simp <;> omega)).trans (by simp)
              have B1 : Below w.heap.size w w1 := (((Below.refl w.heap.size w).alloc (Nat.le_refl _) _).alloc (by simp) _).trans (hb1.mono (by simp <;> omega))
              clear hb1 bc
              go_wp2_with fail
              refine (C2 _).mono ?_
              rintro e w2 ⟨rfl, rfl⟩
              go_wp2_with fail
              go_quiet (fail)
              go_wp2_with fail
              refine (CF2 (by assumption) _).mono ?_
              rintro e w2 ⟨rfl, rfl⟩
              go_wp2_with fail
              refine (CS F2 (by assumption) (by assumption) _).mono ?_
              rintro e w2 ⟨rfl, rfl⟩
              go_wp2_with fail
              refine (CS r1 (by assumption) (by assumption) _).mono ?_
              rintro e w2 ⟨rfl, rfl⟩
              go_wp2_with fail
              refine bodyPost_ret (v := .tuple #[.agg #[.int .u64 F2, .int .u64 r1, .int .i64 (sg T F2), .int .i64 (sg T r1)], .bool true]) (by simp [results, Try.results39, go_sem, eb0, eb1, eb2, eb3]) rfl ⟨rfl, ?_⟩
              repeat (first | exact B1 | exact below_drewN' B1 _ | apply Below.drew | refine Below.alloc ?_ (by simp <;> omega) _ | refine Below.setCell ?_ (by simp) _)
            · have hlo : tiLo T r0 r1 r2 = F2 := by unfold tiLo tA; (repeat' split) <;> omega
              have hhi : tiHi T r1 r2 r3 = r1 := by unfold tiHi tA; (repeat' split) <;> omega
              have hk : tiK T r0 r1 r2 r3 = 0 := by unfold tiK; rw [hlo, hhi]; unfold tA; (repeat' split) <;> omega
              have H : tiV T r0 r1 r2 r3 = .tuple #[.agg #[.int .u64 0, .int .u64 0, .int .i64 0, .int .i64 0], .bool false] := by unfold tiV; rw [if_pos hk]
              rw [H]
              clear H hk hlo hhi
              have n2 : r2 < 0 := by omega
              have n3 : T + 1 ≤ F2 := by omega
              have n4 : F2 ≤ 2 * T + 1 := by omega
              have n5 : ¬ F2 < T + 1 := by omega
              clear hF2 hF3
              go_enter Try.func39, Try.ntmps39
              go_wp2_with fail
              refine (CV _).mono ?_
              rintro e w1 ⟨rfl, hb1⟩
              have bc := tbcell hb1
              have hz0 : w.heap.size < w1.heap.size := by have := hb1.size; simp at this; omega
              have hz1 : w.heap.size + 1 < w1.heap.size := by have := hb1.size; simp at this; omega
              have ea0 : w1.cell? ⟨w.heap.size, 0, none⟩ = some (.int .u64 r0) := (bc.1 _ _ (by simp <;> omega)).trans (by simp)
              have ea1 : w1.cell? ⟨w.heap.size, 1, none⟩ = some (.int .u64 r1) := (bc.1 _ _ (by simp <;> omega)).trans (by simp)
              have ea2 : w1.cell? ⟨w.heap.size, 2, none⟩ = some (.int .i64 r2) := (bc.1 _ _ (by simp <;> omega)).trans (by simp)
              have ea3 : w1.cell? ⟨w.heap.size, 3, none⟩ = some (.int .i64 r3) := (bc.1 _ _ (by simp <;> omega)).trans (by simp)
              have eb0 : w1.cell? ⟨w.heap.size + 1, 0, none⟩ = some (.int .u64 0) := (bc.1 _ _ (by simp <;> omega)).trans (by simp)
              have eb1 : w1.cell? ⟨w.heap.size + 1, 1, none⟩ = some (.int .u64 0) := (bc.1 _ _ (by simp <;> omega)).trans (by simp)
              have eb2 : w1.cell? ⟨w.heap.size + 1, 2, none⟩ = some (.int .i64 0) := (bc.1 _ _ (by simp <;> omega)).trans (by simp)
              have eb3 : w1.cell? ⟨w.heap.size + 1, 3, none⟩ = some (.int .i64 0) := (bc.1 _ _ (by simp <;> omega)).trans (by simp)
              have ef0 : w1.frozen? ⟨w.heap.size + 1, 0, none⟩ = false := (bc.2 _ _ (by simp <;> omega)).trans (by simp)
              have ef1 : w1.frozen? ⟨w.heap.size + 1, 1, none⟩ = false := (bc.2 _ _ (by simp <;> omega)).trans (by simp)
              have ef2 : w1.frozen? ⟨w.heap.size + 1, 2, none⟩ = false := (bc.2 _ _ (by simp <;> omega)).trans (by simp)
              have ef3 : w1.frozen? ⟨w.heap.size + 1, 3, none⟩ = false := (bc.2 _ _ (by simp <;> omega)).trans (by simp)
              have B1 : Below w.heap.size w w1 := (((Below.refl w.heap.size w).alloc (Nat.le_refl _) _).alloc (by simp) _).trans (hb1.mono (by simp <;> omega))
              clear hb1 bc
              go_wp2_with fail
              refine (C2 _).mono ?_
              rintro e w2 ⟨rfl, rfl⟩
              go_wp2_with fail
              go_quiet (fail)
              go_wp2_with fail
              refine (CF2 (by assumption) _).mono ?_
              rintro e w2 ⟨rfl, rfl⟩
              go_wp2_with fail
              refine bodyPost_ret (v := .tuple #[.agg #[.int .u64 0, .int .u64 0, .int .i64 0, .int .i64 0], .bool false]) (by simp [results, Try.results39, go_sem, eb0, eb1, eb2, eb3]) rfl ⟨rfl, ?_⟩
              repeat (first | exact B1 | exact below_drewN' B1 _ | apply Below.drew | refine Below.alloc ?_ (by simp <;> omega) _ | refine Below.setCell ?_ (by simp) _)
        · by_cases g4 : r3 < 0
          · by_cases g5 : F3 < r1
            · by_cases g6 : r0 ≤ F3
              · have hlo : tiLo T r0 r1 r2 = r0 := by unfold tiLo tA; (repeat' split) <;> omega
                have hhi : tiHi T r1 r2 r3 = F3 := by unfold tiHi tA; (repeat' split) <;> omega
                have hk : tiK T r0 r1 r2 r3 = 1 := by unfold tiK; rw [hlo, hhi]; unfold tA; (repeat' split) <;> omega
                have H : tiV T r0 r1 r2 r3 = .tuple #[.agg #[.int .u64 r0, .int .u64 F3, .int .i64 (sg T r0), .int .i64 (sg T F3)], .bool true] := by unfold tiV; rw [if_neg (by omega), if_pos hk, hlo, hhi]
                rw [H]
                clear H hk hlo hhi
                have n2 : r2 < 0 := by omega
                have n3 : T + 1 ≤ F2 := by omega
                have n4 : F2 ≤ 2 * T + 1 := by omega
                have n5 : ¬ r0 < T + 1 := by omega
                have m3 : T + 1 ≤ F3 := by omega
                have m4 : F3 ≤ 2 * T + 1 := by omega
                have s1 : 0 ≤ r0 := by omega
                have s2 : r0 ≤ 2 * T + 1 := by omega
                have s3 : 0 ≤ F3 := by omega
                have s4 : F3 ≤ 2 * T + 1 := by omega
                clear hF2 hF3
                go_enter Try.func39, Try.ntmps39
                go_wp2_with fail
                refine (CV _).mono ?_
                rintro e w1 ⟨rfl, hb1⟩
                have bc := tbcell hb1
                have hz0 : w.heap.size < w1.heap.size := by have := hb1.size; simp at this; omega
                have hz1 : w.heap.size + 1 < w1.heap.size := by have := hb1.size; simp at this; omega
                have ea0 : w1.cell? ⟨w.heap.size, 0, none⟩ = some (.int .u64 r0) := (bc.1 _ _ (by simp <;> omega)).trans (by simp)
                have ea1 : w1.cell? ⟨w.heap.size, 1, none⟩ = some (.int .u64 r1) := (bc.1 _ _ (by simp <;> omega)).trans (by simp)
                have ea2 : w1.cell? ⟨w.heap.size, 2, none⟩ = some (.int .i64 r2) := (bc.1 _ _ (by simp <;> omega)).trans (by simp)
                have ea3 : w1.cell? ⟨w.heap.size, 3, none⟩ = some (.int .i64 r3) := (bc.1 _ _ (by simp <;> omega)).trans (by simp)
                have eb0 : w1.cell? ⟨w.heap.size + 1, 0, none⟩ = some (.int .u64 0) := (bc.1 _ _ (by simp <;> omega)).trans (by simp)
                have eb1 : w1.cell? ⟨w.heap.size + 1, 1, none⟩ = some (.int .u64 0) := (bc.1 _ _ (by simp <;> omega)).trans (by simp)
                have eb2 : w1.cell? ⟨w.heap.size + 1, 2, none⟩ = some (.int .i64 0) := (bc.1 _ _ (by simp <;> omega)).trans (by simp)
                have eb3 : w1.cell? ⟨w.heap.size + 1, 3, none⟩ = some (.int .i64 0) := (bc.1 _ _ (by simp <;> omega)).trans (by simp)
                have ef0 : w1.frozen? ⟨w.heap.size + 1, 0, none⟩ = false := (bc.2 _ _ (by simp <;> omega)).trans (by simp)
                have ef1 : w1.frozen? ⟨w.heap.size + 1, 1, none⟩ = false := (bc.2 _ _ (by simp <;> omega)).trans (by simp)
                have ef2 : w1.frozen? ⟨w.heap.size + 1, 2, none⟩ = false := (bc.2 _ _ (by simp <;> omega)).trans (by simp)
                have ef3 : w1.frozen? ⟨w.heap.size + 1, 3, none⟩ = false := (bc.2 _ _ (by simp <;> omega)).trans (by simp)
                have B1 : Below w.heap.size w w1 := (((Below.refl w.heap.size w).alloc (Nat.le_refl _) _).alloc (by simp) _).trans (hb1.mono (by simp <;> omega))
                clear hb1 bc
                go_wp2_with fail
                refine (C2 _).mono ?_
                rintro e w2 ⟨rfl, rfl⟩
                go_wp2_with fail
                go_quiet (fail)
                go_wp2_with fail
                refine (CF2 (by assumption) _).mono ?_
                rintro e w2 ⟨rfl, rfl⟩
                go_wp2_with fail
                refine (CF3 (by assumption) _).mono ?_
                rintro e w2 ⟨rfl, rfl⟩
                go_wp2_with fail
                refine (CS r0 (by assumption) (by assumption) _).mono ?_
                rintro e w2 ⟨rfl, rfl⟩
                go_wp2_with fail
                refine (CS F3 (by assumption) (by assumption) _).mono ?_
                rintro e w2 ⟨rfl, rfl⟩
                go_wp2_with fail
                refine bodyPost_ret (v := .tuple #[.agg #[.int .u64 r0, .int .u64 F3, .int .i64 (sg T r0), .int .i64 (sg T F3)], .bool true]) (by simp [results, Try.results39, go_sem, eb0, eb1, eb2, eb3]) rfl ⟨rfl, ?_⟩
                repeat (first | exact B1 | exact below_drewN' B1 _ | apply Below.drew | refine Below.alloc ?_ (by simp <;> omega) _ | refine Below.setCell ?_ (by simp) _)
              · have hlo : tiLo T r0 r1 r2 = r0 := by unfold tiLo tA; (repeat' split) <;> omega
                have hhi : tiHi T r1 r2 r3 = F3 := by unfold tiHi tA; (repeat' split) <;> omega
                have hk : tiK T r0 r1 r2 r3 = 0 := by unfold tiK; rw [hlo, hhi]; unfold tA; (repeat' split) <;> omega
                have H : tiV T r0 r1 r2 r3 = .tuple #[.agg #[.int .u64 0, .int .u64 0, .int .i64 0, .int .i64 0], .bool false] := by unfold tiV; rw [if_pos hk]
                rw [H]
                clear H hk hlo hhi
                have n2 : r2 < 0 := by omega
                have n3 : T + 1 ≤ F2 := by omega
                have n4 : F2 ≤ 2 * T + 1 := by omega
                have n5 : ¬ r0 < T + 1 := by omega
                have m3 : T + 1 ≤ F3 := by omega
                have m4 : F3 ≤ 2 * T + 1 := by omega
                clear hF2 hF3
                go_enter Try.func39, Try.ntmps39
                go_wp2_with fail
                refine (CV _).mono ?_
                rintro e w1 ⟨rfl, hb1⟩
                have bc := tbcell hb1
                have hz0 : w.heap.size < w1.heap.size := by have := hb1.size; simp at this; omega
                have hz1 : w.heap.size + 1 < w1.heap.size := by have := hb1.size; simp at this; omega
                have ea0 : w1.cell? ⟨w.heap.size, 0, none⟩ = some (.int .u64 r0) := (bc.1 _ _ (by simp <;> omega)).trans (by simp)
                have ea1 : w1.cell? ⟨w.heap.size, 1, none⟩ = some (.int .u64 r1) := (bc.1 _ _ (by simp <;> omega)).trans (by simp)
                have ea2 : w1.cell? ⟨w.heap.size, 2, none⟩ = some (.int .i64 r2) := (bc.1 _ _ (by simp <;> omega)).trans (by simp)
                have ea3 : w1.cell? ⟨w.heap.size, 3, none⟩ = some (.int .i64 r3) := (bc.1 _ _ (by simp <;> omega)).trans (by simp)
                have eb0 : w1.cell? ⟨w.heap.size + 1, 0, none⟩ = some (.int .u64 0) := (bc.1 _ _ (by simp <;> omega)).trans (by simp)
                have eb1 : w1.cell? ⟨w.heap.size + 1, 1, none⟩ = some (.int .u64 0) := (bc.1 _ _ (by simp <;> omega)).trans (by simp)
                have eb2 : w1.cell? ⟨w.heap.size + 1, 2, none⟩ = some (.int .i64 0) := (bc.1 _ _ (by simp <;> omega)).trans (by simp)
                have eb3 : w1.cell? ⟨w.heap.size + 1, 3, none⟩ = some (.int .i64 0) := (bc.1 _ _ (by simp <;> omega)).trans (by simp)
                have ef0 : w1.frozen? ⟨w.heap.size + 1, 0, none⟩ = false := (bc.2 _ _ (by simp <;> omega)).trans (by simp)
                have ef1 : w1.frozen? ⟨w.heap.size + 1, 1, none⟩ = false := (bc.2 _ _ (by simp <;> omega)).trans (by simp)
                have ef2 : w1.frozen? ⟨w.heap.size + 1, 2, none⟩ = false := (bc.2 _ _ (by simp <;> omega)).trans (by simp)
                have ef3 : w1.frozen? ⟨w.heap.size + 1, 3, none⟩ = false := (bc.2 _ _ (by simp <;> omega)).trans (by simp)
                have B1 : Below w.heap.size w w1 := (((Below.refl w.heap.size w).alloc (Nat.le_refl _) _).alloc (by simp) _).trans (hb1.mono (by simp <;> omega))
                clear hb1 bc
                go_wp2_with fail
                refine (C2 _).mono ?_
                rintro e w2 ⟨rfl, rfl⟩
                go_wp2_with fail
                go_quiet (fail)
                go_wp2_with fail
                refine (CF2 (by assumption) _).mono ?_
                rintro e w2 ⟨rfl, rfl⟩
                go_wp2_with fail
                refine (CF3 (by assumption) _).mono ?_
                rintro e w2 ⟨rfl, rfl⟩
                go_wp2_with fail
                refine bodyPost_ret (v := .tuple #[.agg #[.int .u64 0, .int .u64 0, .int .i64 0, .int .i64 0], .bool false]) (by simp [results, Try.results39, go_sem, eb0, eb1, eb2, eb3]) rfl ⟨rfl, ?_⟩
                repeat (first | exact B1 | exact below_drewN' B1 _ | apply Below.drew | refine Below.alloc ?_ (by simp <;> omega) _ | refine Below.setCell ?_ (by simp) _)
            · by_cases g6 : r0 ≤ r1
              · have hlo : tiLo T r0 r1 r2 = r0 := by unfold tiLo tA; (repeat' split) <;> omega
                have hhi : tiHi T r1 r2 r3 = r1 := by unfold tiHi tA; (repeat' split) <;> omega
                have hk : tiK T r0 r1 r2 r3 = 1 := by unfold tiK; rw [hlo, hhi]; unfold tA; (repeat' split) <;> omega
                have H : tiV T r0 r1 r2 r3 = .tuple #[.agg #[.int .u64 r0, .int .u64 r1, .int .i64 (sg T r0), .int .i64 (sg T r1)], .bool true] := by unfold tiV; rw [if_neg (by omega), if_pos hk, hlo, hhi]
                rw [H]
                clear H hk hlo hhi
                have n2 : r2 < 0 := by omega
                have n3 : T + 1 ≤ F2 := by omega
                have n4 : F2 ≤ 2 * T + 1 := by omega
                have n5 : ¬ r0 < T + 1 := by omega
                have m3 : T + 1 ≤ F3 := by omega
                have m4 : F3 ≤ 2 * T + 1 := by omega
                have s1 : 0 ≤ r0 := by omega
                have s2 : r0 ≤ 2 * T + 1 := by omega
                have s3 : 0 ≤ r1 := by omega
                have s4 : r1 ≤ 2 * T + 1 := by omega
                clear hF2 hF3
                go_enter Try.func39, Try.ntmps39
                go_wp2_with fail
                refine (CV _).mono ?_
                rintro e w1 ⟨rfl, hb1⟩
                have bc := tbcell hb1
                have hz0 : w.heap.size < w1.heap.size := by have := hb1.size; simp at this; omega
                have hz1 : w.heap.size + 1 < w1.heap.size := by have := hb1.size; simp at this; omega
                have ea0 : w1.cell? ⟨w.heap.size, 0, none⟩ = some (.int .u64 r0) := (bc.1 _ _ (by simp <;> omega)).trans (by simp)
                have ea1 : w1.cell? ⟨w.heap.size, 1, none⟩ = some (.int .u64 r1) := (bc.1 _ _ (by simp <;> omega)).trans (by simp)
                have ea2 : w1.cell? ⟨w.heap.size, 2, none⟩ = some (.int .i64 r2) := (bc.1 _ _ (by simp <;> omega)).trans (by simp)
                have ea3 : w1.cell? ⟨w.heap.size, 3, none⟩ = some (.int .i64 r3) := (bc.1 _ _ (by simp <;> omega)).trans (by simp)
                have eb0 : w1.cell? ⟨w.heap.size + 1, 0, none⟩ = some (.int .u64 0) := (bc.1 _ _ (by simp <;> omega)).trans (by simp)
                have eb1 : w1.cell? ⟨w.heap.size + 1, 1, none⟩ = some (.int .u64 0) := (bc.1 _ _ (by simp <;> omega)).trans (by simp)
                have eb2 : w1.cell? ⟨w.heap.size + 1, 2, none⟩ = some (.int .i64 0) := (bc.1 _ _ (by simp <;> omega)).trans (by simp)
                have eb3 : w1.cell? ⟨w.heap.size + 1, 3, none⟩ = some (.int .i64 0) := (bc.1 _ _ (by simp <;> omega)).trans (by simp)
                have ef0 : w1.frozen? ⟨w.heap.size + 1, 0, none⟩ = false := (bc.2 _ _ (by simp <;> omega)).trans (by simp)
                have ef1 : w1.frozen? ⟨w.heap.size + 1, 1, none⟩ = false := (bc.2 _ _ (by simp <;> omega)).trans (by simp)
                have ef2 : w1.frozen? ⟨w.heap.size + 1, 2, none⟩ = false := (bc.2 _ _ (by simp <;> omega)).trans (by simp)
                have ef3 : w1.frozen? ⟨w.heap.size + 1, 3, none⟩ = false := (bc.2 _ _ (by simp <;> omega)).trans (by simp)
                have B1 : Below w.heap.size w w1 := (((Below.refl w.heap.size w).alloc (Nat.le_refl _) _).alloc (by simp) _).trans (hb1.mono (by simp <;> omega))
                clear hb1 bc
                go_wp2_with fail
                refine (C2 _).mono ?_
                rintro e w2 ⟨rfl, rfl⟩
                go_wp2_with fail
                go_quiet (fail)
                go_wp2_with fail
                refine (CF2 (by assumption) _).mono ?_
                rintro e w2 ⟨rfl, rfl⟩
                go_wp2_with fail
                refine (CF3 (by assumption) _).mono ?_
                rintro e w2 ⟨rfl, rfl⟩
                go_wp2_with fail
                refine (CS r0 (by assumption) (by assumption) _).mono ?_
                rintro e w2 ⟨rfl, rfl⟩
                go_wp2_with fail
                refine (CS r1 (by assumption) (by assumption) _).mono ?_
                rintro e w2 ⟨rfl, rfl⟩
                go_wp2_with fail
                refine bodyPost_ret (v := .tuple #[.agg #[.int .u64 r0, .int .u64 r1, .int .i64 (sg T r0), .int .i64 (sg T r1)], .bool true]) (by simp [results, Try.results39, go_sem, eb0, eb1, eb2, eb3]) rfl ⟨rfl, ?_⟩
                repeat (first | exact B1 | exact below_drewN' B1 _ | apply Below.drew | refine Below.alloc ?_ (by simp <;> omega) _ | refine Below.setCell ?_ (by simp) _)
              · exfalso; omega
          · by_cases g5 : r0 ≤ r1
            · have hlo : tiLo T r0 r1 r2 = r0 := by unfold tiLo tA; (repeat' split) <;> omega
              have hhi : tiHi T r1 r2 r3 = r1 := by unfold tiHi tA; (repeat' split) <;> omega
              have hk : tiK T r0 r1 r2 r3 = 1 := by unfold tiK; rw [hlo, hhi]; unfold tA; (repeat' split) <;> omega
              have H : tiV T r0 r1 r2 r3 = .tuple #[.agg #[.int .u64 r0, .int .u64 r1, .int .i64 (sg T r0), .int .i64 (sg T r1)], .bool true] := by unfold tiV; rw [if_neg (by omega), if_pos hk, hlo, hhi]
              rw [H]
              clear H hk hlo hhi
              have n2 : r2 < 0 := by omega
              have n3 : T + 1 ≤ F2 := by omega
              have n4 : F2 ≤ 2 * T + 1 := by omega
              have n5 : ¬ r0 < T + 1 := by omega
              have s1 : 0 ≤ r0 := by omega
              have s2 : r0 ≤ 2 * T + 1 := by omega
              have s3 : 0 ≤ r1 := by omega
              have s4 : r1 ≤ 2 * T + 1 := by omega
              clear hF2 hF3
              go_enter Try.func39, Try.ntmps39
              go_wp2_with fail
              refine (CV _).mono ?_
              rintro e w1 ⟨rfl, hb1⟩
              have bc := tbcell hb1
              have hz0 : w.heap.size < w1.heap.size := by have := hb1.size; simp at this; omega
              have hz1 : w.heap.size + 1 < w1.heap.size := by have := hb1.size; simp at this; omega
              have ea0 : w1.cell? ⟨w.heap.size, 0, none⟩ = some (.int .u64 r0) := (bc.1 _ _ (by simp <;> omega)).trans (by simp)
              have ea1 : w1.cell? ⟨w.heap.size, 1, none⟩ = some (.int .u64 r1) := (bc.1 _ _ (by simp <;> omega)).trans (by simp)
              have ea2 : w1.cell? ⟨w.heap.size, 2, none⟩ = some (.int .i64 r2) := (bc.1 _ _ (by simp <;> omega)).trans (by simp)
              have ea3 : w1.cell? ⟨w.heap.size, 3, none⟩ = some (.int .i64 r3) := (bc.1 _ _ (by simp <;> omega)).trans (by simp)
              have eb0 : w1.cell? ⟨w.heap.size + 1, 0, none⟩ = some (.int .u64 0) := (bc.1 _ _ (by simp <;> omega)).trans (by simp)
              have eb1 : w1.cell? ⟨w.heap.size + 1, 1, none⟩ = some (.int .u64 0) := (bc.1 _ _ (by simp <;> omega)).trans (by simp)
              have eb2 : w1.cell? ⟨w.heap.size + 1, 2, none⟩ = some (.int .i64 0) := (bc.1 _ _ (by simp <;> omega)).trans (by simp)
              have eb3 : w1.cell? ⟨w.heap.size + 1, 3, none⟩ = some (.int .i64 0) := (bc.1 _ _ (by simp <;> omega)).trans (by simp)
              have ef0 : w1.frozen? ⟨w.heap.size + 1, 0, none⟩ = false := (bc.2 _ _ (by simp <;> omega)).trans (by simp)
              have ef1 : w1.frozen? ⟨w.heap.size + 1, 1, none⟩ = false := (bc.2 _ _ (by simp <;> omega)).trans (by simp)
              have ef2 : w1.frozen? ⟨w.heap.size + 1, 2, none⟩ = false := (bc.2 _ _ (by simp <;> omega)).trans (by simp)
              have ef3 : w1.frozen? ⟨w.heap.size + 1, 3, none⟩ = false := (bc.2 _ _ (by simp <;> omega)).trans (by simp)
              have B1 : Below w.heap.size w w1 := (((Below.refl w.heap.size w).alloc (Nat.le_refl _) _).alloc (by simp) _).trans (hb1.mono (by simp <;> omega))
              clear hb1 bc
              go_wp2_with fail
              refine (C2 _).mono ?_
              rintro e w2 ⟨rfl, rfl⟩
              go_wp2_with fail
              go_quiet (fail)
              go_wp2_with fail
              refine (CF2 (by assumption) _).mono ?_
              rintro e w2 ⟨rfl, rfl⟩
              go_wp2_with fail
              refine (CS r0 (by assumption) (by assumption) _).mono ?_
              rintro e w2 ⟨rfl, rfl⟩
              go_wp2_with fail
              refine (CS r1 (by assumption) (by assumption) _).mono ?_
              rintro e w2 ⟨rfl, rfl⟩
              go_wp2_with fail
              refine bodyPost_ret (v := .tuple #[.agg #[.int .u64 r0, .int .u64 r1, .int .i64 (sg T r0), .int .i64 (sg T r1)], .bool true]) (by simp [results, Try.results39, go_sem, eb0, eb1, eb2, eb3]) rfl ⟨rfl, ?_⟩
              repeat (first | exact B1 | exact below_drewN' B1 _ | apply Below.drew | refine Below.alloc ?_ (by simp <;> omega) _ | refine Below.setCell ?_ (by simp) _)
            · exfalso; omega
      · by_cases g3 : r3 < 0
        · by_cases g4 : r0 < F2
          · by_cases g5 : F3 < r1
            · by_cases g6 : F2 ≤ F3
              · have hlo : tiLo T r0 r1 r2 = F2 := by unfold tiLo tA; (repeat' split) <;> omega
                have hhi : tiHi T r1 r2 r3 = F3 := by unfold tiHi tA; (repeat' split) <;> omega
                have hk : tiK T r0 r1 r2 r3 = 1 := by unfold tiK; rw [hlo, hhi]; unfold tA; (repeat' split) <;> omega
                have H : tiV T r0 r1 r2 r3 = .tuple #[.agg #[.int .u64 F2, .int .u64 F3, .int .i64 (sg T F2), .int .i64 (sg T F3)], .bool true] := by unfold tiV; rw [if_neg (by omega), if_pos hk, hlo, hhi]
                rw [H]
                clear H hk hlo hhi
                have n2 : r2 < 0 := by omega
                have n3 : T + 1 ≤ F2 := by omega
                have n4 : F2 ≤ 2 * T + 1 := by omega
                have n5 : ¬ F2 < T + 1 := by omega
                have m3 : T + 1 ≤ F3 := by omega
                have m4 : F3 ≤ 2 * T + 1 := by omega
                have s1 : 0 ≤ F2 := by omega
                have s2 : F2 ≤ 2 * T + 1 := by omega
                have s3 : 0 ≤ F3 := by omega
                have s4 : F3 ≤ 2 * T + 1 := by omega
                clear hF2 hF3
                go_enter Try.func39, Try.ntmps39
                go_wp2_with fail
                refine (CV _).mono ?_
                rintro e w1 ⟨rfl, hb1⟩
                have bc := tbcell hb1
                have hz0 : w.heap.size < w1.heap.size := by have := hb1.size; simp at this; omega
                have hz1 : w.heap.size + 1 < w1.heap.size := by have := hb1.size; simp at this; omega
                have ea0 : w1.cell? ⟨w.heap.size, 0, none⟩ = some (.int .u64 r0) := (bc.1 _ _ (by simp <;> omega)).trans (by simp)
                have ea1 : w1.cell? ⟨w.heap.size, 1, none⟩ = some (.int .u64 r1) := (bc.1 _ _ (by simp <;> omega)).trans (by simp)
                have ea2 : w1.cell? ⟨w.heap.size, 2, none⟩ = some (.int .i64 r2) := (bc.1 _ _ (by simp <;> omega)).trans (by simp)
                have ea3 : w1.cell? ⟨w.heap.size, 3, none⟩ = some (.int .i64 r3) := (bc.1 _ _ (by simp <;> omega)).trans (by simp)
                have eb0 : w1.cell? ⟨w.heap.size + 1, 0, none⟩ = some (.int .u64 0) := (bc.1 _ _ (by simp <;> omega)).trans (by simp)
                have eb1 : w1.cell? ⟨w.heap.size + 1, 1, none⟩ = some (.int .u64 0) := (bc.1 _ _ (by simp <;> omega)).trans (by simp)
                have eb2 : w1.cell? ⟨w.heap.size + 1, 2, none⟩ = some (.int .i64 0) := (bc.1 _ _ (by simp <;> omega)).trans (by simp)
                have eb3 : w1.cell? ⟨w.heap.size + 1, 3, none⟩ = some (.int .i64 0) := (bc.1 _ _ (by simp <;> omega)).trans (by simp)
                have ef0 : w1.frozen? ⟨w.heap.size + 1, 0, none⟩ = false := (bc.2 _ _ (by simp <;> omega)).trans (by simp)
                have ef1 : w1.frozen? ⟨w.heap.size + 1, 1, none⟩ = false := (bc.2 _ _ (by simp <;> omega)).trans (by simp)
                have ef2 : w1.frozen? ⟨w.heap.size + 1, 2, none⟩ = false := (bc.2 _ _ (by simp <;> omega)).trans (by simp)
                have ef3 : w1.frozen? ⟨w.heap.size + 1, 3, none⟩ = false := (bc.2 _ _ (by simp <;> omega)).trans (by simp)
                have B1 : Below w.heap.size w w1 := (((Below.refl w.heap.size w).alloc (Nat.le_refl _) _).alloc (by simp) _).trans (hb1.mono (by simp <;> omega))
                clear hb1 bc
                go_wp2_with fail
                refine (C2 _).mono ?_
                rintro e w2 ⟨rfl, rfl⟩
                go_wp2_with fail
                go_quiet (fail)
                go_wp2_with fail
                refine (CF2 (by assumption) _).mono ?_
                rintro e w2 ⟨rfl, rfl⟩
                go_wp2_with fail
                refine (CF3 (by assumption) _).mono ?_
                rintro e w2 ⟨rfl, rfl⟩
                go_wp2_with fail
                refine (CS F2 (by assumption) (by assumption) _).mono ?_
                rintro e w2 ⟨rfl, rfl⟩
                go_wp2_with fail
                refine (CS F3 (by assumption) (by assumption) _).mono ?_
                rintro e w2 ⟨rfl, rfl⟩
                go_wp2_with fail
                refine bodyPost_ret (v := .tuple #[.agg #[.int .u64 F2, .int .u64 F3, .int .i64 (sg T F2), .int .i64 (sg T F3)], .bool true]) (by simp [results, Try.results39, go_sem, eb0, eb1, eb2, eb3]) rfl ⟨rfl, ?_⟩
                repeat (first | exact B1 | exact below_drewN' B1 _ | apply Below.drew | refine Below.alloc ?_ (by simp <;> omega) _ | refine Below.setCell ?_ (by simp) _)
              · exfalso; omega
            · by_cases g6 : F2 ≤ r1
              · have hlo : tiLo T r0 r1 r2 = F2 := by unfold tiLo tA; (repeat' split) <;> omega
                have hhi : tiHi T r1 r2 r3 = r1 := by unfold tiHi tA; (repeat' split) <;> omega
                have hk : tiK T r0 r1 r2 r3 = 1 := by unfold tiK; rw [hlo, hhi]; unfold tA; (repeat' split) <;> omega
                have H : tiV T r0 r1 r2 r3 = .tuple #[.agg #[.int .u64 F2, .int .u64 r1, .int .i64 (sg T F2), .int .i64 (sg T r1)], .bool true] := by unfold tiV; rw [if_neg (by omega), if_pos hk, hlo, hhi]
                rw [H]
                clear H hk hlo hhi
                have n2 : r2 < 0 := by omega
                have n3 : T + 1 ≤ F2 := by omega
                have n4 : F2 ≤ 2 * T + 1 := by omega
                have n5 : ¬ F2 < T + 1 := by omega
                have m3 : T + 1 ≤ F3 := by omega
                have m4 : F3 ≤ 2 * T + 1 := by omega
                have s1 : 0 ≤ F2 := by omega
                have s2 : F2 ≤ 2 * T + 1 := by omega
                have s3 : 0 ≤ r1 := by omega
                have s4 : r1 ≤ 2 * T + 1 := by omega
                clear hF2 hF3
                go_enter Try.func39, Try.ntmps39
                go_wp2_with fail
                refine (CV _).mono ?_
                rintro e w1 ⟨rfl, hb1⟩
                have bc := tbcell hb1
                have hz0 : w.heap.size < w1.heap.size := by have := hb1.size; simp at this; omega
                have hz1 : w.heap.size + 1 < w1.heap.size := by have := hb1.size; simp at this; omega
                have ea0 : w1.cell? ⟨w.heap.size, 0, none⟩ = some (.int .u64 r0) := (bc.1 _ _ (by simp <;> omega)).trans (by simp)
                have ea1 : w1.cell? ⟨w.heap.size, 1, none⟩ = some (.int .u64 r1) := (bc.1 _ _ (by simp <;> omega)).trans (by simp)
                have ea2 : w1.cell? ⟨w.heap.size, 2, none⟩ = some (.int .i64 r2) := (bc.1 _ _ (by simp <;> omega)).trans (by simp)
                have ea3 : w1.cell? ⟨w.heap.size, 3, none⟩ = some (.int .i64 r3) := (bc.1 _ _ (by simp <;> omega)).trans (by simp)
                have eb0 : w1.cell? ⟨w.heap.size + 1, 0, none⟩ = some (.int .u64 0) := (bc.1 _ _ (by simp <;> omega)).trans (by simp)
                have eb1 : w1.cell? ⟨w.heap.size + 1, 1, none⟩ = some (.int .u64 0) := (bc.1 _ _ (by simp <;> omega)).trans (by simp)
                have eb2 : w1.cell? ⟨w.heap.size + 1, 2, none⟩ = some (.int .i64 0) := (bc.1 _ _ (by simp <;> omega)).trans (by simp)
                have eb3 : w1.cell? ⟨w.heap.size + 1, 3, none⟩ = some (.int .i64 0) := (bc.1 _ _ (by simp <;> omega)).trans (by simp)
                have ef0 : w1.frozen? ⟨w.heap.size + 1, 0, none⟩ = false := (bc.2 _ _ (by simp <;> omega)).trans (by simp)
                have ef1 : w1.frozen? ⟨w.heap.size + 1, 1, none⟩ = false := (bc.2 _ _ (by simp <;> omega)).trans (by simp)
                have ef2 : w1.frozen? ⟨w.heap.size + 1, 2, none⟩ = false := (bc.2 _ _ (by simp <;> omega)).trans (by simp)
                have ef3 : w1.frozen? ⟨w.heap.size + 1, 3, none⟩ = false := (bc.2 _ _ (by simp <;> omega)).trans (by simp)
                have B1 : Below w.heap.size w w1 := (((Below.refl w.heap.size w).alloc (Nat.le_refl _) _).alloc (by simp) _).trans (hb1.mono (by simp <;> omega))
                clear hb1 bc
                go_wp2_with fail
                refine (C2 _).mono ?_
                rintro e w2 ⟨rfl, rfl⟩
                go_wp2_with fail
                go_quiet (fail)
                go_wp2_with fail
                refine (CF2 (by assumption) _).mono ?_
                rintro e w2 ⟨rfl, rfl⟩
                go_wp2_with fail
                refine (CF3 (by assumption) _).mono ?_
                rintro e w2 ⟨rfl, rfl⟩
                go_wp2_with fail
                refine (CS F2 (by assumption) (by assumption) _).mono ?_
                rintro e w2 ⟨rfl, rfl⟩
                go_wp2_with fail
                refine (CS r1 (by assumption) (by assumption) _).mono ?_
                rintro e w2 ⟨rfl, rfl⟩
                go_wp2_with fail
                refine bodyPost_ret (v := .tuple #[.agg #[.int .u64 F2, .int .u64 r1, .int .i64 (sg T F2), .int .i64 (sg T r1)], .bool true]) (by simp [results, Try.results39, go_sem, eb0, eb1, eb2, eb3]) rfl ⟨rfl, ?_⟩
                repeat (first | exact B1 | exact below_drewN' B1 _ | apply Below.drew | refine Below.alloc ?_ (by simp <;> omega) _ | refine Below.setCell ?_ (by simp) _)
              · have hlo : tiLo T r0 r1 r2 = F2 := by unfold tiLo tA; (repeat' split) <;> omega
                have hhi : tiHi T r1 r2 r3 = r1 := by unfold tiHi tA; (repeat' split) <;> omega
                have hk : tiK T r0 r1 r2 r3 = 0 := by unfold tiK; rw [hlo, hhi]; unfold tA; (repeat' split) <;> omega
                have H : tiV T r0 r1 r2 r3 = .tuple #[.agg #[.int .u64 0, .int .u64 0, .int .i64 0, .int .i64 0], .bool false] := by unfold tiV; rw [if_pos hk]
                rw [H]
                clear H hk hlo hhi
                have n2 : r2 < 0 := by omega
                have n3 : T + 1 ≤ F2 := by omega
                have n4 : F2 ≤ 2 * T + 1 := by omega
                have n5 : ¬ F2 < T + 1 := by omega
                have m3 : T + 1 ≤ F3 := by omega
                have m4 : F3 ≤ 2 * T + 1 := by omega
                clear hF2 hF3
                go_enter Try.func39, Try.ntmps39
                go_wp2_with fail
                refine (CV _).mono ?_
                rintro e w1 ⟨rfl, hb1⟩
                have bc := tbcell hb1
                have hz0 : w.heap.size < w1.heap.size := by have := hb1.size; simp at this; omega
                have hz1 : w.heap.size + 1 < w1.heap.size := by have := hb1.size; simp at this; omega
                have ea0 : w1.cell? ⟨w.heap.size, 0, none⟩ = some (.int .u64 r0) := (bc.1 _ _ (by simp <;> omega)).trans (by simp)
                have ea1 : w1.cell? ⟨w.heap.size, 1, none⟩ = some (.int .u64 r1) := (bc.1 _ _ (by simp <;> omega)).trans (by simp)
                have ea2 : w1.cell? ⟨w.heap.size, 2, none⟩ = some (.int .i64 r2) := (bc.1 _ _ (by simp <;> omega)).trans (by simp)
                have ea3 : w1.cell? ⟨w.heap.size, 3, none⟩ = some (.int .i64 r3) := (bc.1 _ _ (by simp <;> omega)).trans (by simp)
                have eb0 : w1.cell? ⟨w.heap.size + 1, 0, none⟩ = some (.int .u64 0) := (bc.1 _ _ (by simp <;> omega)).trans (by simp)
                have eb1 : w1.cell? ⟨w.heap.size + 1, 1, none⟩ = some (.int .u64 0) := (bc.1 _ _ (by simp <;> omega)).trans (by simp)
                have eb2 : w1.cell? ⟨w.heap.size + 1, 2, none⟩ = some (.int .i64 0) := (bc.1 _ _ (by simp <;> omega)).trans (by simp)
                have eb3 : w1.cell? ⟨w.heap.size + 1, 3, none⟩ = some (.int .i64 0) := (bc.1 _ _ (by simp <;> omega)).trans (by simp)
                have ef0 : w1.frozen? ⟨w.heap.size + 1, 0, none⟩ = false := (bc.2 _ _ (by simp <;> omega)).trans (by simp)
                have ef1 : w1.frozen? ⟨w.heap.size + 1, 1, none⟩ = false := (bc.2 _ _ (by simp <;> omega)).trans (by simp)
                have ef2 : w1.frozen? ⟨w.heap.size + 1, 2, none⟩ = false := (bc.2 _ _ (by simp <;> omega)).trans (by simp)
                have ef3 : w1.frozen? ⟨w.heap.size + 1, 3, none⟩ = false := (bc.2 _ _ (by simp <;> omega)).trans (by simp)
                have B1 : Below w.heap.size w w1 := (((Below.refl w.heap.size w).alloc (Nat.le_refl _) _).alloc (by simp) _).trans (hb1.mono (by simp <;> omega))
                clear hb1 bc
                go_wp2_with fail
                refine (C2 _).mono ?_
                rintro e w2 ⟨rfl, rfl⟩
                go_wp2_with fail
                go_quiet (fail)
                go_wp2_with fail
                refine (CF2 (by assumption) _).mono ?_
                rintro e w2 ⟨rfl, rfl⟩
                go_wp2_with fail
                refine (CF3 (by assumption) _).mono ?_
                rintro e w2 ⟨rfl, rfl⟩
                go_wp2_with fail
                refine bodyPost_ret (v := .tuple #[.agg #[.int .u64 0, .int .u64 0, .int .i64 0, .int .i64 0], .bool false]) (by simp [results, Try.results39, go_sem, eb0, eb1, eb2, eb3]) rfl ⟨rfl, ?_⟩
                repeat (first | exact B1 | exact below_drewN' B1 _ | apply Below.drew | refine Below.alloc ?_ (by simp <;> omega) _ | refine Below.setCell ?_ (by simp) _)
          · exfalso; omega
        · have hk : tiK T r0 r1 r2 r3 = 2 := by unfold tiK tA; (repeat' split) <;> omega
          have H : tiV T r0 r1 r2 r3 = .tuple #[.agg #[.int .u64 r0, .int .u64 r1, .int .i64 r2, .int .i64 r3], .bool true] := by unfold tiV; rw [if_neg (by omega), if_neg (by omega)]
          rw [H]
          clear H hk
          clear hF2 hF3
          go_enter Try.func39, Try.ntmps39
          go_wp2_with fail
          refine (CV _).mono ?_
          rintro e w1 ⟨rfl, hb1⟩
          have bc := tbcell hb1
          have hz0 : w.heap.size < w1.heap.size := by have := hb1.size; simp at this; omega
          have hz1 : w.heap.size + 1 < w1.heap.size := by have := hb1.size; simp at this; omega
          have ea0 : w1.cell? ⟨w.heap.size, 0, none⟩ = some (.int .u64 r0) := (bc.1 _ _ (by simp <;> omega)).trans (by simp)
          have ea1 : w1.cell? ⟨w.heap.size, 1, none⟩ = some (.int .u64 r1) := (bc.1 _ _ (by simp <;> omega)).trans (by simp)
          have ea2 : w1.cell? ⟨w.heap.size, 2, none⟩ = some (.int .i64 r2) := (bc.1 _ _ (by simp <;> omega)).trans (by simp)
          have ea3 : w1.cell? ⟨w.heap.size, 3, none⟩ = some (.int .i64 r3) := (bc.1 _ _ (by simp <;> omega)).trans (by simp)
          have eb0 : w1.cell? ⟨w.heap.size + 1, 0, none⟩ = some (.int .u64 0) := (bc.1 _ _ (by simp <;> omega)).trans (by simp)
          have eb1 : w1.cell? ⟨w.heap.size + 1, 1, none⟩ = some (.int .u64 0) := (bc.1 _ _ (by simp <;> omega)).trans (by simp)
          have eb2 : w1.cell? ⟨w.heap.size + 1, 2, none⟩ = some (.int .i64 0) := (bc.1 _ _ (by simp <;> omega)).trans (by simp)
          have eb3 : w1.cell? ⟨w.heap.size + 1, 3, none⟩ = some (.int .i64 0) := (bc.1 _ _ (by simp <;> omega)).trans (by simp)
          have ef0 : w1.frozen? ⟨w.heap.size + 1, 0, none⟩ = false := (bc.2 _ _ (by simp <;> omega)).trans (by simp)
          have ef1 : w1.frozen? ⟨w.heap.size + 1, 1, none⟩ = false := (bc.2 _ _ (by simp <;> omega)).trans (by simp)
          have ef2 : w1.frozen? ⟨w.heap.size + 1, 2, none⟩ = false := (bc.2 _ _ (by simp <;> omega)).trans (by simp)
          have ef3 : w1.frozen? ⟨w.heap.size + 1, 3, none⟩ = false := (bc.2 _ _ (by simp <;> omega)).trans (by simp)
          have B1 : Below w.heap.size w w1 := (((Below.refl w.heap.size w).alloc (Nat.le_refl _) _).alloc (by simp) _).trans (hb1.mono (by simp <;> omega))
          clear hb1 bc
          go_wp2_with fail
          refine (C2 _).mono ?_
          rintro e w2 ⟨rfl, rfl⟩
          go_wp2_with fail
          go_quiet (fail)
          go_wp2_with fail
          refine bodyPost_ret (v := .tuple #[.agg #[.int .u64 r0, .int .u64 r1, .int .i64 r2, .int .i64 r3], .bool true]) (by simp [results, Try.results39, go_sem, eb0, eb1, eb2, eb3]) rfl ⟨rfl, ?_⟩
          repeat (first | exact B1 | exact below_drewN' B1 _ | apply Below.drew | refine Below.alloc ?_ (by simp <;> omega) _ | refine Below.setCell ?_ (by simp) _)
end Go.Proofs.Ythkdojgagmaecab
