/- The reference's Tighten, part 4. -/
import Derived.Test.YthkdojgagmaecabIvTs
import Derived.Deep.QuietTactic
import Derived.BigQuiet
import Derived.Laws.Cover1
set_option linter.unusedVariables false
set_option linter.unusedSimpArgs false
namespace Go.Proofs.Ythkdojgagmaecab
open Go.RowKit

set_option maxHeartbeats 8000000 in
theorem tight_ref4 (a r0 r1 r2 r3 T : Int) (h1 : 1 ≤ a) (h2 : a ≤ 64) (hT : T = smax a) (hM : ((maskN a : Nat) : Int) = 2 * T + 1) (hv : rOk T r0 r1 r2 r3) (p1 : ¬ r1 ≤ T) (p2 : ¬ 0 ≤ r2) (p3 : ¬ T < r0)
    (CV : ∀ w, Calls Try.prog 32 #[.int .i64 a, .agg #[.int .u64 r0, .int .u64 r1, .int .i64 r2, .int .i64 r3]] w fun e w' => e = .returned (.bool true) ∧ Below w.heap.size w w') (w : World) :
    Calls Try.prog 40 #[.int .i64 a, .agg #[.int .u64 r0, .int .u64 r1, .int .i64 r2, .int .i64 r3]] w fun e w' => e = .returned (tiV T r0 r1 r2 r3) ∧ Below w.heap.size w w' := by
  obtain ⟨⟨v1, v2⟩, ⟨v3, v4, v5⟩, v6, v7, v8⟩ := hv
  have C2 := fun w => rsmax_any a h1 h2 w
  have CU := fun w => same_of (rumax_any a h1 h2 w)
  have CS := fun x y (hx1 : 0 ≤ x) (hx2 : x ≤ y) (hx3 : y ≤ 2 * T + 1) w => same_yes a T x y h1 h2 hT hM hx1 hx2 hx3 w
  have CN := fun x y (hx2 : ¬ x ≤ y) w => same_no a x y hx2 w
  obtain ⟨F2, hF2⟩ : ∃ F2, F2 = r2 + 2 * T + 2 := ⟨_, rfl⟩
  obtain ⟨F3, hF3⟩ : ∃ F3, F3 = r3 + 2 * T + 2 := ⟨_, rfl⟩
  have CF2 := fun (h : r2 < 0) => and_neg a r2 T hM h (by omega)
  have CF3 := fun (h : r3 < 0) => and_neg a r3 T hM h (by omega)
  rw [← hF2] at CF2
  rw [← hF3] at CF3
  rw [← hT] at C2
  rw [hM] at CU
  obtain ⟨M, hMM⟩ : ∃ M, M = 2 * T + 1 := ⟨_, rfl⟩
  rw [← hMM] at CU CF2 CF3
  have hMM' := Lib.hid hMM
  clear hT hM hMM
  by_cases g0 : r3 < 0
  · by_cases g1 : r0 < F2
    · by_cases g2 : T + 1 < F2
      · by_cases g3 : F3 < r1
        · by_cases g4 : F2 ≤ F3
          · have hlo : tiLo T r0 r1 r2 = F2 := by unfold tiLo tA; (repeat' split) <;> omega
            have hhi : tiHi T r1 r2 r3 = F3 := by unfold tiHi tA; (repeat' split) <;> omega
            have hk : tiK T r0 r1 r2 r3 = 1 := by unfold tiK; rw [hlo, hhi]; unfold tA; (repeat' split) <;> omega
            have H : tiV T r0 r1 r2 r3 = .tuple #[.agg #[.int .u64 F2, .int .u64 F3, .int .i64 (sg T F2), .int .i64 (sg T F3)], .bool true] := by unfold tiV; rw [if_neg (by omega), if_pos hk, hlo, hhi]
            rw [H]
            clear H hk hlo hhi
            have n2 : r2 < 0 := by omega
            have n3 : T + 1 ≤ F2 := by omega
            have n4 : F2 ≤ 2 * T + 1 := by omega
            have n5 : ¬ F2 < T + 1 := by omega
            have m3 : T + 1 ≤ F3 := by omega
            have m4 : F3 ≤ 2 * T + 1 := by omega
            have n7 : r0 < T + 1 := by omega
            have CG2 := CF2 n2
            have CG3 := CF3 (by assumption)
            clear CF2 CF3
            have s1 : 0 ≤ F2 := by omega
            have s2 : F2 ≤ 2 * T + 1 := by omega
            have s3 : 0 ≤ F3 := by omega
            have s4 : F3 ≤ 2 * T + 1 := by omega
            clear hF2 hF3
            go_enter Try.func40, Try.ntmps40
            go_wp2_with fail
            refine (CV _).mono ?_
            rintro e w1 ⟨rfl, hb1⟩
            have bc := tbcell hb1
            have hz0 : w.heap.size < w1.heap.size := by have := hb1.size; simp at this; omega
            have hz1 : w.heap.size + 1 < w1.heap.size := by have := hb1.size; simp at this; omega
            have ea0 : w1.cell? ⟨w.heap.size, 0, none⟩ = some (.int .u64 r0) := (bc.1 _ _ (by simp <;> omega)).trans (by simp)
            have ea1 : w1.cell? ⟨w.heap.size, 1, none⟩ = some (.int .u64 r1) := (bc.1 _ _ (by simp <;> omega)).trans (by simp)
            have ea2 : w1.cell? ⟨w.heap.size, 2, none⟩ = some (.int .i64 r2) := (bc.1 _ _ (by simp <;> omega)).trans (by simp)
            have ea3 : w1.cell? ⟨w.heap.size, 3, none⟩ = some (.int .i64 r3) := (bc.1 _ _ (by simp <;> omega)).trans (by simp)
            have eb0 : w1.cell? ⟨w.heap.size + 1, 0, none⟩ = some (.int .u64 0) := (bc.1 _ _ (by simp <;> omega)).trans (by simp)
            have eb1 : w1.cell? ⟨w.heap.size + 1, 1, none⟩ = some (.int .u64 0) := (bc.1 _ _ (by simp <;> omega)).trans (by simp)
            have eb2 : w1.cell? ⟨w.heap.size + 1, 2, none⟩ = some (.int .i64 0) := (bc.1 _ _ (by simp <;> omega)).trans (by simp)
            have eb3 : w1.cell? ⟨w.heap.size + 1, 3, none⟩ = some (.int .i64 0) := (bc.1 _ _ (by simp <;> omega)).trans (by simp)
            have ef0 : w1.frozen? ⟨w.heap.size + 1, 0, none⟩ = false := (bc.2 _ _ (by simp <;> omega)).trans (by simp)
            have ef1 : w1.frozen? ⟨w.heap.size + 1, 1, none⟩ = false := (bc.2 _ _ (by simp <;> omega)).trans (by simp)
            have ef2 : w1.frozen? ⟨w.heap.size + 1, 2, none⟩ = false := (bc.2 _ _ (by simp <;> omega)).trans (by simp)
            have ef3 : w1.frozen? ⟨w.heap.size + 1, 3, none⟩ = false := (bc.2 _ _ (by simp <;> omega)).trans (by simp)
            have B1 : Below w.heap.size w w1 := (((Below.refl w.heap.size w).alloc (Nat.le_refl _) _).alloc (by simp) _).trans (hb1.mono (by simp <;> omega))
            clear hb1 bc
            go_wp2_with fail
            refine (C2 _).mono ?_
            rintro e w2 ⟨rfl, rfl⟩
            go_wp2_with fail
            go_quiet ((go_at_call 53; exact Calls.quiet_of_same (CU _)))
            go_wp2_with fail
            replace ea0 : (w1.drewN nq).cell? ⟨w.heap.size, 0, none⟩ = some (.int .u64 r0) := ea0
            replace eb0 : (w1.drewN nq).cell? ⟨w.heap.size + 1, 0, none⟩ = some (.int .u64 0) := eb0
            replace ef0 : (w1.drewN nq).frozen? ⟨w.heap.size + 1, 0, none⟩ = false := ef0
            replace ea1 : (w1.drewN nq).cell? ⟨w.heap.size, 1, none⟩ = some (.int .u64 r1) := ea1
            replace eb1 : (w1.drewN nq).cell? ⟨w.heap.size + 1, 1, none⟩ = some (.int .u64 0) := eb1
            replace ef1 : (w1.drewN nq).frozen? ⟨w.heap.size + 1, 1, none⟩ = false := ef1
            replace ea2 : (w1.drewN nq).cell? ⟨w.heap.size, 2, none⟩ = some (.int .i64 r2) := ea2
            replace eb2 : (w1.drewN nq).cell? ⟨w.heap.size + 1, 2, none⟩ = some (.int .i64 0) := eb2
            replace ef2 : (w1.drewN nq).frozen? ⟨w.heap.size + 1, 2, none⟩ = false := ef2
            replace ea3 : (w1.drewN nq).cell? ⟨w.heap.size, 3, none⟩ = some (.int .i64 r3) := ea3
            replace eb3 : (w1.drewN nq).cell? ⟨w.heap.size + 1, 3, none⟩ = some (.int .i64 0) := eb3
            replace ef3 : (w1.drewN nq).frozen? ⟨w.heap.size + 1, 3, none⟩ = false := ef3
            replace hz0 : w.heap.size < (w1.drewN nq).heap.size := hz0
            replace hz1 : w.heap.size + 1 < (w1.drewN nq).heap.size := hz1
            replace B1 : Below w.heap.size w (w1.drewN nq) := below_drewN' B1 nq
            generalize w1.drewN nq = w5 at *
            go_quiet ((go_at_call 53; exact Calls.quiet_of_same (CU _)))
            go_wp2_with fail
            refine (CS F2 F3 (by assumption) (by assumption) (by assumption) _).mono ?_
            rintro e w2 ⟨rfl, hb2⟩
            have bc2 := tbcell hb2
            have fb0 : w2.cell? ⟨w.heap.size + 1, 0, none⟩ = some (.int .u64 0) := (bc2.1 _ _ (by simpa using hz1)).trans (by simpa using eb0)
            have fb1 : w2.cell? ⟨w.heap.size + 1, 1, none⟩ = some (.int .u64 0) := (bc2.1 _ _ (by simpa using hz1)).trans (by simpa using eb1)
            have fb2 : w2.cell? ⟨w.heap.size + 1, 2, none⟩ = some (.int .i64 0) := (bc2.1 _ _ (by simpa using hz1)).trans (by simpa using eb2)
            have fb3 : w2.cell? ⟨w.heap.size + 1, 3, none⟩ = some (.int .i64 0) := (bc2.1 _ _ (by simpa using hz1)).trans (by simpa using eb3)
            have gf0 : w2.frozen? ⟨w.heap.size + 1, 0, none⟩ = false := (bc2.2 _ _ (by simpa using hz1)).trans (by simpa using ef0)
            have gf1 : w2.frozen? ⟨w.heap.size + 1, 1, none⟩ = false := (bc2.2 _ _ (by simpa using hz1)).trans (by simpa using ef1)
            have gf2 : w2.frozen? ⟨w.heap.size + 1, 2, none⟩ = false := (bc2.2 _ _ (by simpa using hz1)).trans (by simpa using ef2)
            have gf3 : w2.frozen? ⟨w.heap.size + 1, 3, none⟩ = false := (bc2.2 _ _ (by simpa using hz1)).trans (by simpa using ef3)
            have B2 : Below w.heap.size w w2 := by
              first
                | exact B1.trans (hb2.mono B1.size)
                | exact (below_drewN' B1 _).trans (hb2.mono (below_drewN' B1 _).size)
            clear hb2 bc2
            go_wp2_with fail
            refine bodyPost_ret (v := .tuple #[.agg #[.int .u64 F2, .int .u64 F3, .int .i64 (sg T F2), .int .i64 (sg T F3)], .bool true]) (by simp [results, Try.results40, go_sem, fb0, fb1, fb2, fb3]) rfl ⟨rfl, ?_⟩
            repeat (first | exact B2 | exact below_drewN' B2 _ | apply Below.drew | refine Below.alloc ?_ (by simp <;> omega) _ | refine Below.setCell ?_ (by simp) _)
          · exfalso; omega
        · by_cases g4 : F2 ≤ r1
          · have hlo : tiLo T r0 r1 r2 = F2 := by unfold tiLo tA; (repeat' split) <;> omega
            have hhi : tiHi T r1 r2 r3 = r1 := by unfold tiHi tA; (repeat' split) <;> omega
            have hk : tiK T r0 r1 r2 r3 = 1 := by unfold tiK; rw [hlo, hhi]; unfold tA; (repeat' split) <;> omega
            have H : tiV T r0 r1 r2 r3 = .tuple #[.agg #[.int .u64 F2, .int .u64 r1, .int .i64 (sg T F2), .int .i64 (sg T r1)], .bool true] := by unfold tiV; rw [if_neg (by omega), if_pos hk, hlo, hhi]
            rw [H]
            clear H hk hlo hhi
            have n2 : r2 < 0 := by omega
            have n3 : T + 1 ≤ F2 := by omega
            have n4 : F2 ≤ 2 * T + 1 := by omega
            have n5 : ¬ F2 < T + 1 := by omega
            have m3 : T + 1 ≤ F3 := by omega
            have m4 : F3 ≤ 2 * T + 1 := by omega
            have n7 : r0 < T + 1 := by omega
            have CG2 := CF2 n2
            have CG3 := CF3 (by assumption)
            clear CF2 CF3
            have s1 : 0 ≤ F2 := by omega
            have s2 : F2 ≤ 2 * T + 1 := by omega
            have s3 : 0 ≤ r1 := by omega
            have s4 : r1 ≤ 2 * T + 1 := by omega
            clear hF2 hF3
            go_enter Try.func40, Try.ntmps40
            go_wp2_with fail
            refine (CV _).mono ?_
            rintro e w1 ⟨rfl, hb1⟩
            have bc := tbcell hb1
            have hz0 : w.heap.size < w1.heap.size := by have := hb1.size; simp at this; omega
            have hz1 : w.heap.size + 1 < w1.heap.size := by have := hb1.size; simp at this; omega
            have ea0 : w1.cell? ⟨w.heap.size, 0, none⟩ = some (.int .u64 r0) := (bc.1 _ _ (by simp <;> omega)).trans (by simp)
            have ea1 : w1.cell? ⟨w.heap.size, 1, none⟩ = some (.int .u64 r1) := (bc.1 _ _ (by simp <;> omega)).trans (by simp)
            have ea2 : w1.cell? ⟨w.heap.size, 2, none⟩ = some (.int .i64 r2) := (bc.1 _ _ (by simp <;> omega)).trans (by simp)
            have ea3 : w1.cell? ⟨w.heap.size, 3, none⟩ = some (.int .i64 r3) := (bc.1 _ _ (by simp <;> omega)).trans (by simp)
            have eb0 : w1.cell? ⟨w.heap.size + 1, 0, none⟩ = some (.int .u64 0) := (bc.1 _ _ (by simp <;> omega)).trans (by simp)
            have eb1 : w1.cell? ⟨w.heap.size + 1, 1, none⟩ = some (.int .u64 0) := (bc.1 _ _ (by simp <;> omega)).trans (by simp)
            have eb2 : w1.cell? ⟨w.heap.size + 1, 2, none⟩ = some (.int .i64 0) := (bc.1 _ _ (by simp <;> omega)).trans (by simp)
            have eb3 : w1.cell? ⟨w.heap.size + 1, 3, none⟩ = some (.int .i64 0) := (bc.1 _ _ (by simp <;> omega)).trans (by simp)
            have ef0 : w1.frozen? ⟨w.heap.size + 1, 0, none⟩ = false := (bc.2 _ _ (by simp <;> omega)).trans (by simp)
            have ef1 : w1.frozen? ⟨w.heap.size + 1, 1, none⟩ = false := (bc.2 _ _ (by simp <;> omega)).trans (by simp)
            have ef2 : w1.frozen? ⟨w.heap.size + 1, 2, none⟩ = false := (bc.2 _ _ (by simp <;> omega)).trans (by simp)
            have ef3 : w1.frozen? ⟨w.heap.size + 1, 3, none⟩ = false := (bc.2 _ _ (by simp <;> omega)).trans (by simp)
            have B1 : Below w.heap.size w w1 := (((Below.refl w.heap.size w).alloc (Nat.le_refl _) _).alloc (by simp) _).trans (hb1.mono (by simp <;> omega))
            clear hb1 bc
            go_wp2_with fail
            refine (C2 _).mono ?_
            rintro e w2 ⟨rfl, rfl⟩
            go_wp2_with fail
            go_quiet ((go_at_call 53; exact Calls.quiet_of_same (CU _)))
            go_wp2_with fail
            replace ea0 : (w1.drewN nq).cell? ⟨w.heap.size, 0, none⟩ = some (.int .u64 r0) := ea0
            replace eb0 : (w1.drewN nq).cell? ⟨w.heap.size + 1, 0, none⟩ = some (.int .u64 0) := eb0
            replace ef0 : (w1.drewN nq).frozen? ⟨w.heap.size + 1, 0, none⟩ = false := ef0
            replace ea1 : (w1.drewN nq).cell? ⟨w.heap.size, 1, none⟩ = some (.int .u64 r1) := ea1
            replace eb1 : (w1.drewN nq).cell? ⟨w.heap.size + 1, 1, none⟩ = some (.int .u64 0) := eb1
            replace ef1 : (w1.drewN nq).frozen? ⟨w.heap.size + 1, 1, none⟩ = false := ef1
            replace ea2 : (w1.drewN nq).cell? ⟨w.heap.size, 2, none⟩ = some (.int .i64 r2) := ea2
            replace eb2 : (w1.drewN nq).cell? ⟨w.heap.size + 1, 2, none⟩ = some (.int .i64 0) := eb2
            replace ef2 : (w1.drewN nq).frozen? ⟨w.heap.size + 1, 2, none⟩ = false := ef2
            replace ea3 : (w1.drewN nq).cell? ⟨w.heap.size, 3, none⟩ = some (.int .i64 r3) := ea3
            replace eb3 : (w1.drewN nq).cell? ⟨w.heap.size + 1, 3, none⟩ = some (.int .i64 0) := eb3
            replace ef3 : (w1.drewN nq).frozen? ⟨w.heap.size + 1, 3, none⟩ = false := ef3
            replace hz0 : w.heap.size < (w1.drewN nq).heap.size := hz0
            replace hz1 : w.heap.size + 1 < (w1.drewN nq).heap.size := hz1
            replace B1 : Below w.heap.size w (w1.drewN nq) := below_drewN' B1 nq
            generalize w1.drewN nq = w5 at *
            go_quiet ((go_at_call 53; exact Calls.quiet_of_same (CU _)))
            go_wp2_with fail
            refine (CS F2 r1 (by assumption) (by assumption) (by assumption) _).mono ?_
            rintro e w2 ⟨rfl, hb2⟩
            have bc2 := tbcell hb2
            have fb0 : w2.cell? ⟨w.heap.size + 1, 0, none⟩ = some (.int .u64 0) := (bc2.1 _ _ (by simpa using hz1)).trans (by simpa using eb0)
            have fb1 : w2.cell? ⟨w.heap.size + 1, 1, none⟩ = some (.int .u64 0) := (bc2.1 _ _ (by simpa using hz1)).trans (by simpa using eb1)
            have fb2 : w2.cell? ⟨w.heap.size + 1, 2, none⟩ = some (.int .i64 0) := (bc2.1 _ _ (by simpa using hz1)).trans (by simpa using eb2)
            have fb3 : w2.cell? ⟨w.heap.size + 1, 3, none⟩ = some (.int .i64 0) := (bc2.1 _ _ (by simpa using hz1)).trans (by simpa using eb3)
            have gf0 : w2.frozen? ⟨w.heap.size + 1, 0, none⟩ = false := (bc2.2 _ _ (by simpa using hz1)).trans (by simpa using ef0)
            have gf1 : w2.frozen? ⟨w.heap.size + 1, 1, none⟩ = false := (bc2.2 _ _ (by simpa using hz1)).trans (by simpa using ef1)
            have gf2 : w2.frozen? ⟨w.heap.size + 1, 2, none⟩ = false := (bc2.2 _ _ (by simpa using hz1)).trans (by simpa using ef2)
            have gf3 : w2.frozen? ⟨w.heap.size + 1, 3, none⟩ = false := (bc2.2 _ _ (by simpa using hz1)).trans (by simpa using ef3)
            have B2 : Below w.heap.size w w2 := by
              first
                | exact B1.trans (hb2.mono B1.size)
                | exact (below_drewN' B1 _).trans (hb2.mono (below_drewN' B1 _).size)
            clear hb2 bc2
            go_wp2_with fail
            refine bodyPost_ret (v := .tuple #[.agg #[.int .u64 F2, .int .u64 r1, .int .i64 (sg T F2), .int .i64 (sg T r1)], .bool true]) (by simp [results, Try.results40, go_sem, fb0, fb1, fb2, fb3]) rfl ⟨rfl, ?_⟩
            repeat (first | exact B2 | exact below_drewN' B2 _ | apply Below.drew | refine Below.alloc ?_ (by simp <;> omega) _ | refine Below.setCell ?_ (by simp) _)
          · have hlo : tiLo T r0 r1 r2 = F2 := by unfold tiLo tA; (repeat' split) <;> omega
            have hhi : tiHi T r1 r2 r3 = r1 := by unfold tiHi tA; (repeat' split) <;> omega
            have hk : tiK T r0 r1 r2 r3 = 0 := by unfold tiK; rw [hlo, hhi]; unfold tA; (repeat' split) <;> omega
            have H : tiV T r0 r1 r2 r3 = .tuple #[.agg #[.int .u64 0, .int .u64 0, .int .i64 0, .int .i64 0], .bool false] := by unfold tiV; rw [if_pos hk]
            rw [H]
            clear H hk hlo hhi
            have n2 : r2 < 0 := by omega
            have n3 : T + 1 ≤ F2 := by omega
            have n4 : F2 ≤ 2 * T + 1 := by omega
            have n5 : ¬ F2 < T + 1 := by omega
            have m3 : T + 1 ≤ F3 := by omega
            have m4 : F3 ≤ 2 * T + 1 := by omega
            have n7 : r0 < T + 1 := by omega
            have CG2 := CF2 n2
            have CG3 := CF3 (by assumption)
            clear CF2 CF3
            clear hF2 hF3
            go_enter Try.func40, Try.ntmps40
            go_wp2_with fail
            refine (CV _).mono ?_
            rintro e w1 ⟨rfl, hb1⟩
            have bc := tbcell hb1
            have hz0 : w.heap.size < w1.heap.size := by have := hb1.size; simp at this; omega
            have hz1 : w.heap.size + 1 < w1.heap.size := by have := hb1.size; simp at this; omega
            have ea0 : w1.cell? ⟨w.heap.size, 0, none⟩ = some (.int .u64 r0) := (bc.1 _ _ (by simp <;> omega)).trans (by simp)
            have ea1 : w1.cell? ⟨w.heap.size, 1, none⟩ = some (.int .u64 r1) := (bc.1 _ _ (by simp <;> omega)).trans (by simp)
            have ea2 : w1.cell? ⟨w.heap.size, 2, none⟩ = some (.int .i64 r2) := (bc.1 _ _ (by simp <;> omega)).trans (by simp)
            have ea3 : w1.cell? ⟨w.heap.size, 3, none⟩ = some (.int .i64 r3) := (bc.1 _ _ (by simp <;> omega)).trans (by simp)
            have eb0 : w1.cell? ⟨w.heap.size + 1, 0, none⟩ = some (.int .u64 0) := (bc.1 _ _ (by simp <;> omega)).trans (by simp)
            have eb1 : w1.cell? ⟨w.heap.size + 1, 1, none⟩ = some (.int .u64 0) := (bc.1 _ _ (by simp <;> omega)).trans (by simp)
            have eb2 : w1.cell? ⟨w.heap.size + 1, 2, none⟩ = some (.int .i64 0) := (bc.1 _ _ (by simp <;> omega)).trans (by simp)
            have eb3 : w1.cell? ⟨w.heap.size + 1, 3, none⟩ = some (.int .i64 0) := (bc.1 _ _ (by simp <;> omega)).trans (by simp)
            have ef0 : w1.frozen? ⟨w.heap.size + 1, 0, none⟩ = false := (bc.2 _ _ (by simp <;> omega)).trans (by simp)
            have ef1 : w1.frozen? ⟨w.heap.size + 1, 1, none⟩ = false := (bc.2 _ _ (by simp <;> omega)).trans (by simp)
            have ef2 : w1.frozen? ⟨w.heap.size + 1, 2, none⟩ = false := (bc.2 _ _ (by simp <;> omega)).trans (by simp)
            have ef3 : w1.frozen? ⟨w.heap.size + 1, 3, none⟩ = false := (bc.2 _ _ (by simp <;> omega)).trans (by simp)
            have B1 : Below w.heap.size w w1 := (((Below.refl w.heap.size w).alloc (Nat.le_refl _) _).alloc (by simp) _).trans (hb1.mono (by simp <;> omega))
            clear hb1 bc
            go_wp2_with fail
            refine (C2 _).mono ?_
            rintro e w2 ⟨rfl, rfl⟩
            go_wp2_with fail
            go_quiet ((go_at_call 53; exact Calls.quiet_of_same (CU _)))
            go_wp2_with fail
            replace ea0 : (w1.drewN nq).cell? ⟨w.heap.size, 0, none⟩ = some (.int .u64 r0) := ea0
            replace eb0 : (w1.drewN nq).cell? ⟨w.heap.size + 1, 0, none⟩ = some (.int .u64 0) := eb0
            replace ef0 : (w1.drewN nq).frozen? ⟨w.heap.size + 1, 0, none⟩ = false := ef0
            replace ea1 : (w1.drewN nq).cell? ⟨w.heap.size, 1, none⟩ = some (.int .u64 r1) := ea1
            replace eb1 : (w1.drewN nq).cell? ⟨w.heap.size + 1, 1, none⟩ = some (.int .u64 0) := eb1
            replace ef1 : (w1.drewN nq).frozen? ⟨w.heap.size + 1, 1, none⟩ = false := ef1
            replace ea2 : (w1.drewN nq).cell? ⟨w.heap.size, 2, none⟩ = some (.int .i64 r2) := ea2
            replace eb2 : (w1.drewN nq).cell? ⟨w.heap.size + 1, 2, none⟩ = some (.int .i64 0) := eb2
            replace ef2 : (w1.drewN nq).frozen? ⟨w.heap.size + 1, 2, none⟩ = false := ef2
            replace ea3 : (w1.drewN nq).cell? ⟨w.heap.size, 3, none⟩ = some (.int .i64 r3) := ea3
            replace eb3 : (w1.drewN nq).cell? ⟨w.heap.size + 1, 3, none⟩ = some (.int .i64 0) := eb3
            replace ef3 : (w1.drewN nq).frozen? ⟨w.heap.size + 1, 3, none⟩ = false := ef3
            replace hz0 : w.heap.size < (w1.drewN nq).heap.size := hz0
            replace hz1 : w.heap.size + 1 < (w1.drewN nq).heap.size := hz1
            replace B1 : Below w.heap.size w (w1.drewN nq) := below_drewN' B1 nq
            generalize w1.drewN nq = w5 at *
            go_quiet ((go_at_call 53; exact Calls.quiet_of_same (CU _)))
            go_wp2_with fail
            refine (CN F2 r1 (by assumption) _).mono ?_
            rintro e w2 ⟨rfl, hb2⟩
            have bc2 := tbcell hb2
            have fb0 : w2.cell? ⟨w.heap.size + 1, 0, none⟩ = some (.int .u64 0) := (bc2.1 _ _ (by simpa using hz1)).trans (by simpa using eb0)
            have fb1 : w2.cell? ⟨w.heap.size + 1, 1, none⟩ = some (.int .u64 0) := (bc2.1 _ _ (by simpa using hz1)).trans (by simpa using eb1)
            have fb2 : w2.cell? ⟨w.heap.size + 1, 2, none⟩ = some (.int .i64 0) := (bc2.1 _ _ (by simpa using hz1)).trans (by simpa using eb2)
            have fb3 : w2.cell? ⟨w.heap.size + 1, 3, none⟩ = some (.int .i64 0) := (bc2.1 _ _ (by simpa using hz1)).trans (by simpa using eb3)
            have gf0 : w2.frozen? ⟨w.heap.size + 1, 0, none⟩ = false := (bc2.2 _ _ (by simpa using hz1)).trans (by simpa using ef0)
            have gf1 : w2.frozen? ⟨w.heap.size + 1, 1, none⟩ = false := (bc2.2 _ _ (by simpa using hz1)).trans (by simpa using ef1)
            have gf2 : w2.frozen? ⟨w.heap.size + 1, 2, none⟩ = false := (bc2.2 _ _ (by simpa using hz1)).trans (by simpa using ef2)
            have gf3 : w2.frozen? ⟨w.heap.size + 1, 3, none⟩ = false := (bc2.2 _ _ (by simpa using hz1)).trans (by simpa using ef3)
            have B2 : Below w.heap.size w w2 := by
              first
                | exact B1.trans (hb2.mono B1.size)
                | exact (below_drewN' B1 _).trans (hb2.mono (below_drewN' B1 _).size)
            clear hb2 bc2
            go_wp2_with fail
            refine bodyPost_ret (v := .tuple #[.agg #[.int .u64 0, .int .u64 0, .int .i64 0, .int .i64 0], .bool false]) (by simp [results, Try.results40, go_sem, fb0, fb1, fb2, fb3]) rfl ⟨rfl, ?_⟩
            repeat (first | exact B2 | exact below_drewN' B2 _ | apply Below.drew | refine Below.alloc ?_ (by simp <;> omega) _ | refine Below.setCell ?_ (by simp) _)
      · by_cases g3 : F3 < r1
        · by_cases g4 : (T + 1) ≤ F3
          · have hlo : tiLo T r0 r1 r2 = (T + 1) := by unfold tiLo tA; (repeat' split) <;> omega
            have hhi : tiHi T r1 r2 r3 = F3 := by unfold tiHi tA; (repeat' split) <;> omega
            have hk : tiK T r0 r1 r2 r3 = 1 := by unfold tiK; rw [hlo, hhi]; unfold tA; (repeat' split) <;> omega
            have H : tiV T r0 r1 r2 r3 = .tuple #[.agg #[.int .u64 (T + 1), .int .u64 F3, .int .i64 (sg T (T + 1)), .int .i64 (sg T F3)], .bool true] := by unfold tiV; rw [if_neg (by omega), if_pos hk, hlo, hhi]
            rw [H]
            clear H hk hlo hhi
            have n2 : r2 < 0 := by omega
            have n3 : T + 1 ≤ F2 := by omega
            have n4 : F2 ≤ 2 * T + 1 := by omega
            have n5 : ¬ (T + 1) < T + 1 := by omega
            have m3 : T + 1 ≤ F3 := by omega
            have m4 : F3 ≤ 2 * T + 1 := by omega
            have n7 : r0 < T + 1 := by omega
            have CG2 := CF2 n2
            have CG3 := CF3 (by assumption)
            clear CF2 CF3
            have s1 : 0 ≤ (T + 1) := by omega
            have s2 : (T + 1) ≤ 2 * T + 1 := by omega
            have s3 : 0 ≤ F3 := by omega
            have s4 : F3 ≤ 2 * T + 1 := by omega
            clear hF2 hF3
            go_enter Try.func40, Try.ntmps40
            go_wp2_with fail
            refine (CV _).mono ?_
            rintro e w1 ⟨rfl, hb1⟩
            have bc := tbcell hb1
            have hz0 : w.heap.size < w1.heap.size := by have := hb1.size; simp at this; omega
            have hz1 : w.heap.size + 1 < w1.heap.size := by have := hb1.size; simp at this; omega
            have ea0 : w1.cell? ⟨w.heap.size, 0, none⟩ = some (.int .u64 r0) := (bc.1 _ _ (by simp <;> omega)).trans (by simp)
            have ea1 : w1.cell? ⟨w.heap.size, 1, none⟩ = some (.int .u64 r1) := (bc.1 _ _ (by simp <;> omega)).trans (by simp)
            have ea2 : w1.cell? ⟨w.heap.size, 2, none⟩ = some (.int .i64 r2) := (bc.1 _ _ (by simp <;> omega)).trans (by simp)
            have ea3 : w1.cell? ⟨w.heap.size, 3, none⟩ = some (.int .i64 r3) := (bc.1 _ _ (by simp <;> omega)).trans (by simp)
            have eb0 : w1.cell? ⟨w.heap.size + 1, 0, none⟩ = some (.int .u64 0) := (bc.1 _ _ (by simp <;> omega)).trans (by simp)
            have eb1 : w1.cell? ⟨w.heap.size + 1, 1, none⟩ = some (.int .u64 0) := (bc.1 _ _ (by simp <;> omega)).trans (by simp)
            have eb2 : w1.cell? ⟨w.heap.size + 1, 2, none⟩ = some (.int .i64 0) := (bc.1 _ _ (by simp <;> omega)).trans (by simp)
            have eb3 : w1.cell? ⟨w.heap.size + 1, 3, none⟩ = some (.int .i64 0) := (bc.1 _ _ (by simp <;> omega)).trans (by simp)
            have ef0 : w1.frozen? ⟨w.heap.size + 1, 0, none⟩ = false := (bc.2 _ _ (by simp <;> omega)).trans (by simp)
            have ef1 : w1.frozen? ⟨w.heap.size + 1, 1, none⟩ = false := (bc.2 _ _ (by simp <;> omega)).trans (by simp)
            have ef2 : w1.frozen? ⟨w.heap.size + 1, 2, none⟩ = false := (bc.2 _ _ (by simp <;> omega)).trans (by simp)
            have ef3 : w1.frozen? ⟨w.heap.size + 1, 3, none⟩ = false := (bc.2 _ _ (by simp <;> omega)).trans (by simp)
            have B1 : Below w.heap.size w w1 := (((Below.refl w.heap.size w).alloc (Nat.le_refl _) _).alloc (by simp) _).trans (hb1.mono (by simp <;> omega))
            clear hb1 bc
            go_wp2_with fail
            refine (C2 _).mono ?_
            rintro e w2 ⟨rfl, rfl⟩
            go_wp2_with fail
            go_quiet ((go_at_call 53; exact Calls.quiet_of_same (CU _)))
            go_wp2_with fail
            replace ea0 : (w1.drewN nq).cell? ⟨w.heap.size, 0, none⟩ = some (.int .u64 r0) := ea0
            replace eb0 : (w1.drewN nq).cell? ⟨w.heap.size + 1, 0, none⟩ = some (.int .u64 0) := eb0
            replace ef0 : (w1.drewN nq).frozen? ⟨w.heap.size + 1, 0, none⟩ = false := ef0
            replace ea1 : (w1.drewN nq).cell? ⟨w.heap.size, 1, none⟩ = some (.int .u64 r1) := ea1
            replace eb1 : (w1.drewN nq).cell? ⟨w.heap.size + 1, 1, none⟩ = some (.int .u64 0) := eb1
            replace ef1 : (w1.drewN nq).frozen? ⟨w.heap.size + 1, 1, none⟩ = false := ef1
            replace ea2 : (w1.drewN nq).cell? ⟨w.heap.size, 2, none⟩ = some (.int .i64 r2) := ea2
            replace eb2 : (w1.drewN nq).cell? ⟨w.heap.size + 1, 2, none⟩ = some (.int .i64 0) := eb2
            replace ef2 : (w1.drewN nq).frozen? ⟨w.heap.size + 1, 2, none⟩ = false := ef2
            replace ea3 : (w1.drewN nq).cell? ⟨w.heap.size, 3, none⟩ = some (.int .i64 r3) := ea3
            replace eb3 : (w1.drewN nq).cell? ⟨w.heap.size + 1, 3, none⟩ = some (.int .i64 0) := eb3
            replace ef3 : (w1.drewN nq).frozen? ⟨w.heap.size + 1, 3, none⟩ = false := ef3
            replace hz0 : w.heap.size < (w1.drewN nq).heap.size := hz0
            replace hz1 : w.heap.size + 1 < (w1.drewN nq).heap.size := hz1
            replace B1 : Below w.heap.size w (w1.drewN nq) := below_drewN' B1 nq
            generalize w1.drewN nq = w5 at *
            go_quiet ((go_at_call 53; exact Calls.quiet_of_same (CU _)))
            go_wp2_with fail
            refine (CS (T + 1) F3 (by assumption) (by assumption) (by assumption) _).mono ?_
            rintro e w2 ⟨rfl, hb2⟩
            have bc2 := tbcell hb2
            have fb0 : w2.cell? ⟨w.heap.size + 1, 0, none⟩ = some (.int .u64 0) := (bc2.1 _ _ (by simpa using hz1)).trans (by simpa using eb0)
            have fb1 : w2.cell? ⟨w.heap.size + 1, 1, none⟩ = some (.int .u64 0) := (bc2.1 _ _ (by simpa using hz1)).trans (by simpa using eb1)
            have fb2 : w2.cell? ⟨w.heap.size + 1, 2, none⟩ = some (.int .i64 0) := (bc2.1 _ _ (by simpa using hz1)).trans (by simpa using eb2)
            have fb3 : w2.cell? ⟨w.heap.size + 1, 3, none⟩ = some (.int .i64 0) := (bc2.1 _ _ (by simpa using hz1)).trans (by simpa using eb3)
            have gf0 : w2.frozen? ⟨w.heap.size + 1, 0, none⟩ = false := (bc2.2 _ _ (by simpa using hz1)).trans (by simpa using ef0)
            have gf1 : w2.frozen? ⟨w.heap.size + 1, 1, none⟩ = false := (bc2.2 _ _ (by simpa using hz1)).trans (by simpa using ef1)
            have gf2 : w2.frozen? ⟨w.heap.size + 1, 2, none⟩ = false := (bc2.2 _ _ (by simpa using hz1)).trans (by simpa using ef2)
            have gf3 : w2.frozen? ⟨w.heap.size + 1, 3, none⟩ = false := (bc2.2 _ _ (by simpa using hz1)).trans (by simpa using ef3)
            have B2 : Below w.heap.size w w2 := by
              first
                | exact B1.trans (hb2.mono B1.size)
                | exact (below_drewN' B1 _).trans (hb2.mono (below_drewN' B1 _).size)
            clear hb2 bc2
            go_wp2_with fail
            refine bodyPost_ret (v := .tuple #[.agg #[.int .u64 (T + 1), .int .u64 F3, .int .i64 (sg T (T + 1)), .int .i64 (sg T F3)], .bool true]) (by simp [results, Try.results40, go_sem, fb0, fb1, fb2, fb3]) rfl ⟨rfl, ?_⟩
            repeat (first | exact B2 | exact below_drewN' B2 _ | apply Below.drew | refine Below.alloc ?_ (by simp <;> omega) _ | refine Below.setCell ?_ (by simp) _)
          · exfalso; omega
        · by_cases g4 : (T + 1) ≤ r1
          · have hlo : tiLo T r0 r1 r2 = (T + 1) := by unfold tiLo tA; (repeat' split) <;> omega
            have hhi : tiHi T r1 r2 r3 = r1 := by unfold tiHi tA; (repeat' split) <;> omega
            have hk : tiK T r0 r1 r2 r3 = 1 := by unfold tiK; rw [hlo, hhi]; unfold tA; (repeat' split) <;> omega
            have H : tiV T r0 r1 r2 r3 = .tuple #[.agg #[.int .u64 (T + 1), .int .u64 r1, .int .i64 (sg T (T + 1)), .int .i64 (sg T r1)], .bool true] := by unfold tiV; rw [if_neg (by omega), if_pos hk, hlo, hhi]
            rw [H]
            clear H hk hlo hhi
            have n2 : r2 < 0 := by omega
            have n3 : T + 1 ≤ F2 := by omega
            have n4 : F2 ≤ 2 * T + 1 := by omega
            have n5 : ¬ (T + 1) < T + 1 := by omega
            have m3 : T + 1 ≤ F3 := by omega
            have m4 : F3 ≤ 2 * T + 1 := by omega
            have n7 : r0 < T + 1 := by omega
            have CG2 := CF2 n2
            have CG3 := CF3 (by assumption)
            clear CF2 CF3
            have s1 : 0 ≤ (T + 1) := by omega
            have s2 : (T + 1) ≤ 2 * T + 1 := by omega
            have s3 : 0 ≤ r1 := by omega
            have s4 : r1 ≤ 2 * T + 1 := by omega
            clear hF2 hF3
            go_enter Try.func40, Try.ntmps40
            go_wp2_with fail
            refine (CV _).mono ?_
            rintro e w1 ⟨rfl, hb1⟩
            have bc := tbcell hb1
            have hz0 : w.heap.size < w1.heap.size := by have := hb1.size; simp at this; omega
            have hz1 : w.heap.size + 1 < w1.heap.size := by have := hb1.size; simp at this; omega
            have ea0 : w1.cell? ⟨w.heap.size, 0, none⟩ = some (.int .u64 r0) := (bc.1 _ _ (by simp <;> omega)).trans (by simp)
            have ea1 : w1.cell? ⟨w.heap.size, 1, none⟩ = some (.int .u64 r1) := (bc.1 _ _ (by simp <;> omega)).trans (by simp)
            have ea2 : w1.cell? ⟨w.heap.size, 2, none⟩ = some (.int .i64 r2) := (bc.1 _ _ (by simp <;> omega)).trans (by simp)
            have ea3 : w1.cell? ⟨w.heap.size, 3, none⟩ = some (.int .i64 r3) := (bc.1 _ _ (by simp <;> omega)).trans (by simp)
            have eb0 : w1.cell? ⟨w.heap.size + 1, 0, none⟩ = some (.int .u64 0) := (bc.1 _ _ (by simp <;> omega)).trans (by simp)
            have eb1 : w1.cell? ⟨w.heap.size + 1, 1, none⟩ = some (.int .u64 0) := (bc.1 _ _ (by simp <;> omega)).trans (by simp)
            have eb2 : w1.cell? ⟨w.heap.size + 1, 2, none⟩ = some (.int .i64 0) := (bc.1 _ _ (by simp <;> omega)).trans (by simp)
            have eb3 : w1.cell? ⟨w.heap.size + 1, 3, none⟩ = some (.int .i64 0) := (bc.1 _ _ (by simp <;> omega)).trans (by simp)
            have ef0 : w1.frozen? ⟨w.heap.size + 1, 0, none⟩ = false := (bc.2 _ _ (by simp <;> omega)).trans (by simp)
            have ef1 : w1.frozen? ⟨w.heap.size + 1, 1, none⟩ = false := (bc.2 _ _ (by simp <;> omega)).trans (by simp)
            have ef2 : w1.frozen? ⟨w.heap.size + 1, 2, none⟩ = false := (bc.2 _ _ (by simp <;> omega)).trans (by simp)
            have ef3 : w1.frozen? ⟨w.heap.size + 1, 3, none⟩ = false := (bc.2 _ _ (by simp <;> omega)).trans (by simp)
            have B1 : Below w.heap.size w w1 := (((Below.refl w.heap.size w).alloc (Nat.le_refl _) _).alloc (by simp) _).trans (hb1.mono (by simp <;> omega))
            clear hb1 bc
            go_wp2_with fail
            refine (C2 _).mono ?_
            rintro e w2 ⟨rfl, rfl⟩
            go_wp2_with fail
            go_quiet ((go_at_call 53; exact Calls.quiet_of_same (CU _)))
            go_wp2_with fail
            replace ea0 : (w1.drewN nq).cell? ⟨w.heap.size, 0, none⟩ = some (.int .u64 r0) := ea0
            replace eb0 : (w1.drewN nq).cell? ⟨w.heap.size + 1, 0, none⟩ = some (.int .u64 0) := eb0
            replace ef0 : (w1.drewN nq).frozen? ⟨w.heap.size + 1, 0, none⟩ = false := ef0
            replace ea1 : (w1.drewN nq).cell? ⟨w.heap.size, 1, none⟩ = some (.int .u64 r1) := ea1
            replace eb1 : (w1.drewN nq).cell? ⟨w.heap.size + 1, 1, none⟩ = some (.int .u64 0) := eb1
            replace ef1 : (w1.drewN nq).frozen? ⟨w.heap.size + 1, 1, none⟩ = false := ef1
            replace ea2 : (w1.drewN nq).cell? ⟨w.heap.size, 2, none⟩ = some (.int .i64 r2) := ea2
            replace eb2 : (w1.drewN nq).cell? ⟨w.heap.size + 1, 2, none⟩ = some (.int .i64 0) := eb2
            replace ef2 : (w1.drewN nq).frozen? ⟨w.heap.size + 1, 2, none⟩ = false := ef2
            replace ea3 : (w1.drewN nq).cell? ⟨w.heap.size, 3, none⟩ = some (.int .i64 r3) := ea3
            replace eb3 : (w1.drewN nq).cell? ⟨w.heap.size + 1, 3, none⟩ = some (.int .i64 0) := eb3
            replace ef3 : (w1.drewN nq).frozen? ⟨w.heap.size + 1, 3, none⟩ = false := ef3
            replace hz0 : w.heap.size < (w1.drewN nq).heap.size := hz0
            replace hz1 : w.heap.size + 1 < (w1.drewN nq).heap.size := hz1
            replace B1 : Below w.heap.size w (w1.drewN nq) := below_drewN' B1 nq
            generalize w1.drewN nq = w5 at *
            go_quiet ((go_at_call 53; exact Calls.quiet_of_same (CU _)))
            go_wp2_with fail
            refine (CS (T + 1) r1 (by assumption) (by assumption) (by assumption) _).mono ?_
            rintro e w2 ⟨rfl, hb2⟩
            have bc2 := tbcell hb2
            have fb0 : w2.cell? ⟨w.heap.size + 1, 0, none⟩ = some (.int .u64 0) := (bc2.1 _ _ (by simpa using hz1)).trans (by simpa using eb0)
            have fb1 : w2.cell? ⟨w.heap.size + 1, 1, none⟩ = some (.int .u64 0) := (bc2.1 _ _ (by simpa using hz1)).trans (by simpa using eb1)
            have fb2 : w2.cell? ⟨w.heap.size + 1, 2, none⟩ = some (.int .i64 0) := (bc2.1 _ _ (by simpa using hz1)).trans (by simpa using eb2)
            have fb3 : w2.cell? ⟨w.heap.size + 1, 3, none⟩ = some (.int .i64 0) := (bc2.1 _ _ (by simpa using hz1)).trans (by simpa using eb3)
            have gf0 : w2.frozen? ⟨w.heap.size + 1, 0, none⟩ = false := (bc2.2 _ _ (by simpa using hz1)).trans (by simpa using ef0)
            have gf1 : w2.frozen? ⟨w.heap.size + 1, 1, none⟩ = false := (bc2.2 _ _ (by simpa using hz1)).trans (by simpa using ef1)
            have gf2 : w2.frozen? ⟨w.heap.size + 1, 2, none⟩ = false := (bc2.2 _ _ (by simpa using hz1)).trans (by simpa using ef2)
            have gf3 : w2.frozen? ⟨w.heap.size + 1, 3, none⟩ = false := (bc2.2 _ _ (by simpa using hz1)).trans (by simpa using ef3)
            have B2 : Below w.heap.size w w2 := by
              first
                | exact B1.trans (hb2.mono B1.size)
                | exact (below_drewN' B1 _).trans (hb2.mono (below_drewN' B1 _).size)
            clear hb2 bc2
            go_wp2_with fail
            refine bodyPost_ret (v := .tuple #[.agg #[.int .u64 (T + 1), .int .u64 r1, .int .i64 (sg T (T + 1)), .int .i64 (sg T r1)], .bool true]) (by simp [results, Try.results40, go_sem, fb0, fb1, fb2, fb3]) rfl ⟨rfl, ?_⟩
            repeat (first | exact B2 | exact below_drewN' B2 _ | apply Below.drew | refine Below.alloc ?_ (by simp <;> omega) _ | refine Below.setCell ?_ (by simp) _)
          · exfalso; omega
    · exfalso; omega
  · have hk : tiK T r0 r1 r2 r3 = 2 := by unfold tiK tA; (repeat' split) <;> omega
    have H : tiV T r0 r1 r2 r3 = .tuple #[.agg #[.int .u64 r0, .int .u64 r1, .int .i64 r2, .int .i64 r3], .bool true] := by unfold tiV; rw [if_neg (by omega), if_neg (by omega)]
    rw [H]
    clear H hk
    clear hF2 hF3
    go_enter Try.func40, Try.ntmps40
    go_wp2_with fail
    refine (CV _).mono ?_
    rintro e w1 ⟨rfl, hb1⟩
    have bc := tbcell hb1
    have hz0 : w.heap.size < w1.heap.size := by have := hb1.size; simp at this; omega
    have hz1 : w.heap.size + 1 < w1.heap.size := by have := hb1.size; simp at this; omega
    have ea0 : w1.cell? ⟨w.heap.size, 0, none⟩ = some (.int .u64 r0) := (bc.1 _ _ (by simp <;> omega)).trans (by simp)
    have ea1 : w1.cell? ⟨w.heap.size, 1, none⟩ = some (.int .u64 r1) := (bc.1 _ _ (by simp <;> omega)).trans (by simp)
    have ea2 : w1.cell? ⟨w.heap.size, 2, none⟩ = some (.int .i64 r2) := (bc.1 _ _ (by simp <;> omega)).trans (by simp)
    have ea3 : w1.cell? ⟨w.heap.size, 3, none⟩ = some (.int .i64 r3) := (bc.1 _ _ (by simp <;> omega)).trans (by simp)
    have eb0 : w1.cell? ⟨w.heap.size + 1, 0, none⟩ = some (.int .u64 0) := (bc.1 _ _ (by simp <;> omega)).trans (by simp)
    have eb1 : w1.cell? ⟨w.heap.size + 1, 1, none⟩ = some (.int .u64 0) := (bc.1 _ _ (by simp <;> omega)).trans (by simp)
    have eb2 : w1.cell? ⟨w.heap.size + 1, 2, none⟩ = some (.int .i64 0) := (bc.1 _ _ (by simp <;> omega)).trans (by simp)
    have eb3 : w1.cell? ⟨w.heap.size + 1, 3, none⟩ = some (.int .i64 0) := (bc.1 _ _ (by simp <;> omega)).trans (by simp)
    have ef0 : w1.frozen? ⟨w.heap.size + 1, 0, none⟩ = false := (bc.2 _ _ (by simp <;> omega)).trans (by simp)
    have ef1 : w1.frozen? ⟨w.heap.size + 1, 1, none⟩ = false := (bc.2 _ _ (by simp <;> omega)).trans (by simp)
    have ef2 : w1.frozen? ⟨w.heap.size + 1, 2, none⟩ = false := (bc.2 _ _ (by simp <;> omega)).trans (by simp)
    have ef3 : w1.frozen? ⟨w.heap.size + 1, 3, none⟩ = false := (bc.2 _ _ (by simp <;> omega)).trans (by simp)
    have B1 : Below w.heap.size w w1 := (((Below.refl w.heap.size w).alloc (Nat.le_refl _) _).alloc (by simp) _).trans (hb1.mono (by simp <;> omega))
    clear hb1 bc
    go_wp2_with fail
    refine (C2 _).mono ?_
    rintro e w2 ⟨rfl, rfl⟩
    go_wp2_with fail
    refine bodyPost_ret (v := .tuple #[.agg #[.int .u64 r0, .int .u64 r1, .int .i64 r2, .int .i64 r3], .bool true]) (by simp [results, Try.results40, go_sem, eb0, eb1, eb2, eb3]) rfl ⟨rfl, ?_⟩
    repeat (first | exact B1 | exact below_drewN' B1 _ | apply Below.drew | refine Below.alloc ?_ (by simp <;> omega) _ | refine Below.setCell ?_ (by simp) _)
end Go.Proofs.Ythkdojgagmaecab
