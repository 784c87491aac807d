/- Package cycles: Count of a function of one block that returns; awake of layer 36. -/
import Derived.Test.YthhdfdkdcabiaaaCy
import Derived.Deep.RegionHeld3
import Derived.Deep.QuietTactic
import Derived.BigQuiet
import Derived.WalkSmall
set_option linter.unusedVariables false
set_option linter.unusedSimpArgs false
namespace Go.Proofs.Ythhdfdkdcabiaaa
open Go.RowKit

theorem ybcell {W w1 : World} (hb : Below W.heap.size W w1) : (∀ b o, b < W.heap.size → w1.cell? ⟨b, o, none⟩ = W.cell? ⟨b, o, none⟩) ∧ (∀ b o, b < W.heap.size → w1.frozen? ⟨b, o, none⟩ = W.frozen? ⟨b, o, none⟩) :=
  ⟨fun b o h => hb.cell (p := ⟨b, o, none⟩) h, fun b o h => hb.frozen (p := ⟨b, o, none⟩) h⟩
theorem ydrew {B : Nat} {a w : World} (h : Below B a w) (n : Nat) : Below B a (w.drewN n) := h.trans ⟨rfl, rfl, rfl, Nat.le_refl _, fun _ _ => rfl⟩
theorem ycell_old (w : World) (o : Obj) (b k : Nat) (h : b < w.heap.size) : (w.alloc o).cell? ⟨b, k, none⟩ = w.cell? ⟨b, k, none⟩ :=
  (ybcell ((Below.refl w.heap.size w).alloc (Nat.le_refl _) o)).1 b k h
theorem yfro_old (w : World) (o : Obj) (b k : Nat) (h : b < w.heap.size) : (w.alloc o).frozen? ⟨b, k, none⟩ = w.frozen? ⟨b, k, none⟩ :=
  (ybcell ((Below.refl w.heap.size w).alloc (Nat.le_refl _) o)).2 b k h
theorem yfro_new (w : World) (c : Array Value) (t : TypeId) (n k : Nat) (hn : n = w.heap.size) : (w.alloc (.cells c t)).frozen? ⟨n, k, none⟩ = false := by
  subst hn; simp
theorem self_one (n0 n1 n2 n3 n4 : Value) (GB GS : Nat) (w : World) (hS : w.cell? ⟨GS, 0, none⟩ = some (.int .i64 0)) :
    Calls Try.prog 18 #[.agg #[n0, n1, n2, n3, n4, .slice (some ⟨GB, 0, none⟩) 1 1], .slice (some ⟨GS, 0, none⟩) 1 1, .int .i64 0] w fun e w' => e = .returned (.int .i64 (-1)) ∧ w.alloc (.cells #[n0, n1, n2, n3, n4, .slice (some ⟨GB, 0, none⟩) 1 1] 45) = w' := by
  have hl : GS < w.heap.size := World.block_lt_of_cell? w _ hS
  go_enter Try.func18, Try.ntmps18
  go_wp2_with fail
  go_ret
  exact ⟨rfl, rfl⟩
set_option maxHeartbeats 800000 in
theorem pip_one (n0 n1 n2 n3 n4 : Value) (GB GS : Nat) (w : World) (s0 : w.cell? ⟨GS, 0, none⟩ = some (.int .i64 0)) (s1 : w.cell? ⟨GS, 1, none⟩ = some (.int .i64 4)) (s2 : w.cell? ⟨GS, 2, none⟩ = some (.slice none 0 0)) (s3 : w.cell? ⟨GS, 3, none⟩ = some (.slice none 0 0)) (s4 : w.cell? ⟨GS, 4, none⟩ = some (.slice none 0 0)) :
    Calls Try.prog 13 #[.agg #[n0, n1, n2, n3, n4, .slice (some ⟨GB, 0, none⟩) 1 1], .slice (some ⟨GS, 0, none⟩) 1 1, .int .i64 0] w fun e w' => e = .returned (.agg #[.int .i64 0, .int .i64 4, .slice none 0 0, .slice none 0 0, .slice none 0 0]) ∧ Below w.heap.size w w' := by
  have hl : GS < w.heap.size := World.block_lt_of_cell? w _ s0
  go_enter Try.func13, Try.ntmps13
  go_wp2_with fail
  refine (self_one _ _ _ _ _ _ GS _ ?_).mono ?_
  · rw [ycell_old _ _ _ _ (by first | omega | (simp; omega)), ycell_old _ _ _ _ (by first | omega | (simp; omega)), ycell_old _ _ _ _ (by first | omega | (simp; omega))]; exact s0
  rintro e w1 ⟨rfl, rfl⟩
  go_wp2_with fail
  refine bodyPost_ret (v := .agg #[.int .i64 0, .int .i64 4, .slice none 0 0, .slice none 0 0, .slice none 0 0]) (by simp [results, Try.results13, go_sem]) rfl ⟨rfl, ?_⟩
  repeat (first | exact Below.refl _ _ | apply Below.drew | refine Below.alloc ?_ (by simp <;> omega) _ | refine Below.setCell ?_ (by simp <;> omega) _)
theorem split_one (n0 n1 n2 n3 n4 : Value) (GB GS : Nat) (GP : Nat) (w : World) (p0 : w.cell? ⟨GP, 0, none⟩ = some (.int .i64 0)) :
    Calls Try.prog 12 #[.agg #[n0, n1, n2, n3, n4, .slice (some ⟨GB, 0, none⟩) 1 1], .slice (some ⟨GS, 0, none⟩) 1 1, .slice (some ⟨GP, 0, none⟩) 1 1] w fun e w' =>
      ∃ g, e = .returned (.tuple #[.slice (some ⟨g, 0, none⟩) 1 1, .int .i64 0]) ∧ (g < w'.heap.size ∧ w'.cell? ⟨g, 0, none⟩ = some (.int .i64 0) ∧ w'.cell? ⟨g, 1, none⟩ = some (.int .i64 1)) ∧ Below w.heap.size w w' := by
  have hl : GP < w.heap.size := World.block_lt_of_cell? w _ p0
  go_enter Try.func12, Try.ntmps12
  go_wp2_with fail
  refine wp_loop_rounds 1 ?_
  rw [rounds_succ]
  go_wp2_with fail
  go_ret2
  refine ⟨_, rfl, ⟨?_, ?_, ?_⟩, ?_⟩
  · simp
  · simp
  · simp
  · repeat (first | exact Below.refl _ _ | apply Below.drew | refine Below.alloc ?_ (by simp <;> omega) _ | refine Below.setCell ?_ (by simp) _)
abbrev LatC (B : Nat) (w0 : World) (A1 A2 A3 : Nat) (n0 n1 n2 n3 n4 : Value) (GB : Nat) (w' : World) : Prop :=
  Below B w0 w' ∧ (A1 < w'.heap.size ∧ A2 < w'.heap.size ∧ A3 < w'.heap.size) ∧ w'.cell? ⟨A1, 0, none⟩ = some (n0) ∧ w'.cell? ⟨A1, 1, none⟩ = some (n1) ∧ w'.cell? ⟨A1, 2, none⟩ = some (n2) ∧ w'.cell? ⟨A1, 3, none⟩ = some (n3) ∧ w'.cell? ⟨A1, 4, none⟩ = some (n4) ∧ w'.cell? ⟨A1, 5, none⟩ = some (.slice (some ⟨GB, 0, none⟩) 1 1) ∧ w'.cell? ⟨A2, 0, none⟩ = some (.int .i64 0) ∧ w'.cell? ⟨A2, 1, none⟩ = some (.int .i64 1) ∧ w'.cell? ⟨A3, 0, none⟩ = some (.int .i64 0) ∧ w'.cell? ⟨A3, 1, none⟩ = some (.int .i64 4) ∧ w'.cell? ⟨A3, 2, none⟩ = some (.slice none 0 0) ∧ w'.cell? ⟨A3, 3, none⟩ = some (.slice none 0 0) ∧ w'.cell? ⟨A3, 4, none⟩ = some (.slice none 0 0)
theorem LatC.go {B : Nat} {w0 : World} {A1 A2 A3 : Nat} {n0 n1 n2 n3 n4 : Value} {GB : Nat} {w1 w2 : World}
    (h : LatC B w0 A1 A2 A3 n0 n1 n2 n3 n4 GB w1) (hb : Below w1.heap.size w1 w2) (hB : B ≤ w0.heap.size) : LatC B w0 A1 A2 A3 n0 n1 n2 n3 n4 GB w2 := by
  obtain ⟨h0, ⟨s1, s2, s3⟩, c0, c1, c2, c3, c4, c5, c6, c7, c8, c9, c10, c11, c12⟩ := h
  have hz := hb.size
  have hc := (ybcell hb).1
  have := h0.size
  refine ⟨h0.trans (hb.mono (by omega)), ⟨by omega, by omega, by omega⟩, ?_, ?_, ?_, ?_, ?_, ?_, ?_, ?_, ?_, ?_, ?_, ?_, ?_⟩
  all_goals (rw [hc _ _ (by assumption)]; assumption)
theorem pip_lat {B : Nat} {w0 : World} {A1 A2 GS : Nat} {n0 n1 n2 n3 n4 : Value} {GB : Nat} (w : World) (h : LatC B w0 A1 A2 GS n0 n1 n2 n3 n4 GB w) :
    Calls Try.prog 13 #[.agg #[n0, n1, n2, n3, n4, .slice (some ⟨GB, 0, none⟩) 1 1], .slice (some ⟨GS, 0, none⟩) 1 1, .int .i64 0] w fun e w' => e = .returned (.agg #[.int .i64 0, .int .i64 4, .slice none 0 0, .slice none 0 0, .slice none 0 0]) ∧ Below w.heap.size w w' := by
  obtain ⟨_, _, c0, c1, c2, c3, c4, c5, c6, c7, c8, c9, c10, c11, c12⟩ := h
  exact pip_one n0 n1 n2 n3 n4 GB GS w c8 c9 c10 c11 c12
set_option maxHeartbeats 1600000 in
theorem count_one (n0 n1 n2 n3 n4 : Value) (GB GS : Nat) (GP : Nat) (w : World) (s0 : w.cell? ⟨GS, 0, none⟩ = some (.int .i64 0)) (s1 : w.cell? ⟨GS, 1, none⟩ = some (.int .i64 4)) (s2 : w.cell? ⟨GS, 2, none⟩ = some (.slice none 0 0)) (s3 : w.cell? ⟨GS, 3, none⟩ = some (.slice none 0 0)) (s4 : w.cell? ⟨GS, 4, none⟩ = some (.slice none 0 0)) (p0 : w.cell? ⟨GP, 0, none⟩ = some (.int .i64 0)) (k0 : w.cell? ⟨GB, 2, none⟩ = some (.int .i64 3)) :
    Calls Try.prog 10 #[.agg #[n0, n1, n2, n3, n4, .slice (some ⟨GB, 0, none⟩) 1 1], .slice (some ⟨GS, 0, none⟩) 1 1, .slice (some ⟨GP, 0, none⟩) 1 1] w fun e w' => e = .returned (.tuple #[.int .i64 5, .int .i64 0]) ∧ Below w.heap.size w w' := by
  have hl : GS < w.heap.size := World.block_lt_of_cell? w _ s0
  have hlp : GP < w.heap.size := World.block_lt_of_cell? w _ p0
  have hlb : GB < w.heap.size := World.block_lt_of_cell? w _ k0
  go_enter Try.func10, Try.ntmps10
  go_wp2_with fail
  refine (split_one _ _ _ _ _ GB GS GP _ ?_).mono ?_
  · rw [ycell_old _ _ _ _ (by omega)]; exact p0
  rintro e w1 ⟨g, rfl, ⟨hg, g0, g1⟩, hb1⟩
  have bc := ybcell hb1
  have hz1 : w.heap.size < w1.heap.size := by have := hb1.size; simp at this; omega
  have f0 : w1.cell? ⟨w.heap.size, 0, none⟩ = some (n0) := (bc.1 _ _ (by simp)).trans (by simp)
  have f1 : w1.cell? ⟨w.heap.size, 1, none⟩ = some (n1) := (bc.1 _ _ (by simp)).trans (by simp)
  have f2 : w1.cell? ⟨w.heap.size, 2, none⟩ = some (n2) := (bc.1 _ _ (by simp)).trans (by simp)
  have f3 : w1.cell? ⟨w.heap.size, 3, none⟩ = some (n3) := (bc.1 _ _ (by simp)).trans (by simp)
  have f4 : w1.cell? ⟨w.heap.size, 4, none⟩ = some (n4) := (bc.1 _ _ (by simp)).trans (by simp)
  have f5 : w1.cell? ⟨w.heap.size, 5, none⟩ = some (.slice (some ⟨GB, 0, none⟩) 1 1) := (bc.1 _ _ (by simp)).trans (by simp)
  have t0 : w1.cell? ⟨GS, 0, none⟩ = some (.int .i64 0) := (bc.1 _ _ (by simp <;> omega)).trans (by rw [ycell_old _ _ _ _ (by omega)]; assumption)
  have t1 : w1.cell? ⟨GS, 1, none⟩ = some (.int .i64 4) := (bc.1 _ _ (by simp <;> omega)).trans (by rw [ycell_old _ _ _ _ (by omega)]; assumption)
  have t2 : w1.cell? ⟨GS, 2, none⟩ = some (.slice none 0 0) := (bc.1 _ _ (by simp <;> omega)).trans (by rw [ycell_old _ _ _ _ (by omega)]; assumption)
  have t3 : w1.cell? ⟨GS, 3, none⟩ = some (.slice none 0 0) := (bc.1 _ _ (by simp <;> omega)).trans (by rw [ycell_old _ _ _ _ (by omega)]; assumption)
  have t4 : w1.cell? ⟨GS, 4, none⟩ = some (.slice none 0 0) := (bc.1 _ _ (by simp <;> omega)).trans (by rw [ycell_old _ _ _ _ (by omega)]; assumption)
  have q0 : w1.cell? ⟨GP, 0, none⟩ = some (.int .i64 0) := (bc.1 _ _ (by simp <;> omega)).trans (by rw [ycell_old _ _ _ _ (by omega)]; assumption)
  have m0 : w1.cell? ⟨GB, 2, none⟩ = some (.int .i64 3) := (bc.1 _ _ (by simp <;> omega)).trans (by rw [ycell_old _ _ _ _ (by omega)]; assumption)
  have B1 : Below w.heap.size w w1 := ((Below.refl w.heap.size w).alloc (Nat.le_refl _) _).trans (hb1.mono (by simp))
  have lS : GS < w1.heap.size := by omega
  clear hb1 bc s0 s1 s2 s3 s4 p0 k0
  go_wp2_with fail
  go_quiet (fail)
  go_wp2_with fail
  replace B1 : Below w.heap.size w (w1.drewN nq) := ydrew B1 nq
  replace hz1 : w.heap.size < (w1.drewN nq).heap.size := hz1
  replace lS : GS < (w1.drewN nq).heap.size := lS
  replace hg : g < (w1.drewN nq).heap.size := hg
  replace g0 : (w1.drewN nq).cell? ⟨g, 0, none⟩ = some (.int .i64 0) := g0
  replace g1 : (w1.drewN nq).cell? ⟨g, 1, none⟩ = some (.int .i64 1) := g1
  replace f0 : (w1.drewN nq).cell? ⟨w.heap.size, 0, none⟩ = some (n0) := f0
  replace f1 : (w1.drewN nq).cell? ⟨w.heap.size, 1, none⟩ = some (n1) := f1
  replace f2 : (w1.drewN nq).cell? ⟨w.heap.size, 2, none⟩ = some (n2) := f2
  replace f3 : (w1.drewN nq).cell? ⟨w.heap.size, 3, none⟩ = some (n3) := f3
  replace f4 : (w1.drewN nq).cell? ⟨w.heap.size, 4, none⟩ = some (n4) := f4
  replace f5 : (w1.drewN nq).cell? ⟨w.heap.size, 5, none⟩ = some (.slice (some ⟨GB, 0, none⟩) 1 1) := f5
  replace t0 : (w1.drewN nq).cell? ⟨GS, 0, none⟩ = some (.int .i64 0) := t0
  replace t1 : (w1.drewN nq).cell? ⟨GS, 1, none⟩ = some (.int .i64 4) := t1
  replace t2 : (w1.drewN nq).cell? ⟨GS, 2, none⟩ = some (.slice none 0 0) := t2
  replace t3 : (w1.drewN nq).cell? ⟨GS, 3, none⟩ = some (.slice none 0 0) := t3
  replace t4 : (w1.drewN nq).cell? ⟨GS, 4, none⟩ = some (.slice none 0 0) := t4
  clear q0 m0
  generalize w1.drewN nq = w5 at *
  refine wp_loop_rounds 2 ?_
  rw [rounds_succ]
  go_wp2_with fail
  have hB : w.heap.size ≤ w.heap.size := Nat.le_refl _
  have L0 : LatC w.heap.size w w.heap.size w5.heap.size GS n0 n1 n2 n3 n4 GB (w5.alloc (.cells #[.int .i64 0, .int .i64 1] 58)) :=
    ⟨B1.alloc B1.size _, ⟨by simp <;> omega, by simp, by simp <;> omega⟩, (ycell_old _ _ _ _ (by omega)).trans f0, (ycell_old _ _ _ _ (by omega)).trans f1, (ycell_old _ _ _ _ (by omega)).trans f2, (ycell_old _ _ _ _ (by omega)).trans f3, (ycell_old _ _ _ _ (by omega)).trans f4, (ycell_old _ _ _ _ (by omega)).trans f5, World.cell?_alloc_at _ _ _ _ rfl, World.cell?_alloc_at _ _ _ _ rfl, (ycell_old _ _ _ _ (by omega)).trans t0, (ycell_old _ _ _ _ (by omega)).trans t1, (ycell_old _ _ _ _ (by omega)).trans t2, (ycell_old _ _ _ _ (by omega)).trans t3, (ycell_old _ _ _ _ (by omega)).trans t4⟩
  generalize w5.alloc (.cells #[.int .i64 0, .int .i64 1] 58) = W at L0 ⊢
  generalize w5.heap.size = A2 at L0 ⊢
  have CVs := fun w => visit_any 0 4 1 (.slice none 0 0) (.slice none 0 0) (.slice none 0 0) (by decide) (by decide) (by decide) (by decide) (fun h => by omega) w
  rw [show visN 0 4 1 = 4 by decide] at CVs
  clear B1 hz1 lS hg g0 g1 f0 f1 f2 f3 f4 f5 t0 t1 t2 t3 t4
  have L' := L0
  obtain ⟨l0, l1, c0, c1, c2, c3, c4, c5, c6, c7, c8, c9, c10, c11, c12⟩ := L0
  go_region_held3 (fun w' => Below w.heap.size w w' ∧ (w.heap.size < w'.heap.size ∧ A2 < w'.heap.size ∧ GS < w'.heap.size) ∧ w'.cell? ⟨w.heap.size, 0, none⟩ = some (n0) ∧ w'.cell? ⟨w.heap.size, 1, none⟩ = some (n1) ∧ w'.cell? ⟨w.heap.size, 2, none⟩ = some (n2) ∧ w'.cell? ⟨w.heap.size, 3, none⟩ = some (n3) ∧ w'.cell? ⟨w.heap.size, 4, none⟩ = some (n4) ∧ w'.cell? ⟨w.heap.size, 5, none⟩ = some (.slice (some ⟨GB, 0, none⟩) 1 1) ∧ w'.cell? ⟨A2, 0, none⟩ = some (.int .i64 0) ∧ w'.cell? ⟨A2, 1, none⟩ = some (.int .i64 1) ∧ w'.cell? ⟨GS, 0, none⟩ = some (.int .i64 0) ∧ w'.cell? ⟨GS, 1, none⟩ = some (.int .i64 4) ∧ w'.cell? ⟨GS, 2, none⟩ = some (.slice none 0 0) ∧ w'.cell? ⟨GS, 3, none⟩ = some (.slice none 0 0) ∧ w'.cell? ⟨GS, 4, none⟩ = some (.slice none 0 0))
    (first
      | exact LatC.go L' (ydrew (Below.refl _ _) 1) hB
      | exact LatC.go (by assumption) (by assumption) hB
      | exact LatC.go (by assumption) (ydrew (Below.refl _ _) 1) hB
      | go_keep)
    (first
      | (go_at_call 13; refine (pip_lat (B := w.heap.size) (w0 := w) (A1 := w.heap.size) (A2 := A2) _ (by assumption)).mono ?_; rintro e wq ⟨rfl, hbq⟩)
      | (go_at_call 6; refine (CVs _).mono ?_; rintro e wq ⟨rfl, hbq⟩))
  go_wp2_with fail
  have Z1 : LatC w.heap.size w w.heap.size A2 GS n0 n1 n2 n3 n4 GB wq := by assumption
  first
    | (rw [rounds_succ]; go_wp2_with fail)
    | skip
  go_ret2
  exact ⟨rfl, Z1.1⟩
set_option maxHeartbeats 1600000 in
theorem awake36 (w : World) :
    Calls Try.prog 5 #[] w fun e w' => e = .returned (.bool true) ∧ Below w.heap.size w w' := by
  have CVs := fun w => visit_any 3 7 3 (.slice none 0 0) (.slice none 0 0) (.slice none 0 0) (by decide) (by decide) (by decide) (by decide) (fun h => by omega) w
  rw [show visN 3 7 3 = 13 by decide] at CVs
  go_enter Try.func5, Try.ntmps5
  go_wp2_with fail
  refine (count_one _ _ _ _ _ _ _ _ _ ?_ ?_ ?_ ?_ ?_ ?_ ?_).mono ?_
  · exact (ycell_old _ _ _ _ (by simp)).trans (World.cell?_alloc_at _ _ _ _ (by simp))
  · exact (ycell_old _ _ _ _ (by simp)).trans (World.cell?_alloc_at _ _ _ _ (by simp))
  · exact (ycell_old _ _ _ _ (by simp)).trans (World.cell?_alloc_at _ _ _ _ (by simp))
  · exact (ycell_old _ _ _ _ (by simp)).trans (World.cell?_alloc_at _ _ _ _ (by simp))
  · exact (ycell_old _ _ _ _ (by simp)).trans (World.cell?_alloc_at _ _ _ _ (by simp))
  · exact World.cell?_alloc_at _ _ _ _ (by simp)
  · exact (ycell_old _ _ _ _ (by simp <;> omega)).trans ((ycell_old _ _ _ _ (by simp <;> omega)).trans ((ycell_old _ _ _ _ (by simp <;> omega)).trans (World.cell?_alloc_at _ _ _ _ rfl)))
  rintro e w1 ⟨rfl, hb1⟩
  have B1 : Below w.heap.size w w1 := (((((Below.refl w.heap.size w).alloc (Nat.le_refl _) _).alloc (by simp) _).alloc (by simp <;> omega) _).alloc (by simp <;> omega) _).trans (hb1.mono (by simp <;> omega))
  clear hb1
  go_wp2_with fail
  refine (CVs _).mono ?_
  rintro e w2 ⟨rfl, hb2⟩
  go_wp2_with fail
  go_ret
  exact ⟨rfl, B1.trans (hb2.mono B1.size)⟩
end Go.Proofs.Ythhdfdkdcabiaaa
