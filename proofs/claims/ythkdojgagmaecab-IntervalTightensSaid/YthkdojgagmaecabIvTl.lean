/- IntervalTightens. -/
import Derived.Test.YthkdojgagmaecabIvTr
import Derived.Test.YthkdojgagmaecabOpen
import Derived.Deep.RegionHeld3
set_option linter.unusedVariables false
set_option linter.unusedSimpArgs false
namespace Go.Proofs.Ythkdojgagmaecab
open Go.RowKit

/-- What a world of the law holds: the cells of three ranges. -/
abbrev LatT (B : Nat) (w0 : World) (A1 A2 A3 : Nat) (r0 r1 r2 r3 t0 t1 t2 t3 s0 s1 s2 s3 : Int) (w' : World) : Prop :=
  Below B w0 w' ∧ (A1 < w'.heap.size ∧ A2 < w'.heap.size ∧ A3 < w'.heap.size) ∧ w'.cell? ⟨A1, 0, none⟩ = some (.int .u64 r0) ∧ w'.cell? ⟨A1, 1, none⟩ = some (.int .u64 r1) ∧ w'.cell? ⟨A1, 2, none⟩ = some (.int .i64 r2) ∧ w'.cell? ⟨A1, 3, none⟩ = some (.int .i64 r3) ∧ w'.cell? ⟨A2, 0, none⟩ = some (.int .u64 t0) ∧ w'.cell? ⟨A2, 1, none⟩ = some (.int .u64 t1) ∧ w'.cell? ⟨A2, 2, none⟩ = some (.int .i64 t2) ∧ w'.cell? ⟨A2, 3, none⟩ = some (.int .i64 t3) ∧ w'.cell? ⟨A3, 0, none⟩ = some (.int .u64 s0) ∧ w'.cell? ⟨A3, 1, none⟩ = some (.int .u64 s1) ∧ w'.cell? ⟨A3, 2, none⟩ = some (.int .i64 s2) ∧ w'.cell? ⟨A3, 3, none⟩ = some (.int .i64 s3)
theorem LatT.go {B : Nat} {w0 : World} {A1 A2 A3 : Nat} {r0 r1 r2 r3 t0 t1 t2 t3 s0 s1 s2 s3 : Int} {w1 w2 : World}
    (h : LatT B w0 A1 A2 A3 r0 r1 r2 r3 t0 t1 t2 t3 s0 s1 s2 s3 w1) (hb : Below w1.heap.size w1 w2) (hB : B ≤ w0.heap.size) : LatT B w0 A1 A2 A3 r0 r1 r2 r3 t0 t1 t2 t3 s0 s1 s2 s3 w2 := by
  obtain ⟨h0, ⟨s1, s2, s3⟩, c0, c1, c2, c3, c4, c5, c6, c7, c8, c9, c10, c11⟩ := h
  have hz := hb.size
  have hc := (tbcell hb).1
  have := h0.size
  refine ⟨h0.trans (hb.mono (by omega)), ⟨by omega, by omega, by omega⟩, ?_, ?_, ?_, ?_, ?_, ?_, ?_, ?_, ?_, ?_, ?_, ?_⟩
  all_goals (rw [hc _ _ (by assumption)]; assumption)
theorem talloc_below (w : World) (o : Obj) : Below w.heap.size w (w.alloc o) := (Below.refl _ _).alloc (Nat.le_refl _) o
theorem tcells_old {w w1 : World} {b k : Nat} (hb : Below w.heap.size w w1) (h : b < w.heap.size) : w1.cell? ⟨b, k, none⟩ = w.cell? ⟨b, k, none⟩ := (tbcell hb).1 b k h
/-- The third range replaced by a new one. -/
theorem LatT.third {B : Nat} {w0 : World} {A1 A2 A3 : Nat} {r0 r1 r2 r3 t0 t1 t2 t3 s0 s1 s2 s3 : Int} {w1 : World} (q0 q1 q2 q3 : Int) (t : TypeId)
    (h : LatT B w0 A1 A2 A3 r0 r1 r2 r3 t0 t1 t2 t3 s0 s1 s2 s3 w1) (hB : B ≤ w0.heap.size) : LatT B w0 A1 A2 w1.heap.size r0 r1 r2 r3 t0 t1 t2 t3 q0 q1 q2 q3 (w1.alloc (.cells #[.int .u64 q0, .int .u64 q1, .int .i64 q2, .int .i64 q3] t)) := by
  have h' := LatT.go h (talloc_below w1 (.cells #[.int .u64 q0, .int .u64 q1, .int .i64 q2, .int .i64 q3] t)) hB
  obtain ⟨h0, ⟨s1, s2, s3⟩, c0, c1, c2, c3, c4, c5, c6, c7, c8, c9, c10, c11⟩ := h'
  exact ⟨h0, ⟨s1, s2, by simp⟩, c0, c1, c2, c3, c4, c5, c6, c7, World.cell?_alloc_at _ _ _ _ rfl, World.cell?_alloc_at _ _ _ _ rfl, World.cell?_alloc_at _ _ _ _ rfl, World.cell?_alloc_at _ _ _ _ rfl⟩
theorem latT_begin {w w1 w2 w3 : World} (ca cb cc : Array Value) (t : TypeId)
    (hb1 : Below (w.alloc (.cells ca t)).heap.size (w.alloc (.cells ca t)) w1) (hb2 : Below w1.heap.size w1 w2)
    (hb3 : Below (w2.alloc (.cells cb t)).heap.size (w2.alloc (.cells cb t)) w3) :
    Below w.heap.size w (w3.alloc (.cells cc t)) ∧ (w.heap.size < (w3.alloc (.cells cc t)).heap.size ∧ w2.heap.size < (w3.alloc (.cells cc t)).heap.size ∧ w3.heap.size < (w3.alloc (.cells cc t)).heap.size) ∧
    (∀ k, (w3.alloc (.cells cc t)).cell? ⟨w.heap.size, k, none⟩ = ca[k]?) ∧ (∀ k, (w3.alloc (.cells cc t)).cell? ⟨w2.heap.size, k, none⟩ = cb[k]?) ∧ (∀ k, (w3.alloc (.cells cc t)).cell? ⟨w3.heap.size, k, none⟩ = cc[k]?) := by
  have q1 : (w.alloc (.cells ca t)).heap.size = w.heap.size + 1 := by simp
  have q2 : (w2.alloc (.cells cb t)).heap.size = w2.heap.size + 1 := by simp
  have q3 : (w3.alloc (.cells cc t)).heap.size = w3.heap.size + 1 := by simp
  have z1 := hb1.size
  have z2 := hb2.size
  have z3 := hb3.size
  rw [q1] at z1
  rw [q2] at z3
  have d1 := talloc_below w (.cells ca t)
  have d2 := talloc_below w2 (.cells cb t)
  have d3 := talloc_below w3 (.cells cc t)
  refine ⟨?_, ⟨by omega, by omega, by omega⟩, fun k => ?_, fun k => ?_, fun k => World.cell?_alloc_at _ _ _ _ rfl⟩
  · exact d1.trans (Below.trans (hb1.mono (by omega)) (Below.trans (hb2.mono (by omega)) (Below.trans (d2.mono (by omega)) (Below.trans (hb3.mono (by omega)) (d3.mono (by omega))))))
  · rw [tcells_old d3 (by omega), tcells_old hb3 (by omega), tcells_old d2 (by omega), tcells_old hb2 (by omega), tcells_old hb1 (by omega)]; exact World.cell?_alloc_at _ _ _ _ rfl
  · rw [tcells_old d3 (by omega), tcells_old hb3 (by omega)]; exact World.cell?_alloc_at _ _ _ _ rfl

set_option maxHeartbeats 1600000 in
theorem itg_bad (a r0 r1 r2 r3 : Int) (n : Nat) (hn : n < 18446744073709551616)
    (CT : ∀ w, Calls Try.prog 39 #[.int .i64 a, .agg #[.int .u64 r0, .int .u64 r1, .int .i64 r2, .int .i64 r3]] w fun e w' => e = .returned (.tuple #[.agg #[.int .u64 0, .int .u64 0, .int .i64 0, .int .i64 0], .bool false]) ∧ Below w.heap.size w w')
    (CR : ∀ w, Calls Try.prog 40 #[.int .i64 a, .agg #[.int .u64 r0, .int .u64 r1, .int .i64 r2, .int .i64 r3]] w fun e w' => e = .returned (.tuple #[.agg #[.int .u64 0, .int .u64 0, .int .i64 0, .int .i64 0], .bool false]) ∧ Below w.heap.size w w')
    (CV : ∀ w, Calls Try.prog 31 #[.int .i64 a, .agg #[.int .u64 r0, .int .u64 r1, .int .i64 r2, .int .i64 r3]] w fun e w' => e = .returned (.bool false) ∧ Below w.heap.size w w') (w : World) :
    Calls Try.prog 7 #[.int .i64 a, .agg #[.int .u64 r0, .int .u64 r1, .int .i64 r2, .int .i64 r3], .int .u64 (n : Nat)] w fun e w' => e = .returned (.bool true) ∧ Below w.heap.size w w' := by
  have hB : w.heap.size ≤ w.heap.size := Nat.le_refl _
  go_enter Try.func7, Try.ntmps7
  go_wp2_with fail
  refine (awake13 _).mono ?_
  rintro e w1 ⟨rfl, hb1⟩
  have hz1 : w.heap.size < w1.heap.size := by have := hb1.size; simp at this; omega
  obtain ⟨hcc, hff⟩ := tbcell hb1
  go_wp2_with fail
  refine (CT _).mono ?_
  rintro e w2 ⟨rfl, hb2⟩
  have hy1 : w.heap.size < w2.heap.size := Nat.lt_of_lt_of_le hz1 hb2.size
  obtain ⟨hcc2, hff2⟩ := tbcell hb2
  go_wp2_with fail
  refine (CR _).mono ?_
  rintro e w3 ⟨rfl, hb3⟩
  have L0 := latT_begin #[.int .u64 r0, .int .u64 r1, .int .i64 r2, .int .i64 r3] #[.int .u64 0, .int .u64 0, .int .i64 0, .int .i64 0] #[.int .u64 0, .int .u64 0, .int .i64 0, .int .i64 0] 38 hb1 hb2 hb3
  have hx1 : w.heap.size < w3.heap.size := by have := hb3.size; simp at this; omega
  have hx2 : w2.heap.size < w3.heap.size := by have := hb3.size; simp at this; omega
  obtain ⟨hcc3, hff3⟩ := tbcell hb3
  go_wp2_with fail
  generalize w3.alloc (.cells #[.int .u64 0, .int .u64 0, .int .i64 0, .int .i64 0] 38) = W at L0 ⊢
  generalize w2.heap.size = A2 at L0 ⊢
  generalize w3.heap.size = A3 at L0 ⊢
  obtain ⟨l0, l1, ka, kb, kc⟩ := L0
  have M1 : LatT w.heap.size w w.heap.size A2 A3 r0 r1 r2 r3 0 0 0 0 0 0 0 0 W := ⟨l0, l1, ka 0, ka 1, ka 2, ka 3, kb 0, kb 1, kb 2, kb 3, kc 0, kc 1, kc 2, kc 3⟩
  clear hcc hff hcc2 hff2 hcc3 hff3 hz1 hy1 hx1 hx2 hb1 hb2 hb3 ka kb kc l0 l1
  have M1' := M1
  obtain ⟨_, _, c0, c1, c2, c3, c4, c5, c6, c7, c8, c9, c10, c11⟩ := M1'
  refine (CV _).mono ?_
  rintro e u1 ⟨rfl, hu1⟩
  have M2 := LatT.go M1 hu1 hB
  have M2' := M2
  obtain ⟨_, _, d0, d1, d2, d3, d4, d5, d6, d7, d8, d9, d10, d11⟩ := M2'
  go_wp2_with fail
  go_ret
  exact ⟨rfl, M2.1⟩
set_option maxHeartbeats 1600000 in
theorem itg_no (a r0 r1 r2 r3 : Int) (n : Nat) (hn : n < 18446744073709551616)
    (CT : ∀ w, Calls Try.prog 39 #[.int .i64 a, .agg #[.int .u64 r0, .int .u64 r1, .int .i64 r2, .int .i64 r3]] w fun e w' => e = .returned (.tuple #[.agg #[.int .u64 0, .int .u64 0, .int .i64 0, .int .i64 0], .bool false]) ∧ Below w.heap.size w w')
    (CR : ∀ w, Calls Try.prog 40 #[.int .i64 a, .agg #[.int .u64 r0, .int .u64 r1, .int .i64 r2, .int .i64 r3]] w fun e w' => e = .returned (.tuple #[.agg #[.int .u64 0, .int .u64 0, .int .i64 0, .int .i64 0], .bool false]) ∧ Below w.heap.size w w')
    (CV : ∀ w, Calls Try.prog 31 #[.int .i64 a, .agg #[.int .u64 r0, .int .u64 r1, .int .i64 r2, .int .i64 r3]] w fun e w' => e = .returned (.bool true) ∧ Below w.heap.size w w')
    (CC : ∀ w, Calls Try.prog 30 #[.int .i64 a, .agg #[.int .u64 r0, .int .u64 r1, .int .i64 r2, .int .i64 r3], .int .u64 (n : Nat)] w fun e w' => e = .returned (.bool false) ∧ Below w.heap.size w w') (w : World) :
    Calls Try.prog 7 #[.int .i64 a, .agg #[.int .u64 r0, .int .u64 r1, .int .i64 r2, .int .i64 r3], .int .u64 (n : Nat)] w fun e w' => e = .returned (.bool true) ∧ Below w.heap.size w w' := by
  have hB : w.heap.size ≤ w.heap.size := Nat.le_refl _
  go_enter Try.func7, Try.ntmps7
  go_wp2_with fail
  refine (awake13 _).mono ?_
  rintro e w1 ⟨rfl, hb1⟩
  have hz1 : w.heap.size < w1.heap.size := by have := hb1.size; simp at this; omega
  obtain ⟨hcc, hff⟩ := tbcell hb1
  go_wp2_with fail
  refine (CT _).mono ?_
  rintro e w2 ⟨rfl, hb2⟩
  have hy1 : w.heap.size < w2.heap.size := Nat.lt_of_lt_of_le hz1 hb2.size
  obtain ⟨hcc2, hff2⟩ := tbcell hb2
  go_wp2_with fail
  refine (CR _).mono ?_
  rintro e w3 ⟨rfl, hb3⟩
  have L0 := latT_begin #[.int .u64 r0, .int .u64 r1, .int .i64 r2, .int .i64 r3] #[.int .u64 0, .int .u64 0, .int .i64 0, .int .i64 0] #[.int .u64 0, .int .u64 0, .int .i64 0, .int .i64 0] 38 hb1 hb2 hb3
  have hx1 : w.heap.size < w3.heap.size := by have := hb3.size; simp at this; omega
  have hx2 : w2.heap.size < w3.heap.size := by have := hb3.size; simp at this; omega
  obtain ⟨hcc3, hff3⟩ := tbcell hb3
  go_wp2_with fail
  generalize w3.alloc (.cells #[.int .u64 0, .int .u64 0, .int .i64 0, .int .i64 0] 38) = W at L0 ⊢
  generalize w2.heap.size = A2 at L0 ⊢
  generalize w3.heap.size = A3 at L0 ⊢
  obtain ⟨l0, l1, ka, kb, kc⟩ := L0
  have M1 : LatT w.heap.size w w.heap.size A2 A3 r0 r1 r2 r3 0 0 0 0 0 0 0 0 W := ⟨l0, l1, ka 0, ka 1, ka 2, ka 3, kb 0, kb 1, kb 2, kb 3, kc 0, kc 1, kc 2, kc 3⟩
  clear hcc hff hcc2 hff2 hcc3 hff3 hz1 hy1 hx1 hx2 hb1 hb2 hb3 ka kb kc l0 l1
  have M1' := M1
  obtain ⟨_, _, c0, c1, c2, c3, c4, c5, c6, c7, c8, c9, c10, c11⟩ := M1'
  refine (CV _).mono ?_
  rintro e u1 ⟨rfl, hu1⟩
  have M2 := LatT.go M1 hu1 hB
  have M2' := M2
  obtain ⟨_, _, d0, d1, d2, d3, d4, d5, d6, d7, d8, d9, d10, d11⟩ := M2'
  go_wp2_with fail
  refine (CC _).mono ?_
  rintro e u2 ⟨rfl, hu2⟩
  have M3 := LatT.go M2 hu2 hB
  go_wp2_with fail
  go_ret
  exact ⟨rfl, M3.1⟩

set_option maxHeartbeats 1600000 in
theorem itg_yes (a r0 r1 r2 r3 : Int) (n : Nat) (hn : n < 18446744073709551616) (t0 t1 t2 t3 : Int) (c : Bool)
    (CT : ∀ w, Calls Try.prog 39 #[.int .i64 a, .agg #[.int .u64 r0, .int .u64 r1, .int .i64 r2, .int .i64 r3]] w fun e w' => e = .returned (.tuple #[.agg #[.int .u64 t0, .int .u64 t1, .int .i64 t2, .int .i64 t3], .bool true]) ∧ Below w.heap.size w w')
    (CR : ∀ w, Calls Try.prog 40 #[.int .i64 a, .agg #[.int .u64 r0, .int .u64 r1, .int .i64 r2, .int .i64 r3]] w fun e w' => e = .returned (.tuple #[.agg #[.int .u64 t0, .int .u64 t1, .int .i64 t2, .int .i64 t3], .bool true]) ∧ Below w.heap.size w w')
    (CV : ∀ w, Calls Try.prog 31 #[.int .i64 a, .agg #[.int .u64 r0, .int .u64 r1, .int .i64 r2, .int .i64 r3]] w fun e w' => e = .returned (.bool true) ∧ Below w.heap.size w w')
    (CA : ∀ w, Calls Try.prog 39 #[.int .i64 a, .agg #[.int .u64 t0, .int .u64 t1, .int .i64 t2, .int .i64 t3]] w fun e w' => e = .returned (.tuple #[.agg #[.int .u64 t0, .int .u64 t1, .int .i64 t2, .int .i64 t3], .bool true]) ∧ Below w.heap.size w w')
    (CL : ∀ w, Calls Try.prog 27 #[.agg #[.int .u64 t0, .int .u64 t1, .int .i64 t2, .int .i64 t3], .agg #[.int .u64 r0, .int .u64 r1, .int .i64 r2, .int .i64 r3]] w fun e w' => e = .returned (.bool true) ∧ Below w.heap.size w w')
    (H1 : iconB a t0 t1 t2 t3 n = c) (H2 : iconB a r0 r1 r2 r3 n = c) (w : World) :
    Calls Try.prog 7 #[.int .i64 a, .agg #[.int .u64 r0, .int .u64 r1, .int .i64 r2, .int .i64 r3], .int .u64 (n : Nat)] w fun e w' => e = .returned (.bool true) ∧ Below w.heap.size w w' := by
  have hB : w.heap.size ≤ w.heap.size := Nat.le_refl _
  go_enter Try.func7, Try.ntmps7
  go_wp2_with fail
  refine (awake13 _).mono ?_
  rintro e w1 ⟨rfl, hb1⟩
  have hz1 : w.heap.size < w1.heap.size := by have := hb1.size; simp at this; omega
  obtain ⟨hcc, hff⟩ := tbcell hb1
  go_wp2_with fail
  refine (CT _).mono ?_
  rintro e w2 ⟨rfl, hb2⟩
  have hy1 : w.heap.size < w2.heap.size := Nat.lt_of_lt_of_le hz1 hb2.size
  obtain ⟨hcc2, hff2⟩ := tbcell hb2
  go_wp2_with fail
  refine (CR _).mono ?_
  rintro e w3 ⟨rfl, hb3⟩
  have L0 := latT_begin #[.int .u64 r0, .int .u64 r1, .int .i64 r2, .int .i64 r3] #[.int .u64 t0, .int .u64 t1, .int .i64 t2, .int .i64 t3] #[.int .u64 t0, .int .u64 t1, .int .i64 t2, .int .i64 t3] 38 hb1 hb2 hb3
  have hx1 : w.heap.size < w3.heap.size := by have := hb3.size; simp at this; omega
  have hx2 : w2.heap.size < w3.heap.size := by have := hb3.size; simp at this; omega
  obtain ⟨hcc3, hff3⟩ := tbcell hb3
  go_wp2_with fail
  generalize w3.alloc (.cells #[.int .u64 t0, .int .u64 t1, .int .i64 t2, .int .i64 t3] 38) = W at L0 ⊢
  generalize w2.heap.size = A2 at L0 ⊢
  generalize w3.heap.size = A3 at L0 ⊢
  obtain ⟨l0, l1, ka, kb, kc⟩ := L0
  have M1 : LatT w.heap.size w w.heap.size A2 A3 r0 r1 r2 r3 t0 t1 t2 t3 t0 t1 t2 t3 W := ⟨l0, l1, ka 0, ka 1, ka 2, ka 3, kb 0, kb 1, kb 2, kb 3, kc 0, kc 1, kc 2, kc 3⟩
  clear hcc hff hcc2 hff2 hcc3 hff3 hz1 hy1 hx1 hx2 hb1 hb2 hb3 ka kb kc l0 l1
  have M1' := M1
  obtain ⟨_, _, c0, c1, c2, c3, c4, c5, c6, c7, c8, c9, c10, c11⟩ := M1'
  refine (CV _).mono ?_
  rintro e u1 ⟨rfl, hu1⟩
  have M2 := LatT.go M1 hu1 hB
  have M2' := M2
  obtain ⟨_, _, d0, d1, d2, d3, d4, d5, d6, d7, d8, d9, d10, d11⟩ := M2'
  go_wp2_with fail
  refine (CA _).mono ?_
  rintro e u2 ⟨rfl, hu2⟩
  have M3 := LatT.go M2 hu2 hB
  have M4 := LatT.third t0 t1 t2 t3 38 M3 hB
  have M3' := M3
  obtain ⟨_, _, b0, b1, b2, b3, b4, b5, b6, b7, b8, b9, b10, b11⟩ := M3'
  go_wp2_with fail
  generalize u2.alloc (.cells #[.int .u64 t0, .int .u64 t1, .int .i64 t2, .int .i64 t3] 38) = W4 at M4 ⊢
  generalize u2.heap.size = A4 at M4 ⊢
  clear M1 M2 M3 hu1 hu2 c0 c1 c2 c3 c4 c5 c6 c7 c8 c9 c10 c11 d0 d1 d2 d3 d4 d5 d6 d7 d8 d9 d10 d11 b0 b1 b2 b3 b4 b5 b6 b7 b8 b9 b10 b11
  have L' := M4
  obtain ⟨l0, l1, c0, c1, c2, c3, c4, c5, c6, c7, c8, c9, c10, c11⟩ := M4
  go_region_held3 (fun w' => Below w.heap.size w w' ∧ (w.heap.size < w'.heap.size ∧ A2 < w'.heap.size ∧ A4 < w'.heap.size) ∧ w'.cell? ⟨w.heap.size, 0, none⟩ = some (.int .u64 r0) ∧ w'.cell? ⟨w.heap.size, 1, none⟩ = some (.int .u64 r1) ∧ w'.cell? ⟨w.heap.size, 2, none⟩ = some (.int .i64 r2) ∧ w'.cell? ⟨w.heap.size, 3, none⟩ = some (.int .i64 r3) ∧ w'.cell? ⟨A2, 0, none⟩ = some (.int .u64 t0) ∧ w'.cell? ⟨A2, 1, none⟩ = some (.int .u64 t1) ∧ w'.cell? ⟨A2, 2, none⟩ = some (.int .i64 t2) ∧ w'.cell? ⟨A2, 3, none⟩ = some (.int .i64 t3) ∧ w'.cell? ⟨A4, 0, none⟩ = some (.int .u64 t0) ∧ w'.cell? ⟨A4, 1, none⟩ = some (.int .u64 t1) ∧ w'.cell? ⟨A4, 2, none⟩ = some (.int .i64 t2) ∧ w'.cell? ⟨A4, 3, none⟩ = some (.int .i64 t3))
    (first
      | exact LatT.go L' (below_drewN' (Below.refl _ _) 1) hB
      | exact LatT.go (by assumption) (by assumption) hB
      | exact LatT.go (by assumption) (below_drewN' (Below.refl _ _) 1) hB
      | go_keep)
    (first
      | (go_at_call 27; refine (CL _).mono ?_; rintro e wq ⟨rfl, hbq⟩)
      | (go_at_call 30; refine (icon_any _ _ _ _ _ _ hn _).mono ?_; rintro e wq ⟨rfl, hbq⟩))
  go_wp2_with fail
  have Z1 : LatT w.heap.size w w.heap.size A2 A4 r0 r1 r2 r3 t0 t1 t2 t3 t0 t1 t2 t3 wq := by assumption
  go_ret
  exact ⟨by simp, Z1.1⟩

/-! The facts, in plain mathematics. -/
theorem rOk_of (a r0 r1 r2 r3 : Int) (h : ivalB a r0 r1 r2 r3 = true) (w0 : (Lit.int .u64 r0).wf = true) : (1 ≤ a ∧ a ≤ 64) ∧ ((maskN a : Nat) : Int) = 2 * smax a + 1 ∧ rOk (smax a) r0 r1 r2 r3 := by
  simp only [ivalB, Bool.and_eq_true, decide_eq_true_eq] at h
  obtain ⟨⟨⟨⟨⟨⟨g1, g2⟩, h1⟩, h2⟩, h3⟩, h4⟩, h5⟩ := h
  have hM := (sgn_sg a 0 g1 (Int.le_refl _) (by omega)).2
  obtain ⟨_, m1, m2, m3⟩ := mask_half a g1
  have hb := bounds_u64 w0
  exact ⟨⟨g1, g2⟩, hM, ⟨m1, m2⟩, ⟨hb.1, h1, by omega⟩, by omega, h4, h5⟩
theorem ival_of (a r0 r1 r2 r3 : Int) (h1 : 1 ≤ a) (h2 : a ≤ 64) (hM : ((maskN a : Nat) : Int) = 2 * smax a + 1) (h : rOk (smax a) r0 r1 r2 r3) : ivalB a r0 r1 r2 r3 = true := by
  obtain ⟨_, ⟨_, h3, h4⟩, h5, h6, h7⟩ := h
  have hmn := (mask_half a h1).2.2.2
  simp only [ivalB, Bool.and_eq_true, decide_eq_true_eq]
  exact ⟨⟨⟨⟨⟨⟨h1, h2⟩, h3⟩, by omega⟩, by omega⟩, h6⟩, h7⟩
theorem icon_sg (a r0 r1 r2 r3 T : Int) (n : Nat) (h1 : 1 ≤ a) (h2 : a ≤ 64) (hT : T = smax a) (hM : ((maskN a : Nat) : Int) = 2 * T + 1) :
    iconB a r0 r1 r2 r3 n = true ↔ (n : Int) ≤ 2 * T + 1 ∧ r0 ≤ (n : Int) ∧ (n : Int) ≤ r1 ∧ r2 ≤ sg T n ∧ sg T n ≤ r3 := by
  by_cases hn : (n : Int) ≤ 2 * T + 1
  · have e := (sgn_sg a n h1 (by omega) (by omega)).1
    rw [show ((n : Nat) : Int).toNat = n by omega, ← hT] at e
    simp only [iconB, Bool.and_eq_true, decide_eq_true_eq, e]
    constructor
    · rintro ⟨⟨⟨⟨⟨_, _⟩, h3⟩, h4⟩, h5⟩, h6⟩; exact ⟨hn, h3, h4, h5, h6⟩
    · rintro ⟨_, h3, h4, h5, h6⟩; exact ⟨⟨⟨⟨⟨⟨h1, h2⟩, by omega⟩, h3⟩, h4⟩, h5⟩, h6⟩
  · constructor
    · intro h
      simp only [iconB, Bool.and_eq_true, decide_eq_true_eq] at h
      omega
    · rintro ⟨h, _⟩; exact absurd h hn
/-- What a word within the bounds knows. -/
theorem sg_cases (T x : Int) : (x ≤ T ∧ sg T x = x) ∨ (T < x ∧ sg T x = x - 2 * T - 2) := by
  unfold sg; split <;> omega
theorem lo_cases (T r0 r1 r2 : Int) : (tA T r1 r2 ∧ tiLo T r0 r1 r2 = max r0 (max r2 0)) ∨ (¬ tA T r1 r2 ∧ tiLo T r0 r1 r2 = max r0 (r2 + 2 * T + 2)) := by
  unfold tiLo; split
  · exact .inl ⟨by assumption, rfl⟩
  · exact .inr ⟨by assumption, rfl⟩
theorem hi_cases (T r1 r2 r3 : Int) : (tA T r1 r2 ∧ tiHi T r1 r2 r3 = min r1 r3) ∨ (¬ tA T r1 r2 ∧ r3 < 0 ∧ tiHi T r1 r2 r3 = min r1 (r3 + 2 * T + 2)) ∨ (¬ tA T r1 r2 ∧ ¬ r3 < 0 ∧ tiHi T r1 r2 r3 = r1) := by
  unfold tiHi; split
  · exact .inl ⟨by assumption, rfl⟩
  · split
    · exact .inr (.inl ⟨by assumption, by assumption, rfl⟩)
    · exact .inr (.inr ⟨by assumption, by assumption, rfl⟩)
/-- The three ways of Tighten, with its bounds. -/
theorem ti_ways (T r0 r1 r2 r3 : Int) :
    (tiK T r0 r1 r2 r3 = 0 ∧ (((r1 ≤ T ∨ 0 ≤ r2) ∧ r3 < 0) ∨ ((r1 ≤ T ∨ 0 ≤ r2) ∧ min r1 r3 < max r0 (max r2 0)) ∨ ((¬ (r1 ≤ T ∨ 0 ≤ r2)) ∧ r3 < 0 ∧ min r1 (r3 + 2 * T + 2) < max r0 (r2 + 2 * T + 2)) ∨ ((¬ (r1 ≤ T ∨ 0 ≤ r2)) ∧ T < r0 ∧ ¬ r3 < 0 ∧ r1 < max r0 (r2 + 2 * T + 2)))) ∨
    (tiK T r0 r1 r2 r3 = 1 ∧ (((r1 ≤ T ∨ 0 ≤ r2) ∧ ¬ r3 < 0 ∧ tiLo T r0 r1 r2 = max r0 (max r2 0) ∧ tiHi T r1 r2 r3 = min r1 r3 ∧ tiLo T r0 r1 r2 ≤ tiHi T r1 r2 r3) ∨
      ((¬ (r1 ≤ T ∨ 0 ≤ r2)) ∧ r3 < 0 ∧ tiLo T r0 r1 r2 = max r0 (r2 + 2 * T + 2) ∧ tiHi T r1 r2 r3 = min r1 (r3 + 2 * T + 2) ∧ tiLo T r0 r1 r2 ≤ tiHi T r1 r2 r3) ∨
      ((¬ (r1 ≤ T ∨ 0 ≤ r2)) ∧ T < r0 ∧ ¬ r3 < 0 ∧ tiLo T r0 r1 r2 = max r0 (r2 + 2 * T + 2) ∧ tiHi T r1 r2 r3 = r1 ∧ tiLo T r0 r1 r2 ≤ tiHi T r1 r2 r3))) ∨
    (tiK T r0 r1 r2 r3 = 2 ∧ (¬ (r1 ≤ T ∨ 0 ≤ r2)) ∧ r0 ≤ T ∧ ¬ r3 < 0) := by
  have l := lo_cases T r0 r1 r2
  have h := hi_cases T r1 r2 r3
  unfold tiK
  by_cases hA : tA T r1 r2
  · have hA' : r1 ≤ T ∨ 0 ≤ r2 := hA
    have l' : tiLo T r0 r1 r2 = max r0 (max r2 0) := by rcases l with l | l; exact l.2; exact absurd hA l.1
    have h' : tiHi T r1 r2 r3 = min r1 r3 := by rcases h with h | h | h; exact h.2; exact absurd hA h.1; exact absurd hA h.1
    rw [if_pos hA]
    by_cases h3 : r3 < 0
    · rw [if_pos h3]; exact .inl ⟨rfl, .inl ⟨hA', h3⟩⟩
    · rw [if_neg h3]
      by_cases hl : tiLo T r0 r1 r2 ≤ tiHi T r1 r2 r3
      · rw [if_pos hl]; exact .inr (.inl ⟨rfl, .inl ⟨hA', h3, l', h', hl⟩⟩)
      · rw [if_neg hl]; exact .inl ⟨rfl, .inr (.inl ⟨hA', by omega⟩)⟩
  · have hA' : ¬ (r1 ≤ T ∨ 0 ≤ r2) := hA
    have l' : tiLo T r0 r1 r2 = max r0 (r2 + 2 * T + 2) := by rcases l with l | l; exact absurd l.1 hA; exact l.2
    rw [if_neg hA]
    by_cases h3 : r3 < 0
    · have h' : tiHi T r1 r2 r3 = min r1 (r3 + 2 * T + 2) := by rcases h with h | h | h; exact absurd h.1 hA; exact h.2.2; exact absurd h3 h.2.1
      rw [if_pos (.inr h3)]
      by_cases hl : tiLo T r0 r1 r2 ≤ tiHi T r1 r2 r3
      · rw [if_pos hl]; exact .inr (.inl ⟨rfl, .inr (.inl ⟨hA', h3, l', h', hl⟩)⟩)
      · rw [if_neg hl]; exact .inl ⟨rfl, .inr (.inr (.inl ⟨hA', h3, by omega⟩))⟩
    · have h' : tiHi T r1 r2 r3 = r1 := by rcases h with h | h | h; exact absurd h.1 hA; exact absurd h.2.1 h3; exact h.2.2
      by_cases h0 : T < r0
      · rw [if_pos (.inl h0)]
        by_cases hl : tiLo T r0 r1 r2 ≤ tiHi T r1 r2 r3
        · rw [if_pos hl]; exact .inr (.inl ⟨rfl, .inr (.inr ⟨hA', h0, h3, l', h', hl⟩)⟩)
        · rw [if_neg hl]; exact .inl ⟨rfl, .inr (.inr (.inr ⟨hA', h0, h3, by omega⟩))⟩
      · rw [if_neg (by omega)]; exact .inr (.inr ⟨rfl, hA', by omega, h3⟩)
theorem ti_none (T r0 r1 r2 r3 x : Int) (h : rOk T r0 r1 r2 r3) (hk : tiK T r0 r1 r2 r3 = 0) : ¬ (x ≤ 2 * T + 1 ∧ r0 ≤ x ∧ x ≤ r1 ∧ r2 ≤ sg T x ∧ sg T x ≤ r3) := by
  obtain ⟨_, ⟨_, _, _⟩, _, _, _⟩ := h
  rcases ti_ways T r0 r1 r2 r3 with ⟨_, hw⟩ | ⟨h1, _⟩ | ⟨h1, _⟩
  · rintro ⟨h1, h2, h3, h4, h5⟩
    rcases sg_cases T x with ⟨s1, s2⟩ | ⟨s1, s2⟩ <;> rw [s2] at h4 h5 <;> omega
  · omega
  · omega
set_option maxHeartbeats 2000000 in
/-- The tightened range: within the old one, right, with the same words, and tight. -/
theorem ti_some (T r0 r1 r2 r3 : Int) (h : rOk T r0 r1 r2 r3) (hk : tiK T r0 r1 r2 r3 = 1) (lo hi : Int) (hlo : lo = tiLo T r0 r1 r2) (hhi : hi = tiHi T r1 r2 r3) :
    rOk T lo hi (sg T lo) (sg T hi) ∧ (r0 ≤ lo ∧ hi ≤ r1 ∧ r2 ≤ sg T lo ∧ sg T hi ≤ r3) ∧
    (∀ x, (x ≤ 2 * T + 1 ∧ lo ≤ x ∧ x ≤ hi ∧ sg T lo ≤ sg T x ∧ sg T x ≤ sg T hi) ↔ (x ≤ 2 * T + 1 ∧ r0 ≤ x ∧ x ≤ r1 ∧ r2 ≤ sg T x ∧ sg T x ≤ r3)) ∧
    tiK T lo hi (sg T lo) (sg T hi) = 1 ∧ tiLo T lo hi (sg T lo) = lo ∧ tiHi T hi (sg T lo) (sg T hi) = hi := by
  obtain ⟨⟨_, _⟩, ⟨_, _, _⟩, _, _, _⟩ := h
  rcases ti_ways T r0 r1 r2 r3 with ⟨h1, _⟩ | ⟨_, hw⟩ | ⟨h1, _⟩
  · omega
  · rw [← hlo, ← hhi] at hw
    have sl := sg_cases T lo
    have sh := sg_cases T hi
    have key : (lo ≤ T ∧ hi ≤ T ∧ sg T lo = lo ∧ sg T hi = hi) ∨ (T < lo ∧ T < hi ∧ sg T lo = lo - 2 * T - 2 ∧ sg T hi = hi - 2 * T - 2) := by omega
    have ww := ti_ways T lo hi (sg T lo) (sg T hi)
    clear sl sh
    have hlh : lo ≤ hi := by omega
    have B : r0 ≤ lo ∧ hi ≤ r1 := by omega
    have iff1 : ∀ x, (x ≤ 2 * T + 1 ∧ lo ≤ x ∧ x ≤ hi ∧ sg T lo ≤ sg T x ∧ sg T x ≤ sg T hi) ↔ (x ≤ 2 * T + 1 ∧ r0 ≤ x ∧ x ≤ r1 ∧ r2 ≤ sg T x ∧ sg T x ≤ r3) := by
      intro x
      have sx := sg_cases T x
      generalize sg T x = X at sx ⊢
      rcases hw with ⟨a1, a2, a3, a4, _⟩ | ⟨a1, a2, a3, a4, _⟩ | ⟨a1, a2, a3, a4, a5, _⟩ <;> rcases key with ⟨k1, k2, k3, k4⟩ | ⟨k1, k2, k3, k4⟩ <;> rw [k3, k4] <;> rcases sx with ⟨s1, rfl⟩ | ⟨s1, rfl⟩ <;> omega
    have bnd : (r2 ≤ sg T lo ∧ sg T hi ≤ r3) ∧ (0 ≤ lo ∧ hi ≤ 2 * T + 1) ∧ (-T - 1 ≤ sg T lo ∧ sg T lo ≤ sg T hi ∧ sg T hi ≤ T) := by
      rcases hw with ⟨a1, a2, a3, a4, _⟩ | ⟨a1, a2, a3, a4, _⟩ | ⟨a1, a2, a3, a4, a5, _⟩ <;> rcases key with ⟨k1, k2, k3, k4⟩ | ⟨k1, k2, k3, k4⟩ <;> rw [k3, k4] <;> omega
    obtain ⟨⟨b1, b2⟩, ⟨b3, b4⟩, b5, b6, b7⟩ := bnd
    refine ⟨⟨⟨by assumption, by assumption⟩, ⟨b3, hlh, b4⟩, b5, b6, b7⟩, ⟨B.1, B.2, b1, b2⟩, iff1, ?_⟩
    clear hw hlo hhi iff1 B
    have ww := ti_ways T lo hi (sg T lo) (sg T hi)
    rcases key with ⟨k1, k2, k3, k4⟩ | ⟨k1, k2, k3, k4⟩ <;> rw [k3, k4] at ww ⊢ <;> omega
  · omega
theorem tight_bad (a r0 r1 r2 r3 : Int) (CV : ∀ w, Calls Try.prog 31 #[.int .i64 a, .agg #[.int .u64 r0, .int .u64 r1, .int .i64 r2, .int .i64 r3]] w fun e w' => e = .returned (.bool false) ∧ Below w.heap.size w w') (w : World) :
    Calls Try.prog 39 #[.int .i64 a, .agg #[.int .u64 r0, .int .u64 r1, .int .i64 r2, .int .i64 r3]] w fun e w' => e = .returned (.tuple #[.agg #[.int .u64 0, .int .u64 0, .int .i64 0, .int .i64 0], .bool false]) ∧ Below w.heap.size w w' := by
  go_enter Try.func39, Try.ntmps39
  go_wp2_with fail
  refine (CV _).mono ?_
  rintro e w1 ⟨rfl, hb1⟩
  have bc := tbcell hb1
  have hz0 : w.heap.size < w1.heap.size := by have := hb1.size; simp at this; omega
  have hz1 : w.heap.size + 1 < w1.heap.size := by have := hb1.size; simp at this; omega
  have ea0 : w1.cell? ⟨w.heap.size, 0, none⟩ = some (.int .u64 r0) := (bc.1 _ _ (by simp <;> omega)).trans (by simp)
  have ea1 : w1.cell? ⟨w.heap.size, 1, none⟩ = some (.int .u64 r1) := (bc.1 _ _ (by simp <;> omega)).trans (by simp)
  have ea2 : w1.cell? ⟨w.heap.size, 2, none⟩ = some (.int .i64 r2) := (bc.1 _ _ (by simp <;> omega)).trans (by simp)
  have ea3 : w1.cell? ⟨w.heap.size, 3, none⟩ = some (.int .i64 r3) := (bc.1 _ _ (by simp <;> omega)).trans (by simp)
  have eb0 : w1.cell? ⟨w.heap.size + 1, 0, none⟩ = some (.int .u64 0) := (bc.1 _ _ (by simp <;> omega)).trans (by simp)
  have eb1 : w1.cell? ⟨w.heap.size + 1, 1, none⟩ = some (.int .u64 0) := (bc.1 _ _ (by simp <;> omega)).trans (by simp)
  have eb2 : w1.cell? ⟨w.heap.size + 1, 2, none⟩ = some (.int .i64 0) := (bc.1 _ _ (by simp <;> omega)).trans (by simp)
  have eb3 : w1.cell? ⟨w.heap.size + 1, 3, none⟩ = some (.int .i64 0) := (bc.1 _ _ (by simp <;> omega)).trans (by simp)
  have ef0 : w1.frozen? ⟨w.heap.size + 1, 0, none⟩ = false := (bc.2 _ _ (by simp <;> omega)).trans (by simp)
  have ef1 : w1.frozen? ⟨w.heap.size + 1, 1, none⟩ = false := (bc.2 _ _ (by simp <;> omega)).trans (by simp)
  have ef2 : w1.frozen? ⟨w.heap.size + 1, 2, none⟩ = false := (bc.2 _ _ (by simp <;> omega)).trans (by simp)
  have ef3 : w1.frozen? ⟨w.heap.size + 1, 3, none⟩ = false := (bc.2 _ _ (by simp <;> omega)).trans (by simp)
  have B1 : Below w.heap.size w w1 := (((Below.refl w.heap.size w).alloc (Nat.le_refl _) _).alloc (by simp) _).trans (hb1.mono (by simp <;> omega))
  clear hb1 bc
  go_wp2_with fail
  refine bodyPost_ret (v := .tuple #[.agg #[.int .u64 0, .int .u64 0, .int .i64 0, .int .i64 0], .bool false]) (by simp [results, Try.results39, go_sem, eb0, eb1, eb2, eb3]) rfl ⟨rfl, ?_⟩
  repeat (first | exact B1 | exact below_drewN' B1 _ | apply Below.drew | refine Below.alloc ?_ (by simp <;> omega) _ | refine Below.setCell ?_ (by simp) _)
theorem tight_rbad (a r0 r1 r2 r3 : Int) (CV : ∀ w, Calls Try.prog 32 #[.int .i64 a, .agg #[.int .u64 r0, .int .u64 r1, .int .i64 r2, .int .i64 r3]] w fun e w' => e = .returned (.bool false) ∧ Below w.heap.size w w') (w : World) :
    Calls Try.prog 40 #[.int .i64 a, .agg #[.int .u64 r0, .int .u64 r1, .int .i64 r2, .int .i64 r3]] w fun e w' => e = .returned (.tuple #[.agg #[.int .u64 0, .int .u64 0, .int .i64 0, .int .i64 0], .bool false]) ∧ Below w.heap.size w w' := by
  go_enter Try.func40, Try.ntmps40
  go_wp2_with fail
  refine (CV _).mono ?_
  rintro e w1 ⟨rfl, hb1⟩
  have bc := tbcell hb1
  have hz0 : w.heap.size < w1.heap.size := by have := hb1.size; simp at this; omega
  have hz1 : w.heap.size + 1 < w1.heap.size := by have := hb1.size; simp at this; omega
  have ea0 : w1.cell? ⟨w.heap.size, 0, none⟩ = some (.int .u64 r0) := (bc.1 _ _ (by simp <;> omega)).trans (by simp)
  have ea1 : w1.cell? ⟨w.heap.size, 1, none⟩ = some (.int .u64 r1) := (bc.1 _ _ (by simp <;> omega)).trans (by simp)
  have ea2 : w1.cell? ⟨w.heap.size, 2, none⟩ = some (.int .i64 r2) := (bc.1 _ _ (by simp <;> omega)).trans (by simp)
  have ea3 : w1.cell? ⟨w.heap.size, 3, none⟩ = some (.int .i64 r3) := (bc.1 _ _ (by simp <;> omega)).trans (by simp)
  have eb0 : w1.cell? ⟨w.heap.size + 1, 0, none⟩ = some (.int .u64 0) := (bc.1 _ _ (by simp <;> omega)).trans (by simp)
  have eb1 : w1.cell? ⟨w.heap.size + 1, 1, none⟩ = some (.int .u64 0) := (bc.1 _ _ (by simp <;> omega)).trans (by simp)
  have eb2 : w1.cell? ⟨w.heap.size + 1, 2, none⟩ = some (.int .i64 0) := (bc.1 _ _ (by simp <;> omega)).trans (by simp)
  have eb3 : w1.cell? ⟨w.heap.size + 1, 3, none⟩ = some (.int .i64 0) := (bc.1 _ _ (by simp <;> omega)).trans (by simp)
  have ef0 : w1.frozen? ⟨w.heap.size + 1, 0, none⟩ = false := (bc.2 _ _ (by simp <;> omega)).trans (by simp)
  have ef1 : w1.frozen? ⟨w.heap.size + 1, 1, none⟩ = false := (bc.2 _ _ (by simp <;> omega)).trans (by simp)
  have ef2 : w1.frozen? ⟨w.heap.size + 1, 2, none⟩ = false := (bc.2 _ _ (by simp <;> omega)).trans (by simp)
  have ef3 : w1.frozen? ⟨w.heap.size + 1, 3, none⟩ = false := (bc.2 _ _ (by simp <;> omega)).trans (by simp)
  have B1 : Below w.heap.size w w1 := (((Below.refl w.heap.size w).alloc (Nat.le_refl _) _).alloc (by simp) _).trans (hb1.mono (by simp <;> omega))
  clear hb1 bc
  go_wp2_with fail
  refine bodyPost_ret (v := .tuple #[.agg #[.int .u64 0, .int .u64 0, .int .i64 0, .int .i64 0], .bool false]) (by simp [results, Try.results40, go_sem, eb0, eb1, eb2, eb3]) rfl ⟨rfl, ?_⟩
  repeat (first | exact B1 | exact below_drewN' B1 _ | apply Below.drew | refine Below.alloc ?_ (by simp <;> omega) _ | refine Below.setCell ?_ (by simp) _)
theorem itg_any (a r0 r1 r2 r3 : Int) (n : Nat) (hn : n < 18446744073709551616) (w0 : (Lit.int .u64 r0).wf = true) (w : World) :
    Calls Try.prog 7 #[.int .i64 a, .agg #[.int .u64 r0, .int .u64 r1, .int .i64 r2, .int .i64 r3], .int .u64 (n : Nat)] w fun e w' => e = .returned (.bool true) ∧ Below w.heap.size w w' := by
  have CV := fun w => ival_any a r0 r1 r2 r3 w
  have DV := fun w => ival_ref a r0 r1 r2 r3 w
  cases hv : ivalB a r0 r1 r2 r3
  · rw [hv] at CV DV
    exact itg_bad a r0 r1 r2 r3 n hn (fun w => tight_bad a r0 r1 r2 r3 CV w) (fun w => tight_rbad a r0 r1 r2 r3 DV w) CV w
  · rw [hv] at CV DV
    obtain ⟨⟨g1, g2⟩, hM, hr⟩ := rOk_of a r0 r1 r2 r3 hv w0
    have CT := fun w => tight_any a r0 r1 r2 r3 (smax a) g1 g2 rfl hM hr CV w
    have CR := fun w => tight_ref a r0 r1 r2 r3 (smax a) g1 g2 rfl hM hr DV w
    rcases ti_ways (smax a) r0 r1 r2 r3 with ⟨hk, _⟩ | ⟨hk, _⟩ | ⟨hk, _⟩
    · have e : tiV (smax a) r0 r1 r2 r3 = .tuple #[.agg #[.int .u64 0, .int .u64 0, .int .i64 0, .int .i64 0], .bool false] := by unfold tiV; rw [if_pos hk]
      rw [e] at CT CR
      refine itg_no a r0 r1 r2 r3 n hn CT CR CV (fun w => ?_) w
      have h' := icon_any a r0 r1 r2 r3 n hn w
      rwa [show iconB a r0 r1 r2 r3 n = false by
        rw [Bool.eq_false_iff]; intro h; exact ti_none _ _ _ _ _ _ hr hk ((icon_sg a r0 r1 r2 r3 _ n g1 g2 rfl hM).1 h)] at h'
    · obtain ⟨hr', ⟨l1, l2, l3, l4⟩, hin, k1, k2, k3⟩ := ti_some (smax a) r0 r1 r2 r3 hr hk _ _ rfl rfl
      have e : tiV (smax a) r0 r1 r2 r3 = .tuple #[.agg #[.int .u64 (tiLo (smax a) r0 r1 r2), .int .u64 (tiHi (smax a) r1 r2 r3), .int .i64 (sg (smax a) (tiLo (smax a) r0 r1 r2)), .int .i64 (sg (smax a) (tiHi (smax a) r1 r2 r3))], .bool true] := by
        unfold tiV; rw [if_neg (by omega), if_pos hk]
      rw [e] at CT CR
      generalize tiLo (smax a) r0 r1 r2 = lo at *
      generalize tiHi (smax a) r1 r2 r3 = hi at *
      have e2 : tiV (smax a) lo hi (sg (smax a) lo) (sg (smax a) hi) = .tuple #[.agg #[.int .u64 lo, .int .u64 hi, .int .i64 (sg (smax a) lo), .int .i64 (sg (smax a) hi)], .bool true] := by
        unfold tiV; rw [if_neg (by omega), if_pos k1, k2, k3]
      have CVt := fun w => ival_any a lo hi (sg (smax a) lo) (sg (smax a) hi) w
      rw [ival_of a lo hi (sg (smax a) lo) (sg (smax a) hi) g1 g2 hM hr'] at CVt
      have CA := fun w => tight_any a lo hi (sg (smax a) lo) (sg (smax a) hi) (smax a) g1 g2 rfl hM hr' CVt w
      rw [e2] at CA
      have CL := fun w => ileq_any lo hi (sg (smax a) lo) (sg (smax a) hi) r0 r1 r2 r3 w
      rw [show ileB lo hi (sg (smax a) lo) (sg (smax a) hi) r0 r1 r2 r3 = true by simp only [ileB, l1, l2, l3, l4, decide_true, Bool.and_true]] at CL
      refine itg_yes a r0 r1 r2 r3 n hn lo hi _ _ (iconB a r0 r1 r2 r3 n) CT CR CV CA CL ?_ rfl w
      rw [Bool.eq_iff_iff, icon_sg a lo hi _ _ _ n g1 g2 rfl hM, icon_sg a r0 r1 r2 r3 _ n g1 g2 rfl hM]
      exact hin n
    · have e : tiV (smax a) r0 r1 r2 r3 = .tuple #[.agg #[.int .u64 r0, .int .u64 r1, .int .i64 r2, .int .i64 r3], .bool true] := by unfold tiV; rw [if_neg (by omega), if_neg (by omega)]
      rw [e] at CT CR
      have CL := fun w => ileq_any r0 r1 r2 r3 r0 r1 r2 r3 w
      rw [show ileB r0 r1 r2 r3 r0 r1 r2 r3 = true by simp [ileB]] at CL
      exact itg_yes a r0 r1 r2 r3 n hn r0 r1 r2 r3 (iconB a r0 r1 r2 r3 n) CT CR CV CT CL rfl rfl w
end Go.Proofs.Ythkdojgagmaecab
