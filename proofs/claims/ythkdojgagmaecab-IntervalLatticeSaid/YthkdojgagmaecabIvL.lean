/- IntervalLattice. -/
import Derived.Test.YthkdojgagmaecabIvC
import Derived.Test.YthkdojgagmaecabIvA
import Derived.Test.YthkdojgagmaecabOpen
import Derived.WalkSmall
import Derived.Deep.RegionHeld3
namespace Go.Proofs.Ythkdojgagmaecab
open Go.RowKit

/-! The lattice, in plain mathematics. -/
theorem ile_join1 (a0 a1 a2 a3 b0 b1 b2 b3 : Int) : ileB a0 a1 a2 a3 (min a0 b0) (max a1 b1) (min a2 b2) (max a3 b3) = true := by
  simp [ileB]; omega
theorem ile_join2 (a0 a1 a2 a3 b0 b1 b2 b3 : Int) : ileB b0 b1 b2 b3 (min a0 b0) (max a1 b1) (min a2 b2) (max a3 b3) = true := by
  simp [ileB]; omega
theorem ile_meet1 (a0 a1 a2 a3 b0 b1 b2 b3 : Int) : ileB (max a0 b0) (min a1 b1) (max a2 b2) (min a3 b3) a0 a1 a2 a3 = true := by
  simp [ileB]; omega
theorem ile_meet2 (a0 a1 a2 a3 b0 b1 b2 b3 : Int) : ileB (max a0 b0) (min a1 b1) (max a2 b2) (min a3 b3) b0 b1 b2 b3 = true := by
  simp [ileB]; omega
theorem icon_iff (a r0 r1 r2 r3 : Int) (n : Nat) : iconB a r0 r1 r2 r3 n = true ↔ (1 ≤ a ∧ a ≤ 64) ∧ n ≤ maskN a ∧ r0 ≤ (n : Int) ∧ (n : Int) ≤ r1 ∧ r2 ≤ sgn a n ∧ sgn a n ≤ r3 := by
  simp only [iconB, Bool.and_eq_true, decide_eq_true_eq]
  constructor
  · rintro ⟨⟨⟨⟨⟨h1, h2⟩, h3⟩, h4⟩, h5⟩, h6⟩; exact ⟨h1, h2, h3, h4, h5, h6⟩
  · rintro ⟨h1, h2, h3, h4, h5, h6⟩; exact ⟨⟨⟨⟨⟨h1, h2⟩, h3⟩, h4⟩, h5⟩, h6⟩
theorem icon_join1 (a a0 a1 a2 a3 b0 b1 b2 b3 : Int) (n : Nat) (h : iconB a a0 a1 a2 a3 n = true) : iconB a (min a0 b0) (max a1 b1) (min a2 b2) (max a3 b3) n = true := by
  rw [icon_iff] at h ⊢; omega
theorem icon_join2 (a a0 a1 a2 a3 b0 b1 b2 b3 : Int) (n : Nat) (h : iconB a b0 b1 b2 b3 n = true) : iconB a (min a0 b0) (max a1 b1) (min a2 b2) (max a3 b3) n = true := by
  rw [icon_iff] at h ⊢; omega
theorem icon_meet (a a0 a1 a2 a3 b0 b1 b2 b3 : Int) (n : Nat) : iconB a (max a0 b0) (min a1 b1) (max a2 b2) (min a3 b3) n = (iconB a a0 a1 a2 a3 n && iconB a b0 b1 b2 b3 n) := by
  rw [Bool.eq_iff_iff, Bool.and_eq_true, icon_iff, icon_iff, icon_iff]; omega
theorem icon_apart (a a0 a1 a2 a3 b0 b1 b2 b3 : Int) (n : Nat) (h : ¬ MeetOk (max a0 b0) (min a1 b1) (max a2 b2) (min a3 b3)) : (iconB a a0 a1 a2 a3 n && iconB a b0 b1 b2 b3 n) = false := by
  rw [Bool.eq_false_iff]
  intro h2
  rw [Bool.and_eq_true, icon_iff, icon_iff] at h2
  exact h (by unfold MeetOk; omega)

theorem bcell {W w1 : World} (hb : Below W.heap.size W w1) : (∀ b o, b < W.heap.size → w1.cell? ⟨b, o, none⟩ = W.cell? ⟨b, o, none⟩) ∧ (∀ b o, b < W.heap.size → w1.frozen? ⟨b, o, none⟩ = W.frozen? ⟨b, o, none⟩) :=
  ⟨fun b o h => hb.cell (p := ⟨b, o, none⟩) h, fun b o h => hb.frozen (p := ⟨b, o, none⟩) h⟩
theorem below_drewN' {B : Nat} {a w : World} (h : Below B a w) (n : Nat) : Below B a (w.drewN n) := h.trans ⟨rfl, rfl, rfl, Nat.le_refl _, fun _ _ => rfl⟩

/-- What a world of the law holds: the cells of a, b, j, m and want, and nothing older turned. -/
abbrev Lat5 (B : Nat) (w0 : World) (A1 A2 A3 A4 A5 : Nat) (a0 a1 a2 a3 b0 b1 b2 b3 j0 j1 j2 j3 m0 m1 m2 m3 v0 v1 v2 v3 : Int) (w' : World) : Prop :=
  Below B w0 w' ∧ (A1 < w'.heap.size ∧ A2 < w'.heap.size ∧ A3 < w'.heap.size ∧ A4 < w'.heap.size ∧ A5 < w'.heap.size) ∧
      w'.cell? ⟨A1, 0, none⟩ = some (.int .u64 a0) ∧ w'.cell? ⟨A1, 1, none⟩ = some (.int .u64 a1) ∧ w'.cell? ⟨A1, 2, none⟩ = some (.int .i64 a2) ∧ w'.cell? ⟨A1, 3, none⟩ = some (.int .i64 a3) ∧
      w'.cell? ⟨A2, 0, none⟩ = some (.int .u64 b0) ∧ w'.cell? ⟨A2, 1, none⟩ = some (.int .u64 b1) ∧ w'.cell? ⟨A2, 2, none⟩ = some (.int .i64 b2) ∧ w'.cell? ⟨A2, 3, none⟩ = some (.int .i64 b3) ∧
      w'.cell? ⟨A3, 0, none⟩ = some (.int .u64 j0) ∧ w'.cell? ⟨A3, 1, none⟩ = some (.int .u64 j1) ∧ w'.cell? ⟨A3, 2, none⟩ = some (.int .i64 j2) ∧ w'.cell? ⟨A3, 3, none⟩ = some (.int .i64 j3) ∧
      w'.cell? ⟨A4, 0, none⟩ = some (.int .u64 m0) ∧ w'.cell? ⟨A4, 1, none⟩ = some (.int .u64 m1) ∧ w'.cell? ⟨A4, 2, none⟩ = some (.int .i64 m2) ∧ w'.cell? ⟨A4, 3, none⟩ = some (.int .i64 m3) ∧
      w'.cell? ⟨A5, 0, none⟩ = some (.int .u64 v0) ∧ w'.cell? ⟨A5, 1, none⟩ = some (.int .u64 v1) ∧ w'.cell? ⟨A5, 2, none⟩ = some (.int .i64 v2) ∧ w'.cell? ⟨A5, 3, none⟩ = some (.int .i64 v3)
theorem Lat5.step {B : Nat} {w0 : World} {A1 A2 A3 A4 A5 : Nat} {a0 a1 a2 a3 b0 b1 b2 b3 j0 j1 j2 j3 m0 m1 m2 m3 v0 v1 v2 v3 : Int} {w1 w2 : World}
    (hB : B ≤ w1.heap.size) (h : Lat5 B w0 A1 A2 A3 A4 A5 a0 a1 a2 a3 b0 b1 b2 b3 j0 j1 j2 j3 m0 m1 m2 m3 v0 v1 v2 v3 w1) (hb : Below w1.heap.size w1 w2) : Lat5 B w0 A1 A2 A3 A4 A5 a0 a1 a2 a3 b0 b1 b2 b3 j0 j1 j2 j3 m0 m1 m2 m3 v0 v1 v2 v3 w2 := by
  obtain ⟨h0, ⟨s1, s2, s3, s4, s5⟩, c0, c1, c2, c3, c4, c5, c6, c7, c8, c9, c10, c11, c12, c13, c14, c15, c16, c17, c18, c19⟩ := h
  have hz := hb.size
  have hc := (bcell hb).1
  refine ⟨h0.trans (hb.mono hB), ⟨by omega, by omega, by omega, by omega, by omega⟩, ?_, ?_, ?_, ?_, ?_, ?_, ?_, ?_, ?_, ?_, ?_, ?_, ?_, ?_, ?_, ?_, ?_, ?_, ?_, ?_⟩
  all_goals (rw [hc _ _ (by assumption)]; assumption)
theorem Lat5.go {B : Nat} {w0 : World} {A1 A2 A3 A4 A5 : Nat} {a0 a1 a2 a3 b0 b1 b2 b3 j0 j1 j2 j3 m0 m1 m2 m3 v0 v1 v2 v3 : Int} {w1 w2 : World}
    (h : Lat5 B w0 A1 A2 A3 A4 A5 a0 a1 a2 a3 b0 b1 b2 b3 j0 j1 j2 j3 m0 m1 m2 m3 v0 v1 v2 v3 w1) (hb : Below w1.heap.size w1 w2) (hB : B ≤ w0.heap.size) : Lat5 B w0 A1 A2 A3 A4 A5 a0 a1 a2 a3 b0 b1 b2 b3 j0 j1 j2 j3 m0 m1 m2 m3 v0 v1 v2 v3 w2 := Lat5.step (Nat.le_trans hB h.1.size) h hb
theorem Lat5.from {B : Nat} {w0 : World} {A1 A2 A3 A4 A5 : Nat} {a0 a1 a2 a3 b0 b1 b2 b3 j0 j1 j2 j3 m0 m1 m2 m3 v0 v1 v2 v3 : Int} {w1 w2 : World}
    (h : Lat5 B w0 A1 A2 A3 A4 A5 a0 a1 a2 a3 b0 b1 b2 b3 j0 j1 j2 j3 m0 m1 m2 m3 v0 v1 v2 v3 w1) (hb : Below w1.heap.size w1 w2) : Lat5 w1.heap.size w1 A1 A2 A3 A4 A5 a0 a1 a2 a3 b0 b1 b2 b3 j0 j1 j2 j3 m0 m1 m2 m3 v0 v1 v2 v3 w2 :=
  Lat5.step (B := w1.heap.size) (w0 := w1) (Nat.le_refl _) ⟨Below.refl _ _, h.2⟩ hb

theorem cells_old {w w1 : World} {b k : Nat} (hb : Below w.heap.size w w1) (h : b < w.heap.size) : w1.cell? ⟨b, k, none⟩ = w.cell? ⟨b, k, none⟩ := (bcell hb).1 b k h
theorem alloc_below (w : World) (o : Obj) : Below w.heap.size w (w.alloc o) := (Below.refl _ _).alloc (Nat.le_refl _) o
theorem lat5_begin {w w1 w2 w3 w4 : World} (ca cb cj cm cw : Array Value) (t : TypeId)
    (hb1 : Below ((w.alloc (.cells ca t)).alloc (.cells cb t)).heap.size ((w.alloc (.cells ca t)).alloc (.cells cb t)) w1)
    (hb2 : Below w1.heap.size w1 w2)
    (hb3 : Below (w2.alloc (.cells cj t)).heap.size (w2.alloc (.cells cj t)) w3)
    (hb4 : Below (w3.alloc (.cells cm t)).heap.size (w3.alloc (.cells cm t)) w4) :
    Below w.heap.size w (w4.alloc (.cells cw t)) ∧ (w.heap.size < (w4.alloc (.cells cw t)).heap.size ∧ w.heap.size + 1 < (w4.alloc (.cells cw t)).heap.size ∧ w2.heap.size < (w4.alloc (.cells cw t)).heap.size ∧ w3.heap.size < (w4.alloc (.cells cw t)).heap.size ∧ w4.heap.size < (w4.alloc (.cells cw t)).heap.size) ∧
    (∀ k, (w4.alloc (.cells cw t)).cell? ⟨w.heap.size, k, none⟩ = ca[k]?) ∧ (∀ k, (w4.alloc (.cells cw t)).cell? ⟨w.heap.size + 1, k, none⟩ = cb[k]?) ∧ (∀ k, (w4.alloc (.cells cw t)).cell? ⟨w2.heap.size, k, none⟩ = cj[k]?) ∧ (∀ k, (w4.alloc (.cells cw t)).cell? ⟨w3.heap.size, k, none⟩ = cm[k]?) ∧ (∀ k, (w4.alloc (.cells cw t)).cell? ⟨w4.heap.size, k, none⟩ = cw[k]?) := by
  have q1 : ((w.alloc (.cells ca t)).alloc (.cells cb t)).heap.size = w.heap.size + 2 := by simp
  have q2 : (w2.alloc (.cells cj t)).heap.size = w2.heap.size + 1 := by simp
  have q3 : (w3.alloc (.cells cm t)).heap.size = w3.heap.size + 1 := by simp
  have q4 : (w4.alloc (.cells cw t)).heap.size = w4.heap.size + 1 := by simp
  have q5 : (w.alloc (.cells ca t)).heap.size = w.heap.size + 1 := by simp
  have z1 := hb1.size
  have z2 := hb2.size
  have z3 := hb3.size
  have z4 := hb4.size
  rw [q1] at z1
  rw [q2] at z3
  rw [q3] at z4
  have d1 := alloc_below w (.cells ca t)
  have d2 := alloc_below (w.alloc (.cells ca t)) (.cells cb t)
  have d3 := alloc_below w2 (.cells cj t)
  have d4 := alloc_below w3 (.cells cm t)
  have d5 := alloc_below w4 (.cells cw t)
  have n1 : ∀ k, (w.alloc (.cells ca t)).cell? ⟨w.heap.size, k, none⟩ = ca[k]? := fun k => World.cell?_alloc_at _ _ _ _ rfl
  have n2 : ∀ k, ((w.alloc (.cells ca t)).alloc (.cells cb t)).cell? ⟨w.heap.size + 1, k, none⟩ = cb[k]? := fun k => World.cell?_alloc_at _ _ _ _ q5.symm
  refine ⟨?_, ⟨by omega, by omega, by omega, by omega, by omega⟩, fun k => ?_, fun k => ?_, fun k => ?_, fun k => ?_, fun k => World.cell?_alloc_at _ _ _ _ rfl⟩
  · refine d1.trans (Below.trans (d2.mono (by omega)) (Below.trans (hb1.mono (by omega)) (Below.trans (hb2.mono (by omega)) (Below.trans (d3.mono (by omega)) (Below.trans (hb3.mono (by omega)) (Below.trans (d4.mono (by omega)) (Below.trans (hb4.mono (by omega)) (d5.mono (by omega)))))))))
  · rw [cells_old d5 (by omega), cells_old hb4 (by omega), cells_old d4 (by omega), cells_old hb3 (by omega), cells_old d3 (by omega), cells_old hb2 (by omega), cells_old hb1 (by omega), cells_old d2 (by omega)]; exact n1 k
  · rw [cells_old d5 (by omega), cells_old hb4 (by omega), cells_old d4 (by omega), cells_old hb3 (by omega), cells_old d3 (by omega), cells_old hb2 (by omega), cells_old hb1 (by omega)]; exact n2 k
  · rw [cells_old d5 (by omega), cells_old hb4 (by omega), cells_old d4 (by omega), cells_old hb3 (by omega)]; exact World.cell?_alloc_at _ _ _ _ rfl
  · rw [cells_old d5 (by omega), cells_old hb4 (by omega)]; exact World.cell?_alloc_at _ _ _ _ rfl

set_option maxHeartbeats 1600000 in
theorem ilat_yes (a0 a1 a2 a3 b0 b1 b2 b3 j0 j1 j2 j3 m0 m1 m2 m3 : Int) (n : Nat) (lab : Bool) (hn : n < 18446744073709551616)
    (CJ : ∀ w, Calls Try.prog 24 #[.agg #[.int .u64 a0, .int .u64 a1, .int .i64 a2, .int .i64 a3], .agg #[.int .u64 b0, .int .u64 b1, .int .i64 b2, .int .i64 b3]] w fun e w' => e = .returned (.agg #[.int .u64 j0, .int .u64 j1, .int .i64 j2, .int .i64 j3]) ∧ Below w.heap.size w w')
    (CK : ∀ w, Calls Try.prog 29 #[.agg #[.int .u64 a0, .int .u64 a1, .int .i64 a2, .int .i64 a3], .agg #[.int .u64 b0, .int .u64 b1, .int .i64 b2, .int .i64 b3]] w fun e w' => e = .returned (.agg #[.int .u64 j0, .int .u64 j1, .int .i64 j2, .int .i64 j3]) ∧ Below w.heap.size w w')
    (CM : ∀ w, Calls Try.prog 25 #[.agg #[.int .u64 a0, .int .u64 a1, .int .i64 a2, .int .i64 a3], .agg #[.int .u64 b0, .int .u64 b1, .int .i64 b2, .int .i64 b3]] w fun e w' => e = .returned (.tuple #[.agg #[.int .u64 m0, .int .u64 m1, .int .i64 m2, .int .i64 m3], .bool true]) ∧ Below w.heap.size w w')
    (CN : ∀ w, Calls Try.prog 26 #[.agg #[.int .u64 a0, .int .u64 a1, .int .i64 a2, .int .i64 a3], .agg #[.int .u64 b0, .int .u64 b1, .int .i64 b2, .int .i64 b3]] w fun e w' => e = .returned (.tuple #[.agg #[.int .u64 m0, .int .u64 m1, .int .i64 m2, .int .i64 m3], .bool true]) ∧ Below w.heap.size w w')
    (C1 : ∀ w, Calls Try.prog 27 #[.agg #[.int .u64 a0, .int .u64 a1, .int .i64 a2, .int .i64 a3], .agg #[.int .u64 b0, .int .u64 b1, .int .i64 b2, .int .i64 b3]] w fun e w' => e = .returned (.bool lab) ∧ Below w.heap.size w w')
    (C2 : ∀ w, Calls Try.prog 28 #[.agg #[.int .u64 a0, .int .u64 a1, .int .i64 a2, .int .i64 a3], .agg #[.int .u64 b0, .int .u64 b1, .int .i64 b2, .int .i64 b3]] w fun e w' => e = .returned (.bool lab) ∧ Below w.heap.size w w')
    (C3 : ∀ w, Calls Try.prog 27 #[.agg #[.int .u64 a0, .int .u64 a1, .int .i64 a2, .int .i64 a3], .agg #[.int .u64 j0, .int .u64 j1, .int .i64 j2, .int .i64 j3]] w fun e w' => e = .returned (.bool true) ∧ Below w.heap.size w w')
    (C4 : ∀ w, Calls Try.prog 27 #[.agg #[.int .u64 b0, .int .u64 b1, .int .i64 b2, .int .i64 b3], .agg #[.int .u64 j0, .int .u64 j1, .int .i64 j2, .int .i64 j3]] w fun e w' => e = .returned (.bool true) ∧ Below w.heap.size w w')
    (C5 : ∀ w, Calls Try.prog 27 #[.agg #[.int .u64 m0, .int .u64 m1, .int .i64 m2, .int .i64 m3], .agg #[.int .u64 a0, .int .u64 a1, .int .i64 a2, .int .i64 a3]] w fun e w' => e = .returned (.bool true) ∧ Below w.heap.size w w')
    (C6 : ∀ w, Calls Try.prog 27 #[.agg #[.int .u64 m0, .int .u64 m1, .int .i64 m2, .int .i64 m3], .agg #[.int .u64 b0, .int .u64 b1, .int .i64 b2, .int .i64 b3]] w fun e w' => e = .returned (.bool true) ∧ Below w.heap.size w w')
    (H1 : Hid (∀ d, iconB d m0 m1 m2 m3 n = (iconB d a0 a1 a2 a3 n && iconB d b0 b1 b2 b3 n)))
    (H2 : Hid (∀ d, iconB d a0 a1 a2 a3 n = true → iconB d j0 j1 j2 j3 n = true)) (H3 : Hid (∀ d, iconB d b0 b1 b2 b3 n = true → iconB d j0 j1 j2 j3 n = true)) (w : World) :
    Calls Try.prog 5 #[.agg #[.int .u64 a0, .int .u64 a1, .int .i64 a2, .int .i64 a3], .agg #[.int .u64 b0, .int .u64 b1, .int .i64 b2, .int .i64 b3], .int .u64 n] w fun e w' => e = .returned (.bool true) ∧ Below w.heap.size w w' := by
  have hB : w.heap.size ≤ w.heap.size := Nat.le_refl _
  go_enter Try.func5, Try.ntmps5
  go_wp2_with fail
  refine (awake13 _).mono ?_
  rintro e w1 ⟨rfl, hb1⟩
  have hz1 : w.heap.size < w1.heap.size := by have := hb1.size; simp at this; omega
  have hz2 : w.heap.size + 1 < w1.heap.size := by have := hb1.size; simp at this; omega
  obtain ⟨hcc, hff⟩ := bcell hb1
  go_wp2_with fail
  refine (CJ _).mono ?_
  rintro e w2 ⟨rfl, hb2⟩
  have hy1 : w.heap.size < w2.heap.size := Nat.lt_of_lt_of_le hz1 hb2.size
  have hy2 : w.heap.size + 1 < w2.heap.size := Nat.lt_of_lt_of_le hz2 hb2.size
  obtain ⟨hcc2, hff2⟩ := bcell hb2
  go_wp2_with fail
  refine (CM _).mono ?_
  rintro e w3 ⟨rfl, hb3⟩
  have hx1 : w.heap.size < w3.heap.size := by have := hb3.size; simp at this; omega
  have hx2 : w.heap.size + 1 < w3.heap.size := by have := hb3.size; simp at this; omega
  obtain ⟨hcc3, hff3⟩ := bcell hb3
  go_wp2_with fail
  refine (CN _).mono ?_
  rintro e w4 ⟨rfl, hb4⟩
  go_wp2_with fail
  have L0 := lat5_begin #[.int .u64 a0, .int .u64 a1, .int .i64 a2, .int .i64 a3] #[.int .u64 b0, .int .u64 b1, .int .i64 b2, .int .i64 b3] #[.int .u64 j0, .int .u64 j1, .int .i64 j2, .int .i64 j3] #[.int .u64 m0, .int .u64 m1, .int .i64 m2, .int .i64 m3] #[.int .u64 m0, .int .u64 m1, .int .i64 m2, .int .i64 m3] 38 hb1 hb2 hb3 hb4
  generalize w4.alloc (.cells #[.int .u64 m0, .int .u64 m1, .int .i64 m2, .int .i64 m3] 38) = W at L0 ⊢
  generalize w2.heap.size = A3 at L0 ⊢
  generalize w3.heap.size = A4 at L0 ⊢
  generalize w4.heap.size = A5 at L0 ⊢
  obtain ⟨l0, l1, ka, kb, kj, km, kv⟩ := L0
  have L' : Lat5 w.heap.size w w.heap.size (w.heap.size + 1) A3 A4 A5 a0 a1 a2 a3 b0 b1 b2 b3 j0 j1 j2 j3 m0 m1 m2 m3 m0 m1 m2 m3 W := ⟨l0, l1, ka 0, ka 1, ka 2, ka 3, kb 0, kb 1, kb 2, kb 3, kj 0, kj 1, kj 2, kj 3, km 0, km 1, km 2, km 3, kv 0, kv 1, kv 2, kv 3⟩
  clear hcc hff hcc2 hff2 hcc3 hff3 hz1 hz2 hy1 hy2 hx1 hx2 hb1 hb2 hb3 hb4 ka kb kj km kv l0 l1
  have L := L'
  obtain ⟨l0, l1, c0, c1, c2, c3, c4, c5, c6, c7, c8, c9, c10, c11, c12, c13, c14, c15, c16, c17, c18, c19⟩ := L
  go_region_held3 (fun w' => Below w.heap.size w w' ∧ (w.heap.size < w'.heap.size ∧ w.heap.size + 1 < w'.heap.size ∧ A3 < w'.heap.size ∧ A4 < w'.heap.size ∧ A5 < w'.heap.size) ∧
      w'.cell? ⟨w.heap.size, 0, none⟩ = some (.int .u64 a0) ∧ w'.cell? ⟨w.heap.size, 1, none⟩ = some (.int .u64 a1) ∧ w'.cell? ⟨w.heap.size, 2, none⟩ = some (.int .i64 a2) ∧ w'.cell? ⟨w.heap.size, 3, none⟩ = some (.int .i64 a3) ∧
      w'.cell? ⟨w.heap.size + 1, 0, none⟩ = some (.int .u64 b0) ∧ w'.cell? ⟨w.heap.size + 1, 1, none⟩ = some (.int .u64 b1) ∧ w'.cell? ⟨w.heap.size + 1, 2, none⟩ = some (.int .i64 b2) ∧ w'.cell? ⟨w.heap.size + 1, 3, none⟩ = some (.int .i64 b3) ∧
      w'.cell? ⟨A3, 0, none⟩ = some (.int .u64 j0) ∧ w'.cell? ⟨A3, 1, none⟩ = some (.int .u64 j1) ∧ w'.cell? ⟨A3, 2, none⟩ = some (.int .i64 j2) ∧ w'.cell? ⟨A3, 3, none⟩ = some (.int .i64 j3) ∧
      w'.cell? ⟨A4, 0, none⟩ = some (.int .u64 m0) ∧ w'.cell? ⟨A4, 1, none⟩ = some (.int .u64 m1) ∧ w'.cell? ⟨A4, 2, none⟩ = some (.int .i64 m2) ∧ w'.cell? ⟨A4, 3, none⟩ = some (.int .i64 m3) ∧
      w'.cell? ⟨A5, 0, none⟩ = some (.int .u64 m0) ∧ w'.cell? ⟨A5, 1, none⟩ = some (.int .u64 m1) ∧ w'.cell? ⟨A5, 2, none⟩ = some (.int .i64 m2) ∧ w'.cell? ⟨A5, 3, none⟩ = some (.int .i64 m3))
    (first
      | exact Lat5.go L' (below_drewN' (Below.refl _ _) 1) hB
      | exact Lat5.go (by assumption) (by assumption) hB
      | exact Lat5.go (by assumption) (below_drewN' (Below.refl _ _) 1) hB
      | go_keep)
    (first
      | (go_at_call 27; refine (C1 _).mono ?_; rintro e wq ⟨rfl, hbq⟩)
      | (go_at_call 28; refine (C2 _).mono ?_; rintro e wq ⟨rfl, hbq⟩)
      | (go_at_call 29; refine (CK _).mono ?_; rintro e wq ⟨rfl, hbq⟩))
  go_wp2_with fail
  have M1 : Lat5 w.heap.size w w.heap.size (w.heap.size + 1) A3 A4 A5 a0 a1 a2 a3 b0 b1 b2 b3 j0 j1 j2 j3 m0 m1 m2 m3 m0 m1 m2 m3 wq := by assumption
  refine (C3 _).mono ?_
  rintro e u1 ⟨rfl, hu1⟩
  have M2 : Lat5 w.heap.size w w.heap.size (w.heap.size + 1) A3 A4 A5 a0 a1 a2 a3 b0 b1 b2 b3 j0 j1 j2 j3 m0 m1 m2 m3 m0 m1 m2 m3 u1 := Lat5.go M1 hu1 hB
  have M2' := M2
  obtain ⟨_, _, d0, d1, d2, d3, d4, d5, d6, d7, d8, d9, d10, d11, d12, d13, d14, d15, d16, d17, d18, d19⟩ := M2'
  go_wp2_with fail
  refine (C4 _).mono ?_
  rintro e u2 ⟨rfl, hu2⟩
  have M3 : Lat5 w.heap.size w w.heap.size (w.heap.size + 1) A3 A4 A5 a0 a1 a2 a3 b0 b1 b2 b3 j0 j1 j2 j3 m0 m1 m2 m3 m0 m1 m2 m3 u2 := Lat5.go M2 hu2 hB
  have M3' := M3
  obtain ⟨_, _, d0, d1, d2, d3, d4, d5, d6, d7, d8, d9, d10, d11, d12, d13, d14, d15, d16, d17, d18, d19⟩ := M3'
  go_wp2_with fail
  refine (C5 _).mono ?_
  rintro e u3 ⟨rfl, hu3⟩
  have M4 : Lat5 w.heap.size w w.heap.size (w.heap.size + 1) A3 A4 A5 a0 a1 a2 a3 b0 b1 b2 b3 j0 j1 j2 j3 m0 m1 m2 m3 m0 m1 m2 m3 u3 := Lat5.go M3 hu3 hB
  have M4' := M4
  obtain ⟨_, _, d0, d1, d2, d3, d4, d5, d6, d7, d8, d9, d10, d11, d12, d13, d14, d15, d16, d17, d18, d19⟩ := M4'
  go_wp2_with fail
  refine (C6 _).mono ?_
  rintro e u4 ⟨rfl, hu4⟩
  have M5 : Lat5 w.heap.size w w.heap.size (w.heap.size + 1) A3 A4 A5 a0 a1 a2 a3 b0 b1 b2 b3 j0 j1 j2 j3 m0 m1 m2 m3 m0 m1 m2 m3 u4 := Lat5.go M4 hu4 hB
  have M5' := M5
  obtain ⟨_, _, d0, d1, d2, d3, d4, d5, d6, d7, d8, d9, d10, d11, d12, d13, d14, d15, d16, d17, d18, d19⟩ := M5'
  go_wp2_with fail
  have P := Lat5.go M5 (alloc_below u4 (.cells #[.int .i64 1, .int .i64 4, .int .i64 64] 3)) hB
  have ar : ∀ k, (u4.alloc (.cells #[.int .i64 1, .int .i64 4, .int .i64 64] 3)).cell? ⟨u4.heap.size, k, none⟩ = (#[.int .i64 1, .int .i64 4, .int .i64 64] : Array Value)[k]? := fun k => World.cell?_alloc_at _ _ _ _ rfl
  have sz : u4.heap.size < (u4.alloc (.cells #[.int .i64 1, .int .i64 4, .int .i64 64] 3)).heap.size := by simp
  generalize u4.alloc (.cells #[.int .i64 1, .int .i64 4, .int .i64 64] 3) = W2 at P ar sz ⊢
  generalize u4.heap.size = AR at ar sz ⊢
  have hB2 : W2.heap.size ≤ W2.heap.size := Nat.le_refl _
  clear L' hB l0 l1 c0 c1 c2 c3 c4 c5 c6 c7 c8 c9 c10 c11 c12 c13 c14 c15 c16 c17 c18 c19 d0 d1 d2 d3 d4 d5 d6 d7 d8 d9 d10 d11 d12 d13 d14 d15 d16 d17 d18 d19 hu1 hu2 hu3 hu4 M1 M2 M3 M4 M5
  go_loopw [84] (fun i wr => ∃ k : Nat, k ≤ 3 ∧ i = .int .i64 (k : Nat) ∧ Below W2.heap.size W2 wr) (fun i _ => 3 - (intOf i).toNat)
  case atStart => exact ⟨0, by omega, rfl, Below.refl _ _⟩
  case round =>
    obtain ⟨k, hk, rfl, hnx⟩ := hrel
    have R0 := Lat5.from P hnx
    by_cases hlt : k < 3
    · obtain ⟨d, car⟩ : ∃ d : Int, wr.cell? ⟨AR, k, none⟩ = some (.int .i64 d) := by
        rw [(bcell hnx).1 _ _ sz, ar]
        have h3 : k = 0 ∨ k = 1 ∨ k = 2 := by omega
        rcases h3 with rfl | rfl | rfl
        · exact ⟨1, rfl⟩
        · exact ⟨4, rfl⟩
        · exact ⟨64, rfl⟩
      have CC := fun w => icon_any d j0 j1 j2 j3 n hn w
      have CD := fun w => icon_any d m0 m1 m2 m3 n hn w
      have h1 := H1.out d
      have h2 := H2.out d
      have h3 := H3.out d
      have R' := R0
      obtain ⟨l0, l1, c0, c1, c2, c3, c4, c5, c6, c7, c8, c9, c10, c11, c12, c13, c14, c15, c16, c17, c18, c19⟩ := R0
      clear H1 H2 H3
      cases fA : iconB d a0 a1 a2 a3 n <;> cases fB : iconB d b0 b1 b2 b3 n
      · rw [h1, fA, fB] at CD
        clear h1
        clear h2 h3
        go_wp2_with fail
        go_region_held3 (fun w' => Below W2.heap.size W2 w' ∧ (w.heap.size < w'.heap.size ∧ w.heap.size + 1 < w'.heap.size ∧ A3 < w'.heap.size ∧ A4 < w'.heap.size ∧ A5 < w'.heap.size) ∧
              w'.cell? ⟨w.heap.size, 0, none⟩ = some (.int .u64 a0) ∧ w'.cell? ⟨w.heap.size, 1, none⟩ = some (.int .u64 a1) ∧ w'.cell? ⟨w.heap.size, 2, none⟩ = some (.int .i64 a2) ∧ w'.cell? ⟨w.heap.size, 3, none⟩ = some (.int .i64 a3) ∧
              w'.cell? ⟨w.heap.size + 1, 0, none⟩ = some (.int .u64 b0) ∧ w'.cell? ⟨w.heap.size + 1, 1, none⟩ = some (.int .u64 b1) ∧ w'.cell? ⟨w.heap.size + 1, 2, none⟩ = some (.int .i64 b2) ∧ w'.cell? ⟨w.heap.size + 1, 3, none⟩ = some (.int .i64 b3) ∧
              w'.cell? ⟨A3, 0, none⟩ = some (.int .u64 j0) ∧ w'.cell? ⟨A3, 1, none⟩ = some (.int .u64 j1) ∧ w'.cell? ⟨A3, 2, none⟩ = some (.int .i64 j2) ∧ w'.cell? ⟨A3, 3, none⟩ = some (.int .i64 j3) ∧
              w'.cell? ⟨A4, 0, none⟩ = some (.int .u64 m0) ∧ w'.cell? ⟨A4, 1, none⟩ = some (.int .u64 m1) ∧ w'.cell? ⟨A4, 2, none⟩ = some (.int .i64 m2) ∧ w'.cell? ⟨A4, 3, none⟩ = some (.int .i64 m3) ∧
              w'.cell? ⟨A5, 0, none⟩ = some (.int .u64 m0) ∧ w'.cell? ⟨A5, 1, none⟩ = some (.int .u64 m1) ∧ w'.cell? ⟨A5, 2, none⟩ = some (.int .i64 m2) ∧ w'.cell? ⟨A5, 3, none⟩ = some (.int .i64 m3))
          (first
              | exact Lat5.go R' (below_drewN' (Below.refl _ _) 1) hB2
              | exact Lat5.go (by assumption) (by assumption) hB2
              | exact Lat5.go (by assumption) (below_drewN' (Below.refl _ _) 1) hB2
              | go_keep)
          (first
            | (go_at_call 30; refine (icon_any _ _ _ _ _ _ hn _).mono ?_; rintro e wq ⟨rfl, hbq⟩))
        go_wp2_with fail
        have Z1 : Lat5 W2.heap.size W2 w.heap.size (w.heap.size + 1) A3 A4 A5 a0 a1 a2 a3 b0 b1 b2 b3 j0 j1 j2 j3 m0 m1 m2 m3 m0 m1 m2 m3 wq := by assumption
        go_roundw
        case rel => exact ⟨k + 1, by omega, by go_num, Z1.1⟩
        case measure => (simp [intOf] <;> omega)
      · rw [h1, fA, fB] at CD
        clear h1
        rw [h3 fB] at CC
        clear h2 h3
        go_wp2_with fail
        go_region_held3 (fun w' => Below W2.heap.size W2 w' ∧ (w.heap.size < w'.heap.size ∧ w.heap.size + 1 < w'.heap.size ∧ A3 < w'.heap.size ∧ A4 < w'.heap.size ∧ A5 < w'.heap.size) ∧
              w'.cell? ⟨w.heap.size, 0, none⟩ = some (.int .u64 a0) ∧ w'.cell? ⟨w.heap.size, 1, none⟩ = some (.int .u64 a1) ∧ w'.cell? ⟨w.heap.size, 2, none⟩ = some (.int .i64 a2) ∧ w'.cell? ⟨w.heap.size, 3, none⟩ = some (.int .i64 a3) ∧
              w'.cell? ⟨w.heap.size + 1, 0, none⟩ = some (.int .u64 b0) ∧ w'.cell? ⟨w.heap.size + 1, 1, none⟩ = some (.int .u64 b1) ∧ w'.cell? ⟨w.heap.size + 1, 2, none⟩ = some (.int .i64 b2) ∧ w'.cell? ⟨w.heap.size + 1, 3, none⟩ = some (.int .i64 b3) ∧
              w'.cell? ⟨A3, 0, none⟩ = some (.int .u64 j0) ∧ w'.cell? ⟨A3, 1, none⟩ = some (.int .u64 j1) ∧ w'.cell? ⟨A3, 2, none⟩ = some (.int .i64 j2) ∧ w'.cell? ⟨A3, 3, none⟩ = some (.int .i64 j3) ∧
              w'.cell? ⟨A4, 0, none⟩ = some (.int .u64 m0) ∧ w'.cell? ⟨A4, 1, none⟩ = some (.int .u64 m1) ∧ w'.cell? ⟨A4, 2, none⟩ = some (.int .i64 m2) ∧ w'.cell? ⟨A4, 3, none⟩ = some (.int .i64 m3) ∧
              w'.cell? ⟨A5, 0, none⟩ = some (.int .u64 m0) ∧ w'.cell? ⟨A5, 1, none⟩ = some (.int .u64 m1) ∧ w'.cell? ⟨A5, 2, none⟩ = some (.int .i64 m2) ∧ w'.cell? ⟨A5, 3, none⟩ = some (.int .i64 m3))
          (first
              | exact Lat5.go R' (below_drewN' (Below.refl _ _) 1) hB2
              | exact Lat5.go (by assumption) (by assumption) hB2
              | exact Lat5.go (by assumption) (below_drewN' (Below.refl _ _) 1) hB2
              | go_keep)
          (first
            | (go_at_call 30; refine (icon_any _ _ _ _ _ _ hn _).mono ?_; rintro e wq ⟨rfl, hbq⟩))
        go_wp2_with fail
        have Z1 : Lat5 W2.heap.size W2 w.heap.size (w.heap.size + 1) A3 A4 A5 a0 a1 a2 a3 b0 b1 b2 b3 j0 j1 j2 j3 m0 m1 m2 m3 m0 m1 m2 m3 wq := by assumption
        refine (CC _).mono ?_
        rintro e v1 ⟨rfl, hv1⟩
        have Z2 : Lat5 W2.heap.size W2 w.heap.size (w.heap.size + 1) A3 A4 A5 a0 a1 a2 a3 b0 b1 b2 b3 j0 j1 j2 j3 m0 m1 m2 m3 m0 m1 m2 m3 v1 := Lat5.go Z1 hv1 hB2
        have Z' := Z2
        obtain ⟨_, _, d0, d1, d2, d3, d4, d5, d6, d7, d8, d9, d10, d11, d12, d13, d14, d15, d16, d17, d18, d19⟩ := Z'
        go_wp2_with fail
        go_roundw
        case rel => exact ⟨k + 1, by omega, by go_num, Z2.1⟩
        case measure => (simp [intOf] <;> omega)
      · rw [h1, fA, fB] at CD
        clear h1
        rw [h2 fA] at CC
        clear h2 h3
        go_wp2_with fail
        go_region_held3 (fun w' => Below W2.heap.size W2 w' ∧ (w.heap.size < w'.heap.size ∧ w.heap.size + 1 < w'.heap.size ∧ A3 < w'.heap.size ∧ A4 < w'.heap.size ∧ A5 < w'.heap.size) ∧
              w'.cell? ⟨w.heap.size, 0, none⟩ = some (.int .u64 a0) ∧ w'.cell? ⟨w.heap.size, 1, none⟩ = some (.int .u64 a1) ∧ w'.cell? ⟨w.heap.size, 2, none⟩ = some (.int .i64 a2) ∧ w'.cell? ⟨w.heap.size, 3, none⟩ = some (.int .i64 a3) ∧
              w'.cell? ⟨w.heap.size + 1, 0, none⟩ = some (.int .u64 b0) ∧ w'.cell? ⟨w.heap.size + 1, 1, none⟩ = some (.int .u64 b1) ∧ w'.cell? ⟨w.heap.size + 1, 2, none⟩ = some (.int .i64 b2) ∧ w'.cell? ⟨w.heap.size + 1, 3, none⟩ = some (.int .i64 b3) ∧
              w'.cell? ⟨A3, 0, none⟩ = some (.int .u64 j0) ∧ w'.cell? ⟨A3, 1, none⟩ = some (.int .u64 j1) ∧ w'.cell? ⟨A3, 2, none⟩ = some (.int .i64 j2) ∧ w'.cell? ⟨A3, 3, none⟩ = some (.int .i64 j3) ∧
              w'.cell? ⟨A4, 0, none⟩ = some (.int .u64 m0) ∧ w'.cell? ⟨A4, 1, none⟩ = some (.int .u64 m1) ∧ w'.cell? ⟨A4, 2, none⟩ = some (.int .i64 m2) ∧ w'.cell? ⟨A4, 3, none⟩ = some (.int .i64 m3) ∧
              w'.cell? ⟨A5, 0, none⟩ = some (.int .u64 m0) ∧ w'.cell? ⟨A5, 1, none⟩ = some (.int .u64 m1) ∧ w'.cell? ⟨A5, 2, none⟩ = some (.int .i64 m2) ∧ w'.cell? ⟨A5, 3, none⟩ = some (.int .i64 m3))
          (first
              | exact Lat5.go R' (below_drewN' (Below.refl _ _) 1) hB2
              | exact Lat5.go (by assumption) (by assumption) hB2
              | exact Lat5.go (by assumption) (below_drewN' (Below.refl _ _) 1) hB2
              | go_keep)
          (first
            | (go_at_call 30; refine (icon_any _ _ _ _ _ _ hn _).mono ?_; rintro e wq ⟨rfl, hbq⟩))
        go_wp2_with fail
        have Z1 : Lat5 W2.heap.size W2 w.heap.size (w.heap.size + 1) A3 A4 A5 a0 a1 a2 a3 b0 b1 b2 b3 j0 j1 j2 j3 m0 m1 m2 m3 m0 m1 m2 m3 wq := by assumption
        refine (CC _).mono ?_
        rintro e v1 ⟨rfl, hv1⟩
        have Z2 : Lat5 W2.heap.size W2 w.heap.size (w.heap.size + 1) A3 A4 A5 a0 a1 a2 a3 b0 b1 b2 b3 j0 j1 j2 j3 m0 m1 m2 m3 m0 m1 m2 m3 v1 := Lat5.go Z1 hv1 hB2
        have Z' := Z2
        obtain ⟨_, _, d0, d1, d2, d3, d4, d5, d6, d7, d8, d9, d10, d11, d12, d13, d14, d15, d16, d17, d18, d19⟩ := Z'
        go_wp2_with fail
        refine (CD _).mono ?_
        rintro e v2 ⟨rfl, hv2⟩
        have Z3 : Lat5 W2.heap.size W2 w.heap.size (w.heap.size + 1) A3 A4 A5 a0 a1 a2 a3 b0 b1 b2 b3 j0 j1 j2 j3 m0 m1 m2 m3 m0 m1 m2 m3 v2 := Lat5.go Z2 hv2 hB2
        have Z' := Z3
        obtain ⟨_, _, d0, d1, d2, d3, d4, d5, d6, d7, d8, d9, d10, d11, d12, d13, d14, d15, d16, d17, d18, d19⟩ := Z'
        go_wp2_with fail
        go_roundw
        case rel => exact ⟨k + 1, by omega, by go_num, Z3.1⟩
        case measure => (simp [intOf] <;> omega)
      · rw [h1, fA, fB] at CD
        clear h1
        rw [h2 fA] at CC
        clear h2 h3
        go_wp2_with fail
        go_region_held3 (fun w' => Below W2.heap.size W2 w' ∧ (w.heap.size < w'.heap.size ∧ w.heap.size + 1 < w'.heap.size ∧ A3 < w'.heap.size ∧ A4 < w'.heap.size ∧ A5 < w'.heap.size) ∧
              w'.cell? ⟨w.heap.size, 0, none⟩ = some (.int .u64 a0) ∧ w'.cell? ⟨w.heap.size, 1, none⟩ = some (.int .u64 a1) ∧ w'.cell? ⟨w.heap.size, 2, none⟩ = some (.int .i64 a2) ∧ w'.cell? ⟨w.heap.size, 3, none⟩ = some (.int .i64 a3) ∧
              w'.cell? ⟨w.heap.size + 1, 0, none⟩ = some (.int .u64 b0) ∧ w'.cell? ⟨w.heap.size + 1, 1, none⟩ = some (.int .u64 b1) ∧ w'.cell? ⟨w.heap.size + 1, 2, none⟩ = some (.int .i64 b2) ∧ w'.cell? ⟨w.heap.size + 1, 3, none⟩ = some (.int .i64 b3) ∧
              w'.cell? ⟨A3, 0, none⟩ = some (.int .u64 j0) ∧ w'.cell? ⟨A3, 1, none⟩ = some (.int .u64 j1) ∧ w'.cell? ⟨A3, 2, none⟩ = some (.int .i64 j2) ∧ w'.cell? ⟨A3, 3, none⟩ = some (.int .i64 j3) ∧
              w'.cell? ⟨A4, 0, none⟩ = some (.int .u64 m0) ∧ w'.cell? ⟨A4, 1, none⟩ = some (.int .u64 m1) ∧ w'.cell? ⟨A4, 2, none⟩ = some (.int .i64 m2) ∧ w'.cell? ⟨A4, 3, none⟩ = some (.int .i64 m3) ∧
              w'.cell? ⟨A5, 0, none⟩ = some (.int .u64 m0) ∧ w'.cell? ⟨A5, 1, none⟩ = some (.int .u64 m1) ∧ w'.cell? ⟨A5, 2, none⟩ = some (.int .i64 m2) ∧ w'.cell? ⟨A5, 3, none⟩ = some (.int .i64 m3))
          (first
              | exact Lat5.go R' (below_drewN' (Below.refl _ _) 1) hB2
              | exact Lat5.go (by assumption) (by assumption) hB2
              | exact Lat5.go (by assumption) (below_drewN' (Below.refl _ _) 1) hB2
              | go_keep)
          (first
            | (go_at_call 30; refine (icon_any _ _ _ _ _ _ hn _).mono ?_; rintro e wq ⟨rfl, hbq⟩))
        go_wp2_with fail
        have Z1 : Lat5 W2.heap.size W2 w.heap.size (w.heap.size + 1) A3 A4 A5 a0 a1 a2 a3 b0 b1 b2 b3 j0 j1 j2 j3 m0 m1 m2 m3 m0 m1 m2 m3 wq := by assumption
        refine (CC _).mono ?_
        rintro e v1 ⟨rfl, hv1⟩
        have Z2 : Lat5 W2.heap.size W2 w.heap.size (w.heap.size + 1) A3 A4 A5 a0 a1 a2 a3 b0 b1 b2 b3 j0 j1 j2 j3 m0 m1 m2 m3 m0 m1 m2 m3 v1 := Lat5.go Z1 hv1 hB2
        have Z' := Z2
        obtain ⟨_, _, d0, d1, d2, d3, d4, d5, d6, d7, d8, d9, d10, d11, d12, d13, d14, d15, d16, d17, d18, d19⟩ := Z'
        go_wp2_with fail
        refine (CD _).mono ?_
        rintro e v2 ⟨rfl, hv2⟩
        have Z3 : Lat5 W2.heap.size W2 w.heap.size (w.heap.size + 1) A3 A4 A5 a0 a1 a2 a3 b0 b1 b2 b3 j0 j1 j2 j3 m0 m1 m2 m3 m0 m1 m2 m3 v2 := Lat5.go Z2 hv2 hB2
        have Z' := Z3
        obtain ⟨_, _, d0, d1, d2, d3, d4, d5, d6, d7, d8, d9, d10, d11, d12, d13, d14, d15, d16, d17, d18, d19⟩ := Z'
        go_wp2_with fail
        go_roundw
        case rel => exact ⟨k + 1, by omega, by go_num, Z3.1⟩
        case measure => (simp [intOf] <;> omega)
    · have hk3 : k = 3 := by omega
      subst hk3
      go_wp2_with fail
      go_ret
      exact ⟨rfl, P.1.trans (hnx.mono P.1.size)⟩

set_option maxHeartbeats 1600000 in
theorem ilat_no (a0 a1 a2 a3 b0 b1 b2 b3 j0 j1 j2 j3 m0 m1 m2 m3 : Int) (n : Nat) (lab : Bool) (hn : n < 18446744073709551616)
    (CJ : ∀ w, Calls Try.prog 24 #[.agg #[.int .u64 a0, .int .u64 a1, .int .i64 a2, .int .i64 a3], .agg #[.int .u64 b0, .int .u64 b1, .int .i64 b2, .int .i64 b3]] w fun e w' => e = .returned (.agg #[.int .u64 j0, .int .u64 j1, .int .i64 j2, .int .i64 j3]) ∧ Below w.heap.size w w')
    (CK : ∀ w, Calls Try.prog 29 #[.agg #[.int .u64 a0, .int .u64 a1, .int .i64 a2, .int .i64 a3], .agg #[.int .u64 b0, .int .u64 b1, .int .i64 b2, .int .i64 b3]] w fun e w' => e = .returned (.agg #[.int .u64 j0, .int .u64 j1, .int .i64 j2, .int .i64 j3]) ∧ Below w.heap.size w w')
    (CM : ∀ w, Calls Try.prog 25 #[.agg #[.int .u64 a0, .int .u64 a1, .int .i64 a2, .int .i64 a3], .agg #[.int .u64 b0, .int .u64 b1, .int .i64 b2, .int .i64 b3]] w fun e w' => e = .returned (.tuple #[.agg #[.int .u64 m0, .int .u64 m1, .int .i64 m2, .int .i64 m3], .bool false]) ∧ Below w.heap.size w w')
    (CN : ∀ w, Calls Try.prog 26 #[.agg #[.int .u64 a0, .int .u64 a1, .int .i64 a2, .int .i64 a3], .agg #[.int .u64 b0, .int .u64 b1, .int .i64 b2, .int .i64 b3]] w fun e w' => e = .returned (.tuple #[.agg #[.int .u64 m0, .int .u64 m1, .int .i64 m2, .int .i64 m3], .bool false]) ∧ Below w.heap.size w w')
    (C1 : ∀ w, Calls Try.prog 27 #[.agg #[.int .u64 a0, .int .u64 a1, .int .i64 a2, .int .i64 a3], .agg #[.int .u64 b0, .int .u64 b1, .int .i64 b2, .int .i64 b3]] w fun e w' => e = .returned (.bool lab) ∧ Below w.heap.size w w')
    (C2 : ∀ w, Calls Try.prog 28 #[.agg #[.int .u64 a0, .int .u64 a1, .int .i64 a2, .int .i64 a3], .agg #[.int .u64 b0, .int .u64 b1, .int .i64 b2, .int .i64 b3]] w fun e w' => e = .returned (.bool lab) ∧ Below w.heap.size w w')
    (C3 : ∀ w, Calls Try.prog 27 #[.agg #[.int .u64 a0, .int .u64 a1, .int .i64 a2, .int .i64 a3], .agg #[.int .u64 j0, .int .u64 j1, .int .i64 j2, .int .i64 j3]] w fun e w' => e = .returned (.bool true) ∧ Below w.heap.size w w')
    (C4 : ∀ w, Calls Try.prog 27 #[.agg #[.int .u64 b0, .int .u64 b1, .int .i64 b2, .int .i64 b3], .agg #[.int .u64 j0, .int .u64 j1, .int .i64 j2, .int .i64 j3]] w fun e w' => e = .returned (.bool true) ∧ Below w.heap.size w w')
    (H1 : Hid (∀ d, (iconB d a0 a1 a2 a3 n && iconB d b0 b1 b2 b3 n) = false))
    (H2 : Hid (∀ d, iconB d a0 a1 a2 a3 n = true → iconB d j0 j1 j2 j3 n = true)) (H3 : Hid (∀ d, iconB d b0 b1 b2 b3 n = true → iconB d j0 j1 j2 j3 n = true)) (w : World) :
    Calls Try.prog 5 #[.agg #[.int .u64 a0, .int .u64 a1, .int .i64 a2, .int .i64 a3], .agg #[.int .u64 b0, .int .u64 b1, .int .i64 b2, .int .i64 b3], .int .u64 n] w fun e w' => e = .returned (.bool true) ∧ Below w.heap.size w w' := by
  have hB : w.heap.size ≤ w.heap.size := Nat.le_refl _
  go_enter Try.func5, Try.ntmps5
  go_wp2_with fail
  refine (awake13 _).mono ?_
  rintro e w1 ⟨rfl, hb1⟩
  have hz1 : w.heap.size < w1.heap.size := by have := hb1.size; simp at this; omega
  have hz2 : w.heap.size + 1 < w1.heap.size := by have := hb1.size; simp at this; omega
  obtain ⟨hcc, hff⟩ := bcell hb1
  go_wp2_with fail
  refine (CJ _).mono ?_
  rintro e w2 ⟨rfl, hb2⟩
  have hy1 : w.heap.size < w2.heap.size := Nat.lt_of_lt_of_le hz1 hb2.size
  have hy2 : w.heap.size + 1 < w2.heap.size := Nat.lt_of_lt_of_le hz2 hb2.size
  obtain ⟨hcc2, hff2⟩ := bcell hb2
  go_wp2_with fail
  refine (CM _).mono ?_
  rintro e w3 ⟨rfl, hb3⟩
  have hx1 : w.heap.size < w3.heap.size := by have := hb3.size; simp at this; omega
  have hx2 : w.heap.size + 1 < w3.heap.size := by have := hb3.size; simp at this; omega
  obtain ⟨hcc3, hff3⟩ := bcell hb3
  go_wp2_with fail
  refine (CN _).mono ?_
  rintro e w4 ⟨rfl, hb4⟩
  go_wp2_with fail
  have L0 := lat5_begin #[.int .u64 a0, .int .u64 a1, .int .i64 a2, .int .i64 a3] #[.int .u64 b0, .int .u64 b1, .int .i64 b2, .int .i64 b3] #[.int .u64 j0, .int .u64 j1, .int .i64 j2, .int .i64 j3] #[.int .u64 m0, .int .u64 m1, .int .i64 m2, .int .i64 m3] #[.int .u64 m0, .int .u64 m1, .int .i64 m2, .int .i64 m3] 38 hb1 hb2 hb3 hb4
  generalize w4.alloc (.cells #[.int .u64 m0, .int .u64 m1, .int .i64 m2, .int .i64 m3] 38) = W at L0 ⊢
  generalize w2.heap.size = A3 at L0 ⊢
  generalize w3.heap.size = A4 at L0 ⊢
  generalize w4.heap.size = A5 at L0 ⊢
  obtain ⟨l0, l1, ka, kb, kj, km, kv⟩ := L0
  have L' : Lat5 w.heap.size w w.heap.size (w.heap.size + 1) A3 A4 A5 a0 a1 a2 a3 b0 b1 b2 b3 j0 j1 j2 j3 m0 m1 m2 m3 m0 m1 m2 m3 W := ⟨l0, l1, ka 0, ka 1, ka 2, ka 3, kb 0, kb 1, kb 2, kb 3, kj 0, kj 1, kj 2, kj 3, km 0, km 1, km 2, km 3, kv 0, kv 1, kv 2, kv 3⟩
  clear hcc hff hcc2 hff2 hcc3 hff3 hz1 hz2 hy1 hy2 hx1 hx2 hb1 hb2 hb3 hb4 ka kb kj km kv l0 l1
  have L := L'
  obtain ⟨l0, l1, c0, c1, c2, c3, c4, c5, c6, c7, c8, c9, c10, c11, c12, c13, c14, c15, c16, c17, c18, c19⟩ := L
  go_region_held3 (fun w' => Below w.heap.size w w' ∧ (w.heap.size < w'.heap.size ∧ w.heap.size + 1 < w'.heap.size ∧ A3 < w'.heap.size ∧ A4 < w'.heap.size ∧ A5 < w'.heap.size) ∧
      w'.cell? ⟨w.heap.size, 0, none⟩ = some (.int .u64 a0) ∧ w'.cell? ⟨w.heap.size, 1, none⟩ = some (.int .u64 a1) ∧ w'.cell? ⟨w.heap.size, 2, none⟩ = some (.int .i64 a2) ∧ w'.cell? ⟨w.heap.size, 3, none⟩ = some (.int .i64 a3) ∧
      w'.cell? ⟨w.heap.size + 1, 0, none⟩ = some (.int .u64 b0) ∧ w'.cell? ⟨w.heap.size + 1, 1, none⟩ = some (.int .u64 b1) ∧ w'.cell? ⟨w.heap.size + 1, 2, none⟩ = some (.int .i64 b2) ∧ w'.cell? ⟨w.heap.size + 1, 3, none⟩ = some (.int .i64 b3) ∧
      w'.cell? ⟨A3, 0, none⟩ = some (.int .u64 j0) ∧ w'.cell? ⟨A3, 1, none⟩ = some (.int .u64 j1) ∧ w'.cell? ⟨A3, 2, none⟩ = some (.int .i64 j2) ∧ w'.cell? ⟨A3, 3, none⟩ = some (.int .i64 j3) ∧
      w'.cell? ⟨A4, 0, none⟩ = some (.int .u64 m0) ∧ w'.cell? ⟨A4, 1, none⟩ = some (.int .u64 m1) ∧ w'.cell? ⟨A4, 2, none⟩ = some (.int .i64 m2) ∧ w'.cell? ⟨A4, 3, none⟩ = some (.int .i64 m3) ∧
      w'.cell? ⟨A5, 0, none⟩ = some (.int .u64 m0) ∧ w'.cell? ⟨A5, 1, none⟩ = some (.int .u64 m1) ∧ w'.cell? ⟨A5, 2, none⟩ = some (.int .i64 m2) ∧ w'.cell? ⟨A5, 3, none⟩ = some (.int .i64 m3))
    (first
      | exact Lat5.go L' (below_drewN' (Below.refl _ _) 1) hB
      | exact Lat5.go (by assumption) (by assumption) hB
      | exact Lat5.go (by assumption) (below_drewN' (Below.refl _ _) 1) hB
      | go_keep)
    (first
      | (go_at_call 27; refine (C1 _).mono ?_; rintro e wq ⟨rfl, hbq⟩)
      | (go_at_call 28; refine (C2 _).mono ?_; rintro e wq ⟨rfl, hbq⟩)
      | (go_at_call 29; refine (CK _).mono ?_; rintro e wq ⟨rfl, hbq⟩))
  go_wp2_with fail
  have M1 : Lat5 w.heap.size w w.heap.size (w.heap.size + 1) A3 A4 A5 a0 a1 a2 a3 b0 b1 b2 b3 j0 j1 j2 j3 m0 m1 m2 m3 m0 m1 m2 m3 wq := by assumption
  refine (C3 _).mono ?_
  rintro e u1 ⟨rfl, hu1⟩
  have M2 : Lat5 w.heap.size w w.heap.size (w.heap.size + 1) A3 A4 A5 a0 a1 a2 a3 b0 b1 b2 b3 j0 j1 j2 j3 m0 m1 m2 m3 m0 m1 m2 m3 u1 := Lat5.go M1 hu1 hB
  have M2' := M2
  obtain ⟨_, _, d0, d1, d2, d3, d4, d5, d6, d7, d8, d9, d10, d11, d12, d13, d14, d15, d16, d17, d18, d19⟩ := M2'
  go_wp2_with fail
  refine (C4 _).mono ?_
  rintro e u2 ⟨rfl, hu2⟩
  have M3 : Lat5 w.heap.size w w.heap.size (w.heap.size + 1) A3 A4 A5 a0 a1 a2 a3 b0 b1 b2 b3 j0 j1 j2 j3 m0 m1 m2 m3 m0 m1 m2 m3 u2 := Lat5.go M2 hu2 hB
  have M3' := M3
  obtain ⟨_, _, d0, d1, d2, d3, d4, d5, d6, d7, d8, d9, d10, d11, d12, d13, d14, d15, d16, d17, d18, d19⟩ := M3'
  go_wp2_with fail
  have P := Lat5.go M3 (alloc_below u2 (.cells #[.int .i64 1, .int .i64 4, .int .i64 64] 3)) hB
  have ar : ∀ k, (u2.alloc (.cells #[.int .i64 1, .int .i64 4, .int .i64 64] 3)).cell? ⟨u2.heap.size, k, none⟩ = (#[.int .i64 1, .int .i64 4, .int .i64 64] : Array Value)[k]? := fun k => World.cell?_alloc_at _ _ _ _ rfl
  have sz : u2.heap.size < (u2.alloc (.cells #[.int .i64 1, .int .i64 4, .int .i64 64] 3)).heap.size := by simp
  generalize u2.alloc (.cells #[.int .i64 1, .int .i64 4, .int .i64 64] 3) = W2 at P ar sz ⊢
  generalize u2.heap.size = AR at ar sz ⊢
  have hB2 : W2.heap.size ≤ W2.heap.size := Nat.le_refl _
  clear L' hB l0 l1 c0 c1 c2 c3 c4 c5 c6 c7 c8 c9 c10 c11 c12 c13 c14 c15 c16 c17 c18 c19 d0 d1 d2 d3 d4 d5 d6 d7 d8 d9 d10 d11 d12 d13 d14 d15 d16 d17 d18 d19 hu1 hu2 M1 M2 M3
  go_loopw [84] (fun i wr => ∃ k : Nat, k ≤ 3 ∧ i = .int .i64 (k : Nat) ∧ Below W2.heap.size W2 wr) (fun i _ => 3 - (intOf i).toNat)
  case atStart => exact ⟨0, by omega, rfl, Below.refl _ _⟩
  case round =>
    obtain ⟨k, hk, rfl, hnx⟩ := hrel
    have R0 := Lat5.from P hnx
    by_cases hlt : k < 3
    · obtain ⟨d, car⟩ : ∃ d : Int, wr.cell? ⟨AR, k, none⟩ = some (.int .i64 d) := by
        rw [(bcell hnx).1 _ _ sz, ar]
        have h3 : k = 0 ∨ k = 1 ∨ k = 2 := by omega
        rcases h3 with rfl | rfl | rfl
        · exact ⟨1, rfl⟩
        · exact ⟨4, rfl⟩
        · exact ⟨64, rfl⟩
      have CC := fun w => icon_any d j0 j1 j2 j3 n hn w
      have CD := fun w => icon_any d m0 m1 m2 m3 n hn w
      have h1 := H1.out d
      have h2 := H2.out d
      have h3 := H3.out d
      have R' := R0
      obtain ⟨l0, l1, c0, c1, c2, c3, c4, c5, c6, c7, c8, c9, c10, c11, c12, c13, c14, c15, c16, c17, c18, c19⟩ := R0
      clear H1 H2 H3
      cases fA : iconB d a0 a1 a2 a3 n <;> cases fB : iconB d b0 b1 b2 b3 n
      · clear h1
        clear h2 h3
        go_wp2_with fail
        go_region_held3 (fun w' => Below W2.heap.size W2 w' ∧ (w.heap.size < w'.heap.size ∧ w.heap.size + 1 < w'.heap.size ∧ A3 < w'.heap.size ∧ A4 < w'.heap.size ∧ A5 < w'.heap.size) ∧
              w'.cell? ⟨w.heap.size, 0, none⟩ = some (.int .u64 a0) ∧ w'.cell? ⟨w.heap.size, 1, none⟩ = some (.int .u64 a1) ∧ w'.cell? ⟨w.heap.size, 2, none⟩ = some (.int .i64 a2) ∧ w'.cell? ⟨w.heap.size, 3, none⟩ = some (.int .i64 a3) ∧
              w'.cell? ⟨w.heap.size + 1, 0, none⟩ = some (.int .u64 b0) ∧ w'.cell? ⟨w.heap.size + 1, 1, none⟩ = some (.int .u64 b1) ∧ w'.cell? ⟨w.heap.size + 1, 2, none⟩ = some (.int .i64 b2) ∧ w'.cell? ⟨w.heap.size + 1, 3, none⟩ = some (.int .i64 b3) ∧
              w'.cell? ⟨A3, 0, none⟩ = some (.int .u64 j0) ∧ w'.cell? ⟨A3, 1, none⟩ = some (.int .u64 j1) ∧ w'.cell? ⟨A3, 2, none⟩ = some (.int .i64 j2) ∧ w'.cell? ⟨A3, 3, none⟩ = some (.int .i64 j3) ∧
              w'.cell? ⟨A4, 0, none⟩ = some (.int .u64 m0) ∧ w'.cell? ⟨A4, 1, none⟩ = some (.int .u64 m1) ∧ w'.cell? ⟨A4, 2, none⟩ = some (.int .i64 m2) ∧ w'.cell? ⟨A4, 3, none⟩ = some (.int .i64 m3) ∧
              w'.cell? ⟨A5, 0, none⟩ = some (.int .u64 m0) ∧ w'.cell? ⟨A5, 1, none⟩ = some (.int .u64 m1) ∧ w'.cell? ⟨A5, 2, none⟩ = some (.int .i64 m2) ∧ w'.cell? ⟨A5, 3, none⟩ = some (.int .i64 m3))
          (first
              | exact Lat5.go R' (below_drewN' (Below.refl _ _) 1) hB2
              | exact Lat5.go (by assumption) (by assumption) hB2
              | exact Lat5.go (by assumption) (below_drewN' (Below.refl _ _) 1) hB2
              | go_keep)
          (first
            | (go_at_call 30; refine (icon_any _ _ _ _ _ _ hn _).mono ?_; rintro e wq ⟨rfl, hbq⟩))
        go_wp2_with fail
        have Z1 : Lat5 W2.heap.size W2 w.heap.size (w.heap.size + 1) A3 A4 A5 a0 a1 a2 a3 b0 b1 b2 b3 j0 j1 j2 j3 m0 m1 m2 m3 m0 m1 m2 m3 wq := by assumption
        go_roundw
        case rel => exact ⟨k + 1, by omega, by go_num, Z1.1⟩
        case measure => (simp [intOf] <;> omega)
      · clear h1
        rw [h3 fB] at CC
        clear h2 h3
        go_wp2_with fail
        go_region_held3 (fun w' => Below W2.heap.size W2 w' ∧ (w.heap.size < w'.heap.size ∧ w.heap.size + 1 < w'.heap.size ∧ A3 < w'.heap.size ∧ A4 < w'.heap.size ∧ A5 < w'.heap.size) ∧
              w'.cell? ⟨w.heap.size, 0, none⟩ = some (.int .u64 a0) ∧ w'.cell? ⟨w.heap.size, 1, none⟩ = some (.int .u64 a1) ∧ w'.cell? ⟨w.heap.size, 2, none⟩ = some (.int .i64 a2) ∧ w'.cell? ⟨w.heap.size, 3, none⟩ = some (.int .i64 a3) ∧
              w'.cell? ⟨w.heap.size + 1, 0, none⟩ = some (.int .u64 b0) ∧ w'.cell? ⟨w.heap.size + 1, 1, none⟩ = some (.int .u64 b1) ∧ w'.cell? ⟨w.heap.size + 1, 2, none⟩ = some (.int .i64 b2) ∧ w'.cell? ⟨w.heap.size + 1, 3, none⟩ = some (.int .i64 b3) ∧
              w'.cell? ⟨A3, 0, none⟩ = some (.int .u64 j0) ∧ w'.cell? ⟨A3, 1, none⟩ = some (.int .u64 j1) ∧ w'.cell? ⟨A3, 2, none⟩ = some (.int .i64 j2) ∧ w'.cell? ⟨A3, 3, none⟩ = some (.int .i64 j3) ∧
              w'.cell? ⟨A4, 0, none⟩ = some (.int .u64 m0) ∧ w'.cell? ⟨A4, 1, none⟩ = some (.int .u64 m1) ∧ w'.cell? ⟨A4, 2, none⟩ = some (.int .i64 m2) ∧ w'.cell? ⟨A4, 3, none⟩ = some (.int .i64 m3) ∧
              w'.cell? ⟨A5, 0, none⟩ = some (.int .u64 m0) ∧ w'.cell? ⟨A5, 1, none⟩ = some (.int .u64 m1) ∧ w'.cell? ⟨A5, 2, none⟩ = some (.int .i64 m2) ∧ w'.cell? ⟨A5, 3, none⟩ = some (.int .i64 m3))
          (first
              | exact Lat5.go R' (below_drewN' (Below.refl _ _) 1) hB2
              | exact Lat5.go (by assumption) (by assumption) hB2
              | exact Lat5.go (by assumption) (below_drewN' (Below.refl _ _) 1) hB2
              | go_keep)
          (first
            | (go_at_call 30; refine (icon_any _ _ _ _ _ _ hn _).mono ?_; rintro e wq ⟨rfl, hbq⟩))
        go_wp2_with fail
        have Z1 : Lat5 W2.heap.size W2 w.heap.size (w.heap.size + 1) A3 A4 A5 a0 a1 a2 a3 b0 b1 b2 b3 j0 j1 j2 j3 m0 m1 m2 m3 m0 m1 m2 m3 wq := by assumption
        refine (CC _).mono ?_
        rintro e v1 ⟨rfl, hv1⟩
        have Z2 : Lat5 W2.heap.size W2 w.heap.size (w.heap.size + 1) A3 A4 A5 a0 a1 a2 a3 b0 b1 b2 b3 j0 j1 j2 j3 m0 m1 m2 m3 m0 m1 m2 m3 v1 := Lat5.go Z1 hv1 hB2
        have Z' := Z2
        obtain ⟨_, _, d0, d1, d2, d3, d4, d5, d6, d7, d8, d9, d10, d11, d12, d13, d14, d15, d16, d17, d18, d19⟩ := Z'
        go_wp2_with fail
        go_roundw
        case rel => exact ⟨k + 1, by omega, by go_num, Z2.1⟩
        case measure => (simp [intOf] <;> omega)
      · clear h1
        rw [h2 fA] at CC
        clear h2 h3
        go_wp2_with fail
        go_region_held3 (fun w' => Below W2.heap.size W2 w' ∧ (w.heap.size < w'.heap.size ∧ w.heap.size + 1 < w'.heap.size ∧ A3 < w'.heap.size ∧ A4 < w'.heap.size ∧ A5 < w'.heap.size) ∧
              w'.cell? ⟨w.heap.size, 0, none⟩ = some (.int .u64 a0) ∧ w'.cell? ⟨w.heap.size, 1, none⟩ = some (.int .u64 a1) ∧ w'.cell? ⟨w.heap.size, 2, none⟩ = some (.int .i64 a2) ∧ w'.cell? ⟨w.heap.size, 3, none⟩ = some (.int .i64 a3) ∧
              w'.cell? ⟨w.heap.size + 1, 0, none⟩ = some (.int .u64 b0) ∧ w'.cell? ⟨w.heap.size + 1, 1, none⟩ = some (.int .u64 b1) ∧ w'.cell? ⟨w.heap.size + 1, 2, none⟩ = some (.int .i64 b2) ∧ w'.cell? ⟨w.heap.size + 1, 3, none⟩ = some (.int .i64 b3) ∧
              w'.cell? ⟨A3, 0, none⟩ = some (.int .u64 j0) ∧ w'.cell? ⟨A3, 1, none⟩ = some (.int .u64 j1) ∧ w'.cell? ⟨A3, 2, none⟩ = some (.int .i64 j2) ∧ w'.cell? ⟨A3, 3, none⟩ = some (.int .i64 j3) ∧
              w'.cell? ⟨A4, 0, none⟩ = some (.int .u64 m0) ∧ w'.cell? ⟨A4, 1, none⟩ = some (.int .u64 m1) ∧ w'.cell? ⟨A4, 2, none⟩ = some (.int .i64 m2) ∧ w'.cell? ⟨A4, 3, none⟩ = some (.int .i64 m3) ∧
              w'.cell? ⟨A5, 0, none⟩ = some (.int .u64 m0) ∧ w'.cell? ⟨A5, 1, none⟩ = some (.int .u64 m1) ∧ w'.cell? ⟨A5, 2, none⟩ = some (.int .i64 m2) ∧ w'.cell? ⟨A5, 3, none⟩ = some (.int .i64 m3))
          (first
              | exact Lat5.go R' (below_drewN' (Below.refl _ _) 1) hB2
              | exact Lat5.go (by assumption) (by assumption) hB2
              | exact Lat5.go (by assumption) (below_drewN' (Below.refl _ _) 1) hB2
              | go_keep)
          (first
            | (go_at_call 30; refine (icon_any _ _ _ _ _ _ hn _).mono ?_; rintro e wq ⟨rfl, hbq⟩))
        go_wp2_with fail
        have Z1 : Lat5 W2.heap.size W2 w.heap.size (w.heap.size + 1) A3 A4 A5 a0 a1 a2 a3 b0 b1 b2 b3 j0 j1 j2 j3 m0 m1 m2 m3 m0 m1 m2 m3 wq := by assumption
        refine (CC _).mono ?_
        rintro e v1 ⟨rfl, hv1⟩
        have Z2 : Lat5 W2.heap.size W2 w.heap.size (w.heap.size + 1) A3 A4 A5 a0 a1 a2 a3 b0 b1 b2 b3 j0 j1 j2 j3 m0 m1 m2 m3 m0 m1 m2 m3 v1 := Lat5.go Z1 hv1 hB2
        have Z' := Z2
        obtain ⟨_, _, d0, d1, d2, d3, d4, d5, d6, d7, d8, d9, d10, d11, d12, d13, d14, d15, d16, d17, d18, d19⟩ := Z'
        go_wp2_with fail
        go_roundw
        case rel => exact ⟨k + 1, by omega, by go_num, Z2.1⟩
        case measure => (simp [intOf] <;> omega)
      · rw [fA, fB] at h1; cases h1
    · have hk3 : k = 3 := by omega
      subst hk3
      go_wp2_with fail
      go_ret
      exact ⟨rfl, P.1.trans (hnx.mono P.1.size)⟩

end Go.Proofs.Ythkdojgagmaecab
