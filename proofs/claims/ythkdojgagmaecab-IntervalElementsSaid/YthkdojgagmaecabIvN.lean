/- IntervalElements. -/
import Derived.Test.YthkdojgagmaecabIvV
import Derived.Test.YthkdojgagmaecabOpen
import Derived.Deep.RegionHeld3
namespace Go.Proofs.Ythkdojgagmaecab
open Go.RowKit

theorem ebcell {W w1 : World} (hb : Below W.heap.size W w1) : (∀ b o, b < W.heap.size → w1.cell? ⟨b, o, none⟩ = W.cell? ⟨b, o, none⟩) ∧ (∀ b o, b < W.heap.size → w1.frozen? ⟨b, o, none⟩ = W.frozen? ⟨b, o, none⟩) :=
  ⟨fun b o h => hb.cell (p := ⟨b, o, none⟩) h, fun b o h => hb.frozen (p := ⟨b, o, none⟩) h⟩
/-- What a world of the law holds: the cells of r and n. -/
abbrev LatE (B : Nat) (w0 : World) (A1 A2 : Nat) (r0 r1 r2 r3 : Int) (n0 n1 : Nat) (w' : World) : Prop :=
  Below B w0 w' ∧ (A1 < w'.heap.size ∧ A2 < w'.heap.size) ∧ w'.cell? ⟨A1, 0, none⟩ = some (.int .u64 r0) ∧ w'.cell? ⟨A1, 1, none⟩ = some (.int .u64 r1) ∧ w'.cell? ⟨A1, 2, none⟩ = some (.int .i64 r2) ∧ w'.cell? ⟨A1, 3, none⟩ = some (.int .i64 r3) ∧ w'.cell? ⟨A2, 0, none⟩ = some (.int .u64 (n0 : Nat)) ∧ w'.cell? ⟨A2, 1, none⟩ = some (.int .u64 (n1 : Nat))
theorem LatE.go {B : Nat} {w0 : World} {A1 A2 : Nat} {r0 r1 r2 r3 : Int} {n0 n1 : Nat} {w1 w2 : World}
    (h : LatE B w0 A1 A2 r0 r1 r2 r3 n0 n1 w1) (hb : Below w1.heap.size w1 w2) (hB : B ≤ w0.heap.size) : LatE B w0 A1 A2 r0 r1 r2 r3 n0 n1 w2 := by
  obtain ⟨h0, ⟨s1, s2⟩, c0, c1, c2, c3, c4, c5⟩ := h
  have hz := hb.size
  have hc := (ebcell hb).1
  have := h0.size
  refine ⟨h0.trans (hb.mono (by omega)), ⟨by omega, by omega⟩, ?_, ?_, ?_, ?_, ?_, ?_⟩
  all_goals (rw [hc _ _ (by assumption)]; assumption)
/-- The cells of one. -/
abbrev One4 (B : Nat) (w0 : World) (A : Nat) (X : Nat) (S : Int) (w' : World) : Prop :=
  Below B w0 w' ∧ A < w'.heap.size ∧ w'.cell? ⟨A, 0, none⟩ = some (.int .u64 (X : Nat)) ∧ w'.cell? ⟨A, 1, none⟩ = some (.int .u64 (X : Nat)) ∧ w'.cell? ⟨A, 2, none⟩ = some (.int .i64 S) ∧ w'.cell? ⟨A, 3, none⟩ = some (.int .i64 S)
theorem One4.go {B : Nat} {w0 : World} {A X : Nat} {S : Int} {w1 w2 : World} (h : One4 B w0 A X S w1) (hb : Below w1.heap.size w1 w2) (hB : B ≤ w0.heap.size) : One4 B w0 A X S w2 := by
  obtain ⟨h0, s1, c0, c1, c2, c3⟩ := h
  have hz := hb.size
  have hc := (ebcell hb).1
  have := h0.size
  refine ⟨h0.trans (hb.mono (by omega)), by omega, ?_, ?_, ?_, ?_⟩
  all_goals (rw [hc _ _ (by assumption)]; assumption)
theorem One4.begin {B : Nat} {w0 w1 : World} (X : Nat) (S : Int) (t : TypeId) (h : Below B w0 w1) (hB : B ≤ w0.heap.size) : One4 B w0 w1.heap.size X S (w1.alloc (.cells #[.int .u64 (X : Nat), .int .u64 (X : Nat), .int .i64 S, .int .i64 S] t)) :=
  ⟨h.alloc (Nat.le_trans hB h.size) _, by simp, World.cell?_alloc_at _ _ _ _ rfl, World.cell?_alloc_at _ _ _ _ rfl, World.cell?_alloc_at _ _ _ _ rfl, World.cell?_alloc_at _ _ _ _ rfl⟩
theorem lateE_begin {w w1 : World} (r0 r1 r2 r3 : Int) (n0 n1 : Nat) (t t2 : TypeId)
    (hb : Below ((w.alloc (.cells #[.int .u64 r0, .int .u64 r1, .int .i64 r2, .int .i64 r3] t)).alloc (.cells #[.int .u64 (n0 : Nat), .int .u64 (n1 : Nat)] t2)).heap.size ((w.alloc (.cells #[.int .u64 r0, .int .u64 r1, .int .i64 r2, .int .i64 r3] t)).alloc (.cells #[.int .u64 (n0 : Nat), .int .u64 (n1 : Nat)] t2)) w1) :
    LatE w.heap.size w w.heap.size (w.heap.size + 1) r0 r1 r2 r3 n0 n1 w1 := by
  refine LatE.go (w1 := (w.alloc (.cells #[.int .u64 r0, .int .u64 r1, .int .i64 r2, .int .i64 r3] t)).alloc (.cells #[.int .u64 (n0 : Nat), .int .u64 (n1 : Nat)] t2)) ?_ hb (Nat.le_refl _)
  refine ⟨((Below.refl _ w).alloc (Nat.le_refl _) _).alloc (by simp) _, ⟨by simp <;> omega, by simp <;> omega⟩, ?_, ?_, ?_, ?_, ?_, ?_⟩
  · simp
  · simp
  · simp
  · simp
  · exact World.cell?_alloc_at _ _ _ _ (by simp)
  · exact World.cell?_alloc_at _ _ _ _ (by simp)

/-! The facts, in plain mathematics. -/
theorem fit_le (a : Int) (x : Nat) : fitN a x ≤ maskN a := by unfold maskN; have := fitN_lt' a x; omega
theorem sgn_in (a : Int) (x : Nat) (ha : 1 ≤ a) : smin a ≤ sgn a x ∧ sgn a x ≤ smax a := by
  have h1 := fitN_lt' a x
  have hh := pow_half (cw a) (cw_pos' a ha)
  unfold sgn smin smax
  rw [if_neg (by omega)]
  generalize 2 ^ cw a = m at *
  generalize 2 ^ (cw a - 1) = q at *
  generalize fitN a x = f at *
  split <;> omega
theorem ival_one (a : Int) (x : Nat) (h1 : 1 ≤ a) (h2 : a ≤ 64) : ivalB a (fitN a x : Nat) (fitN a x : Nat) (sgn a x) (sgn a x) = true := by
  have := fit_le a x
  obtain ⟨s1, s2⟩ := sgn_in a x h1
  simp only [ivalB, h1, h2, s1, s2, decide_true, Bool.true_and, Bool.and_true, Int.le_refl, decide_eq_true_eq]
  omega
theorem ival_top (a : Int) (h1 : 1 ≤ a) (h2 : a ≤ 64) : ivalB a 0 (maskN a : Nat) (smin a) (smax a) = true := by
  obtain ⟨s1, s2⟩ := sgn_in a 0 h1
  have : smin a ≤ smax a := by omega
  have : (0 : Int) ≤ ((maskN a : Nat) : Int) := by omega
  simp only [ivalB, h1, h2, *, decide_true, Bool.true_and, Bool.and_true, Int.le_refl]
theorem icon_top (a : Int) (x : Nat) (h1 : 1 ≤ a) (h2 : a ≤ 64) : iconB a 0 (maskN a : Nat) (smin a) (smax a) (fitN a x) = true := by
  have e := fit_le a x
  obtain ⟨s1, s2⟩ := sgn_in a x h1
  have e2 : (0 : Int) ≤ ((fitN a x : Nat) : Int) := by omega
  have e3 : ((fitN a x : Nat) : Int) ≤ ((maskN a : Nat) : Int) := by omega
  simp only [iconB, sgn_fit', h1, h2, e, e2, e3, s1, s2, decide_true, Bool.true_and, Bool.and_true]
theorem icon_one (a : Int) (x y : Nat) (h1 : 1 ≤ a) (h2 : a ≤ 64) (h : fitN a x = fitN a y) : iconB a (fitN a x : Nat) (fitN a x : Nat) (sgn a x) (sgn a x) (fitN a y) = true := by
  have e := fit_le a x
  have hs : sgn a y = sgn a x := by rw [← sgn_fit' a y, ← h, sgn_fit']
  rw [← h]
  simp only [iconB, sgn_fit', h1, h2, e, decide_true, Bool.true_and, Bool.and_true, Int.le_refl]
theorem icon_other (a : Int) (x y : Nat) (h : ¬ fitN a x = fitN a y) : iconB a (fitN a x : Nat) (fitN a x : Nat) (sgn a x) (sgn a x) (fitN a y) = false := by
  by_cases g : ((fitN a x : Nat) : Int) ≤ ((fitN a y : Nat) : Int)
  · have g2 : ¬ ((fitN a y : Nat) : Int) ≤ ((fitN a x : Nat) : Int) := by omega
    simp only [iconB, g2, decide_false, Bool.false_and, Bool.and_false]
  · simp only [iconB, g, decide_false, Bool.false_and, Bool.and_false]

set_option maxHeartbeats 1600000 in
theorem ielem_lo (a r0 r1 r2 r3 : Int) (n0 n1 : Nat) (h0 : n0 < 18446744073709551616) (h1 : n1 < 18446744073709551616) (bv bc : Bool) (t0 t1 t2 t3 o0 o1 o2 o3 : Int) (g1 : a < 1)
    (CV : ∀ w, Calls Try.prog 31 #[.int .i64 a, .agg #[.int .u64 r0, .int .u64 r1, .int .i64 r2, .int .i64 r3]] w fun e w' => e = .returned (.bool bv) ∧ Below w.heap.size w w')
    (DV : ∀ w, Calls Try.prog 32 #[.int .i64 a, .agg #[.int .u64 r0, .int .u64 r1, .int .i64 r2, .int .i64 r3]] w fun e w' => e = .returned (.bool bv) ∧ Below w.heap.size w w')
    (CC : ∀ w, Calls Try.prog 30 #[.int .i64 a, .agg #[.int .u64 r0, .int .u64 r1, .int .i64 r2, .int .i64 r3], .int .u64 (n0 : Nat)] w fun e w' => e = .returned (.bool bc) ∧ Below w.heap.size w w')
    (DC : ∀ w, Calls Try.prog 33 #[.int .i64 a, .agg #[.int .u64 r0, .int .u64 r1, .int .i64 r2, .int .i64 r3], .int .u64 (n0 : Nat)] w fun e w' => e = .returned (.bool bc) ∧ Below w.heap.size w w')
    (CT : ∀ w, Calls Try.prog 34 #[.int .i64 a] w fun e w' => e = .returned (.agg #[.int .u64 t0, .int .u64 t1, .int .i64 t2, .int .i64 t3]) ∧ Below w.heap.size w w')
    (DT : ∀ w, Calls Try.prog 35 #[.int .i64 a] w fun e w' => e = .returned (.agg #[.int .u64 t0, .int .u64 t1, .int .i64 t2, .int .i64 t3]) ∧ Below w.heap.size w w')
    (CO : ∀ w, Calls Try.prog 36 #[.int .i64 a, .int .u64 (n0 : Nat)] w fun e w' => e = .returned (.agg #[.int .u64 o0, .int .u64 o1, .int .i64 o2, .int .i64 o3]) ∧ Below w.heap.size w w')
    (DO : ∀ w, Calls Try.prog 37 #[.int .i64 a, .int .u64 (n0 : Nat)] w fun e w' => e = .returned (.agg #[.int .u64 o0, .int .u64 o1, .int .i64 o2, .int .i64 o3]) ∧ Below w.heap.size w w')
    (w : World) :
    Calls Try.prog 6 #[.int .i64 a, .agg #[.int .u64 r0, .int .u64 r1, .int .i64 r2, .int .i64 r3], .agg #[.int .u64 (n0 : Nat), .int .u64 (n1 : Nat)]] w fun e w' => e = .returned (.bool true) ∧ Below w.heap.size w w' := by
  have hB : w.heap.size ≤ w.heap.size := Nat.le_refl _
  go_enter Try.func6, Try.ntmps6
  go_wp2_with fail
  refine (awake13 _).mono ?_
  rintro e w1 ⟨rfl, hb1⟩
  have hz1 : w.heap.size < w1.heap.size := by have := hb1.size; simp at this; omega
  have hz2 : w.heap.size + 1 < w1.heap.size := by have := hb1.size; simp at this; omega
  have L := lateE_begin r0 r1 r2 r3 n0 n1 _ _ hb1
  have L' := L
  obtain ⟨_, _, c0, c1, c2, c3, c4, c5⟩ := L
  clear hb1
  go_wp2_with fail
  go_region_held3 (fun w' => Below w.heap.size w w' ∧ (w.heap.size < w'.heap.size ∧ w.heap.size + 1 < w'.heap.size) ∧ w'.cell? ⟨w.heap.size, 0, none⟩ = some (.int .u64 r0) ∧ w'.cell? ⟨w.heap.size, 1, none⟩ = some (.int .u64 r1) ∧ w'.cell? ⟨w.heap.size, 2, none⟩ = some (.int .i64 r2) ∧ w'.cell? ⟨w.heap.size, 3, none⟩ = some (.int .i64 r3) ∧ w'.cell? ⟨w.heap.size + 1, 0, none⟩ = some (.int .u64 (n0 : Nat)) ∧ w'.cell? ⟨w.heap.size + 1, 1, none⟩ = some (.int .u64 (n1 : Nat)))
    (first
      | exact LatE.go L' (below_drewN' (Below.refl _ _) 1) hB
      | exact LatE.go (by assumption) (by assumption) hB
      | exact LatE.go (by assumption) (below_drewN' (Below.refl _ _) 1) hB
      | go_keep)
    (first
      | (go_at_call 31; refine (CV _).mono ?_; rintro e wq ⟨rfl, hbq⟩)
      | (go_at_call 32; refine (DV _).mono ?_; rintro e wq ⟨rfl, hbq⟩)
      | (go_at_call 30; refine (CC _).mono ?_; rintro e wq ⟨rfl, hbq⟩)
      | (go_at_call 33; refine (DC _).mono ?_; rintro e wq ⟨rfl, hbq⟩)
      | (go_at_call 34; refine (CT _).mono ?_; rintro e wq ⟨rfl, hbq⟩)
      | (go_at_call 35; refine (DT _).mono ?_; rintro e wq ⟨rfl, hbq⟩)
      | (go_at_call 36; refine (CO _).mono ?_; rintro e wq ⟨rfl, hbq⟩)
      | (go_at_call 37; refine (DO _).mono ?_; rintro e wq ⟨rfl, hbq⟩))
  go_wp2_with fail
  have Z : LatE w.heap.size w w.heap.size (w.heap.size + 1) r0 r1 r2 r3 n0 n1 wq := by assumption
  go_ret
  exact ⟨rfl, Z.1⟩

set_option maxHeartbeats 1600000 in
theorem ielem_hi (a r0 r1 r2 r3 : Int) (n0 n1 : Nat) (h0 : n0 < 18446744073709551616) (h1 : n1 < 18446744073709551616) (bv bc : Bool) (t0 t1 t2 t3 o0 o1 o2 o3 : Int) (g0 : ¬ a < 1) (g1 : 64 < a)
    (CV : ∀ w, Calls Try.prog 31 #[.int .i64 a, .agg #[.int .u64 r0, .int .u64 r1, .int .i64 r2, .int .i64 r3]] w fun e w' => e = .returned (.bool bv) ∧ Below w.heap.size w w')
    (DV : ∀ w, Calls Try.prog 32 #[.int .i64 a, .agg #[.int .u64 r0, .int .u64 r1, .int .i64 r2, .int .i64 r3]] w fun e w' => e = .returned (.bool bv) ∧ Below w.heap.size w w')
    (CC : ∀ w, Calls Try.prog 30 #[.int .i64 a, .agg #[.int .u64 r0, .int .u64 r1, .int .i64 r2, .int .i64 r3], .int .u64 (n0 : Nat)] w fun e w' => e = .returned (.bool bc) ∧ Below w.heap.size w w')
    (DC : ∀ w, Calls Try.prog 33 #[.int .i64 a, .agg #[.int .u64 r0, .int .u64 r1, .int .i64 r2, .int .i64 r3], .int .u64 (n0 : Nat)] w fun e w' => e = .returned (.bool bc) ∧ Below w.heap.size w w')
    (CT : ∀ w, Calls Try.prog 34 #[.int .i64 a] w fun e w' => e = .returned (.agg #[.int .u64 t0, .int .u64 t1, .int .i64 t2, .int .i64 t3]) ∧ Below w.heap.size w w')
    (DT : ∀ w, Calls Try.prog 35 #[.int .i64 a] w fun e w' => e = .returned (.agg #[.int .u64 t0, .int .u64 t1, .int .i64 t2, .int .i64 t3]) ∧ Below w.heap.size w w')
    (CO : ∀ w, Calls Try.prog 36 #[.int .i64 a, .int .u64 (n0 : Nat)] w fun e w' => e = .returned (.agg #[.int .u64 o0, .int .u64 o1, .int .i64 o2, .int .i64 o3]) ∧ Below w.heap.size w w')
    (DO : ∀ w, Calls Try.prog 37 #[.int .i64 a, .int .u64 (n0 : Nat)] w fun e w' => e = .returned (.agg #[.int .u64 o0, .int .u64 o1, .int .i64 o2, .int .i64 o3]) ∧ Below w.heap.size w w')
    (w : World) :
    Calls Try.prog 6 #[.int .i64 a, .agg #[.int .u64 r0, .int .u64 r1, .int .i64 r2, .int .i64 r3], .agg #[.int .u64 (n0 : Nat), .int .u64 (n1 : Nat)]] w fun e w' => e = .returned (.bool true) ∧ Below w.heap.size w w' := by
  have hB : w.heap.size ≤ w.heap.size := Nat.le_refl _
  go_enter Try.func6, Try.ntmps6
  go_wp2_with fail
  refine (awake13 _).mono ?_
  rintro e w1 ⟨rfl, hb1⟩
  have hz1 : w.heap.size < w1.heap.size := by have := hb1.size; simp at this; omega
  have hz2 : w.heap.size + 1 < w1.heap.size := by have := hb1.size; simp at this; omega
  have L := lateE_begin r0 r1 r2 r3 n0 n1 _ _ hb1
  have L' := L
  obtain ⟨_, _, c0, c1, c2, c3, c4, c5⟩ := L
  clear hb1
  go_wp2_with fail
  go_region_held3 (fun w' => Below w.heap.size w w' ∧ (w.heap.size < w'.heap.size ∧ w.heap.size + 1 < w'.heap.size) ∧ w'.cell? ⟨w.heap.size, 0, none⟩ = some (.int .u64 r0) ∧ w'.cell? ⟨w.heap.size, 1, none⟩ = some (.int .u64 r1) ∧ w'.cell? ⟨w.heap.size, 2, none⟩ = some (.int .i64 r2) ∧ w'.cell? ⟨w.heap.size, 3, none⟩ = some (.int .i64 r3) ∧ w'.cell? ⟨w.heap.size + 1, 0, none⟩ = some (.int .u64 (n0 : Nat)) ∧ w'.cell? ⟨w.heap.size + 1, 1, none⟩ = some (.int .u64 (n1 : Nat)))
    (first
      | exact LatE.go L' (below_drewN' (Below.refl _ _) 1) hB
      | exact LatE.go (by assumption) (by assumption) hB
      | exact LatE.go (by assumption) (below_drewN' (Below.refl _ _) 1) hB
      | go_keep)
    (first
      | (go_at_call 31; refine (CV _).mono ?_; rintro e wq ⟨rfl, hbq⟩)
      | (go_at_call 32; refine (DV _).mono ?_; rintro e wq ⟨rfl, hbq⟩)
      | (go_at_call 30; refine (CC _).mono ?_; rintro e wq ⟨rfl, hbq⟩)
      | (go_at_call 33; refine (DC _).mono ?_; rintro e wq ⟨rfl, hbq⟩)
      | (go_at_call 34; refine (CT _).mono ?_; rintro e wq ⟨rfl, hbq⟩)
      | (go_at_call 35; refine (DT _).mono ?_; rintro e wq ⟨rfl, hbq⟩)
      | (go_at_call 36; refine (CO _).mono ?_; rintro e wq ⟨rfl, hbq⟩)
      | (go_at_call 37; refine (DO _).mono ?_; rintro e wq ⟨rfl, hbq⟩))
  go_wp2_with fail
  have Z : LatE w.heap.size w w.heap.size (w.heap.size + 1) r0 r1 r2 r3 n0 n1 wq := by assumption
  go_ret
  exact ⟨rfl, Z.1⟩

set_option maxHeartbeats 1600000 in
theorem ielem_in (a r0 r1 r2 r3 : Int) (n0 n1 : Nat) (h0 : n0 < 18446744073709551616) (h1 : n1 < 18446744073709551616) (bv bc : Bool) (t0 t1 t2 t3 o0 o1 o2 o3 : Int) (g1 : ¬ a < 1) (g2 : ¬ 64 < a) (M X Y : Nat) (SX : Int) (be : Bool)
    (CV : ∀ w, Calls Try.prog 31 #[.int .i64 a, .agg #[.int .u64 r0, .int .u64 r1, .int .i64 r2, .int .i64 r3]] w fun e w' => e = .returned (.bool bv) ∧ Below w.heap.size w w')
    (DV : ∀ w, Calls Try.prog 32 #[.int .i64 a, .agg #[.int .u64 r0, .int .u64 r1, .int .i64 r2, .int .i64 r3]] w fun e w' => e = .returned (.bool bv) ∧ Below w.heap.size w w')
    (CC : ∀ w, Calls Try.prog 30 #[.int .i64 a, .agg #[.int .u64 r0, .int .u64 r1, .int .i64 r2, .int .i64 r3], .int .u64 (n0 : Nat)] w fun e w' => e = .returned (.bool bc) ∧ Below w.heap.size w w')
    (DC : ∀ w, Calls Try.prog 33 #[.int .i64 a, .agg #[.int .u64 r0, .int .u64 r1, .int .i64 r2, .int .i64 r3], .int .u64 (n0 : Nat)] w fun e w' => e = .returned (.bool bc) ∧ Below w.heap.size w w')
    (CT : ∀ w, Calls Try.prog 34 #[.int .i64 a] w fun e w' => e = .returned (.agg #[.int .u64 t0, .int .u64 t1, .int .i64 t2, .int .i64 t3]) ∧ Below w.heap.size w w')
    (DT : ∀ w, Calls Try.prog 35 #[.int .i64 a] w fun e w' => e = .returned (.agg #[.int .u64 t0, .int .u64 t1, .int .i64 t2, .int .i64 t3]) ∧ Below w.heap.size w w')
    (CO : ∀ w, Calls Try.prog 36 #[.int .i64 a, .int .u64 (n0 : Nat)] w fun e w' => e = .returned (.agg #[.int .u64 o0, .int .u64 o1, .int .i64 o2, .int .i64 o3]) ∧ Below w.heap.size w w')
    (DO : ∀ w, Calls Try.prog 37 #[.int .i64 a, .int .u64 (n0 : Nat)] w fun e w' => e = .returned (.agg #[.int .u64 o0, .int .u64 o1, .int .i64 o2, .int .i64 o3]) ∧ Below w.heap.size w w')
    (CM : ∀ w, Calls Try.prog 38 #[.int .i64 a] w fun e w' => e = .returned (.int .u64 (M : Nat)) ∧ w' = w)
    (hX : bits .and .u64 (n0 : Int) (M : Int) = (X : Nat)) (hY : bits .and .u64 (n1 : Int) (M : Int) = (Y : Nat)) (hbe : ((X : Int) == (Y : Int)) = be)
    (CO1 : ∀ w, Calls Try.prog 36 #[.int .i64 a, .int .u64 (X : Nat)] w fun e w' => e = .returned (.agg #[.int .u64 (X : Nat), .int .u64 (X : Nat), .int .i64 SX, .int .i64 SX]) ∧ Below w.heap.size w w')
    (CV1 : ∀ w, Calls Try.prog 31 #[.int .i64 a, .agg #[.int .u64 (X : Nat), .int .u64 (X : Nat), .int .i64 SX, .int .i64 SX]] w fun e w' => e = .returned (.bool true) ∧ Below w.heap.size w w')
    (CV2 : ∀ w, Calls Try.prog 31 #[.int .i64 a, .agg #[.int .u64 t0, .int .u64 t1, .int .i64 t2, .int .i64 t3]] w fun e w' => e = .returned (.bool true) ∧ Below w.heap.size w w')
    (CC1 : ∀ w, Calls Try.prog 30 #[.int .i64 a, .agg #[.int .u64 t0, .int .u64 t1, .int .i64 t2, .int .i64 t3], .int .u64 (X : Nat)] w fun e w' => e = .returned (.bool true) ∧ Below w.heap.size w w')
    (CC2 : ∀ w, Calls Try.prog 30 #[.int .i64 a, .agg #[.int .u64 (X : Nat), .int .u64 (X : Nat), .int .i64 SX, .int .i64 SX], .int .u64 (Y : Nat)] w fun e w' => e = .returned (.bool be) ∧ Below w.heap.size w w')
    (w : World) :
    Calls Try.prog 6 #[.int .i64 a, .agg #[.int .u64 r0, .int .u64 r1, .int .i64 r2, .int .i64 r3], .agg #[.int .u64 (n0 : Nat), .int .u64 (n1 : Nat)]] w fun e w' => e = .returned (.bool true) ∧ Below w.heap.size w w' := by
  have hB : w.heap.size ≤ w.heap.size := Nat.le_refl _
  go_enter Try.func6, Try.ntmps6
  go_wp2_with fail
  refine (awake13 _).mono ?_
  rintro e w1 ⟨rfl, hb1⟩
  have hz1 : w.heap.size < w1.heap.size := by have := hb1.size; simp at this; omega
  have hz2 : w.heap.size + 1 < w1.heap.size := by have := hb1.size; simp at this; omega
  have L := lateE_begin r0 r1 r2 r3 n0 n1 _ _ hb1
  have L' := L
  obtain ⟨_, _, c0, c1, c2, c3, c4, c5⟩ := L
  clear hb1
  go_wp2_with fail
  go_region_held3 (fun w' => Below w.heap.size w w' ∧ (w.heap.size < w'.heap.size ∧ w.heap.size + 1 < w'.heap.size) ∧ w'.cell? ⟨w.heap.size, 0, none⟩ = some (.int .u64 r0) ∧ w'.cell? ⟨w.heap.size, 1, none⟩ = some (.int .u64 r1) ∧ w'.cell? ⟨w.heap.size, 2, none⟩ = some (.int .i64 r2) ∧ w'.cell? ⟨w.heap.size, 3, none⟩ = some (.int .i64 r3) ∧ w'.cell? ⟨w.heap.size + 1, 0, none⟩ = some (.int .u64 (n0 : Nat)) ∧ w'.cell? ⟨w.heap.size + 1, 1, none⟩ = some (.int .u64 (n1 : Nat)))
    (first
      | exact LatE.go L' (below_drewN' (Below.refl _ _) 1) hB
      | exact LatE.go (by assumption) (by assumption) hB
      | exact LatE.go (by assumption) (below_drewN' (Below.refl _ _) 1) hB
      | go_keep)
    (first
      | (go_at_call 31; refine (CV _).mono ?_; rintro e wq ⟨rfl, hbq⟩)
      | (go_at_call 32; refine (DV _).mono ?_; rintro e wq ⟨rfl, hbq⟩)
      | (go_at_call 30; refine (CC _).mono ?_; rintro e wq ⟨rfl, hbq⟩)
      | (go_at_call 33; refine (DC _).mono ?_; rintro e wq ⟨rfl, hbq⟩)
      | (go_at_call 34; refine (CT _).mono ?_; rintro e wq ⟨rfl, hbq⟩)
      | (go_at_call 35; refine (DT _).mono ?_; rintro e wq ⟨rfl, hbq⟩)
      | (go_at_call 36; refine (CO _).mono ?_; rintro e wq ⟨rfl, hbq⟩)
      | (go_at_call 37; refine (DO _).mono ?_; rintro e wq ⟨rfl, hbq⟩))
  go_wp2_with fail
  have Z : LatE w.heap.size w w.heap.size (w.heap.size + 1) r0 r1 r2 r3 n0 n1 wq := by assumption
  obtain ⟨z0, _, d0, d1, d2, d3, d4, d5⟩ := Z
  clear c0 c1 c2 c3 c4 c5 L'
  go_quiet ((go_at_call 38; exact Calls.quiet_of_same (CM _)))
  go_wp2_with fail
  refine (CO1 _).mono ?_
  rintro e u1 ⟨rfl, hu1⟩
  go_wp2_with fail
  have Q1 : One4 w.heap.size w u1.heap.size X SX (u1.alloc (.cells #[.int .u64 (X : Nat), .int .u64 (X : Nat), .int .i64 SX, .int .i64 SX] 38)) := by
    refine One4.begin X SX _ ?_ hB
    exact (below_drewN' z0 _).trans (hu1.mono (below_drewN' z0 _).size)
  generalize u1.alloc (.cells #[.int .u64 (X : Nat), .int .u64 (X : Nat), .int .i64 SX, .int .i64 SX] 38) = W1 at Q1 ⊢
  generalize u1.heap.size = A3 at Q1 ⊢
  have Q1' := Q1
  obtain ⟨_, _, q0, q1, q2, q3⟩ := Q1'
  refine (CV1 _).mono ?_
  rintro e u2 ⟨rfl, hu2⟩
  have Q2 := One4.go Q1 hu2 hB
  have Q2' := Q2
  obtain ⟨_, _, p0, p1, p2, p3⟩ := Q2'
  go_wp2_with fail
  refine (CT _).mono ?_
  rintro e u3 ⟨rfl, hu3⟩
  have Q3 := One4.go Q2 hu3 hB
  go_wp2_with fail
  refine (CV2 _).mono ?_
  rintro e u4 ⟨rfl, hu4⟩
  have Q4 := One4.go Q3 hu4 hB
  go_wp2_with fail
  refine (CT _).mono ?_
  rintro e u5 ⟨rfl, hu5⟩
  have Q5 := One4.go Q4 hu5 hB
  go_wp2_with fail
  refine (CC1 _).mono ?_
  rintro e u6 ⟨rfl, hu6⟩
  have Q6 := One4.go Q5 hu6 hB
  have Q6' := Q6
  obtain ⟨_, _, s0, s1, s2, s3⟩ := Q6'
  go_wp2_with fail
  refine (CC2 _).mono ?_
  rintro e u7 ⟨rfl, hu7⟩
  have Q7 := One4.go Q6 hu7 hB
  go_wp2_with fail
  go_ret
  exact ⟨by simp, Q7.1⟩

theorem ielem_any (a r0 r1 r2 r3 : Int) (n0 n1 : Nat) (h0 : n0 < 18446744073709551616) (h1 : n1 < 18446744073709551616) (w : World) :
    Calls Try.prog 6 #[.int .i64 a, .agg #[.int .u64 r0, .int .u64 r1, .int .i64 r2, .int .i64 r3], .agg #[.int .u64 (n0 : Nat), .int .u64 (n1 : Nat)]] w fun e w' => e = .returned (.bool true) ∧ Below w.heap.size w w' := by
  by_cases g1 : a < 1
  · have h : ¬ (1 ≤ a ∧ a ≤ 64) := by omega
    exact ielem_lo a r0 r1 r2 r3 n0 n1 h0 h1 _ _ 0 0 0 0 0 0 0 0 g1 (fun w => ival_any a r0 r1 r2 r3 w) (fun w => ival_ref a r0 r1 r2 r3 w) (fun w => icon_any a r0 r1 r2 r3 n0 h0 w) (fun w => icon_ref a r0 r1 r2 r3 n0 h0 w)
      (fun w => itop_no a h w) (fun w => itop_rlo a g1 w) (fun w => iof_no a n0 h w) (fun w => iof_rlo a n0 g1 w) w
  · by_cases g2 : 64 < a
    · have h : ¬ (1 ≤ a ∧ a ≤ 64) := by omega
      exact ielem_hi a r0 r1 r2 r3 n0 n1 h0 h1 _ _ 0 0 0 0 0 0 0 0 g1 g2 (fun w => ival_any a r0 r1 r2 r3 w) (fun w => ival_ref a r0 r1 r2 r3 w) (fun w => icon_any a r0 r1 r2 r3 n0 h0 w) (fun w => icon_ref a r0 r1 r2 r3 n0 h0 w)
        (fun w => itop_no a h w) (fun w => itop_rhi a g1 g2 w) (fun w => iof_no a n0 h w) (fun w => iof_rhi a n0 g1 g2 w) w
    · have k1 : 1 ≤ a := by omega
      have k2 : a ≤ 64 := by omega
      refine ielem_in a r0 r1 r2 r3 n0 n1 h0 h1 _ _ _ _ _ _ _ _ _ _ g1 g2 (maskN a) (fitN a n0) (fitN a n1) (sgn a n0) _ (fun w => ival_any a r0 r1 r2 r3 w) (fun w => ival_ref a r0 r1 r2 r3 w) (fun w => icon_any a r0 r1 r2 r3 n0 h0 w) (fun w => icon_ref a r0 r1 r2 r3 n0 h0 w)
        (fun w => itop_yes a k1 k2 w) (fun w => itop_ryes a k1 k2 w) (fun w => iof_yes a n0 h0 k1 k2 w) (fun w => iof_ryes a n0 h0 k1 k2 w)
        (fun w => same_of (rmask_i a k1 k2 w)) (and_mask a n0 h0) (and_mask a n1 h1) rfl
        (fun w => by have := iof_yes a (fitN a n0) (fitN_lt a n0) k1 k2 w; rwa [fitN_fitN, sgn_fit'] at this)
        (fun w => by have := ival_any a (fitN a n0 : Nat) (fitN a n0 : Nat) (sgn a n0) (sgn a n0) w; rwa [ival_one a n0 k1 k2] at this)
        (fun w => by have := ival_any a 0 (maskN a : Nat) (smin a) (smax a) w; rwa [ival_top a k1 k2] at this)
        (fun w => by have := icon_any a 0 (maskN a : Nat) (smin a) (smax a) (fitN a n0) (fitN_lt a n0) w; rwa [icon_top a n0 k1 k2] at this)
        (fun w => ?_) w
      have := icon_any a (fitN a n0 : Nat) (fitN a n0 : Nat) (sgn a n0) (sgn a n0) (fitN a n1) (fitN_lt a n1) w
      by_cases he : fitN a n0 = fitN a n1
      · rw [icon_one a n0 n1 k1 k2 he] at this
        rwa [show (((fitN a n0 : Nat) : Int) == ((fitN a n1 : Nat) : Int)) = true by rw [he]; exact beq_self_eq_true _]
      · rw [icon_other a n0 n1 he] at this
        rwa [show (((fitN a n0 : Nat) : Int) == ((fitN a n1 : Nat) : Int)) = false by rw [beq_eq_false_iff_ne]; omega]
end Go.Proofs.Ythkdojgagmaecab
