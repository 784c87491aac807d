/- InterpOperators. -/
import Derived.Test.YthkdojgagmaecabOpB
import Derived.Test.YthkdojgagmaecabOpenP
import Derived.Deep.RegionHeld3
namespace Go.Proofs.Ythkdojgagmaecab
open Go.RowKit

theorem below_drewO {B : Nat} {a w : World} (h : Below B a w) (n : Nat) : Below B a (w.drewN n) := h.trans ⟨rfl, rfl, rfl, Nat.le_refl _, fun _ _ => rfl⟩
/-- What a world of the law holds: the cells of t and x. -/
abbrev LatO (B : Nat) (w0 : World) (A1 A2 : Nat) (a b : Int) (s t : Bool) (n0 n1 : Nat) (w' : World) : Prop :=
  Below B w0 w' ∧ (A1 < w'.heap.size ∧ A2 < w'.heap.size) ∧ w'.cell? ⟨A1, 0, none⟩ = some (.int .i64 a) ∧ w'.cell? ⟨A1, 1, none⟩ = some (.bool s) ∧ w'.cell? ⟨A1, 2, none⟩ = some (.int .i64 b) ∧ w'.cell? ⟨A1, 3, none⟩ = some (.bool t) ∧ w'.cell? ⟨A2, 0, none⟩ = some (.int .u64 (n0 : Nat)) ∧ w'.cell? ⟨A2, 1, none⟩ = some (.int .u64 (n1 : Nat))
theorem LatO.go {B : Nat} {w0 : World} {A1 A2 : Nat} {a b : Int} {s t : Bool} {n0 n1 : Nat} {w1 w2 : World}
    (h : LatO B w0 A1 A2 a b s t n0 n1 w1) (hb : Below w1.heap.size w1 w2) (hB : B ≤ w0.heap.size) : LatO B w0 A1 A2 a b s t n0 n1 w2 := by
  obtain ⟨h0, ⟨s1, s2⟩, c0, c1, c2, c3, c4, c5⟩ := h
  have hz := hb.size
  have hc := (obcell hb).1
  have := h0.size
  refine ⟨h0.trans (hb.mono (by omega)), ⟨by omega, by omega⟩, ?_, ?_, ?_, ?_, ?_, ?_⟩
  all_goals (rw [hc _ _ (by assumption)]; assumption)
theorem latO_begin {w w1 : World} (a b : Int) (s t : Bool) (n0 n1 : Nat) (t1 t2 : TypeId)
    (hb : Below ((w.alloc (.cells #[.int .i64 a, .bool s, .int .i64 b, .bool t] t1)).alloc (.cells #[.int .u64 (n0 : Nat), .int .u64 (n1 : Nat)] t2)).heap.size ((w.alloc (.cells #[.int .i64 a, .bool s, .int .i64 b, .bool t] t1)).alloc (.cells #[.int .u64 (n0 : Nat), .int .u64 (n1 : Nat)] t2)) w1) :
    LatO w.heap.size w w.heap.size (w.heap.size + 1) a b s t n0 n1 w1 := by
  refine LatO.go (w1 := (w.alloc (.cells #[.int .i64 a, .bool s, .int .i64 b, .bool t] t1)).alloc (.cells #[.int .u64 (n0 : Nat), .int .u64 (n1 : Nat)] t2)) ?_ hb (Nat.le_refl _)
  refine ⟨((Below.refl _ w).alloc (Nat.le_refl _) _).alloc (by simp) _, ⟨by simp <;> omega, by simp <;> omega⟩, ?_, ?_, ?_, ?_, ?_, ?_⟩
  · simp
  · simp
  · simp
  · simp
  · exact World.cell?_alloc_at _ _ _ _ (by simp)
  · exact World.cell?_alloc_at _ _ _ _ (by simp)
theorem awake06 (w : World) :
    Calls Try.prog 41 #[] w fun e w' => e = .returned (.bool true) ∧ Below w.heap.size w w' := by
  have C1 := fun w => apply_any 1 4 false 9 8 (by decide) (by decide) w
  rw [show appN 1 4 false 9 8 = 1 by decide] at C1
  go_enter Try.func41, Try.ntmps41
  go_wp2_with fail
  refine (C1 _).mono ?_
  rintro e w1 ⟨rfl, hb1⟩
  go_wp2_with fail
  go_ret
  exact ⟨rfl, hb1⟩

set_option maxHeartbeats 1600000 in
theorem oplaw_any (op a b : Int) (s t : Bool) (n0 n1 : Nat) (h0 : n0 < 18446744073709551616) (h1 : n1 < 18446744073709551616) (w : World) :
    Calls Try.prog 8 #[.int .i64 op, .agg #[.int .i64 a, .bool s, .int .i64 b, .bool t], .agg #[.int .u64 (n0 : Nat), .int .u64 (n1 : Nat)]] w fun e w' => e = .returned (.bool true) ∧ Below w.heap.size w w' := by
  have hB : w.heap.size ≤ w.heap.size := Nat.le_refl _
  have CA := fun w => apply_any op a s n0 n1 h0 h1 w
  have CR := fun w => rapply_any op a s n0 n1 h0 h1 w
  have CC := fun w => convert_any a b s t n0 h0 w
  have CE := fun w => rext_any a b n0 h0 s w
  generalize appN op a s n0 n1 = R at CA CR
  generalize extN a b n0 s = E at CC CE
  clear h0 h1
  go_enter Try.func8, Try.ntmps8
  go_wp2_with fail
  refine (awake06 _).mono ?_
  rintro e w1 ⟨rfl, hb1⟩
  have hz1 : w.heap.size < w1.heap.size := by have := hb1.size; simp at this; omega
  have hz2 : w.heap.size + 1 < w1.heap.size := by have := hb1.size; simp at this; omega
  have L := latO_begin a b s t n0 n1 _ _ hb1
  have L' := L
  obtain ⟨_, _, c0, c1, c2, c3, c4, c5⟩ := L
  clear hb1
  go_wp2_with fail
  go_region_held3 (fun w' => Below w.heap.size w w' ∧ (w.heap.size < w'.heap.size ∧ w.heap.size + 1 < w'.heap.size) ∧ w'.cell? ⟨w.heap.size, 0, none⟩ = some (.int .i64 a) ∧ w'.cell? ⟨w.heap.size, 1, none⟩ = some (.bool s) ∧ w'.cell? ⟨w.heap.size, 2, none⟩ = some (.int .i64 b) ∧ w'.cell? ⟨w.heap.size, 3, none⟩ = some (.bool t) ∧ w'.cell? ⟨w.heap.size + 1, 0, none⟩ = some (.int .u64 (n0 : Nat)) ∧ w'.cell? ⟨w.heap.size + 1, 1, none⟩ = some (.int .u64 (n1 : Nat)))
    (first
      | exact LatO.go L' (below_drewO (Below.refl _ _) 1) hB
      | exact LatO.go (by assumption) (by assumption) hB
      | exact LatO.go (by assumption) (below_drewO (Below.refl _ _) 1) hB
      | go_keep)
    (first
      | (go_at_call 42; refine (CA _).mono ?_; rintro e wq ⟨rfl, hbq⟩)
      | (go_at_call 43; refine (CR _).mono ?_; rintro e wq ⟨rfl, hbq⟩)
      | (go_at_call 44; refine (CC _).mono ?_; rintro e wq ⟨rfl, hbq⟩)
      | (go_at_call 45; refine (CE _).mono ?_; rintro e wq ⟨rfl, hbq⟩))
  go_wp2_with fail
  have Z : LatO w.heap.size w w.heap.size (w.heap.size + 1) a b s t n0 n1 wq := by assumption
  go_ret
  exact ⟨by simp, Z.1⟩
end Go.Proofs.Ythkdojgagmaecab
