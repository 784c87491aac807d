/- LibraryReserves. -/
import Derived.Test.YtliochikjbalhaaSz
import Derived.Deep.RegionHeld3
set_option linter.unusedVariables false
set_option linter.unusedSimpArgs false
namespace Go.Proofs.Ytliochikjbalhaa
open Go Go.RowKit

abbrev LatR (B : Nat) (w0 : World) (A : Nat) (v0 v1 v2 v3 v4 v5 : Value) (w' : World) : Prop :=
  Below B w0 w' ∧ A < w'.heap.size ∧ w'.cell? ⟨A, 0, none⟩ = some v0 ∧ w'.cell? ⟨A, 1, none⟩ = some v1 ∧ w'.cell? ⟨A, 2, none⟩ = some v2 ∧ w'.cell? ⟨A, 3, none⟩ = some v3 ∧ w'.cell? ⟨A, 4, none⟩ = some v4 ∧ w'.cell? ⟨A, 5, none⟩ = some v5
theorem LatR.go {B : Nat} {w0 : World} {A : Nat} {v0 v1 v2 v3 v4 v5 : Value} {w1 w2 : World} (h : LatR B w0 A v0 v1 v2 v3 v4 v5 w1) (hb : Below w1.heap.size w1 w2) (hB : B ≤ w0.heap.size) : LatR B w0 A v0 v1 v2 v3 v4 v5 w2 := by
  obtain ⟨h0, s1, c0, c1, c2, c3, c4, c5⟩ := h
  have hz := hb.size
  have hc := (bcell hb).1
  have := h0.size
  refine ⟨h0.trans (hb.mono (by omega)), by omega, ?_, ?_, ?_, ?_, ?_, ?_⟩
  all_goals (rw [hc _ _ (by assumption)]; assumption)
theorem latR_begin (w : World) (v0 v1 v2 v3 v4 v5 : Value) (t : TypeId) : LatR w.heap.size w w.heap.size v0 v1 v2 v3 v4 v5 (w.alloc (.cells #[v0, v1, v2, v3, v4, v5] t)) :=
  ⟨(Below.refl _ w).alloc (Nat.le_refl _) _, by simp, World.cell?_alloc_at _ _ _ _ rfl, World.cell?_alloc_at _ _ _ _ rfl, World.cell?_alloc_at _ _ _ _ rfl, World.cell?_alloc_at _ _ _ _ rfl, World.cell?_alloc_at _ _ _ _ rfl, World.cell?_alloc_at _ _ _ _ rfl⟩
theorem below_drewR {B : Nat} {a w : World} (h : Below B a w) (n : Nat) : Below B a (w.drewN n) := ⟨h.os, h.tape, h.output, h.size, h.block⟩

theorem rs_out (v0 v1 v2 v3 v4 : Value) (A : Option Addr) (n c : Nat) (x : Int) (hn : 50 < n) (w : World) :
    Calls Try.prog 3 #[.agg #[v0, v1, v2, v3, v4, .slice A n c], .int .i64 x] w fun e w' => e = .returned (.bool true) ∧ Below w.heap.size w w' := by
  have hB : w.heap.size ≤ w.heap.size := Nat.le_refl _
  go_enter Try.func3, Try.ntmps3
  go_wp2_with fail
  refine (awake27 _).mono ?_
  rintro e w1 ⟨rfl, hb1⟩
  have L := LatR.go (latR_begin w v0 v1 v2 v3 v4 (.slice A n c) 27) hb1 hB
  have L' := L
  obtain ⟨_, _, c0, c1, c2, c3, c4, c5⟩ := L
  clear hb1
  go_wp2_with fail
  refine (awake27 _).mono ?_
  rintro e w2 ⟨rfl, hb2⟩
  go_wp2_with fail
  go_ret
  exact ⟨rfl, (LatR.go L' hb2 hB).1⟩
set_option maxHeartbeats 1600000 in
theorem rs_in (v0 v1 v2 v3 v4 : Value) (A : Option Addr) (n c : Nat) (p i t : Nat → Nat) (x : Int) (hn : n ≤ 50) (w : World) (h : Blks w w.heap.size A n p i t) :
    Calls Try.prog 3 #[.agg #[v0, v1, v2, v3, v4, .slice A n c], .int .i64 x] w fun e w' => e = .returned (.bool true) ∧ Below w.heap.size w w' := by
  have hB : w.heap.size ≤ w.heap.size := Nat.le_refl _
  have CS : ∀ wx, LatR w.heap.size w w.heap.size v0 v1 v2 v3 v4 (.slice A n c) wx → Calls Try.prog 12 #[.agg #[v0, v1, v2, v3, v4, .slice A n c]] wx fun e w' => e = .returned (.int .i64 (szF p i t n)) ∧ Below wx.heap.size wx w' :=
    fun wx L => size_any v0 v1 v2 v3 v4 A n c p i t hn wx ((h.below L.1).more L.1.size)
  have DS : ∀ wx, LatR w.heap.size w w.heap.size v0 v1 v2 v3 v4 (.slice A n c) wx → Calls Try.prog 13 #[.agg #[v0, v1, v2, v3, v4, .slice A n c]] wx fun e w' => e = .returned (.int .i64 (szF p i t n)) ∧ Below wx.heap.size wx w' :=
    fun wx L => refsize_any v0 v1 v2 v3 v4 A n c p i t hn wx ((h.below L.1).more L.1.size)
  have CL : ∀ y wx, Calls Try.prog 8 #[.int .i64 y] wx fun e w' => e = .returned (.int .i64 (lev y : Nat)) ∧ wx = w' := levels_any
  have DL : ∀ y wx, Calls Try.prog 9 #[.int .i64 y] wx fun e w' => e = .returned (.int .i64 (lev y : Nat)) ∧ wx = w' := levels_ref
  have CR : ∀ y wx, Calls Try.prog 10 #[.int .i64 y] wx fun e w' => e = .returned (.agg #[.int .i64 30, .int .i64 (300 + 20 * (lev y : Nat)), .int .i64 (320 + 40 * (lev y : Nat))]) ∧ Below wx.heap.size wx w' := reserve_any
  have DR : ∀ y wx, Calls Try.prog 11 #[.int .i64 y] wx fun e w' => e = .returned (.agg #[.int .i64 30, .int .i64 (300 + 20 * (lev y : Nat)), .int .i64 (320 + 40 * (lev y : Nat))]) ∧ Below wx.heap.size wx w' := refreserve_any
  clear h
  generalize szF p i t n = S at *
  go_enter Try.func3, Try.ntmps3
  go_wp2_with fail
  refine (awake27 _).mono ?_
  rintro e w1 ⟨rfl, hb1⟩
  have L := LatR.go (latR_begin w v0 v1 v2 v3 v4 (.slice A n c) 27) hb1 hB
  have L' := L
  obtain ⟨_, _, c0, c1, c2, c3, c4, c5⟩ := L
  clear hb1
  go_wp2_with fail
  all_goals
    go_region_held3 (fun w' => LatR w.heap.size w w.heap.size v0 v1 v2 v3 v4 (.slice A n c) w')
      (first
        | exact LatR.go L' (below_drewR (Below.refl _ _) 1) hB
        | exact LatR.go (by assumption) (by assumption) hB
        | exact LatR.go (by assumption) (below_drewR (Below.refl _ _) 1) hB
        | go_keep)
      (first
        | (go_at_call 8; refine (CL _ _).mono ?_; rintro e wq ⟨rfl, rfl⟩)
        | (go_at_call 9; refine (DL _ _).mono ?_; rintro e wq ⟨rfl, rfl⟩)
        | (go_at_call 10; refine (CR _ _).mono ?_; rintro e wq ⟨rfl, hbq⟩)
        | (go_at_call 11; refine (DR _ _).mono ?_; rintro e wq ⟨rfl, hbq⟩)
        | (go_at_call 12; refine (CS _ (by assumption)).mono ?_; rintro e wq ⟨rfl, hbq⟩)
        | (go_at_call 13; refine (DS _ (by assumption)).mono ?_; rintro e wq ⟨rfl, hbq⟩))
    go_wp2_with fail
    have Z : LatR w.heap.size w w.heap.size v0 v1 v2 v3 v4 (.slice A n c) wq := by assumption
    go_ret
    exact ⟨rfl, Z.1⟩
theorem rs_any (v0 v1 v2 v3 v4 : Value) (A : Option Addr) (n c : Nat) (p i t : Nat → Nat) (x : Int) (w : World) (h : Blks w w.heap.size A n p i t) :
    Calls Try.prog 3 #[.agg #[v0, v1, v2, v3, v4, .slice A n c], .int .i64 x] w fun e w' => e = .returned (.bool true) ∧ Below w.heap.size w w' := by
  by_cases hn : n ≤ 50
  · exact rs_in v0 v1 v2 v3 v4 A n c p i t x hn w h
  · exact rs_out v0 v1 v2 v3 v4 A n c x (by omega) w
end Go.Proofs.Ytliochikjbalhaa
