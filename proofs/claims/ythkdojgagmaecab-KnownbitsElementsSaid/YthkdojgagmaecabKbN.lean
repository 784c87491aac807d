/- KnownbitsElements. -/
import Derived.Test.YthkdojgagmaecabKbE
namespace Go.Proofs.Ythkdojgagmaecab
open Go.RowKit

theorem kel_lo_0 (a : Int) (z o n : W64) (bv bc : Bool) (g1 : a < 1)
    (CV : ∀ w, Calls Try.prog 10 #[.int .i64 a, .agg #[.int .u64 (nv z), .int .u64 (nv o)]] w fun e w' => e = .returned (.bool bv) ∧ Below w.heap.size w w')
    (DV : ∀ w, Calls Try.prog 11 #[.int .i64 a, .agg #[.int .u64 (nv z), .int .u64 (nv o)]] w fun e w' => e = .returned (.bool bv) ∧ Below w.heap.size w w')
    (CC : ∀ w, Calls Try.prog 12 #[.agg #[.int .u64 (nv z), .int .u64 (nv o)], .int .u64 (nv n)] w fun e w' => e = .returned (.bool bc) ∧ Below w.heap.size w w')
    (DC : ∀ w, Calls Try.prog 13 #[.agg #[.int .u64 (nv z), .int .u64 (nv o)], .int .u64 (nv n)] w fun e w' => e = .returned (.bool bc) ∧ Below w.heap.size w w')
    (CX : ∀ w, Calls Try.prog 14 #[.int .i64 a, .agg #[.int .u64 (nv z), .int .u64 (nv o)]] w fun e w' => e = .returned (.tuple #[.int .u64 0, .bool false]) ∧ Below w.heap.size w w')
    (DX : ∀ w, Calls Try.prog 15 #[.int .i64 a, .agg #[.int .u64 (nv z), .int .u64 (nv o)]] w fun e w' => e = .returned (.bool false) ∧ Below w.heap.size w w')
    (CO : ∀ w, Calls Try.prog 16 #[.int .i64 a, .int .u64 (nv n)] w fun e w' => e = .returned (.agg #[.int .u64 0, .int .u64 0]) ∧ Below w.heap.size w w')
    (w : World) :
    Calls Try.prog 3 #[.int .i64 a, .agg #[.int .u64 (nv z), .int .u64 (nv o)], .int .u64 (nv n)] w fun e w' => e = .returned (.bool true) ∧ Below w.heap.size w w' := by
  have hB : w.heap.size ≤ w.heap.size := Nat.le_refl _
  go_enter Try.func3, Try.ntmps3
  go_wp2_with fail
  refine (awake12 _).mono ?_
  rintro e w1 ⟨rfl, hb1⟩
  have L' := LatX.go (latX_begin w z o 24) hb1 hB
  have L := L'
  obtain ⟨_, _, c0, c1⟩ := L
  clear hb1
  go_wp2_with fail
  go_region_held3 (fun w' => Below w.heap.size w w' ∧ w.heap.size < w'.heap.size ∧ w'.cell? ⟨w.heap.size, 0, none⟩ = some (.int .u64 (nv z)) ∧ w'.cell? ⟨w.heap.size, 1, none⟩ = some (.int .u64 (nv o)))
    (first
      | exact LatX.go L' (below_drewN' (Below.refl _ _) 1) hB
      | exact LatX.go (by assumption) (by assumption) hB
      | exact LatX.go (by assumption) (below_drewN' (Below.refl _ _) 1) hB
      | go_keep)
    (first
      | (go_at_call 10; refine (CV _).mono ?_; rintro e wq ⟨rfl, hbq⟩)
      | (go_at_call 11; refine (DV _).mono ?_; rintro e wq ⟨rfl, hbq⟩)
      | (go_at_call 12; refine (CC _).mono ?_; rintro e wq ⟨rfl, hbq⟩)
      | (go_at_call 13; refine (DC _).mono ?_; rintro e wq ⟨rfl, hbq⟩))
  go_wp2_with fail
  have Z1 : LatX w.heap.size w w.heap.size z o wq := by assumption
  refine (CX _).mono ?_
  rintro e u1 ⟨rfl, hu1⟩
  have Z2 := LatX.go Z1 hu1 hB
  have Z2' := Z2
  obtain ⟨_, _, d0, d1⟩ := Z2'
  go_wp2_with fail
  refine (DX _).mono ?_
  rintro e u2 ⟨rfl, hu2⟩
  have Z3 := LatX.go Z2 hu2 hB
  have Z3' := Z3
  obtain ⟨_, _, e0, e1⟩ := Z3'
  go_wp2_with fail
  refine (CO _).mono ?_
  rintro e u3 ⟨rfl, hu3⟩
  go_wp2_with fail
  go_ret
  exact ⟨by simp, (LatX.go Z3 hu3 hB).1⟩
theorem kel_hi_0 (a : Int) (z o n : W64) (bv bc : Bool) (g0 : ¬ a < 1) (g1 : 64 < a)
    (CV : ∀ w, Calls Try.prog 10 #[.int .i64 a, .agg #[.int .u64 (nv z), .int .u64 (nv o)]] w fun e w' => e = .returned (.bool bv) ∧ Below w.heap.size w w')
    (DV : ∀ w, Calls Try.prog 11 #[.int .i64 a, .agg #[.int .u64 (nv z), .int .u64 (nv o)]] w fun e w' => e = .returned (.bool bv) ∧ Below w.heap.size w w')
    (CC : ∀ w, Calls Try.prog 12 #[.agg #[.int .u64 (nv z), .int .u64 (nv o)], .int .u64 (nv n)] w fun e w' => e = .returned (.bool bc) ∧ Below w.heap.size w w')
    (DC : ∀ w, Calls Try.prog 13 #[.agg #[.int .u64 (nv z), .int .u64 (nv o)], .int .u64 (nv n)] w fun e w' => e = .returned (.bool bc) ∧ Below w.heap.size w w')
    (CX : ∀ w, Calls Try.prog 14 #[.int .i64 a, .agg #[.int .u64 (nv z), .int .u64 (nv o)]] w fun e w' => e = .returned (.tuple #[.int .u64 0, .bool false]) ∧ Below w.heap.size w w')
    (DX : ∀ w, Calls Try.prog 15 #[.int .i64 a, .agg #[.int .u64 (nv z), .int .u64 (nv o)]] w fun e w' => e = .returned (.bool false) ∧ Below w.heap.size w w')
    (CO : ∀ w, Calls Try.prog 16 #[.int .i64 a, .int .u64 (nv n)] w fun e w' => e = .returned (.agg #[.int .u64 0, .int .u64 0]) ∧ Below w.heap.size w w')
    (w : World) :
    Calls Try.prog 3 #[.int .i64 a, .agg #[.int .u64 (nv z), .int .u64 (nv o)], .int .u64 (nv n)] w fun e w' => e = .returned (.bool true) ∧ Below w.heap.size w w' := by
  have hB : w.heap.size ≤ w.heap.size := Nat.le_refl _
  go_enter Try.func3, Try.ntmps3
  go_wp2_with fail
  refine (awake12 _).mono ?_
  rintro e w1 ⟨rfl, hb1⟩
  have L' := LatX.go (latX_begin w z o 24) hb1 hB
  have L := L'
  obtain ⟨_, _, c0, c1⟩ := L
  clear hb1
  go_wp2_with fail
  go_region_held3 (fun w' => Below w.heap.size w w' ∧ w.heap.size < w'.heap.size ∧ w'.cell? ⟨w.heap.size, 0, none⟩ = some (.int .u64 (nv z)) ∧ w'.cell? ⟨w.heap.size, 1, none⟩ = some (.int .u64 (nv o)))
    (first
      | exact LatX.go L' (below_drewN' (Below.refl _ _) 1) hB
      | exact LatX.go (by assumption) (by assumption) hB
      | exact LatX.go (by assumption) (below_drewN' (Below.refl _ _) 1) hB
      | go_keep)
    (first
      | (go_at_call 10; refine (CV _).mono ?_; rintro e wq ⟨rfl, hbq⟩)
      | (go_at_call 11; refine (DV _).mono ?_; rintro e wq ⟨rfl, hbq⟩)
      | (go_at_call 12; refine (CC _).mono ?_; rintro e wq ⟨rfl, hbq⟩)
      | (go_at_call 13; refine (DC _).mono ?_; rintro e wq ⟨rfl, hbq⟩))
  go_wp2_with fail
  have Z1 : LatX w.heap.size w w.heap.size z o wq := by assumption
  refine (CX _).mono ?_
  rintro e u1 ⟨rfl, hu1⟩
  have Z2 := LatX.go Z1 hu1 hB
  have Z2' := Z2
  obtain ⟨_, _, d0, d1⟩ := Z2'
  go_wp2_with fail
  refine (DX _).mono ?_
  rintro e u2 ⟨rfl, hu2⟩
  have Z3 := LatX.go Z2 hu2 hB
  have Z3' := Z3
  obtain ⟨_, _, e0, e1⟩ := Z3'
  go_wp2_with fail
  refine (CO _).mono ?_
  rintro e u3 ⟨rfl, hu3⟩
  go_wp2_with fail
  go_ret
  exact ⟨by simp, (LatX.go Z3 hu3 hB).1⟩
theorem kel_in_0 (a : Int) (z o n : W64) (bv bc : Bool) (g0 : ¬ a < 1) (g1 : ¬ 64 < a) (q0 q1 : Int)
    (CV : ∀ w, Calls Try.prog 10 #[.int .i64 a, .agg #[.int .u64 (nv z), .int .u64 (nv o)]] w fun e w' => e = .returned (.bool bv) ∧ Below w.heap.size w w')
    (DV : ∀ w, Calls Try.prog 11 #[.int .i64 a, .agg #[.int .u64 (nv z), .int .u64 (nv o)]] w fun e w' => e = .returned (.bool bv) ∧ Below w.heap.size w w')
    (CC : ∀ w, Calls Try.prog 12 #[.agg #[.int .u64 (nv z), .int .u64 (nv o)], .int .u64 (nv n)] w fun e w' => e = .returned (.bool bc) ∧ Below w.heap.size w w')
    (DC : ∀ w, Calls Try.prog 13 #[.agg #[.int .u64 (nv z), .int .u64 (nv o)], .int .u64 (nv n)] w fun e w' => e = .returned (.bool bc) ∧ Below w.heap.size w w')
    (CX : ∀ w, Calls Try.prog 14 #[.int .i64 a, .agg #[.int .u64 (nv z), .int .u64 (nv o)]] w fun e w' => e = .returned (.tuple #[.int .u64 0, .bool false]) ∧ Below w.heap.size w w')
    (DX : ∀ w, Calls Try.prog 15 #[.int .i64 a, .agg #[.int .u64 (nv z), .int .u64 (nv o)]] w fun e w' => e = .returned (.bool false) ∧ Below w.heap.size w w')
    (CO : ∀ w, Calls Try.prog 16 #[.int .i64 a, .int .u64 (nv n)] w fun e w' => e = .returned (.agg #[.int .u64 q0, .int .u64 q1]) ∧ Below w.heap.size w w')
    (DO : ∀ w, Calls Try.prog 17 #[.int .i64 a, .int .u64 (nv n)] w fun e w' => e = .returned (.agg #[.int .u64 q0, .int .u64 q1]) ∧ Below w.heap.size w w')
    (w : World) :
    Calls Try.prog 3 #[.int .i64 a, .agg #[.int .u64 (nv z), .int .u64 (nv o)], .int .u64 (nv n)] w fun e w' => e = .returned (.bool true) ∧ Below w.heap.size w w' := by
  have hB : w.heap.size ≤ w.heap.size := Nat.le_refl _
  go_enter Try.func3, Try.ntmps3
  go_wp2_with fail
  refine (awake12 _).mono ?_
  rintro e w1 ⟨rfl, hb1⟩
  have L' := LatX.go (latX_begin w z o 24) hb1 hB
  have L := L'
  obtain ⟨_, _, c0, c1⟩ := L
  clear hb1
  go_wp2_with fail
  go_region_held3 (fun w' => Below w.heap.size w w' ∧ w.heap.size < w'.heap.size ∧ w'.cell? ⟨w.heap.size, 0, none⟩ = some (.int .u64 (nv z)) ∧ w'.cell? ⟨w.heap.size, 1, none⟩ = some (.int .u64 (nv o)))
    (first
      | exact LatX.go L' (below_drewN' (Below.refl _ _) 1) hB
      | exact LatX.go (by assumption) (by assumption) hB
      | exact LatX.go (by assumption) (below_drewN' (Below.refl _ _) 1) hB
      | go_keep)
    (first
      | (go_at_call 10; refine (CV _).mono ?_; rintro e wq ⟨rfl, hbq⟩)
      | (go_at_call 11; refine (DV _).mono ?_; rintro e wq ⟨rfl, hbq⟩)
      | (go_at_call 12; refine (CC _).mono ?_; rintro e wq ⟨rfl, hbq⟩)
      | (go_at_call 13; refine (DC _).mono ?_; rintro e wq ⟨rfl, hbq⟩))
  go_wp2_with fail
  have Z1 : LatX w.heap.size w w.heap.size z o wq := by assumption
  refine (CX _).mono ?_
  rintro e u1 ⟨rfl, hu1⟩
  have Z2 := LatX.go Z1 hu1 hB
  have Z2' := Z2
  obtain ⟨_, _, d0, d1⟩ := Z2'
  go_wp2_with fail
  refine (DX _).mono ?_
  rintro e u2 ⟨rfl, hu2⟩
  have Z3 := LatX.go Z2 hu2 hB
  have Z3' := Z3
  obtain ⟨_, _, e0, e1⟩ := Z3'
  go_wp2_with fail
  refine (CO _).mono ?_
  rintro e u3 ⟨rfl, hu3⟩
  have Z4 := LatX.go Z3 hu3 hB
  go_wp2_with fail
  refine (DO _).mono ?_
  rintro e u4 ⟨rfl, hu4⟩
  go_wp2_with fail
  go_ret
  exact ⟨by simp, (LatX.go Z4 hu4 hB).1⟩
theorem kel_lo_1 (a : Int) (z o n : W64) (bv bc : Bool) (g1 : a < 1)
    (CV : ∀ w, Calls Try.prog 10 #[.int .i64 a, .agg #[.int .u64 (nv z), .int .u64 (nv o)]] w fun e w' => e = .returned (.bool bv) ∧ Below w.heap.size w w')
    (DV : ∀ w, Calls Try.prog 11 #[.int .i64 a, .agg #[.int .u64 (nv z), .int .u64 (nv o)]] w fun e w' => e = .returned (.bool bv) ∧ Below w.heap.size w w')
    (CC : ∀ w, Calls Try.prog 12 #[.agg #[.int .u64 (nv z), .int .u64 (nv o)], .int .u64 (nv n)] w fun e w' => e = .returned (.bool bc) ∧ Below w.heap.size w w')
    (DC : ∀ w, Calls Try.prog 13 #[.agg #[.int .u64 (nv z), .int .u64 (nv o)], .int .u64 (nv n)] w fun e w' => e = .returned (.bool bc) ∧ Below w.heap.size w w')
    (CX : ∀ w, Calls Try.prog 14 #[.int .i64 a, .agg #[.int .u64 (nv z), .int .u64 (nv o)]] w fun e w' => e = .returned (.tuple #[.int .u64 (nv o), .bool true]) ∧ Below w.heap.size w w')
    (DX : ∀ w, Calls Try.prog 15 #[.int .i64 a, .agg #[.int .u64 (nv z), .int .u64 (nv o)]] w fun e w' => e = .returned (.bool true) ∧ Below w.heap.size w w')
    (CO : ∀ w, Calls Try.prog 16 #[.int .i64 a, .int .u64 (nv n)] w fun e w' => e = .returned (.agg #[.int .u64 0, .int .u64 0]) ∧ Below w.heap.size w w')
    (w : World) :
    Calls Try.prog 3 #[.int .i64 a, .agg #[.int .u64 (nv z), .int .u64 (nv o)], .int .u64 (nv n)] w fun e w' => e = .returned (.bool true) ∧ Below w.heap.size w w' := by
  have hB : w.heap.size ≤ w.heap.size := Nat.le_refl _
  go_enter Try.func3, Try.ntmps3
  go_wp2_with fail
  refine (awake12 _).mono ?_
  rintro e w1 ⟨rfl, hb1⟩
  have L' := LatX.go (latX_begin w z o 24) hb1 hB
  have L := L'
  obtain ⟨_, _, c0, c1⟩ := L
  clear hb1
  go_wp2_with fail
  go_region_held3 (fun w' => Below w.heap.size w w' ∧ w.heap.size < w'.heap.size ∧ w'.cell? ⟨w.heap.size, 0, none⟩ = some (.int .u64 (nv z)) ∧ w'.cell? ⟨w.heap.size, 1, none⟩ = some (.int .u64 (nv o)))
    (first
      | exact LatX.go L' (below_drewN' (Below.refl _ _) 1) hB
      | exact LatX.go (by assumption) (by assumption) hB
      | exact LatX.go (by assumption) (below_drewN' (Below.refl _ _) 1) hB
      | go_keep)
    (first
      | (go_at_call 10; refine (CV _).mono ?_; rintro e wq ⟨rfl, hbq⟩)
      | (go_at_call 11; refine (DV _).mono ?_; rintro e wq ⟨rfl, hbq⟩)
      | (go_at_call 12; refine (CC _).mono ?_; rintro e wq ⟨rfl, hbq⟩)
      | (go_at_call 13; refine (DC _).mono ?_; rintro e wq ⟨rfl, hbq⟩))
  go_wp2_with fail
  have Z1 : LatX w.heap.size w w.heap.size z o wq := by assumption
  refine (CX _).mono ?_
  rintro e u1 ⟨rfl, hu1⟩
  have Z2 := LatX.go Z1 hu1 hB
  have Z2' := Z2
  obtain ⟨_, _, d0, d1⟩ := Z2'
  go_wp2_with fail
  refine (DX _).mono ?_
  rintro e u2 ⟨rfl, hu2⟩
  have Z3 := LatX.go Z2 hu2 hB
  have Z3' := Z3
  obtain ⟨_, _, e0, e1⟩ := Z3'
  go_wp2_with fail
  refine (CO _).mono ?_
  rintro e u3 ⟨rfl, hu3⟩
  go_wp2_with fail
  go_ret
  exact ⟨by simp, (LatX.go Z3 hu3 hB).1⟩
theorem kel_hi_1 (a : Int) (z o n : W64) (bv bc : Bool) (g0 : ¬ a < 1) (g1 : 64 < a)
    (CV : ∀ w, Calls Try.prog 10 #[.int .i64 a, .agg #[.int .u64 (nv z), .int .u64 (nv o)]] w fun e w' => e = .returned (.bool bv) ∧ Below w.heap.size w w')
    (DV : ∀ w, Calls Try.prog 11 #[.int .i64 a, .agg #[.int .u64 (nv z), .int .u64 (nv o)]] w fun e w' => e = .returned (.bool bv) ∧ Below w.heap.size w w')
    (CC : ∀ w, Calls Try.prog 12 #[.agg #[.int .u64 (nv z), .int .u64 (nv o)], .int .u64 (nv n)] w fun e w' => e = .returned (.bool bc) ∧ Below w.heap.size w w')
    (DC : ∀ w, Calls Try.prog 13 #[.agg #[.int .u64 (nv z), .int .u64 (nv o)], .int .u64 (nv n)] w fun e w' => e = .returned (.bool bc) ∧ Below w.heap.size w w')
    (CX : ∀ w, Calls Try.prog 14 #[.int .i64 a, .agg #[.int .u64 (nv z), .int .u64 (nv o)]] w fun e w' => e = .returned (.tuple #[.int .u64 (nv o), .bool true]) ∧ Below w.heap.size w w')
    (DX : ∀ w, Calls Try.prog 15 #[.int .i64 a, .agg #[.int .u64 (nv z), .int .u64 (nv o)]] w fun e w' => e = .returned (.bool true) ∧ Below w.heap.size w w')
    (CO : ∀ w, Calls Try.prog 16 #[.int .i64 a, .int .u64 (nv n)] w fun e w' => e = .returned (.agg #[.int .u64 0, .int .u64 0]) ∧ Below w.heap.size w w')
    (w : World) :
    Calls Try.prog 3 #[.int .i64 a, .agg #[.int .u64 (nv z), .int .u64 (nv o)], .int .u64 (nv n)] w fun e w' => e = .returned (.bool true) ∧ Below w.heap.size w w' := by
  have hB : w.heap.size ≤ w.heap.size := Nat.le_refl _
  go_enter Try.func3, Try.ntmps3
  go_wp2_with fail
  refine (awake12 _).mono ?_
  rintro e w1 ⟨rfl, hb1⟩
  have L' := LatX.go (latX_begin w z o 24) hb1 hB
  have L := L'
  obtain ⟨_, _, c0, c1⟩ := L
  clear hb1
  go_wp2_with fail
  go_region_held3 (fun w' => Below w.heap.size w w' ∧ w.heap.size < w'.heap.size ∧ w'.cell? ⟨w.heap.size, 0, none⟩ = some (.int .u64 (nv z)) ∧ w'.cell? ⟨w.heap.size, 1, none⟩ = some (.int .u64 (nv o)))
    (first
      | exact LatX.go L' (below_drewN' (Below.refl _ _) 1) hB
      | exact LatX.go (by assumption) (by assumption) hB
      | exact LatX.go (by assumption) (below_drewN' (Below.refl _ _) 1) hB
      | go_keep)
    (first
      | (go_at_call 10; refine (CV _).mono ?_; rintro e wq ⟨rfl, hbq⟩)
      | (go_at_call 11; refine (DV _).mono ?_; rintro e wq ⟨rfl, hbq⟩)
      | (go_at_call 12; refine (CC _).mono ?_; rintro e wq ⟨rfl, hbq⟩)
      | (go_at_call 13; refine (DC _).mono ?_; rintro e wq ⟨rfl, hbq⟩))
  go_wp2_with fail
  have Z1 : LatX w.heap.size w w.heap.size z o wq := by assumption
  refine (CX _).mono ?_
  rintro e u1 ⟨rfl, hu1⟩
  have Z2 := LatX.go Z1 hu1 hB
  have Z2' := Z2
  obtain ⟨_, _, d0, d1⟩ := Z2'
  go_wp2_with fail
  refine (DX _).mono ?_
  rintro e u2 ⟨rfl, hu2⟩
  have Z3 := LatX.go Z2 hu2 hB
  have Z3' := Z3
  obtain ⟨_, _, e0, e1⟩ := Z3'
  go_wp2_with fail
  refine (CO _).mono ?_
  rintro e u3 ⟨rfl, hu3⟩
  go_wp2_with fail
  go_ret
  exact ⟨by simp, (LatX.go Z3 hu3 hB).1⟩
theorem kel_in_1 (a : Int) (z o n : W64) (bv bc : Bool) (g0 : ¬ a < 1) (g1 : ¬ 64 < a) (q0 q1 : Int)
    (CV : ∀ w, Calls Try.prog 10 #[.int .i64 a, .agg #[.int .u64 (nv z), .int .u64 (nv o)]] w fun e w' => e = .returned (.bool bv) ∧ Below w.heap.size w w')
    (DV : ∀ w, Calls Try.prog 11 #[.int .i64 a, .agg #[.int .u64 (nv z), .int .u64 (nv o)]] w fun e w' => e = .returned (.bool bv) ∧ Below w.heap.size w w')
    (CC : ∀ w, Calls Try.prog 12 #[.agg #[.int .u64 (nv z), .int .u64 (nv o)], .int .u64 (nv n)] w fun e w' => e = .returned (.bool bc) ∧ Below w.heap.size w w')
    (DC : ∀ w, Calls Try.prog 13 #[.agg #[.int .u64 (nv z), .int .u64 (nv o)], .int .u64 (nv n)] w fun e w' => e = .returned (.bool bc) ∧ Below w.heap.size w w')
    (CX : ∀ w, Calls Try.prog 14 #[.int .i64 a, .agg #[.int .u64 (nv z), .int .u64 (nv o)]] w fun e w' => e = .returned (.tuple #[.int .u64 (nv o), .bool true]) ∧ Below w.heap.size w w')
    (DX : ∀ w, Calls Try.prog 15 #[.int .i64 a, .agg #[.int .u64 (nv z), .int .u64 (nv o)]] w fun e w' => e = .returned (.bool true) ∧ Below w.heap.size w w')
    (CO : ∀ w, Calls Try.prog 16 #[.int .i64 a, .int .u64 (nv n)] w fun e w' => e = .returned (.agg #[.int .u64 q0, .int .u64 q1]) ∧ Below w.heap.size w w')
    (DO : ∀ w, Calls Try.prog 17 #[.int .i64 a, .int .u64 (nv n)] w fun e w' => e = .returned (.agg #[.int .u64 q0, .int .u64 q1]) ∧ Below w.heap.size w w')
    (w : World) :
    Calls Try.prog 3 #[.int .i64 a, .agg #[.int .u64 (nv z), .int .u64 (nv o)], .int .u64 (nv n)] w fun e w' => e = .returned (.bool true) ∧ Below w.heap.size w w' := by
  have hB : w.heap.size ≤ w.heap.size := Nat.le_refl _
  go_enter Try.func3, Try.ntmps3
  go_wp2_with fail
  refine (awake12 _).mono ?_
  rintro e w1 ⟨rfl, hb1⟩
  have L' := LatX.go (latX_begin w z o 24) hb1 hB
  have L := L'
  obtain ⟨_, _, c0, c1⟩ := L
  clear hb1
  go_wp2_with fail
  go_region_held3 (fun w' => Below w.heap.size w w' ∧ w.heap.size < w'.heap.size ∧ w'.cell? ⟨w.heap.size, 0, none⟩ = some (.int .u64 (nv z)) ∧ w'.cell? ⟨w.heap.size, 1, none⟩ = some (.int .u64 (nv o)))
    (first
      | exact LatX.go L' (below_drewN' (Below.refl _ _) 1) hB
      | exact LatX.go (by assumption) (by assumption) hB
      | exact LatX.go (by assumption) (below_drewN' (Below.refl _ _) 1) hB
      | go_keep)
    (first
      | (go_at_call 10; refine (CV _).mono ?_; rintro e wq ⟨rfl, hbq⟩)
      | (go_at_call 11; refine (DV _).mono ?_; rintro e wq ⟨rfl, hbq⟩)
      | (go_at_call 12; refine (CC _).mono ?_; rintro e wq ⟨rfl, hbq⟩)
      | (go_at_call 13; refine (DC _).mono ?_; rintro e wq ⟨rfl, hbq⟩))
  go_wp2_with fail
  have Z1 : LatX w.heap.size w w.heap.size z o wq := by assumption
  refine (CX _).mono ?_
  rintro e u1 ⟨rfl, hu1⟩
  have Z2 := LatX.go Z1 hu1 hB
  have Z2' := Z2
  obtain ⟨_, _, d0, d1⟩ := Z2'
  go_wp2_with fail
  refine (DX _).mono ?_
  rintro e u2 ⟨rfl, hu2⟩
  have Z3 := LatX.go Z2 hu2 hB
  have Z3' := Z3
  obtain ⟨_, _, e0, e1⟩ := Z3'
  go_wp2_with fail
  refine (CO _).mono ?_
  rintro e u3 ⟨rfl, hu3⟩
  have Z4 := LatX.go Z3 hu3 hB
  go_wp2_with fail
  refine (DO _).mono ?_
  rintro e u4 ⟨rfl, hu4⟩
  go_wp2_with fail
  go_ret
  exact ⟨by simp, (LatX.go Z4 hu4 hB).1⟩
theorem kel_any (a : Int) (z o n : W64) (w : World) :
    Calls Try.prog 3 #[.int .i64 a, .agg #[.int .u64 (nv z), .int .u64 (nv o)], .int .u64 (nv n)] w fun e w' => e = .returned (.bool true) ∧ Below w.heap.size w w' := by
  have CX := fun w => kex_any a z o w
  have DX := fun w => kex_ref a z o w
  have hn : n.toNat < 18446744073709551616 := lt64 n
  cases hx : kexB a z o
  · rw [show kexN a z o = 0 by simp only [kexN, hx, cond_true, cond_false], hx] at CX
    rw [hx] at DX
    by_cases g1 : a < 1
    · exact kel_lo_0 a z o n _ _ g1 (fun w => kval_any a z o w) (fun w => kval_ref a z o w) (fun w => kcon_any z o n w) (fun w => kcon_ref z o n w) CX DX (fun w => kof_lo a n.toNat g1 w) w
    · by_cases g2 : 64 < a
      · exact kel_hi_0 a z o n _ _ g1 g2 (fun w => kval_any a z o w) (fun w => kval_ref a z o w) (fun w => kcon_any z o n w) (fun w => kcon_ref z o n w) CX DX (fun w => kof_hi a n.toNat g1 g2 w) w
      · exact kel_in_0 a z o n _ _ g1 g2 _ _ (fun w => kval_any a z o w) (fun w => kval_ref a z o w) (fun w => kcon_any z o n w) (fun w => kcon_ref z o n w) CX DX (fun w => kof_yes a n.toNat _ _ hn g1 g2 (Lib.hid rfl) (Lib.hid rfl) w) (fun w => kof_ryes a n.toNat _ _ hn g1 g2 (Lib.hid rfl) (Lib.hid rfl) w) w
  · rw [show kexN a z o = nv o by simp only [kexN, hx, cond_true, cond_false], hx] at CX
    rw [hx] at DX
    by_cases g1 : a < 1
    · exact kel_lo_1 a z o n _ _ g1 (fun w => kval_any a z o w) (fun w => kval_ref a z o w) (fun w => kcon_any z o n w) (fun w => kcon_ref z o n w) CX DX (fun w => kof_lo a n.toNat g1 w) w
    · by_cases g2 : 64 < a
      · exact kel_hi_1 a z o n _ _ g1 g2 (fun w => kval_any a z o w) (fun w => kval_ref a z o w) (fun w => kcon_any z o n w) (fun w => kcon_ref z o n w) CX DX (fun w => kof_hi a n.toNat g1 g2 w) w
      · exact kel_in_1 a z o n _ _ g1 g2 _ _ (fun w => kval_any a z o w) (fun w => kval_ref a z o w) (fun w => kcon_any z o n w) (fun w => kcon_ref z o n w) CX DX (fun w => kof_yes a n.toNat _ _ hn g1 g2 (Lib.hid rfl) (Lib.hid rfl) w) (fun w => kof_ryes a n.toNat _ _ hn g1 g2 (Lib.hid rfl) (Lib.hid rfl) w) w
end Go.Proofs.Ythkdojgagmaecab
