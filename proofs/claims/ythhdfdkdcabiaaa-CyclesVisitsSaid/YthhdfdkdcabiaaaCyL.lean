/- CyclesVisits. -/
import Derived.Test.YthhdfdkdcabiaaaCyA
import Derived.Test.YthhdfdkdcabiaaaOpenS
set_option linter.unusedVariables false
set_option linter.unusedSimpArgs false
namespace Go.Proofs.Ythhdfdkdcabiaaa
open Go.RowKit

abbrev LatS (B : Nat) (w0 : World) (A : Nat) (ii dep : Int) (v2 v3 v4 : Value) (w' : World) : Prop :=
  Below B w0 w' ∧ A < w'.heap.size ∧ w'.cell? ⟨A, 0, none⟩ = some (.int .i64 ii) ∧ w'.cell? ⟨A, 1, none⟩ = some (.int .i64 dep) ∧ w'.cell? ⟨A, 2, none⟩ = some (v2) ∧ w'.cell? ⟨A, 3, none⟩ = some (v3) ∧ w'.cell? ⟨A, 4, none⟩ = some (v4)
theorem LatS.go {B : Nat} {w0 : World} {A : Nat} {ii dep : Int} {v2 v3 v4 : Value} {w1 w2 : World} (h : LatS B w0 A ii dep v2 v3 v4 w1) (hb : Below w1.heap.size w1 w2) (hB : B ≤ w0.heap.size) : LatS B w0 A ii dep v2 v3 v4 w2 := by
  obtain ⟨h0, s1, c0, c1, c2, c3, c4⟩ := h
  have hz := hb.size
  have hc := (ybcell hb).1
  have := h0.size
  refine ⟨h0.trans (hb.mono (by omega)), by omega, ?_, ?_, ?_, ?_, ?_⟩
  all_goals (rw [hc _ _ (by assumption)]; assumption)
theorem latS_begin (w : World) (ii dep : Int) (v2 v3 v4 : Value) (t : TypeId) : LatS w.heap.size w w.heap.size ii dep v2 v3 v4 (w.alloc (.cells #[.int .i64 ii, .int .i64 dep, v2, v3, v4] t)) :=
  ⟨(Below.refl _ w).alloc (Nat.le_refl _) _, by simp, World.cell?_alloc_at _ _ _ _ rfl, World.cell?_alloc_at _ _ _ _ rfl, World.cell?_alloc_at _ _ _ _ rfl, World.cell?_alloc_at _ _ _ _ rfl, World.cell?_alloc_at _ _ _ _ rfl⟩
theorem cyl_out (ii dep n : Int) (v2 v3 v4 : Value) (h : dep < 1 ∨ 5000 < dep ∨ 5000 < ii) (w : World) :
    Calls Try.prog 3 #[.agg #[.int .i64 ii, .int .i64 dep, v2, v3, v4], .int .i16 n] w fun e w' => e = .returned (.bool true) ∧ Below w.heap.size w w' := by
  by_cases h1 : dep < 1
  · clear h
    have hB : w.heap.size ≤ w.heap.size := Nat.le_refl _
    go_enter Try.func3, Try.ntmps3
    go_wp2_with fail
    refine (awake36 _).mono ?_
    rintro e w1 ⟨rfl, hb1⟩
    have L := LatS.go (latS_begin w ii dep v2 v3 v4 24) hb1 hB
    have L' := L
    obtain ⟨_, _, c0, c1, c2, c3, c4⟩ := L
    clear hb1
    go_wp2_with fail
    refine (awake36 _).mono ?_
    rintro e w2 ⟨rfl, hb2⟩
    go_wp2_with fail
    go_ret
    exact ⟨rfl, (LatS.go L' hb2 hB).1⟩
  · by_cases h2 : 5000 < dep
    · clear h
      have hB : w.heap.size ≤ w.heap.size := Nat.le_refl _
      go_enter Try.func3, Try.ntmps3
      go_wp2_with fail
      refine (awake36 _).mono ?_
      rintro e w1 ⟨rfl, hb1⟩
      have L := LatS.go (latS_begin w ii dep v2 v3 v4 24) hb1 hB
      have L' := L
      obtain ⟨_, _, c0, c1, c2, c3, c4⟩ := L
      clear hb1
      go_wp2_with fail
      refine (awake36 _).mono ?_
      rintro e w2 ⟨rfl, hb2⟩
      go_wp2_with fail
      go_ret
      exact ⟨rfl, (LatS.go L' hb2 hB).1⟩
    · have h3 : 5000 < ii := by omega
      clear h
      have hB : w.heap.size ≤ w.heap.size := Nat.le_refl _
      go_enter Try.func3, Try.ntmps3
      go_wp2_with fail
      refine (awake36 _).mono ?_
      rintro e w1 ⟨rfl, hb1⟩
      have L := LatS.go (latS_begin w ii dep v2 v3 v4 24) hb1 hB
      have L' := L
      obtain ⟨_, _, c0, c1, c2, c3, c4⟩ := L
      clear hb1
      go_wp2_with fail
      refine (awake36 _).mono ?_
      rintro e w2 ⟨rfl, hb2⟩
      go_wp2_with fail
      go_ret
      exact ⟨rfl, (LatS.go L' hb2 hB).1⟩
theorem cyl_low (ii dep n : Int) (v2 v3 v4 : Value) (g1 : ¬ dep < 1) (g2 : ¬ 5000 < dep) (g3 : ¬ 5000 < ii) (K : Int) (hK : n.tmod 1000 = K) (hb : -32768 ≤ n ∧ n ≤ 32767) (hK1 : K < 1)
    (C1 : ∀ w, Calls Try.prog 6 #[.agg #[.int .i64 ii, .int .i64 dep, v2, v3, v4], .int .i64 1] w fun e w' => e = .returned (.int .i64 dep) ∧ Below w.heap.size w w')
    (C2 : ∀ w, Calls Try.prog 6 #[.agg #[.int .i64 ii, .int .i64 dep, v2, v3, v4], .int .i64 K] w fun e w' => e = .returned (.int .i64 0) ∧ Below w.heap.size w w')
    (w : World) :
    Calls Try.prog 3 #[.agg #[.int .i64 ii, .int .i64 dep, v2, v3, v4], .int .i16 n] w fun e w' => e = .returned (.bool true) ∧ Below w.heap.size w w' := by
  have hB : w.heap.size ≤ w.heap.size := Nat.le_refl _
  go_enter Try.func3, Try.ntmps3
  go_wp2_with fail
  refine (awake36 _).mono ?_
  rintro e w1 ⟨rfl, hb1⟩
  have L := LatS.go (latS_begin w ii dep v2 v3 v4 24) hb1 hB
  have L' := L
  obtain ⟨_, _, c0, c1, c2, c3, c4⟩ := L
  clear hb1
  go_wp2_with fail
  refine (C1 _).mono ?_
  rintro e u1 ⟨rfl, hu1⟩
  have M1 := LatS.go L' hu1 hB
  have M1' := M1
  obtain ⟨_, _, d0, d1, d2, d3, d4⟩ := M1'
  clear hu1 c0 c1 c2 c3 c4
  go_wp2_with fail
  refine (C2 _).mono ?_
  rintro e u2 ⟨rfl, hu2⟩
  have M2 := LatS.go M1 hu2 hB
  have M2' := M2
  obtain ⟨_, _, e0, e1, e2, e3, e4⟩ := M2'
  go_wp2_with fail
  go_ret
  exact ⟨rfl, M2.1⟩
set_option maxHeartbeats 1600000 in
theorem cyl_pos (ii dep n : Int) (v2 v3 v4 : Value) (g1 : ¬ dep < 1) (g2 : ¬ 5000 < dep) (g3 : ¬ 5000 < ii) (K : Int) (hK : n.tmod 1000 = K) (hb : -32768 ≤ n ∧ n ≤ 32767) (hK1 : ¬ K < 1) (hK2 : K ≤ 999) (hi : 0 < ii) (P PQ PR q Y : Int)
    (hP : (K - 1) * ii = P) (hPb : -5000000 ≤ P ∧ P ≤ 5000000) (hPQ : q * ii = PQ) (hPQb : -50000000 ≤ PQ ∧ PQ ≤ 50000000) (hPR : (q - 1) * ii = PR) (hPRb : -50000000 ≤ PR ∧ PR ≤ 50000000) (hq : 0 ≤ q ∧ q ≤ 6000) (k1 : dep ≤ PQ) (k2 : PR < dep)
    (hX : visN ii dep K = dep + P) (hY : visN ii dep (K + 1) = Y) (hYb : -50000000 ≤ Y ∧ Y ≤ 50000000) (hYX : Y - (dep + P) = ii)
    (C1 : ∀ w, Calls Try.prog 6 #[.agg #[.int .i64 ii, .int .i64 dep, v2, v3, v4], .int .i64 1] w fun e w' => e = .returned (.int .i64 dep) ∧ Below w.heap.size w w')
    (VV : ∀ m (_ : m = K ∨ m = K + 1) w, Calls Try.prog 6 #[.agg #[.int .i64 ii, .int .i64 dep, v2, v3, v4], .int .i64 m] w fun e w' => e = .returned (.int .i64 (visN ii dep m)) ∧ Below w.heap.size w w')
    (CS : ∀ w, Calls Try.prog 7 #[.agg #[.int .i64 ii, .int .i64 dep, v2, v3, v4]] w fun e w' => e = .returned (.int .i64 q) ∧ Below w.heap.size w w')
    (w : World) :
    Calls Try.prog 3 #[.agg #[.int .i64 ii, .int .i64 dep, v2, v3, v4], .int .i16 n] w fun e w' => e = .returned (.bool true) ∧ Below w.heap.size w w' := by
  have hw1 : IntKind.i64.wrap (K + 1) = K + 1 := by rw [IntKind.wrap_i64]; omega
  have hw2 : IntKind.i64.wrap (Y - (dep + P)) = ii := by rw [hYX, IntKind.wrap_i64]; omega
  have hw3 : IntKind.i64.wrap (K - 1) = K - 1 := by rw [IntKind.wrap_i64]; omega
  have hw4 : IntKind.i64.wrap ((K - 1) * ii) = P := by rw [hP, IntKind.wrap_i64]; omega
  have hw5 : IntKind.i64.wrap (dep + P) = dep + P := by rw [IntKind.wrap_i64]; omega
  have hw6 : IntKind.i64.wrap (q * ii) = PQ := by rw [hPQ, IntKind.wrap_i64]; omega
  have hw7 : IntKind.i64.wrap (q - 1) = q - 1 := by rw [IntKind.wrap_i64]; omega
  have hw8 : IntKind.i64.wrap ((q - 1) * ii) = PR := by rw [hPR, IntKind.wrap_i64]; omega
  have k1d : decide (dep ≤ PQ) = true := decide_eq_true k1
  have k2d : decide (PR < dep) = true := decide_eq_true k2
  clear hP hPQ hPR hYX
  have hB : w.heap.size ≤ w.heap.size := Nat.le_refl _
  go_enter Try.func3, Try.ntmps3
  go_wp2_with fail
  refine (awake36 _).mono ?_
  rintro e w1 ⟨rfl, hb1⟩
  have L := LatS.go (latS_begin w ii dep v2 v3 v4 24) hb1 hB
  have L' := L
  obtain ⟨_, _, c0, c1, c2, c3, c4⟩ := L
  clear hb1
  go_wp2_with fail
  refine (C1 _).mono ?_
  rintro e u1 ⟨rfl, hu1⟩
  have M1 := LatS.go L' hu1 hB
  have M1' := M1
  obtain ⟨_, _, d0, d1, d2, d3, d4⟩ := M1'
  clear hu1 c0 c1 c2 c3 c4
  go_wp2_with fail
  go_region_held3 (fun w' => Below w.heap.size w w' ∧ w.heap.size < w'.heap.size ∧ w'.cell? ⟨w.heap.size, 0, none⟩ = some (.int .i64 ii) ∧ w'.cell? ⟨w.heap.size, 1, none⟩ = some (.int .i64 dep) ∧ w'.cell? ⟨w.heap.size, 2, none⟩ = some (v2) ∧ w'.cell? ⟨w.heap.size, 3, none⟩ = some (v3) ∧ w'.cell? ⟨w.heap.size, 4, none⟩ = some (v4))
    (first
      | exact LatS.go M1 (ydrew (Below.refl _ _) 1) hB
      | exact LatS.go (by assumption) (by assumption) hB
      | exact LatS.go (by assumption) (ydrew (Below.refl _ _) 1) hB
      | go_keep)
    (first
      | (go_at_call 6; refine (VV _ (by first | exact .inl rfl | exact .inr rfl) _).mono ?_; rintro e wq ⟨rfl, hbq⟩))
  go_wp2_with fail
  have Z1 : LatS w.heap.size w w.heap.size ii dep v2 v3 v4 wq := by assumption
  refine (CS _).mono ?_
  rintro e u3 ⟨rfl, hu3⟩
  have M3 := LatS.go Z1 hu3 hB
  have M3' := M3
  obtain ⟨_, _, e0, e1, e2, e3, e4⟩ := M3'
  clear d0 d1 d2 d3 d4 hu3
  go_wp2_with fail
  go_region_held3 (fun w' => Below w.heap.size w w' ∧ w.heap.size < w'.heap.size ∧ w'.cell? ⟨w.heap.size, 0, none⟩ = some (.int .i64 ii) ∧ w'.cell? ⟨w.heap.size, 1, none⟩ = some (.int .i64 dep) ∧ w'.cell? ⟨w.heap.size, 2, none⟩ = some (v2) ∧ w'.cell? ⟨w.heap.size, 3, none⟩ = some (v3) ∧ w'.cell? ⟨w.heap.size, 4, none⟩ = some (v4))
    (first
      | exact LatS.go M3 (ydrew (Below.refl _ _) 1) hB
      | exact LatS.go (by assumption) (by assumption) hB
      | exact LatS.go (by assumption) (ydrew (Below.refl _ _) 1) hB
      | go_keep)
    (first
      | (go_at_call 6; refine (VV _ (by first | exact .inl rfl | exact .inr rfl) _).mono ?_; rintro e wq ⟨rfl, hbq⟩))
  go_wp2_with fail
  have Z2 : LatS w.heap.size w w.heap.size ii dep v2 v3 v4 wq := by assumption
  go_ret
  exact ⟨by simp, Z2.1⟩
set_option maxHeartbeats 1600000 in
theorem cyl_neg (ii dep n : Int) (v2 v3 v4 : Value) (g1 : ¬ dep < 1) (g2 : ¬ 5000 < dep) (g3 : ¬ 5000 < ii) (K : Int) (hK : n.tmod 1000 = K) (hb : -32768 ≤ n ∧ n ≤ 32767) (hK1 : ¬ K < 1) (hK2 : K ≤ 999) (hi : ¬ 0 < ii) (P Y : Int)
    (hP : K * dep = P) (hPb : -5000000 ≤ P ∧ P ≤ 5000000)
    (hX : visN ii dep K = P) (hY : visN ii dep (K + 1) = Y) (hYb : -50000000 ≤ Y ∧ Y ≤ 50000000) (hYX : Y - P = dep)
    (C1 : ∀ w, Calls Try.prog 6 #[.agg #[.int .i64 ii, .int .i64 dep, v2, v3, v4], .int .i64 1] w fun e w' => e = .returned (.int .i64 dep) ∧ Below w.heap.size w w')
    (VV : ∀ m (_ : m = K ∨ m = K + 1) w, Calls Try.prog 6 #[.agg #[.int .i64 ii, .int .i64 dep, v2, v3, v4], .int .i64 m] w fun e w' => e = .returned (.int .i64 (visN ii dep m)) ∧ Below w.heap.size w w')
    (CS : ∀ w, Calls Try.prog 7 #[.agg #[.int .i64 ii, .int .i64 dep, v2, v3, v4]] w fun e w' => e = .returned (.int .i64 1) ∧ Below w.heap.size w w')
    (w : World) :
    Calls Try.prog 3 #[.agg #[.int .i64 ii, .int .i64 dep, v2, v3, v4], .int .i16 n] w fun e w' => e = .returned (.bool true) ∧ Below w.heap.size w w' := by
  have hw1 : IntKind.i64.wrap (K + 1) = K + 1 := by rw [IntKind.wrap_i64]; omega
  have hw2 : IntKind.i64.wrap (Y - P) = dep := by rw [hYX, IntKind.wrap_i64]; omega
  have hw4 : IntKind.i64.wrap (K * dep) = P := by rw [hP, IntKind.wrap_i64]; omega
  clear hP hYX
  have hB : w.heap.size ≤ w.heap.size := Nat.le_refl _
  go_enter Try.func3, Try.ntmps3
  go_wp2_with fail
  refine (awake36 _).mono ?_
  rintro e w1 ⟨rfl, hb1⟩
  have L := LatS.go (latS_begin w ii dep v2 v3 v4 24) hb1 hB
  have L' := L
  obtain ⟨_, _, c0, c1, c2, c3, c4⟩ := L
  clear hb1
  go_wp2_with fail
  refine (C1 _).mono ?_
  rintro e u1 ⟨rfl, hu1⟩
  have M1 := LatS.go L' hu1 hB
  have M1' := M1
  obtain ⟨_, _, d0, d1, d2, d3, d4⟩ := M1'
  clear hu1 c0 c1 c2 c3 c4
  go_wp2_with fail
  go_region_held3 (fun w' => Below w.heap.size w w' ∧ w.heap.size < w'.heap.size ∧ w'.cell? ⟨w.heap.size, 0, none⟩ = some (.int .i64 ii) ∧ w'.cell? ⟨w.heap.size, 1, none⟩ = some (.int .i64 dep) ∧ w'.cell? ⟨w.heap.size, 2, none⟩ = some (v2) ∧ w'.cell? ⟨w.heap.size, 3, none⟩ = some (v3) ∧ w'.cell? ⟨w.heap.size, 4, none⟩ = some (v4))
    (first
      | exact LatS.go M1 (ydrew (Below.refl _ _) 1) hB
      | exact LatS.go (by assumption) (by assumption) hB
      | exact LatS.go (by assumption) (ydrew (Below.refl _ _) 1) hB
      | go_keep)
    (first
      | (go_at_call 6; refine (VV _ (by first | exact .inl rfl | exact .inr rfl) _).mono ?_; rintro e wq ⟨rfl, hbq⟩))
  go_wp2_with fail
  have Z1 : LatS w.heap.size w w.heap.size ii dep v2 v3 v4 wq := by assumption
  go_region_held3 (fun w' => Below w.heap.size w w' ∧ w.heap.size < w'.heap.size ∧ w'.cell? ⟨w.heap.size, 0, none⟩ = some (.int .i64 ii) ∧ w'.cell? ⟨w.heap.size, 1, none⟩ = some (.int .i64 dep) ∧ w'.cell? ⟨w.heap.size, 2, none⟩ = some (v2) ∧ w'.cell? ⟨w.heap.size, 3, none⟩ = some (v3) ∧ w'.cell? ⟨w.heap.size, 4, none⟩ = some (v4))
    (first
      | exact LatS.go Z1 (ydrew (Below.refl _ _) 1) hB
      | exact LatS.go (by assumption) (by assumption) hB
      | exact LatS.go (by assumption) (ydrew (Below.refl _ _) 1) hB
      | go_keep)
    (first
      | (go_at_call 6; refine (VV _ (by first | exact .inl rfl | exact .inr rfl) _).mono ?_; rintro e wq ⟨rfl, hbq⟩)
      | (go_at_call 7; refine (CS _).mono ?_; rintro e wq ⟨rfl, hbq⟩))
  go_wp2_with fail
  have Z2 : LatS w.heap.size w w.heap.size ii dep v2 v3 v4 wq := by assumption
  go_ret
  exact ⟨by simp, Z2.1⟩
end Go.Proofs.Ythhdfdkdcabiaaa
