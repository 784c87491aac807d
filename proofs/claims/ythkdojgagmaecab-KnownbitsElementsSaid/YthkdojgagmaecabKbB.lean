/- KnownbitsLattice: Leq, Join and Meet of elements. -/
import Derived.Test.YthkdojgagmaecabBitsA
import Derived.Test.YthkdojgagmaecabKb
import Derived.Test.YthkdojgagmaecabOpen
import Derived.Deep.QuietTactic
import Derived.BigQuiet
import Derived.WalkSmall
import Derived.Deep.RegionHeld3
namespace Go.Proofs.Ythkdojgagmaecab
open Go.RowKit

theorem bcell {W w1 : World} (hb : Below W.heap.size W w1) : (∀ b o, b < W.heap.size → w1.cell? ⟨b, o, none⟩ = W.cell? ⟨b, o, none⟩) ∧ (∀ b o, b < W.heap.size → w1.frozen? ⟨b, o, none⟩ = W.frozen? ⟨b, o, none⟩) :=
  ⟨fun b o h => hb.cell (p := ⟨b, o, none⟩) h, fun b o h => hb.frozen (p := ⟨b, o, none⟩) h⟩
theorem below_alloc {w w1 : World} (h : Below w.heap.size w w1) (o : Obj) : Below w.heap.size w (w1.alloc o) := h.alloc h.size o
theorem below_trans {w w1 w2 : World} (h1 : Below w.heap.size w w1) (h2 : Below w1.heap.size w1 w2) : Below w.heap.size w w2 := h1.trans (h2.mono h1.size)

theorem mask_same (a : Int) (w : World) :
    Calls Try.prog 46 #[.int .i64 a] w fun e w' => e = .returned (.int .u64 (maskN a : Nat)) ∧ w' = w := (mask_any a w).mono fun _ _ ⟨h1, h2⟩ => ⟨h1, h2.symm⟩
theorem below_drewN' {B : Nat} {a w : World} (h : Below B a w) (n : Nat) : Below B a (w.drewN n) := h.trans ⟨rfl, rfl, rfl, Nat.le_refl _, fun _ _ => rfl⟩
theorem kof_four (w : World) :
    Calls Try.prog 16 #[.int .i64 4, .int .u64 10] w fun e w' => e = .returned (.agg #[.int .u64 5, .int .u64 10]) ∧ Below w.heap.size w w' := by
  have h0 : fitN 4 10 = 10 := by decide
  have h1 : maskN 4 = 15 := by decide
  have h2 : bits .andNot .u64 15 10 = 5 := by decide
  go_enter Try.func16, Try.ntmps16
  go_wp2_with fail
  refine (fit_any 4 10 _ (by decide)).mono ?_
  rintro e w' ⟨rfl, rfl⟩
  rw [h0]
  go_wp2_with fail
  refine (mask_any 4 _).mono ?_
  rintro e w' ⟨rfl, rfl⟩
  rw [h1]
  go_wp2_with fail
  refine bodyPost_ret (v := .agg #[.int .u64 5, .int .u64 10]) (by simp [results, Try.results16, go_sem]) rfl ⟨rfl, ?_⟩
  repeat (first | exact Below.refl _ _ | apply Below.drew | refine Below.alloc ?_ (by simp <;> omega) _ | refine Below.setCell ?_ (by simp) _)
theorem kvalid_four (w : World) :
    Calls Try.prog 10 #[.int .i64 4, .agg #[.int .u64 5, .int .u64 10]] w fun e w' => e = .returned (.bool true) ∧ Below w.heap.size w w' := by
  have h1 : maskN 4 = 15 := by decide
  have h2 : bits .or .u64 5 10 = 15 := by decide
  have h3 : bits .and .u64 5 10 = 0 := by decide
  have h4 : ((maskN 4 : Nat) : Int) = 15 := by rw [h1]; rfl
  go_enter Try.func10, Try.ntmps10
  go_wp2_with fail
  go_quiet ((go_at_call 46; exact Calls.quiet_of_same (mask_same _ _)))
  go_wp2_with fail
  go_ret
  exact ⟨rfl, below_drewN' ((Below.refl _ _).alloc (Nat.le_refl _) _) _⟩
theorem awake12 (w : World) :
    Calls Try.prog 9 #[] w fun e w' => e = .returned (.bool true) ∧ Below w.heap.size w w' := by
  go_enter Try.func9, Try.ntmps9
  go_wp2_with fail
  refine (kof_four _).mono ?_
  rintro e w1 ⟨rfl, hb1⟩
  go_wp2_with fail
  refine (kof_four _).mono ?_
  rintro e w2 ⟨rfl, hb2⟩
  go_wp2_with fail
  refine (kvalid_four _).mono ?_
  rintro e w3 ⟨rfl, hb3⟩
  go_wp2_with fail
  go_ret
  exact ⟨rfl, below_trans (below_trans hb1 hb2) hb3⟩

/-! The lattice, in plain mathematics. -/
theorem kle_join1 (a0 a1 b0 b1 : W64) : kleB a0 a1 (a0 &&& b0) (a1 &&& b1) = true := by
  simp only [kleB, Bool.and_eq_true, isZ_iff]
  constructor
  · ext i hi; simp; cases a0[i] <;> simp
  · ext i hi; simp; cases a1[i] <;> simp
theorem kle_join2 (a0 a1 b0 b1 : W64) : kleB b0 b1 (a0 &&& b0) (a1 &&& b1) = true := by
  simp only [kleB, Bool.and_eq_true, isZ_iff]
  constructor
  · ext i hi; simp
  · ext i hi; simp
theorem kcon_iff (z o n : W64) : kcon z o n = true ↔ ∀ (i : Nat) (hi : i < 64), (z[i] = true → n[i] = false) ∧ (o[i] = true → n[i] = true) := by
  simp only [kcon, Bool.and_eq_true, isZ_iff, isQ_iff]
  constructor
  · rintro ⟨h1, h2⟩ i hi
    have e1 := congrArg (fun v : W64 => v[i]) h1
    have e2 := congrArg (fun v : W64 => v[i]) h2
    simp at e1 e2
    constructor
    · intro h; cases hn : n[i]
      · rfl
      · exact absurd h (by simp [e1 hn])
    · intro h; exact e2 h
  · intro h
    constructor
    · ext i hi; have := (h i hi).1; simp; intro hn; cases hz : z[i]
      · rfl
      · rw [this hz] at hn; cases hn
    · ext i hi; have := (h i hi).2; simp; intro ho; exact this ho
theorem kok_iff (a0 a1 b0 b1 : W64) : kok a0 a1 b0 b1 = true ↔ ∀ (i : Nat) (hi : i < 64), ¬ ((a0[i] = true ∨ b0[i] = true) ∧ (a1[i] = true ∨ b1[i] = true)) := by
  simp only [kok, isZ_iff]
  constructor
  · intro h i hi
    have e1 := congrArg (fun v : W64 => v[i]) h
    simp at e1
    rintro ⟨h1, h2⟩
    rcases h1 with h1 | h1 <;> rcases h2 with h2 | h2 <;> simp_all
  · intro h
    ext i hi
    have h1 := h i hi
    simp
    revert h1
    cases a0[i] <;> cases a1[i] <;> cases b0[i] <;> cases b1[i] <;> simp
theorem k_both (a0 a1 b0 b1 n : W64) (ha : kcon a0 a1 n = true) (hb : kcon b0 b1 n = true) :
    kok a0 a1 b0 b1 = true ∧ kcon (a0 ||| b0) (a1 ||| b1) n = true ∧ kcon (a0 &&& b0) (a1 &&& b1) n = true := by
  rw [kcon_iff] at ha hb
  rw [kok_iff, kcon_iff, kcon_iff]
  refine ⟨fun i hi => ?_, fun i hi => ?_, fun i hi => ?_⟩
  all_goals
    have h1 := ha i hi
    have h2 := hb i hi
    simp
    revert h1 h2
    cases a0[i] <;> cases a1[i] <;> cases b0[i] <;> cases b1[i] <;> cases n[i] <;> simp
theorem k_meet (a0 a1 b0 b1 n : W64) (h : kcon (a0 ||| b0) (a1 ||| b1) n = true) : kcon a0 a1 n = true ∧ kcon b0 b1 n = true := by
  rw [kcon_iff] at h
  rw [kcon_iff, kcon_iff]
  refine ⟨fun i hi => ?_, fun i hi => ?_⟩
  all_goals
    have h1 := h i hi
    simp at h1
    revert h1
    cases a0[i] <;> cases a1[i] <;> cases b0[i] <;> cases b1[i] <;> cases n[i] <;> simp

/-- What a world of the law holds: the cells of a, b, j and m, and nothing older turned. -/
abbrev Lat (B : Nat) (w0 : World) (A1 A2 A3 A4 : Nat) (a0 a1 b0 b1 j0 j1 m0 m1 : W64) (w' : World) : Prop :=
  Below B w0 w' ∧ (A1 < w'.heap.size ∧ A2 < w'.heap.size ∧ A3 < w'.heap.size ∧ A4 < w'.heap.size) ∧
  w'.cell? ⟨A1, 0, none⟩ = some (.int .u64 (nv a0)) ∧ w'.cell? ⟨A1, 1, none⟩ = some (.int .u64 (nv a1)) ∧
  w'.cell? ⟨A2, 0, none⟩ = some (.int .u64 (nv b0)) ∧ w'.cell? ⟨A2, 1, none⟩ = some (.int .u64 (nv b1)) ∧
  w'.cell? ⟨A3, 0, none⟩ = some (.int .u64 (nv j0)) ∧ w'.cell? ⟨A3, 1, none⟩ = some (.int .u64 (nv j1)) ∧
  w'.cell? ⟨A4, 0, none⟩ = some (.int .u64 (nv m0)) ∧ w'.cell? ⟨A4, 1, none⟩ = some (.int .u64 (nv m1))
theorem Lat.step {B : Nat} {w0 : World} {A1 A2 A3 A4 : Nat} {a0 a1 b0 b1 j0 j1 m0 m1 : W64} {w1 w2 : World}
    (hB : B ≤ w1.heap.size) (h : Lat B w0 A1 A2 A3 A4 a0 a1 b0 b1 j0 j1 m0 m1 w1) (hb : Below w1.heap.size w1 w2) : Lat B w0 A1 A2 A3 A4 a0 a1 b0 b1 j0 j1 m0 m1 w2 := by
  obtain ⟨h0, ⟨s1, s2, s3, s4⟩, c1, c2, c3, c4, c5, c6, c7, c8⟩ := h
  have hz := hb.size
  have hc := (bcell hb).1
  refine ⟨h0.trans (hb.mono hB), ⟨by omega, by omega, by omega, by omega⟩, ?_, ?_, ?_, ?_, ?_, ?_, ?_, ?_⟩
  all_goals (rw [hc _ _ (by assumption)]; assumption)
theorem Lat.size {B : Nat} {w0 : World} {A1 A2 A3 A4 : Nat} {a0 a1 b0 b1 j0 j1 m0 m1 : W64} {w1 : World}
    (hB : B ≤ w0.heap.size) (h : Lat B w0 A1 A2 A3 A4 a0 a1 b0 b1 j0 j1 m0 m1 w1) : B ≤ w1.heap.size := Nat.le_trans hB h.1.size
theorem Lat.go {B : Nat} {w0 : World} {A1 A2 A3 A4 : Nat} {a0 a1 b0 b1 j0 j1 m0 m1 : W64} {w1 w2 : World}
    (h : Lat B w0 A1 A2 A3 A4 a0 a1 b0 b1 j0 j1 m0 m1 w1) (hb : Below w1.heap.size w1 w2) (hB : B ≤ w0.heap.size) : Lat B w0 A1 A2 A3 A4 a0 a1 b0 b1 j0 j1 m0 m1 w2 := Lat.step (h.size hB) h hb

theorem cell_new (w : World) (x y : W64) (t : TypeId) : (w.alloc (.cells #[.int .u64 (nv x), .int .u64 (nv y)] t)).cell? ⟨w.heap.size, 0, none⟩ = some (.int .u64 (nv x)) ∧ (w.alloc (.cells #[.int .u64 (nv x), .int .u64 (nv y)] t)).cell? ⟨w.heap.size, 1, none⟩ = some (.int .u64 (nv y)) := by
  constructor <;> simp
theorem cell_old (w : World) (o : Obj) (b k : Nat) (h : b < w.heap.size) : (w.alloc o).cell? ⟨b, k, none⟩ = w.cell? ⟨b, k, none⟩ :=
  (bcell ((Below.refl w.heap.size w).alloc (Nat.le_refl _) o)).1 b k h
theorem lat_begin {w w1 w2 w3 : World} (a0 a1 b0 b1 j0 j1 m0 m1 : W64) (t : TypeId)
    (hb1 : Below ((w.alloc (.cells #[.int .u64 (nv a0), .int .u64 (nv a1)] t)).alloc (.cells #[.int .u64 (nv b0), .int .u64 (nv b1)] t)).heap.size ((w.alloc (.cells #[.int .u64 (nv a0), .int .u64 (nv a1)] t)).alloc (.cells #[.int .u64 (nv b0), .int .u64 (nv b1)] t)) w1)
    (hb2 : Below w1.heap.size w1 w2)
    (hb3 : Below (w2.alloc (.cells #[.int .u64 (nv j0), .int .u64 (nv j1)] t)).heap.size (w2.alloc (.cells #[.int .u64 (nv j0), .int .u64 (nv j1)] t)) w3) :
    Lat w.heap.size w w.heap.size (w.heap.size + 1) w2.heap.size w3.heap.size a0 a1 b0 b1 j0 j1 m0 m1 (w3.alloc (.cells #[.int .u64 (nv m0), .int .u64 (nv m1)] t)) := by
  have z1 := hb1.size
  have z2 := hb2.size
  have z3 := hb3.size
  have q1 : ((w.alloc (.cells #[.int .u64 (nv a0), .int .u64 (nv a1)] t)).alloc (.cells #[.int .u64 (nv b0), .int .u64 (nv b1)] t)).heap.size = w.heap.size + 2 := by simp
  have q3 : (w2.alloc (.cells #[.int .u64 (nv j0), .int .u64 (nv j1)] t)).heap.size = w2.heap.size + 1 := by simp
  rw [q1] at z1
  rw [q3] at z3
  have ca := cell_new w a0 a1 t
  have cb := cell_new (w.alloc (.cells #[.int .u64 (nv a0), .int .u64 (nv a1)] t)) b0 b1 t
  have cj := cell_new w2 j0 j1 t
  have cm := cell_new w3 m0 m1 t
  have s1 : (w.alloc (.cells #[.int .u64 (nv a0), .int .u64 (nv a1)] t)).heap.size = w.heap.size + 1 := by simp
  rw [s1] at cb
  have old : ∀ b k, b < w.heap.size + 2 → (w3.alloc (.cells #[.int .u64 (nv m0), .int .u64 (nv m1)] t)).cell? ⟨b, k, none⟩ = ((w.alloc (.cells #[.int .u64 (nv a0), .int .u64 (nv a1)] t)).alloc (.cells #[.int .u64 (nv b0), .int .u64 (nv b1)] t)).cell? ⟨b, k, none⟩ := by
    intro b k hbk
    rw [cell_old w3 _ b k (by omega), (bcell hb3).1 b k (by simp; omega), cell_old w2 _ b k (by omega), (bcell hb2).1 b k (by omega), (bcell hb1).1 b k (by simp; omega)]
  refine ⟨?_, ⟨by simp; omega, by simp; omega, by simp; omega, by simp⟩, ?_, ?_, ?_, ?_, ?_, ?_, ?_, ?_⟩
  · exact ((((((Below.refl _ w).alloc (Nat.le_refl _) _).alloc (by simp) _).trans (hb1.mono (by simp; omega))).trans (hb2.mono (by omega))).alloc (by omega) _).trans (hb3.mono (by simp; omega)) |>.alloc (by omega) _
  · rw [old _ _ (by omega), cell_old _ _ _ _ (by simp)]; exact ca.1
  · rw [old _ _ (by omega), cell_old _ _ _ _ (by simp)]; exact ca.2
  · rw [old _ _ (by omega)]; exact cb.1
  · rw [old _ _ (by omega)]; exact cb.2
  · rw [cell_old w3 _ _ _ (by omega), (bcell hb3).1 _ _ (by simp)]; exact cj.1
  · rw [cell_old w3 _ _ _ (by omega), (bcell hb3).1 _ _ (by simp)]; exact cj.2
  · exact cm.1
  · exact cm.2


theorem lattice_one (a0 a1 b0 b1 n : W64) (w : World) (hok : kok a0 a1 b0 b1 = true) :
    Calls Try.prog 4 #[.agg #[.int .u64 (nv a0), .int .u64 (nv a1)], .agg #[.int .u64 (nv b0), .int .u64 (nv b1)], .int .u64 (nv n)] w fun e w' => e = .returned (.bool true) ∧ Below w.heap.size w w' := by
  have j1 := kle_join1 a0 a1 b0 b1
  have j2 := kle_join2 a0 a1 b0 b1
  have o0 := kor a0 b0
  have o1 := kor a1 b1
  have o2 := kand (a0 ||| b0) (a1 ||| b1)
  have o3 : (nv ((a0 ||| b0) &&& (a1 ||| b1)) == 0) = true := hok
  have hB : w.heap.size ≤ w.heap.size := Nat.le_refl _
  go_enter Try.func4, Try.ntmps4
  go_wp2_with fail
  refine (awake12 _).mono ?_
  rintro e w1 ⟨rfl, hb1⟩
  have hz : w.heap.size + 1 < w1.heap.size := by have := hb1.size; simp at this; omega
  have hz1 : w.heap.size < w1.heap.size := by omega
  obtain ⟨hcc, hff⟩ := bcell hb1
  go_wp2_with fail
  refine (kjoin_any _ _ _ _ _).mono ?_
  rintro e w2 ⟨rfl, hb2⟩
  have hy1 : w.heap.size < w2.heap.size := Nat.lt_of_lt_of_le hz1 hb2.size
  have hy2 : w.heap.size + 1 < w2.heap.size := Nat.lt_of_lt_of_le hz hb2.size
  obtain ⟨hcc2, hff2⟩ := bcell hb2
  go_wp2_with fail
  refine (kmeet_yes _ _ _ _ _ hok).mono ?_
  rintro e w3 ⟨rfl, hb3⟩
  go_wp2_with fail
  have hz2 : w.heap.size < w3.heap.size := by have := hb3.size; simp at this; omega
  have hz3 : w.heap.size + 1 < w3.heap.size := by have := hb3.size; simp at this; omega
  have hz4 : w2.heap.size < w3.heap.size := by have := hb3.size; simp at this; omega
  obtain ⟨hcc3, hff3⟩ := bcell hb3
  have L : Lat w.heap.size w w.heap.size (w.heap.size + 1) w2.heap.size w3.heap.size a0 a1 b0 b1 (a0 &&& b0) (a1 &&& b1) (a0 ||| b0) (a1 ||| b1)
      (w3.alloc (.cells #[.int .u64 (nv (a0 ||| b0)), .int .u64 (nv (a1 ||| b1))] 24)) := by
    exact lat_begin _ _ _ _ _ _ _ _ _ hb1 hb2 hb3
  generalize w3.alloc (.cells #[.int .u64 (nv (a0 ||| b0)), .int .u64 (nv (a1 ||| b1))] 24) = W at L ⊢
  generalize w2.heap.size = A3 at L ⊢
  generalize w3.heap.size = A4 at L ⊢
  clear hcc hff hcc2 hff2 hcc3 hff3 hz hz1 hz2 hz3 hz4 hy1 hy2 hb1 hb2 hb3
  have L' : Lat w.heap.size w w.heap.size (w.heap.size + 1) A3 A4 a0 a1 b0 b1 (a0 &&& b0) (a1 &&& b1) (a0 ||| b0) (a1 ||| b1) W := L
  obtain ⟨l0, l1, c1, c2, c3, c4, c5, c6, c7, c8⟩ := L
  go_region_held3 (fun w' => Below w.heap.size w w' ∧ (w.heap.size < w'.heap.size ∧ w.heap.size + 1 < w'.heap.size ∧ A3 < w'.heap.size ∧ A4 < w'.heap.size) ∧
      w'.cell? ⟨w.heap.size, 0, none⟩ = some (.int .u64 (nv a0)) ∧ w'.cell? ⟨w.heap.size, 1, none⟩ = some (.int .u64 (nv a1)) ∧
      w'.cell? ⟨w.heap.size + 1, 0, none⟩ = some (.int .u64 (nv b0)) ∧ w'.cell? ⟨w.heap.size + 1, 1, none⟩ = some (.int .u64 (nv b1)) ∧
      w'.cell? ⟨A3, 0, none⟩ = some (.int .u64 (nv (a0 &&& b0))) ∧ w'.cell? ⟨A3, 1, none⟩ = some (.int .u64 (nv (a1 &&& b1))) ∧
      w'.cell? ⟨A4, 0, none⟩ = some (.int .u64 (nv (a0 ||| b0))) ∧ w'.cell? ⟨A4, 1, none⟩ = some (.int .u64 (nv (a1 ||| b1))))
    (first
      | exact Lat.go L' (below_drewN' (Below.refl _ _) 1) hB
      | exact Lat.go (by assumption) (by assumption) hB
      | exact Lat.go (by assumption) (below_drewN' (Below.refl _ _) 1) hB
      | go_keep)
    (first
      | (go_at_call 20; refine (kleq_any _ _ _ _ _).mono ?_; rintro e wq ⟨rfl, hbq⟩)
      | (go_at_call 21; refine (kleq_ref _ _ _ _ _).mono ?_; rintro e wq ⟨rfl, hbq⟩)
      | (go_at_call 22; refine (kjoin_ref _ _ _ _ _).mono ?_; rintro e wq ⟨rfl, hbq⟩)
      | (go_at_call 12; refine (kcon_any _ _ _ _).mono ?_; rintro e wq ⟨rfl, hbq⟩))
  go_wp2_with fail
  go_region_held3 (fun w' => Below w.heap.size w w' ∧ (w.heap.size < w'.heap.size ∧ w.heap.size + 1 < w'.heap.size ∧ A3 < w'.heap.size ∧ A4 < w'.heap.size) ∧
      w'.cell? ⟨w.heap.size, 0, none⟩ = some (.int .u64 (nv a0)) ∧ w'.cell? ⟨w.heap.size, 1, none⟩ = some (.int .u64 (nv a1)) ∧
      w'.cell? ⟨w.heap.size + 1, 0, none⟩ = some (.int .u64 (nv b0)) ∧ w'.cell? ⟨w.heap.size + 1, 1, none⟩ = some (.int .u64 (nv b1)) ∧
      w'.cell? ⟨A3, 0, none⟩ = some (.int .u64 (nv (a0 &&& b0))) ∧ w'.cell? ⟨A3, 1, none⟩ = some (.int .u64 (nv (a1 &&& b1))) ∧
      w'.cell? ⟨A4, 0, none⟩ = some (.int .u64 (nv (a0 ||| b0))) ∧ w'.cell? ⟨A4, 1, none⟩ = some (.int .u64 (nv (a1 ||| b1))))
    (first
      | exact Lat.go L' (below_drewN' (Below.refl _ _) 1) hB
      | exact Lat.go (by assumption) (by assumption) hB
      | exact Lat.go (by assumption) (below_drewN' (Below.refl _ _) 1) hB
      | go_keep)
    (first
      | (go_at_call 20; refine (kleq_any _ _ _ _ _).mono ?_; rintro e wq ⟨rfl, hbq⟩)
      | (go_at_call 21; refine (kleq_ref _ _ _ _ _).mono ?_; rintro e wq ⟨rfl, hbq⟩)
      | (go_at_call 22; refine (kjoin_ref _ _ _ _ _).mono ?_; rintro e wq ⟨rfl, hbq⟩)
      | (go_at_call 12; refine (kcon_any _ _ _ _).mono ?_; rintro e wq ⟨rfl, hbq⟩))
  go_wp2_with fail
  have M1 : Lat w.heap.size w w.heap.size (w.heap.size + 1) A3 A4 a0 a1 b0 b1 (a0 &&& b0) (a1 &&& b1) (a0 ||| b0) (a1 ||| b1) wq.drew := by assumption
  refine (kleq_any _ _ _ _ _).mono ?_
  rintro e v1 ⟨rfl, hv1⟩
  have M2 : Lat w.heap.size w w.heap.size (w.heap.size + 1) A3 A4 a0 a1 b0 b1 (a0 &&& b0) (a1 &&& b1) (a0 ||| b0) (a1 ||| b1) v1 := Lat.go M1 hv1 hB
  have M2' := M2
  obtain ⟨_, _, d1, d2, d3, d4, d5, d6, d7, d8⟩ := M2'
  go_wp2_with fail
  refine (kleq_any _ _ _ _ _).mono ?_
  rintro e v2 ⟨rfl, hv2⟩
  have M3 : Lat w.heap.size w w.heap.size (w.heap.size + 1) A3 A4 a0 a1 b0 b1 (a0 &&& b0) (a1 &&& b1) (a0 ||| b0) (a1 ||| b1) v2 := Lat.go M2 hv2 hB
  have M3' := M3
  obtain ⟨_, _, e1, e2, e3, e4, e5, e6, e7, e8⟩ := M3'
  go_wp2_with fail
  cases hca : kcon a0 a1 n
  · have cm : kcon (a0 ||| b0) (a1 ||| b1) n = false := by
      cases h : kcon (a0 ||| b0) (a1 ||| b1) n
      · rfl
      · rw [(k_meet _ _ _ _ _ h).1] at hca; cases hca
    refine (kcon_any _ _ _ _).mono ?_
    rintro e v3 ⟨rfl, hv3⟩
    have M4 : Lat w.heap.size w w.heap.size (w.heap.size + 1) A3 A4 a0 a1 b0 b1 (a0 &&& b0) (a1 &&& b1) (a0 ||| b0) (a1 ||| b1) v3 := Lat.go M3 hv3 hB
    have M4' := M4
    obtain ⟨_, _, e1, e2, e3, e4, e5, e6, e7, e8⟩ := M4'
    go_wp2_with fail
    refine (kcon_any _ _ _ _).mono ?_
    rintro e v4 ⟨rfl, hv4⟩
    have M5 : Lat w.heap.size w w.heap.size (w.heap.size + 1) A3 A4 a0 a1 b0 b1 (a0 &&& b0) (a1 &&& b1) (a0 ||| b0) (a1 ||| b1) v4 := Lat.go M4 hv4 hB
    have M5' := M5
    obtain ⟨_, _, e1, e2, e3, e4, e5, e6, e7, e8⟩ := M5'
    go_wp2_with fail
    go_ret
    exact ⟨rfl, M5.1⟩
  · cases hcb : kcon b0 b1 n
    · have cm : kcon (a0 ||| b0) (a1 ||| b1) n = false := by
        cases h : kcon (a0 ||| b0) (a1 ||| b1) n
        · rfl
        · rw [(k_meet _ _ _ _ _ h).2] at hcb; cases hcb
      refine (kcon_any _ _ _ _).mono ?_
      rintro e v3 ⟨rfl, hv3⟩
      have M4 : Lat w.heap.size w w.heap.size (w.heap.size + 1) A3 A4 a0 a1 b0 b1 (a0 &&& b0) (a1 &&& b1) (a0 ||| b0) (a1 ||| b1) v3 := Lat.go M3 hv3 hB
      have M4' := M4
      obtain ⟨_, _, e1, e2, e3, e4, e5, e6, e7, e8⟩ := M4'
      go_wp2_with fail
      refine (kcon_any _ _ _ _).mono ?_
      rintro e v4 ⟨rfl, hv4⟩
      have M5 : Lat w.heap.size w w.heap.size (w.heap.size + 1) A3 A4 a0 a1 b0 b1 (a0 &&& b0) (a1 &&& b1) (a0 ||| b0) (a1 ||| b1) v4 := Lat.go M4 hv4 hB
      have M5' := M5
      obtain ⟨_, _, e1, e2, e3, e4, e5, e6, e7, e8⟩ := M5'
      go_wp2_with fail
      refine (kcon_any _ _ _ _).mono ?_
      rintro e v5 ⟨rfl, hv5⟩
      have M6 : Lat w.heap.size w w.heap.size (w.heap.size + 1) A3 A4 a0 a1 b0 b1 (a0 &&& b0) (a1 &&& b1) (a0 ||| b0) (a1 ||| b1) v5 := Lat.go M5 hv5 hB
      have M6' := M6
      obtain ⟨_, _, e1, e2, e3, e4, e5, e6, e7, e8⟩ := M6'
      go_wp2_with fail
      go_ret
      exact ⟨rfl, M6.1⟩
    · obtain ⟨_, cm, cj⟩ := k_both a0 a1 b0 b1 n hca hcb
      refine (kcon_any _ _ _ _).mono ?_
      rintro e v3 ⟨rfl, hv3⟩
      have M4 : Lat w.heap.size w w.heap.size (w.heap.size + 1) A3 A4 a0 a1 b0 b1 (a0 &&& b0) (a1 &&& b1) (a0 ||| b0) (a1 ||| b1) v3 := Lat.go M3 hv3 hB
      have M4' := M4
      obtain ⟨_, _, e1, e2, e3, e4, e5, e6, e7, e8⟩ := M4'
      go_wp2_with fail
      refine (kcon_any _ _ _ _).mono ?_
      rintro e v4 ⟨rfl, hv4⟩
      have M5 : Lat w.heap.size w w.heap.size (w.heap.size + 1) A3 A4 a0 a1 b0 b1 (a0 &&& b0) (a1 &&& b1) (a0 ||| b0) (a1 ||| b1) v4 := Lat.go M4 hv4 hB
      have M5' := M5
      obtain ⟨_, _, e1, e2, e3, e4, e5, e6, e7, e8⟩ := M5'
      go_wp2_with fail
      refine (kcon_any _ _ _ _).mono ?_
      rintro e v5 ⟨rfl, hv5⟩
      have M6 : Lat w.heap.size w w.heap.size (w.heap.size + 1) A3 A4 a0 a1 b0 b1 (a0 &&& b0) (a1 &&& b1) (a0 ||| b0) (a1 ||| b1) v5 := Lat.go M5 hv5 hB
      have M6' := M6
      obtain ⟨_, _, e1, e2, e3, e4, e5, e6, e7, e8⟩ := M6'
      go_wp2_with fail
      refine (kcon_any _ _ _ _).mono ?_
      rintro e v6 ⟨rfl, hv6⟩
      have M7 : Lat w.heap.size w w.heap.size (w.heap.size + 1) A3 A4 a0 a1 b0 b1 (a0 &&& b0) (a1 &&& b1) (a0 ||| b0) (a1 ||| b1) v6 := Lat.go M6 hv6 hB
      have M7' := M7
      obtain ⟨_, _, e1, e2, e3, e4, e5, e6, e7, e8⟩ := M7'
      go_wp2_with fail
      go_ret
      exact ⟨rfl, M7.1⟩
theorem kmeet_no' (a0 a1 b0 b1 Z : W64) (hZ : nv Z = 0) (w : World) (h : kok a0 a1 b0 b1 = false) :
    Calls Try.prog 19 #[.agg #[.int .u64 (nv a0), .int .u64 (nv a1)], .agg #[.int .u64 (nv b0), .int .u64 (nv b1)]] w fun e w' =>
      e = .returned (.tuple #[.agg #[.int .u64 (nv Z), .int .u64 (nv Z)], .bool false]) ∧ Below w.heap.size w w' := by
  rw [hZ]; exact kmeet_no a0 a1 b0 b1 w h

theorem lattice_two (a0 a1 b0 b1 n Z : W64) (hZ : nv Z = 0) (w : World) (hok : kok a0 a1 b0 b1 = false) :
    Calls Try.prog 4 #[.agg #[.int .u64 (nv a0), .int .u64 (nv a1)], .agg #[.int .u64 (nv b0), .int .u64 (nv b1)], .int .u64 (nv n)] w fun e w' => e = .returned (.bool true) ∧ Below w.heap.size w w' := by
  have hm := fun w => kmeet_no' a0 a1 b0 b1 Z hZ w hok
  have hZ' : (nv Z == 0) = true := by rw [hZ]; rfl
  clear hZ
  have j1 := kle_join1 a0 a1 b0 b1
  have j2 := kle_join2 a0 a1 b0 b1
  have o0 := kor a0 b0
  have o1 := kor a1 b1
  have o2 := kand (a0 ||| b0) (a1 ||| b1)
  have o3 : (nv ((a0 ||| b0) &&& (a1 ||| b1)) == 0) = false := hok
  have hB : w.heap.size ≤ w.heap.size := Nat.le_refl _
  go_enter Try.func4, Try.ntmps4
  go_wp2_with fail
  refine (awake12 _).mono ?_
  rintro e w1 ⟨rfl, hb1⟩
  have hz : w.heap.size + 1 < w1.heap.size := by have := hb1.size; simp at this; omega
  have hz1 : w.heap.size < w1.heap.size := by omega
  obtain ⟨hcc, hff⟩ := bcell hb1
  go_wp2_with fail
  refine (kjoin_any _ _ _ _ _).mono ?_
  rintro e w2 ⟨rfl, hb2⟩
  have hy1 : w.heap.size < w2.heap.size := Nat.lt_of_lt_of_le hz1 hb2.size
  have hy2 : w.heap.size + 1 < w2.heap.size := Nat.lt_of_lt_of_le hz hb2.size
  obtain ⟨hcc2, hff2⟩ := bcell hb2
  go_wp2_with fail
  refine (hm _).mono ?_
  rintro e w3 ⟨rfl, hb3⟩
  go_wp2_with fail
  have hz2 : w.heap.size < w3.heap.size := by have := hb3.size; simp at this; omega
  have hz3 : w.heap.size + 1 < w3.heap.size := by have := hb3.size; simp at this; omega
  have hz4 : w2.heap.size < w3.heap.size := by have := hb3.size; simp at this; omega
  obtain ⟨hcc3, hff3⟩ := bcell hb3
  have L : Lat w.heap.size w w.heap.size (w.heap.size + 1) w2.heap.size w3.heap.size a0 a1 b0 b1 (a0 &&& b0) (a1 &&& b1) Z Z
      (w3.alloc (.cells #[.int .u64 (nv Z), .int .u64 (nv Z)] 24)) := by
    exact lat_begin _ _ _ _ _ _ _ _ _ hb1 hb2 hb3
  generalize w3.alloc (.cells #[.int .u64 (nv Z), .int .u64 (nv Z)] 24) = W at L ⊢
  generalize w2.heap.size = A3 at L ⊢
  generalize w3.heap.size = A4 at L ⊢
  clear hcc hff hcc2 hff2 hcc3 hff3 hz hz1 hz2 hz3 hz4 hy1 hy2 hb1 hb2 hb3
  have L' : Lat w.heap.size w w.heap.size (w.heap.size + 1) A3 A4 a0 a1 b0 b1 (a0 &&& b0) (a1 &&& b1) Z Z W := L
  obtain ⟨l0, l1, c1, c2, c3, c4, c5, c6, c7, c8⟩ := L
  go_region_held3 (fun w' => Below w.heap.size w w' ∧ (w.heap.size < w'.heap.size ∧ w.heap.size + 1 < w'.heap.size ∧ A3 < w'.heap.size ∧ A4 < w'.heap.size) ∧
      w'.cell? ⟨w.heap.size, 0, none⟩ = some (.int .u64 (nv a0)) ∧ w'.cell? ⟨w.heap.size, 1, none⟩ = some (.int .u64 (nv a1)) ∧
      w'.cell? ⟨w.heap.size + 1, 0, none⟩ = some (.int .u64 (nv b0)) ∧ w'.cell? ⟨w.heap.size + 1, 1, none⟩ = some (.int .u64 (nv b1)) ∧
      w'.cell? ⟨A3, 0, none⟩ = some (.int .u64 (nv (a0 &&& b0))) ∧ w'.cell? ⟨A3, 1, none⟩ = some (.int .u64 (nv (a1 &&& b1))) ∧
      w'.cell? ⟨A4, 0, none⟩ = some (.int .u64 (nv Z)) ∧ w'.cell? ⟨A4, 1, none⟩ = some (.int .u64 (nv Z)))
    (first
      | exact Lat.go L' (below_drewN' (Below.refl _ _) 1) hB
      | exact Lat.go (by assumption) (by assumption) hB
      | exact Lat.go (by assumption) (below_drewN' (Below.refl _ _) 1) hB
      | go_keep)
    (first
      | (go_at_call 20; refine (kleq_any _ _ _ _ _).mono ?_; rintro e wq ⟨rfl, hbq⟩)
      | (go_at_call 21; refine (kleq_ref _ _ _ _ _).mono ?_; rintro e wq ⟨rfl, hbq⟩)
      | (go_at_call 22; refine (kjoin_ref _ _ _ _ _).mono ?_; rintro e wq ⟨rfl, hbq⟩)
      | (go_at_call 12; refine (kcon_any _ _ _ _).mono ?_; rintro e wq ⟨rfl, hbq⟩))
  go_wp2_with fail
  go_region_held3 (fun w' => Below w.heap.size w w' ∧ (w.heap.size < w'.heap.size ∧ w.heap.size + 1 < w'.heap.size ∧ A3 < w'.heap.size ∧ A4 < w'.heap.size) ∧
      w'.cell? ⟨w.heap.size, 0, none⟩ = some (.int .u64 (nv a0)) ∧ w'.cell? ⟨w.heap.size, 1, none⟩ = some (.int .u64 (nv a1)) ∧
      w'.cell? ⟨w.heap.size + 1, 0, none⟩ = some (.int .u64 (nv b0)) ∧ w'.cell? ⟨w.heap.size + 1, 1, none⟩ = some (.int .u64 (nv b1)) ∧
      w'.cell? ⟨A3, 0, none⟩ = some (.int .u64 (nv (a0 &&& b0))) ∧ w'.cell? ⟨A3, 1, none⟩ = some (.int .u64 (nv (a1 &&& b1))) ∧
      w'.cell? ⟨A4, 0, none⟩ = some (.int .u64 (nv Z)) ∧ w'.cell? ⟨A4, 1, none⟩ = some (.int .u64 (nv Z)))
    (first
      | exact Lat.go L' (below_drewN' (Below.refl _ _) 1) hB
      | exact Lat.go (by assumption) (by assumption) hB
      | exact Lat.go (by assumption) (below_drewN' (Below.refl _ _) 1) hB
      | go_keep)
    (first
      | (go_at_call 20; refine (kleq_any _ _ _ _ _).mono ?_; rintro e wq ⟨rfl, hbq⟩)
      | (go_at_call 21; refine (kleq_ref _ _ _ _ _).mono ?_; rintro e wq ⟨rfl, hbq⟩)
      | (go_at_call 22; refine (kjoin_ref _ _ _ _ _).mono ?_; rintro e wq ⟨rfl, hbq⟩)
      | (go_at_call 12; refine (kcon_any _ _ _ _).mono ?_; rintro e wq ⟨rfl, hbq⟩))
  go_wp2_with fail
  have M1 : Lat w.heap.size w w.heap.size (w.heap.size + 1) A3 A4 a0 a1 b0 b1 (a0 &&& b0) (a1 &&& b1) Z Z wq.drew := by assumption
  refine (kleq_any _ _ _ _ _).mono ?_
  rintro e v1 ⟨rfl, hv1⟩
  have M2 : Lat w.heap.size w w.heap.size (w.heap.size + 1) A3 A4 a0 a1 b0 b1 (a0 &&& b0) (a1 &&& b1) Z Z v1 := Lat.go M1 hv1 hB
  have M2' := M2
  obtain ⟨_, _, d1, d2, d3, d4, d5, d6, d7, d8⟩ := M2'
  go_wp2_with fail
  refine (kleq_any _ _ _ _ _).mono ?_
  rintro e v2 ⟨rfl, hv2⟩
  have M3 : Lat w.heap.size w w.heap.size (w.heap.size + 1) A3 A4 a0 a1 b0 b1 (a0 &&& b0) (a1 &&& b1) Z Z v2 := Lat.go M2 hv2 hB
  have M3' := M3
  obtain ⟨_, _, e1, e2, e3, e4, e5, e6, e7, e8⟩ := M3'
  go_wp2_with fail
  cases hca : kcon a0 a1 n
  · refine (kcon_any _ _ _ _).mono ?_
    rintro e v3 ⟨rfl, hv3⟩
    have M4 : Lat w.heap.size w w.heap.size (w.heap.size + 1) A3 A4 a0 a1 b0 b1 (a0 &&& b0) (a1 &&& b1) Z Z v3 := Lat.go M3 hv3 hB
    have M4' := M4
    obtain ⟨_, _, e1, e2, e3, e4, e5, e6, e7, e8⟩ := M4'
    go_wp2_with fail
    go_ret
    exact ⟨rfl, M4.1⟩
  · have hcb : kcon b0 b1 n = false := by
      cases h : kcon b0 b1 n
      · rfl
      · rw [(k_both a0 a1 b0 b1 n hca h).1] at hok; cases hok
    refine (kcon_any _ _ _ _).mono ?_
    rintro e v3 ⟨rfl, hv3⟩
    have M4 : Lat w.heap.size w w.heap.size (w.heap.size + 1) A3 A4 a0 a1 b0 b1 (a0 &&& b0) (a1 &&& b1) Z Z v3 := Lat.go M3 hv3 hB
    have M4' := M4
    obtain ⟨_, _, e1, e2, e3, e4, e5, e6, e7, e8⟩ := M4'
    go_wp2_with fail
    refine (kcon_any _ _ _ _).mono ?_
    rintro e v4 ⟨rfl, hv4⟩
    have M5 : Lat w.heap.size w w.heap.size (w.heap.size + 1) A3 A4 a0 a1 b0 b1 (a0 &&& b0) (a1 &&& b1) Z Z v4 := Lat.go M4 hv4 hB
    have M5' := M5
    obtain ⟨_, _, e1, e2, e3, e4, e5, e6, e7, e8⟩ := M5'
    go_wp2_with fail
    go_ret
    exact ⟨rfl, M5.1⟩
theorem nv_of {x : Int} (h : (Lit.int .u64 x).wf = true) : ∃ z : W64, x = nv z := by
  obtain ⟨n, rfl, h'⟩ := nat_of_u64 h
  refine ⟨BitVec.ofNat 64 n, ?_⟩
  unfold nv
  rw [BitVec.toNat_ofNat, Nat.mod_eq_of_lt h']
theorem lattice_any (a0 a1 b0 b1 n : W64) (w : World) :
    Calls Try.prog 4 #[.agg #[.int .u64 (nv a0), .int .u64 (nv a1)], .agg #[.int .u64 (nv b0), .int .u64 (nv b1)], .int .u64 (nv n)] w fun e w' => e = .returned (.bool true) ∧ Below w.heap.size w w' := by
  cases h : kok a0 a1 b0 b1
  · exact lattice_two a0 a1 b0 b1 n 0#64 rfl w h
  · exact lattice_one a0 a1 b0 b1 n w h
end Go.Proofs.Ythkdojgagmaecab
