/-
  Contracts, written by program: for each function what its call yields, and that it yields it.
-/
import Derived.Test.YtepcpjnhhpjacaaVw
import Derived.Test.YtepcpjnhhpjacaaChecked
namespace Go.Proofs.Ytepcpjnhhpjacaa.Abs
open Go
set_option linter.unusedVariables false
set_option linter.unusedSimpArgs false

theorem good : Good Try.prog := good_of Try.checked.mixed (by kernel_rfl)
noncomputable section
def tabC : List FEnt := [
  { f := 8, L := [], D := [] },
  { f := 38, L := [], D := [] },
  { f := 39, L := [], D := [] },
  { f := 69, L := [], D := [] }]

theorem tabC_ok : tabOk Try.prog tabC = true := by kernel_rfl
theorem F8_run : rIs (rCall 2000 Try.prog tabC 40 8 [] AHeap.none) true = true := by kernel_rfl
theorem F8_spec0 (h : AHeap) : ACalls Try.prog 8 [] h (fun v' h'' => v' = (.bool true : Value) ∧ h'' = h) := acalls_run good 2000 40 tabC tabC_ok F8_run rfl h
def F8 : Unit := ()
theorem F8_spec (h : AHeap) (r : Unit) (_ : F8 = r) : ACalls Try.prog 8 [] h (fun v' h'' => v' = (.bool true : Value) ∧ h'' = h) := F8_spec0 h
def tab : List FEnt := [
  { f := 3, L := [2, 8], D := [(12, [(0, 2), (1, 2), (2, 2), (3, 2), (4, 2), (5, 2), (6, 1), (7, 2), (8, 2), (9, 2), (10, 2), (11, 2), (12, 2), (13, 2)]), (20, [(0, 2), (1, 2), (2, 2), (3, 2), (4, 2), (5, 2), (6, 2), (7, 1), (8, 2), (9, 2), (10, 2), (11, 2), (12, 2), (13, 2), (14, 2)])] },
  { f := 9, L := [1], D := [] },
  { f := 10, L := [1, 5, 10], D := [(31, [(0, 2), (1, 2), (3, 2), (4, 3), (5, 2), (2, 1), (6, 2), (7, 2), (8, 2), (9, 2), (10, 2), (11, 2), (12, 1), (13, 2), (14, 2)])] },
  { f := 11, L := [2, 8, 11], D := [] },
  { f := 12, L := [1, 5], D := [] },
  { f := 40, L := [], D := [] },
  { f := 41, L := [1, 5], D := [(33, [(0, 2), (1, 2), (2, 2), (3, 2), (4, 2), (5, 2), (6, 2), (7, 2), (8, 2)])] },
  { f := 42, L := [], D := [] },
  { f := 43, L := [2], D := [] },
  { f := 44, L := [], D := [] },
  { f := 45, L := [3], D := [(4, [(0, 2), (1, 2), (2, 2), (3, 2), (4, 2), (5, 1), (6, 2), (7, 2), (8, 2), (9, 2), (10, 2), (11, 2), (12, 2), (13, 2), (14, 2), (15, 2), (16, 2)])] },
  { f := 46, L := [], D := [] },
  { f := 47, L := [2, 3], D := [(13, [(0, 2), (1, 2), (2, 2), (3, 2), (4, 2), (5, 2), (6, 2), (7, 2), (8, 2), (9, 2), (10, 2), (11, 2), (12, 0)]), (20, [(0, 2), (1, 2), (2, 2), (3, 2), (4, 2), (5, 2), (6, 2), (7, 2), (8, 2), (9, 2), (10, 2), (11, 2), (12, 2), (13, 2), (14, 2), (15, 2), (16, 2), (17, 2), (18, 2), (19, 2), (20, 2), (21, 2), (22, 2), (23, 2)]), (25, [(0, 2), (1, 2), (2, 2), (4, 2), (5, 3), (3, 1), (6, 2), (7, 2)]), (42, [(0, 2), (1, 2), (2, 2), (3, 2), (4, 2), (5, 2), (6, 2), (7, 2), (8, 2), (9, 2), (10, 2), (11, 2)])] },
  { f := 48, L := [3, 4], D := [(14, [(0, 2), (1, 2), (2, 2), (3, 2), (4, 2), (5, 2), (6, 2), (7, 2), (8, 2), (9, 2), (10, 2), (11, 2), (12, 2), (13, 2), (14, 2)]), (26, [(0, 2), (1, 2), (2, 2), (3, 2), (4, 2), (5, 2), (6, 2), (7, 1), (8, 2)])] },
  { f := 49, L := [], D := [] },
  { f := 70, L := [], D := [] },
  { f := 71, L := [], D := [] },
  { f := 72, L := [], D := [] },
  { f := 73, L := [], D := [] },
  { f := 74, L := [], D := [] },
  { f := 75, L := [], D := [] },
  { f := 76, L := [3, 4], D := [(9, [(0, 2), (1, 2), (2, 2), (3, 2), (4, 2), (5, 1), (6, 2), (7, 2), (8, 2), (9, 2), (10, 2), (11, 2), (12, 2), (13, 2), (14, 2), (15, 2), (16, 2), (17, 2), (18, 2), (19, 2), (20, 2), (21, 2), (22, 2), (23, 2), (24, 2), (25, 2), (26, 2)])] },
  { f := 93, L := [], D := [] },
  { f := 94, L := [], D := [] },
  { f := 117, L := [], D := [] }]

theorem tab_ok : tabOk Try.prog tab = true := by kernel_rfl
def enc3 (x : Int) : List Value := [.int .i64 x]
def E3 (h : AHeap) (cs : List Value) (x : Int) : Prop := cs = enc3 x
theorem E3_mono {h h' : AHeap} (le : h.sub h') (cs : List Value) (x : Int) (H : E3 h cs x) : E3 h' cs x := H
def W3 (x : Int) : Prop := (Lit.int .i64 x).wf = true ∧ True
set_option maxRecDepth 100000 in
theorem E3_wt {h : AHeap} {n : Nat} {cs : List Value} (H : WT Try.prog h n 3 cs) : ∃ x, E3 h cs x ∧ W3 x := by
  have k : SQ Try.prog h [.int .i64] cs := wt_flatS 1 n (by kernel_rfl) H
  obtain ⟨x0, r0, rfl, w0, k0⟩ := sq_int k
  obtain rfl := sq_nil k0
  exact ⟨x0, rfl, ⟨w0, trivial⟩⟩
def enc102 (x : ByteArray × Int × Int × Int × Int) : List Value := [.string x.1, .int .i64 x.2.1, .int .i64 x.2.2.1, .int .i64 x.2.2.2.1, .int .i64 x.2.2.2.2]
def E102 (h : AHeap) (cs : List Value) (x : ByteArray × Int × Int × Int × Int) : Prop := cs = enc102 x
theorem E102_mono {h h' : AHeap} (le : h.sub h') (cs : List Value) (x : ByteArray × Int × Int × Int × Int) (H : E102 h cs x) : E102 h' cs x := H
def W102 (x : ByteArray × Int × Int × Int × Int) : Prop := x.1.size ≤ maxLen ∧ (Lit.int .i64 x.2.1).wf = true ∧ (Lit.int .i64 x.2.2.1).wf = true ∧ (Lit.int .i64 x.2.2.2.1).wf = true ∧ (Lit.int .i64 x.2.2.2.2).wf = true ∧ True
set_option maxRecDepth 100000 in
theorem E102_wt {h : AHeap} {n : Nat} {cs : List Value} (H : WT Try.prog h n 102 cs) : ∃ x, E102 h cs x ∧ W102 x := by
  have k : SQ Try.prog h [.string, .int .i64, .int .i64, .int .i64, .int .i64] cs := wt_flatS 2 n (by kernel_rfl) H
  obtain ⟨x0, r0, rfl, w0, k0⟩ := sq_string k
  obtain ⟨x1, r1, rfl, w1, k1⟩ := sq_int k0
  obtain ⟨x2, r2, rfl, w2, k2⟩ := sq_int k1
  obtain ⟨x3, r3, rfl, w3, k3⟩ := sq_int k2
  obtain ⟨x4, r4, rfl, w4, k4⟩ := sq_int k3
  obtain rfl := sq_nil k4
  exact ⟨(x0, x1, x2, x3, x4), rfl, ⟨w0, w1, w2, w3, w4, trivial⟩⟩
def enc104 (x : ByteArray × Int × Bool) : List Value := [.string x.1, .int .i64 x.2.1, .bool x.2.2]
def E104 (h : AHeap) (cs : List Value) (x : ByteArray × Int × Bool) : Prop := cs = enc104 x
theorem E104_mono {h h' : AHeap} (le : h.sub h') (cs : List Value) (x : ByteArray × Int × Bool) (H : E104 h cs x) : E104 h' cs x := H
def W104 (x : ByteArray × Int × Bool) : Prop := x.1.size ≤ maxLen ∧ (Lit.int .i64 x.2.1).wf = true ∧ True
set_option maxRecDepth 100000 in
theorem E104_wt {h : AHeap} {n : Nat} {cs : List Value} (H : WT Try.prog h n 104 cs) : ∃ x, E104 h cs x ∧ W104 x := by
  have k : SQ Try.prog h [.string, .int .i64, .bool] cs := wt_flatS 2 n (by kernel_rfl) H
  obtain ⟨x0, r0, rfl, w0, k0⟩ := sq_string k
  obtain ⟨x1, r1, rfl, w1, k1⟩ := sq_int k0
  obtain ⟨x2, r2, rfl, k2⟩ := sq_bool k1
  obtain rfl := sq_nil k2
  exact ⟨(x0, x1, x2), rfl, ⟨w0, w1, trivial⟩⟩
def E40 (h : AHeap) (cs : List Value) (x : Int × Int × (List Int) × Int × Int) : Prop := ∃ s2 : Hd, cs = [.int .i64 x.1, .int .i64 x.2.1, sv s2, .int .u64 x.2.2.2.1, .int .i64 x.2.2.2.2] ∧ SlE E3 1 h (sv s2) x.2.2.1
theorem E40_mono {h h' : AHeap} (le : h.sub h') (cs : List Value) (x : Int × Int × (List Int) × Int × Int) (H : E40 h cs x) : E40 h' cs x := by
  obtain ⟨s2, e, k2⟩ := H
  exact ⟨s2, e, k2.mono le (E3_mono le)⟩
def W40 (x : Int × Int × (List Int) × Int × Int) : Prop := (Lit.int .i64 x.1).wf = true ∧ (Lit.int .i64 x.2.1).wf = true ∧ ((x.2.2.1.length ≤ maxLen ∧ x.2.2.1.length * 8 ≤ reachBytes) ∧ ∀ y ∈ x.2.2.1, W3 y) ∧ (Lit.int .u64 x.2.2.2.1).wf = true ∧ (Lit.int .i64 x.2.2.2.2).wf = true ∧ True
set_option maxRecDepth 100000 in
theorem E40_wt {h : AHeap} {n : Nat} {cs : List Value} (H : WT Try.prog h n 40 cs) : ∃ x, E40 h cs x ∧ W40 x := by
  have k : SQ Try.prog h [.int .i64, .int .i64, .slice 3, .int .u64, .int .i64] cs := wt_flatS 3 n (by kernel_rfl) H
  obtain ⟨x0, r0, rfl, w0, k0⟩ := sq_int k
  obtain ⟨x1, r1, rfl, w1, k1⟩ := sq_int k0
  obtain ⟨s2, r2, rfl, q2, k2⟩ := sq_slice k1
  obtain ⟨x2, a2, m2, w2⟩ := q2 E3 W3 1 (by kernel_rfl) fun n cs H => E3_wt H
  obtain ⟨x3, r3, rfl, w3, k3⟩ := sq_int k2
  obtain ⟨x4, r4, rfl, w4, k4⟩ := sq_int k3
  obtain rfl := sq_nil k4
  exact ⟨(x0, x1, x2, x3, x4), ⟨s2, rfl, a2⟩, ⟨w0, w1, ⟨m2, w2⟩, w3, w4, trivial⟩⟩
def E95 (h : AHeap) (cs : List Value) (x : Int × (List Int)) : Prop := ∃ s1 : Hd, cs = [.int .i64 x.1, sv s1] ∧ SlE E3 1 h (sv s1) x.2
theorem E95_mono {h h' : AHeap} (le : h.sub h') (cs : List Value) (x : Int × (List Int)) (H : E95 h cs x) : E95 h' cs x := by
  obtain ⟨s1, e, k1⟩ := H
  exact ⟨s1, e, k1.mono le (E3_mono le)⟩
def W95 (x : Int × (List Int)) : Prop := (Lit.int .i64 x.1).wf = true ∧ ((x.2.length ≤ maxLen ∧ x.2.length * 8 ≤ reachBytes) ∧ ∀ y ∈ x.2, W3 y) ∧ True
set_option maxRecDepth 100000 in
theorem E95_wt {h : AHeap} {n : Nat} {cs : List Value} (H : WT Try.prog h n 95 cs) : ∃ x, E95 h cs x ∧ W95 x := by
  have k : SQ Try.prog h [.int .i64, .slice 3] cs := wt_flatS 3 n (by kernel_rfl) H
  obtain ⟨x0, r0, rfl, w0, k0⟩ := sq_int k
  obtain ⟨s1, r1, rfl, q1, k1⟩ := sq_slice k0
  obtain ⟨x1, a1, m1, w1⟩ := q1 E3 W3 1 (by kernel_rfl) fun n cs H => E3_wt H
  obtain rfl := sq_nil k1
  exact ⟨(x0, x1), ⟨s1, rfl, a1⟩, ⟨w0, ⟨m1, w1⟩, trivial⟩⟩
def E35 (h : AHeap) (cs : List Value) (x : (List Int) × (List (Int × Int × (List Int) × Int × Int)) × Int × Int × (List (Int × (List Int))) × (List Int) × Int × Int × Int) : Prop := ∃ s0 s1 s4 s5 : Hd, cs = [sv s0, sv s1, .int .i64 x.2.2.1, .int .i64 x.2.2.2.1, sv s4, sv s5, .int .i64 x.2.2.2.2.2.2.1, .int .i64 x.2.2.2.2.2.2.2.1, .int .i64 x.2.2.2.2.2.2.2.2] ∧ SlE E3 1 h (sv s0) x.1 ∧ SlE E40 5 h (sv s1) x.2.1 ∧ SlE E95 2 h (sv s4) x.2.2.2.2.1 ∧ SlE E3 1 h (sv s5) x.2.2.2.2.2.1
theorem E35_mono {h h' : AHeap} (le : h.sub h') (cs : List Value) (x : (List Int) × (List (Int × Int × (List Int) × Int × Int)) × Int × Int × (List (Int × (List Int))) × (List Int) × Int × Int × Int) (H : E35 h cs x) : E35 h' cs x := by
  obtain ⟨s0, s1, s4, s5, e, k0, k1, k4, k5⟩ := H
  exact ⟨s0, s1, s4, s5, e, k0.mono le (E3_mono le), k1.mono le (E40_mono le), k4.mono le (E95_mono le), k5.mono le (E3_mono le)⟩
def W35 (x : (List Int) × (List (Int × Int × (List Int) × Int × Int)) × Int × Int × (List (Int × (List Int))) × (List Int) × Int × Int × Int) : Prop := ((x.1.length ≤ maxLen ∧ x.1.length * 8 ≤ reachBytes) ∧ ∀ y ∈ x.1, W3 y) ∧ ((x.2.1.length ≤ maxLen ∧ x.2.1.length * 56 ≤ reachBytes) ∧ ∀ y ∈ x.2.1, W40 y) ∧ (Lit.int .i64 x.2.2.1).wf = true ∧ (Lit.int .i64 x.2.2.2.1).wf = true ∧ ((x.2.2.2.2.1.length ≤ maxLen ∧ x.2.2.2.2.1.length * 32 ≤ reachBytes) ∧ ∀ y ∈ x.2.2.2.2.1, W95 y) ∧ ((x.2.2.2.2.2.1.length ≤ maxLen ∧ x.2.2.2.2.2.1.length * 8 ≤ reachBytes) ∧ ∀ y ∈ x.2.2.2.2.2.1, W3 y) ∧ (Lit.int .i64 x.2.2.2.2.2.2.1).wf = true ∧ (Lit.int .i64 x.2.2.2.2.2.2.2.1).wf = true ∧ (Lit.int .i64 x.2.2.2.2.2.2.2.2).wf = true ∧ True
set_option maxRecDepth 100000 in
theorem E35_wt {h : AHeap} {n : Nat} {cs : List Value} (H : WT Try.prog h n 35 cs) : ∃ x, E35 h cs x ∧ W35 x := by
  have k : SQ Try.prog h [.slice 3, .slice 40, .int .i64, .int .i64, .slice 95, .slice 3, .int .i64, .int .i64, .int .i64] cs := wt_flatS 6 n (by kernel_rfl) H
  obtain ⟨s0, r0, rfl, q0, k0⟩ := sq_slice k
  obtain ⟨x0, a0, m0, w0⟩ := q0 E3 W3 1 (by kernel_rfl) fun n cs H => E3_wt H
  obtain ⟨s1, r1, rfl, q1, k1⟩ := sq_slice k0
  obtain ⟨x1, a1, m1, w1⟩ := q1 E40 W40 5 (by kernel_rfl) fun n cs H => E40_wt H
  obtain ⟨x2, r2, rfl, w2, k2⟩ := sq_int k1
  obtain ⟨x3, r3, rfl, w3, k3⟩ := sq_int k2
  obtain ⟨s4, r4, rfl, q4, k4⟩ := sq_slice k3
  obtain ⟨x4, a4, m4, w4⟩ := q4 E95 W95 2 (by kernel_rfl) fun n cs H => E95_wt H
  obtain ⟨s5, r5, rfl, q5, k5⟩ := sq_slice k4
  obtain ⟨x5, a5, m5, w5⟩ := q5 E3 W3 1 (by kernel_rfl) fun n cs H => E3_wt H
  obtain ⟨x6, r6, rfl, w6, k6⟩ := sq_int k5
  obtain ⟨x7, r7, rfl, w7, k7⟩ := sq_int k6
  obtain ⟨x8, r8, rfl, w8, k8⟩ := sq_int k7
  obtain rfl := sq_nil k8
  exact ⟨(x0, x1, x2, x3, x4, x5, x6, x7, x8), ⟨s0, s1, s4, s5, rfl, a0, a1, a4, a5⟩, ⟨⟨m0, w0⟩, ⟨m1, w1⟩, w2, w3, ⟨m4, w4⟩, ⟨m5, w5⟩, w6, w7, w8, trivial⟩⟩
/-! 9 jacquard/jacquardlaw08.Few -/
def F9_L : List Nat := [1]
def F9_D : List (Nat × List (Nat × Nat)) := []
def F9_m1_2 : List Bool := [true, false, true, false, true, true, true, true, true, true, true, true, true, true, true, true, true, true, true, true, true, true, true, true, true, true, true, true, true, true, true, true, true, true, true, true, true, true, true, true, true, true, true]
def F9_m1_1 : List Bool := [true, false, true, false, false, true, true, true, true, true, true, true, true, true, true, true, true, true, true, true, true, true, true, true, true, true, true, true, true, true, true, true, true, true, true, true, true, true, true, true, true, true, true]
def F9_m1_0 : List Bool := [true, true, false, true, true, true, true, true, true, true, true, true, true, true, true, true, true, true, true, true, true, true, true, true, true, true, true, true, true, true, true, true, true, true, true, true, true, true, true, true, true, true, true]
def F9_s1 (l6 : List ((List Int) × (List (Int × Int × (List Int) × Int × Int)) × Int × Int × (List (Int × (List Int))) × (List Int) × Int × Int × Int)) (a7 : Int) (a8 : Int) : Option ((Int × Int) ⊕ (Nat × Int)) :=
  (bif decide (a8 < (l6.length : Int)) then
   (Option.bind (at? l6 a8) fun y10 =>
   (bif decide ((y10.1.length : Int) > 100) then
    some (.inr (0, 0))
   else
    some (.inl ((IntKind.i64.wrap (a7 + (y10.2.1.length : Int))), (IntKind.i64.wrap (a8 + 1))))))
  else
   some (.inr (1, a7)))
def F9_h1 (h : AHeap) (x1 : ByteArray) (v2 : Hd) (v3 : Hd) (v4 : Hd) (v5 : Hd) (v6 : Hd)  (a7 : Int) (a8 : Int) : AS := ⟨[junk, .pointer (some ⟨1, 0, none⟩), junk, .int .i64 a7, .int .i64 a8, junk, junk, junk, junk, junk, junk, junk, junk, junk, junk, junk, junk, junk, junk, junk, junk, junk, junk, junk, junk, junk, junk, junk, junk, junk, junk, junk, junk, junk, junk, junk, junk, junk, junk, junk, junk, junk, junk], [(1, [.string x1, (sv v2), (sv v3), (sv v4), (sv v5), (sv v6)])], h⟩
theorem F9_d1 : drawsOk F9_D (codeOf Try.prog 9 [1, 1, 0, 1, 0, 0]) = true := by kernel_rfl
def F9_x1_0 (h : AHeap) (x1 : ByteArray) (v2 : Hd) (v3 : Hd) (v4 : Hd) (v5 : Hd) (v6 : Hd)  (r : Nat × Int) : AS := ⟨[junk, junk, .bool false, junk, junk, junk, junk, junk, junk, junk, junk, junk, junk, junk, junk, junk, junk, junk, junk, junk, junk, junk, junk, junk, junk, junk, junk, junk, junk, junk, junk, junk, junk, junk, junk, junk, junk, junk, junk, junk, junk, junk, junk], [], h⟩
def F9_x1_1 (h : AHeap) (x1 : ByteArray) (v2 : Hd) (v3 : Hd) (v4 : Hd) (v5 : Hd) (v6 : Hd)  (r : Nat × Int) : AS := ⟨[junk, .pointer (some ⟨1, 0, none⟩), junk, .int .i64 r.2, junk, junk, junk, junk, junk, junk, junk, junk, junk, junk, junk, junk, junk, junk, junk, junk, junk, junk, junk, junk, junk, junk, junk, junk, junk, junk, junk, junk, junk, junk, junk, junk, junk, junk, junk, junk, junk, junk, junk], [(1, [.string x1, (sv v2), (sv v3), (sv v4), (sv v5), (sv v6)])], h⟩
def F9_x1 (h : AHeap) (x1 : ByteArray) (v2 : Hd) (v3 : Hd) (v4 : Hd) (v5 : Hd) (v6 : Hd) (r : Nat × Int) : Exit × AS := (bif Nat.beq r.1 0 then (.ret, (F9_x1_0 h x1 v2 v3 v4 v5 v6 r)) else ((.exit 0), (F9_x1_1 h x1 v2 v3 v4 v5 v6 r)))
set_option maxRecDepth 100000 in
theorem F9_r1 (h : AHeap) (x1 : ByteArray) (v2 : Hd) (v3 : Hd) (v4 : Hd) (v5 : Hd) (l6 : List ((List Int) × (List (Int × Int × (List Int) × Int × Int)) × Int × Int × (List (Int × (List Int))) × (List Int) × Int × Int × Int)) (v6 : Hd) (hv6 : SlE E35 9 h (sv v6) l6) (a7 : Int) (a8 : Int) (o : (Int × Int) ⊕ (Nat × Int)) : F9_s1 l6 a7 a8 = some o → RdF Try.prog (codeOf Try.prog 9 [1, 1, 0, 1, 0, 0]) (fun (s : Int × Int) => (F9_h1 h x1 v2 v3 v4 v5 v6 s.1 s.2)) (F9_x1 h x1 v2 v3 v4 v5 v6) (F9_h1 h x1 v2 v3 v4 v5 v6 a7 a8) o := by
  unfold F9_s1
  refine dec_bif (fun c9 => ?_) (fun c9 => ?_)
  · refine bind_opt fun y10 e10 => ?_
    obtain ⟨id10, off10, g10, cs10, ix10, at10, v10_0, v10_1, v10_4, v10_5, rfl, hv10_0, hv10_1, hv10_4, hv10_5⟩ := SlE.at hv6 e10
    refine dec_bif (fun c11 => ?_) (fun c11 => ?_)
    · intro hr
      obtain rfl := Option.some.inj hr
      show AWp Try.prog _ (Ends1 ((F9_x1 h x1 v2 v3 v4 v5 v6) ((0, 0) : Nat × Int)).1 ((F9_x1 h x1 v2 v3 v4 v5 v6) ((0, 0) : Nat × Int)).2) _
      exact pEnd_sound good (L := F9_L) (D := F9_D) (its := [.g, .g, .g, (.ln l6.length), .g, (.b true), .g, .g, .g, .g, (.ix id10 off10 g10), .g, (.ld ((sv v10_1))), (.ln y10.2.1.length), .g, .g, .g, .g, .g, (.ix id10 off10 g10), .g, (.ld ((sv v10_0))), (.ln y10.1.length), .g, (.b true), .g]) (ds := F9_m1_0) (ks := [1]) (e := ((F9_x1 h x1 v2 v3 v4 v5 v6) ((0, 0) : Nat × Int)).1) (s2 := ((F9_x1 h x1 v2 v3 v4 v5 v6) ((0, 0) : Nat × Int)).2) (hC := (And.intro c11 (And.intro (SlE.len hv10_0) (And.intro (At.one (P := Try.prog) (t := 22) (v := (sv v10_0)) at10 (by kernel_rfl) 0 rfl rfl) (And.intro ix10 (And.intro (SlE.len hv10_1) (And.intro (At.one (P := Try.prog) (t := 30) (v := (sv v10_1)) at10 (by kernel_rfl) 1 rfl rfl) (And.intro ix10 (And.intro c9 (And.intro (SlE.len hv6) trivial)))))))))) (hd := F9_d1) (h := by kernel_rfl)
    · intro hr
      obtain rfl := Option.some.inj hr
      show AWp Try.prog _ (Ends1 .normal (F9_h1 h x1 v2 v3 v4 v5 v6 (IntKind.i64.wrap (a7 + (y10.2.1.length : Int))) (IntKind.i64.wrap (a8 + 1)))) _
      exact pEnd_sound good (L := F9_L) (D := F9_D) (its := [.g, .g, .g, (.ln l6.length), .g, (.b true), .g, .g, .g, .g, (.ix id10 off10 g10), .g, (.ld ((sv v10_1))), (.ln y10.2.1.length), .g, .g, .g, .g, .g, (.ix id10 off10 g10), .g, (.ld ((sv v10_0))), (.ln y10.1.length), .g, (.b false), .g, .g, .g]) (ds := F9_m1_1) (ks := []) (e := .normal) (s2 := (F9_h1 h x1 v2 v3 v4 v5 v6 (IntKind.i64.wrap (a7 + (y10.2.1.length : Int))) (IntKind.i64.wrap (a8 + 1)))) (hC := (And.intro c11 (And.intro (SlE.len hv10_0) (And.intro (At.one (P := Try.prog) (t := 22) (v := (sv v10_0)) at10 (by kernel_rfl) 0 rfl rfl) (And.intro ix10 (And.intro (SlE.len hv10_1) (And.intro (At.one (P := Try.prog) (t := 30) (v := (sv v10_1)) at10 (by kernel_rfl) 1 rfl rfl) (And.intro ix10 (And.intro c9 (And.intro (SlE.len hv6) trivial)))))))))) (hd := F9_d1) (h := by kernel_rfl)
  · intro hr
    obtain rfl := Option.some.inj hr
    show AWp Try.prog _ (Ends1 ((F9_x1 h x1 v2 v3 v4 v5 v6) ((1, a7) : Nat × Int)).1 ((F9_x1 h x1 v2 v3 v4 v5 v6) ((1, a7) : Nat × Int)).2) _
    exact pEnd_sound good (L := F9_L) (D := F9_D) (its := [.g, .g, .g, (.ln l6.length), .g, (.b false)]) (ds := F9_m1_2) (ks := []) (e := ((F9_x1 h x1 v2 v3 v4 v5 v6) ((1, a7) : Nat × Int)).1) (s2 := ((F9_x1 h x1 v2 v3 v4 v5 v6) ((1, a7) : Nat × Int)).2) (hC := (And.intro c9 (And.intro (SlE.len hv6) trivial))) (hd := F9_d1) (h := by kernel_rfl)
theorem F9_l1_0 (h : AHeap) (x1 : ByteArray) (v2 : Hd) (v3 : Hd) (v4 : Hd) (v5 : Hd) (l6 : List ((List Int) × (List (Int × Int × (List Int) × Int × Int)) × Int × Int × (List (Int × (List Int))) × (List Int) × Int × Int × Int)) (v6 : Hd) (hv6 : SlE E35 9 h (sv v6) l6) (x : Int × Int) (r : Nat × Int) (hl : loopO (fun (s : Int × Int) => F9_s1 l6 s.1 s.2) x = some r) (q0 : Nat.beq r.1 0 = true) : AWp Try.prog (.loop (codeOf Try.prog 9 [1, 1, 0, 1, 0, 0])) (Ends1 .ret (F9_x1_0 h x1 v2 v3 v4 v5 v6 r)) ((fun (s : Int × Int) => (F9_h1 h x1 v2 v3 v4 v5 v6 s.1 s.2)) x) := by
  have k := loop_fun (P := Try.prog) (c := (codeOf Try.prog 9 [1, 1, 0, 1, 0, 0])) (step := (fun (s : Int × Int) => F9_s1 l6 s.1 s.2)) (hd := (fun (s : Int × Int) => (F9_h1 h x1 v2 v3 v4 v5 v6 s.1 s.2))) (X := (F9_x1 h x1 v2 v3 v4 v5 v6)) (by intro t; unfold F9_x1; cases Nat.beq t.1 0 <;> (intro h; cases h)) (fun x => F9_r1 h x1 v2 v3 v4 v5 l6 v6 hv6 x.1 x.2) hl
  simp only [F9_x1, q0, cond_true, cond_false] at k
  exact k
theorem F9_l1_1 (h : AHeap) (x1 : ByteArray) (v2 : Hd) (v3 : Hd) (v4 : Hd) (v5 : Hd) (l6 : List ((List Int) × (List (Int × Int × (List Int) × Int × Int)) × Int × Int × (List (Int × (List Int))) × (List Int) × Int × Int × Int)) (v6 : Hd) (hv6 : SlE E35 9 h (sv v6) l6) (x : Int × Int) (r : Nat × Int) (hl : loopO (fun (s : Int × Int) => F9_s1 l6 s.1 s.2) x = some r) (q0 : Nat.beq r.1 0 = false) : AWp Try.prog (.loop (codeOf Try.prog 9 [1, 1, 0, 1, 0, 0])) (Ends1 (.exit 0) (F9_x1_1 h x1 v2 v3 v4 v5 v6 r)) ((fun (s : Int × Int) => (F9_h1 h x1 v2 v3 v4 v5 v6 s.1 s.2)) x) := by
  have k := loop_fun (P := Try.prog) (c := (codeOf Try.prog 9 [1, 1, 0, 1, 0, 0])) (step := (fun (s : Int × Int) => F9_s1 l6 s.1 s.2)) (hd := (fun (s : Int × Int) => (F9_h1 h x1 v2 v3 v4 v5 v6 s.1 s.2))) (X := (F9_x1 h x1 v2 v3 v4 v5 v6)) (by intro t; unfold F9_x1; cases Nat.beq t.1 0 <;> (intro h; cases h)) (fun x => F9_r1 h x1 v2 v3 v4 v5 l6 v6 hv6 x.1 x.2) hl
  simp only [F9_x1, q0, cond_true, cond_false] at k
  exact k
def F9 (x1 : ByteArray) (l2 : List Int) (l3 : List (ByteArray × Int × Int × Int × Int)) (l4 : List (ByteArray × Int × Bool)) (l5 : List Int) (l6 : List ((List Int) × (List (Int × Int × (List Int) × Int × Int)) × Int × Int × (List (Int × (List Int))) × (List Int) × Int × Int × Int)) : Option (Bool) :=
  (Option.bind (loopO (fun (s : Int × Int) => F9_s1 l6 s.1 s.2) (0, 0)) fun y12 =>
  (bif (Nat.beq y12.1 0) then
   some (false)
  else
   (bif decide ((l6.length : Int) ≤ 30) then
    (bif decide (y12.2 ≤ 300) then
     some (decide ((l2.length : Int) ≤ 600))
    else
     some (false))
   else
    some (false))))
set_option maxRecDepth 100000 in
theorem F9_spec (x1 : ByteArray) (l2 : List Int) (l3 : List (ByteArray × Int × Int × Int × Int)) (l4 : List (ByteArray × Int × Bool)) (l5 : List Int) (l6 : List ((List Int) × (List (Int × Int × (List Int) × Int × Int)) × Int × Int × (List (Int × (List Int))) × (List Int) × Int × Int × Int)) (v2 : Hd) (v3 : Hd) (v4 : Hd) (v5 : Hd) (v6 : Hd) (h : AHeap) (hv2 : SlE E3 1 h (sv v2) l2) (hv3 : SlE E102 5 h (sv v3) l3) (hv4 : SlE E104 3 h (sv v4) l4) (hv5 : SlE E3 1 h (sv v5) l5) (hv6 : SlE E35 9 h (sv v6) l6) (r : Bool) : F9 x1 l2 l3 l4 l5 l6 = some r → ACalls Try.prog 9 [.agg #[.string x1, (sv v2), (sv v3), (sv v4), (sv v5), (sv v6)]] h (fun v' h'' => v' = (.bool r : Value) ∧ h'' = h) := by
  unfold F9
  refine bind_opt fun y12 e12 => ?_
  refine dec_bif (fun c13 => ?_) (fun c13 => ?_)
  · intro hr
    obtain rfl := Option.some.inj hr
    exact pFun_sound good tab_ok (f := 9) (its := [.g, .g, .g, .g, (.l F9_m1_1 [] .ret (F9_x1_0 h x1 v2 v3 v4 v5 v6 y12))]) (args := [.agg #[.string x1, (sv v2), (sv v3), (sv v4), (sv v5), (sv v6)]]) (h := h) (h' := h) (v := .bool false) (hC := (And.intro (F9_l1_0 h x1 v2 v3 v4 v5 l6 v6 hv6 (0, 0) y12 e12 c13) trivial)) (hr := by kernel_rfl)
  · refine dec_bif (fun c14 => ?_) (fun c14 => ?_)
    · refine dec_bif (fun c15 => ?_) (fun c15 => ?_)
      · intro hr
        obtain rfl := Option.some.inj hr
        exact pFun_sound good tab_ok (f := 9) (its := [.g, .g, .g, .g, (.l F9_m1_1 [] (.exit 0) (F9_x1_1 h x1 v2 v3 v4 v5 v6 y12)), .g, .g, (.ln l6.length), .g, .g, (.w .g), (.w .g), (.p true), .g, (.w .g), (.w .g), (.w (.ln l2.length)), (.w .g), (.p true), .g]) (args := [.agg #[.string x1, (sv v2), (sv v3), (sv v4), (sv v5), (sv v6)]]) (h := h) (h' := h) (v := .bool (decide ((l2.length : Int) ≤ 600))) (hC := (And.intro c15 (And.intro (g_tt c15) (And.intro (SlE.len hv2) (And.intro (g_tt c15) (And.intro (g_tt c15) (And.intro (g_tt c15) (And.intro c14 (And.intro (g_tt c14) (And.intro (g_tt c14) (And.intro (SlE.len hv6) (And.intro (F9_l1_1 h x1 v2 v3 v4 v5 l6 v6 hv6 (0, 0) y12 e12 c13) trivial)))))))))))) (hr := by kernel_rfl)
      · intro hr
        obtain rfl := Option.some.inj hr
        exact pFun_sound good tab_ok (f := 9) (its := [.g, .g, .g, .g, (.l F9_m1_1 [] (.exit 0) (F9_x1_1 h x1 v2 v3 v4 v5 v6 y12)), .g, .g, (.ln l6.length), .g, .g, (.w .g), (.w .g), (.p true), .g, .n, .n, .n, .n, (.p false), .g]) (args := [.agg #[.string x1, (sv v2), (sv v3), (sv v4), (sv v5), (sv v6)]]) (h := h) (h' := h) (v := .bool false) (hC := (And.intro c15 (And.intro (g_ft c15) (And.intro (g_ft c15) (And.intro (g_ft c15) (And.intro (g_ft c15) (And.intro c14 (And.intro (g_tt c14) (And.intro (g_tt c14) (And.intro (SlE.len hv6) (And.intro (F9_l1_1 h x1 v2 v3 v4 v5 l6 v6 hv6 (0, 0) y12 e12 c13) trivial))))))))))) (hr := by kernel_rfl)
    · intro hr
      obtain rfl := Option.some.inj hr
      exact pFun_sound good tab_ok (f := 9) (its := [.g, .g, .g, .g, (.l F9_m1_1 [] (.exit 0) (F9_x1_1 h x1 v2 v3 v4 v5 v6 y12)), .g, .g, (.ln l6.length), .g, .g, .n, .n, (.p false), .g, .n, .n, .n, .n, .g, .g]) (args := [.agg #[.string x1, (sv v2), (sv v3), (sv v4), (sv v5), (sv v6)]]) (h := h) (h' := h) (v := .bool false) (hC := (And.intro (g_ft l_f) (And.intro (g_ft l_f) (And.intro (g_ft l_f) (And.intro (g_ft l_f) (And.intro c14 (And.intro (g_ft c14) (And.intro (g_ft c14) (And.intro (SlE.len hv6) (And.intro (F9_l1_1 h x1 v2 v3 v4 v5 l6 v6 hv6 (0, 0) y12 e12 c13) trivial)))))))))) (hr := by kernel_rfl)
/-! 70 jacquard/jacquardref03.Letter -/
def F70 (x1 : Int) : Bool :=
  (bif decide (x1 ≥ 97) then
   (bif decide (x1 ≤ 122) then
    true
   else
    (bif decide (x1 ≥ 65) then
     (bif decide (x1 ≤ 90) then
      true
     else
      (x1 == 95))
    else
     (x1 == 95)))
  else
   (bif decide (x1 ≥ 65) then
    (bif decide (x1 ≤ 90) then
     true
    else
     (x1 == 95))
   else
    (x1 == 95)))
set_option maxRecDepth 100000 in
theorem F70_spec (x1 : Int) (h : AHeap)  (r : Bool) : F70 x1 = r → ACalls Try.prog 70 [.int .u8 x1] h (fun v' h'' => v' = (.bool r : Value) ∧ h'' = h) := by
  unfold F70
  refine dec_bif (fun c2 => ?_) (fun c2 => ?_)
  · refine dec_bif (fun c3 => ?_) (fun c3 => ?_)
    · intro hr
      subst hr
      exact pFun_sound good tab_ok (f := 70) (its := [.g, .g, .g, .g, (.w .g), (.w .g), (.p true), .g, .n, .n, .n, .n, .n, .n, (.p true), .g, .n, .n, .g, .g]) (args := [.int .u8 x1]) (h := h) (h' := h) (v := .bool true) (hC := (And.intro (g_tf l_t) (And.intro (g_tf l_t) (And.intro c3 (And.intro (g_tf c3) (And.intro l_f (And.intro l_f (And.intro (g_tf c3) (And.intro (g_tf c3) (And.intro (g_tf c3) (And.intro c2 (And.intro (g_tt c2) (And.intro (g_tt c2) trivial))))))))))))) (hr := by kernel_rfl)
    · refine dec_bif (fun c4 => ?_) (fun c4 => ?_)
      · refine dec_bif (fun c5 => ?_) (fun c5 => ?_)
        · intro hr
          subst hr
          exact pFun_sound good tab_ok (f := 70) (its := [.g, .g, .g, .g, (.w .g), (.w .g), (.p true), .g, (.w .g), (.w .g), (.w .g), (.w .g), (.w .g), (.w (.p true)), (.p false), .g, .n, .n, (.p true), .g]) (args := [.int .u8 x1]) (h := h) (h' := h) (v := .bool true) (hC := (And.intro c5 (And.intro (g_tf c5) (And.intro (g_tf c5) (And.intro c3 (And.intro c4 (And.intro (g_ff c3) (And.intro (g_tt c4) (And.intro (g_tt c4) (And.intro (g_ff c3) (And.intro (g_ff c3) (And.intro (g_ff c3) (And.intro c2 (And.intro (g_tt c2) (And.intro (g_tt c2) trivial))))))))))))))) (hr := by kernel_rfl)
        · intro hr
          subst hr
          exact pFun_sound good tab_ok (f := 70) (its := [.g, .g, .g, .g, (.w .g), (.w .g), (.p true), .g, (.w .g), (.w .g), (.w .g), (.w .g), (.w .g), (.w (.p true)), (.p false), .g, (.w .g), (.w .g), (.p false), .g]) (args := [.int .u8 x1]) (h := h) (h' := h) (v := .bool (x1 == 95)) (hC := (And.intro c5 (And.intro (g_ff c5) (And.intro (g_ff c5) (And.intro c3 (And.intro c4 (And.intro (g_ff c3) (And.intro (g_tt c4) (And.intro (g_tt c4) (And.intro (g_ff c3) (And.intro (g_ff c3) (And.intro (g_ff c3) (And.intro c2 (And.intro (g_tt c2) (And.intro (g_tt c2) trivial))))))))))))))) (hr := by kernel_rfl)
      · intro hr
        subst hr
        exact pFun_sound good tab_ok (f := 70) (its := [.g, .g, .g, .g, (.w .g), (.w .g), (.p true), .g, (.w .g), (.w .g), (.w .g), .n, .n, (.w (.p false)), (.p false), .g, (.w .g), (.w .g), .g, .g]) (args := [.int .u8 x1]) (h := h) (h' := h) (v := .bool (x1 == 95)) (hC := (And.intro (g_ff l_f) (And.intro (g_ff l_f) (And.intro c3 (And.intro c4 (And.intro (g_ff c3) (And.intro (g_ft c4) (And.intro (g_ft c4) (And.intro (g_ff c3) (And.intro (g_ff c3) (And.intro (g_ff c3) (And.intro c2 (And.intro (g_tt c2) (And.intro (g_tt c2) trivial)))))))))))))) (hr := by kernel_rfl)
  · refine dec_bif (fun c6 => ?_) (fun c6 => ?_)
    · refine dec_bif (fun c7 => ?_) (fun c7 => ?_)
      · intro hr
        subst hr
        exact pFun_sound good tab_ok (f := 70) (its := [.g, .g, .g, .g, .n, .n, (.p false), .g, (.w .g), (.w .g), (.w .g), (.w .g), (.w .g), (.w (.p true)), .g, .g, .n, .n, (.p true), .g]) (args := [.int .u8 x1]) (h := h) (h' := h) (v := .bool true) (hC := (And.intro c7 (And.intro (g_tf c7) (And.intro (g_tf c7) (And.intro c6 (And.intro (g_ff l_f) (And.intro (g_tt c6) (And.intro (g_tt c6) (And.intro (g_ff l_f) (And.intro (g_ff l_f) (And.intro (g_ff l_f) (And.intro c2 (And.intro (g_ft c2) (And.intro (g_ft c2) trivial)))))))))))))) (hr := by kernel_rfl)
      · intro hr
        subst hr
        exact pFun_sound good tab_ok (f := 70) (its := [.g, .g, .g, .g, .n, .n, (.p false), .g, (.w .g), (.w .g), (.w .g), (.w .g), (.w .g), (.w (.p true)), .g, .g, (.w .g), (.w .g), (.p false), .g]) (args := [.int .u8 x1]) (h := h) (h' := h) (v := .bool (x1 == 95)) (hC := (And.intro c7 (And.intro (g_ff c7) (And.intro (g_ff c7) (And.intro c6 (And.intro (g_ff l_f) (And.intro (g_tt c6) (And.intro (g_tt c6) (And.intro (g_ff l_f) (And.intro (g_ff l_f) (And.intro (g_ff l_f) (And.intro c2 (And.intro (g_ft c2) (And.intro (g_ft c2) trivial)))))))))))))) (hr := by kernel_rfl)
    · intro hr
      subst hr
      exact pFun_sound good tab_ok (f := 70) (its := [.g, .g, .g, .g, .n, .n, (.p false), .g, (.w .g), (.w .g), (.w .g), .n, .n, (.w (.p false)), .g, .g, (.w .g), (.w .g), .g, .g]) (args := [.int .u8 x1]) (h := h) (h' := h) (v := .bool (x1 == 95)) (hC := (And.intro (g_ff l_f) (And.intro (g_ff l_f) (And.intro c6 (And.intro (g_ff l_f) (And.intro (g_ft c6) (And.intro (g_ft c6) (And.intro (g_ff l_f) (And.intro (g_ff l_f) (And.intro (g_ff l_f) (And.intro c2 (And.intro (g_ft c2) (And.intro (g_ft c2) trivial))))))))))))) (hr := by kernel_rfl)
/-! 71 jacquard/jacquardref03.Digit -/
def F71_L : List Nat := []
def F71_D : List (Nat × List (Nat × Nat)) := []
def F71_m1_0 : List Bool := [false, false, true, true, true, false, true, true, true, true, true, true, true, true, true, true, true, true, true, true, true, true, true, true, true, true, true, true, true, true, true, true, true, true, true, true, true, true, true]
def F71_s1 (x1 : Int)  : Option Int :=
  (bif decide (x1 ≥ 48) then
   (bif decide (x1 ≤ 57) then
    some (IntKind.i64.wrap ((IntKind.u8.wrap (x1 - 48))))
   else
    some (-1))
  else
   some (-1))
def F71_h1 (h : AHeap) (x1 : Int) (x2 : Int)   : AS := ⟨[.int .u8 x1, .int .i64 x2, junk, junk, junk, .int .i64 (-1), junk, junk, junk, junk, junk, junk, junk, junk, junk, junk, junk, junk, junk, junk, junk, junk, junk, junk, junk, junk, junk, junk, junk, junk, junk, junk, junk, junk, junk, junk, junk, junk, junk], [], h⟩
theorem F71_d1 : drawsOk F71_D (codeOf Try.prog 71 [1, 1, 0]) = true := by kernel_rfl
def F71_x1_0 (h : AHeap) (x1 : Int) (x2 : Int)  (r : Int) : AS := ⟨[.int .u8 x1, .int .i64 x2, junk, junk, junk, .int .i64 r, junk, junk, junk, junk, junk, junk, junk, junk, junk, junk, junk, junk, junk, junk, junk, junk, junk, junk, junk, junk, junk, junk, junk, junk, junk, junk, junk, junk, junk, junk, junk, junk, junk], [], h⟩
def F71_x1 (h : AHeap) (x1 : Int) (x2 : Int) (r : Int) : Exit × AS := (.normal, (F71_x1_0 h x1 x2 r))
set_option maxRecDepth 100000 in
theorem F71_r1 (h : AHeap) (x1 : Int) (x2 : Int) (r : Int) : F71_s1 x1 = some r → AWp Try.prog (codeOf Try.prog 71 [1, 1, 0]) (Ends1 ((F71_x1 h x1 x2) r).1 ((F71_x1 h x1 x2) r).2) (F71_h1 h x1 x2) := by
  unfold F71_s1
  refine dec_bif (fun c3 => ?_) (fun c3 => ?_)
  · refine dec_bif (fun c4 => ?_) (fun c4 => ?_)
    · intro hr
      obtain rfl := Option.some.inj hr
      show AWp Try.prog _ (Ends1 ((F71_x1 h x1 x2) ((IntKind.i64.wrap ((IntKind.u8.wrap (x1 - 48)))) : Int)).1 ((F71_x1 h x1 x2) ((IntKind.i64.wrap ((IntKind.u8.wrap (x1 - 48)))) : Int)).2) _
      exact pEnd_sound good (L := F71_L) (D := F71_D) (its := [.g, .g, .g, (.w .g), (.w .g), (.p true), (.b true), .g, .g, .g, .g]) (ds := F71_m1_0) (ks := []) (e := ((F71_x1 h x1 x2) ((IntKind.i64.wrap ((IntKind.u8.wrap (x1 - 48)))) : Int)).1) (s2 := ((F71_x1 h x1 x2) ((IntKind.i64.wrap ((IntKind.u8.wrap (x1 - 48)))) : Int)).2) (hC := (And.intro c4 (And.intro c3 (And.intro (g_tt c3) (And.intro (g_tt c3) trivial))))) (hd := F71_d1) (h := by kernel_rfl)
    · intro hr
      obtain rfl := Option.some.inj hr
      show AWp Try.prog _ (Ends1 ((F71_x1 h x1 x2) ((-1) : Int)).1 ((F71_x1 h x1 x2) ((-1) : Int)).2) _
      exact pEnd_sound good (L := F71_L) (D := F71_D) (its := [.g, .g, .g, (.w .g), (.w .g), (.p true), (.b false)]) (ds := F71_m1_0) (ks := []) (e := ((F71_x1 h x1 x2) ((-1) : Int)).1) (s2 := ((F71_x1 h x1 x2) ((-1) : Int)).2) (hC := (And.intro c4 (And.intro c3 (And.intro (g_tt c3) (And.intro (g_tt c3) trivial))))) (hd := F71_d1) (h := by kernel_rfl)
  · intro hr
    obtain rfl := Option.some.inj hr
    show AWp Try.prog _ (Ends1 ((F71_x1 h x1 x2) ((-1) : Int)).1 ((F71_x1 h x1 x2) ((-1) : Int)).2) _
    exact pEnd_sound good (L := F71_L) (D := F71_D) (its := [.g, .g, .g, .n, .n, (.p false), (.b false)]) (ds := F71_m1_0) (ks := []) (e := ((F71_x1 h x1 x2) ((-1) : Int)).1) (s2 := ((F71_x1 h x1 x2) ((-1) : Int)).2) (hC := (And.intro l_f (And.intro c3 (And.intro (g_ft c3) (And.intro (g_ft c3) trivial))))) (hd := F71_d1) (h := by kernel_rfl)
theorem F71_l1_0 (h : AHeap) (x1 : Int) (x2 : Int) (r : Int) (hl : F71_s1 x1 = some r) : AWp Try.prog (codeOf Try.prog 71 [1, 1, 0]) (Ends1 .normal (F71_x1_0 h x1 x2 r)) (F71_h1 h x1 x2) := by
  have k := F71_r1 h x1 x2 r hl
  exact k
def F71_m2_0 : List Bool := [false, false, true, true, true, false, true, true, true, true, true, true, true, true, true, true, true, true, true, true, true, true, true, true, true, true, true, true, true, true, true, true, true, true, true, true, true, true, true]
def F71_s2 (x1 : Int) (y5 : Int)  : Option Int :=
  (bif decide (x1 ≥ 97) then
   (bif decide (x1 ≤ 102) then
    some (IntKind.i64.wrap ((IntKind.i64.wrap ((IntKind.u8.wrap (x1 - 97)))) + 10))
   else
    some (y5))
  else
   some (y5))
def F71_h2 (h : AHeap) (x1 : Int) (x2 : Int) (y5 : Int)   : AS := ⟨[.int .u8 x1, .int .i64 x2, junk, junk, junk, .int .i64 y5, junk, junk, junk, junk, junk, junk, junk, junk, junk, junk, junk, junk, junk, junk, junk, junk, junk, junk, junk, junk, junk, junk, junk, junk, junk, junk, junk, junk, junk, junk, junk, junk, junk], [], h⟩
theorem F71_d2 : drawsOk F71_D (codeOf Try.prog 71 [1, 1, 1, 0]) = true := by kernel_rfl
def F71_x2_0 (h : AHeap) (x1 : Int) (x2 : Int)  (r : Int) : AS := ⟨[.int .u8 x1, .int .i64 x2, junk, junk, junk, .int .i64 r, junk, junk, junk, junk, junk, junk, junk, junk, junk, junk, junk, junk, junk, junk, junk, junk, junk, junk, junk, junk, junk, junk, junk, junk, junk, junk, junk, junk, junk, junk, junk, junk, junk], [], h⟩
def F71_x2 (h : AHeap) (x1 : Int) (x2 : Int) (r : Int) : Exit × AS := (.normal, (F71_x2_0 h x1 x2 r))
set_option maxRecDepth 100000 in
theorem F71_r2 (h : AHeap) (x1 : Int) (x2 : Int) (y5 : Int) (r : Int) : F71_s2 x1 y5 = some r → AWp Try.prog (codeOf Try.prog 71 [1, 1, 1, 0]) (Ends1 ((F71_x2 h x1 x2) r).1 ((F71_x2 h x1 x2) r).2) (F71_h2 h x1 x2 y5) := by
  unfold F71_s2
  refine dec_bif (fun c6 => ?_) (fun c6 => ?_)
  · refine dec_bif (fun c7 => ?_) (fun c7 => ?_)
    · intro hr
      obtain rfl := Option.some.inj hr
      show AWp Try.prog _ (Ends1 ((F71_x2 h x1 x2) ((IntKind.i64.wrap ((IntKind.i64.wrap ((IntKind.u8.wrap (x1 - 97)))) + 10)) : Int)).1 ((F71_x2 h x1 x2) ((IntKind.i64.wrap ((IntKind.i64.wrap ((IntKind.u8.wrap (x1 - 97)))) + 10)) : Int)).2) _
      exact pEnd_sound good (L := F71_L) (D := F71_D) (its := [.g, .g, .g, (.w .g), (.w .g), (.p true), (.b true), .g, .g, .g, .g, .g]) (ds := F71_m2_0) (ks := []) (e := ((F71_x2 h x1 x2) ((IntKind.i64.wrap ((IntKind.i64.wrap ((IntKind.u8.wrap (x1 - 97)))) + 10)) : Int)).1) (s2 := ((F71_x2 h x1 x2) ((IntKind.i64.wrap ((IntKind.i64.wrap ((IntKind.u8.wrap (x1 - 97)))) + 10)) : Int)).2) (hC := (And.intro c7 (And.intro c6 (And.intro (g_tt c6) (And.intro (g_tt c6) trivial))))) (hd := F71_d2) (h := by kernel_rfl)
    · intro hr
      obtain rfl := Option.some.inj hr
      show AWp Try.prog _ (Ends1 ((F71_x2 h x1 x2) (y5 : Int)).1 ((F71_x2 h x1 x2) (y5 : Int)).2) _
      exact pEnd_sound good (L := F71_L) (D := F71_D) (its := [.g, .g, .g, (.w .g), (.w .g), (.p true), (.b false)]) (ds := F71_m2_0) (ks := []) (e := ((F71_x2 h x1 x2) (y5 : Int)).1) (s2 := ((F71_x2 h x1 x2) (y5 : Int)).2) (hC := (And.intro c7 (And.intro c6 (And.intro (g_tt c6) (And.intro (g_tt c6) trivial))))) (hd := F71_d2) (h := by kernel_rfl)
  · intro hr
    obtain rfl := Option.some.inj hr
    show AWp Try.prog _ (Ends1 ((F71_x2 h x1 x2) (y5 : Int)).1 ((F71_x2 h x1 x2) (y5 : Int)).2) _
    exact pEnd_sound good (L := F71_L) (D := F71_D) (its := [.g, .g, .g, .n, .n, (.p false), (.b false)]) (ds := F71_m2_0) (ks := []) (e := ((F71_x2 h x1 x2) (y5 : Int)).1) (s2 := ((F71_x2 h x1 x2) (y5 : Int)).2) (hC := (And.intro l_f (And.intro c6 (And.intro (g_ft c6) (And.intro (g_ft c6) trivial))))) (hd := F71_d2) (h := by kernel_rfl)
theorem F71_l2_0 (h : AHeap) (x1 : Int) (x2 : Int) (y5 : Int) (r : Int) (hl : F71_s2 x1 y5 = some r) : AWp Try.prog (codeOf Try.prog 71 [1, 1, 1, 0]) (Ends1 .normal (F71_x2_0 h x1 x2 r)) (F71_h2 h x1 x2 y5) := by
  have k := F71_r2 h x1 x2 y5 r hl
  exact k
def F71 (x1 : Int) (x2 : Int) : Option (Int) :=
  (Option.bind (F71_s1 x1) fun y5 =>
  (Option.bind (F71_s2 x1 y5) fun y8 =>
  (bif decide (x1 ≥ 65) then
   (bif decide (x1 ≤ 70) then
    (bif decide ((IntKind.i64.wrap ((IntKind.i64.wrap ((IntKind.u8.wrap (x1 - 65)))) + 10)) ≥ x2) then
     some (-1)
    else
     some (IntKind.i64.wrap ((IntKind.i64.wrap ((IntKind.u8.wrap (x1 - 65)))) + 10)))
   else
    (bif decide (y8 ≥ x2) then
     some (-1)
    else
     some (y8)))
  else
   (bif decide (y8 ≥ x2) then
    some (-1)
   else
    some (y8)))))
set_option maxRecDepth 100000 in
theorem F71_spec (x1 : Int) (x2 : Int) (h : AHeap)  (r : Int) : F71 x1 x2 = some r → ACalls Try.prog 71 [.int .u8 x1, .int .i64 x2] h (fun v' h'' => v' = (.int .i64 r : Value) ∧ h'' = h) := by
  unfold F71
  refine bind_opt fun y5 e5 => ?_
  refine bind_opt fun y8 e8 => ?_
  refine dec_bif (fun c9 => ?_) (fun c9 => ?_)
  · refine dec_bif (fun c10 => ?_) (fun c10 => ?_)
    · refine dec_bif (fun c11 => ?_) (fun c11 => ?_)
      · intro hr
        obtain rfl := Option.some.inj hr
        exact pFun_sound good tab_ok (f := 71) (its := [.g, .g, (.j F71_m1_0 [] .normal (F71_x1_0 h x1 x2 y5)), (.j F71_m2_0 [] .normal (F71_x2_0 h x1 x2 y8)), .g, .g, .g, (.w .g), (.w .g), (.p true), (.b true), .g, .g, .g, .g, .g, .g, .g, .g, (.b true), .g]) (args := [.int .u8 x1, .int .i64 x2]) (h := h) (h' := h) (v := .int .i64 (-1)) (hC := (And.intro c11 (And.intro c10 (And.intro c9 (And.intro (g_tt c9) (And.intro (g_tt c9) (And.intro (F71_l2_0 h x1 x2 y5 y8 e8) (And.intro (F71_l1_0 h x1 x2 y5 e5) trivial)))))))) (hr := by kernel_rfl)
      · intro hr
        obtain rfl := Option.some.inj hr
        exact pFun_sound good tab_ok (f := 71) (its := [.g, .g, (.j F71_m1_0 [] .normal (F71_x1_0 h x1 x2 y5)), (.j F71_m2_0 [] .normal (F71_x2_0 h x1 x2 y8)), .g, .g, .g, (.w .g), (.w .g), (.p true), (.b true), .g, .g, .g, .g, .g, .g, .g, .g, (.b false), .g, .g]) (args := [.int .u8 x1, .int .i64 x2]) (h := h) (h' := h) (v := .int .i64 (IntKind.i64.wrap ((IntKind.i64.wrap ((IntKind.u8.wrap (x1 - 65)))) + 10))) (hC := (And.intro c11 (And.intro c10 (And.intro c9 (And.intro (g_tt c9) (And.intro (g_tt c9) (And.intro (F71_l2_0 h x1 x2 y5 y8 e8) (And.intro (F71_l1_0 h x1 x2 y5 e5) trivial)))))))) (hr := by kernel_rfl)
    · refine dec_bif (fun c12 => ?_) (fun c12 => ?_)
      · intro hr
        obtain rfl := Option.some.inj hr
        exact pFun_sound good tab_ok (f := 71) (its := [.g, .g, (.j F71_m1_0 [] .normal (F71_x1_0 h x1 x2 y5)), (.j F71_m2_0 [] .normal (F71_x2_0 h x1 x2 y8)), .g, .g, .g, (.w .g), (.w .g), (.p true), (.b false), .g, .g, .g, (.b true), .g]) (args := [.int .u8 x1, .int .i64 x2]) (h := h) (h' := h) (v := .int .i64 (-1)) (hC := (And.intro c12 (And.intro c10 (And.intro c9 (And.intro (g_tt c9) (And.intro (g_tt c9) (And.intro (F71_l2_0 h x1 x2 y5 y8 e8) (And.intro (F71_l1_0 h x1 x2 y5 e5) trivial)))))))) (hr := by kernel_rfl)
      · intro hr
        obtain rfl := Option.some.inj hr
        exact pFun_sound good tab_ok (f := 71) (its := [.g, .g, (.j F71_m1_0 [] .normal (F71_x1_0 h x1 x2 y5)), (.j F71_m2_0 [] .normal (F71_x2_0 h x1 x2 y8)), .g, .g, .g, (.w .g), (.w .g), (.p true), (.b false), .g, .g, .g, (.b false), .g, .g]) (args := [.int .u8 x1, .int .i64 x2]) (h := h) (h' := h) (v := .int .i64 y8) (hC := (And.intro c12 (And.intro c10 (And.intro c9 (And.intro (g_tt c9) (And.intro (g_tt c9) (And.intro (F71_l2_0 h x1 x2 y5 y8 e8) (And.intro (F71_l1_0 h x1 x2 y5 e5) trivial)))))))) (hr := by kernel_rfl)
  · refine dec_bif (fun c13 => ?_) (fun c13 => ?_)
    · intro hr
      obtain rfl := Option.some.inj hr
      exact pFun_sound good tab_ok (f := 71) (its := [.g, .g, (.j F71_m1_0 [] .normal (F71_x1_0 h x1 x2 y5)), (.j F71_m2_0 [] .normal (F71_x2_0 h x1 x2 y8)), .g, .g, .g, .n, .n, (.p false), (.b false), .g, .g, .g, (.b true), .g]) (args := [.int .u8 x1, .int .i64 x2]) (h := h) (h' := h) (v := .int .i64 (-1)) (hC := (And.intro c13 (And.intro l_f (And.intro c9 (And.intro (g_ft c9) (And.intro (g_ft c9) (And.intro (F71_l2_0 h x1 x2 y5 y8 e8) (And.intro (F71_l1_0 h x1 x2 y5 e5) trivial)))))))) (hr := by kernel_rfl)
    · intro hr
      obtain rfl := Option.some.inj hr
      exact pFun_sound good tab_ok (f := 71) (its := [.g, .g, (.j F71_m1_0 [] .normal (F71_x1_0 h x1 x2 y5)), (.j F71_m2_0 [] .normal (F71_x2_0 h x1 x2 y8)), .g, .g, .g, .n, .n, (.p false), (.b false), .g, .g, .g, (.b false), .g, .g]) (args := [.int .u8 x1, .int .i64 x2]) (h := h) (h' := h) (v := .int .i64 y8) (hC := (And.intro c13 (And.intro l_f (And.intro c9 (And.intro (g_ft c9) (And.intro (g_ft c9) (And.intro (F71_l2_0 h x1 x2 y5 y8 e8) (And.intro (F71_l1_0 h x1 x2 y5 e5) trivial)))))))) (hr := by kernel_rfl)
/-! 40 jacquard/jacquardref08.Identifier -/
def F40_L : List Nat := []
def F40_D : List (Nat × List (Nat × Nat)) := []
def F40_m1_2 : List Bool := [false, true, true, true, true, true, true, true, true, true, true, true, true, true, true, true, true, true, true, true, true, true, true, true, true, true, true, true, true, true, true, true, true, true]
def F40_m1_1 : List Bool := [false, true, true, false, true, true, true, true, true, true, true, true, true, true, true, true, true, true, true, true, true, true, true, true, true, true, true, true, true, true, true, true, true, true]
def F40_m1_0 : List Bool := [true, true, false, true, true, true, true, true, true, true, true, true, true, true, true, true, true, true, true, true, true, true, true, true, true, true, true, true, true, true, true, true, true, true]
def F40_s1 (x1 : ByteArray) (a2 : Int) : Option (Int ⊕ Nat) :=
  (bif decide (a2 < (x1.size : Int)) then
   (Option.bind (at? (bytesL x1) a2) fun y4 =>
   (bif (!(F70 y4)) then
    (bif (a2 == 0) then
     some (.inr 0)
    else
     (Option.bind (at? (bytesL x1) a2) fun y8 =>
     (Option.bind (F71 y8 10) fun y9 =>
     (bif decide (y9 < 0) then
      some (.inr 0)
     else
      some (.inl (IntKind.i64.wrap (a2 + 1)))))))
   else
    some (.inl (IntKind.i64.wrap (a2 + 1)))))
  else
   some (.inr 1))
def F40_h1 (h : AHeap) (x1 : ByteArray)  (a2 : Int) : AS := ⟨[.string x1, junk, junk, .int .i64 a2, junk, junk, junk, junk, junk, junk, junk, junk, junk, junk, junk, junk, junk, junk, junk, junk, junk, junk, junk, junk, junk, junk, junk, junk, junk, junk, junk, junk, junk, junk], [], h⟩
theorem F40_d1 : drawsOk F40_D (codeOf Try.prog 40 [1, 0, 1, 0, 0]) = true := by kernel_rfl
def F40_x1_0 (h : AHeap) (x1 : ByteArray)  (r : Nat) : AS := ⟨[junk, junk, .bool false, junk, junk, junk, junk, junk, junk, junk, junk, junk, junk, junk, junk, junk, junk, junk, junk, junk, junk, junk, junk, junk, junk, junk, junk, junk, junk, junk, junk, junk, junk, junk], [], h⟩
def F40_x1_1 (h : AHeap) (x1 : ByteArray)  (r : Nat) : AS := ⟨[.string x1, junk, junk, junk, junk, junk, junk, junk, junk, junk, junk, junk, junk, junk, junk, junk, junk, junk, junk, junk, junk, junk, junk, junk, junk, junk, junk, junk, junk, junk, junk, junk, junk, junk], [], h⟩
def F40_x1 (h : AHeap) (x1 : ByteArray) (r : Nat) : Exit × AS := (bif Nat.beq r 0 then (.ret, (F40_x1_0 h x1 r)) else ((.exit 0), (F40_x1_1 h x1 r)))
set_option maxRecDepth 100000 in
theorem F40_r1 (h : AHeap) (x1 : ByteArray) (a2 : Int) (o : Int ⊕ Nat) : F40_s1 x1 a2 = some o → RdF Try.prog (codeOf Try.prog 40 [1, 0, 1, 0, 0]) (fun (s : Int) => (F40_h1 h x1 s)) (F40_x1 h x1) (F40_h1 h x1 a2) o := by
  unfold F40_s1
  refine dec_bif (fun c3 => ?_) (fun c3 => ?_)
  · refine bind_opt fun y4 e4 => ?_
    refine dec_bif (fun c6 => ?_) (fun c6 => ?_)
    · refine dec_bif (fun c7 => ?_) (fun c7 => ?_)
      · intro hr
        obtain rfl := Option.some.inj hr
        show AWp Try.prog _ (Ends1 ((F40_x1 h x1) (0 : Nat)).1 ((F40_x1 h x1) (0 : Nat)).2) _
        exact pEnd_sound good (L := F40_L) (D := F40_D) (its := [.g, .g, .g, .g, (.b true), .g, .g, (.si y4), (.c (.bool (F70 y4)) h), .g, .g, (.w .g), (.w .g), (.w .g), .n, .n, .n, .n, .n, (.w (.p true)), (.p true), (.b true), .g]) (ds := F40_m1_0) (ks := []) (e := ((F40_x1 h x1) (0 : Nat)).1) (s2 := ((F40_x1 h x1) (0 : Nat)).2) (hC := (And.intro l_t (And.intro c6 (And.intro c7 (And.intro (g_tt c6) (And.intro (g_tf c7) (And.intro (g_tf c7) (And.intro (g_tf c7) (And.intro (g_tf c7) (And.intro (g_tf c7) (And.intro (g_tt c6) (And.intro (g_tt c6) (And.intro (g_tt c6) (And.intro (F70_spec y4 h _ rfl) (And.intro (sread_at e4) (And.intro c3 trivial)))))))))))))))) (hd := F40_d1) (h := by kernel_rfl)
      · refine bind_opt fun y8 e8 => ?_
        refine bind_opt fun y9 e9 => ?_
        refine dec_bif (fun c11 => ?_) (fun c11 => ?_)
        · intro hr
          obtain rfl := Option.some.inj hr
          show AWp Try.prog _ (Ends1 ((F40_x1 h x1) (0 : Nat)).1 ((F40_x1 h x1) (0 : Nat)).2) _
          exact pEnd_sound good (L := F40_L) (D := F40_D) (its := [.g, .g, .g, .g, (.b true), .g, .g, (.si y4), (.c (.bool (F70 y4)) h), .g, .g, (.w .g), (.w .g), (.w .g), (.w .g), (.w .g), (.w (.si y8)), (.w (.c (.int .i64 y9) h)), (.w .g), (.w (.p false)), (.p true), (.b true), .g]) (ds := F40_m1_0) (ks := []) (e := ((F40_x1 h x1) (0 : Nat)).1) (s2 := ((F40_x1 h x1) (0 : Nat)).2) (hC := (And.intro c11 (And.intro c6 (And.intro c7 (And.intro (g_tt c6) (And.intro (g_ff c7) (And.intro (F71_spec y8 10 h _ e9) (And.intro (g_ff c7) (And.intro (sread_at e8) (And.intro (g_ff c7) (And.intro (g_ff c7) (And.intro (g_ff c7) (And.intro (g_tt c6) (And.intro (g_tt c6) (And.intro (g_tt c6) (And.intro (F70_spec y4 h _ rfl) (And.intro (sread_at e4) (And.intro c3 trivial)))))))))))))))))) (hd := F40_d1) (h := by kernel_rfl)
        · intro hr
          obtain rfl := Option.some.inj hr
          show AWp Try.prog _ (Ends1 .normal (F40_h1 h x1 (IntKind.i64.wrap (a2 + 1)))) _
          exact pEnd_sound good (L := F40_L) (D := F40_D) (its := [.g, .g, .g, .g, (.b true), .g, .g, (.si y4), (.c (.bool (F70 y4)) h), .g, .g, (.w .g), (.w .g), (.w .g), (.w .g), (.w .g), (.w (.si y8)), (.w (.c (.int .i64 y9) h)), (.w .g), (.w (.p false)), (.p true), (.b false), .g, .g, .g]) (ds := F40_m1_1) (ks := []) (e := .normal) (s2 := (F40_h1 h x1 (IntKind.i64.wrap (a2 + 1)))) (hC := (And.intro c11 (And.intro c6 (And.intro c7 (And.intro (g_tt c6) (And.intro (g_ff c7) (And.intro (F71_spec y8 10 h _ e9) (And.intro (g_ff c7) (And.intro (sread_at e8) (And.intro (g_ff c7) (And.intro (g_ff c7) (And.intro (g_ff c7) (And.intro (g_tt c6) (And.intro (g_tt c6) (And.intro (g_tt c6) (And.intro (F70_spec y4 h _ rfl) (And.intro (sread_at e4) (And.intro c3 trivial)))))))))))))))))) (hd := F40_d1) (h := by kernel_rfl)
    · intro hr
      obtain rfl := Option.some.inj hr
      show AWp Try.prog _ (Ends1 .normal (F40_h1 h x1 (IntKind.i64.wrap (a2 + 1)))) _
      exact pEnd_sound good (L := F40_L) (D := F40_D) (its := [.g, .g, .g, .g, (.b true), .g, .g, (.si y4), (.c (.bool (F70 y4)) h), .g, .g, .n, .n, .n, .n, .n, .n, .n, .n, .n, (.p false), (.b false), .g, .g, .g]) (ds := F40_m1_1) (ks := []) (e := .normal) (s2 := (F40_h1 h x1 (IntKind.i64.wrap (a2 + 1)))) (hC := (And.intro l_f (And.intro c6 (And.intro (g_ft c6) (And.intro l_f (And.intro l_f (And.intro l_f (And.intro l_f (And.intro l_f (And.intro (g_ft c6) (And.intro (g_ft c6) (And.intro (g_ft c6) (And.intro (F70_spec y4 h _ rfl) (And.intro (sread_at e4) (And.intro c3 trivial))))))))))))))) (hd := F40_d1) (h := by kernel_rfl)
  · intro hr
    obtain rfl := Option.some.inj hr
    show AWp Try.prog _ (Ends1 ((F40_x1 h x1) (1 : Nat)).1 ((F40_x1 h x1) (1 : Nat)).2) _
    exact pEnd_sound good (L := F40_L) (D := F40_D) (its := [.g, .g, .g, .g, (.b false)]) (ds := F40_m1_2) (ks := []) (e := ((F40_x1 h x1) (1 : Nat)).1) (s2 := ((F40_x1 h x1) (1 : Nat)).2) (hC := (And.intro c3 trivial)) (hd := F40_d1) (h := by kernel_rfl)
theorem F40_l1_0 (h : AHeap) (x1 : ByteArray) (x : Int) (r : Nat) (hl : loopO (fun (s : Int) => F40_s1 x1 s) x = some r) (q0 : Nat.beq r 0 = true) : AWp Try.prog (.loop (codeOf Try.prog 40 [1, 0, 1, 0, 0])) (Ends1 .ret (F40_x1_0 h x1 r)) ((fun (s : Int) => (F40_h1 h x1 s)) x) := by
  have k := loop_fun (P := Try.prog) (c := (codeOf Try.prog 40 [1, 0, 1, 0, 0])) (step := (fun (s : Int) => F40_s1 x1 s)) (hd := (fun (s : Int) => (F40_h1 h x1 s))) (X := (F40_x1 h x1)) (by intro t; unfold F40_x1; cases Nat.beq t 0 <;> (intro h; cases h)) (fun x => F40_r1 h x1 x) hl
  simp only [F40_x1, q0, cond_true, cond_false] at k
  exact k
theorem F40_l1_1 (h : AHeap) (x1 : ByteArray) (x : Int) (r : Nat) (hl : loopO (fun (s : Int) => F40_s1 x1 s) x = some r) (q0 : Nat.beq r 0 = false) : AWp Try.prog (.loop (codeOf Try.prog 40 [1, 0, 1, 0, 0])) (Ends1 (.exit 0) (F40_x1_1 h x1 r)) ((fun (s : Int) => (F40_h1 h x1 s)) x) := by
  have k := loop_fun (P := Try.prog) (c := (codeOf Try.prog 40 [1, 0, 1, 0, 0])) (step := (fun (s : Int) => F40_s1 x1 s)) (hd := (fun (s : Int) => (F40_h1 h x1 s))) (X := (F40_x1 h x1)) (by intro t; unfold F40_x1; cases Nat.beq t 0 <;> (intro h; cases h)) (fun x => F40_r1 h x1 x) hl
  simp only [F40_x1, q0, cond_true, cond_false] at k
  exact k
def F40 (x1 : ByteArray) : Option (Bool) :=
  (Option.bind (loopO (fun (s : Int) => F40_s1 x1 s) 0) fun y12 =>
  (bif (Nat.beq y12 0) then
   some (false)
  else
   (bif decide ((x1.size : Int) ≥ 1) then
    some (decide ((x1.size : Int) ≤ 64))
   else
    some (false))))
set_option maxRecDepth 100000 in
theorem F40_spec (x1 : ByteArray) (h : AHeap)  (r : Bool) : F40 x1 = some r → ACalls Try.prog 40 [.string x1] h (fun v' h'' => v' = (.bool r : Value) ∧ h'' = h) := by
  unfold F40
  refine bind_opt fun y12 e12 => ?_
  refine dec_bif (fun c13 => ?_) (fun c13 => ?_)
  · intro hr
    obtain rfl := Option.some.inj hr
    exact pFun_sound good tab_ok (f := 40) (its := [.g, .g, (.l F40_m1_1 [] .ret (F40_x1_0 h x1 y12))]) (args := [.string x1]) (h := h) (h' := h) (v := .bool false) (hC := (And.intro (F40_l1_0 h x1 0 y12 e12 c13) trivial)) (hr := by kernel_rfl)
  · refine dec_bif (fun c14 => ?_) (fun c14 => ?_)
    · intro hr
      obtain rfl := Option.some.inj hr
      exact pFun_sound good tab_ok (f := 40) (its := [.g, .g, (.l F40_m1_1 [] (.exit 0) (F40_x1_1 h x1 y12)), .g, .g, .g, .g, (.w .g), (.w .g), (.w .g), (.p true), .g]) (args := [.string x1]) (h := h) (h' := h) (v := .bool (decide ((x1.size : Int) ≤ 64))) (hC := (And.intro c14 (And.intro (g_tt c14) (And.intro (g_tt c14) (And.intro (g_tt c14) (And.intro (F40_l1_1 h x1 0 y12 e12 c13) trivial)))))) (hr := by kernel_rfl)
    · intro hr
      obtain rfl := Option.some.inj hr
      exact pFun_sound good tab_ok (f := 40) (its := [.g, .g, (.l F40_m1_1 [] (.exit 0) (F40_x1_1 h x1 y12)), .g, .g, .g, .g, .n, .n, .n, (.p false), .g]) (args := [.string x1]) (h := h) (h' := h) (v := .bool false) (hC := (And.intro c14 (And.intro (g_ft c14) (And.intro (g_ft c14) (And.intro (g_ft c14) (And.intro (F40_l1_1 h x1 0 y12 e12 c13) trivial)))))) (hr := by kernel_rfl)
/-! 72 jacquard/jacquardref08.right -/
def F72 (x1 : Int) : Bool :=
  (bif decide (x1 ≥ 1) then
   (decide (x1 ≤ 64))
  else
   false)
set_option maxRecDepth 100000 in
theorem F72_spec (x1 : Int) (h : AHeap)  (r : Bool) : F72 x1 = r → ACalls Try.prog 72 [.int .i64 x1] h (fun v' h'' => v' = (.bool r : Value) ∧ h'' = h) := by
  unfold F72
  refine dec_bif (fun c2 => ?_) (fun c2 => ?_)
  · intro hr
    subst hr
    exact pFun_sound good tab_ok (f := 72) (its := [.g, .g, .g, .g, (.w .g), (.w .g), (.p true), .g]) (args := [.int .i64 x1]) (h := h) (h' := h) (v := .bool (decide (x1 ≤ 64))) (hC := (And.intro c2 (And.intro (g_tt c2) (And.intro (g_tt c2) trivial)))) (hr := by kernel_rfl)
  · intro hr
    subst hr
    exact pFun_sound good tab_ok (f := 72) (its := [.g, .g, .g, .g, .n, .n, (.p false), .g]) (args := [.int .i64 x1]) (h := h) (h' := h) (v := .bool false) (hC := (And.intro c2 (And.intro (g_ft c2) (And.intro (g_ft c2) trivial)))) (hr := by kernel_rfl)
def enc9 (x : ByteArray) : List Value := [.string x]
def E9 (h : AHeap) (cs : List Value) (x : ByteArray) : Prop := cs = enc9 x
theorem E9_mono {h h' : AHeap} (le : h.sub h') (cs : List Value) (x : ByteArray) (H : E9 h cs x) : E9 h' cs x := H
def W9 (x : ByteArray) : Prop := x.size ≤ maxLen ∧ True
set_option maxRecDepth 100000 in
theorem E9_wt {h : AHeap} {n : Nat} {cs : List Value} (H : WT Try.prog h n 9 cs) : ∃ x, E9 h cs x ∧ W9 x := by
  have k : SQ Try.prog h [.string] cs := wt_flatS 1 n (by kernel_rfl) H
  obtain ⟨x0, r0, rfl, w0, k0⟩ := sq_string k
  obtain rfl := sq_nil k0
  exact ⟨x0, rfl, ⟨w0, trivial⟩⟩
/-! 41 jacquard/jacquardref08.memories -/
def F41_L : List Nat := [1, 5]
def F41_D : List (Nat × List (Nat × Nat)) := [(33, [(0, 2), (1, 2), (2, 2), (3, 2), (4, 2), (5, 2), (6, 2), (7, 2), (8, 2)])]
def F41_m1_1 : List Bool := [true, false, true, false, false, false, true, true, true, true, true, true, true, true, true, true, true, true, true, true, true, true, true, true, true, true, true, true, true, true, true, true, true, true, true, true, true, true, true, true, true, false, true, true, true, true, true, true, true, true, true, true, true, true, true, true, true, true, true, true, true, true, true, true, true, true, true, true, true, true, true, true, true, true, true, true, true, true, true, true, true, true, true, true, true, true, true, true, true, true, true, true, true, true, true, true, true, true, true, true, true, true, true, true, true, true, true, true, true, true, true, true, true, true, true, true, true, true, true, true, true, true, true, true, true, true, true, true, true, true, true, true]
def F41_m1_0 : List Bool := [true, false, true, false, false, false, true, true, true, true, true, true, true, true, true, true, true, true, true, true, true, true, true, true, true, true, true, true, true, true, true, true, true, true, true, true, true, true, true, true, true, false, false, true, true, true, true, true, true, true, true, true, true, true, true, true, true, true, true, true, true, true, true, true, true, true, true, true, true, true, true, true, true, true, true, true, true, true, true, true, true, true, true, true, true, true, true, true, true, true, true, true, true, true, true, true, true, true, true, true, true, true, true, true, true, true, true, true, true, true, true, true, true, true, true, true, true, true, true, true, true, true, true, true, true, true, true, true, true, true, true, true]
def F41_s1 (y13 : ByteArray × Int × Int × Int × Int)  : Option Bool :=
  (bif (y13.2.2.2.1 == 0) then
   some (y13.2.2.2.1 == 0)
  else
   some (y13.2.2.2.1 == 3))
def F41_h1 (x1 : ByteArray) (v2 : Hd) (v3 : Hd) (v4 : Hd) (v5 : Hd) (v6 : Hd) (a9 : Int) (y13 : ByteArray × Int × Int × Int × Int) (v17 : Hd) (h17 : AHeap)   : AS := ⟨[junk, .pointer (some ⟨1, 0, none⟩), junk, (sv v17), .int .i64 a9, .pointer (some ⟨5, 0, none⟩), junk, junk, junk, junk, junk, junk, junk, junk, junk, junk, junk, junk, junk, junk, junk, junk, junk, junk, junk, junk, junk, junk, junk, junk, junk, junk, junk, junk, junk, junk, junk, junk, junk, junk, junk, .int .i64 y13.2.2.2.1, junk, junk, junk, junk, junk, junk, junk, junk, junk, junk, junk, junk, junk, junk, junk, junk, junk, junk, junk, junk, junk, junk, junk, junk, junk, junk, junk, junk, junk, junk, junk, junk, junk, junk, junk, junk, junk, junk, junk, junk, junk, junk, junk, junk, junk, junk, junk, junk, junk, junk, junk, junk, junk, junk, junk, junk, junk, junk, junk, junk, junk, junk, junk, junk, junk, junk, junk, junk, junk, junk, junk, junk, junk, junk, junk, junk, junk, junk, junk, junk, junk, junk, junk, junk, junk, junk, junk, junk, junk, junk], [(1, [.string x1, (sv v2), (sv v3), (sv v4), (sv v5), (sv v6)]), (5, [.string y13.1, .int .i64 y13.2.1, .int .i64 y13.2.2.1, .int .i64 y13.2.2.2.1, .int .i64 y13.2.2.2.2])], h17⟩
theorem F41_d1 : drawsOk F41_D (codeOf Try.prog 41 [1, 1, 0, 1, 0, 0, 1, 0, 0, 1, 1, 1, 1, 0, 0]) = true := by kernel_rfl
def F41_x1_0 (x1 : ByteArray) (v2 : Hd) (v3 : Hd) (v4 : Hd) (v5 : Hd) (v6 : Hd) (a9 : Int) (y13 : ByteArray × Int × Int × Int × Int) (v17 : Hd) (h17 : AHeap)  (r : Bool) : AS := ⟨[junk, .pointer (some ⟨1, 0, none⟩), junk, (sv v17), .int .i64 a9, .pointer (some ⟨5, 0, none⟩), junk, junk, junk, junk, junk, junk, junk, junk, junk, junk, junk, junk, junk, junk, junk, junk, junk, junk, junk, junk, junk, junk, junk, junk, junk, junk, junk, junk, junk, junk, junk, junk, junk, junk, junk, .int .i64 y13.2.2.2.1, .bool r, junk, junk, junk, junk, junk, junk, junk, junk, junk, junk, junk, junk, junk, junk, junk, junk, junk, junk, junk, junk, junk, junk, junk, junk, junk, junk, junk, junk, junk, junk, junk, junk, junk, junk, junk, junk, junk, junk, junk, junk, junk, junk, junk, junk, junk, junk, junk, junk, junk, junk, junk, junk, junk, junk, junk, junk, junk, junk, junk, junk, junk, junk, junk, junk, junk, junk, junk, junk, junk, junk, junk, junk, junk, junk, junk, junk, junk, junk, junk, junk, junk, junk, junk, junk, junk, junk, junk, junk, junk], [(1, [.string x1, (sv v2), (sv v3), (sv v4), (sv v5), (sv v6)]), (5, [.string y13.1, .int .i64 y13.2.1, .int .i64 y13.2.2.1, .int .i64 y13.2.2.2.1, .int .i64 y13.2.2.2.2])], h17⟩
def F41_x1 (x1 : ByteArray) (v2 : Hd) (v3 : Hd) (v4 : Hd) (v5 : Hd) (v6 : Hd) (a9 : Int) (y13 : ByteArray × Int × Int × Int × Int) (v17 : Hd) (h17 : AHeap) (r : Bool) : Exit × AS := (.normal, (F41_x1_0 x1 v2 v3 v4 v5 v6 a9 y13 v17 h17 r))
set_option maxRecDepth 100000 in
theorem F41_r1 (h : AHeap) (x1 : ByteArray) (v2 : Hd) (v3 : Hd) (v4 : Hd) (v5 : Hd) (v6 : Hd) (a9 : Int) (y13 : ByteArray × Int × Int × Int × Int) (v17 : Hd) (h17 : AHeap) (r : Bool) : F41_s1 y13 = some r → AWp Try.prog (codeOf Try.prog 41 [1, 1, 0, 1, 0, 0, 1, 0, 0, 1, 1, 1, 1, 0, 0]) (Ends1 ((F41_x1 x1 v2 v3 v4 v5 v6 a9 y13 v17 h17) r).1 ((F41_x1 x1 v2 v3 v4 v5 v6 a9 y13 v17 h17) r).2) (F41_h1 x1 v2 v3 v4 v5 v6 a9 y13 v17 h17) := by
  unfold F41_s1
  refine dec_bif (fun c23 => ?_) (fun c23 => ?_)
  · intro hr
    obtain rfl := Option.some.inj hr
    show AWp Try.prog _ (Ends1 ((F41_x1 x1 v2 v3 v4 v5 v6 a9 y13 v17 h17) ((y13.2.2.2.1 == 0) : Bool)).1 ((F41_x1 x1 v2 v3 v4 v5 v6 a9 y13 v17 h17) ((y13.2.2.2.1 == 0) : Bool)).2) _
    exact pEnd_sound good (L := F41_L) (D := F41_D) (its := [.g, .g, (.b true)]) (ds := F41_m1_0) (ks := []) (e := ((F41_x1 x1 v2 v3 v4 v5 v6 a9 y13 v17 h17) ((y13.2.2.2.1 == 0) : Bool)).1) (s2 := ((F41_x1 x1 v2 v3 v4 v5 v6 a9 y13 v17 h17) ((y13.2.2.2.1 == 0) : Bool)).2) (hC := (And.intro c23 trivial)) (hd := F41_d1) (h := by kernel_rfl)
  · intro hr
    obtain rfl := Option.some.inj hr
    show AWp Try.prog _ (Ends1 ((F41_x1 x1 v2 v3 v4 v5 v6 a9 y13 v17 h17) ((y13.2.2.2.1 == 3) : Bool)).1 ((F41_x1 x1 v2 v3 v4 v5 v6 a9 y13 v17 h17) ((y13.2.2.2.1 == 3) : Bool)).2) _
    exact pEnd_sound good (L := F41_L) (D := F41_D) (its := [.g, .g, (.b false), .g, .g]) (ds := F41_m1_0) (ks := []) (e := ((F41_x1 x1 v2 v3 v4 v5 v6 a9 y13 v17 h17) ((y13.2.2.2.1 == 3) : Bool)).1) (s2 := ((F41_x1 x1 v2 v3 v4 v5 v6 a9 y13 v17 h17) ((y13.2.2.2.1 == 3) : Bool)).2) (hC := (And.intro c23 trivial)) (hd := F41_d1) (h := by kernel_rfl)
theorem F41_l1_0 (h : AHeap) (x1 : ByteArray) (v2 : Hd) (v3 : Hd) (v4 : Hd) (v5 : Hd) (v6 : Hd) (a9 : Int) (y13 : ByteArray × Int × Int × Int × Int) (v17 : Hd) (h17 : AHeap) (r : Bool) (hl : F41_s1 y13 = some r) : AWp Try.prog (codeOf Try.prog 41 [1, 1, 0, 1, 0, 0, 1, 0, 0, 1, 1, 1, 1, 0, 0]) (Ends1 .normal (F41_x1_0 x1 v2 v3 v4 v5 v6 a9 y13 v17 h17 r)) (F41_h1 x1 v2 v3 v4 v5 v6 a9 y13 v17 h17) := by
  have k := F41_r1 h x1 v2 v3 v4 v5 v6 a9 y13 v17 h17 r hl
  exact k
def F41_m2_1 : List Bool := [true, false, true, false, false, false, true, true, true, true, true, true, true, true, true, true, true, true, true, true, true, true, true, true, true, true, true, true, true, true, true, true, true, true, true, true, true, true, true, true, true, false, true, true, true, true, true, true, true, true, true, true, true, true, true, true, true, true, true, true, true, true, true, true, true, true, true, true, true, true, true, true, true, true, true, true, true, true, true, true, true, true, true, true, true, true, true, true, true, true, true, true, true, true, true, true, true, true, true, true, true, true, true, true, true, true, true, true, true, true, true, true, true, true, true, true, true, true, true, true, true, true, true, true, true, true, true, true, true, true, true, true]
def F41_m2_0 : List Bool := [true, false, true, false, false, false, true, true, true, true, true, true, true, true, true, true, true, true, true, true, true, true, true, true, true, true, true, true, true, true, true, true, true, true, true, true, true, true, true, true, true, true, true, true, true, true, true, true, true, true, true, true, true, true, true, true, true, true, false, true, true, true, true, true, true, true, true, true, true, true, true, true, true, true, true, true, true, true, true, true, true, true, true, true, true, true, true, true, true, true, true, true, true, true, true, true, true, true, true, true, true, true, true, true, true, true, true, true, true, true, true, true, true, true, true, true, true, true, true, true, true, true, true, true, true, true, true, true, true, true, true, true]
def F41_s2 (y13 : ByteArray × Int × Int × Int × Int)  : Option Bool :=
  (bif (y13.2.2.2.1 == 1) then
   some (y13.2.2.2.1 == 1)
  else
   some (y13.2.2.2.1 == 2))
def F41_h2 (x1 : ByteArray) (v2 : Hd) (v3 : Hd) (v4 : Hd) (v5 : Hd) (v6 : Hd) (a9 : Int) (y13 : ByteArray × Int × Int × Int × Int) (v17 : Hd) (h17 : AHeap)   : AS := ⟨[junk, .pointer (some ⟨1, 0, none⟩), junk, (sv v17), .int .i64 a9, .pointer (some ⟨5, 0, none⟩), junk, junk, junk, junk, junk, junk, junk, junk, junk, junk, junk, junk, junk, junk, junk, junk, junk, junk, junk, junk, junk, junk, junk, junk, junk, junk, junk, junk, junk, junk, junk, junk, junk, junk, junk, .int .i64 y13.2.2.2.1, junk, junk, junk, junk, junk, junk, junk, junk, junk, junk, junk, junk, junk, junk, junk, junk, junk, junk, junk, junk, junk, junk, junk, junk, junk, junk, junk, junk, junk, junk, junk, junk, junk, junk, junk, junk, junk, junk, junk, junk, junk, junk, junk, junk, junk, junk, junk, junk, junk, junk, junk, junk, junk, junk, junk, junk, junk, junk, junk, junk, junk, junk, junk, junk, junk, junk, junk, junk, junk, junk, junk, junk, junk, junk, junk, junk, junk, junk, junk, junk, junk, junk, junk, junk, junk, junk, junk, junk, junk, junk], [(1, [.string x1, (sv v2), (sv v3), (sv v4), (sv v5), (sv v6)]), (5, [.string y13.1, .int .i64 y13.2.1, .int .i64 y13.2.2.1, .int .i64 y13.2.2.2.1, .int .i64 y13.2.2.2.2])], h17⟩
theorem F41_d2 : drawsOk F41_D (codeOf Try.prog 41 [1, 1, 0, 1, 0, 0, 1, 0, 0, 1, 1, 1, 1, 0, 1, 1, 0]) = true := by kernel_rfl
def F41_x2_0 (x1 : ByteArray) (v2 : Hd) (v3 : Hd) (v4 : Hd) (v5 : Hd) (v6 : Hd) (a9 : Int) (y13 : ByteArray × Int × Int × Int × Int) (v17 : Hd) (h17 : AHeap)  (r : Bool) : AS := ⟨[junk, .pointer (some ⟨1, 0, none⟩), junk, (sv v17), .int .i64 a9, .pointer (some ⟨5, 0, none⟩), junk, junk, junk, junk, junk, junk, junk, junk, junk, junk, junk, junk, junk, junk, junk, junk, junk, junk, junk, junk, junk, junk, junk, junk, junk, junk, junk, junk, junk, junk, junk, junk, junk, junk, junk, junk, junk, junk, junk, junk, junk, junk, junk, junk, junk, junk, junk, junk, junk, junk, junk, junk, .bool r, junk, junk, junk, junk, junk, junk, junk, junk, junk, junk, junk, junk, junk, junk, junk, junk, junk, junk, junk, junk, junk, junk, junk, junk, junk, junk, junk, junk, junk, junk, junk, junk, junk, junk, junk, junk, junk, junk, junk, junk, junk, junk, junk, junk, junk, junk, junk, junk, junk, junk, junk, junk, junk, junk, junk, junk, junk, junk, junk, junk, junk, junk, junk, junk, junk, junk, junk, junk, junk, junk, junk, junk, junk], [(1, [.string x1, (sv v2), (sv v3), (sv v4), (sv v5), (sv v6)]), (5, [.string y13.1, .int .i64 y13.2.1, .int .i64 y13.2.2.1, .int .i64 y13.2.2.2.1, .int .i64 y13.2.2.2.2])], h17⟩
def F41_x2 (x1 : ByteArray) (v2 : Hd) (v3 : Hd) (v4 : Hd) (v5 : Hd) (v6 : Hd) (a9 : Int) (y13 : ByteArray × Int × Int × Int × Int) (v17 : Hd) (h17 : AHeap) (r : Bool) : Exit × AS := (.normal, (F41_x2_0 x1 v2 v3 v4 v5 v6 a9 y13 v17 h17 r))
set_option maxRecDepth 100000 in
theorem F41_r2 (h : AHeap) (x1 : ByteArray) (v2 : Hd) (v3 : Hd) (v4 : Hd) (v5 : Hd) (v6 : Hd) (a9 : Int) (y13 : ByteArray × Int × Int × Int × Int) (v17 : Hd) (h17 : AHeap) (r : Bool) : F41_s2 y13 = some r → AWp Try.prog (codeOf Try.prog 41 [1, 1, 0, 1, 0, 0, 1, 0, 0, 1, 1, 1, 1, 0, 1, 1, 0]) (Ends1 ((F41_x2 x1 v2 v3 v4 v5 v6 a9 y13 v17 h17) r).1 ((F41_x2 x1 v2 v3 v4 v5 v6 a9 y13 v17 h17) r).2) (F41_h2 x1 v2 v3 v4 v5 v6 a9 y13 v17 h17) := by
  unfold F41_s2
  refine dec_bif (fun c29 => ?_) (fun c29 => ?_)
  · intro hr
    obtain rfl := Option.some.inj hr
    show AWp Try.prog _ (Ends1 ((F41_x2 x1 v2 v3 v4 v5 v6 a9 y13 v17 h17) ((y13.2.2.2.1 == 1) : Bool)).1 ((F41_x2 x1 v2 v3 v4 v5 v6 a9 y13 v17 h17) ((y13.2.2.2.1 == 1) : Bool)).2) _
    exact pEnd_sound good (L := F41_L) (D := F41_D) (its := [.g, .g, (.b true)]) (ds := F41_m2_0) (ks := []) (e := ((F41_x2 x1 v2 v3 v4 v5 v6 a9 y13 v17 h17) ((y13.2.2.2.1 == 1) : Bool)).1) (s2 := ((F41_x2 x1 v2 v3 v4 v5 v6 a9 y13 v17 h17) ((y13.2.2.2.1 == 1) : Bool)).2) (hC := (And.intro c29 trivial)) (hd := F41_d2) (h := by kernel_rfl)
  · intro hr
    obtain rfl := Option.some.inj hr
    show AWp Try.prog _ (Ends1 ((F41_x2 x1 v2 v3 v4 v5 v6 a9 y13 v17 h17) ((y13.2.2.2.1 == 2) : Bool)).1 ((F41_x2 x1 v2 v3 v4 v5 v6 a9 y13 v17 h17) ((y13.2.2.2.1 == 2) : Bool)).2) _
    exact pEnd_sound good (L := F41_L) (D := F41_D) (its := [.g, .g, (.b false), .g, .g]) (ds := F41_m2_0) (ks := []) (e := ((F41_x2 x1 v2 v3 v4 v5 v6 a9 y13 v17 h17) ((y13.2.2.2.1 == 2) : Bool)).1) (s2 := ((F41_x2 x1 v2 v3 v4 v5 v6 a9 y13 v17 h17) ((y13.2.2.2.1 == 2) : Bool)).2) (hC := (And.intro c29 trivial)) (hd := F41_d2) (h := by kernel_rfl)
theorem F41_l2_0 (h : AHeap) (x1 : ByteArray) (v2 : Hd) (v3 : Hd) (v4 : Hd) (v5 : Hd) (v6 : Hd) (a9 : Int) (y13 : ByteArray × Int × Int × Int × Int) (v17 : Hd) (h17 : AHeap) (r : Bool) (hl : F41_s2 y13 = some r) : AWp Try.prog (codeOf Try.prog 41 [1, 1, 0, 1, 0, 0, 1, 0, 0, 1, 1, 1, 1, 0, 1, 1, 0]) (Ends1 .normal (F41_x2_0 x1 v2 v3 v4 v5 v6 a9 y13 v17 h17 r)) (F41_h2 x1 v2 v3 v4 v5 v6 a9 y13 v17 h17) := by
  have k := F41_r2 h x1 v2 v3 v4 v5 v6 a9 y13 v17 h17 r hl
  exact k
def F41_m3_2 : List Bool := [true, false, true, false, true, true, true, true, true, true, true, true, true, true, true, true, true, true, true, true, true, true, true, true, true, true, true, true, true, true, true, true, true, true, true, true, true, true, true, true, true, true, true, true, true, true, true, true, true, true, true, true, true, true, true, true, true, true, true, true, true, true, true, true, true, true, true, true, true, true, true, true, true, true, true, true, true, true, true, true, true, true, true, true, true, true, true, true, true, true, true, true, true, true, true, true, true, true, true, true, true, true, true, true, true, true, true, true, true, true, true, true, true, true, true, true, true, true, true, true, true, true, true, true, true, true, true, true, true, true, true, true]
def F41_m3_1 : List Bool := [true, false, true, false, false, true, true, true, true, true, true, true, true, true, true, true, true, true, true, true, true, true, true, true, true, true, true, true, true, true, true, true, true, true, true, true, true, true, true, true, true, true, true, true, true, true, true, true, true, true, true, true, true, true, true, true, true, true, true, true, true, true, true, true, true, true, true, true, true, true, true, true, true, true, true, true, true, true, true, true, true, true, true, true, true, true, true, true, true, true, true, true, true, true, true, true, true, true, true, true, true, true, true, true, true, true, true, true, true, true, true, true, true, true, true, true, true, true, true, true, true, true, true, true, true, true, true, true, true, true, true, true]
def F41_m3_0 : List Bool := [true, true, false, true, true, true, true, true, true, true, true, true, true, true, true, true, true, true, true, true, true, true, true, true, true, true, true, true, true, true, true, true, true, true, true, true, true, true, true, true, true, true, true, true, true, true, true, true, true, true, true, true, true, true, true, true, true, true, true, true, true, true, true, true, true, true, true, true, true, true, true, true, true, true, true, true, true, true, true, true, true, true, true, true, true, true, true, true, true, true, true, true, true, true, true, true, true, true, true, true, true, true, true, true, true, true, true, true, true, true, true, true, true, true, true, true, true, true, true, true, true, true, true, true, true, true, true, true, true, true, true, true]
def F41_s3 (l3 : List (ByteArray × Int × Int × Int × Int)) (a9 : Int) (l10 : List ByteArray) : Option ((Int × (List ByteArray)) ⊕ (Nat × (List ByteArray))) :=
  (bif decide (a9 < (l3.length : Int)) then
   (Option.bind (at? l3 a9) fun y13 =>
   (bif (!(okApp (l10.length + ([y13.1] : List ByteArray).length) 16)) then none else
   (bif (!(F72 y13.2.1)) then
    some (.inr (0, []))
   else
    (bif decide (y13.2.2.1 < 1) then
     some (.inr (0, []))
    else
     (bif decide (y13.2.2.1 > 4096) then
      some (.inr (0, []))
     else
      (Option.bind (F41_s1 y13) fun y24 =>
      (bif y24 then
       (bif (y13.2.2.2.2 != 0) then
        some (.inr (0, []))
       else
        (bif (y13.2.2.2.1 == 3) then
         (bif decide (y13.2.2.1 > 64) then
          some (.inr (0, []))
         else
          some (.inl ((IntKind.i64.wrap (a9 + 1)), (l10 ++ ([y13.1] : List ByteArray)))))
        else
         some (.inl ((IntKind.i64.wrap (a9 + 1)), (l10 ++ ([y13.1] : List ByteArray))))))
      else
       (Option.bind (F41_s2 y13) fun y30 =>
       (bif y30 then
        (bif decide (y13.2.2.2.2 < 1) then
         some (.inr (0, []))
        else
         (bif decide (y13.2.2.2.2 > (if 64 < y13.2.2.1 then 64 else y13.2.2.1)) then
          some (.inr (0, []))
         else
          some (.inl ((IntKind.i64.wrap (a9 + 1)), (l10 ++ ([y13.1] : List ByteArray))))))
       else
        some (.inr (0, [])))))))))))
  else
   some (.inr (1, l10)))
def F41_h3 (x1 : ByteArray) (v2 : Hd) (v3 : Hd) (v4 : Hd) (v5 : Hd) (v6 : Hd) (h11 : AHeap) (u10 : Hd) (a9 : Int) (l10 : List ByteArray) : AS := ⟨[junk, .pointer (some ⟨1, 0, none⟩), junk, (sv u10), .int .i64 a9, junk, junk, junk, junk, junk, junk, junk, junk, junk, junk, junk, junk, junk, junk, junk, junk, junk, junk, junk, junk, junk, junk, junk, junk, junk, junk, junk, junk, junk, junk, junk, junk, junk, junk, junk, junk, junk, junk, junk, junk, junk, junk, junk, junk, junk, junk, junk, junk, junk, junk, junk, junk, junk, junk, junk, junk, junk, junk, junk, junk, junk, junk, junk, junk, junk, junk, junk, junk, junk, junk, junk, junk, junk, junk, junk, junk, junk, junk, junk, junk, junk, junk, junk, junk, junk, junk, junk, junk, junk, junk, junk, junk, junk, junk, junk, junk, junk, junk, junk, junk, junk, junk, junk, junk, junk, junk, junk, junk, junk, junk, junk, junk, junk, junk, junk, junk, junk, junk, junk, junk, junk, junk, junk, junk, junk, junk, junk], [(1, [.string x1, (sv v2), (sv v3), (sv v4), (sv v5), (sv v6)])], h11⟩
theorem F41_d3 : drawsOk F41_D (codeOf Try.prog 41 [1, 1, 0, 1, 0, 0]) = true := by kernel_rfl
def F41_x3_0 (h : AHeap) (x1 : ByteArray) (v2 : Hd) (v3 : Hd) (v4 : Hd) (v5 : Hd) (v6 : Hd) (hx : AHeap) (r : Nat × (List ByteArray)) : AS := ⟨[junk, junk, .bool false, junk, junk, junk, junk, junk, junk, junk, junk, junk, junk, junk, junk, junk, junk, junk, junk, junk, junk, junk, junk, junk, junk, junk, junk, junk, junk, junk, junk, junk, junk, junk, junk, junk, junk, junk, junk, junk, junk, junk, junk, junk, junk, junk, junk, junk, junk, junk, junk, junk, junk, junk, junk, junk, junk, junk, junk, junk, junk, junk, junk, junk, junk, junk, junk, junk, junk, junk, junk, junk, junk, junk, junk, junk, junk, junk, junk, junk, junk, junk, junk, junk, junk, junk, junk, junk, junk, junk, junk, junk, junk, junk, junk, junk, junk, junk, junk, junk, junk, junk, junk, junk, junk, junk, junk, junk, junk, junk, junk, junk, junk, junk, junk, junk, junk, junk, junk, junk, junk, junk, junk, junk, junk, junk, junk, junk, junk, junk, junk, junk], [], hx⟩
def F41_x3_1 (h : AHeap) (x1 : ByteArray) (v2 : Hd) (v3 : Hd) (v4 : Hd) (v5 : Hd) (v6 : Hd) (hx : AHeap) (w0 : Hd) (r : Nat × (List ByteArray)) : AS := ⟨[junk, .pointer (some ⟨1, 0, none⟩), junk, (sv w0), junk, junk, junk, junk, junk, junk, junk, junk, junk, junk, junk, junk, junk, junk, junk, junk, junk, junk, junk, junk, junk, junk, junk, junk, junk, junk, junk, junk, junk, junk, junk, junk, junk, junk, junk, junk, junk, junk, junk, junk, junk, junk, junk, junk, junk, junk, junk, junk, junk, junk, junk, junk, junk, junk, junk, junk, junk, junk, junk, junk, junk, junk, junk, junk, junk, junk, junk, junk, junk, junk, junk, junk, junk, junk, junk, junk, junk, junk, junk, junk, junk, junk, junk, junk, junk, junk, junk, junk, junk, junk, junk, junk, junk, junk, junk, junk, junk, junk, junk, junk, junk, junk, junk, junk, junk, junk, junk, junk, junk, junk, junk, junk, junk, junk, junk, junk, junk, junk, junk, junk, junk, junk, junk, junk, junk, junk, junk, junk], [(1, [.string x1, (sv v2), (sv v3), (sv v4), (sv v5), (sv v6)])], hx⟩
def F41_i3 (h : AHeap) (x1 : ByteArray) (v2 : Hd) (v3 : Hd) (v4 : Hd) (v5 : Hd) (v6 : Hd) (s : Int × (List ByteArray)) (S : AS) : Prop := ∃ (h11 : AHeap) (u10 : Hd), Heapy h h11 [⟨u10, 9, 1, List.flatMap enc9 s.2⟩] ∧ Strict u10 ∧ S = (F41_h3 x1 v2 v3 v4 v5 v6 h11 u10 s.1 s.2)
def F41_x3 (h : AHeap) (x1 : ByteArray) (v2 : Hd) (v3 : Hd) (v4 : Hd) (v5 : Hd) (v6 : Hd) (r : Nat × (List ByteArray)) (e : Exit) (S : AS) : Prop := (bif Nat.beq r.1 0 then (e = .ret ∧ ∃ (hx : AHeap), Heapy h hx [] ∧ S = (F41_x3_0 h x1 v2 v3 v4 v5 v6 hx r)) else (e = (.exit 0) ∧ ∃ (hx : AHeap) (w0 : Hd), Heapy h hx [⟨w0, 9, 1, List.flatMap enc9 r.2⟩] ∧ Strict w0 ∧ S = (F41_x3_1 h x1 v2 v3 v4 v5 v6 hx w0 r)))
set_option maxRecDepth 100000 in
theorem F41_r3 (h : AHeap) (x1 : ByteArray) (v2 : Hd) (l3 : List (ByteArray × Int × Int × Int × Int)) (v3 : Hd) (hv3 : SlE E102 5 h (sv v3) l3) (v4 : Hd) (v5 : Hd) (v6 : Hd) (a9 : Int) (l10 : List ByteArray) (S : AS) (hI : (F41_i3 h x1 v2 v3 v4 v5 v6) (a9, l10) S) (o : (Int × (List ByteArray)) ⊕ (Nat × (List ByteArray))) : F41_s3 l3 a9 l10 = some o → Rd Try.prog (codeOf Try.prog 41 [1, 1, 0, 1, 0, 0]) (F41_i3 h x1 v2 v3 v4 v5 v6) (F41_x3 h x1 v2 v3 v4 v5 v6) S o := by
  obtain ⟨h11, u10, hp11, z10, rfl⟩ := hI
  unfold F41_s3
  refine dec_bif (fun c12 => ?_) (fun c12 => ?_)
  · refine bind_opt fun y13 e13 => ?_
    obtain ⟨id13, off13, g13, cs13, ix13, at13, rfl⟩ := SlE.at hv3 e13
    obtain ⟨v14, h14, m14, hp14, _⟩ := Heapy.build (P := Try.prog) hp11 (t := 100) (e := 9) (len := 1) (n := 1) (parts := [(0, .string y13.1)]) (cells := List.flatMap enc9 ([y13.1] : List ByteArray)) (by kernel_rfl) rfl
    refine guard_ok fun g16 => ?_
    obtain ⟨v17, h17, m17, q17, _, w17⟩ := Heapy.append hp14 (show mkInfo Try.prog 100 = some (9, 1, 16, [.string ⟨#[]⟩]) by kernel_rfl) 1 (v := u10) (cells := List.flatMap enc9 l10) rfl (Y := (sv v14)) (SlE.src (enc := enc9) (c := 1) (Heapy.sle (v := v14) (xs := ([y13.1] : List ByteArray)) (enc := enc9) hp14 0 rfl (fun _ => rfl) (by decide)) (fun _ => rfl)) (flatMap_length (enc := enc9) (c := 1) (fun _ => rfl) _) (by rw [Heapy.vn (v := u10) (xs := l10) (enc := enc9) hp14 1 rfl (fun _ => rfl) (by decide)]; simpa using g16)
    have z17 : Strict v17 := w17 z10
    have hp17 : Heapy h h17 [⟨v14, 9, 1, List.flatMap enc9 ([y13.1] : List ByteArray)⟩, ⟨v17, 9, 1, List.flatMap enc9 (l10 ++ ([y13.1] : List ByteArray))⟩] := by rw [← List.flatMap_append] at q17; exact q17
    refine dec_bif (fun c20 => ?_) (fun c20 => ?_)
    · intro hr
      obtain rfl := Option.some.inj hr
      refine ⟨.ret, (F41_x3_0 h x1 v2 v3 v4 v5 v6 h17 ((0, []) : Nat × (List ByteArray))), (by intro hh; cases hh), ?_, pEnd_sound good (L := F41_L) (D := F41_D) (its := [.g, .g, .g, (.ln l3.length), .g, (.b true), .g, .g, .g, (.ix id13 off13 g13), (.ld (.agg #[.string y13.1, .int .i64 y13.2.1, .int .i64 y13.2.2.1, .int .i64 y13.2.2.2.1, .int .i64 y13.2.2.2.2])), .g, .g, .g, .g, .g, (.mm (sv v14) h14), (.mm (sv v17) h17), .g, .g, .g, (.c (.bool (F72 y13.2.1)) h17), .g, .g, .n, .n, .n, (.p true), .g, .n, .n, .n, .g, (.b true), .g]) (ds := F41_m3_0) (ks := [1, 5]) (e := .ret) (s2 := (F41_x3_0 h x1 v2 v3 v4 v5 v6 h17 ((0, []) : Nat × (List ByteArray)))) (hC := (And.intro l_t (And.intro (g_tf l_t) (And.intro (g_tf l_t) (And.intro (g_tf l_t) (And.intro c20 (And.intro (g_tf c20) (And.intro (g_tf c20) (And.intro (g_tf c20) (And.intro (F72_spec y13.2.1 h17 _ rfl) (And.intro m17 (And.intro m14 (And.intro (At.agg (P := Try.prog) (t := 102) (v := .agg #[.string y13.1, .int .i64 y13.2.1, .int .i64 y13.2.2.1, .int .i64 y13.2.2.2.1, .int .i64 y13.2.2.2.2]) (m := 5) (At.mono (Heapy.sub hp11) at13) (by kernel_rfl) (by kernel_rfl) 0 (by kernel_rfl) rfl) (And.intro ix13 (And.intro c12 (And.intro (SlE.len hv3) trivial)))))))))))))))) (hd := F41_d3) (h := by kernel_rfl)⟩
      exact ⟨rfl, h17, (Heapy.pick hp17 [] (by decide)), rfl⟩
    · refine dec_bif (fun c21 => ?_) (fun c21 => ?_)
      · intro hr
        obtain rfl := Option.some.inj hr
        refine ⟨.ret, (F41_x3_0 h x1 v2 v3 v4 v5 v6 h17 ((0, []) : Nat × (List ByteArray))), (by intro hh; cases hh), ?_, pEnd_sound good (L := F41_L) (D := F41_D) (its := [.g, .g, .g, (.ln l3.length), .g, (.b true), .g, .g, .g, (.ix id13 off13 g13), (.ld (.agg #[.string y13.1, .int .i64 y13.2.1, .int .i64 y13.2.2.1, .int .i64 y13.2.2.2.1, .int .i64 y13.2.2.2.2])), .g, .g, .g, .g, .g, (.mm (sv v14) h14), (.mm (sv v17) h17), .g, .g, .g, (.c (.bool (F72 y13.2.1)) h17), .g, .g, (.w .g), (.w .g), (.w .g), (.p false), .g, .n, .n, .n, (.p true), (.b true), .g]) (ds := F41_m3_0) (ks := [1, 5]) (e := .ret) (s2 := (F41_x3_0 h x1 v2 v3 v4 v5 v6 h17 ((0, []) : Nat × (List ByteArray)))) (hC := (And.intro l_t (And.intro c21 (And.intro (g_tf c21) (And.intro (g_tf c21) (And.intro (g_tf c21) (And.intro c20 (And.intro (g_ff c20) (And.intro (g_ff c20) (And.intro (g_ff c20) (And.intro (F72_spec y13.2.1 h17 _ rfl) (And.intro m17 (And.intro m14 (And.intro (At.agg (P := Try.prog) (t := 102) (v := .agg #[.string y13.1, .int .i64 y13.2.1, .int .i64 y13.2.2.1, .int .i64 y13.2.2.2.1, .int .i64 y13.2.2.2.2]) (m := 5) (At.mono (Heapy.sub hp11) at13) (by kernel_rfl) (by kernel_rfl) 0 (by kernel_rfl) rfl) (And.intro ix13 (And.intro c12 (And.intro (SlE.len hv3) trivial))))))))))))))))) (hd := F41_d3) (h := by kernel_rfl)⟩
        exact ⟨rfl, h17, (Heapy.pick hp17 [] (by decide)), rfl⟩
      · refine dec_bif (fun c22 => ?_) (fun c22 => ?_)
        · intro hr
          obtain rfl := Option.some.inj hr
          refine ⟨.ret, (F41_x3_0 h x1 v2 v3 v4 v5 v6 h17 ((0, []) : Nat × (List ByteArray))), (by intro hh; cases hh), ?_, pEnd_sound good (L := F41_L) (D := F41_D) (its := [.g, .g, .g, (.ln l3.length), .g, (.b true), .g, .g, .g, (.ix id13 off13 g13), (.ld (.agg #[.string y13.1, .int .i64 y13.2.1, .int .i64 y13.2.2.1, .int .i64 y13.2.2.2.1, .int .i64 y13.2.2.2.2])), .g, .g, .g, .g, .g, (.mm (sv v14) h14), (.mm (sv v17) h17), .g, .g, .g, (.c (.bool (F72 y13.2.1)) h17), .g, .g, (.w .g), (.w .g), (.w .g), (.p false), .g, (.w .g), (.w .g), (.w .g), (.p false), (.b true), .g]) (ds := F41_m3_0) (ks := [1, 5]) (e := .ret) (s2 := (F41_x3_0 h x1 v2 v3 v4 v5 v6 h17 ((0, []) : Nat × (List ByteArray)))) (hC := (And.intro c22 (And.intro c21 (And.intro (g_ff c21) (And.intro (g_ff c21) (And.intro (g_ff c21) (And.intro c20 (And.intro (g_ff c20) (And.intro (g_ff c20) (And.intro (g_ff c20) (And.intro (F72_spec y13.2.1 h17 _ rfl) (And.intro m17 (And.intro m14 (And.intro (At.agg (P := Try.prog) (t := 102) (v := .agg #[.string y13.1, .int .i64 y13.2.1, .int .i64 y13.2.2.1, .int .i64 y13.2.2.2.1, .int .i64 y13.2.2.2.2]) (m := 5) (At.mono (Heapy.sub hp11) at13) (by kernel_rfl) (by kernel_rfl) 0 (by kernel_rfl) rfl) (And.intro ix13 (And.intro c12 (And.intro (SlE.len hv3) trivial))))))))))))))))) (hd := F41_d3) (h := by kernel_rfl)⟩
          exact ⟨rfl, h17, (Heapy.pick hp17 [] (by decide)), rfl⟩
        · refine bind_opt fun y24 e24 => ?_
          refine dec_bif (fun c25 => ?_) (fun c25 => ?_)
          · refine dec_bif (fun c26 => ?_) (fun c26 => ?_)
            · intro hr
              obtain rfl := Option.some.inj hr
              refine ⟨.ret, (F41_x3_0 h x1 v2 v3 v4 v5 v6 h17 ((0, []) : Nat × (List ByteArray))), (by intro hh; cases hh), ?_, pEnd_sound good (L := F41_L) (D := F41_D) (its := [.g, .g, .g, (.ln l3.length), .g, (.b true), .g, .g, .g, (.ix id13 off13 g13), (.ld (.agg #[.string y13.1, .int .i64 y13.2.1, .int .i64 y13.2.2.1, .int .i64 y13.2.2.2.1, .int .i64 y13.2.2.2.2])), .g, .g, .g, .g, .g, (.mm (sv v14) h14), (.mm (sv v17) h17), .g, .g, .g, (.c (.bool (F72 y13.2.1)) h17), .g, .g, (.w .g), (.w .g), (.w .g), (.p false), .g, (.w .g), (.w .g), (.w .g), (.p false), (.b false), .g, .g, (.j F41_m1_1 [] .normal (F41_x1_0 x1 v2 v3 v4 v5 v6 a9 y13 v17 h17 y24)), (.b true), .g, .g, .g, .g, .n, .n, .n, .n, .n, .n, .n, .n, (.p true), (.b true), .g]) (ds := F41_m3_0) (ks := [1, 5]) (e := .ret) (s2 := (F41_x3_0 h x1 v2 v3 v4 v5 v6 h17 ((0, []) : Nat × (List ByteArray)))) (hC := (And.intro l_t (And.intro c26 (And.intro (g_tf c26) (And.intro l_f (And.intro l_f (And.intro l_f (And.intro (g_tf c26) (And.intro (g_tf c26) (And.intro (g_tf c26) (And.intro (g_tf c26) (And.intro c25 (And.intro (F41_l1_0 h x1 v2 v3 v4 v5 v6 a9 y13 v17 h17 y24 e24) (And.intro c22 (And.intro c21 (And.intro (g_ff c21) (And.intro (g_ff c21) (And.intro (g_ff c21) (And.intro c20 (And.intro (g_ff c20) (And.intro (g_ff c20) (And.intro (g_ff c20) (And.intro (F72_spec y13.2.1 h17 _ rfl) (And.intro m17 (And.intro m14 (And.intro (At.agg (P := Try.prog) (t := 102) (v := .agg #[.string y13.1, .int .i64 y13.2.1, .int .i64 y13.2.2.1, .int .i64 y13.2.2.2.1, .int .i64 y13.2.2.2.2]) (m := 5) (At.mono (Heapy.sub hp11) at13) (by kernel_rfl) (by kernel_rfl) 0 (by kernel_rfl) rfl) (And.intro ix13 (And.intro c12 (And.intro (SlE.len hv3) trivial))))))))))))))))))))))))))))) (hd := F41_d3) (h := by kernel_rfl)⟩
              exact ⟨rfl, h17, (Heapy.pick hp17 [] (by decide)), rfl⟩
            · refine dec_bif (fun c27 => ?_) (fun c27 => ?_)
              · refine dec_bif (fun c28 => ?_) (fun c28 => ?_)
                · intro hr
                  obtain rfl := Option.some.inj hr
                  refine ⟨.ret, (F41_x3_0 h x1 v2 v3 v4 v5 v6 h17 ((0, []) : Nat × (List ByteArray))), (by intro hh; cases hh), ?_, pEnd_sound good (L := F41_L) (D := F41_D) (its := [.g, .g, .g, (.ln l3.length), .g, (.b true), .g, .g, .g, (.ix id13 off13 g13), (.ld (.agg #[.string y13.1, .int .i64 y13.2.1, .int .i64 y13.2.2.1, .int .i64 y13.2.2.2.1, .int .i64 y13.2.2.2.2])), .g, .g, .g, .g, .g, (.mm (sv v14) h14), (.mm (sv v17) h17), .g, .g, .g, (.c (.bool (F72 y13.2.1)) h17), .g, .g, (.w .g), (.w .g), (.w .g), (.p false), .g, (.w .g), (.w .g), (.w .g), (.p false), (.b false), .g, .g, (.j F41_m1_1 [] .normal (F41_x1_0 x1 v2 v3 v4 v5 v6 a9 y13 v17 h17 y24)), (.b true), .g, .g, .g, .g, (.w .g), (.w .g), (.w .g), (.w .g), (.w .g), (.w .g), (.w .g), (.w (.p true)), (.p false), (.b true), .g]) (ds := F41_m3_0) (ks := [1, 5]) (e := .ret) (s2 := (F41_x3_0 h x1 v2 v3 v4 v5 v6 h17 ((0, []) : Nat × (List ByteArray)))) (hC := (And.intro c28 (And.intro c26 (And.intro c27 (And.intro (g_ff c26) (And.intro (g_tt c27) (And.intro (g_tt c27) (And.intro (g_tt c27) (And.intro (g_ff c26) (And.intro (g_ff c26) (And.intro (g_ff c26) (And.intro (g_ff c26) (And.intro c25 (And.intro (F41_l1_0 h x1 v2 v3 v4 v5 v6 a9 y13 v17 h17 y24 e24) (And.intro c22 (And.intro c21 (And.intro (g_ff c21) (And.intro (g_ff c21) (And.intro (g_ff c21) (And.intro c20 (And.intro (g_ff c20) (And.intro (g_ff c20) (And.intro (g_ff c20) (And.intro (F72_spec y13.2.1 h17 _ rfl) (And.intro m17 (And.intro m14 (And.intro (At.agg (P := Try.prog) (t := 102) (v := .agg #[.string y13.1, .int .i64 y13.2.1, .int .i64 y13.2.2.1, .int .i64 y13.2.2.2.1, .int .i64 y13.2.2.2.2]) (m := 5) (At.mono (Heapy.sub hp11) at13) (by kernel_rfl) (by kernel_rfl) 0 (by kernel_rfl) rfl) (And.intro ix13 (And.intro c12 (And.intro (SlE.len hv3) trivial)))))))))))))))))))))))))))))) (hd := F41_d3) (h := by kernel_rfl)⟩
                  exact ⟨rfl, h17, (Heapy.pick hp17 [] (by decide)), rfl⟩
                · intro hr
                  obtain rfl := Option.some.inj hr
                  exact ⟨(F41_h3 x1 v2 v3 v4 v5 v6 h17 v17 (IntKind.i64.wrap (a9 + 1)) (l10 ++ ([y13.1] : List ByteArray))), ⟨h17, v17, (Heapy.pick hp17 [1] (by decide)), z17, rfl⟩, pEnd_sound good (L := F41_L) (D := F41_D) (its := [.g, .g, .g, (.ln l3.length), .g, (.b true), .g, .g, .g, (.ix id13 off13 g13), (.ld (.agg #[.string y13.1, .int .i64 y13.2.1, .int .i64 y13.2.2.1, .int .i64 y13.2.2.2.1, .int .i64 y13.2.2.2.2])), .g, .g, .g, .g, .g, (.mm (sv v14) h14), (.mm (sv v17) h17), .g, .g, .g, (.c (.bool (F72 y13.2.1)) h17), .g, .g, (.w .g), (.w .g), (.w .g), (.p false), .g, (.w .g), (.w .g), (.w .g), (.p false), (.b false), .g, .g, (.j F41_m1_1 [] .normal (F41_x1_0 x1 v2 v3 v4 v5 v6 a9 y13 v17 h17 y24)), (.b true), .g, .g, .g, .g, (.w .g), (.w .g), (.w .g), (.w .g), (.w .g), (.w .g), (.w .g), (.w (.p true)), (.p false), (.b false), .g, .g, .g]) (ds := F41_m3_1) (ks := [5]) (e := .normal) (s2 := (F41_h3 x1 v2 v3 v4 v5 v6 h17 v17 (IntKind.i64.wrap (a9 + 1)) (l10 ++ ([y13.1] : List ByteArray)))) (hC := (And.intro c28 (And.intro c26 (And.intro c27 (And.intro (g_ff c26) (And.intro (g_tt c27) (And.intro (g_tt c27) (And.intro (g_tt c27) (And.intro (g_ff c26) (And.intro (g_ff c26) (And.intro (g_ff c26) (And.intro (g_ff c26) (And.intro c25 (And.intro (F41_l1_0 h x1 v2 v3 v4 v5 v6 a9 y13 v17 h17 y24 e24) (And.intro c22 (And.intro c21 (And.intro (g_ff c21) (And.intro (g_ff c21) (And.intro (g_ff c21) (And.intro c20 (And.intro (g_ff c20) (And.intro (g_ff c20) (And.intro (g_ff c20) (And.intro (F72_spec y13.2.1 h17 _ rfl) (And.intro m17 (And.intro m14 (And.intro (At.agg (P := Try.prog) (t := 102) (v := .agg #[.string y13.1, .int .i64 y13.2.1, .int .i64 y13.2.2.1, .int .i64 y13.2.2.2.1, .int .i64 y13.2.2.2.2]) (m := 5) (At.mono (Heapy.sub hp11) at13) (by kernel_rfl) (by kernel_rfl) 0 (by kernel_rfl) rfl) (And.intro ix13 (And.intro c12 (And.intro (SlE.len hv3) trivial)))))))))))))))))))))))))))))) (hd := F41_d3) (h := by kernel_rfl)⟩
              · intro hr
                obtain rfl := Option.some.inj hr
                exact ⟨(F41_h3 x1 v2 v3 v4 v5 v6 h17 v17 (IntKind.i64.wrap (a9 + 1)) (l10 ++ ([y13.1] : List ByteArray))), ⟨h17, v17, (Heapy.pick hp17 [1] (by decide)), z17, rfl⟩, pEnd_sound good (L := F41_L) (D := F41_D) (its := [.g, .g, .g, (.ln l3.length), .g, (.b true), .g, .g, .g, (.ix id13 off13 g13), (.ld (.agg #[.string y13.1, .int .i64 y13.2.1, .int .i64 y13.2.2.1, .int .i64 y13.2.2.2.1, .int .i64 y13.2.2.2.2])), .g, .g, .g, .g, .g, (.mm (sv v14) h14), (.mm (sv v17) h17), .g, .g, .g, (.c (.bool (F72 y13.2.1)) h17), .g, .g, (.w .g), (.w .g), (.w .g), (.p false), .g, (.w .g), (.w .g), (.w .g), (.p false), (.b false), .g, .g, (.j F41_m1_1 [] .normal (F41_x1_0 x1 v2 v3 v4 v5 v6 a9 y13 v17 h17 y24)), (.b true), .g, .g, .g, .g, (.w .g), (.w .g), (.w .g), (.w .g), .n, .n, .n, (.w (.p false)), (.p false), (.b false), .g, .g, .g]) (ds := F41_m3_1) (ks := [5]) (e := .normal) (s2 := (F41_h3 x1 v2 v3 v4 v5 v6 h17 v17 (IntKind.i64.wrap (a9 + 1)) (l10 ++ ([y13.1] : List ByteArray)))) (hC := (And.intro l_f (And.intro c26 (And.intro c27 (And.intro (g_ff c26) (And.intro (g_ft c27) (And.intro (g_ft c27) (And.intro (g_ft c27) (And.intro (g_ff c26) (And.intro (g_ff c26) (And.intro (g_ff c26) (And.intro (g_ff c26) (And.intro c25 (And.intro (F41_l1_0 h x1 v2 v3 v4 v5 v6 a9 y13 v17 h17 y24 e24) (And.intro c22 (And.intro c21 (And.intro (g_ff c21) (And.intro (g_ff c21) (And.intro (g_ff c21) (And.intro c20 (And.intro (g_ff c20) (And.intro (g_ff c20) (And.intro (g_ff c20) (And.intro (F72_spec y13.2.1 h17 _ rfl) (And.intro m17 (And.intro m14 (And.intro (At.agg (P := Try.prog) (t := 102) (v := .agg #[.string y13.1, .int .i64 y13.2.1, .int .i64 y13.2.2.1, .int .i64 y13.2.2.2.1, .int .i64 y13.2.2.2.2]) (m := 5) (At.mono (Heapy.sub hp11) at13) (by kernel_rfl) (by kernel_rfl) 0 (by kernel_rfl) rfl) (And.intro ix13 (And.intro c12 (And.intro (SlE.len hv3) trivial)))))))))))))))))))))))))))))) (hd := F41_d3) (h := by kernel_rfl)⟩
          · refine bind_opt fun y30 e30 => ?_
            refine dec_bif (fun c31 => ?_) (fun c31 => ?_)
            · refine dec_bif (fun c32 => ?_) (fun c32 => ?_)
              · intro hr
                obtain rfl := Option.some.inj hr
                refine ⟨.ret, (F41_x3_0 h x1 v2 v3 v4 v5 v6 h17 ((0, []) : Nat × (List ByteArray))), (by intro hh; cases hh), ?_, pEnd_sound good (L := F41_L) (D := F41_D) (its := [.g, .g, .g, (.ln l3.length), .g, (.b true), .g, .g, .g, (.ix id13 off13 g13), (.ld (.agg #[.string y13.1, .int .i64 y13.2.1, .int .i64 y13.2.2.1, .int .i64 y13.2.2.2.1, .int .i64 y13.2.2.2.2])), .g, .g, .g, .g, .g, (.mm (sv v14) h14), (.mm (sv v17) h17), .g, .g, .g, (.c (.bool (F72 y13.2.1)) h17), .g, .g, (.w .g), (.w .g), (.w .g), (.p false), .g, (.w .g), (.w .g), (.w .g), (.p false), (.b false), .g, .g, (.j F41_m1_1 [] .normal (F41_x1_0 x1 v2 v3 v4 v5 v6 a9 y13 v17 h17 y24)), (.b false), (.j F41_m2_1 [] .normal (F41_x2_0 x1 v2 v3 v4 v5 v6 a9 y13 v17 h17 y30)), (.b true), .g, .g, .g, .g, .n, .n, .n, .n, .n, .n, (.p true), (.b true), .g]) (ds := F41_m3_0) (ks := [1, 5]) (e := .ret) (s2 := (F41_x3_0 h x1 v2 v3 v4 v5 v6 h17 ((0, []) : Nat × (List ByteArray)))) (hC := (And.intro l_t (And.intro c32 (And.intro (g_tf c32) (And.intro (g_tf c32) (And.intro (g_tf c32) (And.intro (g_tf c32) (And.intro (g_tf c32) (And.intro (g_tf c32) (And.intro c31 (And.intro (F41_l2_0 h x1 v2 v3 v4 v5 v6 a9 y13 v17 h17 y30 e30) (And.intro c25 (And.intro (F41_l1_0 h x1 v2 v3 v4 v5 v6 a9 y13 v17 h17 y24 e24) (And.intro c22 (And.intro c21 (And.intro (g_ff c21) (And.intro (g_ff c21) (And.intro (g_ff c21) (And.intro c20 (And.intro (g_ff c20) (And.intro (g_ff c20) (And.intro (g_ff c20) (And.intro (F72_spec y13.2.1 h17 _ rfl) (And.intro m17 (And.intro m14 (And.intro (At.agg (P := Try.prog) (t := 102) (v := .agg #[.string y13.1, .int .i64 y13.2.1, .int .i64 y13.2.2.1, .int .i64 y13.2.2.2.1, .int .i64 y13.2.2.2.2]) (m := 5) (At.mono (Heapy.sub hp11) at13) (by kernel_rfl) (by kernel_rfl) 0 (by kernel_rfl) rfl) (And.intro ix13 (And.intro c12 (And.intro (SlE.len hv3) trivial))))))))))))))))))))))))))))) (hd := F41_d3) (h := by kernel_rfl)⟩
                exact ⟨rfl, h17, (Heapy.pick hp17 [] (by decide)), rfl⟩
              · refine dec_bif (fun c33 => ?_) (fun c33 => ?_)
                · intro hr
                  obtain rfl := Option.some.inj hr
                  refine ⟨.ret, (F41_x3_0 h x1 v2 v3 v4 v5 v6 h17 ((0, []) : Nat × (List ByteArray))), (by intro hh; cases hh), ?_, pEnd_sound good (L := F41_L) (D := F41_D) (its := [.g, .g, .g, (.ln l3.length), .g, (.b true), .g, .g, .g, (.ix id13 off13 g13), (.ld (.agg #[.string y13.1, .int .i64 y13.2.1, .int .i64 y13.2.2.1, .int .i64 y13.2.2.2.1, .int .i64 y13.2.2.2.2])), .g, .g, .g, .g, .g, (.mm (sv v14) h14), (.mm (sv v17) h17), .g, .g, .g, (.c (.bool (F72 y13.2.1)) h17), .g, .g, (.w .g), (.w .g), (.w .g), (.p false), .g, (.w .g), (.w .g), (.w .g), (.p false), (.b false), .g, .g, (.j F41_m1_1 [] .normal (F41_x1_0 x1 v2 v3 v4 v5 v6 a9 y13 v17 h17 y24)), (.b false), (.j F41_m2_1 [] .normal (F41_x2_0 x1 v2 v3 v4 v5 v6 a9 y13 v17 h17 y30)), (.b true), .g, .g, .g, .g, (.w .g), (.w .g), (.w .g), (.w .g), (.w .g), (.w .g), (.p false), (.b true), .g]) (ds := F41_m3_0) (ks := [1, 5]) (e := .ret) (s2 := (F41_x3_0 h x1 v2 v3 v4 v5 v6 h17 ((0, []) : Nat × (List ByteArray)))) (hC := (And.intro c33 (And.intro c32 (And.intro (g_ff c32) (And.intro (g_ff c32) (And.intro (g_ff c32) (And.intro (g_ff c32) (And.intro (g_ff c32) (And.intro (g_ff c32) (And.intro c31 (And.intro (F41_l2_0 h x1 v2 v3 v4 v5 v6 a9 y13 v17 h17 y30 e30) (And.intro c25 (And.intro (F41_l1_0 h x1 v2 v3 v4 v5 v6 a9 y13 v17 h17 y24 e24) (And.intro c22 (And.intro c21 (And.intro (g_ff c21) (And.intro (g_ff c21) (And.intro (g_ff c21) (And.intro c20 (And.intro (g_ff c20) (And.intro (g_ff c20) (And.intro (g_ff c20) (And.intro (F72_spec y13.2.1 h17 _ rfl) (And.intro m17 (And.intro m14 (And.intro (At.agg (P := Try.prog) (t := 102) (v := .agg #[.string y13.1, .int .i64 y13.2.1, .int .i64 y13.2.2.1, .int .i64 y13.2.2.2.1, .int .i64 y13.2.2.2.2]) (m := 5) (At.mono (Heapy.sub hp11) at13) (by kernel_rfl) (by kernel_rfl) 0 (by kernel_rfl) rfl) (And.intro ix13 (And.intro c12 (And.intro (SlE.len hv3) trivial))))))))))))))))))))))))))))) (hd := F41_d3) (h := by kernel_rfl)⟩
                  exact ⟨rfl, h17, (Heapy.pick hp17 [] (by decide)), rfl⟩
                · intro hr
                  obtain rfl := Option.some.inj hr
                  exact ⟨(F41_h3 x1 v2 v3 v4 v5 v6 h17 v17 (IntKind.i64.wrap (a9 + 1)) (l10 ++ ([y13.1] : List ByteArray))), ⟨h17, v17, (Heapy.pick hp17 [1] (by decide)), z17, rfl⟩, pEnd_sound good (L := F41_L) (D := F41_D) (its := [.g, .g, .g, (.ln l3.length), .g, (.b true), .g, .g, .g, (.ix id13 off13 g13), (.ld (.agg #[.string y13.1, .int .i64 y13.2.1, .int .i64 y13.2.2.1, .int .i64 y13.2.2.2.1, .int .i64 y13.2.2.2.2])), .g, .g, .g, .g, .g, (.mm (sv v14) h14), (.mm (sv v17) h17), .g, .g, .g, (.c (.bool (F72 y13.2.1)) h17), .g, .g, (.w .g), (.w .g), (.w .g), (.p false), .g, (.w .g), (.w .g), (.w .g), (.p false), (.b false), .g, .g, (.j F41_m1_1 [] .normal (F41_x1_0 x1 v2 v3 v4 v5 v6 a9 y13 v17 h17 y24)), (.b false), (.j F41_m2_1 [] .normal (F41_x2_0 x1 v2 v3 v4 v5 v6 a9 y13 v17 h17 y30)), (.b true), .g, .g, .g, .g, (.w .g), (.w .g), (.w .g), (.w .g), (.w .g), (.w .g), (.p false), (.b false), .g, .g, .g]) (ds := F41_m3_1) (ks := [5]) (e := .normal) (s2 := (F41_h3 x1 v2 v3 v4 v5 v6 h17 v17 (IntKind.i64.wrap (a9 + 1)) (l10 ++ ([y13.1] : List ByteArray)))) (hC := (And.intro c33 (And.intro c32 (And.intro (g_ff c32) (And.intro (g_ff c32) (And.intro (g_ff c32) (And.intro (g_ff c32) (And.intro (g_ff c32) (And.intro (g_ff c32) (And.intro c31 (And.intro (F41_l2_0 h x1 v2 v3 v4 v5 v6 a9 y13 v17 h17 y30 e30) (And.intro c25 (And.intro (F41_l1_0 h x1 v2 v3 v4 v5 v6 a9 y13 v17 h17 y24 e24) (And.intro c22 (And.intro c21 (And.intro (g_ff c21) (And.intro (g_ff c21) (And.intro (g_ff c21) (And.intro c20 (And.intro (g_ff c20) (And.intro (g_ff c20) (And.intro (g_ff c20) (And.intro (F72_spec y13.2.1 h17 _ rfl) (And.intro m17 (And.intro m14 (And.intro (At.agg (P := Try.prog) (t := 102) (v := .agg #[.string y13.1, .int .i64 y13.2.1, .int .i64 y13.2.2.1, .int .i64 y13.2.2.2.1, .int .i64 y13.2.2.2.2]) (m := 5) (At.mono (Heapy.sub hp11) at13) (by kernel_rfl) (by kernel_rfl) 0 (by kernel_rfl) rfl) (And.intro ix13 (And.intro c12 (And.intro (SlE.len hv3) trivial))))))))))))))))))))))))))))) (hd := F41_d3) (h := by kernel_rfl)⟩
            · intro hr
              obtain rfl := Option.some.inj hr
              refine ⟨.ret, (F41_x3_0 h x1 v2 v3 v4 v5 v6 h17 ((0, []) : Nat × (List ByteArray))), (by intro hh; cases hh), ?_, pEnd_sound good (L := F41_L) (D := F41_D) (its := [.g, .g, .g, (.ln l3.length), .g, (.b true), .g, .g, .g, (.ix id13 off13 g13), (.ld (.agg #[.string y13.1, .int .i64 y13.2.1, .int .i64 y13.2.2.1, .int .i64 y13.2.2.2.1, .int .i64 y13.2.2.2.2])), .g, .g, .g, .g, .g, (.mm (sv v14) h14), (.mm (sv v17) h17), .g, .g, .g, (.c (.bool (F72 y13.2.1)) h17), .g, .g, (.w .g), (.w .g), (.w .g), (.p false), .g, (.w .g), (.w .g), (.w .g), (.p false), (.b false), .g, .g, (.j F41_m1_1 [] .normal (F41_x1_0 x1 v2 v3 v4 v5 v6 a9 y13 v17 h17 y24)), (.b false), (.j F41_m2_1 [] .normal (F41_x2_0 x1 v2 v3 v4 v5 v6 a9 y13 v17 h17 y30)), (.b false), .g]) (ds := F41_m3_0) (ks := [1, 5]) (e := .ret) (s2 := (F41_x3_0 h x1 v2 v3 v4 v5 v6 h17 ((0, []) : Nat × (List ByteArray)))) (hC := (And.intro c31 (And.intro (F41_l2_0 h x1 v2 v3 v4 v5 v6 a9 y13 v17 h17 y30 e30) (And.intro c25 (And.intro (F41_l1_0 h x1 v2 v3 v4 v5 v6 a9 y13 v17 h17 y24 e24) (And.intro c22 (And.intro c21 (And.intro (g_ff c21) (And.intro (g_ff c21) (And.intro (g_ff c21) (And.intro c20 (And.intro (g_ff c20) (And.intro (g_ff c20) (And.intro (g_ff c20) (And.intro (F72_spec y13.2.1 h17 _ rfl) (And.intro m17 (And.intro m14 (And.intro (At.agg (P := Try.prog) (t := 102) (v := .agg #[.string y13.1, .int .i64 y13.2.1, .int .i64 y13.2.2.1, .int .i64 y13.2.2.2.1, .int .i64 y13.2.2.2.2]) (m := 5) (At.mono (Heapy.sub hp11) at13) (by kernel_rfl) (by kernel_rfl) 0 (by kernel_rfl) rfl) (And.intro ix13 (And.intro c12 (And.intro (SlE.len hv3) trivial))))))))))))))))))))) (hd := F41_d3) (h := by kernel_rfl)⟩
              exact ⟨rfl, h17, (Heapy.pick hp17 [] (by decide)), rfl⟩
  · intro hr
    obtain rfl := Option.some.inj hr
    refine ⟨(.exit 0), (F41_x3_1 h x1 v2 v3 v4 v5 v6 h11 u10 ((1, l10) : Nat × (List ByteArray))), (by intro hh; cases hh), ?_, pEnd_sound good (L := F41_L) (D := F41_D) (its := [.g, .g, .g, (.ln l3.length), .g, (.b false)]) (ds := F41_m3_2) (ks := []) (e := (.exit 0)) (s2 := (F41_x3_1 h x1 v2 v3 v4 v5 v6 h11 u10 ((1, l10) : Nat × (List ByteArray)))) (hC := (And.intro c12 (And.intro (SlE.len hv3) trivial))) (hd := F41_d3) (h := by kernel_rfl)⟩
    exact ⟨rfl, h11, u10, (Heapy.pick hp11 [0] (by decide)), z10, rfl⟩
theorem F41_l3 (h : AHeap) (x1 : ByteArray) (v2 : Hd) (l3 : List (ByteArray × Int × Int × Int × Int)) (v3 : Hd) (hv3 : SlE E102 5 h (sv v3) l3) (v4 : Hd) (v5 : Hd) (v6 : Hd) (x : Int × (List ByteArray)) (r : Nat × (List ByteArray)) (hl : loopO (fun (s : Int × (List ByteArray)) => F41_s3 l3 s.1 s.2) x = some r) (S : AS) (hI : (F41_i3 h x1 v2 v3 v4 v5 v6) x S) : ∃ e S', (F41_x3 h x1 v2 v3 v4 v5 v6) r e S' ∧ AWp Try.prog (.loop (codeOf Try.prog 41 [1, 1, 0, 1, 0, 0])) (Ends1 e S') S :=
  loop_rel (fun x S hI => F41_r3 h x1 v2 l3 v3 hv3 v4 v5 v6 x.1 x.2 S hI) hl hI
def F41_m4_2 : List Bool := [true, false, true, false, true, true, true, true, true, true, true, true, true, true, true, true, true, true, true, true, true, true, true, true, true, true, true, true, true, true, true, true, true, true, true, true, true, true, true, true, true, true, true, true, true, true, true, true, true, true, true, true, true, true, true, true, true, true, true, true, true, true, true, true, true, true, true, true, true, true, true, true, true, true, true, true, true, true, true, true, true, true, true, true, true, true, true, true, true, true, true, true, true, true, true, true, true, true, true, true, true, true, true, true, true, true, true, true, true, true, true, true, true, true, true, true, true, true, true, true, true, true, true, true, true, true, true, true, true, true, true, true]
def F41_m4_1 : List Bool := [true, false, true, false, true, true, false, true, true, true, true, true, true, true, true, true, true, true, true, true, true, true, true, true, true, true, true, true, true, true, true, true, true, true, true, true, true, true, true, true, true, true, true, true, true, true, true, true, true, true, true, true, true, true, true, true, true, true, true, true, true, true, true, true, true, true, true, true, true, true, true, true, true, true, true, true, true, true, true, true, true, true, true, true, true, true, true, true, true, true, true, true, true, true, true, true, true, true, true, true, true, true, true, true, true, true, true, true, true, true, true, true, true, true, true, true, true, true, true, true, true, true, true, true, true, true, true, true, true, true, true, true]
def F41_m4_0 : List Bool := [true, true, false, true, true, true, true, true, true, true, true, true, true, true, true, true, true, true, true, true, true, true, true, true, true, true, true, true, true, true, true, true, true, true, true, true, true, true, true, true, true, true, true, true, true, true, true, true, true, true, true, true, true, true, true, true, true, true, true, true, true, true, true, true, true, true, true, true, true, true, true, true, true, true, true, true, true, true, true, true, true, true, true, true, true, true, true, true, true, true, true, true, true, true, true, true, true, true, true, true, true, true, true, true, true, true, true, true, true, true, true, true, true, true, true, true, true, true, true, true, true, true, true, true, true, true, true, true, true, true, true, true]
def F41_s4 (l4 : List (ByteArray × Int × Bool)) (a38 : Int) (l39 : List ByteArray) : Option ((Int × (List ByteArray)) ⊕ (Nat × (List ByteArray))) :=
  (bif decide (a38 < (l4.length : Int)) then
   (Option.bind (at? l4 a38) fun y42 =>
   (bif (!(okApp (l39.length + ([y42.1] : List ByteArray).length) 16)) then none else
   (bif (!(F72 y42.2.1)) then
    some (.inr (0, []))
   else
    some (.inl ((IntKind.i64.wrap (a38 + 1)), (l39 ++ ([y42.1] : List ByteArray)))))))
  else
   some (.inr (1, l39)))
def F41_h4 (x1 : ByteArray) (v2 : Hd) (v3 : Hd) (v4 : Hd) (v5 : Hd) (v6 : Hd) (h40 : AHeap) (u39 : Hd) (a38 : Int) (l39 : List ByteArray) : AS := ⟨[junk, .pointer (some ⟨1, 0, none⟩), junk, (sv u39), junk, junk, .int .i64 a38, junk, junk, junk, junk, junk, junk, junk, junk, junk, junk, junk, junk, junk, junk, junk, junk, junk, junk, junk, junk, junk, junk, junk, junk, junk, junk, junk, junk, junk, junk, junk, junk, junk, junk, junk, junk, junk, junk, junk, junk, junk, junk, junk, junk, junk, junk, junk, junk, junk, junk, junk, junk, junk, junk, junk, junk, junk, junk, junk, junk, junk, junk, junk, junk, junk, junk, junk, junk, junk, junk, junk, junk, junk, junk, junk, junk, junk, junk, junk, junk, junk, junk, junk, junk, junk, junk, junk, junk, junk, junk, junk, junk, junk, junk, junk, junk, junk, junk, junk, junk, junk, junk, junk, junk, junk, junk, junk, junk, junk, junk, junk, junk, junk, junk, junk, junk, junk, junk, junk, junk, junk, junk, junk, junk, junk], [(1, [.string x1, (sv v2), (sv v3), (sv v4), (sv v5), (sv v6)])], h40⟩
theorem F41_d4 : drawsOk F41_D (codeOf Try.prog 41 [1, 1, 1, 0, 1, 0, 0]) = true := by kernel_rfl
def F41_x4_0 (h : AHeap) (x1 : ByteArray) (v2 : Hd) (v3 : Hd) (v4 : Hd) (v5 : Hd) (v6 : Hd) (hx : AHeap) (r : Nat × (List ByteArray)) : AS := ⟨[junk, junk, .bool false, junk, junk, junk, junk, junk, junk, junk, junk, junk, junk, junk, junk, junk, junk, junk, junk, junk, junk, junk, junk, junk, junk, junk, junk, junk, junk, junk, junk, junk, junk, junk, junk, junk, junk, junk, junk, junk, junk, junk, junk, junk, junk, junk, junk, junk, junk, junk, junk, junk, junk, junk, junk, junk, junk, junk, junk, junk, junk, junk, junk, junk, junk, junk, junk, junk, junk, junk, junk, junk, junk, junk, junk, junk, junk, junk, junk, junk, junk, junk, junk, junk, junk, junk, junk, junk, junk, junk, junk, junk, junk, junk, junk, junk, junk, junk, junk, junk, junk, junk, junk, junk, junk, junk, junk, junk, junk, junk, junk, junk, junk, junk, junk, junk, junk, junk, junk, junk, junk, junk, junk, junk, junk, junk, junk, junk, junk, junk, junk, junk], [], hx⟩
def F41_x4_1 (h : AHeap) (x1 : ByteArray) (v2 : Hd) (v3 : Hd) (v4 : Hd) (v5 : Hd) (v6 : Hd) (hx : AHeap) (w0 : Hd) (r : Nat × (List ByteArray)) : AS := ⟨[junk, .pointer (some ⟨1, 0, none⟩), junk, (sv w0), junk, junk, junk, junk, junk, junk, junk, junk, junk, junk, junk, junk, junk, junk, junk, junk, junk, junk, junk, junk, junk, junk, junk, junk, junk, junk, junk, junk, junk, junk, junk, junk, junk, junk, junk, junk, junk, junk, junk, junk, junk, junk, junk, junk, junk, junk, junk, junk, junk, junk, junk, junk, junk, junk, junk, junk, junk, junk, junk, junk, junk, junk, junk, junk, junk, junk, junk, junk, junk, junk, junk, junk, junk, junk, junk, junk, junk, junk, junk, junk, junk, junk, junk, junk, junk, junk, junk, junk, junk, junk, junk, junk, junk, junk, junk, junk, junk, junk, junk, junk, junk, junk, junk, junk, junk, junk, junk, junk, junk, junk, junk, junk, junk, junk, junk, junk, junk, junk, junk, junk, junk, junk, junk, junk, junk, junk, junk, junk], [(1, [.string x1, (sv v2), (sv v3), (sv v4), (sv v5), (sv v6)])], hx⟩
def F41_i4 (h : AHeap) (x1 : ByteArray) (v2 : Hd) (v3 : Hd) (v4 : Hd) (v5 : Hd) (v6 : Hd) (s : Int × (List ByteArray)) (S : AS) : Prop := ∃ (h40 : AHeap) (u39 : Hd), Heapy h h40 [⟨u39, 9, 1, List.flatMap enc9 s.2⟩] ∧ Strict u39 ∧ S = (F41_h4 x1 v2 v3 v4 v5 v6 h40 u39 s.1 s.2)
def F41_x4 (h : AHeap) (x1 : ByteArray) (v2 : Hd) (v3 : Hd) (v4 : Hd) (v5 : Hd) (v6 : Hd) (r : Nat × (List ByteArray)) (e : Exit) (S : AS) : Prop := (bif Nat.beq r.1 0 then (e = .ret ∧ ∃ (hx : AHeap), Heapy h hx [] ∧ S = (F41_x4_0 h x1 v2 v3 v4 v5 v6 hx r)) else (e = (.exit 3) ∧ ∃ (hx : AHeap) (w0 : Hd), Heapy h hx [⟨w0, 9, 1, List.flatMap enc9 r.2⟩] ∧ Strict w0 ∧ S = (F41_x4_1 h x1 v2 v3 v4 v5 v6 hx w0 r)))
set_option maxRecDepth 100000 in
theorem F41_r4 (h : AHeap) (x1 : ByteArray) (v2 : Hd) (v3 : Hd) (l4 : List (ByteArray × Int × Bool)) (v4 : Hd) (hv4 : SlE E104 3 h (sv v4) l4) (v5 : Hd) (v6 : Hd) (a38 : Int) (l39 : List ByteArray) (S : AS) (hI : (F41_i4 h x1 v2 v3 v4 v5 v6) (a38, l39) S) (o : (Int × (List ByteArray)) ⊕ (Nat × (List ByteArray))) : F41_s4 l4 a38 l39 = some o → Rd Try.prog (codeOf Try.prog 41 [1, 1, 1, 0, 1, 0, 0]) (F41_i4 h x1 v2 v3 v4 v5 v6) (F41_x4 h x1 v2 v3 v4 v5 v6) S o := by
  obtain ⟨h40, u39, hp40, z39, rfl⟩ := hI
  unfold F41_s4
  refine dec_bif (fun c41 => ?_) (fun c41 => ?_)
  · refine bind_opt fun y42 e42 => ?_
    obtain ⟨id42, off42, g42, cs42, ix42, at42, rfl⟩ := SlE.at hv4 e42
    obtain ⟨v43, h43, m43, hp43, _⟩ := Heapy.build (P := Try.prog) hp40 (t := 100) (e := 9) (len := 1) (n := 1) (parts := [(0, .string y42.1)]) (cells := List.flatMap enc9 ([y42.1] : List ByteArray)) (by kernel_rfl) rfl
    refine guard_ok fun g45 => ?_
    obtain ⟨v46, h46, m46, q46, _, w46⟩ := Heapy.append hp43 (show mkInfo Try.prog 100 = some (9, 1, 16, [.string ⟨#[]⟩]) by kernel_rfl) 1 (v := u39) (cells := List.flatMap enc9 l39) rfl (Y := (sv v43)) (SlE.src (enc := enc9) (c := 1) (Heapy.sle (v := v43) (xs := ([y42.1] : List ByteArray)) (enc := enc9) hp43 0 rfl (fun _ => rfl) (by decide)) (fun _ => rfl)) (flatMap_length (enc := enc9) (c := 1) (fun _ => rfl) _) (by rw [Heapy.vn (v := u39) (xs := l39) (enc := enc9) hp43 1 rfl (fun _ => rfl) (by decide)]; simpa using g45)
    have z46 : Strict v46 := w46 z39
    have hp46 : Heapy h h46 [⟨v43, 9, 1, List.flatMap enc9 ([y42.1] : List ByteArray)⟩, ⟨v46, 9, 1, List.flatMap enc9 (l39 ++ ([y42.1] : List ByteArray))⟩] := by rw [← List.flatMap_append] at q46; exact q46
    refine dec_bif (fun c49 => ?_) (fun c49 => ?_)
    · intro hr
      obtain rfl := Option.some.inj hr
      refine ⟨.ret, (F41_x4_0 h x1 v2 v3 v4 v5 v6 h46 ((0, []) : Nat × (List ByteArray))), (by intro hh; cases hh), ?_, pEnd_sound good (L := F41_L) (D := F41_D) (its := [.g, .g, .g, (.ln l4.length), .g, (.b true), .g, .g, .g, .g, (.ix id42 off42 g42), .g, (.ld (.string y42.1)), (.mm (sv v43) h43), (.mm (sv v46) h46), .g, .g, .g, .g, (.ix id42 off42 g42), .g, (.ld (.int .i64 y42.2.1)), (.c (.bool (F72 y42.2.1)) h46), .g, (.b true), .g]) (ds := F41_m4_0) (ks := [1]) (e := .ret) (s2 := (F41_x4_0 h x1 v2 v3 v4 v5 v6 h46 ((0, []) : Nat × (List ByteArray)))) (hC := (And.intro c49 (And.intro (F72_spec y42.2.1 h46 _ rfl) (And.intro (At.one (P := Try.prog) (t := 3) (v := .int .i64 y42.2.1) (At.mono (Heapy.sub hp46) at42) (by kernel_rfl) 1 rfl rfl) (And.intro ix42 (And.intro m46 (And.intro m43 (And.intro (At.one (P := Try.prog) (t := 9) (v := .string y42.1) (At.mono (Heapy.sub hp40) at42) (by kernel_rfl) 0 rfl rfl) (And.intro ix42 (And.intro c41 (And.intro (SlE.len hv4) trivial))))))))))) (hd := F41_d4) (h := by kernel_rfl)⟩
      exact ⟨rfl, h46, (Heapy.pick hp46 [] (by decide)), rfl⟩
    · intro hr
      obtain rfl := Option.some.inj hr
      exact ⟨(F41_h4 x1 v2 v3 v4 v5 v6 h46 v46 (IntKind.i64.wrap (a38 + 1)) (l39 ++ ([y42.1] : List ByteArray))), ⟨h46, v46, (Heapy.pick hp46 [1] (by decide)), z46, rfl⟩, pEnd_sound good (L := F41_L) (D := F41_D) (its := [.g, .g, .g, (.ln l4.length), .g, (.b true), .g, .g, .g, .g, (.ix id42 off42 g42), .g, (.ld (.string y42.1)), (.mm (sv v43) h43), (.mm (sv v46) h46), .g, .g, .g, .g, (.ix id42 off42 g42), .g, (.ld (.int .i64 y42.2.1)), (.c (.bool (F72 y42.2.1)) h46), .g, (.b false), .g, .g, .g]) (ds := F41_m4_1) (ks := []) (e := .normal) (s2 := (F41_h4 x1 v2 v3 v4 v5 v6 h46 v46 (IntKind.i64.wrap (a38 + 1)) (l39 ++ ([y42.1] : List ByteArray)))) (hC := (And.intro c49 (And.intro (F72_spec y42.2.1 h46 _ rfl) (And.intro (At.one (P := Try.prog) (t := 3) (v := .int .i64 y42.2.1) (At.mono (Heapy.sub hp46) at42) (by kernel_rfl) 1 rfl rfl) (And.intro ix42 (And.intro m46 (And.intro m43 (And.intro (At.one (P := Try.prog) (t := 9) (v := .string y42.1) (At.mono (Heapy.sub hp40) at42) (by kernel_rfl) 0 rfl rfl) (And.intro ix42 (And.intro c41 (And.intro (SlE.len hv4) trivial))))))))))) (hd := F41_d4) (h := by kernel_rfl)⟩
  · intro hr
    obtain rfl := Option.some.inj hr
    refine ⟨(.exit 3), (F41_x4_1 h x1 v2 v3 v4 v5 v6 h40 u39 ((1, l39) : Nat × (List ByteArray))), (by intro hh; cases hh), ?_, pEnd_sound good (L := F41_L) (D := F41_D) (its := [.g, .g, .g, (.ln l4.length), .g, (.b false)]) (ds := F41_m4_2) (ks := []) (e := (.exit 3)) (s2 := (F41_x4_1 h x1 v2 v3 v4 v5 v6 h40 u39 ((1, l39) : Nat × (List ByteArray)))) (hC := (And.intro c41 (And.intro (SlE.len hv4) trivial))) (hd := F41_d4) (h := by kernel_rfl)⟩
    exact ⟨rfl, h40, u39, (Heapy.pick hp40 [0] (by decide)), z39, rfl⟩
theorem F41_l4 (h : AHeap) (x1 : ByteArray) (v2 : Hd) (v3 : Hd) (l4 : List (ByteArray × Int × Bool)) (v4 : Hd) (hv4 : SlE E104 3 h (sv v4) l4) (v5 : Hd) (v6 : Hd) (x : Int × (List ByteArray)) (r : Nat × (List ByteArray)) (hl : loopO (fun (s : Int × (List ByteArray)) => F41_s4 l4 s.1 s.2) x = some r) (S : AS) (hI : (F41_i4 h x1 v2 v3 v4 v5 v6) x S) : ∃ e S', (F41_x4 h x1 v2 v3 v4 v5 v6) r e S' ∧ AWp Try.prog (.loop (codeOf Try.prog 41 [1, 1, 1, 0, 1, 0, 0])) (Ends1 e S') S :=
  loop_rel (fun x S hI => F41_r4 h x1 v2 v3 l4 v4 hv4 v5 v6 x.1 x.2 S hI) hl hI
def F41_m5_2 : List Bool := [true, false, true, false, true, true, true, false, true, true, true, true, true, true, true, true, true, true, true, true, true, true, true, true, true, true, true, true, true, true, true, true, true, true, true, true, true, true, true, true, true, true, true, true, true, true, true, true, true, true, true, true, true, true, true, true, true, true, true, true, true, true, true, true, true, true, true, true, true, true, true, true, true, true, true, true, true, true, true, true, true, true, true, true, true, true, true, true, true, true, true, true, true, true, true, true, true, true, true, true, true, true, true, true, true, true, true, true, true, true, true, true, true, true, true, true, true, true, true, true, true, true, true, true, true, true, true, true, true, true, true, true]
def F41_m5_1 : List Bool := [true, false, true, false, true, true, true, false, false, true, true, true, true, true, true, true, true, true, true, true, true, true, true, true, true, true, true, true, true, true, true, true, true, true, true, true, true, true, true, true, true, true, true, true, true, true, true, true, true, true, true, true, true, true, true, true, true, true, true, true, true, true, true, true, true, true, true, true, true, true, true, true, true, true, true, true, true, true, true, true, true, true, true, true, true, true, true, true, true, true, true, true, true, true, true, true, true, true, true, true, true, true, true, true, true, true, true, true, true, true, true, true, true, true, true, true, true, true, true, true, true, true, true, true, true, true, true, true, true, true, true, true]
def F41_m5_0 : List Bool := [true, true, false, true, true, true, true, true, true, true, true, true, true, true, true, true, true, true, true, true, true, true, true, true, true, true, true, true, true, true, true, true, true, true, true, true, true, true, true, true, true, true, true, true, true, true, true, true, true, true, true, true, true, true, true, true, true, true, true, true, true, true, true, true, true, true, true, true, true, true, true, true, true, true, true, true, true, true, true, true, true, true, true, true, true, true, true, true, true, true, true, true, true, true, true, true, true, true, true, true, true, true, true, true, true, true, true, true, true, true, true, true, true, true, true, true, true, true, true, true, true, true, true, true, true, true, true, true, true, true, true, true]
def F41_s5 (y50 : Nat × (List ByteArray)) (a54 : Int) (y56 : ByteArray) (a60 : Int) : Option (Int ⊕ Nat) :=
  (bif decide (a60 < a54) then
   (Option.bind (at? y50.2 a60) fun y62 =>
   (bif (y62.toList == y56.toList) then
    some (.inr 0)
   else
    some (.inl (IntKind.i64.wrap (a60 + 1)))))
  else
   some (.inr 1))
def F41_h5 (x1 : ByteArray) (v2 : Hd) (v3 : Hd) (v4 : Hd) (v5 : Hd) (v6 : Hd) (w0_53 : Hd) (h53 : AHeap) (a54 : Int)  (a60 : Int) : AS := ⟨[junk, .pointer (some ⟨1, 0, none⟩), junk, (sv w0_53), junk, junk, junk, .int .i64 a54, .int .i64 a60, junk, junk, junk, junk, junk, junk, junk, junk, junk, junk, junk, junk, junk, junk, junk, junk, junk, junk, junk, junk, junk, junk, junk, junk, junk, junk, junk, junk, junk, junk, junk, junk, junk, junk, junk, junk, junk, junk, junk, junk, junk, junk, junk, junk, junk, junk, junk, junk, junk, junk, junk, junk, junk, junk, junk, junk, junk, junk, junk, junk, junk, junk, junk, junk, junk, junk, junk, junk, junk, junk, junk, junk, junk, junk, junk, junk, junk, junk, junk, junk, junk, junk, junk, junk, junk, junk, junk, junk, junk, junk, junk, junk, junk, junk, junk, junk, junk, junk, junk, junk, junk, junk, junk, junk, junk, junk, junk, junk, junk, junk, junk, junk, junk, junk, junk, junk, junk, junk, junk, junk, junk, junk, junk], [(1, [.string x1, (sv v2), (sv v3), (sv v4), (sv v5), (sv v6)])], h53⟩
theorem F41_d5 : drawsOk F41_D (codeOf Try.prog 41 [1, 1, 1, 1, 0, 1, 0, 0, 1, 0, 0, 1, 1, 0, 0]) = true := by kernel_rfl
def F41_x5_0 (x1 : ByteArray) (v2 : Hd) (v3 : Hd) (v4 : Hd) (v5 : Hd) (v6 : Hd) (w0_53 : Hd) (h53 : AHeap) (a54 : Int)  (r : Nat) : AS := ⟨[junk, junk, .bool false, junk, junk, junk, junk, junk, junk, junk, junk, junk, junk, junk, junk, junk, junk, junk, junk, junk, junk, junk, junk, junk, junk, junk, junk, junk, junk, junk, junk, junk, junk, junk, junk, junk, junk, junk, junk, junk, junk, junk, junk, junk, junk, junk, junk, junk, junk, junk, junk, junk, junk, junk, junk, junk, junk, junk, junk, junk, junk, junk, junk, junk, junk, junk, junk, junk, junk, junk, junk, junk, junk, junk, junk, junk, junk, junk, junk, junk, junk, junk, junk, junk, junk, junk, junk, junk, junk, junk, junk, junk, junk, junk, junk, junk, junk, junk, junk, junk, junk, junk, junk, junk, junk, junk, junk, junk, junk, junk, junk, junk, junk, junk, junk, junk, junk, junk, junk, junk, junk, junk, junk, junk, junk, junk, junk, junk, junk, junk, junk, junk], [], h53⟩
def F41_x5_1 (x1 : ByteArray) (v2 : Hd) (v3 : Hd) (v4 : Hd) (v5 : Hd) (v6 : Hd) (w0_53 : Hd) (h53 : AHeap) (a54 : Int)  (r : Nat) : AS := ⟨[junk, .pointer (some ⟨1, 0, none⟩), junk, (sv w0_53), junk, junk, junk, .int .i64 a54, junk, junk, junk, junk, junk, junk, junk, junk, junk, junk, junk, junk, junk, junk, junk, junk, junk, junk, junk, junk, junk, junk, junk, junk, junk, junk, junk, junk, junk, junk, junk, junk, junk, junk, junk, junk, junk, junk, junk, junk, junk, junk, junk, junk, junk, junk, junk, junk, junk, junk, junk, junk, junk, junk, junk, junk, junk, junk, junk, junk, junk, junk, junk, junk, junk, junk, junk, junk, junk, junk, junk, junk, junk, junk, junk, junk, junk, junk, junk, junk, junk, junk, junk, junk, junk, junk, junk, junk, junk, junk, junk, junk, junk, junk, junk, junk, junk, junk, junk, junk, junk, junk, junk, junk, junk, junk, junk, junk, junk, junk, junk, junk, junk, junk, junk, junk, junk, junk, junk, junk, junk, junk, junk, junk], [(1, [.string x1, (sv v2), (sv v3), (sv v4), (sv v5), (sv v6)])], h53⟩
def F41_x5 (x1 : ByteArray) (v2 : Hd) (v3 : Hd) (v4 : Hd) (v5 : Hd) (v6 : Hd) (w0_53 : Hd) (h53 : AHeap) (a54 : Int) (r : Nat) : Exit × AS := (bif Nat.beq r 0 then (.ret, (F41_x5_0 x1 v2 v3 v4 v5 v6 w0_53 h53 a54 r)) else ((.exit 7), (F41_x5_1 x1 v2 v3 v4 v5 v6 w0_53 h53 a54 r)))
set_option maxRecDepth 100000 in
theorem F41_r5 (h : AHeap) (x1 : ByteArray) (v2 : Hd) (v3 : Hd) (v4 : Hd) (v5 : Hd) (v6 : Hd) (y50 : Nat × (List ByteArray)) (w0_53 : Hd) (h53 : AHeap) (hp53 : Heapy h h53 [⟨w0_53, 9, 1, List.flatMap enc9 y50.2⟩]) (a54 : Int) (y56 : ByteArray) (id56 : Nat) (off56 : Nat) (g56 : Nat) (ix56 : ixv 1 (sv w0_53) a54 = some (id56, off56, g56)) (at56 : At h53 id56 off56 g56 (enc9 y56)) (a60 : Int) (o : Int ⊕ Nat) : F41_s5 y50 a54 y56 a60 = some o → RdF Try.prog (codeOf Try.prog 41 [1, 1, 1, 1, 0, 1, 0, 0, 1, 0, 0, 1, 1, 0, 0]) (fun (s : Int) => (F41_h5 x1 v2 v3 v4 v5 v6 w0_53 h53 a54 s)) (F41_x5 x1 v2 v3 v4 v5 v6 w0_53 h53 a54) (F41_h5 x1 v2 v3 v4 v5 v6 w0_53 h53 a54 a60) o := by
  unfold F41_s5
  refine dec_bif (fun c61 => ?_) (fun c61 => ?_)
  · refine bind_opt fun y62 e62 => ?_
    obtain ⟨id62, off62, g62, cs62, ix62, at62, rfl⟩ := SlE.at (Heapy.sle (v := w0_53) (xs := y50.2) (enc := enc9) hp53 0 rfl (fun _ => rfl) (by decide)) e62
    refine dec_bif (fun c63 => ?_) (fun c63 => ?_)
    · intro hr
      obtain rfl := Option.some.inj hr
      show AWp Try.prog _ (Ends1 ((F41_x5 x1 v2 v3 v4 v5 v6 w0_53 h53 a54) (0 : Nat)).1 ((F41_x5 x1 v2 v3 v4 v5 v6 w0_53 h53 a54) (0 : Nat)).2) _
      exact pEnd_sound good (L := F41_L) (D := F41_D) (its := [.g, .g, .g, (.b true), .g, .g, (.ix id62 off62 g62), (.ld (.string y62)), .g, .g, (.ix id56 off56 g56), (.ld (.string y56)), .g, (.b true), .g]) (ds := F41_m5_0) (ks := [1]) (e := ((F41_x5 x1 v2 v3 v4 v5 v6 w0_53 h53 a54) (0 : Nat)).1) (s2 := ((F41_x5 x1 v2 v3 v4 v5 v6 w0_53 h53 a54) (0 : Nat)).2) (hC := (And.intro c63 (And.intro (At.one (P := Try.prog) (t := 9) (v := .string y56) at56 (by kernel_rfl) 0 rfl rfl) (And.intro ix56 (And.intro (At.one (P := Try.prog) (t := 9) (v := .string y62) at62 (by kernel_rfl) 0 rfl rfl) (And.intro ix62 (And.intro c61 trivial))))))) (hd := F41_d5) (h := by kernel_rfl)
    · intro hr
      obtain rfl := Option.some.inj hr
      show AWp Try.prog _ (Ends1 .normal (F41_h5 x1 v2 v3 v4 v5 v6 w0_53 h53 a54 (IntKind.i64.wrap (a60 + 1)))) _
      exact pEnd_sound good (L := F41_L) (D := F41_D) (its := [.g, .g, .g, (.b true), .g, .g, (.ix id62 off62 g62), (.ld (.string y62)), .g, .g, (.ix id56 off56 g56), (.ld (.string y56)), .g, (.b false), .g, .g, .g]) (ds := F41_m5_1) (ks := []) (e := .normal) (s2 := (F41_h5 x1 v2 v3 v4 v5 v6 w0_53 h53 a54 (IntKind.i64.wrap (a60 + 1)))) (hC := (And.intro c63 (And.intro (At.one (P := Try.prog) (t := 9) (v := .string y56) at56 (by kernel_rfl) 0 rfl rfl) (And.intro ix56 (And.intro (At.one (P := Try.prog) (t := 9) (v := .string y62) at62 (by kernel_rfl) 0 rfl rfl) (And.intro ix62 (And.intro c61 trivial))))))) (hd := F41_d5) (h := by kernel_rfl)
  · intro hr
    obtain rfl := Option.some.inj hr
    show AWp Try.prog _ (Ends1 ((F41_x5 x1 v2 v3 v4 v5 v6 w0_53 h53 a54) (1 : Nat)).1 ((F41_x5 x1 v2 v3 v4 v5 v6 w0_53 h53 a54) (1 : Nat)).2) _
    exact pEnd_sound good (L := F41_L) (D := F41_D) (its := [.g, .g, .g, (.b false)]) (ds := F41_m5_2) (ks := []) (e := ((F41_x5 x1 v2 v3 v4 v5 v6 w0_53 h53 a54) (1 : Nat)).1) (s2 := ((F41_x5 x1 v2 v3 v4 v5 v6 w0_53 h53 a54) (1 : Nat)).2) (hC := (And.intro c61 trivial)) (hd := F41_d5) (h := by kernel_rfl)
theorem F41_l5_0 (h : AHeap) (x1 : ByteArray) (v2 : Hd) (v3 : Hd) (v4 : Hd) (v5 : Hd) (v6 : Hd) (y50 : Nat × (List ByteArray)) (w0_53 : Hd) (h53 : AHeap) (hp53 : Heapy h h53 [⟨w0_53, 9, 1, List.flatMap enc9 y50.2⟩]) (a54 : Int) (y56 : ByteArray) (id56 : Nat) (off56 : Nat) (g56 : Nat) (ix56 : ixv 1 (sv w0_53) a54 = some (id56, off56, g56)) (at56 : At h53 id56 off56 g56 (enc9 y56)) (x : Int) (r : Nat) (hl : loopO (fun (s : Int) => F41_s5 y50 a54 y56 s) x = some r) (q0 : Nat.beq r 0 = true) : AWp Try.prog (.loop (codeOf Try.prog 41 [1, 1, 1, 1, 0, 1, 0, 0, 1, 0, 0, 1, 1, 0, 0])) (Ends1 .ret (F41_x5_0 x1 v2 v3 v4 v5 v6 w0_53 h53 a54 r)) ((fun (s : Int) => (F41_h5 x1 v2 v3 v4 v5 v6 w0_53 h53 a54 s)) x) := by
  have k := loop_fun (P := Try.prog) (c := (codeOf Try.prog 41 [1, 1, 1, 1, 0, 1, 0, 0, 1, 0, 0, 1, 1, 0, 0])) (step := (fun (s : Int) => F41_s5 y50 a54 y56 s)) (hd := (fun (s : Int) => (F41_h5 x1 v2 v3 v4 v5 v6 w0_53 h53 a54 s))) (X := (F41_x5 x1 v2 v3 v4 v5 v6 w0_53 h53 a54)) (by intro t; unfold F41_x5; cases Nat.beq t 0 <;> (intro h; cases h)) (fun x => F41_r5 h x1 v2 v3 v4 v5 v6 y50 w0_53 h53 hp53 a54 y56 id56 off56 g56 ix56 at56 x) hl
  simp only [F41_x5, q0, cond_true, cond_false] at k
  exact k
theorem F41_l5_1 (h : AHeap) (x1 : ByteArray) (v2 : Hd) (v3 : Hd) (v4 : Hd) (v5 : Hd) (v6 : Hd) (y50 : Nat × (List ByteArray)) (w0_53 : Hd) (h53 : AHeap) (hp53 : Heapy h h53 [⟨w0_53, 9, 1, List.flatMap enc9 y50.2⟩]) (a54 : Int) (y56 : ByteArray) (id56 : Nat) (off56 : Nat) (g56 : Nat) (ix56 : ixv 1 (sv w0_53) a54 = some (id56, off56, g56)) (at56 : At h53 id56 off56 g56 (enc9 y56)) (x : Int) (r : Nat) (hl : loopO (fun (s : Int) => F41_s5 y50 a54 y56 s) x = some r) (q0 : Nat.beq r 0 = false) : AWp Try.prog (.loop (codeOf Try.prog 41 [1, 1, 1, 1, 0, 1, 0, 0, 1, 0, 0, 1, 1, 0, 0])) (Ends1 (.exit 7) (F41_x5_1 x1 v2 v3 v4 v5 v6 w0_53 h53 a54 r)) ((fun (s : Int) => (F41_h5 x1 v2 v3 v4 v5 v6 w0_53 h53 a54 s)) x) := by
  have k := loop_fun (P := Try.prog) (c := (codeOf Try.prog 41 [1, 1, 1, 1, 0, 1, 0, 0, 1, 0, 0, 1, 1, 0, 0])) (step := (fun (s : Int) => F41_s5 y50 a54 y56 s)) (hd := (fun (s : Int) => (F41_h5 x1 v2 v3 v4 v5 v6 w0_53 h53 a54 s))) (X := (F41_x5 x1 v2 v3 v4 v5 v6 w0_53 h53 a54)) (by intro t; unfold F41_x5; cases Nat.beq t 0 <;> (intro h; cases h)) (fun x => F41_r5 h x1 v2 v3 v4 v5 v6 y50 w0_53 h53 hp53 a54 y56 id56 off56 g56 ix56 at56 x) hl
  simp only [F41_x5, q0, cond_true, cond_false] at k
  exact k
def F41_m6_2 : List Bool := [true, false, true, true, true, true, true, true, true, true, true, true, true, true, true, true, true, true, true, true, true, true, true, true, true, true, true, true, true, true, true, true, true, true, true, true, true, true, true, true, true, true, true, true, true, true, true, true, true, true, true, true, true, true, true, true, true, true, true, true, true, true, true, true, true, true, true, true, true, true, true, true, true, true, true, true, true, true, true, true, true, true, true, true, true, true, true, true, true, true, true, true, true, true, true, true, true, true, true, true, true, true, true, true, true, true, true, true, true, true, true, true, true, true, true, true, true, true, true, true, true, true, true, true, true, true, true, true, true, true, true, true]
def F41_m6_1 : List Bool := [true, false, true, false, true, true, true, false, true, true, true, true, true, true, true, true, true, true, true, true, true, true, true, true, true, true, true, true, true, true, true, true, true, true, true, true, true, true, true, true, true, true, true, true, true, true, true, true, true, true, true, true, true, true, true, true, true, true, true, true, true, true, true, true, true, true, true, true, true, true, true, true, true, true, true, true, true, true, true, true, true, true, true, true, true, true, true, true, true, true, true, true, true, true, true, true, true, true, true, true, true, true, true, true, true, true, true, true, true, true, true, true, true, true, true, true, true, true, true, true, true, true, true, true, true, true, true, true, true, true, true, true]
def F41_m6_0 : List Bool := [true, true, false, true, true, true, true, true, true, true, true, true, true, true, true, true, true, true, true, true, true, true, true, true, true, true, true, true, true, true, true, true, true, true, true, true, true, true, true, true, true, true, true, true, true, true, true, true, true, true, true, true, true, true, true, true, true, true, true, true, true, true, true, true, true, true, true, true, true, true, true, true, true, true, true, true, true, true, true, true, true, true, true, true, true, true, true, true, true, true, true, true, true, true, true, true, true, true, true, true, true, true, true, true, true, true, true, true, true, true, true, true, true, true, true, true, true, true, true, true, true, true, true, true, true, true, true, true, true, true, true, true]
def F41_s6 (y50 : Nat × (List ByteArray)) (a54 : Int) : Option (Int ⊕ Nat) :=
  (bif decide (a54 < (y50.2.length : Int)) then
   (Option.bind (at? y50.2 a54) fun y56 =>
   (Option.bind (F40 y56) fun y57 =>
   (bif (!y57) then
    some (.inr 0)
   else
    (Option.bind (loopO (fun (s : Int) => F41_s5 y50 a54 y56 s) 0) fun y64 =>
    (bif (Nat.beq y64 0) then
     some (.inr 0)
    else
     some (.inl (IntKind.i64.wrap (a54 + 1))))))))
  else
   some (.inr 1))
def F41_h6 (x1 : ByteArray) (v2 : Hd) (v3 : Hd) (v4 : Hd) (v5 : Hd) (v6 : Hd) (w0_53 : Hd) (h53 : AHeap)  (a54 : Int) : AS := ⟨[junk, .pointer (some ⟨1, 0, none⟩), junk, (sv w0_53), junk, junk, junk, .int .i64 a54, junk, junk, junk, junk, junk, junk, junk, junk, junk, junk, junk, junk, junk, junk, junk, junk, junk, junk, junk, junk, junk, junk, junk, junk, junk, junk, junk, junk, junk, junk, junk, junk, junk, junk, junk, junk, junk, junk, junk, junk, junk, junk, junk, junk, junk, junk, junk, junk, junk, junk, junk, junk, junk, junk, junk, junk, junk, junk, junk, junk, junk, junk, junk, junk, junk, junk, junk, junk, junk, junk, junk, junk, junk, junk, junk, junk, junk, junk, junk, junk, junk, junk, junk, junk, junk, junk, junk, junk, junk, junk, junk, junk, junk, junk, junk, junk, junk, junk, junk, junk, junk, junk, junk, junk, junk, junk, junk, junk, junk, junk, junk, junk, junk, junk, junk, junk, junk, junk, junk, junk, junk, junk, junk, junk], [(1, [.string x1, (sv v2), (sv v3), (sv v4), (sv v5), (sv v6)])], h53⟩
theorem F41_d6 : drawsOk F41_D (codeOf Try.prog 41 [1, 1, 1, 1, 0, 1, 0, 0]) = true := by kernel_rfl
def F41_x6_0 (x1 : ByteArray) (v2 : Hd) (v3 : Hd) (v4 : Hd) (v5 : Hd) (v6 : Hd) (h53 : AHeap)  (r : Nat) : AS := ⟨[junk, junk, .bool false, junk, junk, junk, junk, junk, junk, junk, junk, junk, junk, junk, junk, junk, junk, junk, junk, junk, junk, junk, junk, junk, junk, junk, junk, junk, junk, junk, junk, junk, junk, junk, junk, junk, junk, junk, junk, junk, junk, junk, junk, junk, junk, junk, junk, junk, junk, junk, junk, junk, junk, junk, junk, junk, junk, junk, junk, junk, junk, junk, junk, junk, junk, junk, junk, junk, junk, junk, junk, junk, junk, junk, junk, junk, junk, junk, junk, junk, junk, junk, junk, junk, junk, junk, junk, junk, junk, junk, junk, junk, junk, junk, junk, junk, junk, junk, junk, junk, junk, junk, junk, junk, junk, junk, junk, junk, junk, junk, junk, junk, junk, junk, junk, junk, junk, junk, junk, junk, junk, junk, junk, junk, junk, junk, junk, junk, junk, junk, junk, junk], [], h53⟩
def F41_x6_1 (x1 : ByteArray) (v2 : Hd) (v3 : Hd) (v4 : Hd) (v5 : Hd) (v6 : Hd) (h53 : AHeap)  (r : Nat) : AS := ⟨[junk, .pointer (some ⟨1, 0, none⟩), junk, junk, junk, junk, junk, junk, junk, junk, junk, junk, junk, junk, junk, junk, junk, junk, junk, junk, junk, junk, junk, junk, junk, junk, junk, junk, junk, junk, junk, junk, junk, junk, junk, junk, junk, junk, junk, junk, junk, junk, junk, junk, junk, junk, junk, junk, junk, junk, junk, junk, junk, junk, junk, junk, junk, junk, junk, junk, junk, junk, junk, junk, junk, junk, junk, junk, junk, junk, junk, junk, junk, junk, junk, junk, junk, junk, junk, junk, junk, junk, junk, junk, junk, junk, junk, junk, junk, junk, junk, junk, junk, junk, junk, junk, junk, junk, junk, junk, junk, junk, junk, junk, junk, junk, junk, junk, junk, junk, junk, junk, junk, junk, junk, junk, junk, junk, junk, junk, junk, junk, junk, junk, junk, junk, junk, junk, junk, junk, junk, junk], [(1, [.string x1, (sv v2), (sv v3), (sv v4), (sv v5), (sv v6)])], h53⟩
def F41_x6 (x1 : ByteArray) (v2 : Hd) (v3 : Hd) (v4 : Hd) (v5 : Hd) (v6 : Hd) (h53 : AHeap) (r : Nat) : Exit × AS := (bif Nat.beq r 0 then (.ret, (F41_x6_0 x1 v2 v3 v4 v5 v6 h53 r)) else ((.exit 5), (F41_x6_1 x1 v2 v3 v4 v5 v6 h53 r)))
set_option maxRecDepth 100000 in
theorem F41_r6 (h : AHeap) (x1 : ByteArray) (v2 : Hd) (v3 : Hd) (v4 : Hd) (v5 : Hd) (v6 : Hd) (y50 : Nat × (List ByteArray)) (w0_53 : Hd) (h53 : AHeap) (hp53 : Heapy h h53 [⟨w0_53, 9, 1, List.flatMap enc9 y50.2⟩]) (a54 : Int) (o : Int ⊕ Nat) : F41_s6 y50 a54 = some o → RdF Try.prog (codeOf Try.prog 41 [1, 1, 1, 1, 0, 1, 0, 0]) (fun (s : Int) => (F41_h6 x1 v2 v3 v4 v5 v6 w0_53 h53 s)) (F41_x6 x1 v2 v3 v4 v5 v6 h53) (F41_h6 x1 v2 v3 v4 v5 v6 w0_53 h53 a54) o := by
  unfold F41_s6
  refine dec_bif (fun c55 => ?_) (fun c55 => ?_)
  · refine bind_opt fun y56 e56 => ?_
    obtain ⟨id56, off56, g56, cs56, ix56, at56, rfl⟩ := SlE.at (Heapy.sle (v := w0_53) (xs := y50.2) (enc := enc9) hp53 0 rfl (fun _ => rfl) (by decide)) e56
    refine bind_opt fun y57 e57 => ?_
    refine dec_bif (fun c59 => ?_) (fun c59 => ?_)
    · intro hr
      obtain rfl := Option.some.inj hr
      show AWp Try.prog _ (Ends1 ((F41_x6 x1 v2 v3 v4 v5 v6 h53) (0 : Nat)).1 ((F41_x6 x1 v2 v3 v4 v5 v6 h53) (0 : Nat)).2) _
      exact pEnd_sound good (L := F41_L) (D := F41_D) (its := [.g, .g, (.ln y50.2.length), .g, (.b true), .g, .g, (.ix id56 off56 g56), (.ld (.string y56)), (.c (.bool y57) h53), .g, (.b true), .g]) (ds := F41_m6_0) (ks := [1]) (e := ((F41_x6 x1 v2 v3 v4 v5 v6 h53) (0 : Nat)).1) (s2 := ((F41_x6 x1 v2 v3 v4 v5 v6 h53) (0 : Nat)).2) (hC := (And.intro c59 (And.intro (F40_spec y56 h53 _ e57) (And.intro (At.one (P := Try.prog) (t := 9) (v := .string y56) at56 (by kernel_rfl) 0 rfl rfl) (And.intro ix56 (And.intro c55 (And.intro (SlE.len (Heapy.sle (v := w0_53) (xs := y50.2) (enc := enc9) hp53 0 rfl (fun _ => rfl) (by decide))) trivial))))))) (hd := F41_d6) (h := by kernel_rfl)
    · refine bind_opt fun y64 e64 => ?_
      refine dec_bif (fun c65 => ?_) (fun c65 => ?_)
      · intro hr
        obtain rfl := Option.some.inj hr
        show AWp Try.prog _ (Ends1 ((F41_x6 x1 v2 v3 v4 v5 v6 h53) (0 : Nat)).1 ((F41_x6 x1 v2 v3 v4 v5 v6 h53) (0 : Nat)).2) _
        exact pEnd_sound good (L := F41_L) (D := F41_D) (its := [.g, .g, (.ln y50.2.length), .g, (.b true), .g, .g, (.ix id56 off56 g56), (.ld (.string y56)), (.c (.bool y57) h53), .g, (.b false), .g, (.l F41_m5_1 [] .ret (F41_x5_0 x1 v2 v3 v4 v5 v6 w0_53 h53 a54 y64))]) (ds := F41_m6_0) (ks := []) (e := ((F41_x6 x1 v2 v3 v4 v5 v6 h53) (0 : Nat)).1) (s2 := ((F41_x6 x1 v2 v3 v4 v5 v6 h53) (0 : Nat)).2) (hC := (And.intro (F41_l5_0 h x1 v2 v3 v4 v5 v6 y50 w0_53 h53 hp53 a54 y56 id56 off56 g56 ix56 at56 0 y64 e64 c65) (And.intro c59 (And.intro (F40_spec y56 h53 _ e57) (And.intro (At.one (P := Try.prog) (t := 9) (v := .string y56) at56 (by kernel_rfl) 0 rfl rfl) (And.intro ix56 (And.intro c55 (And.intro (SlE.len (Heapy.sle (v := w0_53) (xs := y50.2) (enc := enc9) hp53 0 rfl (fun _ => rfl) (by decide))) trivial)))))))) (hd := F41_d6) (h := by kernel_rfl)
      · intro hr
        obtain rfl := Option.some.inj hr
        show AWp Try.prog _ (Ends1 .normal (F41_h6 x1 v2 v3 v4 v5 v6 w0_53 h53 (IntKind.i64.wrap (a54 + 1)))) _
        exact pEnd_sound good (L := F41_L) (D := F41_D) (its := [.g, .g, (.ln y50.2.length), .g, (.b true), .g, .g, (.ix id56 off56 g56), (.ld (.string y56)), (.c (.bool y57) h53), .g, (.b false), .g, (.l F41_m5_1 [] (.exit 7) (F41_x5_1 x1 v2 v3 v4 v5 v6 w0_53 h53 a54 y64)), .g, .g, .g]) (ds := F41_m6_1) (ks := []) (e := .normal) (s2 := (F41_h6 x1 v2 v3 v4 v5 v6 w0_53 h53 (IntKind.i64.wrap (a54 + 1)))) (hC := (And.intro (F41_l5_1 h x1 v2 v3 v4 v5 v6 y50 w0_53 h53 hp53 a54 y56 id56 off56 g56 ix56 at56 0 y64 e64 c65) (And.intro c59 (And.intro (F40_spec y56 h53 _ e57) (And.intro (At.one (P := Try.prog) (t := 9) (v := .string y56) at56 (by kernel_rfl) 0 rfl rfl) (And.intro ix56 (And.intro c55 (And.intro (SlE.len (Heapy.sle (v := w0_53) (xs := y50.2) (enc := enc9) hp53 0 rfl (fun _ => rfl) (by decide))) trivial)))))))) (hd := F41_d6) (h := by kernel_rfl)
  · intro hr
    obtain rfl := Option.some.inj hr
    show AWp Try.prog _ (Ends1 ((F41_x6 x1 v2 v3 v4 v5 v6 h53) (1 : Nat)).1 ((F41_x6 x1 v2 v3 v4 v5 v6 h53) (1 : Nat)).2) _
    exact pEnd_sound good (L := F41_L) (D := F41_D) (its := [.g, .g, (.ln y50.2.length), .g, (.b false)]) (ds := F41_m6_2) (ks := []) (e := ((F41_x6 x1 v2 v3 v4 v5 v6 h53) (1 : Nat)).1) (s2 := ((F41_x6 x1 v2 v3 v4 v5 v6 h53) (1 : Nat)).2) (hC := (And.intro c55 (And.intro (SlE.len (Heapy.sle (v := w0_53) (xs := y50.2) (enc := enc9) hp53 0 rfl (fun _ => rfl) (by decide))) trivial))) (hd := F41_d6) (h := by kernel_rfl)
theorem F41_l6_0 (h : AHeap) (x1 : ByteArray) (v2 : Hd) (v3 : Hd) (v4 : Hd) (v5 : Hd) (v6 : Hd) (y50 : Nat × (List ByteArray)) (w0_53 : Hd) (h53 : AHeap) (hp53 : Heapy h h53 [⟨w0_53, 9, 1, List.flatMap enc9 y50.2⟩]) (x : Int) (r : Nat) (hl : loopO (fun (s : Int) => F41_s6 y50 s) x = some r) (q0 : Nat.beq r 0 = true) : AWp Try.prog (.loop (codeOf Try.prog 41 [1, 1, 1, 1, 0, 1, 0, 0])) (Ends1 .ret (F41_x6_0 x1 v2 v3 v4 v5 v6 h53 r)) ((fun (s : Int) => (F41_h6 x1 v2 v3 v4 v5 v6 w0_53 h53 s)) x) := by
  have k := loop_fun (P := Try.prog) (c := (codeOf Try.prog 41 [1, 1, 1, 1, 0, 1, 0, 0])) (step := (fun (s : Int) => F41_s6 y50 s)) (hd := (fun (s : Int) => (F41_h6 x1 v2 v3 v4 v5 v6 w0_53 h53 s))) (X := (F41_x6 x1 v2 v3 v4 v5 v6 h53)) (by intro t; unfold F41_x6; cases Nat.beq t 0 <;> (intro h; cases h)) (fun x => F41_r6 h x1 v2 v3 v4 v5 v6 y50 w0_53 h53 hp53 x) hl
  simp only [F41_x6, q0, cond_true, cond_false] at k
  exact k
theorem F41_l6_1 (h : AHeap) (x1 : ByteArray) (v2 : Hd) (v3 : Hd) (v4 : Hd) (v5 : Hd) (v6 : Hd) (y50 : Nat × (List ByteArray)) (w0_53 : Hd) (h53 : AHeap) (hp53 : Heapy h h53 [⟨w0_53, 9, 1, List.flatMap enc9 y50.2⟩]) (x : Int) (r : Nat) (hl : loopO (fun (s : Int) => F41_s6 y50 s) x = some r) (q0 : Nat.beq r 0 = false) : AWp Try.prog (.loop (codeOf Try.prog 41 [1, 1, 1, 1, 0, 1, 0, 0])) (Ends1 (.exit 5) (F41_x6_1 x1 v2 v3 v4 v5 v6 h53 r)) ((fun (s : Int) => (F41_h6 x1 v2 v3 v4 v5 v6 w0_53 h53 s)) x) := by
  have k := loop_fun (P := Try.prog) (c := (codeOf Try.prog 41 [1, 1, 1, 1, 0, 1, 0, 0])) (step := (fun (s : Int) => F41_s6 y50 s)) (hd := (fun (s : Int) => (F41_h6 x1 v2 v3 v4 v5 v6 w0_53 h53 s))) (X := (F41_x6 x1 v2 v3 v4 v5 v6 h53)) (by intro t; unfold F41_x6; cases Nat.beq t 0 <;> (intro h; cases h)) (fun x => F41_r6 h x1 v2 v3 v4 v5 v6 y50 w0_53 h53 hp53 x) hl
  simp only [F41_x6, q0, cond_true, cond_false] at k
  exact k
def F41 (x1 : ByteArray) (l2 : List Int) (l3 : List (ByteArray × Int × Int × Int × Int)) (l4 : List (ByteArray × Int × Bool)) (l5 : List Int) (l6 : List ((List Int) × (List (Int × Int × (List Int) × Int × Int)) × Int × Int × (List (Int × (List Int))) × (List Int) × Int × Int × Int)) : Option (Bool) :=
  (Option.bind (loopO (fun (s : Int × (List ByteArray)) => F41_s3 l3 s.1 s.2) (0, ([] : List ByteArray))) fun y34 =>
  (bif (Nat.beq y34.1 0) then
   some (false)
  else
   (Option.bind (loopO (fun (s : Int × (List ByteArray)) => F41_s4 l4 s.1 s.2) (0, y34.2)) fun y50 =>
   (bif (Nat.beq y50.1 0) then
    some (false)
   else
    (Option.bind (loopO (fun (s : Int) => F41_s6 y50 s) 0) fun y66 =>
    (bif (Nat.beq y66 0) then
     some (false)
    else
     (bif decide ((l3.length : Int) ≤ 64) then
      some (decide ((l4.length : Int) ≤ 64))
     else
      some (false))))))))
set_option maxRecDepth 100000 in
theorem F41_spec (x1 : ByteArray) (l2 : List Int) (l3 : List (ByteArray × Int × Int × Int × Int)) (l4 : List (ByteArray × Int × Bool)) (l5 : List Int) (l6 : List ((List Int) × (List (Int × Int × (List Int) × Int × Int)) × Int × Int × (List (Int × (List Int))) × (List Int) × Int × Int × Int)) (v2 : Hd) (v3 : Hd) (v4 : Hd) (v5 : Hd) (v6 : Hd) (h : AHeap) (hw : h.wf) (hv2 : SlE E3 1 h (sv v2) l2) (hv3 : SlE E102 5 h (sv v3) l3) (hv4 : SlE E104 3 h (sv v4) l4) (hv5 : SlE E3 1 h (sv v5) l5) (hv6 : SlE E35 9 h (sv v6) l6) (r : Bool) : F41 x1 l2 l3 l4 l5 l6 = some r → ∃ (h' : AHeap), Heapy h h' [] ∧ ACalls Try.prog 41 [.agg #[.string x1, (sv v2), (sv v3), (sv v4), (sv v5), (sv v6)]] h (fun v' h'' => v' = (.bool r : Value) ∧ h'' = h') := by
  unfold F41
  refine bind_opt fun y34 e34 => ?_
  have hp7 : Heapy h h [⟨⟨none, 0, 0⟩, 9, 1, List.flatMap enc9 ([] : List ByteArray)⟩] := Heapy.nil (Heapy.refl hw) 9 1
  obtain ⟨ee34, SS34, hX34, hA34⟩ := F41_l3 h x1 v2 l3 v3 hv3 v4 v5 v6 (0, ([] : List ByteArray)) y34 e34 (F41_h3 x1 v2 v3 v4 v5 v6 h ⟨none, 0, 0⟩ 0 ([] : List ByteArray)) ⟨h, ⟨none, 0, 0⟩, (Heapy.pick hp7 [0] (by decide)), Strict.nil, rfl⟩
  refine dec_bif (fun c35 => ?_) (fun c35 => ?_)
  · simp only [F41_x3, c35, cond_true, cond_false] at hX34
    obtain ⟨rfl, h36, hp36, rfl⟩ := hX34
    intro hr
    obtain rfl := Option.some.inj hr
    exact ⟨h36, Heapy.pick hp36 [] (by decide), pFun_sound good tab_ok (f := 41) (its := [.g, .g, .g, .g, (.l F41_m3_1 [] .ret (F41_x3_0 h x1 v2 v3 v4 v5 v6 h36 y34))]) (args := [.agg #[.string x1, (sv v2), (sv v3), (sv v4), (sv v5), (sv v6)]]) (h := h) (h' := h36) (v := .bool false) (hC := (And.intro hA34 trivial)) (hr := by kernel_rfl)⟩
  · simp only [F41_x3, c35, cond_true, cond_false] at hX34
    obtain ⟨rfl, h37, w0_37, hp37, zw0_37, rfl⟩ := hX34
    refine bind_opt fun y50 e50 => ?_
    obtain ⟨ee50, SS50, hX50, hA50⟩ := F41_l4 h x1 v2 v3 l4 v4 hv4 v5 v6 (0, y34.2) y50 e50 (F41_h4 x1 v2 v3 v4 v5 v6 h37 w0_37 0 y34.2) ⟨h37, w0_37, (Heapy.pick hp37 [0] (by decide)), zw0_37, rfl⟩
    refine dec_bif (fun c51 => ?_) (fun c51 => ?_)
    · simp only [F41_x4, c51, cond_true, cond_false] at hX50
      obtain ⟨rfl, h52, hp52, rfl⟩ := hX50
      intro hr
      obtain rfl := Option.some.inj hr
      exact ⟨h52, Heapy.pick hp52 [] (by decide), pFun_sound good tab_ok (f := 41) (its := [.g, .g, .g, .g, (.l F41_m3_1 [] (.exit 0) (F41_x3_1 h x1 v2 v3 v4 v5 v6 h37 w0_37 y34)), .g, (.l F41_m4_1 [] .ret (F41_x4_0 h x1 v2 v3 v4 v5 v6 h52 y50))]) (args := [.agg #[.string x1, (sv v2), (sv v3), (sv v4), (sv v5), (sv v6)]]) (h := h) (h' := h52) (v := .bool false) (hC := (And.intro hA50 (And.intro hA34 trivial))) (hr := by kernel_rfl)⟩
    · simp only [F41_x4, c51, cond_true, cond_false] at hX50
      obtain ⟨rfl, h53, w0_53, hp53, zw0_53, rfl⟩ := hX50
      refine bind_opt fun y66 e66 => ?_
      refine dec_bif (fun c67 => ?_) (fun c67 => ?_)
      · intro hr
        obtain rfl := Option.some.inj hr
        exact ⟨h53, Heapy.pick hp53 [] (by decide), pFun_sound good tab_ok (f := 41) (its := [.g, .g, .g, .g, (.l F41_m3_1 [] (.exit 0) (F41_x3_1 h x1 v2 v3 v4 v5 v6 h37 w0_37 y34)), .g, (.l F41_m4_1 [] (.exit 3) (F41_x4_1 h x1 v2 v3 v4 v5 v6 h53 w0_53 y50)), .g, (.l F41_m6_1 [] .ret (F41_x6_0 x1 v2 v3 v4 v5 v6 h53 y66))]) (args := [.agg #[.string x1, (sv v2), (sv v3), (sv v4), (sv v5), (sv v6)]]) (h := h) (h' := h53) (v := .bool false) (hC := (And.intro (F41_l6_0 h x1 v2 v3 v4 v5 v6 y50 w0_53 h53 hp53 0 y66 e66 c67) (And.intro hA50 (And.intro hA34 trivial)))) (hr := by kernel_rfl)⟩
      · refine dec_bif (fun c68 => ?_) (fun c68 => ?_)
        · intro hr
          obtain rfl := Option.some.inj hr
          exact ⟨h53, Heapy.pick hp53 [] (by decide), pFun_sound good tab_ok (f := 41) (its := [.g, .g, .g, .g, (.l F41_m3_1 [] (.exit 0) (F41_x3_1 h x1 v2 v3 v4 v5 v6 h37 w0_37 y34)), .g, (.l F41_m4_1 [] (.exit 3) (F41_x4_1 h x1 v2 v3 v4 v5 v6 h53 w0_53 y50)), .g, (.l F41_m6_1 [] (.exit 5) (F41_x6_1 x1 v2 v3 v4 v5 v6 h53 y66)), .g, .g, (.ln l3.length), .g, .g, (.w .g), (.w .g), (.w (.ln l4.length)), (.w .g), (.p true), .g]) (args := [.agg #[.string x1, (sv v2), (sv v3), (sv v4), (sv v5), (sv v6)]]) (h := h) (h' := h53) (v := .bool (decide ((l4.length : Int) ≤ 64))) (hC := (And.intro c68 (And.intro (g_tt c68) (And.intro (SlE.len hv4) (And.intro (g_tt c68) (And.intro (g_tt c68) (And.intro (g_tt c68) (And.intro (SlE.len hv3) (And.intro (F41_l6_1 h x1 v2 v3 v4 v5 v6 y50 w0_53 h53 hp53 0 y66 e66 c67) (And.intro hA50 (And.intro hA34 trivial))))))))))) (hr := by kernel_rfl)⟩
        · intro hr
          obtain rfl := Option.some.inj hr
          exact ⟨h53, Heapy.pick hp53 [] (by decide), pFun_sound good tab_ok (f := 41) (its := [.g, .g, .g, .g, (.l F41_m3_1 [] (.exit 0) (F41_x3_1 h x1 v2 v3 v4 v5 v6 h37 w0_37 y34)), .g, (.l F41_m4_1 [] (.exit 3) (F41_x4_1 h x1 v2 v3 v4 v5 v6 h53 w0_53 y50)), .g, (.l F41_m6_1 [] (.exit 5) (F41_x6_1 x1 v2 v3 v4 v5 v6 h53 y66)), .g, .g, (.ln l3.length), .g, .g, .n, .n, .n, .n, (.p false), .g]) (args := [.agg #[.string x1, (sv v2), (sv v3), (sv v4), (sv v5), (sv v6)]]) (h := h) (h' := h53) (v := .bool false) (hC := (And.intro c68 (And.intro (g_ft c68) (And.intro (g_ft c68) (And.intro (g_ft c68) (And.intro (g_ft c68) (And.intro (SlE.len hv3) (And.intro (F41_l6_1 h x1 v2 v3 v4 v5 v6 y50 w0_53 h53 hp53 0 y66 e66 c67) (And.intro hA50 (And.intro hA34 trivial)))))))))) (hr := by kernel_rfl)⟩
/-! 42 jacquard/jacquardref08.widths -/
def F42_L : List Nat := []
def F42_D : List (Nat × List (Nat × Nat)) := []
def F42_m1_2 : List Bool := [false, false, true, true, true, true, true, true, true, true, true, true, true, true, true, true, true, true, true, true, true, true]
def F42_m1_1 : List Bool := [false, false, true, true, true, false, true, true, true, true, true, true, true, true, true, true, true, true, true, true, true, true]
def F42_m1_0 : List Bool := [true, true, true, true, false, true, true, true, true, true, true, true, true, true, true, true, true, true, true, true, true, true]
def F42_s1 (l1 : List Int) (a3 : Int) : Option (Int ⊕ Nat) :=
  (bif decide (a3 < (l1.length : Int)) then
   (Option.bind (at? l1 a3) fun y5 =>
   (bif (!(F72 y5)) then
    some (.inr 0)
   else
    some (.inl (IntKind.i64.wrap (a3 + 1)))))
  else
   some (.inr 1))
def F42_h1 (h : AHeap) (v1 : Hd) (x2 : Int)  (a3 : Int) : AS := ⟨[(sv v1), .int .i64 x2, junk, junk, junk, .int .i64 a3, junk, junk, junk, junk, junk, junk, junk, junk, junk, junk, junk, junk, junk, junk, junk, junk], [], h⟩
theorem F42_d1 : drawsOk F42_D (codeOf Try.prog 42 [1, 0, 1, 0, 0]) = true := by kernel_rfl
def F42_x1_0 (h : AHeap) (v1 : Hd) (x2 : Int)  (r : Nat) : AS := ⟨[junk, junk, junk, junk, .bool false, junk, junk, junk, junk, junk, junk, junk, junk, junk, junk, junk, junk, junk, junk, junk, junk, junk], [], h⟩
def F42_x1_1 (h : AHeap) (v1 : Hd) (x2 : Int)  (r : Nat) : AS := ⟨[(sv v1), .int .i64 x2, junk, junk, junk, junk, junk, junk, junk, junk, junk, junk, junk, junk, junk, junk, junk, junk, junk, junk, junk, junk], [], h⟩
def F42_x1 (h : AHeap) (v1 : Hd) (x2 : Int) (r : Nat) : Exit × AS := (bif Nat.beq r 0 then (.ret, (F42_x1_0 h v1 x2 r)) else ((.exit 0), (F42_x1_1 h v1 x2 r)))
set_option maxRecDepth 100000 in
theorem F42_r1 (h : AHeap) (l1 : List Int) (v1 : Hd) (hv1 : SlE E3 1 h (sv v1) l1) (x2 : Int) (a3 : Int) (o : Int ⊕ Nat) : F42_s1 l1 a3 = some o → RdF Try.prog (codeOf Try.prog 42 [1, 0, 1, 0, 0]) (fun (s : Int) => (F42_h1 h v1 x2 s)) (F42_x1 h v1 x2) (F42_h1 h v1 x2 a3) o := by
  unfold F42_s1
  refine dec_bif (fun c4 => ?_) (fun c4 => ?_)
  · refine bind_opt fun y5 e5 => ?_
    obtain ⟨id5, off5, g5, cs5, ix5, at5, rfl⟩ := SlE.at hv1 e5
    refine dec_bif (fun c7 => ?_) (fun c7 => ?_)
    · intro hr
      obtain rfl := Option.some.inj hr
      show AWp Try.prog _ (Ends1 ((F42_x1 h v1 x2) (0 : Nat)).1 ((F42_x1 h v1 x2) (0 : Nat)).2) _
      exact pEnd_sound good (L := F42_L) (D := F42_D) (its := [.g, .g, (.ln l1.length), .g, (.b true), .g, .g, (.ix id5 off5 g5), (.ld (.int .i64 y5)), (.c (.bool (F72 y5)) h), .g, (.b true), .g]) (ds := F42_m1_0) (ks := []) (e := ((F42_x1 h v1 x2) (0 : Nat)).1) (s2 := ((F42_x1 h v1 x2) (0 : Nat)).2) (hC := (And.intro c7 (And.intro (F72_spec y5 h _ rfl) (And.intro (At.one (P := Try.prog) (t := 3) (v := .int .i64 y5) at5 (by kernel_rfl) 0 rfl rfl) (And.intro ix5 (And.intro c4 (And.intro (SlE.len hv1) trivial))))))) (hd := F42_d1) (h := by kernel_rfl)
    · intro hr
      obtain rfl := Option.some.inj hr
      show AWp Try.prog _ (Ends1 .normal (F42_h1 h v1 x2 (IntKind.i64.wrap (a3 + 1)))) _
      exact pEnd_sound good (L := F42_L) (D := F42_D) (its := [.g, .g, (.ln l1.length), .g, (.b true), .g, .g, (.ix id5 off5 g5), (.ld (.int .i64 y5)), (.c (.bool (F72 y5)) h), .g, (.b false), .g, .g, .g]) (ds := F42_m1_1) (ks := []) (e := .normal) (s2 := (F42_h1 h v1 x2 (IntKind.i64.wrap (a3 + 1)))) (hC := (And.intro c7 (And.intro (F72_spec y5 h _ rfl) (And.intro (At.one (P := Try.prog) (t := 3) (v := .int .i64 y5) at5 (by kernel_rfl) 0 rfl rfl) (And.intro ix5 (And.intro c4 (And.intro (SlE.len hv1) trivial))))))) (hd := F42_d1) (h := by kernel_rfl)
  · intro hr
    obtain rfl := Option.some.inj hr
    show AWp Try.prog _ (Ends1 ((F42_x1 h v1 x2) (1 : Nat)).1 ((F42_x1 h v1 x2) (1 : Nat)).2) _
    exact pEnd_sound good (L := F42_L) (D := F42_D) (its := [.g, .g, (.ln l1.length), .g, (.b false)]) (ds := F42_m1_2) (ks := []) (e := ((F42_x1 h v1 x2) (1 : Nat)).1) (s2 := ((F42_x1 h v1 x2) (1 : Nat)).2) (hC := (And.intro c4 (And.intro (SlE.len hv1) trivial))) (hd := F42_d1) (h := by kernel_rfl)
theorem F42_l1_0 (h : AHeap) (l1 : List Int) (v1 : Hd) (hv1 : SlE E3 1 h (sv v1) l1) (x2 : Int) (x : Int) (r : Nat) (hl : loopO (fun (s : Int) => F42_s1 l1 s) x = some r) (q0 : Nat.beq r 0 = true) : AWp Try.prog (.loop (codeOf Try.prog 42 [1, 0, 1, 0, 0])) (Ends1 .ret (F42_x1_0 h v1 x2 r)) ((fun (s : Int) => (F42_h1 h v1 x2 s)) x) := by
  have k := loop_fun (P := Try.prog) (c := (codeOf Try.prog 42 [1, 0, 1, 0, 0])) (step := (fun (s : Int) => F42_s1 l1 s)) (hd := (fun (s : Int) => (F42_h1 h v1 x2 s))) (X := (F42_x1 h v1 x2)) (by intro t; unfold F42_x1; cases Nat.beq t 0 <;> (intro h; cases h)) (fun x => F42_r1 h l1 v1 hv1 x2 x) hl
  simp only [F42_x1, q0, cond_true, cond_false] at k
  exact k
theorem F42_l1_1 (h : AHeap) (l1 : List Int) (v1 : Hd) (hv1 : SlE E3 1 h (sv v1) l1) (x2 : Int) (x : Int) (r : Nat) (hl : loopO (fun (s : Int) => F42_s1 l1 s) x = some r) (q0 : Nat.beq r 0 = false) : AWp Try.prog (.loop (codeOf Try.prog 42 [1, 0, 1, 0, 0])) (Ends1 (.exit 0) (F42_x1_1 h v1 x2 r)) ((fun (s : Int) => (F42_h1 h v1 x2 s)) x) := by
  have k := loop_fun (P := Try.prog) (c := (codeOf Try.prog 42 [1, 0, 1, 0, 0])) (step := (fun (s : Int) => F42_s1 l1 s)) (hd := (fun (s : Int) => (F42_h1 h v1 x2 s))) (X := (F42_x1 h v1 x2)) (by intro t; unfold F42_x1; cases Nat.beq t 0 <;> (intro h; cases h)) (fun x => F42_r1 h l1 v1 hv1 x2 x) hl
  simp only [F42_x1, q0, cond_true, cond_false] at k
  exact k
def F42 (l1 : List Int) (x2 : Int) : Option (Bool) :=
  (Option.bind (loopO (fun (s : Int) => F42_s1 l1 s) 0) fun y8 =>
  (bif (Nat.beq y8 0) then
   some (false)
  else
   some (decide ((l1.length : Int) ≤ x2))))
set_option maxRecDepth 100000 in
theorem F42_spec (l1 : List Int) (x2 : Int) (v1 : Hd) (h : AHeap) (hv1 : SlE E3 1 h (sv v1) l1) (r : Bool) : F42 l1 x2 = some r → ACalls Try.prog 42 [(sv v1), .int .i64 x2] h (fun v' h'' => v' = (.bool r : Value) ∧ h'' = h) := by
  unfold F42
  refine bind_opt fun y8 e8 => ?_
  refine dec_bif (fun c9 => ?_) (fun c9 => ?_)
  · intro hr
    obtain rfl := Option.some.inj hr
    exact pFun_sound good tab_ok (f := 42) (its := [.g, .g, (.l F42_m1_1 [] .ret (F42_x1_0 h v1 x2 y8))]) (args := [(sv v1), .int .i64 x2]) (h := h) (h' := h) (v := .bool false) (hC := (And.intro (F42_l1_0 h l1 v1 hv1 x2 0 y8 e8 c9) trivial)) (hr := by kernel_rfl)
  · intro hr
    obtain rfl := Option.some.inj hr
    exact pFun_sound good tab_ok (f := 42) (its := [.g, .g, (.l F42_m1_1 [] (.exit 0) (F42_x1_1 h v1 x2 y8)), .g, (.ln l1.length), .g, .g, .g]) (args := [(sv v1), .int .i64 x2]) (h := h) (h' := h) (v := .bool (decide ((l1.length : Int) ≤ x2))) (hC := (And.intro (SlE.len hv1) (And.intro (F42_l1_1 h l1 v1 hv1 x2 0 y8 e8 c9) trivial))) (hr := by kernel_rfl)
/-! 43 jacquard/jacquardref08.within -/
def F43 (x1 : ByteArray) (l2 : List Int) (l3 : List (ByteArray × Int × Int × Int × Int)) (l4 : List (ByteArray × Int × Bool)) (l5 : List Int) (l6 : List ((List Int) × (List (Int × Int × (List Int) × Int × Int)) × Int × Int × (List (Int × (List Int))) × (List Int) × Int × Int × Int)) (x7 : Int) : Bool :=
  (bif decide (x7 ≥ 0) then
   (decide (x7 < (l2.length : Int)))
  else
   false)
set_option maxRecDepth 100000 in
theorem F43_spec (x1 : ByteArray) (l2 : List Int) (l3 : List (ByteArray × Int × Int × Int × Int)) (l4 : List (ByteArray × Int × Bool)) (l5 : List Int) (l6 : List ((List Int) × (List (Int × Int × (List Int) × Int × Int)) × Int × Int × (List (Int × (List Int))) × (List Int) × Int × Int × Int)) (x7 : Int) (v2 : Hd) (v3 : Hd) (v4 : Hd) (v5 : Hd) (v6 : Hd) (h : AHeap) (hv2 : SlE E3 1 h (sv v2) l2) (hv3 : SlE E102 5 h (sv v3) l3) (hv4 : SlE E104 3 h (sv v4) l4) (hv5 : SlE E3 1 h (sv v5) l5) (hv6 : SlE E35 9 h (sv v6) l6) (r : Bool) : F43 x1 l2 l3 l4 l5 l6 x7 = r → ACalls Try.prog 43 [.agg #[.string x1, (sv v2), (sv v3), (sv v4), (sv v5), (sv v6)], .int .i64 x7] h (fun v' h'' => v' = (.bool r : Value) ∧ h'' = h) := by
  unfold F43
  refine dec_bif (fun c8 => ?_) (fun c8 => ?_)
  · intro hr
    subst hr
    exact pFun_sound good tab_ok (f := 43) (its := [.g, .g, .g, .g, .g, (.w .g), (.w .g), (.w .g), (.w (.ln l2.length)), (.w .g), (.p true), .g]) (args := [.agg #[.string x1, (sv v2), (sv v3), (sv v4), (sv v5), (sv v6)], .int .i64 x7]) (h := h) (h' := h) (v := .bool (decide (x7 < (l2.length : Int)))) (hC := (And.intro c8 (And.intro (g_tt c8) (And.intro (SlE.len hv2) (And.intro (g_tt c8) (And.intro (g_tt c8) (And.intro (g_tt c8) (And.intro (g_tt c8) trivial)))))))) (hr := by kernel_rfl)
  · intro hr
    subst hr
    exact pFun_sound good tab_ok (f := 43) (its := [.g, .g, .g, .g, .g, .n, .n, .n, .n, .n, (.p false), .g]) (args := [.agg #[.string x1, (sv v2), (sv v3), (sv v4), (sv v5), (sv v6)], .int .i64 x7]) (h := h) (h' := h) (v := .bool false) (hC := (And.intro c8 (And.intro (g_ft c8) (And.intro (g_ft c8) (And.intro (g_ft c8) (And.intro (g_ft c8) (And.intro (g_ft c8) trivial))))))) (hr := by kernel_rfl)
/-! 73 jacquard/jacquardref01.IsBinary -/
def F73 (x1 : Int) : Bool :=
  (bif decide (x1 ≥ 2) then
   (decide (x1 ≤ 20))
  else
   false)
set_option maxRecDepth 100000 in
theorem F73_spec (x1 : Int) (h : AHeap)  (r : Bool) : F73 x1 = r → ACalls Try.prog 73 [.int .i64 x1] h (fun v' h'' => v' = (.bool r : Value) ∧ h'' = h) := by
  unfold F73
  refine dec_bif (fun c2 => ?_) (fun c2 => ?_)
  · intro hr
    subst hr
    exact pFun_sound good tab_ok (f := 73) (its := [.g, .g, .g, .g, (.w .g), (.w .g), (.p true), .g]) (args := [.int .i64 x1]) (h := h) (h' := h) (v := .bool (decide (x1 ≤ 20))) (hC := (And.intro c2 (And.intro (g_tt c2) (And.intro (g_tt c2) trivial)))) (hr := by kernel_rfl)
  · intro hr
    subst hr
    exact pFun_sound good tab_ok (f := 73) (its := [.g, .g, .g, .g, .n, .n, (.p false), .g]) (args := [.int .i64 x1]) (h := h) (h' := h) (v := .bool false) (hC := (And.intro c2 (And.intro (g_ft c2) (And.intro (g_ft c2) trivial)))) (hr := by kernel_rfl)
/-! 44 jacquard/jacquardref08.Arity -/
def F44 (x1 : Int) : Int :=
  (bif (x1 == 1) then
   0
  else
   (bif (F73 x1) then
    2
   else
    (bif (x1 == 25) then
     2
    else
     (bif (x1 == 28) then
      2
     else
      (bif (x1 == 21) then
       3
      else
       (bif (x1 == 26) then
        3
       else
        (bif (x1 == 22) then
         1
        else
         (bif (x1 == 23) then
          1
         else
          (bif (x1 == 24) then
           1
          else
           (bif (x1 == 27) then
            1
           else
            (-1)))))))))))
set_option maxRecDepth 100000 in
theorem F44_spec (x1 : Int) (h : AHeap)  (r : Int) : F44 x1 = r → ACalls Try.prog 44 [.int .i64 x1] h (fun v' h'' => v' = (.int .i64 r : Value) ∧ h'' = h) := by
  unfold F44
  refine dec_bif (fun c2 => ?_) (fun c2 => ?_)
  · intro hr
    subst hr
    exact pFun_sound good tab_ok (f := 44) (its := [.g, .g, .g, .g, (.b true), .g]) (args := [.int .i64 x1]) (h := h) (h' := h) (v := .int .i64 0) (hC := (And.intro c2 trivial)) (hr := by kernel_rfl)
  · refine dec_bif (fun c4 => ?_) (fun c4 => ?_)
    · intro hr
      subst hr
      exact pFun_sound good tab_ok (f := 44) (its := [.g, .g, .g, .g, (.b false), .g, (.c (.bool (F73 x1)) h), .g, (.b true), (.b true), .g]) (args := [.int .i64 x1]) (h := h) (h' := h) (v := .int .i64 2) (hC := (And.intro c4 (And.intro c4 (And.intro (F73_spec x1 h _ rfl) (And.intro c2 trivial))))) (hr := by kernel_rfl)
    · refine dec_bif (fun c5 => ?_) (fun c5 => ?_)
      · intro hr
        subst hr
        exact pFun_sound good tab_ok (f := 44) (its := [.g, .g, .g, .g, (.b false), .g, (.c (.bool (F73 x1)) h), .g, (.b false), .g, .g, .g, (.b true), (.b true), .g]) (args := [.int .i64 x1]) (h := h) (h' := h) (v := .int .i64 2) (hC := (And.intro c5 (And.intro c5 (And.intro c4 (And.intro (F73_spec x1 h _ rfl) (And.intro c2 trivial)))))) (hr := by kernel_rfl)
      · refine dec_bif (fun c6 => ?_) (fun c6 => ?_)
        · intro hr
          subst hr
          exact pFun_sound good tab_ok (f := 44) (its := [.g, .g, .g, .g, (.b false), .g, (.c (.bool (F73 x1)) h), .g, (.b false), .g, .g, .g, (.b false), .g, .g, .g, (.b true), .g]) (args := [.int .i64 x1]) (h := h) (h' := h) (v := .int .i64 2) (hC := (And.intro c6 (And.intro c5 (And.intro c4 (And.intro (F73_spec x1 h _ rfl) (And.intro c2 trivial)))))) (hr := by kernel_rfl)
        · refine dec_bif (fun c7 => ?_) (fun c7 => ?_)
          · intro hr
            subst hr
            exact pFun_sound good tab_ok (f := 44) (its := [.g, .g, .g, .g, (.b false), .g, (.c (.bool (F73 x1)) h), .g, (.b false), .g, .g, .g, (.b false), .g, .g, .g, (.b false), .g, .g, .g, (.b true), (.b true), .g]) (args := [.int .i64 x1]) (h := h) (h' := h) (v := .int .i64 3) (hC := (And.intro c7 (And.intro c7 (And.intro c6 (And.intro c5 (And.intro c4 (And.intro (F73_spec x1 h _ rfl) (And.intro c2 trivial)))))))) (hr := by kernel_rfl)
          · refine dec_bif (fun c8 => ?_) (fun c8 => ?_)
            · intro hr
              subst hr
              exact pFun_sound good tab_ok (f := 44) (its := [.g, .g, .g, .g, (.b false), .g, (.c (.bool (F73 x1)) h), .g, (.b false), .g, .g, .g, (.b false), .g, .g, .g, (.b false), .g, .g, .g, (.b false), .g, .g, .g, (.b true), .g]) (args := [.int .i64 x1]) (h := h) (h' := h) (v := .int .i64 3) (hC := (And.intro c8 (And.intro c7 (And.intro c6 (And.intro c5 (And.intro c4 (And.intro (F73_spec x1 h _ rfl) (And.intro c2 trivial)))))))) (hr := by kernel_rfl)
            · refine dec_bif (fun c9 => ?_) (fun c9 => ?_)
              · intro hr
                subst hr
                exact pFun_sound good tab_ok (f := 44) (its := [.g, .g, .g, .g, (.b false), .g, (.c (.bool (F73 x1)) h), .g, (.b false), .g, .g, .g, (.b false), .g, .g, .g, (.b false), .g, .g, .g, (.b false), .g, .g, .g, (.b false), .g, .g, .g, (.b true), (.b true), .g]) (args := [.int .i64 x1]) (h := h) (h' := h) (v := .int .i64 1) (hC := (And.intro c9 (And.intro c9 (And.intro c8 (And.intro c7 (And.intro c6 (And.intro c5 (And.intro c4 (And.intro (F73_spec x1 h _ rfl) (And.intro c2 trivial)))))))))) (hr := by kernel_rfl)
              · refine dec_bif (fun c10 => ?_) (fun c10 => ?_)
                · intro hr
                  subst hr
                  exact pFun_sound good tab_ok (f := 44) (its := [.g, .g, .g, .g, (.b false), .g, (.c (.bool (F73 x1)) h), .g, (.b false), .g, .g, .g, (.b false), .g, .g, .g, (.b false), .g, .g, .g, (.b false), .g, .g, .g, (.b false), .g, .g, .g, (.b false), .g, .g, .g, (.b true), (.b true), .g]) (args := [.int .i64 x1]) (h := h) (h' := h) (v := .int .i64 1) (hC := (And.intro c10 (And.intro c10 (And.intro c9 (And.intro c8 (And.intro c7 (And.intro c6 (And.intro c5 (And.intro c4 (And.intro (F73_spec x1 h _ rfl) (And.intro c2 trivial))))))))))) (hr := by kernel_rfl)
                · refine dec_bif (fun c11 => ?_) (fun c11 => ?_)
                  · intro hr
                    subst hr
                    exact pFun_sound good tab_ok (f := 44) (its := [.g, .g, .g, .g, (.b false), .g, (.c (.bool (F73 x1)) h), .g, (.b false), .g, .g, .g, (.b false), .g, .g, .g, (.b false), .g, .g, .g, (.b false), .g, .g, .g, (.b false), .g, .g, .g, (.b false), .g, .g, .g, (.b false), .g, .g, .g, (.b true), (.b true), .g]) (args := [.int .i64 x1]) (h := h) (h' := h) (v := .int .i64 1) (hC := (And.intro c11 (And.intro c11 (And.intro c10 (And.intro c9 (And.intro c8 (And.intro c7 (And.intro c6 (And.intro c5 (And.intro c4 (And.intro (F73_spec x1 h _ rfl) (And.intro c2 trivial)))))))))))) (hr := by kernel_rfl)
                  · refine dec_bif (fun c12 => ?_) (fun c12 => ?_)
                    · intro hr
                      subst hr
                      exact pFun_sound good tab_ok (f := 44) (its := [.g, .g, .g, .g, (.b false), .g, (.c (.bool (F73 x1)) h), .g, (.b false), .g, .g, .g, (.b false), .g, .g, .g, (.b false), .g, .g, .g, (.b false), .g, .g, .g, (.b false), .g, .g, .g, (.b false), .g, .g, .g, (.b false), .g, .g, .g, (.b false), .g, .g, .g, (.b true), .g]) (args := [.int .i64 x1]) (h := h) (h' := h) (v := .int .i64 1) (hC := (And.intro c12 (And.intro c11 (And.intro c10 (And.intro c9 (And.intro c8 (And.intro c7 (And.intro c6 (And.intro c5 (And.intro c4 (And.intro (F73_spec x1 h _ rfl) (And.intro c2 trivial)))))))))))) (hr := by kernel_rfl)
                    · intro hr
                      subst hr
                      exact pFun_sound good tab_ok (f := 44) (its := [.g, .g, .g, .g, (.b false), .g, (.c (.bool (F73 x1)) h), .g, (.b false), .g, .g, .g, (.b false), .g, .g, .g, (.b false), .g, .g, .g, (.b false), .g, .g, .g, (.b false), .g, .g, .g, (.b false), .g, .g, .g, (.b false), .g, .g, .g, (.b false), .g, .g, .g, (.b false), .g]) (args := [.int .i64 x1]) (h := h) (h' := h) (v := .int .i64 (-1)) (hC := (And.intro c12 (And.intro c11 (And.intro c10 (And.intro c9 (And.intro c8 (And.intro c7 (And.intro c6 (And.intro c5 (And.intro c4 (And.intro (F73_spec x1 h _ rfl) (And.intro c2 trivial)))))))))))) (hr := by kernel_rfl)
def enc4 (x : Bool) : List Value := [.bool x]
def E4 (h : AHeap) (cs : List Value) (x : Bool) : Prop := cs = enc4 x
theorem E4_mono {h h' : AHeap} (le : h.sub h') (cs : List Value) (x : Bool) (H : E4 h cs x) : E4 h' cs x := H
def W4 (x : Bool) : Prop := True
set_option maxRecDepth 100000 in
theorem E4_wt {h : AHeap} {n : Nat} {cs : List Value} (H : WT Try.prog h n 4 cs) : ∃ x, E4 h cs x ∧ W4 x := by
  have k : SQ Try.prog h [.bool] cs := wt_flatS 1 n (by kernel_rfl) H
  obtain ⟨x0, r0, rfl, k0⟩ := sq_bool k
  obtain rfl := sq_nil k0
  exact ⟨x0, rfl, trivial⟩
/-! 45 jacquard/jacquardref08.used -/
def F45_L : List Nat := [3]
def F45_D : List (Nat × List (Nat × Nat)) := [(4, [(0, 2), (1, 2), (2, 2), (3, 2), (4, 2), (5, 1), (6, 2), (7, 2), (8, 2), (9, 2), (10, 2), (11, 2), (12, 2), (13, 2), (14, 2), (15, 2), (16, 2)])]
def F45_m1_2 : List Bool := [true, true, true, true, true, true, true, true, true, true, true, true, true, true, true, true, true, true, true, true, true, true, true, true, true, true, true, true, true, true, true]
def F45_m1_1 : List Bool := [true, false, false, false, true, true, true, false, true, true, true, true, true, true, true, true, true, true, true, true, true, true, true, true, true, true, true, true, true, true, true]
def F45_m1_0 : List Bool := [true, true, true, true, true, true, false, true, true, true, true, true, true, true, true, true, true, true, true, true, true, true, true, true, true, true, true, true, true, true, true]
def F45_s1 (x1 : ByteArray) (l2 : List Int) (l3 : List (ByteArray × Int × Int × Int × Int)) (l4 : List (ByteArray × Int × Bool)) (l5 : List Int) (l6 : List ((List Int) × (List (Int × Int × (List Int) × Int × Int)) × Int × Int × (List (Int × (List Int))) × (List Int) × Int × Int × Int)) (l7 : List Int) (l8 : List Bool) (a9 : Int) : Option (Int ⊕ Nat) :=
  (bif decide (a9 < (l7.length : Int)) then
   (Option.bind (at? l7 a9) fun y11 =>
   (bif (!(F43 x1 l2 l3 l4 l5 l6 y11)) then
    some (.inr 0)
   else
    (Option.bind (at? l8 y11) fun y14 =>
    (bif (!y14) then
     some (.inr 0)
    else
     some (.inl (IntKind.i64.wrap (a9 + 1)))))))
  else
   some (.inr 1))
def F45_h1 (h : AHeap) (x1 : ByteArray) (v2 : Hd) (v3 : Hd) (v4 : Hd) (v5 : Hd) (v6 : Hd) (v7 : Hd) (v8 : Hd)  (a9 : Int) : AS := ⟨[junk, (sv v7), (sv v8), .pointer (some ⟨3, 0, none⟩), junk, junk, junk, .int .i64 a9, junk, junk, junk, junk, junk, junk, junk, junk, junk, junk, junk, junk, junk, junk, junk, junk, junk, junk, junk, junk, junk, junk, junk], [(3, [.string x1, (sv v2), (sv v3), (sv v4), (sv v5), (sv v6)])], h⟩
theorem F45_d1 : drawsOk F45_D (codeOf Try.prog 45 [1, 0, 1, 0, 0]) = true := by kernel_rfl
def F45_x1_0 (h : AHeap)  (r : Nat) : AS := ⟨[junk, junk, junk, junk, junk, junk, .bool false, junk, junk, junk, junk, junk, junk, junk, junk, junk, junk, junk, junk, junk, junk, junk, junk, junk, junk, junk, junk, junk, junk, junk, junk], [], h⟩
def F45_x1_1 (h : AHeap)  (r : Nat) : AS := ⟨[junk, junk, junk, junk, junk, junk, junk, junk, junk, junk, junk, junk, junk, junk, junk, junk, junk, junk, junk, junk, junk, junk, junk, junk, junk, junk, junk, junk, junk, junk, junk], [], h⟩
def F45_x1 (h : AHeap) (r : Nat) : Exit × AS := (bif Nat.beq r 0 then (.ret, (F45_x1_0 h r)) else ((.exit 0), (F45_x1_1 h r)))
set_option maxRecDepth 100000 in
theorem F45_r1 (h : AHeap) (x1 : ByteArray) (l2 : List Int) (v2 : Hd) (hv2 : SlE E3 1 h (sv v2) l2) (l3 : List (ByteArray × Int × Int × Int × Int)) (v3 : Hd) (hv3 : SlE E102 5 h (sv v3) l3) (l4 : List (ByteArray × Int × Bool)) (v4 : Hd) (hv4 : SlE E104 3 h (sv v4) l4) (l5 : List Int) (v5 : Hd) (hv5 : SlE E3 1 h (sv v5) l5) (l6 : List ((List Int) × (List (Int × Int × (List Int) × Int × Int)) × Int × Int × (List (Int × (List Int))) × (List Int) × Int × Int × Int)) (v6 : Hd) (hv6 : SlE E35 9 h (sv v6) l6) (l7 : List Int) (v7 : Hd) (hv7 : SlE E3 1 h (sv v7) l7) (l8 : List Bool) (v8 : Hd) (hv8 : SlE E4 1 h (sv v8) l8) (a9 : Int) (o : Int ⊕ Nat) : F45_s1 x1 l2 l3 l4 l5 l6 l7 l8 a9 = some o → RdF Try.prog (codeOf Try.prog 45 [1, 0, 1, 0, 0]) (fun (s : Int) => (F45_h1 h x1 v2 v3 v4 v5 v6 v7 v8 s)) (F45_x1 h) (F45_h1 h x1 v2 v3 v4 v5 v6 v7 v8 a9) o := by
  unfold F45_s1
  refine dec_bif (fun c10 => ?_) (fun c10 => ?_)
  · refine bind_opt fun y11 e11 => ?_
    obtain ⟨id11, off11, g11, cs11, ix11, at11, rfl⟩ := SlE.at hv7 e11
    refine dec_bif (fun c13 => ?_) (fun c13 => ?_)
    · intro hr
      obtain rfl := Option.some.inj hr
      show AWp Try.prog _ (Ends1 ((F45_x1 h) (0 : Nat)).1 ((F45_x1 h) (0 : Nat)).2) _
      exact pEnd_sound good (L := F45_L) (D := F45_D) (its := [.g, .g, (.ln l7.length), .g, (.b true), .g, .g, .g, (.ix id11 off11 g11), (.ld (.int .i64 y11)), (.c (.bool (F43 x1 l2 l3 l4 l5 l6 y11)) h), .g, .g, .n, .n, .n, .n, .n, .n, .n, .n, (.p true), (.b true), .g]) (ds := F45_m1_0) (ks := [3]) (e := ((F45_x1 h) (0 : Nat)).1) (s2 := ((F45_x1 h) (0 : Nat)).2) (hC := (And.intro l_t (And.intro c13 (And.intro (g_tf c13) (And.intro (g_tf c13) (And.intro (g_tf c13) (And.intro (g_tf c13) (And.intro (g_tf c13) (And.intro (g_tf c13) (And.intro (g_tf c13) (And.intro (g_tf c13) (And.intro (show AKeep h h from (AHeap.sub_refl h)) (And.intro (F43_spec x1 l2 l3 l4 l5 l6 y11 v2 v3 v4 v5 v6 h hv2 hv3 hv4 hv5 hv6 _ rfl) (And.intro (At.one (P := Try.prog) (t := 3) (v := .int .i64 y11) at11 (by kernel_rfl) 0 rfl rfl) (And.intro ix11 (And.intro c10 (And.intro (SlE.len hv7) trivial))))))))))))))))) (hd := F45_d1) (h := by kernel_rfl)
    · refine bind_opt fun y14 e14 => ?_
      obtain ⟨id14, off14, g14, cs14, ix14, at14, rfl⟩ := SlE.at hv8 e14
      refine dec_bif (fun c15 => ?_) (fun c15 => ?_)
      · intro hr
        obtain rfl := Option.some.inj hr
        show AWp Try.prog _ (Ends1 ((F45_x1 h) (0 : Nat)).1 ((F45_x1 h) (0 : Nat)).2) _
        exact pEnd_sound good (L := F45_L) (D := F45_D) (its := [.g, .g, (.ln l7.length), .g, (.b true), .g, .g, .g, (.ix id11 off11 g11), (.ld (.int .i64 y11)), (.c (.bool (F43 x1 l2 l3 l4 l5 l6 y11)) h), .g, .g, (.w .g), (.w .g), (.w .g), (.w (.ix id11 off11 g11)), (.w (.ld (.int .i64 y11))), (.w (.ix id14 off14 g14)), (.w (.ld (.bool y14))), (.w .g), (.p false), (.b true), .g]) (ds := F45_m1_0) (ks := [3]) (e := ((F45_x1 h) (0 : Nat)).1) (s2 := ((F45_x1 h) (0 : Nat)).2) (hC := (And.intro c15 (And.intro c13 (And.intro (g_ff c13) (And.intro (At.one (P := Try.prog) (t := 4) (v := .bool y14) at14 (by kernel_rfl) 0 rfl rfl) (And.intro (g_ff c13) (And.intro ix14 (And.intro (g_ff c13) (And.intro (At.one (P := Try.prog) (t := 3) (v := .int .i64 y11) at11 (by kernel_rfl) 0 rfl rfl) (And.intro (g_ff c13) (And.intro ix11 (And.intro (g_ff c13) (And.intro (g_ff c13) (And.intro (g_ff c13) (And.intro (g_ff c13) (And.intro (show AKeep h h from (AHeap.sub_refl h)) (And.intro (F43_spec x1 l2 l3 l4 l5 l6 y11 v2 v3 v4 v5 v6 h hv2 hv3 hv4 hv5 hv6 _ rfl) (And.intro (At.one (P := Try.prog) (t := 3) (v := .int .i64 y11) at11 (by kernel_rfl) 0 rfl rfl) (And.intro ix11 (And.intro c10 (And.intro (SlE.len hv7) trivial))))))))))))))))))))) (hd := F45_d1) (h := by kernel_rfl)
      · intro hr
        obtain rfl := Option.some.inj hr
        show AWp Try.prog _ (Ends1 .normal (F45_h1 h x1 v2 v3 v4 v5 v6 v7 v8 (IntKind.i64.wrap (a9 + 1)))) _
        exact pEnd_sound good (L := F45_L) (D := F45_D) (its := [.g, .g, (.ln l7.length), .g, (.b true), .g, .g, .g, (.ix id11 off11 g11), (.ld (.int .i64 y11)), (.c (.bool (F43 x1 l2 l3 l4 l5 l6 y11)) h), .g, .g, (.w .g), (.w .g), (.w .g), (.w (.ix id11 off11 g11)), (.w (.ld (.int .i64 y11))), (.w (.ix id14 off14 g14)), (.w (.ld (.bool y14))), (.w .g), (.p false), (.b false), .g, .g, .g]) (ds := F45_m1_1) (ks := []) (e := .normal) (s2 := (F45_h1 h x1 v2 v3 v4 v5 v6 v7 v8 (IntKind.i64.wrap (a9 + 1)))) (hC := (And.intro c15 (And.intro c13 (And.intro (g_ff c13) (And.intro (At.one (P := Try.prog) (t := 4) (v := .bool y14) at14 (by kernel_rfl) 0 rfl rfl) (And.intro (g_ff c13) (And.intro ix14 (And.intro (g_ff c13) (And.intro (At.one (P := Try.prog) (t := 3) (v := .int .i64 y11) at11 (by kernel_rfl) 0 rfl rfl) (And.intro (g_ff c13) (And.intro ix11 (And.intro (g_ff c13) (And.intro (g_ff c13) (And.intro (g_ff c13) (And.intro (g_ff c13) (And.intro (show AKeep h h from (AHeap.sub_refl h)) (And.intro (F43_spec x1 l2 l3 l4 l5 l6 y11 v2 v3 v4 v5 v6 h hv2 hv3 hv4 hv5 hv6 _ rfl) (And.intro (At.one (P := Try.prog) (t := 3) (v := .int .i64 y11) at11 (by kernel_rfl) 0 rfl rfl) (And.intro ix11 (And.intro c10 (And.intro (SlE.len hv7) trivial))))))))))))))))))))) (hd := F45_d1) (h := by kernel_rfl)
  · intro hr
    obtain rfl := Option.some.inj hr
    show AWp Try.prog _ (Ends1 ((F45_x1 h) (1 : Nat)).1 ((F45_x1 h) (1 : Nat)).2) _
    exact pEnd_sound good (L := F45_L) (D := F45_D) (its := [.g, .g, (.ln l7.length), .g, (.b false)]) (ds := F45_m1_2) (ks := [3]) (e := ((F45_x1 h) (1 : Nat)).1) (s2 := ((F45_x1 h) (1 : Nat)).2) (hC := (And.intro c10 (And.intro (SlE.len hv7) trivial))) (hd := F45_d1) (h := by kernel_rfl)
theorem F45_l1_0 (h : AHeap) (x1 : ByteArray) (l2 : List Int) (v2 : Hd) (hv2 : SlE E3 1 h (sv v2) l2) (l3 : List (ByteArray × Int × Int × Int × Int)) (v3 : Hd) (hv3 : SlE E102 5 h (sv v3) l3) (l4 : List (ByteArray × Int × Bool)) (v4 : Hd) (hv4 : SlE E104 3 h (sv v4) l4) (l5 : List Int) (v5 : Hd) (hv5 : SlE E3 1 h (sv v5) l5) (l6 : List ((List Int) × (List (Int × Int × (List Int) × Int × Int)) × Int × Int × (List (Int × (List Int))) × (List Int) × Int × Int × Int)) (v6 : Hd) (hv6 : SlE E35 9 h (sv v6) l6) (l7 : List Int) (v7 : Hd) (hv7 : SlE E3 1 h (sv v7) l7) (l8 : List Bool) (v8 : Hd) (hv8 : SlE E4 1 h (sv v8) l8) (x : Int) (r : Nat) (hl : loopO (fun (s : Int) => F45_s1 x1 l2 l3 l4 l5 l6 l7 l8 s) x = some r) (q0 : Nat.beq r 0 = true) : AWp Try.prog (.loop (codeOf Try.prog 45 [1, 0, 1, 0, 0])) (Ends1 .ret (F45_x1_0 h r)) ((fun (s : Int) => (F45_h1 h x1 v2 v3 v4 v5 v6 v7 v8 s)) x) := by
  have k := loop_fun (P := Try.prog) (c := (codeOf Try.prog 45 [1, 0, 1, 0, 0])) (step := (fun (s : Int) => F45_s1 x1 l2 l3 l4 l5 l6 l7 l8 s)) (hd := (fun (s : Int) => (F45_h1 h x1 v2 v3 v4 v5 v6 v7 v8 s))) (X := (F45_x1 h)) (by intro t; unfold F45_x1; cases Nat.beq t 0 <;> (intro h; cases h)) (fun x => F45_r1 h x1 l2 v2 hv2 l3 v3 hv3 l4 v4 hv4 l5 v5 hv5 l6 v6 hv6 l7 v7 hv7 l8 v8 hv8 x) hl
  simp only [F45_x1, q0, cond_true, cond_false] at k
  exact k
theorem F45_l1_1 (h : AHeap) (x1 : ByteArray) (l2 : List Int) (v2 : Hd) (hv2 : SlE E3 1 h (sv v2) l2) (l3 : List (ByteArray × Int × Int × Int × Int)) (v3 : Hd) (hv3 : SlE E102 5 h (sv v3) l3) (l4 : List (ByteArray × Int × Bool)) (v4 : Hd) (hv4 : SlE E104 3 h (sv v4) l4) (l5 : List Int) (v5 : Hd) (hv5 : SlE E3 1 h (sv v5) l5) (l6 : List ((List Int) × (List (Int × Int × (List Int) × Int × Int)) × Int × Int × (List (Int × (List Int))) × (List Int) × Int × Int × Int)) (v6 : Hd) (hv6 : SlE E35 9 h (sv v6) l6) (l7 : List Int) (v7 : Hd) (hv7 : SlE E3 1 h (sv v7) l7) (l8 : List Bool) (v8 : Hd) (hv8 : SlE E4 1 h (sv v8) l8) (x : Int) (r : Nat) (hl : loopO (fun (s : Int) => F45_s1 x1 l2 l3 l4 l5 l6 l7 l8 s) x = some r) (q0 : Nat.beq r 0 = false) : AWp Try.prog (.loop (codeOf Try.prog 45 [1, 0, 1, 0, 0])) (Ends1 (.exit 0) (F45_x1_1 h r)) ((fun (s : Int) => (F45_h1 h x1 v2 v3 v4 v5 v6 v7 v8 s)) x) := by
  have k := loop_fun (P := Try.prog) (c := (codeOf Try.prog 45 [1, 0, 1, 0, 0])) (step := (fun (s : Int) => F45_s1 x1 l2 l3 l4 l5 l6 l7 l8 s)) (hd := (fun (s : Int) => (F45_h1 h x1 v2 v3 v4 v5 v6 v7 v8 s))) (X := (F45_x1 h)) (by intro t; unfold F45_x1; cases Nat.beq t 0 <;> (intro h; cases h)) (fun x => F45_r1 h x1 l2 v2 hv2 l3 v3 hv3 l4 v4 hv4 l5 v5 hv5 l6 v6 hv6 l7 v7 hv7 l8 v8 hv8 x) hl
  simp only [F45_x1, q0, cond_true, cond_false] at k
  exact k
def F45 (x1 : ByteArray) (l2 : List Int) (l3 : List (ByteArray × Int × Int × Int × Int)) (l4 : List (ByteArray × Int × Bool)) (l5 : List Int) (l6 : List ((List Int) × (List (Int × Int × (List Int) × Int × Int)) × Int × Int × (List (Int × (List Int))) × (List Int) × Int × Int × Int)) (l7 : List Int) (l8 : List Bool) : Option (Bool) :=
  (Option.bind (loopO (fun (s : Int) => F45_s1 x1 l2 l3 l4 l5 l6 l7 l8 s) 0) fun y16 =>
  (bif (Nat.beq y16 0) then
   some (false)
  else
   some (true)))
set_option maxRecDepth 100000 in
theorem F45_spec (x1 : ByteArray) (l2 : List Int) (l3 : List (ByteArray × Int × Int × Int × Int)) (l4 : List (ByteArray × Int × Bool)) (l5 : List Int) (l6 : List ((List Int) × (List (Int × Int × (List Int) × Int × Int)) × Int × Int × (List (Int × (List Int))) × (List Int) × Int × Int × Int)) (l7 : List Int) (l8 : List Bool) (v2 : Hd) (v3 : Hd) (v4 : Hd) (v5 : Hd) (v6 : Hd) (v7 : Hd) (v8 : Hd) (h : AHeap) (hv2 : SlE E3 1 h (sv v2) l2) (hv3 : SlE E102 5 h (sv v3) l3) (hv4 : SlE E104 3 h (sv v4) l4) (hv5 : SlE E3 1 h (sv v5) l5) (hv6 : SlE E35 9 h (sv v6) l6) (hv7 : SlE E3 1 h (sv v7) l7) (hv8 : SlE E4 1 h (sv v8) l8) (r : Bool) : F45 x1 l2 l3 l4 l5 l6 l7 l8 = some r → ACalls Try.prog 45 [.agg #[.string x1, (sv v2), (sv v3), (sv v4), (sv v5), (sv v6)], (sv v7), (sv v8)] h (fun v' h'' => v' = (.bool r : Value) ∧ h'' = h) := by
  unfold F45
  refine bind_opt fun y16 e16 => ?_
  refine dec_bif (fun c17 => ?_) (fun c17 => ?_)
  · intro hr
    obtain rfl := Option.some.inj hr
    exact pFun_sound good tab_ok (f := 45) (its := [.g, .g, .g, (.l F45_m1_1 [] .ret (F45_x1_0 h y16))]) (args := [.agg #[.string x1, (sv v2), (sv v3), (sv v4), (sv v5), (sv v6)], (sv v7), (sv v8)]) (h := h) (h' := h) (v := .bool false) (hC := (And.intro (F45_l1_0 h x1 l2 v2 hv2 l3 v3 hv3 l4 v4 hv4 l5 v5 hv5 l6 v6 hv6 l7 v7 hv7 l8 v8 hv8 0 y16 e16 c17) trivial)) (hr := by kernel_rfl)
  · intro hr
    obtain rfl := Option.some.inj hr
    exact pFun_sound good tab_ok (f := 45) (its := [.g, .g, .g, (.l F45_m1_1 [] (.exit 0) (F45_x1_1 h y16)), .g]) (args := [.agg #[.string x1, (sv v2), (sv v3), (sv v4), (sv v5), (sv v6)], (sv v7), (sv v8)]) (h := h) (h' := h) (v := .bool true) (hC := (And.intro (F45_l1_1 h x1 l2 v2 hv2 l3 v3 hv3 l4 v4 hv4 l5 v5 hv5 l6 v6 hv6 l7 v7 hv7 l8 v8 hv8 0 y16 e16 c17) trivial)) (hr := by kernel_rfl)
/-! 46 jacquard/jacquardref08.Result -/
def F46 (x1 : Int) : Bool :=
  (bif decide ((F44 x1) ≥ 0) then
   (bif (x1 != 26) then
    (x1 != 28)
   else
    false)
  else
   false)
set_option maxRecDepth 100000 in
theorem F46_spec (x1 : Int) (h : AHeap)  (r : Bool) : F46 x1 = r → ACalls Try.prog 46 [.int .i64 x1] h (fun v' h'' => v' = (.bool r : Value) ∧ h'' = h) := by
  unfold F46
  refine dec_bif (fun c3 => ?_) (fun c3 => ?_)
  · refine dec_bif (fun c4 => ?_) (fun c4 => ?_)
    · intro hr
      subst hr
      exact pFun_sound good tab_ok (f := 46) (its := [.g, .g, (.c (.int .i64 (F44 x1)) h), .g, .g, (.w .g), (.w .g), (.p true), .g, (.w .g), (.w .g), (.p true), .g]) (args := [.int .i64 x1]) (h := h) (h' := h) (v := .bool (x1 != 28)) (hC := (And.intro c4 (And.intro (g_tt c4) (And.intro (g_tt c4) (And.intro c3 (And.intro (g_tt c3) (And.intro (g_tt c3) (And.intro (F44_spec x1 h _ rfl) trivial)))))))) (hr := by kernel_rfl)
    · intro hr
      subst hr
      exact pFun_sound good tab_ok (f := 46) (its := [.g, .g, (.c (.int .i64 (F44 x1)) h), .g, .g, (.w .g), (.w .g), (.p true), .g, .n, .n, (.p false), .g]) (args := [.int .i64 x1]) (h := h) (h' := h) (v := .bool false) (hC := (And.intro c4 (And.intro (g_ft c4) (And.intro (g_ft c4) (And.intro c3 (And.intro (g_tt c3) (And.intro (g_tt c3) (And.intro (F44_spec x1 h _ rfl) trivial)))))))) (hr := by kernel_rfl)
  · intro hr
    subst hr
    exact pFun_sound good tab_ok (f := 46) (its := [.g, .g, (.c (.int .i64 (F44 x1)) h), .g, .g, .n, .n, (.p false), .g, .n, .n, .g, .g]) (args := [.int .i64 x1]) (h := h) (h' := h) (v := .bool false) (hC := (And.intro (g_ft l_f) (And.intro (g_ft l_f) (And.intro c3 (And.intro (g_ft c3) (And.intro (g_ft c3) (And.intro (F44_spec x1 h _ rfl) trivial))))))) (hr := by kernel_rfl)
/-! 117 jacquard/jacquardref01.Width -/
def F117 (x1 : Int) : Int :=
  (if 64 < (if 0 > x1 then 0 else x1) then 64 else (if 0 > x1 then 0 else x1))
set_option maxRecDepth 100000 in
theorem F117_spec (x1 : Int) (h : AHeap)  (r : Int) : F117 x1 = r → ACalls Try.prog 117 [.int .i64 x1] h (fun v' h'' => v' = (.int .i64 r : Value) ∧ h'' = h) := by
  unfold F117
  intro hr
  subst hr
  exact pFun_sound good tab_ok (f := 117) (its := [.g, .g, .g, .g, .g]) (args := [.int .i64 x1]) (h := h) (h' := h) (v := .int .i64 (if 64 < (if 0 > x1 then 0 else x1) then 64 else (if 0 > x1 then 0 else x1))) (hC := trivial) (hr := by kernel_rfl)
/-! 94 jacquard/jacquardref01.Bits -/
def F94_L : List Nat := []
def F94_D : List (Nat × List (Nat × Nat)) := []
def F94_m1_1 : List Bool := [true, true, true, true, true, false, true, true, true, true, true, true, true, true, true, true, true, true, true, true, true, true]
def F94_m1_0 : List Bool := [false, false, true, true, true, false, false, true, true, true, true, true, true, true, true, true, true, true, true, true, true, true]
def F94_s1 (x1 : Int) (a5 : Int) (a6 : Int) (l7 : List Int) : Option ((Int × Int × (List Int)) ⊕ (List Int)) :=
  (bif decide (a6 < (F117 x1)) then
   (bif (!(okApp (l7.length + ([(IntKind.i64.wrap ((a5.tmod 2)))] : List Int).length) 8)) then none else
   some (.inl ((IntKind.u64.wrap (a5.tdiv 2)), (IntKind.i64.wrap (a6 + 1)), (l7 ++ ([(IntKind.i64.wrap ((a5.tmod 2)))] : List Int)))))
  else
   some (.inr l7))
def F94_h1 (x1 : Int) (h8 : AHeap) (u7 : Hd) (a5 : Int) (a6 : Int) (l7 : List Int) : AS := ⟨[.int .i64 x1, .int .u64 a5, junk, junk, junk, (sv u7), .int .i64 a6, junk, junk, junk, junk, junk, junk, junk, junk, junk, junk, junk, junk, junk, junk, junk], [], h8⟩
theorem F94_d1 : drawsOk F94_D (codeOf Try.prog 94 [1, 1, 0, 1, 0, 0]) = true := by kernel_rfl
def F94_x1_0 (h : AHeap) (hx : AHeap) (w0 : Hd) (r : (List Int)) : AS := ⟨[junk, junk, junk, junk, junk, (sv w0), junk, junk, junk, junk, junk, junk, junk, junk, junk, junk, junk, junk, junk, junk, junk, junk], [], hx⟩
def F94_i1 (h : AHeap) (x1 : Int) (s : Int × Int × (List Int)) (S : AS) : Prop := ∃ (h8 : AHeap) (u7 : Hd), Heapy h h8 [⟨u7, 3, 1, List.flatMap enc3 s.2.2⟩] ∧ Strict u7 ∧ S = (F94_h1 x1 h8 u7 s.1 s.2.1 s.2.2)
def F94_x1 (h : AHeap) (r : (List Int)) (e : Exit) (S : AS) : Prop := e = (.exit 0) ∧ ∃ (hx : AHeap) (w0 : Hd), Heapy h hx [⟨w0, 3, 1, List.flatMap enc3 r⟩] ∧ Strict w0 ∧ S = (F94_x1_0 h hx w0 r)
set_option maxRecDepth 100000 in
theorem F94_r1 (h : AHeap) (x1 : Int) (a5 : Int) (a6 : Int) (l7 : List Int) (S : AS) (hI : (F94_i1 h x1) (a5, a6, l7) S) (o : (Int × Int × (List Int)) ⊕ (List Int)) : F94_s1 x1 a5 a6 l7 = some o → Rd Try.prog (codeOf Try.prog 94 [1, 1, 0, 1, 0, 0]) (F94_i1 h x1) (F94_x1 h) S o := by
  obtain ⟨h8, u7, hp8, z7, rfl⟩ := hI
  unfold F94_s1
  refine dec_bif (fun c10 => ?_) (fun c10 => ?_)
  · obtain ⟨v11, h11, m11, hp11, _⟩ := Heapy.build (P := Try.prog) hp8 (t := 22) (e := 3) (len := 1) (n := 1) (parts := [(0, .int .i64 (IntKind.i64.wrap ((a5.tmod 2))))]) (cells := List.flatMap enc3 ([(IntKind.i64.wrap ((a5.tmod 2)))] : List Int)) (by kernel_rfl) rfl
    refine guard_ok fun g13 => ?_
    obtain ⟨v14, h14, m14, q14, _, w14⟩ := Heapy.append hp11 (show mkInfo Try.prog 22 = some (3, 1, 8, [.int .i64 0]) by kernel_rfl) 1 (v := u7) (cells := List.flatMap enc3 l7) rfl (Y := (sv v11)) (SlE.src (enc := enc3) (c := 1) (Heapy.sle (v := v11) (xs := ([(IntKind.i64.wrap ((a5.tmod 2)))] : List Int)) (enc := enc3) hp11 0 rfl (fun _ => rfl) (by decide)) (fun _ => rfl)) (flatMap_length (enc := enc3) (c := 1) (fun _ => rfl) _) (by rw [Heapy.vn (v := u7) (xs := l7) (enc := enc3) hp11 1 rfl (fun _ => rfl) (by decide)]; simpa using g13)
    have z14 : Strict v14 := w14 z7
    have hp14 : Heapy h h14 [⟨v11, 3, 1, List.flatMap enc3 ([(IntKind.i64.wrap ((a5.tmod 2)))] : List Int)⟩, ⟨v14, 3, 1, List.flatMap enc3 (l7 ++ ([(IntKind.i64.wrap ((a5.tmod 2)))] : List Int))⟩] := by rw [← List.flatMap_append] at q14; exact q14
    intro hr
    obtain rfl := Option.some.inj hr
    exact ⟨(F94_h1 x1 h14 v14 (IntKind.u64.wrap (a5.tdiv 2)) (IntKind.i64.wrap (a6 + 1)) (l7 ++ ([(IntKind.i64.wrap ((a5.tmod 2)))] : List Int))), ⟨h14, v14, (Heapy.pick hp14 [1] (by decide)), z14, rfl⟩, pEnd_sound good (L := F94_L) (D := F94_D) (its := [.g, .g, (.c (.int .i64 (F117 x1)) h8), .g, (.b true), .g, .g, .g, .g, (.mm (sv v11) h11), (.mm (sv v14) h14), .g, .g, .g, .g, .g, .g, .g]) (ds := F94_m1_0) (ks := []) (e := .normal) (s2 := (F94_h1 x1 h14 v14 (IntKind.u64.wrap (a5.tdiv 2)) (IntKind.i64.wrap (a6 + 1)) (l7 ++ ([(IntKind.i64.wrap ((a5.tmod 2)))] : List Int)))) (hC := (And.intro m14 (And.intro m11 (And.intro c10 (And.intro (F117_spec x1 h8 _ rfl) trivial))))) (hd := F94_d1) (h := by kernel_rfl)⟩
  · intro hr
    obtain rfl := Option.some.inj hr
    refine ⟨(.exit 0), (F94_x1_0 h h8 u7 (l7 : (List Int))), (by intro hh; cases hh), ?_, pEnd_sound good (L := F94_L) (D := F94_D) (its := [.g, .g, (.c (.int .i64 (F117 x1)) h8), .g, (.b false)]) (ds := F94_m1_1) (ks := []) (e := (.exit 0)) (s2 := (F94_x1_0 h h8 u7 (l7 : (List Int)))) (hC := (And.intro c10 (And.intro (F117_spec x1 h8 _ rfl) trivial))) (hd := F94_d1) (h := by kernel_rfl)⟩
    exact ⟨rfl, h8, u7, (Heapy.pick hp8 [0] (by decide)), z7, rfl⟩
theorem F94_l1 (h : AHeap) (x1 : Int) (x : Int × Int × (List Int)) (r : (List Int)) (hl : loopO (fun (s : Int × Int × (List Int)) => F94_s1 x1 s.1 s.2.1 s.2.2) x = some r) (S : AS) (hI : (F94_i1 h x1) x S) : ∃ e S', (F94_x1 h) r e S' ∧ AWp Try.prog (.loop (codeOf Try.prog 94 [1, 1, 0, 1, 0, 0])) (Ends1 e S') S :=
  loop_rel (fun x S hI => F94_r1 h x1 x.1 x.2.1 x.2.2 S hI) hl hI
def F94 (x1 : Int) (x2 : Int) : Option ((List Int)) :=
  (Option.bind (loopO (fun (s : Int × Int × (List Int)) => F94_s1 x1 s.1 s.2.1 s.2.2) (x2, 0, ([] : List Int))) fun y16 =>
  some (y16))
set_option maxRecDepth 100000 in
theorem F94_spec (x1 : Int) (x2 : Int) (h : AHeap) (hw : h.wf)  (r : (List Int)) : F94 x1 x2 = some r → ∃ (ur0 : Hd) (h' : AHeap), Heapy h h' [⟨ur0, 3, 1, List.flatMap enc3 r⟩] ∧ Strict ur0 ∧ ACalls Try.prog 94 [.int .i64 x1, .int .u64 x2] h (fun v' h'' => v' = ((sv ur0) : Value) ∧ h'' = h') := by
  unfold F94
  refine bind_opt fun y16 e16 => ?_
  have hp3 : Heapy h h [⟨⟨none, 0, 0⟩, 3, 1, List.flatMap enc3 ([] : List Int)⟩] := Heapy.nil (Heapy.refl hw) 3 1
  obtain ⟨ee16, SS16, hX16, hA16⟩ := F94_l1 h x1 (x2, 0, ([] : List Int)) y16 e16 (F94_h1 x1 h ⟨none, 0, 0⟩ x2 0 ([] : List Int)) ⟨h, ⟨none, 0, 0⟩, (Heapy.pick hp3 [0] (by decide)), Strict.nil, rfl⟩
  obtain ⟨rfl, h17, w0_17, hp17, zw0_17, rfl⟩ := hX16
  intro hr
  obtain rfl := Option.some.inj hr
  exact ⟨w0_17, h17, Heapy.pick hp17 [0] (by decide), zw0_17, pFun_sound good tab_ok (f := 94) (its := [.g, .g, .g, (.l F94_m1_0 [] (.exit 0) (F94_x1_0 h h17 w0_17 y16)), .g, .g]) (args := [.int .i64 x1, .int .u64 x2]) (h := h) (h' := h17) (v := (sv w0_17)) (hC := (And.intro hA16 trivial)) (hr := by kernel_rfl)⟩
/-! 93 jacquard/jacquardref01.Word -/
def F93_L : List Nat := []
def F93_D : List (Nat × List (Nat × Nat)) := []
def F93_m1_1 : List Bool := [true, true, true, false, true, true, true, true, true, true, true, true, true, true, true, true, true, true, true, true, true]
def F93_m1_0 : List Bool := [false, true, true, false, false, true, true, true, true, true, true, true, true, true, true, true, true, true, true, true, true]
def F93_s1 (l1 : List Int) (a2 : Int) (a3 : Int) : Option ((Int × Int) ⊕ Int) :=
  (bif decide (a3 ≥ 0) then
   (Option.bind (at? l1 a3) fun y5 =>
   some (.inl ((IntKind.u64.wrap ((IntKind.u64.wrap (2 * a2)) + (IntKind.u64.wrap (y5)))), (IntKind.i64.wrap (a3 - 1)))))
  else
   some (.inr a2))
def F93_h1 (h : AHeap) (v1 : Hd)  (a2 : Int) (a3 : Int) : AS := ⟨[(sv v1), junk, junk, .int .u64 a2, .int .i64 a3, junk, junk, junk, junk, junk, junk, junk, junk, junk, junk, junk, junk, junk, junk, junk, junk], [], h⟩
theorem F93_d1 : drawsOk F93_D (codeOf Try.prog 93 [1, 1, 0, 1, 0, 0]) = true := by kernel_rfl
def F93_x1_0 (h : AHeap)  (r : Int) : AS := ⟨[junk, junk, junk, .int .u64 r, junk, junk, junk, junk, junk, junk, junk, junk, junk, junk, junk, junk, junk, junk, junk, junk, junk], [], h⟩
def F93_x1 (h : AHeap) (r : Int) : Exit × AS := ((.exit 0), (F93_x1_0 h r))
set_option maxRecDepth 100000 in
theorem F93_r1 (h : AHeap) (l1 : List Int) (v1 : Hd) (hv1 : SlE E3 1 h (sv v1) l1) (a2 : Int) (a3 : Int) (o : (Int × Int) ⊕ Int) : F93_s1 l1 a2 a3 = some o → RdF Try.prog (codeOf Try.prog 93 [1, 1, 0, 1, 0, 0]) (fun (s : Int × Int) => (F93_h1 h v1 s.1 s.2)) (F93_x1 h) (F93_h1 h v1 a2 a3) o := by
  unfold F93_s1
  refine dec_bif (fun c4 => ?_) (fun c4 => ?_)
  · refine bind_opt fun y5 e5 => ?_
    obtain ⟨id5, off5, g5, cs5, ix5, at5, rfl⟩ := SlE.at hv1 e5
    intro hr
    obtain rfl := Option.some.inj hr
    show AWp Try.prog _ (Ends1 .normal (F93_h1 h v1 (IntKind.u64.wrap ((IntKind.u64.wrap (2 * a2)) + (IntKind.u64.wrap (y5)))) (IntKind.i64.wrap (a3 - 1)))) _
    exact pEnd_sound good (L := F93_L) (D := F93_D) (its := [.g, .g, (.b true), .g, .g, .g, .g, (.ix id5 off5 g5), (.ld (.int .i64 y5)), .g, .g, .g, .g, .g, .g]) (ds := F93_m1_0) (ks := []) (e := .normal) (s2 := (F93_h1 h v1 (IntKind.u64.wrap ((IntKind.u64.wrap (2 * a2)) + (IntKind.u64.wrap (y5)))) (IntKind.i64.wrap (a3 - 1)))) (hC := (And.intro (At.one (P := Try.prog) (t := 3) (v := .int .i64 y5) at5 (by kernel_rfl) 0 rfl rfl) (And.intro ix5 (And.intro c4 trivial)))) (hd := F93_d1) (h := by kernel_rfl)
  · intro hr
    obtain rfl := Option.some.inj hr
    show AWp Try.prog _ (Ends1 ((F93_x1 h) (a2 : Int)).1 ((F93_x1 h) (a2 : Int)).2) _
    exact pEnd_sound good (L := F93_L) (D := F93_D) (its := [.g, .g, (.b false)]) (ds := F93_m1_1) (ks := []) (e := ((F93_x1 h) (a2 : Int)).1) (s2 := ((F93_x1 h) (a2 : Int)).2) (hC := (And.intro c4 trivial)) (hd := F93_d1) (h := by kernel_rfl)
theorem F93_l1_0 (h : AHeap) (l1 : List Int) (v1 : Hd) (hv1 : SlE E3 1 h (sv v1) l1) (x : Int × Int) (r : Int) (hl : loopO (fun (s : Int × Int) => F93_s1 l1 s.1 s.2) x = some r) : AWp Try.prog (.loop (codeOf Try.prog 93 [1, 1, 0, 1, 0, 0])) (Ends1 (.exit 0) (F93_x1_0 h r)) ((fun (s : Int × Int) => (F93_h1 h v1 s.1 s.2)) x) := by
  have k := loop_fun (P := Try.prog) (c := (codeOf Try.prog 93 [1, 1, 0, 1, 0, 0])) (step := (fun (s : Int × Int) => F93_s1 l1 s.1 s.2)) (hd := (fun (s : Int × Int) => (F93_h1 h v1 s.1 s.2))) (X := (F93_x1 h)) (by intro t; unfold F93_x1; intro h; cases h) (fun x => F93_r1 h l1 v1 hv1 x.1 x.2) hl
  exact k
def F93 (l1 : List Int) : Option (Int) :=
  (Option.bind (loopO (fun (s : Int × Int) => F93_s1 l1 s.1 s.2) (0, (IntKind.i64.wrap ((l1.length : Int) - 1)))) fun y6 =>
  some (y6))
set_option maxRecDepth 100000 in
theorem F93_spec (l1 : List Int) (v1 : Hd) (h : AHeap) (hv1 : SlE E3 1 h (sv v1) l1) (r : Int) : F93 l1 = some r → ACalls Try.prog 93 [(sv v1)] h (fun v' h'' => v' = (.int .u64 r : Value) ∧ h'' = h) := by
  unfold F93
  refine bind_opt fun y6 e6 => ?_
  intro hr
  obtain rfl := Option.some.inj hr
  exact pFun_sound good tab_ok (f := 93) (its := [.g, .g, .g, (.ln l1.length), .g, .g, (.l F93_m1_0 [] (.exit 0) (F93_x1_0 h y6)), .g, .g]) (args := [(sv v1)]) (h := h) (h' := h) (v := .int .u64 y6) (hC := (And.intro (F93_l1_0 h l1 v1 hv1 (0, (IntKind.i64.wrap ((l1.length : Int) - 1))) y6 e6) (And.intro (SlE.len hv1) trivial))) (hr := by kernel_rfl)
/-! 74 jacquard/jacquardref01.Fit -/
def F74 (x1 : Int) (x2 : Int) : Option (Int) :=
  (Option.bind (F94 x1 x2) fun y3 =>
  (Option.bind (F93 y3) fun y6 =>
  some (y6)))
set_option maxRecDepth 100000 in
theorem F74_spec (x1 : Int) (x2 : Int) (h : AHeap) (hw : h.wf)  (r : Int) : F74 x1 x2 = some r → ∃ (h' : AHeap), Heapy h h' [] ∧ ACalls Try.prog 74 [.int .i64 x1, .int .u64 x2] h (fun v' h'' => v' = (.int .u64 r : Value) ∧ h'' = h') := by
  unfold F74
  refine bind_opt fun y3 e3 => ?_
  obtain ⟨u4_0, h4, q4, zu4_0, c4⟩ := F94_spec x1 x2 h hw _ e3
  have hp4 : Heapy h h4 [⟨u4_0, 3, 1, List.flatMap enc3 y3⟩] := Heapy.call (Heapy.refl hw) q4
  refine bind_opt fun y6 e6 => ?_
  intro hr
  obtain rfl := Option.some.inj hr
  exact ⟨h4, Heapy.pick hp4 [] (by decide), pFun_sound good tab_ok (f := 74) (its := [.g, .g, .g, (.c ((sv u4_0)) h4), (.c (.int .u64 y6) h4), .g]) (args := [.int .i64 x1, .int .u64 x2]) (h := h) (h' := h4) (v := .int .u64 y6) (hC := (And.intro (F93_spec y3 u4_0 h4 (Heapy.sle (v := u4_0) (xs := y3) (enc := enc3) hp4 0 rfl (fun _ => rfl) (by decide)) _ e6) (And.intro c4 trivial))) (hr := by kernel_rfl)⟩
/-! 75 jacquard/jacquardref01.IsCompare -/
def F75 (x1 : Int) : Bool :=
  (bif decide (x1 ≥ 15) then
   (decide (x1 ≤ 20))
  else
   false)
set_option maxRecDepth 100000 in
theorem F75_spec (x1 : Int) (h : AHeap)  (r : Bool) : F75 x1 = r → ACalls Try.prog 75 [.int .i64 x1] h (fun v' h'' => v' = (.bool r : Value) ∧ h'' = h) := by
  unfold F75
  refine dec_bif (fun c2 => ?_) (fun c2 => ?_)
  · intro hr
    subst hr
    exact pFun_sound good tab_ok (f := 75) (its := [.g, .g, .g, .g, (.w .g), (.w .g), (.p true), .g]) (args := [.int .i64 x1]) (h := h) (h' := h) (v := .bool (decide (x1 ≤ 20))) (hC := (And.intro c2 (And.intro (g_tt c2) (And.intro (g_tt c2) trivial)))) (hr := by kernel_rfl)
  · intro hr
    subst hr
    exact pFun_sound good tab_ok (f := 75) (its := [.g, .g, .g, .g, .n, .n, (.p false), .g]) (args := [.int .i64 x1]) (h := h) (h' := h) (v := .bool false) (hC := (And.intro c2 (And.intro (g_ft c2) (And.intro (g_ft c2) trivial)))) (hr := by kernel_rfl)
end
end Go.Proofs.Ytepcpjnhhpjacaa.Abs
