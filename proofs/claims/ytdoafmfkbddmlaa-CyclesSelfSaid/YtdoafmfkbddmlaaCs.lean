/-
  Contracts, written by program: for each function what its call yields, and that it yields it.
-/
import Derived.Test.YtdoafmfkbddmlaaVw
import Derived.Test.YtdoafmfkbddmlaaChecked
namespace Go.Proofs.Ytdoafmfkbddmlaa.Abs
open Go
set_option linter.unusedVariables false
set_option linter.unusedSimpArgs false

theorem good : Good Try.prog := good_of Try.checked.mixed (by kernel_rfl)
noncomputable section
def tabC : List FEnt := [
  { f := 20, L := [1], D := [] },
  { f := 21, L := [3, 9], D := [] },
  { f := 25, L := [3, 12], D := [(4, [(0, 1), (1, 1), (2, 1), (3, 1), (4, 1), (5, 1), (6, 1), (7, 1), (8, 1), (9, 1), (10, 1), (11, 1), (12, 1)]), (10, [(0, 1), (2, 1), (3, 1), (6, 1), (1, 2), (4, 2), (7, 2), (5, 0), (8, 0), (9, 1), (10, 1)])] },
  { f := 26, L := [2], D := [] },
  { f := 28, L := [3], D := [(7, [(0, 1), (1, 1), (2, 1), (3, 1), (4, 1), (5, 1), (6, 0), (7, 1)])] },
  { f := 29, L := [3, 6, 7], D := [] },
  { f := 30, L := [3, 8], D := [] }]

theorem tabC_ok : tabOk Try.prog tabC = true := by kernel_rfl
theorem F20_run : rIs (rCall 2000 Try.prog tabC 40 20 [] AHeap.none) true = true := by kernel_rfl
theorem F20_spec0 (h : AHeap) : ACalls Try.prog 20 [] h (fun v' h'' => v' = (.bool true : Value) ∧ h'' = h) := acalls_run good 2000 40 tabC tabC_ok F20_run rfl h
def F20 : Unit := ()
theorem F20_spec (h : AHeap) (r : Unit) (_ : F20 = r) : ACalls Try.prog 20 [] h (fun v' h'' => v' = (.bool true : Value) ∧ h'' = h) := F20_spec0 h
def tab : List FEnt := [
  { f := 8, L := [3], D := [(6, [(1, 1), (2, 1), (5, 1), (6, 1), (0, 2), (4, 2), (3, 0), (7, 0), (8, 1)]), (9, [(1, 1), (2, 1), (5, 1), (6, 1), (0, 2), (4, 2), (3, 0), (7, 0), (8, 1), (9, 1)])] },
  { f := 21, L := [3, 9], D := [] },
  { f := 22, L := [3], D := [] }]

theorem tab_ok : tabOk Try.prog tab = true := by kernel_rfl
def enc3 (x : Int) : List Value := [.int .i64 x]
def E3 (h : AHeap) (cs : List Value) (x : Int) : Prop := cs = enc3 x
theorem E3_mono {h h' : AHeap} (le : h.sub h') (cs : List Value) (x : Int) (H : E3 h cs x) : E3 h' cs x := H
def W3 (x : Int) : Prop := (Lit.int .i64 x).wf = true ∧ True
set_option maxRecDepth 100000 in
theorem E3_wt {h : AHeap} {n : Nat} {cs : List Value} (H : WT Try.prog h n 3 cs) : ∃ x, E3 h cs x ∧ W3 x := by
  have k : SQ Try.prog h [.int .i64] cs := wt_flatS 1 n (by kernel_rfl) H
  obtain ⟨x0, r0, rfl, w0, k0⟩ := sq_int k
  obtain rfl := sq_nil k0
  exact ⟨x0, rfl, ⟨w0, trivial⟩⟩
def enc98 (x : ByteArray × Int × Int × Int × Int) : List Value := [.string x.1, .int .i64 x.2.1, .int .i64 x.2.2.1, .int .i64 x.2.2.2.1, .int .i64 x.2.2.2.2]
def E98 (h : AHeap) (cs : List Value) (x : ByteArray × Int × Int × Int × Int) : Prop := cs = enc98 x
theorem E98_mono {h h' : AHeap} (le : h.sub h') (cs : List Value) (x : ByteArray × Int × Int × Int × Int) (H : E98 h cs x) : E98 h' cs x := H
def W98 (x : ByteArray × Int × Int × Int × Int) : Prop := x.1.size ≤ maxLen ∧ (Lit.int .i64 x.2.1).wf = true ∧ (Lit.int .i64 x.2.2.1).wf = true ∧ (Lit.int .i64 x.2.2.2.1).wf = true ∧ (Lit.int .i64 x.2.2.2.2).wf = true ∧ True
set_option maxRecDepth 100000 in
theorem E98_wt {h : AHeap} {n : Nat} {cs : List Value} (H : WT Try.prog h n 98 cs) : ∃ x, E98 h cs x ∧ W98 x := by
  have k : SQ Try.prog h [.string, .int .i64, .int .i64, .int .i64, .int .i64] cs := wt_flatS 2 n (by kernel_rfl) H
  obtain ⟨x0, r0, rfl, w0, k0⟩ := sq_string k
  obtain ⟨x1, r1, rfl, w1, k1⟩ := sq_int k0
  obtain ⟨x2, r2, rfl, w2, k2⟩ := sq_int k1
  obtain ⟨x3, r3, rfl, w3, k3⟩ := sq_int k2
  obtain ⟨x4, r4, rfl, w4, k4⟩ := sq_int k3
  obtain rfl := sq_nil k4
  exact ⟨(x0, x1, x2, x3, x4), rfl, ⟨w0, w1, w2, w3, w4, trivial⟩⟩
def enc100 (x : ByteArray × Int × Bool) : List Value := [.string x.1, .int .i64 x.2.1, .bool x.2.2]
def E100 (h : AHeap) (cs : List Value) (x : ByteArray × Int × Bool) : Prop := cs = enc100 x
theorem E100_mono {h h' : AHeap} (le : h.sub h') (cs : List Value) (x : ByteArray × Int × Bool) (H : E100 h cs x) : E100 h' cs x := H
def W100 (x : ByteArray × Int × Bool) : Prop := x.1.size ≤ maxLen ∧ (Lit.int .i64 x.2.1).wf = true ∧ True
set_option maxRecDepth 100000 in
theorem E100_wt {h : AHeap} {n : Nat} {cs : List Value} (H : WT Try.prog h n 100 cs) : ∃ x, E100 h cs x ∧ W100 x := by
  have k : SQ Try.prog h [.string, .int .i64, .bool] cs := wt_flatS 2 n (by kernel_rfl) H
  obtain ⟨x0, r0, rfl, w0, k0⟩ := sq_string k
  obtain ⟨x1, r1, rfl, w1, k1⟩ := sq_int k0
  obtain ⟨x2, r2, rfl, k2⟩ := sq_bool k1
  obtain rfl := sq_nil k2
  exact ⟨(x0, x1, x2), rfl, ⟨w0, w1, trivial⟩⟩
def E103 (h : AHeap) (cs : List Value) (x : Int × Int × (List Int) × Int × Int) : Prop := ∃ s2 : Hd, cs = [.int .i64 x.1, .int .i64 x.2.1, sv s2, .int .u64 x.2.2.2.1, .int .i64 x.2.2.2.2] ∧ SlE E3 1 h (sv s2) x.2.2.1
theorem E103_mono {h h' : AHeap} (le : h.sub h') (cs : List Value) (x : Int × Int × (List Int) × Int × Int) (H : E103 h cs x) : E103 h' cs x := by
  obtain ⟨s2, e, k2⟩ := H
  exact ⟨s2, e, k2.mono le (E3_mono le)⟩
def W103 (x : Int × Int × (List Int) × Int × Int) : Prop := (Lit.int .i64 x.1).wf = true ∧ (Lit.int .i64 x.2.1).wf = true ∧ (x.2.2.1.length ≤ maxLen ∧ ∀ y ∈ x.2.2.1, W3 y) ∧ (Lit.int .u64 x.2.2.2.1).wf = true ∧ (Lit.int .i64 x.2.2.2.2).wf = true ∧ True
set_option maxRecDepth 100000 in
theorem E103_wt {h : AHeap} {n : Nat} {cs : List Value} (H : WT Try.prog h n 103 cs) : ∃ x, E103 h cs x ∧ W103 x := by
  have k : SQ Try.prog h [.int .i64, .int .i64, .slice 3, .int .u64, .int .i64] cs := wt_flatS 3 n (by kernel_rfl) H
  obtain ⟨x0, r0, rfl, w0, k0⟩ := sq_int k
  obtain ⟨x1, r1, rfl, w1, k1⟩ := sq_int k0
  obtain ⟨s2, r2, rfl, q2, k2⟩ := sq_slice k1
  obtain ⟨x2, a2, m2, w2⟩ := q2 E3 W3 1 (by kernel_rfl) fun n cs H => E3_wt H
  obtain ⟨x3, r3, rfl, w3, k3⟩ := sq_int k2
  obtain ⟨x4, r4, rfl, w4, k4⟩ := sq_int k3
  obtain rfl := sq_nil k4
  exact ⟨(x0, x1, x2, x3, x4), ⟨s2, rfl, a2⟩, ⟨w0, w1, ⟨m2, w2⟩, w3, w4, trivial⟩⟩
def E72 (h : AHeap) (cs : List Value) (x : Int × (List Int)) : Prop := ∃ s1 : Hd, cs = [.int .i64 x.1, sv s1] ∧ SlE E3 1 h (sv s1) x.2
theorem E72_mono {h h' : AHeap} (le : h.sub h') (cs : List Value) (x : Int × (List Int)) (H : E72 h cs x) : E72 h' cs x := by
  obtain ⟨s1, e, k1⟩ := H
  exact ⟨s1, e, k1.mono le (E3_mono le)⟩
def W72 (x : Int × (List Int)) : Prop := (Lit.int .i64 x.1).wf = true ∧ (x.2.length ≤ maxLen ∧ ∀ y ∈ x.2, W3 y) ∧ True
set_option maxRecDepth 100000 in
theorem E72_wt {h : AHeap} {n : Nat} {cs : List Value} (H : WT Try.prog h n 72 cs) : ∃ x, E72 h cs x ∧ W72 x := by
  have k : SQ Try.prog h [.int .i64, .slice 3] cs := wt_flatS 3 n (by kernel_rfl) H
  obtain ⟨x0, r0, rfl, w0, k0⟩ := sq_int k
  obtain ⟨s1, r1, rfl, q1, k1⟩ := sq_slice k0
  obtain ⟨x1, a1, m1, w1⟩ := q1 E3 W3 1 (by kernel_rfl) fun n cs H => E3_wt H
  obtain rfl := sq_nil k1
  exact ⟨(x0, x1), ⟨s1, rfl, a1⟩, ⟨w0, ⟨m1, w1⟩, trivial⟩⟩
def E65 (h : AHeap) (cs : List Value) (x : (List Int) × (List (Int × Int × (List Int) × Int × Int)) × Int × Int × (List (Int × (List Int))) × (List Int) × Int × Int × Int) : Prop := ∃ s0 s1 s4 s5 : Hd, cs = [sv s0, sv s1, .int .i64 x.2.2.1, .int .i64 x.2.2.2.1, sv s4, sv s5, .int .i64 x.2.2.2.2.2.2.1, .int .i64 x.2.2.2.2.2.2.2.1, .int .i64 x.2.2.2.2.2.2.2.2] ∧ SlE E3 1 h (sv s0) x.1 ∧ SlE E103 5 h (sv s1) x.2.1 ∧ SlE E72 2 h (sv s4) x.2.2.2.2.1 ∧ SlE E3 1 h (sv s5) x.2.2.2.2.2.1
theorem E65_mono {h h' : AHeap} (le : h.sub h') (cs : List Value) (x : (List Int) × (List (Int × Int × (List Int) × Int × Int)) × Int × Int × (List (Int × (List Int))) × (List Int) × Int × Int × Int) (H : E65 h cs x) : E65 h' cs x := by
  obtain ⟨s0, s1, s4, s5, e, k0, k1, k4, k5⟩ := H
  exact ⟨s0, s1, s4, s5, e, k0.mono le (E3_mono le), k1.mono le (E103_mono le), k4.mono le (E72_mono le), k5.mono le (E3_mono le)⟩
def W65 (x : (List Int) × (List (Int × Int × (List Int) × Int × Int)) × Int × Int × (List (Int × (List Int))) × (List Int) × Int × Int × Int) : Prop := (x.1.length ≤ maxLen ∧ ∀ y ∈ x.1, W3 y) ∧ (x.2.1.length ≤ maxLen ∧ ∀ y ∈ x.2.1, W103 y) ∧ (Lit.int .i64 x.2.2.1).wf = true ∧ (Lit.int .i64 x.2.2.2.1).wf = true ∧ (x.2.2.2.2.1.length ≤ maxLen ∧ ∀ y ∈ x.2.2.2.2.1, W72 y) ∧ (x.2.2.2.2.2.1.length ≤ maxLen ∧ ∀ y ∈ x.2.2.2.2.2.1, W3 y) ∧ (Lit.int .i64 x.2.2.2.2.2.2.1).wf = true ∧ (Lit.int .i64 x.2.2.2.2.2.2.2.1).wf = true ∧ (Lit.int .i64 x.2.2.2.2.2.2.2.2).wf = true ∧ True
set_option maxRecDepth 100000 in
theorem E65_wt {h : AHeap} {n : Nat} {cs : List Value} (H : WT Try.prog h n 65 cs) : ∃ x, E65 h cs x ∧ W65 x := by
  have k : SQ Try.prog h [.slice 3, .slice 103, .int .i64, .int .i64, .slice 72, .slice 3, .int .i64, .int .i64, .int .i64] cs := wt_flatS 6 n (by kernel_rfl) H
  obtain ⟨s0, r0, rfl, q0, k0⟩ := sq_slice k
  obtain ⟨x0, a0, m0, w0⟩ := q0 E3 W3 1 (by kernel_rfl) fun n cs H => E3_wt H
  obtain ⟨s1, r1, rfl, q1, k1⟩ := sq_slice k0
  obtain ⟨x1, a1, m1, w1⟩ := q1 E103 W103 5 (by kernel_rfl) fun n cs H => E103_wt H
  obtain ⟨x2, r2, rfl, w2, k2⟩ := sq_int k1
  obtain ⟨x3, r3, rfl, w3, k3⟩ := sq_int k2
  obtain ⟨s4, r4, rfl, q4, k4⟩ := sq_slice k3
  obtain ⟨x4, a4, m4, w4⟩ := q4 E72 W72 2 (by kernel_rfl) fun n cs H => E72_wt H
  obtain ⟨s5, r5, rfl, q5, k5⟩ := sq_slice k4
  obtain ⟨x5, a5, m5, w5⟩ := q5 E3 W3 1 (by kernel_rfl) fun n cs H => E3_wt H
  obtain ⟨x6, r6, rfl, w6, k6⟩ := sq_int k5
  obtain ⟨x7, r7, rfl, w7, k7⟩ := sq_int k6
  obtain ⟨x8, r8, rfl, w8, k8⟩ := sq_int k7
  obtain rfl := sq_nil k8
  exact ⟨(x0, x1, x2, x3, x4, x5, x6, x7, x8), ⟨s0, s1, s4, s5, rfl, a0, a1, a4, a5⟩, ⟨⟨m0, w0⟩, ⟨m1, w1⟩, w2, w3, ⟨m4, w4⟩, ⟨m5, w5⟩, w6, w7, w8, trivial⟩⟩
def E69 (h : AHeap) (cs : List Value) (x : Int × Int × (List Int) × (List Int) × (List Int)) : Prop := ∃ s2 s3 s4 : Hd, cs = [.int .i64 x.1, .int .i64 x.2.1, sv s2, sv s3, sv s4] ∧ SlE E3 1 h (sv s2) x.2.2.1 ∧ SlE E3 1 h (sv s3) x.2.2.2.1 ∧ SlE E3 1 h (sv s4) x.2.2.2.2
theorem E69_mono {h h' : AHeap} (le : h.sub h') (cs : List Value) (x : Int × Int × (List Int) × (List Int) × (List Int)) (H : E69 h cs x) : E69 h' cs x := by
  obtain ⟨s2, s3, s4, e, k2, k3, k4⟩ := H
  exact ⟨s2, s3, s4, e, k2.mono le (E3_mono le), k3.mono le (E3_mono le), k4.mono le (E3_mono le)⟩
def W69 (x : Int × Int × (List Int) × (List Int) × (List Int)) : Prop := (Lit.int .i64 x.1).wf = true ∧ (Lit.int .i64 x.2.1).wf = true ∧ (x.2.2.1.length ≤ maxLen ∧ ∀ y ∈ x.2.2.1, W3 y) ∧ (x.2.2.2.1.length ≤ maxLen ∧ ∀ y ∈ x.2.2.2.1, W3 y) ∧ (x.2.2.2.2.length ≤ maxLen ∧ ∀ y ∈ x.2.2.2.2, W3 y) ∧ True
set_option maxRecDepth 100000 in
theorem E69_wt {h : AHeap} {n : Nat} {cs : List Value} (H : WT Try.prog h n 69 cs) : ∃ x, E69 h cs x ∧ W69 x := by
  have k : SQ Try.prog h [.int .i64, .int .i64, .slice 3, .slice 3, .slice 3] cs := wt_flatS 3 n (by kernel_rfl) H
  obtain ⟨x0, r0, rfl, w0, k0⟩ := sq_int k
  obtain ⟨x1, r1, rfl, w1, k1⟩ := sq_int k0
  obtain ⟨s2, r2, rfl, q2, k2⟩ := sq_slice k1
  obtain ⟨x2, a2, m2, w2⟩ := q2 E3 W3 1 (by kernel_rfl) fun n cs H => E3_wt H
  obtain ⟨s3, r3, rfl, q3, k3⟩ := sq_slice k2
  obtain ⟨x3, a3, m3, w3⟩ := q3 E3 W3 1 (by kernel_rfl) fun n cs H => E3_wt H
  obtain ⟨s4, r4, rfl, q4, k4⟩ := sq_slice k3
  obtain ⟨x4, a4, m4, w4⟩ := q4 E3 W3 1 (by kernel_rfl) fun n cs H => E3_wt H
  obtain rfl := sq_nil k4
  exact ⟨(x0, x1, x2, x3, x4), ⟨s2, s3, s4, rfl, a2, a3, a4⟩, ⟨w0, w1, ⟨m2, w2⟩, ⟨m3, w3⟩, ⟨m4, w4⟩, trivial⟩⟩
/-! 21 jacquard/cycles.Self -/
def F21_L : List Nat := [3, 9]
def F21_D : List (Nat × List (Nat × Nat)) := []
def F21_m1_2 : List Bool := [true, true, true, true, true, true, true, false, true, true, true, true, true, true, true, true, true, true, true, true, true, true, true, true, true, true, true, true, true, true, true, true, true, true, true, true, true, true, true, true, true, true, true, true, true, true, true, true, true, true, true, true, true, true, true]
def F21_m1_1 : List Bool := [true, true, true, true, true, true, false, true, true, true, true, true, true, true, true, true, true, true, true, true, true, true, true, true, true, true, true, true, true, true, true, true, true, true, true, true, true, true, true, true, true, true, true, true, true, true, true, true, true, true, true, true, true, true, true]
def F21_m1_0 : List Bool := [true, true, false, true, true, true, true, false, true, true, true, true, true, true, true, true, true, true, true, true, true, true, true, true, true, true, true, true, true, true, true, true, true, true, true, true, true, true, true, false, false, false, true, true, true, true, true, true, true, true, true, true, true, true, true]
def F21_s1 (x8 : Int) (y14 : (List Int) × (List (Int × Int × (List Int) × Int × Int)) × Int × Int × (List (Int × (List Int))) × (List Int) × Int × Int × Int) (a15 : Int) (a16 : Int) : Option ((Int × Int) ⊕ (Nat × Int)) :=
  (bif decide (a16 < (y14.2.2.2.2.1.length : Int)) then
   (Option.bind (at? y14.2.2.2.2.1 a16) fun y18 =>
   (bif (y18.1 != x8) then
    some (.inl (a15, (IntKind.i64.wrap (a16 + 1))))
   else
    (bif decide (a15 ≥ 0) then
     some (.inr (0, 0))
    else
     some (.inl (a16, (IntKind.i64.wrap (a16 + 1)))))))
  else
   some (.inr (1, a15)))
def F21_h1 (h : AHeap) (x8 : Int) (y14 : (List Int) × (List (Int × Int × (List Int) × Int × Int)) × Int × Int × (List (Int × (List Int))) × (List Int) × Int × Int × Int) (v14_4 : Hd)  (a15 : Int) (a16 : Int) : AS := ⟨[junk, junk, .int .i64 x8, junk, junk, junk, junk, .int .i64 a15, junk, junk, junk, junk, junk, junk, junk, junk, junk, junk, junk, junk, junk, junk, junk, junk, junk, junk, junk, junk, junk, junk, junk, junk, junk, junk, junk, junk, junk, junk, junk, (sv v14_4), .int .i64 (y14.2.2.2.2.1.length : Int), .int .i64 a16, junk, junk, junk, junk, junk, junk, junk, junk, junk, junk, junk, junk, junk], [], h⟩
theorem F21_d1 : drawsOk F21_D (codeOf Try.prog 21 [1, 1, 1, 0, 1, 0, 0]) = true := by kernel_rfl
def F21_x1_0 (h : AHeap)  (r : Nat × Int) : AS := ⟨[junk, junk, junk, junk, junk, junk, .int .i64 (-1), junk, junk, junk, junk, junk, junk, junk, junk, junk, junk, junk, junk, junk, junk, junk, junk, junk, junk, junk, junk, junk, junk, junk, junk, junk, junk, junk, junk, junk, junk, junk, junk, junk, junk, junk, junk, junk, junk, junk, junk, junk, junk, junk, junk, junk, junk, junk, junk], [], h⟩
def F21_x1_1 (h : AHeap)  (r : Nat × Int) : AS := ⟨[junk, junk, junk, junk, junk, junk, junk, .int .i64 r.2, junk, junk, junk, junk, junk, junk, junk, junk, junk, junk, junk, junk, junk, junk, junk, junk, junk, junk, junk, junk, junk, junk, junk, junk, junk, junk, junk, junk, junk, junk, junk, junk, junk, junk, junk, junk, junk, junk, junk, junk, junk, junk, junk, junk, junk, junk, junk], [], h⟩
def F21_x1 (h : AHeap) (r : Nat × Int) : Exit × AS := (bif Nat.beq r.1 0 then (.ret, (F21_x1_0 h r)) else ((.exit 0), (F21_x1_1 h r)))
set_option maxRecDepth 100000 in
theorem F21_r1 (h : AHeap) (x8 : Int) (y14 : (List Int) × (List (Int × Int × (List Int) × Int × Int)) × Int × Int × (List (Int × (List Int))) × (List Int) × Int × Int × Int) (v14_4 : Hd) (hv14_4 : SlE E72 2 h (sv v14_4) y14.2.2.2.2.1) (a15 : Int) (a16 : Int) (o : (Int × Int) ⊕ (Nat × Int)) : F21_s1 x8 y14 a15 a16 = some o → RdF Try.prog (codeOf Try.prog 21 [1, 1, 1, 0, 1, 0, 0]) (fun (s : Int × Int) => (F21_h1 h x8 y14 v14_4 s.1 s.2)) (F21_x1 h) (F21_h1 h x8 y14 v14_4 a15 a16) o := by
  unfold F21_s1
  refine dec_bif (fun c17 => ?_) (fun c17 => ?_)
  · refine bind_opt fun y18 e18 => ?_
    obtain ⟨id18, off18, g18, cs18, ix18, at18, v18_1, rfl, hv18_1⟩ := SlE.at hv14_4 e18
    refine dec_bif (fun c19 => ?_) (fun c19 => ?_)
    · intro hr
      obtain rfl := Option.some.inj hr
      show AWp Try.prog _ (Ends1 .normal (F21_h1 h x8 y14 v14_4 a15 (IntKind.i64.wrap (a16 + 1)))) _
      exact pEnd_sound good (L := F21_L) (D := F21_D) (its := [.g, (.b true), .g, (.ix id18 off18 g18), (.ld (.agg #[.int .i64 y18.1, (sv v18_1)])), .g, .g, .g, .g, .g, .g, .g, (.b true), .g, .g]) (ds := F21_m1_0) (ks := [9]) (e := .normal) (s2 := (F21_h1 h x8 y14 v14_4 a15 (IntKind.i64.wrap (a16 + 1)))) (hC := (And.intro c19 (And.intro (At.agg (P := Try.prog) (t := 72) (v := .agg #[.int .i64 y18.1, (sv v18_1)]) (m := 2) at18 (by kernel_rfl) (by kernel_rfl) 0 (by kernel_rfl) rfl) (And.intro ix18 (And.intro c17 trivial))))) (hd := F21_d1) (h := by kernel_rfl)
    · refine dec_bif (fun c20 => ?_) (fun c20 => ?_)
      · intro hr
        obtain rfl := Option.some.inj hr
        show AWp Try.prog _ (Ends1 ((F21_x1 h) ((0, 0) : Nat × Int)).1 ((F21_x1 h) ((0, 0) : Nat × Int)).2) _
        exact pEnd_sound good (L := F21_L) (D := F21_D) (its := [.g, (.b true), .g, (.ix id18 off18 g18), (.ld (.agg #[.int .i64 y18.1, (sv v18_1)])), .g, .g, .g, .g, .g, .g, .g, (.b false), .g, .g, (.b true), .g]) (ds := F21_m1_1) (ks := [9]) (e := ((F21_x1 h) ((0, 0) : Nat × Int)).1) (s2 := ((F21_x1 h) ((0, 0) : Nat × Int)).2) (hC := (And.intro c20 (And.intro c19 (And.intro (At.agg (P := Try.prog) (t := 72) (v := .agg #[.int .i64 y18.1, (sv v18_1)]) (m := 2) at18 (by kernel_rfl) (by kernel_rfl) 0 (by kernel_rfl) rfl) (And.intro ix18 (And.intro c17 trivial)))))) (hd := F21_d1) (h := by kernel_rfl)
      · intro hr
        obtain rfl := Option.some.inj hr
        show AWp Try.prog _ (Ends1 .normal (F21_h1 h x8 y14 v14_4 a16 (IntKind.i64.wrap (a16 + 1)))) _
        exact pEnd_sound good (L := F21_L) (D := F21_D) (its := [.g, (.b true), .g, (.ix id18 off18 g18), (.ld (.agg #[.int .i64 y18.1, (sv v18_1)])), .g, .g, .g, .g, .g, .g, .g, (.b false), .g, .g, (.b false), .g, .g, .g, .g]) (ds := F21_m1_0) (ks := [9]) (e := .normal) (s2 := (F21_h1 h x8 y14 v14_4 a16 (IntKind.i64.wrap (a16 + 1)))) (hC := (And.intro c20 (And.intro c19 (And.intro (At.agg (P := Try.prog) (t := 72) (v := .agg #[.int .i64 y18.1, (sv v18_1)]) (m := 2) at18 (by kernel_rfl) (by kernel_rfl) 0 (by kernel_rfl) rfl) (And.intro ix18 (And.intro c17 trivial)))))) (hd := F21_d1) (h := by kernel_rfl)
  · intro hr
    obtain rfl := Option.some.inj hr
    show AWp Try.prog _ (Ends1 ((F21_x1 h) ((1, a15) : Nat × Int)).1 ((F21_x1 h) ((1, a15) : Nat × Int)).2) _
    exact pEnd_sound good (L := F21_L) (D := F21_D) (its := [.g, (.b false)]) (ds := F21_m1_2) (ks := []) (e := ((F21_x1 h) ((1, a15) : Nat × Int)).1) (s2 := ((F21_x1 h) ((1, a15) : Nat × Int)).2) (hC := (And.intro c17 trivial)) (hd := F21_d1) (h := by kernel_rfl)
theorem F21_l1_0 (h : AHeap) (x8 : Int) (y14 : (List Int) × (List (Int × Int × (List Int) × Int × Int)) × Int × Int × (List (Int × (List Int))) × (List Int) × Int × Int × Int) (v14_4 : Hd) (hv14_4 : SlE E72 2 h (sv v14_4) y14.2.2.2.2.1) (x : Int × Int) (r : Nat × Int) (hl : loopO (fun (s : Int × Int) => F21_s1 x8 y14 s.1 s.2) x = some r) (q0 : Nat.beq r.1 0 = true) : AWp Try.prog (.loop (codeOf Try.prog 21 [1, 1, 1, 0, 1, 0, 0])) (Ends1 .ret (F21_x1_0 h r)) ((fun (s : Int × Int) => (F21_h1 h x8 y14 v14_4 s.1 s.2)) x) := by
  have k := loop_fun (P := Try.prog) (c := (codeOf Try.prog 21 [1, 1, 1, 0, 1, 0, 0])) (step := (fun (s : Int × Int) => F21_s1 x8 y14 s.1 s.2)) (hd := (fun (s : Int × Int) => (F21_h1 h x8 y14 v14_4 s.1 s.2))) (X := (F21_x1 h)) (by intro t; unfold F21_x1; cases Nat.beq t.1 0 <;> (intro h; cases h)) (fun x => F21_r1 h x8 y14 v14_4 hv14_4 x.1 x.2) hl
  simp only [F21_x1, q0, cond_true, cond_false] at k
  exact k
theorem F21_l1_1 (h : AHeap) (x8 : Int) (y14 : (List Int) × (List (Int × Int × (List Int) × Int × Int)) × Int × Int × (List (Int × (List Int))) × (List Int) × Int × Int × Int) (v14_4 : Hd) (hv14_4 : SlE E72 2 h (sv v14_4) y14.2.2.2.2.1) (x : Int × Int) (r : Nat × Int) (hl : loopO (fun (s : Int × Int) => F21_s1 x8 y14 s.1 s.2) x = some r) (q0 : Nat.beq r.1 0 = false) : AWp Try.prog (.loop (codeOf Try.prog 21 [1, 1, 1, 0, 1, 0, 0])) (Ends1 (.exit 0) (F21_x1_1 h r)) ((fun (s : Int × Int) => (F21_h1 h x8 y14 v14_4 s.1 s.2)) x) := by
  have k := loop_fun (P := Try.prog) (c := (codeOf Try.prog 21 [1, 1, 1, 0, 1, 0, 0])) (step := (fun (s : Int × Int) => F21_s1 x8 y14 s.1 s.2)) (hd := (fun (s : Int × Int) => (F21_h1 h x8 y14 v14_4 s.1 s.2))) (X := (F21_x1 h)) (by intro t; unfold F21_x1; cases Nat.beq t.1 0 <;> (intro h; cases h)) (fun x => F21_r1 h x8 y14 v14_4 hv14_4 x.1 x.2) hl
  simp only [F21_x1, q0, cond_true, cond_false] at k
  exact k
def F21 (x1 : ByteArray) (l2 : List Int) (l3 : List (ByteArray × Int × Int × Int × Int)) (l4 : List (ByteArray × Int × Bool)) (l5 : List Int) (l6 : List ((List Int) × (List (Int × Int × (List Int) × Int × Int)) × Int × Int × (List (Int × (List Int))) × (List Int) × Int × Int × Int)) (l7 : List (Int × Int × (List Int) × (List Int) × (List Int))) (x8 : Int) : Option (Int) :=
  (bif decide (x8 < 0) then
   some (-1)
  else
   (bif decide (x8 ≥ (l7.length : Int)) then
    some (-1)
   else
    (bif decide (x8 ≥ (l6.length : Int)) then
     some (-1)
    else
     (Option.bind (at? l7 x8) fun y12 =>
     (bif decide (y12.1 ≤ 0) then
      some (-1)
     else
      (Option.bind (at? l6 x8) fun y14 =>
      (Option.bind (loopO (fun (s : Int × Int) => F21_s1 x8 y14 s.1 s.2) ((-1), 0)) fun y21 =>
      (bif (Nat.beq y21.1 0) then
       some (-1)
      else
       some (y21.2)))))))))
set_option maxRecDepth 100000 in
theorem F21_spec (x1 : ByteArray) (l2 : List Int) (l3 : List (ByteArray × Int × Int × Int × Int)) (l4 : List (ByteArray × Int × Bool)) (l5 : List Int) (l6 : List ((List Int) × (List (Int × Int × (List Int) × Int × Int)) × Int × Int × (List (Int × (List Int))) × (List Int) × Int × Int × Int)) (l7 : List (Int × Int × (List Int) × (List Int) × (List Int))) (x8 : Int) (v2 : Hd) (v3 : Hd) (v4 : Hd) (v5 : Hd) (v6 : Hd) (v7 : Hd) (h : AHeap) (hv2 : SlE E3 1 h (sv v2) l2) (hv3 : SlE E98 5 h (sv v3) l3) (hv4 : SlE E100 3 h (sv v4) l4) (hv5 : SlE E3 1 h (sv v5) l5) (hv6 : SlE E65 9 h (sv v6) l6) (hv7 : SlE E69 5 h (sv v7) l7) (r : Int) : F21 x1 l2 l3 l4 l5 l6 l7 x8 = some r → ACalls Try.prog 21 [.agg #[.string x1, (sv v2), (sv v3), (sv v4), (sv v5), (sv v6)], (sv v7), .int .i64 x8] h (fun v' h'' => v' = (.int .i64 r : Value) ∧ h'' = h) := by
  unfold F21
  refine dec_bif (fun c9 => ?_) (fun c9 => ?_)
  · intro hr
    obtain rfl := Option.some.inj hr
    exact pFun_sound good tab_ok (f := 21) (its := [.g, .g, .g, .g, .g, .n, .n, .n, .n, (.p true), .g, .n, .n, .n, .n, .n, .g, .g, .n, .n, .n, .n, .n, .n, .g, (.b true), .g]) (args := [.agg #[.string x1, (sv v2), (sv v3), (sv v4), (sv v5), (sv v6)], (sv v7), .int .i64 x8]) (h := h) (h' := h) (v := .int .i64 (-1)) (hC := (And.intro l_t (And.intro (g_tf l_t) (And.intro (g_tf l_t) (And.intro (g_tf l_t) (And.intro (g_tf l_t) (And.intro (g_tf l_t) (And.intro (g_tf l_t) (And.intro (g_tf l_t) (And.intro (g_tf l_t) (And.intro (g_tf l_t) (And.intro (g_tf l_t) (And.intro (g_tf l_t) (And.intro c9 (And.intro (g_tf c9) (And.intro (g_tf c9) (And.intro (g_tf c9) (And.intro (g_tf c9) trivial)))))))))))))))))) (hr := by kernel_rfl)
  · refine dec_bif (fun c10 => ?_) (fun c10 => ?_)
    · intro hr
      obtain rfl := Option.some.inj hr
      exact pFun_sound good tab_ok (f := 21) (its := [.g, .g, .g, .g, .g, (.w .g), (.w .g), (.w (.ln l7.length)), (.w .g), (.p false), .g, .n, .n, .n, .n, .n, (.p true), .g, .n, .n, .n, .n, .n, .n, .g, (.b true), .g]) (args := [.agg #[.string x1, (sv v2), (sv v3), (sv v4), (sv v5), (sv v6)], (sv v7), .int .i64 x8]) (h := h) (h' := h) (v := .int .i64 (-1)) (hC := (And.intro l_t (And.intro (g_tf l_t) (And.intro (g_tf l_t) (And.intro (g_tf l_t) (And.intro (g_tf l_t) (And.intro (g_tf l_t) (And.intro (g_tf l_t) (And.intro c10 (And.intro (g_tf c10) (And.intro (g_tf c10) (And.intro (g_tf c10) (And.intro (g_tf c10) (And.intro (g_tf c10) (And.intro c9 (And.intro (g_ff c9) (And.intro (SlE.len hv7) (And.intro (g_ff c9) (And.intro (g_ff c9) (And.intro (g_ff c9) trivial)))))))))))))))))))) (hr := by kernel_rfl)
    · refine dec_bif (fun c11 => ?_) (fun c11 => ?_)
      · intro hr
        obtain rfl := Option.some.inj hr
        exact pFun_sound good tab_ok (f := 21) (its := [.g, .g, .g, .g, .g, (.w .g), (.w .g), (.w (.ln l7.length)), (.w .g), (.p false), .g, (.w .g), (.w .g), (.w .g), (.w (.ln l6.length)), (.w .g), (.p false), .g, .n, .n, .n, .n, .n, .n, (.p true), (.b true), .g]) (args := [.agg #[.string x1, (sv v2), (sv v3), (sv v4), (sv v5), (sv v6)], (sv v7), .int .i64 x8]) (h := h) (h' := h) (v := .int .i64 (-1)) (hC := (And.intro l_t (And.intro c11 (And.intro (g_tf c11) (And.intro (g_tf c11) (And.intro (g_tf c11) (And.intro (g_tf c11) (And.intro (g_tf c11) (And.intro (g_tf c11) (And.intro c10 (And.intro (g_ff c10) (And.intro (SlE.len hv6) (And.intro (g_ff c10) (And.intro (g_ff c10) (And.intro (g_ff c10) (And.intro (g_ff c10) (And.intro c9 (And.intro (g_ff c9) (And.intro (SlE.len hv7) (And.intro (g_ff c9) (And.intro (g_ff c9) (And.intro (g_ff c9) trivial)))))))))))))))))))))) (hr := by kernel_rfl)
      · refine bind_opt fun y12 e12 => ?_
        obtain ⟨id12, off12, g12, cs12, ix12, at12, v12_2, v12_3, v12_4, rfl, hv12_2, hv12_3, hv12_4⟩ := SlE.at hv7 e12
        refine dec_bif (fun c13 => ?_) (fun c13 => ?_)
        · intro hr
          obtain rfl := Option.some.inj hr
          exact pFun_sound good tab_ok (f := 21) (its := [.g, .g, .g, .g, .g, (.w .g), (.w .g), (.w (.ln l7.length)), (.w .g), (.p false), .g, (.w .g), (.w .g), (.w .g), (.w (.ln l6.length)), (.w .g), (.p false), .g, (.w .g), (.w .g), (.w (.ix id12 off12 g12)), (.w .g), (.w (.ld (.int .i64 y12.1))), (.w .g), (.p false), (.b true), .g]) (args := [.agg #[.string x1, (sv v2), (sv v3), (sv v4), (sv v5), (sv v6)], (sv v7), .int .i64 x8]) (h := h) (h' := h) (v := .int .i64 (-1)) (hC := (And.intro c13 (And.intro c11 (And.intro (g_ff c11) (And.intro (At.one (P := Try.prog) (t := 3) (v := .int .i64 y12.1) at12 (by kernel_rfl) 0 rfl rfl) (And.intro (g_ff c11) (And.intro (g_ff c11) (And.intro ix12 (And.intro (g_ff c11) (And.intro (g_ff c11) (And.intro (g_ff c11) (And.intro c10 (And.intro (g_ff c10) (And.intro (SlE.len hv6) (And.intro (g_ff c10) (And.intro (g_ff c10) (And.intro (g_ff c10) (And.intro (g_ff c10) (And.intro c9 (And.intro (g_ff c9) (And.intro (SlE.len hv7) (And.intro (g_ff c9) (And.intro (g_ff c9) (And.intro (g_ff c9) trivial)))))))))))))))))))))))) (hr := by kernel_rfl)
        · refine bind_opt fun y14 e14 => ?_
          obtain ⟨id14, off14, g14, cs14, ix14, at14, v14_0, v14_1, v14_4, v14_5, rfl, hv14_0, hv14_1, hv14_4, hv14_5⟩ := SlE.at hv6 e14
          refine bind_opt fun y21 e21 => ?_
          refine dec_bif (fun c22 => ?_) (fun c22 => ?_)
          · intro hr
            obtain rfl := Option.some.inj hr
            exact pFun_sound good tab_ok (f := 21) (its := [.g, .g, .g, .g, .g, (.w .g), (.w .g), (.w (.ln l7.length)), (.w .g), (.p false), .g, (.w .g), (.w .g), (.w .g), (.w (.ln l6.length)), (.w .g), (.p false), .g, (.w .g), (.w .g), (.w (.ix id12 off12 g12)), (.w .g), (.w (.ld (.int .i64 y12.1))), (.w .g), (.p false), (.b false), .g, .g, .g, .g, (.ix id14 off14 g14), .g, .g, (.ld ((sv v14_4))), (.ln y14.2.2.2.2.1.length), .g, (.l F21_m1_0 [3] .ret (F21_x1_0 h y21))]) (args := [.agg #[.string x1, (sv v2), (sv v3), (sv v4), (sv v5), (sv v6)], (sv v7), .int .i64 x8]) (h := h) (h' := h) (v := .int .i64 (-1)) (hC := (And.intro (F21_l1_0 h x8 y14 v14_4 hv14_4 ((-1), 0) y21 e21 c22) (And.intro (SlE.len hv14_4) (And.intro (At.one (P := Try.prog) (t := 60) (v := (sv v14_4)) at14 (by kernel_rfl) 4 rfl rfl) (And.intro ix14 (And.intro c13 (And.intro c11 (And.intro (g_ff c11) (And.intro (At.one (P := Try.prog) (t := 3) (v := .int .i64 y12.1) at12 (by kernel_rfl) 0 rfl rfl) (And.intro (g_ff c11) (And.intro (g_ff c11) (And.intro ix12 (And.intro (g_ff c11) (And.intro (g_ff c11) (And.intro (g_ff c11) (And.intro c10 (And.intro (g_ff c10) (And.intro (SlE.len hv6) (And.intro (g_ff c10) (And.intro (g_ff c10) (And.intro (g_ff c10) (And.intro (g_ff c10) (And.intro c9 (And.intro (g_ff c9) (And.intro (SlE.len hv7) (And.intro (g_ff c9) (And.intro (g_ff c9) (And.intro (g_ff c9) trivial)))))))))))))))))))))))))))) (hr := by kernel_rfl)
          · intro hr
            obtain rfl := Option.some.inj hr
            exact pFun_sound good tab_ok (f := 21) (its := [.g, .g, .g, .g, .g, (.w .g), (.w .g), (.w (.ln l7.length)), (.w .g), (.p false), .g, (.w .g), (.w .g), (.w .g), (.w (.ln l6.length)), (.w .g), (.p false), .g, (.w .g), (.w .g), (.w (.ix id12 off12 g12)), (.w .g), (.w (.ld (.int .i64 y12.1))), (.w .g), (.p false), (.b false), .g, .g, .g, .g, (.ix id14 off14 g14), .g, .g, (.ld ((sv v14_4))), (.ln y14.2.2.2.2.1.length), .g, (.l F21_m1_0 [3] (.exit 0) (F21_x1_1 h y21)), .g, .g]) (args := [.agg #[.string x1, (sv v2), (sv v3), (sv v4), (sv v5), (sv v6)], (sv v7), .int .i64 x8]) (h := h) (h' := h) (v := .int .i64 y21.2) (hC := (And.intro (F21_l1_1 h x8 y14 v14_4 hv14_4 ((-1), 0) y21 e21 c22) (And.intro (SlE.len hv14_4) (And.intro (At.one (P := Try.prog) (t := 60) (v := (sv v14_4)) at14 (by kernel_rfl) 4 rfl rfl) (And.intro ix14 (And.intro c13 (And.intro c11 (And.intro (g_ff c11) (And.intro (At.one (P := Try.prog) (t := 3) (v := .int .i64 y12.1) at12 (by kernel_rfl) 0 rfl rfl) (And.intro (g_ff c11) (And.intro (g_ff c11) (And.intro ix12 (And.intro (g_ff c11) (And.intro (g_ff c11) (And.intro (g_ff c11) (And.intro c10 (And.intro (g_ff c10) (And.intro (SlE.len hv6) (And.intro (g_ff c10) (And.intro (g_ff c10) (And.intro (g_ff c10) (And.intro (g_ff c10) (And.intro c9 (And.intro (g_ff c9) (And.intro (SlE.len hv7) (And.intro (g_ff c9) (And.intro (g_ff c9) (And.intro (g_ff c9) trivial)))))))))))))))))))))))))))) (hr := by kernel_rfl)
/-! 22 jacquard/jacquardref36.Self -/
def F22_L : List Nat := [3]
def F22_D : List (Nat × List (Nat × Nat)) := []
def F22_m1_1 : List Bool := [true, true, true, true, true, true, true, false, false, true, true, true, true, true, true, true, true, true, true, true, true, true, true, true, true, true, true, true, true, true, true, true, true, true, true, true, true, true, true, true, true, true, true, true, true, true, true, true, true, true, true, true, true, true, true, true, true, true, true, true]
def F22_m1_0 : List Bool := [true, true, false, true, true, true, true, false, false, false, false, true, true, true, true, true, true, true, true, true, true, true, true, true, true, true, true, true, true, true, true, true, true, true, true, true, true, true, true, true, true, true, true, true, true, true, true, true, true, true, true, true, true, true, true, true, true, true, true, true]
def F22_s1 (x8 : Int) (y14 : (List Int) × (List (Int × Int × (List Int) × Int × Int)) × Int × Int × (List (Int × (List Int))) × (List Int) × Int × Int × Int) (a15 : Int) (a16 : Int) (a17 : Int) : Option ((Int × Int × Int) ⊕ (Int × Int)) :=
  (bif decide (a17 < (y14.2.2.2.2.1.length : Int)) then
   (Option.bind (at? y14.2.2.2.2.1 a17) fun y19 =>
   (bif (y19.1 == x8) then
    some (.inl ((IntKind.i64.wrap (a15 + 1)), a17, (IntKind.i64.wrap (a17 + 1))))
   else
    some (.inl (a15, a16, (IntKind.i64.wrap (a17 + 1))))))
  else
   some (.inr (a15, a16)))
def F22_h1 (h : AHeap) (x8 : Int) (v14_4 : Hd)  (a15 : Int) (a16 : Int) (a17 : Int) : AS := ⟨[junk, junk, .int .i64 x8, junk, junk, junk, junk, .int .i64 a15, .int .i64 a16, (sv v14_4), .int .i64 a17, junk, junk, junk, junk, junk, junk, junk, junk, junk, junk, junk, junk, junk, junk, junk, junk, junk, junk, junk, junk, junk, junk, junk, junk, junk, junk, junk, junk, junk, junk, junk, junk, junk, junk, junk, junk, junk, junk, junk, junk, junk, junk, junk, junk, junk, junk, junk, junk, junk], [], h⟩
theorem F22_d1 : drawsOk F22_D (codeOf Try.prog 22 [1, 1, 1, 1, 0, 1, 0, 0]) = true := by kernel_rfl
def F22_x1_0 (h : AHeap)  (r : Int × Int) : AS := ⟨[junk, junk, junk, junk, junk, junk, junk, .int .i64 r.1, .int .i64 r.2, junk, junk, junk, junk, junk, junk, junk, junk, junk, junk, junk, junk, junk, junk, junk, junk, junk, junk, junk, junk, junk, junk, junk, junk, junk, junk, junk, junk, junk, junk, junk, junk, junk, junk, junk, junk, junk, junk, junk, junk, junk, junk, junk, junk, junk, junk, junk, junk, junk, junk, junk], [], h⟩
def F22_x1 (h : AHeap) (r : Int × Int) : Exit × AS := ((.exit 0), (F22_x1_0 h r))
set_option maxRecDepth 100000 in
theorem F22_r1 (h : AHeap) (x8 : Int) (y14 : (List Int) × (List (Int × Int × (List Int) × Int × Int)) × Int × Int × (List (Int × (List Int))) × (List Int) × Int × Int × Int) (v14_4 : Hd) (hv14_4 : SlE E72 2 h (sv v14_4) y14.2.2.2.2.1) (a15 : Int) (a16 : Int) (a17 : Int) (o : (Int × Int × Int) ⊕ (Int × Int)) : F22_s1 x8 y14 a15 a16 a17 = some o → RdF Try.prog (codeOf Try.prog 22 [1, 1, 1, 1, 0, 1, 0, 0]) (fun (s : Int × Int × Int) => (F22_h1 h x8 v14_4 s.1 s.2.1 s.2.2)) (F22_x1 h) (F22_h1 h x8 v14_4 a15 a16 a17) o := by
  unfold F22_s1
  refine dec_bif (fun c18 => ?_) (fun c18 => ?_)
  · refine bind_opt fun y19 e19 => ?_
    obtain ⟨id19, off19, g19, cs19, ix19, at19, v19_1, rfl, hv19_1⟩ := SlE.at hv14_4 e19
    refine dec_bif (fun c20 => ?_) (fun c20 => ?_)
    · intro hr
      obtain rfl := Option.some.inj hr
      show AWp Try.prog _ (Ends1 .normal (F22_h1 h x8 v14_4 (IntKind.i64.wrap (a15 + 1)) a17 (IntKind.i64.wrap (a17 + 1)))) _
      exact pEnd_sound good (L := F22_L) (D := F22_D) (its := [.g, .g, (.ln y14.2.2.2.2.1.length), .g, (.b true), .g, .g, (.ix id19 off19 g19), .g, (.ld (.int .i64 y19.1)), .g, .g, (.b true), .g, .g, .g, .g, .g, .g, .g, .g]) (ds := F22_m1_0) (ks := []) (e := .normal) (s2 := (F22_h1 h x8 v14_4 (IntKind.i64.wrap (a15 + 1)) a17 (IntKind.i64.wrap (a17 + 1)))) (hC := (And.intro c20 (And.intro (At.one (P := Try.prog) (t := 3) (v := .int .i64 y19.1) at19 (by kernel_rfl) 0 rfl rfl) (And.intro ix19 (And.intro c18 (And.intro (SlE.len hv14_4) trivial)))))) (hd := F22_d1) (h := by kernel_rfl)
    · intro hr
      obtain rfl := Option.some.inj hr
      show AWp Try.prog _ (Ends1 .normal (F22_h1 h x8 v14_4 a15 a16 (IntKind.i64.wrap (a17 + 1)))) _
      exact pEnd_sound good (L := F22_L) (D := F22_D) (its := [.g, .g, (.ln y14.2.2.2.2.1.length), .g, (.b true), .g, .g, (.ix id19 off19 g19), .g, (.ld (.int .i64 y19.1)), .g, .g, (.b false), .g, .g, .g]) (ds := F22_m1_0) (ks := []) (e := .normal) (s2 := (F22_h1 h x8 v14_4 a15 a16 (IntKind.i64.wrap (a17 + 1)))) (hC := (And.intro c20 (And.intro (At.one (P := Try.prog) (t := 3) (v := .int .i64 y19.1) at19 (by kernel_rfl) 0 rfl rfl) (And.intro ix19 (And.intro c18 (And.intro (SlE.len hv14_4) trivial)))))) (hd := F22_d1) (h := by kernel_rfl)
  · intro hr
    obtain rfl := Option.some.inj hr
    show AWp Try.prog _ (Ends1 ((F22_x1 h) ((a15, a16) : Int × Int)).1 ((F22_x1 h) ((a15, a16) : Int × Int)).2) _
    exact pEnd_sound good (L := F22_L) (D := F22_D) (its := [.g, .g, (.ln y14.2.2.2.2.1.length), .g, (.b false)]) (ds := F22_m1_1) (ks := []) (e := ((F22_x1 h) ((a15, a16) : Int × Int)).1) (s2 := ((F22_x1 h) ((a15, a16) : Int × Int)).2) (hC := (And.intro c18 (And.intro (SlE.len hv14_4) trivial))) (hd := F22_d1) (h := by kernel_rfl)
theorem F22_l1_0 (h : AHeap) (x8 : Int) (y14 : (List Int) × (List (Int × Int × (List Int) × Int × Int)) × Int × Int × (List (Int × (List Int))) × (List Int) × Int × Int × Int) (v14_4 : Hd) (hv14_4 : SlE E72 2 h (sv v14_4) y14.2.2.2.2.1) (x : Int × Int × Int) (r : Int × Int) (hl : loopO (fun (s : Int × Int × Int) => F22_s1 x8 y14 s.1 s.2.1 s.2.2) x = some r) : AWp Try.prog (.loop (codeOf Try.prog 22 [1, 1, 1, 1, 0, 1, 0, 0])) (Ends1 (.exit 0) (F22_x1_0 h r)) ((fun (s : Int × Int × Int) => (F22_h1 h x8 v14_4 s.1 s.2.1 s.2.2)) x) := by
  have k := loop_fun (P := Try.prog) (c := (codeOf Try.prog 22 [1, 1, 1, 1, 0, 1, 0, 0])) (step := (fun (s : Int × Int × Int) => F22_s1 x8 y14 s.1 s.2.1 s.2.2)) (hd := (fun (s : Int × Int × Int) => (F22_h1 h x8 v14_4 s.1 s.2.1 s.2.2))) (X := (F22_x1 h)) (by intro t; unfold F22_x1; intro h; cases h) (fun x => F22_r1 h x8 y14 v14_4 hv14_4 x.1 x.2.1 x.2.2) hl
  exact k
def F22 (x1 : ByteArray) (l2 : List Int) (l3 : List (ByteArray × Int × Int × Int × Int)) (l4 : List (ByteArray × Int × Bool)) (l5 : List Int) (l6 : List ((List Int) × (List (Int × Int × (List Int) × Int × Int)) × Int × Int × (List (Int × (List Int))) × (List Int) × Int × Int × Int)) (l7 : List (Int × Int × (List Int) × (List Int) × (List Int))) (x8 : Int) : Option (Int) :=
  (bif decide (x8 < 0) then
   some (-1)
  else
   (bif decide (x8 ≥ (l6.length : Int)) then
    some (-1)
   else
    (bif decide (x8 ≥ (l7.length : Int)) then
     some (-1)
    else
     (Option.bind (at? l7 x8) fun y12 =>
     (bif decide (y12.1 ≤ 0) then
      some (-1)
     else
      (Option.bind (at? l6 x8) fun y14 =>
      (Option.bind (loopO (fun (s : Int × Int × Int) => F22_s1 x8 y14 s.1 s.2.1 s.2.2) (0, (-1), 0)) fun y21 =>
      (bif (y21.1 != 1) then
       some (-1)
      else
       some (y21.2)))))))))
set_option maxRecDepth 100000 in
theorem F22_spec (x1 : ByteArray) (l2 : List Int) (l3 : List (ByteArray × Int × Int × Int × Int)) (l4 : List (ByteArray × Int × Bool)) (l5 : List Int) (l6 : List ((List Int) × (List (Int × Int × (List Int) × Int × Int)) × Int × Int × (List (Int × (List Int))) × (List Int) × Int × Int × Int)) (l7 : List (Int × Int × (List Int) × (List Int) × (List Int))) (x8 : Int) (v2 : Hd) (v3 : Hd) (v4 : Hd) (v5 : Hd) (v6 : Hd) (v7 : Hd) (h : AHeap) (hv2 : SlE E3 1 h (sv v2) l2) (hv3 : SlE E98 5 h (sv v3) l3) (hv4 : SlE E100 3 h (sv v4) l4) (hv5 : SlE E3 1 h (sv v5) l5) (hv6 : SlE E65 9 h (sv v6) l6) (hv7 : SlE E69 5 h (sv v7) l7) (r : Int) : F22 x1 l2 l3 l4 l5 l6 l7 x8 = some r → ACalls Try.prog 22 [.agg #[.string x1, (sv v2), (sv v3), (sv v4), (sv v5), (sv v6)], (sv v7), .int .i64 x8] h (fun v' h'' => v' = (.int .i64 r : Value) ∧ h'' = h) := by
  unfold F22
  refine dec_bif (fun c9 => ?_) (fun c9 => ?_)
  · intro hr
    obtain rfl := Option.some.inj hr
    exact pFun_sound good tab_ok (f := 22) (its := [.g, .g, .g, .g, .g, .n, .n, .n, .n, .n, (.p true), .g, .n, .n, .n, .n, .g, .g, .n, .n, .n, .n, .n, .n, .g, (.b true), .g]) (args := [.agg #[.string x1, (sv v2), (sv v3), (sv v4), (sv v5), (sv v6)], (sv v7), .int .i64 x8]) (h := h) (h' := h) (v := .int .i64 (-1)) (hC := (And.intro l_t (And.intro (g_tf l_t) (And.intro (g_tf l_t) (And.intro (g_tf l_t) (And.intro (g_tf l_t) (And.intro (g_tf l_t) (And.intro (g_tf l_t) (And.intro (g_tf l_t) (And.intro (g_tf l_t) (And.intro (g_tf l_t) (And.intro (g_tf l_t) (And.intro c9 (And.intro (g_tf c9) (And.intro (g_tf c9) (And.intro (g_tf c9) (And.intro (g_tf c9) (And.intro (g_tf c9) trivial)))))))))))))))))) (hr := by kernel_rfl)
  · refine dec_bif (fun c10 => ?_) (fun c10 => ?_)
    · intro hr
      obtain rfl := Option.some.inj hr
      exact pFun_sound good tab_ok (f := 22) (its := [.g, .g, .g, .g, .g, (.w .g), (.w .g), (.w .g), (.w (.ln l6.length)), (.w .g), (.p false), .g, .n, .n, .n, .n, (.p true), .g, .n, .n, .n, .n, .n, .n, .g, (.b true), .g]) (args := [.agg #[.string x1, (sv v2), (sv v3), (sv v4), (sv v5), (sv v6)], (sv v7), .int .i64 x8]) (h := h) (h' := h) (v := .int .i64 (-1)) (hC := (And.intro l_t (And.intro (g_tf l_t) (And.intro (g_tf l_t) (And.intro (g_tf l_t) (And.intro (g_tf l_t) (And.intro (g_tf l_t) (And.intro (g_tf l_t) (And.intro c10 (And.intro (g_tf c10) (And.intro (g_tf c10) (And.intro (g_tf c10) (And.intro (g_tf c10) (And.intro c9 (And.intro (g_ff c9) (And.intro (SlE.len hv6) (And.intro (g_ff c9) (And.intro (g_ff c9) (And.intro (g_ff c9) (And.intro (g_ff c9) trivial)))))))))))))))))))) (hr := by kernel_rfl)
    · refine dec_bif (fun c11 => ?_) (fun c11 => ?_)
      · intro hr
        obtain rfl := Option.some.inj hr
        exact pFun_sound good tab_ok (f := 22) (its := [.g, .g, .g, .g, .g, (.w .g), (.w .g), (.w .g), (.w (.ln l6.length)), (.w .g), (.p false), .g, (.w .g), (.w .g), (.w (.ln l7.length)), (.w .g), (.p false), .g, .n, .n, .n, .n, .n, .n, (.p true), (.b true), .g]) (args := [.agg #[.string x1, (sv v2), (sv v3), (sv v4), (sv v5), (sv v6)], (sv v7), .int .i64 x8]) (h := h) (h' := h) (v := .int .i64 (-1)) (hC := (And.intro l_t (And.intro c11 (And.intro (g_tf c11) (And.intro (g_tf c11) (And.intro (g_tf c11) (And.intro (g_tf c11) (And.intro (g_tf c11) (And.intro (g_tf c11) (And.intro c10 (And.intro (g_ff c10) (And.intro (SlE.len hv7) (And.intro (g_ff c10) (And.intro (g_ff c10) (And.intro (g_ff c10) (And.intro c9 (And.intro (g_ff c9) (And.intro (SlE.len hv6) (And.intro (g_ff c9) (And.intro (g_ff c9) (And.intro (g_ff c9) (And.intro (g_ff c9) trivial)))))))))))))))))))))) (hr := by kernel_rfl)
      · refine bind_opt fun y12 e12 => ?_
        obtain ⟨id12, off12, g12, cs12, ix12, at12, v12_2, v12_3, v12_4, rfl, hv12_2, hv12_3, hv12_4⟩ := SlE.at hv7 e12
        refine dec_bif (fun c13 => ?_) (fun c13 => ?_)
        · intro hr
          obtain rfl := Option.some.inj hr
          exact pFun_sound good tab_ok (f := 22) (its := [.g, .g, .g, .g, .g, (.w .g), (.w .g), (.w .g), (.w (.ln l6.length)), (.w .g), (.p false), .g, (.w .g), (.w .g), (.w (.ln l7.length)), (.w .g), (.p false), .g, (.w .g), (.w .g), (.w (.ix id12 off12 g12)), (.w .g), (.w (.ld (.int .i64 y12.1))), (.w .g), (.p false), (.b true), .g]) (args := [.agg #[.string x1, (sv v2), (sv v3), (sv v4), (sv v5), (sv v6)], (sv v7), .int .i64 x8]) (h := h) (h' := h) (v := .int .i64 (-1)) (hC := (And.intro c13 (And.intro c11 (And.intro (g_ff c11) (And.intro (At.one (P := Try.prog) (t := 3) (v := .int .i64 y12.1) at12 (by kernel_rfl) 0 rfl rfl) (And.intro (g_ff c11) (And.intro (g_ff c11) (And.intro ix12 (And.intro (g_ff c11) (And.intro (g_ff c11) (And.intro (g_ff c11) (And.intro c10 (And.intro (g_ff c10) (And.intro (SlE.len hv7) (And.intro (g_ff c10) (And.intro (g_ff c10) (And.intro (g_ff c10) (And.intro c9 (And.intro (g_ff c9) (And.intro (SlE.len hv6) (And.intro (g_ff c9) (And.intro (g_ff c9) (And.intro (g_ff c9) (And.intro (g_ff c9) trivial)))))))))))))))))))))))) (hr := by kernel_rfl)
        · refine bind_opt fun y14 e14 => ?_
          obtain ⟨id14, off14, g14, cs14, ix14, at14, v14_0, v14_1, v14_4, v14_5, rfl, hv14_0, hv14_1, hv14_4, hv14_5⟩ := SlE.at hv6 e14
          refine bind_opt fun y21 e21 => ?_
          refine dec_bif (fun c22 => ?_) (fun c22 => ?_)
          · intro hr
            obtain rfl := Option.some.inj hr
            exact pFun_sound good tab_ok (f := 22) (its := [.g, .g, .g, .g, .g, (.w .g), (.w .g), (.w .g), (.w (.ln l6.length)), (.w .g), (.p false), .g, (.w .g), (.w .g), (.w (.ln l7.length)), (.w .g), (.p false), .g, (.w .g), (.w .g), (.w (.ix id12 off12 g12)), (.w .g), (.w (.ld (.int .i64 y12.1))), (.w .g), (.p false), (.b false), .g, .g, .g, .g, .g, (.ix id14 off14 g14), .g, .g, (.ld ((sv v14_4))), .g, .g, (.l F22_m1_0 [3] (.exit 0) (F22_x1_0 h y21)), .g, .g, (.b true), .g]) (args := [.agg #[.string x1, (sv v2), (sv v3), (sv v4), (sv v5), (sv v6)], (sv v7), .int .i64 x8]) (h := h) (h' := h) (v := .int .i64 (-1)) (hC := (And.intro c22 (And.intro (F22_l1_0 h x8 y14 v14_4 hv14_4 (0, (-1), 0) y21 e21) (And.intro (At.one (P := Try.prog) (t := 60) (v := (sv v14_4)) at14 (by kernel_rfl) 4 rfl rfl) (And.intro ix14 (And.intro c13 (And.intro c11 (And.intro (g_ff c11) (And.intro (At.one (P := Try.prog) (t := 3) (v := .int .i64 y12.1) at12 (by kernel_rfl) 0 rfl rfl) (And.intro (g_ff c11) (And.intro (g_ff c11) (And.intro ix12 (And.intro (g_ff c11) (And.intro (g_ff c11) (And.intro (g_ff c11) (And.intro c10 (And.intro (g_ff c10) (And.intro (SlE.len hv7) (And.intro (g_ff c10) (And.intro (g_ff c10) (And.intro (g_ff c10) (And.intro c9 (And.intro (g_ff c9) (And.intro (SlE.len hv6) (And.intro (g_ff c9) (And.intro (g_ff c9) (And.intro (g_ff c9) (And.intro (g_ff c9) trivial)))))))))))))))))))))))))))) (hr := by kernel_rfl)
          · intro hr
            obtain rfl := Option.some.inj hr
            exact pFun_sound good tab_ok (f := 22) (its := [.g, .g, .g, .g, .g, (.w .g), (.w .g), (.w .g), (.w (.ln l6.length)), (.w .g), (.p false), .g, (.w .g), (.w .g), (.w (.ln l7.length)), (.w .g), (.p false), .g, (.w .g), (.w .g), (.w (.ix id12 off12 g12)), (.w .g), (.w (.ld (.int .i64 y12.1))), (.w .g), (.p false), (.b false), .g, .g, .g, .g, .g, (.ix id14 off14 g14), .g, .g, (.ld ((sv v14_4))), .g, .g, (.l F22_m1_0 [3] (.exit 0) (F22_x1_0 h y21)), .g, .g, (.b false), .g, .g]) (args := [.agg #[.string x1, (sv v2), (sv v3), (sv v4), (sv v5), (sv v6)], (sv v7), .int .i64 x8]) (h := h) (h' := h) (v := .int .i64 y21.2) (hC := (And.intro c22 (And.intro (F22_l1_0 h x8 y14 v14_4 hv14_4 (0, (-1), 0) y21 e21) (And.intro (At.one (P := Try.prog) (t := 60) (v := (sv v14_4)) at14 (by kernel_rfl) 4 rfl rfl) (And.intro ix14 (And.intro c13 (And.intro c11 (And.intro (g_ff c11) (And.intro (At.one (P := Try.prog) (t := 3) (v := .int .i64 y12.1) at12 (by kernel_rfl) 0 rfl rfl) (And.intro (g_ff c11) (And.intro (g_ff c11) (And.intro ix12 (And.intro (g_ff c11) (And.intro (g_ff c11) (And.intro (g_ff c11) (And.intro c10 (And.intro (g_ff c10) (And.intro (SlE.len hv7) (And.intro (g_ff c10) (And.intro (g_ff c10) (And.intro (g_ff c10) (And.intro c9 (And.intro (g_ff c9) (And.intro (SlE.len hv6) (And.intro (g_ff c9) (And.intro (g_ff c9) (And.intro (g_ff c9) (And.intro (g_ff c9) trivial)))))))))))))))))))))))))))) (hr := by kernel_rfl)
/-! 8 jacquard/jacquardlaw36.CyclesSelf -/
def F8_L : List Nat := [3]
def F8_D : List (Nat × List (Nat × Nat)) := [(6, [(1, 1), (2, 1), (5, 1), (6, 1), (0, 2), (4, 2), (3, 0), (7, 0), (8, 1)]), (9, [(1, 1), (2, 1), (5, 1), (6, 1), (0, 2), (4, 2), (3, 0), (7, 0), (8, 1), (9, 1)])]
def F8_m1_2 : List Bool := [true, false, false, false, true, true, true, true, true, true, true, true, true, true, true, true, true, true, true, true, true, true, true, true, true, true, true, true, true, true, true, true, true, true, true, true, true, true, true, true, true, true]
def F8_m1_1 : List Bool := [true, false, false, false, true, true, true, true, true, true, true, true, true, true, true, true, true, true, true, false, false, true, true, true, true, true, true, true, true, true, true, true, true, true, true, true, true, true, true, true, true, true]
def F8_m1_0 : List Bool := [true, true, true, true, true, true, false, true, true, true, true, true, true, true, true, true, true, true, true, true, true, true, true, true, true, true, true, true, true, true, true, true, true, true, true, true, true, true, true, true, true, true]
def F8_s1 (x1 : ByteArray) (l2 : List Int) (l3 : List (ByteArray × Int × Int × Int × Int)) (l4 : List (ByteArray × Int × Bool)) (l5 : List Int) (l6 : List ((List Int) × (List (Int × Int × (List Int) × Int × Int)) × Int × Int × (List (Int × (List Int))) × (List Int) × Int × Int × Int)) (l7 : List (Int × Int × (List Int) × (List Int) × (List Int))) (a12 : Int) : Option (Int ⊕ Nat) :=
  (bif decide (a12 < (l6.length : Int)) then
   (Option.bind (F21 x1 l2 l3 l4 l5 l6 l7 a12) fun y14 =>
   (Option.bind (F22 x1 l2 l3 l4 l5 l6 l7 a12) fun y16 =>
   (bif (y14 != y16) then
    some (.inr 0)
   else
    some (.inl (IntKind.i64.wrap (a12 + 1))))))
  else
   some (.inr 1))
def F8_h1 (h : AHeap) (x1 : ByteArray) (v2 : Hd) (v3 : Hd) (v4 : Hd) (v5 : Hd) (l6 : List ((List Int) × (List (Int × Int × (List Int) × Int × Int)) × Int × Int × (List (Int × (List Int))) × (List Int) × Int × Int × Int)) (v6 : Hd) (v7 : Hd) (x8 : Int)  (a12 : Int) : AS := ⟨[junk, (sv v7), .int .i64 x8, .pointer (some ⟨3, 0, none⟩), junk, junk, junk, junk, junk, junk, junk, junk, junk, junk, junk, junk, junk, junk, junk, .int .i64 (l6.length : Int), .int .i64 a12, junk, junk, junk, junk, junk, junk, junk, junk, junk, junk, junk, junk, junk, junk, junk, junk, junk, junk, junk, junk, junk], [(3, [.string x1, (sv v2), (sv v3), (sv v4), (sv v5), (sv v6)])], h⟩
theorem F8_d1 : drawsOk F8_D (codeOf Try.prog 8 [1, 1, 0, 1, 0, 0]) = true := by kernel_rfl
def F8_x1_0 (h : AHeap) (x1 : ByteArray) (v2 : Hd) (v3 : Hd) (v4 : Hd) (v5 : Hd) (v6 : Hd) (v7 : Hd) (x8 : Int)  (r : Nat) : AS := ⟨[junk, junk, junk, junk, junk, junk, .bool false, junk, junk, junk, junk, junk, junk, junk, junk, junk, junk, junk, junk, junk, junk, junk, junk, junk, junk, junk, junk, junk, junk, junk, junk, junk, junk, junk, junk, junk, junk, junk, junk, junk, junk, junk], [], h⟩
def F8_x1_1 (h : AHeap) (x1 : ByteArray) (v2 : Hd) (v3 : Hd) (v4 : Hd) (v5 : Hd) (v6 : Hd) (v7 : Hd) (x8 : Int)  (r : Nat) : AS := ⟨[junk, (sv v7), .int .i64 x8, .pointer (some ⟨3, 0, none⟩), junk, junk, junk, junk, junk, junk, junk, junk, junk, junk, junk, junk, junk, junk, junk, junk, junk, junk, junk, junk, junk, junk, junk, junk, junk, junk, junk, junk, junk, junk, junk, junk, junk, junk, junk, junk, junk, junk], [(3, [.string x1, (sv v2), (sv v3), (sv v4), (sv v5), (sv v6)])], h⟩
def F8_x1 (h : AHeap) (x1 : ByteArray) (v2 : Hd) (v3 : Hd) (v4 : Hd) (v5 : Hd) (v6 : Hd) (v7 : Hd) (x8 : Int) (r : Nat) : Exit × AS := (bif Nat.beq r 0 then (.ret, (F8_x1_0 h x1 v2 v3 v4 v5 v6 v7 x8 r)) else ((.exit 0), (F8_x1_1 h x1 v2 v3 v4 v5 v6 v7 x8 r)))
set_option maxRecDepth 100000 in
theorem F8_r1 (h : AHeap) (x1 : ByteArray) (l2 : List Int) (v2 : Hd) (hv2 : SlE E3 1 h (sv v2) l2) (l3 : List (ByteArray × Int × Int × Int × Int)) (v3 : Hd) (hv3 : SlE E98 5 h (sv v3) l3) (l4 : List (ByteArray × Int × Bool)) (v4 : Hd) (hv4 : SlE E100 3 h (sv v4) l4) (l5 : List Int) (v5 : Hd) (hv5 : SlE E3 1 h (sv v5) l5) (l6 : List ((List Int) × (List (Int × Int × (List Int) × Int × Int)) × Int × Int × (List (Int × (List Int))) × (List Int) × Int × Int × Int)) (v6 : Hd) (hv6 : SlE E65 9 h (sv v6) l6) (l7 : List (Int × Int × (List Int) × (List Int) × (List Int))) (v7 : Hd) (hv7 : SlE E69 5 h (sv v7) l7) (x8 : Int) (a12 : Int) (o : Int ⊕ Nat) : F8_s1 x1 l2 l3 l4 l5 l6 l7 a12 = some o → RdF Try.prog (codeOf Try.prog 8 [1, 1, 0, 1, 0, 0]) (fun (s : Int) => (F8_h1 h x1 v2 v3 v4 v5 l6 v6 v7 x8 s)) (F8_x1 h x1 v2 v3 v4 v5 v6 v7 x8) (F8_h1 h x1 v2 v3 v4 v5 l6 v6 v7 x8 a12) o := by
  unfold F8_s1
  refine dec_bif (fun c13 => ?_) (fun c13 => ?_)
  · refine bind_opt fun y14 e14 => ?_
    refine bind_opt fun y16 e16 => ?_
    refine dec_bif (fun c18 => ?_) (fun c18 => ?_)
    · intro hr
      obtain rfl := Option.some.inj hr
      show AWp Try.prog _ (Ends1 ((F8_x1 h x1 v2 v3 v4 v5 v6 v7 x8) (0 : Nat)).1 ((F8_x1 h x1 v2 v3 v4 v5 v6 v7 x8) (0 : Nat)).2) _
      exact pEnd_sound good (L := F8_L) (D := F8_D) (its := [.g, (.b true), .g, .g, .g, .g, .g, .g, .g, .g, (.c (.int .i64 y14) h), (.c (.int .i64 y16) h), .g, (.b true), .g]) (ds := F8_m1_0) (ks := [3]) (e := ((F8_x1 h x1 v2 v3 v4 v5 v6 v7 x8) (0 : Nat)).1) (s2 := ((F8_x1 h x1 v2 v3 v4 v5 v6 v7 x8) (0 : Nat)).2) (hC := (And.intro c18 (And.intro (F22_spec x1 l2 l3 l4 l5 l6 l7 a12 v2 v3 v4 v5 v6 v7 h hv2 hv3 hv4 hv5 hv6 hv7 _ e16) (And.intro (F21_spec x1 l2 l3 l4 l5 l6 l7 a12 v2 v3 v4 v5 v6 v7 h hv2 hv3 hv4 hv5 hv6 hv7 _ e14) (And.intro c13 trivial))))) (hd := F8_d1) (h := by kernel_rfl)
    · intro hr
      obtain rfl := Option.some.inj hr
      show AWp Try.prog _ (Ends1 .normal (F8_h1 h x1 v2 v3 v4 v5 l6 v6 v7 x8 (IntKind.i64.wrap (a12 + 1)))) _
      exact pEnd_sound good (L := F8_L) (D := F8_D) (its := [.g, (.b true), .g, .g, .g, .g, .g, .g, .g, .g, (.c (.int .i64 y14) h), (.c (.int .i64 y16) h), .g, (.b false), .g, .g]) (ds := F8_m1_1) (ks := []) (e := .normal) (s2 := (F8_h1 h x1 v2 v3 v4 v5 l6 v6 v7 x8 (IntKind.i64.wrap (a12 + 1)))) (hC := (And.intro c18 (And.intro (F22_spec x1 l2 l3 l4 l5 l6 l7 a12 v2 v3 v4 v5 v6 v7 h hv2 hv3 hv4 hv5 hv6 hv7 _ e16) (And.intro (F21_spec x1 l2 l3 l4 l5 l6 l7 a12 v2 v3 v4 v5 v6 v7 h hv2 hv3 hv4 hv5 hv6 hv7 _ e14) (And.intro c13 trivial))))) (hd := F8_d1) (h := by kernel_rfl)
  · intro hr
    obtain rfl := Option.some.inj hr
    show AWp Try.prog _ (Ends1 ((F8_x1 h x1 v2 v3 v4 v5 v6 v7 x8) (1 : Nat)).1 ((F8_x1 h x1 v2 v3 v4 v5 v6 v7 x8) (1 : Nat)).2) _
    exact pEnd_sound good (L := F8_L) (D := F8_D) (its := [.g, (.b false)]) (ds := F8_m1_2) (ks := []) (e := ((F8_x1 h x1 v2 v3 v4 v5 v6 v7 x8) (1 : Nat)).1) (s2 := ((F8_x1 h x1 v2 v3 v4 v5 v6 v7 x8) (1 : Nat)).2) (hC := (And.intro c13 trivial)) (hd := F8_d1) (h := by kernel_rfl)
theorem F8_l1_0 (h : AHeap) (x1 : ByteArray) (l2 : List Int) (v2 : Hd) (hv2 : SlE E3 1 h (sv v2) l2) (l3 : List (ByteArray × Int × Int × Int × Int)) (v3 : Hd) (hv3 : SlE E98 5 h (sv v3) l3) (l4 : List (ByteArray × Int × Bool)) (v4 : Hd) (hv4 : SlE E100 3 h (sv v4) l4) (l5 : List Int) (v5 : Hd) (hv5 : SlE E3 1 h (sv v5) l5) (l6 : List ((List Int) × (List (Int × Int × (List Int) × Int × Int)) × Int × Int × (List (Int × (List Int))) × (List Int) × Int × Int × Int)) (v6 : Hd) (hv6 : SlE E65 9 h (sv v6) l6) (l7 : List (Int × Int × (List Int) × (List Int) × (List Int))) (v7 : Hd) (hv7 : SlE E69 5 h (sv v7) l7) (x8 : Int) (x : Int) (r : Nat) (hl : loopO (fun (s : Int) => F8_s1 x1 l2 l3 l4 l5 l6 l7 s) x = some r) (q0 : Nat.beq r 0 = true) : AWp Try.prog (.loop (codeOf Try.prog 8 [1, 1, 0, 1, 0, 0])) (Ends1 .ret (F8_x1_0 h x1 v2 v3 v4 v5 v6 v7 x8 r)) ((fun (s : Int) => (F8_h1 h x1 v2 v3 v4 v5 l6 v6 v7 x8 s)) x) := by
  have k := loop_fun (P := Try.prog) (c := (codeOf Try.prog 8 [1, 1, 0, 1, 0, 0])) (step := (fun (s : Int) => F8_s1 x1 l2 l3 l4 l5 l6 l7 s)) (hd := (fun (s : Int) => (F8_h1 h x1 v2 v3 v4 v5 l6 v6 v7 x8 s))) (X := (F8_x1 h x1 v2 v3 v4 v5 v6 v7 x8)) (by intro t; unfold F8_x1; cases Nat.beq t 0 <;> (intro h; cases h)) (fun x => F8_r1 h x1 l2 v2 hv2 l3 v3 hv3 l4 v4 hv4 l5 v5 hv5 l6 v6 hv6 l7 v7 hv7 x8 x) hl
  simp only [F8_x1, q0, cond_true, cond_false] at k
  exact k
theorem F8_l1_1 (h : AHeap) (x1 : ByteArray) (l2 : List Int) (v2 : Hd) (hv2 : SlE E3 1 h (sv v2) l2) (l3 : List (ByteArray × Int × Int × Int × Int)) (v3 : Hd) (hv3 : SlE E98 5 h (sv v3) l3) (l4 : List (ByteArray × Int × Bool)) (v4 : Hd) (hv4 : SlE E100 3 h (sv v4) l4) (l5 : List Int) (v5 : Hd) (hv5 : SlE E3 1 h (sv v5) l5) (l6 : List ((List Int) × (List (Int × Int × (List Int) × Int × Int)) × Int × Int × (List (Int × (List Int))) × (List Int) × Int × Int × Int)) (v6 : Hd) (hv6 : SlE E65 9 h (sv v6) l6) (l7 : List (Int × Int × (List Int) × (List Int) × (List Int))) (v7 : Hd) (hv7 : SlE E69 5 h (sv v7) l7) (x8 : Int) (x : Int) (r : Nat) (hl : loopO (fun (s : Int) => F8_s1 x1 l2 l3 l4 l5 l6 l7 s) x = some r) (q0 : Nat.beq r 0 = false) : AWp Try.prog (.loop (codeOf Try.prog 8 [1, 1, 0, 1, 0, 0])) (Ends1 (.exit 0) (F8_x1_1 h x1 v2 v3 v4 v5 v6 v7 x8 r)) ((fun (s : Int) => (F8_h1 h x1 v2 v3 v4 v5 l6 v6 v7 x8 s)) x) := by
  have k := loop_fun (P := Try.prog) (c := (codeOf Try.prog 8 [1, 1, 0, 1, 0, 0])) (step := (fun (s : Int) => F8_s1 x1 l2 l3 l4 l5 l6 l7 s)) (hd := (fun (s : Int) => (F8_h1 h x1 v2 v3 v4 v5 l6 v6 v7 x8 s))) (X := (F8_x1 h x1 v2 v3 v4 v5 v6 v7 x8)) (by intro t; unfold F8_x1; cases Nat.beq t 0 <;> (intro h; cases h)) (fun x => F8_r1 h x1 l2 v2 hv2 l3 v3 hv3 l4 v4 hv4 l5 v5 hv5 l6 v6 hv6 l7 v7 hv7 x8 x) hl
  simp only [F8_x1, q0, cond_true, cond_false] at k
  exact k
def F8 (x1 : ByteArray) (l2 : List Int) (l3 : List (ByteArray × Int × Int × Int × Int)) (l4 : List (ByteArray × Int × Bool)) (l5 : List Int) (l6 : List ((List Int) × (List (Int × Int × (List Int) × Int × Int)) × Int × Int × (List (Int × (List Int))) × (List Int) × Int × Int × Int)) (l7 : List (Int × Int × (List Int) × (List Int) × (List Int))) (x8 : Int) : Option (Bool) :=
  (bif decide ((l6.length : Int) > 50) then
   some (true)
  else
   (Option.bind (loopO (fun (s : Int) => F8_s1 x1 l2 l3 l4 l5 l6 l7 s) 0) fun y19 =>
   (bif (Nat.beq y19 0) then
    some (false)
   else
    (Option.bind (F21 x1 l2 l3 l4 l5 l6 l7 x8) fun y21 =>
    (Option.bind (F22 x1 l2 l3 l4 l5 l6 l7 x8) fun y23 =>
    some (y21 == y23))))))
set_option maxRecDepth 100000 in
theorem F8_spec (x1 : ByteArray) (l2 : List Int) (l3 : List (ByteArray × Int × Int × Int × Int)) (l4 : List (ByteArray × Int × Bool)) (l5 : List Int) (l6 : List ((List Int) × (List (Int × Int × (List Int) × Int × Int)) × Int × Int × (List (Int × (List Int))) × (List Int) × Int × Int × Int)) (l7 : List (Int × Int × (List Int) × (List Int) × (List Int))) (x8 : Int) (v2 : Hd) (v3 : Hd) (v4 : Hd) (v5 : Hd) (v6 : Hd) (v7 : Hd) (h : AHeap) (hv2 : SlE E3 1 h (sv v2) l2) (hv3 : SlE E98 5 h (sv v3) l3) (hv4 : SlE E100 3 h (sv v4) l4) (hv5 : SlE E3 1 h (sv v5) l5) (hv6 : SlE E65 9 h (sv v6) l6) (hv7 : SlE E69 5 h (sv v7) l7) (r : Bool) : F8 x1 l2 l3 l4 l5 l6 l7 x8 = some r → ACalls Try.prog 8 [.agg #[.string x1, (sv v2), (sv v3), (sv v4), (sv v5), (sv v6)], (sv v7), .int .i64 x8] h (fun v' h'' => v' = (.bool r : Value) ∧ h'' = h) := by
  unfold F8
  refine dec_bif (fun c10 => ?_) (fun c10 => ?_)
  · intro hr
    obtain rfl := Option.some.inj hr
    exact pFun_sound good tab_ok (f := 8) (its := [.g, .g, (.c (.bool true) h), .g, .g, (.w .g), (.w .g), (.w (.ln l6.length)), (.w .g), .g, (.b true), (.c (.bool true) h), .g]) (args := [.agg #[.string x1, (sv v2), (sv v3), (sv v4), (sv v5), (sv v6)], (sv v7), .int .i64 x8]) (h := h) (h' := h) (v := .bool true) (hC := (And.intro (F20_spec h _ rfl) (And.intro c10 (And.intro (g_ff l_f) (And.intro (SlE.len hv6) (And.intro (g_ff l_f) (And.intro (g_ff l_f) (And.intro (g_ff l_f) (And.intro (F20_spec h _ rfl) trivial))))))))) (hr := by kernel_rfl)
  · refine bind_opt fun y19 e19 => ?_
    refine dec_bif (fun c20 => ?_) (fun c20 => ?_)
    · intro hr
      obtain rfl := Option.some.inj hr
      exact pFun_sound good tab_ok (f := 8) (its := [.g, .g, (.c (.bool true) h), .g, .g, (.w .g), (.w .g), (.w (.ln l6.length)), (.w .g), .g, (.b false), .g, .g, (.ln l6.length), .g, (.l F8_m1_1 [] .ret (F8_x1_0 h x1 v2 v3 v4 v5 v6 v7 x8 y19))]) (args := [.agg #[.string x1, (sv v2), (sv v3), (sv v4), (sv v5), (sv v6)], (sv v7), .int .i64 x8]) (h := h) (h' := h) (v := .bool false) (hC := (And.intro (F8_l1_0 h x1 l2 v2 hv2 l3 v3 hv3 l4 v4 hv4 l5 v5 hv5 l6 v6 hv6 l7 v7 hv7 x8 0 y19 e19 c20) (And.intro (SlE.len hv6) (And.intro c10 (And.intro (g_ff l_f) (And.intro (SlE.len hv6) (And.intro (g_ff l_f) (And.intro (g_ff l_f) (And.intro (g_ff l_f) (And.intro (F20_spec h _ rfl) trivial)))))))))) (hr := by kernel_rfl)
    · refine bind_opt fun y21 e21 => ?_
      refine bind_opt fun y23 e23 => ?_
      intro hr
      obtain rfl := Option.some.inj hr
      exact pFun_sound good tab_ok (f := 8) (its := [.g, .g, (.c (.bool true) h), .g, .g, (.w .g), (.w .g), (.w (.ln l6.length)), (.w .g), .g, (.b false), .g, .g, (.ln l6.length), .g, (.l F8_m1_1 [] (.exit 0) (F8_x1_1 h x1 v2 v3 v4 v5 v6 v7 x8 y19)), .g, .g, .g, .g, .g, .g, (.c (.int .i64 y21) h), (.c (.int .i64 y23) h), .g, .g]) (args := [.agg #[.string x1, (sv v2), (sv v3), (sv v4), (sv v5), (sv v6)], (sv v7), .int .i64 x8]) (h := h) (h' := h) (v := .bool (y21 == y23)) (hC := (And.intro (F22_spec x1 l2 l3 l4 l5 l6 l7 x8 v2 v3 v4 v5 v6 v7 h hv2 hv3 hv4 hv5 hv6 hv7 _ e23) (And.intro (F21_spec x1 l2 l3 l4 l5 l6 l7 x8 v2 v3 v4 v5 v6 v7 h hv2 hv3 hv4 hv5 hv6 hv7 _ e21) (And.intro (F8_l1_1 h x1 l2 v2 hv2 l3 v3 hv3 l4 v4 hv4 l5 v5 hv5 l6 v6 hv6 l7 v7 hv7 x8 0 y19 e19 c20) (And.intro (SlE.len hv6) (And.intro c10 (And.intro (g_ff l_f) (And.intro (SlE.len hv6) (And.intro (g_ff l_f) (And.intro (g_ff l_f) (And.intro (g_ff l_f) (And.intro (F20_spec h _ rfl) trivial)))))))))))) (hr := by kernel_rfl)
set_option maxRecDepth 100000 in
theorem F8_law (H : ∀ (x1 : ByteArray) (l2 : List Int) (l3 : List (ByteArray × Int × Int × Int × Int)) (l4 : List (ByteArray × Int × Bool)) (l5 : List Int) (l6 : List ((List Int) × (List (Int × Int × (List Int) × Int × Int)) × Int × Int × (List (Int × (List Int))) × (List Int) × Int × Int × Int)) (l7 : List (Int × Int × (List Int) × (List Int) × (List Int))) (x8 : Int), x1.size ≤ maxLen → l2.length ≤ maxLen → (∀ y ∈ l2, W3 y) → l3.length ≤ maxLen → (∀ y ∈ l3, W98 y) → l4.length ≤ maxLen → (∀ y ∈ l4, W100 y) → l5.length ≤ maxLen → (∀ y ∈ l5, W3 y) → l6.length ≤ maxLen → (∀ y ∈ l6, W65 y) → l7.length ≤ maxLen → (∀ y ∈ l7, W69 y) → (Lit.int .i64 x8).wf = true → F8 x1 l2 l3 l4 l5 l6 l7 x8 = some true) : Law Try.prog 8 10 [52, 53, 3] := by
  intro s us hwf hro hT0
  obtain ⟨u0, vs0, rfl, t0, hT1⟩ := wts_cons hT0
  obtain ⟨cs0, rfl, k0⟩ := wtv_aggS 8 (ks := [.string, .slice 3, .slice 98, .slice 100, .slice 3, .slice 65]) (by kernel_rfl) (by kernel_rfl) t0
  obtain ⟨x1, r_x1, rfl, w_x1, k0_0⟩ := sq_string k0
  obtain ⟨v2, r_l2, rfl, q_l2, k0_1⟩ := sq_slice k0_0
  obtain ⟨l2, a_l2, m_l2, w_l2⟩ := q_l2 E3 W3 1 (by kernel_rfl) fun n cs H => E3_wt H
  obtain ⟨v3, r_l3, rfl, q_l3, k0_2⟩ := sq_slice k0_1
  obtain ⟨l3, a_l3, m_l3, w_l3⟩ := q_l3 E98 W98 5 (by kernel_rfl) fun n cs H => E98_wt H
  obtain ⟨v4, r_l4, rfl, q_l4, k0_3⟩ := sq_slice k0_2
  obtain ⟨l4, a_l4, m_l4, w_l4⟩ := q_l4 E100 W100 3 (by kernel_rfl) fun n cs H => E100_wt H
  obtain ⟨v5, r_l5, rfl, q_l5, k0_4⟩ := sq_slice k0_3
  obtain ⟨l5, a_l5, m_l5, w_l5⟩ := q_l5 E3 W3 1 (by kernel_rfl) fun n cs H => E3_wt H
  obtain ⟨v6, r_l6, rfl, q_l6, k0_5⟩ := sq_slice k0_4
  obtain ⟨l6, a_l6, m_l6, w_l6⟩ := q_l6 E65 W65 9 (by kernel_rfl) fun n cs H => E65_wt H
  obtain rfl := sq_nil k0_5
  obtain ⟨u1, vs1, rfl, t1, hT2⟩ := wts_cons hT1
  have k1 := wtv_oneS 4 (ks := [.slice 69]) (by kernel_rfl) (by kernel_rfl) t1
  obtain ⟨v7, r_l7, e_l7, q_l7, k1_0⟩ := sq_slice k1
  obtain ⟨l7, a_l7, m_l7, w_l7⟩ := q_l7 E69 W69 5 (by kernel_rfl) fun n cs H => E69_wt H
  obtain ⟨rfl, rfl⟩ := List.cons.inj e_l7
  have k1_0' := sq_nil k1_0
  obtain ⟨u2, vs2, rfl, t2, hT3⟩ := wts_cons hT2
  have k2 := wtv_oneS 1 (ks := [.int .i64]) (by kernel_rfl) (by kernel_rfl) t2
  obtain ⟨x8, r_x8, e_x8, w_x8, k2_0⟩ := sq_int k2
  obtain ⟨rfl, rfl⟩ := List.cons.inj e_x8
  have k2_0' := sq_nil k2_0
  obtain rfl := wts_nil hT3
  refine (F8_spec x1 l2 l3 l4 l5 l6 l7 x8 v2 v3 v4 v5 v6 v7 s a_l2 a_l3 a_l4 a_l5 a_l6 a_l7 _ (H x1 l2 l3 l4 l5 l6 l7 x8 w_x1 m_l2 w_l2 m_l3 w_l3 m_l4 w_l4 m_l5 w_l5 m_l6 w_l6 m_l7 w_l7 w_x8)).mono ?_
  rintro v h' ⟨rfl, rfl⟩
  rfl
end
end Go.Proofs.Ytdoafmfkbddmlaa.Abs
