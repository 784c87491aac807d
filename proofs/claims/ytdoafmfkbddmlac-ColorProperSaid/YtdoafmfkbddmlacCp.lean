/-
  Contracts, written by program: for each function what its call yields, and that it yields it.
-/
import Derived.Test.YtdoafmfkbddmlacVw
import Derived.Test.YtdoafmfkbddmlacChecked
namespace Go.Proofs.Ytdoafmfkbddmlac.Abs
open Go
set_option linter.unusedVariables false
set_option linter.unusedSimpArgs false

theorem good : Good Try.prog := good_of Try.checked.mixed (by kernel_rfl)
noncomputable section
def tabC : List FEnt := [
  { f := 9, L := [], D := [(3, [(0, 1), (1, 1), (2, 1), (3, 1), (4, 1), (5, 1), (6, 0), (7, 1), (8, 1), (9, 1), (10, 1), (11, 1), (12, 1), (13, 1), (14, 1), (15, 1), (16, 1), (17, 1), (18, 1), (19, 1), (20, 1), (21, 1)])] },
  { f := 26, L := [10], D := [(22, [(0, 1), (1, 1), (2, 1), (3, 1), (4, 1), (5, 1), (6, 1), (7, 1), (8, 1), (9, 0), (10, 1), (11, 1), (12, 1), (13, 1), (14, 1), (15, 1), (16, 1), (17, 1)])] },
  { f := 27, L := [3, 4], D := [(2, [(0, 1), (1, 1), (2, 1), (3, 1), (4, 1), (5, 1), (6, 1), (7, 0), (8, 1)])] },
  { f := 29, L := [8], D := [] },
  { f := 31, L := [3, 4], D := [] },
  { f := 33, L := [7, 13, 16], D := [(19, [(0, 1), (1, 1), (2, 1), (3, 1), (4, 1), (5, 1), (6, 1), (7, 1), (8, 1), (9, 1)]), (20, [(0, 1), (1, 1), (2, 1), (3, 1), (4, 1), (5, 1), (6, 1), (7, 1), (8, 1), (9, 1), (10, 1), (11, 1), (12, 1)]), (35, [(0, 1), (1, 1), (2, 1), (3, 1), (4, 1), (5, 1), (6, 1), (7, 1), (8, 1), (9, 1), (10, 1), (11, 0)])] },
  { f := 38, L := [], D := [] },
  { f := 39, L := [], D := [] },
  { f := 40, L := [], D := [] },
  { f := 41, L := [8, 9], D := [(1, [(0, 1), (1, 1), (2, 1), (3, 1), (5, 1), (8, 1), (9, 1), (4, 3), (6, 1), (7, 3), (10, 0), (11, 0)])] },
  { f := 42, L := [], D := [] },
  { f := 43, L := [], D := [] },
  { f := 44, L := [3], D := [] },
  { f := 45, L := [], D := [] },
  { f := 46, L := [], D := [(17, [(0, 1), (1, 1), (2, 1), (3, 1), (4, 1), (5, 1), (6, 1), (7, 1), (8, 1), (9, 1), (10, 1), (11, 1), (12, 1), (13, 0), (14, 1), (15, 1), (16, 1)])] },
  { f := 47, L := [], D := [] },
  { f := 48, L := [], D := [] },
  { f := 49, L := [], D := [(4, [(0, 1), (1, 1), (2, 1), (3, 1), (4, 1), (5, 1), (6, 1), (7, 1), (8, 1), (9, 1), (10, 1), (11, 1), (12, 1), (13, 1), (14, 0), (15, 1), (16, 1)]), (6, [(0, 1), (1, 1), (2, 1), (3, 1), (4, 1), (5, 1), (6, 1), (7, 1), (8, 1), (9, 1), (10, 1), (11, 1), (12, 1), (13, 1), (14, 1), (15, 0), (16, 1), (17, 0)])] },
  { f := 50, L := [], D := [(10, [(0, 1), (1, 1), (2, 1), (3, 1), (4, 1), (5, 1), (6, 1), (7, 1), (8, 1), (9, 1), (10, 1), (11, 1), (12, 1), (13, 1), (14, 1), (15, 1), (16, 1), (17, 0), (18, 1), (19, 0)])] },
  { f := 51, L := [], D := [(10, [(0, 1), (1, 1), (2, 1), (3, 1), (4, 1), (5, 1), (6, 1), (7, 1), (8, 1), (9, 1), (10, 1), (11, 1), (12, 1), (13, 1), (14, 1), (15, 1), (16, 1), (17, 0), (18, 1), (19, 0)])] },
  { f := 52, L := [], D := [] },
  { f := 53, L := [], D := [(3, [(0, 1), (1, 1), (2, 1), (3, 1), (4, 1), (5, 1), (6, 1), (7, 1), (8, 1), (9, 1), (10, 1), (11, 1), (12, 1), (13, 0), (14, 1), (15, 0)])] },
  { f := 54, L := [], D := [(5, [(0, 1), (1, 1), (2, 1), (3, 1), (4, 1), (5, 1), (6, 1), (7, 1), (8, 1), (9, 1), (10, 1), (11, 1), (12, 1), (13, 1), (14, 0), (15, 1), (16, 1), (17, 1)]), (11, [(0, 1), (1, 1), (2, 1), (3, 1), (4, 1), (5, 1), (6, 1), (7, 1), (8, 1), (9, 1), (10, 1), (11, 1), (12, 1), (13, 1), (14, 1), (15, 0), (16, 1), (17, 0)]), (16, [(0, 1), (1, 1), (2, 1), (3, 1), (4, 1), (5, 1), (6, 1), (7, 1), (8, 1), (9, 1), (10, 0), (11, 1), (12, 1)]), (17, [(0, 1), (1, 1), (2, 1), (3, 1), (4, 1), (5, 1), (6, 1), (7, 1), (8, 1), (9, 1), (10, 1), (11, 1), (12, 1), (13, 1), (14, 1), (15, 0), (16, 1), (17, 0)]), (22, [(0, 1), (1, 1), (2, 1), (3, 1), (4, 1), (5, 1), (6, 1), (7, 1), (8, 1), (9, 1), (10, 0), (11, 1), (12, 1)]), (23, [(0, 1), (1, 1), (2, 1), (3, 1), (4, 1), (5, 1), (6, 1), (7, 1), (8, 1), (9, 1), (10, 1), (11, 1), (12, 1), (13, 1), (14, 1), (15, 0), (16, 1), (17, 0)])] },
  { f := 55, L := [], D := [(1, [(0, 1), (1, 1), (2, 1), (3, 1), (4, 1), (5, 1), (6, 1), (7, 1), (8, 1), (9, 1), (10, 1), (11, 1), (12, 1), (13, 0), (14, 1), (15, 0)]), (3, [(0, 1), (1, 1), (2, 1), (3, 1), (4, 1), (5, 1), (6, 1), (7, 1), (8, 1), (9, 1), (10, 1), (11, 1), (12, 1), (13, 0), (14, 1), (15, 1), (16, 1)]), (5, [(0, 1), (1, 1), (2, 1), (3, 1), (4, 1), (5, 1), (6, 1), (7, 1), (8, 1), (9, 1), (10, 1), (11, 1), (12, 1), (13, 0), (14, 1), (15, 1)]), (8, [(0, 1), (1, 1), (2, 1), (3, 1), (4, 1), (5, 1), (6, 1), (7, 1), (8, 1), (9, 1), (10, 1), (11, 1), (12, 1), (13, 0), (14, 1), (15, 0)])] },
  { f := 56, L := [], D := [(1, [(0, 1), (1, 1), (2, 1), (3, 1), (4, 1), (5, 1), (6, 1), (7, 1), (8, 1), (9, 1), (10, 1), (11, 1), (12, 1), (13, 0), (14, 1), (15, 0)]), (3, [(0, 1), (1, 1), (2, 1), (3, 1), (4, 1), (5, 1), (6, 1), (7, 1), (8, 1), (9, 1), (10, 1), (11, 1), (12, 1), (13, 0), (14, 1), (15, 1)]), (5, [(0, 1), (1, 1), (2, 1), (3, 1), (4, 1), (5, 1), (6, 1), (7, 1), (8, 1), (9, 1), (10, 1), (11, 1), (12, 1), (13, 0), (14, 1), (15, 1), (16, 1)]), (8, [(0, 1), (1, 1), (2, 1), (3, 1), (4, 1), (5, 1), (6, 1), (7, 1), (8, 1), (9, 1), (10, 1), (11, 1), (12, 1), (13, 0), (14, 1), (15, 0)]), (10, [(0, 1), (1, 1), (2, 1), (3, 1), (4, 1), (5, 1), (6, 1), (7, 1), (8, 1), (9, 1), (10, 1), (11, 1), (12, 1), (13, 0), (14, 1), (15, 0)]), (13, [(0, 1), (1, 1), (2, 1), (3, 1), (4, 1), (5, 1), (6, 1), (7, 1), (8, 1), (9, 1), (10, 1), (11, 1), (12, 1), (13, 0), (14, 1), (15, 1)]), (15, [(0, 1), (1, 1), (2, 1), (3, 1), (4, 1), (5, 1), (6, 1), (7, 1), (8, 1), (9, 1), (10, 1), (11, 1), (12, 1), (13, 0), (14, 1), (15, 1), (16, 1)]), (18, [(0, 1), (1, 1), (2, 1), (3, 1), (4, 1), (5, 1), (6, 1), (7, 1), (8, 1), (9, 1), (10, 1), (11, 1), (12, 1), (13, 0), (14, 1), (15, 0)]), (21, [(0, 1), (1, 1), (2, 1), (3, 1), (4, 1), (5, 1), (6, 1), (7, 1), (8, 1), (9, 1), (10, 1), (11, 1), (12, 1), (13, 0), (14, 1), (15, 0)])] },
  { f := 57, L := [], D := [] },
  { f := 58, L := [], D := [] },
  { f := 59, L := [], D := [(3, [(0, 1), (1, 1), (2, 1), (3, 1), (4, 1), (5, 1), (6, 1), (7, 1), (8, 1), (9, 1), (10, 1), (11, 1), (12, 1), (13, 1), (14, 1), (15, 1), (16, 1), (17, 1), (18, 1), (19, 0), (20, 1), (21, 1)]), (5, [(0, 1), (1, 1), (2, 1), (3, 1), (4, 1), (5, 1), (6, 1), (7, 1), (8, 1), (9, 1), (10, 1), (11, 1), (12, 1), (13, 0), (14, 1), (15, 1)]), (6, [(0, 1), (1, 1), (2, 1), (3, 1), (4, 1), (5, 1), (6, 1), (7, 1), (8, 1), (9, 1), (10, 1), (11, 1), (12, 1), (13, 1), (14, 1), (15, 1), (16, 1), (17, 1), (18, 1), (19, 1), (20, 1), (21, 0), (22, 1), (23, 0)])] },
  { f := 60, L := [], D := [] },
  { f := 61, L := [], D := [(1, [(0, 1), (1, 1), (2, 1), (3, 1), (4, 1), (5, 1), (6, 1), (7, 1), (8, 1), (9, 0)]), (2, [(0, 1), (1, 1), (2, 1), (3, 1), (4, 1), (5, 1), (6, 1), (7, 1), (8, 1), (9, 0)]), (3, [(0, 1), (1, 1), (2, 1), (3, 1), (4, 1), (5, 1), (6, 1), (7, 1), (8, 1), (9, 0)])] },
  { f := 62, L := [], D := [] },
  { f := 63, L := [], D := [] },
  { f := 64, L := [], D := [(1, [(0, 1), (1, 1), (2, 1), (3, 1), (4, 1), (5, 1), (6, 1), (7, 1), (8, 1), (9, 0), (10, 1)])] }]

theorem tabC_ok : tabOk Try.prog tabC = true := by kernel_rfl
theorem F9_run : rIs (rCall 2000 Try.prog tabC 40 9 [] AHeap.none) true = true := by kernel_rfl
theorem F9_spec0 (h : AHeap) : ACalls Try.prog 9 [] h (fun v' h'' => v' = (.bool true : Value) ∧ h'' = h) := acalls_run good 2000 40 tabC tabC_ok F9_run rfl h
def F9 : Unit := ()
theorem F9_spec (h : AHeap) (r : Unit) (_ : F9 = r) : ACalls Try.prog 9 [] h (fun v' h'' => v' = (.bool true : Value) ∧ h'' = h) := F9_spec0 h
def tab : List FEnt := [
  { f := 4, L := [], D := [] },
  { f := 12, L := [9, 11], D := [(12, [(0, 1), (1, 1), (2, 1), (3, 1), (4, 1), (5, 1), (6, 1), (7, 1), (8, 1), (9, 1), (10, 1), (11, 1), (12, 1), (13, 0), (14, 1)])] },
  { f := 13, L := [], D := [(11, [(0, 1), (1, 1), (2, 1), (3, 1), (4, 1), (5, 1), (6, 1), (7, 1), (8, 1), (9, 1), (10, 1), (11, 1), (12, 1), (13, 1), (14, 1), (15, 1), (16, 1), (17, 1), (18, 1), (19, 0), (20, 1)])] },
  { f := 16, L := [], D := [] },
  { f := 17, L := [], D := [] },
  { f := 29, L := [8], D := [] },
  { f := 31, L := [3, 4], D := [] },
  { f := 32, L := [3, 4], D := [(3, [(0, 1), (1, 0), (2, 1), (3, 1), (4, 1), (5, 0), (6, 1), (7, 1), (8, 1), (9, 1), (11, 2), (13, 2), (10, 0), (12, 0), (14, 0), (15, 1), (16, 1), (17, 1), (18, 1), (19, 1), (21, 2), (23, 2), (20, 0), (22, 0), (24, 0), (25, 1), (26, 1), (27, 1), (28, 1)])] },
  { f := 34, L := [2], D := [] },
  { f := 35, L := [1], D := [] },
  { f := 36, L := [3], D := [(3, [(0, 1), (1, 1), (2, 0), (3, 1), (4, 1), (5, 1), (6, 1), (9, 1), (8, 2), (7, 0), (10, 0), (11, 1), (12, 1), (13, 1), (14, 1)]), (4, [(0, 1), (1, 1), (4, 1), (7, 1), (6, 2), (2, 0), (3, 1), (5, 0), (8, 0), (9, 1), (10, 1)])] }]

theorem tab_ok : tabOk Try.prog tab = true := by kernel_rfl
def enc24 (x : Int × Int) : List Value := [.int .i64 x.1, .int .i64 x.2]
def E24 (h : AHeap) (cs : List Value) (x : Int × Int) : Prop := cs = enc24 x
theorem E24_mono {h h' : AHeap} (le : h.sub h') (cs : List Value) (x : Int × Int) (H : E24 h cs x) : E24 h' cs x := H
def W24 (x : Int × Int) : Prop := (Lit.int .i64 x.1).wf = true ∧ (Lit.int .i64 x.2).wf = true ∧ True
set_option maxRecDepth 100000 in
theorem E24_wt {h : AHeap} {n : Nat} {cs : List Value} (H : WT Try.prog h n 24 cs) : ∃ x, E24 h cs x ∧ W24 x := by
  have k : SQ Try.prog h [.int .i64, .int .i64] cs := wt_flatS 2 n (by kernel_rfl) H
  obtain ⟨x0, r0, rfl, w0, k0⟩ := sq_int k
  obtain ⟨x1, r1, rfl, w1, k1⟩ := sq_int k0
  obtain rfl := sq_nil k1
  exact ⟨(x0, x1), rfl, ⟨w0, w1, trivial⟩⟩
/-! 29 jacquard/color.limits -/
def F29_L : List Nat := [8]
def F29_D : List (Nat × List (Nat × Nat)) := []
def F29__1 (y10 : Int × Int) : Int := (if 1073741824 < (if (-1073741824) > y10.1 then (-1073741824) else y10.1) then 1073741824 else (if (-1073741824) > y10.1 then (-1073741824) else y10.1))
def F29__2 (y10 : Int × Int) : Int := (if 1048576 < (if 0 > y10.2 then 0 else y10.2) then 1048576 else (if 0 > y10.2 then 0 else y10.2))
def F29__3 (x2 : Int) : Bool := decide ((if 256 < (if 0 > x2 then 0 else x2) then 256 else (if 0 > x2 then 0 else x2)) > 0)
def F29__4 (x2 : Int) (y10 : Int × Int) : Int := (if (if 256 < (if 0 > x2 then 0 else x2) then 256 else (if 0 > x2 then 0 else x2)) < (F29__2 y10) then (if 256 < (if 0 > x2 then 0 else x2) then 256 else (if 0 > x2 then 0 else x2)) else (F29__2 y10))
def F29__5 (x2 : Int) (y10 : Int × Int) : Int := ((F29__1 y10).tmod (if 256 < (if 0 > x2 then 0 else x2) then 256 else (if 0 > x2 then 0 else x2)))
def F29__6 (x2 : Int) (y10 : Int × Int) : Int := (IntKind.i64.wrap ((F29__5 x2 y10) + (if 256 < (if 0 > x2 then 0 else x2) then 256 else (if 0 > x2 then 0 else x2))))
def F29_m1_1 : List Bool := [true, false, true, true, true, true, false, true, true, true, true, true, true, true, true, true, true, true, true, true, true, true, true, true, true, true, true, true, true, true, true, true, true, true, true, true, true, true, true, true, true, true, true, true, true, true, true, true, true, true, true, true, true, true, true, true, true, true, true]
def F29_m1_0 : List Bool := [true, false, true, true, true, true, false, true, true, true, true, true, true, true, true, false, false, false, true, true, true, true, true, true, true, true, true, true, true, true, true, true, true, true, true, true, true, true, true, true, true, true, true, true, true, true, true, true, true, true, true, true, true, true, true, true, true, true, true]
def F29_s1 (l1 : List (Int × Int)) (x2 : Int) (a6 : Int) (l7 : List (Int × Int)) : Option ((Int × (List (Int × Int))) ⊕ (List (Int × Int))) :=
  (bif decide (a6 < (l1.length : Int)) then
   (Option.bind (at? l1 a6) fun y10 =>
   (bif (F29__3 x2) then
    (bif ((if 256 < (if 0 > x2 then 0 else x2) then 256 else (if 0 > x2 then 0 else x2)) == 0) then none else
    (bif decide ((F29__5 x2 y10) < 0) then
     (Option.bind (at? l7 a6) fun y14 =>
     some (.inl ((IntKind.i64.wrap (a6 + 1)), (setI l7 a6 ((F29__6 x2 y10), (F29__4 x2 y10))))))
    else
     (Option.bind (at? l7 a6) fun y16 =>
     some (.inl ((IntKind.i64.wrap (a6 + 1)), (setI l7 a6 ((F29__5 x2 y10), (F29__4 x2 y10))))))))
   else
    (Option.bind (at? l7 a6) fun y18 =>
    some (.inl ((IntKind.i64.wrap (a6 + 1)), (setI l7 a6 ((F29__1 y10), (F29__2 y10))))))))
  else
   some (.inr l7))
def F29_h1 (l1 : List (Int × Int)) (v1 : Hd) (x2 : Int) (h8 : AHeap) (u7 : Hd) (a6 : Int) (l7 : List (Int × Int)) : AS := ⟨[junk, .int .i64 (if 256 < (if 0 > x2 then 0 else x2) then 256 else (if 0 > x2 then 0 else x2)), junk, junk, junk, junk, (sv u7), junk, junk, junk, junk, junk, junk, junk, junk, (sv v1), .int .i64 (l1.length : Int), .int .i64 a6, junk, junk, junk, junk, junk, junk, junk, junk, junk, junk, junk, junk, junk, junk, junk, junk, junk, junk, junk, junk, junk, junk, junk, junk, junk, junk, junk, junk, junk, junk, junk, junk, junk, junk, junk, junk, junk, junk, junk, junk, junk], [], h8⟩
theorem F29_d1 : drawsOk F29_D (codeOf Try.prog 29 [1, 1, 1, 0, 1, 0, 0]) = true := by kernel_rfl
def F29_x1_0 (h : AHeap) (x2 : Int) (hx : AHeap) (w0 : Hd) (r : (List (Int × Int))) : AS := ⟨[junk, .int .i64 (if 256 < (if 0 > x2 then 0 else x2) then 256 else (if 0 > x2 then 0 else x2)), junk, junk, junk, junk, (sv w0), junk, junk, junk, junk, junk, junk, junk, junk, junk, junk, junk, junk, junk, junk, junk, junk, junk, junk, junk, junk, junk, junk, junk, junk, junk, junk, junk, junk, junk, junk, junk, junk, junk, junk, junk, junk, junk, junk, junk, junk, junk, junk, junk, junk, junk, junk, junk, junk, junk, junk, junk, junk], [], hx⟩
def F29_i1 (h : AHeap) (l1 : List (Int × Int)) (v1 : Hd) (x2 : Int) (s : Int × (List (Int × Int))) (S : AS) : Prop := ∃ (h8 : AHeap) (u7 : Hd), Heapy h h8 [⟨u7, 24, 2, List.flatMap enc24 s.2⟩] ∧ S = (F29_h1 l1 v1 x2 h8 u7 s.1 s.2)
def F29_x1 (h : AHeap) (x2 : Int) (r : (List (Int × Int))) (e : Exit) (S : AS) : Prop := e = (.exit 0) ∧ ∃ (hx : AHeap) (w0 : Hd), Heapy h hx [⟨w0, 24, 2, List.flatMap enc24 r⟩] ∧ S = (F29_x1_0 h x2 hx w0 r)
set_option maxRecDepth 100000 in
theorem F29_r1 (h : AHeap) (l1 : List (Int × Int)) (v1 : Hd) (hv1 : SlE E24 2 h (sv v1) l1) (x2 : Int) (a6 : Int) (l7 : List (Int × Int)) (S : AS) (hI : (F29_i1 h l1 v1 x2) (a6, l7) S) (o : (Int × (List (Int × Int))) ⊕ (List (Int × Int))) : F29_s1 l1 x2 a6 l7 = some o → Rd Try.prog (codeOf Try.prog 29 [1, 1, 1, 0, 1, 0, 0]) (F29_i1 h l1 v1 x2) (F29_x1 h x2) S o := by
  obtain ⟨h8, u7, hp8, rfl⟩ := hI
  unfold F29_s1
  refine dec_bif (fun c9 => ?_) (fun c9 => ?_)
  · refine bind_opt fun y10 e10 => ?_
    obtain ⟨id10, off10, g10, cs10, ix10, at10, rfl⟩ := SlE.at hv1 e10
    refine dec_bif (fun c11 => ?_) (fun c11 => ?_)
    · refine guard_ok fun g12 => ?_
      refine dec_bif (fun c13 => ?_) (fun c13 => ?_)
      · refine bind_opt fun y14 e14 => ?_
        obtain ⟨id14, off14, g14, cs14, ix14, at14, rfl⟩ := SlE.at (Heapy.sle (v := u7) (xs := l7) (enc := enc24) hp8 0 rfl (fun _ => rfl) (by decide)) e14
        obtain ⟨h15, m15, hp15⟩ := Heapy.store (P := Try.prog) hp8 0 (v := u7) (xs := l7) (enc := enc24) rfl (fun _ => rfl) e14 (y' := ((F29__6 x2 y10), (F29__4 x2 y10))) ix14 (t := 24) (x := .agg #[.int .i64 (F29__6 x2 y10), .int .i64 (F29__4 x2 y10)]) 0 (vs := [.int .i64 (F29__6 x2 y10), .int .i64 (F29__4 x2 y10)]) rfl (by kernel_rfl) rfl rfl rfl rfl
        intro hr
        obtain rfl := Option.some.inj hr
        exact ⟨(F29_h1 l1 v1 x2 h15 u7 (IntKind.i64.wrap (a6 + 1)) (setI l7 a6 ((F29__6 x2 y10), (F29__4 x2 y10)))), ⟨h15, u7, (Heapy.pick hp15 [0] (by decide)), rfl⟩, pEnd_sound good (L := F29_L) (D := F29_D) (its := [.g, (.b true), .g, (.ix id10 off10 g10), (.ld (.agg #[.int .i64 y10.1, .int .i64 y10.2])), .g, .g, .g, .g, .g, .g, .g, .g, .g, .g, .g, .g, .g, .g, .g, .g, .g, (.b true), .g, .g, .g, .g, .g, .g, .g, .g, .g, .d, .g, .g, .g, .g, .g, (.b true), .g, .g, .g, .g, .g, .g, .g, .g, .g, (.ix id14 off14 g14), (.mm undef h15), .g, .g]) (ds := F29_m1_0) (ks := [8]) (e := .normal) (s2 := (F29_h1 l1 v1 x2 h15 u7 (IntKind.i64.wrap (a6 + 1)) (setI l7 a6 ((F29__6 x2 y10), (F29__4 x2 y10))))) (hC := (And.intro m15 (And.intro ix14 (And.intro c13 (And.intro (nz g12) (And.intro c11 (And.intro (At.agg (P := Try.prog) (t := 24) (v := .agg #[.int .i64 y10.1, .int .i64 y10.2]) (m := 2) (At.mono (Heapy.sub hp8) at10) (by kernel_rfl) (by kernel_rfl) 0 (by kernel_rfl) rfl) (And.intro ix10 (And.intro c9 trivial))))))))) (hd := F29_d1) (h := by kernel_rfl)⟩
      · refine bind_opt fun y16 e16 => ?_
        obtain ⟨id16, off16, g16, cs16, ix16, at16, rfl⟩ := SlE.at (Heapy.sle (v := u7) (xs := l7) (enc := enc24) hp8 0 rfl (fun _ => rfl) (by decide)) e16
        obtain ⟨h17, m17, hp17⟩ := Heapy.store (P := Try.prog) hp8 0 (v := u7) (xs := l7) (enc := enc24) rfl (fun _ => rfl) e16 (y' := ((F29__5 x2 y10), (F29__4 x2 y10))) ix16 (t := 24) (x := .agg #[.int .i64 (F29__5 x2 y10), .int .i64 (F29__4 x2 y10)]) 0 (vs := [.int .i64 (F29__5 x2 y10), .int .i64 (F29__4 x2 y10)]) rfl (by kernel_rfl) rfl rfl rfl rfl
        intro hr
        obtain rfl := Option.some.inj hr
        exact ⟨(F29_h1 l1 v1 x2 h17 u7 (IntKind.i64.wrap (a6 + 1)) (setI l7 a6 ((F29__5 x2 y10), (F29__4 x2 y10)))), ⟨h17, u7, (Heapy.pick hp17 [0] (by decide)), rfl⟩, pEnd_sound good (L := F29_L) (D := F29_D) (its := [.g, (.b true), .g, (.ix id10 off10 g10), (.ld (.agg #[.int .i64 y10.1, .int .i64 y10.2])), .g, .g, .g, .g, .g, .g, .g, .g, .g, .g, .g, .g, .g, .g, .g, .g, .g, (.b true), .g, .g, .g, .g, .g, .g, .g, .g, .g, .d, .g, .g, .g, .g, .g, (.b false), .g, .g, .g, (.ix id16 off16 g16), (.mm undef h17), .g, .g]) (ds := F29_m1_0) (ks := [8]) (e := .normal) (s2 := (F29_h1 l1 v1 x2 h17 u7 (IntKind.i64.wrap (a6 + 1)) (setI l7 a6 ((F29__5 x2 y10), (F29__4 x2 y10))))) (hC := (And.intro m17 (And.intro ix16 (And.intro c13 (And.intro (nz g12) (And.intro c11 (And.intro (At.agg (P := Try.prog) (t := 24) (v := .agg #[.int .i64 y10.1, .int .i64 y10.2]) (m := 2) (At.mono (Heapy.sub hp8) at10) (by kernel_rfl) (by kernel_rfl) 0 (by kernel_rfl) rfl) (And.intro ix10 (And.intro c9 trivial))))))))) (hd := F29_d1) (h := by kernel_rfl)⟩
    · refine bind_opt fun y18 e18 => ?_
      obtain ⟨id18, off18, g18, cs18, ix18, at18, rfl⟩ := SlE.at (Heapy.sle (v := u7) (xs := l7) (enc := enc24) hp8 0 rfl (fun _ => rfl) (by decide)) e18
      obtain ⟨h19, m19, hp19⟩ := Heapy.store (P := Try.prog) hp8 0 (v := u7) (xs := l7) (enc := enc24) rfl (fun _ => rfl) e18 (y' := ((F29__1 y10), (F29__2 y10))) ix18 (t := 24) (x := .agg #[.int .i64 (F29__1 y10), .int .i64 (F29__2 y10)]) 0 (vs := [.int .i64 (F29__1 y10), .int .i64 (F29__2 y10)]) rfl (by kernel_rfl) rfl rfl rfl rfl
      intro hr
      obtain rfl := Option.some.inj hr
      exact ⟨(F29_h1 l1 v1 x2 h19 u7 (IntKind.i64.wrap (a6 + 1)) (setI l7 a6 ((F29__1 y10), (F29__2 y10)))), ⟨h19, u7, (Heapy.pick hp19 [0] (by decide)), rfl⟩, pEnd_sound good (L := F29_L) (D := F29_D) (its := [.g, (.b true), .g, (.ix id10 off10 g10), (.ld (.agg #[.int .i64 y10.1, .int .i64 y10.2])), .g, .g, .g, .g, .g, .g, .g, .g, .g, .g, .g, .g, .g, .g, .g, .g, .g, (.b false), .g, .g, .g, (.ix id18 off18 g18), (.mm undef h19), .g, .g]) (ds := F29_m1_0) (ks := [8]) (e := .normal) (s2 := (F29_h1 l1 v1 x2 h19 u7 (IntKind.i64.wrap (a6 + 1)) (setI l7 a6 ((F29__1 y10), (F29__2 y10))))) (hC := (And.intro m19 (And.intro ix18 (And.intro c11 (And.intro (At.agg (P := Try.prog) (t := 24) (v := .agg #[.int .i64 y10.1, .int .i64 y10.2]) (m := 2) (At.mono (Heapy.sub hp8) at10) (by kernel_rfl) (by kernel_rfl) 0 (by kernel_rfl) rfl) (And.intro ix10 (And.intro c9 trivial))))))) (hd := F29_d1) (h := by kernel_rfl)⟩
  · intro hr
    obtain rfl := Option.some.inj hr
    refine ⟨(.exit 0), (F29_x1_0 h x2 h8 u7 (l7 : (List (Int × Int)))), (by intro hh; cases hh), ?_, pEnd_sound good (L := F29_L) (D := F29_D) (its := [.g, (.b false)]) (ds := F29_m1_1) (ks := []) (e := (.exit 0)) (s2 := (F29_x1_0 h x2 h8 u7 (l7 : (List (Int × Int))))) (hC := (And.intro c9 trivial)) (hd := F29_d1) (h := by kernel_rfl)⟩
    exact ⟨rfl, h8, u7, (Heapy.pick hp8 [0] (by decide)), rfl⟩
theorem F29_l1 (h : AHeap) (l1 : List (Int × Int)) (v1 : Hd) (hv1 : SlE E24 2 h (sv v1) l1) (x2 : Int) (x : Int × (List (Int × Int))) (r : (List (Int × Int))) (hl : loopO (fun (s : Int × (List (Int × Int))) => F29_s1 l1 x2 s.1 s.2) x = some r) (S : AS) (hI : (F29_i1 h l1 v1 x2) x S) : ∃ e S', (F29_x1 h x2) r e S' ∧ AWp Try.prog (.loop (codeOf Try.prog 29 [1, 1, 1, 0, 1, 0, 0])) (Ends1 e S') S :=
  loop_rel (fun x S hI => F29_r1 h l1 v1 hv1 x2 x.1 x.2 S hI) hl hI
def F29 (l1 : List (Int × Int)) (x2 : Int) : Option ((List (Int × Int)) × Int) :=
  (bif (!(okLen (l1.length : Int) (l1.length : Int) 16)) then none else
  (Option.bind (loopO (fun (s : Int × (List (Int × Int))) => F29_s1 l1 x2 s.1 s.2) (0, (List.replicate (l1.length : Int).toNat (0, 0)))) fun y20 =>
  some (y20, (if 256 < (if 0 > x2 then 0 else x2) then 256 else (if 0 > x2 then 0 else x2)))))
set_option maxRecDepth 100000 in
theorem F29_spec (l1 : List (Int × Int)) (x2 : Int) (v1 : Hd) (h : AHeap) (hw : h.wf) (hv1 : SlE E24 2 h (sv v1) l1) (r : (List (Int × Int)) × Int) : F29 l1 x2 = some r → ∃ (ur0 : Hd) (h' : AHeap), Heapy h h' [⟨ur0, 24, 2, List.flatMap enc24 r.1⟩] ∧ ACalls Try.prog 29 [(sv v1), .int .i64 x2] h (fun v' h'' => v' = (.tuple #[(sv ur0), .int .i64 r.2] : Value) ∧ h'' = h') := by
  unfold F29
  refine guard_ok fun g3 => ?_
  obtain ⟨v4, h4, m4, hp4, _⟩ := Heapy.make (Heapy.refl hw) (show mkInfo Try.prog 22 = some (24, 2, 16, [.int .i64 0, .int .i64 0]) by kernel_rfl) (a := (l1.length : Int)) (b := (l1.length : Int)) (by simpa using g3) (enc := enc24) (x := (0, 0)) rfl rfl
  refine bind_opt fun y20 e20 => ?_
  obtain ⟨ee20, SS20, hX20, hA20⟩ := F29_l1 h l1 v1 hv1 x2 (0, (List.replicate (l1.length : Int).toNat (0, 0))) y20 e20 (F29_h1 l1 v1 x2 h4 v4 0 (List.replicate (l1.length : Int).toNat (0, 0))) ⟨h4, v4, (Heapy.pick hp4 [0] (by decide)), rfl⟩
  obtain ⟨rfl, h21, w0_21, hp21, rfl⟩ := hX20
  intro hr
  obtain rfl := Option.some.inj hr
  exact ⟨w0_21, h21, Heapy.pick hp21 [0] (by decide), pFun_sound good tab_ok (f := 29) (its := [.g, .g, .g, .g, .g, .g, .g, (.ln l1.length), (.mm (sv v4) h4), .g, .g, (.ln l1.length), .g, (.l F29_m1_0 [] (.exit 0) (F29_x1_0 h x2 h21 w0_21 y20)), .g, .g, .g, .g]) (args := [(sv v1), .int .i64 x2]) (h := h) (h' := h21) (v := .tuple #[(sv w0_21), .int .i64 (if 256 < (if 0 > x2 then 0 else x2) then 256 else (if 0 > x2 then 0 else x2))]) (hC := (And.intro hA20 (And.intro (SlE.len hv1) (And.intro m4 (And.intro (SlE.len hv1) trivial))))) (hr := by kernel_rfl)⟩
/-! 31 jacquard/color.overlap -/
def F31__1 (x1 : Int) (x3 : Int) (x4 : Int) (x5 : Int) : Bool := decide ((IntKind.i64.wrap (x5 - ((IntKind.i64.wrap ((IntKind.i64.wrap (x3 - x1)) + x5)).tmod x5))) < x4)
def F31 (x1 : Int) (x2 : Int) (x3 : Int) (x4 : Int) (x5 : Int) : Bool :=
  (bif (x2 == 0) then
   false
  else
   (bif (x4 == 0) then
    false
   else
    (bif (x5 == 0) then
     (bif decide (x1 < (IntKind.i64.wrap (x3 + x4))) then
      (decide (x3 < (IntKind.i64.wrap (x1 + x2))))
     else
      false)
    else
     (bif decide (((IntKind.i64.wrap ((IntKind.i64.wrap (x3 - x1)) + x5)).tmod x5) < x2) then
      true
     else
      (F31__1 x1 x3 x4 x5)))))
set_option maxRecDepth 100000 in
theorem F31_spec (x1 : Int) (x2 : Int) (x3 : Int) (x4 : Int) (x5 : Int) (h : AHeap)  (r : Bool) : F31 x1 x2 x3 x4 x5 = r → ACalls Try.prog 31 [.agg #[.int .i64 x1, .int .i64 x2], .agg #[.int .i64 x3, .int .i64 x4], .int .i64 x5] h (fun v' h'' => v' = (.bool r : Value) ∧ h'' = h) := by
  unfold F31
  refine dec_bif (fun c6 => ?_) (fun c6 => ?_)
  · intro hr
    subst hr
    exact pFun_sound good tab_ok (f := 31) (its := [.g, .g, .g, .g, .g, .g, .g, .n, .n, .n, (.p true), (.b true), .g]) (args := [.agg #[.int .i64 x1, .int .i64 x2], .agg #[.int .i64 x3, .int .i64 x4], .int .i64 x5]) (h := h) (h' := h) (v := .bool false) (hC := (And.intro l_t (And.intro c6 (And.intro (g_tf c6) (And.intro (g_tf c6) (And.intro (g_tf c6) trivial)))))) (hr := by kernel_rfl)
  · refine dec_bif (fun c7 => ?_) (fun c7 => ?_)
    · intro hr
      subst hr
      exact pFun_sound good tab_ok (f := 31) (its := [.g, .g, .g, .g, .g, .g, .g, (.w .g), (.w .g), (.w .g), (.p false), (.b true), .g]) (args := [.agg #[.int .i64 x1, .int .i64 x2], .agg #[.int .i64 x3, .int .i64 x4], .int .i64 x5]) (h := h) (h' := h) (v := .bool false) (hC := (And.intro c7 (And.intro c6 (And.intro (g_ff c6) (And.intro (g_ff c6) (And.intro (g_ff c6) trivial)))))) (hr := by kernel_rfl)
    · refine dec_bif (fun c8 => ?_) (fun c8 => ?_)
      · refine dec_bif (fun c9 => ?_) (fun c9 => ?_)
        · intro hr
          subst hr
          exact pFun_sound good tab_ok (f := 31) (its := [.g, .g, .g, .g, .g, .g, .g, (.w .g), (.w .g), (.w .g), (.p false), (.b false), .g, .g, (.b true), .g, .g, .g, .g, .g, .g, .g, .g, .g, (.w .g), (.w .g), (.w .g), (.w .g), (.w .g), (.w .g), (.w .g), (.w .g), (.p true), .g]) (args := [.agg #[.int .i64 x1, .int .i64 x2], .agg #[.int .i64 x3, .int .i64 x4], .int .i64 x5]) (h := h) (h' := h) (v := .bool (decide (x3 < (IntKind.i64.wrap (x1 + x2))))) (hC := (And.intro c9 (And.intro (g_tt c9) (And.intro (g_tt c9) (And.intro (g_tt c9) (And.intro (g_tt c9) (And.intro (g_tt c9) (And.intro (g_tt c9) (And.intro (g_tt c9) (And.intro (g_tt c9) (And.intro c8 (And.intro c7 (And.intro c6 (And.intro (g_ff c6) (And.intro (g_ff c6) (And.intro (g_ff c6) trivial)))))))))))))))) (hr := by kernel_rfl)
        · intro hr
          subst hr
          exact pFun_sound good tab_ok (f := 31) (its := [.g, .g, .g, .g, .g, .g, .g, (.w .g), (.w .g), (.w .g), (.p false), (.b false), .g, .g, (.b true), .g, .g, .g, .g, .g, .g, .g, .g, .g, .n, .n, .n, .n, .n, .n, .n, .n, (.p false), .g]) (args := [.agg #[.int .i64 x1, .int .i64 x2], .agg #[.int .i64 x3, .int .i64 x4], .int .i64 x5]) (h := h) (h' := h) (v := .bool false) (hC := (And.intro c9 (And.intro (g_ft c9) (And.intro (g_ft c9) (And.intro (g_ft c9) (And.intro (g_ft c9) (And.intro (g_ft c9) (And.intro (g_ft c9) (And.intro (g_ft c9) (And.intro (g_ft c9) (And.intro c8 (And.intro c7 (And.intro c6 (And.intro (g_ff c6) (And.intro (g_ff c6) (And.intro (g_ff c6) trivial)))))))))))))))) (hr := by kernel_rfl)
      · refine dec_bif (fun c10 => ?_) (fun c10 => ?_)
        · intro hr
          subst hr
          exact pFun_sound good tab_ok (f := 31) (its := [.g, .g, .g, .g, .g, .g, .g, (.w .g), (.w .g), (.w .g), (.p false), (.b false), .g, .g, (.b false), .g, .g, .g, .g, .g, .g, .g, .g, .d, .g, .g, .g, .g, .g, .g, .n, .n, .n, .n, .n, .n, (.p true), .g]) (args := [.agg #[.int .i64 x1, .int .i64 x2], .agg #[.int .i64 x3, .int .i64 x4], .int .i64 x5]) (h := h) (h' := h) (v := .bool true) (hC := (And.intro c10 (And.intro (g_tf c10) (And.intro (g_tf c10) (And.intro (g_tf c10) (And.intro (g_tf c10) (And.intro (g_tf c10) (And.intro (g_tf c10) (And.intro (nz c8) (And.intro c8 (And.intro c7 (And.intro c6 (And.intro (g_ff c6) (And.intro (g_ff c6) (And.intro (g_ff c6) trivial))))))))))))))) (hr := by kernel_rfl)
        · intro hr
          subst hr
          exact pFun_sound good tab_ok (f := 31) (its := [.g, .g, .g, .g, .g, .g, .g, (.w .g), (.w .g), (.w .g), (.p false), (.b false), .g, .g, (.b false), .g, .g, .g, .g, .g, .g, .g, .g, .d, .g, .g, .g, .g, .g, .g, (.w .g), (.w .g), (.w .g), (.w .g), (.w .g), (.w .g), (.p false), .g]) (args := [.agg #[.int .i64 x1, .int .i64 x2], .agg #[.int .i64 x3, .int .i64 x4], .int .i64 x5]) (h := h) (h' := h) (v := .bool (F31__1 x1 x3 x4 x5)) (hC := (And.intro c10 (And.intro (g_ff c10) (And.intro (g_ff c10) (And.intro (g_ff c10) (And.intro (g_ff c10) (And.intro (g_ff c10) (And.intro (g_ff c10) (And.intro (nz c8) (And.intro c8 (And.intro c7 (And.intro c6 (And.intro (g_ff c6) (And.intro (g_ff c6) (And.intro (g_ff c6) trivial))))))))))))))) (hr := by kernel_rfl)
def enc3 (x : Int) : List Value := [.int .i64 x]
def E3 (h : AHeap) (cs : List Value) (x : Int) : Prop := cs = enc3 x
theorem E3_mono {h h' : AHeap} (le : h.sub h') (cs : List Value) (x : Int) (H : E3 h cs x) : E3 h' cs x := H
def W3 (x : Int) : Prop := (Lit.int .i64 x).wf = true ∧ True
set_option maxRecDepth 100000 in
theorem E3_wt {h : AHeap} {n : Nat} {cs : List Value} (H : WT Try.prog h n 3 cs) : ∃ x, E3 h cs x ∧ W3 x := by
  have k : SQ Try.prog h [.int .i64] cs := wt_flatS 1 n (by kernel_rfl) H
  obtain ⟨x0, r0, rfl, w0, k0⟩ := sq_int k
  obtain rfl := sq_nil k0
  exact ⟨x0, rfl, ⟨w0, trivial⟩⟩
/-! 12 jacquard/color.Proper -/
def F12_L : List Nat := [9, 11]
def F12_D : List (Nat × List (Nat × Nat)) := [(12, [(0, 1), (1, 1), (2, 1), (3, 1), (4, 1), (5, 1), (6, 1), (7, 1), (8, 1), (9, 1), (10, 1), (11, 1), (12, 1), (13, 0), (14, 1)])]
def F12_m1_2 : List Bool := [true, false, false, true, true, true, true, false, true, true, true, true, true, true, true, true, true, true, true, true, true, true, true, false, false, false, true, true, true, true, true, true, true, true, true, true, true, true, true, true, true, true, true, true, true, true, true, true, true, true, true, true, true, true, true, true, true, true, true, true, true]
def F12_m1_1 : List Bool := [true, false, false, true, true, true, true, false, false, false, true, true, true, true, true, true, true, true, true, true, true, true, true, false, false, false, true, true, true, true, true, true, true, true, true, true, true, false, false, false, true, true, true, true, true, true, true, true, true, true, true, true, true, true, true, true, true, true, true, true, true]
def F12_m1_0 : List Bool := [true, true, true, true, true, true, false, true, true, true, true, true, true, true, true, true, true, true, true, true, true, true, true, true, true, true, true, true, true, true, true, true, true, true, true, true, true, true, true, true, true, true, true, true, true, true, true, true, true, true, true, true, true, true, true, true, true, true, true, true, true]
def F12_s1 (l3 : List Int) (y5 : (List (Int × Int)) × Int) (a8 : Int) (y10 : Int × Int) (y11 : Int) (a14 : Int) : Option (Int ⊕ Nat) :=
  (bif decide (a14 < ((subL y5.1 (0 : Int) a8).length : Int)) then
   (Option.bind (at? (subL y5.1 (0 : Int) a8) a14) fun y16 =>
   (Option.bind (at? l3 a14) fun y17 =>
   (bif (y11 == y17) then
    (bif (F31 y10.1 y10.2 y16.1 y16.2 y5.2) then
     some (.inr 0)
    else
     some (.inl (IntKind.i64.wrap (a14 + 1))))
   else
    some (.inl (IntKind.i64.wrap (a14 + 1))))))
  else
   some (.inr 1))
def F12_h1 (v3 : Hd) (y5 : (List (Int × Int)) × Int) (u6_0 : Hd) (h6 : AHeap) (a8 : Int) (y10 : Int × Int)  (a14 : Int) : AS := ⟨[junk, .int .i64 y5.2, (sv v3), junk, junk, junk, junk, (sv u6_0), .int .i64 a8, .pointer (some ⟨9, 0, none⟩), junk, junk, junk, junk, junk, junk, junk, junk, junk, junk, junk, junk, junk, (sv u6_0), .int .i64 (y5.1.length : Int), .int .i64 a8, junk, junk, junk, junk, junk, junk, junk, junk, junk, junk, junk, (sv (Hd.sub u6_0 ((0 : Int)).toNat (a8).toNat 2)), .int .i64 ((subL y5.1 (0 : Int) a8).length : Int), .int .i64 a14, junk, junk, junk, junk, junk, junk, junk, junk, junk, junk, junk, junk, junk, junk, junk, junk, junk, junk, junk, junk, junk], [(9, [.int .i64 y10.1, .int .i64 y10.2])], h6⟩
theorem F12_d1 : drawsOk F12_D (codeOf Try.prog 12 [1, 1, 1, 0, 1, 0, 0, 1, 1, 0, 0, 1, 1, 1, 0, 0]) = true := by kernel_rfl
def F12_x1_0 (v3 : Hd) (y5 : (List (Int × Int)) × Int) (u6_0 : Hd) (h6 : AHeap) (a8 : Int)  (r : Nat) : AS := ⟨[junk, junk, junk, junk, junk, junk, .bool false, junk, junk, junk, junk, junk, junk, junk, junk, junk, junk, junk, junk, junk, junk, junk, junk, junk, junk, junk, junk, junk, junk, junk, junk, junk, junk, junk, junk, junk, junk, junk, junk, junk, junk, junk, junk, junk, junk, junk, junk, junk, junk, junk, junk, junk, junk, junk, junk, junk, junk, junk, junk, junk, junk], [], h6⟩
def F12_x1_1 (v3 : Hd) (y5 : (List (Int × Int)) × Int) (u6_0 : Hd) (h6 : AHeap) (a8 : Int)  (r : Nat) : AS := ⟨[junk, .int .i64 y5.2, (sv v3), junk, junk, junk, junk, (sv u6_0), junk, junk, junk, junk, junk, junk, junk, junk, junk, junk, junk, junk, junk, junk, junk, (sv u6_0), .int .i64 (y5.1.length : Int), .int .i64 a8, junk, junk, junk, junk, junk, junk, junk, junk, junk, junk, junk, junk, junk, junk, junk, junk, junk, junk, junk, junk, junk, junk, junk, junk, junk, junk, junk, junk, junk, junk, junk, junk, junk, junk, junk], [], h6⟩
def F12_x1 (v3 : Hd) (y5 : (List (Int × Int)) × Int) (u6_0 : Hd) (h6 : AHeap) (a8 : Int) (r : Nat) : Exit × AS := (bif Nat.beq r 0 then (.ret, (F12_x1_0 v3 y5 u6_0 h6 a8 r)) else ((.exit 2), (F12_x1_1 v3 y5 u6_0 h6 a8 r)))
set_option maxRecDepth 100000 in
theorem F12_r1 (h : AHeap) (l3 : List Int) (v3 : Hd) (hv3 : SlE E3 1 h (sv v3) l3) (y5 : (List (Int × Int)) × Int) (u6_0 : Hd) (h6 : AHeap) (hp6 : Heapy h h6 [⟨u6_0, 24, 2, List.flatMap enc24 y5.1⟩]) (a8 : Int) (y10 : Int × Int) (y11 : Int) (id11 : Nat) (off11 : Nat) (g11 : Nat) (ix11 : ixv 1 (sv v3) a8 = some (id11, off11, g11)) (at11 : At h id11 off11 g11 (enc3 y11)) (g13 : (!(subOk (0 : Int) a8 y5.1.length)) = false) (a14 : Int) (o : Int ⊕ Nat) : F12_s1 l3 y5 a8 y10 y11 a14 = some o → RdF Try.prog (codeOf Try.prog 12 [1, 1, 1, 0, 1, 0, 0, 1, 1, 0, 0, 1, 1, 1, 0, 0]) (fun (s : Int) => (F12_h1 v3 y5 u6_0 h6 a8 y10 s)) (F12_x1 v3 y5 u6_0 h6 a8) (F12_h1 v3 y5 u6_0 h6 a8 y10 a14) o := by
  unfold F12_s1
  refine dec_bif (fun c15 => ?_) (fun c15 => ?_)
  · refine bind_opt fun y16 e16 => ?_
    obtain ⟨id16, off16, g16, cs16, ix16, at16, rfl⟩ := SlE.at (SlE.sub (Heapy.sle (v := u6_0) (xs := y5.1) (enc := enc24) hp6 0 rfl (fun _ => rfl) (by decide)) (nn g13)) e16
    refine bind_opt fun y17 e17 => ?_
    obtain ⟨id17, off17, g17, cs17, ix17, at17, rfl⟩ := SlE.at hv3 e17
    refine dec_bif (fun c18 => ?_) (fun c18 => ?_)
    · refine dec_bif (fun c20 => ?_) (fun c20 => ?_)
      · intro hr
        obtain rfl := Option.some.inj hr
        show AWp Try.prog _ (Ends1 ((F12_x1 v3 y5 u6_0 h6 a8) (0 : Nat)).1 ((F12_x1 v3 y5 u6_0 h6 a8) (0 : Nat)).2) _
        exact pEnd_sound good (L := F12_L) (D := F12_D) (its := [.g, (.b true), .g, (.ix id16 off16 g16), (.ld (.agg #[.int .i64 y16.1, .int .i64 y16.2])), .g, .g, .g, .g, .g, (.ix id11 off11 g11), (.ld (.int .i64 y11)), .g, .g, (.ix id17 off17 g17), (.ld (.int .i64 y17)), .g, .g, (.w .g), (.w .g), (.w .g), (.w (.c (.bool (F31 y10.1 y10.2 y16.1 y16.2 y5.2)) h6)), (.p true), (.b true), .g]) (ds := F12_m1_0) (ks := [9, 11]) (e := ((F12_x1 v3 y5 u6_0 h6 a8) (0 : Nat)).1) (s2 := ((F12_x1 v3 y5 u6_0 h6 a8) (0 : Nat)).2) (hC := (And.intro c20 (And.intro c18 (And.intro (F31_spec y10.1 y10.2 y16.1 y16.2 y5.2 h6 _ rfl) (And.intro (g_tt c18) (And.intro (g_tt c18) (And.intro (g_tt c18) (And.intro (g_tt c18) (And.intro (At.one (P := Try.prog) (t := 3) (v := .int .i64 y17) (At.mono (Heapy.sub hp6) at17) (by kernel_rfl) 0 rfl rfl) (And.intro ix17 (And.intro (At.one (P := Try.prog) (t := 3) (v := .int .i64 y11) (At.mono (Heapy.sub hp6) at11) (by kernel_rfl) 0 rfl rfl) (And.intro ix11 (And.intro (At.agg (P := Try.prog) (t := 24) (v := .agg #[.int .i64 y16.1, .int .i64 y16.2]) (m := 2) at16 (by kernel_rfl) (by kernel_rfl) 0 (by kernel_rfl) rfl) (And.intro ix16 (And.intro c15 trivial))))))))))))))) (hd := F12_d1) (h := by kernel_rfl)
      · intro hr
        obtain rfl := Option.some.inj hr
        show AWp Try.prog _ (Ends1 .normal (F12_h1 v3 y5 u6_0 h6 a8 y10 (IntKind.i64.wrap (a14 + 1)))) _
        exact pEnd_sound good (L := F12_L) (D := F12_D) (its := [.g, (.b true), .g, (.ix id16 off16 g16), (.ld (.agg #[.int .i64 y16.1, .int .i64 y16.2])), .g, .g, .g, .g, .g, (.ix id11 off11 g11), (.ld (.int .i64 y11)), .g, .g, (.ix id17 off17 g17), (.ld (.int .i64 y17)), .g, .g, (.w .g), (.w .g), (.w .g), (.w (.c (.bool (F31 y10.1 y10.2 y16.1 y16.2 y5.2)) h6)), (.p true), (.b false), .g, .g]) (ds := F12_m1_1) (ks := [11]) (e := .normal) (s2 := (F12_h1 v3 y5 u6_0 h6 a8 y10 (IntKind.i64.wrap (a14 + 1)))) (hC := (And.intro c20 (And.intro c18 (And.intro (F31_spec y10.1 y10.2 y16.1 y16.2 y5.2 h6 _ rfl) (And.intro (g_tt c18) (And.intro (g_tt c18) (And.intro (g_tt c18) (And.intro (g_tt c18) (And.intro (At.one (P := Try.prog) (t := 3) (v := .int .i64 y17) (At.mono (Heapy.sub hp6) at17) (by kernel_rfl) 0 rfl rfl) (And.intro ix17 (And.intro (At.one (P := Try.prog) (t := 3) (v := .int .i64 y11) (At.mono (Heapy.sub hp6) at11) (by kernel_rfl) 0 rfl rfl) (And.intro ix11 (And.intro (At.agg (P := Try.prog) (t := 24) (v := .agg #[.int .i64 y16.1, .int .i64 y16.2]) (m := 2) at16 (by kernel_rfl) (by kernel_rfl) 0 (by kernel_rfl) rfl) (And.intro ix16 (And.intro c15 trivial))))))))))))))) (hd := F12_d1) (h := by kernel_rfl)
    · intro hr
      obtain rfl := Option.some.inj hr
      show AWp Try.prog _ (Ends1 .normal (F12_h1 v3 y5 u6_0 h6 a8 y10 (IntKind.i64.wrap (a14 + 1)))) _
      exact pEnd_sound good (L := F12_L) (D := F12_D) (its := [.g, (.b true), .g, (.ix id16 off16 g16), (.ld (.agg #[.int .i64 y16.1, .int .i64 y16.2])), .g, .g, .g, .g, .g, (.ix id11 off11 g11), (.ld (.int .i64 y11)), .g, .g, (.ix id17 off17 g17), (.ld (.int .i64 y17)), .g, .g, .n, .n, .n, .n, (.p false), (.b false), .g, .g]) (ds := F12_m1_1) (ks := [11]) (e := .normal) (s2 := (F12_h1 v3 y5 u6_0 h6 a8 y10 (IntKind.i64.wrap (a14 + 1)))) (hC := (And.intro l_f (And.intro c18 (And.intro (g_ft c18) (And.intro (g_ft c18) (And.intro (g_ft c18) (And.intro (g_ft c18) (And.intro (At.one (P := Try.prog) (t := 3) (v := .int .i64 y17) (At.mono (Heapy.sub hp6) at17) (by kernel_rfl) 0 rfl rfl) (And.intro ix17 (And.intro (At.one (P := Try.prog) (t := 3) (v := .int .i64 y11) (At.mono (Heapy.sub hp6) at11) (by kernel_rfl) 0 rfl rfl) (And.intro ix11 (And.intro (At.agg (P := Try.prog) (t := 24) (v := .agg #[.int .i64 y16.1, .int .i64 y16.2]) (m := 2) at16 (by kernel_rfl) (by kernel_rfl) 0 (by kernel_rfl) rfl) (And.intro ix16 (And.intro c15 trivial)))))))))))))) (hd := F12_d1) (h := by kernel_rfl)
  · intro hr
    obtain rfl := Option.some.inj hr
    show AWp Try.prog _ (Ends1 ((F12_x1 v3 y5 u6_0 h6 a8) (1 : Nat)).1 ((F12_x1 v3 y5 u6_0 h6 a8) (1 : Nat)).2) _
    exact pEnd_sound good (L := F12_L) (D := F12_D) (its := [.g, (.b false)]) (ds := F12_m1_2) (ks := [9]) (e := ((F12_x1 v3 y5 u6_0 h6 a8) (1 : Nat)).1) (s2 := ((F12_x1 v3 y5 u6_0 h6 a8) (1 : Nat)).2) (hC := (And.intro c15 trivial)) (hd := F12_d1) (h := by kernel_rfl)
theorem F12_l1_0 (h : AHeap) (l3 : List Int) (v3 : Hd) (hv3 : SlE E3 1 h (sv v3) l3) (y5 : (List (Int × Int)) × Int) (u6_0 : Hd) (h6 : AHeap) (hp6 : Heapy h h6 [⟨u6_0, 24, 2, List.flatMap enc24 y5.1⟩]) (a8 : Int) (y10 : Int × Int) (y11 : Int) (id11 : Nat) (off11 : Nat) (g11 : Nat) (ix11 : ixv 1 (sv v3) a8 = some (id11, off11, g11)) (at11 : At h id11 off11 g11 (enc3 y11)) (g13 : (!(subOk (0 : Int) a8 y5.1.length)) = false) (x : Int) (r : Nat) (hl : loopO (fun (s : Int) => F12_s1 l3 y5 a8 y10 y11 s) x = some r) (q0 : Nat.beq r 0 = true) : AWp Try.prog (.loop (codeOf Try.prog 12 [1, 1, 1, 0, 1, 0, 0, 1, 1, 0, 0, 1, 1, 1, 0, 0])) (Ends1 .ret (F12_x1_0 v3 y5 u6_0 h6 a8 r)) ((fun (s : Int) => (F12_h1 v3 y5 u6_0 h6 a8 y10 s)) x) := by
  have k := loop_fun (P := Try.prog) (c := (codeOf Try.prog 12 [1, 1, 1, 0, 1, 0, 0, 1, 1, 0, 0, 1, 1, 1, 0, 0])) (step := (fun (s : Int) => F12_s1 l3 y5 a8 y10 y11 s)) (hd := (fun (s : Int) => (F12_h1 v3 y5 u6_0 h6 a8 y10 s))) (X := (F12_x1 v3 y5 u6_0 h6 a8)) (by intro t; unfold F12_x1; cases Nat.beq t 0 <;> (intro h; cases h)) (fun x => F12_r1 h l3 v3 hv3 y5 u6_0 h6 hp6 a8 y10 y11 id11 off11 g11 ix11 at11 g13 x) hl
  simp only [F12_x1, q0, cond_true, cond_false] at k
  exact k
theorem F12_l1_1 (h : AHeap) (l3 : List Int) (v3 : Hd) (hv3 : SlE E3 1 h (sv v3) l3) (y5 : (List (Int × Int)) × Int) (u6_0 : Hd) (h6 : AHeap) (hp6 : Heapy h h6 [⟨u6_0, 24, 2, List.flatMap enc24 y5.1⟩]) (a8 : Int) (y10 : Int × Int) (y11 : Int) (id11 : Nat) (off11 : Nat) (g11 : Nat) (ix11 : ixv 1 (sv v3) a8 = some (id11, off11, g11)) (at11 : At h id11 off11 g11 (enc3 y11)) (g13 : (!(subOk (0 : Int) a8 y5.1.length)) = false) (x : Int) (r : Nat) (hl : loopO (fun (s : Int) => F12_s1 l3 y5 a8 y10 y11 s) x = some r) (q0 : Nat.beq r 0 = false) : AWp Try.prog (.loop (codeOf Try.prog 12 [1, 1, 1, 0, 1, 0, 0, 1, 1, 0, 0, 1, 1, 1, 0, 0])) (Ends1 (.exit 2) (F12_x1_1 v3 y5 u6_0 h6 a8 r)) ((fun (s : Int) => (F12_h1 v3 y5 u6_0 h6 a8 y10 s)) x) := by
  have k := loop_fun (P := Try.prog) (c := (codeOf Try.prog 12 [1, 1, 1, 0, 1, 0, 0, 1, 1, 0, 0, 1, 1, 1, 0, 0])) (step := (fun (s : Int) => F12_s1 l3 y5 a8 y10 y11 s)) (hd := (fun (s : Int) => (F12_h1 v3 y5 u6_0 h6 a8 y10 s))) (X := (F12_x1 v3 y5 u6_0 h6 a8)) (by intro t; unfold F12_x1; cases Nat.beq t 0 <;> (intro h; cases h)) (fun x => F12_r1 h l3 v3 hv3 y5 u6_0 h6 hp6 a8 y10 y11 id11 off11 g11 ix11 at11 g13 x) hl
  simp only [F12_x1, q0, cond_true, cond_false] at k
  exact k
def F12_m2_2 : List Bool := [true, true, true, true, true, true, true, true, true, true, true, true, true, true, true, true, true, true, true, true, true, true, true, true, true, true, true, true, true, true, true, true, true, true, true, true, true, true, true, true, true, true, true, true, true, true, true, true, true, true, true, true, true, true, true, true, true, true, true, true, true]
def F12_m2_1 : List Bool := [true, false, false, true, true, true, true, false, true, true, true, true, true, true, true, true, true, true, true, true, true, true, true, false, false, false, true, true, true, true, true, true, true, true, true, true, true, true, true, true, true, true, true, true, true, true, true, true, true, true, true, true, true, true, true, true, true, true, true, true, true]
def F12_m2_0 : List Bool := [true, true, true, true, true, true, false, true, true, true, true, true, true, true, true, true, true, true, true, true, true, true, true, true, true, true, true, true, true, true, true, true, true, true, true, true, true, true, true, true, true, true, true, true, true, true, true, true, true, true, true, true, true, true, true, true, true, true, true, true, true]
def F12_s2 (l3 : List Int) (y5 : (List (Int × Int)) × Int) (a8 : Int) : Option (Int ⊕ Nat) :=
  (bif decide (a8 < (y5.1.length : Int)) then
   (Option.bind (at? y5.1 a8) fun y10 =>
   (Option.bind (at? l3 a8) fun y11 =>
   (bif decide (y11 < 0) then
    some (.inr 0)
   else
    (bif (!(subOk (0 : Int) a8 y5.1.length)) then none else
    (Option.bind (loopO (fun (s : Int) => F12_s1 l3 y5 a8 y10 y11 s) 0) fun y21 =>
    (bif (Nat.beq y21 0) then
     some (.inr 0)
    else
     some (.inl (IntKind.i64.wrap (a8 + 1)))))))))
  else
   some (.inr 1))
def F12_h2 (v3 : Hd) (y5 : (List (Int × Int)) × Int) (u6_0 : Hd) (h6 : AHeap)  (a8 : Int) : AS := ⟨[junk, .int .i64 y5.2, (sv v3), junk, junk, junk, junk, (sv u6_0), junk, junk, junk, junk, junk, junk, junk, junk, junk, junk, junk, junk, junk, junk, junk, (sv u6_0), .int .i64 (y5.1.length : Int), .int .i64 a8, junk, junk, junk, junk, junk, junk, junk, junk, junk, junk, junk, junk, junk, junk, junk, junk, junk, junk, junk, junk, junk, junk, junk, junk, junk, junk, junk, junk, junk, junk, junk, junk, junk, junk, junk], [], h6⟩
theorem F12_d2 : drawsOk F12_D (codeOf Try.prog 12 [1, 1, 1, 0, 1, 0, 0]) = true := by kernel_rfl
def F12_x2_0 (h6 : AHeap)  (r : Nat) : AS := ⟨[junk, junk, junk, junk, junk, junk, .bool false, junk, junk, junk, junk, junk, junk, junk, junk, junk, junk, junk, junk, junk, junk, junk, junk, junk, junk, junk, junk, junk, junk, junk, junk, junk, junk, junk, junk, junk, junk, junk, junk, junk, junk, junk, junk, junk, junk, junk, junk, junk, junk, junk, junk, junk, junk, junk, junk, junk, junk, junk, junk, junk, junk], [], h6⟩
def F12_x2_1 (h6 : AHeap)  (r : Nat) : AS := ⟨[junk, junk, junk, junk, junk, junk, junk, junk, junk, junk, junk, junk, junk, junk, junk, junk, junk, junk, junk, junk, junk, junk, junk, junk, junk, junk, junk, junk, junk, junk, junk, junk, junk, junk, junk, junk, junk, junk, junk, junk, junk, junk, junk, junk, junk, junk, junk, junk, junk, junk, junk, junk, junk, junk, junk, junk, junk, junk, junk, junk, junk], [], h6⟩
def F12_x2 (h6 : AHeap) (r : Nat) : Exit × AS := (bif Nat.beq r 0 then (.ret, (F12_x2_0 h6 r)) else ((.exit 0), (F12_x2_1 h6 r)))
set_option maxRecDepth 100000 in
theorem F12_r2 (h : AHeap) (l3 : List Int) (v3 : Hd) (hv3 : SlE E3 1 h (sv v3) l3) (y5 : (List (Int × Int)) × Int) (u6_0 : Hd) (h6 : AHeap) (hp6 : Heapy h h6 [⟨u6_0, 24, 2, List.flatMap enc24 y5.1⟩]) (a8 : Int) (o : Int ⊕ Nat) : F12_s2 l3 y5 a8 = some o → RdF Try.prog (codeOf Try.prog 12 [1, 1, 1, 0, 1, 0, 0]) (fun (s : Int) => (F12_h2 v3 y5 u6_0 h6 s)) (F12_x2 h6) (F12_h2 v3 y5 u6_0 h6 a8) o := by
  unfold F12_s2
  refine dec_bif (fun c9 => ?_) (fun c9 => ?_)
  · refine bind_opt fun y10 e10 => ?_
    obtain ⟨id10, off10, g10, cs10, ix10, at10, rfl⟩ := SlE.at (Heapy.sle (v := u6_0) (xs := y5.1) (enc := enc24) hp6 0 rfl (fun _ => rfl) (by decide)) e10
    refine bind_opt fun y11 e11 => ?_
    obtain ⟨id11, off11, g11, cs11, ix11, at11, rfl⟩ := SlE.at hv3 e11
    refine dec_bif (fun c12 => ?_) (fun c12 => ?_)
    · intro hr
      obtain rfl := Option.some.inj hr
      show AWp Try.prog _ (Ends1 ((F12_x2 h6) (0 : Nat)).1 ((F12_x2 h6) (0 : Nat)).2) _
      exact pEnd_sound good (L := F12_L) (D := F12_D) (its := [.g, (.b true), .g, (.ix id10 off10 g10), (.ld (.agg #[.int .i64 y10.1, .int .i64 y10.2])), .g, .g, .g, .g, .g, (.ix id11 off11 g11), (.ld (.int .i64 y11)), .g, (.b true), .g]) (ds := F12_m2_0) (ks := [9]) (e := ((F12_x2 h6) (0 : Nat)).1) (s2 := ((F12_x2 h6) (0 : Nat)).2) (hC := (And.intro c12 (And.intro (At.one (P := Try.prog) (t := 3) (v := .int .i64 y11) (At.mono (Heapy.sub hp6) at11) (by kernel_rfl) 0 rfl rfl) (And.intro ix11 (And.intro (At.agg (P := Try.prog) (t := 24) (v := .agg #[.int .i64 y10.1, .int .i64 y10.2]) (m := 2) at10 (by kernel_rfl) (by kernel_rfl) 0 (by kernel_rfl) rfl) (And.intro ix10 (And.intro c9 trivial))))))) (hd := F12_d2) (h := by kernel_rfl)
    · refine guard_ok fun g13 => ?_
      refine bind_opt fun y21 e21 => ?_
      refine dec_bif (fun c22 => ?_) (fun c22 => ?_)
      · intro hr
        obtain rfl := Option.some.inj hr
        show AWp Try.prog _ (Ends1 ((F12_x2 h6) (0 : Nat)).1 ((F12_x2 h6) (0 : Nat)).2) _
        exact pEnd_sound good (L := F12_L) (D := F12_D) (its := [.g, (.b true), .g, (.ix id10 off10 g10), (.ld (.agg #[.int .i64 y10.1, .int .i64 y10.2])), .g, .g, .g, .g, .g, (.ix id11 off11 g11), (.ld (.int .i64 y11)), .g, (.b false), .g, .g, (.sl (sv (Hd.sub u6_0 ((0 : Int)).toNat (a8).toNat 2))), (.ln (subL y5.1 (0 : Int) a8).length), .g, (.l F12_m1_1 [] .ret (F12_x1_0 v3 y5 u6_0 h6 a8 y21))]) (ds := F12_m2_0) (ks := []) (e := ((F12_x2 h6) (0 : Nat)).1) (s2 := ((F12_x2 h6) (0 : Nat)).2) (hC := (And.intro (F12_l1_0 h l3 v3 hv3 y5 u6_0 h6 hp6 a8 y10 y11 id11 off11 g11 ix11 at11 g13 0 y21 e21 c22) (And.intro (SlE.len (SlE.sub (Heapy.sle (v := u6_0) (xs := y5.1) (enc := enc24) hp6 0 rfl (fun _ => rfl) (by decide)) (nn g13))) (And.intro (slv_sub (P := Try.prog) (t := 22) (e := 24) (Heapy.sle (v := u6_0) (xs := y5.1) (enc := enc24) hp6 0 rfl (fun _ => rfl) (by decide)) (by kernel_rfl) (by kernel_rfl) (none) (some a8) rfl rfl (nn g13)) (And.intro c12 (And.intro (At.one (P := Try.prog) (t := 3) (v := .int .i64 y11) (At.mono (Heapy.sub hp6) at11) (by kernel_rfl) 0 rfl rfl) (And.intro ix11 (And.intro (At.agg (P := Try.prog) (t := 24) (v := .agg #[.int .i64 y10.1, .int .i64 y10.2]) (m := 2) at10 (by kernel_rfl) (by kernel_rfl) 0 (by kernel_rfl) rfl) (And.intro ix10 (And.intro c9 trivial)))))))))) (hd := F12_d2) (h := by kernel_rfl)
      · intro hr
        obtain rfl := Option.some.inj hr
        show AWp Try.prog _ (Ends1 .normal (F12_h2 v3 y5 u6_0 h6 (IntKind.i64.wrap (a8 + 1)))) _
        exact pEnd_sound good (L := F12_L) (D := F12_D) (its := [.g, (.b true), .g, (.ix id10 off10 g10), (.ld (.agg #[.int .i64 y10.1, .int .i64 y10.2])), .g, .g, .g, .g, .g, (.ix id11 off11 g11), (.ld (.int .i64 y11)), .g, (.b false), .g, .g, (.sl (sv (Hd.sub u6_0 ((0 : Int)).toNat (a8).toNat 2))), (.ln (subL y5.1 (0 : Int) a8).length), .g, (.l F12_m1_1 [] (.exit 2) (F12_x1_1 v3 y5 u6_0 h6 a8 y21)), .g, .g]) (ds := F12_m2_1) (ks := []) (e := .normal) (s2 := (F12_h2 v3 y5 u6_0 h6 (IntKind.i64.wrap (a8 + 1)))) (hC := (And.intro (F12_l1_1 h l3 v3 hv3 y5 u6_0 h6 hp6 a8 y10 y11 id11 off11 g11 ix11 at11 g13 0 y21 e21 c22) (And.intro (SlE.len (SlE.sub (Heapy.sle (v := u6_0) (xs := y5.1) (enc := enc24) hp6 0 rfl (fun _ => rfl) (by decide)) (nn g13))) (And.intro (slv_sub (P := Try.prog) (t := 22) (e := 24) (Heapy.sle (v := u6_0) (xs := y5.1) (enc := enc24) hp6 0 rfl (fun _ => rfl) (by decide)) (by kernel_rfl) (by kernel_rfl) (none) (some a8) rfl rfl (nn g13)) (And.intro c12 (And.intro (At.one (P := Try.prog) (t := 3) (v := .int .i64 y11) (At.mono (Heapy.sub hp6) at11) (by kernel_rfl) 0 rfl rfl) (And.intro ix11 (And.intro (At.agg (P := Try.prog) (t := 24) (v := .agg #[.int .i64 y10.1, .int .i64 y10.2]) (m := 2) at10 (by kernel_rfl) (by kernel_rfl) 0 (by kernel_rfl) rfl) (And.intro ix10 (And.intro c9 trivial)))))))))) (hd := F12_d2) (h := by kernel_rfl)
  · intro hr
    obtain rfl := Option.some.inj hr
    show AWp Try.prog _ (Ends1 ((F12_x2 h6) (1 : Nat)).1 ((F12_x2 h6) (1 : Nat)).2) _
    exact pEnd_sound good (L := F12_L) (D := F12_D) (its := [.g, (.b false)]) (ds := F12_m2_2) (ks := []) (e := ((F12_x2 h6) (1 : Nat)).1) (s2 := ((F12_x2 h6) (1 : Nat)).2) (hC := (And.intro c9 trivial)) (hd := F12_d2) (h := by kernel_rfl)
theorem F12_l2_0 (h : AHeap) (l3 : List Int) (v3 : Hd) (hv3 : SlE E3 1 h (sv v3) l3) (y5 : (List (Int × Int)) × Int) (u6_0 : Hd) (h6 : AHeap) (hp6 : Heapy h h6 [⟨u6_0, 24, 2, List.flatMap enc24 y5.1⟩]) (x : Int) (r : Nat) (hl : loopO (fun (s : Int) => F12_s2 l3 y5 s) x = some r) (q0 : Nat.beq r 0 = true) : AWp Try.prog (.loop (codeOf Try.prog 12 [1, 1, 1, 0, 1, 0, 0])) (Ends1 .ret (F12_x2_0 h6 r)) ((fun (s : Int) => (F12_h2 v3 y5 u6_0 h6 s)) x) := by
  have k := loop_fun (P := Try.prog) (c := (codeOf Try.prog 12 [1, 1, 1, 0, 1, 0, 0])) (step := (fun (s : Int) => F12_s2 l3 y5 s)) (hd := (fun (s : Int) => (F12_h2 v3 y5 u6_0 h6 s))) (X := (F12_x2 h6)) (by intro t; unfold F12_x2; cases Nat.beq t 0 <;> (intro h; cases h)) (fun x => F12_r2 h l3 v3 hv3 y5 u6_0 h6 hp6 x) hl
  simp only [F12_x2, q0, cond_true, cond_false] at k
  exact k
theorem F12_l2_1 (h : AHeap) (l3 : List Int) (v3 : Hd) (hv3 : SlE E3 1 h (sv v3) l3) (y5 : (List (Int × Int)) × Int) (u6_0 : Hd) (h6 : AHeap) (hp6 : Heapy h h6 [⟨u6_0, 24, 2, List.flatMap enc24 y5.1⟩]) (x : Int) (r : Nat) (hl : loopO (fun (s : Int) => F12_s2 l3 y5 s) x = some r) (q0 : Nat.beq r 0 = false) : AWp Try.prog (.loop (codeOf Try.prog 12 [1, 1, 1, 0, 1, 0, 0])) (Ends1 (.exit 0) (F12_x2_1 h6 r)) ((fun (s : Int) => (F12_h2 v3 y5 u6_0 h6 s)) x) := by
  have k := loop_fun (P := Try.prog) (c := (codeOf Try.prog 12 [1, 1, 1, 0, 1, 0, 0])) (step := (fun (s : Int) => F12_s2 l3 y5 s)) (hd := (fun (s : Int) => (F12_h2 v3 y5 u6_0 h6 s))) (X := (F12_x2 h6)) (by intro t; unfold F12_x2; cases Nat.beq t 0 <;> (intro h; cases h)) (fun x => F12_r2 h l3 v3 hv3 y5 u6_0 h6 hp6 x) hl
  simp only [F12_x2, q0, cond_true, cond_false] at k
  exact k
def F12 (l1 : List (Int × Int)) (x2 : Int) (l3 : List Int) : Option (Bool) :=
  (bif ((l3.length : Int) != (l1.length : Int)) then
   some (false)
  else
   (Option.bind (F29 l1 x2) fun y5 =>
   (Option.bind (loopO (fun (s : Int) => F12_s2 l3 y5 s) 0) fun y23 =>
   (bif (Nat.beq y23 0) then
    some (false)
   else
    some (true)))))
set_option maxRecDepth 100000 in
theorem F12_spec (l1 : List (Int × Int)) (x2 : Int) (l3 : List Int) (v1 : Hd) (v3 : Hd) (h : AHeap) (hw : h.wf) (hv1 : SlE E24 2 h (sv v1) l1) (hv3 : SlE E3 1 h (sv v3) l3) (r : Bool) : F12 l1 x2 l3 = some r → ∃ (h' : AHeap), Heapy h h' [] ∧ ACalls Try.prog 12 [(sv v1), .int .i64 x2, (sv v3)] h (fun v' h'' => v' = (.bool r : Value) ∧ h'' = h') := by
  unfold F12
  refine dec_bif (fun c4 => ?_) (fun c4 => ?_)
  · intro hr
    obtain rfl := Option.some.inj hr
    exact ⟨h, Heapy.pick (Heapy.refl hw) [] (by decide), pFun_sound good tab_ok (f := 12) (its := [.g, .g, (.ln l3.length), .g, (.ln l1.length), .g, (.b true), .g]) (args := [(sv v1), .int .i64 x2, (sv v3)]) (h := h) (h' := h) (v := .bool false) (hC := (And.intro c4 (And.intro (SlE.len hv1) (And.intro (SlE.len hv3) trivial)))) (hr := by kernel_rfl)⟩
  · refine bind_opt fun y5 e5 => ?_
    obtain ⟨u6_0, h6, q6, c6⟩ := F29_spec l1 x2 v1 h hw hv1 _ e5
    have hp6 : Heapy h h6 [⟨u6_0, 24, 2, List.flatMap enc24 y5.1⟩] := Heapy.call (Heapy.refl hw) q6
    refine bind_opt fun y23 e23 => ?_
    refine dec_bif (fun c24 => ?_) (fun c24 => ?_)
    · intro hr
      obtain rfl := Option.some.inj hr
      exact ⟨h6, Heapy.pick hp6 [] (by decide), pFun_sound good tab_ok (f := 12) (its := [.g, .g, (.ln l3.length), .g, (.ln l1.length), .g, (.b false), .g, .g, (.c (.tuple #[(sv u6_0), .int .i64 y5.2]) h6), .g, .g, .g, .g, .g, .g, (.ln y5.1.length), .g, (.l F12_m2_1 [] .ret (F12_x2_0 h6 y23))]) (args := [(sv v1), .int .i64 x2, (sv v3)]) (h := h) (h' := h6) (v := .bool false) (hC := (And.intro (F12_l2_0 h l3 v3 hv3 y5 u6_0 h6 hp6 0 y23 e23 c24) (And.intro (SlE.len (Heapy.sle (v := u6_0) (xs := y5.1) (enc := enc24) hp6 0 rfl (fun _ => rfl) (by decide))) (And.intro c6 (And.intro c4 (And.intro (SlE.len hv1) (And.intro (SlE.len hv3) trivial))))))) (hr := by kernel_rfl)⟩
    · intro hr
      obtain rfl := Option.some.inj hr
      exact ⟨h6, Heapy.pick hp6 [] (by decide), pFun_sound good tab_ok (f := 12) (its := [.g, .g, (.ln l3.length), .g, (.ln l1.length), .g, (.b false), .g, .g, (.c (.tuple #[(sv u6_0), .int .i64 y5.2]) h6), .g, .g, .g, .g, .g, .g, (.ln y5.1.length), .g, (.l F12_m2_1 [] (.exit 0) (F12_x2_1 h6 y23)), .g]) (args := [(sv v1), .int .i64 x2, (sv v3)]) (h := h) (h' := h6) (v := .bool true) (hC := (And.intro (F12_l2_1 h l3 v3 hv3 y5 u6_0 h6 hp6 0 y23 e23 c24) (And.intro (SlE.len (Heapy.sle (v := u6_0) (xs := y5.1) (enc := enc24) hp6 0 rfl (fun _ => rfl) (by decide))) (And.intro c6 (And.intro c4 (And.intro (SlE.len hv1) (And.intro (SlE.len hv3) trivial))))))) (hr := by kernel_rfl)⟩
/-! 16 jacquard/jacquardref38.Interval -/
def F16 (x1 : Int) : Int :=
  (if 256 < (if 0 > x1 then 0 else x1) then 256 else (if 0 > x1 then 0 else x1))
set_option maxRecDepth 100000 in
theorem F16_spec (x1 : Int) (h : AHeap)  (r : Int) : F16 x1 = r → ACalls Try.prog 16 [.int .i64 x1] h (fun v' h'' => v' = (.int .i64 r : Value) ∧ h'' = h) := by
  unfold F16
  intro hr
  subst hr
  exact pFun_sound good tab_ok (f := 16) (its := [.g, .g, .g, .g, .g]) (args := [.int .i64 x1]) (h := h) (h' := h) (v := .int .i64 (if 256 < (if 0 > x1 then 0 else x1) then 256 else (if 0 > x1 then 0 else x1))) (hC := trivial) (hr := by kernel_rfl)
/-! 34 jacquard/jacquardref38.Len -/
def F34__1 (x2 : Int) (x3 : Int) : Int := (if (F16 x3) < (if 1048576 < (if 0 > x2 then 0 else x2) then 1048576 else (if 0 > x2 then 0 else x2)) then (F16 x3) else (if 1048576 < (if 0 > x2 then 0 else x2) then 1048576 else (if 0 > x2 then 0 else x2)))
def F34 (x1 : Int) (x2 : Int) (x3 : Int) : Int :=
  (bif decide ((F16 x3) > 0) then
   (F34__1 x2 x3)
  else
   (if 1048576 < (if 0 > x2 then 0 else x2) then 1048576 else (if 0 > x2 then 0 else x2)))
set_option maxRecDepth 100000 in
theorem F34_spec (x1 : Int) (x2 : Int) (x3 : Int) (h : AHeap)  (r : Int) : F34 x1 x2 x3 = r → ACalls Try.prog 34 [.agg #[.int .i64 x1, .int .i64 x2], .int .i64 x3] h (fun v' h'' => v' = (.int .i64 r : Value) ∧ h'' = h) := by
  unfold F34
  refine dec_bif (fun c5 => ?_) (fun c5 => ?_)
  · intro hr
    subst hr
    exact pFun_sound good tab_ok (f := 34) (its := [.g, .g, .g, .g, .g, .g, .g, .g, (.c (.int .i64 (F16 x3)) h), .g, (.b true), .g, .g, (.c (.int .i64 (F16 x3)) h), .g, .g, .g, .g]) (args := [.agg #[.int .i64 x1, .int .i64 x2], .int .i64 x3]) (h := h) (h' := h) (v := .int .i64 (F34__1 x2 x3)) (hC := (And.intro (F16_spec x3 h _ rfl) (And.intro c5 (And.intro (F16_spec x3 h _ rfl) trivial)))) (hr := by kernel_rfl)
  · intro hr
    subst hr
    exact pFun_sound good tab_ok (f := 34) (its := [.g, .g, .g, .g, .g, .g, .g, .g, (.c (.int .i64 (F16 x3)) h), .g, (.b false), .g, .g]) (args := [.agg #[.int .i64 x1, .int .i64 x2], .int .i64 x3]) (h := h) (h' := h) (v := .int .i64 (if 1048576 < (if 0 > x2 then 0 else x2) then 1048576 else (if 0 > x2 then 0 else x2))) (hC := (And.intro c5 (And.intro (F16_spec x3 h _ rfl) trivial))) (hr := by kernel_rfl)
/-! 35 jacquard/jacquardref38.From -/
def F35__1 (x1 : Int) : Int := (if 1073741824 < (if (-1073741824) > x1 then (-1073741824) else x1) then 1073741824 else (if (-1073741824) > x1 then (-1073741824) else x1))
def F35 (x1 : Int) (x2 : Int) : Int :=
  (F35__1 x1)
set_option maxRecDepth 100000 in
theorem F35_spec (x1 : Int) (x2 : Int) (h : AHeap)  (r : Int) : F35 x1 x2 = r → ACalls Try.prog 35 [.agg #[.int .i64 x1, .int .i64 x2]] h (fun v' h'' => v' = (.int .i64 r : Value) ∧ h'' = h) := by
  unfold F35
  intro hr
  subst hr
  exact pFun_sound good tab_ok (f := 35) (its := [.g, .g, .g, .g, .g, .g, .g]) (args := [.agg #[.int .i64 x1, .int .i64 x2]]) (h := h) (h' := h) (v := .int .i64 (F35__1 x1)) (hC := trivial) (hr := by kernel_rfl)
/-! 17 jacquard/jacquardref38.Mod -/
def F17 (x1 : Int) (x2 : Int) : Option (Int) :=
  (bif (x2 == 0) then none else
  (bif decide ((x1.tmod x2) < 0) then
   some (IntKind.i64.wrap ((x1.tmod x2) + x2))
  else
   some (x1.tmod x2)))
set_option maxRecDepth 100000 in
theorem F17_spec (x1 : Int) (x2 : Int) (h : AHeap)  (r : Int) : F17 x1 x2 = some r → ACalls Try.prog 17 [.int .i64 x1, .int .i64 x2] h (fun v' h'' => v' = (.int .i64 r : Value) ∧ h'' = h) := by
  unfold F17
  refine guard_ok fun g3 => ?_
  refine dec_bif (fun c4 => ?_) (fun c4 => ?_)
  · intro hr
    obtain rfl := Option.some.inj hr
    exact pFun_sound good tab_ok (f := 17) (its := [.g, .g, .g, .d, .g, .g, .g, (.b true), .g, .g, .g, .g, .g, .g]) (args := [.int .i64 x1, .int .i64 x2]) (h := h) (h' := h) (v := .int .i64 (IntKind.i64.wrap ((x1.tmod x2) + x2))) (hC := (And.intro c4 (And.intro (nz g3) trivial))) (hr := by kernel_rfl)
  · intro hr
    obtain rfl := Option.some.inj hr
    exact pFun_sound good tab_ok (f := 17) (its := [.g, .g, .g, .d, .g, .g, .g, (.b false), .g, .g]) (args := [.int .i64 x1, .int .i64 x2]) (h := h) (h' := h) (v := .int .i64 (x1.tmod x2)) (hC := (And.intro c4 (And.intro (nz g3) trivial))) (hr := by kernel_rfl)
/-! 36 jacquard/jacquardref38.Contains -/
def F36 (x1 : Int) (x2 : Int) (x3 : Int) (x4 : Int) : Option (Bool) :=
  (bif ((F16 x3) == 0) then
   (bif decide (x4 ≥ (F35 x1 x2)) then
    some (decide (x4 < (IntKind.i64.wrap ((F35 x1 x2) + (F34 x1 x2 (F16 x3))))))
   else
    some (false))
  else
   (Option.bind (F17 (IntKind.i64.wrap (x4 - (F35 x1 x2))) (F16 x3)) fun y12 =>
   some (decide (y12 < (F34 x1 x2 (F16 x3))))))
set_option maxRecDepth 100000 in
theorem F36_spec (x1 : Int) (x2 : Int) (x3 : Int) (x4 : Int) (h : AHeap)  (r : Bool) : F36 x1 x2 x3 x4 = some r → ACalls Try.prog 36 [.agg #[.int .i64 x1, .int .i64 x2], .int .i64 x3, .int .i64 x4] h (fun v' h'' => v' = (.bool r : Value) ∧ h'' = h) := by
  unfold F36
  refine dec_bif (fun c6 => ?_) (fun c6 => ?_)
  · refine dec_bif (fun c8 => ?_) (fun c8 => ?_)
    · intro hr
      obtain rfl := Option.some.inj hr
      exact pFun_sound good tab_ok (f := 36) (its := [.g, .g, .g, (.c (.int .i64 (F16 x3)) h), .g, .g, .g, (.b true), .g, .g, (.c (.int .i64 (F35 x1 x2)) h), .g, .g, (.w .g), (.w .g), (.w .g), (.w .g), (.w (.c (.int .i64 (F35 x1 x2)) h)), (.w (.c (.int .i64 (F34 x1 x2 (F16 x3))) h)), (.w .g), (.w .g), (.p true), .g]) (args := [.agg #[.int .i64 x1, .int .i64 x2], .int .i64 x3, .int .i64 x4]) (h := h) (h' := h) (v := .bool (decide (x4 < (IntKind.i64.wrap ((F35 x1 x2) + (F34 x1 x2 (F16 x3))))))) (hC := (And.intro c8 (And.intro (g_tt c8) (And.intro (g_tt c8) (And.intro (F34_spec x1 x2 (F16 x3) h _ rfl) (And.intro (g_tt c8) (And.intro (F35_spec x1 x2 h _ rfl) (And.intro (g_tt c8) (And.intro (g_tt c8) (And.intro (g_tt c8) (And.intro (g_tt c8) (And.intro (g_tt c8) (And.intro (F35_spec x1 x2 h _ rfl) (And.intro c6 (And.intro (F16_spec x3 h _ rfl) trivial))))))))))))))) (hr := by kernel_rfl)
    · intro hr
      obtain rfl := Option.some.inj hr
      exact pFun_sound good tab_ok (f := 36) (its := [.g, .g, .g, (.c (.int .i64 (F16 x3)) h), .g, .g, .g, (.b true), .g, .g, (.c (.int .i64 (F35 x1 x2)) h), .g, .g, .n, .n, .n, .n, .n, .n, .n, .n, (.p false), .g]) (args := [.agg #[.int .i64 x1, .int .i64 x2], .int .i64 x3, .int .i64 x4]) (h := h) (h' := h) (v := .bool false) (hC := (And.intro c8 (And.intro (g_ft c8) (And.intro (g_ft c8) (And.intro (g_ft c8) (And.intro (g_ft c8) (And.intro (g_ft c8) (And.intro (g_ft c8) (And.intro (g_ft c8) (And.intro (g_ft c8) (And.intro (F35_spec x1 x2 h _ rfl) (And.intro c6 (And.intro (F16_spec x3 h _ rfl) trivial))))))))))))) (hr := by kernel_rfl)
  · refine bind_opt fun y12 e12 => ?_
    intro hr
    obtain rfl := Option.some.inj hr
    exact pFun_sound good tab_ok (f := 36) (its := [.g, .g, .g, (.c (.int .i64 (F16 x3)) h), .g, .g, .g, (.b false), .g, .g, .g, .g, .g, (.c (.int .i64 (F35 x1 x2)) h), .g, (.c (.int .i64 y12) h), (.c (.int .i64 (F34 x1 x2 (F16 x3))) h), .g, .g]) (args := [.agg #[.int .i64 x1, .int .i64 x2], .int .i64 x3, .int .i64 x4]) (h := h) (h' := h) (v := .bool (decide (y12 < (F34 x1 x2 (F16 x3))))) (hC := (And.intro (F34_spec x1 x2 (F16 x3) h _ rfl) (And.intro (F17_spec (IntKind.i64.wrap (x4 - (F35 x1 x2))) (F16 x3) h _ e12) (And.intro (F35_spec x1 x2 h _ rfl) (And.intro c6 (And.intro (F16_spec x3 h _ rfl) trivial)))))) (hr := by kernel_rfl)
/-! 32 jacquard/jacquardref38.Overlap -/
def F32_L : List Nat := [3, 4]
def F32_D : List (Nat × List (Nat × Nat)) := [(3, [(0, 1), (1, 0), (2, 1), (3, 1), (4, 1), (5, 0), (6, 1), (7, 1), (8, 1), (9, 1), (11, 2), (13, 2), (10, 0), (12, 0), (14, 0), (15, 1), (16, 1), (17, 1), (18, 1), (19, 1), (21, 2), (23, 2), (20, 0), (22, 0), (24, 0), (25, 1), (26, 1), (27, 1), (28, 1)])]
def F32_m1_2 : List Bool := [true, true, true, true, true, true, true, true, true, true, true, true, true, true, true, true, true, true, true, true, true, true, true, true, true, true, true, true, true, true, true, true, true, true, true, true, true, true, true, true, true, true, true, true, true, true, true, true, true, true, true, true, true, true, true]
def F32_m1_1 : List Bool := [true, true, false, false, false, true, true, true, true, true, true, true, true, true, true, true, true, true, true, true, true, true, true, true, true, true, true, true, true, true, true, true, true, true, true, true, true, true, true, true, false, false, true, true, true, true, true, true, true, true, true, true, true, true, true]
def F32_m1_0 : List Bool := [true, true, true, true, true, true, false, true, true, true, true, true, true, true, true, true, true, true, true, true, true, true, true, true, true, true, true, true, true, true, true, true, true, true, true, true, true, true, true, true, true, true, true, true, true, true, true, true, true, true, true, true, true, true, true]
def F32_s1 (x1 : Int) (x2 : Int) (x3 : Int) (x4 : Int) (x5 : Int) (a19 : Int) : Option (Int ⊕ Nat) :=
  (bif decide (a19 < (F16 x5)) then
   (Option.bind (F36 x1 x2 (F16 x5) a19) fun y21 =>
   (bif y21 then
    (Option.bind (F36 x3 x4 (F16 x5) a19) fun y24 =>
    (bif y24 then
     some (.inr 0)
    else
     some (.inl (IntKind.i64.wrap (a19 + 1)))))
   else
    some (.inl (IntKind.i64.wrap (a19 + 1)))))
  else
   some (.inr 1))
def F32_h1 (h : AHeap) (x1 : Int) (x2 : Int) (x3 : Int) (x4 : Int) (x5 : Int)  (a19 : Int) : AS := ⟨[junk, junk, .int .i64 (F16 x5), .pointer (some ⟨3, 0, none⟩), .pointer (some ⟨4, 0, none⟩), junk, junk, junk, junk, junk, junk, junk, junk, junk, junk, junk, junk, junk, junk, junk, junk, junk, junk, junk, junk, junk, junk, junk, junk, junk, junk, junk, junk, junk, junk, junk, junk, junk, junk, junk, .int .i64 (F16 x5), .int .i64 a19, junk, junk, junk, junk, junk, junk, junk, junk, junk, junk, junk, junk, junk], [(3, [.int .i64 x1, .int .i64 x2]), (4, [.int .i64 x3, .int .i64 x4])], h⟩
theorem F32_d1 : drawsOk F32_D (codeOf Try.prog 32 [1, 1, 1, 0, 1, 0, 0]) = true := by kernel_rfl
def F32_x1_0 (h : AHeap)  (r : Nat) : AS := ⟨[junk, junk, junk, junk, junk, junk, .bool true, junk, junk, junk, junk, junk, junk, junk, junk, junk, junk, junk, junk, junk, junk, junk, junk, junk, junk, junk, junk, junk, junk, junk, junk, junk, junk, junk, junk, junk, junk, junk, junk, junk, junk, junk, junk, junk, junk, junk, junk, junk, junk, junk, junk, junk, junk, junk, junk], [], h⟩
def F32_x1_1 (h : AHeap)  (r : Nat) : AS := ⟨[junk, junk, junk, junk, junk, junk, junk, junk, junk, junk, junk, junk, junk, junk, junk, junk, junk, junk, junk, junk, junk, junk, junk, junk, junk, junk, junk, junk, junk, junk, junk, junk, junk, junk, junk, junk, junk, junk, junk, junk, junk, junk, junk, junk, junk, junk, junk, junk, junk, junk, junk, junk, junk, junk, junk], [], h⟩
def F32_x1 (h : AHeap) (r : Nat) : Exit × AS := (bif Nat.beq r 0 then (.ret, (F32_x1_0 h r)) else ((.exit 0), (F32_x1_1 h r)))
set_option maxRecDepth 100000 in
theorem F32_r1 (h : AHeap) (x1 : Int) (x2 : Int) (x3 : Int) (x4 : Int) (x5 : Int) (a19 : Int) (o : Int ⊕ Nat) : F32_s1 x1 x2 x3 x4 x5 a19 = some o → RdF Try.prog (codeOf Try.prog 32 [1, 1, 1, 0, 1, 0, 0]) (fun (s : Int) => (F32_h1 h x1 x2 x3 x4 x5 s)) (F32_x1 h) (F32_h1 h x1 x2 x3 x4 x5 a19) o := by
  unfold F32_s1
  refine dec_bif (fun c20 => ?_) (fun c20 => ?_)
  · refine bind_opt fun y21 e21 => ?_
    refine dec_bif (fun c23 => ?_) (fun c23 => ?_)
    · refine bind_opt fun y24 e24 => ?_
      refine dec_bif (fun c26 => ?_) (fun c26 => ?_)
      · intro hr
        obtain rfl := Option.some.inj hr
        show AWp Try.prog _ (Ends1 ((F32_x1 h) (0 : Nat)).1 ((F32_x1 h) (0 : Nat)).2) _
        exact pEnd_sound good (L := F32_L) (D := F32_D) (its := [.g, (.b true), .g, .g, .g, .g, .g, (.c (.bool y21) h), .g, (.w .g), (.w .g), (.w .g), (.w (.c (.bool y24) h)), (.p true), (.b true), .g]) (ds := F32_m1_0) (ks := [3, 4]) (e := ((F32_x1 h) (0 : Nat)).1) (s2 := ((F32_x1 h) (0 : Nat)).2) (hC := (And.intro c26 (And.intro c23 (And.intro (F36_spec x3 x4 (F16 x5) a19 h _ e24) (And.intro (g_tt c23) (And.intro (g_tt c23) (And.intro (g_tt c23) (And.intro (g_tt c23) (And.intro (F36_spec x1 x2 (F16 x5) a19 h _ e21) (And.intro c20 trivial)))))))))) (hd := F32_d1) (h := by kernel_rfl)
      · intro hr
        obtain rfl := Option.some.inj hr
        show AWp Try.prog _ (Ends1 .normal (F32_h1 h x1 x2 x3 x4 x5 (IntKind.i64.wrap (a19 + 1)))) _
        exact pEnd_sound good (L := F32_L) (D := F32_D) (its := [.g, (.b true), .g, .g, .g, .g, .g, (.c (.bool y21) h), .g, (.w .g), (.w .g), (.w .g), (.w (.c (.bool y24) h)), (.p true), (.b false), .g, .g]) (ds := F32_m1_1) (ks := []) (e := .normal) (s2 := (F32_h1 h x1 x2 x3 x4 x5 (IntKind.i64.wrap (a19 + 1)))) (hC := (And.intro c26 (And.intro c23 (And.intro (F36_spec x3 x4 (F16 x5) a19 h _ e24) (And.intro (g_tt c23) (And.intro (g_tt c23) (And.intro (g_tt c23) (And.intro (g_tt c23) (And.intro (F36_spec x1 x2 (F16 x5) a19 h _ e21) (And.intro c20 trivial)))))))))) (hd := F32_d1) (h := by kernel_rfl)
    · intro hr
      obtain rfl := Option.some.inj hr
      show AWp Try.prog _ (Ends1 .normal (F32_h1 h x1 x2 x3 x4 x5 (IntKind.i64.wrap (a19 + 1)))) _
      exact pEnd_sound good (L := F32_L) (D := F32_D) (its := [.g, (.b true), .g, .g, .g, .g, .g, (.c (.bool y21) h), .g, .n, .n, .n, .n, (.p false), (.b false), .g, .g]) (ds := F32_m1_1) (ks := []) (e := .normal) (s2 := (F32_h1 h x1 x2 x3 x4 x5 (IntKind.i64.wrap (a19 + 1)))) (hC := (And.intro l_f (And.intro c23 (And.intro (g_ft c23) (And.intro (g_ft c23) (And.intro (g_ft c23) (And.intro (g_ft c23) (And.intro (F36_spec x1 x2 (F16 x5) a19 h _ e21) (And.intro c20 trivial))))))))) (hd := F32_d1) (h := by kernel_rfl)
  · intro hr
    obtain rfl := Option.some.inj hr
    show AWp Try.prog _ (Ends1 ((F32_x1 h) (1 : Nat)).1 ((F32_x1 h) (1 : Nat)).2) _
    exact pEnd_sound good (L := F32_L) (D := F32_D) (its := [.g, (.b false)]) (ds := F32_m1_2) (ks := [3, 4]) (e := ((F32_x1 h) (1 : Nat)).1) (s2 := ((F32_x1 h) (1 : Nat)).2) (hC := (And.intro c20 trivial)) (hd := F32_d1) (h := by kernel_rfl)
theorem F32_l1_0 (h : AHeap) (x1 : Int) (x2 : Int) (x3 : Int) (x4 : Int) (x5 : Int) (x : Int) (r : Nat) (hl : loopO (fun (s : Int) => F32_s1 x1 x2 x3 x4 x5 s) x = some r) (q0 : Nat.beq r 0 = true) : AWp Try.prog (.loop (codeOf Try.prog 32 [1, 1, 1, 0, 1, 0, 0])) (Ends1 .ret (F32_x1_0 h r)) ((fun (s : Int) => (F32_h1 h x1 x2 x3 x4 x5 s)) x) := by
  have k := loop_fun (P := Try.prog) (c := (codeOf Try.prog 32 [1, 1, 1, 0, 1, 0, 0])) (step := (fun (s : Int) => F32_s1 x1 x2 x3 x4 x5 s)) (hd := (fun (s : Int) => (F32_h1 h x1 x2 x3 x4 x5 s))) (X := (F32_x1 h)) (by intro t; unfold F32_x1; cases Nat.beq t 0 <;> (intro h; cases h)) (fun x => F32_r1 h x1 x2 x3 x4 x5 x) hl
  simp only [F32_x1, q0, cond_true, cond_false] at k
  exact k
theorem F32_l1_1 (h : AHeap) (x1 : Int) (x2 : Int) (x3 : Int) (x4 : Int) (x5 : Int) (x : Int) (r : Nat) (hl : loopO (fun (s : Int) => F32_s1 x1 x2 x3 x4 x5 s) x = some r) (q0 : Nat.beq r 0 = false) : AWp Try.prog (.loop (codeOf Try.prog 32 [1, 1, 1, 0, 1, 0, 0])) (Ends1 (.exit 0) (F32_x1_1 h r)) ((fun (s : Int) => (F32_h1 h x1 x2 x3 x4 x5 s)) x) := by
  have k := loop_fun (P := Try.prog) (c := (codeOf Try.prog 32 [1, 1, 1, 0, 1, 0, 0])) (step := (fun (s : Int) => F32_s1 x1 x2 x3 x4 x5 s)) (hd := (fun (s : Int) => (F32_h1 h x1 x2 x3 x4 x5 s))) (X := (F32_x1 h)) (by intro t; unfold F32_x1; cases Nat.beq t 0 <;> (intro h; cases h)) (fun x => F32_r1 h x1 x2 x3 x4 x5 x) hl
  simp only [F32_x1, q0, cond_true, cond_false] at k
  exact k
def F32 (x1 : Int) (x2 : Int) (x3 : Int) (x4 : Int) (x5 : Int) : Option (Bool) :=
  (bif ((F16 x5) == 0) then
   (bif decide ((F34 x1 x2 0) > 0) then
    (bif decide ((F34 x3 x4 0) > 0) then
     (bif decide ((F35 x1 x2) < (IntKind.i64.wrap ((F35 x3 x4) + (F34 x3 x4 0)))) then
      some (decide ((F35 x3 x4) < (IntKind.i64.wrap ((F35 x1 x2) + (F34 x1 x2 0)))))
     else
      some (false))
    else
     some (false))
   else
    some (false))
  else
   (Option.bind (loopO (fun (s : Int) => F32_s1 x1 x2 x3 x4 x5 s) 0) fun y27 =>
   (bif (Nat.beq y27 0) then
    some (true)
   else
    some (false))))
set_option maxRecDepth 100000 in
theorem F32_spec (x1 : Int) (x2 : Int) (x3 : Int) (x4 : Int) (x5 : Int) (h : AHeap)  (r : Bool) : F32 x1 x2 x3 x4 x5 = some r → ACalls Try.prog 32 [.agg #[.int .i64 x1, .int .i64 x2], .agg #[.int .i64 x3, .int .i64 x4], .int .i64 x5] h (fun v' h'' => v' = (.bool r : Value) ∧ h'' = h) := by
  unfold F32
  refine dec_bif (fun c7 => ?_) (fun c7 => ?_)
  · refine dec_bif (fun c9 => ?_) (fun c9 => ?_)
    · refine dec_bif (fun c11 => ?_) (fun c11 => ?_)
      · refine dec_bif (fun c15 => ?_) (fun c15 => ?_)
        · intro hr
          obtain rfl := Option.some.inj hr
          exact pFun_sound good tab_ok (f := 32) (its := [.g, .g, .g, .g, (.c (.int .i64 (F16 x5)) h), .g, .g, .g, (.b true), .g, (.c (.int .i64 (F34 x1 x2 0)) h), .g, .g, (.w .g), (.w (.c (.int .i64 (F34 x3 x4 0)) h)), (.w .g), (.p true), .g, (.w .g), (.w .g), (.w .g), (.w (.c (.int .i64 (F35 x1 x2)) h)), (.w (.c (.int .i64 (F35 x3 x4)) h)), (.w (.c (.int .i64 (F34 x3 x4 0)) h)), (.w .g), (.w .g), (.p true), .g, (.w .g), (.w .g), (.w .g), (.w (.c (.int .i64 (F35 x3 x4)) h)), (.w (.c (.int .i64 (F35 x1 x2)) h)), (.w (.c (.int .i64 (F34 x1 x2 0)) h)), (.w .g), (.w .g), (.p true), .g]) (args := [.agg #[.int .i64 x1, .int .i64 x2], .agg #[.int .i64 x3, .int .i64 x4], .int .i64 x5]) (h := h) (h' := h) (v := .bool (decide ((F35 x3 x4) < (IntKind.i64.wrap ((F35 x1 x2) + (F34 x1 x2 0)))))) (hC := (And.intro c15 (And.intro (g_tt c15) (And.intro (g_tt c15) (And.intro (F34_spec x1 x2 0 h _ rfl) (And.intro (g_tt c15) (And.intro (F35_spec x1 x2 h _ rfl) (And.intro (g_tt c15) (And.intro (F35_spec x3 x4 h _ rfl) (And.intro (g_tt c15) (And.intro (g_tt c15) (And.intro (g_tt c15) (And.intro (g_tt c15) (And.intro c11 (And.intro (g_tt c11) (And.intro (g_tt c11) (And.intro (F34_spec x3 x4 0 h _ rfl) (And.intro (g_tt c11) (And.intro (F35_spec x3 x4 h _ rfl) (And.intro (g_tt c11) (And.intro (F35_spec x1 x2 h _ rfl) (And.intro (g_tt c11) (And.intro (g_tt c11) (And.intro (g_tt c11) (And.intro (g_tt c11) (And.intro c9 (And.intro (g_tt c9) (And.intro (F34_spec x3 x4 0 h _ rfl) (And.intro (g_tt c9) (And.intro (g_tt c9) (And.intro (F34_spec x1 x2 0 h _ rfl) (And.intro c7 (And.intro (F16_spec x5 h _ rfl) trivial))))))))))))))))))))))))))))))))) (hr := by kernel_rfl)
        · intro hr
          obtain rfl := Option.some.inj hr
          exact pFun_sound good tab_ok (f := 32) (its := [.g, .g, .g, .g, (.c (.int .i64 (F16 x5)) h), .g, .g, .g, (.b true), .g, (.c (.int .i64 (F34 x1 x2 0)) h), .g, .g, (.w .g), (.w (.c (.int .i64 (F34 x3 x4 0)) h)), (.w .g), (.p true), .g, (.w .g), (.w .g), (.w .g), (.w (.c (.int .i64 (F35 x1 x2)) h)), (.w (.c (.int .i64 (F35 x3 x4)) h)), (.w (.c (.int .i64 (F34 x3 x4 0)) h)), (.w .g), (.w .g), (.p true), .g, .n, .n, .n, .n, .n, .n, .n, .n, (.p false), .g]) (args := [.agg #[.int .i64 x1, .int .i64 x2], .agg #[.int .i64 x3, .int .i64 x4], .int .i64 x5]) (h := h) (h' := h) (v := .bool false) (hC := (And.intro c15 (And.intro (g_ft c15) (And.intro (g_ft c15) (And.intro (g_ft c15) (And.intro (g_ft c15) (And.intro (g_ft c15) (And.intro (g_ft c15) (And.intro (g_ft c15) (And.intro (g_ft c15) (And.intro c11 (And.intro (g_tt c11) (And.intro (g_tt c11) (And.intro (F34_spec x3 x4 0 h _ rfl) (And.intro (g_tt c11) (And.intro (F35_spec x3 x4 h _ rfl) (And.intro (g_tt c11) (And.intro (F35_spec x1 x2 h _ rfl) (And.intro (g_tt c11) (And.intro (g_tt c11) (And.intro (g_tt c11) (And.intro (g_tt c11) (And.intro c9 (And.intro (g_tt c9) (And.intro (F34_spec x3 x4 0 h _ rfl) (And.intro (g_tt c9) (And.intro (g_tt c9) (And.intro (F34_spec x1 x2 0 h _ rfl) (And.intro c7 (And.intro (F16_spec x5 h _ rfl) trivial)))))))))))))))))))))))))))))) (hr := by kernel_rfl)
      · intro hr
        obtain rfl := Option.some.inj hr
        exact pFun_sound good tab_ok (f := 32) (its := [.g, .g, .g, .g, (.c (.int .i64 (F16 x5)) h), .g, .g, .g, (.b true), .g, (.c (.int .i64 (F34 x1 x2 0)) h), .g, .g, (.w .g), (.w (.c (.int .i64 (F34 x3 x4 0)) h)), (.w .g), (.p true), .g, .n, .n, .n, .n, .n, .n, .n, .n, (.p false), .g, .n, .n, .n, .n, .n, .n, .n, .n, .g, .g]) (args := [.agg #[.int .i64 x1, .int .i64 x2], .agg #[.int .i64 x3, .int .i64 x4], .int .i64 x5]) (h := h) (h' := h) (v := .bool false) (hC := (And.intro (g_ft l_f) (And.intro (g_ft l_f) (And.intro (g_ft l_f) (And.intro (g_ft l_f) (And.intro (g_ft l_f) (And.intro (g_ft l_f) (And.intro (g_ft l_f) (And.intro (g_ft l_f) (And.intro c11 (And.intro (g_ft c11) (And.intro (g_ft c11) (And.intro (g_ft c11) (And.intro (g_ft c11) (And.intro (g_ft c11) (And.intro (g_ft c11) (And.intro (g_ft c11) (And.intro (g_ft c11) (And.intro c9 (And.intro (g_tt c9) (And.intro (F34_spec x3 x4 0 h _ rfl) (And.intro (g_tt c9) (And.intro (g_tt c9) (And.intro (F34_spec x1 x2 0 h _ rfl) (And.intro c7 (And.intro (F16_spec x5 h _ rfl) trivial)))))))))))))))))))))))))) (hr := by kernel_rfl)
    · intro hr
      obtain rfl := Option.some.inj hr
      exact pFun_sound good tab_ok (f := 32) (its := [.g, .g, .g, .g, (.c (.int .i64 (F16 x5)) h), .g, .g, .g, (.b true), .g, (.c (.int .i64 (F34 x1 x2 0)) h), .g, .g, .n, .n, .n, (.p false), .g, .n, .n, .n, .n, .n, .n, .n, .n, .g, .g, .n, .n, .n, .n, .n, .n, .n, .n, .g, .g]) (args := [.agg #[.int .i64 x1, .int .i64 x2], .agg #[.int .i64 x3, .int .i64 x4], .int .i64 x5]) (h := h) (h' := h) (v := .bool false) (hC := (And.intro (g_ft l_f) (And.intro (g_ft l_f) (And.intro (g_ft l_f) (And.intro (g_ft l_f) (And.intro (g_ft l_f) (And.intro (g_ft l_f) (And.intro (g_ft l_f) (And.intro (g_ft l_f) (And.intro (g_ft l_f) (And.intro (g_ft l_f) (And.intro (g_ft l_f) (And.intro (g_ft l_f) (And.intro (g_ft l_f) (And.intro (g_ft l_f) (And.intro (g_ft l_f) (And.intro (g_ft l_f) (And.intro c9 (And.intro (g_ft c9) (And.intro (g_ft c9) (And.intro (g_ft c9) (And.intro (F34_spec x1 x2 0 h _ rfl) (And.intro c7 (And.intro (F16_spec x5 h _ rfl) trivial)))))))))))))))))))))))) (hr := by kernel_rfl)
  · refine bind_opt fun y27 e27 => ?_
    refine dec_bif (fun c28 => ?_) (fun c28 => ?_)
    · intro hr
      obtain rfl := Option.some.inj hr
      exact pFun_sound good tab_ok (f := 32) (its := [.g, .g, .g, .g, (.c (.int .i64 (F16 x5)) h), .g, .g, .g, (.b false), .g, .g, (.l F32_m1_1 [] .ret (F32_x1_0 h y27))]) (args := [.agg #[.int .i64 x1, .int .i64 x2], .agg #[.int .i64 x3, .int .i64 x4], .int .i64 x5]) (h := h) (h' := h) (v := .bool true) (hC := (And.intro (F32_l1_0 h x1 x2 x3 x4 x5 0 y27 e27 c28) (And.intro c7 (And.intro (F16_spec x5 h _ rfl) trivial)))) (hr := by kernel_rfl)
    · intro hr
      obtain rfl := Option.some.inj hr
      exact pFun_sound good tab_ok (f := 32) (its := [.g, .g, .g, .g, (.c (.int .i64 (F16 x5)) h), .g, .g, .g, (.b false), .g, .g, (.l F32_m1_1 [] (.exit 0) (F32_x1_1 h y27)), .g]) (args := [.agg #[.int .i64 x1, .int .i64 x2], .agg #[.int .i64 x3, .int .i64 x4], .int .i64 x5]) (h := h) (h' := h) (v := .bool false) (hC := (And.intro (F32_l1_1 h x1 x2 x3 x4 x5 0 y27 e27 c28) (And.intro c7 (And.intro (F16_spec x5 h _ rfl) trivial)))) (hr := by kernel_rfl)
/-! 13 jacquard/jacquardref38.Proper -/
def F13_L : List Nat := []
def F13_D : List (Nat × List (Nat × Nat)) := [(11, [(0, 1), (1, 1), (2, 1), (3, 1), (4, 1), (5, 1), (6, 1), (7, 1), (8, 1), (9, 1), (10, 1), (11, 1), (12, 1), (13, 1), (14, 1), (15, 1), (16, 1), (17, 1), (18, 1), (19, 0), (20, 1)])]
def F13_m1_2 : List Bool := [false, false, false, true, true, true, true, true, true, true, true, true, true, true, true, false, false, true, true, true, true, true, true, true, true, true, true, true, true, true, true, true, true, true, true, true, true, true, true, true, true, true, true, true, true, true, true, true, true, true, true]
def F13_m1_1 : List Bool := [false, false, false, true, true, true, true, false, true, true, true, true, true, true, true, false, false, true, true, true, true, true, true, true, false, false, true, true, true, true, true, true, true, true, true, true, true, true, true, true, true, true, true, true, true, true, true, true, true, true, true]
def F13_m1_0 : List Bool := [true, true, true, true, true, true, false, true, true, true, true, true, true, true, true, true, true, true, true, true, true, true, true, true, true, true, true, true, true, true, true, true, true, true, true, true, true, true, true, true, true, true, true, true, true, true, true, true, true, true, true]
def F13_s1 (l1 : List (Int × Int)) (x2 : Int) (l3 : List Int) (a5 : Int) (y7 : Int) (a9 : Int) : Option (Int ⊕ Nat) :=
  (bif decide (a9 < a5) then
   (Option.bind (at? l3 a9) fun y11 =>
   (bif (y11 == y7) then
    (Option.bind (at? l1 a9) fun y13 =>
    (Option.bind (at? l1 a5) fun y14 =>
    (Option.bind (F32 y13.1 y13.2 y14.1 y14.2 x2) fun y15 =>
    (bif y15 then
     some (.inr 0)
    else
     some (.inl (IntKind.i64.wrap (a9 + 1)))))))
   else
    some (.inl (IntKind.i64.wrap (a9 + 1)))))
  else
   some (.inr 1))
def F13_h1 (h : AHeap) (l1 : List (Int × Int)) (v1 : Hd) (x2 : Int) (v3 : Hd) (a5 : Int)  (a9 : Int) : AS := ⟨[(sv v1), .int .i64 x2, (sv v3), junk, junk, junk, junk, .int .i64 a5, junk, junk, junk, junk, junk, junk, junk, .int .i64 (l1.length : Int), .int .i64 a5, junk, junk, junk, junk, junk, junk, junk, .int .i64 a5, .int .i64 a9, junk, junk, junk, junk, junk, junk, junk, junk, junk, junk, junk, junk, junk, junk, junk, junk, junk, junk, junk, junk, junk, junk, junk, junk, junk], [], h⟩
theorem F13_d1 : drawsOk F13_D (codeOf Try.prog 13 [1, 1, 0, 1, 0, 0, 1, 1, 0, 0, 1, 1, 1, 0, 0]) = true := by kernel_rfl
def F13_x1_0 (h : AHeap) (l1 : List (Int × Int)) (v1 : Hd) (x2 : Int) (v3 : Hd) (a5 : Int)  (r : Nat) : AS := ⟨[junk, junk, junk, junk, junk, junk, .bool false, junk, junk, junk, junk, junk, junk, junk, junk, junk, junk, junk, junk, junk, junk, junk, junk, junk, junk, junk, junk, junk, junk, junk, junk, junk, junk, junk, junk, junk, junk, junk, junk, junk, junk, junk, junk, junk, junk, junk, junk, junk, junk, junk, junk], [], h⟩
def F13_x1_1 (h : AHeap) (l1 : List (Int × Int)) (v1 : Hd) (x2 : Int) (v3 : Hd) (a5 : Int)  (r : Nat) : AS := ⟨[(sv v1), .int .i64 x2, (sv v3), junk, junk, junk, junk, junk, junk, junk, junk, junk, junk, junk, junk, .int .i64 (l1.length : Int), .int .i64 a5, junk, junk, junk, junk, junk, junk, junk, junk, junk, junk, junk, junk, junk, junk, junk, junk, junk, junk, junk, junk, junk, junk, junk, junk, junk, junk, junk, junk, junk, junk, junk, junk, junk, junk], [], h⟩
def F13_x1 (h : AHeap) (l1 : List (Int × Int)) (v1 : Hd) (x2 : Int) (v3 : Hd) (a5 : Int) (r : Nat) : Exit × AS := (bif Nat.beq r 0 then (.ret, (F13_x1_0 h l1 v1 x2 v3 a5 r)) else ((.exit 2), (F13_x1_1 h l1 v1 x2 v3 a5 r)))
set_option maxRecDepth 100000 in
theorem F13_r1 (h : AHeap) (l1 : List (Int × Int)) (v1 : Hd) (hv1 : SlE E24 2 h (sv v1) l1) (x2 : Int) (l3 : List Int) (v3 : Hd) (hv3 : SlE E3 1 h (sv v3) l3) (a5 : Int) (y7 : Int) (id7 : Nat) (off7 : Nat) (g7 : Nat) (ix7 : ixv 1 (sv v3) a5 = some (id7, off7, g7)) (at7 : At h id7 off7 g7 (enc3 y7)) (a9 : Int) (o : Int ⊕ Nat) : F13_s1 l1 x2 l3 a5 y7 a9 = some o → RdF Try.prog (codeOf Try.prog 13 [1, 1, 0, 1, 0, 0, 1, 1, 0, 0, 1, 1, 1, 0, 0]) (fun (s : Int) => (F13_h1 h l1 v1 x2 v3 a5 s)) (F13_x1 h l1 v1 x2 v3 a5) (F13_h1 h l1 v1 x2 v3 a5 a9) o := by
  unfold F13_s1
  refine dec_bif (fun c10 => ?_) (fun c10 => ?_)
  · refine bind_opt fun y11 e11 => ?_
    obtain ⟨id11, off11, g11, cs11, ix11, at11, rfl⟩ := SlE.at hv3 e11
    refine dec_bif (fun c12 => ?_) (fun c12 => ?_)
    · refine bind_opt fun y13 e13 => ?_
      obtain ⟨id13, off13, g13, cs13, ix13, at13, rfl⟩ := SlE.at hv1 e13
      refine bind_opt fun y14 e14 => ?_
      obtain ⟨id14, off14, g14, cs14, ix14, at14, rfl⟩ := SlE.at hv1 e14
      refine bind_opt fun y15 e15 => ?_
      refine dec_bif (fun c17 => ?_) (fun c17 => ?_)
      · intro hr
        obtain rfl := Option.some.inj hr
        show AWp Try.prog _ (Ends1 ((F13_x1 h l1 v1 x2 v3 a5) (0 : Nat)).1 ((F13_x1 h l1 v1 x2 v3 a5) (0 : Nat)).2) _
        exact pEnd_sound good (L := F13_L) (D := F13_D) (its := [.g, (.b true), .g, .g, .g, .g, (.ix id11 off11 g11), (.ld (.int .i64 y11)), .g, .g, (.ix id7 off7 g7), (.ld (.int .i64 y7)), .g, .g, (.w .g), (.w .g), (.w (.ix id13 off13 g13)), (.w (.ld (.agg #[.int .i64 y13.1, .int .i64 y13.2]))), (.w .g), (.w .g), (.w (.ix id14 off14 g14)), (.w (.ld (.agg #[.int .i64 y14.1, .int .i64 y14.2]))), (.w .g), (.w (.c (.bool y15) h)), (.p true), (.b true), .g]) (ds := F13_m1_0) (ks := []) (e := ((F13_x1 h l1 v1 x2 v3 a5) (0 : Nat)).1) (s2 := ((F13_x1 h l1 v1 x2 v3 a5) (0 : Nat)).2) (hC := (And.intro c17 (And.intro c12 (And.intro (F32_spec y13.1 y13.2 y14.1 y14.2 x2 h _ e15) (And.intro (g_tt c12) (And.intro (g_tt c12) (And.intro (At.agg (P := Try.prog) (t := 24) (v := .agg #[.int .i64 y14.1, .int .i64 y14.2]) (m := 2) at14 (by kernel_rfl) (by kernel_rfl) 0 (by kernel_rfl) rfl) (And.intro (g_tt c12) (And.intro ix14 (And.intro (g_tt c12) (And.intro (g_tt c12) (And.intro (g_tt c12) (And.intro (At.agg (P := Try.prog) (t := 24) (v := .agg #[.int .i64 y13.1, .int .i64 y13.2]) (m := 2) at13 (by kernel_rfl) (by kernel_rfl) 0 (by kernel_rfl) rfl) (And.intro (g_tt c12) (And.intro ix13 (And.intro (g_tt c12) (And.intro (g_tt c12) (And.intro (g_tt c12) (And.intro (At.one (P := Try.prog) (t := 3) (v := .int .i64 y7) at7 (by kernel_rfl) 0 rfl rfl) (And.intro ix7 (And.intro (At.one (P := Try.prog) (t := 3) (v := .int .i64 y11) at11 (by kernel_rfl) 0 rfl rfl) (And.intro ix11 (And.intro c10 trivial))))))))))))))))))))))) (hd := F13_d1) (h := by kernel_rfl)
      · intro hr
        obtain rfl := Option.some.inj hr
        show AWp Try.prog _ (Ends1 .normal (F13_h1 h l1 v1 x2 v3 a5 (IntKind.i64.wrap (a9 + 1)))) _
        exact pEnd_sound good (L := F13_L) (D := F13_D) (its := [.g, (.b true), .g, .g, .g, .g, (.ix id11 off11 g11), (.ld (.int .i64 y11)), .g, .g, (.ix id7 off7 g7), (.ld (.int .i64 y7)), .g, .g, (.w .g), (.w .g), (.w (.ix id13 off13 g13)), (.w (.ld (.agg #[.int .i64 y13.1, .int .i64 y13.2]))), (.w .g), (.w .g), (.w (.ix id14 off14 g14)), (.w (.ld (.agg #[.int .i64 y14.1, .int .i64 y14.2]))), (.w .g), (.w (.c (.bool y15) h)), (.p true), (.b false), .g, .g]) (ds := F13_m1_1) (ks := []) (e := .normal) (s2 := (F13_h1 h l1 v1 x2 v3 a5 (IntKind.i64.wrap (a9 + 1)))) (hC := (And.intro c17 (And.intro c12 (And.intro (F32_spec y13.1 y13.2 y14.1 y14.2 x2 h _ e15) (And.intro (g_tt c12) (And.intro (g_tt c12) (And.intro (At.agg (P := Try.prog) (t := 24) (v := .agg #[.int .i64 y14.1, .int .i64 y14.2]) (m := 2) at14 (by kernel_rfl) (by kernel_rfl) 0 (by kernel_rfl) rfl) (And.intro (g_tt c12) (And.intro ix14 (And.intro (g_tt c12) (And.intro (g_tt c12) (And.intro (g_tt c12) (And.intro (At.agg (P := Try.prog) (t := 24) (v := .agg #[.int .i64 y13.1, .int .i64 y13.2]) (m := 2) at13 (by kernel_rfl) (by kernel_rfl) 0 (by kernel_rfl) rfl) (And.intro (g_tt c12) (And.intro ix13 (And.intro (g_tt c12) (And.intro (g_tt c12) (And.intro (g_tt c12) (And.intro (At.one (P := Try.prog) (t := 3) (v := .int .i64 y7) at7 (by kernel_rfl) 0 rfl rfl) (And.intro ix7 (And.intro (At.one (P := Try.prog) (t := 3) (v := .int .i64 y11) at11 (by kernel_rfl) 0 rfl rfl) (And.intro ix11 (And.intro c10 trivial))))))))))))))))))))))) (hd := F13_d1) (h := by kernel_rfl)
    · intro hr
      obtain rfl := Option.some.inj hr
      show AWp Try.prog _ (Ends1 .normal (F13_h1 h l1 v1 x2 v3 a5 (IntKind.i64.wrap (a9 + 1)))) _
      exact pEnd_sound good (L := F13_L) (D := F13_D) (its := [.g, (.b true), .g, .g, .g, .g, (.ix id11 off11 g11), (.ld (.int .i64 y11)), .g, .g, (.ix id7 off7 g7), (.ld (.int .i64 y7)), .g, .g, .n, .n, .n, .n, .n, .n, .n, .n, .n, .n, (.p false), (.b false), .g, .g]) (ds := F13_m1_1) (ks := []) (e := .normal) (s2 := (F13_h1 h l1 v1 x2 v3 a5 (IntKind.i64.wrap (a9 + 1)))) (hC := (And.intro l_f (And.intro c12 (And.intro (g_ft c12) (And.intro (g_ft c12) (And.intro (g_ft c12) (And.intro (g_ft c12) (And.intro (g_ft c12) (And.intro (g_ft c12) (And.intro (g_ft c12) (And.intro (g_ft c12) (And.intro (g_ft c12) (And.intro (g_ft c12) (And.intro (At.one (P := Try.prog) (t := 3) (v := .int .i64 y7) at7 (by kernel_rfl) 0 rfl rfl) (And.intro ix7 (And.intro (At.one (P := Try.prog) (t := 3) (v := .int .i64 y11) at11 (by kernel_rfl) 0 rfl rfl) (And.intro ix11 (And.intro c10 trivial)))))))))))))))))) (hd := F13_d1) (h := by kernel_rfl)
  · intro hr
    obtain rfl := Option.some.inj hr
    show AWp Try.prog _ (Ends1 ((F13_x1 h l1 v1 x2 v3 a5) (1 : Nat)).1 ((F13_x1 h l1 v1 x2 v3 a5) (1 : Nat)).2) _
    exact pEnd_sound good (L := F13_L) (D := F13_D) (its := [.g, (.b false)]) (ds := F13_m1_2) (ks := []) (e := ((F13_x1 h l1 v1 x2 v3 a5) (1 : Nat)).1) (s2 := ((F13_x1 h l1 v1 x2 v3 a5) (1 : Nat)).2) (hC := (And.intro c10 trivial)) (hd := F13_d1) (h := by kernel_rfl)
theorem F13_l1_0 (h : AHeap) (l1 : List (Int × Int)) (v1 : Hd) (hv1 : SlE E24 2 h (sv v1) l1) (x2 : Int) (l3 : List Int) (v3 : Hd) (hv3 : SlE E3 1 h (sv v3) l3) (a5 : Int) (y7 : Int) (id7 : Nat) (off7 : Nat) (g7 : Nat) (ix7 : ixv 1 (sv v3) a5 = some (id7, off7, g7)) (at7 : At h id7 off7 g7 (enc3 y7)) (x : Int) (r : Nat) (hl : loopO (fun (s : Int) => F13_s1 l1 x2 l3 a5 y7 s) x = some r) (q0 : Nat.beq r 0 = true) : AWp Try.prog (.loop (codeOf Try.prog 13 [1, 1, 0, 1, 0, 0, 1, 1, 0, 0, 1, 1, 1, 0, 0])) (Ends1 .ret (F13_x1_0 h l1 v1 x2 v3 a5 r)) ((fun (s : Int) => (F13_h1 h l1 v1 x2 v3 a5 s)) x) := by
  have k := loop_fun (P := Try.prog) (c := (codeOf Try.prog 13 [1, 1, 0, 1, 0, 0, 1, 1, 0, 0, 1, 1, 1, 0, 0])) (step := (fun (s : Int) => F13_s1 l1 x2 l3 a5 y7 s)) (hd := (fun (s : Int) => (F13_h1 h l1 v1 x2 v3 a5 s))) (X := (F13_x1 h l1 v1 x2 v3 a5)) (by intro t; unfold F13_x1; cases Nat.beq t 0 <;> (intro h; cases h)) (fun x => F13_r1 h l1 v1 hv1 x2 l3 v3 hv3 a5 y7 id7 off7 g7 ix7 at7 x) hl
  simp only [F13_x1, q0, cond_true, cond_false] at k
  exact k
theorem F13_l1_1 (h : AHeap) (l1 : List (Int × Int)) (v1 : Hd) (hv1 : SlE E24 2 h (sv v1) l1) (x2 : Int) (l3 : List Int) (v3 : Hd) (hv3 : SlE E3 1 h (sv v3) l3) (a5 : Int) (y7 : Int) (id7 : Nat) (off7 : Nat) (g7 : Nat) (ix7 : ixv 1 (sv v3) a5 = some (id7, off7, g7)) (at7 : At h id7 off7 g7 (enc3 y7)) (x : Int) (r : Nat) (hl : loopO (fun (s : Int) => F13_s1 l1 x2 l3 a5 y7 s) x = some r) (q0 : Nat.beq r 0 = false) : AWp Try.prog (.loop (codeOf Try.prog 13 [1, 1, 0, 1, 0, 0, 1, 1, 0, 0, 1, 1, 1, 0, 0])) (Ends1 (.exit 2) (F13_x1_1 h l1 v1 x2 v3 a5 r)) ((fun (s : Int) => (F13_h1 h l1 v1 x2 v3 a5 s)) x) := by
  have k := loop_fun (P := Try.prog) (c := (codeOf Try.prog 13 [1, 1, 0, 1, 0, 0, 1, 1, 0, 0, 1, 1, 1, 0, 0])) (step := (fun (s : Int) => F13_s1 l1 x2 l3 a5 y7 s)) (hd := (fun (s : Int) => (F13_h1 h l1 v1 x2 v3 a5 s))) (X := (F13_x1 h l1 v1 x2 v3 a5)) (by intro t; unfold F13_x1; cases Nat.beq t 0 <;> (intro h; cases h)) (fun x => F13_r1 h l1 v1 hv1 x2 l3 v3 hv3 a5 y7 id7 off7 g7 ix7 at7 x) hl
  simp only [F13_x1, q0, cond_true, cond_false] at k
  exact k
def F13_m2_2 : List Bool := [true, true, true, true, true, true, true, true, true, true, true, true, true, true, true, true, true, true, true, true, true, true, true, true, true, true, true, true, true, true, true, true, true, true, true, true, true, true, true, true, true, true, true, true, true, true, true, true, true, true, true]
def F13_m2_1 : List Bool := [false, false, false, true, true, true, true, true, true, true, true, true, true, true, true, false, false, true, true, true, true, true, true, true, true, true, true, true, true, true, true, true, true, true, true, true, true, true, true, true, true, true, true, true, true, true, true, true, true, true, true]
def F13_m2_0 : List Bool := [true, true, true, true, true, true, false, true, true, true, true, true, true, true, true, true, true, true, true, true, true, true, true, true, true, true, true, true, true, true, true, true, true, true, true, true, true, true, true, true, true, true, true, true, true, true, true, true, true, true, true]
def F13_s2 (l1 : List (Int × Int)) (x2 : Int) (l3 : List Int) (a5 : Int) : Option (Int ⊕ Nat) :=
  (bif decide (a5 < (l1.length : Int)) then
   (Option.bind (at? l3 a5) fun y7 =>
   (bif decide (y7 < 0) then
    some (.inr 0)
   else
    (Option.bind (loopO (fun (s : Int) => F13_s1 l1 x2 l3 a5 y7 s) 0) fun y18 =>
    (bif (Nat.beq y18 0) then
     some (.inr 0)
    else
     some (.inl (IntKind.i64.wrap (a5 + 1)))))))
  else
   some (.inr 1))
def F13_h2 (h : AHeap) (l1 : List (Int × Int)) (v1 : Hd) (x2 : Int) (v3 : Hd)  (a5 : Int) : AS := ⟨[(sv v1), .int .i64 x2, (sv v3), junk, junk, junk, junk, junk, junk, junk, junk, junk, junk, junk, junk, .int .i64 (l1.length : Int), .int .i64 a5, junk, junk, junk, junk, junk, junk, junk, junk, junk, junk, junk, junk, junk, junk, junk, junk, junk, junk, junk, junk, junk, junk, junk, junk, junk, junk, junk, junk, junk, junk, junk, junk, junk, junk], [], h⟩
theorem F13_d2 : drawsOk F13_D (codeOf Try.prog 13 [1, 1, 0, 1, 0, 0]) = true := by kernel_rfl
def F13_x2_0 (h : AHeap)  (r : Nat) : AS := ⟨[junk, junk, junk, junk, junk, junk, .bool false, junk, junk, junk, junk, junk, junk, junk, junk, junk, junk, junk, junk, junk, junk, junk, junk, junk, junk, junk, junk, junk, junk, junk, junk, junk, junk, junk, junk, junk, junk, junk, junk, junk, junk, junk, junk, junk, junk, junk, junk, junk, junk, junk, junk], [], h⟩
def F13_x2_1 (h : AHeap)  (r : Nat) : AS := ⟨[junk, junk, junk, junk, junk, junk, junk, junk, junk, junk, junk, junk, junk, junk, junk, junk, junk, junk, junk, junk, junk, junk, junk, junk, junk, junk, junk, junk, junk, junk, junk, junk, junk, junk, junk, junk, junk, junk, junk, junk, junk, junk, junk, junk, junk, junk, junk, junk, junk, junk, junk], [], h⟩
def F13_x2 (h : AHeap) (r : Nat) : Exit × AS := (bif Nat.beq r 0 then (.ret, (F13_x2_0 h r)) else ((.exit 0), (F13_x2_1 h r)))
set_option maxRecDepth 100000 in
theorem F13_r2 (h : AHeap) (l1 : List (Int × Int)) (v1 : Hd) (hv1 : SlE E24 2 h (sv v1) l1) (x2 : Int) (l3 : List Int) (v3 : Hd) (hv3 : SlE E3 1 h (sv v3) l3) (a5 : Int) (o : Int ⊕ Nat) : F13_s2 l1 x2 l3 a5 = some o → RdF Try.prog (codeOf Try.prog 13 [1, 1, 0, 1, 0, 0]) (fun (s : Int) => (F13_h2 h l1 v1 x2 v3 s)) (F13_x2 h) (F13_h2 h l1 v1 x2 v3 a5) o := by
  unfold F13_s2
  refine dec_bif (fun c6 => ?_) (fun c6 => ?_)
  · refine bind_opt fun y7 e7 => ?_
    obtain ⟨id7, off7, g7, cs7, ix7, at7, rfl⟩ := SlE.at hv3 e7
    refine dec_bif (fun c8 => ?_) (fun c8 => ?_)
    · intro hr
      obtain rfl := Option.some.inj hr
      show AWp Try.prog _ (Ends1 ((F13_x2 h) (0 : Nat)).1 ((F13_x2 h) (0 : Nat)).2) _
      exact pEnd_sound good (L := F13_L) (D := F13_D) (its := [.g, (.b true), .g, .g, .g, .g, (.ix id7 off7 g7), (.ld (.int .i64 y7)), .g, (.b true), .g]) (ds := F13_m2_0) (ks := []) (e := ((F13_x2 h) (0 : Nat)).1) (s2 := ((F13_x2 h) (0 : Nat)).2) (hC := (And.intro c8 (And.intro (At.one (P := Try.prog) (t := 3) (v := .int .i64 y7) at7 (by kernel_rfl) 0 rfl rfl) (And.intro ix7 (And.intro c6 trivial))))) (hd := F13_d2) (h := by kernel_rfl)
    · refine bind_opt fun y18 e18 => ?_
      refine dec_bif (fun c19 => ?_) (fun c19 => ?_)
      · intro hr
        obtain rfl := Option.some.inj hr
        show AWp Try.prog _ (Ends1 ((F13_x2 h) (0 : Nat)).1 ((F13_x2 h) (0 : Nat)).2) _
        exact pEnd_sound good (L := F13_L) (D := F13_D) (its := [.g, (.b true), .g, .g, .g, .g, (.ix id7 off7 g7), (.ld (.int .i64 y7)), .g, (.b false), .g, .g, (.l F13_m1_1 [] .ret (F13_x1_0 h l1 v1 x2 v3 a5 y18))]) (ds := F13_m2_0) (ks := []) (e := ((F13_x2 h) (0 : Nat)).1) (s2 := ((F13_x2 h) (0 : Nat)).2) (hC := (And.intro (F13_l1_0 h l1 v1 hv1 x2 l3 v3 hv3 a5 y7 id7 off7 g7 ix7 at7 0 y18 e18 c19) (And.intro c8 (And.intro (At.one (P := Try.prog) (t := 3) (v := .int .i64 y7) at7 (by kernel_rfl) 0 rfl rfl) (And.intro ix7 (And.intro c6 trivial)))))) (hd := F13_d2) (h := by kernel_rfl)
      · intro hr
        obtain rfl := Option.some.inj hr
        show AWp Try.prog _ (Ends1 .normal (F13_h2 h l1 v1 x2 v3 (IntKind.i64.wrap (a5 + 1)))) _
        exact pEnd_sound good (L := F13_L) (D := F13_D) (its := [.g, (.b true), .g, .g, .g, .g, (.ix id7 off7 g7), (.ld (.int .i64 y7)), .g, (.b false), .g, .g, (.l F13_m1_1 [] (.exit 2) (F13_x1_1 h l1 v1 x2 v3 a5 y18)), .g, .g]) (ds := F13_m2_1) (ks := []) (e := .normal) (s2 := (F13_h2 h l1 v1 x2 v3 (IntKind.i64.wrap (a5 + 1)))) (hC := (And.intro (F13_l1_1 h l1 v1 hv1 x2 l3 v3 hv3 a5 y7 id7 off7 g7 ix7 at7 0 y18 e18 c19) (And.intro c8 (And.intro (At.one (P := Try.prog) (t := 3) (v := .int .i64 y7) at7 (by kernel_rfl) 0 rfl rfl) (And.intro ix7 (And.intro c6 trivial)))))) (hd := F13_d2) (h := by kernel_rfl)
  · intro hr
    obtain rfl := Option.some.inj hr
    show AWp Try.prog _ (Ends1 ((F13_x2 h) (1 : Nat)).1 ((F13_x2 h) (1 : Nat)).2) _
    exact pEnd_sound good (L := F13_L) (D := F13_D) (its := [.g, (.b false)]) (ds := F13_m2_2) (ks := []) (e := ((F13_x2 h) (1 : Nat)).1) (s2 := ((F13_x2 h) (1 : Nat)).2) (hC := (And.intro c6 trivial)) (hd := F13_d2) (h := by kernel_rfl)
theorem F13_l2_0 (h : AHeap) (l1 : List (Int × Int)) (v1 : Hd) (hv1 : SlE E24 2 h (sv v1) l1) (x2 : Int) (l3 : List Int) (v3 : Hd) (hv3 : SlE E3 1 h (sv v3) l3) (x : Int) (r : Nat) (hl : loopO (fun (s : Int) => F13_s2 l1 x2 l3 s) x = some r) (q0 : Nat.beq r 0 = true) : AWp Try.prog (.loop (codeOf Try.prog 13 [1, 1, 0, 1, 0, 0])) (Ends1 .ret (F13_x2_0 h r)) ((fun (s : Int) => (F13_h2 h l1 v1 x2 v3 s)) x) := by
  have k := loop_fun (P := Try.prog) (c := (codeOf Try.prog 13 [1, 1, 0, 1, 0, 0])) (step := (fun (s : Int) => F13_s2 l1 x2 l3 s)) (hd := (fun (s : Int) => (F13_h2 h l1 v1 x2 v3 s))) (X := (F13_x2 h)) (by intro t; unfold F13_x2; cases Nat.beq t 0 <;> (intro h; cases h)) (fun x => F13_r2 h l1 v1 hv1 x2 l3 v3 hv3 x) hl
  simp only [F13_x2, q0, cond_true, cond_false] at k
  exact k
theorem F13_l2_1 (h : AHeap) (l1 : List (Int × Int)) (v1 : Hd) (hv1 : SlE E24 2 h (sv v1) l1) (x2 : Int) (l3 : List Int) (v3 : Hd) (hv3 : SlE E3 1 h (sv v3) l3) (x : Int) (r : Nat) (hl : loopO (fun (s : Int) => F13_s2 l1 x2 l3 s) x = some r) (q0 : Nat.beq r 0 = false) : AWp Try.prog (.loop (codeOf Try.prog 13 [1, 1, 0, 1, 0, 0])) (Ends1 (.exit 0) (F13_x2_1 h r)) ((fun (s : Int) => (F13_h2 h l1 v1 x2 v3 s)) x) := by
  have k := loop_fun (P := Try.prog) (c := (codeOf Try.prog 13 [1, 1, 0, 1, 0, 0])) (step := (fun (s : Int) => F13_s2 l1 x2 l3 s)) (hd := (fun (s : Int) => (F13_h2 h l1 v1 x2 v3 s))) (X := (F13_x2 h)) (by intro t; unfold F13_x2; cases Nat.beq t 0 <;> (intro h; cases h)) (fun x => F13_r2 h l1 v1 hv1 x2 l3 v3 hv3 x) hl
  simp only [F13_x2, q0, cond_true, cond_false] at k
  exact k
def F13 (l1 : List (Int × Int)) (x2 : Int) (l3 : List Int) : Option (Bool) :=
  (bif ((l3.length : Int) != (l1.length : Int)) then
   some (false)
  else
   (Option.bind (loopO (fun (s : Int) => F13_s2 l1 x2 l3 s) 0) fun y20 =>
   (bif (Nat.beq y20 0) then
    some (false)
   else
    some (true))))
set_option maxRecDepth 100000 in
theorem F13_spec (l1 : List (Int × Int)) (x2 : Int) (l3 : List Int) (v1 : Hd) (v3 : Hd) (h : AHeap) (hv1 : SlE E24 2 h (sv v1) l1) (hv3 : SlE E3 1 h (sv v3) l3) (r : Bool) : F13 l1 x2 l3 = some r → ACalls Try.prog 13 [(sv v1), .int .i64 x2, (sv v3)] h (fun v' h'' => v' = (.bool r : Value) ∧ h'' = h) := by
  unfold F13
  refine dec_bif (fun c4 => ?_) (fun c4 => ?_)
  · intro hr
    obtain rfl := Option.some.inj hr
    exact pFun_sound good tab_ok (f := 13) (its := [.g, .g, (.ln l3.length), .g, (.ln l1.length), .g, (.b true), .g]) (args := [(sv v1), .int .i64 x2, (sv v3)]) (h := h) (h' := h) (v := .bool false) (hC := (And.intro c4 (And.intro (SlE.len hv1) (And.intro (SlE.len hv3) trivial)))) (hr := by kernel_rfl)
  · refine bind_opt fun y20 e20 => ?_
    refine dec_bif (fun c21 => ?_) (fun c21 => ?_)
    · intro hr
      obtain rfl := Option.some.inj hr
      exact pFun_sound good tab_ok (f := 13) (its := [.g, .g, (.ln l3.length), .g, (.ln l1.length), .g, (.b false), .g, (.ln l1.length), .g, (.l F13_m2_1 [] .ret (F13_x2_0 h y20))]) (args := [(sv v1), .int .i64 x2, (sv v3)]) (h := h) (h' := h) (v := .bool false) (hC := (And.intro (F13_l2_0 h l1 v1 hv1 x2 l3 v3 hv3 0 y20 e20 c21) (And.intro (SlE.len hv1) (And.intro c4 (And.intro (SlE.len hv1) (And.intro (SlE.len hv3) trivial)))))) (hr := by kernel_rfl)
    · intro hr
      obtain rfl := Option.some.inj hr
      exact pFun_sound good tab_ok (f := 13) (its := [.g, .g, (.ln l3.length), .g, (.ln l1.length), .g, (.b false), .g, (.ln l1.length), .g, (.l F13_m2_1 [] (.exit 0) (F13_x2_1 h y20)), .g]) (args := [(sv v1), .int .i64 x2, (sv v3)]) (h := h) (h' := h) (v := .bool true) (hC := (And.intro (F13_l2_1 h l1 v1 hv1 x2 l3 v3 hv3 0 y20 e20 c21) (And.intro (SlE.len hv1) (And.intro c4 (And.intro (SlE.len hv1) (And.intro (SlE.len hv3) trivial)))))) (hr := by kernel_rfl)
/-! 4 jacquard/jacquardlaw38.ColorProper -/
def F4 (l1 : List (Int × Int)) (x2 : Int) (l3 : List Int) : Option (Bool) :=
  (bif decide ((l1.length : Int) > 30) then
   some (true)
  else
   (bif decide ((l3.length : Int) > 40) then
    some (true)
   else
    (Option.bind (F12 l1 x2 l3) fun y9 =>
    (Option.bind (F13 l1 x2 l3) fun y11 =>
    some (y9 == y11)))))
set_option maxRecDepth 100000 in
theorem F4_spec (l1 : List (Int × Int)) (x2 : Int) (l3 : List Int) (v1 : Hd) (v3 : Hd) (h : AHeap) (hw : h.wf) (hv1 : SlE E24 2 h (sv v1) l1) (hv3 : SlE E3 1 h (sv v3) l3) (r : Bool) : F4 l1 x2 l3 = some r → ∃ (h' : AHeap), Heapy h h' [] ∧ ACalls Try.prog 4 [(sv v1), .int .i64 x2, (sv v3)] h (fun v' h'' => v' = (.bool r : Value) ∧ h'' = h') := by
  unfold F4
  refine dec_bif (fun c5 => ?_) (fun c5 => ?_)
  · intro hr
    obtain rfl := Option.some.inj hr
    exact ⟨h, Heapy.pick (Heapy.refl hw) [] (by decide), pFun_sound good tab_ok (f := 4) (its := [.g, (.c (.bool true) h), .g, .g, (.w .g), (.w (.ln l1.length)), (.w .g), .g, .g, .n, .n, .n, (.p true), (.b true), (.c (.bool true) h), .g]) (args := [(sv v1), .int .i64 x2, (sv v3)]) (h := h) (h' := h) (v := .bool true) (hC := (And.intro (F9_spec h _ rfl) (And.intro l_t (And.intro c5 (And.intro (g_tf c5) (And.intro (g_tf c5) (And.intro (g_tf c5) (And.intro (g_ff l_f) (And.intro (SlE.len hv1) (And.intro (g_ff l_f) (And.intro (g_ff l_f) (And.intro (F9_spec h _ rfl) trivial)))))))))))) (hr := by kernel_rfl)⟩
  · refine dec_bif (fun c7 => ?_) (fun c7 => ?_)
    · intro hr
      obtain rfl := Option.some.inj hr
      exact ⟨h, Heapy.pick (Heapy.refl hw) [] (by decide), pFun_sound good tab_ok (f := 4) (its := [.g, (.c (.bool true) h), .g, .g, (.w .g), (.w (.ln l1.length)), (.w .g), .g, .g, (.w .g), (.w (.ln l3.length)), (.w .g), (.p false), (.b true), (.c (.bool true) h), .g]) (args := [(sv v1), .int .i64 x2, (sv v3)]) (h := h) (h' := h) (v := .bool true) (hC := (And.intro (F9_spec h _ rfl) (And.intro c7 (And.intro c5 (And.intro (g_ff c5) (And.intro (SlE.len hv3) (And.intro (g_ff c5) (And.intro (g_ff c5) (And.intro (g_ff l_f) (And.intro (SlE.len hv1) (And.intro (g_ff l_f) (And.intro (g_ff l_f) (And.intro (F9_spec h _ rfl) trivial))))))))))))) (hr := by kernel_rfl)⟩
    · refine bind_opt fun y9 e9 => ?_
      obtain ⟨h10, q10, c10⟩ := F12_spec l1 x2 l3 v1 v3 h hw hv1 hv3 _ e9
      have hp10 : Heapy h h10 [] := Heapy.call (Heapy.refl hw) q10
      refine bind_opt fun y11 e11 => ?_
      intro hr
      obtain rfl := Option.some.inj hr
      exact ⟨h10, Heapy.pick hp10 [] (by decide), pFun_sound good tab_ok (f := 4) (its := [.g, (.c (.bool true) h), .g, .g, (.w .g), (.w (.ln l1.length)), (.w .g), .g, .g, (.w .g), (.w (.ln l3.length)), (.w .g), (.p false), (.b false), .g, .g, .g, (.c (.bool y9) h10), .g, .g, .g, (.c (.bool y11) h10), .g, .g]) (args := [(sv v1), .int .i64 x2, (sv v3)]) (h := h) (h' := h10) (v := .bool (y9 == y11)) (hC := (And.intro (F13_spec l1 x2 l3 v1 v3 h10 (SlE.mono hv1 (Heapy.sub hp10) (E24_mono (Heapy.sub hp10))) (SlE.mono hv3 (Heapy.sub hp10) (E3_mono (Heapy.sub hp10))) _ e11) (And.intro c10 (And.intro c7 (And.intro c5 (And.intro (g_ff c5) (And.intro (SlE.len hv3) (And.intro (g_ff c5) (And.intro (g_ff c5) (And.intro (g_ff l_f) (And.intro (SlE.len hv1) (And.intro (g_ff l_f) (And.intro (g_ff l_f) (And.intro (F9_spec h _ rfl) trivial)))))))))))))) (hr := by kernel_rfl)⟩
set_option maxRecDepth 100000 in
theorem F4_law (H : ∀ (l1 : List (Int × Int)) (x2 : Int) (l3 : List Int), (l1.length ≤ maxLen ∧ l1.length * 16 ≤ reachBytes) → (∀ y ∈ l1, W24 y) → (Lit.int .i64 x2).wf = true → (l3.length ≤ maxLen ∧ l3.length * 8 ≤ reachBytes) → (∀ y ∈ l3, W3 y) → F4 l1 x2 l3 = some true) : Law Try.prog 4 10 [22, 3, 31] := by
  intro s us hwf hro hT0
  obtain ⟨u0, vs0, rfl, t0, hT1⟩ := wts_cons hT0
  have k0 := wtv_oneS 3 (ks := [.slice 24]) (by kernel_rfl) (by kernel_rfl) t0
  obtain ⟨v1, r_l1, e_l1, q_l1, k0_0⟩ := sq_slice k0
  obtain ⟨l1, a_l1, m_l1, w_l1⟩ := q_l1 E24 W24 2 (by kernel_rfl) fun n cs H => E24_wt H
  obtain ⟨rfl, rfl⟩ := List.cons.inj e_l1
  have k0_0' := sq_nil k0_0
  obtain ⟨u1, vs1, rfl, t1, hT2⟩ := wts_cons hT1
  have k1 := wtv_oneS 1 (ks := [.int .i64]) (by kernel_rfl) (by kernel_rfl) t1
  obtain ⟨x2, r_x2, e_x2, w_x2, k1_0⟩ := sq_int k1
  obtain ⟨rfl, rfl⟩ := List.cons.inj e_x2
  have k1_0' := sq_nil k1_0
  obtain ⟨u2, vs2, rfl, t2, hT3⟩ := wts_cons hT2
  have k2 := wtv_oneS 2 (ks := [.slice 3]) (by kernel_rfl) (by kernel_rfl) t2
  obtain ⟨v3, r_l3, e_l3, q_l3, k2_0⟩ := sq_slice k2
  obtain ⟨l3, a_l3, m_l3, w_l3⟩ := q_l3 E3 W3 1 (by kernel_rfl) fun n cs H => E3_wt H
  obtain ⟨rfl, rfl⟩ := List.cons.inj e_l3
  have k2_0' := sq_nil k2_0
  obtain rfl := wts_nil hT3
  obtain ⟨h2, _, hc⟩ := F4_spec l1 x2 l3 v1 v3 s hwf a_l1 a_l3 _ (H l1 x2 l3 m_l1 w_l1 w_x2 m_l3 w_l3)
  refine (hc).mono ?_
  rintro v h' ⟨rfl, rfl⟩
  rfl
end
end Go.Proofs.Ytdoafmfkbddmlac.Abs
