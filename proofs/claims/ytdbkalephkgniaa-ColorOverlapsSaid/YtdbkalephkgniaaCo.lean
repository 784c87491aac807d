/-
  Contracts, written by program: for each function what its call yields, and that it yields it.
-/
import Derived.Test.YtdbkalephkgniaaVw
import Derived.Test.YtdbkalephkgniaaChecked
namespace Go.Proofs.Ytdbkalephkgniaa.Abs
open Go
set_option linter.unusedVariables false
set_option linter.unusedSimpArgs false

theorem good : Good Try.prog := good_of Try.checked.mixed (by kernel_rfl)
noncomputable section
def tabC : List FEnt := [
  { f := 16, L := [], D := [(3, [(0, 1), (1, 1), (2, 1), (3, 1), (4, 1), (5, 1), (6, 0), (7, 1), (8, 1), (9, 1), (10, 1), (11, 1), (12, 1), (13, 1), (14, 1), (15, 1), (16, 1), (17, 1), (18, 1), (19, 1), (20, 1), (21, 1)])] },
  { f := 17, L := [3, 4], D := [(2, [(0, 1), (1, 1), (2, 1), (3, 1), (4, 1), (5, 1), (6, 1), (7, 0), (8, 1)])] },
  { f := 37, L := [10], D := [(22, [(0, 1), (1, 1), (2, 1), (3, 1), (4, 1), (5, 1), (6, 1), (7, 1), (8, 1), (9, 0), (10, 1), (11, 1), (12, 1), (13, 1), (14, 1), (15, 1), (16, 1), (17, 1)])] },
  { f := 38, L := [8], D := [] },
  { f := 39, L := [3, 4], D := [] },
  { f := 72, L := [7, 13, 16], D := [(19, [(0, 1), (1, 1), (2, 1), (3, 1), (4, 1), (5, 1), (6, 1), (7, 1), (8, 1), (9, 1)]), (20, [(0, 1), (1, 1), (2, 1), (3, 1), (4, 1), (5, 1), (6, 1), (7, 1), (8, 1), (9, 1), (10, 1), (11, 1), (12, 1)]), (35, [(0, 1), (1, 1), (2, 1), (3, 1), (4, 1), (5, 1), (6, 1), (7, 1), (8, 1), (9, 1), (10, 1), (11, 0)])] },
  { f := 73, L := [], D := [] },
  { f := 74, L := [], D := [] },
  { f := 75, L := [], D := [] },
  { f := 76, L := [8, 9], D := [(1, [(0, 1), (1, 1), (2, 1), (3, 1), (5, 1), (8, 1), (9, 1), (4, 3), (6, 1), (7, 3), (10, 0), (11, 0)])] },
  { f := 77, L := [], D := [] },
  { f := 78, L := [], D := [] },
  { f := 79, L := [3], D := [] },
  { f := 80, L := [], D := [] },
  { f := 90, L := [], D := [(17, [(0, 1), (1, 1), (2, 1), (3, 1), (4, 1), (5, 1), (6, 1), (7, 1), (8, 1), (9, 1), (10, 1), (11, 1), (12, 1), (13, 0), (14, 1), (15, 1), (16, 1)])] },
  { f := 91, L := [], D := [] },
  { f := 92, L := [], D := [] },
  { f := 95, L := [], D := [(4, [(0, 1), (1, 1), (2, 1), (3, 1), (4, 1), (5, 1), (6, 1), (7, 1), (8, 1), (9, 1), (10, 1), (11, 1), (12, 1), (13, 1), (14, 0), (15, 1), (16, 1)]), (6, [(0, 1), (1, 1), (2, 1), (3, 1), (4, 1), (5, 1), (6, 1), (7, 1), (8, 1), (9, 1), (10, 1), (11, 1), (12, 1), (13, 1), (14, 1), (15, 0), (16, 1), (17, 0)])] },
  { f := 96, L := [], D := [(10, [(0, 1), (1, 1), (2, 1), (3, 1), (4, 1), (5, 1), (6, 1), (7, 1), (8, 1), (9, 1), (10, 1), (11, 1), (12, 1), (13, 1), (14, 1), (15, 1), (16, 1), (17, 0), (18, 1), (19, 0)])] },
  { f := 97, L := [], D := [(10, [(0, 1), (1, 1), (2, 1), (3, 1), (4, 1), (5, 1), (6, 1), (7, 1), (8, 1), (9, 1), (10, 1), (11, 1), (12, 1), (13, 1), (14, 1), (15, 1), (16, 1), (17, 0), (18, 1), (19, 0)])] },
  { f := 98, L := [], D := [] },
  { f := 99, L := [], D := [(3, [(0, 1), (1, 1), (2, 1), (3, 1), (4, 1), (5, 1), (6, 1), (7, 1), (8, 1), (9, 1), (10, 1), (11, 1), (12, 1), (13, 0), (14, 1), (15, 0)])] },
  { f := 100, L := [], D := [(5, [(0, 1), (1, 1), (2, 1), (3, 1), (4, 1), (5, 1), (6, 1), (7, 1), (8, 1), (9, 1), (10, 1), (11, 1), (12, 1), (13, 1), (14, 0), (15, 1), (16, 1), (17, 1)]), (11, [(0, 1), (1, 1), (2, 1), (3, 1), (4, 1), (5, 1), (6, 1), (7, 1), (8, 1), (9, 1), (10, 1), (11, 1), (12, 1), (13, 1), (14, 1), (15, 0), (16, 1), (17, 0)]), (16, [(0, 1), (1, 1), (2, 1), (3, 1), (4, 1), (5, 1), (6, 1), (7, 1), (8, 1), (9, 1), (10, 0), (11, 1), (12, 1)]), (17, [(0, 1), (1, 1), (2, 1), (3, 1), (4, 1), (5, 1), (6, 1), (7, 1), (8, 1), (9, 1), (10, 1), (11, 1), (12, 1), (13, 1), (14, 1), (15, 0), (16, 1), (17, 0)]), (22, [(0, 1), (1, 1), (2, 1), (3, 1), (4, 1), (5, 1), (6, 1), (7, 1), (8, 1), (9, 1), (10, 0), (11, 1), (12, 1)]), (23, [(0, 1), (1, 1), (2, 1), (3, 1), (4, 1), (5, 1), (6, 1), (7, 1), (8, 1), (9, 1), (10, 1), (11, 1), (12, 1), (13, 1), (14, 1), (15, 0), (16, 1), (17, 0)])] },
  { f := 101, L := [], D := [(1, [(0, 1), (1, 1), (2, 1), (3, 1), (4, 1), (5, 1), (6, 1), (7, 1), (8, 1), (9, 1), (10, 1), (11, 1), (12, 1), (13, 0), (14, 1), (15, 0)]), (3, [(0, 1), (1, 1), (2, 1), (3, 1), (4, 1), (5, 1), (6, 1), (7, 1), (8, 1), (9, 1), (10, 1), (11, 1), (12, 1), (13, 0), (14, 1), (15, 1), (16, 1)]), (5, [(0, 1), (1, 1), (2, 1), (3, 1), (4, 1), (5, 1), (6, 1), (7, 1), (8, 1), (9, 1), (10, 1), (11, 1), (12, 1), (13, 0), (14, 1), (15, 1)]), (8, [(0, 1), (1, 1), (2, 1), (3, 1), (4, 1), (5, 1), (6, 1), (7, 1), (8, 1), (9, 1), (10, 1), (11, 1), (12, 1), (13, 0), (14, 1), (15, 0)])] },
  { f := 102, L := [], D := [(1, [(0, 1), (1, 1), (2, 1), (3, 1), (4, 1), (5, 1), (6, 1), (7, 1), (8, 1), (9, 1), (10, 1), (11, 1), (12, 1), (13, 0), (14, 1), (15, 0)]), (3, [(0, 1), (1, 1), (2, 1), (3, 1), (4, 1), (5, 1), (6, 1), (7, 1), (8, 1), (9, 1), (10, 1), (11, 1), (12, 1), (13, 0), (14, 1), (15, 1)]), (5, [(0, 1), (1, 1), (2, 1), (3, 1), (4, 1), (5, 1), (6, 1), (7, 1), (8, 1), (9, 1), (10, 1), (11, 1), (12, 1), (13, 0), (14, 1), (15, 1), (16, 1)]), (8, [(0, 1), (1, 1), (2, 1), (3, 1), (4, 1), (5, 1), (6, 1), (7, 1), (8, 1), (9, 1), (10, 1), (11, 1), (12, 1), (13, 0), (14, 1), (15, 0)]), (10, [(0, 1), (1, 1), (2, 1), (3, 1), (4, 1), (5, 1), (6, 1), (7, 1), (8, 1), (9, 1), (10, 1), (11, 1), (12, 1), (13, 0), (14, 1), (15, 0)]), (13, [(0, 1), (1, 1), (2, 1), (3, 1), (4, 1), (5, 1), (6, 1), (7, 1), (8, 1), (9, 1), (10, 1), (11, 1), (12, 1), (13, 0), (14, 1), (15, 1)]), (15, [(0, 1), (1, 1), (2, 1), (3, 1), (4, 1), (5, 1), (6, 1), (7, 1), (8, 1), (9, 1), (10, 1), (11, 1), (12, 1), (13, 0), (14, 1), (15, 1), (16, 1)]), (18, [(0, 1), (1, 1), (2, 1), (3, 1), (4, 1), (5, 1), (6, 1), (7, 1), (8, 1), (9, 1), (10, 1), (11, 1), (12, 1), (13, 0), (14, 1), (15, 0)]), (21, [(0, 1), (1, 1), (2, 1), (3, 1), (4, 1), (5, 1), (6, 1), (7, 1), (8, 1), (9, 1), (10, 1), (11, 1), (12, 1), (13, 0), (14, 1), (15, 0)])] },
  { f := 103, L := [], D := [] },
  { f := 104, L := [], D := [] },
  { f := 105, L := [], D := [(3, [(0, 1), (1, 1), (2, 1), (3, 1), (4, 1), (5, 1), (6, 1), (7, 1), (8, 1), (9, 1), (10, 1), (11, 1), (12, 1), (13, 1), (14, 1), (15, 1), (16, 1), (17, 1), (18, 1), (19, 0), (20, 1), (21, 1)]), (5, [(0, 1), (1, 1), (2, 1), (3, 1), (4, 1), (5, 1), (6, 1), (7, 1), (8, 1), (9, 1), (10, 1), (11, 1), (12, 1), (13, 0), (14, 1), (15, 1)]), (6, [(0, 1), (1, 1), (2, 1), (3, 1), (4, 1), (5, 1), (6, 1), (7, 1), (8, 1), (9, 1), (10, 1), (11, 1), (12, 1), (13, 1), (14, 1), (15, 1), (16, 1), (17, 1), (18, 1), (19, 1), (20, 1), (21, 0), (22, 1), (23, 0)])] },
  { f := 106, L := [], D := [] },
  { f := 107, L := [], D := [(1, [(0, 1), (1, 1), (2, 1), (3, 1), (4, 1), (5, 1), (6, 1), (7, 1), (8, 1), (9, 0)]), (2, [(0, 1), (1, 1), (2, 1), (3, 1), (4, 1), (5, 1), (6, 1), (7, 1), (8, 1), (9, 0)]), (3, [(0, 1), (1, 1), (2, 1), (3, 1), (4, 1), (5, 1), (6, 1), (7, 1), (8, 1), (9, 0)])] },
  { f := 108, L := [], D := [] },
  { f := 109, L := [], D := [] },
  { f := 110, L := [], D := [(1, [(0, 1), (1, 1), (2, 1), (3, 1), (4, 1), (5, 1), (6, 1), (7, 1), (8, 1), (9, 0), (10, 1)])] }]

theorem tabC_ok : tabOk Try.prog tabC = true := by kernel_rfl
theorem F16_run : rIs (rCall 2000 Try.prog tabC 40 16 [] AHeap.none) true = true := by kernel_rfl
theorem F16_spec0 (h : AHeap) : ACalls Try.prog 16 [] h (fun v' h'' => v' = (.bool true : Value) ∧ h'' = h) := acalls_run good 2000 40 tabC tabC_ok F16_run rfl h
def F16 : Unit := ()
theorem F16_spec (h : AHeap) (r : Unit) (_ : F16 = r) : ACalls Try.prog 16 [] h (fun v' h'' => v' = (.bool true : Value) ∧ h'' = h) := F16_spec0 h
def tab : List FEnt := [
  { f := 5, L := [3, 4], D := [(3, [(0, 1), (1, 1), (2, 1), (6, 1), (4, 2), (5, 2), (3, 0), (7, 0), (8, 1), (9, 1), (10, 1), (11, 1), (12, 1), (16, 1), (14, 2), (15, 2), (13, 0), (17, 0), (18, 1), (19, 1), (20, 1)])] },
  { f := 17, L := [3, 4], D := [(2, [(0, 1), (1, 1), (2, 1), (3, 1), (4, 1), (5, 1), (6, 1), (7, 0), (8, 1)])] },
  { f := 18, L := [3, 4], D := [(3, [(0, 1), (1, 0), (2, 1), (3, 1), (4, 1), (5, 0), (6, 1), (7, 1), (8, 1), (9, 1), (11, 2), (13, 2), (10, 0), (12, 0), (14, 0), (15, 1), (16, 1), (17, 1), (18, 1), (19, 1), (21, 2), (23, 2), (20, 0), (22, 0), (24, 0), (25, 1), (26, 1), (27, 1), (28, 1)])] },
  { f := 38, L := [8], D := [] },
  { f := 39, L := [3, 4], D := [] },
  { f := 40, L := [], D := [] },
  { f := 41, L := [2], D := [] },
  { f := 42, L := [1], D := [] },
  { f := 43, L := [3], D := [(3, [(0, 1), (1, 1), (2, 0), (3, 1), (4, 1), (5, 1), (6, 1), (9, 1), (8, 2), (7, 0), (10, 0), (11, 1), (12, 1), (13, 1), (14, 1)]), (4, [(0, 1), (1, 1), (4, 1), (7, 1), (6, 2), (2, 0), (3, 1), (5, 0), (8, 0), (9, 1), (10, 1)])] },
  { f := 81, L := [], D := [] }]

theorem tab_ok : tabOk Try.prog tab = true := by kernel_rfl
def enc43 (x : Int × Int) : List Value := [.int .i64 x.1, .int .i64 x.2]
def E43 (h : AHeap) (cs : List Value) (x : Int × Int) : Prop := cs = enc43 x
theorem E43_mono {h h' : AHeap} (le : h.sub h') (cs : List Value) (x : Int × Int) (H : E43 h cs x) : E43 h' cs x := H
def W43 (x : Int × Int) : Prop := (Lit.int .i64 x.1).wf = true ∧ (Lit.int .i64 x.2).wf = true ∧ True
set_option maxRecDepth 100000 in
theorem E43_wt {h : AHeap} {n : Nat} {cs : List Value} (H : WT Try.prog h n 43 cs) : ∃ x, E43 h cs x ∧ W43 x := by
  have k : SQ Try.prog h [.int .i64, .int .i64] cs := wt_flatS 2 n (by kernel_rfl) H
  obtain ⟨x0, r0, rfl, w0, k0⟩ := sq_int k
  obtain ⟨x1, r1, rfl, w1, k1⟩ := sq_int k0
  obtain rfl := sq_nil k1
  exact ⟨(x0, x1), rfl, ⟨w0, w1, trivial⟩⟩
/-! 38 jacquard/color.limits -/
def F38_L : List Nat := [8]
def F38_D : List (Nat × List (Nat × Nat)) := []
def F38__1 (y10 : Int × Int) : Int := (if 1073741824 < (if (-1073741824) > y10.1 then (-1073741824) else y10.1) then 1073741824 else (if (-1073741824) > y10.1 then (-1073741824) else y10.1))
def F38__2 (y10 : Int × Int) : Int := (if 1048576 < (if 0 > y10.2 then 0 else y10.2) then 1048576 else (if 0 > y10.2 then 0 else y10.2))
def F38__3 (x2 : Int) : Bool := decide ((if 256 < (if 0 > x2 then 0 else x2) then 256 else (if 0 > x2 then 0 else x2)) > 0)
def F38__4 (x2 : Int) (y10 : Int × Int) : Int := (if (if 256 < (if 0 > x2 then 0 else x2) then 256 else (if 0 > x2 then 0 else x2)) < (F38__2 y10) then (if 256 < (if 0 > x2 then 0 else x2) then 256 else (if 0 > x2 then 0 else x2)) else (F38__2 y10))
def F38__5 (x2 : Int) (y10 : Int × Int) : Int := ((F38__1 y10).tmod (if 256 < (if 0 > x2 then 0 else x2) then 256 else (if 0 > x2 then 0 else x2)))
def F38__6 (x2 : Int) (y10 : Int × Int) : Int := (IntKind.i64.wrap ((F38__5 x2 y10) + (if 256 < (if 0 > x2 then 0 else x2) then 256 else (if 0 > x2 then 0 else x2))))
def F38_m1_1 : List Bool := [true, false, true, true, true, true, false, true, true, true, true, true, true, true, true, true, true, true, true, true, true, true, true, true, true, true, true, true, true, true, true, true, true, true, true, true, true, true, true, true, true, true, true, true, true, true, true, true, true, true, true, true, true, true, true, true, true, true, true]
def F38_m1_0 : List Bool := [true, false, true, true, true, true, false, true, true, true, true, true, true, true, true, false, false, false, true, true, true, true, true, true, true, true, true, true, true, true, true, true, true, true, true, true, true, true, true, true, true, true, true, true, true, true, true, true, true, true, true, true, true, true, true, true, true, true, true]
def F38_s1 (l1 : List (Int × Int)) (x2 : Int) (a6 : Int) (l7 : List (Int × Int)) : Option ((Int × (List (Int × Int))) ⊕ (List (Int × Int))) :=
  (bif decide (a6 < (l1.length : Int)) then
   (Option.bind (at? l1 a6) fun y10 =>
   (bif (F38__3 x2) then
    (bif ((if 256 < (if 0 > x2 then 0 else x2) then 256 else (if 0 > x2 then 0 else x2)) == 0) then none else
    (bif decide ((F38__5 x2 y10) < 0) then
     (Option.bind (at? l7 a6) fun y14 =>
     some (.inl ((IntKind.i64.wrap (a6 + 1)), (setI l7 a6 ((F38__6 x2 y10), (F38__4 x2 y10))))))
    else
     (Option.bind (at? l7 a6) fun y16 =>
     some (.inl ((IntKind.i64.wrap (a6 + 1)), (setI l7 a6 ((F38__5 x2 y10), (F38__4 x2 y10))))))))
   else
    (Option.bind (at? l7 a6) fun y18 =>
    some (.inl ((IntKind.i64.wrap (a6 + 1)), (setI l7 a6 ((F38__1 y10), (F38__2 y10))))))))
  else
   some (.inr l7))
def F38_h1 (l1 : List (Int × Int)) (v1 : Hd) (x2 : Int) (h8 : AHeap) (u7 : Hd) (a6 : Int) (l7 : List (Int × Int)) : AS := ⟨[junk, .int .i64 (if 256 < (if 0 > x2 then 0 else x2) then 256 else (if 0 > x2 then 0 else x2)), junk, junk, junk, junk, (sv u7), junk, junk, junk, junk, junk, junk, junk, junk, (sv v1), .int .i64 (l1.length : Int), .int .i64 a6, junk, junk, junk, junk, junk, junk, junk, junk, junk, junk, junk, junk, junk, junk, junk, junk, junk, junk, junk, junk, junk, junk, junk, junk, junk, junk, junk, junk, junk, junk, junk, junk, junk, junk, junk, junk, junk, junk, junk, junk, junk], [], h8⟩
theorem F38_d1 : drawsOk F38_D (codeOf Try.prog 38 [1, 1, 1, 0, 1, 0, 0]) = true := by kernel_rfl
def F38_x1_0 (h : AHeap) (x2 : Int) (hx : AHeap) (w0 : Hd) (r : (List (Int × Int))) : AS := ⟨[junk, .int .i64 (if 256 < (if 0 > x2 then 0 else x2) then 256 else (if 0 > x2 then 0 else x2)), junk, junk, junk, junk, (sv w0), junk, junk, junk, junk, junk, junk, junk, junk, junk, junk, junk, junk, junk, junk, junk, junk, junk, junk, junk, junk, junk, junk, junk, junk, junk, junk, junk, junk, junk, junk, junk, junk, junk, junk, junk, junk, junk, junk, junk, junk, junk, junk, junk, junk, junk, junk, junk, junk, junk, junk, junk, junk], [], hx⟩
def F38_i1 (h : AHeap) (l1 : List (Int × Int)) (v1 : Hd) (x2 : Int) (s : Int × (List (Int × Int))) (S : AS) : Prop := ∃ (h8 : AHeap) (u7 : Hd), Heapy h h8 [⟨u7, 43, 2, List.flatMap enc43 s.2⟩] ∧ S = (F38_h1 l1 v1 x2 h8 u7 s.1 s.2)
def F38_x1 (h : AHeap) (x2 : Int) (r : (List (Int × Int))) (e : Exit) (S : AS) : Prop := e = (.exit 0) ∧ ∃ (hx : AHeap) (w0 : Hd), Heapy h hx [⟨w0, 43, 2, List.flatMap enc43 r⟩] ∧ S = (F38_x1_0 h x2 hx w0 r)
set_option maxRecDepth 100000 in
theorem F38_r1 (h : AHeap) (l1 : List (Int × Int)) (v1 : Hd) (hv1 : SlE E43 2 h (sv v1) l1) (x2 : Int) (a6 : Int) (l7 : List (Int × Int)) (S : AS) (hI : (F38_i1 h l1 v1 x2) (a6, l7) S) (o : (Int × (List (Int × Int))) ⊕ (List (Int × Int))) : F38_s1 l1 x2 a6 l7 = some o → Rd Try.prog (codeOf Try.prog 38 [1, 1, 1, 0, 1, 0, 0]) (F38_i1 h l1 v1 x2) (F38_x1 h x2) S o := by
  obtain ⟨h8, u7, hp8, rfl⟩ := hI
  unfold F38_s1
  refine dec_bif (fun c9 => ?_) (fun c9 => ?_)
  · refine bind_opt fun y10 e10 => ?_
    obtain ⟨id10, off10, g10, cs10, ix10, at10, rfl⟩ := SlE.at hv1 e10
    refine dec_bif (fun c11 => ?_) (fun c11 => ?_)
    · refine guard_ok fun g12 => ?_
      refine dec_bif (fun c13 => ?_) (fun c13 => ?_)
      · refine bind_opt fun y14 e14 => ?_
        obtain ⟨id14, off14, g14, cs14, ix14, at14, rfl⟩ := SlE.at (Heapy.sle (v := u7) (xs := l7) (enc := enc43) hp8 0 rfl (fun _ => rfl) (by decide)) e14
        obtain ⟨h15, m15, hp15⟩ := Heapy.store (P := Try.prog) hp8 0 (v := u7) (xs := l7) (enc := enc43) rfl (fun _ => rfl) e14 (y' := ((F38__6 x2 y10), (F38__4 x2 y10))) ix14 (t := 43) (x := .agg #[.int .i64 (F38__6 x2 y10), .int .i64 (F38__4 x2 y10)]) 0 (vs := [.int .i64 (F38__6 x2 y10), .int .i64 (F38__4 x2 y10)]) rfl (by kernel_rfl) rfl rfl rfl rfl
        intro hr
        obtain rfl := Option.some.inj hr
        exact ⟨(F38_h1 l1 v1 x2 h15 u7 (IntKind.i64.wrap (a6 + 1)) (setI l7 a6 ((F38__6 x2 y10), (F38__4 x2 y10)))), ⟨h15, u7, (Heapy.pick hp15 [0] (by decide)), rfl⟩, pEnd_sound good (L := F38_L) (D := F38_D) (its := [.g, (.b true), .g, (.ix id10 off10 g10), (.ld (.agg #[.int .i64 y10.1, .int .i64 y10.2])), .g, .g, .g, .g, .g, .g, .g, .g, .g, .g, .g, .g, .g, .g, .g, .g, .g, (.b true), .g, .g, .g, .g, .g, .g, .g, .g, .g, .d, .g, .g, .g, .g, .g, (.b true), .g, .g, .g, .g, .g, .g, .g, .g, .g, (.ix id14 off14 g14), (.mm undef h15), .g, .g]) (ds := F38_m1_0) (ks := [8]) (e := .normal) (s2 := (F38_h1 l1 v1 x2 h15 u7 (IntKind.i64.wrap (a6 + 1)) (setI l7 a6 ((F38__6 x2 y10), (F38__4 x2 y10))))) (hC := (And.intro m15 (And.intro ix14 (And.intro c13 (And.intro (nz g12) (And.intro c11 (And.intro (At.agg (P := Try.prog) (t := 43) (v := .agg #[.int .i64 y10.1, .int .i64 y10.2]) (m := 2) (At.mono (Heapy.sub hp8) at10) (by kernel_rfl) (by kernel_rfl) 0 (by kernel_rfl) rfl) (And.intro ix10 (And.intro c9 trivial))))))))) (hd := F38_d1) (h := by kernel_rfl)⟩
      · refine bind_opt fun y16 e16 => ?_
        obtain ⟨id16, off16, g16, cs16, ix16, at16, rfl⟩ := SlE.at (Heapy.sle (v := u7) (xs := l7) (enc := enc43) hp8 0 rfl (fun _ => rfl) (by decide)) e16
        obtain ⟨h17, m17, hp17⟩ := Heapy.store (P := Try.prog) hp8 0 (v := u7) (xs := l7) (enc := enc43) rfl (fun _ => rfl) e16 (y' := ((F38__5 x2 y10), (F38__4 x2 y10))) ix16 (t := 43) (x := .agg #[.int .i64 (F38__5 x2 y10), .int .i64 (F38__4 x2 y10)]) 0 (vs := [.int .i64 (F38__5 x2 y10), .int .i64 (F38__4 x2 y10)]) rfl (by kernel_rfl) rfl rfl rfl rfl
        intro hr
        obtain rfl := Option.some.inj hr
        exact ⟨(F38_h1 l1 v1 x2 h17 u7 (IntKind.i64.wrap (a6 + 1)) (setI l7 a6 ((F38__5 x2 y10), (F38__4 x2 y10)))), ⟨h17, u7, (Heapy.pick hp17 [0] (by decide)), rfl⟩, pEnd_sound good (L := F38_L) (D := F38_D) (its := [.g, (.b true), .g, (.ix id10 off10 g10), (.ld (.agg #[.int .i64 y10.1, .int .i64 y10.2])), .g, .g, .g, .g, .g, .g, .g, .g, .g, .g, .g, .g, .g, .g, .g, .g, .g, (.b true), .g, .g, .g, .g, .g, .g, .g, .g, .g, .d, .g, .g, .g, .g, .g, (.b false), .g, .g, .g, (.ix id16 off16 g16), (.mm undef h17), .g, .g]) (ds := F38_m1_0) (ks := [8]) (e := .normal) (s2 := (F38_h1 l1 v1 x2 h17 u7 (IntKind.i64.wrap (a6 + 1)) (setI l7 a6 ((F38__5 x2 y10), (F38__4 x2 y10))))) (hC := (And.intro m17 (And.intro ix16 (And.intro c13 (And.intro (nz g12) (And.intro c11 (And.intro (At.agg (P := Try.prog) (t := 43) (v := .agg #[.int .i64 y10.1, .int .i64 y10.2]) (m := 2) (At.mono (Heapy.sub hp8) at10) (by kernel_rfl) (by kernel_rfl) 0 (by kernel_rfl) rfl) (And.intro ix10 (And.intro c9 trivial))))))))) (hd := F38_d1) (h := by kernel_rfl)⟩
    · refine bind_opt fun y18 e18 => ?_
      obtain ⟨id18, off18, g18, cs18, ix18, at18, rfl⟩ := SlE.at (Heapy.sle (v := u7) (xs := l7) (enc := enc43) hp8 0 rfl (fun _ => rfl) (by decide)) e18
      obtain ⟨h19, m19, hp19⟩ := Heapy.store (P := Try.prog) hp8 0 (v := u7) (xs := l7) (enc := enc43) rfl (fun _ => rfl) e18 (y' := ((F38__1 y10), (F38__2 y10))) ix18 (t := 43) (x := .agg #[.int .i64 (F38__1 y10), .int .i64 (F38__2 y10)]) 0 (vs := [.int .i64 (F38__1 y10), .int .i64 (F38__2 y10)]) rfl (by kernel_rfl) rfl rfl rfl rfl
      intro hr
      obtain rfl := Option.some.inj hr
      exact ⟨(F38_h1 l1 v1 x2 h19 u7 (IntKind.i64.wrap (a6 + 1)) (setI l7 a6 ((F38__1 y10), (F38__2 y10)))), ⟨h19, u7, (Heapy.pick hp19 [0] (by decide)), rfl⟩, pEnd_sound good (L := F38_L) (D := F38_D) (its := [.g, (.b true), .g, (.ix id10 off10 g10), (.ld (.agg #[.int .i64 y10.1, .int .i64 y10.2])), .g, .g, .g, .g, .g, .g, .g, .g, .g, .g, .g, .g, .g, .g, .g, .g, .g, (.b false), .g, .g, .g, (.ix id18 off18 g18), (.mm undef h19), .g, .g]) (ds := F38_m1_0) (ks := [8]) (e := .normal) (s2 := (F38_h1 l1 v1 x2 h19 u7 (IntKind.i64.wrap (a6 + 1)) (setI l7 a6 ((F38__1 y10), (F38__2 y10))))) (hC := (And.intro m19 (And.intro ix18 (And.intro c11 (And.intro (At.agg (P := Try.prog) (t := 43) (v := .agg #[.int .i64 y10.1, .int .i64 y10.2]) (m := 2) (At.mono (Heapy.sub hp8) at10) (by kernel_rfl) (by kernel_rfl) 0 (by kernel_rfl) rfl) (And.intro ix10 (And.intro c9 trivial))))))) (hd := F38_d1) (h := by kernel_rfl)⟩
  · intro hr
    obtain rfl := Option.some.inj hr
    refine ⟨(.exit 0), (F38_x1_0 h x2 h8 u7 (l7 : (List (Int × Int)))), (by intro hh; cases hh), ?_, pEnd_sound good (L := F38_L) (D := F38_D) (its := [.g, (.b false)]) (ds := F38_m1_1) (ks := []) (e := (.exit 0)) (s2 := (F38_x1_0 h x2 h8 u7 (l7 : (List (Int × Int))))) (hC := (And.intro c9 trivial)) (hd := F38_d1) (h := by kernel_rfl)⟩
    exact ⟨rfl, h8, u7, (Heapy.pick hp8 [0] (by decide)), rfl⟩
theorem F38_l1 (h : AHeap) (l1 : List (Int × Int)) (v1 : Hd) (hv1 : SlE E43 2 h (sv v1) l1) (x2 : Int) (x : Int × (List (Int × Int))) (r : (List (Int × Int))) (hl : loopO (fun (s : Int × (List (Int × Int))) => F38_s1 l1 x2 s.1 s.2) x = some r) (S : AS) (hI : (F38_i1 h l1 v1 x2) x S) : ∃ e S', (F38_x1 h x2) r e S' ∧ AWp Try.prog (.loop (codeOf Try.prog 38 [1, 1, 1, 0, 1, 0, 0])) (Ends1 e S') S :=
  loop_rel (fun x S hI => F38_r1 h l1 v1 hv1 x2 x.1 x.2 S hI) hl hI
def F38 (l1 : List (Int × Int)) (x2 : Int) : Option ((List (Int × Int)) × Int) :=
  (bif (!(okLen (l1.length : Int) (l1.length : Int) 16)) then none else
  (Option.bind (loopO (fun (s : Int × (List (Int × Int))) => F38_s1 l1 x2 s.1 s.2) (0, (List.replicate (l1.length : Int).toNat (0, 0)))) fun y20 =>
  some (y20, (if 256 < (if 0 > x2 then 0 else x2) then 256 else (if 0 > x2 then 0 else x2)))))
set_option maxRecDepth 100000 in
theorem F38_spec (l1 : List (Int × Int)) (x2 : Int) (v1 : Hd) (h : AHeap) (hw : h.wf) (hv1 : SlE E43 2 h (sv v1) l1) (r : (List (Int × Int)) × Int) : F38 l1 x2 = some r → ∃ (ur0 : Hd) (h' : AHeap), Heapy h h' [⟨ur0, 43, 2, List.flatMap enc43 r.1⟩] ∧ ACalls Try.prog 38 [(sv v1), .int .i64 x2] h (fun v' h'' => v' = (.tuple #[(sv ur0), .int .i64 r.2] : Value) ∧ h'' = h') := by
  unfold F38
  refine guard_ok fun g3 => ?_
  obtain ⟨v4, h4, m4, hp4, _⟩ := Heapy.make (Heapy.refl hw) (show mkInfo Try.prog 87 = some (43, 2, 16, [.int .i64 0, .int .i64 0]) by kernel_rfl) (a := (l1.length : Int)) (b := (l1.length : Int)) (by simpa using g3) (enc := enc43) (x := (0, 0)) rfl rfl
  refine bind_opt fun y20 e20 => ?_
  obtain ⟨ee20, SS20, hX20, hA20⟩ := F38_l1 h l1 v1 hv1 x2 (0, (List.replicate (l1.length : Int).toNat (0, 0))) y20 e20 (F38_h1 l1 v1 x2 h4 v4 0 (List.replicate (l1.length : Int).toNat (0, 0))) ⟨h4, v4, (Heapy.pick hp4 [0] (by decide)), rfl⟩
  obtain ⟨rfl, h21, w0_21, hp21, rfl⟩ := hX20
  intro hr
  obtain rfl := Option.some.inj hr
  exact ⟨w0_21, h21, Heapy.pick hp21 [0] (by decide), pFun_sound good tab_ok (f := 38) (its := [.g, .g, .g, .g, .g, .g, .g, (.ln l1.length), (.mm (sv v4) h4), .g, .g, (.ln l1.length), .g, (.l F38_m1_0 [] (.exit 0) (F38_x1_0 h x2 h21 w0_21 y20)), .g, .g, .g, .g]) (args := [(sv v1), .int .i64 x2]) (h := h) (h' := h21) (v := .tuple #[(sv w0_21), .int .i64 (if 256 < (if 0 > x2 then 0 else x2) then 256 else (if 0 > x2 then 0 else x2))]) (hC := (And.intro hA20 (And.intro (SlE.len hv1) (And.intro m4 (And.intro (SlE.len hv1) trivial))))) (hr := by kernel_rfl)⟩
/-! 39 jacquard/color.overlap -/
def F39__1 (x1 : Int) (x3 : Int) (x4 : Int) (x5 : Int) : Bool := decide ((IntKind.i64.wrap (x5 - ((IntKind.i64.wrap ((IntKind.i64.wrap (x3 - x1)) + x5)).tmod x5))) < x4)
def F39 (x1 : Int) (x2 : Int) (x3 : Int) (x4 : Int) (x5 : Int) : Bool :=
  (bif (x2 == 0) then
   false
  else
   (bif (x4 == 0) then
    false
   else
    (bif (x5 == 0) then
     (bif decide (x1 < (IntKind.i64.wrap (x3 + x4))) then
      (decide (x3 < (IntKind.i64.wrap (x1 + x2))))
     else
      false)
    else
     (bif decide (((IntKind.i64.wrap ((IntKind.i64.wrap (x3 - x1)) + x5)).tmod x5) < x2) then
      true
     else
      (F39__1 x1 x3 x4 x5)))))
set_option maxRecDepth 100000 in
theorem F39_spec (x1 : Int) (x2 : Int) (x3 : Int) (x4 : Int) (x5 : Int) (h : AHeap)  (r : Bool) : F39 x1 x2 x3 x4 x5 = r → ACalls Try.prog 39 [.agg #[.int .i64 x1, .int .i64 x2], .agg #[.int .i64 x3, .int .i64 x4], .int .i64 x5] h (fun v' h'' => v' = (.bool r : Value) ∧ h'' = h) := by
  unfold F39
  refine dec_bif (fun c6 => ?_) (fun c6 => ?_)
  · intro hr
    subst hr
    exact pFun_sound good tab_ok (f := 39) (its := [.g, .g, .g, .g, .g, .g, .g, .n, .n, .n, (.p true), (.b true), .g]) (args := [.agg #[.int .i64 x1, .int .i64 x2], .agg #[.int .i64 x3, .int .i64 x4], .int .i64 x5]) (h := h) (h' := h) (v := .bool false) (hC := (And.intro l_t (And.intro c6 (And.intro (g_tf c6) (And.intro (g_tf c6) (And.intro (g_tf c6) trivial)))))) (hr := by kernel_rfl)
  · refine dec_bif (fun c7 => ?_) (fun c7 => ?_)
    · intro hr
      subst hr
      exact pFun_sound good tab_ok (f := 39) (its := [.g, .g, .g, .g, .g, .g, .g, (.w .g), (.w .g), (.w .g), (.p false), (.b true), .g]) (args := [.agg #[.int .i64 x1, .int .i64 x2], .agg #[.int .i64 x3, .int .i64 x4], .int .i64 x5]) (h := h) (h' := h) (v := .bool false) (hC := (And.intro c7 (And.intro c6 (And.intro (g_ff c6) (And.intro (g_ff c6) (And.intro (g_ff c6) trivial)))))) (hr := by kernel_rfl)
    · refine dec_bif (fun c8 => ?_) (fun c8 => ?_)
      · refine dec_bif (fun c9 => ?_) (fun c9 => ?_)
        · intro hr
          subst hr
          exact pFun_sound good tab_ok (f := 39) (its := [.g, .g, .g, .g, .g, .g, .g, (.w .g), (.w .g), (.w .g), (.p false), (.b false), .g, .g, (.b true), .g, .g, .g, .g, .g, .g, .g, .g, .g, (.w .g), (.w .g), (.w .g), (.w .g), (.w .g), (.w .g), (.w .g), (.w .g), (.p true), .g]) (args := [.agg #[.int .i64 x1, .int .i64 x2], .agg #[.int .i64 x3, .int .i64 x4], .int .i64 x5]) (h := h) (h' := h) (v := .bool (decide (x3 < (IntKind.i64.wrap (x1 + x2))))) (hC := (And.intro c9 (And.intro (g_tt c9) (And.intro (g_tt c9) (And.intro (g_tt c9) (And.intro (g_tt c9) (And.intro (g_tt c9) (And.intro (g_tt c9) (And.intro (g_tt c9) (And.intro (g_tt c9) (And.intro c8 (And.intro c7 (And.intro c6 (And.intro (g_ff c6) (And.intro (g_ff c6) (And.intro (g_ff c6) trivial)))))))))))))))) (hr := by kernel_rfl)
        · intro hr
          subst hr
          exact pFun_sound good tab_ok (f := 39) (its := [.g, .g, .g, .g, .g, .g, .g, (.w .g), (.w .g), (.w .g), (.p false), (.b false), .g, .g, (.b true), .g, .g, .g, .g, .g, .g, .g, .g, .g, .n, .n, .n, .n, .n, .n, .n, .n, (.p false), .g]) (args := [.agg #[.int .i64 x1, .int .i64 x2], .agg #[.int .i64 x3, .int .i64 x4], .int .i64 x5]) (h := h) (h' := h) (v := .bool false) (hC := (And.intro c9 (And.intro (g_ft c9) (And.intro (g_ft c9) (And.intro (g_ft c9) (And.intro (g_ft c9) (And.intro (g_ft c9) (And.intro (g_ft c9) (And.intro (g_ft c9) (And.intro (g_ft c9) (And.intro c8 (And.intro c7 (And.intro c6 (And.intro (g_ff c6) (And.intro (g_ff c6) (And.intro (g_ff c6) trivial)))))))))))))))) (hr := by kernel_rfl)
      · refine dec_bif (fun c10 => ?_) (fun c10 => ?_)
        · intro hr
          subst hr
          exact pFun_sound good tab_ok (f := 39) (its := [.g, .g, .g, .g, .g, .g, .g, (.w .g), (.w .g), (.w .g), (.p false), (.b false), .g, .g, (.b false), .g, .g, .g, .g, .g, .g, .g, .g, .d, .g, .g, .g, .g, .g, .g, .n, .n, .n, .n, .n, .n, (.p true), .g]) (args := [.agg #[.int .i64 x1, .int .i64 x2], .agg #[.int .i64 x3, .int .i64 x4], .int .i64 x5]) (h := h) (h' := h) (v := .bool true) (hC := (And.intro c10 (And.intro (g_tf c10) (And.intro (g_tf c10) (And.intro (g_tf c10) (And.intro (g_tf c10) (And.intro (g_tf c10) (And.intro (g_tf c10) (And.intro (nz c8) (And.intro c8 (And.intro c7 (And.intro c6 (And.intro (g_ff c6) (And.intro (g_ff c6) (And.intro (g_ff c6) trivial))))))))))))))) (hr := by kernel_rfl)
        · intro hr
          subst hr
          exact pFun_sound good tab_ok (f := 39) (its := [.g, .g, .g, .g, .g, .g, .g, (.w .g), (.w .g), (.w .g), (.p false), (.b false), .g, .g, (.b false), .g, .g, .g, .g, .g, .g, .g, .g, .d, .g, .g, .g, .g, .g, .g, (.w .g), (.w .g), (.w .g), (.w .g), (.w .g), (.w .g), (.p false), .g]) (args := [.agg #[.int .i64 x1, .int .i64 x2], .agg #[.int .i64 x3, .int .i64 x4], .int .i64 x5]) (h := h) (h' := h) (v := .bool (F39__1 x1 x3 x4 x5)) (hC := (And.intro c10 (And.intro (g_ff c10) (And.intro (g_ff c10) (And.intro (g_ff c10) (And.intro (g_ff c10) (And.intro (g_ff c10) (And.intro (g_ff c10) (And.intro (nz c8) (And.intro c8 (And.intro c7 (And.intro c6 (And.intro (g_ff c6) (And.intro (g_ff c6) (And.intro (g_ff c6) trivial))))))))))))))) (hr := by kernel_rfl)
/-! 17 jacquard/color.Overlap -/
def F17 (x1 : Int) (x2 : Int) (x3 : Int) (x4 : Int) (x5 : Int) : Option (Bool) :=
  (Option.bind (F38 ([(x1, x2), (x3, x4)] : List (Int × Int)) x5) fun y8 =>
  (Option.bind (at? y8.1 0) fun y11 =>
  (Option.bind (at? y8.1 1) fun y12 =>
  some (F39 y11.1 y11.2 y12.1 y12.2 y8.2))))
set_option maxRecDepth 100000 in
theorem F17_spec (x1 : Int) (x2 : Int) (x3 : Int) (x4 : Int) (x5 : Int) (h : AHeap) (hw : h.wf)  (r : Bool) : F17 x1 x2 x3 x4 x5 = some r → ∃ (h' : AHeap), Heapy h h' [] ∧ ACalls Try.prog 17 [.agg #[.int .i64 x1, .int .i64 x2], .agg #[.int .i64 x3, .int .i64 x4], .int .i64 x5] h (fun v' h'' => v' = (.bool r : Value) ∧ h'' = h') := by
  unfold F17
  obtain ⟨v6, h6, m6, hp6, _⟩ := Heapy.build (P := Try.prog) (Heapy.refl hw) (t := 87) (e := 43) (len := 2) (n := 2) (parts := [(0, .agg #[.int .i64 x1, .int .i64 x2]), (1, .agg #[.int .i64 x3, .int .i64 x4])]) (cells := List.flatMap enc43 ([(x1, x2), (x3, x4)] : List (Int × Int))) (by kernel_rfl) rfl
  refine bind_opt fun y8 e8 => ?_
  obtain ⟨u9_0, h9, q9, c9⟩ := F38_spec ([(x1, x2), (x3, x4)] : List (Int × Int)) x5 v6 h6 (Heapy.wf hp6) (Heapy.sle (v := v6) (xs := ([(x1, x2), (x3, x4)] : List (Int × Int))) (enc := enc43) hp6 0 rfl (fun _ => rfl) (by decide)) _ e8
  have hp9 : Heapy h h9 [⟨u9_0, 43, 2, List.flatMap enc43 y8.1⟩, ⟨v6, 43, 2, List.flatMap enc43 ([(x1, x2), (x3, x4)] : List (Int × Int))⟩] := Heapy.call hp6 q9
  refine bind_opt fun y11 e11 => ?_
  obtain ⟨id11, off11, g11, cs11, ix11, at11, rfl⟩ := SlE.at (Heapy.sle (v := u9_0) (xs := y8.1) (enc := enc43) hp9 0 rfl (fun _ => rfl) (by decide)) e11
  refine bind_opt fun y12 e12 => ?_
  obtain ⟨id12, off12, g12, cs12, ix12, at12, rfl⟩ := SlE.at (Heapy.sle (v := u9_0) (xs := y8.1) (enc := enc43) hp9 0 rfl (fun _ => rfl) (by decide)) e12
  intro hr
  obtain rfl := Option.some.inj hr
  exact ⟨h9, Heapy.pick hp9 [] (by decide), pFun_sound good tab_ok (f := 17) (its := [.g, .g, .g, .g, .g, (.mm (sv v6) h6), .g, (.c (.tuple #[(sv u9_0), .int .i64 y8.2]) h9), .g, .g, .g, .g, .g, .g, (.ix id11 off11 g11), (.ld (.agg #[.int .i64 y11.1, .int .i64 y11.2])), .g, (.ix id12 off12 g12), (.ld (.agg #[.int .i64 y12.1, .int .i64 y12.2])), .g, (.c (.bool (F39 y11.1 y11.2 y12.1 y12.2 y8.2)) h9), .g]) (args := [.agg #[.int .i64 x1, .int .i64 x2], .agg #[.int .i64 x3, .int .i64 x4], .int .i64 x5]) (h := h) (h' := h9) (v := .bool (F39 y11.1 y11.2 y12.1 y12.2 y8.2)) (hC := (And.intro (F39_spec y11.1 y11.2 y12.1 y12.2 y8.2 h9 _ rfl) (And.intro (At.agg (P := Try.prog) (t := 43) (v := .agg #[.int .i64 y12.1, .int .i64 y12.2]) (m := 2) at12 (by kernel_rfl) (by kernel_rfl) 0 (by kernel_rfl) rfl) (And.intro ix12 (And.intro (At.agg (P := Try.prog) (t := 43) (v := .agg #[.int .i64 y11.1, .int .i64 y11.2]) (m := 2) at11 (by kernel_rfl) (by kernel_rfl) 0 (by kernel_rfl) rfl) (And.intro ix11 (And.intro c9 (And.intro m6 trivial)))))))) (hr := by kernel_rfl)⟩
/-! 40 jacquard/jacquardref38.Interval -/
def F40 (x1 : Int) : Int :=
  (if 256 < (if 0 > x1 then 0 else x1) then 256 else (if 0 > x1 then 0 else x1))
set_option maxRecDepth 100000 in
theorem F40_spec (x1 : Int) (h : AHeap)  (r : Int) : F40 x1 = r → ACalls Try.prog 40 [.int .i64 x1] h (fun v' h'' => v' = (.int .i64 r : Value) ∧ h'' = h) := by
  unfold F40
  intro hr
  subst hr
  exact pFun_sound good tab_ok (f := 40) (its := [.g, .g, .g, .g, .g]) (args := [.int .i64 x1]) (h := h) (h' := h) (v := .int .i64 (if 256 < (if 0 > x1 then 0 else x1) then 256 else (if 0 > x1 then 0 else x1))) (hC := trivial) (hr := by kernel_rfl)
/-! 41 jacquard/jacquardref38.Len -/
def F41__1 (x2 : Int) (x3 : Int) : Int := (if (F40 x3) < (if 1048576 < (if 0 > x2 then 0 else x2) then 1048576 else (if 0 > x2 then 0 else x2)) then (F40 x3) else (if 1048576 < (if 0 > x2 then 0 else x2) then 1048576 else (if 0 > x2 then 0 else x2)))
def F41 (x1 : Int) (x2 : Int) (x3 : Int) : Int :=
  (bif decide ((F40 x3) > 0) then
   (F41__1 x2 x3)
  else
   (if 1048576 < (if 0 > x2 then 0 else x2) then 1048576 else (if 0 > x2 then 0 else x2)))
set_option maxRecDepth 100000 in
theorem F41_spec (x1 : Int) (x2 : Int) (x3 : Int) (h : AHeap)  (r : Int) : F41 x1 x2 x3 = r → ACalls Try.prog 41 [.agg #[.int .i64 x1, .int .i64 x2], .int .i64 x3] h (fun v' h'' => v' = (.int .i64 r : Value) ∧ h'' = h) := by
  unfold F41
  refine dec_bif (fun c5 => ?_) (fun c5 => ?_)
  · intro hr
    subst hr
    exact pFun_sound good tab_ok (f := 41) (its := [.g, .g, .g, .g, .g, .g, .g, .g, (.c (.int .i64 (F40 x3)) h), .g, (.b true), .g, .g, (.c (.int .i64 (F40 x3)) h), .g, .g, .g, .g]) (args := [.agg #[.int .i64 x1, .int .i64 x2], .int .i64 x3]) (h := h) (h' := h) (v := .int .i64 (F41__1 x2 x3)) (hC := (And.intro (F40_spec x3 h _ rfl) (And.intro c5 (And.intro (F40_spec x3 h _ rfl) trivial)))) (hr := by kernel_rfl)
  · intro hr
    subst hr
    exact pFun_sound good tab_ok (f := 41) (its := [.g, .g, .g, .g, .g, .g, .g, .g, (.c (.int .i64 (F40 x3)) h), .g, (.b false), .g, .g]) (args := [.agg #[.int .i64 x1, .int .i64 x2], .int .i64 x3]) (h := h) (h' := h) (v := .int .i64 (if 1048576 < (if 0 > x2 then 0 else x2) then 1048576 else (if 0 > x2 then 0 else x2))) (hC := (And.intro c5 (And.intro (F40_spec x3 h _ rfl) trivial))) (hr := by kernel_rfl)
/-! 42 jacquard/jacquardref38.From -/
def F42__1 (x1 : Int) : Int := (if 1073741824 < (if (-1073741824) > x1 then (-1073741824) else x1) then 1073741824 else (if (-1073741824) > x1 then (-1073741824) else x1))
def F42 (x1 : Int) (x2 : Int) : Int :=
  (F42__1 x1)
set_option maxRecDepth 100000 in
theorem F42_spec (x1 : Int) (x2 : Int) (h : AHeap)  (r : Int) : F42 x1 x2 = r → ACalls Try.prog 42 [.agg #[.int .i64 x1, .int .i64 x2]] h (fun v' h'' => v' = (.int .i64 r : Value) ∧ h'' = h) := by
  unfold F42
  intro hr
  subst hr
  exact pFun_sound good tab_ok (f := 42) (its := [.g, .g, .g, .g, .g, .g, .g]) (args := [.agg #[.int .i64 x1, .int .i64 x2]]) (h := h) (h' := h) (v := .int .i64 (F42__1 x1)) (hC := trivial) (hr := by kernel_rfl)
/-! 81 jacquard/jacquardref38.Mod -/
def F81 (x1 : Int) (x2 : Int) : Option (Int) :=
  (bif (x2 == 0) then none else
  (bif decide ((x1.tmod x2) < 0) then
   some (IntKind.i64.wrap ((x1.tmod x2) + x2))
  else
   some (x1.tmod x2)))
set_option maxRecDepth 100000 in
theorem F81_spec (x1 : Int) (x2 : Int) (h : AHeap)  (r : Int) : F81 x1 x2 = some r → ACalls Try.prog 81 [.int .i64 x1, .int .i64 x2] h (fun v' h'' => v' = (.int .i64 r : Value) ∧ h'' = h) := by
  unfold F81
  refine guard_ok fun g3 => ?_
  refine dec_bif (fun c4 => ?_) (fun c4 => ?_)
  · intro hr
    obtain rfl := Option.some.inj hr
    exact pFun_sound good tab_ok (f := 81) (its := [.g, .g, .g, .d, .g, .g, .g, (.b true), .g, .g, .g, .g, .g, .g]) (args := [.int .i64 x1, .int .i64 x2]) (h := h) (h' := h) (v := .int .i64 (IntKind.i64.wrap ((x1.tmod x2) + x2))) (hC := (And.intro c4 (And.intro (nz g3) trivial))) (hr := by kernel_rfl)
  · intro hr
    obtain rfl := Option.some.inj hr
    exact pFun_sound good tab_ok (f := 81) (its := [.g, .g, .g, .d, .g, .g, .g, (.b false), .g, .g]) (args := [.int .i64 x1, .int .i64 x2]) (h := h) (h' := h) (v := .int .i64 (x1.tmod x2)) (hC := (And.intro c4 (And.intro (nz g3) trivial))) (hr := by kernel_rfl)
/-! 43 jacquard/jacquardref38.Contains -/
def F43 (x1 : Int) (x2 : Int) (x3 : Int) (x4 : Int) : Option (Bool) :=
  (bif ((F40 x3) == 0) then
   (bif decide (x4 ≥ (F42 x1 x2)) then
    some (decide (x4 < (IntKind.i64.wrap ((F42 x1 x2) + (F41 x1 x2 (F40 x3))))))
   else
    some (false))
  else
   (Option.bind (F81 (IntKind.i64.wrap (x4 - (F42 x1 x2))) (F40 x3)) fun y12 =>
   some (decide (y12 < (F41 x1 x2 (F40 x3))))))
set_option maxRecDepth 100000 in
theorem F43_spec (x1 : Int) (x2 : Int) (x3 : Int) (x4 : Int) (h : AHeap)  (r : Bool) : F43 x1 x2 x3 x4 = some r → ACalls Try.prog 43 [.agg #[.int .i64 x1, .int .i64 x2], .int .i64 x3, .int .i64 x4] h (fun v' h'' => v' = (.bool r : Value) ∧ h'' = h) := by
  unfold F43
  refine dec_bif (fun c6 => ?_) (fun c6 => ?_)
  · refine dec_bif (fun c8 => ?_) (fun c8 => ?_)
    · intro hr
      obtain rfl := Option.some.inj hr
      exact pFun_sound good tab_ok (f := 43) (its := [.g, .g, .g, (.c (.int .i64 (F40 x3)) h), .g, .g, .g, (.b true), .g, .g, (.c (.int .i64 (F42 x1 x2)) h), .g, .g, (.w .g), (.w .g), (.w .g), (.w .g), (.w (.c (.int .i64 (F42 x1 x2)) h)), (.w (.c (.int .i64 (F41 x1 x2 (F40 x3))) h)), (.w .g), (.w .g), (.p true), .g]) (args := [.agg #[.int .i64 x1, .int .i64 x2], .int .i64 x3, .int .i64 x4]) (h := h) (h' := h) (v := .bool (decide (x4 < (IntKind.i64.wrap ((F42 x1 x2) + (F41 x1 x2 (F40 x3))))))) (hC := (And.intro c8 (And.intro (g_tt c8) (And.intro (g_tt c8) (And.intro (F41_spec x1 x2 (F40 x3) h _ rfl) (And.intro (g_tt c8) (And.intro (F42_spec x1 x2 h _ rfl) (And.intro (g_tt c8) (And.intro (g_tt c8) (And.intro (g_tt c8) (And.intro (g_tt c8) (And.intro (g_tt c8) (And.intro (F42_spec x1 x2 h _ rfl) (And.intro c6 (And.intro (F40_spec x3 h _ rfl) trivial))))))))))))))) (hr := by kernel_rfl)
    · intro hr
      obtain rfl := Option.some.inj hr
      exact pFun_sound good tab_ok (f := 43) (its := [.g, .g, .g, (.c (.int .i64 (F40 x3)) h), .g, .g, .g, (.b true), .g, .g, (.c (.int .i64 (F42 x1 x2)) h), .g, .g, .n, .n, .n, .n, .n, .n, .n, .n, (.p false), .g]) (args := [.agg #[.int .i64 x1, .int .i64 x2], .int .i64 x3, .int .i64 x4]) (h := h) (h' := h) (v := .bool false) (hC := (And.intro c8 (And.intro (g_ft c8) (And.intro (g_ft c8) (And.intro (g_ft c8) (And.intro (g_ft c8) (And.intro (g_ft c8) (And.intro (g_ft c8) (And.intro (g_ft c8) (And.intro (g_ft c8) (And.intro (F42_spec x1 x2 h _ rfl) (And.intro c6 (And.intro (F40_spec x3 h _ rfl) trivial))))))))))))) (hr := by kernel_rfl)
  · refine bind_opt fun y12 e12 => ?_
    intro hr
    obtain rfl := Option.some.inj hr
    exact pFun_sound good tab_ok (f := 43) (its := [.g, .g, .g, (.c (.int .i64 (F40 x3)) h), .g, .g, .g, (.b false), .g, .g, .g, .g, .g, (.c (.int .i64 (F42 x1 x2)) h), .g, (.c (.int .i64 y12) h), (.c (.int .i64 (F41 x1 x2 (F40 x3))) h), .g, .g]) (args := [.agg #[.int .i64 x1, .int .i64 x2], .int .i64 x3, .int .i64 x4]) (h := h) (h' := h) (v := .bool (decide (y12 < (F41 x1 x2 (F40 x3))))) (hC := (And.intro (F41_spec x1 x2 (F40 x3) h _ rfl) (And.intro (F81_spec (IntKind.i64.wrap (x4 - (F42 x1 x2))) (F40 x3) h _ e12) (And.intro (F42_spec x1 x2 h _ rfl) (And.intro c6 (And.intro (F40_spec x3 h _ rfl) trivial)))))) (hr := by kernel_rfl)
/-! 18 jacquard/jacquardref38.Overlap -/
def F18_L : List Nat := [3, 4]
def F18_D : List (Nat × List (Nat × Nat)) := [(3, [(0, 1), (1, 0), (2, 1), (3, 1), (4, 1), (5, 0), (6, 1), (7, 1), (8, 1), (9, 1), (11, 2), (13, 2), (10, 0), (12, 0), (14, 0), (15, 1), (16, 1), (17, 1), (18, 1), (19, 1), (21, 2), (23, 2), (20, 0), (22, 0), (24, 0), (25, 1), (26, 1), (27, 1), (28, 1)])]
def F18_m1_2 : List Bool := [true, true, true, true, true, true, true, true, true, true, true, true, true, true, true, true, true, true, true, true, true, true, true, true, true, true, true, true, true, true, true, true, true, true, true, true, true, true, true, true, true, true, true, true, true, true, true, true, true, true, true, true, true, true, true]
def F18_m1_1 : List Bool := [true, true, false, false, false, true, true, true, true, true, true, true, true, true, true, true, true, true, true, true, true, true, true, true, true, true, true, true, true, true, true, true, true, true, true, true, true, true, true, true, false, false, true, true, true, true, true, true, true, true, true, true, true, true, true]
def F18_m1_0 : List Bool := [true, true, true, true, true, true, false, true, true, true, true, true, true, true, true, true, true, true, true, true, true, true, true, true, true, true, true, true, true, true, true, true, true, true, true, true, true, true, true, true, true, true, true, true, true, true, true, true, true, true, true, true, true, true, true]
def F18_s1 (x1 : Int) (x2 : Int) (x3 : Int) (x4 : Int) (x5 : Int) (a19 : Int) : Option (Int ⊕ Nat) :=
  (bif decide (a19 < (F40 x5)) then
   (Option.bind (F43 x1 x2 (F40 x5) a19) fun y21 =>
   (bif y21 then
    (Option.bind (F43 x3 x4 (F40 x5) a19) fun y24 =>
    (bif y24 then
     some (.inr 0)
    else
     some (.inl (IntKind.i64.wrap (a19 + 1)))))
   else
    some (.inl (IntKind.i64.wrap (a19 + 1)))))
  else
   some (.inr 1))
def F18_h1 (h : AHeap) (x1 : Int) (x2 : Int) (x3 : Int) (x4 : Int) (x5 : Int)  (a19 : Int) : AS := ⟨[junk, junk, .int .i64 (F40 x5), .pointer (some ⟨3, 0, none⟩), .pointer (some ⟨4, 0, none⟩), junk, junk, junk, junk, junk, junk, junk, junk, junk, junk, junk, junk, junk, junk, junk, junk, junk, junk, junk, junk, junk, junk, junk, junk, junk, junk, junk, junk, junk, junk, junk, junk, junk, junk, junk, .int .i64 (F40 x5), .int .i64 a19, junk, junk, junk, junk, junk, junk, junk, junk, junk, junk, junk, junk, junk], [(3, [.int .i64 x1, .int .i64 x2]), (4, [.int .i64 x3, .int .i64 x4])], h⟩
theorem F18_d1 : drawsOk F18_D (codeOf Try.prog 18 [1, 1, 1, 0, 1, 0, 0]) = true := by kernel_rfl
def F18_x1_0 (h : AHeap)  (r : Nat) : AS := ⟨[junk, junk, junk, junk, junk, junk, .bool true, junk, junk, junk, junk, junk, junk, junk, junk, junk, junk, junk, junk, junk, junk, junk, junk, junk, junk, junk, junk, junk, junk, junk, junk, junk, junk, junk, junk, junk, junk, junk, junk, junk, junk, junk, junk, junk, junk, junk, junk, junk, junk, junk, junk, junk, junk, junk, junk], [], h⟩
def F18_x1_1 (h : AHeap)  (r : Nat) : AS := ⟨[junk, junk, junk, junk, junk, junk, junk, junk, junk, junk, junk, junk, junk, junk, junk, junk, junk, junk, junk, junk, junk, junk, junk, junk, junk, junk, junk, junk, junk, junk, junk, junk, junk, junk, junk, junk, junk, junk, junk, junk, junk, junk, junk, junk, junk, junk, junk, junk, junk, junk, junk, junk, junk, junk, junk], [], h⟩
def F18_x1 (h : AHeap) (r : Nat) : Exit × AS := (bif Nat.beq r 0 then (.ret, (F18_x1_0 h r)) else ((.exit 0), (F18_x1_1 h r)))
set_option maxRecDepth 100000 in
theorem F18_r1 (h : AHeap) (x1 : Int) (x2 : Int) (x3 : Int) (x4 : Int) (x5 : Int) (a19 : Int) (o : Int ⊕ Nat) : F18_s1 x1 x2 x3 x4 x5 a19 = some o → RdF Try.prog (codeOf Try.prog 18 [1, 1, 1, 0, 1, 0, 0]) (fun (s : Int) => (F18_h1 h x1 x2 x3 x4 x5 s)) (F18_x1 h) (F18_h1 h x1 x2 x3 x4 x5 a19) o := by
  unfold F18_s1
  refine dec_bif (fun c20 => ?_) (fun c20 => ?_)
  · refine bind_opt fun y21 e21 => ?_
    refine dec_bif (fun c23 => ?_) (fun c23 => ?_)
    · refine bind_opt fun y24 e24 => ?_
      refine dec_bif (fun c26 => ?_) (fun c26 => ?_)
      · intro hr
        obtain rfl := Option.some.inj hr
        show AWp Try.prog _ (Ends1 ((F18_x1 h) (0 : Nat)).1 ((F18_x1 h) (0 : Nat)).2) _
        exact pEnd_sound good (L := F18_L) (D := F18_D) (its := [.g, (.b true), .g, .g, .g, .g, .g, (.c (.bool y21) h), .g, (.w .g), (.w .g), (.w .g), (.w (.c (.bool y24) h)), (.p true), (.b true), .g]) (ds := F18_m1_0) (ks := [3, 4]) (e := ((F18_x1 h) (0 : Nat)).1) (s2 := ((F18_x1 h) (0 : Nat)).2) (hC := (And.intro c26 (And.intro c23 (And.intro (F43_spec x3 x4 (F40 x5) a19 h _ e24) (And.intro (g_tt c23) (And.intro (g_tt c23) (And.intro (g_tt c23) (And.intro (g_tt c23) (And.intro (F43_spec x1 x2 (F40 x5) a19 h _ e21) (And.intro c20 trivial)))))))))) (hd := F18_d1) (h := by kernel_rfl)
      · intro hr
        obtain rfl := Option.some.inj hr
        show AWp Try.prog _ (Ends1 .normal (F18_h1 h x1 x2 x3 x4 x5 (IntKind.i64.wrap (a19 + 1)))) _
        exact pEnd_sound good (L := F18_L) (D := F18_D) (its := [.g, (.b true), .g, .g, .g, .g, .g, (.c (.bool y21) h), .g, (.w .g), (.w .g), (.w .g), (.w (.c (.bool y24) h)), (.p true), (.b false), .g, .g]) (ds := F18_m1_1) (ks := []) (e := .normal) (s2 := (F18_h1 h x1 x2 x3 x4 x5 (IntKind.i64.wrap (a19 + 1)))) (hC := (And.intro c26 (And.intro c23 (And.intro (F43_spec x3 x4 (F40 x5) a19 h _ e24) (And.intro (g_tt c23) (And.intro (g_tt c23) (And.intro (g_tt c23) (And.intro (g_tt c23) (And.intro (F43_spec x1 x2 (F40 x5) a19 h _ e21) (And.intro c20 trivial)))))))))) (hd := F18_d1) (h := by kernel_rfl)
    · intro hr
      obtain rfl := Option.some.inj hr
      show AWp Try.prog _ (Ends1 .normal (F18_h1 h x1 x2 x3 x4 x5 (IntKind.i64.wrap (a19 + 1)))) _
      exact pEnd_sound good (L := F18_L) (D := F18_D) (its := [.g, (.b true), .g, .g, .g, .g, .g, (.c (.bool y21) h), .g, .n, .n, .n, .n, (.p false), (.b false), .g, .g]) (ds := F18_m1_1) (ks := []) (e := .normal) (s2 := (F18_h1 h x1 x2 x3 x4 x5 (IntKind.i64.wrap (a19 + 1)))) (hC := (And.intro l_f (And.intro c23 (And.intro (g_ft c23) (And.intro (g_ft c23) (And.intro (g_ft c23) (And.intro (g_ft c23) (And.intro (F43_spec x1 x2 (F40 x5) a19 h _ e21) (And.intro c20 trivial))))))))) (hd := F18_d1) (h := by kernel_rfl)
  · intro hr
    obtain rfl := Option.some.inj hr
    show AWp Try.prog _ (Ends1 ((F18_x1 h) (1 : Nat)).1 ((F18_x1 h) (1 : Nat)).2) _
    exact pEnd_sound good (L := F18_L) (D := F18_D) (its := [.g, (.b false)]) (ds := F18_m1_2) (ks := [3, 4]) (e := ((F18_x1 h) (1 : Nat)).1) (s2 := ((F18_x1 h) (1 : Nat)).2) (hC := (And.intro c20 trivial)) (hd := F18_d1) (h := by kernel_rfl)
theorem F18_l1_0 (h : AHeap) (x1 : Int) (x2 : Int) (x3 : Int) (x4 : Int) (x5 : Int) (x : Int) (r : Nat) (hl : loopO (fun (s : Int) => F18_s1 x1 x2 x3 x4 x5 s) x = some r) (q0 : Nat.beq r 0 = true) : AWp Try.prog (.loop (codeOf Try.prog 18 [1, 1, 1, 0, 1, 0, 0])) (Ends1 .ret (F18_x1_0 h r)) ((fun (s : Int) => (F18_h1 h x1 x2 x3 x4 x5 s)) x) := by
  have k := loop_fun (P := Try.prog) (c := (codeOf Try.prog 18 [1, 1, 1, 0, 1, 0, 0])) (step := (fun (s : Int) => F18_s1 x1 x2 x3 x4 x5 s)) (hd := (fun (s : Int) => (F18_h1 h x1 x2 x3 x4 x5 s))) (X := (F18_x1 h)) (by intro t; unfold F18_x1; cases Nat.beq t 0 <;> (intro h; cases h)) (fun x => F18_r1 h x1 x2 x3 x4 x5 x) hl
  simp only [F18_x1, q0, cond_true, cond_false] at k
  exact k
theorem F18_l1_1 (h : AHeap) (x1 : Int) (x2 : Int) (x3 : Int) (x4 : Int) (x5 : Int) (x : Int) (r : Nat) (hl : loopO (fun (s : Int) => F18_s1 x1 x2 x3 x4 x5 s) x = some r) (q0 : Nat.beq r 0 = false) : AWp Try.prog (.loop (codeOf Try.prog 18 [1, 1, 1, 0, 1, 0, 0])) (Ends1 (.exit 0) (F18_x1_1 h r)) ((fun (s : Int) => (F18_h1 h x1 x2 x3 x4 x5 s)) x) := by
  have k := loop_fun (P := Try.prog) (c := (codeOf Try.prog 18 [1, 1, 1, 0, 1, 0, 0])) (step := (fun (s : Int) => F18_s1 x1 x2 x3 x4 x5 s)) (hd := (fun (s : Int) => (F18_h1 h x1 x2 x3 x4 x5 s))) (X := (F18_x1 h)) (by intro t; unfold F18_x1; cases Nat.beq t 0 <;> (intro h; cases h)) (fun x => F18_r1 h x1 x2 x3 x4 x5 x) hl
  simp only [F18_x1, q0, cond_true, cond_false] at k
  exact k
def F18 (x1 : Int) (x2 : Int) (x3 : Int) (x4 : Int) (x5 : Int) : Option (Bool) :=
  (bif ((F40 x5) == 0) then
   (bif decide ((F41 x1 x2 0) > 0) then
    (bif decide ((F41 x3 x4 0) > 0) then
     (bif decide ((F42 x1 x2) < (IntKind.i64.wrap ((F42 x3 x4) + (F41 x3 x4 0)))) then
      some (decide ((F42 x3 x4) < (IntKind.i64.wrap ((F42 x1 x2) + (F41 x1 x2 0)))))
     else
      some (false))
    else
     some (false))
   else
    some (false))
  else
   (Option.bind (loopO (fun (s : Int) => F18_s1 x1 x2 x3 x4 x5 s) 0) fun y27 =>
   (bif (Nat.beq y27 0) then
    some (true)
   else
    some (false))))
set_option maxRecDepth 100000 in
theorem F18_spec (x1 : Int) (x2 : Int) (x3 : Int) (x4 : Int) (x5 : Int) (h : AHeap)  (r : Bool) : F18 x1 x2 x3 x4 x5 = some r → ACalls Try.prog 18 [.agg #[.int .i64 x1, .int .i64 x2], .agg #[.int .i64 x3, .int .i64 x4], .int .i64 x5] h (fun v' h'' => v' = (.bool r : Value) ∧ h'' = h) := by
  unfold F18
  refine dec_bif (fun c7 => ?_) (fun c7 => ?_)
  · refine dec_bif (fun c9 => ?_) (fun c9 => ?_)
    · refine dec_bif (fun c11 => ?_) (fun c11 => ?_)
      · refine dec_bif (fun c15 => ?_) (fun c15 => ?_)
        · intro hr
          obtain rfl := Option.some.inj hr
          exact pFun_sound good tab_ok (f := 18) (its := [.g, .g, .g, .g, (.c (.int .i64 (F40 x5)) h), .g, .g, .g, (.b true), .g, (.c (.int .i64 (F41 x1 x2 0)) h), .g, .g, (.w .g), (.w (.c (.int .i64 (F41 x3 x4 0)) h)), (.w .g), (.p true), .g, (.w .g), (.w .g), (.w .g), (.w (.c (.int .i64 (F42 x1 x2)) h)), (.w (.c (.int .i64 (F42 x3 x4)) h)), (.w (.c (.int .i64 (F41 x3 x4 0)) h)), (.w .g), (.w .g), (.p true), .g, (.w .g), (.w .g), (.w .g), (.w (.c (.int .i64 (F42 x3 x4)) h)), (.w (.c (.int .i64 (F42 x1 x2)) h)), (.w (.c (.int .i64 (F41 x1 x2 0)) h)), (.w .g), (.w .g), (.p true), .g]) (args := [.agg #[.int .i64 x1, .int .i64 x2], .agg #[.int .i64 x3, .int .i64 x4], .int .i64 x5]) (h := h) (h' := h) (v := .bool (decide ((F42 x3 x4) < (IntKind.i64.wrap ((F42 x1 x2) + (F41 x1 x2 0)))))) (hC := (And.intro c15 (And.intro (g_tt c15) (And.intro (g_tt c15) (And.intro (F41_spec x1 x2 0 h _ rfl) (And.intro (g_tt c15) (And.intro (F42_spec x1 x2 h _ rfl) (And.intro (g_tt c15) (And.intro (F42_spec x3 x4 h _ rfl) (And.intro (g_tt c15) (And.intro (g_tt c15) (And.intro (g_tt c15) (And.intro (g_tt c15) (And.intro c11 (And.intro (g_tt c11) (And.intro (g_tt c11) (And.intro (F41_spec x3 x4 0 h _ rfl) (And.intro (g_tt c11) (And.intro (F42_spec x3 x4 h _ rfl) (And.intro (g_tt c11) (And.intro (F42_spec x1 x2 h _ rfl) (And.intro (g_tt c11) (And.intro (g_tt c11) (And.intro (g_tt c11) (And.intro (g_tt c11) (And.intro c9 (And.intro (g_tt c9) (And.intro (F41_spec x3 x4 0 h _ rfl) (And.intro (g_tt c9) (And.intro (g_tt c9) (And.intro (F41_spec x1 x2 0 h _ rfl) (And.intro c7 (And.intro (F40_spec x5 h _ rfl) trivial))))))))))))))))))))))))))))))))) (hr := by kernel_rfl)
        · intro hr
          obtain rfl := Option.some.inj hr
          exact pFun_sound good tab_ok (f := 18) (its := [.g, .g, .g, .g, (.c (.int .i64 (F40 x5)) h), .g, .g, .g, (.b true), .g, (.c (.int .i64 (F41 x1 x2 0)) h), .g, .g, (.w .g), (.w (.c (.int .i64 (F41 x3 x4 0)) h)), (.w .g), (.p true), .g, (.w .g), (.w .g), (.w .g), (.w (.c (.int .i64 (F42 x1 x2)) h)), (.w (.c (.int .i64 (F42 x3 x4)) h)), (.w (.c (.int .i64 (F41 x3 x4 0)) h)), (.w .g), (.w .g), (.p true), .g, .n, .n, .n, .n, .n, .n, .n, .n, (.p false), .g]) (args := [.agg #[.int .i64 x1, .int .i64 x2], .agg #[.int .i64 x3, .int .i64 x4], .int .i64 x5]) (h := h) (h' := h) (v := .bool false) (hC := (And.intro c15 (And.intro (g_ft c15) (And.intro (g_ft c15) (And.intro (g_ft c15) (And.intro (g_ft c15) (And.intro (g_ft c15) (And.intro (g_ft c15) (And.intro (g_ft c15) (And.intro (g_ft c15) (And.intro c11 (And.intro (g_tt c11) (And.intro (g_tt c11) (And.intro (F41_spec x3 x4 0 h _ rfl) (And.intro (g_tt c11) (And.intro (F42_spec x3 x4 h _ rfl) (And.intro (g_tt c11) (And.intro (F42_spec x1 x2 h _ rfl) (And.intro (g_tt c11) (And.intro (g_tt c11) (And.intro (g_tt c11) (And.intro (g_tt c11) (And.intro c9 (And.intro (g_tt c9) (And.intro (F41_spec x3 x4 0 h _ rfl) (And.intro (g_tt c9) (And.intro (g_tt c9) (And.intro (F41_spec x1 x2 0 h _ rfl) (And.intro c7 (And.intro (F40_spec x5 h _ rfl) trivial)))))))))))))))))))))))))))))) (hr := by kernel_rfl)
      · intro hr
        obtain rfl := Option.some.inj hr
        exact pFun_sound good tab_ok (f := 18) (its := [.g, .g, .g, .g, (.c (.int .i64 (F40 x5)) h), .g, .g, .g, (.b true), .g, (.c (.int .i64 (F41 x1 x2 0)) h), .g, .g, (.w .g), (.w (.c (.int .i64 (F41 x3 x4 0)) h)), (.w .g), (.p true), .g, .n, .n, .n, .n, .n, .n, .n, .n, (.p false), .g, .n, .n, .n, .n, .n, .n, .n, .n, .g, .g]) (args := [.agg #[.int .i64 x1, .int .i64 x2], .agg #[.int .i64 x3, .int .i64 x4], .int .i64 x5]) (h := h) (h' := h) (v := .bool false) (hC := (And.intro (g_ft l_f) (And.intro (g_ft l_f) (And.intro (g_ft l_f) (And.intro (g_ft l_f) (And.intro (g_ft l_f) (And.intro (g_ft l_f) (And.intro (g_ft l_f) (And.intro (g_ft l_f) (And.intro c11 (And.intro (g_ft c11) (And.intro (g_ft c11) (And.intro (g_ft c11) (And.intro (g_ft c11) (And.intro (g_ft c11) (And.intro (g_ft c11) (And.intro (g_ft c11) (And.intro (g_ft c11) (And.intro c9 (And.intro (g_tt c9) (And.intro (F41_spec x3 x4 0 h _ rfl) (And.intro (g_tt c9) (And.intro (g_tt c9) (And.intro (F41_spec x1 x2 0 h _ rfl) (And.intro c7 (And.intro (F40_spec x5 h _ rfl) trivial)))))))))))))))))))))))))) (hr := by kernel_rfl)
    · intro hr
      obtain rfl := Option.some.inj hr
      exact pFun_sound good tab_ok (f := 18) (its := [.g, .g, .g, .g, (.c (.int .i64 (F40 x5)) h), .g, .g, .g, (.b true), .g, (.c (.int .i64 (F41 x1 x2 0)) h), .g, .g, .n, .n, .n, (.p false), .g, .n, .n, .n, .n, .n, .n, .n, .n, .g, .g, .n, .n, .n, .n, .n, .n, .n, .n, .g, .g]) (args := [.agg #[.int .i64 x1, .int .i64 x2], .agg #[.int .i64 x3, .int .i64 x4], .int .i64 x5]) (h := h) (h' := h) (v := .bool false) (hC := (And.intro (g_ft l_f) (And.intro (g_ft l_f) (And.intro (g_ft l_f) (And.intro (g_ft l_f) (And.intro (g_ft l_f) (And.intro (g_ft l_f) (And.intro (g_ft l_f) (And.intro (g_ft l_f) (And.intro (g_ft l_f) (And.intro (g_ft l_f) (And.intro (g_ft l_f) (And.intro (g_ft l_f) (And.intro (g_ft l_f) (And.intro (g_ft l_f) (And.intro (g_ft l_f) (And.intro (g_ft l_f) (And.intro c9 (And.intro (g_ft c9) (And.intro (g_ft c9) (And.intro (g_ft c9) (And.intro (F41_spec x1 x2 0 h _ rfl) (And.intro c7 (And.intro (F40_spec x5 h _ rfl) trivial)))))))))))))))))))))))) (hr := by kernel_rfl)
  · refine bind_opt fun y27 e27 => ?_
    refine dec_bif (fun c28 => ?_) (fun c28 => ?_)
    · intro hr
      obtain rfl := Option.some.inj hr
      exact pFun_sound good tab_ok (f := 18) (its := [.g, .g, .g, .g, (.c (.int .i64 (F40 x5)) h), .g, .g, .g, (.b false), .g, .g, (.l F18_m1_1 [] .ret (F18_x1_0 h y27))]) (args := [.agg #[.int .i64 x1, .int .i64 x2], .agg #[.int .i64 x3, .int .i64 x4], .int .i64 x5]) (h := h) (h' := h) (v := .bool true) (hC := (And.intro (F18_l1_0 h x1 x2 x3 x4 x5 0 y27 e27 c28) (And.intro c7 (And.intro (F40_spec x5 h _ rfl) trivial)))) (hr := by kernel_rfl)
    · intro hr
      obtain rfl := Option.some.inj hr
      exact pFun_sound good tab_ok (f := 18) (its := [.g, .g, .g, .g, (.c (.int .i64 (F40 x5)) h), .g, .g, .g, (.b false), .g, .g, (.l F18_m1_1 [] (.exit 0) (F18_x1_1 h y27)), .g]) (args := [.agg #[.int .i64 x1, .int .i64 x2], .agg #[.int .i64 x3, .int .i64 x4], .int .i64 x5]) (h := h) (h' := h) (v := .bool false) (hC := (And.intro (F18_l1_1 h x1 x2 x3 x4 x5 0 y27 e27 c28) (And.intro c7 (And.intro (F40_spec x5 h _ rfl) trivial)))) (hr := by kernel_rfl)
/-! 5 jacquard/jacquardlaw38.ColorOverlaps -/
def F5 (x1 : Int) (x2 : Int) (x3 : Int) (x4 : Int) (x5 : Int) : Option (Bool) :=
  (Option.bind (F17 x1 x2 x3 x4 x5) fun y7 =>
  (Option.bind (F18 x1 x2 x3 x4 x5) fun y9 =>
  (bif (y7 == y9) then
   (Option.bind (F17 x3 x4 x1 x2 x5) fun y12 =>
   (Option.bind (F18 x1 x2 x3 x4 x5) fun y14 =>
   some (y12 == y14)))
  else
   some (false))))
set_option maxRecDepth 100000 in
theorem F5_spec (x1 : Int) (x2 : Int) (x3 : Int) (x4 : Int) (x5 : Int) (h : AHeap) (hw : h.wf)  (r : Bool) : F5 x1 x2 x3 x4 x5 = some r → ∃ (h' : AHeap), Heapy h h' [] ∧ ACalls Try.prog 5 [.agg #[.int .i64 x1, .int .i64 x2], .agg #[.int .i64 x3, .int .i64 x4], .int .i64 x5] h (fun v' h'' => v' = (.bool r : Value) ∧ h'' = h') := by
  unfold F5
  refine bind_opt fun y7 e7 => ?_
  obtain ⟨h8, q8, c8⟩ := F17_spec x1 x2 x3 x4 x5 h hw _ e7
  have hp8 : Heapy h h8 [] := Heapy.call (Heapy.refl hw) q8
  refine bind_opt fun y9 e9 => ?_
  refine dec_bif (fun c11 => ?_) (fun c11 => ?_)
  · refine bind_opt fun y12 e12 => ?_
    obtain ⟨h13, q13, c13⟩ := F17_spec x3 x4 x1 x2 x5 h8 (Heapy.wf hp8) _ e12
    have hp13 : Heapy h h13 [] := Heapy.call hp8 q13
    refine bind_opt fun y14 e14 => ?_
    intro hr
    obtain rfl := Option.some.inj hr
    exact ⟨h13, Heapy.pick hp13 [] (by decide), pFun_sound good tab_ok (f := 5) (its := [.g, .g, .g, (.c (.bool true) h), .g, (.b false), .g, .g, .g, .g, .g, .g, (.c (.bool y7) h8), (.c (.bool y9) h8), .g, .g, (.w .g), (.w .g), (.w .g), (.w .g), (.w .g), (.w .g), (.w (.c (.bool y12) h13)), (.w (.c (.bool y14) h13)), (.w .g), (.p true), .g]) (args := [.agg #[.int .i64 x1, .int .i64 x2], .agg #[.int .i64 x3, .int .i64 x4], .int .i64 x5]) (h := h) (h' := h13) (v := .bool (y12 == y14)) (hC := (And.intro c11 (And.intro (g_tt c11) (And.intro (F18_spec x1 x2 x3 x4 x5 h13 _ e14) (And.intro (g_tt c11) (And.intro c13 (And.intro (g_tt c11) (And.intro (g_tt c11) (And.intro (g_tt c11) (And.intro (g_tt c11) (And.intro (g_tt c11) (And.intro (g_tt c11) (And.intro (g_tt c11) (And.intro (F18_spec x1 x2 x3 x4 x5 h8 _ e9) (And.intro c8 (And.intro l_f (And.intro (F16_spec h _ rfl) trivial))))))))))))))))) (hr := by kernel_rfl)⟩
  · intro hr
    obtain rfl := Option.some.inj hr
    exact ⟨h8, Heapy.pick hp8 [] (by decide), pFun_sound good tab_ok (f := 5) (its := [.g, .g, .g, (.c (.bool true) h), .g, (.b false), .g, .g, .g, .g, .g, .g, (.c (.bool y7) h8), (.c (.bool y9) h8), .g, .g, .n, .n, .n, .n, .n, .n, .n, .n, .n, (.p false), .g]) (args := [.agg #[.int .i64 x1, .int .i64 x2], .agg #[.int .i64 x3, .int .i64 x4], .int .i64 x5]) (h := h) (h' := h8) (v := .bool false) (hC := (And.intro c11 (And.intro (g_ft c11) (And.intro (g_ft c11) (And.intro (g_ft c11) (And.intro (g_ft c11) (And.intro (g_ft c11) (And.intro (g_ft c11) (And.intro (g_ft c11) (And.intro (g_ft c11) (And.intro (g_ft c11) (And.intro (F18_spec x1 x2 x3 x4 x5 h8 _ e9) (And.intro c8 (And.intro l_f (And.intro (F16_spec h _ rfl) trivial))))))))))))))) (hr := by kernel_rfl)⟩
set_option maxRecDepth 100000 in
theorem F5_law (H : ∀ (x1 : Int) (x2 : Int) (x3 : Int) (x4 : Int) (x5 : Int), (Lit.int .i64 x1).wf = true → (Lit.int .i64 x2).wf = true → (Lit.int .i64 x3).wf = true → (Lit.int .i64 x4).wf = true → (Lit.int .i64 x5).wf = true → F5 x1 x2 x3 x4 x5 = some true) : Law Try.prog 5 10 [43, 43, 3] := by
  intro s us hwf hro hT0
  obtain ⟨u0, vs0, rfl, t0, hT1⟩ := wts_cons hT0
  obtain ⟨cs0, rfl, k0⟩ := wtv_aggS 2 (ks := [.int .i64, .int .i64]) (by kernel_rfl) (by kernel_rfl) t0
  obtain ⟨x1, r_x1, rfl, w_x1, k0_0⟩ := sq_int k0
  obtain ⟨x2, r_x2, rfl, w_x2, k0_1⟩ := sq_int k0_0
  obtain rfl := sq_nil k0_1
  obtain ⟨u1, vs1, rfl, t1, hT2⟩ := wts_cons hT1
  obtain ⟨cs1, rfl, k1⟩ := wtv_aggS 2 (ks := [.int .i64, .int .i64]) (by kernel_rfl) (by kernel_rfl) t1
  obtain ⟨x3, r_x3, rfl, w_x3, k1_0⟩ := sq_int k1
  obtain ⟨x4, r_x4, rfl, w_x4, k1_1⟩ := sq_int k1_0
  obtain rfl := sq_nil k1_1
  obtain ⟨u2, vs2, rfl, t2, hT3⟩ := wts_cons hT2
  have k2 := wtv_oneS 1 (ks := [.int .i64]) (by kernel_rfl) (by kernel_rfl) t2
  obtain ⟨x5, r_x5, e_x5, w_x5, k2_0⟩ := sq_int k2
  obtain ⟨rfl, rfl⟩ := List.cons.inj e_x5
  have k2_0' := sq_nil k2_0
  obtain rfl := wts_nil hT3
  obtain ⟨h2, _, hc⟩ := F5_spec x1 x2 x3 x4 x5 s hwf  _ (H x1 x2 x3 x4 x5 w_x1 w_x2 w_x3 w_x4 w_x5)
  refine (hc).mono ?_
  rintro v h' ⟨rfl, rfl⟩
  rfl
end
end Go.Proofs.Ytdbkalephkgniaa.Abs
