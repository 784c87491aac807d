/-
  Contracts, written by program: for each function what its call yields, and that it yields it.
-/
import Derived.Test.YtdoafmfkbddmlacVw
import Derived.Test.YtdoafmfkbddmlacChecked
namespace Go.Proofs.Ytdoafmfkbddmlac.Abs
open Go
set_option linter.unusedVariables false
set_option linter.unusedSimpArgs false

theorem good : Good Try.prog := good_of Try.checked.mixed (by kernel_rfl)
noncomputable section
def tabC : List FEnt := [
  { f := 9, L := [], D := [(3, [(0, 2), (1, 2), (2, 2), (3, 2), (4, 2), (5, 2), (6, 0), (7, 2), (8, 2), (9, 2), (10, 2), (11, 2), (12, 2), (13, 2), (14, 2), (15, 2), (16, 2), (17, 2), (18, 2), (19, 2), (20, 2), (21, 2)])] },
  { f := 26, L := [10], D := [(22, [(0, 2), (1, 2), (2, 2), (3, 2), (4, 2), (5, 2), (6, 2), (7, 2), (8, 2), (9, 0), (10, 2), (11, 2), (12, 2), (13, 2), (14, 2), (15, 2), (16, 2), (17, 2)])] },
  { f := 27, L := [3, 4], D := [(2, [(0, 2), (1, 2), (2, 2), (3, 2), (4, 2), (5, 2), (6, 2), (7, 0), (8, 2)])] },
  { f := 29, L := [8], D := [] },
  { f := 31, L := [3, 4], D := [] },
  { f := 33, L := [7, 13, 16], D := [(19, [(0, 2), (1, 2), (2, 2), (3, 2), (4, 2), (5, 2), (6, 2), (7, 2), (8, 2), (9, 2)]), (20, [(0, 2), (1, 2), (2, 2), (3, 2), (4, 2), (5, 2), (6, 2), (7, 2), (8, 2), (9, 2), (10, 2), (11, 2), (12, 2)]), (35, [(0, 2), (1, 2), (2, 2), (3, 2), (4, 2), (5, 2), (6, 2), (7, 2), (8, 2), (9, 2), (10, 2), (11, 0)])] },
  { f := 38, L := [], D := [] },
  { f := 39, L := [], D := [] },
  { f := 40, L := [], D := [] },
  { f := 41, L := [8, 9], D := [(1, [(0, 2), (1, 2), (2, 2), (3, 2), (5, 2), (8, 2), (9, 2), (4, 4), (6, 2), (7, 4), (10, 0), (11, 0)])] },
  { f := 42, L := [], D := [] },
  { f := 43, L := [], D := [] },
  { f := 44, L := [3], D := [] },
  { f := 45, L := [], D := [] },
  { f := 46, L := [], D := [(17, [(0, 2), (1, 2), (2, 2), (3, 2), (4, 2), (5, 2), (6, 2), (7, 2), (8, 2), (9, 2), (10, 2), (11, 2), (12, 2), (13, 0), (14, 2), (15, 2), (16, 2)])] },
  { f := 47, L := [], D := [] },
  { f := 48, L := [], D := [] },
  { f := 49, L := [], D := [(4, [(0, 2), (1, 2), (2, 2), (3, 2), (4, 2), (5, 2), (6, 2), (7, 2), (8, 2), (9, 2), (10, 2), (11, 2), (12, 2), (13, 2), (14, 0), (15, 2), (16, 2)]), (6, [(0, 2), (1, 2), (2, 2), (3, 2), (4, 2), (5, 2), (6, 2), (7, 2), (8, 2), (9, 2), (10, 2), (11, 2), (12, 2), (13, 2), (14, 2), (15, 0), (16, 2), (17, 0)])] },
  { f := 50, L := [], D := [(10, [(0, 2), (1, 2), (2, 2), (3, 2), (4, 2), (5, 2), (6, 2), (7, 2), (8, 2), (9, 2), (10, 2), (11, 2), (12, 2), (13, 2), (14, 2), (15, 2), (16, 2), (17, 0), (18, 2), (19, 0)])] },
  { f := 51, L := [], D := [(10, [(0, 2), (1, 2), (2, 2), (3, 2), (4, 2), (5, 2), (6, 2), (7, 2), (8, 2), (9, 2), (10, 2), (11, 2), (12, 2), (13, 2), (14, 2), (15, 2), (16, 2), (17, 0), (18, 2), (19, 0)])] },
  { f := 52, L := [], D := [] },
  { f := 53, L := [], D := [(3, [(0, 2), (1, 2), (2, 2), (3, 2), (4, 2), (5, 2), (6, 2), (7, 2), (8, 2), (9, 2), (10, 2), (11, 2), (12, 2), (13, 0), (14, 2), (15, 0)])] },
  { f := 54, L := [], D := [(5, [(0, 2), (1, 2), (2, 2), (3, 2), (4, 2), (5, 2), (6, 2), (7, 2), (8, 2), (9, 2), (10, 2), (11, 2), (12, 2), (13, 2), (14, 0), (15, 2), (16, 2), (17, 2)]), (11, [(0, 2), (1, 2), (2, 2), (3, 2), (4, 2), (5, 2), (6, 2), (7, 2), (8, 2), (9, 2), (10, 2), (11, 2), (12, 2), (13, 2), (14, 2), (15, 0), (16, 2), (17, 0)]), (16, [(0, 2), (1, 2), (2, 2), (3, 2), (4, 2), (5, 2), (6, 2), (7, 2), (8, 2), (9, 2), (10, 0), (11, 2), (12, 2)]), (17, [(0, 2), (1, 2), (2, 2), (3, 2), (4, 2), (5, 2), (6, 2), (7, 2), (8, 2), (9, 2), (10, 2), (11, 2), (12, 2), (13, 2), (14, 2), (15, 0), (16, 2), (17, 0)]), (22, [(0, 2), (1, 2), (2, 2), (3, 2), (4, 2), (5, 2), (6, 2), (7, 2), (8, 2), (9, 2), (10, 0), (11, 2), (12, 2)]), (23, [(0, 2), (1, 2), (2, 2), (3, 2), (4, 2), (5, 2), (6, 2), (7, 2), (8, 2), (9, 2), (10, 2), (11, 2), (12, 2), (13, 2), (14, 2), (15, 0), (16, 2), (17, 0)])] },
  { f := 55, L := [], D := [(1, [(0, 2), (1, 2), (2, 2), (3, 2), (4, 2), (5, 2), (6, 2), (7, 2), (8, 2), (9, 2), (10, 2), (11, 2), (12, 2), (13, 0), (14, 2), (15, 0)]), (3, [(0, 2), (1, 2), (2, 2), (3, 2), (4, 2), (5, 2), (6, 2), (7, 2), (8, 2), (9, 2), (10, 2), (11, 2), (12, 2), (13, 0), (14, 2), (15, 2), (16, 2)]), (5, [(0, 2), (1, 2), (2, 2), (3, 2), (4, 2), (5, 2), (6, 2), (7, 2), (8, 2), (9, 2), (10, 2), (11, 2), (12, 2), (13, 0), (14, 2), (15, 2)]), (8, [(0, 2), (1, 2), (2, 2), (3, 2), (4, 2), (5, 2), (6, 2), (7, 2), (8, 2), (9, 2), (10, 2), (11, 2), (12, 2), (13, 0), (14, 2), (15, 0)])] },
  { f := 56, L := [], D := [(1, [(0, 2), (1, 2), (2, 2), (3, 2), (4, 2), (5, 2), (6, 2), (7, 2), (8, 2), (9, 2), (10, 2), (11, 2), (12, 2), (13, 0), (14, 2), (15, 0)]), (3, [(0, 2), (1, 2), (2, 2), (3, 2), (4, 2), (5, 2), (6, 2), (7, 2), (8, 2), (9, 2), (10, 2), (11, 2), (12, 2), (13, 0), (14, 2), (15, 2)]), (5, [(0, 2), (1, 2), (2, 2), (3, 2), (4, 2), (5, 2), (6, 2), (7, 2), (8, 2), (9, 2), (10, 2), (11, 2), (12, 2), (13, 0), (14, 2), (15, 2), (16, 2)]), (8, [(0, 2), (1, 2), (2, 2), (3, 2), (4, 2), (5, 2), (6, 2), (7, 2), (8, 2), (9, 2), (10, 2), (11, 2), (12, 2), (13, 0), (14, 2), (15, 0)]), (10, [(0, 2), (1, 2), (2, 2), (3, 2), (4, 2), (5, 2), (6, 2), (7, 2), (8, 2), (9, 2), (10, 2), (11, 2), (12, 2), (13, 0), (14, 2), (15, 0)]), (13, [(0, 2), (1, 2), (2, 2), (3, 2), (4, 2), (5, 2), (6, 2), (7, 2), (8, 2), (9, 2), (10, 2), (11, 2), (12, 2), (13, 0), (14, 2), (15, 2)]), (15, [(0, 2), (1, 2), (2, 2), (3, 2), (4, 2), (5, 2), (6, 2), (7, 2), (8, 2), (9, 2), (10, 2), (11, 2), (12, 2), (13, 0), (14, 2), (15, 2), (16, 2)]), (18, [(0, 2), (1, 2), (2, 2), (3, 2), (4, 2), (5, 2), (6, 2), (7, 2), (8, 2), (9, 2), (10, 2), (11, 2), (12, 2), (13, 0), (14, 2), (15, 0)]), (21, [(0, 2), (1, 2), (2, 2), (3, 2), (4, 2), (5, 2), (6, 2), (7, 2), (8, 2), (9, 2), (10, 2), (11, 2), (12, 2), (13, 0), (14, 2), (15, 0)])] },
  { f := 57, L := [], D := [] },
  { f := 58, L := [], D := [] },
  { f := 59, L := [], D := [(3, [(0, 2), (1, 2), (2, 2), (3, 2), (4, 2), (5, 2), (6, 2), (7, 2), (8, 2), (9, 2), (10, 2), (11, 2), (12, 2), (13, 2), (14, 2), (15, 2), (16, 2), (17, 2), (18, 2), (19, 0), (20, 2), (21, 2)]), (5, [(0, 2), (1, 2), (2, 2), (3, 2), (4, 2), (5, 2), (6, 2), (7, 2), (8, 2), (9, 2), (10, 2), (11, 2), (12, 2), (13, 0), (14, 2), (15, 2)]), (6, [(0, 2), (1, 2), (2, 2), (3, 2), (4, 2), (5, 2), (6, 2), (7, 2), (8, 2), (9, 2), (10, 2), (11, 2), (12, 2), (13, 2), (14, 2), (15, 2), (16, 2), (17, 2), (18, 2), (19, 2), (20, 2), (21, 0), (22, 2), (23, 0)])] },
  { f := 60, L := [], D := [] },
  { f := 61, L := [], D := [(1, [(0, 2), (1, 2), (2, 2), (3, 2), (4, 2), (5, 2), (6, 2), (7, 2), (8, 2), (9, 0)]), (2, [(0, 2), (1, 2), (2, 2), (3, 2), (4, 2), (5, 2), (6, 2), (7, 2), (8, 2), (9, 0)]), (3, [(0, 2), (1, 2), (2, 2), (3, 2), (4, 2), (5, 2), (6, 2), (7, 2), (8, 2), (9, 0)])] },
  { f := 62, L := [], D := [] },
  { f := 63, L := [], D := [] },
  { f := 64, L := [], D := [(1, [(0, 2), (1, 2), (2, 2), (3, 2), (4, 2), (5, 2), (6, 2), (7, 2), (8, 2), (9, 0), (10, 2)])] }]

theorem tabC_ok : tabOk Try.prog tabC = true := by kernel_rfl
theorem F9_run : rIs (rCall 2000 Try.prog tabC 40 9 [] AHeap.none) true = true := by kernel_rfl
theorem F9_spec0 (h : AHeap) : ACalls Try.prog 9 [] h (fun v' h'' => v' = (.bool true : Value) ∧ h'' = h) := acalls_run good 2000 40 tabC tabC_ok F9_run rfl h
def F9 : Unit := ()
theorem F9_spec (h : AHeap) (r : Unit) (_ : F9 = r) : ACalls Try.prog 9 [] h (fun v' h'' => v' = (.bool true : Value) ∧ h'' = h) := F9_spec0 h
def tab : List FEnt := [
  { f := 5, L := [], D := [(9, [(0, 2), (1, 2), (2, 2), (3, 2), (4, 2), (5, 2), (6, 2), (7, 2), (8, 2)])] },
  { f := 10, L := [], D := [] },
  { f := 14, L := [], D := [] },
  { f := 15, L := [], D := [(14, [(0, 2), (1, 2), (2, 2), (3, 2), (4, 2), (6, 2), (7, 2), (8, 2), (9, 5), (5, 1), (10, 1), (11, 2), (12, 2), (13, 2), (14, 2)])] },
  { f := 16, L := [], D := [] },
  { f := 17, L := [], D := [] },
  { f := 28, L := [], D := [] },
  { f := 29, L := [8], D := [] },
  { f := 33, L := [7, 13, 16], D := [(19, [(0, 2), (1, 2), (2, 2), (3, 2), (4, 2), (5, 2), (6, 2), (7, 2), (8, 2), (9, 2)]), (20, [(0, 2), (1, 2), (2, 2), (3, 2), (4, 2), (5, 2), (6, 2), (7, 2), (8, 2), (9, 2), (10, 2), (11, 2), (12, 2)]), (35, [(0, 2), (1, 2), (2, 2), (3, 2), (4, 2), (5, 2), (6, 2), (7, 2), (8, 2), (9, 2), (10, 2), (11, 0)])] },
  { f := 34, L := [2], D := [] },
  { f := 35, L := [1], D := [] },
  { f := 36, L := [3], D := [(3, [(0, 2), (1, 2), (2, 1), (3, 2), (4, 2), (5, 2), (6, 2), (9, 2), (8, 3), (7, 1), (10, 1), (11, 2), (12, 2), (13, 2), (14, 2)]), (4, [(0, 2), (1, 2), (4, 2), (7, 2), (6, 3), (2, 1), (3, 2), (5, 1), (8, 1), (9, 2), (10, 2)])] }]

theorem tab_ok : tabOk Try.prog tab = true := by kernel_rfl
/-! 16 jacquard/jacquardref38.Interval -/
def F16 (x1 : Int) : Int :=
  (if 256 < (if 0 > x1 then 0 else x1) then 256 else (if 0 > x1 then 0 else x1))
set_option maxRecDepth 100000 in
theorem F16_spec (x1 : Int) (h : AHeap)  (r : Int) : F16 x1 = r → ACalls Try.prog 16 [.int .i64 x1] h (fun v' h'' => v' = (.int .i64 r : Value) ∧ h'' = h) := by
  unfold F16
  intro hr
  subst hr
  exact pFun_sound good tab_ok (f := 16) (its := [.g, .g, .g, .g, .g]) (args := [.int .i64 x1]) (h := h) (h' := h) (v := .int .i64 (if 256 < (if 0 > x1 then 0 else x1) then 256 else (if 0 > x1 then 0 else x1))) (hC := trivial) (hr := by kernel_rfl)
/-! 35 jacquard/jacquardref38.From -/
def F35__1 (x1 : Int) : Int := (if 1073741824 < (if (-1073741824) > x1 then (-1073741824) else x1) then 1073741824 else (if (-1073741824) > x1 then (-1073741824) else x1))
def F35 (x1 : Int) (x2 : Int) : Int :=
  (F35__1 x1)
set_option maxRecDepth 100000 in
theorem F35_spec (x1 : Int) (x2 : Int) (h : AHeap)  (r : Int) : F35 x1 x2 = r → ACalls Try.prog 35 [.agg #[.int .i64 x1, .int .i64 x2]] h (fun v' h'' => v' = (.int .i64 r : Value) ∧ h'' = h) := by
  unfold F35
  intro hr
  subst hr
  exact pFun_sound good tab_ok (f := 35) (its := [.g, .g, .g, .g, .g, .g, .g]) (args := [.agg #[.int .i64 x1, .int .i64 x2]]) (h := h) (h' := h) (v := .int .i64 (F35__1 x1)) (hC := trivial) (hr := by kernel_rfl)
/-! 34 jacquard/jacquardref38.Len -/
def F34__1 (x2 : Int) (x3 : Int) : Int := (if (F16 x3) < (if 1048576 < (if 0 > x2 then 0 else x2) then 1048576 else (if 0 > x2 then 0 else x2)) then (F16 x3) else (if 1048576 < (if 0 > x2 then 0 else x2) then 1048576 else (if 0 > x2 then 0 else x2)))
def F34 (x1 : Int) (x2 : Int) (x3 : Int) : Int :=
  (bif decide ((F16 x3) > 0) then
   (F34__1 x2 x3)
  else
   (if 1048576 < (if 0 > x2 then 0 else x2) then 1048576 else (if 0 > x2 then 0 else x2)))
set_option maxRecDepth 100000 in
theorem F34_spec (x1 : Int) (x2 : Int) (x3 : Int) (h : AHeap)  (r : Int) : F34 x1 x2 x3 = r → ACalls Try.prog 34 [.agg #[.int .i64 x1, .int .i64 x2], .int .i64 x3] h (fun v' h'' => v' = (.int .i64 r : Value) ∧ h'' = h) := by
  unfold F34
  refine dec_bif (fun c5 => ?_) (fun c5 => ?_)
  · intro hr
    subst hr
    exact pFun_sound good tab_ok (f := 34) (its := [.g, .g, .g, .g, .g, .g, .g, .g, (.c (.int .i64 (F16 x3)) h), .g, (.b true), .g, .g, (.c (.int .i64 (F16 x3)) h), .g, .g, .g, .g]) (args := [.agg #[.int .i64 x1, .int .i64 x2], .int .i64 x3]) (h := h) (h' := h) (v := .int .i64 (F34__1 x2 x3)) (hC := (And.intro (F16_spec x3 h _ rfl) (And.intro c5 (And.intro (F16_spec x3 h _ rfl) trivial)))) (hr := by kernel_rfl)
  · intro hr
    subst hr
    exact pFun_sound good tab_ok (f := 34) (its := [.g, .g, .g, .g, .g, .g, .g, .g, (.c (.int .i64 (F16 x3)) h), .g, (.b false), .g, .g]) (args := [.agg #[.int .i64 x1, .int .i64 x2], .int .i64 x3]) (h := h) (h' := h) (v := .int .i64 (if 1048576 < (if 0 > x2 then 0 else x2) then 1048576 else (if 0 > x2 then 0 else x2))) (hC := (And.intro c5 (And.intro (F16_spec x3 h _ rfl) trivial))) (hr := by kernel_rfl)
def enc24 (x : Int × Int) : List Value := [.int .i64 x.1, .int .i64 x.2]
def E24 (h : AHeap) (cs : List Value) (x : Int × Int) : Prop := cs = enc24 x
theorem E24_mono {h h' : AHeap} (le : h.sub h') (cs : List Value) (x : Int × Int) (H : E24 h cs x) : E24 h' cs x := H
def W24 (x : Int × Int) : Prop := (Lit.int .i64 x.1).wf = true ∧ (Lit.int .i64 x.2).wf = true ∧ True
set_option maxRecDepth 100000 in
theorem E24_wt {h : AHeap} {n : Nat} {cs : List Value} (H : WT Try.prog h n 24 cs) : ∃ x, E24 h cs x ∧ W24 x := by
  have k : SQ Try.prog h [.int .i64, .int .i64] cs := wt_flatS 2 n (by kernel_rfl) H
  obtain ⟨x0, r0, rfl, w0, k0⟩ := sq_int k
  obtain ⟨x1, r1, rfl, w1, k1⟩ := sq_int k0
  obtain rfl := sq_nil k1
  exact ⟨(x0, x1), rfl, ⟨w0, w1, trivial⟩⟩
/-! 28 jacquard/jacquardref38.Few -/
def F28_L : List Nat := []
def F28_D : List (Nat × List (Nat × Nat)) := []
def F28_m1_2 : List Bool := [true, true, true, true, true, true, true, true, true, true, true, true, true, true, true, true, true, true, true, true, true, true, true, true, true, true, true, true, true, true, true, true, true, true, true, true, true, true, true, true, true, true, true, true, true]
def F28_m1_1 : List Bool := [false, false, true, true, true, true, true, true, true, true, true, true, true, false, false, true, true, true, true, true, true, true, true, true, true, true, true, true, true, true, true, true, true, true, true, true, true, true, true, true, true, true, true, true, true]
def F28_m1_0 : List Bool := [true, true, true, true, true, true, false, true, true, true, true, true, true, true, true, true, true, true, true, true, true, true, true, true, true, true, true, true, true, true, true, true, true, true, true, true, true, true, true, true, true, true, true, true, true]
def F28_s1 (l1 : List (Int × Int)) (x2 : Int) (a5 : Int) : Option (Int ⊕ Nat) :=
  (bif decide (a5 < (l1.length : Int)) then
   (bif ((F16 x2) == 0) then
    (Option.bind (at? l1 a5) fun y9 =>
    (bif decide ((F35 y9.1 y9.2) < (-500)) then
     some (.inr 0)
    else
     (bif decide ((F35 y9.1 y9.2) > 500) then
      some (.inr 0)
     else
      (bif decide ((F34 y9.1 y9.2 0) > 500) then
       some (.inr 0)
      else
       some (.inl (IntKind.i64.wrap (a5 + 1)))))))
   else
    some (.inl (IntKind.i64.wrap (a5 + 1))))
  else
   some (.inr 1))
def F28_h1 (h : AHeap) (l1 : List (Int × Int)) (v1 : Hd) (x2 : Int)  (a5 : Int) : AS := ⟨[(sv v1), .int .i64 x2, junk, junk, junk, junk, junk, junk, junk, junk, junk, junk, junk, .int .i64 (l1.length : Int), .int .i64 a5, junk, junk, junk, junk, junk, junk, junk, junk, junk, junk, junk, junk, junk, junk, junk, junk, junk, junk, junk, junk, junk, junk, junk, junk, junk, junk, junk, junk, junk, junk], [], h⟩
theorem F28_d1 : drawsOk F28_D (codeOf Try.prog 28 [1, 1, 0, 1, 0, 0]) = true := by kernel_rfl
def F28_x1_0 (h : AHeap)  (r : Nat) : AS := ⟨[junk, junk, junk, junk, junk, junk, .bool false, junk, junk, junk, junk, junk, junk, junk, junk, junk, junk, junk, junk, junk, junk, junk, junk, junk, junk, junk, junk, junk, junk, junk, junk, junk, junk, junk, junk, junk, junk, junk, junk, junk, junk, junk, junk, junk, junk], [], h⟩
def F28_x1_1 (h : AHeap)  (r : Nat) : AS := ⟨[junk, junk, junk, junk, junk, junk, junk, junk, junk, junk, junk, junk, junk, junk, junk, junk, junk, junk, junk, junk, junk, junk, junk, junk, junk, junk, junk, junk, junk, junk, junk, junk, junk, junk, junk, junk, junk, junk, junk, junk, junk, junk, junk, junk, junk], [], h⟩
def F28_x1 (h : AHeap) (r : Nat) : Exit × AS := (bif Nat.beq r 0 then (.ret, (F28_x1_0 h r)) else ((.exit 0), (F28_x1_1 h r)))
set_option maxRecDepth 100000 in
theorem F28_r1 (h : AHeap) (l1 : List (Int × Int)) (v1 : Hd) (hv1 : SlE E24 2 h (sv v1) l1) (x2 : Int) (a5 : Int) (o : Int ⊕ Nat) : F28_s1 l1 x2 a5 = some o → RdF Try.prog (codeOf Try.prog 28 [1, 1, 0, 1, 0, 0]) (fun (s : Int) => (F28_h1 h l1 v1 x2 s)) (F28_x1 h) (F28_h1 h l1 v1 x2 a5) o := by
  unfold F28_s1
  refine dec_bif (fun c6 => ?_) (fun c6 => ?_)
  · refine dec_bif (fun c8 => ?_) (fun c8 => ?_)
    · refine bind_opt fun y9 e9 => ?_
      obtain ⟨id9, off9, g9, cs9, ix9, at9, rfl⟩ := SlE.at hv1 e9
      refine dec_bif (fun c11 => ?_) (fun c11 => ?_)
      · intro hr
        obtain rfl := Option.some.inj hr
        show AWp Try.prog _ (Ends1 ((F28_x1 h) (0 : Nat)).1 ((F28_x1 h) (0 : Nat)).2) _
        exact pEnd_sound good (L := F28_L) (D := F28_D) (its := [.g, (.b true), .g, .g, .g, (.c (.int .i64 (F16 x2)) h), .g, .g, (.w .g), (.w .g), (.w (.ix id9 off9 g9)), (.w (.ld (.agg #[.int .i64 y9.1, .int .i64 y9.2]))), (.w (.c (.int .i64 (F35 y9.1 y9.2)) h)), (.w .g), (.w .g), .n, .n, .n, .n, .n, .n, (.w (.p true)), (.w .g), .n, .n, .n, .n, .n, .n, (.w .g), (.p true), (.b true), .g]) (ds := F28_m1_0) (ks := []) (e := ((F28_x1 h) (0 : Nat)).1) (s2 := ((F28_x1 h) (0 : Nat)).2) (hC := (And.intro l_t (And.intro c8 (And.intro (g_tt c8) (And.intro (g_tf l_t) (And.intro (g_tf l_t) (And.intro (g_tf l_t) (And.intro (g_tf l_t) (And.intro (g_tf l_t) (And.intro (g_tf l_t) (And.intro (g_tt c8) (And.intro c11 (And.intro (g_tt c8) (And.intro (g_tf c11) (And.intro (g_tf c11) (And.intro (g_tf c11) (And.intro (g_tf c11) (And.intro (g_tf c11) (And.intro (g_tf c11) (And.intro (g_tt c8) (And.intro (g_tt c8) (And.intro (F35_spec y9.1 y9.2 h _ rfl) (And.intro (g_tt c8) (And.intro (At.agg (P := Try.prog) (t := 24) (v := .agg #[.int .i64 y9.1, .int .i64 y9.2]) (m := 2) at9 (by kernel_rfl) (by kernel_rfl) 0 (by kernel_rfl) rfl) (And.intro (g_tt c8) (And.intro ix9 (And.intro (g_tt c8) (And.intro (g_tt c8) (And.intro (g_tt c8) (And.intro (F16_spec x2 h _ rfl) (And.intro c6 trivial))))))))))))))))))))))))))))))) (hd := F28_d1) (h := by kernel_rfl)
      · refine dec_bif (fun c13 => ?_) (fun c13 => ?_)
        · intro hr
          obtain rfl := Option.some.inj hr
          show AWp Try.prog _ (Ends1 ((F28_x1 h) (0 : Nat)).1 ((F28_x1 h) (0 : Nat)).2) _
          exact pEnd_sound good (L := F28_L) (D := F28_D) (its := [.g, (.b true), .g, .g, .g, (.c (.int .i64 (F16 x2)) h), .g, .g, (.w .g), (.w .g), (.w (.ix id9 off9 g9)), (.w (.ld (.agg #[.int .i64 y9.1, .int .i64 y9.2]))), (.w (.c (.int .i64 (F35 y9.1 y9.2)) h)), (.w .g), (.w .g), (.w .g), (.w .g), (.w (.ix id9 off9 g9)), (.w (.ld (.agg #[.int .i64 y9.1, .int .i64 y9.2]))), (.w (.c (.int .i64 (F35 y9.1 y9.2)) h)), (.w .g), (.w (.p false)), (.w .g), .n, .n, .n, .n, .n, .n, (.w (.p true)), (.p true), (.b true), .g]) (ds := F28_m1_0) (ks := []) (e := ((F28_x1 h) (0 : Nat)).1) (s2 := ((F28_x1 h) (0 : Nat)).2) (hC := (And.intro l_t (And.intro c8 (And.intro c13 (And.intro (g_tt c8) (And.intro (g_tf c13) (And.intro (g_tf c13) (And.intro (g_tf c13) (And.intro (g_tf c13) (And.intro (g_tf c13) (And.intro (g_tf c13) (And.intro (g_tt c8) (And.intro c11 (And.intro (g_tt c8) (And.intro (g_ff c11) (And.intro (F35_spec y9.1 y9.2 h _ rfl) (And.intro (g_ff c11) (And.intro (At.agg (P := Try.prog) (t := 24) (v := .agg #[.int .i64 y9.1, .int .i64 y9.2]) (m := 2) at9 (by kernel_rfl) (by kernel_rfl) 0 (by kernel_rfl) rfl) (And.intro (g_ff c11) (And.intro ix9 (And.intro (g_ff c11) (And.intro (g_ff c11) (And.intro (g_ff c11) (And.intro (g_tt c8) (And.intro (g_tt c8) (And.intro (F35_spec y9.1 y9.2 h _ rfl) (And.intro (g_tt c8) (And.intro (At.agg (P := Try.prog) (t := 24) (v := .agg #[.int .i64 y9.1, .int .i64 y9.2]) (m := 2) at9 (by kernel_rfl) (by kernel_rfl) 0 (by kernel_rfl) rfl) (And.intro (g_tt c8) (And.intro ix9 (And.intro (g_tt c8) (And.intro (g_tt c8) (And.intro (g_tt c8) (And.intro (F16_spec x2 h _ rfl) (And.intro c6 trivial))))))))))))))))))))))))))))))))))) (hd := F28_d1) (h := by kernel_rfl)
        · refine dec_bif (fun c15 => ?_) (fun c15 => ?_)
          · intro hr
            obtain rfl := Option.some.inj hr
            show AWp Try.prog _ (Ends1 ((F28_x1 h) (0 : Nat)).1 ((F28_x1 h) (0 : Nat)).2) _
            exact pEnd_sound good (L := F28_L) (D := F28_D) (its := [.g, (.b true), .g, .g, .g, (.c (.int .i64 (F16 x2)) h), .g, .g, (.w .g), (.w .g), (.w (.ix id9 off9 g9)), (.w (.ld (.agg #[.int .i64 y9.1, .int .i64 y9.2]))), (.w (.c (.int .i64 (F35 y9.1 y9.2)) h)), (.w .g), (.w .g), (.w .g), (.w .g), (.w (.ix id9 off9 g9)), (.w (.ld (.agg #[.int .i64 y9.1, .int .i64 y9.2]))), (.w (.c (.int .i64 (F35 y9.1 y9.2)) h)), (.w .g), (.w (.p false)), (.w .g), (.w .g), (.w .g), (.w (.ix id9 off9 g9)), (.w (.ld (.agg #[.int .i64 y9.1, .int .i64 y9.2]))), (.w (.c (.int .i64 (F34 y9.1 y9.2 0)) h)), (.w .g), (.w (.p false)), (.p true), (.b true), .g]) (ds := F28_m1_0) (ks := []) (e := ((F28_x1 h) (0 : Nat)).1) (s2 := ((F28_x1 h) (0 : Nat)).2) (hC := (And.intro c15 (And.intro c8 (And.intro c13 (And.intro (g_tt c8) (And.intro (g_ff c13) (And.intro (F34_spec y9.1 y9.2 0 h _ rfl) (And.intro (g_ff c13) (And.intro (At.agg (P := Try.prog) (t := 24) (v := .agg #[.int .i64 y9.1, .int .i64 y9.2]) (m := 2) at9 (by kernel_rfl) (by kernel_rfl) 0 (by kernel_rfl) rfl) (And.intro (g_ff c13) (And.intro ix9 (And.intro (g_ff c13) (And.intro (g_ff c13) (And.intro (g_ff c13) (And.intro (g_tt c8) (And.intro c11 (And.intro (g_tt c8) (And.intro (g_ff c11) (And.intro (F35_spec y9.1 y9.2 h _ rfl) (And.intro (g_ff c11) (And.intro (At.agg (P := Try.prog) (t := 24) (v := .agg #[.int .i64 y9.1, .int .i64 y9.2]) (m := 2) at9 (by kernel_rfl) (by kernel_rfl) 0 (by kernel_rfl) rfl) (And.intro (g_ff c11) (And.intro ix9 (And.intro (g_ff c11) (And.intro (g_ff c11) (And.intro (g_ff c11) (And.intro (g_tt c8) (And.intro (g_tt c8) (And.intro (F35_spec y9.1 y9.2 h _ rfl) (And.intro (g_tt c8) (And.intro (At.agg (P := Try.prog) (t := 24) (v := .agg #[.int .i64 y9.1, .int .i64 y9.2]) (m := 2) at9 (by kernel_rfl) (by kernel_rfl) 0 (by kernel_rfl) rfl) (And.intro (g_tt c8) (And.intro ix9 (And.intro (g_tt c8) (And.intro (g_tt c8) (And.intro (g_tt c8) (And.intro (F16_spec x2 h _ rfl) (And.intro c6 trivial)))))))))))))))))))))))))))))))))))))) (hd := F28_d1) (h := by kernel_rfl)
          · intro hr
            obtain rfl := Option.some.inj hr
            show AWp Try.prog _ (Ends1 .normal (F28_h1 h l1 v1 x2 (IntKind.i64.wrap (a5 + 1)))) _
            exact pEnd_sound good (L := F28_L) (D := F28_D) (its := [.g, (.b true), .g, .g, .g, (.c (.int .i64 (F16 x2)) h), .g, .g, (.w .g), (.w .g), (.w (.ix id9 off9 g9)), (.w (.ld (.agg #[.int .i64 y9.1, .int .i64 y9.2]))), (.w (.c (.int .i64 (F35 y9.1 y9.2)) h)), (.w .g), (.w .g), (.w .g), (.w .g), (.w (.ix id9 off9 g9)), (.w (.ld (.agg #[.int .i64 y9.1, .int .i64 y9.2]))), (.w (.c (.int .i64 (F35 y9.1 y9.2)) h)), (.w .g), (.w (.p false)), (.w .g), (.w .g), (.w .g), (.w (.ix id9 off9 g9)), (.w (.ld (.agg #[.int .i64 y9.1, .int .i64 y9.2]))), (.w (.c (.int .i64 (F34 y9.1 y9.2 0)) h)), (.w .g), (.w (.p false)), (.p true), (.b false), .g, .g]) (ds := F28_m1_1) (ks := []) (e := .normal) (s2 := (F28_h1 h l1 v1 x2 (IntKind.i64.wrap (a5 + 1)))) (hC := (And.intro c15 (And.intro c8 (And.intro c13 (And.intro (g_tt c8) (And.intro (g_ff c13) (And.intro (F34_spec y9.1 y9.2 0 h _ rfl) (And.intro (g_ff c13) (And.intro (At.agg (P := Try.prog) (t := 24) (v := .agg #[.int .i64 y9.1, .int .i64 y9.2]) (m := 2) at9 (by kernel_rfl) (by kernel_rfl) 0 (by kernel_rfl) rfl) (And.intro (g_ff c13) (And.intro ix9 (And.intro (g_ff c13) (And.intro (g_ff c13) (And.intro (g_ff c13) (And.intro (g_tt c8) (And.intro c11 (And.intro (g_tt c8) (And.intro (g_ff c11) (And.intro (F35_spec y9.1 y9.2 h _ rfl) (And.intro (g_ff c11) (And.intro (At.agg (P := Try.prog) (t := 24) (v := .agg #[.int .i64 y9.1, .int .i64 y9.2]) (m := 2) at9 (by kernel_rfl) (by kernel_rfl) 0 (by kernel_rfl) rfl) (And.intro (g_ff c11) (And.intro ix9 (And.intro (g_ff c11) (And.intro (g_ff c11) (And.intro (g_ff c11) (And.intro (g_tt c8) (And.intro (g_tt c8) (And.intro (F35_spec y9.1 y9.2 h _ rfl) (And.intro (g_tt c8) (And.intro (At.agg (P := Try.prog) (t := 24) (v := .agg #[.int .i64 y9.1, .int .i64 y9.2]) (m := 2) at9 (by kernel_rfl) (by kernel_rfl) 0 (by kernel_rfl) rfl) (And.intro (g_tt c8) (And.intro ix9 (And.intro (g_tt c8) (And.intro (g_tt c8) (And.intro (g_tt c8) (And.intro (F16_spec x2 h _ rfl) (And.intro c6 trivial)))))))))))))))))))))))))))))))))))))) (hd := F28_d1) (h := by kernel_rfl)
    · intro hr
      obtain rfl := Option.some.inj hr
      show AWp Try.prog _ (Ends1 .normal (F28_h1 h l1 v1 x2 (IntKind.i64.wrap (a5 + 1)))) _
      exact pEnd_sound good (L := F28_L) (D := F28_D) (its := [.g, (.b true), .g, .g, .g, (.c (.int .i64 (F16 x2)) h), .g, .g, .n, .n, .n, .n, .n, .n, .n, .n, .n, .n, .n, .n, .n, .n, .n, .n, .n, .n, .n, .n, .n, .n, (.p false), (.b false), .g, .g]) (ds := F28_m1_1) (ks := []) (e := .normal) (s2 := (F28_h1 h l1 v1 x2 (IntKind.i64.wrap (a5 + 1)))) (hC := (And.intro l_f (And.intro c8 (And.intro (g_ft c8) (And.intro l_f (And.intro l_f (And.intro l_f (And.intro l_f (And.intro l_f (And.intro l_f (And.intro (g_ft c8) (And.intro (g_ft c8) (And.intro l_f (And.intro l_f (And.intro l_f (And.intro l_f (And.intro l_f (And.intro l_f (And.intro (g_ft c8) (And.intro (g_ft c8) (And.intro (g_ft c8) (And.intro (g_ft c8) (And.intro (g_ft c8) (And.intro (g_ft c8) (And.intro (g_ft c8) (And.intro (F16_spec x2 h _ rfl) (And.intro c6 trivial))))))))))))))))))))))))))) (hd := F28_d1) (h := by kernel_rfl)
  · intro hr
    obtain rfl := Option.some.inj hr
    show AWp Try.prog _ (Ends1 ((F28_x1 h) (1 : Nat)).1 ((F28_x1 h) (1 : Nat)).2) _
    exact pEnd_sound good (L := F28_L) (D := F28_D) (its := [.g, (.b false)]) (ds := F28_m1_2) (ks := []) (e := ((F28_x1 h) (1 : Nat)).1) (s2 := ((F28_x1 h) (1 : Nat)).2) (hC := (And.intro c6 trivial)) (hd := F28_d1) (h := by kernel_rfl)
theorem F28_l1_0 (h : AHeap) (l1 : List (Int × Int)) (v1 : Hd) (hv1 : SlE E24 2 h (sv v1) l1) (x2 : Int) (x : Int) (r : Nat) (hl : loopO (fun (s : Int) => F28_s1 l1 x2 s) x = some r) (q0 : Nat.beq r 0 = true) : AWp Try.prog (.loop (codeOf Try.prog 28 [1, 1, 0, 1, 0, 0])) (Ends1 .ret (F28_x1_0 h r)) ((fun (s : Int) => (F28_h1 h l1 v1 x2 s)) x) := by
  have k := loop_fun (P := Try.prog) (c := (codeOf Try.prog 28 [1, 1, 0, 1, 0, 0])) (step := (fun (s : Int) => F28_s1 l1 x2 s)) (hd := (fun (s : Int) => (F28_h1 h l1 v1 x2 s))) (X := (F28_x1 h)) (by intro t; unfold F28_x1; cases Nat.beq t 0 <;> (intro h; cases h)) (fun x => F28_r1 h l1 v1 hv1 x2 x) hl
  simp only [F28_x1, q0, cond_true, cond_false] at k
  exact k
theorem F28_l1_1 (h : AHeap) (l1 : List (Int × Int)) (v1 : Hd) (hv1 : SlE E24 2 h (sv v1) l1) (x2 : Int) (x : Int) (r : Nat) (hl : loopO (fun (s : Int) => F28_s1 l1 x2 s) x = some r) (q0 : Nat.beq r 0 = false) : AWp Try.prog (.loop (codeOf Try.prog 28 [1, 1, 0, 1, 0, 0])) (Ends1 (.exit 0) (F28_x1_1 h r)) ((fun (s : Int) => (F28_h1 h l1 v1 x2 s)) x) := by
  have k := loop_fun (P := Try.prog) (c := (codeOf Try.prog 28 [1, 1, 0, 1, 0, 0])) (step := (fun (s : Int) => F28_s1 l1 x2 s)) (hd := (fun (s : Int) => (F28_h1 h l1 v1 x2 s))) (X := (F28_x1 h)) (by intro t; unfold F28_x1; cases Nat.beq t 0 <;> (intro h; cases h)) (fun x => F28_r1 h l1 v1 hv1 x2 x) hl
  simp only [F28_x1, q0, cond_true, cond_false] at k
  exact k
def F28 (l1 : List (Int × Int)) (x2 : Int) (x3 : Int) : Option (Bool) :=
  (bif decide ((l1.length : Int) > x3) then
   some (false)
  else
   (Option.bind (loopO (fun (s : Int) => F28_s1 l1 x2 s) 0) fun y16 =>
   (bif (Nat.beq y16 0) then
    some (false)
   else
    some (true))))
set_option maxRecDepth 100000 in
theorem F28_spec (l1 : List (Int × Int)) (x2 : Int) (x3 : Int) (v1 : Hd) (h : AHeap) (hv1 : SlE E24 2 h (sv v1) l1) (r : Bool) : F28 l1 x2 x3 = some r → ACalls Try.prog 28 [(sv v1), .int .i64 x2, .int .i64 x3] h (fun v' h'' => v' = (.bool r : Value) ∧ h'' = h) := by
  unfold F28
  refine dec_bif (fun c4 => ?_) (fun c4 => ?_)
  · intro hr
    obtain rfl := Option.some.inj hr
    exact pFun_sound good tab_ok (f := 28) (its := [.g, .g, (.ln l1.length), .g, .g, (.b true), .g]) (args := [(sv v1), .int .i64 x2, .int .i64 x3]) (h := h) (h' := h) (v := .bool false) (hC := (And.intro c4 (And.intro (SlE.len hv1) trivial))) (hr := by kernel_rfl)
  · refine bind_opt fun y16 e16 => ?_
    refine dec_bif (fun c17 => ?_) (fun c17 => ?_)
    · intro hr
      obtain rfl := Option.some.inj hr
      exact pFun_sound good tab_ok (f := 28) (its := [.g, .g, (.ln l1.length), .g, .g, (.b false), .g, (.ln l1.length), .g, (.l F28_m1_1 [] .ret (F28_x1_0 h y16))]) (args := [(sv v1), .int .i64 x2, .int .i64 x3]) (h := h) (h' := h) (v := .bool false) (hC := (And.intro (F28_l1_0 h l1 v1 hv1 x2 0 y16 e16 c17) (And.intro (SlE.len hv1) (And.intro c4 (And.intro (SlE.len hv1) trivial))))) (hr := by kernel_rfl)
    · intro hr
      obtain rfl := Option.some.inj hr
      exact pFun_sound good tab_ok (f := 28) (its := [.g, .g, (.ln l1.length), .g, .g, (.b false), .g, (.ln l1.length), .g, (.l F28_m1_1 [] (.exit 0) (F28_x1_1 h y16)), .g]) (args := [(sv v1), .int .i64 x2, .int .i64 x3]) (h := h) (h' := h) (v := .bool true) (hC := (And.intro (F28_l1_1 h l1 v1 hv1 x2 0 y16 e16 c17) (And.intro (SlE.len hv1) (And.intro c4 (And.intro (SlE.len hv1) trivial))))) (hr := by kernel_rfl)
/-! 10 jacquard/jacquardlaw38.few -/
def F10 (l1 : List (Int × Int)) (x2 : Int) : Option (Bool) :=
  (Option.bind (F28 l1 x2 30) fun y3 =>
  some (y3))
set_option maxRecDepth 100000 in
theorem F10_spec (l1 : List (Int × Int)) (x2 : Int) (v1 : Hd) (h : AHeap) (hv1 : SlE E24 2 h (sv v1) l1) (r : Bool) : F10 l1 x2 = some r → ACalls Try.prog 10 [(sv v1), .int .i64 x2] h (fun v' h'' => v' = (.bool r : Value) ∧ h'' = h) := by
  unfold F10
  refine bind_opt fun y3 e3 => ?_
  intro hr
  obtain rfl := Option.some.inj hr
  exact pFun_sound good tab_ok (f := 10) (its := [.g, .g, .g, (.c (.bool y3) h), .g]) (args := [(sv v1), .int .i64 x2]) (h := h) (h' := h) (v := .bool y3) (hC := (And.intro (F28_spec l1 x2 30 v1 h hv1 _ e3) trivial)) (hr := by kernel_rfl)
/-! 29 jacquard/color.limits -/
def F29_L : List Nat := [8]
def F29_D : List (Nat × List (Nat × Nat)) := []
def F29__1 (y10 : Int × Int) : Int := (if 1073741824 < (if (-1073741824) > y10.1 then (-1073741824) else y10.1) then 1073741824 else (if (-1073741824) > y10.1 then (-1073741824) else y10.1))
def F29__2 (y10 : Int × Int) : Int := (if 1048576 < (if 0 > y10.2 then 0 else y10.2) then 1048576 else (if 0 > y10.2 then 0 else y10.2))
def F29__3 (x2 : Int) : Bool := decide ((if 256 < (if 0 > x2 then 0 else x2) then 256 else (if 0 > x2 then 0 else x2)) > 0)
def F29__4 (x2 : Int) (y10 : Int × Int) : Int := (if (if 256 < (if 0 > x2 then 0 else x2) then 256 else (if 0 > x2 then 0 else x2)) < (F29__2 y10) then (if 256 < (if 0 > x2 then 0 else x2) then 256 else (if 0 > x2 then 0 else x2)) else (F29__2 y10))
def F29__5 (x2 : Int) (y10 : Int × Int) : Int := ((F29__1 y10).tmod (if 256 < (if 0 > x2 then 0 else x2) then 256 else (if 0 > x2 then 0 else x2)))
def F29__6 (x2 : Int) (y10 : Int × Int) : Int := (IntKind.i64.wrap ((F29__5 x2 y10) + (if 256 < (if 0 > x2 then 0 else x2) then 256 else (if 0 > x2 then 0 else x2))))
def F29_m1_1 : List Bool := [true, false, true, true, true, true, false, true, true, true, true, true, true, true, true, true, true, true, true, true, true, true, true, true, true, true, true, true, true, true, true, true, true, true, true, true, true, true, true, true, true, true, true, true, true, true, true, true, true, true, true, true, true, true, true, true, true, true, true]
def F29_m1_0 : List Bool := [true, false, true, true, true, true, false, true, true, true, true, true, true, true, true, false, false, false, true, true, true, true, true, true, true, true, true, true, true, true, true, true, true, true, true, true, true, true, true, true, true, true, true, true, true, true, true, true, true, true, true, true, true, true, true, true, true, true, true]
def F29_s1 (l1 : List (Int × Int)) (x2 : Int) (a6 : Int) (l7 : List (Int × Int)) : Option ((Int × (List (Int × Int))) ⊕ (List (Int × Int))) :=
  (bif decide (a6 < (l1.length : Int)) then
   (Option.bind (at? l1 a6) fun y10 =>
   (bif (F29__3 x2) then
    (bif ((if 256 < (if 0 > x2 then 0 else x2) then 256 else (if 0 > x2 then 0 else x2)) == 0) then none else
    (bif decide ((F29__5 x2 y10) < 0) then
     (Option.bind (at? l7 a6) fun y14 =>
     some (.inl ((IntKind.i64.wrap (a6 + 1)), (setI l7 a6 ((F29__6 x2 y10), (F29__4 x2 y10))))))
    else
     (Option.bind (at? l7 a6) fun y16 =>
     some (.inl ((IntKind.i64.wrap (a6 + 1)), (setI l7 a6 ((F29__5 x2 y10), (F29__4 x2 y10))))))))
   else
    (Option.bind (at? l7 a6) fun y18 =>
    some (.inl ((IntKind.i64.wrap (a6 + 1)), (setI l7 a6 ((F29__1 y10), (F29__2 y10))))))))
  else
   some (.inr l7))
def F29_h1 (l1 : List (Int × Int)) (v1 : Hd) (x2 : Int) (h8 : AHeap) (u7 : Hd) (a6 : Int) (l7 : List (Int × Int)) : AS := ⟨[junk, .int .i64 (if 256 < (if 0 > x2 then 0 else x2) then 256 else (if 0 > x2 then 0 else x2)), junk, junk, junk, junk, (sv u7), junk, junk, junk, junk, junk, junk, junk, junk, (sv v1), .int .i64 (l1.length : Int), .int .i64 a6, junk, junk, junk, junk, junk, junk, junk, junk, junk, junk, junk, junk, junk, junk, junk, junk, junk, junk, junk, junk, junk, junk, junk, junk, junk, junk, junk, junk, junk, junk, junk, junk, junk, junk, junk, junk, junk, junk, junk, junk, junk], [], h8⟩
theorem F29_d1 : drawsOk F29_D (codeOf Try.prog 29 [1, 1, 1, 0, 1, 0, 0]) = true := by kernel_rfl
def F29_x1_0 (h : AHeap) (x2 : Int) (hx : AHeap) (w0 : Hd) (r : (List (Int × Int))) : AS := ⟨[junk, .int .i64 (if 256 < (if 0 > x2 then 0 else x2) then 256 else (if 0 > x2 then 0 else x2)), junk, junk, junk, junk, (sv w0), junk, junk, junk, junk, junk, junk, junk, junk, junk, junk, junk, junk, junk, junk, junk, junk, junk, junk, junk, junk, junk, junk, junk, junk, junk, junk, junk, junk, junk, junk, junk, junk, junk, junk, junk, junk, junk, junk, junk, junk, junk, junk, junk, junk, junk, junk, junk, junk, junk, junk, junk, junk], [], hx⟩
def F29_i1 (h : AHeap) (l1 : List (Int × Int)) (v1 : Hd) (x2 : Int) (s : Int × (List (Int × Int))) (S : AS) : Prop := ∃ (h8 : AHeap) (u7 : Hd), Heapy h h8 [⟨u7, 24, 2, List.flatMap enc24 s.2⟩] ∧ S = (F29_h1 l1 v1 x2 h8 u7 s.1 s.2)
def F29_x1 (h : AHeap) (x2 : Int) (r : (List (Int × Int))) (e : Exit) (S : AS) : Prop := e = (.exit 0) ∧ ∃ (hx : AHeap) (w0 : Hd), Heapy h hx [⟨w0, 24, 2, List.flatMap enc24 r⟩] ∧ S = (F29_x1_0 h x2 hx w0 r)
set_option maxRecDepth 100000 in
theorem F29_r1 (h : AHeap) (l1 : List (Int × Int)) (v1 : Hd) (hv1 : SlE E24 2 h (sv v1) l1) (x2 : Int) (a6 : Int) (l7 : List (Int × Int)) (S : AS) (hI : (F29_i1 h l1 v1 x2) (a6, l7) S) (o : (Int × (List (Int × Int))) ⊕ (List (Int × Int))) : F29_s1 l1 x2 a6 l7 = some o → Rd Try.prog (codeOf Try.prog 29 [1, 1, 1, 0, 1, 0, 0]) (F29_i1 h l1 v1 x2) (F29_x1 h x2) S o := by
  obtain ⟨h8, u7, hp8, rfl⟩ := hI
  unfold F29_s1
  refine dec_bif (fun c9 => ?_) (fun c9 => ?_)
  · refine bind_opt fun y10 e10 => ?_
    obtain ⟨id10, off10, g10, cs10, ix10, at10, rfl⟩ := SlE.at hv1 e10
    refine dec_bif (fun c11 => ?_) (fun c11 => ?_)
    · refine guard_ok fun g12 => ?_
      refine dec_bif (fun c13 => ?_) (fun c13 => ?_)
      · refine bind_opt fun y14 e14 => ?_
        obtain ⟨id14, off14, g14, cs14, ix14, at14, rfl⟩ := SlE.at (Heapy.sle (v := u7) (xs := l7) (enc := enc24) hp8 0 rfl (fun _ => rfl) (by decide)) e14
        obtain ⟨h15, m15, hp15⟩ := Heapy.store (P := Try.prog) hp8 0 (v := u7) (xs := l7) (enc := enc24) rfl (fun _ => rfl) e14 (y' := ((F29__6 x2 y10), (F29__4 x2 y10))) ix14 (t := 24) (x := .agg #[.int .i64 (F29__6 x2 y10), .int .i64 (F29__4 x2 y10)]) 0 (vs := [.int .i64 (F29__6 x2 y10), .int .i64 (F29__4 x2 y10)]) rfl (by kernel_rfl) rfl rfl rfl rfl
        intro hr
        obtain rfl := Option.some.inj hr
        exact ⟨(F29_h1 l1 v1 x2 h15 u7 (IntKind.i64.wrap (a6 + 1)) (setI l7 a6 ((F29__6 x2 y10), (F29__4 x2 y10)))), ⟨h15, u7, (Heapy.pick hp15 [0] (by decide)), rfl⟩, pEnd_sound good (L := F29_L) (D := F29_D) (its := [.g, (.b true), .g, (.ix id10 off10 g10), (.ld (.agg #[.int .i64 y10.1, .int .i64 y10.2])), .g, .g, .g, .g, .g, .g, .g, .g, .g, .g, .g, .g, .g, .g, .g, .g, .g, (.b true), .g, .g, .g, .g, .g, .g, .g, .g, .g, .d, .g, .g, .g, .g, .g, (.b true), .g, .g, .g, .g, .g, .g, .g, .g, .g, (.ix id14 off14 g14), (.mm undef h15), .g, .g]) (ds := F29_m1_0) (ks := [8]) (e := .normal) (s2 := (F29_h1 l1 v1 x2 h15 u7 (IntKind.i64.wrap (a6 + 1)) (setI l7 a6 ((F29__6 x2 y10), (F29__4 x2 y10))))) (hC := (And.intro m15 (And.intro ix14 (And.intro c13 (And.intro (nz g12) (And.intro c11 (And.intro (At.agg (P := Try.prog) (t := 24) (v := .agg #[.int .i64 y10.1, .int .i64 y10.2]) (m := 2) (At.mono (Heapy.sub hp8) at10) (by kernel_rfl) (by kernel_rfl) 0 (by kernel_rfl) rfl) (And.intro ix10 (And.intro c9 trivial))))))))) (hd := F29_d1) (h := by kernel_rfl)⟩
      · refine bind_opt fun y16 e16 => ?_
        obtain ⟨id16, off16, g16, cs16, ix16, at16, rfl⟩ := SlE.at (Heapy.sle (v := u7) (xs := l7) (enc := enc24) hp8 0 rfl (fun _ => rfl) (by decide)) e16
        obtain ⟨h17, m17, hp17⟩ := Heapy.store (P := Try.prog) hp8 0 (v := u7) (xs := l7) (enc := enc24) rfl (fun _ => rfl) e16 (y' := ((F29__5 x2 y10), (F29__4 x2 y10))) ix16 (t := 24) (x := .agg #[.int .i64 (F29__5 x2 y10), .int .i64 (F29__4 x2 y10)]) 0 (vs := [.int .i64 (F29__5 x2 y10), .int .i64 (F29__4 x2 y10)]) rfl (by kernel_rfl) rfl rfl rfl rfl
        intro hr
        obtain rfl := Option.some.inj hr
        exact ⟨(F29_h1 l1 v1 x2 h17 u7 (IntKind.i64.wrap (a6 + 1)) (setI l7 a6 ((F29__5 x2 y10), (F29__4 x2 y10)))), ⟨h17, u7, (Heapy.pick hp17 [0] (by decide)), rfl⟩, pEnd_sound good (L := F29_L) (D := F29_D) (its := [.g, (.b true), .g, (.ix id10 off10 g10), (.ld (.agg #[.int .i64 y10.1, .int .i64 y10.2])), .g, .g, .g, .g, .g, .g, .g, .g, .g, .g, .g, .g, .g, .g, .g, .g, .g, (.b true), .g, .g, .g, .g, .g, .g, .g, .g, .g, .d, .g, .g, .g, .g, .g, (.b false), .g, .g, .g, (.ix id16 off16 g16), (.mm undef h17), .g, .g]) (ds := F29_m1_0) (ks := [8]) (e := .normal) (s2 := (F29_h1 l1 v1 x2 h17 u7 (IntKind.i64.wrap (a6 + 1)) (setI l7 a6 ((F29__5 x2 y10), (F29__4 x2 y10))))) (hC := (And.intro m17 (And.intro ix16 (And.intro c13 (And.intro (nz g12) (And.intro c11 (And.intro (At.agg (P := Try.prog) (t := 24) (v := .agg #[.int .i64 y10.1, .int .i64 y10.2]) (m := 2) (At.mono (Heapy.sub hp8) at10) (by kernel_rfl) (by kernel_rfl) 0 (by kernel_rfl) rfl) (And.intro ix10 (And.intro c9 trivial))))))))) (hd := F29_d1) (h := by kernel_rfl)⟩
    · refine bind_opt fun y18 e18 => ?_
      obtain ⟨id18, off18, g18, cs18, ix18, at18, rfl⟩ := SlE.at (Heapy.sle (v := u7) (xs := l7) (enc := enc24) hp8 0 rfl (fun _ => rfl) (by decide)) e18
      obtain ⟨h19, m19, hp19⟩ := Heapy.store (P := Try.prog) hp8 0 (v := u7) (xs := l7) (enc := enc24) rfl (fun _ => rfl) e18 (y' := ((F29__1 y10), (F29__2 y10))) ix18 (t := 24) (x := .agg #[.int .i64 (F29__1 y10), .int .i64 (F29__2 y10)]) 0 (vs := [.int .i64 (F29__1 y10), .int .i64 (F29__2 y10)]) rfl (by kernel_rfl) rfl rfl rfl rfl
      intro hr
      obtain rfl := Option.some.inj hr
      exact ⟨(F29_h1 l1 v1 x2 h19 u7 (IntKind.i64.wrap (a6 + 1)) (setI l7 a6 ((F29__1 y10), (F29__2 y10)))), ⟨h19, u7, (Heapy.pick hp19 [0] (by decide)), rfl⟩, pEnd_sound good (L := F29_L) (D := F29_D) (its := [.g, (.b true), .g, (.ix id10 off10 g10), (.ld (.agg #[.int .i64 y10.1, .int .i64 y10.2])), .g, .g, .g, .g, .g, .g, .g, .g, .g, .g, .g, .g, .g, .g, .g, .g, .g, (.b false), .g, .g, .g, (.ix id18 off18 g18), (.mm undef h19), .g, .g]) (ds := F29_m1_0) (ks := [8]) (e := .normal) (s2 := (F29_h1 l1 v1 x2 h19 u7 (IntKind.i64.wrap (a6 + 1)) (setI l7 a6 ((F29__1 y10), (F29__2 y10))))) (hC := (And.intro m19 (And.intro ix18 (And.intro c11 (And.intro (At.agg (P := Try.prog) (t := 24) (v := .agg #[.int .i64 y10.1, .int .i64 y10.2]) (m := 2) (At.mono (Heapy.sub hp8) at10) (by kernel_rfl) (by kernel_rfl) 0 (by kernel_rfl) rfl) (And.intro ix10 (And.intro c9 trivial))))))) (hd := F29_d1) (h := by kernel_rfl)⟩
  · intro hr
    obtain rfl := Option.some.inj hr
    refine ⟨(.exit 0), (F29_x1_0 h x2 h8 u7 (l7 : (List (Int × Int)))), (by intro hh; cases hh), ?_, pEnd_sound good (L := F29_L) (D := F29_D) (its := [.g, (.b false)]) (ds := F29_m1_1) (ks := []) (e := (.exit 0)) (s2 := (F29_x1_0 h x2 h8 u7 (l7 : (List (Int × Int))))) (hC := (And.intro c9 trivial)) (hd := F29_d1) (h := by kernel_rfl)⟩
    exact ⟨rfl, h8, u7, (Heapy.pick hp8 [0] (by decide)), rfl⟩
theorem F29_l1 (h : AHeap) (l1 : List (Int × Int)) (v1 : Hd) (hv1 : SlE E24 2 h (sv v1) l1) (x2 : Int) (x : Int × (List (Int × Int))) (r : (List (Int × Int))) (hl : loopO (fun (s : Int × (List (Int × Int))) => F29_s1 l1 x2 s.1 s.2) x = some r) (S : AS) (hI : (F29_i1 h l1 v1 x2) x S) : ∃ e S', (F29_x1 h x2) r e S' ∧ AWp Try.prog (.loop (codeOf Try.prog 29 [1, 1, 1, 0, 1, 0, 0])) (Ends1 e S') S :=
  loop_rel (fun x S hI => F29_r1 h l1 v1 hv1 x2 x.1 x.2 S hI) hl hI
def F29 (l1 : List (Int × Int)) (x2 : Int) : Option ((List (Int × Int)) × Int) :=
  (bif (!(okLen (l1.length : Int) (l1.length : Int) 16)) then none else
  (Option.bind (loopO (fun (s : Int × (List (Int × Int))) => F29_s1 l1 x2 s.1 s.2) (0, (List.replicate (l1.length : Int).toNat (0, 0)))) fun y20 =>
  some (y20, (if 256 < (if 0 > x2 then 0 else x2) then 256 else (if 0 > x2 then 0 else x2)))))
set_option maxRecDepth 100000 in
theorem F29_spec (l1 : List (Int × Int)) (x2 : Int) (v1 : Hd) (h : AHeap) (hw : h.wf) (hv1 : SlE E24 2 h (sv v1) l1) (r : (List (Int × Int)) × Int) : F29 l1 x2 = some r → ∃ (ur0 : Hd) (h' : AHeap), Heapy h h' [⟨ur0, 24, 2, List.flatMap enc24 r.1⟩] ∧ ACalls Try.prog 29 [(sv v1), .int .i64 x2] h (fun v' h'' => v' = (.tuple #[(sv ur0), .int .i64 r.2] : Value) ∧ h'' = h') := by
  unfold F29
  refine guard_ok fun g3 => ?_
  obtain ⟨v4, h4, m4, hp4, _⟩ := Heapy.make (Heapy.refl hw) (show mkInfo Try.prog 22 = some (24, 2, 16, [.int .i64 0, .int .i64 0]) by kernel_rfl) (a := (l1.length : Int)) (b := (l1.length : Int)) (by simpa using g3) (enc := enc24) (x := (0, 0)) rfl rfl
  refine bind_opt fun y20 e20 => ?_
  obtain ⟨ee20, SS20, hX20, hA20⟩ := F29_l1 h l1 v1 hv1 x2 (0, (List.replicate (l1.length : Int).toNat (0, 0))) y20 e20 (F29_h1 l1 v1 x2 h4 v4 0 (List.replicate (l1.length : Int).toNat (0, 0))) ⟨h4, v4, (Heapy.pick hp4 [0] (by decide)), rfl⟩
  obtain ⟨rfl, h21, w0_21, hp21, rfl⟩ := hX20
  intro hr
  obtain rfl := Option.some.inj hr
  exact ⟨w0_21, h21, Heapy.pick hp21 [0] (by decide), pFun_sound good tab_ok (f := 29) (its := [.g, .g, .g, .g, .g, .g, .g, (.ln l1.length), (.mm (sv v4) h4), .g, .g, (.ln l1.length), .g, (.l F29_m1_0 [] (.exit 0) (F29_x1_0 h x2 h21 w0_21 y20)), .g, .g, .g, .g]) (args := [(sv v1), .int .i64 x2]) (h := h) (h' := h21) (v := .tuple #[(sv w0_21), .int .i64 (if 256 < (if 0 > x2 then 0 else x2) then 256 else (if 0 > x2 then 0 else x2))]) (hC := (And.intro hA20 (And.intro (SlE.len hv1) (And.intro m4 (And.intro (SlE.len hv1) trivial))))) (hr := by kernel_rfl)⟩
def enc3 (x : Int) : List Value := [.int .i64 x]
def E3 (h : AHeap) (cs : List Value) (x : Int) : Prop := cs = enc3 x
theorem E3_mono {h h' : AHeap} (le : h.sub h') (cs : List Value) (x : Int) (H : E3 h cs x) : E3 h' cs x := H
def W3 (x : Int) : Prop := (Lit.int .i64 x).wf = true ∧ True
set_option maxRecDepth 100000 in
theorem E3_wt {h : AHeap} {n : Nat} {cs : List Value} (H : WT Try.prog h n 3 cs) : ∃ x, E3 h cs x ∧ W3 x := by
  have k : SQ Try.prog h [.int .i64] cs := wt_flatS 1 n (by kernel_rfl) H
  obtain ⟨x0, r0, rfl, w0, k0⟩ := sq_int k
  obtain rfl := sq_nil k0
  exact ⟨x0, rfl, ⟨w0, trivial⟩⟩
/-! 33 jacquard/color.load -/
def F33_L : List Nat := [7, 13, 16]
def F33_D : List (Nat × List (Nat × Nat)) := [(19, [(0, 2), (1, 2), (2, 2), (3, 2), (4, 2), (5, 2), (6, 2), (7, 2), (8, 2), (9, 2)]), (20, [(0, 2), (1, 2), (2, 2), (3, 2), (4, 2), (5, 2), (6, 2), (7, 2), (8, 2), (9, 2), (10, 2), (11, 2), (12, 2)]), (35, [(0, 2), (1, 2), (2, 2), (3, 2), (4, 2), (5, 2), (6, 2), (7, 2), (8, 2), (9, 2), (10, 2), (11, 0)])]
def F33__1 (y27 : Int × Int) : Int := (if (IntKind.i64.wrap (y27.1 + y27.2)) > (IntKind.i64.wrap (y27.1 + y27.2)) then (IntKind.i64.wrap (y27.1 + y27.2)) else (IntKind.i64.wrap (y27.1 + y27.2)))
def F33__2 (a23 : Int) (y27 : Int × Int) : Int := (if (IntKind.i64.wrap (y27.1 + y27.2)) > a23 then (IntKind.i64.wrap (y27.1 + y27.2)) else a23)
def F33_m1_1 : List Bool := [true, false, true, true, true, false, true, true, true, true, true, true, true, true, true, true, true, true, true, true, true, true, false, false, false, true, true, true, true, true, true, true, true, true, true, true, true, true, true, true, true, true, true, true, true, true, true, true, true, true, true, true, true, true, true, true, true, true, true, true, true, true, true, true, true, true, true, true, true, true, true, true, true, true, true, true, true, true, true, true, true, true, true, true, true, true, true, true, true, true, true, true, true, true, true, true, true, true, true, true, true, true, true, true, true, true, true, true, true, true, true, true, true, true, true, true, true, true, true, true, true, true, true, true, true, true, true, true, true, true, true, true, true, true, true, true, true, true, true, true, true, true, true]
def F33_m1_0 : List Bool := [true, false, true, true, true, false, true, false, true, true, true, true, true, true, true, true, true, true, true, true, true, true, false, false, false, true, true, true, true, false, false, true, true, true, true, true, true, true, true, true, true, true, true, true, true, true, true, true, true, true, true, true, true, true, true, true, true, true, true, true, true, true, true, true, true, true, true, true, true, true, true, true, true, true, true, true, true, true, true, true, true, true, true, true, true, true, true, true, true, true, true, true, true, true, true, true, true, true, true, true, true, true, true, true, true, true, true, true, true, true, true, true, true, true, true, true, true, true, true, true, true, true, true, true, true, true, true, true, true, true, true, true, true, true, true, true, true, true, true, true, true, true, true]
def F33_s1 (x2 : Int) (y11 : Int × Int) (a12 : Int) (l13 : List Int) : Option ((Int × (List Int)) ⊕ (List Int)) :=
  (bif decide (a12 < y11.2) then
   (Option.bind (at? l13 ((IntKind.i64.wrap (y11.1 + a12)).tmod x2)) fun y16 =>
   some (.inl ((IntKind.i64.wrap (a12 + 1)), (setI l13 ((IntKind.i64.wrap (y11.1 + a12)).tmod x2) (IntKind.i64.wrap (y16 + 1))))))
  else
   some (.inr l13))
def F33_h1 (l1 : List (Int × Int)) (v1 : Hd) (x2 : Int) (a7 : Int) (y11 : Int × Int) (h14 : AHeap) (u13 : Hd) (a12 : Int) (l13 : List Int) : AS := ⟨[junk, .int .i64 x2, junk, junk, junk, (sv u13), junk, .pointer (some ⟨7, 0, none⟩), junk, junk, junk, junk, junk, junk, junk, junk, junk, junk, junk, junk, junk, junk, (sv v1), .int .i64 (l1.length : Int), .int .i64 a7, junk, junk, junk, junk, .int .i64 y11.2, .int .i64 a12, junk, junk, junk, junk, junk, junk, junk, junk, junk, junk, junk, junk, junk, junk, junk, junk, junk, junk, junk, junk, junk, junk, junk, junk, junk, junk, junk, junk, junk, junk, junk, junk, junk, junk, junk, junk, junk, junk, junk, junk, junk, junk, junk, junk, junk, junk, junk, junk, junk, junk, junk, junk, junk, junk, junk, junk, junk, junk, junk, junk, junk, junk, junk, junk, junk, junk, junk, junk, junk, junk, junk, junk, junk, junk, junk, junk, junk, junk, junk, junk, junk, junk, junk, junk, junk, junk, junk, junk, junk, junk, junk, junk, junk, junk, junk, junk, junk, junk, junk, junk, junk, junk, junk, junk, junk, junk, junk, junk, junk, junk, junk, junk], [(7, [.int .i64 y11.1, .int .i64 y11.2])], h14⟩
theorem F33_d1 : drawsOk F33_D (codeOf Try.prog 33 [1, 0, 1, 0, 1, 0, 1, 0, 0, 1, 1, 0, 0, 1, 1, 0, 0]) = true := by kernel_rfl
def F33_x1_0 (h : AHeap) (l1 : List (Int × Int)) (v1 : Hd) (x2 : Int) (a7 : Int) (hx : AHeap) (w0 : Hd) (r : (List Int)) : AS := ⟨[junk, .int .i64 x2, junk, junk, junk, (sv w0), junk, junk, junk, junk, junk, junk, junk, junk, junk, junk, junk, junk, junk, junk, junk, junk, (sv v1), .int .i64 (l1.length : Int), .int .i64 a7, junk, junk, junk, junk, junk, junk, junk, junk, junk, junk, junk, junk, junk, junk, junk, junk, junk, junk, junk, junk, junk, junk, junk, junk, junk, junk, junk, junk, junk, junk, junk, junk, junk, junk, junk, junk, junk, junk, junk, junk, junk, junk, junk, junk, junk, junk, junk, junk, junk, junk, junk, junk, junk, junk, junk, junk, junk, junk, junk, junk, junk, junk, junk, junk, junk, junk, junk, junk, junk, junk, junk, junk, junk, junk, junk, junk, junk, junk, junk, junk, junk, junk, junk, junk, junk, junk, junk, junk, junk, junk, junk, junk, junk, junk, junk, junk, junk, junk, junk, junk, junk, junk, junk, junk, junk, junk, junk, junk, junk, junk, junk, junk, junk, junk, junk, junk, junk, junk], [], hx⟩
def F33_i1 (h : AHeap) (l1 : List (Int × Int)) (v1 : Hd) (x2 : Int) (a7 : Int) (y11 : Int × Int) (s : Int × (List Int)) (S : AS) : Prop := ∃ (h14 : AHeap) (u13 : Hd), Heapy h h14 [⟨u13, 3, 1, List.flatMap enc3 s.2⟩] ∧ S = (F33_h1 l1 v1 x2 a7 y11 h14 u13 s.1 s.2)
def F33_x1 (h : AHeap) (l1 : List (Int × Int)) (v1 : Hd) (x2 : Int) (a7 : Int) (r : (List Int)) (e : Exit) (S : AS) : Prop := e = (.exit 2) ∧ ∃ (hx : AHeap) (w0 : Hd), Heapy h hx [⟨w0, 3, 1, List.flatMap enc3 r⟩] ∧ S = (F33_x1_0 h l1 v1 x2 a7 hx w0 r)
set_option maxRecDepth 100000 in
theorem F33_r1 (h : AHeap) (l1 : List (Int × Int)) (v1 : Hd) (x2 : Int) (c3 : decide (x2 > 0) = true) (a7 : Int) (y11 : Int × Int) (a12 : Int) (l13 : List Int) (S : AS) (hI : (F33_i1 h l1 v1 x2 a7 y11) (a12, l13) S) (o : (Int × (List Int)) ⊕ (List Int)) : F33_s1 x2 y11 a12 l13 = some o → Rd Try.prog (codeOf Try.prog 33 [1, 0, 1, 0, 1, 0, 1, 0, 0, 1, 1, 0, 0, 1, 1, 0, 0]) (F33_i1 h l1 v1 x2 a7 y11) (F33_x1 h l1 v1 x2 a7) S o := by
  obtain ⟨h14, u13, hp14, rfl⟩ := hI
  unfold F33_s1
  refine dec_bif (fun c15 => ?_) (fun c15 => ?_)
  · refine bind_opt fun y16 e16 => ?_
    obtain ⟨id16, off16, g16, cs16, ix16, at16, rfl⟩ := SlE.at (Heapy.sle (v := u13) (xs := l13) (enc := enc3) hp14 0 rfl (fun _ => rfl) (by decide)) e16
    obtain ⟨h17, m17, hp17⟩ := Heapy.store (P := Try.prog) hp14 0 (v := u13) (xs := l13) (enc := enc3) rfl (fun _ => rfl) e16 (y' := (IntKind.i64.wrap (y16 + 1))) ix16 (t := 3) (x := .int .i64 (IntKind.i64.wrap (y16 + 1))) 0 (vs := [.int .i64 (IntKind.i64.wrap (y16 + 1))]) rfl (by kernel_rfl) rfl rfl rfl rfl
    intro hr
    obtain rfl := Option.some.inj hr
    exact ⟨(F33_h1 l1 v1 x2 a7 y11 h17 u13 (IntKind.i64.wrap (a12 + 1)) (setI l13 ((IntKind.i64.wrap (y11.1 + a12)).tmod x2) (IntKind.i64.wrap (y16 + 1)))), ⟨h17, u13, (Heapy.pick hp17 [0] (by decide)), rfl⟩, pEnd_sound good (L := F33_L) (D := F33_D) (its := [.g, (.b true), .g, .g, .g, .g, .g, .g, .g, .g, .d, (.ix id16 off16 g16), (.ld (.int .i64 y16)), .g, (.ix id16 off16 g16), (.mm undef h17), .g, .g]) (ds := F33_m1_0) (ks := []) (e := .normal) (s2 := (F33_h1 l1 v1 x2 a7 y11 h17 u13 (IntKind.i64.wrap (a12 + 1)) (setI l13 ((IntKind.i64.wrap (y11.1 + a12)).tmod x2) (IntKind.i64.wrap (y16 + 1))))) (hC := (And.intro m17 (And.intro ix16 (And.intro (At.one (P := Try.prog) (t := 3) (v := .int .i64 y16) at16 (by kernel_rfl) 0 rfl rfl) (And.intro ix16 (And.intro (nz3 c3) (And.intro c15 trivial))))))) (hd := F33_d1) (h := by kernel_rfl)⟩
  · intro hr
    obtain rfl := Option.some.inj hr
    refine ⟨(.exit 2), (F33_x1_0 h l1 v1 x2 a7 h14 u13 (l13 : (List Int))), (by intro hh; cases hh), ?_, pEnd_sound good (L := F33_L) (D := F33_D) (its := [.g, (.b false)]) (ds := F33_m1_1) (ks := [7]) (e := (.exit 2)) (s2 := (F33_x1_0 h l1 v1 x2 a7 h14 u13 (l13 : (List Int)))) (hC := (And.intro c15 trivial)) (hd := F33_d1) (h := by kernel_rfl)⟩
    exact ⟨rfl, h14, u13, (Heapy.pick hp14 [0] (by decide)), rfl⟩
theorem F33_l1 (h : AHeap) (l1 : List (Int × Int)) (v1 : Hd) (x2 : Int) (c3 : decide (x2 > 0) = true) (a7 : Int) (y11 : Int × Int) (x : Int × (List Int)) (r : (List Int)) (hl : loopO (fun (s : Int × (List Int)) => F33_s1 x2 y11 s.1 s.2) x = some r) (S : AS) (hI : (F33_i1 h l1 v1 x2 a7 y11) x S) : ∃ e S', (F33_x1 h l1 v1 x2 a7) r e S' ∧ AWp Try.prog (.loop (codeOf Try.prog 33 [1, 0, 1, 0, 1, 0, 1, 0, 0, 1, 1, 0, 0, 1, 1, 0, 0])) (Ends1 e S') S :=
  loop_rel (fun x S hI => F33_r1 h l1 v1 x2 c3 a7 y11 x.1 x.2 S hI) hl hI
def F33_m2_1 : List Bool := [true, true, true, true, true, false, true, true, true, true, true, true, true, true, true, true, true, true, true, true, true, true, true, true, true, true, true, true, true, true, true, true, true, true, true, true, true, true, true, true, true, true, true, true, true, true, true, true, true, true, true, true, true, true, true, true, true, true, true, true, true, true, true, true, true, true, true, true, true, true, true, true, true, true, true, true, true, true, true, true, true, true, true, true, true, true, true, true, true, true, true, true, true, true, true, true, true, true, true, true, true, true, true, true, true, true, true, true, true, true, true, true, true, true, true, true, true, true, true, true, true, true, true, true, true, true, true, true, true, true, true, true, true, true, true, true, true, true, true, true, true, true, true]
def F33_m2_0 : List Bool := [true, false, true, true, true, false, true, true, true, true, true, true, true, true, true, true, true, true, true, true, true, true, false, false, false, true, true, true, true, true, true, true, true, true, true, true, true, true, true, true, true, true, true, true, true, true, true, true, true, true, true, true, true, true, true, true, true, true, true, true, true, true, true, true, true, true, true, true, true, true, true, true, true, true, true, true, true, true, true, true, true, true, true, true, true, true, true, true, true, true, true, true, true, true, true, true, true, true, true, true, true, true, true, true, true, true, true, true, true, true, true, true, true, true, true, true, true, true, true, true, true, true, true, true, true, true, true, true, true, true, true, true, true, true, true, true, true, true, true, true, true, true, true]
def F33_s2 (l1 : List (Int × Int)) (x2 : Int) (a7 : Int) (l8 : List Int) : Option ((Int × (List Int)) ⊕ (List Int)) :=
  (bif decide (a7 < (l1.length : Int)) then
   (Option.bind (at? l1 a7) fun y11 =>
   (Option.bind (loopO (fun (s : Int × (List Int)) => F33_s1 x2 y11 s.1 s.2) (0, l8)) fun y18 =>
   some (.inl ((IntKind.i64.wrap (a7 + 1)), y18))))
  else
   some (.inr l8))
def F33_h2 (l1 : List (Int × Int)) (v1 : Hd) (x2 : Int) (h9 : AHeap) (u8 : Hd) (a7 : Int) (l8 : List Int) : AS := ⟨[junk, .int .i64 x2, junk, junk, junk, (sv u8), junk, junk, junk, junk, junk, junk, junk, junk, junk, junk, junk, junk, junk, junk, junk, junk, (sv v1), .int .i64 (l1.length : Int), .int .i64 a7, junk, junk, junk, junk, junk, junk, junk, junk, junk, junk, junk, junk, junk, junk, junk, junk, junk, junk, junk, junk, junk, junk, junk, junk, junk, junk, junk, junk, junk, junk, junk, junk, junk, junk, junk, junk, junk, junk, junk, junk, junk, junk, junk, junk, junk, junk, junk, junk, junk, junk, junk, junk, junk, junk, junk, junk, junk, junk, junk, junk, junk, junk, junk, junk, junk, junk, junk, junk, junk, junk, junk, junk, junk, junk, junk, junk, junk, junk, junk, junk, junk, junk, junk, junk, junk, junk, junk, junk, junk, junk, junk, junk, junk, junk, junk, junk, junk, junk, junk, junk, junk, junk, junk, junk, junk, junk, junk, junk, junk, junk, junk, junk, junk, junk, junk, junk, junk, junk], [], h9⟩
theorem F33_d2 : drawsOk F33_D (codeOf Try.prog 33 [1, 0, 1, 0, 1, 0, 1, 0, 0]) = true := by kernel_rfl
def F33_x2_0 (h : AHeap) (hx : AHeap) (w0 : Hd) (r : (List Int)) : AS := ⟨[junk, junk, junk, junk, junk, (sv w0), junk, junk, junk, junk, junk, junk, junk, junk, junk, junk, junk, junk, junk, junk, junk, junk, junk, junk, junk, junk, junk, junk, junk, junk, junk, junk, junk, junk, junk, junk, junk, junk, junk, junk, junk, junk, junk, junk, junk, junk, junk, junk, junk, junk, junk, junk, junk, junk, junk, junk, junk, junk, junk, junk, junk, junk, junk, junk, junk, junk, junk, junk, junk, junk, junk, junk, junk, junk, junk, junk, junk, junk, junk, junk, junk, junk, junk, junk, junk, junk, junk, junk, junk, junk, junk, junk, junk, junk, junk, junk, junk, junk, junk, junk, junk, junk, junk, junk, junk, junk, junk, junk, junk, junk, junk, junk, junk, junk, junk, junk, junk, junk, junk, junk, junk, junk, junk, junk, junk, junk, junk, junk, junk, junk, junk, junk, junk, junk, junk, junk, junk, junk, junk, junk, junk, junk, junk], [], hx⟩
def F33_i2 (h : AHeap) (l1 : List (Int × Int)) (v1 : Hd) (x2 : Int) (s : Int × (List Int)) (S : AS) : Prop := ∃ (h9 : AHeap) (u8 : Hd), Heapy h h9 [⟨u8, 3, 1, List.flatMap enc3 s.2⟩] ∧ S = (F33_h2 l1 v1 x2 h9 u8 s.1 s.2)
def F33_x2 (h : AHeap) (r : (List Int)) (e : Exit) (S : AS) : Prop := e = (.exit 0) ∧ ∃ (hx : AHeap) (w0 : Hd), Heapy h hx [⟨w0, 3, 1, List.flatMap enc3 r⟩] ∧ S = (F33_x2_0 h hx w0 r)
set_option maxRecDepth 100000 in
theorem F33_r2 (h : AHeap) (l1 : List (Int × Int)) (v1 : Hd) (hv1 : SlE E24 2 h (sv v1) l1) (x2 : Int) (c3 : decide (x2 > 0) = true) (a7 : Int) (l8 : List Int) (S : AS) (hI : (F33_i2 h l1 v1 x2) (a7, l8) S) (o : (Int × (List Int)) ⊕ (List Int)) : F33_s2 l1 x2 a7 l8 = some o → Rd Try.prog (codeOf Try.prog 33 [1, 0, 1, 0, 1, 0, 1, 0, 0]) (F33_i2 h l1 v1 x2) (F33_x2 h) S o := by
  obtain ⟨h9, u8, hp9, rfl⟩ := hI
  unfold F33_s2
  refine dec_bif (fun c10 => ?_) (fun c10 => ?_)
  · refine bind_opt fun y11 e11 => ?_
    obtain ⟨id11, off11, g11, cs11, ix11, at11, rfl⟩ := SlE.at hv1 e11
    refine bind_opt fun y18 e18 => ?_
    obtain ⟨ee18, SS18, hX18, hA18⟩ := F33_l1 h l1 v1 x2 c3 a7 y11 (0, l8) y18 e18 (F33_h1 l1 v1 x2 a7 y11 h9 u8 0 l8) ⟨h9, u8, (Heapy.pick hp9 [0] (by decide)), rfl⟩
    obtain ⟨rfl, h19, w0_19, hp19, rfl⟩ := hX18
    intro hr
    obtain rfl := Option.some.inj hr
    exact ⟨(F33_h2 l1 v1 x2 h19 w0_19 (IntKind.i64.wrap (a7 + 1)) y18), ⟨h19, w0_19, (Heapy.pick hp19 [0] (by decide)), rfl⟩, pEnd_sound good (L := F33_L) (D := F33_D) (its := [.g, (.b true), (.ix id11 off11 g11), (.ld (.agg #[.int .i64 y11.1, .int .i64 y11.2])), .g, .g, .g, .g, .g, (.l F33_m1_0 [] (.exit 2) (F33_x1_0 h l1 v1 x2 a7 h19 w0_19 y18)), .g, .g]) (ds := F33_m2_0) (ks := []) (e := .normal) (s2 := (F33_h2 l1 v1 x2 h19 w0_19 (IntKind.i64.wrap (a7 + 1)) y18)) (hC := (And.intro hA18 (And.intro (At.agg (P := Try.prog) (t := 24) (v := .agg #[.int .i64 y11.1, .int .i64 y11.2]) (m := 2) (At.mono (Heapy.sub hp9) at11) (by kernel_rfl) (by kernel_rfl) 0 (by kernel_rfl) rfl) (And.intro ix11 (And.intro c10 trivial))))) (hd := F33_d2) (h := by kernel_rfl)⟩
  · intro hr
    obtain rfl := Option.some.inj hr
    refine ⟨(.exit 0), (F33_x2_0 h h9 u8 (l8 : (List Int))), (by intro hh; cases hh), ?_, pEnd_sound good (L := F33_L) (D := F33_D) (its := [.g, (.b false)]) (ds := F33_m2_1) (ks := []) (e := (.exit 0)) (s2 := (F33_x2_0 h h9 u8 (l8 : (List Int)))) (hC := (And.intro c10 trivial)) (hd := F33_d2) (h := by kernel_rfl)⟩
    exact ⟨rfl, h9, u8, (Heapy.pick hp9 [0] (by decide)), rfl⟩
theorem F33_l2 (h : AHeap) (l1 : List (Int × Int)) (v1 : Hd) (hv1 : SlE E24 2 h (sv v1) l1) (x2 : Int) (c3 : decide (x2 > 0) = true) (x : Int × (List Int)) (r : (List Int)) (hl : loopO (fun (s : Int × (List Int)) => F33_s2 l1 x2 s.1 s.2) x = some r) (S : AS) (hI : (F33_i2 h l1 v1 x2) x S) : ∃ e S', (F33_x2 h) r e S' ∧ AWp Try.prog (.loop (codeOf Try.prog 33 [1, 0, 1, 0, 1, 0, 1, 0, 0])) (Ends1 e S') S :=
  loop_rel (fun x S hI => F33_r2 h l1 v1 hv1 x2 c3 x.1 x.2 S hI) hl hI
def F33_m3_1 : List Bool := [false, true, true, true, true, true, true, true, true, false, false, false, true, true, true, true, true, true, true, true, true, true, true, true, true, true, true, true, true, true, true, true, true, true, true, true, true, true, true, true, true, true, true, true, true, true, true, true, true, true, true, true, true, true, true, true, true, true, true, true, true, true, true, true, true, true, true, true, true, true, true, true, true, true, true, true, true, true, true, true, true, true, true, true, true, true, true, true, true, true, true, true, true, true, true, true, true, true, true, true, true, true, true, true, true, true, true, true, true, true, true, true, true, true, true, true, true, true, true, true, true, true, true, true, true, true, true, true, true, true, true, true, true, true, true, true, true, true, true, true, true, true, true]
def F33_m3_0 : List Bool := [false, true, true, true, true, true, true, true, true, false, false, false, true, true, true, true, true, true, true, true, true, true, true, true, true, true, true, true, true, true, true, true, true, true, true, true, true, true, true, true, true, true, true, true, true, true, true, false, false, false, true, true, true, true, true, true, true, true, true, true, true, true, true, true, true, true, true, true, true, true, true, true, true, true, true, true, true, true, true, true, true, true, true, true, true, true, true, true, true, true, true, true, true, true, true, true, true, true, true, true, true, true, true, true, true, true, true, true, true, true, true, true, true, true, true, true, true, true, true, true, true, true, true, true, true, true, true, true, true, true, true, true, true, true, true, true, true, true, true, true, true, true, true]
def F33_s3 (l1 : List (Int × Int)) (a22 : Int) (a23 : Int) (a24 : Bool) (a25 : Int) : Option ((Int × Int × Bool × Int) ⊕ (Int × Int × Bool)) :=
  (bif decide (a25 < (l1.length : Int)) then
   (Option.bind (at? l1 a25) fun y27 =>
   (bif (y27.2 == 0) then
    some (.inl (a22, a23, a24, (IntKind.i64.wrap (a25 + 1))))
   else
    (bif (!a24) then
     some (.inl ((if y27.1 < y27.1 then y27.1 else y27.1), (F33__1 y27), true, (IntKind.i64.wrap (a25 + 1))))
    else
     some (.inl ((if y27.1 < a22 then y27.1 else a22), (F33__2 a23 y27), a24, (IntKind.i64.wrap (a25 + 1)))))))
  else
   some (.inr (a22, a23, a24)))
def F33_h3 (h : AHeap) (l1 : List (Int × Int)) (v1 : Hd)  (a22 : Int) (a23 : Int) (a24 : Bool) (a25 : Int) : AS := ⟨[(sv v1), junk, junk, junk, junk, junk, junk, junk, junk, .int .i64 a22, .int .i64 a23, .bool a24, junk, junk, junk, junk, junk, junk, junk, junk, junk, junk, junk, junk, junk, junk, junk, junk, junk, junk, junk, junk, junk, junk, junk, junk, junk, junk, junk, junk, junk, junk, junk, junk, junk, junk, junk, (sv v1), .int .i64 (l1.length : Int), .int .i64 a25, junk, junk, junk, junk, junk, junk, junk, junk, junk, junk, junk, junk, junk, junk, junk, junk, junk, junk, junk, junk, junk, junk, junk, junk, junk, junk, junk, junk, junk, junk, junk, junk, junk, junk, junk, junk, junk, junk, junk, junk, junk, junk, junk, junk, junk, junk, junk, junk, junk, junk, junk, junk, junk, junk, junk, junk, junk, junk, junk, junk, junk, junk, junk, junk, junk, junk, junk, junk, junk, junk, junk, junk, junk, junk, junk, junk, junk, junk, junk, junk, junk, junk, junk, junk, junk, junk, junk, junk, junk, junk, junk, junk, junk], [], h⟩
theorem F33_d3 : drawsOk F33_D (codeOf Try.prog 33 [1, 1, 1, 0, 1, 0, 0]) = true := by kernel_rfl
def F33_x3_0 (h : AHeap) (v1 : Hd)  (r : Int × Int × Bool) : AS := ⟨[(sv v1), junk, junk, junk, junk, junk, junk, junk, junk, .int .i64 r.1, .int .i64 r.2.1, .bool r.2.2, junk, junk, junk, junk, junk, junk, junk, junk, junk, junk, junk, junk, junk, junk, junk, junk, junk, junk, junk, junk, junk, junk, junk, junk, junk, junk, junk, junk, junk, junk, junk, junk, junk, junk, junk, junk, junk, junk, junk, junk, junk, junk, junk, junk, junk, junk, junk, junk, junk, junk, junk, junk, junk, junk, junk, junk, junk, junk, junk, junk, junk, junk, junk, junk, junk, junk, junk, junk, junk, junk, junk, junk, junk, junk, junk, junk, junk, junk, junk, junk, junk, junk, junk, junk, junk, junk, junk, junk, junk, junk, junk, junk, junk, junk, junk, junk, junk, junk, junk, junk, junk, junk, junk, junk, junk, junk, junk, junk, junk, junk, junk, junk, junk, junk, junk, junk, junk, junk, junk, junk, junk, junk, junk, junk, junk, junk, junk, junk, junk, junk, junk], [], h⟩
def F33_x3 (h : AHeap) (v1 : Hd) (r : Int × Int × Bool) : Exit × AS := ((.exit 4), (F33_x3_0 h v1 r))
set_option maxRecDepth 100000 in
theorem F33_r3 (h : AHeap) (l1 : List (Int × Int)) (v1 : Hd) (hv1 : SlE E24 2 h (sv v1) l1) (a22 : Int) (a23 : Int) (a24 : Bool) (a25 : Int) (o : (Int × Int × Bool × Int) ⊕ (Int × Int × Bool)) : F33_s3 l1 a22 a23 a24 a25 = some o → RdF Try.prog (codeOf Try.prog 33 [1, 1, 1, 0, 1, 0, 0]) (fun (s : Int × Int × Bool × Int) => (F33_h3 h l1 v1 s.1 s.2.1 s.2.2.1 s.2.2.2)) (F33_x3 h v1) (F33_h3 h l1 v1 a22 a23 a24 a25) o := by
  unfold F33_s3
  refine dec_bif (fun c26 => ?_) (fun c26 => ?_)
  · refine bind_opt fun y27 e27 => ?_
    obtain ⟨id27, off27, g27, cs27, ix27, at27, rfl⟩ := SlE.at hv1 e27
    refine dec_bif (fun c28 => ?_) (fun c28 => ?_)
    · intro hr
      obtain rfl := Option.some.inj hr
      show AWp Try.prog _ (Ends1 .normal (F33_h3 h l1 v1 a22 a23 a24 (IntKind.i64.wrap (a25 + 1)))) _
      exact pEnd_sound good (L := F33_L) (D := F33_D) (its := [.g, (.b true), (.ix id27 off27 g27), (.ld (.agg #[.int .i64 y27.1, .int .i64 y27.2])), .g, .g, .g, .g, .g, (.b true), .g, .g]) (ds := F33_m3_0) (ks := [13]) (e := .normal) (s2 := (F33_h3 h l1 v1 a22 a23 a24 (IntKind.i64.wrap (a25 + 1)))) (hC := (And.intro c28 (And.intro (At.agg (P := Try.prog) (t := 24) (v := .agg #[.int .i64 y27.1, .int .i64 y27.2]) (m := 2) at27 (by kernel_rfl) (by kernel_rfl) 0 (by kernel_rfl) rfl) (And.intro ix27 (And.intro c26 trivial))))) (hd := F33_d3) (h := by kernel_rfl)
    · refine dec_bif (fun c29 => ?_) (fun c29 => ?_)
      · intro hr
        obtain rfl := Option.some.inj hr
        show AWp Try.prog _ (Ends1 .normal (F33_h3 h l1 v1 (if y27.1 < y27.1 then y27.1 else y27.1) (F33__1 y27) true (IntKind.i64.wrap (a25 + 1)))) _
        exact pEnd_sound good (L := F33_L) (D := F33_D) (its := [.g, (.b true), (.ix id27 off27 g27), (.ld (.agg #[.int .i64 y27.1, .int .i64 y27.2])), .g, .g, .g, .g, .g, (.b false), .g, .g, (.b true), .g, .g, .g, .g, .g, .g, .g, .g, .g, .g, .g, .g, .g, .g, .g, .g, .g, .g, .g, .g, .g, .g, .g, .g, .g]) (ds := F33_m3_0) (ks := [13]) (e := .normal) (s2 := (F33_h3 h l1 v1 (if y27.1 < y27.1 then y27.1 else y27.1) (F33__1 y27) true (IntKind.i64.wrap (a25 + 1)))) (hC := (And.intro c29 (And.intro c28 (And.intro (At.agg (P := Try.prog) (t := 24) (v := .agg #[.int .i64 y27.1, .int .i64 y27.2]) (m := 2) at27 (by kernel_rfl) (by kernel_rfl) 0 (by kernel_rfl) rfl) (And.intro ix27 (And.intro c26 trivial)))))) (hd := F33_d3) (h := by kernel_rfl)
      · intro hr
        obtain rfl := Option.some.inj hr
        show AWp Try.prog _ (Ends1 .normal (F33_h3 h l1 v1 (if y27.1 < a22 then y27.1 else a22) (F33__2 a23 y27) a24 (IntKind.i64.wrap (a25 + 1)))) _
        exact pEnd_sound good (L := F33_L) (D := F33_D) (its := [.g, (.b true), (.ix id27 off27 g27), (.ld (.agg #[.int .i64 y27.1, .int .i64 y27.2])), .g, .g, .g, .g, .g, (.b false), .g, .g, (.b false), .g, .g, .g, .g, .g, .g, .g, .g, .g, .g, .g, .g, .g, .g, .g]) (ds := F33_m3_0) (ks := [13]) (e := .normal) (s2 := (F33_h3 h l1 v1 (if y27.1 < a22 then y27.1 else a22) (F33__2 a23 y27) a24 (IntKind.i64.wrap (a25 + 1)))) (hC := (And.intro c29 (And.intro c28 (And.intro (At.agg (P := Try.prog) (t := 24) (v := .agg #[.int .i64 y27.1, .int .i64 y27.2]) (m := 2) at27 (by kernel_rfl) (by kernel_rfl) 0 (by kernel_rfl) rfl) (And.intro ix27 (And.intro c26 trivial)))))) (hd := F33_d3) (h := by kernel_rfl)
  · intro hr
    obtain rfl := Option.some.inj hr
    show AWp Try.prog _ (Ends1 ((F33_x3 h v1) ((a22, a23, a24) : Int × Int × Bool)).1 ((F33_x3 h v1) ((a22, a23, a24) : Int × Int × Bool)).2) _
    exact pEnd_sound good (L := F33_L) (D := F33_D) (its := [.g, (.b false)]) (ds := F33_m3_1) (ks := []) (e := ((F33_x3 h v1) ((a22, a23, a24) : Int × Int × Bool)).1) (s2 := ((F33_x3 h v1) ((a22, a23, a24) : Int × Int × Bool)).2) (hC := (And.intro c26 trivial)) (hd := F33_d3) (h := by kernel_rfl)
theorem F33_l3_0 (h : AHeap) (l1 : List (Int × Int)) (v1 : Hd) (hv1 : SlE E24 2 h (sv v1) l1) (x : Int × Int × Bool × Int) (r : Int × Int × Bool) (hl : loopO (fun (s : Int × Int × Bool × Int) => F33_s3 l1 s.1 s.2.1 s.2.2.1 s.2.2.2) x = some r) : AWp Try.prog (.loop (codeOf Try.prog 33 [1, 1, 1, 0, 1, 0, 0])) (Ends1 (.exit 4) (F33_x3_0 h v1 r)) ((fun (s : Int × Int × Bool × Int) => (F33_h3 h l1 v1 s.1 s.2.1 s.2.2.1 s.2.2.2)) x) := by
  have k := loop_fun (P := Try.prog) (c := (codeOf Try.prog 33 [1, 1, 1, 0, 1, 0, 0])) (step := (fun (s : Int × Int × Bool × Int) => F33_s3 l1 s.1 s.2.1 s.2.2.1 s.2.2.2)) (hd := (fun (s : Int × Int × Bool × Int) => (F33_h3 h l1 v1 s.1 s.2.1 s.2.2.1 s.2.2.2))) (X := (F33_x3 h v1)) (by intro t; unfold F33_x3; intro h; cases h) (fun x => F33_r3 h l1 v1 hv1 x.1 x.2.1 x.2.2.1 x.2.2.2) hl
  exact k
def F33_m4_1 : List Bool := [true, true, true, true, true, true, true, true, true, false, false, true, true, true, false, true, true, true, true, true, true, true, true, true, true, true, true, true, true, true, true, true, true, true, true, true, true, true, true, true, true, true, true, true, true, true, true, true, true, true, true, true, true, true, true, true, true, true, true, true, true, true, true, true, true, true, true, true, true, true, true, true, true, true, true, true, true, true, true, true, true, true, true, true, true, true, true, true, true, true, true, true, true, true, true, true, true, true, true, true, true, true, true, true, true, true, true, true, true, true, true, true, true, true, true, true, true, true, true, true, true, true, true, true, true, true, true, true, true, true, true, true, true, true, true, true, true, true, true, true, true, true, true]
def F33_m4_0 : List Bool := [true, true, true, true, true, true, true, true, true, false, false, true, true, true, false, true, true, true, true, true, true, true, true, true, true, true, true, true, true, true, true, true, true, true, true, true, true, true, true, true, true, true, true, true, true, true, true, true, true, true, true, true, true, true, true, true, true, true, true, true, true, true, true, true, true, true, true, true, true, true, true, true, true, true, true, true, true, true, true, true, true, true, true, true, true, true, true, true, true, true, false, false, false, true, true, true, true, true, true, true, true, true, true, true, true, true, true, true, true, true, true, true, true, true, true, true, true, true, true, true, true, true, true, true, true, true, true, true, true, true, true, true, true, true, true, true, true, true, true, true, true, true, true]
def F33_s4 (l1 : List (Int × Int)) (y30 : Int × Int × Bool) (a36 : Int) (l37 : List Int) : Option ((Int × (List Int)) ⊕ (List Int)) :=
  (bif decide (a36 < (l1.length : Int)) then
   (Option.bind (at? l1 a36) fun y40 =>
   (bif decide (y40.2 > 0) then
    (Option.bind (at? l37 (IntKind.i64.wrap (y40.1 - y30.1))) fun y42 =>
    (Option.bind (at? (setI l37 (IntKind.i64.wrap (y40.1 - y30.1)) (IntKind.i64.wrap (y42 + 1))) (IntKind.i64.wrap ((IntKind.i64.wrap (y40.1 + y40.2)) - y30.1))) fun y44 =>
    some (.inl ((IntKind.i64.wrap (a36 + 1)), (setI (setI l37 (IntKind.i64.wrap (y40.1 - y30.1)) (IntKind.i64.wrap (y42 + 1))) (IntKind.i64.wrap ((IntKind.i64.wrap (y40.1 + y40.2)) - y30.1)) (IntKind.i64.wrap (y44 - 1)))))))
   else
    some (.inl ((IntKind.i64.wrap (a36 + 1)), l37))))
  else
   some (.inr l37))
def F33_h4 (l1 : List (Int × Int)) (v1 : Hd) (y30 : Int × Int × Bool) (h38 : AHeap) (u37 : Hd) (a36 : Int) (l37 : List Int) : AS := ⟨[junk, junk, junk, junk, junk, junk, junk, junk, junk, .int .i64 y30.1, .int .i64 y30.2.1, junk, junk, junk, (sv u37), junk, junk, junk, junk, junk, junk, junk, junk, junk, junk, junk, junk, junk, junk, junk, junk, junk, junk, junk, junk, junk, junk, junk, junk, junk, junk, junk, junk, junk, junk, junk, junk, junk, junk, junk, junk, junk, junk, junk, junk, junk, junk, junk, junk, junk, junk, junk, junk, junk, junk, junk, junk, junk, junk, junk, junk, junk, junk, junk, junk, junk, junk, junk, junk, junk, junk, junk, junk, junk, junk, junk, junk, junk, junk, junk, (sv v1), .int .i64 (l1.length : Int), .int .i64 a36, junk, junk, junk, junk, junk, junk, junk, junk, junk, junk, junk, junk, junk, junk, junk, junk, junk, junk, junk, junk, junk, junk, junk, junk, junk, junk, junk, junk, junk, junk, junk, junk, junk, junk, junk, junk, junk, junk, junk, junk, junk, junk, junk, junk, junk, junk, junk, junk, junk, junk], [], h38⟩
theorem F33_d4 : drawsOk F33_D (codeOf Try.prog 33 [1, 1, 1, 1, 1, 1, 0, 1, 0, 0]) = true := by kernel_rfl
def F33_x4_0 (h : AHeap) (y30 : Int × Int × Bool) (hx : AHeap) (w0 : Hd) (r : (List Int)) : AS := ⟨[junk, junk, junk, junk, junk, junk, junk, junk, junk, .int .i64 y30.1, .int .i64 y30.2.1, junk, junk, junk, (sv w0), junk, junk, junk, junk, junk, junk, junk, junk, junk, junk, junk, junk, junk, junk, junk, junk, junk, junk, junk, junk, junk, junk, junk, junk, junk, junk, junk, junk, junk, junk, junk, junk, junk, junk, junk, junk, junk, junk, junk, junk, junk, junk, junk, junk, junk, junk, junk, junk, junk, junk, junk, junk, junk, junk, junk, junk, junk, junk, junk, junk, junk, junk, junk, junk, junk, junk, junk, junk, junk, junk, junk, junk, junk, junk, junk, junk, junk, junk, junk, junk, junk, junk, junk, junk, junk, junk, junk, junk, junk, junk, junk, junk, junk, junk, junk, junk, junk, junk, junk, junk, junk, junk, junk, junk, junk, junk, junk, junk, junk, junk, junk, junk, junk, junk, junk, junk, junk, junk, junk, junk, junk, junk, junk, junk, junk, junk, junk, junk], [], hx⟩
def F33_i4 (h : AHeap) (l1 : List (Int × Int)) (v1 : Hd) (y30 : Int × Int × Bool) (s : Int × (List Int)) (S : AS) : Prop := ∃ (h38 : AHeap) (u37 : Hd), Heapy h h38 [⟨u37, 3, 1, List.flatMap enc3 s.2⟩] ∧ S = (F33_h4 l1 v1 y30 h38 u37 s.1 s.2)
def F33_x4 (h : AHeap) (y30 : Int × Int × Bool) (r : (List Int)) (e : Exit) (S : AS) : Prop := e = (.exit 6) ∧ ∃ (hx : AHeap) (w0 : Hd), Heapy h hx [⟨w0, 3, 1, List.flatMap enc3 r⟩] ∧ S = (F33_x4_0 h y30 hx w0 r)
set_option maxRecDepth 100000 in
theorem F33_r4 (h : AHeap) (l1 : List (Int × Int)) (v1 : Hd) (hv1 : SlE E24 2 h (sv v1) l1) (y30 : Int × Int × Bool) (a36 : Int) (l37 : List Int) (S : AS) (hI : (F33_i4 h l1 v1 y30) (a36, l37) S) (o : (Int × (List Int)) ⊕ (List Int)) : F33_s4 l1 y30 a36 l37 = some o → Rd Try.prog (codeOf Try.prog 33 [1, 1, 1, 1, 1, 1, 0, 1, 0, 0]) (F33_i4 h l1 v1 y30) (F33_x4 h y30) S o := by
  obtain ⟨h38, u37, hp38, rfl⟩ := hI
  unfold F33_s4
  refine dec_bif (fun c39 => ?_) (fun c39 => ?_)
  · refine bind_opt fun y40 e40 => ?_
    obtain ⟨id40, off40, g40, cs40, ix40, at40, rfl⟩ := SlE.at hv1 e40
    refine dec_bif (fun c41 => ?_) (fun c41 => ?_)
    · refine bind_opt fun y42 e42 => ?_
      obtain ⟨id42, off42, g42, cs42, ix42, at42, rfl⟩ := SlE.at (Heapy.sle (v := u37) (xs := l37) (enc := enc3) hp38 0 rfl (fun _ => rfl) (by decide)) e42
      obtain ⟨h43, m43, hp43⟩ := Heapy.store (P := Try.prog) hp38 0 (v := u37) (xs := l37) (enc := enc3) rfl (fun _ => rfl) e42 (y' := (IntKind.i64.wrap (y42 + 1))) ix42 (t := 3) (x := .int .i64 (IntKind.i64.wrap (y42 + 1))) 0 (vs := [.int .i64 (IntKind.i64.wrap (y42 + 1))]) rfl (by kernel_rfl) rfl rfl rfl rfl
      refine bind_opt fun y44 e44 => ?_
      obtain ⟨id44, off44, g44, cs44, ix44, at44, rfl⟩ := SlE.at (Heapy.sle (v := u37) (xs := (setI l37 (IntKind.i64.wrap (y40.1 - y30.1)) (IntKind.i64.wrap (y42 + 1)))) (enc := enc3) hp43 0 rfl (fun _ => rfl) (by decide)) e44
      obtain ⟨h45, m45, hp45⟩ := Heapy.store (P := Try.prog) hp43 0 (v := u37) (xs := (setI l37 (IntKind.i64.wrap (y40.1 - y30.1)) (IntKind.i64.wrap (y42 + 1)))) (enc := enc3) rfl (fun _ => rfl) e44 (y' := (IntKind.i64.wrap (y44 - 1))) ix44 (t := 3) (x := .int .i64 (IntKind.i64.wrap (y44 - 1))) 0 (vs := [.int .i64 (IntKind.i64.wrap (y44 - 1))]) rfl (by kernel_rfl) rfl rfl rfl rfl
      intro hr
      obtain rfl := Option.some.inj hr
      exact ⟨(F33_h4 l1 v1 y30 h45 u37 (IntKind.i64.wrap (a36 + 1)) (setI (setI l37 (IntKind.i64.wrap (y40.1 - y30.1)) (IntKind.i64.wrap (y42 + 1))) (IntKind.i64.wrap ((IntKind.i64.wrap (y40.1 + y40.2)) - y30.1)) (IntKind.i64.wrap (y44 - 1)))), ⟨h45, u37, (Heapy.pick hp45 [0] (by decide)), rfl⟩, pEnd_sound good (L := F33_L) (D := F33_D) (its := [.g, (.b true), (.ix id40 off40 g40), (.ld (.agg #[.int .i64 y40.1, .int .i64 y40.2])), .g, .g, .g, .g, .g, (.b true), .g, .g, .g, .g, .g, (.ix id42 off42 g42), (.ld (.int .i64 y42)), .g, (.ix id42 off42 g42), (.mm undef h43), .g, .g, .g, .g, .g, .g, .g, .g, (.ix id44 off44 g44), (.ld (.int .i64 y44)), .g, (.ix id44 off44 g44), (.mm undef h45), .g, .g]) (ds := F33_m4_0) (ks := [16]) (e := .normal) (s2 := (F33_h4 l1 v1 y30 h45 u37 (IntKind.i64.wrap (a36 + 1)) (setI (setI l37 (IntKind.i64.wrap (y40.1 - y30.1)) (IntKind.i64.wrap (y42 + 1))) (IntKind.i64.wrap ((IntKind.i64.wrap (y40.1 + y40.2)) - y30.1)) (IntKind.i64.wrap (y44 - 1))))) (hC := (And.intro m45 (And.intro ix44 (And.intro (At.one (P := Try.prog) (t := 3) (v := .int .i64 y44) at44 (by kernel_rfl) 0 rfl rfl) (And.intro ix44 (And.intro m43 (And.intro ix42 (And.intro (At.one (P := Try.prog) (t := 3) (v := .int .i64 y42) at42 (by kernel_rfl) 0 rfl rfl) (And.intro ix42 (And.intro c41 (And.intro (At.agg (P := Try.prog) (t := 24) (v := .agg #[.int .i64 y40.1, .int .i64 y40.2]) (m := 2) (At.mono (Heapy.sub hp38) at40) (by kernel_rfl) (by kernel_rfl) 0 (by kernel_rfl) rfl) (And.intro ix40 (And.intro c39 trivial))))))))))))) (hd := F33_d4) (h := by kernel_rfl)⟩
    · intro hr
      obtain rfl := Option.some.inj hr
      exact ⟨(F33_h4 l1 v1 y30 h38 u37 (IntKind.i64.wrap (a36 + 1)) l37), ⟨h38, u37, (Heapy.pick hp38 [0] (by decide)), rfl⟩, pEnd_sound good (L := F33_L) (D := F33_D) (its := [.g, (.b true), (.ix id40 off40 g40), (.ld (.agg #[.int .i64 y40.1, .int .i64 y40.2])), .g, .g, .g, .g, .g, (.b false), .g, .g]) (ds := F33_m4_0) (ks := [16]) (e := .normal) (s2 := (F33_h4 l1 v1 y30 h38 u37 (IntKind.i64.wrap (a36 + 1)) l37)) (hC := (And.intro c41 (And.intro (At.agg (P := Try.prog) (t := 24) (v := .agg #[.int .i64 y40.1, .int .i64 y40.2]) (m := 2) (At.mono (Heapy.sub hp38) at40) (by kernel_rfl) (by kernel_rfl) 0 (by kernel_rfl) rfl) (And.intro ix40 (And.intro c39 trivial))))) (hd := F33_d4) (h := by kernel_rfl)⟩
  · intro hr
    obtain rfl := Option.some.inj hr
    refine ⟨(.exit 6), (F33_x4_0 h y30 h38 u37 (l37 : (List Int))), (by intro hh; cases hh), ?_, pEnd_sound good (L := F33_L) (D := F33_D) (its := [.g, (.b false)]) (ds := F33_m4_1) (ks := []) (e := (.exit 6)) (s2 := (F33_x4_0 h y30 h38 u37 (l37 : (List Int)))) (hC := (And.intro c39 trivial)) (hd := F33_d4) (h := by kernel_rfl)⟩
    exact ⟨rfl, h38, u37, (Heapy.pick hp38 [0] (by decide)), rfl⟩
theorem F33_l4 (h : AHeap) (l1 : List (Int × Int)) (v1 : Hd) (hv1 : SlE E24 2 h (sv v1) l1) (y30 : Int × Int × Bool) (x : Int × (List Int)) (r : (List Int)) (hl : loopO (fun (s : Int × (List Int)) => F33_s4 l1 y30 s.1 s.2) x = some r) (S : AS) (hI : (F33_i4 h l1 v1 y30) x S) : ∃ e S', (F33_x4 h y30) r e S' ∧ AWp Try.prog (.loop (codeOf Try.prog 33 [1, 1, 1, 1, 1, 1, 0, 1, 0, 0])) (Ends1 e S') S :=
  loop_rel (fun x S hI => F33_r4 h l1 v1 hv1 y30 x.1 x.2 S hI) hl hI
def F33_m5_1 : List Bool := [true, true, true, true, true, true, true, true, true, false, false, true, true, true, false, true, true, true, true, true, true, true, true, true, true, true, true, true, true, true, true, true, true, true, true, true, true, true, true, true, true, true, true, true, true, true, true, true, true, true, true, true, true, true, true, true, true, true, true, true, true, true, true, true, true, true, true, true, true, true, true, true, true, true, true, true, true, true, true, true, true, true, true, true, true, true, true, true, true, true, true, true, true, true, true, true, true, true, true, true, true, true, true, true, true, true, true, true, true, true, true, true, true, true, true, true, true, true, true, true, true, true, true, true, true, true, true, true, true, true, true, true, true, true, true, true, true, true, true, true, true, true, true]
def F33_m5_0 : List Bool := [true, true, true, true, true, true, true, true, true, false, false, true, true, true, false, true, true, false, true, true, true, true, true, true, true, true, true, true, true, true, true, true, true, true, true, true, true, true, true, true, true, true, true, true, true, true, true, true, true, true, true, true, true, true, true, true, true, true, true, true, true, true, true, true, true, true, true, true, true, true, true, true, true, true, true, true, true, true, true, true, true, true, true, true, true, true, true, true, true, true, true, true, true, true, true, true, true, true, true, true, true, true, true, true, true, true, true, true, true, true, true, true, true, true, true, true, true, true, true, true, true, true, true, true, true, true, true, true, true, true, true, true, true, true, true, true, true, true, true, true, true, true, true]
def F33_s5  (a48 : Int) (l49 : List Int) : Option ((Int × (List Int)) ⊕ (List Int)) :=
  (bif decide (a48 < (l49.length : Int)) then
   (Option.bind (at? l49 a48) fun y52 =>
   (Option.bind (at? l49 (IntKind.i64.wrap (a48 - 1))) fun y53 =>
   some (.inl ((IntKind.i64.wrap (a48 + 1)), (setI l49 a48 (IntKind.i64.wrap (y52 + y53)))))))
  else
   some (.inr l49))
def F33_h5 (y30 : Int × Int × Bool) (h50 : AHeap) (u49 : Hd) (a48 : Int) (l49 : List Int) : AS := ⟨[junk, junk, junk, junk, junk, junk, junk, junk, junk, .int .i64 y30.1, .int .i64 y30.2.1, junk, junk, junk, (sv u49), junk, junk, .int .i64 a48, junk, junk, junk, junk, junk, junk, junk, junk, junk, junk, junk, junk, junk, junk, junk, junk, junk, junk, junk, junk, junk, junk, junk, junk, junk, junk, junk, junk, junk, junk, junk, junk, junk, junk, junk, junk, junk, junk, junk, junk, junk, junk, junk, junk, junk, junk, junk, junk, junk, junk, junk, junk, junk, junk, junk, junk, junk, junk, junk, junk, junk, junk, junk, junk, junk, junk, junk, junk, junk, junk, junk, junk, junk, junk, junk, junk, junk, junk, junk, junk, junk, junk, junk, junk, junk, junk, junk, junk, junk, junk, junk, junk, junk, junk, junk, junk, junk, junk, junk, junk, junk, junk, junk, junk, junk, junk, junk, junk, junk, junk, junk, junk, junk, junk, junk, junk, junk, junk, junk, junk, junk, junk, junk, junk, junk], [], h50⟩
theorem F33_d5 : drawsOk F33_D (codeOf Try.prog 33 [1, 1, 1, 1, 1, 1, 1, 0, 1, 0, 0]) = true := by kernel_rfl
def F33_x5_0 (h : AHeap) (y30 : Int × Int × Bool) (hx : AHeap) (w0 : Hd) (r : (List Int)) : AS := ⟨[junk, junk, junk, junk, junk, junk, junk, junk, junk, .int .i64 y30.1, .int .i64 y30.2.1, junk, junk, junk, (sv w0), junk, junk, junk, junk, junk, junk, junk, junk, junk, junk, junk, junk, junk, junk, junk, junk, junk, junk, junk, junk, junk, junk, junk, junk, junk, junk, junk, junk, junk, junk, junk, junk, junk, junk, junk, junk, junk, junk, junk, junk, junk, junk, junk, junk, junk, junk, junk, junk, junk, junk, junk, junk, junk, junk, junk, junk, junk, junk, junk, junk, junk, junk, junk, junk, junk, junk, junk, junk, junk, junk, junk, junk, junk, junk, junk, junk, junk, junk, junk, junk, junk, junk, junk, junk, junk, junk, junk, junk, junk, junk, junk, junk, junk, junk, junk, junk, junk, junk, junk, junk, junk, junk, junk, junk, junk, junk, junk, junk, junk, junk, junk, junk, junk, junk, junk, junk, junk, junk, junk, junk, junk, junk, junk, junk, junk, junk, junk, junk], [], hx⟩
def F33_i5 (h : AHeap) (y30 : Int × Int × Bool) (s : Int × (List Int)) (S : AS) : Prop := ∃ (h50 : AHeap) (u49 : Hd), Heapy h h50 [⟨u49, 3, 1, List.flatMap enc3 s.2⟩] ∧ S = (F33_h5 y30 h50 u49 s.1 s.2)
def F33_x5 (h : AHeap) (y30 : Int × Int × Bool) (r : (List Int)) (e : Exit) (S : AS) : Prop := e = (.exit 8) ∧ ∃ (hx : AHeap) (w0 : Hd), Heapy h hx [⟨w0, 3, 1, List.flatMap enc3 r⟩] ∧ S = (F33_x5_0 h y30 hx w0 r)
set_option maxRecDepth 100000 in
theorem F33_r5 (h : AHeap) (y30 : Int × Int × Bool) (a48 : Int) (l49 : List Int) (S : AS) (hI : (F33_i5 h y30) (a48, l49) S) (o : (Int × (List Int)) ⊕ (List Int)) : F33_s5 a48 l49 = some o → Rd Try.prog (codeOf Try.prog 33 [1, 1, 1, 1, 1, 1, 1, 0, 1, 0, 0]) (F33_i5 h y30) (F33_x5 h y30) S o := by
  obtain ⟨h50, u49, hp50, rfl⟩ := hI
  unfold F33_s5
  refine dec_bif (fun c51 => ?_) (fun c51 => ?_)
  · refine bind_opt fun y52 e52 => ?_
    obtain ⟨id52, off52, g52, cs52, ix52, at52, rfl⟩ := SlE.at (Heapy.sle (v := u49) (xs := l49) (enc := enc3) hp50 0 rfl (fun _ => rfl) (by decide)) e52
    refine bind_opt fun y53 e53 => ?_
    obtain ⟨id53, off53, g53, cs53, ix53, at53, rfl⟩ := SlE.at (Heapy.sle (v := u49) (xs := l49) (enc := enc3) hp50 0 rfl (fun _ => rfl) (by decide)) e53
    obtain ⟨h54, m54, hp54⟩ := Heapy.store (P := Try.prog) hp50 0 (v := u49) (xs := l49) (enc := enc3) rfl (fun _ => rfl) e52 (y' := (IntKind.i64.wrap (y52 + y53))) ix52 (t := 3) (x := .int .i64 (IntKind.i64.wrap (y52 + y53))) 0 (vs := [.int .i64 (IntKind.i64.wrap (y52 + y53))]) rfl (by kernel_rfl) rfl rfl rfl rfl
    intro hr
    obtain rfl := Option.some.inj hr
    exact ⟨(F33_h5 y30 h54 u49 (IntKind.i64.wrap (a48 + 1)) (setI l49 a48 (IntKind.i64.wrap (y52 + y53)))), ⟨h54, u49, (Heapy.pick hp54 [0] (by decide)), rfl⟩, pEnd_sound good (L := F33_L) (D := F33_D) (its := [.g, .g, (.ln l49.length), .g, (.b true), .g, .g, (.ix id52 off52 g52), (.ld (.int .i64 y52)), .g, .g, .g, (.ix id53 off53 g53), (.ld (.int .i64 y53)), .g, (.ix id52 off52 g52), (.mm undef h54), .g, .g, .g]) (ds := F33_m5_0) (ks := []) (e := .normal) (s2 := (F33_h5 y30 h54 u49 (IntKind.i64.wrap (a48 + 1)) (setI l49 a48 (IntKind.i64.wrap (y52 + y53))))) (hC := (And.intro m54 (And.intro ix52 (And.intro (At.one (P := Try.prog) (t := 3) (v := .int .i64 y53) at53 (by kernel_rfl) 0 rfl rfl) (And.intro ix53 (And.intro (At.one (P := Try.prog) (t := 3) (v := .int .i64 y52) at52 (by kernel_rfl) 0 rfl rfl) (And.intro ix52 (And.intro c51 (And.intro (SlE.len (Heapy.sle (v := u49) (xs := l49) (enc := enc3) hp50 0 rfl (fun _ => rfl) (by decide))) trivial))))))))) (hd := F33_d5) (h := by kernel_rfl)⟩
  · intro hr
    obtain rfl := Option.some.inj hr
    refine ⟨(.exit 8), (F33_x5_0 h y30 h50 u49 (l49 : (List Int))), (by intro hh; cases hh), ?_, pEnd_sound good (L := F33_L) (D := F33_D) (its := [.g, .g, (.ln l49.length), .g, (.b false)]) (ds := F33_m5_1) (ks := []) (e := (.exit 8)) (s2 := (F33_x5_0 h y30 h50 u49 (l49 : (List Int)))) (hC := (And.intro c51 (And.intro (SlE.len (Heapy.sle (v := u49) (xs := l49) (enc := enc3) hp50 0 rfl (fun _ => rfl) (by decide))) trivial))) (hd := F33_d5) (h := by kernel_rfl)⟩
    exact ⟨rfl, h50, u49, (Heapy.pick hp50 [0] (by decide)), rfl⟩
theorem F33_l5 (h : AHeap) (y30 : Int × Int × Bool) (x : Int × (List Int)) (r : (List Int)) (hl : loopO (fun (s : Int × (List Int)) => F33_s5 s.1 s.2) x = some r) (S : AS) (hI : (F33_i5 h y30) x S) : ∃ e S', (F33_x5 h y30) r e S' ∧ AWp Try.prog (.loop (codeOf Try.prog 33 [1, 1, 1, 1, 1, 1, 1, 0, 1, 0, 0])) (Ends1 e S') S :=
  loop_rel (fun x S hI => F33_r5 h y30 x.1 x.2 S hI) hl hI
def F33 (l1 : List (Int × Int)) (x2 : Int) : Option ((List Int)) :=
  (bif decide (x2 > 0) then
   (bif (!(okLen x2 x2 8)) then none else
   (Option.bind (loopO (fun (s : Int × (List Int)) => F33_s2 l1 x2 s.1 s.2) (0, (List.replicate x2.toNat 0))) fun y20 =>
   some (y20)))
  else
   (Option.bind (loopO (fun (s : Int × Int × Bool × Int) => F33_s3 l1 s.1 s.2.1 s.2.2.1 s.2.2.2) (0, 0, false, 0)) fun y30 =>
   (bif (!y30.2.2) then
    some ([])
   else
    (bif decide ((IntKind.i64.wrap (y30.2.1 - y30.1)) > 2097152) then
     some ([])
    else
     (bif (!(okLen (IntKind.i64.wrap ((IntKind.i64.wrap (y30.2.1 - y30.1)) + 1)) (IntKind.i64.wrap ((IntKind.i64.wrap (y30.2.1 - y30.1)) + 1)) 8)) then none else
     (Option.bind (loopO (fun (s : Int × (List Int)) => F33_s4 l1 y30 s.1 s.2) (0, (List.replicate (IntKind.i64.wrap ((IntKind.i64.wrap (y30.2.1 - y30.1)) + 1)).toNat 0))) fun y46 =>
     (Option.bind (loopO (fun (s : Int × (List Int)) => F33_s5 s.1 s.2) (1, y46)) fun y55 =>
     (bif (!(subOk (0 : Int) (IntKind.i64.wrap (y30.2.1 - y30.1)) y55.length)) then none else
     some (subL y55 (0 : Int) (IntKind.i64.wrap (y30.2.1 - y30.1)))))))))))
set_option maxRecDepth 100000 in
theorem F33_spec (l1 : List (Int × Int)) (x2 : Int) (v1 : Hd) (h : AHeap) (hw : h.wf) (hv1 : SlE E24 2 h (sv v1) l1) (r : (List Int)) : F33 l1 x2 = some r → ∃ (ur0 : Hd) (h' : AHeap), Heapy h h' [⟨ur0, 3, 1, List.flatMap enc3 r⟩] ∧ ACalls Try.prog 33 [(sv v1), .int .i64 x2] h (fun v' h'' => v' = ((sv ur0) : Value) ∧ h'' = h') := by
  unfold F33
  refine dec_bif (fun c3 => ?_) (fun c3 => ?_)
  · refine guard_ok fun g4 => ?_
    obtain ⟨v5, h5, m5, hp5, _⟩ := Heapy.make (Heapy.refl hw) (show mkInfo Try.prog 31 = some (3, 1, 8, [.int .i64 0]) by kernel_rfl) (a := x2) (b := x2) (by simpa using g4) (enc := enc3) (x := 0) rfl rfl
    refine bind_opt fun y20 e20 => ?_
    obtain ⟨ee20, SS20, hX20, hA20⟩ := F33_l2 h l1 v1 hv1 x2 c3 (0, (List.replicate x2.toNat 0)) y20 e20 (F33_h2 l1 v1 x2 h5 v5 0 (List.replicate x2.toNat 0)) ⟨h5, v5, (Heapy.pick hp5 [0] (by decide)), rfl⟩
    obtain ⟨rfl, h21, w0_21, hp21, rfl⟩ := hX20
    intro hr
    obtain rfl := Option.some.inj hr
    exact ⟨w0_21, h21, Heapy.pick hp21 [0] (by decide), pFun_sound good tab_ok (f := 33) (its := [.g, .g, .g, (.b true), .g, (.mm (sv v5) h5), .g, .g, (.ln l1.length), .g, (.l F33_m2_0 [] (.exit 0) (F33_x2_0 h h21 w0_21 y20)), .g, .g]) (args := [(sv v1), .int .i64 x2]) (h := h) (h' := h21) (v := (sv w0_21)) (hC := (And.intro hA20 (And.intro (SlE.len hv1) (And.intro m5 (And.intro c3 trivial))))) (hr := by kernel_rfl)⟩
  · refine bind_opt fun y30 e30 => ?_
    refine dec_bif (fun c31 => ?_) (fun c31 => ?_)
    · intro hr
      obtain rfl := Option.some.inj hr
      exact ⟨⟨none, 0, 0⟩, h, Heapy.pick (Heapy.nil (Heapy.refl hw) 3 1) [0] (by decide), pFun_sound good tab_ok (f := 33) (its := [.g, .g, .g, (.b false), .g, .g, .g, .g, (.ln l1.length), .g, (.l F33_m3_0 [] (.exit 4) (F33_x3_0 h v1 y30)), .g, .g, .g, .n, .n, .n, .n, (.p true), (.b true), .g]) (args := [(sv v1), .int .i64 x2]) (h := h) (h' := h) (v := .slice none 0 0) (hC := (And.intro l_t (And.intro c31 (And.intro (g_tf c31) (And.intro (g_tf c31) (And.intro (g_tf c31) (And.intro (g_tf c31) (And.intro (F33_l3_0 h l1 v1 hv1 (0, 0, false, 0) y30 e30) (And.intro (SlE.len hv1) (And.intro c3 trivial)))))))))) (hr := by kernel_rfl)⟩
    · refine dec_bif (fun c32 => ?_) (fun c32 => ?_)
      · intro hr
        obtain rfl := Option.some.inj hr
        exact ⟨⟨none, 0, 0⟩, h, Heapy.pick (Heapy.nil (Heapy.refl hw) 3 1) [0] (by decide), pFun_sound good tab_ok (f := 33) (its := [.g, .g, .g, (.b false), .g, .g, .g, .g, (.ln l1.length), .g, (.l F33_m3_0 [] (.exit 4) (F33_x3_0 h v1 y30)), .g, .g, .g, (.w .g), (.w .g), (.w .g), (.w .g), (.p false), (.b true), .g]) (args := [(sv v1), .int .i64 x2]) (h := h) (h' := h) (v := .slice none 0 0) (hC := (And.intro c32 (And.intro c31 (And.intro (g_ff c31) (And.intro (g_ff c31) (And.intro (g_ff c31) (And.intro (g_ff c31) (And.intro (F33_l3_0 h l1 v1 hv1 (0, 0, false, 0) y30 e30) (And.intro (SlE.len hv1) (And.intro c3 trivial)))))))))) (hr := by kernel_rfl)⟩
      · refine guard_ok fun g33 => ?_
        obtain ⟨v34, h34, m34, hp34, _⟩ := Heapy.make (Heapy.refl hw) (show mkInfo Try.prog 31 = some (3, 1, 8, [.int .i64 0]) by kernel_rfl) (a := (IntKind.i64.wrap ((IntKind.i64.wrap (y30.2.1 - y30.1)) + 1))) (b := (IntKind.i64.wrap ((IntKind.i64.wrap (y30.2.1 - y30.1)) + 1))) (by simpa using g33) (enc := enc3) (x := 0) rfl rfl
        refine bind_opt fun y46 e46 => ?_
        obtain ⟨ee46, SS46, hX46, hA46⟩ := F33_l4 h l1 v1 hv1 y30 (0, (List.replicate (IntKind.i64.wrap ((IntKind.i64.wrap (y30.2.1 - y30.1)) + 1)).toNat 0)) y46 e46 (F33_h4 l1 v1 y30 h34 v34 0 (List.replicate (IntKind.i64.wrap ((IntKind.i64.wrap (y30.2.1 - y30.1)) + 1)).toNat 0)) ⟨h34, v34, (Heapy.pick hp34 [0] (by decide)), rfl⟩
        obtain ⟨rfl, h47, w0_47, hp47, rfl⟩ := hX46
        refine bind_opt fun y55 e55 => ?_
        obtain ⟨ee55, SS55, hX55, hA55⟩ := F33_l5 h y30 (1, y46) y55 e55 (F33_h5 y30 h47 w0_47 1 y46) ⟨h47, w0_47, (Heapy.pick hp47 [0] (by decide)), rfl⟩
        obtain ⟨rfl, h56, w0_56, hp56, rfl⟩ := hX55
        refine guard_ok fun g57 => ?_
        intro hr
        obtain rfl := Option.some.inj hr
        have hp58 : Heapy h h56 [⟨(Hd.sub w0_56 ((0 : Int)).toNat ((IntKind.i64.wrap (y30.2.1 - y30.1))).toNat 1), 3, 1, List.flatMap enc3 (subL y55 (0 : Int) (IntKind.i64.wrap (y30.2.1 - y30.1)))⟩] := Heapy.take hp56 0 (v := w0_56) (xs := y55) (enc := enc3) rfl (fun _ => rfl) (by decide) (nn g57)
        exact ⟨(Hd.sub w0_56 ((0 : Int)).toNat ((IntKind.i64.wrap (y30.2.1 - y30.1))).toNat 1), h56, Heapy.pick hp58 [0] (by decide), pFun_sound good tab_ok (f := 33) (its := [.g, .g, .g, (.b false), .g, .g, .g, .g, (.ln l1.length), .g, (.l F33_m3_0 [] (.exit 4) (F33_x3_0 h v1 y30)), .g, .g, .g, (.w .g), (.w .g), (.w .g), (.w .g), (.p false), (.b false), .g, .g, .g, .g, (.mm (sv v34) h34), .g, .g, (.ln l1.length), .g, (.l F33_m4_0 [] (.exit 6) (F33_x4_0 h y30 h47 w0_47 y46)), .g, (.l F33_m5_0 [] (.exit 8) (F33_x5_0 h y30 h56 w0_56 y55)), .g, .g, .g, .g, (.sl (sv (Hd.sub w0_56 ((0 : Int)).toNat ((IntKind.i64.wrap (y30.2.1 - y30.1))).toNat 1))), .g]) (args := [(sv v1), .int .i64 x2]) (h := h) (h' := h56) (v := (sv (Hd.sub w0_56 ((0 : Int)).toNat ((IntKind.i64.wrap (y30.2.1 - y30.1))).toNat 1))) (hC := (And.intro (slv_sub (P := Try.prog) (t := 31) (e := 3) (Heapy.sle (v := w0_56) (xs := y55) (enc := enc3) hp56 0 rfl (fun _ => rfl) (by decide)) (by kernel_rfl) (by kernel_rfl) (none) (some (IntKind.i64.wrap (y30.2.1 - y30.1))) rfl rfl (nn g57)) (And.intro hA55 (And.intro hA46 (And.intro (SlE.len hv1) (And.intro m34 (And.intro c32 (And.intro c31 (And.intro (g_ff c31) (And.intro (g_ff c31) (And.intro (g_ff c31) (And.intro (g_ff c31) (And.intro (F33_l3_0 h l1 v1 hv1 (0, 0, false, 0) y30 e30) (And.intro (SlE.len hv1) (And.intro c3 trivial))))))))))))))) (hr := by kernel_rfl)⟩
/-! 14 jacquard/color.Load -/
def F14 (l1 : List (Int × Int)) (x2 : Int) : Option ((List Int)) :=
  (Option.bind (F29 l1 x2) fun y3 =>
  (Option.bind (F33 y3.1 y3.2) fun y6 =>
  some (y6)))
set_option maxRecDepth 100000 in
theorem F14_spec (l1 : List (Int × Int)) (x2 : Int) (v1 : Hd) (h : AHeap) (hw : h.wf) (hv1 : SlE E24 2 h (sv v1) l1) (r : (List Int)) : F14 l1 x2 = some r → ∃ (ur0 : Hd) (h' : AHeap), Heapy h h' [⟨ur0, 3, 1, List.flatMap enc3 r⟩] ∧ ACalls Try.prog 14 [(sv v1), .int .i64 x2] h (fun v' h'' => v' = ((sv ur0) : Value) ∧ h'' = h') := by
  unfold F14
  refine bind_opt fun y3 e3 => ?_
  obtain ⟨u4_0, h4, q4, c4⟩ := F29_spec l1 x2 v1 h hw hv1 _ e3
  have hp4 : Heapy h h4 [⟨u4_0, 24, 2, List.flatMap enc24 y3.1⟩] := Heapy.call (Heapy.refl hw) q4
  refine bind_opt fun y6 e6 => ?_
  obtain ⟨u7_0, h7, q7, c7⟩ := F33_spec y3.1 y3.2 u4_0 h4 (Heapy.wf hp4) (Heapy.sle (v := u4_0) (xs := y3.1) (enc := enc24) hp4 0 rfl (fun _ => rfl) (by decide)) _ e6
  have hp7 : Heapy h h7 [⟨u7_0, 3, 1, List.flatMap enc3 y6⟩, ⟨u4_0, 24, 2, List.flatMap enc24 y3.1⟩] := Heapy.call hp4 q7
  intro hr
  obtain rfl := Option.some.inj hr
  exact ⟨u7_0, h7, Heapy.pick hp7 [0] (by decide), pFun_sound good tab_ok (f := 14) (its := [.g, .g, .g, (.c (.tuple #[(sv u4_0), .int .i64 y3.2]) h4), .g, .g, .g, .g, .g, .g, .g, (.c ((sv u7_0)) h7), .g]) (args := [(sv v1), .int .i64 x2]) (h := h) (h' := h7) (v := (sv u7_0)) (hC := (And.intro c7 (And.intro c4 trivial))) (hr := by kernel_rfl)⟩
/-! 17 jacquard/jacquardref38.Mod -/
def F17 (x1 : Int) (x2 : Int) : Option (Int) :=
  (bif (x2 == 0) then none else
  (bif decide ((x1.tmod x2) < 0) then
   some (IntKind.i64.wrap ((x1.tmod x2) + x2))
  else
   some (x1.tmod x2)))
set_option maxRecDepth 100000 in
theorem F17_spec (x1 : Int) (x2 : Int) (h : AHeap)  (r : Int) : F17 x1 x2 = some r → ACalls Try.prog 17 [.int .i64 x1, .int .i64 x2] h (fun v' h'' => v' = (.int .i64 r : Value) ∧ h'' = h) := by
  unfold F17
  refine guard_ok fun g3 => ?_
  refine dec_bif (fun c4 => ?_) (fun c4 => ?_)
  · intro hr
    obtain rfl := Option.some.inj hr
    exact pFun_sound good tab_ok (f := 17) (its := [.g, .g, .g, .d, .g, .g, .g, (.b true), .g, .g, .g, .g, .g, .g]) (args := [.int .i64 x1, .int .i64 x2]) (h := h) (h' := h) (v := .int .i64 (IntKind.i64.wrap ((x1.tmod x2) + x2))) (hC := (And.intro c4 (And.intro (nz g3) trivial))) (hr := by kernel_rfl)
  · intro hr
    obtain rfl := Option.some.inj hr
    exact pFun_sound good tab_ok (f := 17) (its := [.g, .g, .g, .d, .g, .g, .g, (.b false), .g, .g]) (args := [.int .i64 x1, .int .i64 x2]) (h := h) (h' := h) (v := .int .i64 (x1.tmod x2)) (hC := (And.intro c4 (And.intro (nz g3) trivial))) (hr := by kernel_rfl)
/-! 36 jacquard/jacquardref38.Contains -/
def F36 (x1 : Int) (x2 : Int) (x3 : Int) (x4 : Int) : Option (Bool) :=
  (bif ((F16 x3) == 0) then
   (bif decide (x4 ≥ (F35 x1 x2)) then
    some (decide (x4 < (IntKind.i64.wrap ((F35 x1 x2) + (F34 x1 x2 (F16 x3))))))
   else
    some (false))
  else
   (Option.bind (F17 (IntKind.i64.wrap (x4 - (F35 x1 x2))) (F16 x3)) fun y12 =>
   some (decide (y12 < (F34 x1 x2 (F16 x3))))))
set_option maxRecDepth 100000 in
theorem F36_spec (x1 : Int) (x2 : Int) (x3 : Int) (x4 : Int) (h : AHeap)  (r : Bool) : F36 x1 x2 x3 x4 = some r → ACalls Try.prog 36 [.agg #[.int .i64 x1, .int .i64 x2], .int .i64 x3, .int .i64 x4] h (fun v' h'' => v' = (.bool r : Value) ∧ h'' = h) := by
  unfold F36
  refine dec_bif (fun c6 => ?_) (fun c6 => ?_)
  · refine dec_bif (fun c8 => ?_) (fun c8 => ?_)
    · intro hr
      obtain rfl := Option.some.inj hr
      exact pFun_sound good tab_ok (f := 36) (its := [.g, .g, .g, (.c (.int .i64 (F16 x3)) h), .g, .g, .g, (.b true), .g, .g, (.c (.int .i64 (F35 x1 x2)) h), .g, .g, (.w .g), (.w .g), (.w .g), (.w .g), (.w (.c (.int .i64 (F35 x1 x2)) h)), (.w (.c (.int .i64 (F34 x1 x2 (F16 x3))) h)), (.w .g), (.w .g), (.p true), .g]) (args := [.agg #[.int .i64 x1, .int .i64 x2], .int .i64 x3, .int .i64 x4]) (h := h) (h' := h) (v := .bool (decide (x4 < (IntKind.i64.wrap ((F35 x1 x2) + (F34 x1 x2 (F16 x3))))))) (hC := (And.intro c8 (And.intro (g_tt c8) (And.intro (g_tt c8) (And.intro (show AKeep h h from (AHeap.sub_refl h)) (And.intro (F34_spec x1 x2 (F16 x3) h _ rfl) (And.intro (g_tt c8) (And.intro (show AKeep h h from (AHeap.sub_refl h)) (And.intro (F35_spec x1 x2 h _ rfl) (And.intro (g_tt c8) (And.intro (g_tt c8) (And.intro (g_tt c8) (And.intro (g_tt c8) (And.intro (g_tt c8) (And.intro (show AKeep h h from (AHeap.sub_refl h)) (And.intro (F35_spec x1 x2 h _ rfl) (And.intro c6 (And.intro (F16_spec x3 h _ rfl) trivial)))))))))))))))))) (hr := by kernel_rfl)
    · intro hr
      obtain rfl := Option.some.inj hr
      exact pFun_sound good tab_ok (f := 36) (its := [.g, .g, .g, (.c (.int .i64 (F16 x3)) h), .g, .g, .g, (.b true), .g, .g, (.c (.int .i64 (F35 x1 x2)) h), .g, .g, .n, .n, .n, .n, .n, .n, .n, .n, (.p false), .g]) (args := [.agg #[.int .i64 x1, .int .i64 x2], .int .i64 x3, .int .i64 x4]) (h := h) (h' := h) (v := .bool false) (hC := (And.intro c8 (And.intro (g_ft c8) (And.intro (g_ft c8) (And.intro (g_ft c8) (And.intro (g_ft c8) (And.intro (g_ft c8) (And.intro (g_ft c8) (And.intro (g_ft c8) (And.intro (g_ft c8) (And.intro (show AKeep h h from (AHeap.sub_refl h)) (And.intro (F35_spec x1 x2 h _ rfl) (And.intro c6 (And.intro (F16_spec x3 h _ rfl) trivial)))))))))))))) (hr := by kernel_rfl)
  · refine bind_opt fun y12 e12 => ?_
    intro hr
    obtain rfl := Option.some.inj hr
    exact pFun_sound good tab_ok (f := 36) (its := [.g, .g, .g, (.c (.int .i64 (F16 x3)) h), .g, .g, .g, (.b false), .g, .g, .g, .g, .g, (.c (.int .i64 (F35 x1 x2)) h), .g, (.c (.int .i64 y12) h), (.c (.int .i64 (F34 x1 x2 (F16 x3))) h), .g, .g]) (args := [.agg #[.int .i64 x1, .int .i64 x2], .int .i64 x3, .int .i64 x4]) (h := h) (h' := h) (v := .bool (decide (y12 < (F34 x1 x2 (F16 x3))))) (hC := (And.intro (show AKeep h h from (AHeap.sub_refl h)) (And.intro (F34_spec x1 x2 (F16 x3) h _ rfl) (And.intro (show AKeep h h from (AHeap.sub_refl h)) (And.intro (F17_spec (IntKind.i64.wrap (x4 - (F35 x1 x2))) (F16 x3) h _ e12) (And.intro (show AKeep h h from (AHeap.sub_refl h)) (And.intro (F35_spec x1 x2 h _ rfl) (And.intro c6 (And.intro (F16_spec x3 h _ rfl) trivial))))))))) (hr := by kernel_rfl)
/-! 15 jacquard/jacquardref38.Load -/
def F15_L : List Nat := []
def F15_D : List (Nat × List (Nat × Nat)) := [(14, [(0, 2), (1, 2), (2, 2), (3, 2), (4, 2), (6, 2), (7, 2), (8, 2), (9, 5), (5, 1), (10, 1), (11, 2), (12, 2), (13, 2), (14, 2)])]
def F15__1 (y9 : Int × Int) : Int := (if (IntKind.i64.wrap ((IntKind.i64.wrap ((F35 y9.1 y9.2) + (F34 y9.1 y9.2 0))) - 1)) > (F35 y9.1 y9.2) then (IntKind.i64.wrap ((IntKind.i64.wrap ((F35 y9.1 y9.2) + (F34 y9.1 y9.2 0))) - 1)) else (F35 y9.1 y9.2))
def F15__2 (a6 : Int) (y9 : Int × Int) : Int := (if (IntKind.i64.wrap ((IntKind.i64.wrap ((F35 y9.1 y9.2) + (F34 y9.1 y9.2 0))) - 1)) > a6 then (IntKind.i64.wrap ((IntKind.i64.wrap ((F35 y9.1 y9.2) + (F34 y9.1 y9.2 0))) - 1)) else a6)
def F15_m1_1 : List Bool := [false, false, true, true, true, false, false, true, true, true, true, true, true, true, true, true, true, true, true, true, true, true, true, true, true, true, true, true, true, true, true, true, true, true, true, true, true, true, true, true, true, true, true, true, true, true, true, true, true, true, true, true, true, true, true, true, true, true, true, true, true, true, true, true, true, true, true, true, true, true, true, true, true, true, true, true, true, true, true, true, true, true, true, true, true, true]
def F15_m1_0 : List Bool := [false, false, true, true, true, false, false, true, true, true, true, true, true, true, true, true, true, true, true, false, false, true, true, true, true, true, true, true, true, true, true, true, true, true, true, true, true, true, true, true, true, true, true, true, true, true, true, true, true, true, true, true, true, true, true, true, true, true, true, true, true, true, true, true, true, true, true, true, true, true, true, true, true, true, true, true, true, true, true, true, true, true, true, true, true, true]
def F15_s1 (l1 : List (Int × Int)) (a5 : Int) (a6 : Int) (a7 : Int) : Option ((Int × Int × Int) ⊕ (Int × Int)) :=
  (bif decide (a7 < (l1.length : Int)) then
   (Option.bind (at? l1 a7) fun y9 =>
   (bif ((F34 y9.1 y9.2 0) == 0) then
    some (.inl (a5, a6, (IntKind.i64.wrap (a7 + 1))))
   else
    (bif decide (a5 > a6) then
     some (.inl ((if (F35 y9.1 y9.2) < (F35 y9.1 y9.2) then (F35 y9.1 y9.2) else (F35 y9.1 y9.2)), (F15__1 y9), (IntKind.i64.wrap (a7 + 1))))
    else
     some (.inl ((if (F35 y9.1 y9.2) < a5 then (F35 y9.1 y9.2) else a5), (F15__2 a6 y9), (IntKind.i64.wrap (a7 + 1)))))))
  else
   some (.inr (a5, a6)))
def F15_h1 (h : AHeap) (l1 : List (Int × Int)) (v1 : Hd) (x2 : Int)  (a5 : Int) (a6 : Int) (a7 : Int) : AS := ⟨[(sv v1), .int .i64 (F16 x2), junk, junk, junk, .int .i64 a5, .int .i64 a6, junk, junk, junk, junk, junk, junk, junk, junk, junk, junk, junk, junk, .int .i64 (l1.length : Int), .int .i64 a7, junk, junk, junk, junk, junk, junk, junk, junk, junk, junk, junk, junk, junk, junk, junk, junk, junk, junk, junk, junk, junk, junk, junk, junk, junk, junk, junk, junk, junk, junk, junk, junk, junk, junk, junk, junk, junk, junk, junk, junk, junk, junk, junk, junk, junk, junk, junk, junk, junk, junk, junk, junk, junk, junk, junk, junk, junk, junk, junk, junk, junk, junk, junk, junk, junk], [], h⟩
theorem F15_d1 : drawsOk F15_D (codeOf Try.prog 15 [1, 1, 1, 0, 1, 0, 1, 1, 1, 0, 0]) = true := by kernel_rfl
def F15_x1_0 (h : AHeap) (v1 : Hd) (x2 : Int)  (r : Int × Int) : AS := ⟨[(sv v1), .int .i64 (F16 x2), junk, junk, junk, .int .i64 r.1, .int .i64 r.2, junk, junk, junk, junk, junk, junk, junk, junk, junk, junk, junk, junk, junk, junk, junk, junk, junk, junk, junk, junk, junk, junk, junk, junk, junk, junk, junk, junk, junk, junk, junk, junk, junk, junk, junk, junk, junk, junk, junk, junk, junk, junk, junk, junk, junk, junk, junk, junk, junk, junk, junk, junk, junk, junk, junk, junk, junk, junk, junk, junk, junk, junk, junk, junk, junk, junk, junk, junk, junk, junk, junk, junk, junk, junk, junk, junk, junk, junk, junk], [], h⟩
def F15_x1 (h : AHeap) (v1 : Hd) (x2 : Int) (r : Int × Int) : Exit × AS := ((.exit 0), (F15_x1_0 h v1 x2 r))
set_option maxRecDepth 100000 in
theorem F15_r1 (h : AHeap) (l1 : List (Int × Int)) (v1 : Hd) (hv1 : SlE E24 2 h (sv v1) l1) (x2 : Int) (a5 : Int) (a6 : Int) (a7 : Int) (o : (Int × Int × Int) ⊕ (Int × Int)) : F15_s1 l1 a5 a6 a7 = some o → RdF Try.prog (codeOf Try.prog 15 [1, 1, 1, 0, 1, 0, 1, 1, 1, 0, 0]) (fun (s : Int × Int × Int) => (F15_h1 h l1 v1 x2 s.1 s.2.1 s.2.2)) (F15_x1 h v1 x2) (F15_h1 h l1 v1 x2 a5 a6 a7) o := by
  unfold F15_s1
  refine dec_bif (fun c8 => ?_) (fun c8 => ?_)
  · refine bind_opt fun y9 e9 => ?_
    obtain ⟨id9, off9, g9, cs9, ix9, at9, rfl⟩ := SlE.at hv1 e9
    refine dec_bif (fun c11 => ?_) (fun c11 => ?_)
    · intro hr
      obtain rfl := Option.some.inj hr
      show AWp Try.prog _ (Ends1 .normal (F15_h1 h l1 v1 x2 a5 a6 (IntKind.i64.wrap (a7 + 1)))) _
      exact pEnd_sound good (L := F15_L) (D := F15_D) (its := [.g, (.b true), .g, .g, .g, .g, (.ix id9 off9 g9), (.ld (.agg #[.int .i64 y9.1, .int .i64 y9.2])), (.c (.int .i64 (F34 y9.1 y9.2 0)) h), .g, (.b true), .g, .g]) (ds := F15_m1_0) (ks := []) (e := .normal) (s2 := (F15_h1 h l1 v1 x2 a5 a6 (IntKind.i64.wrap (a7 + 1)))) (hC := (And.intro c11 (And.intro (F34_spec y9.1 y9.2 0 h _ rfl) (And.intro (At.agg (P := Try.prog) (t := 24) (v := .agg #[.int .i64 y9.1, .int .i64 y9.2]) (m := 2) at9 (by kernel_rfl) (by kernel_rfl) 0 (by kernel_rfl) rfl) (And.intro ix9 (And.intro c8 trivial)))))) (hd := F15_d1) (h := by kernel_rfl)
    · refine dec_bif (fun c12 => ?_) (fun c12 => ?_)
      · intro hr
        obtain rfl := Option.some.inj hr
        show AWp Try.prog _ (Ends1 .normal (F15_h1 h l1 v1 x2 (if (F35 y9.1 y9.2) < (F35 y9.1 y9.2) then (F35 y9.1 y9.2) else (F35 y9.1 y9.2)) (F15__1 y9) (IntKind.i64.wrap (a7 + 1)))) _
        exact pEnd_sound good (L := F15_L) (D := F15_D) (its := [.g, (.b true), .g, .g, .g, .g, (.ix id9 off9 g9), (.ld (.agg #[.int .i64 y9.1, .int .i64 y9.2])), (.c (.int .i64 (F34 y9.1 y9.2 0)) h), .g, (.b false), .g, .g, .g, (.b true), .g, .g, (.ix id9 off9 g9), (.ld (.agg #[.int .i64 y9.1, .int .i64 y9.2])), (.c (.int .i64 (F35 y9.1 y9.2)) h), .g, .g, .g, .g, .g, .g, (.ix id9 off9 g9), (.ld (.agg #[.int .i64 y9.1, .int .i64 y9.2])), (.c (.int .i64 (F35 y9.1 y9.2)) h), .g, .g, .g, .g, .g, (.ix id9 off9 g9), (.ld (.agg #[.int .i64 y9.1, .int .i64 y9.2])), .g, .g, (.ix id9 off9 g9), (.ld (.agg #[.int .i64 y9.1, .int .i64 y9.2])), (.c (.int .i64 (F35 y9.1 y9.2)) h), (.c (.int .i64 (F34 y9.1 y9.2 0)) h), .g, .g, .g, .g, .g, .g]) (ds := F15_m1_0) (ks := []) (e := .normal) (s2 := (F15_h1 h l1 v1 x2 (if (F35 y9.1 y9.2) < (F35 y9.1 y9.2) then (F35 y9.1 y9.2) else (F35 y9.1 y9.2)) (F15__1 y9) (IntKind.i64.wrap (a7 + 1)))) (hC := (And.intro (show AKeep h h from (AHeap.sub_refl h)) (And.intro (F34_spec y9.1 y9.2 0 h _ rfl) (And.intro (show AKeep h h from (AHeap.sub_refl h)) (And.intro (F35_spec y9.1 y9.2 h _ rfl) (And.intro (At.agg (P := Try.prog) (t := 24) (v := .agg #[.int .i64 y9.1, .int .i64 y9.2]) (m := 2) at9 (by kernel_rfl) (by kernel_rfl) 0 (by kernel_rfl) rfl) (And.intro ix9 (And.intro (At.agg (P := Try.prog) (t := 24) (v := .agg #[.int .i64 y9.1, .int .i64 y9.2]) (m := 2) at9 (by kernel_rfl) (by kernel_rfl) 0 (by kernel_rfl) rfl) (And.intro ix9 (And.intro (F35_spec y9.1 y9.2 h _ rfl) (And.intro (At.agg (P := Try.prog) (t := 24) (v := .agg #[.int .i64 y9.1, .int .i64 y9.2]) (m := 2) at9 (by kernel_rfl) (by kernel_rfl) 0 (by kernel_rfl) rfl) (And.intro ix9 (And.intro (F35_spec y9.1 y9.2 h _ rfl) (And.intro (At.agg (P := Try.prog) (t := 24) (v := .agg #[.int .i64 y9.1, .int .i64 y9.2]) (m := 2) at9 (by kernel_rfl) (by kernel_rfl) 0 (by kernel_rfl) rfl) (And.intro ix9 (And.intro c12 (And.intro c11 (And.intro (F34_spec y9.1 y9.2 0 h _ rfl) (And.intro (At.agg (P := Try.prog) (t := 24) (v := .agg #[.int .i64 y9.1, .int .i64 y9.2]) (m := 2) at9 (by kernel_rfl) (by kernel_rfl) 0 (by kernel_rfl) rfl) (And.intro ix9 (And.intro c8 trivial))))))))))))))))))))) (hd := F15_d1) (h := by kernel_rfl)
      · intro hr
        obtain rfl := Option.some.inj hr
        show AWp Try.prog _ (Ends1 .normal (F15_h1 h l1 v1 x2 (if (F35 y9.1 y9.2) < a5 then (F35 y9.1 y9.2) else a5) (F15__2 a6 y9) (IntKind.i64.wrap (a7 + 1)))) _
        exact pEnd_sound good (L := F15_L) (D := F15_D) (its := [.g, (.b true), .g, .g, .g, .g, (.ix id9 off9 g9), (.ld (.agg #[.int .i64 y9.1, .int .i64 y9.2])), (.c (.int .i64 (F34 y9.1 y9.2 0)) h), .g, (.b false), .g, .g, .g, (.b false), .g, .g, .g, (.ix id9 off9 g9), (.ld (.agg #[.int .i64 y9.1, .int .i64 y9.2])), (.c (.int .i64 (F35 y9.1 y9.2)) h), .g, .g, .g, .g, .g, (.ix id9 off9 g9), (.ld (.agg #[.int .i64 y9.1, .int .i64 y9.2])), .g, .g, (.ix id9 off9 g9), (.ld (.agg #[.int .i64 y9.1, .int .i64 y9.2])), (.c (.int .i64 (F35 y9.1 y9.2)) h), (.c (.int .i64 (F34 y9.1 y9.2 0)) h), .g, .g, .g, .g, .g, .g]) (ds := F15_m1_0) (ks := []) (e := .normal) (s2 := (F15_h1 h l1 v1 x2 (if (F35 y9.1 y9.2) < a5 then (F35 y9.1 y9.2) else a5) (F15__2 a6 y9) (IntKind.i64.wrap (a7 + 1)))) (hC := (And.intro (show AKeep h h from (AHeap.sub_refl h)) (And.intro (F34_spec y9.1 y9.2 0 h _ rfl) (And.intro (show AKeep h h from (AHeap.sub_refl h)) (And.intro (F35_spec y9.1 y9.2 h _ rfl) (And.intro (At.agg (P := Try.prog) (t := 24) (v := .agg #[.int .i64 y9.1, .int .i64 y9.2]) (m := 2) at9 (by kernel_rfl) (by kernel_rfl) 0 (by kernel_rfl) rfl) (And.intro ix9 (And.intro (At.agg (P := Try.prog) (t := 24) (v := .agg #[.int .i64 y9.1, .int .i64 y9.2]) (m := 2) at9 (by kernel_rfl) (by kernel_rfl) 0 (by kernel_rfl) rfl) (And.intro ix9 (And.intro (F35_spec y9.1 y9.2 h _ rfl) (And.intro (At.agg (P := Try.prog) (t := 24) (v := .agg #[.int .i64 y9.1, .int .i64 y9.2]) (m := 2) at9 (by kernel_rfl) (by kernel_rfl) 0 (by kernel_rfl) rfl) (And.intro ix9 (And.intro c12 (And.intro c11 (And.intro (F34_spec y9.1 y9.2 0 h _ rfl) (And.intro (At.agg (P := Try.prog) (t := 24) (v := .agg #[.int .i64 y9.1, .int .i64 y9.2]) (m := 2) at9 (by kernel_rfl) (by kernel_rfl) 0 (by kernel_rfl) rfl) (And.intro ix9 (And.intro c8 trivial)))))))))))))))))) (hd := F15_d1) (h := by kernel_rfl)
  · intro hr
    obtain rfl := Option.some.inj hr
    show AWp Try.prog _ (Ends1 ((F15_x1 h v1 x2) ((a5, a6) : Int × Int)).1 ((F15_x1 h v1 x2) ((a5, a6) : Int × Int)).2) _
    exact pEnd_sound good (L := F15_L) (D := F15_D) (its := [.g, (.b false)]) (ds := F15_m1_1) (ks := []) (e := ((F15_x1 h v1 x2) ((a5, a6) : Int × Int)).1) (s2 := ((F15_x1 h v1 x2) ((a5, a6) : Int × Int)).2) (hC := (And.intro c8 trivial)) (hd := F15_d1) (h := by kernel_rfl)
theorem F15_l1_0 (h : AHeap) (l1 : List (Int × Int)) (v1 : Hd) (hv1 : SlE E24 2 h (sv v1) l1) (x2 : Int) (x : Int × Int × Int) (r : Int × Int) (hl : loopO (fun (s : Int × Int × Int) => F15_s1 l1 s.1 s.2.1 s.2.2) x = some r) : AWp Try.prog (.loop (codeOf Try.prog 15 [1, 1, 1, 0, 1, 0, 1, 1, 1, 0, 0])) (Ends1 (.exit 0) (F15_x1_0 h v1 x2 r)) ((fun (s : Int × Int × Int) => (F15_h1 h l1 v1 x2 s.1 s.2.1 s.2.2)) x) := by
  have k := loop_fun (P := Try.prog) (c := (codeOf Try.prog 15 [1, 1, 1, 0, 1, 0, 1, 1, 1, 0, 0])) (step := (fun (s : Int × Int × Int) => F15_s1 l1 s.1 s.2.1 s.2.2)) (hd := (fun (s : Int × Int × Int) => (F15_h1 h l1 v1 x2 s.1 s.2.1 s.2.2))) (X := (F15_x1 h v1 x2)) (by intro t; unfold F15_x1; intro h; cases h) (fun x => F15_r1 h l1 v1 hv1 x2 x.1 x.2.1 x.2.2) hl
  exact k
def F15_m2_1 : List Bool := [false, false, true, true, true, true, false, true, false, false, false, true, true, true, true, true, true, true, true, true, true, true, true, true, true, true, true, true, true, true, true, true, true, true, true, true, true, true, true, true, true, true, true, true, true, true, true, true, true, true, true, true, true, true, true, true, true, true, true, true, true, true, true, true, true, true, true, true, true, true, true, true, true, true, true, true, true, true, true, true, true, true, true, true, true, true]
def F15_m2_0 : List Bool := [false, false, true, true, true, true, false, true, false, false, false, true, true, true, true, true, true, true, true, true, true, true, true, true, true, true, true, true, true, true, true, true, true, true, true, true, true, true, true, true, true, true, true, true, true, true, true, true, true, true, true, true, true, true, true, true, true, true, true, true, true, true, true, true, true, true, true, false, false, true, true, true, true, true, true, true, true, true, true, true, true, true, true, true, true, true]
def F15_s2 (l1 : List (Int × Int)) (x2 : Int) (a23 : Int) (a27 : Int) (a28 : Int) : Option ((Int × Int) ⊕ Int) :=
  (bif decide (a28 < (l1.length : Int)) then
   (Option.bind (at? l1 a28) fun y30 =>
   (Option.bind (F36 y30.1 y30.2 (F16 x2) a23) fun y31 =>
   (bif y31 then
    some (.inl ((IntKind.i64.wrap (a27 + 1)), (IntKind.i64.wrap (a28 + 1))))
   else
    some (.inl (a27, (IntKind.i64.wrap (a28 + 1)))))))
  else
   some (.inr a27))
def F15_h2 (l1 : List (Int × Int)) (v1 : Hd) (x2 : Int) (y20 : Int × Int) (a23 : Int) (u24 : Hd) (h25 : AHeap)  (a27 : Int) (a28 : Int) : AS := ⟨[(sv v1), .int .i64 (F16 x2), junk, junk, junk, junk, .int .i64 y20.2, junk, (sv u24), .int .i64 a23, .int .i64 a27, junk, junk, junk, junk, junk, junk, junk, junk, junk, junk, junk, junk, junk, junk, junk, junk, junk, junk, junk, junk, junk, junk, junk, junk, junk, junk, junk, junk, junk, junk, junk, junk, junk, junk, junk, junk, junk, junk, junk, junk, junk, junk, junk, junk, junk, junk, junk, junk, junk, junk, junk, junk, junk, junk, junk, junk, .int .i64 (l1.length : Int), .int .i64 a28, junk, junk, junk, junk, junk, junk, junk, junk, junk, junk, junk, junk, junk, junk, junk, junk, junk], [], h25⟩
theorem F15_d2 : drawsOk F15_D (codeOf Try.prog 15 [1, 1, 1, 1, 1, 0, 1, 0, 0, 1, 0, 0, 1, 0, 1, 0, 0]) = true := by kernel_rfl
def F15_x2_0 (v1 : Hd) (x2 : Int) (y20 : Int × Int) (a23 : Int) (u24 : Hd) (h25 : AHeap)  (r : Int) : AS := ⟨[(sv v1), .int .i64 (F16 x2), junk, junk, junk, junk, .int .i64 y20.2, junk, (sv u24), .int .i64 a23, .int .i64 r, junk, junk, junk, junk, junk, junk, junk, junk, junk, junk, junk, junk, junk, junk, junk, junk, junk, junk, junk, junk, junk, junk, junk, junk, junk, junk, junk, junk, junk, junk, junk, junk, junk, junk, junk, junk, junk, junk, junk, junk, junk, junk, junk, junk, junk, junk, junk, junk, junk, junk, junk, junk, junk, junk, junk, junk, junk, junk, junk, junk, junk, junk, junk, junk, junk, junk, junk, junk, junk, junk, junk, junk, junk, junk, junk], [], h25⟩
def F15_x2 (v1 : Hd) (x2 : Int) (y20 : Int × Int) (a23 : Int) (u24 : Hd) (h25 : AHeap) (r : Int) : Exit × AS := ((.exit 4), (F15_x2_0 v1 x2 y20 a23 u24 h25 r))
set_option maxRecDepth 100000 in
theorem F15_r2 (h : AHeap) (l1 : List (Int × Int)) (v1 : Hd) (hv1 : SlE E24 2 h (sv v1) l1) (x2 : Int) (y20 : Int × Int) (a23 : Int) (l24 : List Int) (u24 : Hd) (h25 : AHeap) (hp25 : Heapy h h25 [⟨u24, 3, 1, List.flatMap enc3 l24⟩]) (a27 : Int) (a28 : Int) (o : (Int × Int) ⊕ Int) : F15_s2 l1 x2 a23 a27 a28 = some o → RdF Try.prog (codeOf Try.prog 15 [1, 1, 1, 1, 1, 0, 1, 0, 0, 1, 0, 0, 1, 0, 1, 0, 0]) (fun (s : Int × Int) => (F15_h2 l1 v1 x2 y20 a23 u24 h25 s.1 s.2)) (F15_x2 v1 x2 y20 a23 u24 h25) (F15_h2 l1 v1 x2 y20 a23 u24 h25 a27 a28) o := by
  unfold F15_s2
  refine dec_bif (fun c29 => ?_) (fun c29 => ?_)
  · refine bind_opt fun y30 e30 => ?_
    obtain ⟨id30, off30, g30, cs30, ix30, at30, rfl⟩ := SlE.at hv1 e30
    refine bind_opt fun y31 e31 => ?_
    refine dec_bif (fun c33 => ?_) (fun c33 => ?_)
    · intro hr
      obtain rfl := Option.some.inj hr
      show AWp Try.prog _ (Ends1 .normal (F15_h2 l1 v1 x2 y20 a23 u24 h25 (IntKind.i64.wrap (a27 + 1)) (IntKind.i64.wrap (a28 + 1)))) _
      exact pEnd_sound good (L := F15_L) (D := F15_D) (its := [.g, (.b true), .g, .g, .g, .g, (.ix id30 off30 g30), (.ld (.agg #[.int .i64 y30.1, .int .i64 y30.2])), .g, .g, (.c (.bool y31) h25), (.b true), .g, .g, .g, .g, .g]) (ds := F15_m2_0) (ks := []) (e := .normal) (s2 := (F15_h2 l1 v1 x2 y20 a23 u24 h25 (IntKind.i64.wrap (a27 + 1)) (IntKind.i64.wrap (a28 + 1)))) (hC := (And.intro c33 (And.intro (F36_spec y30.1 y30.2 (F16 x2) a23 h25 _ e31) (And.intro (At.agg (P := Try.prog) (t := 24) (v := .agg #[.int .i64 y30.1, .int .i64 y30.2]) (m := 2) (At.mono (Heapy.sub hp25) at30) (by kernel_rfl) (by kernel_rfl) 0 (by kernel_rfl) rfl) (And.intro ix30 (And.intro c29 trivial)))))) (hd := F15_d2) (h := by kernel_rfl)
    · intro hr
      obtain rfl := Option.some.inj hr
      show AWp Try.prog _ (Ends1 .normal (F15_h2 l1 v1 x2 y20 a23 u24 h25 a27 (IntKind.i64.wrap (a28 + 1)))) _
      exact pEnd_sound good (L := F15_L) (D := F15_D) (its := [.g, (.b true), .g, .g, .g, .g, (.ix id30 off30 g30), (.ld (.agg #[.int .i64 y30.1, .int .i64 y30.2])), .g, .g, (.c (.bool y31) h25), (.b false), .g, .g]) (ds := F15_m2_0) (ks := []) (e := .normal) (s2 := (F15_h2 l1 v1 x2 y20 a23 u24 h25 a27 (IntKind.i64.wrap (a28 + 1)))) (hC := (And.intro c33 (And.intro (F36_spec y30.1 y30.2 (F16 x2) a23 h25 _ e31) (And.intro (At.agg (P := Try.prog) (t := 24) (v := .agg #[.int .i64 y30.1, .int .i64 y30.2]) (m := 2) (At.mono (Heapy.sub hp25) at30) (by kernel_rfl) (by kernel_rfl) 0 (by kernel_rfl) rfl) (And.intro ix30 (And.intro c29 trivial)))))) (hd := F15_d2) (h := by kernel_rfl)
  · intro hr
    obtain rfl := Option.some.inj hr
    show AWp Try.prog _ (Ends1 ((F15_x2 v1 x2 y20 a23 u24 h25) (a27 : Int)).1 ((F15_x2 v1 x2 y20 a23 u24 h25) (a27 : Int)).2) _
    exact pEnd_sound good (L := F15_L) (D := F15_D) (its := [.g, (.b false)]) (ds := F15_m2_1) (ks := []) (e := ((F15_x2 v1 x2 y20 a23 u24 h25) (a27 : Int)).1) (s2 := ((F15_x2 v1 x2 y20 a23 u24 h25) (a27 : Int)).2) (hC := (And.intro c29 trivial)) (hd := F15_d2) (h := by kernel_rfl)
theorem F15_l2_0 (h : AHeap) (l1 : List (Int × Int)) (v1 : Hd) (hv1 : SlE E24 2 h (sv v1) l1) (x2 : Int) (y20 : Int × Int) (a23 : Int) (l24 : List Int) (u24 : Hd) (h25 : AHeap) (hp25 : Heapy h h25 [⟨u24, 3, 1, List.flatMap enc3 l24⟩]) (x : Int × Int) (r : Int) (hl : loopO (fun (s : Int × Int) => F15_s2 l1 x2 a23 s.1 s.2) x = some r) : AWp Try.prog (.loop (codeOf Try.prog 15 [1, 1, 1, 1, 1, 0, 1, 0, 0, 1, 0, 0, 1, 0, 1, 0, 0])) (Ends1 (.exit 4) (F15_x2_0 v1 x2 y20 a23 u24 h25 r)) ((fun (s : Int × Int) => (F15_h2 l1 v1 x2 y20 a23 u24 h25 s.1 s.2)) x) := by
  have k := loop_fun (P := Try.prog) (c := (codeOf Try.prog 15 [1, 1, 1, 1, 1, 0, 1, 0, 0, 1, 0, 0, 1, 0, 1, 0, 0])) (step := (fun (s : Int × Int) => F15_s2 l1 x2 a23 s.1 s.2)) (hd := (fun (s : Int × Int) => (F15_h2 l1 v1 x2 y20 a23 u24 h25 s.1 s.2))) (X := (F15_x2 v1 x2 y20 a23 u24 h25)) (by intro t; unfold F15_x2; intro h; cases h) (fun x => F15_r2 h l1 v1 hv1 x2 y20 a23 l24 u24 h25 hp25 x.1 x.2) hl
  exact k
def F15_m3_1 : List Bool := [true, true, true, true, true, true, true, true, false, true, true, true, true, true, true, true, true, true, true, true, true, true, true, true, true, true, true, true, true, true, true, true, true, true, true, true, true, true, true, true, true, true, true, true, true, true, true, true, true, true, true, true, true, true, true, true, true, true, true, true, true, true, true, true, true, true, true, true, true, true, true, true, true, true, true, true, true, true, true, true, true, true, true, true, true, true]
def F15_m3_0 : List Bool := [false, false, true, true, true, true, false, true, false, false, true, true, true, true, true, true, true, true, true, true, true, true, true, true, true, true, true, true, true, true, true, true, true, true, true, true, true, true, true, true, true, true, true, true, true, true, true, true, true, true, true, true, true, true, true, true, true, true, true, true, true, true, true, true, true, true, true, true, true, true, true, true, true, true, true, true, true, true, true, true, true, true, true, true, true, true]
def F15_s3 (l1 : List (Int × Int)) (x2 : Int) (y20 : Int × Int) (a23 : Int) (l24 : List Int) : Option ((Int × (List Int)) ⊕ (List Int)) :=
  (bif decide (a23 ≤ y20.2) then
   (Option.bind (loopO (fun (s : Int × Int) => F15_s2 l1 x2 a23 s.1 s.2) (0, 0)) fun y34 =>
   (bif (!(okApp (l24.length + ([y34] : List Int).length) 8)) then none else
   some (.inl ((IntKind.i64.wrap (a23 + 1)), (l24 ++ ([y34] : List Int))))))
  else
   some (.inr l24))
def F15_h3 (v1 : Hd) (x2 : Int) (y20 : Int × Int) (h25 : AHeap) (u24 : Hd) (a23 : Int) (l24 : List Int) : AS := ⟨[(sv v1), .int .i64 (F16 x2), junk, junk, junk, junk, .int .i64 y20.2, junk, (sv u24), .int .i64 a23, junk, junk, junk, junk, junk, junk, junk, junk, junk, junk, junk, junk, junk, junk, junk, junk, junk, junk, junk, junk, junk, junk, junk, junk, junk, junk, junk, junk, junk, junk, junk, junk, junk, junk, junk, junk, junk, junk, junk, junk, junk, junk, junk, junk, junk, junk, junk, junk, junk, junk, junk, junk, junk, junk, junk, junk, junk, junk, junk, junk, junk, junk, junk, junk, junk, junk, junk, junk, junk, junk, junk, junk, junk, junk, junk, junk], [], h25⟩
theorem F15_d3 : drawsOk F15_D (codeOf Try.prog 15 [1, 1, 1, 1, 1, 0, 1, 0, 0]) = true := by kernel_rfl
def F15_x3_0 (h : AHeap) (hx : AHeap) (w0 : Hd) (r : (List Int)) : AS := ⟨[junk, junk, junk, junk, junk, junk, junk, junk, (sv w0), junk, junk, junk, junk, junk, junk, junk, junk, junk, junk, junk, junk, junk, junk, junk, junk, junk, junk, junk, junk, junk, junk, junk, junk, junk, junk, junk, junk, junk, junk, junk, junk, junk, junk, junk, junk, junk, junk, junk, junk, junk, junk, junk, junk, junk, junk, junk, junk, junk, junk, junk, junk, junk, junk, junk, junk, junk, junk, junk, junk, junk, junk, junk, junk, junk, junk, junk, junk, junk, junk, junk, junk, junk, junk, junk, junk, junk], [], hx⟩
def F15_i3 (h : AHeap) (v1 : Hd) (x2 : Int) (y20 : Int × Int) (s : Int × (List Int)) (S : AS) : Prop := ∃ (h25 : AHeap) (u24 : Hd), Heapy h h25 [⟨u24, 3, 1, List.flatMap enc3 s.2⟩] ∧ S = (F15_h3 v1 x2 y20 h25 u24 s.1 s.2)
def F15_x3 (h : AHeap) (r : (List Int)) (e : Exit) (S : AS) : Prop := e = (.exit 2) ∧ ∃ (hx : AHeap) (w0 : Hd), Heapy h hx [⟨w0, 3, 1, List.flatMap enc3 r⟩] ∧ S = (F15_x3_0 h hx w0 r)
set_option maxRecDepth 100000 in
theorem F15_r3 (h : AHeap) (l1 : List (Int × Int)) (v1 : Hd) (hv1 : SlE E24 2 h (sv v1) l1) (x2 : Int) (y20 : Int × Int) (a23 : Int) (l24 : List Int) (S : AS) (hI : (F15_i3 h v1 x2 y20) (a23, l24) S) (o : (Int × (List Int)) ⊕ (List Int)) : F15_s3 l1 x2 y20 a23 l24 = some o → Rd Try.prog (codeOf Try.prog 15 [1, 1, 1, 1, 1, 0, 1, 0, 0]) (F15_i3 h v1 x2 y20) (F15_x3 h) S o := by
  obtain ⟨h25, u24, hp25, rfl⟩ := hI
  unfold F15_s3
  refine dec_bif (fun c26 => ?_) (fun c26 => ?_)
  · refine bind_opt fun y34 e34 => ?_
    obtain ⟨v35, h35, m35, hp35, _⟩ := Heapy.build (P := Try.prog) hp25 (t := 31) (e := 3) (len := 1) (n := 1) (parts := [(0, .int .i64 y34)]) (cells := List.flatMap enc3 ([y34] : List Int)) (by kernel_rfl) rfl
    refine guard_ok fun g37 => ?_
    obtain ⟨v38, h38, m38, q38, _⟩ := Heapy.append hp35 (show mkInfo Try.prog 31 = some (3, 1, 8, [.int .i64 0]) by kernel_rfl) 1 (v := u24) (cells := List.flatMap enc3 l24) rfl (Y := (sv v35)) (SlE.src (enc := enc3) (c := 1) (Heapy.sle (v := v35) (xs := ([y34] : List Int)) (enc := enc3) hp35 0 rfl (fun _ => rfl) (by decide)) (fun _ => rfl)) (flatMap_length (enc := enc3) (c := 1) (fun _ => rfl) _) (by rw [Heapy.vn (v := u24) (xs := l24) (enc := enc3) hp35 1 rfl (fun _ => rfl) (by decide)]; simpa using g37)
    have hp38 : Heapy h h38 [⟨v35, 3, 1, List.flatMap enc3 ([y34] : List Int)⟩, ⟨v38, 3, 1, List.flatMap enc3 (l24 ++ ([y34] : List Int))⟩] := by rw [← List.flatMap_append] at q38; exact q38
    intro hr
    obtain rfl := Option.some.inj hr
    exact ⟨(F15_h3 v1 x2 y20 h38 v38 (IntKind.i64.wrap (a23 + 1)) (l24 ++ ([y34] : List Int))), ⟨h38, v38, (Heapy.pick hp38 [1] (by decide)), rfl⟩, pEnd_sound good (L := F15_L) (D := F15_D) (its := [.g, .g, .g, (.b true), .g, .g, (.ln l1.length), .g, (.l F15_m2_0 [] (.exit 4) (F15_x2_0 v1 x2 y20 a23 u24 h25 y34)), .g, .g, (.mm (sv v35) h35), (.mm (sv v38) h38), .g, .g, .g, .g]) (ds := F15_m3_0) (ks := []) (e := .normal) (s2 := (F15_h3 v1 x2 y20 h38 v38 (IntKind.i64.wrap (a23 + 1)) (l24 ++ ([y34] : List Int)))) (hC := (And.intro m38 (And.intro m35 (And.intro (F15_l2_0 h l1 v1 hv1 x2 y20 a23 l24 u24 h25 hp25 (0, 0) y34 e34) (And.intro (SlE.len hv1) (And.intro c26 trivial)))))) (hd := F15_d3) (h := by kernel_rfl)⟩
  · intro hr
    obtain rfl := Option.some.inj hr
    refine ⟨(.exit 2), (F15_x3_0 h h25 u24 (l24 : (List Int))), (by intro hh; cases hh), ?_, pEnd_sound good (L := F15_L) (D := F15_D) (its := [.g, .g, .g, (.b false)]) (ds := F15_m3_1) (ks := []) (e := (.exit 2)) (s2 := (F15_x3_0 h h25 u24 (l24 : (List Int)))) (hC := (And.intro c26 trivial)) (hd := F15_d3) (h := by kernel_rfl)⟩
    exact ⟨rfl, h25, u24, (Heapy.pick hp25 [0] (by decide)), rfl⟩
theorem F15_l3 (h : AHeap) (l1 : List (Int × Int)) (v1 : Hd) (hv1 : SlE E24 2 h (sv v1) l1) (x2 : Int) (y20 : Int × Int) (x : Int × (List Int)) (r : (List Int)) (hl : loopO (fun (s : Int × (List Int)) => F15_s3 l1 x2 y20 s.1 s.2) x = some r) (S : AS) (hI : (F15_i3 h v1 x2 y20) x S) : ∃ e S', (F15_x3 h) r e S' ∧ AWp Try.prog (.loop (codeOf Try.prog 15 [1, 1, 1, 1, 1, 0, 1, 0, 0])) (Ends1 e S') S :=
  loop_rel (fun x S hI => F15_r3 h l1 v1 hv1 x2 y20 x.1 x.2 S hI) hl hI
def F15_m4_1 : List Bool := [false, false, true, true, true, true, false, true, false, false, false, true, true, true, true, true, true, true, true, true, true, true, true, true, true, true, true, true, true, true, true, true, true, true, true, true, true, true, true, true, true, true, true, true, true, true, true, true, true, true, true, true, true, true, true, true, true, true, true, true, true, true, true, true, true, true, true, true, true, true, true, true, true, true, true, true, true, true, true, true, true, true, true, true, true, true]
def F15_m4_0 : List Bool := [false, false, true, true, true, true, false, true, false, false, false, true, true, true, true, true, true, true, true, true, true, true, true, true, true, true, true, true, true, true, true, true, true, true, true, true, true, true, true, true, true, true, true, true, true, true, true, true, true, true, true, true, true, true, true, true, true, true, true, true, true, true, true, true, true, true, true, false, false, true, true, true, true, true, true, true, true, true, true, true, true, true, true, true, true, true]
def F15_s4 (l1 : List (Int × Int)) (x2 : Int) (a44 : Int) (a48 : Int) (a49 : Int) : Option ((Int × Int) ⊕ Int) :=
  (bif decide (a49 < (l1.length : Int)) then
   (Option.bind (at? l1 a49) fun y51 =>
   (Option.bind (F36 y51.1 y51.2 (F16 x2) a44) fun y52 =>
   (bif y52 then
    some (.inl ((IntKind.i64.wrap (a48 + 1)), (IntKind.i64.wrap (a49 + 1))))
   else
    some (.inl (a48, (IntKind.i64.wrap (a49 + 1)))))))
  else
   some (.inr a48))
def F15_h4 (l1 : List (Int × Int)) (v1 : Hd) (x2 : Int) (a44 : Int) (u45 : Hd) (h46 : AHeap)  (a48 : Int) (a49 : Int) : AS := ⟨[(sv v1), .int .i64 (F16 x2), junk, junk, junk, junk, .int .i64 (IntKind.i64.wrap ((F16 x2) - 1)), junk, (sv u45), .int .i64 a44, .int .i64 a48, junk, junk, junk, junk, junk, junk, junk, junk, junk, junk, junk, junk, junk, junk, junk, junk, junk, junk, junk, junk, junk, junk, junk, junk, junk, junk, junk, junk, junk, junk, junk, junk, junk, junk, junk, junk, junk, junk, junk, junk, junk, junk, junk, junk, junk, junk, junk, junk, junk, junk, junk, junk, junk, junk, junk, junk, .int .i64 (l1.length : Int), .int .i64 a49, junk, junk, junk, junk, junk, junk, junk, junk, junk, junk, junk, junk, junk, junk, junk, junk, junk], [], h46⟩
theorem F15_d4 : drawsOk F15_D (codeOf Try.prog 15 [1, 1, 1, 1, 1, 0, 1, 0, 0, 1, 0, 0, 1, 0, 1, 0, 0]) = true := by kernel_rfl
def F15_x4_0 (v1 : Hd) (x2 : Int) (a44 : Int) (u45 : Hd) (h46 : AHeap)  (r : Int) : AS := ⟨[(sv v1), .int .i64 (F16 x2), junk, junk, junk, junk, .int .i64 (IntKind.i64.wrap ((F16 x2) - 1)), junk, (sv u45), .int .i64 a44, .int .i64 r, junk, junk, junk, junk, junk, junk, junk, junk, junk, junk, junk, junk, junk, junk, junk, junk, junk, junk, junk, junk, junk, junk, junk, junk, junk, junk, junk, junk, junk, junk, junk, junk, junk, junk, junk, junk, junk, junk, junk, junk, junk, junk, junk, junk, junk, junk, junk, junk, junk, junk, junk, junk, junk, junk, junk, junk, junk, junk, junk, junk, junk, junk, junk, junk, junk, junk, junk, junk, junk, junk, junk, junk, junk, junk, junk], [], h46⟩
def F15_x4 (v1 : Hd) (x2 : Int) (a44 : Int) (u45 : Hd) (h46 : AHeap) (r : Int) : Exit × AS := ((.exit 4), (F15_x4_0 v1 x2 a44 u45 h46 r))
set_option maxRecDepth 100000 in
theorem F15_r4 (h : AHeap) (l1 : List (Int × Int)) (v1 : Hd) (hv1 : SlE E24 2 h (sv v1) l1) (x2 : Int) (a44 : Int) (l45 : List Int) (u45 : Hd) (h46 : AHeap) (hp46 : Heapy h h46 [⟨u45, 3, 1, List.flatMap enc3 l45⟩]) (a48 : Int) (a49 : Int) (o : (Int × Int) ⊕ Int) : F15_s4 l1 x2 a44 a48 a49 = some o → RdF Try.prog (codeOf Try.prog 15 [1, 1, 1, 1, 1, 0, 1, 0, 0, 1, 0, 0, 1, 0, 1, 0, 0]) (fun (s : Int × Int) => (F15_h4 l1 v1 x2 a44 u45 h46 s.1 s.2)) (F15_x4 v1 x2 a44 u45 h46) (F15_h4 l1 v1 x2 a44 u45 h46 a48 a49) o := by
  unfold F15_s4
  refine dec_bif (fun c50 => ?_) (fun c50 => ?_)
  · refine bind_opt fun y51 e51 => ?_
    obtain ⟨id51, off51, g51, cs51, ix51, at51, rfl⟩ := SlE.at hv1 e51
    refine bind_opt fun y52 e52 => ?_
    refine dec_bif (fun c54 => ?_) (fun c54 => ?_)
    · intro hr
      obtain rfl := Option.some.inj hr
      show AWp Try.prog _ (Ends1 .normal (F15_h4 l1 v1 x2 a44 u45 h46 (IntKind.i64.wrap (a48 + 1)) (IntKind.i64.wrap (a49 + 1)))) _
      exact pEnd_sound good (L := F15_L) (D := F15_D) (its := [.g, (.b true), .g, .g, .g, .g, (.ix id51 off51 g51), (.ld (.agg #[.int .i64 y51.1, .int .i64 y51.2])), .g, .g, (.c (.bool y52) h46), (.b true), .g, .g, .g, .g, .g]) (ds := F15_m4_0) (ks := []) (e := .normal) (s2 := (F15_h4 l1 v1 x2 a44 u45 h46 (IntKind.i64.wrap (a48 + 1)) (IntKind.i64.wrap (a49 + 1)))) (hC := (And.intro c54 (And.intro (F36_spec y51.1 y51.2 (F16 x2) a44 h46 _ e52) (And.intro (At.agg (P := Try.prog) (t := 24) (v := .agg #[.int .i64 y51.1, .int .i64 y51.2]) (m := 2) (At.mono (Heapy.sub hp46) at51) (by kernel_rfl) (by kernel_rfl) 0 (by kernel_rfl) rfl) (And.intro ix51 (And.intro c50 trivial)))))) (hd := F15_d4) (h := by kernel_rfl)
    · intro hr
      obtain rfl := Option.some.inj hr
      show AWp Try.prog _ (Ends1 .normal (F15_h4 l1 v1 x2 a44 u45 h46 a48 (IntKind.i64.wrap (a49 + 1)))) _
      exact pEnd_sound good (L := F15_L) (D := F15_D) (its := [.g, (.b true), .g, .g, .g, .g, (.ix id51 off51 g51), (.ld (.agg #[.int .i64 y51.1, .int .i64 y51.2])), .g, .g, (.c (.bool y52) h46), (.b false), .g, .g]) (ds := F15_m4_0) (ks := []) (e := .normal) (s2 := (F15_h4 l1 v1 x2 a44 u45 h46 a48 (IntKind.i64.wrap (a49 + 1)))) (hC := (And.intro c54 (And.intro (F36_spec y51.1 y51.2 (F16 x2) a44 h46 _ e52) (And.intro (At.agg (P := Try.prog) (t := 24) (v := .agg #[.int .i64 y51.1, .int .i64 y51.2]) (m := 2) (At.mono (Heapy.sub hp46) at51) (by kernel_rfl) (by kernel_rfl) 0 (by kernel_rfl) rfl) (And.intro ix51 (And.intro c50 trivial)))))) (hd := F15_d4) (h := by kernel_rfl)
  · intro hr
    obtain rfl := Option.some.inj hr
    show AWp Try.prog _ (Ends1 ((F15_x4 v1 x2 a44 u45 h46) (a48 : Int)).1 ((F15_x4 v1 x2 a44 u45 h46) (a48 : Int)).2) _
    exact pEnd_sound good (L := F15_L) (D := F15_D) (its := [.g, (.b false)]) (ds := F15_m4_1) (ks := []) (e := ((F15_x4 v1 x2 a44 u45 h46) (a48 : Int)).1) (s2 := ((F15_x4 v1 x2 a44 u45 h46) (a48 : Int)).2) (hC := (And.intro c50 trivial)) (hd := F15_d4) (h := by kernel_rfl)
theorem F15_l4_0 (h : AHeap) (l1 : List (Int × Int)) (v1 : Hd) (hv1 : SlE E24 2 h (sv v1) l1) (x2 : Int) (a44 : Int) (l45 : List Int) (u45 : Hd) (h46 : AHeap) (hp46 : Heapy h h46 [⟨u45, 3, 1, List.flatMap enc3 l45⟩]) (x : Int × Int) (r : Int) (hl : loopO (fun (s : Int × Int) => F15_s4 l1 x2 a44 s.1 s.2) x = some r) : AWp Try.prog (.loop (codeOf Try.prog 15 [1, 1, 1, 1, 1, 0, 1, 0, 0, 1, 0, 0, 1, 0, 1, 0, 0])) (Ends1 (.exit 4) (F15_x4_0 v1 x2 a44 u45 h46 r)) ((fun (s : Int × Int) => (F15_h4 l1 v1 x2 a44 u45 h46 s.1 s.2)) x) := by
  have k := loop_fun (P := Try.prog) (c := (codeOf Try.prog 15 [1, 1, 1, 1, 1, 0, 1, 0, 0, 1, 0, 0, 1, 0, 1, 0, 0])) (step := (fun (s : Int × Int) => F15_s4 l1 x2 a44 s.1 s.2)) (hd := (fun (s : Int × Int) => (F15_h4 l1 v1 x2 a44 u45 h46 s.1 s.2))) (X := (F15_x4 v1 x2 a44 u45 h46)) (by intro t; unfold F15_x4; intro h; cases h) (fun x => F15_r4 h l1 v1 hv1 x2 a44 l45 u45 h46 hp46 x.1 x.2) hl
  exact k
def F15_m5_1 : List Bool := [true, true, true, true, true, true, true, true, false, true, true, true, true, true, true, true, true, true, true, true, true, true, true, true, true, true, true, true, true, true, true, true, true, true, true, true, true, true, true, true, true, true, true, true, true, true, true, true, true, true, true, true, true, true, true, true, true, true, true, true, true, true, true, true, true, true, true, true, true, true, true, true, true, true, true, true, true, true, true, true, true, true, true, true, true, true]
def F15_m5_0 : List Bool := [false, false, true, true, true, true, false, true, false, false, true, true, true, true, true, true, true, true, true, true, true, true, true, true, true, true, true, true, true, true, true, true, true, true, true, true, true, true, true, true, true, true, true, true, true, true, true, true, true, true, true, true, true, true, true, true, true, true, true, true, true, true, true, true, true, true, true, true, true, true, true, true, true, true, true, true, true, true, true, true, true, true, true, true, true, true]
def F15_s5 (l1 : List (Int × Int)) (x2 : Int) (a44 : Int) (l45 : List Int) : Option ((Int × (List Int)) ⊕ (List Int)) :=
  (bif decide (a44 ≤ (IntKind.i64.wrap ((F16 x2) - 1))) then
   (Option.bind (loopO (fun (s : Int × Int) => F15_s4 l1 x2 a44 s.1 s.2) (0, 0)) fun y55 =>
   (bif (!(okApp (l45.length + ([y55] : List Int).length) 8)) then none else
   some (.inl ((IntKind.i64.wrap (a44 + 1)), (l45 ++ ([y55] : List Int))))))
  else
   some (.inr l45))
def F15_h5 (v1 : Hd) (x2 : Int) (h46 : AHeap) (u45 : Hd) (a44 : Int) (l45 : List Int) : AS := ⟨[(sv v1), .int .i64 (F16 x2), junk, junk, junk, junk, .int .i64 (IntKind.i64.wrap ((F16 x2) - 1)), junk, (sv u45), .int .i64 a44, junk, junk, junk, junk, junk, junk, junk, junk, junk, junk, junk, junk, junk, junk, junk, junk, junk, junk, junk, junk, junk, junk, junk, junk, junk, junk, junk, junk, junk, junk, junk, junk, junk, junk, junk, junk, junk, junk, junk, junk, junk, junk, junk, junk, junk, junk, junk, junk, junk, junk, junk, junk, junk, junk, junk, junk, junk, junk, junk, junk, junk, junk, junk, junk, junk, junk, junk, junk, junk, junk, junk, junk, junk, junk, junk, junk], [], h46⟩
theorem F15_d5 : drawsOk F15_D (codeOf Try.prog 15 [1, 1, 1, 1, 1, 0, 1, 0, 0]) = true := by kernel_rfl
def F15_x5_0 (h : AHeap) (hx : AHeap) (w0 : Hd) (r : (List Int)) : AS := ⟨[junk, junk, junk, junk, junk, junk, junk, junk, (sv w0), junk, junk, junk, junk, junk, junk, junk, junk, junk, junk, junk, junk, junk, junk, junk, junk, junk, junk, junk, junk, junk, junk, junk, junk, junk, junk, junk, junk, junk, junk, junk, junk, junk, junk, junk, junk, junk, junk, junk, junk, junk, junk, junk, junk, junk, junk, junk, junk, junk, junk, junk, junk, junk, junk, junk, junk, junk, junk, junk, junk, junk, junk, junk, junk, junk, junk, junk, junk, junk, junk, junk, junk, junk, junk, junk, junk, junk], [], hx⟩
def F15_i5 (h : AHeap) (v1 : Hd) (x2 : Int) (s : Int × (List Int)) (S : AS) : Prop := ∃ (h46 : AHeap) (u45 : Hd), Heapy h h46 [⟨u45, 3, 1, List.flatMap enc3 s.2⟩] ∧ S = (F15_h5 v1 x2 h46 u45 s.1 s.2)
def F15_x5 (h : AHeap) (r : (List Int)) (e : Exit) (S : AS) : Prop := e = (.exit 2) ∧ ∃ (hx : AHeap) (w0 : Hd), Heapy h hx [⟨w0, 3, 1, List.flatMap enc3 r⟩] ∧ S = (F15_x5_0 h hx w0 r)
set_option maxRecDepth 100000 in
theorem F15_r5 (h : AHeap) (l1 : List (Int × Int)) (v1 : Hd) (hv1 : SlE E24 2 h (sv v1) l1) (x2 : Int) (a44 : Int) (l45 : List Int) (S : AS) (hI : (F15_i5 h v1 x2) (a44, l45) S) (o : (Int × (List Int)) ⊕ (List Int)) : F15_s5 l1 x2 a44 l45 = some o → Rd Try.prog (codeOf Try.prog 15 [1, 1, 1, 1, 1, 0, 1, 0, 0]) (F15_i5 h v1 x2) (F15_x5 h) S o := by
  obtain ⟨h46, u45, hp46, rfl⟩ := hI
  unfold F15_s5
  refine dec_bif (fun c47 => ?_) (fun c47 => ?_)
  · refine bind_opt fun y55 e55 => ?_
    obtain ⟨v56, h56, m56, hp56, _⟩ := Heapy.build (P := Try.prog) hp46 (t := 31) (e := 3) (len := 1) (n := 1) (parts := [(0, .int .i64 y55)]) (cells := List.flatMap enc3 ([y55] : List Int)) (by kernel_rfl) rfl
    refine guard_ok fun g58 => ?_
    obtain ⟨v59, h59, m59, q59, _⟩ := Heapy.append hp56 (show mkInfo Try.prog 31 = some (3, 1, 8, [.int .i64 0]) by kernel_rfl) 1 (v := u45) (cells := List.flatMap enc3 l45) rfl (Y := (sv v56)) (SlE.src (enc := enc3) (c := 1) (Heapy.sle (v := v56) (xs := ([y55] : List Int)) (enc := enc3) hp56 0 rfl (fun _ => rfl) (by decide)) (fun _ => rfl)) (flatMap_length (enc := enc3) (c := 1) (fun _ => rfl) _) (by rw [Heapy.vn (v := u45) (xs := l45) (enc := enc3) hp56 1 rfl (fun _ => rfl) (by decide)]; simpa using g58)
    have hp59 : Heapy h h59 [⟨v56, 3, 1, List.flatMap enc3 ([y55] : List Int)⟩, ⟨v59, 3, 1, List.flatMap enc3 (l45 ++ ([y55] : List Int))⟩] := by rw [← List.flatMap_append] at q59; exact q59
    intro hr
    obtain rfl := Option.some.inj hr
    exact ⟨(F15_h5 v1 x2 h59 v59 (IntKind.i64.wrap (a44 + 1)) (l45 ++ ([y55] : List Int))), ⟨h59, v59, (Heapy.pick hp59 [1] (by decide)), rfl⟩, pEnd_sound good (L := F15_L) (D := F15_D) (its := [.g, .g, .g, (.b true), .g, .g, (.ln l1.length), .g, (.l F15_m4_0 [] (.exit 4) (F15_x4_0 v1 x2 a44 u45 h46 y55)), .g, .g, (.mm (sv v56) h56), (.mm (sv v59) h59), .g, .g, .g, .g]) (ds := F15_m5_0) (ks := []) (e := .normal) (s2 := (F15_h5 v1 x2 h59 v59 (IntKind.i64.wrap (a44 + 1)) (l45 ++ ([y55] : List Int)))) (hC := (And.intro m59 (And.intro m56 (And.intro (F15_l4_0 h l1 v1 hv1 x2 a44 l45 u45 h46 hp46 (0, 0) y55 e55) (And.intro (SlE.len hv1) (And.intro c47 trivial)))))) (hd := F15_d5) (h := by kernel_rfl)⟩
  · intro hr
    obtain rfl := Option.some.inj hr
    refine ⟨(.exit 2), (F15_x5_0 h h46 u45 (l45 : (List Int))), (by intro hh; cases hh), ?_, pEnd_sound good (L := F15_L) (D := F15_D) (its := [.g, .g, .g, (.b false)]) (ds := F15_m5_1) (ks := []) (e := (.exit 2)) (s2 := (F15_x5_0 h h46 u45 (l45 : (List Int)))) (hC := (And.intro c47 trivial)) (hd := F15_d5) (h := by kernel_rfl)⟩
    exact ⟨rfl, h46, u45, (Heapy.pick hp46 [0] (by decide)), rfl⟩
theorem F15_l5 (h : AHeap) (l1 : List (Int × Int)) (v1 : Hd) (hv1 : SlE E24 2 h (sv v1) l1) (x2 : Int) (x : Int × (List Int)) (r : (List Int)) (hl : loopO (fun (s : Int × (List Int)) => F15_s5 l1 x2 s.1 s.2) x = some r) (S : AS) (hI : (F15_i5 h v1 x2) x S) : ∃ e S', (F15_x5 h) r e S' ∧ AWp Try.prog (.loop (codeOf Try.prog 15 [1, 1, 1, 1, 1, 0, 1, 0, 0])) (Ends1 e S') S :=
  loop_rel (fun x S hI => F15_r5 h l1 v1 hv1 x2 x.1 x.2 S hI) hl hI
def F15 (l1 : List (Int × Int)) (x2 : Int) : Option ((List Int)) :=
  (bif ((F16 x2) == 0) then
   (Option.bind (loopO (fun (s : Int × Int × Int) => F15_s1 l1 s.1 s.2.1 s.2.2) (1, 0, 0)) fun y20 =>
   (Option.bind (loopO (fun (s : Int × (List Int)) => F15_s3 l1 x2 y20 s.1 s.2) (y20.1, ([] : List Int))) fun y40 =>
   some (y40)))
  else
   (Option.bind (loopO (fun (s : Int × (List Int)) => F15_s5 l1 x2 s.1 s.2) (0, ([] : List Int))) fun y61 =>
   some (y61)))
set_option maxRecDepth 100000 in
theorem F15_spec (l1 : List (Int × Int)) (x2 : Int) (v1 : Hd) (h : AHeap) (hw : h.wf) (hv1 : SlE E24 2 h (sv v1) l1) (r : (List Int)) : F15 l1 x2 = some r → ∃ (ur0 : Hd) (h' : AHeap), Heapy h h' [⟨ur0, 3, 1, List.flatMap enc3 r⟩] ∧ ACalls Try.prog 15 [(sv v1), .int .i64 x2] h (fun v' h'' => v' = ((sv ur0) : Value) ∧ h'' = h') := by
  unfold F15
  refine dec_bif (fun c4 => ?_) (fun c4 => ?_)
  · refine bind_opt fun y20 e20 => ?_
    refine bind_opt fun y40 e40 => ?_
    have hp21 : Heapy h h [⟨⟨none, 0, 0⟩, 3, 1, List.flatMap enc3 ([] : List Int)⟩] := Heapy.nil (Heapy.refl hw) 3 1
    obtain ⟨ee40, SS40, hX40, hA40⟩ := F15_l3 h l1 v1 hv1 x2 y20 (y20.1, ([] : List Int)) y40 e40 (F15_h3 v1 x2 y20 h ⟨none, 0, 0⟩ y20.1 ([] : List Int)) ⟨h, ⟨none, 0, 0⟩, (Heapy.pick hp21 [0] (by decide)), rfl⟩
    obtain ⟨rfl, h41, w0_41, hp41, rfl⟩ := hX40
    intro hr
    obtain rfl := Option.some.inj hr
    exact ⟨w0_41, h41, Heapy.pick hp41 [0] (by decide), pFun_sound good tab_ok (f := 15) (its := [.g, .g, (.c (.int .i64 (F16 x2)) h), .g, .g, .g, .g, .g, .g, .g, (.b true), .g, .g, .g, (.ln l1.length), .g, (.l F15_m1_0 [] (.exit 0) (F15_x1_0 h v1 x2 y20)), .g, .g, .g, (.l F15_m3_0 [] (.exit 2) (F15_x3_0 h h41 w0_41 y40)), .g, .g]) (args := [(sv v1), .int .i64 x2]) (h := h) (h' := h41) (v := (sv w0_41)) (hC := (And.intro hA40 (And.intro (F15_l1_0 h l1 v1 hv1 x2 (1, 0, 0) y20 e20) (And.intro (SlE.len hv1) (And.intro c4 (And.intro (F16_spec x2 h _ rfl) trivial)))))) (hr := by kernel_rfl)⟩
  · refine bind_opt fun y61 e61 => ?_
    have hp42 : Heapy h h [⟨⟨none, 0, 0⟩, 3, 1, List.flatMap enc3 ([] : List Int)⟩] := Heapy.nil (Heapy.refl hw) 3 1
    obtain ⟨ee61, SS61, hX61, hA61⟩ := F15_l5 h l1 v1 hv1 x2 (0, ([] : List Int)) y61 e61 (F15_h5 v1 x2 h ⟨none, 0, 0⟩ 0 ([] : List Int)) ⟨h, ⟨none, 0, 0⟩, (Heapy.pick hp42 [0] (by decide)), rfl⟩
    obtain ⟨rfl, h62, w0_62, hp62, rfl⟩ := hX61
    intro hr
    obtain rfl := Option.some.inj hr
    exact ⟨w0_62, h62, Heapy.pick hp62 [0] (by decide), pFun_sound good tab_ok (f := 15) (its := [.g, .g, (.c (.int .i64 (F16 x2)) h), .g, .g, .g, .g, .g, .g, .g, (.b false), .g, .g, .g, (.l F15_m5_0 [] (.exit 2) (F15_x5_0 h h62 w0_62 y61)), .g, .g]) (args := [(sv v1), .int .i64 x2]) (h := h) (h' := h62) (v := (sv w0_62)) (hC := (And.intro hA61 (And.intro c4 (And.intro (F16_spec x2 h _ rfl) trivial)))) (hr := by kernel_rfl)⟩
/-! 5 jacquard/jacquardlaw38.ColorLoads -/
def F5_L : List Nat := []
def F5_D : List (Nat × List (Nat × Nat)) := [(9, [(0, 2), (1, 2), (2, 2), (3, 2), (4, 2), (5, 2), (6, 2), (7, 2), (8, 2)])]
def F5_m1_2 : List Bool := [true, true, true, true, true, true, true, true, true, true, true, true, true, true, true, true, true, true, true, true, true, true, true, true, true, true, true, true, true, true, true, true, true, true, true, true, true, true, true, true, true, true, true]
def F5_m1_1 : List Bool := [true, true, true, true, true, false, false, true, true, true, true, true, true, true, true, true, true, true, true, true, true, true, true, true, true, true, true, true, true, false, false, true, true, true, true, true, true, true, true, true, true, true, true]
def F5_m1_0 : List Bool := [true, true, true, true, false, true, true, true, true, true, true, true, true, true, true, true, true, true, true, true, true, true, true, true, true, true, true, true, true, true, true, true, true, true, true, true, true, true, true, true, true, true, true]
def F5_s1 (y8 : (List Int)) (y11 : (List Int)) (a15 : Int) : Option (Int ⊕ Nat) :=
  (bif decide (a15 < (y8.length : Int)) then
   (Option.bind (at? y8 a15) fun y17 =>
   (Option.bind (at? y11 a15) fun y18 =>
   (bif (y17 != y18) then
    some (.inr 0)
   else
    some (.inl (IntKind.i64.wrap (a15 + 1))))))
  else
   some (.inr 1))
def F5_h1 (y8 : (List Int)) (u9_0 : Hd) (u12_0 : Hd) (h12 : AHeap)  (a15 : Int) : AS := ⟨[junk, junk, junk, junk, junk, (sv u9_0), (sv u12_0), junk, junk, junk, junk, junk, junk, junk, junk, junk, junk, junk, junk, junk, junk, junk, junk, junk, junk, junk, junk, junk, junk, .int .i64 (y8.length : Int), .int .i64 a15, junk, junk, junk, junk, junk, junk, junk, junk, junk, junk, junk, junk], [], h12⟩
theorem F5_d1 : drawsOk F5_D (codeOf Try.prog 5 [1, 1, 1, 1, 0, 1, 0, 0]) = true := by kernel_rfl
def F5_x1_0 (h12 : AHeap)  (r : Nat) : AS := ⟨[junk, junk, junk, junk, .bool false, junk, junk, junk, junk, junk, junk, junk, junk, junk, junk, junk, junk, junk, junk, junk, junk, junk, junk, junk, junk, junk, junk, junk, junk, junk, junk, junk, junk, junk, junk, junk, junk, junk, junk, junk, junk, junk, junk], [], h12⟩
def F5_x1_1 (h12 : AHeap)  (r : Nat) : AS := ⟨[junk, junk, junk, junk, junk, junk, junk, junk, junk, junk, junk, junk, junk, junk, junk, junk, junk, junk, junk, junk, junk, junk, junk, junk, junk, junk, junk, junk, junk, junk, junk, junk, junk, junk, junk, junk, junk, junk, junk, junk, junk, junk, junk], [], h12⟩
def F5_x1 (h12 : AHeap) (r : Nat) : Exit × AS := (bif Nat.beq r 0 then (.ret, (F5_x1_0 h12 r)) else ((.exit 0), (F5_x1_1 h12 r)))
set_option maxRecDepth 100000 in
theorem F5_r1 (h : AHeap) (y8 : (List Int)) (u9_0 : Hd) (y11 : (List Int)) (u12_0 : Hd) (h12 : AHeap) (hp12 : Heapy h h12 [⟨u12_0, 3, 1, List.flatMap enc3 y11⟩, ⟨u9_0, 3, 1, List.flatMap enc3 y8⟩]) (a15 : Int) (o : Int ⊕ Nat) : F5_s1 y8 y11 a15 = some o → RdF Try.prog (codeOf Try.prog 5 [1, 1, 1, 1, 0, 1, 0, 0]) (fun (s : Int) => (F5_h1 y8 u9_0 u12_0 h12 s)) (F5_x1 h12) (F5_h1 y8 u9_0 u12_0 h12 a15) o := by
  unfold F5_s1
  refine dec_bif (fun c16 => ?_) (fun c16 => ?_)
  · refine bind_opt fun y17 e17 => ?_
    obtain ⟨id17, off17, g17, cs17, ix17, at17, rfl⟩ := SlE.at (Heapy.sle (v := u9_0) (xs := y8) (enc := enc3) hp12 1 rfl (fun _ => rfl) (by decide)) e17
    refine bind_opt fun y18 e18 => ?_
    obtain ⟨id18, off18, g18, cs18, ix18, at18, rfl⟩ := SlE.at (Heapy.sle (v := u12_0) (xs := y11) (enc := enc3) hp12 0 rfl (fun _ => rfl) (by decide)) e18
    refine dec_bif (fun c19 => ?_) (fun c19 => ?_)
    · intro hr
      obtain rfl := Option.some.inj hr
      show AWp Try.prog _ (Ends1 ((F5_x1 h12) (0 : Nat)).1 ((F5_x1 h12) (0 : Nat)).2) _
      exact pEnd_sound good (L := F5_L) (D := F5_D) (its := [.g, (.b true), .g, .g, .g, .g, (.ix id17 off17 g17), (.ld (.int .i64 y17)), .g, .g, (.ix id18 off18 g18), (.ld (.int .i64 y18)), .g, (.b true), .g]) (ds := F5_m1_0) (ks := []) (e := ((F5_x1 h12) (0 : Nat)).1) (s2 := ((F5_x1 h12) (0 : Nat)).2) (hC := (And.intro c19 (And.intro (At.one (P := Try.prog) (t := 3) (v := .int .i64 y18) at18 (by kernel_rfl) 0 rfl rfl) (And.intro ix18 (And.intro (At.one (P := Try.prog) (t := 3) (v := .int .i64 y17) at17 (by kernel_rfl) 0 rfl rfl) (And.intro ix17 (And.intro c16 trivial))))))) (hd := F5_d1) (h := by kernel_rfl)
    · intro hr
      obtain rfl := Option.some.inj hr
      show AWp Try.prog _ (Ends1 .normal (F5_h1 y8 u9_0 u12_0 h12 (IntKind.i64.wrap (a15 + 1)))) _
      exact pEnd_sound good (L := F5_L) (D := F5_D) (its := [.g, (.b true), .g, .g, .g, .g, (.ix id17 off17 g17), (.ld (.int .i64 y17)), .g, .g, (.ix id18 off18 g18), (.ld (.int .i64 y18)), .g, (.b false), .g, .g]) (ds := F5_m1_1) (ks := []) (e := .normal) (s2 := (F5_h1 y8 u9_0 u12_0 h12 (IntKind.i64.wrap (a15 + 1)))) (hC := (And.intro c19 (And.intro (At.one (P := Try.prog) (t := 3) (v := .int .i64 y18) at18 (by kernel_rfl) 0 rfl rfl) (And.intro ix18 (And.intro (At.one (P := Try.prog) (t := 3) (v := .int .i64 y17) at17 (by kernel_rfl) 0 rfl rfl) (And.intro ix17 (And.intro c16 trivial))))))) (hd := F5_d1) (h := by kernel_rfl)
  · intro hr
    obtain rfl := Option.some.inj hr
    show AWp Try.prog _ (Ends1 ((F5_x1 h12) (1 : Nat)).1 ((F5_x1 h12) (1 : Nat)).2) _
    exact pEnd_sound good (L := F5_L) (D := F5_D) (its := [.g, (.b false)]) (ds := F5_m1_2) (ks := []) (e := ((F5_x1 h12) (1 : Nat)).1) (s2 := ((F5_x1 h12) (1 : Nat)).2) (hC := (And.intro c16 trivial)) (hd := F5_d1) (h := by kernel_rfl)
theorem F5_l1_0 (h : AHeap) (y8 : (List Int)) (u9_0 : Hd) (y11 : (List Int)) (u12_0 : Hd) (h12 : AHeap) (hp12 : Heapy h h12 [⟨u12_0, 3, 1, List.flatMap enc3 y11⟩, ⟨u9_0, 3, 1, List.flatMap enc3 y8⟩]) (x : Int) (r : Nat) (hl : loopO (fun (s : Int) => F5_s1 y8 y11 s) x = some r) (q0 : Nat.beq r 0 = true) : AWp Try.prog (.loop (codeOf Try.prog 5 [1, 1, 1, 1, 0, 1, 0, 0])) (Ends1 .ret (F5_x1_0 h12 r)) ((fun (s : Int) => (F5_h1 y8 u9_0 u12_0 h12 s)) x) := by
  have k := loop_fun (P := Try.prog) (c := (codeOf Try.prog 5 [1, 1, 1, 1, 0, 1, 0, 0])) (step := (fun (s : Int) => F5_s1 y8 y11 s)) (hd := (fun (s : Int) => (F5_h1 y8 u9_0 u12_0 h12 s))) (X := (F5_x1 h12)) (by intro t; unfold F5_x1; cases Nat.beq t 0 <;> (intro h; cases h)) (fun x => F5_r1 h y8 u9_0 y11 u12_0 h12 hp12 x) hl
  simp only [F5_x1, q0, cond_true, cond_false] at k
  exact k
theorem F5_l1_1 (h : AHeap) (y8 : (List Int)) (u9_0 : Hd) (y11 : (List Int)) (u12_0 : Hd) (h12 : AHeap) (hp12 : Heapy h h12 [⟨u12_0, 3, 1, List.flatMap enc3 y11⟩, ⟨u9_0, 3, 1, List.flatMap enc3 y8⟩]) (x : Int) (r : Nat) (hl : loopO (fun (s : Int) => F5_s1 y8 y11 s) x = some r) (q0 : Nat.beq r 0 = false) : AWp Try.prog (.loop (codeOf Try.prog 5 [1, 1, 1, 1, 0, 1, 0, 0])) (Ends1 (.exit 0) (F5_x1_1 h12 r)) ((fun (s : Int) => (F5_h1 y8 u9_0 u12_0 h12 s)) x) := by
  have k := loop_fun (P := Try.prog) (c := (codeOf Try.prog 5 [1, 1, 1, 1, 0, 1, 0, 0])) (step := (fun (s : Int) => F5_s1 y8 y11 s)) (hd := (fun (s : Int) => (F5_h1 y8 u9_0 u12_0 h12 s))) (X := (F5_x1 h12)) (by intro t; unfold F5_x1; cases Nat.beq t 0 <;> (intro h; cases h)) (fun x => F5_r1 h y8 u9_0 y11 u12_0 h12 hp12 x) hl
  simp only [F5_x1, q0, cond_true, cond_false] at k
  exact k
def F5 (l1 : List (Int × Int)) (x2 : Int) : Option (Bool) :=
  (Option.bind (F10 l1 x2) fun y4 =>
  (bif (!y4) then
   some (true)
  else
   (Option.bind (F14 l1 x2) fun y8 =>
   (Option.bind (F15 l1 x2) fun y11 =>
   (bif ((y8.length : Int) != (y11.length : Int)) then
    some (false)
   else
    (Option.bind (loopO (fun (s : Int) => F5_s1 y8 y11 s) 0) fun y20 =>
    (bif (Nat.beq y20 0) then
     some (false)
    else
     some (true))))))))
set_option maxRecDepth 100000 in
theorem F5_spec (l1 : List (Int × Int)) (x2 : Int) (v1 : Hd) (h : AHeap) (hw : h.wf) (hv1 : SlE E24 2 h (sv v1) l1) (r : Bool) : F5 l1 x2 = some r → ∃ (h' : AHeap), Heapy h h' [] ∧ ACalls Try.prog 5 [(sv v1), .int .i64 x2] h (fun v' h'' => v' = (.bool r : Value) ∧ h'' = h') := by
  unfold F5
  refine bind_opt fun y4 e4 => ?_
  refine dec_bif (fun c6 => ?_) (fun c6 => ?_)
  · intro hr
    obtain rfl := Option.some.inj hr
    exact ⟨h, Heapy.pick (Heapy.refl hw) [] (by decide), pFun_sound good tab_ok (f := 5) (its := [.g, (.c (.bool true) h), .g, .g, (.w .g), (.w .g), (.w (.c (.bool y4) h)), (.w .g), .g, (.b true), (.c (.bool true) h), .g]) (args := [(sv v1), .int .i64 x2]) (h := h) (h' := h) (v := .bool true) (hC := (And.intro (F9_spec h _ rfl) (And.intro c6 (And.intro (g_ff l_f) (And.intro (F10_spec l1 x2 v1 h hv1 _ e4) (And.intro (g_ff l_f) (And.intro (g_ff l_f) (And.intro (g_ff l_f) (And.intro (F9_spec h _ rfl) trivial))))))))) (hr := by kernel_rfl)⟩
  · refine bind_opt fun y8 e8 => ?_
    obtain ⟨u9_0, h9, q9, c9⟩ := F14_spec l1 x2 v1 h hw hv1 _ e8
    have hp9 : Heapy h h9 [⟨u9_0, 3, 1, List.flatMap enc3 y8⟩] := Heapy.call (Heapy.refl hw) q9
    refine bind_opt fun y11 e11 => ?_
    obtain ⟨u12_0, h12, q12, c12⟩ := F15_spec l1 x2 v1 h9 (Heapy.wf hp9) (SlE.mono hv1 (Heapy.sub hp9) (E24_mono (Heapy.sub hp9))) _ e11
    have hp12 : Heapy h h12 [⟨u12_0, 3, 1, List.flatMap enc3 y11⟩, ⟨u9_0, 3, 1, List.flatMap enc3 y8⟩] := Heapy.call hp9 q12
    refine dec_bif (fun c14 => ?_) (fun c14 => ?_)
    · intro hr
      obtain rfl := Option.some.inj hr
      exact ⟨h12, Heapy.pick hp12 [] (by decide), pFun_sound good tab_ok (f := 5) (its := [.g, (.c (.bool true) h), .g, .g, (.w .g), (.w .g), (.w (.c (.bool y4) h)), (.w .g), .g, (.b false), .g, .g, (.c ((sv u9_0)) h9), .g, .g, (.c ((sv u12_0)) h12), .g, .g, .g, (.ln y8.length), .g, (.ln y11.length), .g, (.b true), .g]) (args := [(sv v1), .int .i64 x2]) (h := h) (h' := h12) (v := .bool false) (hC := (And.intro c14 (And.intro (SlE.len (Heapy.sle (v := u12_0) (xs := y11) (enc := enc3) hp12 0 rfl (fun _ => rfl) (by decide))) (And.intro (SlE.len (Heapy.sle (v := u9_0) (xs := y8) (enc := enc3) hp12 1 rfl (fun _ => rfl) (by decide))) (And.intro c12 (And.intro c9 (And.intro c6 (And.intro (g_ff l_f) (And.intro (F10_spec l1 x2 v1 h hv1 _ e4) (And.intro (g_ff l_f) (And.intro (g_ff l_f) (And.intro (g_ff l_f) (And.intro (F9_spec h _ rfl) trivial))))))))))))) (hr := by kernel_rfl)⟩
    · refine bind_opt fun y20 e20 => ?_
      refine dec_bif (fun c21 => ?_) (fun c21 => ?_)
      · intro hr
        obtain rfl := Option.some.inj hr
        exact ⟨h12, Heapy.pick hp12 [] (by decide), pFun_sound good tab_ok (f := 5) (its := [.g, (.c (.bool true) h), .g, .g, (.w .g), (.w .g), (.w (.c (.bool y4) h)), (.w .g), .g, (.b false), .g, .g, (.c ((sv u9_0)) h9), .g, .g, (.c ((sv u12_0)) h12), .g, .g, .g, (.ln y8.length), .g, (.ln y11.length), .g, (.b false), .g, (.ln y8.length), .g, (.l F5_m1_1 [] .ret (F5_x1_0 h12 y20))]) (args := [(sv v1), .int .i64 x2]) (h := h) (h' := h12) (v := .bool false) (hC := (And.intro (F5_l1_0 h y8 u9_0 y11 u12_0 h12 hp12 0 y20 e20 c21) (And.intro (SlE.len (Heapy.sle (v := u9_0) (xs := y8) (enc := enc3) hp12 1 rfl (fun _ => rfl) (by decide))) (And.intro c14 (And.intro (SlE.len (Heapy.sle (v := u12_0) (xs := y11) (enc := enc3) hp12 0 rfl (fun _ => rfl) (by decide))) (And.intro (SlE.len (Heapy.sle (v := u9_0) (xs := y8) (enc := enc3) hp12 1 rfl (fun _ => rfl) (by decide))) (And.intro c12 (And.intro c9 (And.intro c6 (And.intro (g_ff l_f) (And.intro (F10_spec l1 x2 v1 h hv1 _ e4) (And.intro (g_ff l_f) (And.intro (g_ff l_f) (And.intro (g_ff l_f) (And.intro (F9_spec h _ rfl) trivial))))))))))))))) (hr := by kernel_rfl)⟩
      · intro hr
        obtain rfl := Option.some.inj hr
        exact ⟨h12, Heapy.pick hp12 [] (by decide), pFun_sound good tab_ok (f := 5) (its := [.g, (.c (.bool true) h), .g, .g, (.w .g), (.w .g), (.w (.c (.bool y4) h)), (.w .g), .g, (.b false), .g, .g, (.c ((sv u9_0)) h9), .g, .g, (.c ((sv u12_0)) h12), .g, .g, .g, (.ln y8.length), .g, (.ln y11.length), .g, (.b false), .g, (.ln y8.length), .g, (.l F5_m1_1 [] (.exit 0) (F5_x1_1 h12 y20)), .g]) (args := [(sv v1), .int .i64 x2]) (h := h) (h' := h12) (v := .bool true) (hC := (And.intro (F5_l1_1 h y8 u9_0 y11 u12_0 h12 hp12 0 y20 e20 c21) (And.intro (SlE.len (Heapy.sle (v := u9_0) (xs := y8) (enc := enc3) hp12 1 rfl (fun _ => rfl) (by decide))) (And.intro c14 (And.intro (SlE.len (Heapy.sle (v := u12_0) (xs := y11) (enc := enc3) hp12 0 rfl (fun _ => rfl) (by decide))) (And.intro (SlE.len (Heapy.sle (v := u9_0) (xs := y8) (enc := enc3) hp12 1 rfl (fun _ => rfl) (by decide))) (And.intro c12 (And.intro c9 (And.intro c6 (And.intro (g_ff l_f) (And.intro (F10_spec l1 x2 v1 h hv1 _ e4) (And.intro (g_ff l_f) (And.intro (g_ff l_f) (And.intro (g_ff l_f) (And.intro (F9_spec h _ rfl) trivial))))))))))))))) (hr := by kernel_rfl)⟩
set_option maxRecDepth 100000 in
theorem F5_law (H : ∀ (l1 : List (Int × Int)) (x2 : Int), (l1.length ≤ maxLen ∧ l1.length * 16 ≤ reachBytes) → (∀ y ∈ l1, W24 y) → (Lit.int .i64 x2).wf = true → F5 l1 x2 = some true) : Law Try.prog 5 10 [22, 3] := by
  intro s us hwf hro hT0
  obtain ⟨u0, vs0, rfl, t0, hT1⟩ := wts_cons hT0
  have k0 := wtv_oneS 3 (ks := [.slice 24]) (by kernel_rfl) (by kernel_rfl) t0
  obtain ⟨v1, r_l1, e_l1, q_l1, k0_0⟩ := sq_slice k0
  obtain ⟨l1, a_l1, m_l1, w_l1⟩ := q_l1 E24 W24 2 (by kernel_rfl) fun n cs H => E24_wt H
  obtain ⟨rfl, rfl⟩ := List.cons.inj e_l1
  have k0_0' := sq_nil k0_0
  obtain ⟨u1, vs1, rfl, t1, hT2⟩ := wts_cons hT1
  have k1 := wtv_oneS 1 (ks := [.int .i64]) (by kernel_rfl) (by kernel_rfl) t1
  obtain ⟨x2, r_x2, e_x2, w_x2, k1_0⟩ := sq_int k1
  obtain ⟨rfl, rfl⟩ := List.cons.inj e_x2
  have k1_0' := sq_nil k1_0
  obtain rfl := wts_nil hT2
  obtain ⟨h2, _, hc⟩ := F5_spec l1 x2 v1 s hwf a_l1 _ (H l1 x2 m_l1 w_l1 w_x2)
  refine (hc).mono ?_
  rintro v h' ⟨rfl, rfl⟩
  rfl
end
end Go.Proofs.Ytdoafmfkbddmlac.Abs
