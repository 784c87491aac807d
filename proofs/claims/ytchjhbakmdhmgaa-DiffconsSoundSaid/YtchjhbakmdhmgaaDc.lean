/-
  Contracts, written by program: for each function what its call yields, and that it yields it.
-/
import Derived.Test.YtchjhbakmdhmgaaVw
import Derived.Test.YtchjhbakmdhmgaaChecked
namespace Go.Proofs.Ytchjhbakmdhmgaa.Abs
open Go
set_option linter.unusedVariables false
set_option linter.unusedSimpArgs false

theorem good : Good Try.prog := good_of Try.checked.mixed (by kernel_rfl)
noncomputable section
def tabC : List FEnt := [
  { f := 9, L := [], D := [] },
  { f := 11, L := [], D := [] },
  { f := 15, L := [], D := [] },
  { f := 18, L := [2], D := [(1, [(0, 2), (1, 2), (3, 2), (4, 2), (5, 2), (6, 2), (7, 3), (2, 0), (8, 0), (9, 2), (10, 2), (11, 2)])] },
  { f := 32, L := [], D := [] },
  { f := 33, L := [11], D := [(8, [(0, 2), (1, 2), (3, 2), (5, 2), (6, 2), (8, 2), (2, 3), (4, 3), (7, 0), (9, 2), (10, 0), (11, 0), (12, 2)]), (5, [(0, 2), (1, 2), (3, 2), (5, 2), (6, 2), (8, 2), (2, 3), (4, 3), (7, 0), (9, 2), (10, 0), (11, 0), (12, 2)])] },
  { f := 34, L := [], D := [] },
  { f := 35, L := [9], D := [(14, [(0, 2), (1, 2), (2, 2), (3, 2), (4, 2), (5, 2), (6, 2), (7, 2), (8, 2)])] },
  { f := 36, L := [], D := [(3, [(0, 2), (1, 2), (2, 2), (3, 2), (4, 2), (5, 2), (6, 2), (7, 2), (8, 2), (9, 2), (10, 2), (11, 2), (12, 2), (13, 0), (14, 2), (15, 0)])] },
  { f := 37, L := [], D := [] },
  { f := 38, L := [3], D := [] },
  { f := 54, L := [9], D := [] }]

theorem tabC_ok : tabOk Try.prog tabC = true := by kernel_rfl
theorem F9_run : rIs (rCall 2000 Try.prog tabC 40 9 [] AHeap.none) true = true := by kernel_rfl
theorem F9_spec0 (h : AHeap) : ACalls Try.prog 9 [] h (fun v' h'' => v' = (.bool true : Value) ∧ h'' = h) := acalls_run good 2000 40 tabC tabC_ok F9_run rfl h
def F9 : Unit := ()
theorem F9_spec (h : AHeap) (r : Unit) (_ : F9 = r) : ACalls Try.prog 9 [] h (fun v' h'' => v' = (.bool true : Value) ∧ h'' = h) := F9_spec0 h
def tab : List FEnt := [
  { f := 6, L := [3], D := [(6, [(0, 2), (1, 2), (2, 2), (3, 2), (4, 2), (5, 2), (6, 2), (8, 2), (10, 2), (13, 2), (9, 3), (11, 2), (14, 3), (12, 5), (7, 1), (15, 1), (16, 2)]), (11, [(0, 2), (1, 2), (2, 2), (3, 2), (4, 2), (5, 2), (6, 2), (7, 2), (8, 2), (9, 2), (10, 2), (11, 2), (12, 2), (13, 2), (14, 2), (15, 2), (17, 2), (19, 2), (21, 2), (23, 2), (18, 3), (20, 3), (22, 3), (16, 1), (24, 1), (25, 2), (26, 2), (27, 2)])] },
  { f := 7, L := [3], D := [] },
  { f := 10, L := [1], D := [] },
  { f := 18, L := [2], D := [(1, [(0, 2), (1, 2), (3, 2), (4, 2), (5, 2), (6, 2), (7, 3), (2, 1), (8, 1), (9, 2), (10, 2), (11, 2)])] },
  { f := 19, L := [2], D := [] },
  { f := 20, L := [], D := [(9, [(0, 2), (1, 2), (2, 2), (3, 2), (4, 2), (5, 2), (6, 2), (7, 2), (8, 2), (9, 2), (10, 2), (11, 2), (12, 2), (13, 2), (14, 2), (15, 2), (16, 2), (17, 2), (18, 2), (19, 2), (20, 2), (21, 2), (22, 2), (23, 2), (24, 1), (25, 2), (26, 2), (27, 2), (28, 2), (29, 2), (30, 2), (31, 2), (32, 2), (33, 2), (34, 2), (35, 2), (36, 2), (37, 2), (38, 2), (39, 2), (40, 2), (41, 2), (42, 2), (43, 2), (44, 2), (45, 2), (46, 2), (47, 0), (48, 2)])] },
  { f := 21, L := [], D := [(13, [(0, 2), (1, 2), (2, 2), (3, 2), (4, 2), (5, 2), (6, 2), (7, 2), (8, 2), (9, 2), (10, 2), (11, 2), (12, 2), (13, 2)]), (18, [(0, 2), (1, 2), (2, 2), (3, 2), (4, 2), (5, 2), (6, 2), (7, 2), (8, 2), (9, 2), (10, 2), (11, 2), (12, 2), (13, 2), (14, 2), (15, 2), (16, 2)])] },
  { f := 22, L := [11], D := [(6, [(0, 2), (1, 2), (2, 1), (3, 2), (4, 2), (5, 2), (6, 2), (8, 2), (9, 2), (14, 2), (10, 3), (13, 3), (7, 1), (11, 1), (12, 2), (15, 1), (16, 2), (17, 2)])] },
  { f := 23, L := [], D := [(4, [(0, 2), (1, 2), (2, 2), (3, 2), (4, 2), (5, 1), (6, 2), (7, 2), (8, 2), (9, 2), (10, 2), (11, 2), (12, 2), (14, 2), (15, 2), (16, 2), (17, 2), (18, 2), (22, 2), (23, 2), (24, 2), (26, 2), (19, 5), (25, 5), (13, 1), (20, 1), (21, 2), (27, 1), (28, 2), (29, 2)])] },
  { f := 29, L := [], D := [] },
  { f := 32, L := [], D := [] },
  { f := 37, L := [], D := [] },
  { f := 38, L := [3], D := [] },
  { f := 39, L := [3], D := [(1, [(0, 2), (1, 2), (2, 2), (3, 2), (4, 2), (6, 2), (5, 3), (7, 1), (8, 2), (9, 2), (10, 2), (11, 2), (12, 2), (13, 2), (14, 2), (15, 2), (16, 2), (18, 2), (17, 3), (19, 1), (20, 2), (21, 2), (22, 2)])] },
  { f := 40, L := [], D := [] },
  { f := 41, L := [], D := [] }]

theorem tab_ok : tabOk Try.prog tab = true := by kernel_rfl
/-! 29 jacquard/jacquardref30.Nodes -/
def F29 (x1 : Int) : Int :=
  (if 8192 < (if 0 > x1 then 0 else x1) then 8192 else (if 0 > x1 then 0 else x1))
set_option maxRecDepth 100000 in
theorem F29_spec (x1 : Int) (h : AHeap)  (r : Int) : F29 x1 = r → ACalls Try.prog 29 [.int .i64 x1] h (fun v' h'' => v' = (.int .i64 r : Value) ∧ h'' = h) := by
  unfold F29
  intro hr
  subst hr
  exact pFun_sound good tab_ok (f := 29) (its := [.g, .g, .g, .g, .g]) (args := [.int .i64 x1]) (h := h) (h' := h) (v := .int .i64 (if 8192 < (if 0 > x1 then 0 else x1) then 8192 else (if 0 > x1 then 0 else x1))) (hC := trivial) (hr := by kernel_rfl)
def enc38 (x : Int × Int × Int × Int) : List Value := [.int .i64 x.1, .int .i64 x.2.1, .int .i64 x.2.2.1, .int .i64 x.2.2.2]
def E38 (h : AHeap) (cs : List Value) (x : Int × Int × Int × Int) : Prop := cs = enc38 x
theorem E38_mono {h h' : AHeap} (le : h.sub h') (cs : List Value) (x : Int × Int × Int × Int) (H : E38 h cs x) : E38 h' cs x := H
def W38 (x : Int × Int × Int × Int) : Prop := (Lit.int .i64 x.1).wf = true ∧ (Lit.int .i64 x.2.1).wf = true ∧ (Lit.int .i64 x.2.2.1).wf = true ∧ (Lit.int .i64 x.2.2.2).wf = true ∧ True
set_option maxRecDepth 100000 in
theorem E38_wt {h : AHeap} {n : Nat} {cs : List Value} (H : WT Try.prog h n 38 cs) : ∃ x, E38 h cs x ∧ W38 x := by
  have k : SQ Try.prog h [.int .i64, .int .i64, .int .i64, .int .i64] cs := wt_flatS 2 n (by kernel_rfl) H
  obtain ⟨x0, r0, rfl, w0, k0⟩ := sq_int k
  obtain ⟨x1, r1, rfl, w1, k1⟩ := sq_int k0
  obtain ⟨x2, r2, rfl, w2, k2⟩ := sq_int k1
  obtain ⟨x3, r3, rfl, w3, k3⟩ := sq_int k2
  obtain rfl := sq_nil k3
  exact ⟨(x0, x1, x2, x3), rfl, ⟨w0, w1, w2, w3, trivial⟩⟩
/-! 10 jacquard/jacquardlaw30.few -/
def F10 (x1 : Int) (l2 : List (Int × Int × Int × Int)) (x3 : Int) : Bool :=
  (bif decide ((F29 x1) ≤ 20) then
   (decide ((l2.length : Int) ≤ 60))
  else
   false)
set_option maxRecDepth 100000 in
theorem F10_spec (x1 : Int) (l2 : List (Int × Int × Int × Int)) (x3 : Int) (v2 : Hd) (h : AHeap) (hv2 : SlE E38 4 h (sv v2) l2) (r : Bool) : F10 x1 l2 x3 = r → ACalls Try.prog 10 [.agg #[.int .i64 x1, (sv v2), .int .i64 x3]] h (fun v' h'' => v' = (.bool r : Value) ∧ h'' = h) := by
  unfold F10
  refine dec_bif (fun c5 => ?_) (fun c5 => ?_)
  · intro hr
    subst hr
    exact pFun_sound good tab_ok (f := 10) (its := [.g, .g, .g, .g, (.c (.int .i64 (F29 x1)) h), .g, .g, (.w .g), (.w .g), (.w (.ln l2.length)), (.w .g), (.p true), .g]) (args := [.agg #[.int .i64 x1, (sv v2), .int .i64 x3]]) (h := h) (h' := h) (v := .bool (decide ((l2.length : Int) ≤ 60))) (hC := (And.intro c5 (And.intro (g_tt c5) (And.intro (SlE.len hv2) (And.intro (g_tt c5) (And.intro (g_tt c5) (And.intro (g_tt c5) (And.intro (F29_spec x1 h _ rfl) trivial)))))))) (hr := by kernel_rfl)
  · intro hr
    subst hr
    exact pFun_sound good tab_ok (f := 10) (its := [.g, .g, .g, .g, (.c (.int .i64 (F29 x1)) h), .g, .g, .n, .n, .n, .n, (.p false), .g]) (args := [.agg #[.int .i64 x1, (sv v2), .int .i64 x3]]) (h := h) (h' := h) (v := .bool false) (hC := (And.intro c5 (And.intro (g_ft c5) (And.intro (g_ft c5) (And.intro (g_ft c5) (And.intro (g_ft c5) (And.intro (F29_spec x1 h _ rfl) trivial))))))) (hr := by kernel_rfl)
/-! 37 jacquard/diffcons.limit -/
def F37__1 (x1 : Int) (x2 : Int) : Int := (if x2 < (if (IntKind.i64.wrap (0 - x2)) > x1 then (IntKind.i64.wrap (0 - x2)) else x1) then x2 else (if (IntKind.i64.wrap (0 - x2)) > x1 then (IntKind.i64.wrap (0 - x2)) else x1))
def F37 (x1 : Int) (x2 : Int) : Int :=
  (F37__1 x1 x2)
set_option maxRecDepth 100000 in
theorem F37_spec (x1 : Int) (x2 : Int) (h : AHeap)  (r : Int) : F37 x1 x2 = r → ACalls Try.prog 37 [.int .i64 x1, .int .i64 x2] h (fun v' h'' => v' = (.int .i64 r : Value) ∧ h'' = h) := by
  unfold F37
  intro hr
  subst hr
  exact pFun_sound good tab_ok (f := 37) (its := [.g, .g, .g, .g, .g, .g, .g, .g]) (args := [.int .i64 x1, .int .i64 x2]) (h := h) (h' := h) (v := .int .i64 (F37__1 x1 x2)) (hC := trivial) (hr := by kernel_rfl)
/-! 18 jacquard/diffcons.Weight -/
def F18__1 (x4 : Int) (x5 : Int) : Int := (IntKind.i64.wrap ((if 256 < (if 0 > x5 then 0 else x5) then 256 else (if 0 > x5 then 0 else x5)) * (F37 x4 1048576)))
def F18 (x1 : Int) (x2 : Int) (x3 : Int) (x4 : Int) (x5 : Int) : Int :=
  (IntKind.i64.wrap ((F37 x3 1048576) - (F18__1 x4 x5)))
set_option maxRecDepth 100000 in
theorem F18_spec (x1 : Int) (x2 : Int) (x3 : Int) (x4 : Int) (x5 : Int) (h : AHeap)  (r : Int) : F18 x1 x2 x3 x4 x5 = r → ACalls Try.prog 18 [.agg #[.int .i64 x1, .int .i64 x2, .int .i64 x3, .int .i64 x4], .int .i64 x5] h (fun v' h'' => v' = (.int .i64 r : Value) ∧ h'' = h) := by
  unfold F18
  intro hr
  subst hr
  exact pFun_sound good tab_ok (f := 18) (its := [.g, .g, .g, .g, .g, .g, .g, .g, .g, (.c (.int .i64 (F37 x3 1048576)) h), (.c (.int .i64 (F37 x4 1048576)) h), .g, .g, .g]) (args := [.agg #[.int .i64 x1, .int .i64 x2, .int .i64 x3, .int .i64 x4], .int .i64 x5]) (h := h) (h' := h) (v := .int .i64 (IntKind.i64.wrap ((F37 x3 1048576) - (F18__1 x4 x5)))) (hC := (And.intro (show AKeep h h from (AHeap.sub_refl h)) (And.intro (F37_spec x4 1048576 h _ rfl) (And.intro (show AKeep h h from (AHeap.sub_refl h)) (And.intro (F37_spec x3 1048576 h _ rfl) trivial))))) (hr := by kernel_rfl)
/-! 19 jacquard/jacquardref30.Weight -/
def F19__1 (x3 : Int) : Int := (if 1048576 < (if (-1048576) > x3 then (-1048576) else x3) then 1048576 else (if (-1048576) > x3 then (-1048576) else x3))
def F19__2 (x4 : Int) : Int := (if 1048576 < (if (-1048576) > x4 then (-1048576) else x4) then 1048576 else (if (-1048576) > x4 then (-1048576) else x4))
def F19__3 (x4 : Int) (x5 : Int) : Int := (IntKind.i64.wrap ((if 256 < (if 0 > x5 then 0 else x5) then 256 else (if 0 > x5 then 0 else x5)) * (F19__2 x4)))
def F19 (x1 : Int) (x2 : Int) (x3 : Int) (x4 : Int) (x5 : Int) : Int :=
  (IntKind.i64.wrap ((F19__1 x3) - (F19__3 x4 x5)))
set_option maxRecDepth 100000 in
theorem F19_spec (x1 : Int) (x2 : Int) (x3 : Int) (x4 : Int) (x5 : Int) (h : AHeap)  (r : Int) : F19 x1 x2 x3 x4 x5 = r → ACalls Try.prog 19 [.agg #[.int .i64 x1, .int .i64 x2, .int .i64 x3, .int .i64 x4], .int .i64 x5] h (fun v' h'' => v' = (.int .i64 r : Value) ∧ h'' = h) := by
  unfold F19
  intro hr
  subst hr
  exact pFun_sound good tab_ok (f := 19) (its := [.g, .g, .g, .g, .g, .g, .g, .g, .g, .g, .g, .g, .g, .g, .g, .g, .g, .g, .g, .g, .g, .g, .g]) (args := [.agg #[.int .i64 x1, .int .i64 x2, .int .i64 x3, .int .i64 x4], .int .i64 x5]) (h := h) (h' := h) (v := .int .i64 (IntKind.i64.wrap ((F19__1 x3) - (F19__3 x4 x5)))) (hC := trivial) (hr := by kernel_rfl)
/-! 32 jacquard/diffcons.size -/
def F32 (x1 : Int) : Int :=
  (if 8192 < (if 0 > x1 then 0 else x1) then 8192 else (if 0 > x1 then 0 else x1))
set_option maxRecDepth 100000 in
theorem F32_spec (x1 : Int) (h : AHeap)  (r : Int) : F32 x1 = r → ACalls Try.prog 32 [.int .i64 x1] h (fun v' h'' => v' = (.int .i64 r : Value) ∧ h'' = h) := by
  unfold F32
  intro hr
  subst hr
  exact pFun_sound good tab_ok (f := 32) (its := [.g, .g, .g, .g, .g]) (args := [.int .i64 x1]) (h := h) (h' := h) (v := .int .i64 (if 8192 < (if 0 > x1 then 0 else x1) then 8192 else (if 0 > x1 then 0 else x1))) (hC := trivial) (hr := by kernel_rfl)
/-! 38 jacquard/diffcons.counts -/
def F38 (x1 : Int) (x2 : Int) (x3 : Int) (x4 : Int) (x5 : Int) : Bool :=
  (bif decide (x2 ≥ 0) then
   (bif decide (x2 < x1) then
    (bif decide (x3 ≥ 0) then
     (decide (x3 < x1))
    else
     false)
   else
    false)
  else
   false)
set_option maxRecDepth 100000 in
theorem F38_spec (x1 : Int) (x2 : Int) (x3 : Int) (x4 : Int) (x5 : Int) (h : AHeap)  (r : Bool) : F38 x1 x2 x3 x4 x5 = r → ACalls Try.prog 38 [.int .i64 x1, .agg #[.int .i64 x2, .int .i64 x3, .int .i64 x4, .int .i64 x5]] h (fun v' h'' => v' = (.bool r : Value) ∧ h'' = h) := by
  unfold F38
  refine dec_bif (fun c6 => ?_) (fun c6 => ?_)
  · refine dec_bif (fun c7 => ?_) (fun c7 => ?_)
    · refine dec_bif (fun c8 => ?_) (fun c8 => ?_)
      · intro hr
        subst hr
        exact pFun_sound good tab_ok (f := 38) (its := [.g, .g, .g, .g, .g, .g, (.w .g), (.w .g), (.w .g), (.w .g), (.p true), .g, (.w .g), (.w .g), (.w .g), (.p true), .g, (.w .g), (.w .g), (.w .g), (.w .g), (.p true), .g]) (args := [.int .i64 x1, .agg #[.int .i64 x2, .int .i64 x3, .int .i64 x4, .int .i64 x5]]) (h := h) (h' := h) (v := .bool (decide (x3 < x1))) (hC := (And.intro c8 (And.intro (g_tt c8) (And.intro (g_tt c8) (And.intro (g_tt c8) (And.intro (g_tt c8) (And.intro c7 (And.intro (g_tt c7) (And.intro (g_tt c7) (And.intro (g_tt c7) (And.intro c6 (And.intro (g_tt c6) (And.intro (g_tt c6) (And.intro (g_tt c6) (And.intro (g_tt c6) trivial))))))))))))))) (hr := by kernel_rfl)
      · intro hr
        subst hr
        exact pFun_sound good tab_ok (f := 38) (its := [.g, .g, .g, .g, .g, .g, (.w .g), (.w .g), (.w .g), (.w .g), (.p true), .g, (.w .g), (.w .g), (.w .g), (.p true), .g, .n, .n, .n, .n, (.p false), .g]) (args := [.int .i64 x1, .agg #[.int .i64 x2, .int .i64 x3, .int .i64 x4, .int .i64 x5]]) (h := h) (h' := h) (v := .bool false) (hC := (And.intro c8 (And.intro (g_ft c8) (And.intro (g_ft c8) (And.intro (g_ft c8) (And.intro (g_ft c8) (And.intro c7 (And.intro (g_tt c7) (And.intro (g_tt c7) (And.intro (g_tt c7) (And.intro c6 (And.intro (g_tt c6) (And.intro (g_tt c6) (And.intro (g_tt c6) (And.intro (g_tt c6) trivial))))))))))))))) (hr := by kernel_rfl)
    · intro hr
      subst hr
      exact pFun_sound good tab_ok (f := 38) (its := [.g, .g, .g, .g, .g, .g, (.w .g), (.w .g), (.w .g), (.w .g), (.p true), .g, .n, .n, .n, (.p false), .g, .n, .n, .n, .n, .g, .g]) (args := [.int .i64 x1, .agg #[.int .i64 x2, .int .i64 x3, .int .i64 x4, .int .i64 x5]]) (h := h) (h' := h) (v := .bool false) (hC := (And.intro (g_ft l_f) (And.intro (g_ft l_f) (And.intro (g_ft l_f) (And.intro (g_ft l_f) (And.intro c7 (And.intro (g_ft c7) (And.intro (g_ft c7) (And.intro (g_ft c7) (And.intro c6 (And.intro (g_tt c6) (And.intro (g_tt c6) (And.intro (g_tt c6) (And.intro (g_tt c6) trivial)))))))))))))) (hr := by kernel_rfl)
  · intro hr
    subst hr
    exact pFun_sound good tab_ok (f := 38) (its := [.g, .g, .g, .g, .g, .g, .n, .n, .n, .n, (.p false), .g, .n, .n, .n, .g, .g, .n, .n, .n, .n, .g, .g]) (args := [.int .i64 x1, .agg #[.int .i64 x2, .int .i64 x3, .int .i64 x4, .int .i64 x5]]) (h := h) (h' := h) (v := .bool false) (hC := (And.intro (g_ft l_f) (And.intro (g_ft l_f) (And.intro (g_ft l_f) (And.intro (g_ft l_f) (And.intro (g_ft l_f) (And.intro (g_ft l_f) (And.intro (g_ft l_f) (And.intro c6 (And.intro (g_ft c6) (And.intro (g_ft c6) (And.intro (g_ft c6) (And.intro (g_ft c6) trivial))))))))))))) (hr := by kernel_rfl)
def enc3 (x : Int) : List Value := [.int .i64 x]
def E3 (h : AHeap) (cs : List Value) (x : Int) : Prop := cs = enc3 x
theorem E3_mono {h h' : AHeap} (le : h.sub h') (cs : List Value) (x : Int) (H : E3 h cs x) : E3 h' cs x := H
def W3 (x : Int) : Prop := (Lit.int .i64 x).wf = true ∧ True
set_option maxRecDepth 100000 in
theorem E3_wt {h : AHeap} {n : Nat} {cs : List Value} (H : WT Try.prog h n 3 cs) : ∃ x, E3 h cs x ∧ W3 x := by
  have k : SQ Try.prog h [.int .i64] cs := wt_flatS 1 n (by kernel_rfl) H
  obtain ⟨x0, r0, rfl, w0, k0⟩ := sq_int k
  obtain rfl := sq_nil k0
  exact ⟨x0, rfl, ⟨w0, trivial⟩⟩
/-! 20 jacquard/diffcons.Positive -/
def F20_L : List Nat := []
def F20_D : List (Nat × List (Nat × Nat)) := [(9, [(0, 2), (1, 2), (2, 2), (3, 2), (4, 2), (5, 2), (6, 2), (7, 2), (8, 2), (9, 2), (10, 2), (11, 2), (12, 2), (13, 2), (14, 2), (15, 2), (16, 2), (17, 2), (18, 2), (19, 2), (20, 2), (21, 2), (22, 2), (23, 2), (24, 1), (25, 2), (26, 2), (27, 2), (28, 2), (29, 2), (30, 2), (31, 2), (32, 2), (33, 2), (34, 2), (35, 2), (36, 2), (37, 2), (38, 2), (39, 2), (40, 2), (41, 2), (42, 2), (43, 2), (44, 2), (45, 2), (46, 2), (47, 0), (48, 2)])]
def F20_m1_2 : List Bool := [true, true, true, true, true, true, true, true, false, true, true, true, true, true, true, true, true, true, true, true, true, true, true, true, true, true, true, true, true, true, true, true, true, true, true, true, true, true, true, true, true, true, true, true, true, true, true, true, true, true, true, true, true, true, true, true, true, true, true, true, true, true, true, true, true, true, true, true, true, true, true, true, true, true, true, true, true, true, true, true, true, true, true, true, true, true, true, true, true, true, true, true, true, true, true, true, true, true, true, true, true, true]
def F20_m1_1 : List Bool := [false, false, false, false, true, true, true, true, false, true, false, true, true, true, true, true, true, true, true, true, false, false, false, true, true, true, true, true, true, true, true, true, true, true, true, true, true, true, true, true, true, true, true, true, true, true, true, true, true, true, true, true, true, true, true, true, true, true, true, true, true, true, true, true, true, true, true, true, true, true, true, true, true, true, true, true, true, true, true, true, true, true, true, true, true, true, true, true, true, true, true, true, true, true, true, true, true, true, true, true, true, true]
def F20_m1_0 : List Bool := [true, true, true, true, true, true, true, true, false, false, true, true, true, true, true, true, true, true, true, true, true, true, true, true, true, true, true, true, true, true, true, true, true, true, true, true, true, true, true, true, true, true, true, true, true, true, true, true, true, true, true, true, true, true, true, true, true, true, true, true, true, true, true, true, true, true, true, true, true, true, true, true, true, true, true, true, true, true, true, true, true, true, true, true, true, true, true, true, true, true, true, true, true, true, true, true, true, true, true, true, true, true]
def F20_s1 (x1 : Int) (l2 : List (Int × Int × Int × Int)) (x3 : Int) (l4 : List Int) (a9 : Int) (a10 : Int) (l11 : List (Int × Bool)) : Option ((Int × Int × (List (Int × Bool))) ⊕ (Nat × Int)) :=
  (bif decide (a10 < (l4.length : Int)) then
   (Option.bind (at? l4 a10) fun y14 =>
   (Option.bind (at? l4 ((IntKind.i64.wrap (a10 + 1)).tmod (l4.length : Int))) fun y15 =>
   (bif decide (y14 < 0) then
    some (.inr (0, 0))
   else
    (bif decide (y14 ≥ (l2.length : Int)) then
     some (.inr (0, 0))
    else
     (bif decide (y15 < 0) then
      some (.inr (0, 0))
     else
      (bif decide (y15 ≥ (l2.length : Int)) then
       some (.inr (0, 0))
      else
       (Option.bind (at? l2 y14) fun y20 =>
       (bif (!(F38 (F32 x1) y20.1 y20.2.1 y20.2.2.1 y20.2.2.2)) then
        some (.inr (0, 0))
       else
        (Option.bind (at? l2 y15) fun y23 =>
        (bif (y20.2.1 != y23.1) then
         some (.inr (0, 0))
        else
         (bif ((mget y20.1 l11).getD false) then
          some (.inr (0, 0))
         else
          some (.inl ((IntKind.i64.wrap (a9 + (F18 y20.1 y20.2.1 y20.2.2.1 y20.2.2.2 x3))), (IntKind.i64.wrap (a10 + 1)), (mput y20.1 true l11))))))))))))))
  else
   some (.inr (1, a9)))
def F20_h1 (x1 : Int) (v2 : Hd) (x3 : Int) (l4 : List Int) (v4 : Hd) (id7 : Nat) (h12 : AHeap) (a9 : Int) (a10 : Int) (l11 : List (Int × Bool)) : AS := ⟨[.int .i64 (F32 x1), (sv v2), .int .i64 x3, (sv v4), junk, junk, junk, junk, .int .i64 a9, junk, .map (some id7), junk, junk, junk, junk, junk, junk, junk, junk, junk, (sv v4), .int .i64 (l4.length : Int), .int .i64 a10, junk, junk, junk, junk, junk, junk, junk, junk, junk, junk, junk, junk, junk, junk, junk, junk, junk, junk, junk, junk, junk, junk, junk, junk, junk, junk, junk, junk, junk, junk, junk, junk, junk, junk, junk, junk, junk, junk, junk, junk, junk, junk, junk, junk, junk, junk, junk, junk, junk, junk, junk, junk, junk, junk, junk, junk, junk, junk, junk, junk, junk, junk, junk, junk, junk, junk, junk, junk, junk, junk, junk, junk, junk, junk, junk, junk, junk, junk, junk], [], h12⟩
theorem F20_d1 : drawsOk F20_D (codeOf Try.prog 20 [1, 1, 1, 1, 0, 1, 0, 0]) = true := by kernel_rfl
def F20_x1_0 (h : AHeap) (hx : AHeap) (r : Nat × Int) : AS := ⟨[junk, junk, junk, junk, junk, junk, junk, junk, .int .i64 0, .bool false, junk, junk, junk, junk, junk, junk, junk, junk, junk, junk, junk, junk, junk, junk, junk, junk, junk, junk, junk, junk, junk, junk, junk, junk, junk, junk, junk, junk, junk, junk, junk, junk, junk, junk, junk, junk, junk, junk, junk, junk, junk, junk, junk, junk, junk, junk, junk, junk, junk, junk, junk, junk, junk, junk, junk, junk, junk, junk, junk, junk, junk, junk, junk, junk, junk, junk, junk, junk, junk, junk, junk, junk, junk, junk, junk, junk, junk, junk, junk, junk, junk, junk, junk, junk, junk, junk, junk, junk, junk, junk, junk, junk], [], hx⟩
def F20_x1_1 (h : AHeap) (hx : AHeap) (r : Nat × Int) : AS := ⟨[junk, junk, junk, junk, junk, junk, junk, junk, .int .i64 r.2, junk, junk, junk, junk, junk, junk, junk, junk, junk, junk, junk, junk, junk, junk, junk, junk, junk, junk, junk, junk, junk, junk, junk, junk, junk, junk, junk, junk, junk, junk, junk, junk, junk, junk, junk, junk, junk, junk, junk, junk, junk, junk, junk, junk, junk, junk, junk, junk, junk, junk, junk, junk, junk, junk, junk, junk, junk, junk, junk, junk, junk, junk, junk, junk, junk, junk, junk, junk, junk, junk, junk, junk, junk, junk, junk, junk, junk, junk, junk, junk, junk, junk, junk, junk, junk, junk, junk, junk, junk, junk, junk, junk, junk], [], hx⟩
def F20_i1 (h : AHeap) (x1 : Int) (v2 : Hd) (x3 : Int) (l4 : List Int) (v4 : Hd) (id7 : Nat) (s : Int × Int × (List (Int × Bool))) (S : AS) : Prop := ∃ (h12 : AHeap), Heapy h h12 [⟨⟨some ⟨id7, 0, some 1⟩, 0, 0⟩, 0, 0, List.flatMap (fun (p : Int × Bool) => [.int .i64 p.1, .bool p.2]) s.2.2⟩] ∧ S = (F20_h1 x1 v2 x3 l4 v4 id7 h12 s.1 s.2.1 s.2.2)
def F20_x1 (h : AHeap) (r : Nat × Int) (e : Exit) (S : AS) : Prop := (bif Nat.beq r.1 0 then (e = .ret ∧ ∃ (hx : AHeap), Heapy h hx [] ∧ S = (F20_x1_0 h hx r)) else (e = (.exit 0) ∧ ∃ (hx : AHeap), Heapy h hx [] ∧ S = (F20_x1_1 h hx r)))
set_option maxRecDepth 100000 in
theorem F20_r1 (h : AHeap) (x1 : Int) (l2 : List (Int × Int × Int × Int)) (v2 : Hd) (hv2 : SlE E38 4 h (sv v2) l2) (x3 : Int) (l4 : List Int) (v4 : Hd) (hv4 : SlE E3 1 h (sv v4) l4) (c6 : ((l4.length : Int) == 0) = false) (id7 : Nat) (a9 : Int) (a10 : Int) (l11 : List (Int × Bool)) (S : AS) (hI : (F20_i1 h x1 v2 x3 l4 v4 id7) (a9, a10, l11) S) (o : (Int × Int × (List (Int × Bool))) ⊕ (Nat × Int)) : F20_s1 x1 l2 x3 l4 a9 a10 l11 = some o → Rd Try.prog (codeOf Try.prog 20 [1, 1, 1, 1, 0, 1, 0, 0]) (F20_i1 h x1 v2 x3 l4 v4 id7) (F20_x1 h) S o := by
  obtain ⟨h12, hp12, rfl⟩ := hI
  unfold F20_s1
  refine dec_bif (fun c13 => ?_) (fun c13 => ?_)
  · refine bind_opt fun y14 e14 => ?_
    obtain ⟨id14, off14, g14, cs14, ix14, at14, rfl⟩ := SlE.at hv4 e14
    refine bind_opt fun y15 e15 => ?_
    obtain ⟨id15, off15, g15, cs15, ix15, at15, rfl⟩ := SlE.at hv4 e15
    refine dec_bif (fun c16 => ?_) (fun c16 => ?_)
    · intro hr
      obtain rfl := Option.some.inj hr
      refine ⟨.ret, (F20_x1_0 h h12 ((0, 0) : Nat × Int)), (by intro hh; cases hh), ?_, pEnd_sound good (L := F20_L) (D := F20_D) (its := [.g, (.b true), .g, (.ix id14 off14 g14), (.ld (.int .i64 y14)), .g, .g, .g, .g, .g, .g, (.ln l4.length), .d, (.ix id15 off15 g15), (.ld (.int .i64 y15)), .g, .g, .g, .g, .n, .n, .n, .n, (.p true), .g, .n, .n, .g, .g, .n, .n, .n, .n, .g, .g, .n, .n, .n, .n, .n, .n, .n, .g, .g, .n, .n, .n, .n, .n, .n, .n, .n, .n, .n, .n, .g, .g, .n, .n, .n, .n, .n, .n, .n, .g, (.b true), .g, .g]) (ds := F20_m1_0) (ks := []) (e := .ret) (s2 := (F20_x1_0 h h12 ((0, 0) : Nat × Int))) (hC := (And.intro l_t (And.intro (g_tf l_t) (And.intro (g_tf l_t) (And.intro (g_tf l_t) (And.intro (g_tf l_t) (And.intro (g_tf l_t) (And.intro (g_tf l_t) (And.intro (g_tf l_t) (And.intro (g_tf l_t) (And.intro (g_tf l_t) (And.intro (g_tf l_t) (And.intro (g_tf l_t) (And.intro (g_tf l_t) (And.intro (g_tf l_t) (And.intro (g_tf l_t) (And.intro (g_tf l_t) (And.intro (g_tf l_t) (And.intro (g_tf l_t) (And.intro (g_tf l_t) (And.intro (g_tf l_t) (And.intro (g_tf l_t) (And.intro (g_tf l_t) (And.intro (g_tf l_t) (And.intro (g_tf l_t) (And.intro (g_tf l_t) (And.intro (g_tf l_t) (And.intro (g_tf l_t) (And.intro (g_tf l_t) (And.intro (g_tf l_t) (And.intro (g_tf l_t) (And.intro (g_tf l_t) (And.intro (g_tf l_t) (And.intro c16 (And.intro (g_tf c16) (And.intro (g_tf c16) (And.intro (g_tf c16) (And.intro (g_tf c16) (And.intro (At.one (P := Try.prog) (t := 3) (v := .int .i64 y15) (At.mono (Heapy.sub hp12) at15) (by kernel_rfl) 0 rfl rfl) (And.intro ix15 (And.intro (nz c6) (And.intro (SlE.len hv4) (And.intro (At.one (P := Try.prog) (t := 3) (v := .int .i64 y14) (At.mono (Heapy.sub hp12) at14) (by kernel_rfl) 0 rfl rfl) (And.intro ix14 (And.intro c13 trivial))))))))))))))))))))))))))))))))))))))))))))) (hd := F20_d1) (h := by kernel_rfl)⟩
      exact ⟨rfl, h12, (Heapy.pick hp12 [] (by decide)), rfl⟩
    · refine dec_bif (fun c17 => ?_) (fun c17 => ?_)
      · intro hr
        obtain rfl := Option.some.inj hr
        refine ⟨.ret, (F20_x1_0 h h12 ((0, 0) : Nat × Int)), (by intro hh; cases hh), ?_, pEnd_sound good (L := F20_L) (D := F20_D) (its := [.g, (.b true), .g, (.ix id14 off14 g14), (.ld (.int .i64 y14)), .g, .g, .g, .g, .g, .g, (.ln l4.length), .d, (.ix id15 off15 g15), (.ld (.int .i64 y15)), .g, .g, .g, .g, (.w .g), (.w .g), (.w (.ln l2.length)), (.w .g), (.p false), .g, .n, .n, (.p true), .g, .n, .n, .n, .n, .g, .g, .n, .n, .n, .n, .n, .n, .n, .g, .g, .n, .n, .n, .n, .n, .n, .n, .n, .n, .n, .n, .g, .g, .n, .n, .n, .n, .n, .n, .n, .g, (.b true), .g, .g]) (ds := F20_m1_0) (ks := []) (e := .ret) (s2 := (F20_x1_0 h h12 ((0, 0) : Nat × Int))) (hC := (And.intro l_t (And.intro (g_tf l_t) (And.intro (g_tf l_t) (And.intro (g_tf l_t) (And.intro (g_tf l_t) (And.intro (g_tf l_t) (And.intro (g_tf l_t) (And.intro (g_tf l_t) (And.intro (g_tf l_t) (And.intro (g_tf l_t) (And.intro (g_tf l_t) (And.intro (g_tf l_t) (And.intro (g_tf l_t) (And.intro (g_tf l_t) (And.intro (g_tf l_t) (And.intro (g_tf l_t) (And.intro (g_tf l_t) (And.intro (g_tf l_t) (And.intro (g_tf l_t) (And.intro (g_tf l_t) (And.intro (g_tf l_t) (And.intro (g_tf l_t) (And.intro (g_tf l_t) (And.intro (g_tf l_t) (And.intro (g_tf l_t) (And.intro (g_tf l_t) (And.intro (g_tf l_t) (And.intro (g_tf l_t) (And.intro (g_tf l_t) (And.intro (g_tf l_t) (And.intro c17 (And.intro (g_tf c17) (And.intro (g_tf c17) (And.intro c16 (And.intro (g_ff c16) (And.intro (SlE.len hv2) (And.intro (g_ff c16) (And.intro (g_ff c16) (And.intro (g_ff c16) (And.intro (At.one (P := Try.prog) (t := 3) (v := .int .i64 y15) (At.mono (Heapy.sub hp12) at15) (by kernel_rfl) 0 rfl rfl) (And.intro ix15 (And.intro (nz c6) (And.intro (SlE.len hv4) (And.intro (At.one (P := Try.prog) (t := 3) (v := .int .i64 y14) (At.mono (Heapy.sub hp12) at14) (by kernel_rfl) 0 rfl rfl) (And.intro ix14 (And.intro c13 trivial))))))))))))))))))))))))))))))))))))))))))))))) (hd := F20_d1) (h := by kernel_rfl)⟩
        exact ⟨rfl, h12, (Heapy.pick hp12 [] (by decide)), rfl⟩
      · refine dec_bif (fun c18 => ?_) (fun c18 => ?_)
        · intro hr
          obtain rfl := Option.some.inj hr
          refine ⟨.ret, (F20_x1_0 h h12 ((0, 0) : Nat × Int)), (by intro hh; cases hh), ?_, pEnd_sound good (L := F20_L) (D := F20_D) (its := [.g, (.b true), .g, (.ix id14 off14 g14), (.ld (.int .i64 y14)), .g, .g, .g, .g, .g, .g, (.ln l4.length), .d, (.ix id15 off15 g15), (.ld (.int .i64 y15)), .g, .g, .g, .g, (.w .g), (.w .g), (.w (.ln l2.length)), (.w .g), (.p false), .g, (.w .g), (.w .g), (.p false), .g, .n, .n, .n, .n, (.p true), .g, .n, .n, .n, .n, .n, .n, .n, .g, .g, .n, .n, .n, .n, .n, .n, .n, .n, .n, .n, .n, .g, .g, .n, .n, .n, .n, .n, .n, .n, .g, (.b true), .g, .g]) (ds := F20_m1_0) (ks := []) (e := .ret) (s2 := (F20_x1_0 h h12 ((0, 0) : Nat × Int))) (hC := (And.intro l_t (And.intro (g_tf l_t) (And.intro (g_tf l_t) (And.intro (g_tf l_t) (And.intro (g_tf l_t) (And.intro (g_tf l_t) (And.intro (g_tf l_t) (And.intro (g_tf l_t) (And.intro (g_tf l_t) (And.intro (g_tf l_t) (And.intro (g_tf l_t) (And.intro (g_tf l_t) (And.intro (g_tf l_t) (And.intro (g_tf l_t) (And.intro (g_tf l_t) (And.intro (g_tf l_t) (And.intro (g_tf l_t) (And.intro (g_tf l_t) (And.intro (g_tf l_t) (And.intro (g_tf l_t) (And.intro (g_tf l_t) (And.intro (g_tf l_t) (And.intro (g_tf l_t) (And.intro (g_tf l_t) (And.intro (g_tf l_t) (And.intro (g_tf l_t) (And.intro c18 (And.intro (g_tf c18) (And.intro (g_tf c18) (And.intro (g_tf c18) (And.intro (g_tf c18) (And.intro c17 (And.intro (g_ff c17) (And.intro (g_ff c17) (And.intro c16 (And.intro (g_ff c16) (And.intro (SlE.len hv2) (And.intro (g_ff c16) (And.intro (g_ff c16) (And.intro (g_ff c16) (And.intro (At.one (P := Try.prog) (t := 3) (v := .int .i64 y15) (At.mono (Heapy.sub hp12) at15) (by kernel_rfl) 0 rfl rfl) (And.intro ix15 (And.intro (nz c6) (And.intro (SlE.len hv4) (And.intro (At.one (P := Try.prog) (t := 3) (v := .int .i64 y14) (At.mono (Heapy.sub hp12) at14) (by kernel_rfl) 0 rfl rfl) (And.intro ix14 (And.intro c13 trivial)))))))))))))))))))))))))))))))))))))))))))))))) (hd := F20_d1) (h := by kernel_rfl)⟩
          exact ⟨rfl, h12, (Heapy.pick hp12 [] (by decide)), rfl⟩
        · refine dec_bif (fun c19 => ?_) (fun c19 => ?_)
          · intro hr
            obtain rfl := Option.some.inj hr
            refine ⟨.ret, (F20_x1_0 h h12 ((0, 0) : Nat × Int)), (by intro hh; cases hh), ?_, pEnd_sound good (L := F20_L) (D := F20_D) (its := [.g, (.b true), .g, (.ix id14 off14 g14), (.ld (.int .i64 y14)), .g, .g, .g, .g, .g, .g, (.ln l4.length), .d, (.ix id15 off15 g15), (.ld (.int .i64 y15)), .g, .g, .g, .g, (.w .g), (.w .g), (.w (.ln l2.length)), (.w .g), (.p false), .g, (.w .g), (.w .g), (.p false), .g, (.w .g), (.w .g), (.w (.ln l2.length)), (.w .g), (.p false), .g, .n, .n, .n, .n, .n, .n, .n, (.p true), .g, .n, .n, .n, .n, .n, .n, .n, .n, .n, .n, .n, .g, .g, .n, .n, .n, .n, .n, .n, .n, .g, (.b true), .g, .g]) (ds := F20_m1_0) (ks := []) (e := .ret) (s2 := (F20_x1_0 h h12 ((0, 0) : Nat × Int))) (hC := (And.intro l_t (And.intro (g_tf l_t) (And.intro (g_tf l_t) (And.intro (g_tf l_t) (And.intro (g_tf l_t) (And.intro (g_tf l_t) (And.intro (g_tf l_t) (And.intro (g_tf l_t) (And.intro (g_tf l_t) (And.intro (g_tf l_t) (And.intro (g_tf l_t) (And.intro (g_tf l_t) (And.intro (g_tf l_t) (And.intro (g_tf l_t) (And.intro (g_tf l_t) (And.intro (g_tf l_t) (And.intro (g_tf l_t) (And.intro (g_tf l_t) (And.intro (g_tf l_t) (And.intro c19 (And.intro (g_tf c19) (And.intro (g_tf c19) (And.intro (g_tf c19) (And.intro (g_tf c19) (And.intro (g_tf c19) (And.intro (g_tf c19) (And.intro (g_tf c19) (And.intro c18 (And.intro (g_ff c18) (And.intro (SlE.len hv2) (And.intro (g_ff c18) (And.intro (g_ff c18) (And.intro (g_ff c18) (And.intro c17 (And.intro (g_ff c17) (And.intro (g_ff c17) (And.intro c16 (And.intro (g_ff c16) (And.intro (SlE.len hv2) (And.intro (g_ff c16) (And.intro (g_ff c16) (And.intro (g_ff c16) (And.intro (At.one (P := Try.prog) (t := 3) (v := .int .i64 y15) (At.mono (Heapy.sub hp12) at15) (by kernel_rfl) 0 rfl rfl) (And.intro ix15 (And.intro (nz c6) (And.intro (SlE.len hv4) (And.intro (At.one (P := Try.prog) (t := 3) (v := .int .i64 y14) (At.mono (Heapy.sub hp12) at14) (by kernel_rfl) 0 rfl rfl) (And.intro ix14 (And.intro c13 trivial)))))))))))))))))))))))))))))))))))))))))))))))))) (hd := F20_d1) (h := by kernel_rfl)⟩
            exact ⟨rfl, h12, (Heapy.pick hp12 [] (by decide)), rfl⟩
          · refine bind_opt fun y20 e20 => ?_
            obtain ⟨id20, off20, g20, cs20, ix20, at20, rfl⟩ := SlE.at hv2 e20
            refine dec_bif (fun c22 => ?_) (fun c22 => ?_)
            · intro hr
              obtain rfl := Option.some.inj hr
              refine ⟨.ret, (F20_x1_0 h h12 ((0, 0) : Nat × Int)), (by intro hh; cases hh), ?_, pEnd_sound good (L := F20_L) (D := F20_D) (its := [.g, (.b true), .g, (.ix id14 off14 g14), (.ld (.int .i64 y14)), .g, .g, .g, .g, .g, .g, (.ln l4.length), .d, (.ix id15 off15 g15), (.ld (.int .i64 y15)), .g, .g, .g, .g, (.w .g), (.w .g), (.w (.ln l2.length)), (.w .g), (.p false), .g, (.w .g), (.w .g), (.p false), .g, (.w .g), (.w .g), (.w (.ln l2.length)), (.w .g), (.p false), .g, (.w .g), (.w .g), (.w .g), (.w (.ix id20 off20 g20)), (.w (.ld (.agg #[.int .i64 y20.1, .int .i64 y20.2.1, .int .i64 y20.2.2.1, .int .i64 y20.2.2.2]))), (.w (.c (.bool (F38 (F32 x1) y20.1 y20.2.1 y20.2.2.1 y20.2.2.2)) h12)), (.w .g), (.p false), .g, .n, .n, .n, .n, .n, .n, .n, .n, .n, .n, .n, (.p true), .g, .n, .n, .n, .n, .n, .n, .n, .g, (.b true), .g, .g]) (ds := F20_m1_0) (ks := []) (e := .ret) (s2 := (F20_x1_0 h h12 ((0, 0) : Nat × Int))) (hC := (And.intro l_t (And.intro (g_tf l_t) (And.intro (g_tf l_t) (And.intro (g_tf l_t) (And.intro (g_tf l_t) (And.intro (g_tf l_t) (And.intro (g_tf l_t) (And.intro (g_tf l_t) (And.intro c22 (And.intro (g_tf c22) (And.intro (g_tf c22) (And.intro (g_tf c22) (And.intro (g_tf c22) (And.intro (g_tf c22) (And.intro (g_tf c22) (And.intro (g_tf c22) (And.intro (g_tf c22) (And.intro (g_tf c22) (And.intro (g_tf c22) (And.intro (g_tf c22) (And.intro c19 (And.intro (g_ff c19) (And.intro (show AKeep h12 h12 from (AHeap.sub_refl h12)) (And.intro (F38_spec (F32 x1) y20.1 y20.2.1 y20.2.2.1 y20.2.2.2 h12 _ rfl) (And.intro (g_ff c19) (And.intro (At.agg (P := Try.prog) (t := 38) (v := .agg #[.int .i64 y20.1, .int .i64 y20.2.1, .int .i64 y20.2.2.1, .int .i64 y20.2.2.2]) (m := 4) (At.mono (Heapy.sub hp12) at20) (by kernel_rfl) (by kernel_rfl) 0 (by kernel_rfl) rfl) (And.intro (g_ff c19) (And.intro ix20 (And.intro (g_ff c19) (And.intro (g_ff c19) (And.intro (g_ff c19) (And.intro (g_ff c19) (And.intro c18 (And.intro (g_ff c18) (And.intro (SlE.len hv2) (And.intro (g_ff c18) (And.intro (g_ff c18) (And.intro (g_ff c18) (And.intro c17 (And.intro (g_ff c17) (And.intro (g_ff c17) (And.intro c16 (And.intro (g_ff c16) (And.intro (SlE.len hv2) (And.intro (g_ff c16) (And.intro (g_ff c16) (And.intro (g_ff c16) (And.intro (At.one (P := Try.prog) (t := 3) (v := .int .i64 y15) (At.mono (Heapy.sub hp12) at15) (by kernel_rfl) 0 rfl rfl) (And.intro ix15 (And.intro (nz c6) (And.intro (SlE.len hv4) (And.intro (At.one (P := Try.prog) (t := 3) (v := .int .i64 y14) (At.mono (Heapy.sub hp12) at14) (by kernel_rfl) 0 rfl rfl) (And.intro ix14 (And.intro c13 trivial))))))))))))))))))))))))))))))))))))))))))))))))))))))) (hd := F20_d1) (h := by kernel_rfl)⟩
              exact ⟨rfl, h12, (Heapy.pick hp12 [] (by decide)), rfl⟩
            · refine bind_opt fun y23 e23 => ?_
              obtain ⟨id23, off23, g23, cs23, ix23, at23, rfl⟩ := SlE.at hv2 e23
              refine dec_bif (fun c24 => ?_) (fun c24 => ?_)
              · intro hr
                obtain rfl := Option.some.inj hr
                refine ⟨.ret, (F20_x1_0 h h12 ((0, 0) : Nat × Int)), (by intro hh; cases hh), ?_, pEnd_sound good (L := F20_L) (D := F20_D) (its := [.g, (.b true), .g, (.ix id14 off14 g14), (.ld (.int .i64 y14)), .g, .g, .g, .g, .g, .g, (.ln l4.length), .d, (.ix id15 off15 g15), (.ld (.int .i64 y15)), .g, .g, .g, .g, (.w .g), (.w .g), (.w (.ln l2.length)), (.w .g), (.p false), .g, (.w .g), (.w .g), (.p false), .g, (.w .g), (.w .g), (.w (.ln l2.length)), (.w .g), (.p false), .g, (.w .g), (.w .g), (.w .g), (.w (.ix id20 off20 g20)), (.w (.ld (.agg #[.int .i64 y20.1, .int .i64 y20.2.1, .int .i64 y20.2.2.1, .int .i64 y20.2.2.2]))), (.w (.c (.bool (F38 (F32 x1) y20.1 y20.2.1 y20.2.2.1 y20.2.2.2)) h12)), (.w .g), (.p false), .g, (.w .g), (.w .g), (.w (.ix id20 off20 g20)), (.w .g), (.w (.ld (.int .i64 y20.2.1))), (.w .g), (.w .g), (.w (.ix id23 off23 g23)), (.w .g), (.w (.ld (.int .i64 y23.1))), (.w .g), (.p false), .g, .n, .n, .n, .n, .n, .n, .n, (.p true), (.b true), .g, .g]) (ds := F20_m1_0) (ks := []) (e := .ret) (s2 := (F20_x1_0 h h12 ((0, 0) : Nat × Int))) (hC := (And.intro l_t (And.intro c24 (And.intro (g_tf c24) (And.intro (g_tf c24) (And.intro (g_tf c24) (And.intro (g_tf c24) (And.intro (g_tf c24) (And.intro (g_tf c24) (And.intro (g_tf c24) (And.intro c22 (And.intro (g_ff c22) (And.intro (At.one (P := Try.prog) (t := 3) (v := .int .i64 y23.1) (At.mono (Heapy.sub hp12) at23) (by kernel_rfl) 0 rfl rfl) (And.intro (g_ff c22) (And.intro (g_ff c22) (And.intro ix23 (And.intro (g_ff c22) (And.intro (g_ff c22) (And.intro (g_ff c22) (And.intro (At.one (P := Try.prog) (t := 3) (v := .int .i64 y20.2.1) (At.mono (Heapy.sub hp12) at20) (by kernel_rfl) 1 rfl rfl) (And.intro (g_ff c22) (And.intro (g_ff c22) (And.intro ix20 (And.intro (g_ff c22) (And.intro (g_ff c22) (And.intro (g_ff c22) (And.intro c19 (And.intro (g_ff c19) (And.intro (show AKeep h12 h12 from (AHeap.sub_refl h12)) (And.intro (F38_spec (F32 x1) y20.1 y20.2.1 y20.2.2.1 y20.2.2.2 h12 _ rfl) (And.intro (g_ff c19) (And.intro (At.agg (P := Try.prog) (t := 38) (v := .agg #[.int .i64 y20.1, .int .i64 y20.2.1, .int .i64 y20.2.2.1, .int .i64 y20.2.2.2]) (m := 4) (At.mono (Heapy.sub hp12) at20) (by kernel_rfl) (by kernel_rfl) 0 (by kernel_rfl) rfl) (And.intro (g_ff c19) (And.intro ix20 (And.intro (g_ff c19) (And.intro (g_ff c19) (And.intro (g_ff c19) (And.intro (g_ff c19) (And.intro c18 (And.intro (g_ff c18) (And.intro (SlE.len hv2) (And.intro (g_ff c18) (And.intro (g_ff c18) (And.intro (g_ff c18) (And.intro c17 (And.intro (g_ff c17) (And.intro (g_ff c17) (And.intro c16 (And.intro (g_ff c16) (And.intro (SlE.len hv2) (And.intro (g_ff c16) (And.intro (g_ff c16) (And.intro (g_ff c16) (And.intro (At.one (P := Try.prog) (t := 3) (v := .int .i64 y15) (At.mono (Heapy.sub hp12) at15) (by kernel_rfl) 0 rfl rfl) (And.intro ix15 (And.intro (nz c6) (And.intro (SlE.len hv4) (And.intro (At.one (P := Try.prog) (t := 3) (v := .int .i64 y14) (At.mono (Heapy.sub hp12) at14) (by kernel_rfl) 0 rfl rfl) (And.intro ix14 (And.intro c13 trivial)))))))))))))))))))))))))))))))))))))))))))))))))))))))))))) (hd := F20_d1) (h := by kernel_rfl)⟩
                exact ⟨rfl, h12, (Heapy.pick hp12 [] (by decide)), rfl⟩
              · refine dec_bif (fun c25 => ?_) (fun c25 => ?_)
                · intro hr
                  obtain rfl := Option.some.inj hr
                  refine ⟨.ret, (F20_x1_0 h h12 ((0, 0) : Nat × Int)), (by intro hh; cases hh), ?_, pEnd_sound good (L := F20_L) (D := F20_D) (its := [.g, (.b true), .g, (.ix id14 off14 g14), (.ld (.int .i64 y14)), .g, .g, .g, .g, .g, .g, (.ln l4.length), .d, (.ix id15 off15 g15), (.ld (.int .i64 y15)), .g, .g, .g, .g, (.w .g), (.w .g), (.w (.ln l2.length)), (.w .g), (.p false), .g, (.w .g), (.w .g), (.p false), .g, (.w .g), (.w .g), (.w (.ln l2.length)), (.w .g), (.p false), .g, (.w .g), (.w .g), (.w .g), (.w (.ix id20 off20 g20)), (.w (.ld (.agg #[.int .i64 y20.1, .int .i64 y20.2.1, .int .i64 y20.2.2.1, .int .i64 y20.2.2.2]))), (.w (.c (.bool (F38 (F32 x1) y20.1 y20.2.1 y20.2.2.1 y20.2.2.2)) h12)), (.w .g), (.p false), .g, (.w .g), (.w .g), (.w (.ix id20 off20 g20)), (.w .g), (.w (.ld (.int .i64 y20.2.1))), (.w .g), (.w .g), (.w (.ix id23 off23 g23)), (.w .g), (.w (.ld (.int .i64 y23.1))), (.w .g), (.p false), .g, (.w .g), (.w .g), (.w .g), (.w (.ix id20 off20 g20)), (.w .g), (.w (.ld (.int .i64 y20.1))), (.w (.mm (.bool ((mget y20.1 l11).getD false)) h12)), (.p false), (.b true), .g, .g]) (ds := F20_m1_0) (ks := []) (e := .ret) (s2 := (F20_x1_0 h h12 ((0, 0) : Nat × Int))) (hC := (And.intro c25 (And.intro c24 (And.intro (Heapy.mlook (P := Try.prog) (id := id7) (q := .i64) (f := (fun b => .bool b)) (xs := l11) hp12 0 rfl (t := 61) (kt := 3) (et := 4) (by kernel_rfl) (by kernel_rfl) (z := false) (by kernel_rfl) y20.1 false) (And.intro (g_ff c24) (And.intro (At.one (P := Try.prog) (t := 3) (v := .int .i64 y20.1) (At.mono (Heapy.sub hp12) at20) (by kernel_rfl) 0 rfl rfl) (And.intro (g_ff c24) (And.intro (g_ff c24) (And.intro ix20 (And.intro (g_ff c24) (And.intro (g_ff c24) (And.intro (g_ff c24) (And.intro (g_ff c24) (And.intro c22 (And.intro (g_ff c22) (And.intro (At.one (P := Try.prog) (t := 3) (v := .int .i64 y23.1) (At.mono (Heapy.sub hp12) at23) (by kernel_rfl) 0 rfl rfl) (And.intro (g_ff c22) (And.intro (g_ff c22) (And.intro ix23 (And.intro (g_ff c22) (And.intro (g_ff c22) (And.intro (g_ff c22) (And.intro (At.one (P := Try.prog) (t := 3) (v := .int .i64 y20.2.1) (At.mono (Heapy.sub hp12) at20) (by kernel_rfl) 1 rfl rfl) (And.intro (g_ff c22) (And.intro (g_ff c22) (And.intro ix20 (And.intro (g_ff c22) (And.intro (g_ff c22) (And.intro (g_ff c22) (And.intro c19 (And.intro (g_ff c19) (And.intro (show AKeep h12 h12 from (AHeap.sub_refl h12)) (And.intro (F38_spec (F32 x1) y20.1 y20.2.1 y20.2.2.1 y20.2.2.2 h12 _ rfl) (And.intro (g_ff c19) (And.intro (At.agg (P := Try.prog) (t := 38) (v := .agg #[.int .i64 y20.1, .int .i64 y20.2.1, .int .i64 y20.2.2.1, .int .i64 y20.2.2.2]) (m := 4) (At.mono (Heapy.sub hp12) at20) (by kernel_rfl) (by kernel_rfl) 0 (by kernel_rfl) rfl) (And.intro (g_ff c19) (And.intro ix20 (And.intro (g_ff c19) (And.intro (g_ff c19) (And.intro (g_ff c19) (And.intro (g_ff c19) (And.intro c18 (And.intro (g_ff c18) (And.intro (SlE.len hv2) (And.intro (g_ff c18) (And.intro (g_ff c18) (And.intro (g_ff c18) (And.intro c17 (And.intro (g_ff c17) (And.intro (g_ff c17) (And.intro c16 (And.intro (g_ff c16) (And.intro (SlE.len hv2) (And.intro (g_ff c16) (And.intro (g_ff c16) (And.intro (g_ff c16) (And.intro (At.one (P := Try.prog) (t := 3) (v := .int .i64 y15) (At.mono (Heapy.sub hp12) at15) (by kernel_rfl) 0 rfl rfl) (And.intro ix15 (And.intro (nz c6) (And.intro (SlE.len hv4) (And.intro (At.one (P := Try.prog) (t := 3) (v := .int .i64 y14) (At.mono (Heapy.sub hp12) at14) (by kernel_rfl) 0 rfl rfl) (And.intro ix14 (And.intro c13 trivial))))))))))))))))))))))))))))))))))))))))))))))))))))))))))))))) (hd := F20_d1) (h := by kernel_rfl)⟩
                  exact ⟨rfl, h12, (Heapy.pick hp12 [] (by decide)), rfl⟩
                · obtain ⟨h26, m26, hp26⟩ := Heapy.mset (P := Try.prog) (id := id7) (q := .i64) (f := (fun b => .bool b)) (xs := l11) hp12 0 rfl (t := 61) (kt := 3) (et := 4) (by kernel_rfl) (by kernel_rfl) y20.1 true rfl rfl
                  intro hr
                  obtain rfl := Option.some.inj hr
                  exact ⟨(F20_h1 x1 v2 x3 l4 v4 id7 h26 (IntKind.i64.wrap (a9 + (F18 y20.1 y20.2.1 y20.2.2.1 y20.2.2.2 x3))) (IntKind.i64.wrap (a10 + 1)) (mput y20.1 true l11)), ⟨h26, (Heapy.pick hp26 [0] (by decide)), rfl⟩, pEnd_sound good (L := F20_L) (D := F20_D) (its := [.g, (.b true), .g, (.ix id14 off14 g14), (.ld (.int .i64 y14)), .g, .g, .g, .g, .g, .g, (.ln l4.length), .d, (.ix id15 off15 g15), (.ld (.int .i64 y15)), .g, .g, .g, .g, (.w .g), (.w .g), (.w (.ln l2.length)), (.w .g), (.p false), .g, (.w .g), (.w .g), (.p false), .g, (.w .g), (.w .g), (.w (.ln l2.length)), (.w .g), (.p false), .g, (.w .g), (.w .g), (.w .g), (.w (.ix id20 off20 g20)), (.w (.ld (.agg #[.int .i64 y20.1, .int .i64 y20.2.1, .int .i64 y20.2.2.1, .int .i64 y20.2.2.2]))), (.w (.c (.bool (F38 (F32 x1) y20.1 y20.2.1 y20.2.2.1 y20.2.2.2)) h12)), (.w .g), (.p false), .g, (.w .g), (.w .g), (.w (.ix id20 off20 g20)), (.w .g), (.w (.ld (.int .i64 y20.2.1))), (.w .g), (.w .g), (.w (.ix id23 off23 g23)), (.w .g), (.w (.ld (.int .i64 y23.1))), (.w .g), (.p false), .g, (.w .g), (.w .g), (.w .g), (.w (.ix id20 off20 g20)), (.w .g), (.w (.ld (.int .i64 y20.1))), (.w (.mm (.bool ((mget y20.1 l11).getD false)) h12)), (.p false), (.b false), .g, .g, .g, (.ix id20 off20 g20), .g, (.ld (.int .i64 y20.1)), (.mm undef h26), .g, .g, .g, (.ix id20 off20 g20), (.ld (.agg #[.int .i64 y20.1, .int .i64 y20.2.1, .int .i64 y20.2.2.1, .int .i64 y20.2.2.2])), .g, (.c (.int .i64 (F18 y20.1 y20.2.1 y20.2.2.1 y20.2.2.2 x3)) h26), .g, .g, .g, .g]) (ds := F20_m1_1) (ks := []) (e := .normal) (s2 := (F20_h1 x1 v2 x3 l4 v4 id7 h26 (IntKind.i64.wrap (a9 + (F18 y20.1 y20.2.1 y20.2.2.1 y20.2.2.2 x3))) (IntKind.i64.wrap (a10 + 1)) (mput y20.1 true l11))) (hC := (And.intro (F18_spec y20.1 y20.2.1 y20.2.2.1 y20.2.2.2 x3 h26 _ rfl) (And.intro (At.agg (P := Try.prog) (t := 38) (v := .agg #[.int .i64 y20.1, .int .i64 y20.2.1, .int .i64 y20.2.2.1, .int .i64 y20.2.2.2]) (m := 4) (At.mono (Heapy.sub hp26) at20) (by kernel_rfl) (by kernel_rfl) 0 (by kernel_rfl) rfl) (And.intro ix20 (And.intro m26 (And.intro (At.one (P := Try.prog) (t := 3) (v := .int .i64 y20.1) (At.mono (Heapy.sub hp12) at20) (by kernel_rfl) 0 rfl rfl) (And.intro ix20 (And.intro c25 (And.intro c24 (And.intro (Heapy.mlook (P := Try.prog) (id := id7) (q := .i64) (f := (fun b => .bool b)) (xs := l11) hp12 0 rfl (t := 61) (kt := 3) (et := 4) (by kernel_rfl) (by kernel_rfl) (z := false) (by kernel_rfl) y20.1 false) (And.intro (g_ff c24) (And.intro (At.one (P := Try.prog) (t := 3) (v := .int .i64 y20.1) (At.mono (Heapy.sub hp12) at20) (by kernel_rfl) 0 rfl rfl) (And.intro (g_ff c24) (And.intro (g_ff c24) (And.intro ix20 (And.intro (g_ff c24) (And.intro (g_ff c24) (And.intro (g_ff c24) (And.intro (g_ff c24) (And.intro c22 (And.intro (g_ff c22) (And.intro (At.one (P := Try.prog) (t := 3) (v := .int .i64 y23.1) (At.mono (Heapy.sub hp12) at23) (by kernel_rfl) 0 rfl rfl) (And.intro (g_ff c22) (And.intro (g_ff c22) (And.intro ix23 (And.intro (g_ff c22) (And.intro (g_ff c22) (And.intro (g_ff c22) (And.intro (At.one (P := Try.prog) (t := 3) (v := .int .i64 y20.2.1) (At.mono (Heapy.sub hp12) at20) (by kernel_rfl) 1 rfl rfl) (And.intro (g_ff c22) (And.intro (g_ff c22) (And.intro ix20 (And.intro (g_ff c22) (And.intro (g_ff c22) (And.intro (g_ff c22) (And.intro c19 (And.intro (g_ff c19) (And.intro (show AKeep h12 h12 from (AHeap.sub_refl h12)) (And.intro (F38_spec (F32 x1) y20.1 y20.2.1 y20.2.2.1 y20.2.2.2 h12 _ rfl) (And.intro (g_ff c19) (And.intro (At.agg (P := Try.prog) (t := 38) (v := .agg #[.int .i64 y20.1, .int .i64 y20.2.1, .int .i64 y20.2.2.1, .int .i64 y20.2.2.2]) (m := 4) (At.mono (Heapy.sub hp12) at20) (by kernel_rfl) (by kernel_rfl) 0 (by kernel_rfl) rfl) (And.intro (g_ff c19) (And.intro ix20 (And.intro (g_ff c19) (And.intro (g_ff c19) (And.intro (g_ff c19) (And.intro (g_ff c19) (And.intro c18 (And.intro (g_ff c18) (And.intro (SlE.len hv2) (And.intro (g_ff c18) (And.intro (g_ff c18) (And.intro (g_ff c18) (And.intro c17 (And.intro (g_ff c17) (And.intro (g_ff c17) (And.intro c16 (And.intro (g_ff c16) (And.intro (SlE.len hv2) (And.intro (g_ff c16) (And.intro (g_ff c16) (And.intro (g_ff c16) (And.intro (At.one (P := Try.prog) (t := 3) (v := .int .i64 y15) (At.mono (Heapy.sub hp12) at15) (by kernel_rfl) 0 rfl rfl) (And.intro ix15 (And.intro (nz c6) (And.intro (SlE.len hv4) (And.intro (At.one (P := Try.prog) (t := 3) (v := .int .i64 y14) (At.mono (Heapy.sub hp12) at14) (by kernel_rfl) 0 rfl rfl) (And.intro ix14 (And.intro c13 trivial))))))))))))))))))))))))))))))))))))))))))))))))))))))))))))))))))))) (hd := F20_d1) (h := by kernel_rfl)⟩
  · intro hr
    obtain rfl := Option.some.inj hr
    refine ⟨(.exit 0), (F20_x1_1 h h12 ((1, a9) : Nat × Int)), (by intro hh; cases hh), ?_, pEnd_sound good (L := F20_L) (D := F20_D) (its := [.g, (.b false)]) (ds := F20_m1_2) (ks := []) (e := (.exit 0)) (s2 := (F20_x1_1 h h12 ((1, a9) : Nat × Int))) (hC := (And.intro c13 trivial)) (hd := F20_d1) (h := by kernel_rfl)⟩
    exact ⟨rfl, h12, (Heapy.pick hp12 [] (by decide)), rfl⟩
theorem F20_l1 (h : AHeap) (x1 : Int) (l2 : List (Int × Int × Int × Int)) (v2 : Hd) (hv2 : SlE E38 4 h (sv v2) l2) (x3 : Int) (l4 : List Int) (v4 : Hd) (hv4 : SlE E3 1 h (sv v4) l4) (c6 : ((l4.length : Int) == 0) = false) (id7 : Nat) (x : Int × Int × (List (Int × Bool))) (r : Nat × Int) (hl : loopO (fun (s : Int × Int × (List (Int × Bool))) => F20_s1 x1 l2 x3 l4 s.1 s.2.1 s.2.2) x = some r) (S : AS) (hI : (F20_i1 h x1 v2 x3 l4 v4 id7) x S) : ∃ e S', (F20_x1 h) r e S' ∧ AWp Try.prog (.loop (codeOf Try.prog 20 [1, 1, 1, 1, 0, 1, 0, 0])) (Ends1 e S') S :=
  loop_rel (fun x S hI => F20_r1 h x1 l2 v2 hv2 x3 l4 v4 hv4 c6 id7 x.1 x.2.1 x.2.2 S hI) hl hI
def F20 (x1 : Int) (l2 : List (Int × Int × Int × Int)) (x3 : Int) (l4 : List Int) : Option (Int × Bool) :=
  (bif ((l4.length : Int) == 0) then
   some (0, false)
  else
   (Option.bind (loopO (fun (s : Int × Int × (List (Int × Bool))) => F20_s1 x1 l2 x3 l4 s.1 s.2.1 s.2.2) (0, 0, ([] : List (Int × Bool)))) fun y28 =>
   (bif (Nat.beq y28.1 0) then
    some (0, false)
   else
    some (y28.2, (decide (y28.2 > 0))))))
set_option maxRecDepth 100000 in
theorem F20_spec (x1 : Int) (l2 : List (Int × Int × Int × Int)) (x3 : Int) (l4 : List Int) (v2 : Hd) (v4 : Hd) (h : AHeap) (hw : h.wf) (hv2 : SlE E38 4 h (sv v2) l2) (hv4 : SlE E3 1 h (sv v4) l4) (r : Int × Bool) : F20 x1 l2 x3 l4 = some r → ∃ (h' : AHeap), Heapy h h' [] ∧ ACalls Try.prog 20 [.int .i64 x1, (sv v2), .int .i64 x3, (sv v4)] h (fun v' h'' => v' = (.tuple #[.int .i64 r.1, .bool r.2] : Value) ∧ h'' = h') := by
  unfold F20
  refine dec_bif (fun c6 => ?_) (fun c6 => ?_)
  · intro hr
    obtain rfl := Option.some.inj hr
    exact ⟨h, Heapy.pick (Heapy.refl hw) [] (by decide), pFun_sound good tab_ok (f := 20) (its := [.g, .g, .g, (.c (.int .i64 (F32 x1)) h), .g, .g, (.ln l4.length), .g, (.b true), .g, .g]) (args := [.int .i64 x1, (sv v2), .int .i64 x3, (sv v4)]) (h := h) (h' := h) (v := .tuple #[.int .i64 0, .bool false]) (hC := (And.intro c6 (And.intro (SlE.len hv4) (And.intro (F32_spec x1 h _ rfl) trivial)))) (hr := by kernel_rfl)⟩
  · obtain ⟨id7, h7, m7, hp7⟩ := Heapy.mkmap (P := Try.prog) (Heapy.refl hw) (t := 61) (kt := 3) (et := 4) (by kernel_rfl)
    refine bind_opt fun y28 e28 => ?_
    obtain ⟨ee28, SS28, hX28, hA28⟩ := F20_l1 h x1 l2 v2 hv2 x3 l4 v4 hv4 c6 id7 (0, 0, ([] : List (Int × Bool))) y28 e28 (F20_h1 x1 v2 x3 l4 v4 id7 h7 0 0 ([] : List (Int × Bool))) ⟨h7, (Heapy.pick hp7 [0] (by decide)), rfl⟩
    refine dec_bif (fun c29 => ?_) (fun c29 => ?_)
    · simp only [F20_x1, c29, cond_true, cond_false] at hX28
      obtain ⟨rfl, h30, hp30, rfl⟩ := hX28
      intro hr
      obtain rfl := Option.some.inj hr
      exact ⟨h30, Heapy.pick hp30 [] (by decide), pFun_sound good tab_ok (f := 20) (its := [.g, .g, .g, (.c (.int .i64 (F32 x1)) h), .g, .g, (.ln l4.length), .g, (.b false), (.mm (.map (some id7)) h7), .g, .g, (.ln l4.length), .g, (.l F20_m1_1 [] .ret (F20_x1_0 h h30 y28))]) (args := [.int .i64 x1, (sv v2), .int .i64 x3, (sv v4)]) (h := h) (h' := h30) (v := .tuple #[.int .i64 0, .bool false]) (hC := (And.intro hA28 (And.intro (SlE.len hv4) (And.intro m7 (And.intro c6 (And.intro (SlE.len hv4) (And.intro (F32_spec x1 h _ rfl) trivial))))))) (hr := by kernel_rfl)⟩
    · simp only [F20_x1, c29, cond_true, cond_false] at hX28
      obtain ⟨rfl, h31, hp31, rfl⟩ := hX28
      intro hr
      obtain rfl := Option.some.inj hr
      exact ⟨h31, Heapy.pick hp31 [] (by decide), pFun_sound good tab_ok (f := 20) (its := [.g, .g, .g, (.c (.int .i64 (F32 x1)) h), .g, .g, (.ln l4.length), .g, (.b false), (.mm (.map (some id7)) h7), .g, .g, (.ln l4.length), .g, (.l F20_m1_1 [] (.exit 0) (F20_x1_1 h h31 y28)), .g, .g, .g, .g, .g]) (args := [.int .i64 x1, (sv v2), .int .i64 x3, (sv v4)]) (h := h) (h' := h31) (v := .tuple #[.int .i64 y28.2, .bool (decide (y28.2 > 0))]) (hC := (And.intro hA28 (And.intro (SlE.len hv4) (And.intro m7 (And.intro c6 (And.intro (SlE.len hv4) (And.intro (F32_spec x1 h _ rfl) trivial))))))) (hr := by kernel_rfl)⟩
/-! 39 jacquard/jacquardref30.Counts -/
def F39 (x1 : Int) (x2 : Int) (x3 : Int) (x4 : Int) (x5 : Int) : Bool :=
  (bif decide (x2 ≥ 0) then
   (bif decide (x2 < (F29 x1)) then
    (bif decide (x3 ≥ 0) then
     (decide (x3 < (F29 x1)))
    else
     false)
   else
    false)
  else
   false)
set_option maxRecDepth 100000 in
theorem F39_spec (x1 : Int) (x2 : Int) (x3 : Int) (x4 : Int) (x5 : Int) (h : AHeap)  (r : Bool) : F39 x1 x2 x3 x4 x5 = r → ACalls Try.prog 39 [.int .i64 x1, .agg #[.int .i64 x2, .int .i64 x3, .int .i64 x4, .int .i64 x5]] h (fun v' h'' => v' = (.bool r : Value) ∧ h'' = h) := by
  unfold F39
  refine dec_bif (fun c6 => ?_) (fun c6 => ?_)
  · refine dec_bif (fun c8 => ?_) (fun c8 => ?_)
    · refine dec_bif (fun c9 => ?_) (fun c9 => ?_)
      · intro hr
        subst hr
        exact pFun_sound good tab_ok (f := 39) (its := [.g, .g, .g, .g, .g, .g, (.w .g), (.w .g), (.w .g), (.w (.c (.int .i64 (F29 x1)) h)), (.w .g), (.p true), .g, (.w .g), (.w .g), (.w .g), (.p true), .g, (.w .g), (.w .g), (.w .g), (.w (.c (.int .i64 (F29 x1)) h)), (.w .g), (.p true), .g]) (args := [.int .i64 x1, .agg #[.int .i64 x2, .int .i64 x3, .int .i64 x4, .int .i64 x5]]) (h := h) (h' := h) (v := .bool (decide (x3 < (F29 x1)))) (hC := (And.intro c9 (And.intro (g_tt c9) (And.intro (show AKeep h h from (AHeap.sub_refl h)) (And.intro (F29_spec x1 h _ rfl) (And.intro (g_tt c9) (And.intro (g_tt c9) (And.intro (g_tt c9) (And.intro (g_tt c9) (And.intro c8 (And.intro (g_tt c8) (And.intro (g_tt c8) (And.intro (g_tt c8) (And.intro c6 (And.intro (g_tt c6) (And.intro (show AKeep h h from (AHeap.sub_refl h)) (And.intro (F29_spec x1 h _ rfl) (And.intro (g_tt c6) (And.intro (g_tt c6) (And.intro (g_tt c6) (And.intro (g_tt c6) trivial))))))))))))))))))))) (hr := by kernel_rfl)
      · intro hr
        subst hr
        exact pFun_sound good tab_ok (f := 39) (its := [.g, .g, .g, .g, .g, .g, (.w .g), (.w .g), (.w .g), (.w (.c (.int .i64 (F29 x1)) h)), (.w .g), (.p true), .g, (.w .g), (.w .g), (.w .g), (.p true), .g, .n, .n, .n, .n, .n, (.p false), .g]) (args := [.int .i64 x1, .agg #[.int .i64 x2, .int .i64 x3, .int .i64 x4, .int .i64 x5]]) (h := h) (h' := h) (v := .bool false) (hC := (And.intro c9 (And.intro (g_ft c9) (And.intro (g_ft c9) (And.intro (g_ft c9) (And.intro (g_ft c9) (And.intro (g_ft c9) (And.intro c8 (And.intro (g_tt c8) (And.intro (g_tt c8) (And.intro (g_tt c8) (And.intro c6 (And.intro (g_tt c6) (And.intro (show AKeep h h from (AHeap.sub_refl h)) (And.intro (F29_spec x1 h _ rfl) (And.intro (g_tt c6) (And.intro (g_tt c6) (And.intro (g_tt c6) (And.intro (g_tt c6) trivial))))))))))))))))))) (hr := by kernel_rfl)
    · intro hr
      subst hr
      exact pFun_sound good tab_ok (f := 39) (its := [.g, .g, .g, .g, .g, .g, (.w .g), (.w .g), (.w .g), (.w (.c (.int .i64 (F29 x1)) h)), (.w .g), (.p true), .g, .n, .n, .n, (.p false), .g, .n, .n, .n, .n, .n, .g, .g]) (args := [.int .i64 x1, .agg #[.int .i64 x2, .int .i64 x3, .int .i64 x4, .int .i64 x5]]) (h := h) (h' := h) (v := .bool false) (hC := (And.intro (g_ft l_f) (And.intro (g_ft l_f) (And.intro (g_ft l_f) (And.intro (g_ft l_f) (And.intro (g_ft l_f) (And.intro c8 (And.intro (g_ft c8) (And.intro (g_ft c8) (And.intro (g_ft c8) (And.intro c6 (And.intro (g_tt c6) (And.intro (show AKeep h h from (AHeap.sub_refl h)) (And.intro (F29_spec x1 h _ rfl) (And.intro (g_tt c6) (And.intro (g_tt c6) (And.intro (g_tt c6) (And.intro (g_tt c6) trivial)))))))))))))))))) (hr := by kernel_rfl)
  · intro hr
    subst hr
    exact pFun_sound good tab_ok (f := 39) (its := [.g, .g, .g, .g, .g, .g, .n, .n, .n, .n, .n, (.p false), .g, .n, .n, .n, .g, .g, .n, .n, .n, .n, .n, .g, .g]) (args := [.int .i64 x1, .agg #[.int .i64 x2, .int .i64 x3, .int .i64 x4, .int .i64 x5]]) (h := h) (h' := h) (v := .bool false) (hC := (And.intro (g_ft l_f) (And.intro (g_ft l_f) (And.intro (g_ft l_f) (And.intro (g_ft l_f) (And.intro (g_ft l_f) (And.intro (g_ft l_f) (And.intro (g_ft l_f) (And.intro (g_ft l_f) (And.intro c6 (And.intro (g_ft c6) (And.intro (g_ft c6) (And.intro (g_ft c6) (And.intro (g_ft c6) (And.intro (g_ft c6) trivial))))))))))))))) (hr := by kernel_rfl)
/-! 21 jacquard/jacquardref30.Positive -/
def F21_L : List Nat := []
def F21_D : List (Nat × List (Nat × Nat)) := [(13, [(0, 2), (1, 2), (2, 2), (3, 2), (4, 2), (5, 2), (6, 2), (7, 2), (8, 2), (9, 2), (10, 2), (11, 2), (12, 2), (13, 2)]), (18, [(0, 2), (1, 2), (2, 2), (3, 2), (4, 2), (5, 2), (6, 2), (7, 2), (8, 2), (9, 2), (10, 2), (11, 2), (12, 2), (13, 2), (14, 2), (15, 2), (16, 2)])]
def F21_m1_2 : List Bool := [true, false, true, false, true, true, true, true, true, true, false, true, true, true, true, true, true, true, true, true, true, true, true, true, true, true, true, true, true, true, true, true, true, true, true, true, true, true, true, true, true, true, true, true, true, true, true, true, true, true, true, true, true, true, true, true, true, true, true, true, true, true, true, true, true, true, true, true, true, true, true, true, true, true, true, true, true, true, true, true, true, true, true, true, true, true, true, true, true, true, true, true, true, true, true, true, true, true, true, true, true, true, true, true, true, true, true, true, true, true, true]
def F21_m1_1 : List Bool := [false, false, false, false, true, true, true, true, true, true, false, true, true, true, true, true, false, false, true, true, true, true, true, true, true, true, true, true, true, true, true, true, true, true, true, true, true, true, true, true, true, true, true, true, true, true, true, true, true, true, true, true, true, true, true, true, true, true, true, true, true, true, true, true, true, true, true, true, true, true, true, true, true, true, true, true, true, true, true, true, true, true, true, true, true, true, true, true, true, true, true, true, true, true, true, true, true, true, true, true, true, true, true, true, true, true, true, true, true, true, true]
def F21_m1_0 : List Bool := [true, true, true, true, true, true, true, true, false, false, true, true, true, true, true, true, true, true, true, true, true, true, true, true, true, true, true, true, true, true, true, true, true, true, true, true, true, true, true, true, true, true, true, true, true, true, true, true, true, true, true, true, true, true, true, true, true, true, true, true, true, true, true, true, true, true, true, true, true, true, true, true, true, true, true, true, true, true, true, true, true, true, true, true, true, true, true, true, true, true, true, true, true, true, true, true, true, true, true, true, true, true, true, true, true, true, true, true, true, true, true]
def F21_s1 (x1 : Int) (l2 : List (Int × Int × Int × Int)) (x3 : Int) (l4 : List Int) (a5 : Int) (a6 : Int) : Option ((Int × Int) ⊕ (Nat × Int)) :=
  (bif decide (a6 < (l4.length : Int)) then
   (Option.bind (at? l4 a6) fun y8 =>
   (bif decide (y8 < 0) then
    some (.inr (0, 0))
   else
    (bif decide (y8 ≥ (l2.length : Int)) then
     some (.inr (0, 0))
    else
     (Option.bind (at? l2 y8) fun y11 =>
     (bif (!(F39 x1 y11.1 y11.2.1 y11.2.2.1 y11.2.2.2)) then
      some (.inr (0, 0))
     else
      some (.inl ((IntKind.i64.wrap (a5 + (F19 y11.1 y11.2.1 y11.2.2.1 y11.2.2.2 x3))), (IntKind.i64.wrap (a6 + 1)))))))))
  else
   some (.inr (1, a5)))
def F21_h1 (h : AHeap) (x1 : Int) (v2 : Hd) (x3 : Int) (l4 : List Int) (v4 : Hd)  (a5 : Int) (a6 : Int) : AS := ⟨[.int .i64 x1, (sv v2), .int .i64 x3, (sv v4), junk, junk, junk, junk, junk, junk, .int .i64 a5, junk, junk, junk, junk, junk, .int .i64 (l4.length : Int), .int .i64 a6, junk, junk, junk, junk, junk, junk, junk, junk, junk, junk, junk, junk, junk, junk, junk, junk, junk, junk, junk, junk, junk, junk, junk, junk, junk, junk, junk, junk, junk, junk, junk, junk, junk, junk, junk, junk, junk, junk, junk, junk, junk, junk, junk, junk, junk, junk, junk, junk, junk, junk, junk, junk, junk, junk, junk, junk, junk, junk, junk, junk, junk, junk, junk, junk, junk, junk, junk, junk, junk, junk, junk, junk, junk, junk, junk, junk, junk, junk, junk, junk, junk, junk, junk, junk, junk, junk, junk, junk, junk, junk, junk, junk, junk], [], h⟩
theorem F21_d1 : drawsOk F21_D (codeOf Try.prog 21 [1, 1, 0, 1, 0, 0]) = true := by kernel_rfl
def F21_x1_0 (h : AHeap) (v2 : Hd) (v4 : Hd)  (r : Nat × Int) : AS := ⟨[junk, junk, junk, junk, junk, junk, junk, junk, .int .i64 0, .bool false, junk, junk, junk, junk, junk, junk, junk, junk, junk, junk, junk, junk, junk, junk, junk, junk, junk, junk, junk, junk, junk, junk, junk, junk, junk, junk, junk, junk, junk, junk, junk, junk, junk, junk, junk, junk, junk, junk, junk, junk, junk, junk, junk, junk, junk, junk, junk, junk, junk, junk, junk, junk, junk, junk, junk, junk, junk, junk, junk, junk, junk, junk, junk, junk, junk, junk, junk, junk, junk, junk, junk, junk, junk, junk, junk, junk, junk, junk, junk, junk, junk, junk, junk, junk, junk, junk, junk, junk, junk, junk, junk, junk, junk, junk, junk, junk, junk, junk, junk, junk, junk], [], h⟩
def F21_x1_1 (h : AHeap) (v2 : Hd) (v4 : Hd)  (r : Nat × Int) : AS := ⟨[junk, (sv v2), junk, (sv v4), junk, junk, junk, junk, junk, junk, .int .i64 r.2, junk, junk, junk, junk, junk, junk, junk, junk, junk, junk, junk, junk, junk, junk, junk, junk, junk, junk, junk, junk, junk, junk, junk, junk, junk, junk, junk, junk, junk, junk, junk, junk, junk, junk, junk, junk, junk, junk, junk, junk, junk, junk, junk, junk, junk, junk, junk, junk, junk, junk, junk, junk, junk, junk, junk, junk, junk, junk, junk, junk, junk, junk, junk, junk, junk, junk, junk, junk, junk, junk, junk, junk, junk, junk, junk, junk, junk, junk, junk, junk, junk, junk, junk, junk, junk, junk, junk, junk, junk, junk, junk, junk, junk, junk, junk, junk, junk, junk, junk, junk], [], h⟩
def F21_x1 (h : AHeap) (v2 : Hd) (v4 : Hd) (r : Nat × Int) : Exit × AS := (bif Nat.beq r.1 0 then (.ret, (F21_x1_0 h v2 v4 r)) else ((.exit 0), (F21_x1_1 h v2 v4 r)))
set_option maxRecDepth 100000 in
theorem F21_r1 (h : AHeap) (x1 : Int) (l2 : List (Int × Int × Int × Int)) (v2 : Hd) (hv2 : SlE E38 4 h (sv v2) l2) (x3 : Int) (l4 : List Int) (v4 : Hd) (hv4 : SlE E3 1 h (sv v4) l4) (a5 : Int) (a6 : Int) (o : (Int × Int) ⊕ (Nat × Int)) : F21_s1 x1 l2 x3 l4 a5 a6 = some o → RdF Try.prog (codeOf Try.prog 21 [1, 1, 0, 1, 0, 0]) (fun (s : Int × Int) => (F21_h1 h x1 v2 x3 l4 v4 s.1 s.2)) (F21_x1 h v2 v4) (F21_h1 h x1 v2 x3 l4 v4 a5 a6) o := by
  unfold F21_s1
  refine dec_bif (fun c7 => ?_) (fun c7 => ?_)
  · refine bind_opt fun y8 e8 => ?_
    obtain ⟨id8, off8, g8, cs8, ix8, at8, rfl⟩ := SlE.at hv4 e8
    refine dec_bif (fun c9 => ?_) (fun c9 => ?_)
    · intro hr
      obtain rfl := Option.some.inj hr
      show AWp Try.prog _ (Ends1 ((F21_x1 h v2 v4) ((0, 0) : Nat × Int)).1 ((F21_x1 h v2 v4) ((0, 0) : Nat × Int)).2) _
      exact pEnd_sound good (L := F21_L) (D := F21_D) (its := [.g, (.b true), .g, .g, .g, .g, (.ix id8 off8 g8), (.ld (.int .i64 y8)), .g, .g, .n, .n, .n, .n, .n, .n, .n, (.p true), .g, .n, .n, .n, .n, .n, .n, .n, .n, .n, .n, .g, (.b true), .g, .g]) (ds := F21_m1_0) (ks := []) (e := ((F21_x1 h v2 v4) ((0, 0) : Nat × Int)).1) (s2 := ((F21_x1 h v2 v4) ((0, 0) : Nat × Int)).2) (hC := (And.intro l_t (And.intro (g_tf l_t) (And.intro (g_tf l_t) (And.intro (g_tf l_t) (And.intro (g_tf l_t) (And.intro (g_tf l_t) (And.intro (g_tf l_t) (And.intro (g_tf l_t) (And.intro (g_tf l_t) (And.intro (g_tf l_t) (And.intro (g_tf l_t) (And.intro c9 (And.intro (g_tf c9) (And.intro (g_tf c9) (And.intro (g_tf c9) (And.intro (g_tf c9) (And.intro (g_tf c9) (And.intro (g_tf c9) (And.intro (g_tf c9) (And.intro (At.one (P := Try.prog) (t := 3) (v := .int .i64 y8) at8 (by kernel_rfl) 0 rfl rfl) (And.intro ix8 (And.intro c7 trivial))))))))))))))))))))))) (hd := F21_d1) (h := by kernel_rfl)
    · refine dec_bif (fun c10 => ?_) (fun c10 => ?_)
      · intro hr
        obtain rfl := Option.some.inj hr
        show AWp Try.prog _ (Ends1 ((F21_x1 h v2 v4) ((0, 0) : Nat × Int)).1 ((F21_x1 h v2 v4) ((0, 0) : Nat × Int)).2) _
        exact pEnd_sound good (L := F21_L) (D := F21_D) (its := [.g, (.b true), .g, .g, .g, .g, (.ix id8 off8 g8), (.ld (.int .i64 y8)), .g, .g, (.w .g), (.w .g), (.w (.ix id8 off8 g8)), (.w (.ld (.int .i64 y8))), (.w .g), (.w (.ln l2.length)), (.w .g), (.p false), .g, .n, .n, .n, .n, .n, .n, .n, .n, .n, .n, (.p true), (.b true), .g, .g]) (ds := F21_m1_0) (ks := []) (e := ((F21_x1 h v2 v4) ((0, 0) : Nat × Int)).1) (s2 := ((F21_x1 h v2 v4) ((0, 0) : Nat × Int)).2) (hC := (And.intro l_t (And.intro c10 (And.intro (g_tf c10) (And.intro (g_tf c10) (And.intro (g_tf c10) (And.intro (g_tf c10) (And.intro (g_tf c10) (And.intro (g_tf c10) (And.intro (g_tf c10) (And.intro (g_tf c10) (And.intro (g_tf c10) (And.intro (g_tf c10) (And.intro c9 (And.intro (g_ff c9) (And.intro (SlE.len hv2) (And.intro (g_ff c9) (And.intro (g_ff c9) (And.intro (At.one (P := Try.prog) (t := 3) (v := .int .i64 y8) at8 (by kernel_rfl) 0 rfl rfl) (And.intro (g_ff c9) (And.intro ix8 (And.intro (g_ff c9) (And.intro (g_ff c9) (And.intro (g_ff c9) (And.intro (At.one (P := Try.prog) (t := 3) (v := .int .i64 y8) at8 (by kernel_rfl) 0 rfl rfl) (And.intro ix8 (And.intro c7 trivial))))))))))))))))))))))))))) (hd := F21_d1) (h := by kernel_rfl)
      · refine bind_opt fun y11 e11 => ?_
        obtain ⟨id11, off11, g11, cs11, ix11, at11, rfl⟩ := SlE.at hv2 e11
        refine dec_bif (fun c13 => ?_) (fun c13 => ?_)
        · intro hr
          obtain rfl := Option.some.inj hr
          show AWp Try.prog _ (Ends1 ((F21_x1 h v2 v4) ((0, 0) : Nat × Int)).1 ((F21_x1 h v2 v4) ((0, 0) : Nat × Int)).2) _
          exact pEnd_sound good (L := F21_L) (D := F21_D) (its := [.g, (.b true), .g, .g, .g, .g, (.ix id8 off8 g8), (.ld (.int .i64 y8)), .g, .g, (.w .g), (.w .g), (.w (.ix id8 off8 g8)), (.w (.ld (.int .i64 y8))), (.w .g), (.w (.ln l2.length)), (.w .g), (.p false), .g, (.w .g), (.w .g), (.w .g), (.w .g), (.w (.ix id8 off8 g8)), (.w (.ld (.int .i64 y8))), (.w (.ix id11 off11 g11)), (.w (.ld (.agg #[.int .i64 y11.1, .int .i64 y11.2.1, .int .i64 y11.2.2.1, .int .i64 y11.2.2.2]))), (.w (.c (.bool (F39 x1 y11.1 y11.2.1 y11.2.2.1 y11.2.2.2)) h)), (.w .g), (.p false), (.b true), .g, .g]) (ds := F21_m1_0) (ks := []) (e := ((F21_x1 h v2 v4) ((0, 0) : Nat × Int)).1) (s2 := ((F21_x1 h v2 v4) ((0, 0) : Nat × Int)).2) (hC := (And.intro c13 (And.intro c10 (And.intro (g_ff c10) (And.intro (F39_spec x1 y11.1 y11.2.1 y11.2.2.1 y11.2.2.2 h _ rfl) (And.intro (g_ff c10) (And.intro (At.agg (P := Try.prog) (t := 38) (v := .agg #[.int .i64 y11.1, .int .i64 y11.2.1, .int .i64 y11.2.2.1, .int .i64 y11.2.2.2]) (m := 4) at11 (by kernel_rfl) (by kernel_rfl) 0 (by kernel_rfl) rfl) (And.intro (g_ff c10) (And.intro ix11 (And.intro (g_ff c10) (And.intro (At.one (P := Try.prog) (t := 3) (v := .int .i64 y8) at8 (by kernel_rfl) 0 rfl rfl) (And.intro (g_ff c10) (And.intro ix8 (And.intro (g_ff c10) (And.intro (g_ff c10) (And.intro (g_ff c10) (And.intro (g_ff c10) (And.intro (g_ff c10) (And.intro c9 (And.intro (g_ff c9) (And.intro (SlE.len hv2) (And.intro (g_ff c9) (And.intro (g_ff c9) (And.intro (At.one (P := Try.prog) (t := 3) (v := .int .i64 y8) at8 (by kernel_rfl) 0 rfl rfl) (And.intro (g_ff c9) (And.intro ix8 (And.intro (g_ff c9) (And.intro (g_ff c9) (And.intro (g_ff c9) (And.intro (At.one (P := Try.prog) (t := 3) (v := .int .i64 y8) at8 (by kernel_rfl) 0 rfl rfl) (And.intro ix8 (And.intro c7 trivial)))))))))))))))))))))))))))))))) (hd := F21_d1) (h := by kernel_rfl)
        · intro hr
          obtain rfl := Option.some.inj hr
          show AWp Try.prog _ (Ends1 .normal (F21_h1 h x1 v2 x3 l4 v4 (IntKind.i64.wrap (a5 + (F19 y11.1 y11.2.1 y11.2.2.1 y11.2.2.2 x3))) (IntKind.i64.wrap (a6 + 1)))) _
          exact pEnd_sound good (L := F21_L) (D := F21_D) (its := [.g, (.b true), .g, .g, .g, .g, (.ix id8 off8 g8), (.ld (.int .i64 y8)), .g, .g, (.w .g), (.w .g), (.w (.ix id8 off8 g8)), (.w (.ld (.int .i64 y8))), (.w .g), (.w (.ln l2.length)), (.w .g), (.p false), .g, (.w .g), (.w .g), (.w .g), (.w .g), (.w (.ix id8 off8 g8)), (.w (.ld (.int .i64 y8))), (.w (.ix id11 off11 g11)), (.w (.ld (.agg #[.int .i64 y11.1, .int .i64 y11.2.1, .int .i64 y11.2.2.1, .int .i64 y11.2.2.2]))), (.w (.c (.bool (F39 x1 y11.1 y11.2.1 y11.2.2.1 y11.2.2.2)) h)), (.w .g), (.p false), (.b false), .g, .g, .g, .g, (.ix id8 off8 g8), (.ld (.int .i64 y8)), (.ix id11 off11 g11), (.ld (.agg #[.int .i64 y11.1, .int .i64 y11.2.1, .int .i64 y11.2.2.1, .int .i64 y11.2.2.2])), .g, (.c (.int .i64 (F19 y11.1 y11.2.1 y11.2.2.1 y11.2.2.2 x3)) h), .g, .g, .g, .g]) (ds := F21_m1_1) (ks := []) (e := .normal) (s2 := (F21_h1 h x1 v2 x3 l4 v4 (IntKind.i64.wrap (a5 + (F19 y11.1 y11.2.1 y11.2.2.1 y11.2.2.2 x3))) (IntKind.i64.wrap (a6 + 1)))) (hC := (And.intro (F19_spec y11.1 y11.2.1 y11.2.2.1 y11.2.2.2 x3 h _ rfl) (And.intro (At.agg (P := Try.prog) (t := 38) (v := .agg #[.int .i64 y11.1, .int .i64 y11.2.1, .int .i64 y11.2.2.1, .int .i64 y11.2.2.2]) (m := 4) at11 (by kernel_rfl) (by kernel_rfl) 0 (by kernel_rfl) rfl) (And.intro ix11 (And.intro (At.one (P := Try.prog) (t := 3) (v := .int .i64 y8) at8 (by kernel_rfl) 0 rfl rfl) (And.intro ix8 (And.intro c13 (And.intro c10 (And.intro (g_ff c10) (And.intro (F39_spec x1 y11.1 y11.2.1 y11.2.2.1 y11.2.2.2 h _ rfl) (And.intro (g_ff c10) (And.intro (At.agg (P := Try.prog) (t := 38) (v := .agg #[.int .i64 y11.1, .int .i64 y11.2.1, .int .i64 y11.2.2.1, .int .i64 y11.2.2.2]) (m := 4) at11 (by kernel_rfl) (by kernel_rfl) 0 (by kernel_rfl) rfl) (And.intro (g_ff c10) (And.intro ix11 (And.intro (g_ff c10) (And.intro (At.one (P := Try.prog) (t := 3) (v := .int .i64 y8) at8 (by kernel_rfl) 0 rfl rfl) (And.intro (g_ff c10) (And.intro ix8 (And.intro (g_ff c10) (And.intro (g_ff c10) (And.intro (g_ff c10) (And.intro (g_ff c10) (And.intro (g_ff c10) (And.intro c9 (And.intro (g_ff c9) (And.intro (SlE.len hv2) (And.intro (g_ff c9) (And.intro (g_ff c9) (And.intro (At.one (P := Try.prog) (t := 3) (v := .int .i64 y8) at8 (by kernel_rfl) 0 rfl rfl) (And.intro (g_ff c9) (And.intro ix8 (And.intro (g_ff c9) (And.intro (g_ff c9) (And.intro (g_ff c9) (And.intro (At.one (P := Try.prog) (t := 3) (v := .int .i64 y8) at8 (by kernel_rfl) 0 rfl rfl) (And.intro ix8 (And.intro c7 trivial))))))))))))))))))))))))))))))))))))) (hd := F21_d1) (h := by kernel_rfl)
  · intro hr
    obtain rfl := Option.some.inj hr
    show AWp Try.prog _ (Ends1 ((F21_x1 h v2 v4) ((1, a5) : Nat × Int)).1 ((F21_x1 h v2 v4) ((1, a5) : Nat × Int)).2) _
    exact pEnd_sound good (L := F21_L) (D := F21_D) (its := [.g, (.b false)]) (ds := F21_m1_2) (ks := []) (e := ((F21_x1 h v2 v4) ((1, a5) : Nat × Int)).1) (s2 := ((F21_x1 h v2 v4) ((1, a5) : Nat × Int)).2) (hC := (And.intro c7 trivial)) (hd := F21_d1) (h := by kernel_rfl)
theorem F21_l1_0 (h : AHeap) (x1 : Int) (l2 : List (Int × Int × Int × Int)) (v2 : Hd) (hv2 : SlE E38 4 h (sv v2) l2) (x3 : Int) (l4 : List Int) (v4 : Hd) (hv4 : SlE E3 1 h (sv v4) l4) (x : Int × Int) (r : Nat × Int) (hl : loopO (fun (s : Int × Int) => F21_s1 x1 l2 x3 l4 s.1 s.2) x = some r) (q0 : Nat.beq r.1 0 = true) : AWp Try.prog (.loop (codeOf Try.prog 21 [1, 1, 0, 1, 0, 0])) (Ends1 .ret (F21_x1_0 h v2 v4 r)) ((fun (s : Int × Int) => (F21_h1 h x1 v2 x3 l4 v4 s.1 s.2)) x) := by
  have k := loop_fun (P := Try.prog) (c := (codeOf Try.prog 21 [1, 1, 0, 1, 0, 0])) (step := (fun (s : Int × Int) => F21_s1 x1 l2 x3 l4 s.1 s.2)) (hd := (fun (s : Int × Int) => (F21_h1 h x1 v2 x3 l4 v4 s.1 s.2))) (X := (F21_x1 h v2 v4)) (by intro t; unfold F21_x1; cases Nat.beq t.1 0 <;> (intro h; cases h)) (fun x => F21_r1 h x1 l2 v2 hv2 x3 l4 v4 hv4 x.1 x.2) hl
  simp only [F21_x1, q0, cond_true, cond_false] at k
  exact k
theorem F21_l1_1 (h : AHeap) (x1 : Int) (l2 : List (Int × Int × Int × Int)) (v2 : Hd) (hv2 : SlE E38 4 h (sv v2) l2) (x3 : Int) (l4 : List Int) (v4 : Hd) (hv4 : SlE E3 1 h (sv v4) l4) (x : Int × Int) (r : Nat × Int) (hl : loopO (fun (s : Int × Int) => F21_s1 x1 l2 x3 l4 s.1 s.2) x = some r) (q0 : Nat.beq r.1 0 = false) : AWp Try.prog (.loop (codeOf Try.prog 21 [1, 1, 0, 1, 0, 0])) (Ends1 (.exit 0) (F21_x1_1 h v2 v4 r)) ((fun (s : Int × Int) => (F21_h1 h x1 v2 x3 l4 v4 s.1 s.2)) x) := by
  have k := loop_fun (P := Try.prog) (c := (codeOf Try.prog 21 [1, 1, 0, 1, 0, 0])) (step := (fun (s : Int × Int) => F21_s1 x1 l2 x3 l4 s.1 s.2)) (hd := (fun (s : Int × Int) => (F21_h1 h x1 v2 x3 l4 v4 s.1 s.2))) (X := (F21_x1 h v2 v4)) (by intro t; unfold F21_x1; cases Nat.beq t.1 0 <;> (intro h; cases h)) (fun x => F21_r1 h x1 l2 v2 hv2 x3 l4 v4 hv4 x.1 x.2) hl
  simp only [F21_x1, q0, cond_true, cond_false] at k
  exact k
def F21_m2_2 : List Bool := [true, false, true, false, true, true, true, true, true, true, false, true, true, true, true, true, true, true, true, true, true, true, true, true, true, true, true, true, true, true, true, true, true, true, true, true, true, true, true, true, true, true, true, true, true, true, true, true, true, true, true, true, true, true, true, true, true, true, true, false, false, true, true, true, true, true, true, true, true, true, true, true, true, true, true, true, true, true, true, true, true, true, true, true, true, true, true, true, true, true, true, true, true, true, true, true, true, true, true, true, true, true, true, true, true, true, true, true, true, true, true]
def F21_m2_1 : List Bool := [true, false, true, false, true, true, true, true, true, true, false, true, false, true, true, true, true, true, true, true, true, true, true, true, true, true, true, true, true, true, true, true, true, true, true, true, true, true, true, true, true, true, true, true, true, true, true, true, true, true, true, true, true, true, true, true, true, true, true, false, false, true, true, true, true, true, true, true, true, true, true, true, true, true, true, true, true, true, true, true, true, true, true, true, true, false, false, true, true, true, true, true, true, true, true, true, true, true, true, true, true, true, true, true, true, true, true, true, true, true, true]
def F21_m2_0 : List Bool := [true, true, true, true, true, true, true, true, false, false, true, true, true, true, true, true, true, true, true, true, true, true, true, true, true, true, true, true, true, true, true, true, true, true, true, true, true, true, true, true, true, true, true, true, true, true, true, true, true, true, true, true, true, true, true, true, true, true, true, true, true, true, true, true, true, true, true, true, true, true, true, true, true, true, true, true, true, true, true, true, true, true, true, true, true, true, true, true, true, true, true, true, true, true, true, true, true, true, true, true, true, true, true, true, true, true, true, true, true, true, true]
def F21_s2 (l2 : List (Int × Int × Int × Int)) (l4 : List Int) (a17 : Int) (y22 : Int × Int × Int × Int) (a25 : Int) : Option (Int ⊕ Nat) :=
  (bif decide (a25 < a17) then
   (Option.bind (at? l4 a25) fun y27 =>
   (Option.bind (at? l2 y27) fun y28 =>
   (bif (y28.1 == y22.1) then
    some (.inr 0)
   else
    some (.inl (IntKind.i64.wrap (a25 + 1))))))
  else
   some (.inr 1))
def F21_h2 (h : AHeap) (v2 : Hd) (l4 : List Int) (v4 : Hd) (y15 : Nat × Int) (a17 : Int)  (a25 : Int) : AS := ⟨[junk, (sv v2), junk, (sv v4), junk, junk, junk, junk, junk, junk, .int .i64 y15.2, junk, .int .i64 a17, junk, junk, junk, junk, junk, junk, junk, junk, junk, junk, junk, junk, junk, junk, junk, junk, junk, junk, junk, junk, junk, junk, junk, junk, junk, junk, junk, junk, junk, junk, junk, junk, junk, junk, junk, junk, junk, junk, junk, junk, junk, junk, junk, junk, junk, junk, .int .i64 (l4.length : Int), .int .i64 a17, junk, junk, junk, junk, junk, junk, junk, junk, junk, junk, junk, junk, junk, junk, junk, junk, junk, junk, junk, junk, junk, junk, junk, junk, .int .i64 a17, .int .i64 a25, junk, junk, junk, junk, junk, junk, junk, junk, junk, junk, junk, junk, junk, junk, junk, junk, junk, junk, junk, junk, junk, junk, junk, junk], [], h⟩
theorem F21_d2 : drawsOk F21_D (codeOf Try.prog 21 [1, 1, 1, 0, 1, 0, 0, 1, 1, 0, 0, 1, 1, 1, 1, 0, 0]) = true := by kernel_rfl
def F21_x2_0 (h : AHeap) (v2 : Hd) (l4 : List Int) (v4 : Hd) (y15 : Nat × Int) (a17 : Int)  (r : Nat) : AS := ⟨[junk, junk, junk, junk, junk, junk, junk, junk, .int .i64 0, .bool false, junk, junk, junk, junk, junk, junk, junk, junk, junk, junk, junk, junk, junk, junk, junk, junk, junk, junk, junk, junk, junk, junk, junk, junk, junk, junk, junk, junk, junk, junk, junk, junk, junk, junk, junk, junk, junk, junk, junk, junk, junk, junk, junk, junk, junk, junk, junk, junk, junk, junk, junk, junk, junk, junk, junk, junk, junk, junk, junk, junk, junk, junk, junk, junk, junk, junk, junk, junk, junk, junk, junk, junk, junk, junk, junk, junk, junk, junk, junk, junk, junk, junk, junk, junk, junk, junk, junk, junk, junk, junk, junk, junk, junk, junk, junk, junk, junk, junk, junk, junk, junk], [], h⟩
def F21_x2_1 (h : AHeap) (v2 : Hd) (l4 : List Int) (v4 : Hd) (y15 : Nat × Int) (a17 : Int)  (r : Nat) : AS := ⟨[junk, (sv v2), junk, (sv v4), junk, junk, junk, junk, junk, junk, .int .i64 y15.2, junk, junk, junk, junk, junk, junk, junk, junk, junk, junk, junk, junk, junk, junk, junk, junk, junk, junk, junk, junk, junk, junk, junk, junk, junk, junk, junk, junk, junk, junk, junk, junk, junk, junk, junk, junk, junk, junk, junk, junk, junk, junk, junk, junk, junk, junk, junk, junk, .int .i64 (l4.length : Int), .int .i64 a17, junk, junk, junk, junk, junk, junk, junk, junk, junk, junk, junk, junk, junk, junk, junk, junk, junk, junk, junk, junk, junk, junk, junk, junk, junk, junk, junk, junk, junk, junk, junk, junk, junk, junk, junk, junk, junk, junk, junk, junk, junk, junk, junk, junk, junk, junk, junk, junk, junk, junk], [], h⟩
def F21_x2 (h : AHeap) (v2 : Hd) (l4 : List Int) (v4 : Hd) (y15 : Nat × Int) (a17 : Int) (r : Nat) : Exit × AS := (bif Nat.beq r 0 then (.ret, (F21_x2_0 h v2 l4 v4 y15 a17 r)) else ((.exit 4), (F21_x2_1 h v2 l4 v4 y15 a17 r)))
set_option maxRecDepth 100000 in
theorem F21_r2 (h : AHeap) (l2 : List (Int × Int × Int × Int)) (v2 : Hd) (hv2 : SlE E38 4 h (sv v2) l2) (l4 : List Int) (v4 : Hd) (hv4 : SlE E3 1 h (sv v4) l4) (y15 : Nat × Int) (a17 : Int) (y21 : Int) (id21 : Nat) (off21 : Nat) (g21 : Nat) (ix21 : ixv 1 (sv v4) a17 = some (id21, off21, g21)) (at21 : At h id21 off21 g21 (enc3 y21)) (y22 : Int × Int × Int × Int) (id22 : Nat) (off22 : Nat) (g22 : Nat) (ix22 : ixv 4 (sv v2) y21 = some (id22, off22, g22)) (at22 : At h id22 off22 g22 (enc38 y22)) (a25 : Int) (o : Int ⊕ Nat) : F21_s2 l2 l4 a17 y22 a25 = some o → RdF Try.prog (codeOf Try.prog 21 [1, 1, 1, 0, 1, 0, 0, 1, 1, 0, 0, 1, 1, 1, 1, 0, 0]) (fun (s : Int) => (F21_h2 h v2 l4 v4 y15 a17 s)) (F21_x2 h v2 l4 v4 y15 a17) (F21_h2 h v2 l4 v4 y15 a17 a25) o := by
  unfold F21_s2
  refine dec_bif (fun c26 => ?_) (fun c26 => ?_)
  · refine bind_opt fun y27 e27 => ?_
    obtain ⟨id27, off27, g27, cs27, ix27, at27, rfl⟩ := SlE.at hv4 e27
    refine bind_opt fun y28 e28 => ?_
    obtain ⟨id28, off28, g28, cs28, ix28, at28, rfl⟩ := SlE.at hv2 e28
    refine dec_bif (fun c29 => ?_) (fun c29 => ?_)
    · intro hr
      obtain rfl := Option.some.inj hr
      show AWp Try.prog _ (Ends1 ((F21_x2 h v2 l4 v4 y15 a17) (0 : Nat)).1 ((F21_x2 h v2 l4 v4 y15 a17) (0 : Nat)).2) _
      exact pEnd_sound good (L := F21_L) (D := F21_D) (its := [.g, (.b true), .g, .g, .g, .g, .g, (.ix id27 off27 g27), (.ld (.int .i64 y27)), (.ix id28 off28 g28), .g, (.ld (.int .i64 y28.1)), .g, .g, .g, (.ix id21 off21 g21), (.ld (.int .i64 y21)), (.ix id22 off22 g22), .g, (.ld (.int .i64 y22.1)), .g, (.b true), .g, .g]) (ds := F21_m2_0) (ks := []) (e := ((F21_x2 h v2 l4 v4 y15 a17) (0 : Nat)).1) (s2 := ((F21_x2 h v2 l4 v4 y15 a17) (0 : Nat)).2) (hC := (And.intro c29 (And.intro (At.one (P := Try.prog) (t := 3) (v := .int .i64 y22.1) at22 (by kernel_rfl) 0 rfl rfl) (And.intro ix22 (And.intro (At.one (P := Try.prog) (t := 3) (v := .int .i64 y21) at21 (by kernel_rfl) 0 rfl rfl) (And.intro ix21 (And.intro (At.one (P := Try.prog) (t := 3) (v := .int .i64 y28.1) at28 (by kernel_rfl) 0 rfl rfl) (And.intro ix28 (And.intro (At.one (P := Try.prog) (t := 3) (v := .int .i64 y27) at27 (by kernel_rfl) 0 rfl rfl) (And.intro ix27 (And.intro c26 trivial))))))))))) (hd := F21_d2) (h := by kernel_rfl)
    · intro hr
      obtain rfl := Option.some.inj hr
      show AWp Try.prog _ (Ends1 .normal (F21_h2 h v2 l4 v4 y15 a17 (IntKind.i64.wrap (a25 + 1)))) _
      exact pEnd_sound good (L := F21_L) (D := F21_D) (its := [.g, (.b true), .g, .g, .g, .g, .g, (.ix id27 off27 g27), (.ld (.int .i64 y27)), (.ix id28 off28 g28), .g, (.ld (.int .i64 y28.1)), .g, .g, .g, (.ix id21 off21 g21), (.ld (.int .i64 y21)), (.ix id22 off22 g22), .g, (.ld (.int .i64 y22.1)), .g, (.b false), .g, .g]) (ds := F21_m2_1) (ks := []) (e := .normal) (s2 := (F21_h2 h v2 l4 v4 y15 a17 (IntKind.i64.wrap (a25 + 1)))) (hC := (And.intro c29 (And.intro (At.one (P := Try.prog) (t := 3) (v := .int .i64 y22.1) at22 (by kernel_rfl) 0 rfl rfl) (And.intro ix22 (And.intro (At.one (P := Try.prog) (t := 3) (v := .int .i64 y21) at21 (by kernel_rfl) 0 rfl rfl) (And.intro ix21 (And.intro (At.one (P := Try.prog) (t := 3) (v := .int .i64 y28.1) at28 (by kernel_rfl) 0 rfl rfl) (And.intro ix28 (And.intro (At.one (P := Try.prog) (t := 3) (v := .int .i64 y27) at27 (by kernel_rfl) 0 rfl rfl) (And.intro ix27 (And.intro c26 trivial))))))))))) (hd := F21_d2) (h := by kernel_rfl)
  · intro hr
    obtain rfl := Option.some.inj hr
    show AWp Try.prog _ (Ends1 ((F21_x2 h v2 l4 v4 y15 a17) (1 : Nat)).1 ((F21_x2 h v2 l4 v4 y15 a17) (1 : Nat)).2) _
    exact pEnd_sound good (L := F21_L) (D := F21_D) (its := [.g, (.b false)]) (ds := F21_m2_2) (ks := []) (e := ((F21_x2 h v2 l4 v4 y15 a17) (1 : Nat)).1) (s2 := ((F21_x2 h v2 l4 v4 y15 a17) (1 : Nat)).2) (hC := (And.intro c26 trivial)) (hd := F21_d2) (h := by kernel_rfl)
theorem F21_l2_0 (h : AHeap) (l2 : List (Int × Int × Int × Int)) (v2 : Hd) (hv2 : SlE E38 4 h (sv v2) l2) (l4 : List Int) (v4 : Hd) (hv4 : SlE E3 1 h (sv v4) l4) (y15 : Nat × Int) (a17 : Int) (y21 : Int) (id21 : Nat) (off21 : Nat) (g21 : Nat) (ix21 : ixv 1 (sv v4) a17 = some (id21, off21, g21)) (at21 : At h id21 off21 g21 (enc3 y21)) (y22 : Int × Int × Int × Int) (id22 : Nat) (off22 : Nat) (g22 : Nat) (ix22 : ixv 4 (sv v2) y21 = some (id22, off22, g22)) (at22 : At h id22 off22 g22 (enc38 y22)) (x : Int) (r : Nat) (hl : loopO (fun (s : Int) => F21_s2 l2 l4 a17 y22 s) x = some r) (q0 : Nat.beq r 0 = true) : AWp Try.prog (.loop (codeOf Try.prog 21 [1, 1, 1, 0, 1, 0, 0, 1, 1, 0, 0, 1, 1, 1, 1, 0, 0])) (Ends1 .ret (F21_x2_0 h v2 l4 v4 y15 a17 r)) ((fun (s : Int) => (F21_h2 h v2 l4 v4 y15 a17 s)) x) := by
  have k := loop_fun (P := Try.prog) (c := (codeOf Try.prog 21 [1, 1, 1, 0, 1, 0, 0, 1, 1, 0, 0, 1, 1, 1, 1, 0, 0])) (step := (fun (s : Int) => F21_s2 l2 l4 a17 y22 s)) (hd := (fun (s : Int) => (F21_h2 h v2 l4 v4 y15 a17 s))) (X := (F21_x2 h v2 l4 v4 y15 a17)) (by intro t; unfold F21_x2; cases Nat.beq t 0 <;> (intro h; cases h)) (fun x => F21_r2 h l2 v2 hv2 l4 v4 hv4 y15 a17 y21 id21 off21 g21 ix21 at21 y22 id22 off22 g22 ix22 at22 x) hl
  simp only [F21_x2, q0, cond_true, cond_false] at k
  exact k
theorem F21_l2_1 (h : AHeap) (l2 : List (Int × Int × Int × Int)) (v2 : Hd) (hv2 : SlE E38 4 h (sv v2) l2) (l4 : List Int) (v4 : Hd) (hv4 : SlE E3 1 h (sv v4) l4) (y15 : Nat × Int) (a17 : Int) (y21 : Int) (id21 : Nat) (off21 : Nat) (g21 : Nat) (ix21 : ixv 1 (sv v4) a17 = some (id21, off21, g21)) (at21 : At h id21 off21 g21 (enc3 y21)) (y22 : Int × Int × Int × Int) (id22 : Nat) (off22 : Nat) (g22 : Nat) (ix22 : ixv 4 (sv v2) y21 = some (id22, off22, g22)) (at22 : At h id22 off22 g22 (enc38 y22)) (x : Int) (r : Nat) (hl : loopO (fun (s : Int) => F21_s2 l2 l4 a17 y22 s) x = some r) (q0 : Nat.beq r 0 = false) : AWp Try.prog (.loop (codeOf Try.prog 21 [1, 1, 1, 0, 1, 0, 0, 1, 1, 0, 0, 1, 1, 1, 1, 0, 0])) (Ends1 (.exit 4) (F21_x2_1 h v2 l4 v4 y15 a17 r)) ((fun (s : Int) => (F21_h2 h v2 l4 v4 y15 a17 s)) x) := by
  have k := loop_fun (P := Try.prog) (c := (codeOf Try.prog 21 [1, 1, 1, 0, 1, 0, 0, 1, 1, 0, 0, 1, 1, 1, 1, 0, 0])) (step := (fun (s : Int) => F21_s2 l2 l4 a17 y22 s)) (hd := (fun (s : Int) => (F21_h2 h v2 l4 v4 y15 a17 s))) (X := (F21_x2 h v2 l4 v4 y15 a17)) (by intro t; unfold F21_x2; cases Nat.beq t 0 <;> (intro h; cases h)) (fun x => F21_r2 h l2 v2 hv2 l4 v4 hv4 y15 a17 y21 id21 off21 g21 ix21 at21 y22 id22 off22 g22 ix22 at22 x) hl
  simp only [F21_x2, q0, cond_true, cond_false] at k
  exact k
def F21_m3_2 : List Bool := [true, true, true, true, true, true, true, true, true, true, false, true, true, true, true, true, true, true, true, true, true, true, true, true, true, true, true, true, true, true, true, true, true, true, true, true, true, true, true, true, true, true, true, true, true, true, true, true, true, true, true, true, true, true, true, true, true, true, true, true, true, true, true, true, true, true, true, true, true, true, true, true, true, true, true, true, true, true, true, true, true, true, true, true, true, true, true, true, true, true, true, true, true, true, true, true, true, true, true, true, true, true, true, true, true, true, true, true, true, true, true]
def F21_m3_1 : List Bool := [true, false, true, false, true, true, true, true, true, true, false, true, true, true, true, true, true, true, true, true, true, true, true, true, true, true, true, true, true, true, true, true, true, true, true, true, true, true, true, true, true, true, true, true, true, true, true, true, true, true, true, true, true, true, true, true, true, true, true, false, false, true, true, true, true, true, true, true, true, true, true, true, true, true, true, true, true, true, true, true, true, true, true, true, true, true, true, true, true, true, true, true, true, true, true, true, true, true, true, true, true, true, true, true, true, true, true, true, true, true, true]
def F21_m3_0 : List Bool := [true, true, true, true, true, true, true, true, false, false, true, true, true, true, true, true, true, true, true, true, true, true, true, true, true, true, true, true, true, true, true, true, true, true, true, true, true, true, true, true, true, true, true, true, true, true, true, true, true, true, true, true, true, true, true, true, true, true, true, true, true, true, true, true, true, true, true, true, true, true, true, true, true, true, true, true, true, true, true, true, true, true, true, true, true, true, true, true, true, true, true, true, true, true, true, true, true, true, true, true, true, true, true, true, true, true, true, true, true, true, true]
def F21_s3 (l2 : List (Int × Int × Int × Int)) (l4 : List Int) (a17 : Int) : Option (Int ⊕ Nat) :=
  (bif decide (a17 < (l4.length : Int)) then
   (bif ((l4.length : Int) == 0) then none else
   (Option.bind (at? l4 ((IntKind.i64.wrap (a17 + 1)).tmod (l4.length : Int))) fun y20 =>
   (Option.bind (at? l4 a17) fun y21 =>
   (Option.bind (at? l2 y21) fun y22 =>
   (Option.bind (at? l2 y20) fun y23 =>
   (bif (y22.2.1 != y23.1) then
    some (.inr 0)
   else
    (Option.bind (loopO (fun (s : Int) => F21_s2 l2 l4 a17 y22 s) 0) fun y30 =>
    (bif (Nat.beq y30 0) then
     some (.inr 0)
    else
     some (.inl (IntKind.i64.wrap (a17 + 1)))))))))))
  else
   some (.inr 1))
def F21_h3 (h : AHeap) (v2 : Hd) (l4 : List Int) (v4 : Hd) (y15 : Nat × Int)  (a17 : Int) : AS := ⟨[junk, (sv v2), junk, (sv v4), junk, junk, junk, junk, junk, junk, .int .i64 y15.2, junk, junk, junk, junk, junk, junk, junk, junk, junk, junk, junk, junk, junk, junk, junk, junk, junk, junk, junk, junk, junk, junk, junk, junk, junk, junk, junk, junk, junk, junk, junk, junk, junk, junk, junk, junk, junk, junk, junk, junk, junk, junk, junk, junk, junk, junk, junk, junk, .int .i64 (l4.length : Int), .int .i64 a17, junk, junk, junk, junk, junk, junk, junk, junk, junk, junk, junk, junk, junk, junk, junk, junk, junk, junk, junk, junk, junk, junk, junk, junk, junk, junk, junk, junk, junk, junk, junk, junk, junk, junk, junk, junk, junk, junk, junk, junk, junk, junk, junk, junk, junk, junk, junk, junk, junk, junk], [], h⟩
theorem F21_d3 : drawsOk F21_D (codeOf Try.prog 21 [1, 1, 1, 0, 1, 0, 0]) = true := by kernel_rfl
def F21_x3_0 (h : AHeap) (y15 : Nat × Int)  (r : Nat) : AS := ⟨[junk, junk, junk, junk, junk, junk, junk, junk, .int .i64 0, .bool false, junk, junk, junk, junk, junk, junk, junk, junk, junk, junk, junk, junk, junk, junk, junk, junk, junk, junk, junk, junk, junk, junk, junk, junk, junk, junk, junk, junk, junk, junk, junk, junk, junk, junk, junk, junk, junk, junk, junk, junk, junk, junk, junk, junk, junk, junk, junk, junk, junk, junk, junk, junk, junk, junk, junk, junk, junk, junk, junk, junk, junk, junk, junk, junk, junk, junk, junk, junk, junk, junk, junk, junk, junk, junk, junk, junk, junk, junk, junk, junk, junk, junk, junk, junk, junk, junk, junk, junk, junk, junk, junk, junk, junk, junk, junk, junk, junk, junk, junk, junk, junk], [], h⟩
def F21_x3_1 (h : AHeap) (y15 : Nat × Int)  (r : Nat) : AS := ⟨[junk, junk, junk, junk, junk, junk, junk, junk, junk, junk, .int .i64 y15.2, junk, junk, junk, junk, junk, junk, junk, junk, junk, junk, junk, junk, junk, junk, junk, junk, junk, junk, junk, junk, junk, junk, junk, junk, junk, junk, junk, junk, junk, junk, junk, junk, junk, junk, junk, junk, junk, junk, junk, junk, junk, junk, junk, junk, junk, junk, junk, junk, junk, junk, junk, junk, junk, junk, junk, junk, junk, junk, junk, junk, junk, junk, junk, junk, junk, junk, junk, junk, junk, junk, junk, junk, junk, junk, junk, junk, junk, junk, junk, junk, junk, junk, junk, junk, junk, junk, junk, junk, junk, junk, junk, junk, junk, junk, junk, junk, junk, junk, junk, junk], [], h⟩
def F21_x3 (h : AHeap) (y15 : Nat × Int) (r : Nat) : Exit × AS := (bif Nat.beq r 0 then (.ret, (F21_x3_0 h y15 r)) else ((.exit 2), (F21_x3_1 h y15 r)))
set_option maxRecDepth 100000 in
theorem F21_r3 (h : AHeap) (l2 : List (Int × Int × Int × Int)) (v2 : Hd) (hv2 : SlE E38 4 h (sv v2) l2) (l4 : List Int) (v4 : Hd) (hv4 : SlE E3 1 h (sv v4) l4) (y15 : Nat × Int) (a17 : Int) (o : Int ⊕ Nat) : F21_s3 l2 l4 a17 = some o → RdF Try.prog (codeOf Try.prog 21 [1, 1, 1, 0, 1, 0, 0]) (fun (s : Int) => (F21_h3 h v2 l4 v4 y15 s)) (F21_x3 h y15) (F21_h3 h v2 l4 v4 y15 a17) o := by
  unfold F21_s3
  refine dec_bif (fun c18 => ?_) (fun c18 => ?_)
  · refine guard_ok fun g19 => ?_
    refine bind_opt fun y20 e20 => ?_
    obtain ⟨id20, off20, g20, cs20, ix20, at20, rfl⟩ := SlE.at hv4 e20
    refine bind_opt fun y21 e21 => ?_
    obtain ⟨id21, off21, g21, cs21, ix21, at21, rfl⟩ := SlE.at hv4 e21
    refine bind_opt fun y22 e22 => ?_
    obtain ⟨id22, off22, g22, cs22, ix22, at22, rfl⟩ := SlE.at hv2 e22
    refine bind_opt fun y23 e23 => ?_
    obtain ⟨id23, off23, g23, cs23, ix23, at23, rfl⟩ := SlE.at hv2 e23
    refine dec_bif (fun c24 => ?_) (fun c24 => ?_)
    · intro hr
      obtain rfl := Option.some.inj hr
      show AWp Try.prog _ (Ends1 ((F21_x3 h y15) (0 : Nat)).1 ((F21_x3 h y15) (0 : Nat)).2) _
      exact pEnd_sound good (L := F21_L) (D := F21_D) (its := [.g, (.b true), .g, .g, .g, .g, .g, .g, (.ln l4.length), .d, (.ix id20 off20 g20), (.ld (.int .i64 y20)), .g, .g, .g, .g, (.ix id21 off21 g21), (.ld (.int .i64 y21)), (.ix id22 off22 g22), .g, (.ld (.int .i64 y22.2.1)), .g, .g, (.ix id23 off23 g23), .g, (.ld (.int .i64 y23.1)), .g, (.b true), .g, .g]) (ds := F21_m3_0) (ks := []) (e := ((F21_x3 h y15) (0 : Nat)).1) (s2 := ((F21_x3 h y15) (0 : Nat)).2) (hC := (And.intro c24 (And.intro (At.one (P := Try.prog) (t := 3) (v := .int .i64 y23.1) at23 (by kernel_rfl) 0 rfl rfl) (And.intro ix23 (And.intro (At.one (P := Try.prog) (t := 3) (v := .int .i64 y22.2.1) at22 (by kernel_rfl) 1 rfl rfl) (And.intro ix22 (And.intro (At.one (P := Try.prog) (t := 3) (v := .int .i64 y21) at21 (by kernel_rfl) 0 rfl rfl) (And.intro ix21 (And.intro (At.one (P := Try.prog) (t := 3) (v := .int .i64 y20) at20 (by kernel_rfl) 0 rfl rfl) (And.intro ix20 (And.intro (nz g19) (And.intro (SlE.len hv4) (And.intro c18 trivial))))))))))))) (hd := F21_d3) (h := by kernel_rfl)
    · refine bind_opt fun y30 e30 => ?_
      refine dec_bif (fun c31 => ?_) (fun c31 => ?_)
      · intro hr
        obtain rfl := Option.some.inj hr
        show AWp Try.prog _ (Ends1 ((F21_x3 h y15) (0 : Nat)).1 ((F21_x3 h y15) (0 : Nat)).2) _
        exact pEnd_sound good (L := F21_L) (D := F21_D) (its := [.g, (.b true), .g, .g, .g, .g, .g, .g, (.ln l4.length), .d, (.ix id20 off20 g20), (.ld (.int .i64 y20)), .g, .g, .g, .g, (.ix id21 off21 g21), (.ld (.int .i64 y21)), (.ix id22 off22 g22), .g, (.ld (.int .i64 y22.2.1)), .g, .g, (.ix id23 off23 g23), .g, (.ld (.int .i64 y23.1)), .g, (.b false), .g, .g, (.l F21_m2_1 [] .ret (F21_x2_0 h v2 l4 v4 y15 a17 y30))]) (ds := F21_m3_0) (ks := []) (e := ((F21_x3 h y15) (0 : Nat)).1) (s2 := ((F21_x3 h y15) (0 : Nat)).2) (hC := (And.intro (F21_l2_0 h l2 v2 hv2 l4 v4 hv4 y15 a17 y21 id21 off21 g21 ix21 at21 y22 id22 off22 g22 ix22 at22 0 y30 e30 c31) (And.intro c24 (And.intro (At.one (P := Try.prog) (t := 3) (v := .int .i64 y23.1) at23 (by kernel_rfl) 0 rfl rfl) (And.intro ix23 (And.intro (At.one (P := Try.prog) (t := 3) (v := .int .i64 y22.2.1) at22 (by kernel_rfl) 1 rfl rfl) (And.intro ix22 (And.intro (At.one (P := Try.prog) (t := 3) (v := .int .i64 y21) at21 (by kernel_rfl) 0 rfl rfl) (And.intro ix21 (And.intro (At.one (P := Try.prog) (t := 3) (v := .int .i64 y20) at20 (by kernel_rfl) 0 rfl rfl) (And.intro ix20 (And.intro (nz g19) (And.intro (SlE.len hv4) (And.intro c18 trivial)))))))))))))) (hd := F21_d3) (h := by kernel_rfl)
      · intro hr
        obtain rfl := Option.some.inj hr
        show AWp Try.prog _ (Ends1 .normal (F21_h3 h v2 l4 v4 y15 (IntKind.i64.wrap (a17 + 1)))) _
        exact pEnd_sound good (L := F21_L) (D := F21_D) (its := [.g, (.b true), .g, .g, .g, .g, .g, .g, (.ln l4.length), .d, (.ix id20 off20 g20), (.ld (.int .i64 y20)), .g, .g, .g, .g, (.ix id21 off21 g21), (.ld (.int .i64 y21)), (.ix id22 off22 g22), .g, (.ld (.int .i64 y22.2.1)), .g, .g, (.ix id23 off23 g23), .g, (.ld (.int .i64 y23.1)), .g, (.b false), .g, .g, (.l F21_m2_1 [] (.exit 4) (F21_x2_1 h v2 l4 v4 y15 a17 y30)), .g, .g]) (ds := F21_m3_1) (ks := []) (e := .normal) (s2 := (F21_h3 h v2 l4 v4 y15 (IntKind.i64.wrap (a17 + 1)))) (hC := (And.intro (F21_l2_1 h l2 v2 hv2 l4 v4 hv4 y15 a17 y21 id21 off21 g21 ix21 at21 y22 id22 off22 g22 ix22 at22 0 y30 e30 c31) (And.intro c24 (And.intro (At.one (P := Try.prog) (t := 3) (v := .int .i64 y23.1) at23 (by kernel_rfl) 0 rfl rfl) (And.intro ix23 (And.intro (At.one (P := Try.prog) (t := 3) (v := .int .i64 y22.2.1) at22 (by kernel_rfl) 1 rfl rfl) (And.intro ix22 (And.intro (At.one (P := Try.prog) (t := 3) (v := .int .i64 y21) at21 (by kernel_rfl) 0 rfl rfl) (And.intro ix21 (And.intro (At.one (P := Try.prog) (t := 3) (v := .int .i64 y20) at20 (by kernel_rfl) 0 rfl rfl) (And.intro ix20 (And.intro (nz g19) (And.intro (SlE.len hv4) (And.intro c18 trivial)))))))))))))) (hd := F21_d3) (h := by kernel_rfl)
  · intro hr
    obtain rfl := Option.some.inj hr
    show AWp Try.prog _ (Ends1 ((F21_x3 h y15) (1 : Nat)).1 ((F21_x3 h y15) (1 : Nat)).2) _
    exact pEnd_sound good (L := F21_L) (D := F21_D) (its := [.g, (.b false)]) (ds := F21_m3_2) (ks := []) (e := ((F21_x3 h y15) (1 : Nat)).1) (s2 := ((F21_x3 h y15) (1 : Nat)).2) (hC := (And.intro c18 trivial)) (hd := F21_d3) (h := by kernel_rfl)
theorem F21_l3_0 (h : AHeap) (l2 : List (Int × Int × Int × Int)) (v2 : Hd) (hv2 : SlE E38 4 h (sv v2) l2) (l4 : List Int) (v4 : Hd) (hv4 : SlE E3 1 h (sv v4) l4) (y15 : Nat × Int) (x : Int) (r : Nat) (hl : loopO (fun (s : Int) => F21_s3 l2 l4 s) x = some r) (q0 : Nat.beq r 0 = true) : AWp Try.prog (.loop (codeOf Try.prog 21 [1, 1, 1, 0, 1, 0, 0])) (Ends1 .ret (F21_x3_0 h y15 r)) ((fun (s : Int) => (F21_h3 h v2 l4 v4 y15 s)) x) := by
  have k := loop_fun (P := Try.prog) (c := (codeOf Try.prog 21 [1, 1, 1, 0, 1, 0, 0])) (step := (fun (s : Int) => F21_s3 l2 l4 s)) (hd := (fun (s : Int) => (F21_h3 h v2 l4 v4 y15 s))) (X := (F21_x3 h y15)) (by intro t; unfold F21_x3; cases Nat.beq t 0 <;> (intro h; cases h)) (fun x => F21_r3 h l2 v2 hv2 l4 v4 hv4 y15 x) hl
  simp only [F21_x3, q0, cond_true, cond_false] at k
  exact k
theorem F21_l3_1 (h : AHeap) (l2 : List (Int × Int × Int × Int)) (v2 : Hd) (hv2 : SlE E38 4 h (sv v2) l2) (l4 : List Int) (v4 : Hd) (hv4 : SlE E3 1 h (sv v4) l4) (y15 : Nat × Int) (x : Int) (r : Nat) (hl : loopO (fun (s : Int) => F21_s3 l2 l4 s) x = some r) (q0 : Nat.beq r 0 = false) : AWp Try.prog (.loop (codeOf Try.prog 21 [1, 1, 1, 0, 1, 0, 0])) (Ends1 (.exit 2) (F21_x3_1 h y15 r)) ((fun (s : Int) => (F21_h3 h v2 l4 v4 y15 s)) x) := by
  have k := loop_fun (P := Try.prog) (c := (codeOf Try.prog 21 [1, 1, 1, 0, 1, 0, 0])) (step := (fun (s : Int) => F21_s3 l2 l4 s)) (hd := (fun (s : Int) => (F21_h3 h v2 l4 v4 y15 s))) (X := (F21_x3 h y15)) (by intro t; unfold F21_x3; cases Nat.beq t 0 <;> (intro h; cases h)) (fun x => F21_r3 h l2 v2 hv2 l4 v4 hv4 y15 x) hl
  simp only [F21_x3, q0, cond_true, cond_false] at k
  exact k
def F21 (x1 : Int) (l2 : List (Int × Int × Int × Int)) (x3 : Int) (l4 : List Int) : Option (Int × Bool) :=
  (Option.bind (loopO (fun (s : Int × Int) => F21_s1 x1 l2 x3 l4 s.1 s.2) (0, 0)) fun y15 =>
  (bif (Nat.beq y15.1 0) then
   some (0, false)
  else
   (Option.bind (loopO (fun (s : Int) => F21_s3 l2 l4 s) 0) fun y32 =>
   (bif (Nat.beq y32 0) then
    some (0, false)
   else
    some (y15.2, (decide (y15.2 > 0)))))))
set_option maxRecDepth 100000 in
theorem F21_spec (x1 : Int) (l2 : List (Int × Int × Int × Int)) (x3 : Int) (l4 : List Int) (v2 : Hd) (v4 : Hd) (h : AHeap) (hv2 : SlE E38 4 h (sv v2) l2) (hv4 : SlE E3 1 h (sv v4) l4) (r : Int × Bool) : F21 x1 l2 x3 l4 = some r → ACalls Try.prog 21 [.int .i64 x1, (sv v2), .int .i64 x3, (sv v4)] h (fun v' h'' => v' = (.tuple #[.int .i64 r.1, .bool r.2] : Value) ∧ h'' = h) := by
  unfold F21
  refine bind_opt fun y15 e15 => ?_
  refine dec_bif (fun c16 => ?_) (fun c16 => ?_)
  · intro hr
    obtain rfl := Option.some.inj hr
    exact pFun_sound good tab_ok (f := 21) (its := [.g, .g, .g, .g, (.ln l4.length), .g, (.l F21_m1_1 [] .ret (F21_x1_0 h v2 v4 y15))]) (args := [.int .i64 x1, (sv v2), .int .i64 x3, (sv v4)]) (h := h) (h' := h) (v := .tuple #[.int .i64 0, .bool false]) (hC := (And.intro (F21_l1_0 h x1 l2 v2 hv2 x3 l4 v4 hv4 (0, 0) y15 e15 c16) (And.intro (SlE.len hv4) trivial))) (hr := by kernel_rfl)
  · refine bind_opt fun y32 e32 => ?_
    refine dec_bif (fun c33 => ?_) (fun c33 => ?_)
    · intro hr
      obtain rfl := Option.some.inj hr
      exact pFun_sound good tab_ok (f := 21) (its := [.g, .g, .g, .g, (.ln l4.length), .g, (.l F21_m1_1 [] (.exit 0) (F21_x1_1 h v2 v4 y15)), .g, (.ln l4.length), .g, (.l F21_m3_1 [] .ret (F21_x3_0 h y15 y32))]) (args := [.int .i64 x1, (sv v2), .int .i64 x3, (sv v4)]) (h := h) (h' := h) (v := .tuple #[.int .i64 0, .bool false]) (hC := (And.intro (F21_l3_0 h l2 v2 hv2 l4 v4 hv4 y15 0 y32 e32 c33) (And.intro (SlE.len hv4) (And.intro (F21_l1_1 h x1 l2 v2 hv2 x3 l4 v4 hv4 (0, 0) y15 e15 c16) (And.intro (SlE.len hv4) trivial))))) (hr := by kernel_rfl)
    · intro hr
      obtain rfl := Option.some.inj hr
      exact pFun_sound good tab_ok (f := 21) (its := [.g, .g, .g, .g, (.ln l4.length), .g, (.l F21_m1_1 [] (.exit 0) (F21_x1_1 h v2 v4 y15)), .g, (.ln l4.length), .g, (.l F21_m3_1 [] (.exit 2) (F21_x3_1 h y15 y32)), .g, .g, .g, .g, .g]) (args := [.int .i64 x1, (sv v2), .int .i64 x3, (sv v4)]) (h := h) (h' := h) (v := .tuple #[.int .i64 y15.2, .bool (decide (y15.2 > 0))]) (hC := (And.intro (F21_l3_1 h l2 v2 hv2 l4 v4 hv4 y15 0 y32 e32 c33) (And.intro (SlE.len hv4) (And.intro (F21_l1_1 h x1 l2 v2 hv2 x3 l4 v4 hv4 (0, 0) y15 e15 c16) (And.intro (SlE.len hv4) trivial))))) (hr := by kernel_rfl)
/-! 40 jacquard/diffcons.Violated$1 -/
def F40 (x1 : Int) (l2 : List Int) : Option (Int) :=
  (bif decide (x1 ≥ (l2.length : Int)) then
   some (0)
  else
   (Option.bind (at? l2 x1) fun y5 =>
   some (F37 y5 1099511627776)))
set_option maxRecDepth 100000 in
theorem F40_spec (x1 : Int) (l2 : List Int) (v2 : Hd) (id3 : Nat) (off3 : Nat) (g3 : Nat) (h : AHeap) (hv2 : SlE E3 1 h (sv v2) l2) (at3 : At h id3 off3 g3 [(sv v2)]) (r : Int) : F40 x1 l2 = some r → ACalls Try.prog 40 [.int .i64 x1, .pointer (some ⟨id3, off3 + 0, some g3⟩)] h (fun v' h'' => v' = (.int .i64 r : Value) ∧ h'' = h) := by
  unfold F40
  refine dec_bif (fun c4 => ?_) (fun c4 => ?_)
  · intro hr
    obtain rfl := Option.some.inj hr
    exact pFun_sound good tab_ok (f := 40) (its := [.g, .g, (.ld ((sv v2))), (.ln l2.length), .g, (.b true), .g]) (args := [.int .i64 x1, .pointer (some ⟨id3, off3 + 0, some g3⟩)]) (h := h) (h' := h) (v := .int .i64 0) (hC := (And.intro c4 (And.intro (SlE.len hv2) (And.intro (At.one (P := Try.prog) (t := 27) (v := (sv v2)) at3 (by kernel_rfl) 0 rfl rfl) trivial)))) (hr := by kernel_rfl)
  · refine bind_opt fun y5 e5 => ?_
    obtain ⟨id5, off5, g5, cs5, ix5, at5, rfl⟩ := SlE.at hv2 e5
    intro hr
    obtain rfl := Option.some.inj hr
    exact pFun_sound good tab_ok (f := 40) (its := [.g, .g, (.ld ((sv v2))), (.ln l2.length), .g, (.b false), (.ld ((sv v2))), .g, (.ix id5 off5 g5), (.ld (.int .i64 y5)), (.c (.int .i64 (F37 y5 1099511627776)) h), .g]) (args := [.int .i64 x1, .pointer (some ⟨id3, off3 + 0, some g3⟩)]) (h := h) (h' := h) (v := .int .i64 (F37 y5 1099511627776)) (hC := (And.intro (F37_spec y5 1099511627776 h _ rfl) (And.intro (At.one (P := Try.prog) (t := 3) (v := .int .i64 y5) at5 (by kernel_rfl) 0 rfl rfl) (And.intro ix5 (And.intro (At.one (P := Try.prog) (t := 27) (v := (sv v2)) at3 (by kernel_rfl) 0 rfl rfl) (And.intro c4 (And.intro (SlE.len hv2) (And.intro (At.one (P := Try.prog) (t := 27) (v := (sv v2)) at3 (by kernel_rfl) 0 rfl rfl) trivial)))))))) (hr := by kernel_rfl)
/-! 22 jacquard/diffcons.Violated -/
def F22_L : List Nat := [11]
def F22_D : List (Nat × List (Nat × Nat)) := [(6, [(0, 2), (1, 2), (2, 1), (3, 2), (4, 2), (5, 2), (6, 2), (8, 2), (9, 2), (14, 2), (10, 3), (13, 3), (7, 1), (11, 1), (12, 2), (15, 1), (16, 2), (17, 2)])]
def F22_m1_2 : List Bool := [true, true, true, true, true, true, true, true, true, true, true, true, true, true, true, true, true, true, true, true, true, true, true, true, true, true, true, true, true, true, true, true, true, true, true, true, true, true, true, true, true, true]
def F22_m1_1 : List Bool := [false, true, false, true, true, true, true, true, true, false, true, true, true, true, true, false, false, false, true, true, true, true, true, true, true, true, true, true, true, true, true, true, true, true, true, true, true, true, true, true, true, true]
def F22_m1_0 : List Bool := [true, true, true, true, true, true, true, true, false, true, true, true, true, true, true, true, true, true, true, true, true, true, true, true, true, true, true, true, true, true, true, true, true, true, true, true, true, true, true, true, true, true]
def F22_s1 (x1 : Int) (l2 : List (Int × Int × Int × Int)) (x3 : Int) (l4 : List Int) (a8 : Int) : Option (Int ⊕ (Nat × Int)) :=
  (bif decide (a8 < (l2.length : Int)) then
   (Option.bind (at? l2 a8) fun y10 =>
   (bif (F38 (F32 x1) y10.1 y10.2.1 y10.2.2.1 y10.2.2.2) then
    (Option.bind (F40 y10.2.1 l4) fun y13 =>
    (Option.bind (F40 y10.1 l4) fun y15 =>
    (bif decide ((IntKind.i64.wrap (y13 - y15)) < (F18 y10.1 y10.2.1 y10.2.2.1 y10.2.2.2 x3)) then
     some (.inr (0, a8))
    else
     some (.inl (IntKind.i64.wrap (a8 + 1))))))
   else
    some (.inl (IntKind.i64.wrap (a8 + 1)))))
  else
   some (.inr (1, 0)))
def F22_h1 (x1 : Int) (l2 : List (Int × Int × Int × Int)) (v2 : Hd) (x3 : Int) (id5 : Nat) (g5 : Nat) (h5 : AHeap)  (a8 : Int) : AS := ⟨[.int .i64 (F32 x1), junk, .int .i64 x3, junk, junk, junk, junk, junk, junk, .func (.func 40) #[] #[.pointer (some ⟨id5, 0, some g5⟩)], junk, junk, junk, junk, junk, (sv v2), .int .i64 (l2.length : Int), .int .i64 a8, junk, junk, junk, junk, junk, junk, junk, junk, junk, junk, junk, junk, junk, junk, junk, junk, junk, junk, junk, junk, junk, junk, junk, junk], [], h5⟩
theorem F22_d1 : drawsOk F22_D (codeOf Try.prog 22 [1, 1, 1, 0, 1, 0, 0]) = true := by kernel_rfl
def F22_x1_0 (h5 : AHeap)  (r : Nat × Int) : AS := ⟨[junk, junk, junk, junk, junk, junk, junk, junk, .int .i64 r.2, junk, junk, junk, junk, junk, junk, junk, junk, junk, junk, junk, junk, junk, junk, junk, junk, junk, junk, junk, junk, junk, junk, junk, junk, junk, junk, junk, junk, junk, junk, junk, junk, junk], [], h5⟩
def F22_x1_1 (h5 : AHeap)  (r : Nat × Int) : AS := ⟨[junk, junk, junk, junk, junk, junk, junk, junk, junk, junk, junk, junk, junk, junk, junk, junk, junk, junk, junk, junk, junk, junk, junk, junk, junk, junk, junk, junk, junk, junk, junk, junk, junk, junk, junk, junk, junk, junk, junk, junk, junk, junk], [], h5⟩
def F22_x1 (h5 : AHeap) (r : Nat × Int) : Exit × AS := (bif Nat.beq r.1 0 then (.ret, (F22_x1_0 h5 r)) else ((.exit 0), (F22_x1_1 h5 r)))
set_option maxRecDepth 100000 in
theorem F22_r1 (h : AHeap) (x1 : Int) (l2 : List (Int × Int × Int × Int)) (v2 : Hd) (hv2 : SlE E38 4 h (sv v2) l2) (x3 : Int) (l4 : List Int) (v4 : Hd) (hv4 : SlE E3 1 h (sv v4) l4) (id5 : Nat) (g5 : Nat) (h5 : AHeap) (hp5 : Heapy h h5 [⟨⟨some ⟨id5, 0, some g5⟩, 1, 1⟩, 27, 1, [(sv v4)]⟩]) (a8 : Int) (o : Int ⊕ (Nat × Int)) : F22_s1 x1 l2 x3 l4 a8 = some o → RdF Try.prog (codeOf Try.prog 22 [1, 1, 1, 0, 1, 0, 0]) (fun (s : Int) => (F22_h1 x1 l2 v2 x3 id5 g5 h5 s)) (F22_x1 h5) (F22_h1 x1 l2 v2 x3 id5 g5 h5 a8) o := by
  unfold F22_s1
  refine dec_bif (fun c9 => ?_) (fun c9 => ?_)
  · refine bind_opt fun y10 e10 => ?_
    obtain ⟨id10, off10, g10, cs10, ix10, at10, rfl⟩ := SlE.at hv2 e10
    refine dec_bif (fun c12 => ?_) (fun c12 => ?_)
    · refine bind_opt fun y13 e13 => ?_
      refine bind_opt fun y15 e15 => ?_
      refine dec_bif (fun c18 => ?_) (fun c18 => ?_)
      · intro hr
        obtain rfl := Option.some.inj hr
        show AWp Try.prog _ (Ends1 ((F22_x1 h5) ((0, a8) : Nat × Int)).1 ((F22_x1 h5) ((0, a8) : Nat × Int)).2) _
        exact pEnd_sound good (L := F22_L) (D := F22_D) (its := [.g, (.b true), .g, (.ix id10 off10 g10), (.ld (.agg #[.int .i64 y10.1, .int .i64 y10.2.1, .int .i64 y10.2.2.1, .int .i64 y10.2.2.2])), .g, .g, .g, .g, .g, (.c (.bool (F38 (F32 x1) y10.1 y10.2.1 y10.2.2.1 y10.2.2.2)) h5), .g, (.w .g), (.w .g), (.w .g), (.w .g), (.w .g), (.w .g), (.w .g), (.w .g), (.w (.c (.int .i64 y13) h5)), (.w (.c (.int .i64 y15) h5)), (.w .g), (.w (.c (.int .i64 (F18 y10.1 y10.2.1 y10.2.2.1 y10.2.2.2 x3)) h5)), (.w .g), (.p true), (.b true), .g, .g]) (ds := F22_m1_0) (ks := [11]) (e := ((F22_x1 h5) ((0, a8) : Nat × Int)).1) (s2 := ((F22_x1 h5) ((0, a8) : Nat × Int)).2) (hC := (And.intro c18 (And.intro c12 (And.intro (g_tt c12) (And.intro (show AKeep h5 h5 from (AHeap.sub_refl h5)) (And.intro (F18_spec y10.1 y10.2.1 y10.2.2.1 y10.2.2.2 x3 h5 _ rfl) (And.intro (g_tt c12) (And.intro (g_tt c12) (And.intro (show AKeep h5 h5 from (AHeap.sub_refl h5)) (And.intro (F40_spec y10.1 l4 v4 id5 0 g5 h5 (SlE.mono hv4 (Heapy.sub hp5) (E3_mono (Heapy.sub hp5))) (Heapy.boxat (id := id5) (g := g5) (n := 1) (c := 1) (el := 27) (cells := [(sv v4)]) hp5 0 rfl) _ e15) (And.intro (g_tt c12) (And.intro (show AKeep h5 h5 from (AHeap.sub_refl h5)) (And.intro (F40_spec y10.2.1 l4 v4 id5 0 g5 h5 (SlE.mono hv4 (Heapy.sub hp5) (E3_mono (Heapy.sub hp5))) (Heapy.boxat (id := id5) (g := g5) (n := 1) (c := 1) (el := 27) (cells := [(sv v4)]) hp5 0 rfl) _ e13) (And.intro (g_tt c12) (And.intro (g_tt c12) (And.intro (g_tt c12) (And.intro (g_tt c12) (And.intro (g_tt c12) (And.intro (g_tt c12) (And.intro (g_tt c12) (And.intro (g_tt c12) (And.intro (g_tt c12) (And.intro (show AKeep h5 h5 from (AHeap.sub_refl h5)) (And.intro (F38_spec (F32 x1) y10.1 y10.2.1 y10.2.2.1 y10.2.2.2 h5 _ rfl) (And.intro (At.agg (P := Try.prog) (t := 38) (v := .agg #[.int .i64 y10.1, .int .i64 y10.2.1, .int .i64 y10.2.2.1, .int .i64 y10.2.2.2]) (m := 4) (At.mono (Heapy.sub hp5) at10) (by kernel_rfl) (by kernel_rfl) 0 (by kernel_rfl) rfl) (And.intro ix10 (And.intro c9 trivial))))))))))))))))))))))))))) (hd := F22_d1) (h := by kernel_rfl)
      · intro hr
        obtain rfl := Option.some.inj hr
        show AWp Try.prog _ (Ends1 .normal (F22_h1 x1 l2 v2 x3 id5 g5 h5 (IntKind.i64.wrap (a8 + 1)))) _
        exact pEnd_sound good (L := F22_L) (D := F22_D) (its := [.g, (.b true), .g, (.ix id10 off10 g10), (.ld (.agg #[.int .i64 y10.1, .int .i64 y10.2.1, .int .i64 y10.2.2.1, .int .i64 y10.2.2.2])), .g, .g, .g, .g, .g, (.c (.bool (F38 (F32 x1) y10.1 y10.2.1 y10.2.2.1 y10.2.2.2)) h5), .g, (.w .g), (.w .g), (.w .g), (.w .g), (.w .g), (.w .g), (.w .g), (.w .g), (.w (.c (.int .i64 y13) h5)), (.w (.c (.int .i64 y15) h5)), (.w .g), (.w (.c (.int .i64 (F18 y10.1 y10.2.1 y10.2.2.1 y10.2.2.2 x3)) h5)), (.w .g), (.p true), (.b false), .g, .g]) (ds := F22_m1_1) (ks := [11]) (e := .normal) (s2 := (F22_h1 x1 l2 v2 x3 id5 g5 h5 (IntKind.i64.wrap (a8 + 1)))) (hC := (And.intro c18 (And.intro c12 (And.intro (g_tt c12) (And.intro (show AKeep h5 h5 from (AHeap.sub_refl h5)) (And.intro (F18_spec y10.1 y10.2.1 y10.2.2.1 y10.2.2.2 x3 h5 _ rfl) (And.intro (g_tt c12) (And.intro (g_tt c12) (And.intro (show AKeep h5 h5 from (AHeap.sub_refl h5)) (And.intro (F40_spec y10.1 l4 v4 id5 0 g5 h5 (SlE.mono hv4 (Heapy.sub hp5) (E3_mono (Heapy.sub hp5))) (Heapy.boxat (id := id5) (g := g5) (n := 1) (c := 1) (el := 27) (cells := [(sv v4)]) hp5 0 rfl) _ e15) (And.intro (g_tt c12) (And.intro (show AKeep h5 h5 from (AHeap.sub_refl h5)) (And.intro (F40_spec y10.2.1 l4 v4 id5 0 g5 h5 (SlE.mono hv4 (Heapy.sub hp5) (E3_mono (Heapy.sub hp5))) (Heapy.boxat (id := id5) (g := g5) (n := 1) (c := 1) (el := 27) (cells := [(sv v4)]) hp5 0 rfl) _ e13) (And.intro (g_tt c12) (And.intro (g_tt c12) (And.intro (g_tt c12) (And.intro (g_tt c12) (And.intro (g_tt c12) (And.intro (g_tt c12) (And.intro (g_tt c12) (And.intro (g_tt c12) (And.intro (g_tt c12) (And.intro (show AKeep h5 h5 from (AHeap.sub_refl h5)) (And.intro (F38_spec (F32 x1) y10.1 y10.2.1 y10.2.2.1 y10.2.2.2 h5 _ rfl) (And.intro (At.agg (P := Try.prog) (t := 38) (v := .agg #[.int .i64 y10.1, .int .i64 y10.2.1, .int .i64 y10.2.2.1, .int .i64 y10.2.2.2]) (m := 4) (At.mono (Heapy.sub hp5) at10) (by kernel_rfl) (by kernel_rfl) 0 (by kernel_rfl) rfl) (And.intro ix10 (And.intro c9 trivial))))))))))))))))))))))))))) (hd := F22_d1) (h := by kernel_rfl)
    · intro hr
      obtain rfl := Option.some.inj hr
      show AWp Try.prog _ (Ends1 .normal (F22_h1 x1 l2 v2 x3 id5 g5 h5 (IntKind.i64.wrap (a8 + 1)))) _
      exact pEnd_sound good (L := F22_L) (D := F22_D) (its := [.g, (.b true), .g, (.ix id10 off10 g10), (.ld (.agg #[.int .i64 y10.1, .int .i64 y10.2.1, .int .i64 y10.2.2.1, .int .i64 y10.2.2.2])), .g, .g, .g, .g, .g, (.c (.bool (F38 (F32 x1) y10.1 y10.2.1 y10.2.2.1 y10.2.2.2)) h5), .g, .n, .n, .n, .n, .n, .n, .n, .n, .n, .n, .n, .n, .n, (.p false), (.b false), .g, .g]) (ds := F22_m1_1) (ks := [11]) (e := .normal) (s2 := (F22_h1 x1 l2 v2 x3 id5 g5 h5 (IntKind.i64.wrap (a8 + 1)))) (hC := (And.intro l_f (And.intro c12 (And.intro (g_ft c12) (And.intro (g_ft c12) (And.intro (g_ft c12) (And.intro (g_ft c12) (And.intro (g_ft c12) (And.intro (g_ft c12) (And.intro (g_ft c12) (And.intro (g_ft c12) (And.intro (g_ft c12) (And.intro (g_ft c12) (And.intro (g_ft c12) (And.intro (g_ft c12) (And.intro (g_ft c12) (And.intro (show AKeep h5 h5 from (AHeap.sub_refl h5)) (And.intro (F38_spec (F32 x1) y10.1 y10.2.1 y10.2.2.1 y10.2.2.2 h5 _ rfl) (And.intro (At.agg (P := Try.prog) (t := 38) (v := .agg #[.int .i64 y10.1, .int .i64 y10.2.1, .int .i64 y10.2.2.1, .int .i64 y10.2.2.2]) (m := 4) (At.mono (Heapy.sub hp5) at10) (by kernel_rfl) (by kernel_rfl) 0 (by kernel_rfl) rfl) (And.intro ix10 (And.intro c9 trivial))))))))))))))))))))) (hd := F22_d1) (h := by kernel_rfl)
  · intro hr
    obtain rfl := Option.some.inj hr
    show AWp Try.prog _ (Ends1 ((F22_x1 h5) ((1, 0) : Nat × Int)).1 ((F22_x1 h5) ((1, 0) : Nat × Int)).2) _
    exact pEnd_sound good (L := F22_L) (D := F22_D) (its := [.g, (.b false)]) (ds := F22_m1_2) (ks := []) (e := ((F22_x1 h5) ((1, 0) : Nat × Int)).1) (s2 := ((F22_x1 h5) ((1, 0) : Nat × Int)).2) (hC := (And.intro c9 trivial)) (hd := F22_d1) (h := by kernel_rfl)
theorem F22_l1_0 (h : AHeap) (x1 : Int) (l2 : List (Int × Int × Int × Int)) (v2 : Hd) (hv2 : SlE E38 4 h (sv v2) l2) (x3 : Int) (l4 : List Int) (v4 : Hd) (hv4 : SlE E3 1 h (sv v4) l4) (id5 : Nat) (g5 : Nat) (h5 : AHeap) (hp5 : Heapy h h5 [⟨⟨some ⟨id5, 0, some g5⟩, 1, 1⟩, 27, 1, [(sv v4)]⟩]) (x : Int) (r : Nat × Int) (hl : loopO (fun (s : Int) => F22_s1 x1 l2 x3 l4 s) x = some r) (q0 : Nat.beq r.1 0 = true) : AWp Try.prog (.loop (codeOf Try.prog 22 [1, 1, 1, 0, 1, 0, 0])) (Ends1 .ret (F22_x1_0 h5 r)) ((fun (s : Int) => (F22_h1 x1 l2 v2 x3 id5 g5 h5 s)) x) := by
  have k := loop_fun (P := Try.prog) (c := (codeOf Try.prog 22 [1, 1, 1, 0, 1, 0, 0])) (step := (fun (s : Int) => F22_s1 x1 l2 x3 l4 s)) (hd := (fun (s : Int) => (F22_h1 x1 l2 v2 x3 id5 g5 h5 s))) (X := (F22_x1 h5)) (by intro t; unfold F22_x1; cases Nat.beq t.1 0 <;> (intro h; cases h)) (fun x => F22_r1 h x1 l2 v2 hv2 x3 l4 v4 hv4 id5 g5 h5 hp5 x) hl
  simp only [F22_x1, q0, cond_true, cond_false] at k
  exact k
theorem F22_l1_1 (h : AHeap) (x1 : Int) (l2 : List (Int × Int × Int × Int)) (v2 : Hd) (hv2 : SlE E38 4 h (sv v2) l2) (x3 : Int) (l4 : List Int) (v4 : Hd) (hv4 : SlE E3 1 h (sv v4) l4) (id5 : Nat) (g5 : Nat) (h5 : AHeap) (hp5 : Heapy h h5 [⟨⟨some ⟨id5, 0, some g5⟩, 1, 1⟩, 27, 1, [(sv v4)]⟩]) (x : Int) (r : Nat × Int) (hl : loopO (fun (s : Int) => F22_s1 x1 l2 x3 l4 s) x = some r) (q0 : Nat.beq r.1 0 = false) : AWp Try.prog (.loop (codeOf Try.prog 22 [1, 1, 1, 0, 1, 0, 0])) (Ends1 (.exit 0) (F22_x1_1 h5 r)) ((fun (s : Int) => (F22_h1 x1 l2 v2 x3 id5 g5 h5 s)) x) := by
  have k := loop_fun (P := Try.prog) (c := (codeOf Try.prog 22 [1, 1, 1, 0, 1, 0, 0])) (step := (fun (s : Int) => F22_s1 x1 l2 x3 l4 s)) (hd := (fun (s : Int) => (F22_h1 x1 l2 v2 x3 id5 g5 h5 s))) (X := (F22_x1 h5)) (by intro t; unfold F22_x1; cases Nat.beq t.1 0 <;> (intro h; cases h)) (fun x => F22_r1 h x1 l2 v2 hv2 x3 l4 v4 hv4 id5 g5 h5 hp5 x) hl
  simp only [F22_x1, q0, cond_true, cond_false] at k
  exact k
def F22 (x1 : Int) (l2 : List (Int × Int × Int × Int)) (x3 : Int) (l4 : List Int) : Option (Int) :=
  (Option.bind (loopO (fun (s : Int) => F22_s1 x1 l2 x3 l4 s) 0) fun y19 =>
  (bif (Nat.beq y19.1 0) then
   some (y19.2)
  else
   some (-1)))
set_option maxRecDepth 100000 in
theorem F22_spec (x1 : Int) (l2 : List (Int × Int × Int × Int)) (x3 : Int) (l4 : List Int) (v2 : Hd) (v4 : Hd) (h : AHeap) (hw : h.wf) (hv2 : SlE E38 4 h (sv v2) l2) (hv4 : SlE E3 1 h (sv v4) l4) (r : Int) : F22 x1 l2 x3 l4 = some r → ∃ (h' : AHeap), Heapy h h' [] ∧ ACalls Try.prog 22 [.int .i64 x1, (sv v2), .int .i64 x3, (sv v4)] h (fun v' h'' => v' = (.int .i64 r : Value) ∧ h'' = h') := by
  unfold F22
  obtain ⟨id5, g5, h5, m5, hp5⟩ := Heapy.box (P := Try.prog) (Heapy.refl hw) 27 [(sv v4)] (c := 1) rfl
  refine bind_opt fun y19 e19 => ?_
  refine dec_bif (fun c20 => ?_) (fun c20 => ?_)
  · intro hr
    obtain rfl := Option.some.inj hr
    exact ⟨h5, Heapy.pick hp5 [] (by decide), pFun_sound good tab_ok (f := 22) (its := [(.mm (.pointer (some ⟨id5, 0, some g5⟩)) h5), .g, .g, (.c (.int .i64 (F32 x1)) h5), .g, .g, .g, .g, (.ln l2.length), .g, (.l F22_m1_1 [] .ret (F22_x1_0 h5 y19))]) (args := [.int .i64 x1, (sv v2), .int .i64 x3, (sv v4)]) (h := h) (h' := h5) (v := .int .i64 y19.2) (hC := (And.intro (F22_l1_0 h x1 l2 v2 hv2 x3 l4 v4 hv4 id5 g5 h5 hp5 0 y19 e19 c20) (And.intro (SlE.len hv2) (And.intro (F32_spec x1 h5 _ rfl) (And.intro m5 trivial))))) (hr := by kernel_rfl)⟩
  · intro hr
    obtain rfl := Option.some.inj hr
    exact ⟨h5, Heapy.pick hp5 [] (by decide), pFun_sound good tab_ok (f := 22) (its := [(.mm (.pointer (some ⟨id5, 0, some g5⟩)) h5), .g, .g, (.c (.int .i64 (F32 x1)) h5), .g, .g, .g, .g, (.ln l2.length), .g, (.l F22_m1_1 [] (.exit 0) (F22_x1_1 h5 y19)), .g]) (args := [.int .i64 x1, (sv v2), .int .i64 x3, (sv v4)]) (h := h) (h' := h5) (v := .int .i64 (-1)) (hC := (And.intro (F22_l1_1 h x1 l2 v2 hv2 x3 l4 v4 hv4 id5 g5 h5 hp5 0 y19 e19 c20) (And.intro (SlE.len hv2) (And.intro (F32_spec x1 h5 _ rfl) (And.intro m5 trivial))))) (hr := by kernel_rfl)⟩
/-! 41 jacquard/jacquardref30.time -/
def F41__1 (y4 : Int) : Int := (if 1099511627776 < (if (-1099511627776) > y4 then (-1099511627776) else y4) then 1099511627776 else (if (-1099511627776) > y4 then (-1099511627776) else y4))
def F41 (l1 : List Int) (x2 : Int) : Option (Int) :=
  (bif decide (x2 ≥ (l1.length : Int)) then
   some (0)
  else
   (Option.bind (at? l1 x2) fun y4 =>
   some (F41__1 y4)))
set_option maxRecDepth 100000 in
theorem F41_spec (l1 : List Int) (x2 : Int) (v1 : Hd) (h : AHeap) (hv1 : SlE E3 1 h (sv v1) l1) (r : Int) : F41 l1 x2 = some r → ACalls Try.prog 41 [(sv v1), .int .i64 x2] h (fun v' h'' => v' = (.int .i64 r : Value) ∧ h'' = h) := by
  unfold F41
  refine dec_bif (fun c3 => ?_) (fun c3 => ?_)
  · intro hr
    obtain rfl := Option.some.inj hr
    exact pFun_sound good tab_ok (f := 41) (its := [.g, .g, .g, (.ln l1.length), .g, (.b true), .g]) (args := [(sv v1), .int .i64 x2]) (h := h) (h' := h) (v := .int .i64 0) (hC := (And.intro c3 (And.intro (SlE.len hv1) trivial))) (hr := by kernel_rfl)
  · refine bind_opt fun y4 e4 => ?_
    obtain ⟨id4, off4, g4, cs4, ix4, at4, rfl⟩ := SlE.at hv1 e4
    intro hr
    obtain rfl := Option.some.inj hr
    exact pFun_sound good tab_ok (f := 41) (its := [.g, .g, .g, (.ln l1.length), .g, (.b false), .g, .g, (.ix id4 off4 g4), (.ld (.int .i64 y4)), .g, .g, .g]) (args := [(sv v1), .int .i64 x2]) (h := h) (h' := h) (v := .int .i64 (F41__1 y4)) (hC := (And.intro (At.one (P := Try.prog) (t := 3) (v := .int .i64 y4) at4 (by kernel_rfl) 0 rfl rfl) (And.intro ix4 (And.intro c3 (And.intro (SlE.len hv1) trivial))))) (hr := by kernel_rfl)
/-! 23 jacquard/jacquardref30.Violated -/
def F23_L : List Nat := []
def F23_D : List (Nat × List (Nat × Nat)) := [(4, [(0, 2), (1, 2), (2, 2), (3, 2), (4, 2), (5, 1), (6, 2), (7, 2), (8, 2), (9, 2), (10, 2), (11, 2), (12, 2), (14, 2), (15, 2), (16, 2), (17, 2), (18, 2), (22, 2), (23, 2), (24, 2), (26, 2), (19, 5), (25, 5), (13, 1), (20, 1), (21, 2), (27, 1), (28, 2), (29, 2)])]
def F23_m1_2 : List Bool := [true, true, true, true, true, true, true, true, true, true, true, true, true, true, true, true, true, true, true, true, true, true, true, true, true, true, true, true, true, true, true, true, true, true, true, true, true, true, true, true, true, true, true, true, true, true, true]
def F23_m1_1 : List Bool := [false, false, false, false, true, true, true, true, true, true, true, false, false, true, true, true, true, true, true, true, true, true, true, true, true, true, true, true, true, true, true, true, true, true, true, true, true, true, true, true, true, true, true, true, true, true, true]
def F23_m1_0 : List Bool := [true, true, true, true, true, true, true, true, false, true, true, true, true, true, true, true, true, true, true, true, true, true, true, true, true, true, true, true, true, true, true, true, true, true, true, true, true, true, true, true, true, true, true, true, true, true, true]
def F23_s1 (x1 : Int) (l2 : List (Int × Int × Int × Int)) (x3 : Int) (l4 : List Int) (a5 : Int) : Option (Int ⊕ (Nat × Int)) :=
  (bif decide (a5 < (l2.length : Int)) then
   (Option.bind (at? l2 a5) fun y7 =>
   (bif (F39 x1 y7.1 y7.2.1 y7.2.2.1 y7.2.2.2) then
    (Option.bind (F41 l4 y7.2.1) fun y10 =>
    (Option.bind (F41 l4 y7.1) fun y12 =>
    (bif decide ((IntKind.i64.wrap (y10 - y12)) < (F19 y7.1 y7.2.1 y7.2.2.1 y7.2.2.2 x3)) then
     some (.inr (0, a5))
    else
     some (.inl (IntKind.i64.wrap (a5 + 1))))))
   else
    some (.inl (IntKind.i64.wrap (a5 + 1)))))
  else
   some (.inr (1, 0)))
def F23_h1 (h : AHeap) (x1 : Int) (l2 : List (Int × Int × Int × Int)) (v2 : Hd) (x3 : Int) (v4 : Hd)  (a5 : Int) : AS := ⟨[.int .i64 x1, (sv v2), .int .i64 x3, (sv v4), junk, junk, junk, junk, junk, junk, junk, .int .i64 (l2.length : Int), .int .i64 a5, junk, junk, junk, junk, junk, junk, junk, junk, junk, junk, junk, junk, junk, junk, junk, junk, junk, junk, junk, junk, junk, junk, junk, junk, junk, junk, junk, junk, junk, junk, junk, junk, junk, junk], [], h⟩
theorem F23_d1 : drawsOk F23_D (codeOf Try.prog 23 [1, 0, 1, 0, 0]) = true := by kernel_rfl
def F23_x1_0 (h : AHeap)  (r : Nat × Int) : AS := ⟨[junk, junk, junk, junk, junk, junk, junk, junk, .int .i64 r.2, junk, junk, junk, junk, junk, junk, junk, junk, junk, junk, junk, junk, junk, junk, junk, junk, junk, junk, junk, junk, junk, junk, junk, junk, junk, junk, junk, junk, junk, junk, junk, junk, junk, junk, junk, junk, junk, junk], [], h⟩
def F23_x1_1 (h : AHeap)  (r : Nat × Int) : AS := ⟨[junk, junk, junk, junk, junk, junk, junk, junk, junk, junk, junk, junk, junk, junk, junk, junk, junk, junk, junk, junk, junk, junk, junk, junk, junk, junk, junk, junk, junk, junk, junk, junk, junk, junk, junk, junk, junk, junk, junk, junk, junk, junk, junk, junk, junk, junk, junk], [], h⟩
def F23_x1 (h : AHeap) (r : Nat × Int) : Exit × AS := (bif Nat.beq r.1 0 then (.ret, (F23_x1_0 h r)) else ((.exit 0), (F23_x1_1 h r)))
set_option maxRecDepth 100000 in
theorem F23_r1 (h : AHeap) (x1 : Int) (l2 : List (Int × Int × Int × Int)) (v2 : Hd) (hv2 : SlE E38 4 h (sv v2) l2) (x3 : Int) (l4 : List Int) (v4 : Hd) (hv4 : SlE E3 1 h (sv v4) l4) (a5 : Int) (o : Int ⊕ (Nat × Int)) : F23_s1 x1 l2 x3 l4 a5 = some o → RdF Try.prog (codeOf Try.prog 23 [1, 0, 1, 0, 0]) (fun (s : Int) => (F23_h1 h x1 l2 v2 x3 v4 s)) (F23_x1 h) (F23_h1 h x1 l2 v2 x3 v4 a5) o := by
  unfold F23_s1
  refine dec_bif (fun c6 => ?_) (fun c6 => ?_)
  · refine bind_opt fun y7 e7 => ?_
    obtain ⟨id7, off7, g7, cs7, ix7, at7, rfl⟩ := SlE.at hv2 e7
    refine dec_bif (fun c9 => ?_) (fun c9 => ?_)
    · refine bind_opt fun y10 e10 => ?_
      refine bind_opt fun y12 e12 => ?_
      refine dec_bif (fun c15 => ?_) (fun c15 => ?_)
      · intro hr
        obtain rfl := Option.some.inj hr
        show AWp Try.prog _ (Ends1 ((F23_x1 h) ((0, a5) : Nat × Int)).1 ((F23_x1 h) ((0, a5) : Nat × Int)).2) _
        exact pEnd_sound good (L := F23_L) (D := F23_D) (its := [.g, (.b true), .g, .g, .g, .g, .g, (.ix id7 off7 g7), (.ld (.agg #[.int .i64 y7.1, .int .i64 y7.2.1, .int .i64 y7.2.2.1, .int .i64 y7.2.2.2])), (.c (.bool (F39 x1 y7.1 y7.2.1 y7.2.2.1 y7.2.2.2)) h), .g, (.w .g), (.w .g), (.w .g), (.w (.ix id7 off7 g7)), (.w .g), (.w (.ld (.int .i64 y7.2.1))), (.w .g), (.w .g), (.w .g), (.w (.ix id7 off7 g7)), (.w .g), (.w .g), (.w .g), (.w (.ix id7 off7 g7)), (.w .g), (.w (.ld (.int .i64 y7.1))), (.w (.ld (.agg #[.int .i64 y7.1, .int .i64 y7.2.1, .int .i64 y7.2.2.1, .int .i64 y7.2.2.2]))), (.w (.c (.int .i64 y10) h)), (.w (.c (.int .i64 y12) h)), (.w .g), (.w (.c (.int .i64 (F19 y7.1 y7.2.1 y7.2.2.1 y7.2.2.2 x3)) h)), (.w .g), (.p true), (.b true), .g, .g]) (ds := F23_m1_0) (ks := []) (e := ((F23_x1 h) ((0, a5) : Nat × Int)).1) (s2 := ((F23_x1 h) ((0, a5) : Nat × Int)).2) (hC := (And.intro c15 (And.intro c9 (And.intro (g_tt c9) (And.intro (show AKeep h h from (AHeap.sub_refl h)) (And.intro (F19_spec y7.1 y7.2.1 y7.2.2.1 y7.2.2.2 x3 h _ rfl) (And.intro (g_tt c9) (And.intro (g_tt c9) (And.intro (show AKeep h h from (AHeap.sub_refl h)) (And.intro (F41_spec l4 y7.1 v4 h hv4 _ e12) (And.intro (g_tt c9) (And.intro (show AKeep h h from (AHeap.sub_refl h)) (And.intro (F41_spec l4 y7.2.1 v4 h hv4 _ e10) (And.intro (g_tt c9) (And.intro (At.agg (P := Try.prog) (t := 38) (v := .agg #[.int .i64 y7.1, .int .i64 y7.2.1, .int .i64 y7.2.2.1, .int .i64 y7.2.2.2]) (m := 4) at7 (by kernel_rfl) (by kernel_rfl) 0 (by kernel_rfl) rfl) (And.intro (g_tt c9) (And.intro (At.one (P := Try.prog) (t := 3) (v := .int .i64 y7.1) at7 (by kernel_rfl) 0 rfl rfl) (And.intro (g_tt c9) (And.intro (g_tt c9) (And.intro ix7 (And.intro (g_tt c9) (And.intro (g_tt c9) (And.intro (g_tt c9) (And.intro (g_tt c9) (And.intro ix7 (And.intro (g_tt c9) (And.intro (g_tt c9) (And.intro (g_tt c9) (And.intro (g_tt c9) (And.intro (At.one (P := Try.prog) (t := 3) (v := .int .i64 y7.2.1) at7 (by kernel_rfl) 1 rfl rfl) (And.intro (g_tt c9) (And.intro (g_tt c9) (And.intro ix7 (And.intro (g_tt c9) (And.intro (g_tt c9) (And.intro (g_tt c9) (And.intro (g_tt c9) (And.intro (show AKeep h h from (AHeap.sub_refl h)) (And.intro (F39_spec x1 y7.1 y7.2.1 y7.2.2.1 y7.2.2.2 h _ rfl) (And.intro (At.agg (P := Try.prog) (t := 38) (v := .agg #[.int .i64 y7.1, .int .i64 y7.2.1, .int .i64 y7.2.2.1, .int .i64 y7.2.2.2]) (m := 4) at7 (by kernel_rfl) (by kernel_rfl) 0 (by kernel_rfl) rfl) (And.intro ix7 (And.intro c6 trivial)))))))))))))))))))))))))))))))))))))))))) (hd := F23_d1) (h := by kernel_rfl)
      · intro hr
        obtain rfl := Option.some.inj hr
        show AWp Try.prog _ (Ends1 .normal (F23_h1 h x1 l2 v2 x3 v4 (IntKind.i64.wrap (a5 + 1)))) _
        exact pEnd_sound good (L := F23_L) (D := F23_D) (its := [.g, (.b true), .g, .g, .g, .g, .g, (.ix id7 off7 g7), (.ld (.agg #[.int .i64 y7.1, .int .i64 y7.2.1, .int .i64 y7.2.2.1, .int .i64 y7.2.2.2])), (.c (.bool (F39 x1 y7.1 y7.2.1 y7.2.2.1 y7.2.2.2)) h), .g, (.w .g), (.w .g), (.w .g), (.w (.ix id7 off7 g7)), (.w .g), (.w (.ld (.int .i64 y7.2.1))), (.w .g), (.w .g), (.w .g), (.w (.ix id7 off7 g7)), (.w .g), (.w .g), (.w .g), (.w (.ix id7 off7 g7)), (.w .g), (.w (.ld (.int .i64 y7.1))), (.w (.ld (.agg #[.int .i64 y7.1, .int .i64 y7.2.1, .int .i64 y7.2.2.1, .int .i64 y7.2.2.2]))), (.w (.c (.int .i64 y10) h)), (.w (.c (.int .i64 y12) h)), (.w .g), (.w (.c (.int .i64 (F19 y7.1 y7.2.1 y7.2.2.1 y7.2.2.2 x3)) h)), (.w .g), (.p true), (.b false), .g, .g]) (ds := F23_m1_1) (ks := []) (e := .normal) (s2 := (F23_h1 h x1 l2 v2 x3 v4 (IntKind.i64.wrap (a5 + 1)))) (hC := (And.intro c15 (And.intro c9 (And.intro (g_tt c9) (And.intro (show AKeep h h from (AHeap.sub_refl h)) (And.intro (F19_spec y7.1 y7.2.1 y7.2.2.1 y7.2.2.2 x3 h _ rfl) (And.intro (g_tt c9) (And.intro (g_tt c9) (And.intro (show AKeep h h from (AHeap.sub_refl h)) (And.intro (F41_spec l4 y7.1 v4 h hv4 _ e12) (And.intro (g_tt c9) (And.intro (show AKeep h h from (AHeap.sub_refl h)) (And.intro (F41_spec l4 y7.2.1 v4 h hv4 _ e10) (And.intro (g_tt c9) (And.intro (At.agg (P := Try.prog) (t := 38) (v := .agg #[.int .i64 y7.1, .int .i64 y7.2.1, .int .i64 y7.2.2.1, .int .i64 y7.2.2.2]) (m := 4) at7 (by kernel_rfl) (by kernel_rfl) 0 (by kernel_rfl) rfl) (And.intro (g_tt c9) (And.intro (At.one (P := Try.prog) (t := 3) (v := .int .i64 y7.1) at7 (by kernel_rfl) 0 rfl rfl) (And.intro (g_tt c9) (And.intro (g_tt c9) (And.intro ix7 (And.intro (g_tt c9) (And.intro (g_tt c9) (And.intro (g_tt c9) (And.intro (g_tt c9) (And.intro ix7 (And.intro (g_tt c9) (And.intro (g_tt c9) (And.intro (g_tt c9) (And.intro (g_tt c9) (And.intro (At.one (P := Try.prog) (t := 3) (v := .int .i64 y7.2.1) at7 (by kernel_rfl) 1 rfl rfl) (And.intro (g_tt c9) (And.intro (g_tt c9) (And.intro ix7 (And.intro (g_tt c9) (And.intro (g_tt c9) (And.intro (g_tt c9) (And.intro (g_tt c9) (And.intro (show AKeep h h from (AHeap.sub_refl h)) (And.intro (F39_spec x1 y7.1 y7.2.1 y7.2.2.1 y7.2.2.2 h _ rfl) (And.intro (At.agg (P := Try.prog) (t := 38) (v := .agg #[.int .i64 y7.1, .int .i64 y7.2.1, .int .i64 y7.2.2.1, .int .i64 y7.2.2.2]) (m := 4) at7 (by kernel_rfl) (by kernel_rfl) 0 (by kernel_rfl) rfl) (And.intro ix7 (And.intro c6 trivial)))))))))))))))))))))))))))))))))))))))))) (hd := F23_d1) (h := by kernel_rfl)
    · intro hr
      obtain rfl := Option.some.inj hr
      show AWp Try.prog _ (Ends1 .normal (F23_h1 h x1 l2 v2 x3 v4 (IntKind.i64.wrap (a5 + 1)))) _
      exact pEnd_sound good (L := F23_L) (D := F23_D) (its := [.g, (.b true), .g, .g, .g, .g, .g, (.ix id7 off7 g7), (.ld (.agg #[.int .i64 y7.1, .int .i64 y7.2.1, .int .i64 y7.2.2.1, .int .i64 y7.2.2.2])), (.c (.bool (F39 x1 y7.1 y7.2.1 y7.2.2.1 y7.2.2.2)) h), .g, .n, .n, .n, .n, .n, .n, .n, .n, .n, .n, .n, .n, .n, .n, .n, .n, .n, .n, .n, .n, .n, .n, (.p false), (.b false), .g, .g]) (ds := F23_m1_1) (ks := []) (e := .normal) (s2 := (F23_h1 h x1 l2 v2 x3 v4 (IntKind.i64.wrap (a5 + 1)))) (hC := (And.intro l_f (And.intro c9 (And.intro (g_ft c9) (And.intro (g_ft c9) (And.intro (g_ft c9) (And.intro (g_ft c9) (And.intro (g_ft c9) (And.intro (g_ft c9) (And.intro (g_ft c9) (And.intro (g_ft c9) (And.intro (g_ft c9) (And.intro (g_ft c9) (And.intro (g_ft c9) (And.intro (g_ft c9) (And.intro (g_ft c9) (And.intro (g_ft c9) (And.intro (g_ft c9) (And.intro (g_ft c9) (And.intro (g_ft c9) (And.intro (g_ft c9) (And.intro (g_ft c9) (And.intro (g_ft c9) (And.intro (g_ft c9) (And.intro (g_ft c9) (And.intro (show AKeep h h from (AHeap.sub_refl h)) (And.intro (F39_spec x1 y7.1 y7.2.1 y7.2.2.1 y7.2.2.2 h _ rfl) (And.intro (At.agg (P := Try.prog) (t := 38) (v := .agg #[.int .i64 y7.1, .int .i64 y7.2.1, .int .i64 y7.2.2.1, .int .i64 y7.2.2.2]) (m := 4) at7 (by kernel_rfl) (by kernel_rfl) 0 (by kernel_rfl) rfl) (And.intro ix7 (And.intro c6 trivial)))))))))))))))))))))))))))))) (hd := F23_d1) (h := by kernel_rfl)
  · intro hr
    obtain rfl := Option.some.inj hr
    show AWp Try.prog _ (Ends1 ((F23_x1 h) ((1, 0) : Nat × Int)).1 ((F23_x1 h) ((1, 0) : Nat × Int)).2) _
    exact pEnd_sound good (L := F23_L) (D := F23_D) (its := [.g, (.b false)]) (ds := F23_m1_2) (ks := []) (e := ((F23_x1 h) ((1, 0) : Nat × Int)).1) (s2 := ((F23_x1 h) ((1, 0) : Nat × Int)).2) (hC := (And.intro c6 trivial)) (hd := F23_d1) (h := by kernel_rfl)
theorem F23_l1_0 (h : AHeap) (x1 : Int) (l2 : List (Int × Int × Int × Int)) (v2 : Hd) (hv2 : SlE E38 4 h (sv v2) l2) (x3 : Int) (l4 : List Int) (v4 : Hd) (hv4 : SlE E3 1 h (sv v4) l4) (x : Int) (r : Nat × Int) (hl : loopO (fun (s : Int) => F23_s1 x1 l2 x3 l4 s) x = some r) (q0 : Nat.beq r.1 0 = true) : AWp Try.prog (.loop (codeOf Try.prog 23 [1, 0, 1, 0, 0])) (Ends1 .ret (F23_x1_0 h r)) ((fun (s : Int) => (F23_h1 h x1 l2 v2 x3 v4 s)) x) := by
  have k := loop_fun (P := Try.prog) (c := (codeOf Try.prog 23 [1, 0, 1, 0, 0])) (step := (fun (s : Int) => F23_s1 x1 l2 x3 l4 s)) (hd := (fun (s : Int) => (F23_h1 h x1 l2 v2 x3 v4 s))) (X := (F23_x1 h)) (by intro t; unfold F23_x1; cases Nat.beq t.1 0 <;> (intro h; cases h)) (fun x => F23_r1 h x1 l2 v2 hv2 x3 l4 v4 hv4 x) hl
  simp only [F23_x1, q0, cond_true, cond_false] at k
  exact k
theorem F23_l1_1 (h : AHeap) (x1 : Int) (l2 : List (Int × Int × Int × Int)) (v2 : Hd) (hv2 : SlE E38 4 h (sv v2) l2) (x3 : Int) (l4 : List Int) (v4 : Hd) (hv4 : SlE E3 1 h (sv v4) l4) (x : Int) (r : Nat × Int) (hl : loopO (fun (s : Int) => F23_s1 x1 l2 x3 l4 s) x = some r) (q0 : Nat.beq r.1 0 = false) : AWp Try.prog (.loop (codeOf Try.prog 23 [1, 0, 1, 0, 0])) (Ends1 (.exit 0) (F23_x1_1 h r)) ((fun (s : Int) => (F23_h1 h x1 l2 v2 x3 v4 s)) x) := by
  have k := loop_fun (P := Try.prog) (c := (codeOf Try.prog 23 [1, 0, 1, 0, 0])) (step := (fun (s : Int) => F23_s1 x1 l2 x3 l4 s)) (hd := (fun (s : Int) => (F23_h1 h x1 l2 v2 x3 v4 s))) (X := (F23_x1 h)) (by intro t; unfold F23_x1; cases Nat.beq t.1 0 <;> (intro h; cases h)) (fun x => F23_r1 h x1 l2 v2 hv2 x3 l4 v4 hv4 x) hl
  simp only [F23_x1, q0, cond_true, cond_false] at k
  exact k
def F23 (x1 : Int) (l2 : List (Int × Int × Int × Int)) (x3 : Int) (l4 : List Int) : Option (Int) :=
  (Option.bind (loopO (fun (s : Int) => F23_s1 x1 l2 x3 l4 s) 0) fun y16 =>
  (bif (Nat.beq y16.1 0) then
   some (y16.2)
  else
   some (-1)))
set_option maxRecDepth 100000 in
theorem F23_spec (x1 : Int) (l2 : List (Int × Int × Int × Int)) (x3 : Int) (l4 : List Int) (v2 : Hd) (v4 : Hd) (h : AHeap) (hv2 : SlE E38 4 h (sv v2) l2) (hv4 : SlE E3 1 h (sv v4) l4) (r : Int) : F23 x1 l2 x3 l4 = some r → ACalls Try.prog 23 [.int .i64 x1, (sv v2), .int .i64 x3, (sv v4)] h (fun v' h'' => v' = (.int .i64 r : Value) ∧ h'' = h) := by
  unfold F23
  refine bind_opt fun y16 e16 => ?_
  refine dec_bif (fun c17 => ?_) (fun c17 => ?_)
  · intro hr
    obtain rfl := Option.some.inj hr
    exact pFun_sound good tab_ok (f := 23) (its := [.g, .g, (.ln l2.length), .g, (.l F23_m1_1 [] .ret (F23_x1_0 h y16))]) (args := [.int .i64 x1, (sv v2), .int .i64 x3, (sv v4)]) (h := h) (h' := h) (v := .int .i64 y16.2) (hC := (And.intro (F23_l1_0 h x1 l2 v2 hv2 x3 l4 v4 hv4 0 y16 e16 c17) (And.intro (SlE.len hv2) trivial))) (hr := by kernel_rfl)
  · intro hr
    obtain rfl := Option.some.inj hr
    exact pFun_sound good tab_ok (f := 23) (its := [.g, .g, (.ln l2.length), .g, (.l F23_m1_1 [] (.exit 0) (F23_x1_1 h y16)), .g]) (args := [.int .i64 x1, (sv v2), .int .i64 x3, (sv v4)]) (h := h) (h' := h) (v := .int .i64 (-1)) (hC := (And.intro (F23_l1_1 h x1 l2 v2 hv2 x3 l4 v4 hv4 0 y16 e16 c17) (And.intro (SlE.len hv2) trivial))) (hr := by kernel_rfl)
/-! 6 jacquard/jacquardlaw30.DiffconsChecks -/
def F6_L : List Nat := [3]
def F6_D : List (Nat × List (Nat × Nat)) := [(6, [(0, 2), (1, 2), (2, 2), (3, 2), (4, 2), (5, 2), (6, 2), (8, 2), (10, 2), (13, 2), (9, 3), (11, 2), (14, 3), (12, 5), (7, 1), (15, 1), (16, 2)]), (11, [(0, 2), (1, 2), (2, 2), (3, 2), (4, 2), (5, 2), (6, 2), (7, 2), (8, 2), (9, 2), (10, 2), (11, 2), (12, 2), (13, 2), (14, 2), (15, 2), (17, 2), (19, 2), (21, 2), (23, 2), (18, 3), (20, 3), (22, 3), (16, 1), (24, 1), (25, 2), (26, 2), (27, 2)])]
def F6_m1_2 : List Bool := [true, false, false, false, true, true, true, true, true, true, true, true, true, true, true, true, true, true, true, true, true, true, true, true, true, true, true, true, true, true, true, true, true, true, true, true, true, true, true, true, true, true, true, true, true, true, true, true, true, true, true, true, true, true, true, true, true, true, true, true, true, true, true, true, true, true, true, true, true, true, true, true, true, true, true, true, true, true, true, true, true, true, true, true, true, true, true, true, true, true, true, true, true, true, true, true, true, true, true, true, true, true, true]
def F6_m1_1 : List Bool := [true, false, false, false, true, true, true, true, true, true, true, true, true, true, true, true, true, true, true, true, true, true, true, true, true, true, true, true, true, true, true, true, false, false, true, true, true, true, true, true, true, true, true, true, true, true, true, true, true, true, true, true, true, true, true, true, true, true, true, true, true, true, true, true, true, true, true, true, true, true, true, true, true, true, true, true, true, true, true, true, true, true, true, true, true, true, true, true, true, true, true, true, true, true, true, true, true, true, true, true, true, true, true]
def F6_m1_0 : List Bool := [true, true, true, true, true, true, false, true, true, true, true, true, true, true, true, true, true, true, true, true, true, true, true, true, true, true, true, true, true, true, true, true, true, true, true, true, true, true, true, true, true, true, true, true, true, true, true, true, true, true, true, true, true, true, true, true, true, true, true, true, true, true, true, true, true, true, true, true, true, true, true, true, true, true, true, true, true, true, true, true, true, true, true, true, true, true, true, true, true, true, true, true, true, true, true, true, true, true, true, true, true, true, true]
def F6_s1 (l2 : List (Int × Int × Int × Int)) (x3 : Int) (a14 : Int) : Option (Int ⊕ Nat) :=
  (bif decide (a14 < (l2.length : Int)) then
   (Option.bind (at? l2 a14) fun y16 =>
   (bif ((F18 y16.1 y16.2.1 y16.2.2.1 y16.2.2.2 x3) != (F19 y16.1 y16.2.1 y16.2.2.1 y16.2.2.2 x3)) then
    some (.inr 0)
   else
    some (.inl (IntKind.i64.wrap (a14 + 1)))))
  else
   some (.inr 1))
def F6_h1 (h : AHeap) (x1 : Int) (l2 : List (Int × Int × Int × Int)) (v2 : Hd) (x3 : Int) (v4 : Hd) (v5 : Hd)  (a14 : Int) : AS := ⟨[junk, (sv v4), (sv v5), .pointer (some ⟨3, 0, none⟩), junk, junk, junk, junk, junk, junk, junk, junk, junk, junk, junk, junk, junk, junk, junk, junk, junk, junk, junk, junk, junk, junk, junk, junk, junk, junk, junk, junk, .int .i64 (l2.length : Int), .int .i64 a14, junk, junk, junk, junk, junk, junk, junk, junk, junk, junk, junk, junk, junk, junk, junk, junk, junk, junk, junk, junk, junk, junk, junk, junk, junk, junk, junk, junk, junk, junk, junk, junk, junk, junk, junk, junk, junk, junk, junk, junk, junk, junk, junk, junk, junk, junk, junk, junk, junk, junk, junk, junk, junk, junk, junk, junk, junk, junk, junk, junk, junk, junk, junk, junk, junk, junk, junk, junk, junk], [(3, [.int .i64 x1, (sv v2), .int .i64 x3])], h⟩
theorem F6_d1 : drawsOk F6_D (codeOf Try.prog 6 [1, 1, 0, 1, 0, 0]) = true := by kernel_rfl
def F6_x1_0 (h : AHeap) (x1 : Int) (v2 : Hd) (x3 : Int) (v4 : Hd) (v5 : Hd)  (r : Nat) : AS := ⟨[junk, junk, junk, junk, junk, junk, .bool false, junk, junk, junk, junk, junk, junk, junk, junk, junk, junk, junk, junk, junk, junk, junk, junk, junk, junk, junk, junk, junk, junk, junk, junk, junk, junk, junk, junk, junk, junk, junk, junk, junk, junk, junk, junk, junk, junk, junk, junk, junk, junk, junk, junk, junk, junk, junk, junk, junk, junk, junk, junk, junk, junk, junk, junk, junk, junk, junk, junk, junk, junk, junk, junk, junk, junk, junk, junk, junk, junk, junk, junk, junk, junk, junk, junk, junk, junk, junk, junk, junk, junk, junk, junk, junk, junk, junk, junk, junk, junk, junk, junk, junk, junk, junk, junk], [], h⟩
def F6_x1_1 (h : AHeap) (x1 : Int) (v2 : Hd) (x3 : Int) (v4 : Hd) (v5 : Hd)  (r : Nat) : AS := ⟨[junk, (sv v4), (sv v5), .pointer (some ⟨3, 0, none⟩), junk, junk, junk, junk, junk, junk, junk, junk, junk, junk, junk, junk, junk, junk, junk, junk, junk, junk, junk, junk, junk, junk, junk, junk, junk, junk, junk, junk, junk, junk, junk, junk, junk, junk, junk, junk, junk, junk, junk, junk, junk, junk, junk, junk, junk, junk, junk, junk, junk, junk, junk, junk, junk, junk, junk, junk, junk, junk, junk, junk, junk, junk, junk, junk, junk, junk, junk, junk, junk, junk, junk, junk, junk, junk, junk, junk, junk, junk, junk, junk, junk, junk, junk, junk, junk, junk, junk, junk, junk, junk, junk, junk, junk, junk, junk, junk, junk, junk, junk], [(3, [.int .i64 x1, (sv v2), .int .i64 x3])], h⟩
def F6_x1 (h : AHeap) (x1 : Int) (v2 : Hd) (x3 : Int) (v4 : Hd) (v5 : Hd) (r : Nat) : Exit × AS := (bif Nat.beq r 0 then (.ret, (F6_x1_0 h x1 v2 x3 v4 v5 r)) else ((.exit 0), (F6_x1_1 h x1 v2 x3 v4 v5 r)))
set_option maxRecDepth 100000 in
theorem F6_r1 (h : AHeap) (x1 : Int) (l2 : List (Int × Int × Int × Int)) (v2 : Hd) (hv2 : SlE E38 4 h (sv v2) l2) (x3 : Int) (v4 : Hd) (v5 : Hd) (a14 : Int) (o : Int ⊕ Nat) : F6_s1 l2 x3 a14 = some o → RdF Try.prog (codeOf Try.prog 6 [1, 1, 0, 1, 0, 0]) (fun (s : Int) => (F6_h1 h x1 l2 v2 x3 v4 v5 s)) (F6_x1 h x1 v2 x3 v4 v5) (F6_h1 h x1 l2 v2 x3 v4 v5 a14) o := by
  unfold F6_s1
  refine dec_bif (fun c15 => ?_) (fun c15 => ?_)
  · refine bind_opt fun y16 e16 => ?_
    obtain ⟨id16, off16, g16, cs16, ix16, at16, rfl⟩ := SlE.at hv2 e16
    refine dec_bif (fun c19 => ?_) (fun c19 => ?_)
    · intro hr
      obtain rfl := Option.some.inj hr
      show AWp Try.prog _ (Ends1 ((F6_x1 h x1 v2 x3 v4 v5) (0 : Nat)).1 ((F6_x1 h x1 v2 x3 v4 v5) (0 : Nat)).2) _
      exact pEnd_sound good (L := F6_L) (D := F6_D) (its := [.g, (.b true), .g, .g, .g, .g, .g, (.ix id16 off16 g16), (.ld (.agg #[.int .i64 y16.1, .int .i64 y16.2.1, .int .i64 y16.2.2.1, .int .i64 y16.2.2.2])), .g, .g, .g, .g, .g, .g, (.ix id16 off16 g16), .g, (.ld (.agg #[.int .i64 y16.1, .int .i64 y16.2.1, .int .i64 y16.2.2.1, .int .i64 y16.2.2.2])), (.c (.int .i64 (F18 y16.1 y16.2.1 y16.2.2.1 y16.2.2.2 x3)) h), (.c (.int .i64 (F19 y16.1 y16.2.1 y16.2.2.1 y16.2.2.2 x3)) h), .g, (.b true), .g]) (ds := F6_m1_0) (ks := [3]) (e := ((F6_x1 h x1 v2 x3 v4 v5) (0 : Nat)).1) (s2 := ((F6_x1 h x1 v2 x3 v4 v5) (0 : Nat)).2) (hC := (And.intro c19 (And.intro (show AKeep h h from (AHeap.sub_refl h)) (And.intro (F19_spec y16.1 y16.2.1 y16.2.2.1 y16.2.2.2 x3 h _ rfl) (And.intro (show AKeep h h from (AHeap.sub_refl h)) (And.intro (F18_spec y16.1 y16.2.1 y16.2.2.1 y16.2.2.2 x3 h _ rfl) (And.intro (At.agg (P := Try.prog) (t := 38) (v := .agg #[.int .i64 y16.1, .int .i64 y16.2.1, .int .i64 y16.2.2.1, .int .i64 y16.2.2.2]) (m := 4) at16 (by kernel_rfl) (by kernel_rfl) 0 (by kernel_rfl) rfl) (And.intro ix16 (And.intro (At.agg (P := Try.prog) (t := 38) (v := .agg #[.int .i64 y16.1, .int .i64 y16.2.1, .int .i64 y16.2.2.1, .int .i64 y16.2.2.2]) (m := 4) at16 (by kernel_rfl) (by kernel_rfl) 0 (by kernel_rfl) rfl) (And.intro ix16 (And.intro c15 trivial))))))))))) (hd := F6_d1) (h := by kernel_rfl)
    · intro hr
      obtain rfl := Option.some.inj hr
      show AWp Try.prog _ (Ends1 .normal (F6_h1 h x1 l2 v2 x3 v4 v5 (IntKind.i64.wrap (a14 + 1)))) _
      exact pEnd_sound good (L := F6_L) (D := F6_D) (its := [.g, (.b true), .g, .g, .g, .g, .g, (.ix id16 off16 g16), (.ld (.agg #[.int .i64 y16.1, .int .i64 y16.2.1, .int .i64 y16.2.2.1, .int .i64 y16.2.2.2])), .g, .g, .g, .g, .g, .g, (.ix id16 off16 g16), .g, (.ld (.agg #[.int .i64 y16.1, .int .i64 y16.2.1, .int .i64 y16.2.2.1, .int .i64 y16.2.2.2])), (.c (.int .i64 (F18 y16.1 y16.2.1 y16.2.2.1 y16.2.2.2 x3)) h), (.c (.int .i64 (F19 y16.1 y16.2.1 y16.2.2.1 y16.2.2.2 x3)) h), .g, (.b false), .g, .g]) (ds := F6_m1_1) (ks := []) (e := .normal) (s2 := (F6_h1 h x1 l2 v2 x3 v4 v5 (IntKind.i64.wrap (a14 + 1)))) (hC := (And.intro c19 (And.intro (show AKeep h h from (AHeap.sub_refl h)) (And.intro (F19_spec y16.1 y16.2.1 y16.2.2.1 y16.2.2.2 x3 h _ rfl) (And.intro (show AKeep h h from (AHeap.sub_refl h)) (And.intro (F18_spec y16.1 y16.2.1 y16.2.2.1 y16.2.2.2 x3 h _ rfl) (And.intro (At.agg (P := Try.prog) (t := 38) (v := .agg #[.int .i64 y16.1, .int .i64 y16.2.1, .int .i64 y16.2.2.1, .int .i64 y16.2.2.2]) (m := 4) at16 (by kernel_rfl) (by kernel_rfl) 0 (by kernel_rfl) rfl) (And.intro ix16 (And.intro (At.agg (P := Try.prog) (t := 38) (v := .agg #[.int .i64 y16.1, .int .i64 y16.2.1, .int .i64 y16.2.2.1, .int .i64 y16.2.2.2]) (m := 4) at16 (by kernel_rfl) (by kernel_rfl) 0 (by kernel_rfl) rfl) (And.intro ix16 (And.intro c15 trivial))))))))))) (hd := F6_d1) (h := by kernel_rfl)
  · intro hr
    obtain rfl := Option.some.inj hr
    show AWp Try.prog _ (Ends1 ((F6_x1 h x1 v2 x3 v4 v5) (1 : Nat)).1 ((F6_x1 h x1 v2 x3 v4 v5) (1 : Nat)).2) _
    exact pEnd_sound good (L := F6_L) (D := F6_D) (its := [.g, (.b false)]) (ds := F6_m1_2) (ks := []) (e := ((F6_x1 h x1 v2 x3 v4 v5) (1 : Nat)).1) (s2 := ((F6_x1 h x1 v2 x3 v4 v5) (1 : Nat)).2) (hC := (And.intro c15 trivial)) (hd := F6_d1) (h := by kernel_rfl)
theorem F6_l1_0 (h : AHeap) (x1 : Int) (l2 : List (Int × Int × Int × Int)) (v2 : Hd) (hv2 : SlE E38 4 h (sv v2) l2) (x3 : Int) (v4 : Hd) (v5 : Hd) (x : Int) (r : Nat) (hl : loopO (fun (s : Int) => F6_s1 l2 x3 s) x = some r) (q0 : Nat.beq r 0 = true) : AWp Try.prog (.loop (codeOf Try.prog 6 [1, 1, 0, 1, 0, 0])) (Ends1 .ret (F6_x1_0 h x1 v2 x3 v4 v5 r)) ((fun (s : Int) => (F6_h1 h x1 l2 v2 x3 v4 v5 s)) x) := by
  have k := loop_fun (P := Try.prog) (c := (codeOf Try.prog 6 [1, 1, 0, 1, 0, 0])) (step := (fun (s : Int) => F6_s1 l2 x3 s)) (hd := (fun (s : Int) => (F6_h1 h x1 l2 v2 x3 v4 v5 s))) (X := (F6_x1 h x1 v2 x3 v4 v5)) (by intro t; unfold F6_x1; cases Nat.beq t 0 <;> (intro h; cases h)) (fun x => F6_r1 h x1 l2 v2 hv2 x3 v4 v5 x) hl
  simp only [F6_x1, q0, cond_true, cond_false] at k
  exact k
theorem F6_l1_1 (h : AHeap) (x1 : Int) (l2 : List (Int × Int × Int × Int)) (v2 : Hd) (hv2 : SlE E38 4 h (sv v2) l2) (x3 : Int) (v4 : Hd) (v5 : Hd) (x : Int) (r : Nat) (hl : loopO (fun (s : Int) => F6_s1 l2 x3 s) x = some r) (q0 : Nat.beq r 0 = false) : AWp Try.prog (.loop (codeOf Try.prog 6 [1, 1, 0, 1, 0, 0])) (Ends1 (.exit 0) (F6_x1_1 h x1 v2 x3 v4 v5 r)) ((fun (s : Int) => (F6_h1 h x1 l2 v2 x3 v4 v5 s)) x) := by
  have k := loop_fun (P := Try.prog) (c := (codeOf Try.prog 6 [1, 1, 0, 1, 0, 0])) (step := (fun (s : Int) => F6_s1 l2 x3 s)) (hd := (fun (s : Int) => (F6_h1 h x1 l2 v2 x3 v4 v5 s))) (X := (F6_x1 h x1 v2 x3 v4 v5)) (by intro t; unfold F6_x1; cases Nat.beq t 0 <;> (intro h; cases h)) (fun x => F6_r1 h x1 l2 v2 hv2 x3 v4 v5 x) hl
  simp only [F6_x1, q0, cond_true, cond_false] at k
  exact k
def F6 (x1 : Int) (l2 : List (Int × Int × Int × Int)) (x3 : Int) (l4 : List Int) (l5 : List Int) : Option (Bool) :=
  (bif (!(F10 x1 l2 x3)) then
   some (true)
  else
   (bif decide ((l4.length : Int) > 30) then
    some (true)
   else
    (bif decide ((l5.length : Int) > 30) then
     some (true)
    else
     (Option.bind (loopO (fun (s : Int) => F6_s1 l2 x3 s) 0) fun y20 =>
     (bif (Nat.beq y20 0) then
      some (false)
     else
      (Option.bind (F20 x1 l2 x3 l4) fun y22 =>
      (Option.bind (F21 x1 l2 x3 l4) fun y24 =>
      (bif (y22.1 == y24.1) then
       (bif (y22.2 == y24.2) then
        (Option.bind (F22 x1 l2 x3 l5) fun y28 =>
        (Option.bind (F23 x1 l2 x3 l5) fun y30 =>
        some (y28 == y30)))
       else
        some (false))
      else
       some (false)))))))))
set_option maxRecDepth 100000 in
theorem F6_spec (x1 : Int) (l2 : List (Int × Int × Int × Int)) (x3 : Int) (l4 : List Int) (l5 : List Int) (v2 : Hd) (v4 : Hd) (v5 : Hd) (h : AHeap) (hw : h.wf) (hv2 : SlE E38 4 h (sv v2) l2) (hv4 : SlE E3 1 h (sv v4) l4) (hv5 : SlE E3 1 h (sv v5) l5) (r : Bool) : F6 x1 l2 x3 l4 l5 = some r → ∃ (h' : AHeap), Heapy h h' [] ∧ ACalls Try.prog 6 [.agg #[.int .i64 x1, (sv v2), .int .i64 x3], (sv v4), (sv v5)] h (fun v' h'' => v' = (.bool r : Value) ∧ h'' = h') := by
  unfold F6
  refine dec_bif (fun c8 => ?_) (fun c8 => ?_)
  · intro hr
    obtain rfl := Option.some.inj hr
    exact ⟨h, Heapy.pick (Heapy.refl hw) [] (by decide), pFun_sound good tab_ok (f := 6) (its := [.g, .g, (.c (.bool true) h), .g, .g, (.w .g), (.w (.c (.bool (F10 x1 l2 x3)) h)), (.w .g), .g, .g, .n, .n, .n, (.p true), .g, .n, .n, .n, .g, (.b true), (.c (.bool true) h), .g]) (args := [.agg #[.int .i64 x1, (sv v2), .int .i64 x3], (sv v4), (sv v5)]) (h := h) (h' := h) (v := .bool true) (hC := (And.intro (F9_spec h _ rfl) (And.intro l_t (And.intro (g_tf l_t) (And.intro (g_tf l_t) (And.intro (g_tf l_t) (And.intro c8 (And.intro (g_tf c8) (And.intro (g_tf c8) (And.intro (g_tf c8) (And.intro (g_ff l_f) (And.intro (F10_spec x1 l2 x3 v2 h hv2 _ rfl) (And.intro (g_ff l_f) (And.intro (g_ff l_f) (And.intro (F9_spec h _ rfl) trivial))))))))))))))) (hr := by kernel_rfl)⟩
  · refine dec_bif (fun c10 => ?_) (fun c10 => ?_)
    · intro hr
      obtain rfl := Option.some.inj hr
      exact ⟨h, Heapy.pick (Heapy.refl hw) [] (by decide), pFun_sound good tab_ok (f := 6) (its := [.g, .g, (.c (.bool true) h), .g, .g, (.w .g), (.w (.c (.bool (F10 x1 l2 x3)) h)), (.w .g), .g, .g, (.w .g), (.w (.ln l4.length)), (.w .g), (.p false), .g, .n, .n, .n, (.p true), (.b true), (.c (.bool true) h), .g]) (args := [.agg #[.int .i64 x1, (sv v2), .int .i64 x3], (sv v4), (sv v5)]) (h := h) (h' := h) (v := .bool true) (hC := (And.intro (F9_spec h _ rfl) (And.intro l_t (And.intro c10 (And.intro (g_tf c10) (And.intro (g_tf c10) (And.intro (g_tf c10) (And.intro c8 (And.intro (g_ff c8) (And.intro (SlE.len hv4) (And.intro (g_ff c8) (And.intro (g_ff c8) (And.intro (g_ff l_f) (And.intro (F10_spec x1 l2 x3 v2 h hv2 _ rfl) (And.intro (g_ff l_f) (And.intro (g_ff l_f) (And.intro (F9_spec h _ rfl) trivial))))))))))))))))) (hr := by kernel_rfl)⟩
    · refine dec_bif (fun c12 => ?_) (fun c12 => ?_)
      · intro hr
        obtain rfl := Option.some.inj hr
        exact ⟨h, Heapy.pick (Heapy.refl hw) [] (by decide), pFun_sound good tab_ok (f := 6) (its := [.g, .g, (.c (.bool true) h), .g, .g, (.w .g), (.w (.c (.bool (F10 x1 l2 x3)) h)), (.w .g), .g, .g, (.w .g), (.w (.ln l4.length)), (.w .g), (.p false), .g, (.w .g), (.w (.ln l5.length)), (.w .g), (.p false), (.b true), (.c (.bool true) h), .g]) (args := [.agg #[.int .i64 x1, (sv v2), .int .i64 x3], (sv v4), (sv v5)]) (h := h) (h' := h) (v := .bool true) (hC := (And.intro (F9_spec h _ rfl) (And.intro c12 (And.intro c10 (And.intro (g_ff c10) (And.intro (SlE.len hv5) (And.intro (g_ff c10) (And.intro (g_ff c10) (And.intro c8 (And.intro (g_ff c8) (And.intro (SlE.len hv4) (And.intro (g_ff c8) (And.intro (g_ff c8) (And.intro (g_ff l_f) (And.intro (F10_spec x1 l2 x3 v2 h hv2 _ rfl) (And.intro (g_ff l_f) (And.intro (g_ff l_f) (And.intro (F9_spec h _ rfl) trivial)))))))))))))))))) (hr := by kernel_rfl)⟩
      · refine bind_opt fun y20 e20 => ?_
        refine dec_bif (fun c21 => ?_) (fun c21 => ?_)
        · intro hr
          obtain rfl := Option.some.inj hr
          exact ⟨h, Heapy.pick (Heapy.refl hw) [] (by decide), pFun_sound good tab_ok (f := 6) (its := [.g, .g, (.c (.bool true) h), .g, .g, (.w .g), (.w (.c (.bool (F10 x1 l2 x3)) h)), (.w .g), .g, .g, (.w .g), (.w (.ln l4.length)), (.w .g), (.p false), .g, (.w .g), (.w (.ln l5.length)), (.w .g), (.p false), (.b false), .g, .g, (.ln l2.length), .g, (.l F6_m1_1 [] .ret (F6_x1_0 h x1 v2 x3 v4 v5 y20))]) (args := [.agg #[.int .i64 x1, (sv v2), .int .i64 x3], (sv v4), (sv v5)]) (h := h) (h' := h) (v := .bool false) (hC := (And.intro (F6_l1_0 h x1 l2 v2 hv2 x3 v4 v5 0 y20 e20 c21) (And.intro (SlE.len hv2) (And.intro c12 (And.intro c10 (And.intro (g_ff c10) (And.intro (SlE.len hv5) (And.intro (g_ff c10) (And.intro (g_ff c10) (And.intro c8 (And.intro (g_ff c8) (And.intro (SlE.len hv4) (And.intro (g_ff c8) (And.intro (g_ff c8) (And.intro (g_ff l_f) (And.intro (F10_spec x1 l2 x3 v2 h hv2 _ rfl) (And.intro (g_ff l_f) (And.intro (g_ff l_f) (And.intro (F9_spec h _ rfl) trivial))))))))))))))))))) (hr := by kernel_rfl)⟩
        · refine bind_opt fun y22 e22 => ?_
          obtain ⟨h23, q23, c23⟩ := F20_spec x1 l2 x3 l4 v2 v4 h hw hv2 hv4 _ e22
          have hp23 : Heapy h h23 [] := Heapy.call (Heapy.refl hw) q23
          refine bind_opt fun y24 e24 => ?_
          refine dec_bif (fun c26 => ?_) (fun c26 => ?_)
          · refine dec_bif (fun c27 => ?_) (fun c27 => ?_)
            · refine bind_opt fun y28 e28 => ?_
              obtain ⟨h29, q29, c29⟩ := F22_spec x1 l2 x3 l5 v2 v5 h23 (Heapy.wf hp23) (SlE.mono hv2 (Heapy.sub hp23) (E38_mono (Heapy.sub hp23))) (SlE.mono hv5 (Heapy.sub hp23) (E3_mono (Heapy.sub hp23))) _ e28
              have hp29 : Heapy h h29 [] := Heapy.call hp23 q29
              refine bind_opt fun y30 e30 => ?_
              intro hr
              obtain rfl := Option.some.inj hr
              exact ⟨h29, Heapy.pick hp29 [] (by decide), pFun_sound good tab_ok (f := 6) (its := [.g, .g, (.c (.bool true) h), .g, .g, (.w .g), (.w (.c (.bool (F10 x1 l2 x3)) h)), (.w .g), .g, .g, (.w .g), (.w (.ln l4.length)), (.w .g), (.p false), .g, (.w .g), (.w (.ln l5.length)), (.w .g), (.p false), (.b false), .g, .g, (.ln l2.length), .g, (.l F6_m1_1 [] (.exit 0) (F6_x1_1 h x1 v2 x3 v4 v5 y20)), .g, .g, .g, .g, .g, .g, .g, (.c (.tuple #[.int .i64 y22.1, .bool y22.2]) h23), .g, .g, .g, .g, .g, .g, .g, .g, .g, .g, .g, .g, (.c (.tuple #[.int .i64 y24.1, .bool y24.2]) h23), .g, .g, .g, .g, .g, .g, .g, .g, .g, (.w .g), (.w .g), (.w .g), (.p true), .g, (.w .g), (.w .g), (.w .g), (.w .g), (.w .g), (.w .g), (.w .g), (.w .g), (.w .g), (.w .g), (.w .g), (.w .g), (.w .g), (.w .g), (.w (.c (.int .i64 y28) h29)), (.w (.c (.int .i64 y30) h29)), (.w .g), (.p true), .g]) (args := [.agg #[.int .i64 x1, (sv v2), .int .i64 x3], (sv v4), (sv v5)]) (h := h) (h' := h29) (v := .bool (y28 == y30)) (hC := (And.intro c27 (And.intro (g_tt c27) (And.intro (show AKeep h29 h29 from (AHeap.sub_refl h29)) (And.intro (F23_spec x1 l2 x3 l5 v2 v5 h29 (SlE.mono hv2 (Heapy.sub hp29) (E38_mono (Heapy.sub hp29))) (SlE.mono hv5 (Heapy.sub hp29) (E3_mono (Heapy.sub hp29))) _ e30) (And.intro (g_tt c27) (And.intro (show AKeep h23 h29 from (Heapy.sub q29)) (And.intro c29 (And.intro (g_tt c27) (And.intro (g_tt c27) (And.intro (g_tt c27) (And.intro (g_tt c27) (And.intro (g_tt c27) (And.intro (g_tt c27) (And.intro (g_tt c27) (And.intro (g_tt c27) (And.intro (g_tt c27) (And.intro (g_tt c27) (And.intro (g_tt c27) (And.intro (g_tt c27) (And.intro (g_tt c27) (And.intro (g_tt c27) (And.intro (g_tt c27) (And.intro c26 (And.intro (g_tt c26) (And.intro (g_tt c26) (And.intro (g_tt c26) (And.intro (F21_spec x1 l2 x3 l4 v2 v4 h23 (SlE.mono hv2 (Heapy.sub hp23) (E38_mono (Heapy.sub hp23))) (SlE.mono hv4 (Heapy.sub hp23) (E3_mono (Heapy.sub hp23))) _ e24) (And.intro c23 (And.intro (F6_l1_1 h x1 l2 v2 hv2 x3 v4 v5 0 y20 e20 c21) (And.intro (SlE.len hv2) (And.intro c12 (And.intro c10 (And.intro (g_ff c10) (And.intro (SlE.len hv5) (And.intro (g_ff c10) (And.intro (g_ff c10) (And.intro c8 (And.intro (g_ff c8) (And.intro (SlE.len hv4) (And.intro (g_ff c8) (And.intro (g_ff c8) (And.intro (g_ff l_f) (And.intro (F10_spec x1 l2 x3 v2 h hv2 _ rfl) (And.intro (g_ff l_f) (And.intro (g_ff l_f) (And.intro (F9_spec h _ rfl) trivial))))))))))))))))))))))))))))))))))))))))))))))) (hr := by kernel_rfl)⟩
            · intro hr
              obtain rfl := Option.some.inj hr
              exact ⟨h23, Heapy.pick hp23 [] (by decide), pFun_sound good tab_ok (f := 6) (its := [.g, .g, (.c (.bool true) h), .g, .g, (.w .g), (.w (.c (.bool (F10 x1 l2 x3)) h)), (.w .g), .g, .g, (.w .g), (.w (.ln l4.length)), (.w .g), (.p false), .g, (.w .g), (.w (.ln l5.length)), (.w .g), (.p false), (.b false), .g, .g, (.ln l2.length), .g, (.l F6_m1_1 [] (.exit 0) (F6_x1_1 h x1 v2 x3 v4 v5 y20)), .g, .g, .g, .g, .g, .g, .g, (.c (.tuple #[.int .i64 y22.1, .bool y22.2]) h23), .g, .g, .g, .g, .g, .g, .g, .g, .g, .g, .g, .g, (.c (.tuple #[.int .i64 y24.1, .bool y24.2]) h23), .g, .g, .g, .g, .g, .g, .g, .g, .g, (.w .g), (.w .g), (.w .g), (.p true), .g, .n, .n, .n, .n, .n, .n, .n, .n, .n, .n, .n, .n, .n, .n, .n, .n, .n, (.p false), .g]) (args := [.agg #[.int .i64 x1, (sv v2), .int .i64 x3], (sv v4), (sv v5)]) (h := h) (h' := h23) (v := .bool false) (hC := (And.intro c27 (And.intro (g_ft c27) (And.intro (g_ft c27) (And.intro (g_ft c27) (And.intro (g_ft c27) (And.intro (g_ft c27) (And.intro (g_ft c27) (And.intro (g_ft c27) (And.intro (g_ft c27) (And.intro (g_ft c27) (And.intro (g_ft c27) (And.intro (g_ft c27) (And.intro (g_ft c27) (And.intro (g_ft c27) (And.intro (g_ft c27) (And.intro (g_ft c27) (And.intro (g_ft c27) (And.intro (g_ft c27) (And.intro c26 (And.intro (g_tt c26) (And.intro (g_tt c26) (And.intro (g_tt c26) (And.intro (F21_spec x1 l2 x3 l4 v2 v4 h23 (SlE.mono hv2 (Heapy.sub hp23) (E38_mono (Heapy.sub hp23))) (SlE.mono hv4 (Heapy.sub hp23) (E3_mono (Heapy.sub hp23))) _ e24) (And.intro c23 (And.intro (F6_l1_1 h x1 l2 v2 hv2 x3 v4 v5 0 y20 e20 c21) (And.intro (SlE.len hv2) (And.intro c12 (And.intro c10 (And.intro (g_ff c10) (And.intro (SlE.len hv5) (And.intro (g_ff c10) (And.intro (g_ff c10) (And.intro c8 (And.intro (g_ff c8) (And.intro (SlE.len hv4) (And.intro (g_ff c8) (And.intro (g_ff c8) (And.intro (g_ff l_f) (And.intro (F10_spec x1 l2 x3 v2 h hv2 _ rfl) (And.intro (g_ff l_f) (And.intro (g_ff l_f) (And.intro (F9_spec h _ rfl) trivial))))))))))))))))))))))))))))))))))))))))))) (hr := by kernel_rfl)⟩
          · intro hr
            obtain rfl := Option.some.inj hr
            exact ⟨h23, Heapy.pick hp23 [] (by decide), pFun_sound good tab_ok (f := 6) (its := [.g, .g, (.c (.bool true) h), .g, .g, (.w .g), (.w (.c (.bool (F10 x1 l2 x3)) h)), (.w .g), .g, .g, (.w .g), (.w (.ln l4.length)), (.w .g), (.p false), .g, (.w .g), (.w (.ln l5.length)), (.w .g), (.p false), (.b false), .g, .g, (.ln l2.length), .g, (.l F6_m1_1 [] (.exit 0) (F6_x1_1 h x1 v2 x3 v4 v5 y20)), .g, .g, .g, .g, .g, .g, .g, (.c (.tuple #[.int .i64 y22.1, .bool y22.2]) h23), .g, .g, .g, .g, .g, .g, .g, .g, .g, .g, .g, .g, (.c (.tuple #[.int .i64 y24.1, .bool y24.2]) h23), .g, .g, .g, .g, .g, .g, .g, .g, .g, .n, .n, .n, (.p false), .g, .n, .n, .n, .n, .n, .n, .n, .n, .n, .n, .n, .n, .n, .n, .n, .n, .n, .g, .g]) (args := [.agg #[.int .i64 x1, (sv v2), .int .i64 x3], (sv v4), (sv v5)]) (h := h) (h' := h23) (v := .bool false) (hC := (And.intro (g_ft l_f) (And.intro (g_ft l_f) (And.intro (g_ft l_f) (And.intro (g_ft l_f) (And.intro (g_ft l_f) (And.intro (g_ft l_f) (And.intro (g_ft l_f) (And.intro (g_ft l_f) (And.intro (g_ft l_f) (And.intro (g_ft l_f) (And.intro (g_ft l_f) (And.intro (g_ft l_f) (And.intro (g_ft l_f) (And.intro (g_ft l_f) (And.intro (g_ft l_f) (And.intro (g_ft l_f) (And.intro (g_ft l_f) (And.intro c26 (And.intro (g_ft c26) (And.intro (g_ft c26) (And.intro (g_ft c26) (And.intro (F21_spec x1 l2 x3 l4 v2 v4 h23 (SlE.mono hv2 (Heapy.sub hp23) (E38_mono (Heapy.sub hp23))) (SlE.mono hv4 (Heapy.sub hp23) (E3_mono (Heapy.sub hp23))) _ e24) (And.intro c23 (And.intro (F6_l1_1 h x1 l2 v2 hv2 x3 v4 v5 0 y20 e20 c21) (And.intro (SlE.len hv2) (And.intro c12 (And.intro c10 (And.intro (g_ff c10) (And.intro (SlE.len hv5) (And.intro (g_ff c10) (And.intro (g_ff c10) (And.intro c8 (And.intro (g_ff c8) (And.intro (SlE.len hv4) (And.intro (g_ff c8) (And.intro (g_ff c8) (And.intro (g_ff l_f) (And.intro (F10_spec x1 l2 x3 v2 h hv2 _ rfl) (And.intro (g_ff l_f) (And.intro (g_ff l_f) (And.intro (F9_spec h _ rfl) trivial)))))))))))))))))))))))))))))))))))))))))) (hr := by kernel_rfl)⟩
set_option maxRecDepth 100000 in
theorem F6_law (H : ∀ (x1 : Int) (l2 : List (Int × Int × Int × Int)) (x3 : Int) (l4 : List Int) (l5 : List Int), (Lit.int .i64 x1).wf = true → (l2.length ≤ maxLen ∧ l2.length * 32 ≤ reachBytes) → (∀ y ∈ l2, W38 y) → (Lit.int .i64 x3).wf = true → (l4.length ≤ maxLen ∧ l4.length * 8 ≤ reachBytes) → (∀ y ∈ l4, W3 y) → (l5.length ≤ maxLen ∧ l5.length * 8 ≤ reachBytes) → (∀ y ∈ l5, W3 y) → F6 x1 l2 x3 l4 l5 = some true) : Law Try.prog 6 10 [24, 27, 27] := by
  intro s us hwf hro hT0
  obtain ⟨u0, vs0, rfl, t0, hT1⟩ := wts_cons hT0
  obtain ⟨cs0, rfl, k0⟩ := wtv_aggS 4 (ks := [.int .i64, .slice 38, .int .i64]) (by kernel_rfl) (by kernel_rfl) t0
  obtain ⟨x1, r_x1, rfl, w_x1, k0_0⟩ := sq_int k0
  obtain ⟨v2, r_l2, rfl, q_l2, k0_1⟩ := sq_slice k0_0
  obtain ⟨l2, a_l2, m_l2, w_l2⟩ := q_l2 E38 W38 4 (by kernel_rfl) fun n cs H => E38_wt H
  obtain ⟨x3, r_x3, rfl, w_x3, k0_2⟩ := sq_int k0_1
  obtain rfl := sq_nil k0_2
  obtain ⟨u1, vs1, rfl, t1, hT2⟩ := wts_cons hT1
  have k1 := wtv_oneS 2 (ks := [.slice 3]) (by kernel_rfl) (by kernel_rfl) t1
  obtain ⟨v4, r_l4, e_l4, q_l4, k1_0⟩ := sq_slice k1
  obtain ⟨l4, a_l4, m_l4, w_l4⟩ := q_l4 E3 W3 1 (by kernel_rfl) fun n cs H => E3_wt H
  obtain ⟨rfl, rfl⟩ := List.cons.inj e_l4
  have k1_0' := sq_nil k1_0
  obtain ⟨u2, vs2, rfl, t2, hT3⟩ := wts_cons hT2
  have k2 := wtv_oneS 2 (ks := [.slice 3]) (by kernel_rfl) (by kernel_rfl) t2
  obtain ⟨v5, r_l5, e_l5, q_l5, k2_0⟩ := sq_slice k2
  obtain ⟨l5, a_l5, m_l5, w_l5⟩ := q_l5 E3 W3 1 (by kernel_rfl) fun n cs H => E3_wt H
  obtain ⟨rfl, rfl⟩ := List.cons.inj e_l5
  have k2_0' := sq_nil k2_0
  obtain rfl := wts_nil hT3
  obtain ⟨h2, _, hc⟩ := F6_spec x1 l2 x3 l4 l5 v2 v4 v5 s hwf a_l2 a_l4 a_l5 _ (H x1 l2 x3 l4 l5 w_x1 m_l2 w_l2 w_x3 m_l4 w_l4 m_l5 w_l5)
  refine (hc).mono ?_
  rintro v h' ⟨rfl, rfl⟩
  rfl
/-! 7 jacquard/jacquardlaw30.DiffconsSound -/
def F7 (x1 : Int) (l2 : List (Int × Int × Int × Int)) (x3 : Int) (l4 : List Int) (l5 : List Int) : Option (Bool) :=
  (bif (!(F10 x1 l2 x3)) then
   some (true)
  else
   (bif decide ((l5.length : Int) > 30) then
    some (true)
   else
    (bif decide ((l4.length : Int) > 30) then
     some (true)
    else
     (Option.bind (F20 x1 l2 x3 l5) fun y14 =>
     (bif (!y14.2) then
      some (true)
     else
      (Option.bind (F22 x1 l2 x3 l4) fun y17 =>
      some (decide (y17 ≥ 0))))))))
set_option maxRecDepth 100000 in
theorem F7_spec (x1 : Int) (l2 : List (Int × Int × Int × Int)) (x3 : Int) (l4 : List Int) (l5 : List Int) (v2 : Hd) (v4 : Hd) (v5 : Hd) (h : AHeap) (hw : h.wf) (hv2 : SlE E38 4 h (sv v2) l2) (hv4 : SlE E3 1 h (sv v4) l4) (hv5 : SlE E3 1 h (sv v5) l5) (r : Bool) : F7 x1 l2 x3 l4 l5 = some r → ∃ (h' : AHeap), Heapy h h' [] ∧ ACalls Try.prog 7 [.agg #[.int .i64 x1, (sv v2), .int .i64 x3], (sv v4), (sv v5)] h (fun v' h'' => v' = (.bool r : Value) ∧ h'' = h') := by
  unfold F7
  refine dec_bif (fun c8 => ?_) (fun c8 => ?_)
  · intro hr
    obtain rfl := Option.some.inj hr
    exact ⟨h, Heapy.pick (Heapy.refl hw) [] (by decide), pFun_sound good tab_ok (f := 7) (its := [.g, .g, (.c (.bool true) h), .g, .g, (.w .g), (.w (.c (.bool (F10 x1 l2 x3)) h)), (.w .g), .g, .g, .n, .n, .n, (.p true), .g, .n, .n, .n, .g, (.b true), (.c (.bool true) h), .g]) (args := [.agg #[.int .i64 x1, (sv v2), .int .i64 x3], (sv v4), (sv v5)]) (h := h) (h' := h) (v := .bool true) (hC := (And.intro (F9_spec h _ rfl) (And.intro l_t (And.intro (g_tf l_t) (And.intro (g_tf l_t) (And.intro (g_tf l_t) (And.intro c8 (And.intro (g_tf c8) (And.intro (g_tf c8) (And.intro (g_tf c8) (And.intro (g_ff l_f) (And.intro (F10_spec x1 l2 x3 v2 h hv2 _ rfl) (And.intro (g_ff l_f) (And.intro (g_ff l_f) (And.intro (F9_spec h _ rfl) trivial))))))))))))))) (hr := by kernel_rfl)⟩
  · refine dec_bif (fun c10 => ?_) (fun c10 => ?_)
    · intro hr
      obtain rfl := Option.some.inj hr
      exact ⟨h, Heapy.pick (Heapy.refl hw) [] (by decide), pFun_sound good tab_ok (f := 7) (its := [.g, .g, (.c (.bool true) h), .g, .g, (.w .g), (.w (.c (.bool (F10 x1 l2 x3)) h)), (.w .g), .g, .g, (.w .g), (.w (.ln l5.length)), (.w .g), (.p false), .g, .n, .n, .n, (.p true), (.b true), (.c (.bool true) h), .g]) (args := [.agg #[.int .i64 x1, (sv v2), .int .i64 x3], (sv v4), (sv v5)]) (h := h) (h' := h) (v := .bool true) (hC := (And.intro (F9_spec h _ rfl) (And.intro l_t (And.intro c10 (And.intro (g_tf c10) (And.intro (g_tf c10) (And.intro (g_tf c10) (And.intro c8 (And.intro (g_ff c8) (And.intro (SlE.len hv5) (And.intro (g_ff c8) (And.intro (g_ff c8) (And.intro (g_ff l_f) (And.intro (F10_spec x1 l2 x3 v2 h hv2 _ rfl) (And.intro (g_ff l_f) (And.intro (g_ff l_f) (And.intro (F9_spec h _ rfl) trivial))))))))))))))))) (hr := by kernel_rfl)⟩
    · refine dec_bif (fun c12 => ?_) (fun c12 => ?_)
      · intro hr
        obtain rfl := Option.some.inj hr
        exact ⟨h, Heapy.pick (Heapy.refl hw) [] (by decide), pFun_sound good tab_ok (f := 7) (its := [.g, .g, (.c (.bool true) h), .g, .g, (.w .g), (.w (.c (.bool (F10 x1 l2 x3)) h)), (.w .g), .g, .g, (.w .g), (.w (.ln l5.length)), (.w .g), (.p false), .g, (.w .g), (.w (.ln l4.length)), (.w .g), (.p false), (.b true), (.c (.bool true) h), .g]) (args := [.agg #[.int .i64 x1, (sv v2), .int .i64 x3], (sv v4), (sv v5)]) (h := h) (h' := h) (v := .bool true) (hC := (And.intro (F9_spec h _ rfl) (And.intro c12 (And.intro c10 (And.intro (g_ff c10) (And.intro (SlE.len hv4) (And.intro (g_ff c10) (And.intro (g_ff c10) (And.intro c8 (And.intro (g_ff c8) (And.intro (SlE.len hv5) (And.intro (g_ff c8) (And.intro (g_ff c8) (And.intro (g_ff l_f) (And.intro (F10_spec x1 l2 x3 v2 h hv2 _ rfl) (And.intro (g_ff l_f) (And.intro (g_ff l_f) (And.intro (F9_spec h _ rfl) trivial)))))))))))))))))) (hr := by kernel_rfl)⟩
      · refine bind_opt fun y14 e14 => ?_
        obtain ⟨h15, q15, c15⟩ := F20_spec x1 l2 x3 l5 v2 v5 h hw hv2 hv5 _ e14
        have hp15 : Heapy h h15 [] := Heapy.call (Heapy.refl hw) q15
        refine dec_bif (fun c16 => ?_) (fun c16 => ?_)
        · intro hr
          obtain rfl := Option.some.inj hr
          exact ⟨h15, Heapy.pick hp15 [] (by decide), pFun_sound good tab_ok (f := 7) (its := [.g, .g, (.c (.bool true) h), .g, .g, (.w .g), (.w (.c (.bool (F10 x1 l2 x3)) h)), (.w .g), .g, .g, (.w .g), (.w (.ln l5.length)), (.w .g), (.p false), .g, (.w .g), (.w (.ln l4.length)), (.w .g), (.p false), (.b false), .g, .g, .g, .g, .g, .g, .g, (.c (.tuple #[.int .i64 y14.1, .bool y14.2]) h15), .g, .g, .g, .g, .g, .g, .g, .g, .n, .n, .n, .n, .n, .n, .n, .n, .n, (.p true), .g]) (args := [.agg #[.int .i64 x1, (sv v2), .int .i64 x3], (sv v4), (sv v5)]) (h := h) (h' := h15) (v := .bool true) (hC := (And.intro c16 (And.intro (g_tf c16) (And.intro (g_tf c16) (And.intro (g_tf c16) (And.intro (g_tf c16) (And.intro (g_tf c16) (And.intro (g_tf c16) (And.intro (g_tf c16) (And.intro (g_tf c16) (And.intro (g_tf c16) (And.intro c15 (And.intro c12 (And.intro c10 (And.intro (g_ff c10) (And.intro (SlE.len hv4) (And.intro (g_ff c10) (And.intro (g_ff c10) (And.intro c8 (And.intro (g_ff c8) (And.intro (SlE.len hv5) (And.intro (g_ff c8) (And.intro (g_ff c8) (And.intro (g_ff l_f) (And.intro (F10_spec x1 l2 x3 v2 h hv2 _ rfl) (And.intro (g_ff l_f) (And.intro (g_ff l_f) (And.intro (F9_spec h _ rfl) trivial)))))))))))))))))))))))))))) (hr := by kernel_rfl)⟩
        · refine bind_opt fun y17 e17 => ?_
          obtain ⟨h18, q18, c18⟩ := F22_spec x1 l2 x3 l4 v2 v4 h15 (Heapy.wf hp15) (SlE.mono hv2 (Heapy.sub hp15) (E38_mono (Heapy.sub hp15))) (SlE.mono hv4 (Heapy.sub hp15) (E3_mono (Heapy.sub hp15))) _ e17
          have hp18 : Heapy h h18 [] := Heapy.call hp15 q18
          intro hr
          obtain rfl := Option.some.inj hr
          exact ⟨h18, Heapy.pick hp18 [] (by decide), pFun_sound good tab_ok (f := 7) (its := [.g, .g, (.c (.bool true) h), .g, .g, (.w .g), (.w (.c (.bool (F10 x1 l2 x3)) h)), (.w .g), .g, .g, (.w .g), (.w (.ln l5.length)), (.w .g), (.p false), .g, (.w .g), (.w (.ln l4.length)), (.w .g), (.p false), (.b false), .g, .g, .g, .g, .g, .g, .g, (.c (.tuple #[.int .i64 y14.1, .bool y14.2]) h15), .g, .g, .g, .g, .g, .g, .g, .g, (.w .g), (.w .g), (.w .g), (.w .g), (.w .g), (.w .g), (.w .g), (.w (.c (.int .i64 y17) h18)), (.w .g), (.p false), .g]) (args := [.agg #[.int .i64 x1, (sv v2), .int .i64 x3], (sv v4), (sv v5)]) (h := h) (h' := h18) (v := .bool (decide (y17 ≥ 0))) (hC := (And.intro c16 (And.intro (g_ff c16) (And.intro c18 (And.intro (g_ff c16) (And.intro (g_ff c16) (And.intro (g_ff c16) (And.intro (g_ff c16) (And.intro (g_ff c16) (And.intro (g_ff c16) (And.intro (g_ff c16) (And.intro (g_ff c16) (And.intro c15 (And.intro c12 (And.intro c10 (And.intro (g_ff c10) (And.intro (SlE.len hv4) (And.intro (g_ff c10) (And.intro (g_ff c10) (And.intro c8 (And.intro (g_ff c8) (And.intro (SlE.len hv5) (And.intro (g_ff c8) (And.intro (g_ff c8) (And.intro (g_ff l_f) (And.intro (F10_spec x1 l2 x3 v2 h hv2 _ rfl) (And.intro (g_ff l_f) (And.intro (g_ff l_f) (And.intro (F9_spec h _ rfl) trivial))))))))))))))))))))))))))))) (hr := by kernel_rfl)⟩
set_option maxRecDepth 100000 in
theorem F7_law (H : ∀ (x1 : Int) (l2 : List (Int × Int × Int × Int)) (x3 : Int) (l4 : List Int) (l5 : List Int), (Lit.int .i64 x1).wf = true → (l2.length ≤ maxLen ∧ l2.length * 32 ≤ reachBytes) → (∀ y ∈ l2, W38 y) → (Lit.int .i64 x3).wf = true → (l4.length ≤ maxLen ∧ l4.length * 8 ≤ reachBytes) → (∀ y ∈ l4, W3 y) → (l5.length ≤ maxLen ∧ l5.length * 8 ≤ reachBytes) → (∀ y ∈ l5, W3 y) → F7 x1 l2 x3 l4 l5 = some true) : Law Try.prog 7 10 [24, 27, 27] := by
  intro s us hwf hro hT0
  obtain ⟨u0, vs0, rfl, t0, hT1⟩ := wts_cons hT0
  obtain ⟨cs0, rfl, k0⟩ := wtv_aggS 4 (ks := [.int .i64, .slice 38, .int .i64]) (by kernel_rfl) (by kernel_rfl) t0
  obtain ⟨x1, r_x1, rfl, w_x1, k0_0⟩ := sq_int k0
  obtain ⟨v2, r_l2, rfl, q_l2, k0_1⟩ := sq_slice k0_0
  obtain ⟨l2, a_l2, m_l2, w_l2⟩ := q_l2 E38 W38 4 (by kernel_rfl) fun n cs H => E38_wt H
  obtain ⟨x3, r_x3, rfl, w_x3, k0_2⟩ := sq_int k0_1
  obtain rfl := sq_nil k0_2
  obtain ⟨u1, vs1, rfl, t1, hT2⟩ := wts_cons hT1
  have k1 := wtv_oneS 2 (ks := [.slice 3]) (by kernel_rfl) (by kernel_rfl) t1
  obtain ⟨v4, r_l4, e_l4, q_l4, k1_0⟩ := sq_slice k1
  obtain ⟨l4, a_l4, m_l4, w_l4⟩ := q_l4 E3 W3 1 (by kernel_rfl) fun n cs H => E3_wt H
  obtain ⟨rfl, rfl⟩ := List.cons.inj e_l4
  have k1_0' := sq_nil k1_0
  obtain ⟨u2, vs2, rfl, t2, hT3⟩ := wts_cons hT2
  have k2 := wtv_oneS 2 (ks := [.slice 3]) (by kernel_rfl) (by kernel_rfl) t2
  obtain ⟨v5, r_l5, e_l5, q_l5, k2_0⟩ := sq_slice k2
  obtain ⟨l5, a_l5, m_l5, w_l5⟩ := q_l5 E3 W3 1 (by kernel_rfl) fun n cs H => E3_wt H
  obtain ⟨rfl, rfl⟩ := List.cons.inj e_l5
  have k2_0' := sq_nil k2_0
  obtain rfl := wts_nil hT3
  obtain ⟨h2, _, hc⟩ := F7_spec x1 l2 x3 l4 l5 v2 v4 v5 s hwf a_l2 a_l4 a_l5 _ (H x1 l2 x3 l4 l5 w_x1 m_l2 w_l2 w_x3 m_l4 w_l4 m_l5 w_l5)
  refine (hc).mono ?_
  rintro v h' ⟨rfl, rfl⟩
  rfl
end
end Go.Proofs.Ytchjhbakmdhmgaa.Abs
