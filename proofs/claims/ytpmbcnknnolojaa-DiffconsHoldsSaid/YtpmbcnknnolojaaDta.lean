/-
  Contracts, written by program: for each function what its call yields, and that it yields it.
-/
import Derived.Test.YtpmbcnknnolojaaVw
import Derived.Test.YtpmbcnknnolojaaChecked
namespace Go.Proofs.Ytpmbcnknnolojaa.Abs
open Go
set_option linter.unusedVariables false
set_option linter.unusedSimpArgs false

theorem good : Good Try.prog := good_of Try.checked.mixed (by kernel_rfl)
noncomputable section
def tabC : List FEnt := [
  { f := 9, L := [], D := [] },
  { f := 13, L := [], D := [] },
  { f := 16, L := [], D := [] },
  { f := 39, L := [], D := [] },
  { f := 40, L := [11], D := [(8, [(0, 2), (1, 2), (3, 2), (5, 2), (6, 2), (8, 2), (2, 3), (4, 3), (7, 0), (9, 2), (10, 0), (11, 0), (12, 2)]), (5, [(0, 2), (1, 2), (3, 2), (5, 2), (6, 2), (8, 2), (2, 3), (4, 3), (7, 0), (9, 2), (10, 0), (11, 0), (12, 2)])] },
  { f := 41, L := [], D := [] },
  { f := 42, L := [9], D := [(14, [(0, 2), (1, 2), (2, 2), (3, 2), (4, 2), (5, 2), (6, 2), (7, 2), (8, 2)])] },
  { f := 43, L := [], D := [(3, [(0, 2), (1, 2), (2, 2), (3, 2), (4, 2), (5, 2), (6, 2), (7, 2), (8, 2), (9, 2), (10, 2), (11, 2), (12, 2), (13, 0), (14, 2), (15, 0)])] },
  { f := 45, L := [], D := [] },
  { f := 46, L := [3], D := [] },
  { f := 47, L := [2], D := [(1, [(0, 2), (1, 2), (3, 2), (4, 2), (5, 2), (6, 2), (7, 3), (2, 0), (8, 0), (9, 2), (10, 2), (11, 2)])] },
  { f := 91, L := [9], D := [] }]

theorem tabC_ok : tabOk Try.prog tabC = true := by kernel_rfl
theorem F9_run : rIs (rCall 2000 Try.prog tabC 40 9 [] AHeap.none) true = true := by kernel_rfl
theorem F9_spec0 (h : AHeap) : ACalls Try.prog 9 [] h (fun v' h'' => v' = (.bool true : Value) ∧ h'' = h) := acalls_run good 2000 40 tabC tabC_ok F9_run rfl h
def F9 : Unit := ()
theorem F9_spec (h : AHeap) (r : Unit) (_ : F9 = r) : ACalls Try.prog 9 [] h (fun v' h'' => v' = (.bool true : Value) ∧ h'' = h) := F9_spec0 h
def tab : List FEnt := [
  { f := 3, L := [2, 7], D := [(23, [(0, 2), (1, 2), (2, 2), (3, 2), (4, 2), (5, 2), (6, 2), (7, 2), (8, 2), (9, 2)])] },
  { f := 4, L := [3], D := [(21, [(0, 2), (1, 2), (2, 2), (4, 2), (5, 2), (3, 5), (6, 1), (7, 2), (8, 2), (9, 2), (10, 2), (11, 2), (12, 2), (13, 2), (14, 2), (15, 2), (16, 2), (17, 2), (18, 2)])] },
  { f := 5, L := [2], D := [(18, [(0, 2), (1, 2), (2, 2), (3, 2), (4, 2), (5, 2), (6, 2), (7, 2), (8, 2)])] },
  { f := 10, L := [1], D := [] },
  { f := 11, L := [], D := [] },
  { f := 12, L := [], D := [] },
  { f := 13, L := [], D := [] },
  { f := 14, L := [], D := [] },
  { f := 15, L := [11], D := [(6, [(0, 2), (1, 2), (2, 1), (3, 2), (4, 2), (5, 2), (6, 2), (8, 2), (9, 2), (14, 2), (10, 3), (13, 3), (7, 1), (11, 1), (12, 2), (15, 1), (16, 2), (17, 2)])] },
  { f := 16, L := [], D := [] },
  { f := 39, L := [], D := [] },
  { f := 40, L := [11], D := [(8, [(0, 2), (1, 2), (3, 2), (5, 2), (6, 2), (8, 2), (2, 3), (4, 3), (7, 1), (9, 2), (10, 0), (11, 0), (12, 2)]), (5, [(0, 2), (1, 2), (3, 2), (5, 2), (6, 2), (8, 2), (2, 3), (4, 3), (7, 1), (9, 2), (10, 0), (11, 0), (12, 2)])] },
  { f := 41, L := [], D := [] },
  { f := 42, L := [9], D := [(14, [(0, 2), (1, 2), (2, 2), (3, 2), (4, 2), (5, 2), (6, 2), (7, 2), (8, 2)])] },
  { f := 43, L := [], D := [(3, [(0, 2), (1, 2), (2, 2), (3, 2), (4, 2), (5, 2), (6, 2), (7, 2), (8, 2), (9, 2), (10, 2), (11, 2), (12, 2), (13, 0), (14, 2), (15, 0)])] },
  { f := 44, L := [], D := [] },
  { f := 45, L := [], D := [] },
  { f := 46, L := [3], D := [] },
  { f := 47, L := [2], D := [(1, [(0, 2), (1, 2), (3, 2), (4, 2), (5, 2), (6, 2), (7, 3), (2, 1), (8, 1), (9, 2), (10, 2), (11, 2)])] },
  { f := 91, L := [9], D := [] }]

theorem tab_ok : tabOk Try.prog tab = true := by kernel_rfl
/-! 14 jacquard/jacquardref30.Nodes -/
def F14 (x1 : Int) : Int :=
  (if 8192 < (if 0 > x1 then 0 else x1) then 8192 else (if 0 > x1 then 0 else x1))
set_option maxRecDepth 100000 in
theorem F14_spec (x1 : Int) (h : AHeap)  (r : Int) : F14 x1 = r → ACalls Try.prog 14 [.int .i64 x1] h (fun v' h'' => v' = (.int .i64 r : Value) ∧ h'' = h) := by
  unfold F14
  intro hr
  subst hr
  exact pFun_sound good tab_ok (f := 14) (its := [.g, .g, .g, .g, .g]) (args := [.int .i64 x1]) (h := h) (h' := h) (v := .int .i64 (if 8192 < (if 0 > x1 then 0 else x1) then 8192 else (if 0 > x1 then 0 else x1))) (hC := trivial) (hr := by kernel_rfl)
def enc29 (x : Int × Int × Int × Int) : List Value := [.int .i64 x.1, .int .i64 x.2.1, .int .i64 x.2.2.1, .int .i64 x.2.2.2]
def E29 (h : AHeap) (cs : List Value) (x : Int × Int × Int × Int) : Prop := cs = enc29 x
theorem E29_mono {h h' : AHeap} (le : h.sub h') (cs : List Value) (x : Int × Int × Int × Int) (H : E29 h cs x) : E29 h' cs x := H
def W29 (x : Int × Int × Int × Int) : Prop := (Lit.int .i64 x.1).wf = true ∧ (Lit.int .i64 x.2.1).wf = true ∧ (Lit.int .i64 x.2.2.1).wf = true ∧ (Lit.int .i64 x.2.2.2).wf = true ∧ True
set_option maxRecDepth 100000 in
theorem E29_wt {h : AHeap} {n : Nat} {cs : List Value} (H : WT Try.prog h n 29 cs) : ∃ x, E29 h cs x ∧ W29 x := by
  have k : SQ Try.prog h [.int .i64, .int .i64, .int .i64, .int .i64] cs := wt_flatS 2 n (by kernel_rfl) H
  obtain ⟨x0, r0, rfl, w0, k0⟩ := sq_int k
  obtain ⟨x1, r1, rfl, w1, k1⟩ := sq_int k0
  obtain ⟨x2, r2, rfl, w2, k2⟩ := sq_int k1
  obtain ⟨x3, r3, rfl, w3, k3⟩ := sq_int k2
  obtain rfl := sq_nil k3
  exact ⟨(x0, x1, x2, x3), rfl, ⟨w0, w1, w2, w3, trivial⟩⟩
/-! 10 jacquard/jacquardlaw30.few -/
def F10 (x1 : Int) (l2 : List (Int × Int × Int × Int)) (x3 : Int) : Bool :=
  (bif decide ((F14 x1) ≤ 20) then
   (decide ((l2.length : Int) ≤ 60))
  else
   false)
set_option maxRecDepth 100000 in
theorem F10_spec (x1 : Int) (l2 : List (Int × Int × Int × Int)) (x3 : Int) (v2 : Hd) (h : AHeap) (hv2 : SlE E29 4 h (sv v2) l2) (r : Bool) : F10 x1 l2 x3 = r → ACalls Try.prog 10 [.agg #[.int .i64 x1, (sv v2), .int .i64 x3]] h (fun v' h'' => v' = (.bool r : Value) ∧ h'' = h) := by
  unfold F10
  refine dec_bif (fun c5 => ?_) (fun c5 => ?_)
  · intro hr
    subst hr
    exact pFun_sound good tab_ok (f := 10) (its := [.g, .g, .g, .g, (.c (.int .i64 (F14 x1)) h), .g, .g, (.w .g), (.w .g), (.w (.ln l2.length)), (.w .g), (.p true), .g]) (args := [.agg #[.int .i64 x1, (sv v2), .int .i64 x3]]) (h := h) (h' := h) (v := .bool (decide ((l2.length : Int) ≤ 60))) (hC := (And.intro c5 (And.intro (g_tt c5) (And.intro (SlE.len hv2) (And.intro (g_tt c5) (And.intro (g_tt c5) (And.intro (g_tt c5) (And.intro (F14_spec x1 h _ rfl) trivial)))))))) (hr := by kernel_rfl)
  · intro hr
    subst hr
    exact pFun_sound good tab_ok (f := 10) (its := [.g, .g, .g, .g, (.c (.int .i64 (F14 x1)) h), .g, .g, .n, .n, .n, .n, (.p false), .g]) (args := [.agg #[.int .i64 x1, (sv v2), .int .i64 x3]]) (h := h) (h' := h) (v := .bool false) (hC := (And.intro c5 (And.intro (g_ft c5) (And.intro (g_ft c5) (And.intro (g_ft c5) (And.intro (g_ft c5) (And.intro (F14_spec x1 h _ rfl) trivial))))))) (hr := by kernel_rfl)
def enc3 (x : Int) : List Value := [.int .i64 x]
def E3 (h : AHeap) (cs : List Value) (x : Int) : Prop := cs = enc3 x
theorem E3_mono {h h' : AHeap} (le : h.sub h') (cs : List Value) (x : Int) (H : E3 h cs x) : E3 h' cs x := H
def W3 (x : Int) : Prop := (Lit.int .i64 x).wf = true ∧ True
set_option maxRecDepth 100000 in
theorem E3_wt {h : AHeap} {n : Nat} {cs : List Value} (H : WT Try.prog h n 3 cs) : ∃ x, E3 h cs x ∧ W3 x := by
  have k : SQ Try.prog h [.int .i64] cs := wt_flatS 1 n (by kernel_rfl) H
  obtain ⟨x0, r0, rfl, w0, k0⟩ := sq_int k
  obtain rfl := sq_nil k0
  exact ⟨x0, rfl, ⟨w0, trivial⟩⟩
/-! 11 jacquard/jacquardref30.Bound -/
def F11__1 (y4 : Int) : Int := (if 1073741824 < (if (-1073741824) > y4 then (-1073741824) else y4) then 1073741824 else (if (-1073741824) > y4 then (-1073741824) else y4))
def F11 (l1 : List Int) (x2 : Int) : Option (Int) :=
  (bif decide (x2 ≥ (l1.length : Int)) then
   some (0)
  else
   (Option.bind (at? l1 x2) fun y4 =>
   some (F11__1 y4)))
set_option maxRecDepth 100000 in
theorem F11_spec (l1 : List Int) (x2 : Int) (v1 : Hd) (h : AHeap) (hv1 : SlE E3 1 h (sv v1) l1) (r : Int) : F11 l1 x2 = some r → ACalls Try.prog 11 [(sv v1), .int .i64 x2] h (fun v' h'' => v' = (.int .i64 r : Value) ∧ h'' = h) := by
  unfold F11
  refine dec_bif (fun c3 => ?_) (fun c3 => ?_)
  · intro hr
    obtain rfl := Option.some.inj hr
    exact pFun_sound good tab_ok (f := 11) (its := [.g, .g, .g, (.ln l1.length), .g, (.b true), .g]) (args := [(sv v1), .int .i64 x2]) (h := h) (h' := h) (v := .int .i64 0) (hC := (And.intro c3 (And.intro (SlE.len hv1) trivial))) (hr := by kernel_rfl)
  · refine bind_opt fun y4 e4 => ?_
    obtain ⟨id4, off4, g4, cs4, ix4, at4, rfl⟩ := SlE.at hv1 e4
    intro hr
    obtain rfl := Option.some.inj hr
    exact pFun_sound good tab_ok (f := 11) (its := [.g, .g, .g, (.ln l1.length), .g, (.b false), .g, .g, (.ix id4 off4 g4), (.ld (.int .i64 y4)), .g, .g, .g]) (args := [(sv v1), .int .i64 x2]) (h := h) (h' := h) (v := .int .i64 (F11__1 y4)) (hC := (And.intro (At.one (P := Try.prog) (t := 3) (v := .int .i64 y4) at4 (by kernel_rfl) 0 rfl rfl) (And.intro ix4 (And.intro c3 (And.intro (SlE.len hv1) trivial))))) (hr := by kernel_rfl)
/-! 39 jacquard/diffcons.size -/
def F39 (x1 : Int) : Int :=
  (if 8192 < (if 0 > x1 then 0 else x1) then 8192 else (if 0 > x1 then 0 else x1))
set_option maxRecDepth 100000 in
theorem F39_spec (x1 : Int) (h : AHeap)  (r : Int) : F39 x1 = r → ACalls Try.prog 39 [.int .i64 x1] h (fun v' h'' => v' = (.int .i64 r : Value) ∧ h'' = h) := by
  unfold F39
  intro hr
  subst hr
  exact pFun_sound good tab_ok (f := 39) (its := [.g, .g, .g, .g, .g]) (args := [.int .i64 x1]) (h := h) (h' := h) (v := .int .i64 (if 8192 < (if 0 > x1 then 0 else x1) then 8192 else (if 0 > x1 then 0 else x1))) (hC := trivial) (hr := by kernel_rfl)
/-! 46 jacquard/diffcons.counts -/
def F46 (x1 : Int) (x2 : Int) (x3 : Int) (x4 : Int) (x5 : Int) : Bool :=
  (bif decide (x2 ≥ 0) then
   (bif decide (x2 < x1) then
    (bif decide (x3 ≥ 0) then
     (decide (x3 < x1))
    else
     false)
   else
    false)
  else
   false)
set_option maxRecDepth 100000 in
theorem F46_spec (x1 : Int) (x2 : Int) (x3 : Int) (x4 : Int) (x5 : Int) (h : AHeap)  (r : Bool) : F46 x1 x2 x3 x4 x5 = r → ACalls Try.prog 46 [.int .i64 x1, .agg #[.int .i64 x2, .int .i64 x3, .int .i64 x4, .int .i64 x5]] h (fun v' h'' => v' = (.bool r : Value) ∧ h'' = h) := by
  unfold F46
  refine dec_bif (fun c6 => ?_) (fun c6 => ?_)
  · refine dec_bif (fun c7 => ?_) (fun c7 => ?_)
    · refine dec_bif (fun c8 => ?_) (fun c8 => ?_)
      · intro hr
        subst hr
        exact pFun_sound good tab_ok (f := 46) (its := [.g, .g, .g, .g, .g, .g, (.w .g), (.w .g), (.w .g), (.w .g), (.p true), .g, (.w .g), (.w .g), (.w .g), (.p true), .g, (.w .g), (.w .g), (.w .g), (.w .g), (.p true), .g]) (args := [.int .i64 x1, .agg #[.int .i64 x2, .int .i64 x3, .int .i64 x4, .int .i64 x5]]) (h := h) (h' := h) (v := .bool (decide (x3 < x1))) (hC := (And.intro c8 (And.intro (g_tt c8) (And.intro (g_tt c8) (And.intro (g_tt c8) (And.intro (g_tt c8) (And.intro c7 (And.intro (g_tt c7) (And.intro (g_tt c7) (And.intro (g_tt c7) (And.intro c6 (And.intro (g_tt c6) (And.intro (g_tt c6) (And.intro (g_tt c6) (And.intro (g_tt c6) trivial))))))))))))))) (hr := by kernel_rfl)
      · intro hr
        subst hr
        exact pFun_sound good tab_ok (f := 46) (its := [.g, .g, .g, .g, .g, .g, (.w .g), (.w .g), (.w .g), (.w .g), (.p true), .g, (.w .g), (.w .g), (.w .g), (.p true), .g, .n, .n, .n, .n, (.p false), .g]) (args := [.int .i64 x1, .agg #[.int .i64 x2, .int .i64 x3, .int .i64 x4, .int .i64 x5]]) (h := h) (h' := h) (v := .bool false) (hC := (And.intro c8 (And.intro (g_ft c8) (And.intro (g_ft c8) (And.intro (g_ft c8) (And.intro (g_ft c8) (And.intro c7 (And.intro (g_tt c7) (And.intro (g_tt c7) (And.intro (g_tt c7) (And.intro c6 (And.intro (g_tt c6) (And.intro (g_tt c6) (And.intro (g_tt c6) (And.intro (g_tt c6) trivial))))))))))))))) (hr := by kernel_rfl)
    · intro hr
      subst hr
      exact pFun_sound good tab_ok (f := 46) (its := [.g, .g, .g, .g, .g, .g, (.w .g), (.w .g), (.w .g), (.w .g), (.p true), .g, .n, .n, .n, (.p false), .g, .n, .n, .n, .n, .g, .g]) (args := [.int .i64 x1, .agg #[.int .i64 x2, .int .i64 x3, .int .i64 x4, .int .i64 x5]]) (h := h) (h' := h) (v := .bool false) (hC := (And.intro (g_ft l_f) (And.intro (g_ft l_f) (And.intro (g_ft l_f) (And.intro (g_ft l_f) (And.intro c7 (And.intro (g_ft c7) (And.intro (g_ft c7) (And.intro (g_ft c7) (And.intro c6 (And.intro (g_tt c6) (And.intro (g_tt c6) (And.intro (g_tt c6) (And.intro (g_tt c6) trivial)))))))))))))) (hr := by kernel_rfl)
  · intro hr
    subst hr
    exact pFun_sound good tab_ok (f := 46) (its := [.g, .g, .g, .g, .g, .g, .n, .n, .n, .n, (.p false), .g, .n, .n, .n, .g, .g, .n, .n, .n, .n, .g, .g]) (args := [.int .i64 x1, .agg #[.int .i64 x2, .int .i64 x3, .int .i64 x4, .int .i64 x5]]) (h := h) (h' := h) (v := .bool false) (hC := (And.intro (g_ft l_f) (And.intro (g_ft l_f) (And.intro (g_ft l_f) (And.intro (g_ft l_f) (And.intro (g_ft l_f) (And.intro (g_ft l_f) (And.intro (g_ft l_f) (And.intro c6 (And.intro (g_ft c6) (And.intro (g_ft c6) (And.intro (g_ft c6) (And.intro (g_ft c6) trivial))))))))))))) (hr := by kernel_rfl)
/-! 45 jacquard/diffcons.limit -/
def F45__1 (x1 : Int) (x2 : Int) : Int := (if x2 < (if (IntKind.i64.wrap (0 - x2)) > x1 then (IntKind.i64.wrap (0 - x2)) else x1) then x2 else (if (IntKind.i64.wrap (0 - x2)) > x1 then (IntKind.i64.wrap (0 - x2)) else x1))
def F45 (x1 : Int) (x2 : Int) : Int :=
  (F45__1 x1 x2)
set_option maxRecDepth 100000 in
theorem F45_spec (x1 : Int) (x2 : Int) (h : AHeap)  (r : Int) : F45 x1 x2 = r → ACalls Try.prog 45 [.int .i64 x1, .int .i64 x2] h (fun v' h'' => v' = (.int .i64 r : Value) ∧ h'' = h) := by
  unfold F45
  intro hr
  subst hr
  exact pFun_sound good tab_ok (f := 45) (its := [.g, .g, .g, .g, .g, .g, .g, .g]) (args := [.int .i64 x1, .int .i64 x2]) (h := h) (h' := h) (v := .int .i64 (F45__1 x1 x2)) (hC := trivial) (hr := by kernel_rfl)
/-! 47 jacquard/diffcons.Weight -/
def F47__1 (x4 : Int) (x5 : Int) : Int := (IntKind.i64.wrap ((if 256 < (if 0 > x5 then 0 else x5) then 256 else (if 0 > x5 then 0 else x5)) * (F45 x4 1048576)))
def F47 (x1 : Int) (x2 : Int) (x3 : Int) (x4 : Int) (x5 : Int) : Int :=
  (IntKind.i64.wrap ((F45 x3 1048576) - (F47__1 x4 x5)))
set_option maxRecDepth 100000 in
theorem F47_spec (x1 : Int) (x2 : Int) (x3 : Int) (x4 : Int) (x5 : Int) (h : AHeap)  (r : Int) : F47 x1 x2 x3 x4 x5 = r → ACalls Try.prog 47 [.agg #[.int .i64 x1, .int .i64 x2, .int .i64 x3, .int .i64 x4], .int .i64 x5] h (fun v' h'' => v' = (.int .i64 r : Value) ∧ h'' = h) := by
  unfold F47
  intro hr
  subst hr
  exact pFun_sound good tab_ok (f := 47) (its := [.g, .g, .g, .g, .g, .g, .g, .g, .g, (.c (.int .i64 (F45 x3 1048576)) h), (.c (.int .i64 (F45 x4 1048576)) h), .g, .g, .g]) (args := [.agg #[.int .i64 x1, .int .i64 x2, .int .i64 x3, .int .i64 x4], .int .i64 x5]) (h := h) (h' := h) (v := .int .i64 (IntKind.i64.wrap ((F45 x3 1048576) - (F47__1 x4 x5)))) (hC := (And.intro (show AKeep h h from (AHeap.sub_refl h)) (And.intro (F45_spec x4 1048576 h _ rfl) (And.intro (show AKeep h h from (AHeap.sub_refl h)) (And.intro (F45_spec x3 1048576 h _ rfl) trivial))))) (hr := by kernel_rfl)
def enc113 (x : Int × Int × Int × Int) : List Value := [.int .i64 x.1, .int .i64 x.2.1, .int .i64 x.2.2.1, .int .i64 x.2.2.2]
def E113 (h : AHeap) (cs : List Value) (x : Int × Int × Int × Int) : Prop := cs = enc113 x
theorem E113_mono {h h' : AHeap} (le : h.sub h') (cs : List Value) (x : Int × Int × Int × Int) (H : E113 h cs x) : E113 h' cs x := H
def W113 (x : Int × Int × Int × Int) : Prop := (Lit.int .i64 x.1).wf = true ∧ (Lit.int .i64 x.2.1).wf = true ∧ (Lit.int .i64 x.2.2.1).wf = true ∧ (Lit.int .i64 x.2.2.2).wf = true ∧ True
set_option maxRecDepth 100000 in
theorem E113_wt {h : AHeap} {n : Nat} {cs : List Value} (H : WT Try.prog h n 113 cs) : ∃ x, E113 h cs x ∧ W113 x := by
  have k : SQ Try.prog h [.int .i64, .int .i64, .int .i64, .int .i64] cs := wt_flatS 2 n (by kernel_rfl) H
  obtain ⟨x0, r0, rfl, w0, k0⟩ := sq_int k
  obtain ⟨x1, r1, rfl, w1, k1⟩ := sq_int k0
  obtain ⟨x2, r2, rfl, w2, k2⟩ := sq_int k1
  obtain ⟨x3, r3, rfl, w3, k3⟩ := sq_int k2
  obtain rfl := sq_nil k3
  exact ⟨(x0, x1, x2, x3), rfl, ⟨w0, w1, w2, w3, trivial⟩⟩
/-! 40 jacquard/diffcons.edges -/
def F40_L : List Nat := [11]
def F40_D : List (Nat × List (Nat × Nat)) := [(8, [(0, 2), (1, 2), (3, 2), (5, 2), (6, 2), (8, 2), (2, 3), (4, 3), (7, 1), (9, 2), (10, 0), (11, 0), (12, 2)]), (5, [(0, 2), (1, 2), (3, 2), (5, 2), (6, 2), (8, 2), (2, 3), (4, 3), (7, 1), (9, 2), (10, 0), (11, 0), (12, 2)])]
def F40_m1_1 : List Bool := [true, true, true, true, true, true, true, true, true, false, true, true, true, true, true, true, true, true, true, true, true, true, true, true, true, true, true, true, true, true, true, true, true, true, true, true, true, true, true, true, true, true, true, true, true, true, true, true, true, true, true, true]
def F40_m1_0 : List Bool := [false, true, false, false, true, true, true, true, true, false, true, true, false, false, false, true, true, true, true, true, true, true, true, true, true, true, true, true, true, true, true, true, true, true, true, true, true, true, true, true, true, true, true, true, true, true, true, true, true, true, true, true]
def F40_s1 (x1 : Int) (l2 : List (Int × Int × Int × Int)) (x3 : Int) (x4 : Bool) (a7 : Int) (l8 : List (Int × Int × Int × Int)) : Option ((Int × (List (Int × Int × Int × Int))) ⊕ (List (Int × Int × Int × Int))) :=
  (bif decide (a7 < (l2.length : Int)) then
   (Option.bind (at? l2 a7) fun y11 =>
   (bif (!(F46 x1 y11.1 y11.2.1 y11.2.2.1 y11.2.2.2)) then
    some (.inl ((IntKind.i64.wrap (a7 + 1)), l8))
   else
    (bif x4 then
     (bif (!(okApp (l8.length + ([(y11.2.1, y11.1, (F47 y11.1 y11.2.1 y11.2.2.1 y11.2.2.2 x3), a7)] : List (Int × Int × Int × Int)).length) 32)) then none else
     some (.inl ((IntKind.i64.wrap (a7 + 1)), (l8 ++ ([(y11.2.1, y11.1, (F47 y11.1 y11.2.1 y11.2.2.1 y11.2.2.2 x3), a7)] : List (Int × Int × Int × Int))))))
    else
     (bif (!(okApp (l8.length + ([(y11.1, y11.2.1, (F47 y11.1 y11.2.1 y11.2.2.1 y11.2.2.2 x3), a7)] : List (Int × Int × Int × Int)).length) 32)) then none else
     some (.inl ((IntKind.i64.wrap (a7 + 1)), (l8 ++ ([(y11.1, y11.2.1, (F47 y11.1 y11.2.1 y11.2.2.1 y11.2.2.2 x3), a7)] : List (Int × Int × Int × Int)))))))))
  else
   some (.inr l8))
def F40_h1 (x1 : Int) (l2 : List (Int × Int × Int × Int)) (v2 : Hd) (x3 : Int) (x4 : Bool) (h9 : AHeap) (u8 : Hd) (a7 : Int) (l8 : List (Int × Int × Int × Int)) : AS := ⟨[.int .i64 x1, junk, .int .i64 x3, .bool x4, junk, junk, junk, junk, junk, (sv u8), junk, junk, (sv v2), .int .i64 (l2.length : Int), .int .i64 a7, junk, junk, junk, junk, junk, junk, junk, junk, junk, junk, junk, junk, junk, junk, junk, junk, junk, junk, junk, junk, junk, junk, junk, junk, junk, junk, junk, junk, junk, junk, junk, junk, junk, junk, junk, junk, junk], [], h9⟩
theorem F40_d1 : drawsOk F40_D (codeOf Try.prog 40 [1, 1, 0, 1, 0, 0]) = true := by kernel_rfl
def F40_x1_0 (h : AHeap) (hx : AHeap) (w0 : Hd) (r : (List (Int × Int × Int × Int))) : AS := ⟨[junk, junk, junk, junk, junk, junk, junk, junk, junk, (sv w0), junk, junk, junk, junk, junk, junk, junk, junk, junk, junk, junk, junk, junk, junk, junk, junk, junk, junk, junk, junk, junk, junk, junk, junk, junk, junk, junk, junk, junk, junk, junk, junk, junk, junk, junk, junk, junk, junk, junk, junk, junk, junk], [], hx⟩
def F40_i1 (h : AHeap) (x1 : Int) (l2 : List (Int × Int × Int × Int)) (v2 : Hd) (x3 : Int) (x4 : Bool) (s : Int × (List (Int × Int × Int × Int))) (S : AS) : Prop := ∃ (h9 : AHeap) (u8 : Hd), Heapy h h9 [⟨u8, 113, 4, List.flatMap enc113 s.2⟩] ∧ Strict u8 ∧ S = (F40_h1 x1 l2 v2 x3 x4 h9 u8 s.1 s.2)
def F40_x1 (h : AHeap) (r : (List (Int × Int × Int × Int))) (e : Exit) (S : AS) : Prop := e = (.exit 0) ∧ ∃ (hx : AHeap) (w0 : Hd), Heapy h hx [⟨w0, 113, 4, List.flatMap enc113 r⟩] ∧ Strict w0 ∧ S = (F40_x1_0 h hx w0 r)
set_option maxRecDepth 100000 in
theorem F40_r1 (h : AHeap) (x1 : Int) (l2 : List (Int × Int × Int × Int)) (v2 : Hd) (hv2 : SlE E29 4 h (sv v2) l2) (x3 : Int) (x4 : Bool) (a7 : Int) (l8 : List (Int × Int × Int × Int)) (S : AS) (hI : (F40_i1 h x1 l2 v2 x3 x4) (a7, l8) S) (o : (Int × (List (Int × Int × Int × Int))) ⊕ (List (Int × Int × Int × Int))) : F40_s1 x1 l2 x3 x4 a7 l8 = some o → Rd Try.prog (codeOf Try.prog 40 [1, 1, 0, 1, 0, 0]) (F40_i1 h x1 l2 v2 x3 x4) (F40_x1 h) S o := by
  obtain ⟨h9, u8, hp9, z8, rfl⟩ := hI
  unfold F40_s1
  refine dec_bif (fun c10 => ?_) (fun c10 => ?_)
  · refine bind_opt fun y11 e11 => ?_
    obtain ⟨id11, off11, g11, cs11, ix11, at11, rfl⟩ := SlE.at hv2 e11
    refine dec_bif (fun c13 => ?_) (fun c13 => ?_)
    · intro hr
      obtain rfl := Option.some.inj hr
      exact ⟨(F40_h1 x1 l2 v2 x3 x4 h9 u8 (IntKind.i64.wrap (a7 + 1)) l8), ⟨h9, u8, (Heapy.pick hp9 [0] (by decide)), z8, rfl⟩, pEnd_sound good (L := F40_L) (D := F40_D) (its := [.g, (.b true), .g, (.ix id11 off11 g11), (.ld (.agg #[.int .i64 y11.1, .int .i64 y11.2.1, .int .i64 y11.2.2.1, .int .i64 y11.2.2.2])), .g, .g, .g, .g, .g, (.c (.bool (F46 x1 y11.1 y11.2.1 y11.2.2.1 y11.2.2.2)) h9), .g, .g, (.b true), .g, .g]) (ds := F40_m1_0) (ks := [11]) (e := .normal) (s2 := (F40_h1 x1 l2 v2 x3 x4 h9 u8 (IntKind.i64.wrap (a7 + 1)) l8)) (hC := (And.intro c13 (And.intro (F46_spec x1 y11.1 y11.2.1 y11.2.2.1 y11.2.2.2 h9 _ rfl) (And.intro (At.agg (P := Try.prog) (t := 29) (v := .agg #[.int .i64 y11.1, .int .i64 y11.2.1, .int .i64 y11.2.2.1, .int .i64 y11.2.2.2]) (m := 4) (At.mono (Heapy.sub hp9) at11) (by kernel_rfl) (by kernel_rfl) 0 (by kernel_rfl) rfl) (And.intro ix11 (And.intro c10 trivial)))))) (hd := F40_d1) (h := by kernel_rfl)⟩
    · refine dec_bif (fun c14 => ?_) (fun c14 => ?_)
      · obtain ⟨v16, h16, m16, hp16, _⟩ := Heapy.build (P := Try.prog) hp9 (t := 66) (e := 113) (len := 1) (n := 4) (parts := [(0, .agg #[.int .i64 y11.2.1, .int .i64 y11.1, .int .i64 (F47 y11.1 y11.2.1 y11.2.2.1 y11.2.2.2 x3), .int .i64 a7])]) (cells := List.flatMap enc113 ([(y11.2.1, y11.1, (F47 y11.1 y11.2.1 y11.2.2.1 y11.2.2.2 x3), a7)] : List (Int × Int × Int × Int))) (by kernel_rfl) rfl
        refine guard_ok fun g18 => ?_
        obtain ⟨v19, h19, m19, q19, _, w19⟩ := Heapy.append hp16 (show mkInfo Try.prog 66 = some (113, 4, 32, [.int .i64 0, .int .i64 0, .int .i64 0, .int .i64 0]) by kernel_rfl) 1 (v := u8) (cells := List.flatMap enc113 l8) rfl (Y := (sv v16)) (SlE.src (enc := enc113) (c := 4) (Heapy.sle (v := v16) (xs := ([(y11.2.1, y11.1, (F47 y11.1 y11.2.1 y11.2.2.1 y11.2.2.2 x3), a7)] : List (Int × Int × Int × Int))) (enc := enc113) hp16 0 rfl (fun _ => rfl) (by decide)) (fun _ => rfl)) (flatMap_length (enc := enc113) (c := 4) (fun _ => rfl) _) (by rw [Heapy.vn (v := u8) (xs := l8) (enc := enc113) hp16 1 rfl (fun _ => rfl) (by decide)]; simpa using g18)
        have z19 : Strict v19 := w19 z8
        have hp19 : Heapy h h19 [⟨v16, 113, 4, List.flatMap enc113 ([(y11.2.1, y11.1, (F47 y11.1 y11.2.1 y11.2.2.1 y11.2.2.2 x3), a7)] : List (Int × Int × Int × Int))⟩, ⟨v19, 113, 4, List.flatMap enc113 (l8 ++ ([(y11.2.1, y11.1, (F47 y11.1 y11.2.1 y11.2.2.1 y11.2.2.2 x3), a7)] : List (Int × Int × Int × Int)))⟩] := by rw [← List.flatMap_append] at q19; exact q19
        intro hr
        obtain rfl := Option.some.inj hr
        exact ⟨(F40_h1 x1 l2 v2 x3 x4 h19 v19 (IntKind.i64.wrap (a7 + 1)) (l8 ++ ([(y11.2.1, y11.1, (F47 y11.1 y11.2.1 y11.2.2.1 y11.2.2.2 x3), a7)] : List (Int × Int × Int × Int)))), ⟨h19, v19, (Heapy.pick hp19 [1] (by decide)), z19, rfl⟩, pEnd_sound good (L := F40_L) (D := F40_D) (its := [.g, (.b true), .g, (.ix id11 off11 g11), (.ld (.agg #[.int .i64 y11.1, .int .i64 y11.2.1, .int .i64 y11.2.2.1, .int .i64 y11.2.2.2])), .g, .g, .g, .g, .g, (.c (.bool (F46 x1 y11.1 y11.2.1 y11.2.2.1 y11.2.2.2)) h9), .g, .g, (.b false), .g, .g, (.b true), .g, .g, .g, .g, .g, .g, .g, .g, (.c (.int .i64 (F47 y11.1 y11.2.1 y11.2.2.1 y11.2.2.2 x3)) h9), .g, (.mm (sv v16) h16), (.mm (sv v19) h19), .g, .g, .g]) (ds := F40_m1_0) (ks := [11]) (e := .normal) (s2 := (F40_h1 x1 l2 v2 x3 x4 h19 v19 (IntKind.i64.wrap (a7 + 1)) (l8 ++ ([(y11.2.1, y11.1, (F47 y11.1 y11.2.1 y11.2.2.1 y11.2.2.2 x3), a7)] : List (Int × Int × Int × Int))))) (hC := (And.intro m19 (And.intro m16 (And.intro (show AKeep h9 h9 from (AHeap.sub_refl h9)) (And.intro (F47_spec y11.1 y11.2.1 y11.2.2.1 y11.2.2.2 x3 h9 _ rfl) (And.intro c14 (And.intro c13 (And.intro (F46_spec x1 y11.1 y11.2.1 y11.2.2.1 y11.2.2.2 h9 _ rfl) (And.intro (At.agg (P := Try.prog) (t := 29) (v := .agg #[.int .i64 y11.1, .int .i64 y11.2.1, .int .i64 y11.2.2.1, .int .i64 y11.2.2.2]) (m := 4) (At.mono (Heapy.sub hp9) at11) (by kernel_rfl) (by kernel_rfl) 0 (by kernel_rfl) rfl) (And.intro ix11 (And.intro c10 trivial))))))))))) (hd := F40_d1) (h := by kernel_rfl)⟩
      · obtain ⟨v22, h22, m22, hp22, _⟩ := Heapy.build (P := Try.prog) hp9 (t := 66) (e := 113) (len := 1) (n := 4) (parts := [(0, .agg #[.int .i64 y11.1, .int .i64 y11.2.1, .int .i64 (F47 y11.1 y11.2.1 y11.2.2.1 y11.2.2.2 x3), .int .i64 a7])]) (cells := List.flatMap enc113 ([(y11.1, y11.2.1, (F47 y11.1 y11.2.1 y11.2.2.1 y11.2.2.2 x3), a7)] : List (Int × Int × Int × Int))) (by kernel_rfl) rfl
        refine guard_ok fun g24 => ?_
        obtain ⟨v25, h25, m25, q25, _, w25⟩ := Heapy.append hp22 (show mkInfo Try.prog 66 = some (113, 4, 32, [.int .i64 0, .int .i64 0, .int .i64 0, .int .i64 0]) by kernel_rfl) 1 (v := u8) (cells := List.flatMap enc113 l8) rfl (Y := (sv v22)) (SlE.src (enc := enc113) (c := 4) (Heapy.sle (v := v22) (xs := ([(y11.1, y11.2.1, (F47 y11.1 y11.2.1 y11.2.2.1 y11.2.2.2 x3), a7)] : List (Int × Int × Int × Int))) (enc := enc113) hp22 0 rfl (fun _ => rfl) (by decide)) (fun _ => rfl)) (flatMap_length (enc := enc113) (c := 4) (fun _ => rfl) _) (by rw [Heapy.vn (v := u8) (xs := l8) (enc := enc113) hp22 1 rfl (fun _ => rfl) (by decide)]; simpa using g24)
        have z25 : Strict v25 := w25 z8
        have hp25 : Heapy h h25 [⟨v22, 113, 4, List.flatMap enc113 ([(y11.1, y11.2.1, (F47 y11.1 y11.2.1 y11.2.2.1 y11.2.2.2 x3), a7)] : List (Int × Int × Int × Int))⟩, ⟨v25, 113, 4, List.flatMap enc113 (l8 ++ ([(y11.1, y11.2.1, (F47 y11.1 y11.2.1 y11.2.2.1 y11.2.2.2 x3), a7)] : List (Int × Int × Int × Int)))⟩] := by rw [← List.flatMap_append] at q25; exact q25
        intro hr
        obtain rfl := Option.some.inj hr
        exact ⟨(F40_h1 x1 l2 v2 x3 x4 h25 v25 (IntKind.i64.wrap (a7 + 1)) (l8 ++ ([(y11.1, y11.2.1, (F47 y11.1 y11.2.1 y11.2.2.1 y11.2.2.2 x3), a7)] : List (Int × Int × Int × Int)))), ⟨h25, v25, (Heapy.pick hp25 [1] (by decide)), z25, rfl⟩, pEnd_sound good (L := F40_L) (D := F40_D) (its := [.g, (.b true), .g, (.ix id11 off11 g11), (.ld (.agg #[.int .i64 y11.1, .int .i64 y11.2.1, .int .i64 y11.2.2.1, .int .i64 y11.2.2.2])), .g, .g, .g, .g, .g, (.c (.bool (F46 x1 y11.1 y11.2.1 y11.2.2.1 y11.2.2.2)) h9), .g, .g, (.b false), .g, .g, (.b false), .g, .g, .g, .g, .g, .g, .g, .g, (.c (.int .i64 (F47 y11.1 y11.2.1 y11.2.2.1 y11.2.2.2 x3)) h9), .g, (.mm (sv v22) h22), (.mm (sv v25) h25), .g, .g, .g]) (ds := F40_m1_0) (ks := [11]) (e := .normal) (s2 := (F40_h1 x1 l2 v2 x3 x4 h25 v25 (IntKind.i64.wrap (a7 + 1)) (l8 ++ ([(y11.1, y11.2.1, (F47 y11.1 y11.2.1 y11.2.2.1 y11.2.2.2 x3), a7)] : List (Int × Int × Int × Int))))) (hC := (And.intro m25 (And.intro m22 (And.intro (show AKeep h9 h9 from (AHeap.sub_refl h9)) (And.intro (F47_spec y11.1 y11.2.1 y11.2.2.1 y11.2.2.2 x3 h9 _ rfl) (And.intro c14 (And.intro c13 (And.intro (F46_spec x1 y11.1 y11.2.1 y11.2.2.1 y11.2.2.2 h9 _ rfl) (And.intro (At.agg (P := Try.prog) (t := 29) (v := .agg #[.int .i64 y11.1, .int .i64 y11.2.1, .int .i64 y11.2.2.1, .int .i64 y11.2.2.2]) (m := 4) (At.mono (Heapy.sub hp9) at11) (by kernel_rfl) (by kernel_rfl) 0 (by kernel_rfl) rfl) (And.intro ix11 (And.intro c10 trivial))))))))))) (hd := F40_d1) (h := by kernel_rfl)⟩
  · intro hr
    obtain rfl := Option.some.inj hr
    refine ⟨(.exit 0), (F40_x1_0 h h9 u8 (l8 : (List (Int × Int × Int × Int)))), (by intro hh; cases hh), ?_, pEnd_sound good (L := F40_L) (D := F40_D) (its := [.g, (.b false)]) (ds := F40_m1_1) (ks := []) (e := (.exit 0)) (s2 := (F40_x1_0 h h9 u8 (l8 : (List (Int × Int × Int × Int))))) (hC := (And.intro c10 trivial)) (hd := F40_d1) (h := by kernel_rfl)⟩
    exact ⟨rfl, h9, u8, (Heapy.pick hp9 [0] (by decide)), z8, rfl⟩
theorem F40_l1 (h : AHeap) (x1 : Int) (l2 : List (Int × Int × Int × Int)) (v2 : Hd) (hv2 : SlE E29 4 h (sv v2) l2) (x3 : Int) (x4 : Bool) (x : Int × (List (Int × Int × Int × Int))) (r : (List (Int × Int × Int × Int))) (hl : loopO (fun (s : Int × (List (Int × Int × Int × Int))) => F40_s1 x1 l2 x3 x4 s.1 s.2) x = some r) (S : AS) (hI : (F40_i1 h x1 l2 v2 x3 x4) x S) : ∃ e S', (F40_x1 h) r e S' ∧ AWp Try.prog (.loop (codeOf Try.prog 40 [1, 1, 0, 1, 0, 0])) (Ends1 e S') S :=
  loop_rel (fun x S hI => F40_r1 h x1 l2 v2 hv2 x3 x4 x.1 x.2 S hI) hl hI
def F40 (x1 : Int) (l2 : List (Int × Int × Int × Int)) (x3 : Int) (x4 : Bool) : Option ((List (Int × Int × Int × Int))) :=
  (Option.bind (loopO (fun (s : Int × (List (Int × Int × Int × Int))) => F40_s1 x1 l2 x3 x4 s.1 s.2) (0, ([] : List (Int × Int × Int × Int)))) fun y27 =>
  some (y27))
set_option maxRecDepth 100000 in
theorem F40_spec (x1 : Int) (l2 : List (Int × Int × Int × Int)) (x3 : Int) (x4 : Bool) (v2 : Hd) (h : AHeap) (hw : h.wf) (hv2 : SlE E29 4 h (sv v2) l2) (r : (List (Int × Int × Int × Int))) : F40 x1 l2 x3 x4 = some r → ∃ (ur0 : Hd) (h' : AHeap), Heapy h h' [⟨ur0, 113, 4, List.flatMap enc113 r⟩] ∧ Strict ur0 ∧ ACalls Try.prog 40 [.int .i64 x1, (sv v2), .int .i64 x3, .bool x4] h (fun v' h'' => v' = ((sv ur0) : Value) ∧ h'' = h') := by
  unfold F40
  refine bind_opt fun y27 e27 => ?_
  have hp5 : Heapy h h [⟨⟨none, 0, 0⟩, 113, 4, List.flatMap enc113 ([] : List (Int × Int × Int × Int))⟩] := Heapy.nil (Heapy.refl hw) 113 4
  obtain ⟨ee27, SS27, hX27, hA27⟩ := F40_l1 h x1 l2 v2 hv2 x3 x4 (0, ([] : List (Int × Int × Int × Int))) y27 e27 (F40_h1 x1 l2 v2 x3 x4 h ⟨none, 0, 0⟩ 0 ([] : List (Int × Int × Int × Int))) ⟨h, ⟨none, 0, 0⟩, (Heapy.pick hp5 [0] (by decide)), Strict.nil, rfl⟩
  obtain ⟨rfl, h28, w0_28, hp28, zw0_28, rfl⟩ := hX27
  intro hr
  obtain rfl := Option.some.inj hr
  exact ⟨w0_28, h28, Heapy.pick hp28 [0] (by decide), zw0_28, pFun_sound good tab_ok (f := 40) (its := [.g, .g, .g, (.ln l2.length), .g, (.l F40_m1_0 [] (.exit 0) (F40_x1_0 h h28 w0_28 y27)), .g, .g]) (args := [.int .i64 x1, (sv v2), .int .i64 x3, .bool x4]) (h := h) (h' := h28) (v := (sv w0_28)) (hC := (And.intro hA27 (And.intro (SlE.len hv2) trivial))) (hr := by kernel_rfl)⟩
/-! 41 jacquard/diffcons.bound -/
def F41 (l1 : List Int) (x2 : Int) : Option (Int) :=
  (bif decide (x2 ≥ (l1.length : Int)) then
   some (0)
  else
   (Option.bind (at? l1 x2) fun y4 =>
   some (F45 y4 1073741824)))
set_option maxRecDepth 100000 in
theorem F41_spec (l1 : List Int) (x2 : Int) (v1 : Hd) (h : AHeap) (hv1 : SlE E3 1 h (sv v1) l1) (r : Int) : F41 l1 x2 = some r → ACalls Try.prog 41 [(sv v1), .int .i64 x2] h (fun v' h'' => v' = (.int .i64 r : Value) ∧ h'' = h) := by
  unfold F41
  refine dec_bif (fun c3 => ?_) (fun c3 => ?_)
  · intro hr
    obtain rfl := Option.some.inj hr
    exact pFun_sound good tab_ok (f := 41) (its := [.g, .g, .g, (.ln l1.length), .g, (.b true), .g]) (args := [(sv v1), .int .i64 x2]) (h := h) (h' := h) (v := .int .i64 0) (hC := (And.intro c3 (And.intro (SlE.len hv1) trivial))) (hr := by kernel_rfl)
  · refine bind_opt fun y4 e4 => ?_
    obtain ⟨id4, off4, g4, cs4, ix4, at4, rfl⟩ := SlE.at hv1 e4
    intro hr
    obtain rfl := Option.some.inj hr
    exact pFun_sound good tab_ok (f := 41) (its := [.g, .g, .g, (.ln l1.length), .g, (.b false), .g, .g, (.ix id4 off4 g4), (.ld (.int .i64 y4)), (.c (.int .i64 (F45 y4 1073741824)) h), .g]) (args := [(sv v1), .int .i64 x2]) (h := h) (h' := h) (v := .int .i64 (F45 y4 1073741824)) (hC := (And.intro (F45_spec y4 1073741824 h _ rfl) (And.intro (At.one (P := Try.prog) (t := 3) (v := .int .i64 y4) at4 (by kernel_rfl) 0 rfl rfl) (And.intro ix4 (And.intro c3 (And.intro (SlE.len hv1) trivial)))))) (hr := by kernel_rfl)
/-! 43 slices.Reverse[[]int,int] -/
def F43_L : List Nat := []
def F43_D : List (Nat × List (Nat × Nat)) := [(3, [(0, 2), (1, 2), (2, 2), (3, 2), (4, 2), (5, 2), (6, 2), (7, 2), (8, 2), (9, 2), (10, 2), (11, 2), (12, 2), (13, 0), (14, 2), (15, 0)])]
def F43_m1_1 : List Bool := [false, true, true, true, true, true, true, true, true, true, true, true, true, true, true, true, true, true, true, true, true, true, true, true, true, true, true, true]
def F43_m1_0 : List Bool := [false, true, false, false, true, true, true, true, true, true, true, true, true, true, true, true, true, true, true, true, true, true, true, true, true, true, true, true]
def F43_s1  (a3 : Int) (a4 : Int) (l5 : List Int) : Option ((Int × Int × (List Int)) ⊕ (List Int)) :=
  (bif decide (a3 < a4) then
   (Option.bind (at? l5 a4) fun y8 =>
   (Option.bind (at? l5 a3) fun y9 =>
   (Option.bind (at? (setI l5 a3 y8) a4) fun y11 =>
   some (.inl ((IntKind.i64.wrap (a3 + 1)), (IntKind.i64.wrap (a4 - 1)), (setI (setI l5 a3 y8) a4 y9))))))
  else
   some (.inr l5))
def F43_h1 (v1 : Hd) (h6 : AHeap) (a3 : Int) (a4 : Int) (l5 : List Int) : AS := ⟨[(sv v1), junk, .int .i64 a3, .int .i64 a4, junk, junk, junk, junk, junk, junk, junk, junk, junk, junk, junk, junk, junk, junk, junk, junk, junk, junk, junk, junk, junk, junk, junk, junk], [], h6⟩
theorem F43_d1 : drawsOk F43_D (codeOf Try.prog 43 [1, 0, 0]) = true := by kernel_rfl
def F43_x1_0 (h : AHeap) (v1 : Hd) (hx : AHeap) (r : (List Int)) : AS := ⟨[(sv v1), junk, junk, junk, junk, junk, junk, junk, junk, junk, junk, junk, junk, junk, junk, junk, junk, junk, junk, junk, junk, junk, junk, junk, junk, junk, junk, junk], [], hx⟩
def F43_i1 (h : AHeap) (v1 : Hd) (s : Int × Int × (List Int)) (S : AS) : Prop := ∃ (h6 : AHeap), Heapy h h6 [⟨v1, 3, 1, List.flatMap enc3 s.2.2⟩] ∧ S = (F43_h1 v1 h6 s.1 s.2.1 s.2.2)
def F43_x1 (h : AHeap) (v1 : Hd) (r : (List Int)) (e : Exit) (S : AS) : Prop := e = (.exit 0) ∧ ∃ (hx : AHeap), Heapy h hx [⟨v1, 3, 1, List.flatMap enc3 r⟩] ∧ S = (F43_x1_0 h v1 hx r)
set_option maxRecDepth 100000 in
theorem F43_r1 (h : AHeap) (v1 : Hd) (a3 : Int) (a4 : Int) (l5 : List Int) (S : AS) (hI : (F43_i1 h v1) (a3, a4, l5) S) (o : (Int × Int × (List Int)) ⊕ (List Int)) : F43_s1 a3 a4 l5 = some o → Rd Try.prog (codeOf Try.prog 43 [1, 0, 0]) (F43_i1 h v1) (F43_x1 h v1) S o := by
  obtain ⟨h6, hp6, rfl⟩ := hI
  unfold F43_s1
  refine dec_bif (fun c7 => ?_) (fun c7 => ?_)
  · refine bind_opt fun y8 e8 => ?_
    obtain ⟨id8, off8, g8, cs8, ix8, at8, rfl⟩ := SlE.at (Heapy.sle (v := v1) (xs := l5) (enc := enc3) hp6 0 rfl (fun _ => rfl) (by decide)) e8
    refine bind_opt fun y9 e9 => ?_
    obtain ⟨id9, off9, g9, cs9, ix9, at9, rfl⟩ := SlE.at (Heapy.sle (v := v1) (xs := l5) (enc := enc3) hp6 0 rfl (fun _ => rfl) (by decide)) e9
    obtain ⟨h10, m10, hp10⟩ := Heapy.store (P := Try.prog) hp6 0 (v := v1) (xs := l5) (enc := enc3) rfl (fun _ => rfl) e9 (y' := y8) ix9 (t := 3) (x := .int .i64 y8) 0 (vs := [.int .i64 y8]) rfl (by kernel_rfl) rfl rfl rfl rfl
    refine bind_opt fun y11 e11 => ?_
    obtain ⟨id11, off11, g11, cs11, ix11, at11, rfl⟩ := SlE.at (Heapy.sle (v := v1) (xs := (setI l5 a3 y8)) (enc := enc3) hp10 0 rfl (fun _ => rfl) (by decide)) e11
    obtain ⟨h12, m12, hp12⟩ := Heapy.store (P := Try.prog) hp10 0 (v := v1) (xs := (setI l5 a3 y8)) (enc := enc3) rfl (fun _ => rfl) e11 (y' := y9) ix11 (t := 3) (x := .int .i64 y9) 0 (vs := [.int .i64 y9]) rfl (by kernel_rfl) rfl rfl rfl rfl
    intro hr
    obtain rfl := Option.some.inj hr
    exact ⟨(F43_h1 v1 h12 (IntKind.i64.wrap (a3 + 1)) (IntKind.i64.wrap (a4 - 1)) (setI (setI l5 a3 y8) a4 y9)), ⟨h12, (Heapy.pick hp12 [0] (by decide)), rfl⟩, pEnd_sound good (L := F43_L) (D := F43_D) (its := [.g, .g, .g, (.b true), .g, .g, .g, .g, .g, .g, (.ix id8 off8 g8), (.ld (.int .i64 y8)), .g, .g, (.ix id9 off9 g9), (.ld (.int .i64 y9)), (.ix id9 off9 g9), (.mm undef h10), (.ix id11 off11 g11), (.mm undef h12), .g, .g, .g, .g, .g, .g]) (ds := F43_m1_0) (ks := []) (e := .normal) (s2 := (F43_h1 v1 h12 (IntKind.i64.wrap (a3 + 1)) (IntKind.i64.wrap (a4 - 1)) (setI (setI l5 a3 y8) a4 y9))) (hC := (And.intro m12 (And.intro ix11 (And.intro m10 (And.intro ix9 (And.intro (At.one (P := Try.prog) (t := 3) (v := .int .i64 y9) at9 (by kernel_rfl) 0 rfl rfl) (And.intro ix9 (And.intro (At.one (P := Try.prog) (t := 3) (v := .int .i64 y8) at8 (by kernel_rfl) 0 rfl rfl) (And.intro ix8 (And.intro c7 trivial)))))))))) (hd := F43_d1) (h := by kernel_rfl)⟩
  · intro hr
    obtain rfl := Option.some.inj hr
    refine ⟨(.exit 0), (F43_x1_0 h v1 h6 (l5 : (List Int))), (by intro hh; cases hh), ?_, pEnd_sound good (L := F43_L) (D := F43_D) (its := [.g, .g, .g, (.b false)]) (ds := F43_m1_1) (ks := []) (e := (.exit 0)) (s2 := (F43_x1_0 h v1 h6 (l5 : (List Int)))) (hC := (And.intro c7 trivial)) (hd := F43_d1) (h := by kernel_rfl)⟩
    exact ⟨rfl, h6, (Heapy.pick hp6 [0] (by decide)), rfl⟩
theorem F43_l1 (h : AHeap) (v1 : Hd) (x : Int × Int × (List Int)) (r : (List Int)) (hl : loopO (fun (s : Int × Int × (List Int)) => F43_s1 s.1 s.2.1 s.2.2) x = some r) (S : AS) (hI : (F43_i1 h v1) x S) : ∃ e S', (F43_x1 h v1) r e S' ∧ AWp Try.prog (.loop (codeOf Try.prog 43 [1, 0, 0])) (Ends1 e S') S :=
  loop_rel (fun x S hI => F43_r1 h v1 x.1 x.2.1 x.2.2 S hI) hl hI
def F43 (l1 : List Int) : Option ((List Int)) :=
  (Option.bind (loopO (fun (s : Int × Int × (List Int)) => F43_s1 s.1 s.2.1 s.2.2) (0, (IntKind.i64.wrap ((l1.length : Int) - 1)), l1)) fun y13 =>
  some (y13))
set_option maxRecDepth 100000 in
theorem F43_spec (l1 : List Int) (v1 : Hd) (hi : AHeap) (h : AHeap) (hw : h.wf) (hio : Heapy h hi [⟨v1, 3, 1, List.flatMap enc3 l1⟩]) (r : (List Int)) : F43 l1 = some r → ∃ (h' : AHeap), Heapy h h' [⟨v1, 3, 1, List.flatMap enc3 r⟩] ∧ ACalls Try.prog 43 [(sv v1)] hi (fun v' h'' => v' = (.tuple #[] : Value) ∧ h'' = h') := by
  unfold F43
  refine bind_opt fun y13 e13 => ?_
  obtain ⟨ee13, SS13, hX13, hA13⟩ := F43_l1 h v1 (0, (IntKind.i64.wrap ((l1.length : Int) - 1)), l1) y13 e13 (F43_h1 v1 hi 0 (IntKind.i64.wrap ((l1.length : Int) - 1)) l1) ⟨hi, (Heapy.pick hio [0] (by decide)), rfl⟩
  obtain ⟨rfl, h14, hp14, rfl⟩ := hX13
  intro hr
  obtain rfl := Option.some.inj hr
  exact ⟨h14, Heapy.pick hp14 [0] (by decide), pFun_sound good tab_ok (f := 43) (its := [.g, (.ln l1.length), .g, .g, .g, (.l F43_m1_0 [] (.exit 0) (F43_x1_0 h v1 h14 y13))]) (args := [(sv v1)]) (h := hi) (h' := h14) (v := .tuple #[]) (hC := (And.intro hA13 (And.intro (SlE.len (Heapy.sle (v := v1) (xs := l1) (enc := enc3) hio 0 rfl (fun _ => rfl) (by decide))) trivial))) (hr := by kernel_rfl)⟩
/-! 91 jacquard/diffcons.follow -/
def F91_L : List Nat := [9]
def F91_D : List (Nat × List (Nat × Nat)) := []
def F91_m1_1 : List Bool := [false, false, false, true, true, true, true, true, true, true, true, true, true, true, true, true, true, true, true, true, true, true, true, true, true, true, true, true, true, true, true, true, true, true, true, true, true, true, true, true, true, true, true, true]
def F91_m1_0 : List Bool := [false, false, false, true, true, true, true, true, true, true, true, false, false, true, true, true, true, true, true, true, true, true, true, true, true, true, true, true, true, true, true, true, true, true, true, true, true, true, true, true, true, true, true, true]
def F91_s1 (l1 : List Int) (l2 : List (Int × Int × Int × Int)) (a4 : Int) (a5 : Int) : Option ((Int × Int) ⊕ Int) :=
  (bif decide (a5 < (l1.length : Int)) then
   (Option.bind (at? l1 a4) fun y7 =>
   (Option.bind (at? l2 y7) fun y8 =>
   some (.inl (y8.1, (IntKind.i64.wrap (a5 + 1))))))
  else
   some (.inr a4))
def F91_h1 (h : AHeap) (l1 : List Int) (v1 : Hd) (v2 : Hd)  (a4 : Int) (a5 : Int) : AS := ⟨[(sv v1), (sv v2), .int .i64 a4, junk, junk, junk, junk, junk, junk, junk, junk, .int .i64 (l1.length : Int), .int .i64 a5, junk, junk, junk, junk, junk, junk, junk, junk, junk, junk, junk, junk, junk, junk, junk, junk, junk, junk, junk, junk, junk, junk, junk, junk, junk, junk, junk, junk, junk, junk, junk], [], h⟩
theorem F91_d1 : drawsOk F91_D (codeOf Try.prog 91 [1, 0, 1, 0, 0]) = true := by kernel_rfl
def F91_x1_0 (h : AHeap) (v1 : Hd) (v2 : Hd)  (r : Int) : AS := ⟨[(sv v1), (sv v2), .int .i64 r, junk, junk, junk, junk, junk, junk, junk, junk, junk, junk, junk, junk, junk, junk, junk, junk, junk, junk, junk, junk, junk, junk, junk, junk, junk, junk, junk, junk, junk, junk, junk, junk, junk, junk, junk, junk, junk, junk, junk, junk, junk], [], h⟩
def F91_x1 (h : AHeap) (v1 : Hd) (v2 : Hd) (r : Int) : Exit × AS := ((.exit 0), (F91_x1_0 h v1 v2 r))
set_option maxRecDepth 100000 in
theorem F91_r1 (h : AHeap) (l1 : List Int) (v1 : Hd) (hv1 : SlE E3 1 h (sv v1) l1) (l2 : List (Int × Int × Int × Int)) (v2 : Hd) (hv2 : SlE E113 4 h (sv v2) l2) (a4 : Int) (a5 : Int) (o : (Int × Int) ⊕ Int) : F91_s1 l1 l2 a4 a5 = some o → RdF Try.prog (codeOf Try.prog 91 [1, 0, 1, 0, 0]) (fun (s : Int × Int) => (F91_h1 h l1 v1 v2 s.1 s.2)) (F91_x1 h v1 v2) (F91_h1 h l1 v1 v2 a4 a5) o := by
  unfold F91_s1
  refine dec_bif (fun c6 => ?_) (fun c6 => ?_)
  · refine bind_opt fun y7 e7 => ?_
    obtain ⟨id7, off7, g7, cs7, ix7, at7, rfl⟩ := SlE.at hv1 e7
    refine bind_opt fun y8 e8 => ?_
    obtain ⟨id8, off8, g8, cs8, ix8, at8, rfl⟩ := SlE.at hv2 e8
    intro hr
    obtain rfl := Option.some.inj hr
    show AWp Try.prog _ (Ends1 .normal (F91_h1 h l1 v1 v2 y8.1 (IntKind.i64.wrap (a5 + 1)))) _
    exact pEnd_sound good (L := F91_L) (D := F91_D) (its := [.g, (.b true), .g, .g, .g, (.ix id7 off7 g7), (.ld (.int .i64 y7)), (.ix id8 off8 g8), .g, (.ld (.int .i64 y8.1)), .g, .g, .g]) (ds := F91_m1_0) (ks := []) (e := .normal) (s2 := (F91_h1 h l1 v1 v2 y8.1 (IntKind.i64.wrap (a5 + 1)))) (hC := (And.intro (At.one (P := Try.prog) (t := 3) (v := .int .i64 y8.1) at8 (by kernel_rfl) 0 rfl rfl) (And.intro ix8 (And.intro (At.one (P := Try.prog) (t := 3) (v := .int .i64 y7) at7 (by kernel_rfl) 0 rfl rfl) (And.intro ix7 (And.intro c6 trivial)))))) (hd := F91_d1) (h := by kernel_rfl)
  · intro hr
    obtain rfl := Option.some.inj hr
    show AWp Try.prog _ (Ends1 ((F91_x1 h v1 v2) (a4 : Int)).1 ((F91_x1 h v1 v2) (a4 : Int)).2) _
    exact pEnd_sound good (L := F91_L) (D := F91_D) (its := [.g, (.b false)]) (ds := F91_m1_1) (ks := []) (e := ((F91_x1 h v1 v2) (a4 : Int)).1) (s2 := ((F91_x1 h v1 v2) (a4 : Int)).2) (hC := (And.intro c6 trivial)) (hd := F91_d1) (h := by kernel_rfl)
theorem F91_l1_0 (h : AHeap) (l1 : List Int) (v1 : Hd) (hv1 : SlE E3 1 h (sv v1) l1) (l2 : List (Int × Int × Int × Int)) (v2 : Hd) (hv2 : SlE E113 4 h (sv v2) l2) (x : Int × Int) (r : Int) (hl : loopO (fun (s : Int × Int) => F91_s1 l1 l2 s.1 s.2) x = some r) : AWp Try.prog (.loop (codeOf Try.prog 91 [1, 0, 1, 0, 0])) (Ends1 (.exit 0) (F91_x1_0 h v1 v2 r)) ((fun (s : Int × Int) => (F91_h1 h l1 v1 v2 s.1 s.2)) x) := by
  have k := loop_fun (P := Try.prog) (c := (codeOf Try.prog 91 [1, 0, 1, 0, 0])) (step := (fun (s : Int × Int) => F91_s1 l1 l2 s.1 s.2)) (hd := (fun (s : Int × Int) => (F91_h1 h l1 v1 v2 s.1 s.2))) (X := (F91_x1 h v1 v2)) (by intro t; unfold F91_x1; intro h; cases h) (fun x => F91_r1 h l1 v1 hv1 l2 v2 hv2 x.1 x.2) hl
  exact k
def F91_m2_1 : List Bool := [false, false, false, true, true, true, true, false, false, true, true, true, true, true, true, true, true, true, true, true, true, true, true, true, true, true, true, true, true, true, true, true, true, true, true, true, true, true, true, true, true, true, true, true]
def F91_m2_0 : List Bool := [true, true, true, true, true, true, true, false, true, true, true, true, true, true, true, true, true, true, true, true, true, true, true, true, true, true, true, true, true, true, true, true, true, true, true, true, true, true, true, true, true, true, true, true]
def F91_s2 (l1 : List Int) (l2 : List (Int × Int × Int × Int)) (y9 : Int) (a12 : Int) (l13 : List Int) : Option ((Int × (List Int)) ⊕ (List Int)) :=
  (Option.bind (at? l1 a12) fun y15 =>
  (Option.bind (at? l2 y15) fun y16 =>
  (bif (!(okApp (l13.length + ([y16.2.2.2] : List Int).length) 8)) then none else
  (bif (y16.1 == y9) then
   some (.inr (l13 ++ ([y16.2.2.2] : List Int)))
  else
   some (.inl (y16.1, (l13 ++ ([y16.2.2.2] : List Int))))))))
def F91_h2 (v1 : Hd) (v2 : Hd) (y9 : Int) (h14 : AHeap) (u13 : Hd) (a12 : Int) (l13 : List Int) : AS := ⟨[(sv v1), (sv v2), .int .i64 y9, junk, junk, junk, junk, (sv u13), .int .i64 a12, junk, junk, junk, junk, junk, junk, junk, junk, junk, junk, junk, junk, junk, junk, junk, junk, junk, junk, junk, junk, junk, junk, junk, junk, junk, junk, junk, junk, junk, junk, junk, junk, junk, junk, junk], [], h14⟩
theorem F91_d2 : drawsOk F91_D (codeOf Try.prog 91 [1, 1, 1, 0, 1, 0, 0]) = true := by kernel_rfl
def F91_x2_0 (h : AHeap) (hx : AHeap) (w0 : Hd) (r : (List Int)) : AS := ⟨[junk, junk, junk, junk, junk, junk, junk, (sv w0), junk, junk, junk, junk, junk, junk, junk, junk, junk, junk, junk, junk, junk, junk, junk, junk, junk, junk, junk, junk, junk, junk, junk, junk, junk, junk, junk, junk, junk, junk, junk, junk, junk, junk, junk, junk], [], hx⟩
def F91_i2 (h : AHeap) (v1 : Hd) (v2 : Hd) (y9 : Int) (s : Int × (List Int)) (S : AS) : Prop := ∃ (h14 : AHeap) (u13 : Hd), Heapy h h14 [⟨u13, 3, 1, List.flatMap enc3 s.2⟩] ∧ Strict u13 ∧ S = (F91_h2 v1 v2 y9 h14 u13 s.1 s.2)
def F91_x2 (h : AHeap) (r : (List Int)) (e : Exit) (S : AS) : Prop := e = (.exit 2) ∧ ∃ (hx : AHeap) (w0 : Hd), Heapy h hx [⟨w0, 3, 1, List.flatMap enc3 r⟩] ∧ Strict w0 ∧ S = (F91_x2_0 h hx w0 r)
set_option maxRecDepth 100000 in
theorem F91_r2 (h : AHeap) (l1 : List Int) (v1 : Hd) (hv1 : SlE E3 1 h (sv v1) l1) (l2 : List (Int × Int × Int × Int)) (v2 : Hd) (hv2 : SlE E113 4 h (sv v2) l2) (y9 : Int) (a12 : Int) (l13 : List Int) (S : AS) (hI : (F91_i2 h v1 v2 y9) (a12, l13) S) (o : (Int × (List Int)) ⊕ (List Int)) : F91_s2 l1 l2 y9 a12 l13 = some o → Rd Try.prog (codeOf Try.prog 91 [1, 1, 1, 0, 1, 0, 0]) (F91_i2 h v1 v2 y9) (F91_x2 h) S o := by
  obtain ⟨h14, u13, hp14, z13, rfl⟩ := hI
  unfold F91_s2
  refine bind_opt fun y15 e15 => ?_
  obtain ⟨id15, off15, g15, cs15, ix15, at15, rfl⟩ := SlE.at hv1 e15
  refine bind_opt fun y16 e16 => ?_
  obtain ⟨id16, off16, g16, cs16, ix16, at16, rfl⟩ := SlE.at hv2 e16
  obtain ⟨v17, h17, m17, hp17, _⟩ := Heapy.build (P := Try.prog) hp14 (t := 25) (e := 3) (len := 1) (n := 1) (parts := [(0, .int .i64 y16.2.2.2)]) (cells := List.flatMap enc3 ([y16.2.2.2] : List Int)) (by kernel_rfl) rfl
  refine guard_ok fun g19 => ?_
  obtain ⟨v20, h20, m20, q20, _, w20⟩ := Heapy.append hp17 (show mkInfo Try.prog 25 = some (3, 1, 8, [.int .i64 0]) by kernel_rfl) 1 (v := u13) (cells := List.flatMap enc3 l13) rfl (Y := (sv v17)) (SlE.src (enc := enc3) (c := 1) (Heapy.sle (v := v17) (xs := ([y16.2.2.2] : List Int)) (enc := enc3) hp17 0 rfl (fun _ => rfl) (by decide)) (fun _ => rfl)) (flatMap_length (enc := enc3) (c := 1) (fun _ => rfl) _) (by rw [Heapy.vn (v := u13) (xs := l13) (enc := enc3) hp17 1 rfl (fun _ => rfl) (by decide)]; simpa using g19)
  have z20 : Strict v20 := w20 z13
  have hp20 : Heapy h h20 [⟨v17, 3, 1, List.flatMap enc3 ([y16.2.2.2] : List Int)⟩, ⟨v20, 3, 1, List.flatMap enc3 (l13 ++ ([y16.2.2.2] : List Int))⟩] := by rw [← List.flatMap_append] at q20; exact q20
  refine dec_bif (fun c22 => ?_) (fun c22 => ?_)
  · intro hr
    obtain rfl := Option.some.inj hr
    refine ⟨(.exit 2), (F91_x2_0 h h20 v20 ((l13 ++ ([y16.2.2.2] : List Int)) : (List Int))), (by intro hh; cases hh), ?_, pEnd_sound good (L := F91_L) (D := F91_D) (its := [.g, .g, .g, (.ix id15 off15 g15), (.ld (.int .i64 y15)), (.ix id16 off16 g16), (.ld (.agg #[.int .i64 y16.1, .int .i64 y16.2.1, .int .i64 y16.2.2.1, .int .i64 y16.2.2.2])), .g, .g, .g, .g, .g, (.mm (sv v17) h17), (.mm (sv v20) h20), .g, .g, .g, .g, .g, .g, .g, (.b true)]) (ds := F91_m2_0) (ks := [9]) (e := (.exit 2)) (s2 := (F91_x2_0 h h20 v20 ((l13 ++ ([y16.2.2.2] : List Int)) : (List Int)))) (hC := (And.intro c22 (And.intro m20 (And.intro m17 (And.intro (At.agg (P := Try.prog) (t := 113) (v := .agg #[.int .i64 y16.1, .int .i64 y16.2.1, .int .i64 y16.2.2.1, .int .i64 y16.2.2.2]) (m := 4) (At.mono (Heapy.sub hp14) at16) (by kernel_rfl) (by kernel_rfl) 0 (by kernel_rfl) rfl) (And.intro ix16 (And.intro (At.one (P := Try.prog) (t := 3) (v := .int .i64 y15) (At.mono (Heapy.sub hp14) at15) (by kernel_rfl) 0 rfl rfl) (And.intro ix15 trivial)))))))) (hd := F91_d2) (h := by kernel_rfl)⟩
    exact ⟨rfl, h20, v20, (Heapy.pick hp20 [1] (by decide)), z20, rfl⟩
  · intro hr
    obtain rfl := Option.some.inj hr
    exact ⟨(F91_h2 v1 v2 y9 h20 v20 y16.1 (l13 ++ ([y16.2.2.2] : List Int))), ⟨h20, v20, (Heapy.pick hp20 [1] (by decide)), z20, rfl⟩, pEnd_sound good (L := F91_L) (D := F91_D) (its := [.g, .g, .g, (.ix id15 off15 g15), (.ld (.int .i64 y15)), (.ix id16 off16 g16), (.ld (.agg #[.int .i64 y16.1, .int .i64 y16.2.1, .int .i64 y16.2.2.1, .int .i64 y16.2.2.2])), .g, .g, .g, .g, .g, (.mm (sv v17) h17), (.mm (sv v20) h20), .g, .g, .g, .g, .g, .g, .g, (.b false)]) (ds := F91_m2_1) (ks := [9]) (e := .normal) (s2 := (F91_h2 v1 v2 y9 h20 v20 y16.1 (l13 ++ ([y16.2.2.2] : List Int)))) (hC := (And.intro c22 (And.intro m20 (And.intro m17 (And.intro (At.agg (P := Try.prog) (t := 113) (v := .agg #[.int .i64 y16.1, .int .i64 y16.2.1, .int .i64 y16.2.2.1, .int .i64 y16.2.2.2]) (m := 4) (At.mono (Heapy.sub hp14) at16) (by kernel_rfl) (by kernel_rfl) 0 (by kernel_rfl) rfl) (And.intro ix16 (And.intro (At.one (P := Try.prog) (t := 3) (v := .int .i64 y15) (At.mono (Heapy.sub hp14) at15) (by kernel_rfl) 0 rfl rfl) (And.intro ix15 trivial)))))))) (hd := F91_d2) (h := by kernel_rfl)⟩
theorem F91_l2 (h : AHeap) (l1 : List Int) (v1 : Hd) (hv1 : SlE E3 1 h (sv v1) l1) (l2 : List (Int × Int × Int × Int)) (v2 : Hd) (hv2 : SlE E113 4 h (sv v2) l2) (y9 : Int) (x : Int × (List Int)) (r : (List Int)) (hl : loopO (fun (s : Int × (List Int)) => F91_s2 l1 l2 y9 s.1 s.2) x = some r) (S : AS) (hI : (F91_i2 h v1 v2 y9) x S) : ∃ e S', (F91_x2 h) r e S' ∧ AWp Try.prog (.loop (codeOf Try.prog 91 [1, 1, 1, 0, 1, 0, 0])) (Ends1 e S') S :=
  loop_rel (fun x S hI => F91_r2 h l1 v1 hv1 l2 v2 hv2 y9 x.1 x.2 S hI) hl hI
def F91 (l1 : List Int) (l2 : List (Int × Int × Int × Int)) (x3 : Int) : Option ((List Int)) :=
  (Option.bind (loopO (fun (s : Int × Int) => F91_s1 l1 l2 s.1 s.2) (x3, 0)) fun y9 =>
  (Option.bind (loopO (fun (s : Int × (List Int)) => F91_s2 l1 l2 y9 s.1 s.2) (y9, ([] : List Int))) fun y23 =>
  (Option.bind (F43 y23) fun y26 =>
  some (y26))))
set_option maxRecDepth 100000 in
theorem F91_spec (l1 : List Int) (l2 : List (Int × Int × Int × Int)) (x3 : Int) (v1 : Hd) (v2 : Hd) (h : AHeap) (hw : h.wf) (hv1 : SlE E3 1 h (sv v1) l1) (hv2 : SlE E113 4 h (sv v2) l2) (r : (List Int)) : F91 l1 l2 x3 = some r → ∃ (ur0 : Hd) (h' : AHeap), Heapy h h' [⟨ur0, 3, 1, List.flatMap enc3 r⟩] ∧ Strict ur0 ∧ ACalls Try.prog 91 [(sv v1), (sv v2), .int .i64 x3] h (fun v' h'' => v' = ((sv ur0) : Value) ∧ h'' = h') := by
  unfold F91
  refine bind_opt fun y9 e9 => ?_
  refine bind_opt fun y23 e23 => ?_
  have hp10 : Heapy h h [⟨⟨none, 0, 0⟩, 3, 1, List.flatMap enc3 ([] : List Int)⟩] := Heapy.nil (Heapy.refl hw) 3 1
  obtain ⟨ee23, SS23, hX23, hA23⟩ := F91_l2 h l1 v1 hv1 l2 v2 hv2 y9 (y9, ([] : List Int)) y23 e23 (F91_h2 v1 v2 y9 h ⟨none, 0, 0⟩ y9 ([] : List Int)) ⟨h, ⟨none, 0, 0⟩, (Heapy.pick hp10 [0] (by decide)), Strict.nil, rfl⟩
  obtain ⟨rfl, h24, w0_24, hp24, zw0_24, rfl⟩ := hX23
  refine bind_opt fun y26 e26 => ?_
  obtain ⟨b25, pb25, ob25, jb25⟩ := Heapy.io hp24 0 (s := ⟨w0_24, 3, 1, List.flatMap enc3 y23⟩) rfl
  obtain ⟨h27, q27, c27⟩ := F43_spec y23 w0_24 h24 b25 (Heapy.wf ob25) pb25 _ e26
  have hp27 : Heapy h h27 [⟨w0_24, 3, 1, List.flatMap enc3 y26⟩] := jb25 (r := []) (s' := ⟨w0_24, 3, 1, List.flatMap enc3 y26⟩) q27
  intro hr
  obtain rfl := Option.some.inj hr
  exact ⟨w0_24, h27, Heapy.pick hp27 [0] (by decide), zw0_24, pFun_sound good tab_ok (f := 91) (its := [.g, .g, (.ln l1.length), .g, (.l F91_m1_0 [] (.exit 0) (F91_x1_0 h v1 v2 y9)), .g, .g, .g, (.l F91_m2_1 [] (.exit 2) (F91_x2_0 h h24 w0_24 y23)), .g, (.c (.tuple #[]) h27), .g, .g]) (args := [(sv v1), (sv v2), .int .i64 x3]) (h := h) (h' := h27) (v := (sv w0_24)) (hC := (And.intro c27 (And.intro hA23 (And.intro (F91_l1_0 h l1 v1 hv1 l2 v2 hv2 (x3, 0) y9 e9) (And.intro (SlE.len hv1) trivial))))) (hr := by kernel_rfl)⟩
/-! 42 jacquard/diffcons.raise -/
def F42_L : List Nat := [9]
def F42_D : List (Nat × List (Nat × Nat)) := [(14, [(0, 2), (1, 2), (2, 2), (3, 2), (4, 2), (5, 2), (6, 2), (7, 2), (8, 2)])]
def F42_m1_1 : List Bool := [false, false, true, true, true, false, true, true, true, true, true, true, true, true, true, true, true, true, true, true, true, true, true, true, true, true, true, true, true, true, true, true, true, true, true, true, true, true, true, true, true, true, true, true, true, true, true, true, true, true, true, true, true, true, true, true, true, true, true, true, true, true, true, true, true, true, true, true, true, true, true]
def F42_m1_0 : List Bool := [false, false, true, true, true, false, true, true, true, true, true, true, true, true, true, false, false, true, true, true, true, true, true, true, true, true, true, true, true, true, true, true, true, true, true, true, true, true, true, true, true, true, true, true, true, true, true, true, true, true, true, true, true, true, true, true, true, true, true, true, true, true, true, true, true, true, true, true, true, true, true]
def F42_s1 (l1 : List Int) (a7 : Int) (l8 : List Int) : Option ((Int × (List Int)) ⊕ (List Int)) :=
  (bif decide (a7 < ((List.replicate (l1.length : Int).toNat (0 : Int)).length : Int)) then
   (Option.bind (at? l8 a7) fun y11 =>
   some (.inl ((IntKind.i64.wrap (a7 + 1)), (setI l8 a7 (-1)))))
  else
   some (.inr l8))
def F42_h1 (l1 : List Int) (v1 : Hd) (v2 : Hd) (v5 : Hd) (h9 : AHeap) (a7 : Int) (l8 : List Int) : AS := ⟨[(sv v1), (sv v2), junk, junk, junk, (sv v5), junk, junk, junk, junk, junk, junk, junk, junk, junk, .int .i64 ((List.replicate (l1.length : Int).toNat (0 : Int)).length : Int), .int .i64 a7, junk, junk, junk, junk, junk, junk, junk, junk, junk, junk, junk, junk, junk, junk, junk, junk, junk, junk, junk, junk, junk, junk, junk, junk, junk, junk, junk, junk, junk, junk, junk, junk, junk, junk, junk, junk, junk, junk, junk, junk, junk, junk, junk, junk, junk, junk, junk, junk, junk, junk, junk, junk, junk, junk], [], h9⟩
theorem F42_d1 : drawsOk F42_D (codeOf Try.prog 42 [1, 0, 1, 0, 1, 0, 0]) = true := by kernel_rfl
def F42_x1_0 (h : AHeap) (l1 : List Int) (v1 : Hd) (v2 : Hd) (v5 : Hd) (hx : AHeap) (r : (List Int)) : AS := ⟨[(sv v1), (sv v2), junk, junk, junk, (sv v5), junk, junk, junk, junk, junk, junk, junk, junk, junk, junk, junk, junk, junk, junk, junk, junk, junk, junk, junk, junk, junk, junk, junk, junk, junk, junk, junk, junk, junk, junk, junk, junk, junk, junk, junk, junk, junk, junk, junk, junk, junk, junk, junk, junk, junk, junk, junk, junk, junk, junk, junk, junk, junk, junk, junk, junk, junk, junk, junk, junk, junk, junk, junk, junk, junk], [], hx⟩
def F42_i1 (h : AHeap) (l1 : List Int) (v1 : Hd) (v2 : Hd) (v5 : Hd) (s : Int × (List Int)) (S : AS) : Prop := ∃ (h9 : AHeap), Heapy h h9 [⟨v1, 3, 1, List.flatMap enc3 l1⟩, ⟨v5, 3, 1, List.flatMap enc3 s.2⟩] ∧ S = (F42_h1 l1 v1 v2 v5 h9 s.1 s.2)
def F42_x1 (h : AHeap) (l1 : List Int) (v1 : Hd) (v2 : Hd) (v5 : Hd) (r : (List Int)) (e : Exit) (S : AS) : Prop := e = (.exit 0) ∧ ∃ (hx : AHeap), Heapy h hx [⟨v1, 3, 1, List.flatMap enc3 l1⟩, ⟨v5, 3, 1, List.flatMap enc3 r⟩] ∧ S = (F42_x1_0 h l1 v1 v2 v5 hx r)
set_option maxRecDepth 100000 in
theorem F42_r1 (h : AHeap) (l1 : List Int) (v1 : Hd) (v2 : Hd) (v5 : Hd) (a7 : Int) (l8 : List Int) (S : AS) (hI : (F42_i1 h l1 v1 v2 v5) (a7, l8) S) (o : (Int × (List Int)) ⊕ (List Int)) : F42_s1 l1 a7 l8 = some o → Rd Try.prog (codeOf Try.prog 42 [1, 0, 1, 0, 1, 0, 0]) (F42_i1 h l1 v1 v2 v5) (F42_x1 h l1 v1 v2 v5) S o := by
  obtain ⟨h9, hp9, rfl⟩ := hI
  unfold F42_s1
  refine dec_bif (fun c10 => ?_) (fun c10 => ?_)
  · refine bind_opt fun y11 e11 => ?_
    obtain ⟨id11, off11, g11, cs11, ix11, at11, rfl⟩ := SlE.at (Heapy.sle (v := v5) (xs := l8) (enc := enc3) hp9 1 rfl (fun _ => rfl) (by decide)) e11
    obtain ⟨h12, m12, hp12⟩ := Heapy.store (P := Try.prog) hp9 1 (v := v5) (xs := l8) (enc := enc3) rfl (fun _ => rfl) e11 (y' := (-1)) ix11 (t := 3) (x := .int .i64 (-1)) 0 (vs := [.int .i64 (-1)]) rfl (by kernel_rfl) rfl rfl rfl rfl
    intro hr
    obtain rfl := Option.some.inj hr
    exact ⟨(F42_h1 l1 v1 v2 v5 h12 (IntKind.i64.wrap (a7 + 1)) (setI l8 a7 (-1))), ⟨h12, (Heapy.pick hp12 [0, 1] (by decide)), rfl⟩, pEnd_sound good (L := F42_L) (D := F42_D) (its := [.g, (.b true), .g, .g, .g, .g, (.ix id11 off11 g11), (.mm undef h12), .g, .g]) (ds := F42_m1_0) (ks := []) (e := .normal) (s2 := (F42_h1 l1 v1 v2 v5 h12 (IntKind.i64.wrap (a7 + 1)) (setI l8 a7 (-1)))) (hC := (And.intro m12 (And.intro ix11 (And.intro c10 trivial)))) (hd := F42_d1) (h := by kernel_rfl)⟩
  · intro hr
    obtain rfl := Option.some.inj hr
    refine ⟨(.exit 0), (F42_x1_0 h l1 v1 v2 v5 h9 (l8 : (List Int))), (by intro hh; cases hh), ?_, pEnd_sound good (L := F42_L) (D := F42_D) (its := [.g, (.b false)]) (ds := F42_m1_1) (ks := []) (e := (.exit 0)) (s2 := (F42_x1_0 h l1 v1 v2 v5 h9 (l8 : (List Int)))) (hC := (And.intro c10 trivial)) (hd := F42_d1) (h := by kernel_rfl)⟩
    exact ⟨rfl, h9, (Heapy.pick hp9 [0, 1] (by decide)), rfl⟩
theorem F42_l1 (h : AHeap) (l1 : List Int) (v1 : Hd) (v2 : Hd) (v5 : Hd) (x : Int × (List Int)) (r : (List Int)) (hl : loopO (fun (s : Int × (List Int)) => F42_s1 l1 s.1 s.2) x = some r) (S : AS) (hI : (F42_i1 h l1 v1 v2 v5) x S) : ∃ e S', (F42_x1 h l1 v1 v2 v5) r e S' ∧ AWp Try.prog (.loop (codeOf Try.prog 42 [1, 0, 1, 0, 1, 0, 0])) (Ends1 e S') S :=
  loop_rel (fun x S hI => F42_r1 h l1 v1 v2 v5 x.1 x.2 S hI) hl hI
def F42_m2_1 : List Bool := [false, false, true, true, true, false, true, false, true, true, true, true, true, true, true, true, true, true, true, true, true, true, true, true, false, false, true, true, true, true, true, true, true, true, true, true, true, true, true, true, true, true, true, true, true, true, true, true, true, true, true, true, true, true, true, true, true, true, true, true, true, true, true, true, true, true, true, true, true, true, true]
def F42_m2_0 : List Bool := [false, false, true, true, true, false, true, false, true, true, true, true, true, true, true, true, true, true, true, true, true, true, true, true, false, false, true, false, false, false, true, true, true, true, true, true, true, true, true, true, true, true, true, true, true, true, true, true, true, true, true, true, true, true, true, true, true, true, true, true, true, true, true, true, true, true, true, true, true, true, true]
def F42_s2 (l2 : List (Int × Int × Int × Int)) (a21 : Int) (a22 : Int) (l23 : List Int) (l24 : List Int) : Option ((Int × Int × (List Int) × (List Int)) ⊕ (Int × (List Int) × (List Int))) :=
  (bif decide (a22 < (l2.length : Int)) then
   (Option.bind (at? l2 a22) fun y27 =>
   (Option.bind (at? l23 y27.1) fun y28 =>
   (Option.bind (at? l23 y27.2.1) fun y29 =>
   (bif decide ((IntKind.i64.wrap (y28 + y27.2.2.1)) > y29) then
    (Option.bind (at? l24 y27.2.1) fun y32 =>
    some (.inl (y27.2.1, (IntKind.i64.wrap (a22 + 1)), (setI l23 y27.2.1 (IntKind.i64.wrap (y28 + y27.2.2.1))), (setI l24 y27.2.1 a22))))
   else
    some (.inl (a21, (IntKind.i64.wrap (a22 + 1)), l23, l24))))))
  else
   some (.inr (a21, l23, l24)))
def F42_h2 (l1 : List Int) (v1 : Hd) (l2 : List (Int × Int × Int × Int)) (v2 : Hd) (v5 : Hd) (a16 : Int) (h25 : AHeap) (a21 : Int) (a22 : Int) (l23 : List Int) (l24 : List Int) : AS := ⟨[(sv v1), (sv v2), junk, junk, junk, (sv v5), junk, .int .i64 a21, junk, junk, junk, junk, junk, junk, junk, junk, junk, junk, junk, junk, junk, junk, junk, junk, .int .i64 (l1.length : Int), .int .i64 a16, junk, (sv v2), .int .i64 (l2.length : Int), .int .i64 a22, junk, junk, junk, junk, junk, junk, junk, junk, junk, junk, junk, junk, junk, junk, junk, junk, junk, junk, junk, junk, junk, junk, junk, junk, junk, junk, junk, junk, junk, junk, junk, junk, junk, junk, junk, junk, junk, junk, junk, junk, junk], [], h25⟩
theorem F42_d2 : drawsOk F42_D (codeOf Try.prog 42 [1, 0, 1, 1, 1, 1, 0, 1, 0, 0, 1, 1, 0, 0, 1, 0, 1, 0, 0]) = true := by kernel_rfl
def F42_x2_0 (h : AHeap) (l1 : List Int) (v1 : Hd) (v2 : Hd) (v5 : Hd) (a16 : Int) (hx : AHeap) (r : Int × (List Int) × (List Int)) : AS := ⟨[(sv v1), (sv v2), junk, junk, junk, (sv v5), junk, .int .i64 r.1, junk, junk, junk, junk, junk, junk, junk, junk, junk, junk, junk, junk, junk, junk, junk, junk, .int .i64 (l1.length : Int), .int .i64 a16, junk, junk, junk, junk, junk, junk, junk, junk, junk, junk, junk, junk, junk, junk, junk, junk, junk, junk, junk, junk, junk, junk, junk, junk, junk, junk, junk, junk, junk, junk, junk, junk, junk, junk, junk, junk, junk, junk, junk, junk, junk, junk, junk, junk, junk], [], hx⟩
def F42_i2 (h : AHeap) (l1 : List Int) (v1 : Hd) (l2 : List (Int × Int × Int × Int)) (v2 : Hd) (v5 : Hd) (a16 : Int) (s : Int × Int × (List Int) × (List Int)) (S : AS) : Prop := ∃ (h25 : AHeap), Heapy h h25 [⟨v1, 3, 1, List.flatMap enc3 s.2.2.1⟩, ⟨v5, 3, 1, List.flatMap enc3 s.2.2.2⟩] ∧ S = (F42_h2 l1 v1 l2 v2 v5 a16 h25 s.1 s.2.1 s.2.2.1 s.2.2.2)
def F42_x2 (h : AHeap) (l1 : List Int) (v1 : Hd) (v2 : Hd) (v5 : Hd) (a16 : Int) (r : Int × (List Int) × (List Int)) (e : Exit) (S : AS) : Prop := e = (.exit 4) ∧ ∃ (hx : AHeap), Heapy h hx [⟨v1, 3, 1, List.flatMap enc3 r.2.1⟩, ⟨v5, 3, 1, List.flatMap enc3 r.2.2⟩] ∧ S = (F42_x2_0 h l1 v1 v2 v5 a16 hx r)
set_option maxRecDepth 100000 in
theorem F42_r2 (h : AHeap) (l1 : List Int) (v1 : Hd) (l2 : List (Int × Int × Int × Int)) (v2 : Hd) (hv2 : SlE E113 4 h (sv v2) l2) (v5 : Hd) (a16 : Int) (a21 : Int) (a22 : Int) (l23 : List Int) (l24 : List Int) (S : AS) (hI : (F42_i2 h l1 v1 l2 v2 v5 a16) (a21, a22, l23, l24) S) (o : (Int × Int × (List Int) × (List Int)) ⊕ (Int × (List Int) × (List Int))) : F42_s2 l2 a21 a22 l23 l24 = some o → Rd Try.prog (codeOf Try.prog 42 [1, 0, 1, 1, 1, 1, 0, 1, 0, 0, 1, 1, 0, 0, 1, 0, 1, 0, 0]) (F42_i2 h l1 v1 l2 v2 v5 a16) (F42_x2 h l1 v1 v2 v5 a16) S o := by
  obtain ⟨h25, hp25, rfl⟩ := hI
  unfold F42_s2
  refine dec_bif (fun c26 => ?_) (fun c26 => ?_)
  · refine bind_opt fun y27 e27 => ?_
    obtain ⟨id27, off27, g27, cs27, ix27, at27, rfl⟩ := SlE.at hv2 e27
    refine bind_opt fun y28 e28 => ?_
    obtain ⟨id28, off28, g28, cs28, ix28, at28, rfl⟩ := SlE.at (Heapy.sle (v := v1) (xs := l23) (enc := enc3) hp25 0 rfl (fun _ => rfl) (by decide)) e28
    refine bind_opt fun y29 e29 => ?_
    obtain ⟨id29, off29, g29, cs29, ix29, at29, rfl⟩ := SlE.at (Heapy.sle (v := v1) (xs := l23) (enc := enc3) hp25 0 rfl (fun _ => rfl) (by decide)) e29
    refine dec_bif (fun c30 => ?_) (fun c30 => ?_)
    · obtain ⟨h31, m31, hp31⟩ := Heapy.store (P := Try.prog) hp25 0 (v := v1) (xs := l23) (enc := enc3) rfl (fun _ => rfl) e29 (y' := (IntKind.i64.wrap (y28 + y27.2.2.1))) ix29 (t := 3) (x := .int .i64 (IntKind.i64.wrap (y28 + y27.2.2.1))) 0 (vs := [.int .i64 (IntKind.i64.wrap (y28 + y27.2.2.1))]) rfl (by kernel_rfl) rfl rfl rfl rfl
      refine bind_opt fun y32 e32 => ?_
      obtain ⟨id32, off32, g32, cs32, ix32, at32, rfl⟩ := SlE.at (Heapy.sle (v := v5) (xs := l24) (enc := enc3) hp31 1 rfl (fun _ => rfl) (by decide)) e32
      obtain ⟨h33, m33, hp33⟩ := Heapy.store (P := Try.prog) hp31 1 (v := v5) (xs := l24) (enc := enc3) rfl (fun _ => rfl) e32 (y' := a22) ix32 (t := 3) (x := .int .i64 a22) 0 (vs := [.int .i64 a22]) rfl (by kernel_rfl) rfl rfl rfl rfl
      intro hr
      obtain rfl := Option.some.inj hr
      exact ⟨(F42_h2 l1 v1 l2 v2 v5 a16 h33 y27.2.1 (IntKind.i64.wrap (a22 + 1)) (setI l23 y27.2.1 (IntKind.i64.wrap (y28 + y27.2.2.1))) (setI l24 y27.2.1 a22)), ⟨h33, (Heapy.pick hp33 [0, 1] (by decide)), rfl⟩, pEnd_sound good (L := F42_L) (D := F42_D) (its := [.g, (.b true), .g, (.ix id27 off27 g27), (.ld (.agg #[.int .i64 y27.1, .int .i64 y27.2.1, .int .i64 y27.2.2.1, .int .i64 y27.2.2.2])), .g, .g, .g, .g, .g, .g, (.ix id28 off28 g28), (.ld (.int .i64 y28)), .g, .g, .g, .g, .g, .g, .g, .g, (.ix id29 off29 g29), (.ld (.int .i64 y29)), .g, (.b true), .g, .g, .g, .g, (.ix id29 off29 g29), (.mm undef h31), .g, .g, .g, .g, (.ix id32 off32 g32), (.mm undef h33), .g, .g, .g, .g, .g]) (ds := F42_m2_0) (ks := [9]) (e := .normal) (s2 := (F42_h2 l1 v1 l2 v2 v5 a16 h33 y27.2.1 (IntKind.i64.wrap (a22 + 1)) (setI l23 y27.2.1 (IntKind.i64.wrap (y28 + y27.2.2.1))) (setI l24 y27.2.1 a22))) (hC := (And.intro m33 (And.intro ix32 (And.intro m31 (And.intro ix29 (And.intro c30 (And.intro (At.one (P := Try.prog) (t := 3) (v := .int .i64 y29) at29 (by kernel_rfl) 0 rfl rfl) (And.intro ix29 (And.intro (At.one (P := Try.prog) (t := 3) (v := .int .i64 y28) at28 (by kernel_rfl) 0 rfl rfl) (And.intro ix28 (And.intro (At.agg (P := Try.prog) (t := 113) (v := .agg #[.int .i64 y27.1, .int .i64 y27.2.1, .int .i64 y27.2.2.1, .int .i64 y27.2.2.2]) (m := 4) (At.mono (Heapy.sub hp25) at27) (by kernel_rfl) (by kernel_rfl) 0 (by kernel_rfl) rfl) (And.intro ix27 (And.intro c26 trivial))))))))))))) (hd := F42_d2) (h := by kernel_rfl)⟩
    · intro hr
      obtain rfl := Option.some.inj hr
      exact ⟨(F42_h2 l1 v1 l2 v2 v5 a16 h25 a21 (IntKind.i64.wrap (a22 + 1)) l23 l24), ⟨h25, (Heapy.pick hp25 [0, 1] (by decide)), rfl⟩, pEnd_sound good (L := F42_L) (D := F42_D) (its := [.g, (.b true), .g, (.ix id27 off27 g27), (.ld (.agg #[.int .i64 y27.1, .int .i64 y27.2.1, .int .i64 y27.2.2.1, .int .i64 y27.2.2.2])), .g, .g, .g, .g, .g, .g, (.ix id28 off28 g28), (.ld (.int .i64 y28)), .g, .g, .g, .g, .g, .g, .g, .g, (.ix id29 off29 g29), (.ld (.int .i64 y29)), .g, (.b false), .g, .g]) (ds := F42_m2_0) (ks := [9]) (e := .normal) (s2 := (F42_h2 l1 v1 l2 v2 v5 a16 h25 a21 (IntKind.i64.wrap (a22 + 1)) l23 l24)) (hC := (And.intro c30 (And.intro (At.one (P := Try.prog) (t := 3) (v := .int .i64 y29) at29 (by kernel_rfl) 0 rfl rfl) (And.intro ix29 (And.intro (At.one (P := Try.prog) (t := 3) (v := .int .i64 y28) at28 (by kernel_rfl) 0 rfl rfl) (And.intro ix28 (And.intro (At.agg (P := Try.prog) (t := 113) (v := .agg #[.int .i64 y27.1, .int .i64 y27.2.1, .int .i64 y27.2.2.1, .int .i64 y27.2.2.2]) (m := 4) (At.mono (Heapy.sub hp25) at27) (by kernel_rfl) (by kernel_rfl) 0 (by kernel_rfl) rfl) (And.intro ix27 (And.intro c26 trivial))))))))) (hd := F42_d2) (h := by kernel_rfl)⟩
  · intro hr
    obtain rfl := Option.some.inj hr
    refine ⟨(.exit 4), (F42_x2_0 h l1 v1 v2 v5 a16 h25 ((a21, l23, l24) : Int × (List Int) × (List Int))), (by intro hh; cases hh), ?_, pEnd_sound good (L := F42_L) (D := F42_D) (its := [.g, (.b false)]) (ds := F42_m2_1) (ks := []) (e := (.exit 4)) (s2 := (F42_x2_0 h l1 v1 v2 v5 a16 h25 ((a21, l23, l24) : Int × (List Int) × (List Int)))) (hC := (And.intro c26 trivial)) (hd := F42_d2) (h := by kernel_rfl)⟩
    exact ⟨rfl, h25, (Heapy.pick hp25 [0, 1] (by decide)), rfl⟩
theorem F42_l2 (h : AHeap) (l1 : List Int) (v1 : Hd) (l2 : List (Int × Int × Int × Int)) (v2 : Hd) (hv2 : SlE E113 4 h (sv v2) l2) (v5 : Hd) (a16 : Int) (x : Int × Int × (List Int) × (List Int)) (r : Int × (List Int) × (List Int)) (hl : loopO (fun (s : Int × Int × (List Int) × (List Int)) => F42_s2 l2 s.1 s.2.1 s.2.2.1 s.2.2.2) x = some r) (S : AS) (hI : (F42_i2 h l1 v1 l2 v2 v5 a16) x S) : ∃ e S', (F42_x2 h l1 v1 v2 v5 a16) r e S' ∧ AWp Try.prog (.loop (codeOf Try.prog 42 [1, 0, 1, 1, 1, 1, 0, 1, 0, 0, 1, 1, 0, 0, 1, 0, 1, 0, 0])) (Ends1 e S') S :=
  loop_rel (fun x S hI => F42_r2 h l1 v1 l2 v2 hv2 v5 a16 x.1 x.2.1 x.2.2.1 x.2.2.2 S hI) hl hI
def F42_m3_1 : List Bool := [false, false, true, true, true, false, true, false, true, true, true, true, true, true, true, true, true, true, true, true, true, true, true, true, false, false, true, true, true, true, true, true, true, true, true, true, true, true, true, true, true, true, true, true, true, true, true, true, true, true, true, true, true, true, true, true, true, true, true, true, true, true, true, true, true, true, true, true, true, true, true]
def F42_m3_0 : List Bool := [false, false, true, true, true, false, true, false, true, true, true, true, true, true, true, true, true, true, true, true, true, true, true, true, true, true, true, true, true, true, true, true, true, true, true, true, true, true, true, true, true, true, true, true, true, true, true, true, true, true, true, true, true, true, true, true, true, true, true, true, true, true, true, true, true, true, true, true, true, true, true]
def F42_s3 (l1 : List Int) (l2 : List (Int × Int × Int × Int)) (a15 : Int) (a16 : Int) (l17 : List Int) (l18 : List Int) : Option ((Int × Int × (List Int) × (List Int)) ⊕ (Int × (List Int) × (List Int))) :=
  (bif decide (a16 < (l1.length : Int)) then
   (Option.bind (loopO (fun (s : Int × Int × (List Int) × (List Int)) => F42_s2 l2 s.1 s.2.1 s.2.2.1 s.2.2.2) ((-1), 0, l17, l18)) fun y34 =>
   (bif decide (y34.1 < 0) then
    some (.inr (y34.1, y34.2.1, y34.2.2))
   else
    some (.inl (y34.1, (IntKind.i64.wrap (a16 + 1)), y34.2.1, y34.2.2))))
  else
   some (.inr (a15, l17, l18)))
def F42_h3 (l1 : List Int) (v1 : Hd) (v2 : Hd) (v5 : Hd) (h19 : AHeap) (a15 : Int) (a16 : Int) (l17 : List Int) (l18 : List Int) : AS := ⟨[(sv v1), (sv v2), junk, junk, junk, (sv v5), junk, .int .i64 a15, junk, junk, junk, junk, junk, junk, junk, junk, junk, junk, junk, junk, junk, junk, junk, junk, .int .i64 (l1.length : Int), .int .i64 a16, junk, junk, junk, junk, junk, junk, junk, junk, junk, junk, junk, junk, junk, junk, junk, junk, junk, junk, junk, junk, junk, junk, junk, junk, junk, junk, junk, junk, junk, junk, junk, junk, junk, junk, junk, junk, junk, junk, junk, junk, junk, junk, junk, junk, junk], [], h19⟩
theorem F42_d3 : drawsOk F42_D (codeOf Try.prog 42 [1, 0, 1, 1, 1, 1, 0, 1, 0, 0]) = true := by kernel_rfl
def F42_x3_0 (h : AHeap) (v1 : Hd) (v2 : Hd) (v5 : Hd) (hx : AHeap) (r : Int × (List Int) × (List Int)) : AS := ⟨[(sv v1), (sv v2), junk, junk, junk, (sv v5), junk, .int .i64 r.1, junk, junk, junk, junk, junk, junk, junk, junk, junk, junk, junk, junk, junk, junk, junk, junk, junk, junk, junk, junk, junk, junk, junk, junk, junk, junk, junk, junk, junk, junk, junk, junk, junk, junk, junk, junk, junk, junk, junk, junk, junk, junk, junk, junk, junk, junk, junk, junk, junk, junk, junk, junk, junk, junk, junk, junk, junk, junk, junk, junk, junk, junk, junk], [], hx⟩
def F42_i3 (h : AHeap) (l1 : List Int) (v1 : Hd) (v2 : Hd) (v5 : Hd) (s : Int × Int × (List Int) × (List Int)) (S : AS) : Prop := ∃ (h19 : AHeap), Heapy h h19 [⟨v1, 3, 1, List.flatMap enc3 s.2.2.1⟩, ⟨v5, 3, 1, List.flatMap enc3 s.2.2.2⟩] ∧ S = (F42_h3 l1 v1 v2 v5 h19 s.1 s.2.1 s.2.2.1 s.2.2.2)
def F42_x3 (h : AHeap) (v1 : Hd) (v2 : Hd) (v5 : Hd) (r : Int × (List Int) × (List Int)) (e : Exit) (S : AS) : Prop := e = (.exit 2) ∧ ∃ (hx : AHeap), Heapy h hx [⟨v1, 3, 1, List.flatMap enc3 r.2.1⟩, ⟨v5, 3, 1, List.flatMap enc3 r.2.2⟩] ∧ S = (F42_x3_0 h v1 v2 v5 hx r)
set_option maxRecDepth 100000 in
theorem F42_r3 (h : AHeap) (l1 : List Int) (v1 : Hd) (l2 : List (Int × Int × Int × Int)) (v2 : Hd) (hv2 : SlE E113 4 h (sv v2) l2) (v5 : Hd) (a15 : Int) (a16 : Int) (l17 : List Int) (l18 : List Int) (S : AS) (hI : (F42_i3 h l1 v1 v2 v5) (a15, a16, l17, l18) S) (o : (Int × Int × (List Int) × (List Int)) ⊕ (Int × (List Int) × (List Int))) : F42_s3 l1 l2 a15 a16 l17 l18 = some o → Rd Try.prog (codeOf Try.prog 42 [1, 0, 1, 1, 1, 1, 0, 1, 0, 0]) (F42_i3 h l1 v1 v2 v5) (F42_x3 h v1 v2 v5) S o := by
  obtain ⟨h19, hp19, rfl⟩ := hI
  unfold F42_s3
  refine dec_bif (fun c20 => ?_) (fun c20 => ?_)
  · refine bind_opt fun y34 e34 => ?_
    obtain ⟨ee34, SS34, hX34, hA34⟩ := F42_l2 h l1 v1 l2 v2 hv2 v5 a16 ((-1), 0, l17, l18) y34 e34 (F42_h2 l1 v1 l2 v2 v5 a16 h19 (-1) 0 l17 l18) ⟨h19, (Heapy.pick hp19 [0, 1] (by decide)), rfl⟩
    obtain ⟨rfl, h35, hp35, rfl⟩ := hX34
    refine dec_bif (fun c36 => ?_) (fun c36 => ?_)
    · intro hr
      obtain rfl := Option.some.inj hr
      refine ⟨(.exit 2), (F42_x3_0 h v1 v2 v5 h35 ((y34.1, y34.2.1, y34.2.2) : Int × (List Int) × (List Int))), (by intro hh; cases hh), ?_, pEnd_sound good (L := F42_L) (D := F42_D) (its := [.g, (.b true), .g, .g, (.ln l2.length), .g, (.l F42_m2_0 [] (.exit 4) (F42_x2_0 h l1 v1 v2 v5 a16 h35 y34)), .g, .g, (.b true)]) (ds := F42_m3_0) (ks := []) (e := (.exit 2)) (s2 := (F42_x3_0 h v1 v2 v5 h35 ((y34.1, y34.2.1, y34.2.2) : Int × (List Int) × (List Int)))) (hC := (And.intro c36 (And.intro hA34 (And.intro (SlE.len hv2) (And.intro c20 trivial))))) (hd := F42_d3) (h := by kernel_rfl)⟩
      exact ⟨rfl, h35, (Heapy.pick hp35 [0, 1] (by decide)), rfl⟩
    · intro hr
      obtain rfl := Option.some.inj hr
      exact ⟨(F42_h3 l1 v1 v2 v5 h35 y34.1 (IntKind.i64.wrap (a16 + 1)) y34.2.1 y34.2.2), ⟨h35, (Heapy.pick hp35 [0, 1] (by decide)), rfl⟩, pEnd_sound good (L := F42_L) (D := F42_D) (its := [.g, (.b true), .g, .g, (.ln l2.length), .g, (.l F42_m2_0 [] (.exit 4) (F42_x2_0 h l1 v1 v2 v5 a16 h35 y34)), .g, .g, (.b false), .g, .g]) (ds := F42_m3_1) (ks := []) (e := .normal) (s2 := (F42_h3 l1 v1 v2 v5 h35 y34.1 (IntKind.i64.wrap (a16 + 1)) y34.2.1 y34.2.2)) (hC := (And.intro c36 (And.intro hA34 (And.intro (SlE.len hv2) (And.intro c20 trivial))))) (hd := F42_d3) (h := by kernel_rfl)⟩
  · intro hr
    obtain rfl := Option.some.inj hr
    refine ⟨(.exit 2), (F42_x3_0 h v1 v2 v5 h19 ((a15, l17, l18) : Int × (List Int) × (List Int))), (by intro hh; cases hh), ?_, pEnd_sound good (L := F42_L) (D := F42_D) (its := [.g, (.b false)]) (ds := F42_m3_0) (ks := []) (e := (.exit 2)) (s2 := (F42_x3_0 h v1 v2 v5 h19 ((a15, l17, l18) : Int × (List Int) × (List Int)))) (hC := (And.intro c20 trivial)) (hd := F42_d3) (h := by kernel_rfl)⟩
    exact ⟨rfl, h19, (Heapy.pick hp19 [0, 1] (by decide)), rfl⟩
theorem F42_l3 (h : AHeap) (l1 : List Int) (v1 : Hd) (l2 : List (Int × Int × Int × Int)) (v2 : Hd) (hv2 : SlE E113 4 h (sv v2) l2) (v5 : Hd) (x : Int × Int × (List Int) × (List Int)) (r : Int × (List Int) × (List Int)) (hl : loopO (fun (s : Int × Int × (List Int) × (List Int)) => F42_s3 l1 l2 s.1 s.2.1 s.2.2.1 s.2.2.2) x = some r) (S : AS) (hI : (F42_i3 h l1 v1 v2 v5) x S) : ∃ e S', (F42_x3 h v1 v2 v5) r e S' ∧ AWp Try.prog (.loop (codeOf Try.prog 42 [1, 0, 1, 1, 1, 1, 0, 1, 0, 0])) (Ends1 e S') S :=
  loop_rel (fun x S hI => F42_r3 h l1 v1 l2 v2 hv2 v5 x.1 x.2.1 x.2.2.1 x.2.2.2 S hI) hl hI
def F42 (l1 : List Int) (l2 : List (Int × Int × Int × Int)) : Option ((List Int) × (List Int)) :=
  (bif (!(okLen (l1.length : Int) (l1.length : Int) 8)) then none else
  (Option.bind (loopO (fun (s : Int × (List Int)) => F42_s1 l1 s.1 s.2) (0, (List.replicate (l1.length : Int).toNat (0 : Int)))) fun y13 =>
  (Option.bind (loopO (fun (s : Int × Int × (List Int) × (List Int)) => F42_s3 l1 l2 s.1 s.2.1 s.2.2.1 s.2.2.2) ((-1), 0, l1, y13)) fun y37 =>
  (bif decide (y37.1 < 0) then
   some ([], y37.2.1)
  else
   (Option.bind (F91 y37.2.2 l2 y37.1) fun y40 =>
   some (y40, y37.2.1))))))
set_option maxRecDepth 100000 in
theorem F42_spec (l1 : List Int) (l2 : List (Int × Int × Int × Int)) (v1 : Hd) (v2 : Hd) (hi : AHeap) (h : AHeap) (hw : h.wf) (hv2 : SlE E113 4 h (sv v2) l2) (hio : Heapy h hi [⟨v1, 3, 1, List.flatMap enc3 l1⟩]) (r : (List Int) × (List Int)) : F42 l1 l2 = some r → ∃ (ur0 : Hd) (h' : AHeap), Heapy h h' [⟨ur0, 3, 1, List.flatMap enc3 r.1⟩, ⟨v1, 3, 1, List.flatMap enc3 r.2⟩] ∧ Strict ur0 ∧ ACalls Try.prog 42 [(sv v1), (sv v2)] hi (fun v' h'' => v' = ((sv ur0) : Value) ∧ h'' = h') := by
  unfold F42
  refine guard_ok fun g4 => ?_
  obtain ⟨v5, h5, m5, hp5, _⟩ := Heapy.make hio (show mkInfo Try.prog 25 = some (3, 1, 8, [.int .i64 0]) by kernel_rfl) (a := (l1.length : Int)) (b := (l1.length : Int)) (by simpa using g4) (enc := enc3) (x := 0) rfl rfl
  refine bind_opt fun y13 e13 => ?_
  obtain ⟨ee13, SS13, hX13, hA13⟩ := F42_l1 h l1 v1 v2 v5 (0, (List.replicate (l1.length : Int).toNat (0 : Int))) y13 e13 (F42_h1 l1 v1 v2 v5 h5 0 (List.replicate (l1.length : Int).toNat (0 : Int))) ⟨h5, (Heapy.pick hp5 [1, 0] (by decide)), rfl⟩
  obtain ⟨rfl, h14, hp14, rfl⟩ := hX13
  refine bind_opt fun y37 e37 => ?_
  obtain ⟨ee37, SS37, hX37, hA37⟩ := F42_l3 h l1 v1 l2 v2 hv2 v5 ((-1), 0, l1, y13) y37 e37 (F42_h3 l1 v1 v2 v5 h14 (-1) 0 l1 y13) ⟨h14, (Heapy.pick hp14 [0, 1] (by decide)), rfl⟩
  obtain ⟨rfl, h38, hp38, rfl⟩ := hX37
  refine dec_bif (fun c39 => ?_) (fun c39 => ?_)
  · intro hr
    obtain rfl := Option.some.inj hr
    exact ⟨⟨none, 0, 0⟩, h38, Heapy.pick (Heapy.nil hp38 3 1) [0, 1] (by decide), Strict.nil, pFun_sound good tab_ok (f := 42) (its := [.g, .g, (.ln l1.length), (.mm (sv v5) h5), .g, .g, (.ln (List.replicate (l1.length : Int).toNat (0 : Int)).length), .g, (.l F42_m1_0 [] (.exit 0) (F42_x1_0 h l1 v1 v2 v5 h14 y13)), .g, .g, (.ln l1.length), .g, (.l F42_m3_1 [] (.exit 2) (F42_x3_0 h v1 v2 v5 h38 y37)), .g, .g, (.b true), .g]) (args := [(sv v1), (sv v2)]) (h := hi) (h' := h38) (v := .slice none 0 0) (hC := (And.intro c39 (And.intro hA37 (And.intro (SlE.len (Heapy.sle (v := v1) (xs := l1) (enc := enc3) hp14 0 rfl (fun _ => rfl) (by decide))) (And.intro hA13 (And.intro (SlE.len (Heapy.sle (v := v5) (xs := (List.replicate (l1.length : Int).toNat (0 : Int))) (enc := enc3) hp5 0 rfl (fun _ => rfl) (by decide))) (And.intro m5 (And.intro (SlE.len (Heapy.sle (v := v1) (xs := l1) (enc := enc3) hio 0 rfl (fun _ => rfl) (by decide))) trivial)))))))) (hr := by kernel_rfl)⟩
  · refine bind_opt fun y40 e40 => ?_
    obtain ⟨u41_0, h41, q41, zu41_0, c41⟩ := F91_spec y37.2.2 l2 y37.1 v5 v2 h38 (Heapy.wf hp38) (Heapy.sle (v := v5) (xs := y37.2.2) (enc := enc3) hp38 1 rfl (fun _ => rfl) (by decide)) (SlE.mono hv2 (Heapy.sub hp38) (E113_mono (Heapy.sub hp38))) _ e40
    have hp41 : Heapy h h41 [⟨u41_0, 3, 1, List.flatMap enc3 y40⟩, ⟨v1, 3, 1, List.flatMap enc3 y37.2.1⟩, ⟨v5, 3, 1, List.flatMap enc3 y37.2.2⟩] := Heapy.call hp38 q41
    intro hr
    obtain rfl := Option.some.inj hr
    exact ⟨u41_0, h41, Heapy.pick hp41 [0, 1] (by decide), zu41_0, pFun_sound good tab_ok (f := 42) (its := [.g, .g, (.ln l1.length), (.mm (sv v5) h5), .g, .g, (.ln (List.replicate (l1.length : Int).toNat (0 : Int)).length), .g, (.l F42_m1_0 [] (.exit 0) (F42_x1_0 h l1 v1 v2 v5 h14 y13)), .g, .g, (.ln l1.length), .g, (.l F42_m3_1 [] (.exit 2) (F42_x3_0 h v1 v2 v5 h38 y37)), .g, .g, (.b false), .g, .g, .g, (.c ((sv u41_0)) h41), .g]) (args := [(sv v1), (sv v2)]) (h := hi) (h' := h41) (v := (sv u41_0)) (hC := (And.intro c41 (And.intro c39 (And.intro hA37 (And.intro (SlE.len (Heapy.sle (v := v1) (xs := l1) (enc := enc3) hp14 0 rfl (fun _ => rfl) (by decide))) (And.intro hA13 (And.intro (SlE.len (Heapy.sle (v := v5) (xs := (List.replicate (l1.length : Int).toNat (0 : Int))) (enc := enc3) hp5 0 rfl (fun _ => rfl) (by decide))) (And.intro m5 (And.intro (SlE.len (Heapy.sle (v := v1) (xs := l1) (enc := enc3) hio 0 rfl (fun _ => rfl) (by decide))) trivial))))))))) (hr := by kernel_rfl)⟩
/-! 12 jacquard/diffcons.Latest -/
def F12_L : List Nat := []
def F12_D : List (Nat × List (Nat × Nat)) := []
def F12_m1_1 : List Bool := [true, true, true, true, true, true, true, true, false, true, false, true, true, true, true, true, true, true, true, true, true, true, true, true, true, true, true, true, true, true, true, true, true, true, true, true, true, true, true, true, true, true, true, true, true, true, true, true, true, true, true, true, true, true, true, true, true]
def F12_m1_0 : List Bool := [true, true, true, false, true, true, true, true, false, true, false, true, true, true, true, true, true, true, true, true, true, true, false, false, true, true, true, true, true, true, true, true, true, true, true, true, true, true, true, true, true, true, true, true, true, true, true, true, true, true, true, true, true, true, true, true, true]
def F12_s1 (x1 : Int) (l4 : List Int) (a12 : Int) (l13 : List Int) : Option ((Int × (List Int)) ⊕ (List Int)) :=
  (bif decide (a12 < ((List.replicate (F39 x1).toNat (0 : Int)).length : Int)) then
   (Option.bind (F41 l4 a12) fun y16 =>
   (Option.bind (at? l13 a12) fun y18 =>
   some (.inl ((IntKind.i64.wrap (a12 + 1)), (setI l13 a12 (IntKind.i64.wrap (0 - y16)))))))
  else
   some (.inr l13))
def F12_h1 (x1 : Int) (v4 : Hd) (u7_0 : Hd) (v10 : Hd) (h14 : AHeap) (a12 : Int) (l13 : List Int) : AS := ⟨[junk, junk, junk, (sv v4), junk, junk, junk, junk, (sv v10), junk, (sv u7_0), junk, junk, junk, junk, junk, junk, junk, junk, junk, junk, junk, .int .i64 ((List.replicate (F39 x1).toNat (0 : Int)).length : Int), .int .i64 a12, junk, junk, junk, junk, junk, junk, junk, junk, junk, junk, junk, junk, junk, junk, junk, junk, junk, junk, junk, junk, junk, junk, junk, junk, junk, junk, junk, junk, junk, junk, junk, junk, junk], [], h14⟩
theorem F12_d1 : drawsOk F12_D (codeOf Try.prog 12 [1, 1, 1, 1, 0, 1, 0, 0]) = true := by kernel_rfl
def F12_x1_0 (h : AHeap) (y6 : (List (Int × Int × Int × Int))) (u7_0 : Hd) (v10 : Hd) (hx : AHeap) (r : (List Int)) : AS := ⟨[junk, junk, junk, junk, junk, junk, junk, junk, (sv v10), junk, (sv u7_0), junk, junk, junk, junk, junk, junk, junk, junk, junk, junk, junk, junk, junk, junk, junk, junk, junk, junk, junk, junk, junk, junk, junk, junk, junk, junk, junk, junk, junk, junk, junk, junk, junk, junk, junk, junk, junk, junk, junk, junk, junk, junk, junk, junk, junk, junk], [], hx⟩
def F12_i1 (h : AHeap) (x1 : Int) (v4 : Hd) (y6 : (List (Int × Int × Int × Int))) (u7_0 : Hd) (v10 : Hd) (s : Int × (List Int)) (S : AS) : Prop := ∃ (h14 : AHeap), Heapy h h14 [⟨v10, 3, 1, List.flatMap enc3 s.2⟩, ⟨u7_0, 113, 4, List.flatMap enc113 y6⟩] ∧ S = (F12_h1 x1 v4 u7_0 v10 h14 s.1 s.2)
def F12_x1 (h : AHeap) (y6 : (List (Int × Int × Int × Int))) (u7_0 : Hd) (v10 : Hd) (r : (List Int)) (e : Exit) (S : AS) : Prop := e = (.exit 0) ∧ ∃ (hx : AHeap), Heapy h hx [⟨v10, 3, 1, List.flatMap enc3 r⟩, ⟨u7_0, 113, 4, List.flatMap enc113 y6⟩] ∧ S = (F12_x1_0 h y6 u7_0 v10 hx r)
set_option maxRecDepth 100000 in
theorem F12_r1 (h : AHeap) (x1 : Int) (l4 : List Int) (v4 : Hd) (hv4 : SlE E3 1 h (sv v4) l4) (y6 : (List (Int × Int × Int × Int))) (u7_0 : Hd) (v10 : Hd) (a12 : Int) (l13 : List Int) (S : AS) (hI : (F12_i1 h x1 v4 y6 u7_0 v10) (a12, l13) S) (o : (Int × (List Int)) ⊕ (List Int)) : F12_s1 x1 l4 a12 l13 = some o → Rd Try.prog (codeOf Try.prog 12 [1, 1, 1, 1, 0, 1, 0, 0]) (F12_i1 h x1 v4 y6 u7_0 v10) (F12_x1 h y6 u7_0 v10) S o := by
  obtain ⟨h14, hp14, rfl⟩ := hI
  unfold F12_s1
  refine dec_bif (fun c15 => ?_) (fun c15 => ?_)
  · refine bind_opt fun y16 e16 => ?_
    refine bind_opt fun y18 e18 => ?_
    obtain ⟨id18, off18, g18, cs18, ix18, at18, rfl⟩ := SlE.at (Heapy.sle (v := v10) (xs := l13) (enc := enc3) hp14 0 rfl (fun _ => rfl) (by decide)) e18
    obtain ⟨h19, m19, hp19⟩ := Heapy.store (P := Try.prog) hp14 0 (v := v10) (xs := l13) (enc := enc3) rfl (fun _ => rfl) e18 (y' := (IntKind.i64.wrap (0 - y16))) ix18 (t := 3) (x := .int .i64 (IntKind.i64.wrap (0 - y16))) 0 (vs := [.int .i64 (IntKind.i64.wrap (0 - y16))]) rfl (by kernel_rfl) rfl rfl rfl rfl
    intro hr
    obtain rfl := Option.some.inj hr
    exact ⟨(F12_h1 x1 v4 u7_0 v10 h19 (IntKind.i64.wrap (a12 + 1)) (setI l13 a12 (IntKind.i64.wrap (0 - y16)))), ⟨h19, (Heapy.pick hp19 [0, 1] (by decide)), rfl⟩, pEnd_sound good (L := F12_L) (D := F12_D) (its := [.g, (.b true), .g, .g, .g, .g, .g, .g, (.c (.int .i64 y16) h14), .g, (.ix id18 off18 g18), (.mm undef h19), .g, .g]) (ds := F12_m1_0) (ks := []) (e := .normal) (s2 := (F12_h1 x1 v4 u7_0 v10 h19 (IntKind.i64.wrap (a12 + 1)) (setI l13 a12 (IntKind.i64.wrap (0 - y16))))) (hC := (And.intro m19 (And.intro ix18 (And.intro (F41_spec l4 a12 v4 h14 (SlE.mono hv4 (Heapy.sub hp14) (E3_mono (Heapy.sub hp14))) _ e16) (And.intro c15 trivial))))) (hd := F12_d1) (h := by kernel_rfl)⟩
  · intro hr
    obtain rfl := Option.some.inj hr
    refine ⟨(.exit 0), (F12_x1_0 h y6 u7_0 v10 h14 (l13 : (List Int))), (by intro hh; cases hh), ?_, pEnd_sound good (L := F12_L) (D := F12_D) (its := [.g, (.b false)]) (ds := F12_m1_1) (ks := []) (e := (.exit 0)) (s2 := (F12_x1_0 h y6 u7_0 v10 h14 (l13 : (List Int)))) (hC := (And.intro c15 trivial)) (hd := F12_d1) (h := by kernel_rfl)⟩
    exact ⟨rfl, h14, (Heapy.pick hp14 [0, 1] (by decide)), rfl⟩
theorem F12_l1 (h : AHeap) (x1 : Int) (l4 : List Int) (v4 : Hd) (hv4 : SlE E3 1 h (sv v4) l4) (y6 : (List (Int × Int × Int × Int))) (u7_0 : Hd) (v10 : Hd) (x : Int × (List Int)) (r : (List Int)) (hl : loopO (fun (s : Int × (List Int)) => F12_s1 x1 l4 s.1 s.2) x = some r) (S : AS) (hI : (F12_i1 h x1 v4 y6 u7_0 v10) x S) : ∃ e S', (F12_x1 h y6 u7_0 v10) r e S' ∧ AWp Try.prog (.loop (codeOf Try.prog 12 [1, 1, 1, 1, 0, 1, 0, 0])) (Ends1 e S') S :=
  loop_rel (fun x S hI => F12_r1 h x1 l4 v4 hv4 y6 u7_0 v10 x.1 x.2 S hI) hl hI
def F12_m2_1 : List Bool := [true, true, true, true, true, true, true, true, false, true, true, true, true, true, true, true, true, true, true, true, true, true, true, true, true, true, true, true, true, true, true, true, true, true, true, true, true, true, true, true, true, true, true, true, true, true, true, true, true, true, true, true, true, true, true, true, true]
def F12_m2_0 : List Bool := [true, true, true, true, true, true, true, true, false, true, true, true, true, true, true, true, true, true, true, true, true, true, true, true, true, true, true, true, true, true, true, true, true, true, true, true, true, true, true, true, true, true, true, false, false, true, true, true, true, true, true, true, true, true, true, true, true]
def F12_s2 (y23 : (List Int) × (List Int)) (a30 : Int) (l31 : List Int) : Option ((Int × (List Int)) ⊕ (List Int)) :=
  (bif decide (a30 < (y23.2.length : Int)) then
   (Option.bind (at? l31 a30) fun y34 =>
   some (.inl ((IntKind.i64.wrap (a30 + 1)), (setI l31 a30 (IntKind.i64.wrap (0 - y34))))))
  else
   some (.inr l31))
def F12_h2 (v10 : Hd) (y23 : (List Int) × (List Int)) (h32 : AHeap) (a30 : Int) (l31 : List Int) : AS := ⟨[junk, junk, junk, junk, junk, junk, junk, junk, (sv v10), junk, junk, junk, junk, junk, junk, junk, junk, junk, junk, junk, junk, junk, junk, junk, junk, junk, junk, junk, junk, junk, junk, junk, junk, junk, junk, junk, junk, junk, junk, junk, junk, junk, junk, .int .i64 (y23.2.length : Int), .int .i64 a30, junk, junk, junk, junk, junk, junk, junk, junk, junk, junk, junk, junk], [], h32⟩
theorem F12_d2 : drawsOk F12_D (codeOf Try.prog 12 [1, 1, 1, 1, 1, 1, 0, 1, 0, 0]) = true := by kernel_rfl
def F12_x2_0 (h : AHeap) (v10 : Hd) (hx : AHeap) (r : (List Int)) : AS := ⟨[junk, junk, junk, junk, junk, junk, junk, junk, (sv v10), junk, junk, junk, junk, junk, junk, junk, junk, junk, junk, junk, junk, junk, junk, junk, junk, junk, junk, junk, junk, junk, junk, junk, junk, junk, junk, junk, junk, junk, junk, junk, junk, junk, junk, junk, junk, junk, junk, junk, junk, junk, junk, junk, junk, junk, junk, junk, junk], [], hx⟩
def F12_i2 (h : AHeap) (v10 : Hd) (y23 : (List Int) × (List Int)) (s : Int × (List Int)) (S : AS) : Prop := ∃ (h32 : AHeap), Heapy h h32 [⟨v10, 3, 1, List.flatMap enc3 s.2⟩] ∧ S = (F12_h2 v10 y23 h32 s.1 s.2)
def F12_x2 (h : AHeap) (v10 : Hd) (r : (List Int)) (e : Exit) (S : AS) : Prop := e = (.exit 2) ∧ ∃ (hx : AHeap), Heapy h hx [⟨v10, 3, 1, List.flatMap enc3 r⟩] ∧ S = (F12_x2_0 h v10 hx r)
set_option maxRecDepth 100000 in
theorem F12_r2 (h : AHeap) (v10 : Hd) (y23 : (List Int) × (List Int)) (a30 : Int) (l31 : List Int) (S : AS) (hI : (F12_i2 h v10 y23) (a30, l31) S) (o : (Int × (List Int)) ⊕ (List Int)) : F12_s2 y23 a30 l31 = some o → Rd Try.prog (codeOf Try.prog 12 [1, 1, 1, 1, 1, 1, 0, 1, 0, 0]) (F12_i2 h v10 y23) (F12_x2 h v10) S o := by
  obtain ⟨h32, hp32, rfl⟩ := hI
  unfold F12_s2
  refine dec_bif (fun c33 => ?_) (fun c33 => ?_)
  · refine bind_opt fun y34 e34 => ?_
    obtain ⟨id34, off34, g34, cs34, ix34, at34, rfl⟩ := SlE.at (Heapy.sle (v := v10) (xs := l31) (enc := enc3) hp32 0 rfl (fun _ => rfl) (by decide)) e34
    obtain ⟨h35, m35, hp35⟩ := Heapy.store (P := Try.prog) hp32 0 (v := v10) (xs := l31) (enc := enc3) rfl (fun _ => rfl) e34 (y' := (IntKind.i64.wrap (0 - y34))) ix34 (t := 3) (x := .int .i64 (IntKind.i64.wrap (0 - y34))) 0 (vs := [.int .i64 (IntKind.i64.wrap (0 - y34))]) rfl (by kernel_rfl) rfl rfl rfl rfl
    intro hr
    obtain rfl := Option.some.inj hr
    exact ⟨(F12_h2 v10 y23 h35 (IntKind.i64.wrap (a30 + 1)) (setI l31 a30 (IntKind.i64.wrap (0 - y34)))), ⟨h35, (Heapy.pick hp35 [0] (by decide)), rfl⟩, pEnd_sound good (L := F12_L) (D := F12_D) (its := [.g, (.b true), .g, .g, .g, .g, .g, .g, (.ix id34 off34 g34), (.ld (.int .i64 y34)), .g, (.ix id34 off34 g34), (.mm undef h35), .g, .g]) (ds := F12_m2_0) (ks := []) (e := .normal) (s2 := (F12_h2 v10 y23 h35 (IntKind.i64.wrap (a30 + 1)) (setI l31 a30 (IntKind.i64.wrap (0 - y34))))) (hC := (And.intro m35 (And.intro ix34 (And.intro (At.one (P := Try.prog) (t := 3) (v := .int .i64 y34) at34 (by kernel_rfl) 0 rfl rfl) (And.intro ix34 (And.intro c33 trivial)))))) (hd := F12_d2) (h := by kernel_rfl)⟩
  · intro hr
    obtain rfl := Option.some.inj hr
    refine ⟨(.exit 2), (F12_x2_0 h v10 h32 (l31 : (List Int))), (by intro hh; cases hh), ?_, pEnd_sound good (L := F12_L) (D := F12_D) (its := [.g, (.b false)]) (ds := F12_m2_1) (ks := []) (e := (.exit 2)) (s2 := (F12_x2_0 h v10 h32 (l31 : (List Int)))) (hC := (And.intro c33 trivial)) (hd := F12_d2) (h := by kernel_rfl)⟩
    exact ⟨rfl, h32, (Heapy.pick hp32 [0] (by decide)), rfl⟩
theorem F12_l2 (h : AHeap) (v10 : Hd) (y23 : (List Int) × (List Int)) (x : Int × (List Int)) (r : (List Int)) (hl : loopO (fun (s : Int × (List Int)) => F12_s2 y23 s.1 s.2) x = some r) (S : AS) (hI : (F12_i2 h v10 y23) x S) : ∃ e S', (F12_x2 h v10) r e S' ∧ AWp Try.prog (.loop (codeOf Try.prog 12 [1, 1, 1, 1, 1, 1, 0, 1, 0, 0])) (Ends1 e S') S :=
  loop_rel (fun x S hI => F12_r2 h v10 y23 x.1 x.2 S hI) hl hI
def F12 (x1 : Int) (l2 : List (Int × Int × Int × Int)) (x3 : Int) (l4 : List Int) : Option ((List Int) × (List Int)) :=
  (Option.bind (F40 (F39 x1) l2 x3 true) fun y6 =>
  (bif (!(okLen (F39 x1) (F39 x1) 8)) then none else
  (Option.bind (loopO (fun (s : Int × (List Int)) => F12_s1 x1 l4 s.1 s.2) (0, (List.replicate (F39 x1).toNat (0 : Int)))) fun y20 =>
  (Option.bind (F42 y20 y6) fun y23 =>
  (bif (!y23.1.isEmpty) then
   (Option.bind (F43 y23.1) fun y28 =>
   some ([], y28))
  else
   (Option.bind (loopO (fun (s : Int × (List Int)) => F12_s2 y23 s.1 s.2) (0, y23.2)) fun y36 =>
   some (y36, [])))))))
set_option maxRecDepth 100000 in
theorem F12_spec (x1 : Int) (l2 : List (Int × Int × Int × Int)) (x3 : Int) (l4 : List Int) (v2 : Hd) (v4 : Hd) (h : AHeap) (hw : h.wf) (hv2 : SlE E29 4 h (sv v2) l2) (hv4 : SlE E3 1 h (sv v4) l4) (r : (List Int) × (List Int)) : F12 x1 l2 x3 l4 = some r → ∃ (ur0 : Hd) (ur1 : Hd) (h' : AHeap), Heapy h h' [⟨ur0, 3, 1, List.flatMap enc3 r.1⟩, ⟨ur1, 3, 1, List.flatMap enc3 r.2⟩] ∧ Strict ur1 ∧ ACalls Try.prog 12 [.int .i64 x1, (sv v2), .int .i64 x3, (sv v4)] h (fun v' h'' => v' = (.tuple #[(sv ur0), (sv ur1)] : Value) ∧ h'' = h') := by
  unfold F12
  refine bind_opt fun y6 e6 => ?_
  obtain ⟨u7_0, h7, q7, zu7_0, c7⟩ := F40_spec (F39 x1) l2 x3 true v2 h hw hv2 _ e6
  have hp7 : Heapy h h7 [⟨u7_0, 113, 4, List.flatMap enc113 y6⟩] := Heapy.call (Heapy.refl hw) q7
  refine guard_ok fun g9 => ?_
  obtain ⟨v10, h10, m10, hp10, _⟩ := Heapy.make hp7 (show mkInfo Try.prog 25 = some (3, 1, 8, [.int .i64 0]) by kernel_rfl) (a := (F39 x1)) (b := (F39 x1)) (by simpa using g9) (enc := enc3) (x := 0) rfl rfl
  refine bind_opt fun y20 e20 => ?_
  obtain ⟨ee20, SS20, hX20, hA20⟩ := F12_l1 h x1 l4 v4 hv4 y6 u7_0 v10 (0, (List.replicate (F39 x1).toNat (0 : Int))) y20 e20 (F12_h1 x1 v4 u7_0 v10 h10 0 (List.replicate (F39 x1).toNat (0 : Int))) ⟨h10, (Heapy.pick hp10 [0, 1] (by decide)), rfl⟩
  obtain ⟨rfl, h21, hp21, rfl⟩ := hX20
  refine bind_opt fun y23 e23 => ?_
  obtain ⟨b22, pb22, ob22, jb22⟩ := Heapy.io hp21 0 (s := ⟨v10, 3, 1, List.flatMap enc3 y20⟩) rfl
  obtain ⟨u24_0, h24, q24, zu24_0, c24⟩ := F42_spec y20 y6 v10 u7_0 h21 b22 (Heapy.wf ob22) (Heapy.sle (v := u7_0) (xs := y6) (enc := enc113) ob22 0 rfl (fun _ => rfl) (by decide)) pb22 _ e23
  have hp24 : Heapy h h24 [⟨u24_0, 3, 1, List.flatMap enc3 y23.1⟩, ⟨v10, 3, 1, List.flatMap enc3 y23.2⟩, ⟨u7_0, 113, 4, List.flatMap enc113 y6⟩] := jb22 (r := [⟨u24_0, 3, 1, List.flatMap enc3 y23.1⟩]) (s' := ⟨v10, 3, 1, List.flatMap enc3 y23.2⟩) q24
  refine dec_bif (fun c26 => ?_) (fun c26 => ?_)
  · refine bind_opt fun y28 e28 => ?_
    obtain ⟨b27, pb27, ob27, jb27⟩ := Heapy.io hp24 0 (s := ⟨u24_0, 3, 1, List.flatMap enc3 y23.1⟩) rfl
    obtain ⟨h29, q29, c29⟩ := F43_spec y23.1 u24_0 h24 b27 (Heapy.wf ob27) pb27 _ e28
    have hp29 : Heapy h h29 [⟨u24_0, 3, 1, List.flatMap enc3 y28⟩, ⟨v10, 3, 1, List.flatMap enc3 y23.2⟩, ⟨u7_0, 113, 4, List.flatMap enc113 y6⟩] := jb27 (r := []) (s' := ⟨u24_0, 3, 1, List.flatMap enc3 y28⟩) q29
    intro hr
    obtain rfl := Option.some.inj hr
    exact ⟨⟨none, 0, 0⟩, u24_0, h29, Heapy.pick (Heapy.nil hp29 3 1) [0, 1] (by decide), zu24_0, pFun_sound good tab_ok (f := 12) (its := [.g, .g, .g, (.c (.int .i64 (F39 x1)) h), .g, .g, .g, .g, (.c ((sv u7_0)) h7), .g, .g, (.mm (sv v10) h10), .g, .g, (.ln (List.replicate (F39 x1).toNat (0 : Int)).length), .g, (.l F12_m1_0 [] (.exit 0) (F12_x1_0 h y6 u7_0 v10 h21 y20)), .g, .g, (.c ((sv u24_0)) h24), .g, .g, (.nl y23.1.isEmpty), (.b true), .g, (.c (.tuple #[]) h29), .g, .g, .g]) (args := [.int .i64 x1, (sv v2), .int .i64 x3, (sv v4)]) (h := h) (h' := h29) (v := .tuple #[.slice none 0 0, (sv u24_0)]) (hC := (And.intro c29 (And.intro c26 (And.intro (Heapy.nilE (v := u24_0) (xs := y23.1) (enc := enc3) hp24 0 rfl (fun _ => rfl) (by decide) zu24_0) (And.intro c24 (And.intro hA20 (And.intro (SlE.len (Heapy.sle (v := v10) (xs := (List.replicate (F39 x1).toNat (0 : Int))) (enc := enc3) hp10 0 rfl (fun _ => rfl) (by decide))) (And.intro m10 (And.intro c7 (And.intro (F39_spec x1 h _ rfl) trivial)))))))))) (hr := by kernel_rfl)⟩
  · refine bind_opt fun y36 e36 => ?_
    obtain ⟨ee36, SS36, hX36, hA36⟩ := F12_l2 h v10 y23 (0, y23.2) y36 e36 (F12_h2 v10 y23 h24 0 y23.2) ⟨h24, (Heapy.pick hp24 [1] (by decide)), rfl⟩
    obtain ⟨rfl, h37, hp37, rfl⟩ := hX36
    intro hr
    obtain rfl := Option.some.inj hr
    exact ⟨v10, ⟨none, 0, 0⟩, h37, Heapy.pick (Heapy.nil hp37 3 1) [1, 0] (by decide), Strict.nil, pFun_sound good tab_ok (f := 12) (its := [.g, .g, .g, (.c (.int .i64 (F39 x1)) h), .g, .g, .g, .g, (.c ((sv u7_0)) h7), .g, .g, (.mm (sv v10) h10), .g, .g, (.ln (List.replicate (F39 x1).toNat (0 : Int)).length), .g, (.l F12_m1_0 [] (.exit 0) (F12_x1_0 h y6 u7_0 v10 h21 y20)), .g, .g, (.c ((sv u24_0)) h24), .g, .g, (.nl y23.1.isEmpty), (.b false), .g, (.ln y23.2.length), .g, (.l F12_m2_0 [] (.exit 2) (F12_x2_0 h v10 h37 y36)), .g, .g, .g]) (args := [.int .i64 x1, (sv v2), .int .i64 x3, (sv v4)]) (h := h) (h' := h37) (v := .tuple #[(sv v10), .slice none 0 0]) (hC := (And.intro hA36 (And.intro (SlE.len (Heapy.sle (v := v10) (xs := y23.2) (enc := enc3) hp24 1 rfl (fun _ => rfl) (by decide))) (And.intro c26 (And.intro (Heapy.nilE (v := u24_0) (xs := y23.1) (enc := enc3) hp24 0 rfl (fun _ => rfl) (by decide) zu24_0) (And.intro c24 (And.intro hA20 (And.intro (SlE.len (Heapy.sle (v := v10) (xs := (List.replicate (F39 x1).toNat (0 : Int))) (enc := enc3) hp10 0 rfl (fun _ => rfl) (by decide))) (And.intro m10 (And.intro c7 (And.intro (F39_spec x1 h _ rfl) trivial))))))))))) (hr := by kernel_rfl)⟩
/-! 13 jacquard/diffcons.After -/
def F13_L : List Nat := []
def F13_D : List (Nat × List (Nat × Nat)) := []
def F13_m1_1 : List Bool := [true, true, true, true, true, true, true, true, false, true, false, true, true, true, true, true, true, true, true, true, true, true, true, true, true, true, true, true, true, true, true, true, true, true, true, true, true, true, true]
def F13_m1_0 : List Bool := [true, true, true, false, true, true, true, true, false, true, false, true, true, true, true, true, true, true, true, true, true, false, false, true, true, true, true, true, true, true, true, true, true, true, true, true, true, true, true]
def F13_s1 (x1 : Int) (l4 : List Int) (a12 : Int) (l13 : List Int) : Option ((Int × (List Int)) ⊕ (List Int)) :=
  (bif decide (a12 < ((List.replicate (F39 x1).toNat (0 : Int)).length : Int)) then
   (Option.bind (F41 l4 a12) fun y16 =>
   (Option.bind (at? l13 a12) fun y18 =>
   some (.inl ((IntKind.i64.wrap (a12 + 1)), (setI l13 a12 y16)))))
  else
   some (.inr l13))
def F13_h1 (x1 : Int) (v4 : Hd) (u7_0 : Hd) (v10 : Hd) (h14 : AHeap) (a12 : Int) (l13 : List Int) : AS := ⟨[junk, junk, junk, (sv v4), junk, junk, junk, junk, (sv v10), junk, (sv u7_0), junk, junk, junk, junk, junk, junk, junk, junk, junk, junk, .int .i64 ((List.replicate (F39 x1).toNat (0 : Int)).length : Int), .int .i64 a12, junk, junk, junk, junk, junk, junk, junk, junk, junk, junk, junk, junk, junk, junk, junk, junk], [], h14⟩
theorem F13_d1 : drawsOk F13_D (codeOf Try.prog 13 [1, 1, 1, 1, 0, 1, 0, 0]) = true := by kernel_rfl
def F13_x1_0 (h : AHeap) (y6 : (List (Int × Int × Int × Int))) (u7_0 : Hd) (v10 : Hd) (hx : AHeap) (r : (List Int)) : AS := ⟨[junk, junk, junk, junk, junk, junk, junk, junk, (sv v10), junk, (sv u7_0), junk, junk, junk, junk, junk, junk, junk, junk, junk, junk, junk, junk, junk, junk, junk, junk, junk, junk, junk, junk, junk, junk, junk, junk, junk, junk, junk, junk], [], hx⟩
def F13_i1 (h : AHeap) (x1 : Int) (v4 : Hd) (y6 : (List (Int × Int × Int × Int))) (u7_0 : Hd) (v10 : Hd) (s : Int × (List Int)) (S : AS) : Prop := ∃ (h14 : AHeap), Heapy h h14 [⟨v10, 3, 1, List.flatMap enc3 s.2⟩, ⟨u7_0, 113, 4, List.flatMap enc113 y6⟩] ∧ S = (F13_h1 x1 v4 u7_0 v10 h14 s.1 s.2)
def F13_x1 (h : AHeap) (y6 : (List (Int × Int × Int × Int))) (u7_0 : Hd) (v10 : Hd) (r : (List Int)) (e : Exit) (S : AS) : Prop := e = (.exit 0) ∧ ∃ (hx : AHeap), Heapy h hx [⟨v10, 3, 1, List.flatMap enc3 r⟩, ⟨u7_0, 113, 4, List.flatMap enc113 y6⟩] ∧ S = (F13_x1_0 h y6 u7_0 v10 hx r)
set_option maxRecDepth 100000 in
theorem F13_r1 (h : AHeap) (x1 : Int) (l4 : List Int) (v4 : Hd) (hv4 : SlE E3 1 h (sv v4) l4) (y6 : (List (Int × Int × Int × Int))) (u7_0 : Hd) (v10 : Hd) (a12 : Int) (l13 : List Int) (S : AS) (hI : (F13_i1 h x1 v4 y6 u7_0 v10) (a12, l13) S) (o : (Int × (List Int)) ⊕ (List Int)) : F13_s1 x1 l4 a12 l13 = some o → Rd Try.prog (codeOf Try.prog 13 [1, 1, 1, 1, 0, 1, 0, 0]) (F13_i1 h x1 v4 y6 u7_0 v10) (F13_x1 h y6 u7_0 v10) S o := by
  obtain ⟨h14, hp14, rfl⟩ := hI
  unfold F13_s1
  refine dec_bif (fun c15 => ?_) (fun c15 => ?_)
  · refine bind_opt fun y16 e16 => ?_
    refine bind_opt fun y18 e18 => ?_
    obtain ⟨id18, off18, g18, cs18, ix18, at18, rfl⟩ := SlE.at (Heapy.sle (v := v10) (xs := l13) (enc := enc3) hp14 0 rfl (fun _ => rfl) (by decide)) e18
    obtain ⟨h19, m19, hp19⟩ := Heapy.store (P := Try.prog) hp14 0 (v := v10) (xs := l13) (enc := enc3) rfl (fun _ => rfl) e18 (y' := y16) ix18 (t := 3) (x := .int .i64 y16) 0 (vs := [.int .i64 y16]) rfl (by kernel_rfl) rfl rfl rfl rfl
    intro hr
    obtain rfl := Option.some.inj hr
    exact ⟨(F13_h1 x1 v4 u7_0 v10 h19 (IntKind.i64.wrap (a12 + 1)) (setI l13 a12 y16)), ⟨h19, (Heapy.pick hp19 [0, 1] (by decide)), rfl⟩, pEnd_sound good (L := F13_L) (D := F13_D) (its := [.g, (.b true), .g, .g, .g, .g, .g, .g, (.c (.int .i64 y16) h14), (.ix id18 off18 g18), (.mm undef h19), .g, .g]) (ds := F13_m1_0) (ks := []) (e := .normal) (s2 := (F13_h1 x1 v4 u7_0 v10 h19 (IntKind.i64.wrap (a12 + 1)) (setI l13 a12 y16))) (hC := (And.intro m19 (And.intro ix18 (And.intro (F41_spec l4 a12 v4 h14 (SlE.mono hv4 (Heapy.sub hp14) (E3_mono (Heapy.sub hp14))) _ e16) (And.intro c15 trivial))))) (hd := F13_d1) (h := by kernel_rfl)⟩
  · intro hr
    obtain rfl := Option.some.inj hr
    refine ⟨(.exit 0), (F13_x1_0 h y6 u7_0 v10 h14 (l13 : (List Int))), (by intro hh; cases hh), ?_, pEnd_sound good (L := F13_L) (D := F13_D) (its := [.g, (.b false)]) (ds := F13_m1_1) (ks := []) (e := (.exit 0)) (s2 := (F13_x1_0 h y6 u7_0 v10 h14 (l13 : (List Int)))) (hC := (And.intro c15 trivial)) (hd := F13_d1) (h := by kernel_rfl)⟩
    exact ⟨rfl, h14, (Heapy.pick hp14 [0, 1] (by decide)), rfl⟩
theorem F13_l1 (h : AHeap) (x1 : Int) (l4 : List Int) (v4 : Hd) (hv4 : SlE E3 1 h (sv v4) l4) (y6 : (List (Int × Int × Int × Int))) (u7_0 : Hd) (v10 : Hd) (x : Int × (List Int)) (r : (List Int)) (hl : loopO (fun (s : Int × (List Int)) => F13_s1 x1 l4 s.1 s.2) x = some r) (S : AS) (hI : (F13_i1 h x1 v4 y6 u7_0 v10) x S) : ∃ e S', (F13_x1 h y6 u7_0 v10) r e S' ∧ AWp Try.prog (.loop (codeOf Try.prog 13 [1, 1, 1, 1, 0, 1, 0, 0])) (Ends1 e S') S :=
  loop_rel (fun x S hI => F13_r1 h x1 l4 v4 hv4 y6 u7_0 v10 x.1 x.2 S hI) hl hI
def F13 (x1 : Int) (l2 : List (Int × Int × Int × Int)) (x3 : Int) (l4 : List Int) : Option ((List Int) × (List Int)) :=
  (Option.bind (F40 (F39 x1) l2 x3 false) fun y6 =>
  (bif (!(okLen (F39 x1) (F39 x1) 8)) then none else
  (Option.bind (loopO (fun (s : Int × (List Int)) => F13_s1 x1 l4 s.1 s.2) (0, (List.replicate (F39 x1).toNat (0 : Int)))) fun y20 =>
  (Option.bind (F42 y20 y6) fun y23 =>
  (bif (!y23.1.isEmpty) then
   some ([], y23.1)
  else
   some (y23.2, []))))))
set_option maxRecDepth 100000 in
theorem F13_spec (x1 : Int) (l2 : List (Int × Int × Int × Int)) (x3 : Int) (l4 : List Int) (v2 : Hd) (v4 : Hd) (h : AHeap) (hw : h.wf) (hv2 : SlE E29 4 h (sv v2) l2) (hv4 : SlE E3 1 h (sv v4) l4) (r : (List Int) × (List Int)) : F13 x1 l2 x3 l4 = some r → ∃ (ur0 : Hd) (ur1 : Hd) (h' : AHeap), Heapy h h' [⟨ur0, 3, 1, List.flatMap enc3 r.1⟩, ⟨ur1, 3, 1, List.flatMap enc3 r.2⟩] ∧ Strict ur1 ∧ ACalls Try.prog 13 [.int .i64 x1, (sv v2), .int .i64 x3, (sv v4)] h (fun v' h'' => v' = (.tuple #[(sv ur0), (sv ur1)] : Value) ∧ h'' = h') := by
  unfold F13
  refine bind_opt fun y6 e6 => ?_
  obtain ⟨u7_0, h7, q7, zu7_0, c7⟩ := F40_spec (F39 x1) l2 x3 false v2 h hw hv2 _ e6
  have hp7 : Heapy h h7 [⟨u7_0, 113, 4, List.flatMap enc113 y6⟩] := Heapy.call (Heapy.refl hw) q7
  refine guard_ok fun g9 => ?_
  obtain ⟨v10, h10, m10, hp10, _⟩ := Heapy.make hp7 (show mkInfo Try.prog 25 = some (3, 1, 8, [.int .i64 0]) by kernel_rfl) (a := (F39 x1)) (b := (F39 x1)) (by simpa using g9) (enc := enc3) (x := 0) rfl rfl
  refine bind_opt fun y20 e20 => ?_
  obtain ⟨ee20, SS20, hX20, hA20⟩ := F13_l1 h x1 l4 v4 hv4 y6 u7_0 v10 (0, (List.replicate (F39 x1).toNat (0 : Int))) y20 e20 (F13_h1 x1 v4 u7_0 v10 h10 0 (List.replicate (F39 x1).toNat (0 : Int))) ⟨h10, (Heapy.pick hp10 [0, 1] (by decide)), rfl⟩
  obtain ⟨rfl, h21, hp21, rfl⟩ := hX20
  refine bind_opt fun y23 e23 => ?_
  obtain ⟨b22, pb22, ob22, jb22⟩ := Heapy.io hp21 0 (s := ⟨v10, 3, 1, List.flatMap enc3 y20⟩) rfl
  obtain ⟨u24_0, h24, q24, zu24_0, c24⟩ := F42_spec y20 y6 v10 u7_0 h21 b22 (Heapy.wf ob22) (Heapy.sle (v := u7_0) (xs := y6) (enc := enc113) ob22 0 rfl (fun _ => rfl) (by decide)) pb22 _ e23
  have hp24 : Heapy h h24 [⟨u24_0, 3, 1, List.flatMap enc3 y23.1⟩, ⟨v10, 3, 1, List.flatMap enc3 y23.2⟩, ⟨u7_0, 113, 4, List.flatMap enc113 y6⟩] := jb22 (r := [⟨u24_0, 3, 1, List.flatMap enc3 y23.1⟩]) (s' := ⟨v10, 3, 1, List.flatMap enc3 y23.2⟩) q24
  refine dec_bif (fun c26 => ?_) (fun c26 => ?_)
  · intro hr
    obtain rfl := Option.some.inj hr
    exact ⟨⟨none, 0, 0⟩, u24_0, h24, Heapy.pick (Heapy.nil hp24 3 1) [0, 1] (by decide), zu24_0, pFun_sound good tab_ok (f := 13) (its := [.g, .g, .g, (.c (.int .i64 (F39 x1)) h), .g, .g, .g, .g, (.c ((sv u7_0)) h7), .g, .g, (.mm (sv v10) h10), .g, .g, (.ln (List.replicate (F39 x1).toNat (0 : Int)).length), .g, (.l F13_m1_0 [] (.exit 0) (F13_x1_0 h y6 u7_0 v10 h21 y20)), .g, .g, (.c ((sv u24_0)) h24), .g, .g, (.nl y23.1.isEmpty), (.b true), .g, .g, .g]) (args := [.int .i64 x1, (sv v2), .int .i64 x3, (sv v4)]) (h := h) (h' := h24) (v := .tuple #[.slice none 0 0, (sv u24_0)]) (hC := (And.intro c26 (And.intro (Heapy.nilE (v := u24_0) (xs := y23.1) (enc := enc3) hp24 0 rfl (fun _ => rfl) (by decide) zu24_0) (And.intro c24 (And.intro hA20 (And.intro (SlE.len (Heapy.sle (v := v10) (xs := (List.replicate (F39 x1).toNat (0 : Int))) (enc := enc3) hp10 0 rfl (fun _ => rfl) (by decide))) (And.intro m10 (And.intro c7 (And.intro (F39_spec x1 h _ rfl) trivial))))))))) (hr := by kernel_rfl)⟩
  · intro hr
    obtain rfl := Option.some.inj hr
    exact ⟨v10, ⟨none, 0, 0⟩, h24, Heapy.pick (Heapy.nil hp24 3 1) [2, 0] (by decide), Strict.nil, pFun_sound good tab_ok (f := 13) (its := [.g, .g, .g, (.c (.int .i64 (F39 x1)) h), .g, .g, .g, .g, (.c ((sv u7_0)) h7), .g, .g, (.mm (sv v10) h10), .g, .g, (.ln (List.replicate (F39 x1).toNat (0 : Int)).length), .g, (.l F13_m1_0 [] (.exit 0) (F13_x1_0 h y6 u7_0 v10 h21 y20)), .g, .g, (.c ((sv u24_0)) h24), .g, .g, (.nl y23.1.isEmpty), (.b false), .g, .g, .g]) (args := [.int .i64 x1, (sv v2), .int .i64 x3, (sv v4)]) (h := h) (h' := h24) (v := .tuple #[(sv v10), .slice none 0 0]) (hC := (And.intro c26 (And.intro (Heapy.nilE (v := u24_0) (xs := y23.1) (enc := enc3) hp24 0 rfl (fun _ => rfl) (by decide) zu24_0) (And.intro c24 (And.intro hA20 (And.intro (SlE.len (Heapy.sle (v := v10) (xs := (List.replicate (F39 x1).toNat (0 : Int))) (enc := enc3) hp10 0 rfl (fun _ => rfl) (by decide))) (And.intro m10 (And.intro c7 (And.intro (F39_spec x1 h _ rfl) trivial))))))))) (hr := by kernel_rfl)⟩
/-! 3 jacquard/jacquardlaw30.DiffconsTurns -/
def F3_L : List Nat := [2, 7]
def F3_D : List (Nat × List (Nat × Nat)) := [(23, [(0, 2), (1, 2), (2, 2), (3, 2), (4, 2), (5, 2), (6, 2), (7, 2), (8, 2), (9, 2)])]
def F3_m1_1 : List Bool := [true, false, false, true, true, false, true, true, true, true, true, true, true, true, true, true, true, true, true, true, true, true, true, true, true, true, true, true, true, true, true, true, true, true, true, true, true, true, true, true, true, true, true, true, true, true, true, true, true, true, true, true, true, true, true, true, true, true, true, true, true, true, true, true, true, true, true, true, true, true, true, true, true, true, true, true, true, true, true, true, true, true, true, true, true, true, true, true, true, true, true, true, true, true, true, true, true, true, true, true, true, true, true, true, true, true, true, true, true, true, true, true, true, true, true, true]
def F3_m1_0 : List Bool := [true, false, false, true, true, false, true, true, true, true, true, true, true, true, true, true, true, true, true, true, true, true, true, true, true, true, true, true, true, true, false, false, true, true, true, true, true, true, true, true, true, true, true, true, true, true, true, true, true, true, true, true, true, true, true, true, true, true, true, true, true, true, true, true, true, true, true, true, true, true, true, true, true, true, true, true, true, true, true, true, true, true, true, true, true, true, true, true, true, true, true, true, true, true, true, true, true, true, true, true, true, true, true, true, true, true, true, true, true, true, true, true, true, true, true, true]
def F3_s1 (l2 : List (Int × Int × Int × Int)) (a13 : Int) (l14 : List (Int × Int × Int × Int)) : Option ((Int × (List (Int × Int × Int × Int))) ⊕ (List (Int × Int × Int × Int))) :=
  (bif decide (a13 < (l2.length : Int)) then
   (Option.bind (at? l2 a13) fun y17 =>
   (bif (!(okApp (l14.length + ([(y17.2.1, y17.1, y17.2.2.1, y17.2.2.2)] : List (Int × Int × Int × Int)).length) 32)) then none else
   some (.inl ((IntKind.i64.wrap (a13 + 1)), (l14 ++ ([(y17.2.1, y17.1, y17.2.2.1, y17.2.2.2)] : List (Int × Int × Int × Int)))))))
  else
   some (.inr l14))
def F3_h1 (x1 : Int) (l2 : List (Int × Int × Int × Int)) (v2 : Hd) (x3 : Int) (v4 : Hd) (h15 : AHeap) (u14 : Hd) (a13 : Int) (l14 : List (Int × Int × Int × Int)) : AS := ⟨[junk, (sv v4), .pointer (some ⟨2, 0, none⟩), junk, junk, (sv u14), junk, junk, junk, junk, junk, junk, junk, junk, junk, junk, junk, junk, junk, junk, junk, junk, junk, junk, junk, junk, junk, junk, junk, junk, .int .i64 (l2.length : Int), .int .i64 a13, junk, junk, junk, junk, junk, junk, junk, junk, junk, junk, junk, junk, junk, junk, junk, junk, junk, junk, junk, junk, junk, junk, junk, junk, junk, junk, junk, junk, junk, junk, junk, junk, junk, junk, junk, junk, junk, junk, junk, junk, junk, junk, junk, junk, junk, junk, junk, junk, junk, junk, junk, junk, junk, junk, junk, junk, junk, junk, junk, junk, junk, junk, junk, junk, junk, junk, junk, junk, junk, junk, junk, junk, junk, junk, junk, junk, junk, junk, junk, junk, junk, junk, junk, junk], [(2, [.int .i64 x1, (sv v2), .int .i64 x3])], h15⟩
theorem F3_d1 : drawsOk F3_D (codeOf Try.prog 3 [1, 1, 1, 0, 1, 0, 0]) = true := by kernel_rfl
def F3_x1_0 (h : AHeap) (x1 : Int) (v2 : Hd) (x3 : Int) (v4 : Hd) (hx : AHeap) (w0 : Hd) (r : (List (Int × Int × Int × Int))) : AS := ⟨[junk, (sv v4), .pointer (some ⟨2, 0, none⟩), junk, junk, (sv w0), junk, junk, junk, junk, junk, junk, junk, junk, junk, junk, junk, junk, junk, junk, junk, junk, junk, junk, junk, junk, junk, junk, junk, junk, junk, junk, junk, junk, junk, junk, junk, junk, junk, junk, junk, junk, junk, junk, junk, junk, junk, junk, junk, junk, junk, junk, junk, junk, junk, junk, junk, junk, junk, junk, junk, junk, junk, junk, junk, junk, junk, junk, junk, junk, junk, junk, junk, junk, junk, junk, junk, junk, junk, junk, junk, junk, junk, junk, junk, junk, junk, junk, junk, junk, junk, junk, junk, junk, junk, junk, junk, junk, junk, junk, junk, junk, junk, junk, junk, junk, junk, junk, junk, junk, junk, junk, junk, junk, junk, junk], [(2, [.int .i64 x1, (sv v2), .int .i64 x3])], hx⟩
def F3_i1 (h : AHeap) (x1 : Int) (l2 : List (Int × Int × Int × Int)) (v2 : Hd) (x3 : Int) (v4 : Hd) (s : Int × (List (Int × Int × Int × Int))) (S : AS) : Prop := ∃ (h15 : AHeap) (u14 : Hd), Heapy h h15 [⟨u14, 29, 4, List.flatMap enc29 s.2⟩] ∧ Strict u14 ∧ S = (F3_h1 x1 l2 v2 x3 v4 h15 u14 s.1 s.2)
def F3_x1 (h : AHeap) (x1 : Int) (v2 : Hd) (x3 : Int) (v4 : Hd) (r : (List (Int × Int × Int × Int))) (e : Exit) (S : AS) : Prop := e = (.exit 0) ∧ ∃ (hx : AHeap) (w0 : Hd), Heapy h hx [⟨w0, 29, 4, List.flatMap enc29 r⟩] ∧ Strict w0 ∧ S = (F3_x1_0 h x1 v2 x3 v4 hx w0 r)
set_option maxRecDepth 100000 in
theorem F3_r1 (h : AHeap) (x1 : Int) (l2 : List (Int × Int × Int × Int)) (v2 : Hd) (hv2 : SlE E29 4 h (sv v2) l2) (x3 : Int) (v4 : Hd) (a13 : Int) (l14 : List (Int × Int × Int × Int)) (S : AS) (hI : (F3_i1 h x1 l2 v2 x3 v4) (a13, l14) S) (o : (Int × (List (Int × Int × Int × Int))) ⊕ (List (Int × Int × Int × Int))) : F3_s1 l2 a13 l14 = some o → Rd Try.prog (codeOf Try.prog 3 [1, 1, 1, 0, 1, 0, 0]) (F3_i1 h x1 l2 v2 x3 v4) (F3_x1 h x1 v2 x3 v4) S o := by
  obtain ⟨h15, u14, hp15, z14, rfl⟩ := hI
  unfold F3_s1
  refine dec_bif (fun c16 => ?_) (fun c16 => ?_)
  · refine bind_opt fun y17 e17 => ?_
    obtain ⟨id17, off17, g17, cs17, ix17, at17, rfl⟩ := SlE.at hv2 e17
    obtain ⟨v18, h18, m18, hp18, _⟩ := Heapy.build (P := Try.prog) hp15 (t := 22) (e := 29) (len := 1) (n := 4) (parts := [(0, .agg #[.int .i64 y17.2.1, .int .i64 y17.1, .int .i64 y17.2.2.1, .int .i64 y17.2.2.2])]) (cells := List.flatMap enc29 ([(y17.2.1, y17.1, y17.2.2.1, y17.2.2.2)] : List (Int × Int × Int × Int))) (by kernel_rfl) rfl
    refine guard_ok fun g20 => ?_
    obtain ⟨v21, h21, m21, q21, _, w21⟩ := Heapy.append hp18 (show mkInfo Try.prog 22 = some (29, 4, 32, [.int .i64 0, .int .i64 0, .int .i64 0, .int .i64 0]) by kernel_rfl) 1 (v := u14) (cells := List.flatMap enc29 l14) rfl (Y := (sv v18)) (SlE.src (enc := enc29) (c := 4) (Heapy.sle (v := v18) (xs := ([(y17.2.1, y17.1, y17.2.2.1, y17.2.2.2)] : List (Int × Int × Int × Int))) (enc := enc29) hp18 0 rfl (fun _ => rfl) (by decide)) (fun _ => rfl)) (flatMap_length (enc := enc29) (c := 4) (fun _ => rfl) _) (by rw [Heapy.vn (v := u14) (xs := l14) (enc := enc29) hp18 1 rfl (fun _ => rfl) (by decide)]; simpa using g20)
    have z21 : Strict v21 := w21 z14
    have hp21 : Heapy h h21 [⟨v18, 29, 4, List.flatMap enc29 ([(y17.2.1, y17.1, y17.2.2.1, y17.2.2.2)] : List (Int × Int × Int × Int))⟩, ⟨v21, 29, 4, List.flatMap enc29 (l14 ++ ([(y17.2.1, y17.1, y17.2.2.1, y17.2.2.2)] : List (Int × Int × Int × Int)))⟩] := by rw [← List.flatMap_append] at q21; exact q21
    intro hr
    obtain rfl := Option.some.inj hr
    exact ⟨(F3_h1 x1 l2 v2 x3 v4 h21 v21 (IntKind.i64.wrap (a13 + 1)) (l14 ++ ([(y17.2.1, y17.1, y17.2.2.1, y17.2.2.2)] : List (Int × Int × Int × Int)))), ⟨h21, v21, (Heapy.pick hp21 [1] (by decide)), z21, rfl⟩, pEnd_sound good (L := F3_L) (D := F3_D) (its := [.g, (.b true), .g, .g, .g, .g, .g, (.ix id17 off17 g17), (.ld (.agg #[.int .i64 y17.1, .int .i64 y17.2.1, .int .i64 y17.2.2.1, .int .i64 y17.2.2.2])), .g, .g, .g, .g, .g, .g, .g, .g, .g, .g, .g, .g, (.mm (sv v18) h18), (.mm (sv v21) h21), .g, .g, .g]) (ds := F3_m1_0) (ks := [7]) (e := .normal) (s2 := (F3_h1 x1 l2 v2 x3 v4 h21 v21 (IntKind.i64.wrap (a13 + 1)) (l14 ++ ([(y17.2.1, y17.1, y17.2.2.1, y17.2.2.2)] : List (Int × Int × Int × Int))))) (hC := (And.intro m21 (And.intro m18 (And.intro (At.agg (P := Try.prog) (t := 29) (v := .agg #[.int .i64 y17.1, .int .i64 y17.2.1, .int .i64 y17.2.2.1, .int .i64 y17.2.2.2]) (m := 4) (At.mono (Heapy.sub hp15) at17) (by kernel_rfl) (by kernel_rfl) 0 (by kernel_rfl) rfl) (And.intro ix17 (And.intro c16 trivial)))))) (hd := F3_d1) (h := by kernel_rfl)⟩
  · intro hr
    obtain rfl := Option.some.inj hr
    refine ⟨(.exit 0), (F3_x1_0 h x1 v2 x3 v4 h15 u14 (l14 : (List (Int × Int × Int × Int)))), (by intro hh; cases hh), ?_, pEnd_sound good (L := F3_L) (D := F3_D) (its := [.g, (.b false)]) (ds := F3_m1_1) (ks := []) (e := (.exit 0)) (s2 := (F3_x1_0 h x1 v2 x3 v4 h15 u14 (l14 : (List (Int × Int × Int × Int))))) (hC := (And.intro c16 trivial)) (hd := F3_d1) (h := by kernel_rfl)⟩
    exact ⟨rfl, h15, u14, (Heapy.pick hp15 [0] (by decide)), z14, rfl⟩
theorem F3_l1 (h : AHeap) (x1 : Int) (l2 : List (Int × Int × Int × Int)) (v2 : Hd) (hv2 : SlE E29 4 h (sv v2) l2) (x3 : Int) (v4 : Hd) (x : Int × (List (Int × Int × Int × Int))) (r : (List (Int × Int × Int × Int))) (hl : loopO (fun (s : Int × (List (Int × Int × Int × Int))) => F3_s1 l2 s.1 s.2) x = some r) (S : AS) (hI : (F3_i1 h x1 l2 v2 x3 v4) x S) : ∃ e S', (F3_x1 h x1 v2 x3 v4) r e S' ∧ AWp Try.prog (.loop (codeOf Try.prog 3 [1, 1, 1, 0, 1, 0, 0])) (Ends1 e S') S :=
  loop_rel (fun x S hI => F3_r1 h x1 l2 v2 hv2 x3 v4 x.1 x.2 S hI) hl hI
def F3_m2_1 : List Bool := [true, false, false, true, true, false, true, true, false, true, true, true, true, true, true, true, true, true, true, true, true, true, true, true, true, true, true, true, true, true, true, true, true, true, true, true, true, true, true, true, true, true, true, true, true, true, true, true, true, true, true, true, true, true, true, true, true, true, true, true, true, true, true, true, true, true, true, true, true, true, true, true, true, true, true, true, true, true, true, true, true, true, true, true, true, true, true, true, true, true, true, true, true, true, true, true, true, true, true, true, true, true, true, true, true, true, true, true, true, true, true, true, true, true, true, true]
def F3_m2_0 : List Bool := [true, false, false, true, true, false, true, true, false, true, true, true, true, true, true, true, true, true, true, true, true, true, true, true, true, true, true, true, true, true, true, true, true, true, true, true, true, true, true, true, true, true, true, true, true, true, true, true, true, true, true, true, true, false, false, true, true, true, true, true, true, true, true, true, true, true, true, true, true, true, true, true, true, true, true, true, true, true, true, true, true, true, true, true, true, true, true, true, true, true, true, true, true, true, true, true, true, true, true, true, true, true, true, true, true, true, true, true, true, true, true, true, true, true, true, true]
def F3_s2 (l4 : List Int) (a27 : Int) (l28 : List Int) : Option ((Int × (List Int)) ⊕ (List Int)) :=
  (bif decide (a27 < (l4.length : Int)) then
   (Option.bind (F11 l4 a27) fun y31 =>
   (bif (!(okApp (l28.length + ([(IntKind.i64.wrap (0 - y31))] : List Int).length) 8)) then none else
   some (.inl ((IntKind.i64.wrap (a27 + 1)), (l28 ++ ([(IntKind.i64.wrap (0 - y31))] : List Int))))))
  else
   some (.inr l28))
def F3_h2 (x1 : Int) (v2 : Hd) (x3 : Int) (l4 : List Int) (v4 : Hd) (w0_24 : Hd) (h29 : AHeap) (u28 : Hd) (a27 : Int) (l28 : List Int) : AS := ⟨[junk, (sv v4), .pointer (some ⟨2, 0, none⟩), junk, junk, (sv w0_24), junk, junk, (sv u28), junk, junk, junk, junk, junk, junk, junk, junk, junk, junk, junk, junk, junk, junk, junk, junk, junk, junk, junk, junk, junk, junk, junk, junk, junk, junk, junk, junk, junk, junk, junk, junk, junk, junk, junk, junk, junk, junk, junk, junk, junk, junk, junk, junk, .int .i64 (l4.length : Int), .int .i64 a27, junk, junk, junk, junk, junk, junk, junk, junk, junk, junk, junk, junk, junk, junk, junk, junk, junk, junk, junk, junk, junk, junk, junk, junk, junk, junk, junk, junk, junk, junk, junk, junk, junk, junk, junk, junk, junk, junk, junk, junk, junk, junk, junk, junk, junk, junk, junk, junk, junk, junk, junk, junk, junk, junk, junk, junk, junk, junk, junk, junk, junk], [(2, [.int .i64 x1, (sv v2), .int .i64 x3])], h29⟩
theorem F3_d2 : drawsOk F3_D (codeOf Try.prog 3 [1, 1, 1, 1, 1, 0, 1, 0, 0]) = true := by kernel_rfl
def F3_x2_0 (h : AHeap) (x1 : Int) (v2 : Hd) (x3 : Int) (v4 : Hd) (y23 : (List (Int × Int × Int × Int))) (w0_24 : Hd) (hx : AHeap) (w1 : Hd) (r : (List Int)) : AS := ⟨[junk, (sv v4), .pointer (some ⟨2, 0, none⟩), junk, junk, (sv w0_24), junk, junk, (sv w1), junk, junk, junk, junk, junk, junk, junk, junk, junk, junk, junk, junk, junk, junk, junk, junk, junk, junk, junk, junk, junk, junk, junk, junk, junk, junk, junk, junk, junk, junk, junk, junk, junk, junk, junk, junk, junk, junk, junk, junk, junk, junk, junk, junk, junk, junk, junk, junk, junk, junk, junk, junk, junk, junk, junk, junk, junk, junk, junk, junk, junk, junk, junk, junk, junk, junk, junk, junk, junk, junk, junk, junk, junk, junk, junk, junk, junk, junk, junk, junk, junk, junk, junk, junk, junk, junk, junk, junk, junk, junk, junk, junk, junk, junk, junk, junk, junk, junk, junk, junk, junk, junk, junk, junk, junk, junk, junk], [(2, [.int .i64 x1, (sv v2), .int .i64 x3])], hx⟩
def F3_i2 (h : AHeap) (x1 : Int) (v2 : Hd) (x3 : Int) (l4 : List Int) (v4 : Hd) (y23 : (List (Int × Int × Int × Int))) (w0_24 : Hd) (s : Int × (List Int)) (S : AS) : Prop := ∃ (h29 : AHeap) (u28 : Hd), Heapy h h29 [⟨w0_24, 29, 4, List.flatMap enc29 y23⟩, ⟨u28, 3, 1, List.flatMap enc3 s.2⟩] ∧ Strict u28 ∧ S = (F3_h2 x1 v2 x3 l4 v4 w0_24 h29 u28 s.1 s.2)
def F3_x2 (h : AHeap) (x1 : Int) (v2 : Hd) (x3 : Int) (v4 : Hd) (y23 : (List (Int × Int × Int × Int))) (w0_24 : Hd) (r : (List Int)) (e : Exit) (S : AS) : Prop := e = (.exit 2) ∧ ∃ (hx : AHeap) (w1 : Hd), Heapy h hx [⟨w0_24, 29, 4, List.flatMap enc29 y23⟩, ⟨w1, 3, 1, List.flatMap enc3 r⟩] ∧ Strict w1 ∧ S = (F3_x2_0 h x1 v2 x3 v4 y23 w0_24 hx w1 r)
set_option maxRecDepth 100000 in
theorem F3_r2 (h : AHeap) (x1 : Int) (v2 : Hd) (x3 : Int) (l4 : List Int) (v4 : Hd) (hv4 : SlE E3 1 h (sv v4) l4) (y23 : (List (Int × Int × Int × Int))) (w0_24 : Hd) (a27 : Int) (l28 : List Int) (S : AS) (hI : (F3_i2 h x1 v2 x3 l4 v4 y23 w0_24) (a27, l28) S) (o : (Int × (List Int)) ⊕ (List Int)) : F3_s2 l4 a27 l28 = some o → Rd Try.prog (codeOf Try.prog 3 [1, 1, 1, 1, 1, 0, 1, 0, 0]) (F3_i2 h x1 v2 x3 l4 v4 y23 w0_24) (F3_x2 h x1 v2 x3 v4 y23 w0_24) S o := by
  obtain ⟨h29, u28, hp29, z28, rfl⟩ := hI
  unfold F3_s2
  refine dec_bif (fun c30 => ?_) (fun c30 => ?_)
  · refine bind_opt fun y31 e31 => ?_
    obtain ⟨v33, h33, m33, hp33, _⟩ := Heapy.build (P := Try.prog) hp29 (t := 25) (e := 3) (len := 1) (n := 1) (parts := [(0, .int .i64 (IntKind.i64.wrap (0 - y31)))]) (cells := List.flatMap enc3 ([(IntKind.i64.wrap (0 - y31))] : List Int)) (by kernel_rfl) rfl
    refine guard_ok fun g35 => ?_
    obtain ⟨v36, h36, m36, q36, _, w36⟩ := Heapy.append hp33 (show mkInfo Try.prog 25 = some (3, 1, 8, [.int .i64 0]) by kernel_rfl) 2 (v := u28) (cells := List.flatMap enc3 l28) rfl (Y := (sv v33)) (SlE.src (enc := enc3) (c := 1) (Heapy.sle (v := v33) (xs := ([(IntKind.i64.wrap (0 - y31))] : List Int)) (enc := enc3) hp33 0 rfl (fun _ => rfl) (by decide)) (fun _ => rfl)) (flatMap_length (enc := enc3) (c := 1) (fun _ => rfl) _) (by rw [Heapy.vn (v := u28) (xs := l28) (enc := enc3) hp33 2 rfl (fun _ => rfl) (by decide)]; simpa using g35)
    have z36 : Strict v36 := w36 z28
    have hp36 : Heapy h h36 [⟨v33, 3, 1, List.flatMap enc3 ([(IntKind.i64.wrap (0 - y31))] : List Int)⟩, ⟨w0_24, 29, 4, List.flatMap enc29 y23⟩, ⟨v36, 3, 1, List.flatMap enc3 (l28 ++ ([(IntKind.i64.wrap (0 - y31))] : List Int))⟩] := by rw [← List.flatMap_append] at q36; exact q36
    intro hr
    obtain rfl := Option.some.inj hr
    exact ⟨(F3_h2 x1 v2 x3 l4 v4 w0_24 h36 v36 (IntKind.i64.wrap (a27 + 1)) (l28 ++ ([(IntKind.i64.wrap (0 - y31))] : List Int))), ⟨h36, v36, (Heapy.pick hp36 [1, 2] (by decide)), z36, rfl⟩, pEnd_sound good (L := F3_L) (D := F3_D) (its := [.g, (.b true), .g, .g, .g, .g, .g, (.c (.int .i64 y31) h29), .g, (.mm (sv v33) h33), (.mm (sv v36) h36), .g, .g, .g]) (ds := F3_m2_0) (ks := []) (e := .normal) (s2 := (F3_h2 x1 v2 x3 l4 v4 w0_24 h36 v36 (IntKind.i64.wrap (a27 + 1)) (l28 ++ ([(IntKind.i64.wrap (0 - y31))] : List Int)))) (hC := (And.intro m36 (And.intro m33 (And.intro (F11_spec l4 a27 v4 h29 (SlE.mono hv4 (Heapy.sub hp29) (E3_mono (Heapy.sub hp29))) _ e31) (And.intro c30 trivial))))) (hd := F3_d2) (h := by kernel_rfl)⟩
  · intro hr
    obtain rfl := Option.some.inj hr
    refine ⟨(.exit 2), (F3_x2_0 h x1 v2 x3 v4 y23 w0_24 h29 u28 (l28 : (List Int))), (by intro hh; cases hh), ?_, pEnd_sound good (L := F3_L) (D := F3_D) (its := [.g, (.b false)]) (ds := F3_m2_1) (ks := []) (e := (.exit 2)) (s2 := (F3_x2_0 h x1 v2 x3 v4 y23 w0_24 h29 u28 (l28 : (List Int)))) (hC := (And.intro c30 trivial)) (hd := F3_d2) (h := by kernel_rfl)⟩
    exact ⟨rfl, h29, u28, (Heapy.pick hp29 [0, 1] (by decide)), z28, rfl⟩
theorem F3_l2 (h : AHeap) (x1 : Int) (v2 : Hd) (x3 : Int) (l4 : List Int) (v4 : Hd) (hv4 : SlE E3 1 h (sv v4) l4) (y23 : (List (Int × Int × Int × Int))) (w0_24 : Hd) (x : Int × (List Int)) (r : (List Int)) (hl : loopO (fun (s : Int × (List Int)) => F3_s2 l4 s.1 s.2) x = some r) (S : AS) (hI : (F3_i2 h x1 v2 x3 l4 v4 y23 w0_24) x S) : ∃ e S', (F3_x2 h x1 v2 x3 v4 y23 w0_24) r e S' ∧ AWp Try.prog (.loop (codeOf Try.prog 3 [1, 1, 1, 1, 1, 0, 1, 0, 0])) (Ends1 e S') S :=
  loop_rel (fun x S hI => F3_r2 h x1 v2 x3 l4 v4 hv4 y23 w0_24 x.1 x.2 S hI) hl hI
def F3_m3_2 : List Bool := [true, true, true, true, true, true, true, true, true, true, true, true, true, true, true, true, true, true, true, true, true, true, true, true, true, true, true, true, true, true, true, true, true, true, true, true, true, true, true, true, true, true, true, true, true, true, true, true, true, true, true, true, true, true, true, true, true, true, true, true, true, true, true, true, true, true, true, true, true, true, true, true, true, true, true, true, true, true, true, true, true, true, true, true, true, true, true, true, true, true, true, true, true, true, true, true, true, true, true, true, true, true, true, true, true, true, true, true, true, true, true, true, true, true, true, true]
def F3_m3_1 : List Bool := [true, true, true, true, true, true, true, true, true, true, false, true, false, true, true, true, true, true, true, true, true, true, true, true, true, true, true, true, true, true, true, true, true, true, true, true, true, true, true, true, true, true, true, true, true, true, true, true, true, true, true, true, true, true, true, true, true, true, true, true, true, true, true, true, true, true, true, true, true, true, true, true, true, true, true, true, true, true, true, true, true, true, true, true, true, true, true, true, true, true, true, true, true, true, true, true, true, true, true, true, true, false, false, true, true, true, true, true, true, true, true, true, true, true, true, true]
def F3_m3_0 : List Bool := [true, true, true, true, false, true, true, true, true, true, true, true, true, true, true, true, true, true, true, true, true, true, true, true, true, true, true, true, true, true, true, true, true, true, true, true, true, true, true, true, true, true, true, true, true, true, true, true, true, true, true, true, true, true, true, true, true, true, true, true, true, true, true, true, true, true, true, true, true, true, true, true, true, true, true, true, true, true, true, true, true, true, true, true, true, true, true, true, true, true, true, true, true, true, true, true, true, true, true, true, true, true, true, true, true, true, true, true, true, true, true, true, true, true, true, true]
def F3_s3 (y40 : (List Int) × (List Int)) (y44 : (List Int) × (List Int)) (a50 : Int) : Option (Int ⊕ Nat) :=
  (bif decide (a50 < (y40.1.length : Int)) then
   (Option.bind (at? y40.1 a50) fun y52 =>
   (Option.bind (at? y44.1 a50) fun y53 =>
   (bif (y52 != (IntKind.i64.wrap (0 - y53))) then
    some (.inr 0)
   else
    some (.inl (IntKind.i64.wrap (a50 + 1))))))
  else
   some (.inr 1))
def F3_h3 (y40 : (List Int) × (List Int)) (u41_0 : Hd) (u45_0 : Hd) (h45 : AHeap)  (a50 : Int) : AS := ⟨[junk, junk, junk, junk, junk, junk, junk, junk, junk, junk, (sv u41_0), junk, (sv u45_0), junk, junk, junk, junk, junk, junk, junk, junk, junk, junk, junk, junk, junk, junk, junk, junk, junk, junk, junk, junk, junk, junk, junk, junk, junk, junk, junk, junk, junk, junk, junk, junk, junk, junk, junk, junk, junk, junk, junk, junk, junk, junk, junk, junk, junk, junk, junk, junk, junk, junk, junk, junk, junk, junk, junk, junk, junk, junk, junk, junk, junk, junk, junk, junk, junk, junk, junk, junk, junk, junk, junk, junk, junk, junk, junk, junk, junk, junk, junk, junk, junk, junk, junk, junk, junk, junk, junk, junk, .int .i64 (y40.1.length : Int), .int .i64 a50, junk, junk, junk, junk, junk, junk, junk, junk, junk, junk, junk, junk, junk], [], h45⟩
theorem F3_d3 : drawsOk F3_D (codeOf Try.prog 3 [1, 1, 1, 1, 1, 1, 1, 1, 1, 0, 1, 0, 0]) = true := by kernel_rfl
def F3_x3_0 (h45 : AHeap)  (r : Nat) : AS := ⟨[junk, junk, junk, junk, .bool false, junk, junk, junk, junk, junk, junk, junk, junk, junk, junk, junk, junk, junk, junk, junk, junk, junk, junk, junk, junk, junk, junk, junk, junk, junk, junk, junk, junk, junk, junk, junk, junk, junk, junk, junk, junk, junk, junk, junk, junk, junk, junk, junk, junk, junk, junk, junk, junk, junk, junk, junk, junk, junk, junk, junk, junk, junk, junk, junk, junk, junk, junk, junk, junk, junk, junk, junk, junk, junk, junk, junk, junk, junk, junk, junk, junk, junk, junk, junk, junk, junk, junk, junk, junk, junk, junk, junk, junk, junk, junk, junk, junk, junk, junk, junk, junk, junk, junk, junk, junk, junk, junk, junk, junk, junk, junk, junk, junk, junk, junk, junk], [], h45⟩
def F3_x3_1 (h45 : AHeap)  (r : Nat) : AS := ⟨[junk, junk, junk, junk, junk, junk, junk, junk, junk, junk, junk, junk, junk, junk, junk, junk, junk, junk, junk, junk, junk, junk, junk, junk, junk, junk, junk, junk, junk, junk, junk, junk, junk, junk, junk, junk, junk, junk, junk, junk, junk, junk, junk, junk, junk, junk, junk, junk, junk, junk, junk, junk, junk, junk, junk, junk, junk, junk, junk, junk, junk, junk, junk, junk, junk, junk, junk, junk, junk, junk, junk, junk, junk, junk, junk, junk, junk, junk, junk, junk, junk, junk, junk, junk, junk, junk, junk, junk, junk, junk, junk, junk, junk, junk, junk, junk, junk, junk, junk, junk, junk, junk, junk, junk, junk, junk, junk, junk, junk, junk, junk, junk, junk, junk, junk, junk], [], h45⟩
def F3_x3 (h45 : AHeap) (r : Nat) : Exit × AS := (bif Nat.beq r 0 then (.ret, (F3_x3_0 h45 r)) else ((.exit 4), (F3_x3_1 h45 r)))
set_option maxRecDepth 100000 in
theorem F3_r3 (h : AHeap) (y23 : (List (Int × Int × Int × Int))) (w0_24 : Hd) (y38 : (List Int)) (w1_39 : Hd) (y40 : (List Int) × (List Int)) (u41_0 : Hd) (u41_1 : Hd) (y44 : (List Int) × (List Int)) (u45_0 : Hd) (u45_1 : Hd) (h45 : AHeap) (hp45 : Heapy h h45 [⟨u45_0, 3, 1, List.flatMap enc3 y44.1⟩, ⟨u45_1, 3, 1, List.flatMap enc3 y44.2⟩, ⟨u41_0, 3, 1, List.flatMap enc3 y40.1⟩, ⟨u41_1, 3, 1, List.flatMap enc3 y40.2⟩, ⟨w0_24, 29, 4, List.flatMap enc29 y23⟩, ⟨w1_39, 3, 1, List.flatMap enc3 y38⟩]) (a50 : Int) (o : Int ⊕ Nat) : F3_s3 y40 y44 a50 = some o → RdF Try.prog (codeOf Try.prog 3 [1, 1, 1, 1, 1, 1, 1, 1, 1, 0, 1, 0, 0]) (fun (s : Int) => (F3_h3 y40 u41_0 u45_0 h45 s)) (F3_x3 h45) (F3_h3 y40 u41_0 u45_0 h45 a50) o := by
  unfold F3_s3
  refine dec_bif (fun c51 => ?_) (fun c51 => ?_)
  · refine bind_opt fun y52 e52 => ?_
    obtain ⟨id52, off52, g52, cs52, ix52, at52, rfl⟩ := SlE.at (Heapy.sle (v := u41_0) (xs := y40.1) (enc := enc3) hp45 2 rfl (fun _ => rfl) (by decide)) e52
    refine bind_opt fun y53 e53 => ?_
    obtain ⟨id53, off53, g53, cs53, ix53, at53, rfl⟩ := SlE.at (Heapy.sle (v := u45_0) (xs := y44.1) (enc := enc3) hp45 0 rfl (fun _ => rfl) (by decide)) e53
    refine dec_bif (fun c54 => ?_) (fun c54 => ?_)
    · intro hr
      obtain rfl := Option.some.inj hr
      show AWp Try.prog _ (Ends1 ((F3_x3 h45) (0 : Nat)).1 ((F3_x3 h45) (0 : Nat)).2) _
      exact pEnd_sound good (L := F3_L) (D := F3_D) (its := [.g, (.b true), .g, .g, .g, .g, (.ix id52 off52 g52), (.ld (.int .i64 y52)), .g, .g, (.ix id53 off53 g53), (.ld (.int .i64 y53)), .g, .g, (.b true), .g]) (ds := F3_m3_0) (ks := []) (e := ((F3_x3 h45) (0 : Nat)).1) (s2 := ((F3_x3 h45) (0 : Nat)).2) (hC := (And.intro c54 (And.intro (At.one (P := Try.prog) (t := 3) (v := .int .i64 y53) at53 (by kernel_rfl) 0 rfl rfl) (And.intro ix53 (And.intro (At.one (P := Try.prog) (t := 3) (v := .int .i64 y52) at52 (by kernel_rfl) 0 rfl rfl) (And.intro ix52 (And.intro c51 trivial))))))) (hd := F3_d3) (h := by kernel_rfl)
    · intro hr
      obtain rfl := Option.some.inj hr
      show AWp Try.prog _ (Ends1 .normal (F3_h3 y40 u41_0 u45_0 h45 (IntKind.i64.wrap (a50 + 1)))) _
      exact pEnd_sound good (L := F3_L) (D := F3_D) (its := [.g, (.b true), .g, .g, .g, .g, (.ix id52 off52 g52), (.ld (.int .i64 y52)), .g, .g, (.ix id53 off53 g53), (.ld (.int .i64 y53)), .g, .g, (.b false), .g, .g]) (ds := F3_m3_1) (ks := []) (e := .normal) (s2 := (F3_h3 y40 u41_0 u45_0 h45 (IntKind.i64.wrap (a50 + 1)))) (hC := (And.intro c54 (And.intro (At.one (P := Try.prog) (t := 3) (v := .int .i64 y53) at53 (by kernel_rfl) 0 rfl rfl) (And.intro ix53 (And.intro (At.one (P := Try.prog) (t := 3) (v := .int .i64 y52) at52 (by kernel_rfl) 0 rfl rfl) (And.intro ix52 (And.intro c51 trivial))))))) (hd := F3_d3) (h := by kernel_rfl)
  · intro hr
    obtain rfl := Option.some.inj hr
    show AWp Try.prog _ (Ends1 ((F3_x3 h45) (1 : Nat)).1 ((F3_x3 h45) (1 : Nat)).2) _
    exact pEnd_sound good (L := F3_L) (D := F3_D) (its := [.g, (.b false)]) (ds := F3_m3_2) (ks := []) (e := ((F3_x3 h45) (1 : Nat)).1) (s2 := ((F3_x3 h45) (1 : Nat)).2) (hC := (And.intro c51 trivial)) (hd := F3_d3) (h := by kernel_rfl)
theorem F3_l3_0 (h : AHeap) (y23 : (List (Int × Int × Int × Int))) (w0_24 : Hd) (y38 : (List Int)) (w1_39 : Hd) (y40 : (List Int) × (List Int)) (u41_0 : Hd) (u41_1 : Hd) (y44 : (List Int) × (List Int)) (u45_0 : Hd) (u45_1 : Hd) (h45 : AHeap) (hp45 : Heapy h h45 [⟨u45_0, 3, 1, List.flatMap enc3 y44.1⟩, ⟨u45_1, 3, 1, List.flatMap enc3 y44.2⟩, ⟨u41_0, 3, 1, List.flatMap enc3 y40.1⟩, ⟨u41_1, 3, 1, List.flatMap enc3 y40.2⟩, ⟨w0_24, 29, 4, List.flatMap enc29 y23⟩, ⟨w1_39, 3, 1, List.flatMap enc3 y38⟩]) (x : Int) (r : Nat) (hl : loopO (fun (s : Int) => F3_s3 y40 y44 s) x = some r) (q0 : Nat.beq r 0 = true) : AWp Try.prog (.loop (codeOf Try.prog 3 [1, 1, 1, 1, 1, 1, 1, 1, 1, 0, 1, 0, 0])) (Ends1 .ret (F3_x3_0 h45 r)) ((fun (s : Int) => (F3_h3 y40 u41_0 u45_0 h45 s)) x) := by
  have k := loop_fun (P := Try.prog) (c := (codeOf Try.prog 3 [1, 1, 1, 1, 1, 1, 1, 1, 1, 0, 1, 0, 0])) (step := (fun (s : Int) => F3_s3 y40 y44 s)) (hd := (fun (s : Int) => (F3_h3 y40 u41_0 u45_0 h45 s))) (X := (F3_x3 h45)) (by intro t; unfold F3_x3; cases Nat.beq t 0 <;> (intro h; cases h)) (fun x => F3_r3 h y23 w0_24 y38 w1_39 y40 u41_0 u41_1 y44 u45_0 u45_1 h45 hp45 x) hl
  simp only [F3_x3, q0, cond_true, cond_false] at k
  exact k
theorem F3_l3_1 (h : AHeap) (y23 : (List (Int × Int × Int × Int))) (w0_24 : Hd) (y38 : (List Int)) (w1_39 : Hd) (y40 : (List Int) × (List Int)) (u41_0 : Hd) (u41_1 : Hd) (y44 : (List Int) × (List Int)) (u45_0 : Hd) (u45_1 : Hd) (h45 : AHeap) (hp45 : Heapy h h45 [⟨u45_0, 3, 1, List.flatMap enc3 y44.1⟩, ⟨u45_1, 3, 1, List.flatMap enc3 y44.2⟩, ⟨u41_0, 3, 1, List.flatMap enc3 y40.1⟩, ⟨u41_1, 3, 1, List.flatMap enc3 y40.2⟩, ⟨w0_24, 29, 4, List.flatMap enc29 y23⟩, ⟨w1_39, 3, 1, List.flatMap enc3 y38⟩]) (x : Int) (r : Nat) (hl : loopO (fun (s : Int) => F3_s3 y40 y44 s) x = some r) (q0 : Nat.beq r 0 = false) : AWp Try.prog (.loop (codeOf Try.prog 3 [1, 1, 1, 1, 1, 1, 1, 1, 1, 0, 1, 0, 0])) (Ends1 (.exit 4) (F3_x3_1 h45 r)) ((fun (s : Int) => (F3_h3 y40 u41_0 u45_0 h45 s)) x) := by
  have k := loop_fun (P := Try.prog) (c := (codeOf Try.prog 3 [1, 1, 1, 1, 1, 1, 1, 1, 1, 0, 1, 0, 0])) (step := (fun (s : Int) => F3_s3 y40 y44 s)) (hd := (fun (s : Int) => (F3_h3 y40 u41_0 u45_0 h45 s))) (X := (F3_x3 h45)) (by intro t; unfold F3_x3; cases Nat.beq t 0 <;> (intro h; cases h)) (fun x => F3_r3 h y23 w0_24 y38 w1_39 y40 u41_0 u41_1 y44 u45_0 u45_1 h45 hp45 x) hl
  simp only [F3_x3, q0, cond_true, cond_false] at k
  exact k
def F3 (x1 : Int) (l2 : List (Int × Int × Int × Int)) (x3 : Int) (l4 : List Int) : Option (Bool) :=
  (bif (!(F10 x1 l2 x3)) then
   some (true)
  else
   (bif decide ((l4.length : Int) > 30) then
    some (true)
   else
    (Option.bind (loopO (fun (s : Int × (List (Int × Int × Int × Int))) => F3_s1 l2 s.1 s.2) (0, ([] : List (Int × Int × Int × Int)))) fun y23 =>
    (Option.bind (loopO (fun (s : Int × (List Int)) => F3_s2 l4 s.1 s.2) (0, ([] : List Int))) fun y38 =>
    (Option.bind (F12 x1 l2 x3 l4) fun y40 =>
    (Option.bind (F13 x1 y23 x3 y38) fun y44 =>
    (bif (!(decide ((y40.2.length : Int) > 0) == decide ((y44.2.length : Int) > 0))) then
     some (false)
    else
     (bif ((y40.1.length : Int) != (y44.1.length : Int)) then
      some (false)
     else
      (Option.bind (loopO (fun (s : Int) => F3_s3 y40 y44 s) 0) fun y55 =>
      (bif (Nat.beq y55 0) then
       some (false)
      else
       some (true)))))))))))
set_option maxRecDepth 100000 in
theorem F3_spec (x1 : Int) (l2 : List (Int × Int × Int × Int)) (x3 : Int) (l4 : List Int) (v2 : Hd) (v4 : Hd) (h : AHeap) (hw : h.wf) (hv2 : SlE E29 4 h (sv v2) l2) (hv4 : SlE E3 1 h (sv v4) l4) (r : Bool) : F3 x1 l2 x3 l4 = some r → ∃ (h' : AHeap), Heapy h h' [] ∧ ACalls Try.prog 3 [.agg #[.int .i64 x1, (sv v2), .int .i64 x3], (sv v4)] h (fun v' h'' => v' = (.bool r : Value) ∧ h'' = h') := by
  unfold F3
  refine dec_bif (fun c7 => ?_) (fun c7 => ?_)
  · intro hr
    obtain rfl := Option.some.inj hr
    exact ⟨h, Heapy.pick (Heapy.refl hw) [] (by decide), pFun_sound good tab_ok (f := 3) (its := [.g, .g, (.c (.bool true) h), .g, .g, (.w .g), (.w (.c (.bool (F10 x1 l2 x3)) h)), (.w .g), .g, .g, .n, .n, .n, (.p true), (.b true), (.c (.bool true) h), .g]) (args := [.agg #[.int .i64 x1, (sv v2), .int .i64 x3], (sv v4)]) (h := h) (h' := h) (v := .bool true) (hC := (And.intro (F9_spec h _ rfl) (And.intro l_t (And.intro c7 (And.intro (g_tf c7) (And.intro (g_tf c7) (And.intro (g_tf c7) (And.intro (g_ff l_f) (And.intro (F10_spec x1 l2 x3 v2 h hv2 _ rfl) (And.intro (g_ff l_f) (And.intro (g_ff l_f) (And.intro (F9_spec h _ rfl) trivial)))))))))))) (hr := by kernel_rfl)⟩
  · refine dec_bif (fun c9 => ?_) (fun c9 => ?_)
    · intro hr
      obtain rfl := Option.some.inj hr
      exact ⟨h, Heapy.pick (Heapy.refl hw) [] (by decide), pFun_sound good tab_ok (f := 3) (its := [.g, .g, (.c (.bool true) h), .g, .g, (.w .g), (.w (.c (.bool (F10 x1 l2 x3)) h)), (.w .g), .g, .g, (.w .g), (.w (.ln l4.length)), (.w .g), (.p false), (.b true), (.c (.bool true) h), .g]) (args := [.agg #[.int .i64 x1, (sv v2), .int .i64 x3], (sv v4)]) (h := h) (h' := h) (v := .bool true) (hC := (And.intro (F9_spec h _ rfl) (And.intro c9 (And.intro c7 (And.intro (g_ff c7) (And.intro (SlE.len hv4) (And.intro (g_ff c7) (And.intro (g_ff c7) (And.intro (g_ff l_f) (And.intro (F10_spec x1 l2 x3 v2 h hv2 _ rfl) (And.intro (g_ff l_f) (And.intro (g_ff l_f) (And.intro (F9_spec h _ rfl) trivial))))))))))))) (hr := by kernel_rfl)⟩
    · refine bind_opt fun y23 e23 => ?_
      have hp11 : Heapy h h [⟨⟨none, 0, 0⟩, 29, 4, List.flatMap enc29 ([] : List (Int × Int × Int × Int))⟩] := Heapy.nil (Heapy.refl hw) 29 4
      obtain ⟨ee23, SS23, hX23, hA23⟩ := F3_l1 h x1 l2 v2 hv2 x3 v4 (0, ([] : List (Int × Int × Int × Int))) y23 e23 (F3_h1 x1 l2 v2 x3 v4 h ⟨none, 0, 0⟩ 0 ([] : List (Int × Int × Int × Int))) ⟨h, ⟨none, 0, 0⟩, (Heapy.pick hp11 [0] (by decide)), Strict.nil, rfl⟩
      obtain ⟨rfl, h24, w0_24, hp24, zw0_24, rfl⟩ := hX23
      refine bind_opt fun y38 e38 => ?_
      have hp25 : Heapy h h24 [⟨⟨none, 0, 0⟩, 3, 1, List.flatMap enc3 ([] : List Int)⟩, ⟨w0_24, 29, 4, List.flatMap enc29 y23⟩] := Heapy.nil hp24 3 1
      obtain ⟨ee38, SS38, hX38, hA38⟩ := F3_l2 h x1 v2 x3 l4 v4 hv4 y23 w0_24 (0, ([] : List Int)) y38 e38 (F3_h2 x1 v2 x3 l4 v4 w0_24 h24 ⟨none, 0, 0⟩ 0 ([] : List Int)) ⟨h24, ⟨none, 0, 0⟩, (Heapy.pick hp25 [1, 0] (by decide)), Strict.nil, rfl⟩
      obtain ⟨rfl, h39, w1_39, hp39, zw1_39, rfl⟩ := hX38
      refine bind_opt fun y40 e40 => ?_
      obtain ⟨u41_0, u41_1, h41, q41, zu41_1, c41⟩ := F12_spec x1 l2 x3 l4 v2 v4 h39 (Heapy.wf hp39) (SlE.mono hv2 (Heapy.sub hp39) (E29_mono (Heapy.sub hp39))) (SlE.mono hv4 (Heapy.sub hp39) (E3_mono (Heapy.sub hp39))) _ e40
      have hp41 : Heapy h h41 [⟨u41_0, 3, 1, List.flatMap enc3 y40.1⟩, ⟨u41_1, 3, 1, List.flatMap enc3 y40.2⟩, ⟨w0_24, 29, 4, List.flatMap enc29 y23⟩, ⟨w1_39, 3, 1, List.flatMap enc3 y38⟩] := Heapy.call hp39 q41
      refine bind_opt fun y44 e44 => ?_
      obtain ⟨u45_0, u45_1, h45, q45, zu45_1, c45⟩ := F13_spec x1 y23 x3 y38 w0_24 w1_39 h41 (Heapy.wf hp41) (Heapy.sle (v := w0_24) (xs := y23) (enc := enc29) hp41 2 rfl (fun _ => rfl) (by decide)) (Heapy.sle (v := w1_39) (xs := y38) (enc := enc3) hp41 3 rfl (fun _ => rfl) (by decide)) _ e44
      have hp45 : Heapy h h45 [⟨u45_0, 3, 1, List.flatMap enc3 y44.1⟩, ⟨u45_1, 3, 1, List.flatMap enc3 y44.2⟩, ⟨u41_0, 3, 1, List.flatMap enc3 y40.1⟩, ⟨u41_1, 3, 1, List.flatMap enc3 y40.2⟩, ⟨w0_24, 29, 4, List.flatMap enc29 y23⟩, ⟨w1_39, 3, 1, List.flatMap enc3 y38⟩] := Heapy.call hp41 q45
      refine dec_bif (fun c48 => ?_) (fun c48 => ?_)
      · intro hr
        obtain rfl := Option.some.inj hr
        exact ⟨h45, Heapy.pick hp45 [] (by decide), pFun_sound good tab_ok (f := 3) (its := [.g, .g, (.c (.bool true) h), .g, .g, (.w .g), (.w (.c (.bool (F10 x1 l2 x3)) h)), (.w .g), .g, .g, (.w .g), (.w (.ln l4.length)), (.w .g), (.p false), (.b false), .g, .g, .g, (.ln l2.length), .g, (.l F3_m1_0 [] (.exit 0) (F3_x1_0 h x1 v2 x3 v4 h24 w0_24 y23)), .g, .g, (.ln l4.length), .g, (.l F3_m2_0 [] (.exit 2) (F3_x2_0 h x1 v2 x3 v4 y23 w0_24 h39 w1_39 y38)), .g, .g, .g, .g, .g, .g, .g, (.c (.tuple #[(sv u41_0), (sv u41_1)]) h41), .g, .g, .g, .g, .g, .g, .g, .g, .g, .g, .g, (.c (.tuple #[(sv u45_0), (sv u45_1)]) h45), .g, .g, .g, .g, .g, .g, (.ln y40.2.length), .g, .g, (.ln y44.2.length), .g, .g, .g, .n, .n, .n, .n, .n, (.p true), (.b true), .g]) (args := [.agg #[.int .i64 x1, (sv v2), .int .i64 x3], (sv v4)]) (h := h) (h' := h45) (v := .bool false) (hC := (And.intro l_t (And.intro c48 (And.intro (g_tf c48) (And.intro (g_tf c48) (And.intro (g_tf c48) (And.intro (g_tf c48) (And.intro (g_tf c48) (And.intro (SlE.len (Heapy.sle (v := u45_1) (xs := y44.2) (enc := enc3) hp45 1 rfl (fun _ => rfl) (by decide))) (And.intro (SlE.len (Heapy.sle (v := u41_1) (xs := y40.2) (enc := enc3) hp45 3 rfl (fun _ => rfl) (by decide))) (And.intro c45 (And.intro c41 (And.intro hA38 (And.intro (SlE.len hv4) (And.intro hA23 (And.intro (SlE.len hv2) (And.intro c9 (And.intro c7 (And.intro (g_ff c7) (And.intro (SlE.len hv4) (And.intro (g_ff c7) (And.intro (g_ff c7) (And.intro (g_ff l_f) (And.intro (F10_spec x1 l2 x3 v2 h hv2 _ rfl) (And.intro (g_ff l_f) (And.intro (g_ff l_f) (And.intro (F9_spec h _ rfl) trivial))))))))))))))))))))))))))) (hr := by kernel_rfl)⟩
      · refine dec_bif (fun c49 => ?_) (fun c49 => ?_)
        · intro hr
          obtain rfl := Option.some.inj hr
          exact ⟨h45, Heapy.pick hp45 [] (by decide), pFun_sound good tab_ok (f := 3) (its := [.g, .g, (.c (.bool true) h), .g, .g, (.w .g), (.w (.c (.bool (F10 x1 l2 x3)) h)), (.w .g), .g, .g, (.w .g), (.w (.ln l4.length)), (.w .g), (.p false), (.b false), .g, .g, .g, (.ln l2.length), .g, (.l F3_m1_0 [] (.exit 0) (F3_x1_0 h x1 v2 x3 v4 h24 w0_24 y23)), .g, .g, (.ln l4.length), .g, (.l F3_m2_0 [] (.exit 2) (F3_x2_0 h x1 v2 x3 v4 y23 w0_24 h39 w1_39 y38)), .g, .g, .g, .g, .g, .g, .g, (.c (.tuple #[(sv u41_0), (sv u41_1)]) h41), .g, .g, .g, .g, .g, .g, .g, .g, .g, .g, .g, (.c (.tuple #[(sv u45_0), (sv u45_1)]) h45), .g, .g, .g, .g, .g, .g, (.ln y40.2.length), .g, .g, (.ln y44.2.length), .g, .g, .g, (.w .g), (.w (.ln y40.1.length)), (.w .g), (.w (.ln y44.1.length)), (.w .g), (.p false), (.b true), .g]) (args := [.agg #[.int .i64 x1, (sv v2), .int .i64 x3], (sv v4)]) (h := h) (h' := h45) (v := .bool false) (hC := (And.intro c49 (And.intro c48 (And.intro (g_ff c48) (And.intro (SlE.len (Heapy.sle (v := u45_0) (xs := y44.1) (enc := enc3) hp45 0 rfl (fun _ => rfl) (by decide))) (And.intro (g_ff c48) (And.intro (g_ff c48) (And.intro (SlE.len (Heapy.sle (v := u41_0) (xs := y40.1) (enc := enc3) hp45 2 rfl (fun _ => rfl) (by decide))) (And.intro (g_ff c48) (And.intro (g_ff c48) (And.intro (SlE.len (Heapy.sle (v := u45_1) (xs := y44.2) (enc := enc3) hp45 1 rfl (fun _ => rfl) (by decide))) (And.intro (SlE.len (Heapy.sle (v := u41_1) (xs := y40.2) (enc := enc3) hp45 3 rfl (fun _ => rfl) (by decide))) (And.intro c45 (And.intro c41 (And.intro hA38 (And.intro (SlE.len hv4) (And.intro hA23 (And.intro (SlE.len hv2) (And.intro c9 (And.intro c7 (And.intro (g_ff c7) (And.intro (SlE.len hv4) (And.intro (g_ff c7) (And.intro (g_ff c7) (And.intro (g_ff l_f) (And.intro (F10_spec x1 l2 x3 v2 h hv2 _ rfl) (And.intro (g_ff l_f) (And.intro (g_ff l_f) (And.intro (F9_spec h _ rfl) trivial))))))))))))))))))))))))))))) (hr := by kernel_rfl)⟩
        · refine bind_opt fun y55 e55 => ?_
          refine dec_bif (fun c56 => ?_) (fun c56 => ?_)
          · intro hr
            obtain rfl := Option.some.inj hr
            exact ⟨h45, Heapy.pick hp45 [] (by decide), pFun_sound good tab_ok (f := 3) (its := [.g, .g, (.c (.bool true) h), .g, .g, (.w .g), (.w (.c (.bool (F10 x1 l2 x3)) h)), (.w .g), .g, .g, (.w .g), (.w (.ln l4.length)), (.w .g), (.p false), (.b false), .g, .g, .g, (.ln l2.length), .g, (.l F3_m1_0 [] (.exit 0) (F3_x1_0 h x1 v2 x3 v4 h24 w0_24 y23)), .g, .g, (.ln l4.length), .g, (.l F3_m2_0 [] (.exit 2) (F3_x2_0 h x1 v2 x3 v4 y23 w0_24 h39 w1_39 y38)), .g, .g, .g, .g, .g, .g, .g, (.c (.tuple #[(sv u41_0), (sv u41_1)]) h41), .g, .g, .g, .g, .g, .g, .g, .g, .g, .g, .g, (.c (.tuple #[(sv u45_0), (sv u45_1)]) h45), .g, .g, .g, .g, .g, .g, (.ln y40.2.length), .g, .g, (.ln y44.2.length), .g, .g, .g, (.w .g), (.w (.ln y40.1.length)), (.w .g), (.w (.ln y44.1.length)), (.w .g), (.p false), (.b false), .g, (.ln y40.1.length), .g, (.l F3_m3_1 [2] .ret (F3_x3_0 h45 y55))]) (args := [.agg #[.int .i64 x1, (sv v2), .int .i64 x3], (sv v4)]) (h := h) (h' := h45) (v := .bool false) (hC := (And.intro (F3_l3_0 h y23 w0_24 y38 w1_39 y40 u41_0 u41_1 y44 u45_0 u45_1 h45 hp45 0 y55 e55 c56) (And.intro (SlE.len (Heapy.sle (v := u41_0) (xs := y40.1) (enc := enc3) hp45 2 rfl (fun _ => rfl) (by decide))) (And.intro c49 (And.intro c48 (And.intro (g_ff c48) (And.intro (SlE.len (Heapy.sle (v := u45_0) (xs := y44.1) (enc := enc3) hp45 0 rfl (fun _ => rfl) (by decide))) (And.intro (g_ff c48) (And.intro (g_ff c48) (And.intro (SlE.len (Heapy.sle (v := u41_0) (xs := y40.1) (enc := enc3) hp45 2 rfl (fun _ => rfl) (by decide))) (And.intro (g_ff c48) (And.intro (g_ff c48) (And.intro (SlE.len (Heapy.sle (v := u45_1) (xs := y44.2) (enc := enc3) hp45 1 rfl (fun _ => rfl) (by decide))) (And.intro (SlE.len (Heapy.sle (v := u41_1) (xs := y40.2) (enc := enc3) hp45 3 rfl (fun _ => rfl) (by decide))) (And.intro c45 (And.intro c41 (And.intro hA38 (And.intro (SlE.len hv4) (And.intro hA23 (And.intro (SlE.len hv2) (And.intro c9 (And.intro c7 (And.intro (g_ff c7) (And.intro (SlE.len hv4) (And.intro (g_ff c7) (And.intro (g_ff c7) (And.intro (g_ff l_f) (And.intro (F10_spec x1 l2 x3 v2 h hv2 _ rfl) (And.intro (g_ff l_f) (And.intro (g_ff l_f) (And.intro (F9_spec h _ rfl) trivial))))))))))))))))))))))))))))))) (hr := by kernel_rfl)⟩
          · intro hr
            obtain rfl := Option.some.inj hr
            exact ⟨h45, Heapy.pick hp45 [] (by decide), pFun_sound good tab_ok (f := 3) (its := [.g, .g, (.c (.bool true) h), .g, .g, (.w .g), (.w (.c (.bool (F10 x1 l2 x3)) h)), (.w .g), .g, .g, (.w .g), (.w (.ln l4.length)), (.w .g), (.p false), (.b false), .g, .g, .g, (.ln l2.length), .g, (.l F3_m1_0 [] (.exit 0) (F3_x1_0 h x1 v2 x3 v4 h24 w0_24 y23)), .g, .g, (.ln l4.length), .g, (.l F3_m2_0 [] (.exit 2) (F3_x2_0 h x1 v2 x3 v4 y23 w0_24 h39 w1_39 y38)), .g, .g, .g, .g, .g, .g, .g, (.c (.tuple #[(sv u41_0), (sv u41_1)]) h41), .g, .g, .g, .g, .g, .g, .g, .g, .g, .g, .g, (.c (.tuple #[(sv u45_0), (sv u45_1)]) h45), .g, .g, .g, .g, .g, .g, (.ln y40.2.length), .g, .g, (.ln y44.2.length), .g, .g, .g, (.w .g), (.w (.ln y40.1.length)), (.w .g), (.w (.ln y44.1.length)), (.w .g), (.p false), (.b false), .g, (.ln y40.1.length), .g, (.l F3_m3_1 [2] (.exit 4) (F3_x3_1 h45 y55)), .g]) (args := [.agg #[.int .i64 x1, (sv v2), .int .i64 x3], (sv v4)]) (h := h) (h' := h45) (v := .bool true) (hC := (And.intro (F3_l3_1 h y23 w0_24 y38 w1_39 y40 u41_0 u41_1 y44 u45_0 u45_1 h45 hp45 0 y55 e55 c56) (And.intro (SlE.len (Heapy.sle (v := u41_0) (xs := y40.1) (enc := enc3) hp45 2 rfl (fun _ => rfl) (by decide))) (And.intro c49 (And.intro c48 (And.intro (g_ff c48) (And.intro (SlE.len (Heapy.sle (v := u45_0) (xs := y44.1) (enc := enc3) hp45 0 rfl (fun _ => rfl) (by decide))) (And.intro (g_ff c48) (And.intro (g_ff c48) (And.intro (SlE.len (Heapy.sle (v := u41_0) (xs := y40.1) (enc := enc3) hp45 2 rfl (fun _ => rfl) (by decide))) (And.intro (g_ff c48) (And.intro (g_ff c48) (And.intro (SlE.len (Heapy.sle (v := u45_1) (xs := y44.2) (enc := enc3) hp45 1 rfl (fun _ => rfl) (by decide))) (And.intro (SlE.len (Heapy.sle (v := u41_1) (xs := y40.2) (enc := enc3) hp45 3 rfl (fun _ => rfl) (by decide))) (And.intro c45 (And.intro c41 (And.intro hA38 (And.intro (SlE.len hv4) (And.intro hA23 (And.intro (SlE.len hv2) (And.intro c9 (And.intro c7 (And.intro (g_ff c7) (And.intro (SlE.len hv4) (And.intro (g_ff c7) (And.intro (g_ff c7) (And.intro (g_ff l_f) (And.intro (F10_spec x1 l2 x3 v2 h hv2 _ rfl) (And.intro (g_ff l_f) (And.intro (g_ff l_f) (And.intro (F9_spec h _ rfl) trivial))))))))))))))))))))))))))))))) (hr := by kernel_rfl)⟩
set_option maxRecDepth 100000 in
theorem F3_law (H : ∀ (x1 : Int) (l2 : List (Int × Int × Int × Int)) (x3 : Int) (l4 : List Int), (Lit.int .i64 x1).wf = true → (l2.length ≤ maxLen ∧ l2.length * 32 ≤ reachBytes) → (∀ y ∈ l2, W29 y) → (Lit.int .i64 x3).wf = true → (l4.length ≤ maxLen ∧ l4.length * 8 ≤ reachBytes) → (∀ y ∈ l4, W3 y) → F3 x1 l2 x3 l4 = some true) : Law Try.prog 3 10 [24, 25] := by
  intro s us hwf hro hT0
  obtain ⟨u0, vs0, rfl, t0, hT1⟩ := wts_cons hT0
  obtain ⟨cs0, rfl, k0⟩ := wtv_aggS 4 (ks := [.int .i64, .slice 29, .int .i64]) (by kernel_rfl) (by kernel_rfl) t0
  obtain ⟨x1, r_x1, rfl, w_x1, k0_0⟩ := sq_int k0
  obtain ⟨v2, r_l2, rfl, q_l2, k0_1⟩ := sq_slice k0_0
  obtain ⟨l2, a_l2, m_l2, w_l2⟩ := q_l2 E29 W29 4 (by kernel_rfl) fun n cs H => E29_wt H
  obtain ⟨x3, r_x3, rfl, w_x3, k0_2⟩ := sq_int k0_1
  obtain rfl := sq_nil k0_2
  obtain ⟨u1, vs1, rfl, t1, hT2⟩ := wts_cons hT1
  have k1 := wtv_oneS 2 (ks := [.slice 3]) (by kernel_rfl) (by kernel_rfl) t1
  obtain ⟨v4, r_l4, e_l4, q_l4, k1_0⟩ := sq_slice k1
  obtain ⟨l4, a_l4, m_l4, w_l4⟩ := q_l4 E3 W3 1 (by kernel_rfl) fun n cs H => E3_wt H
  obtain ⟨rfl, rfl⟩ := List.cons.inj e_l4
  have k1_0' := sq_nil k1_0
  obtain rfl := wts_nil hT2
  obtain ⟨h2, _, hc⟩ := F3_spec x1 l2 x3 l4 v2 v4 s hwf a_l2 a_l4 _ (H x1 l2 x3 l4 w_x1 m_l2 w_l2 w_x3 m_l4 w_l4)
  refine (hc).mono ?_
  rintro v h' ⟨rfl, rfl⟩
  rfl
/-! 16 jacquard/diffcons.Earliest -/
def F16 (x1 : Int) (l2 : List (Int × Int × Int × Int)) (x3 : Int) : Option ((List Int) × (List Int)) :=
  (Option.bind (F13 x1 l2 x3 []) fun y4 =>
  some (y4.1, y4.2))
set_option maxRecDepth 100000 in
theorem F16_spec (x1 : Int) (l2 : List (Int × Int × Int × Int)) (x3 : Int) (v2 : Hd) (h : AHeap) (hw : h.wf) (hv2 : SlE E29 4 h (sv v2) l2) (r : (List Int) × (List Int)) : F16 x1 l2 x3 = some r → ∃ (ur0 : Hd) (ur1 : Hd) (h' : AHeap), Heapy h h' [⟨ur0, 3, 1, List.flatMap enc3 r.1⟩, ⟨ur1, 3, 1, List.flatMap enc3 r.2⟩] ∧ Strict ur1 ∧ ACalls Try.prog 16 [.int .i64 x1, (sv v2), .int .i64 x3] h (fun v' h'' => v' = (.tuple #[(sv ur0), (sv ur1)] : Value) ∧ h'' = h') := by
  unfold F16
  refine bind_opt fun y4 e4 => ?_
  obtain ⟨u5_0, u5_1, h5, q5, zu5_1, c5⟩ := F13_spec x1 l2 x3 [] v2 ⟨none, 0, 0⟩ h hw hv2 SlE.nil _ e4
  have hp5 : Heapy h h5 [⟨u5_0, 3, 1, List.flatMap enc3 y4.1⟩, ⟨u5_1, 3, 1, List.flatMap enc3 y4.2⟩] := Heapy.call (Heapy.refl hw) q5
  intro hr
  obtain rfl := Option.some.inj hr
  exact ⟨u5_0, u5_1, h5, Heapy.pick hp5 [0, 1] (by decide), zu5_1, pFun_sound good tab_ok (f := 16) (its := [.g, .g, .g, .g, .g, (.c (.tuple #[(sv u5_0), (sv u5_1)]) h5), .g, .g, .g, .g]) (args := [.int .i64 x1, (sv v2), .int .i64 x3]) (h := h) (h' := h5) (v := .tuple #[(sv u5_0), (sv u5_1)]) (hC := (And.intro c5 trivial)) (hr := by kernel_rfl)⟩
/-! 5 jacquard/jacquardlaw30.DiffconsIntervals -/
def F5_L : List Nat := [2]
def F5_D : List (Nat × List (Nat × Nat)) := [(18, [(0, 2), (1, 2), (2, 2), (3, 2), (4, 2), (5, 2), (6, 2), (7, 2), (8, 2)])]
def F5_m1_2 : List Bool := [true, false, false, true, true, true, true, true, true, true, true, true, true, true, true, true, true, true, true, true, true, true, true, true, true, true, true, true, true, true, true, true, true, true, true, true, true, true, true, true, true, true, true, true, true, true, true, true, true, true, true, true, true, true, true, true, true, true, true, true, true, true, true, true, true, true, true, true, true, true, true, true, true, true, true, true, true, true, true, true, true, true, true, true, true, true, true, true, true, true, true, true, true, true, true, true, true, true]
def F5_m1_1 : List Bool := [true, false, false, true, true, true, true, true, true, true, true, true, true, true, true, true, true, true, true, true, true, true, true, true, true, true, true, true, true, true, true, false, false, true, true, true, true, true, true, true, true, true, true, true, true, true, true, true, true, true, true, true, true, true, true, true, true, true, true, true, true, true, true, true, true, true, true, true, true, true, true, true, true, true, true, true, true, true, true, true, true, true, true, true, true, true, true, true, true, true, true, true, true, true, true, true, true, true]
def F5_m1_0 : List Bool := [true, true, true, true, false, true, true, true, true, true, true, true, true, true, true, true, true, true, true, true, true, true, true, true, true, true, true, true, true, true, true, true, true, true, true, true, true, true, true, true, true, true, true, true, true, true, true, true, true, true, true, true, true, true, true, true, true, true, true, true, true, true, true, true, true, true, true, true, true, true, true, true, true, true, true, true, true, true, true, true, true, true, true, true, true, true, true, true, true, true, true, true, true, true, true, true, true, true]
def F5_s1 (l2 : List (Int × Int × Int × Int)) (a13 : Int) : Option (Int ⊕ Nat) :=
  (bif decide (a13 < (l2.length : Int)) then
   (Option.bind (at? l2 a13) fun y15 =>
   (bif decide (y15.2.2.2 < 0) then
    some (.inr 0)
   else
    some (.inl (IntKind.i64.wrap (a13 + 1)))))
  else
   some (.inr 1))
def F5_h1 (h : AHeap) (x1 : Int) (l2 : List (Int × Int × Int × Int)) (v2 : Hd) (x3 : Int) (x4 : Int)  (a13 : Int) : AS := ⟨[junk, .int .u8 x4, .pointer (some ⟨2, 0, none⟩), junk, junk, junk, junk, junk, junk, junk, junk, junk, junk, junk, junk, junk, junk, junk, junk, junk, junk, junk, junk, junk, junk, junk, junk, junk, junk, junk, junk, .int .i64 (l2.length : Int), .int .i64 a13, junk, junk, junk, junk, junk, junk, junk, junk, junk, junk, junk, junk, junk, junk, junk, junk, junk, junk, junk, junk, junk, junk, junk, junk, junk, junk, junk, junk, junk, junk, junk, junk, junk, junk, junk, junk, junk, junk, junk, junk, junk, junk, junk, junk, junk, junk, junk, junk, junk, junk, junk, junk, junk, junk, junk, junk, junk, junk, junk, junk, junk, junk, junk, junk, junk], [(2, [.int .i64 x1, (sv v2), .int .i64 x3])], h⟩
theorem F5_d1 : drawsOk F5_D (codeOf Try.prog 5 [1, 1, 0, 1, 0, 0]) = true := by kernel_rfl
def F5_x1_0 (h : AHeap) (x1 : Int) (v2 : Hd) (x3 : Int) (x4 : Int)  (r : Nat) : AS := ⟨[junk, junk, junk, junk, .bool true, junk, junk, junk, junk, junk, junk, junk, junk, junk, junk, junk, junk, junk, junk, junk, junk, junk, junk, junk, junk, junk, junk, junk, junk, junk, junk, junk, junk, junk, junk, junk, junk, junk, junk, junk, junk, junk, junk, junk, junk, junk, junk, junk, junk, junk, junk, junk, junk, junk, junk, junk, junk, junk, junk, junk, junk, junk, junk, junk, junk, junk, junk, junk, junk, junk, junk, junk, junk, junk, junk, junk, junk, junk, junk, junk, junk, junk, junk, junk, junk, junk, junk, junk, junk, junk, junk, junk, junk, junk, junk, junk, junk, junk], [], h⟩
def F5_x1_1 (h : AHeap) (x1 : Int) (v2 : Hd) (x3 : Int) (x4 : Int)  (r : Nat) : AS := ⟨[junk, .int .u8 x4, .pointer (some ⟨2, 0, none⟩), junk, junk, junk, junk, junk, junk, junk, junk, junk, junk, junk, junk, junk, junk, junk, junk, junk, junk, junk, junk, junk, junk, junk, junk, junk, junk, junk, junk, junk, junk, junk, junk, junk, junk, junk, junk, junk, junk, junk, junk, junk, junk, junk, junk, junk, junk, junk, junk, junk, junk, junk, junk, junk, junk, junk, junk, junk, junk, junk, junk, junk, junk, junk, junk, junk, junk, junk, junk, junk, junk, junk, junk, junk, junk, junk, junk, junk, junk, junk, junk, junk, junk, junk, junk, junk, junk, junk, junk, junk, junk, junk, junk, junk, junk, junk], [(2, [.int .i64 x1, (sv v2), .int .i64 x3])], h⟩
def F5_x1 (h : AHeap) (x1 : Int) (v2 : Hd) (x3 : Int) (x4 : Int) (r : Nat) : Exit × AS := (bif Nat.beq r 0 then (.ret, (F5_x1_0 h x1 v2 x3 x4 r)) else ((.exit 0), (F5_x1_1 h x1 v2 x3 x4 r)))
set_option maxRecDepth 100000 in
theorem F5_r1 (h : AHeap) (x1 : Int) (l2 : List (Int × Int × Int × Int)) (v2 : Hd) (hv2 : SlE E29 4 h (sv v2) l2) (x3 : Int) (x4 : Int) (a13 : Int) (o : Int ⊕ Nat) : F5_s1 l2 a13 = some o → RdF Try.prog (codeOf Try.prog 5 [1, 1, 0, 1, 0, 0]) (fun (s : Int) => (F5_h1 h x1 l2 v2 x3 x4 s)) (F5_x1 h x1 v2 x3 x4) (F5_h1 h x1 l2 v2 x3 x4 a13) o := by
  unfold F5_s1
  refine dec_bif (fun c14 => ?_) (fun c14 => ?_)
  · refine bind_opt fun y15 e15 => ?_
    obtain ⟨id15, off15, g15, cs15, ix15, at15, rfl⟩ := SlE.at hv2 e15
    refine dec_bif (fun c16 => ?_) (fun c16 => ?_)
    · intro hr
      obtain rfl := Option.some.inj hr
      show AWp Try.prog _ (Ends1 ((F5_x1 h x1 v2 x3 x4) (0 : Nat)).1 ((F5_x1 h x1 v2 x3 x4) (0 : Nat)).2) _
      exact pEnd_sound good (L := F5_L) (D := F5_D) (its := [.g, (.b true), .g, .g, .g, .g, .g, (.ix id15 off15 g15), .g, (.ld (.int .i64 y15.2.2.2)), .g, (.b true), .g]) (ds := F5_m1_0) (ks := [2]) (e := ((F5_x1 h x1 v2 x3 x4) (0 : Nat)).1) (s2 := ((F5_x1 h x1 v2 x3 x4) (0 : Nat)).2) (hC := (And.intro c16 (And.intro (At.one (P := Try.prog) (t := 3) (v := .int .i64 y15.2.2.2) at15 (by kernel_rfl) 3 rfl rfl) (And.intro ix15 (And.intro c14 trivial))))) (hd := F5_d1) (h := by kernel_rfl)
    · intro hr
      obtain rfl := Option.some.inj hr
      show AWp Try.prog _ (Ends1 .normal (F5_h1 h x1 l2 v2 x3 x4 (IntKind.i64.wrap (a13 + 1)))) _
      exact pEnd_sound good (L := F5_L) (D := F5_D) (its := [.g, (.b true), .g, .g, .g, .g, .g, (.ix id15 off15 g15), .g, (.ld (.int .i64 y15.2.2.2)), .g, (.b false), .g, .g]) (ds := F5_m1_1) (ks := []) (e := .normal) (s2 := (F5_h1 h x1 l2 v2 x3 x4 (IntKind.i64.wrap (a13 + 1)))) (hC := (And.intro c16 (And.intro (At.one (P := Try.prog) (t := 3) (v := .int .i64 y15.2.2.2) at15 (by kernel_rfl) 3 rfl rfl) (And.intro ix15 (And.intro c14 trivial))))) (hd := F5_d1) (h := by kernel_rfl)
  · intro hr
    obtain rfl := Option.some.inj hr
    show AWp Try.prog _ (Ends1 ((F5_x1 h x1 v2 x3 x4) (1 : Nat)).1 ((F5_x1 h x1 v2 x3 x4) (1 : Nat)).2) _
    exact pEnd_sound good (L := F5_L) (D := F5_D) (its := [.g, (.b false)]) (ds := F5_m1_2) (ks := []) (e := ((F5_x1 h x1 v2 x3 x4) (1 : Nat)).1) (s2 := ((F5_x1 h x1 v2 x3 x4) (1 : Nat)).2) (hC := (And.intro c14 trivial)) (hd := F5_d1) (h := by kernel_rfl)
theorem F5_l1_0 (h : AHeap) (x1 : Int) (l2 : List (Int × Int × Int × Int)) (v2 : Hd) (hv2 : SlE E29 4 h (sv v2) l2) (x3 : Int) (x4 : Int) (x : Int) (r : Nat) (hl : loopO (fun (s : Int) => F5_s1 l2 s) x = some r) (q0 : Nat.beq r 0 = true) : AWp Try.prog (.loop (codeOf Try.prog 5 [1, 1, 0, 1, 0, 0])) (Ends1 .ret (F5_x1_0 h x1 v2 x3 x4 r)) ((fun (s : Int) => (F5_h1 h x1 l2 v2 x3 x4 s)) x) := by
  have k := loop_fun (P := Try.prog) (c := (codeOf Try.prog 5 [1, 1, 0, 1, 0, 0])) (step := (fun (s : Int) => F5_s1 l2 s)) (hd := (fun (s : Int) => (F5_h1 h x1 l2 v2 x3 x4 s))) (X := (F5_x1 h x1 v2 x3 x4)) (by intro t; unfold F5_x1; cases Nat.beq t 0 <;> (intro h; cases h)) (fun x => F5_r1 h x1 l2 v2 hv2 x3 x4 x) hl
  simp only [F5_x1, q0, cond_true, cond_false] at k
  exact k
theorem F5_l1_1 (h : AHeap) (x1 : Int) (l2 : List (Int × Int × Int × Int)) (v2 : Hd) (hv2 : SlE E29 4 h (sv v2) l2) (x3 : Int) (x4 : Int) (x : Int) (r : Nat) (hl : loopO (fun (s : Int) => F5_s1 l2 s) x = some r) (q0 : Nat.beq r 0 = false) : AWp Try.prog (.loop (codeOf Try.prog 5 [1, 1, 0, 1, 0, 0])) (Ends1 (.exit 0) (F5_x1_1 h x1 v2 x3 x4 r)) ((fun (s : Int) => (F5_h1 h x1 l2 v2 x3 x4 s)) x) := by
  have k := loop_fun (P := Try.prog) (c := (codeOf Try.prog 5 [1, 1, 0, 1, 0, 0])) (step := (fun (s : Int) => F5_s1 l2 s)) (hd := (fun (s : Int) => (F5_h1 h x1 l2 v2 x3 x4 s))) (X := (F5_x1 h x1 v2 x3 x4)) (by intro t; unfold F5_x1; cases Nat.beq t 0 <;> (intro h; cases h)) (fun x => F5_r1 h x1 l2 v2 hv2 x3 x4 x) hl
  simp only [F5_x1, q0, cond_true, cond_false] at k
  exact k
def F5_m2_2 : List Bool := [true, true, true, true, true, true, true, true, true, true, true, true, true, true, true, true, true, true, true, true, true, true, true, true, true, true, true, true, true, true, true, true, true, true, true, true, true, true, true, true, true, true, true, true, true, true, true, true, true, true, true, true, true, true, true, true, true, true, true, true, true, true, true, true, true, true, true, true, true, true, true, true, true, true, true, true, true, true, true, true, true, true, true, true, true, true, true, true, true, true, true, true, true, true, true, true, true, true]
def F5_m2_1 : List Bool := [true, true, true, true, true, true, false, true, false, true, true, true, true, true, true, true, true, true, true, true, true, true, true, true, true, true, true, true, true, true, true, true, true, true, true, true, true, true, true, true, true, true, true, true, true, true, true, true, true, true, true, true, true, true, true, true, true, true, true, true, true, true, true, true, true, true, true, true, true, true, true, true, true, true, true, true, true, true, true, true, true, true, true, true, false, false, true, true, true, true, true, true, true, true, true, true, true, true]
def F5_m2_0 : List Bool := [true, true, true, true, false, true, true, true, true, true, true, true, true, true, true, true, true, true, true, true, true, true, true, true, true, true, true, true, true, true, true, true, true, true, true, true, true, true, true, true, true, true, true, true, true, true, true, true, true, true, true, true, true, true, true, true, true, true, true, true, true, true, true, true, true, true, true, true, true, true, true, true, true, true, true, true, true, true, true, true, true, true, true, true, true, true, true, true, true, true, true, true, true, true, true, true, true, true]
def F5_s2 (y19 : (List Int) × (List Int)) (y23 : (List Int) × (List Int)) (a30 : Int) : Option (Int ⊕ Nat) :=
  (bif decide (a30 < (y19.1.length : Int)) then
   (Option.bind (at? y23.1 a30) fun y32 =>
   (Option.bind (at? y19.1 a30) fun y33 =>
   (bif decide (y32 > y33) then
    some (.inr 0)
   else
    some (.inl (IntKind.i64.wrap (a30 + 1))))))
  else
   some (.inr 1))
def F5_h2 (y19 : (List Int) × (List Int)) (u20_0 : Hd) (u24_0 : Hd) (h24 : AHeap)  (a30 : Int) : AS := ⟨[junk, junk, junk, junk, junk, junk, (sv u20_0), junk, (sv u24_0), junk, junk, junk, junk, junk, junk, junk, junk, junk, junk, junk, junk, junk, junk, junk, junk, junk, junk, junk, junk, junk, junk, junk, junk, junk, junk, junk, junk, junk, junk, junk, junk, junk, junk, junk, junk, junk, junk, junk, junk, junk, junk, junk, junk, junk, junk, junk, junk, junk, junk, junk, junk, junk, junk, junk, junk, junk, junk, junk, junk, junk, junk, junk, junk, junk, junk, junk, junk, junk, junk, junk, junk, junk, junk, junk, .int .i64 (y19.1.length : Int), .int .i64 a30, junk, junk, junk, junk, junk, junk, junk, junk, junk, junk, junk, junk], [], h24⟩
theorem F5_d2 : drawsOk F5_D (codeOf Try.prog 5 [1, 1, 1, 1, 1, 1, 1, 0, 1, 0, 0]) = true := by kernel_rfl
def F5_x2_0 (h24 : AHeap)  (r : Nat) : AS := ⟨[junk, junk, junk, junk, .bool false, junk, junk, junk, junk, junk, junk, junk, junk, junk, junk, junk, junk, junk, junk, junk, junk, junk, junk, junk, junk, junk, junk, junk, junk, junk, junk, junk, junk, junk, junk, junk, junk, junk, junk, junk, junk, junk, junk, junk, junk, junk, junk, junk, junk, junk, junk, junk, junk, junk, junk, junk, junk, junk, junk, junk, junk, junk, junk, junk, junk, junk, junk, junk, junk, junk, junk, junk, junk, junk, junk, junk, junk, junk, junk, junk, junk, junk, junk, junk, junk, junk, junk, junk, junk, junk, junk, junk, junk, junk, junk, junk, junk, junk], [], h24⟩
def F5_x2_1 (h24 : AHeap)  (r : Nat) : AS := ⟨[junk, junk, junk, junk, junk, junk, junk, junk, junk, junk, junk, junk, junk, junk, junk, junk, junk, junk, junk, junk, junk, junk, junk, junk, junk, junk, junk, junk, junk, junk, junk, junk, junk, junk, junk, junk, junk, junk, junk, junk, junk, junk, junk, junk, junk, junk, junk, junk, junk, junk, junk, junk, junk, junk, junk, junk, junk, junk, junk, junk, junk, junk, junk, junk, junk, junk, junk, junk, junk, junk, junk, junk, junk, junk, junk, junk, junk, junk, junk, junk, junk, junk, junk, junk, junk, junk, junk, junk, junk, junk, junk, junk, junk, junk, junk, junk, junk, junk], [], h24⟩
def F5_x2 (h24 : AHeap) (r : Nat) : Exit × AS := (bif Nat.beq r 0 then (.ret, (F5_x2_0 h24 r)) else ((.exit 2), (F5_x2_1 h24 r)))
set_option maxRecDepth 100000 in
theorem F5_r2 (h : AHeap) (y19 : (List Int) × (List Int)) (u20_0 : Hd) (u20_1 : Hd) (y23 : (List Int) × (List Int)) (u24_0 : Hd) (u24_1 : Hd) (h24 : AHeap) (hp24 : Heapy h h24 [⟨u24_0, 3, 1, List.flatMap enc3 y23.1⟩, ⟨u24_1, 3, 1, List.flatMap enc3 y23.2⟩, ⟨u20_0, 3, 1, List.flatMap enc3 y19.1⟩, ⟨u20_1, 3, 1, List.flatMap enc3 y19.2⟩]) (a30 : Int) (o : Int ⊕ Nat) : F5_s2 y19 y23 a30 = some o → RdF Try.prog (codeOf Try.prog 5 [1, 1, 1, 1, 1, 1, 1, 0, 1, 0, 0]) (fun (s : Int) => (F5_h2 y19 u20_0 u24_0 h24 s)) (F5_x2 h24) (F5_h2 y19 u20_0 u24_0 h24 a30) o := by
  unfold F5_s2
  refine dec_bif (fun c31 => ?_) (fun c31 => ?_)
  · refine bind_opt fun y32 e32 => ?_
    obtain ⟨id32, off32, g32, cs32, ix32, at32, rfl⟩ := SlE.at (Heapy.sle (v := u24_0) (xs := y23.1) (enc := enc3) hp24 0 rfl (fun _ => rfl) (by decide)) e32
    refine bind_opt fun y33 e33 => ?_
    obtain ⟨id33, off33, g33, cs33, ix33, at33, rfl⟩ := SlE.at (Heapy.sle (v := u20_0) (xs := y19.1) (enc := enc3) hp24 2 rfl (fun _ => rfl) (by decide)) e33
    refine dec_bif (fun c34 => ?_) (fun c34 => ?_)
    · intro hr
      obtain rfl := Option.some.inj hr
      show AWp Try.prog _ (Ends1 ((F5_x2 h24) (0 : Nat)).1 ((F5_x2 h24) (0 : Nat)).2) _
      exact pEnd_sound good (L := F5_L) (D := F5_D) (its := [.g, (.b true), .g, .g, .g, .g, (.ix id32 off32 g32), (.ld (.int .i64 y32)), .g, .g, (.ix id33 off33 g33), (.ld (.int .i64 y33)), .g, (.b true), .g]) (ds := F5_m2_0) (ks := []) (e := ((F5_x2 h24) (0 : Nat)).1) (s2 := ((F5_x2 h24) (0 : Nat)).2) (hC := (And.intro c34 (And.intro (At.one (P := Try.prog) (t := 3) (v := .int .i64 y33) at33 (by kernel_rfl) 0 rfl rfl) (And.intro ix33 (And.intro (At.one (P := Try.prog) (t := 3) (v := .int .i64 y32) at32 (by kernel_rfl) 0 rfl rfl) (And.intro ix32 (And.intro c31 trivial))))))) (hd := F5_d2) (h := by kernel_rfl)
    · intro hr
      obtain rfl := Option.some.inj hr
      show AWp Try.prog _ (Ends1 .normal (F5_h2 y19 u20_0 u24_0 h24 (IntKind.i64.wrap (a30 + 1)))) _
      exact pEnd_sound good (L := F5_L) (D := F5_D) (its := [.g, (.b true), .g, .g, .g, .g, (.ix id32 off32 g32), (.ld (.int .i64 y32)), .g, .g, (.ix id33 off33 g33), (.ld (.int .i64 y33)), .g, (.b false), .g, .g]) (ds := F5_m2_1) (ks := []) (e := .normal) (s2 := (F5_h2 y19 u20_0 u24_0 h24 (IntKind.i64.wrap (a30 + 1)))) (hC := (And.intro c34 (And.intro (At.one (P := Try.prog) (t := 3) (v := .int .i64 y33) at33 (by kernel_rfl) 0 rfl rfl) (And.intro ix33 (And.intro (At.one (P := Try.prog) (t := 3) (v := .int .i64 y32) at32 (by kernel_rfl) 0 rfl rfl) (And.intro ix32 (And.intro c31 trivial))))))) (hd := F5_d2) (h := by kernel_rfl)
  · intro hr
    obtain rfl := Option.some.inj hr
    show AWp Try.prog _ (Ends1 ((F5_x2 h24) (1 : Nat)).1 ((F5_x2 h24) (1 : Nat)).2) _
    exact pEnd_sound good (L := F5_L) (D := F5_D) (its := [.g, (.b false)]) (ds := F5_m2_2) (ks := []) (e := ((F5_x2 h24) (1 : Nat)).1) (s2 := ((F5_x2 h24) (1 : Nat)).2) (hC := (And.intro c31 trivial)) (hd := F5_d2) (h := by kernel_rfl)
theorem F5_l2_0 (h : AHeap) (y19 : (List Int) × (List Int)) (u20_0 : Hd) (u20_1 : Hd) (y23 : (List Int) × (List Int)) (u24_0 : Hd) (u24_1 : Hd) (h24 : AHeap) (hp24 : Heapy h h24 [⟨u24_0, 3, 1, List.flatMap enc3 y23.1⟩, ⟨u24_1, 3, 1, List.flatMap enc3 y23.2⟩, ⟨u20_0, 3, 1, List.flatMap enc3 y19.1⟩, ⟨u20_1, 3, 1, List.flatMap enc3 y19.2⟩]) (x : Int) (r : Nat) (hl : loopO (fun (s : Int) => F5_s2 y19 y23 s) x = some r) (q0 : Nat.beq r 0 = true) : AWp Try.prog (.loop (codeOf Try.prog 5 [1, 1, 1, 1, 1, 1, 1, 0, 1, 0, 0])) (Ends1 .ret (F5_x2_0 h24 r)) ((fun (s : Int) => (F5_h2 y19 u20_0 u24_0 h24 s)) x) := by
  have k := loop_fun (P := Try.prog) (c := (codeOf Try.prog 5 [1, 1, 1, 1, 1, 1, 1, 0, 1, 0, 0])) (step := (fun (s : Int) => F5_s2 y19 y23 s)) (hd := (fun (s : Int) => (F5_h2 y19 u20_0 u24_0 h24 s))) (X := (F5_x2 h24)) (by intro t; unfold F5_x2; cases Nat.beq t 0 <;> (intro h; cases h)) (fun x => F5_r2 h y19 u20_0 u20_1 y23 u24_0 u24_1 h24 hp24 x) hl
  simp only [F5_x2, q0, cond_true, cond_false] at k
  exact k
theorem F5_l2_1 (h : AHeap) (y19 : (List Int) × (List Int)) (u20_0 : Hd) (u20_1 : Hd) (y23 : (List Int) × (List Int)) (u24_0 : Hd) (u24_1 : Hd) (h24 : AHeap) (hp24 : Heapy h h24 [⟨u24_0, 3, 1, List.flatMap enc3 y23.1⟩, ⟨u24_1, 3, 1, List.flatMap enc3 y23.2⟩, ⟨u20_0, 3, 1, List.flatMap enc3 y19.1⟩, ⟨u20_1, 3, 1, List.flatMap enc3 y19.2⟩]) (x : Int) (r : Nat) (hl : loopO (fun (s : Int) => F5_s2 y19 y23 s) x = some r) (q0 : Nat.beq r 0 = false) : AWp Try.prog (.loop (codeOf Try.prog 5 [1, 1, 1, 1, 1, 1, 1, 0, 1, 0, 0])) (Ends1 (.exit 2) (F5_x2_1 h24 r)) ((fun (s : Int) => (F5_h2 y19 u20_0 u24_0 h24 s)) x) := by
  have k := loop_fun (P := Try.prog) (c := (codeOf Try.prog 5 [1, 1, 1, 1, 1, 1, 1, 0, 1, 0, 0])) (step := (fun (s : Int) => F5_s2 y19 y23 s)) (hd := (fun (s : Int) => (F5_h2 y19 u20_0 u24_0 h24 s))) (X := (F5_x2 h24)) (by intro t; unfold F5_x2; cases Nat.beq t 0 <;> (intro h; cases h)) (fun x => F5_r2 h y19 u20_0 u20_1 y23 u24_0 u24_1 h24 hp24 x) hl
  simp only [F5_x2, q0, cond_true, cond_false] at k
  exact k
def F5 (x1 : Int) (l2 : List (Int × Int × Int × Int)) (x3 : Int) (x4 : Int) : Option (Bool) :=
  (bif (!(F10 x1 l2 x3)) then
   some (true)
  else
   (bif decide (x3 < 0) then
    some (true)
   else
    (bif decide (x3 > 200) then
     some (true)
    else
     (Option.bind (loopO (fun (s : Int) => F5_s1 l2 s) 0) fun y17 =>
     (bif (Nat.beq y17 0) then
      some (true)
     else
      (Option.bind (F16 x1 l2 x3) fun y19 =>
      (Option.bind (F16 x1 l2 (IntKind.i64.wrap (x3 + (IntKind.i64.wrap ((x4.tmod 56)))))) fun y23 =>
      (bif decide ((y19.2.length : Int) > 0) then
       some ((y19.1.length : Int) == 0)
      else
       (bif decide ((y23.2.length : Int) > 0) then
        some (false)
       else
        (bif ((y19.1.length : Int) != (y23.1.length : Int)) then
         some (false)
        else
         (Option.bind (loopO (fun (s : Int) => F5_s2 y19 y23 s) 0) fun y35 =>
         (bif (Nat.beq y35 0) then
          some (false)
         else
          some (true)))))))))))))
set_option maxRecDepth 100000 in
theorem F5_spec (x1 : Int) (l2 : List (Int × Int × Int × Int)) (x3 : Int) (x4 : Int) (v2 : Hd) (h : AHeap) (hw : h.wf) (hv2 : SlE E29 4 h (sv v2) l2) (r : Bool) : F5 x1 l2 x3 x4 = some r → ∃ (h' : AHeap), Heapy h h' [] ∧ ACalls Try.prog 5 [.agg #[.int .i64 x1, (sv v2), .int .i64 x3], .int .u8 x4] h (fun v' h'' => v' = (.bool r : Value) ∧ h'' = h') := by
  unfold F5
  refine dec_bif (fun c7 => ?_) (fun c7 => ?_)
  · intro hr
    obtain rfl := Option.some.inj hr
    exact ⟨h, Heapy.pick (Heapy.refl hw) [] (by decide), pFun_sound good tab_ok (f := 5) (its := [.g, .g, (.c (.bool true) h), .g, .g, (.w .g), (.w (.c (.bool (F10 x1 l2 x3)) h)), (.w .g), .g, .g, .n, .n, .n, (.p true), .g, .n, .n, .n, .g, (.b true), (.c (.bool true) h), .g]) (args := [.agg #[.int .i64 x1, (sv v2), .int .i64 x3], .int .u8 x4]) (h := h) (h' := h) (v := .bool true) (hC := (And.intro (F9_spec h _ rfl) (And.intro l_t (And.intro (g_tf l_t) (And.intro (g_tf l_t) (And.intro (g_tf l_t) (And.intro c7 (And.intro (g_tf c7) (And.intro (g_tf c7) (And.intro (g_tf c7) (And.intro (g_ff l_f) (And.intro (F10_spec x1 l2 x3 v2 h hv2 _ rfl) (And.intro (g_ff l_f) (And.intro (g_ff l_f) (And.intro (F9_spec h _ rfl) trivial))))))))))))))) (hr := by kernel_rfl)⟩
  · refine dec_bif (fun c9 => ?_) (fun c9 => ?_)
    · intro hr
      obtain rfl := Option.some.inj hr
      exact ⟨h, Heapy.pick (Heapy.refl hw) [] (by decide), pFun_sound good tab_ok (f := 5) (its := [.g, .g, (.c (.bool true) h), .g, .g, (.w .g), (.w (.c (.bool (F10 x1 l2 x3)) h)), (.w .g), .g, .g, (.w .g), (.w .g), (.w .g), (.p false), .g, .n, .n, .n, (.p true), (.b true), (.c (.bool true) h), .g]) (args := [.agg #[.int .i64 x1, (sv v2), .int .i64 x3], .int .u8 x4]) (h := h) (h' := h) (v := .bool true) (hC := (And.intro (F9_spec h _ rfl) (And.intro l_t (And.intro c9 (And.intro (g_tf c9) (And.intro (g_tf c9) (And.intro (g_tf c9) (And.intro c7 (And.intro (g_ff c7) (And.intro (g_ff c7) (And.intro (g_ff c7) (And.intro (g_ff l_f) (And.intro (F10_spec x1 l2 x3 v2 h hv2 _ rfl) (And.intro (g_ff l_f) (And.intro (g_ff l_f) (And.intro (F9_spec h _ rfl) trivial)))))))))))))))) (hr := by kernel_rfl)⟩
    · refine dec_bif (fun c11 => ?_) (fun c11 => ?_)
      · intro hr
        obtain rfl := Option.some.inj hr
        exact ⟨h, Heapy.pick (Heapy.refl hw) [] (by decide), pFun_sound good tab_ok (f := 5) (its := [.g, .g, (.c (.bool true) h), .g, .g, (.w .g), (.w (.c (.bool (F10 x1 l2 x3)) h)), (.w .g), .g, .g, (.w .g), (.w .g), (.w .g), (.p false), .g, (.w .g), (.w .g), (.w .g), (.p false), (.b true), (.c (.bool true) h), .g]) (args := [.agg #[.int .i64 x1, (sv v2), .int .i64 x3], .int .u8 x4]) (h := h) (h' := h) (v := .bool true) (hC := (And.intro (F9_spec h _ rfl) (And.intro c11 (And.intro c9 (And.intro (g_ff c9) (And.intro (g_ff c9) (And.intro (g_ff c9) (And.intro c7 (And.intro (g_ff c7) (And.intro (g_ff c7) (And.intro (g_ff c7) (And.intro (g_ff l_f) (And.intro (F10_spec x1 l2 x3 v2 h hv2 _ rfl) (And.intro (g_ff l_f) (And.intro (g_ff l_f) (And.intro (F9_spec h _ rfl) trivial)))))))))))))))) (hr := by kernel_rfl)⟩
      · refine bind_opt fun y17 e17 => ?_
        refine dec_bif (fun c18 => ?_) (fun c18 => ?_)
        · intro hr
          obtain rfl := Option.some.inj hr
          exact ⟨h, Heapy.pick (Heapy.refl hw) [] (by decide), pFun_sound good tab_ok (f := 5) (its := [.g, .g, (.c (.bool true) h), .g, .g, (.w .g), (.w (.c (.bool (F10 x1 l2 x3)) h)), (.w .g), .g, .g, (.w .g), (.w .g), (.w .g), (.p false), .g, (.w .g), (.w .g), (.w .g), (.p false), (.b false), .g, .g, (.ln l2.length), .g, (.l F5_m1_1 [] .ret (F5_x1_0 h x1 v2 x3 x4 y17))]) (args := [.agg #[.int .i64 x1, (sv v2), .int .i64 x3], .int .u8 x4]) (h := h) (h' := h) (v := .bool true) (hC := (And.intro (F5_l1_0 h x1 l2 v2 hv2 x3 x4 0 y17 e17 c18) (And.intro (SlE.len hv2) (And.intro c11 (And.intro c9 (And.intro (g_ff c9) (And.intro (g_ff c9) (And.intro (g_ff c9) (And.intro c7 (And.intro (g_ff c7) (And.intro (g_ff c7) (And.intro (g_ff c7) (And.intro (g_ff l_f) (And.intro (F10_spec x1 l2 x3 v2 h hv2 _ rfl) (And.intro (g_ff l_f) (And.intro (g_ff l_f) (And.intro (F9_spec h _ rfl) trivial))))))))))))))))) (hr := by kernel_rfl)⟩
        · refine bind_opt fun y19 e19 => ?_
          obtain ⟨u20_0, u20_1, h20, q20, zu20_1, c20⟩ := F16_spec x1 l2 x3 v2 h hw hv2 _ e19
          have hp20 : Heapy h h20 [⟨u20_0, 3, 1, List.flatMap enc3 y19.1⟩, ⟨u20_1, 3, 1, List.flatMap enc3 y19.2⟩] := Heapy.call (Heapy.refl hw) q20
          refine bind_opt fun y23 e23 => ?_
          obtain ⟨u24_0, u24_1, h24, q24, zu24_1, c24⟩ := F16_spec x1 l2 (IntKind.i64.wrap (x3 + (IntKind.i64.wrap ((x4.tmod 56))))) v2 h20 (Heapy.wf hp20) (SlE.mono hv2 (Heapy.sub hp20) (E29_mono (Heapy.sub hp20))) _ e23
          have hp24 : Heapy h h24 [⟨u24_0, 3, 1, List.flatMap enc3 y23.1⟩, ⟨u24_1, 3, 1, List.flatMap enc3 y23.2⟩, ⟨u20_0, 3, 1, List.flatMap enc3 y19.1⟩, ⟨u20_1, 3, 1, List.flatMap enc3 y19.2⟩] := Heapy.call hp20 q24
          refine dec_bif (fun c27 => ?_) (fun c27 => ?_)
          · intro hr
            obtain rfl := Option.some.inj hr
            exact ⟨h24, Heapy.pick hp24 [] (by decide), pFun_sound good tab_ok (f := 5) (its := [.g, .g, (.c (.bool true) h), .g, .g, (.w .g), (.w (.c (.bool (F10 x1 l2 x3)) h)), (.w .g), .g, .g, (.w .g), (.w .g), (.w .g), (.p false), .g, (.w .g), (.w .g), (.w .g), (.p false), (.b false), .g, .g, (.ln l2.length), .g, (.l F5_m1_1 [] (.exit 0) (F5_x1_1 h x1 v2 x3 x4 y17)), .g, .g, .g, .g, .g, .g, (.c (.tuple #[(sv u20_0), (sv u20_1)]) h20), .g, .g, .g, .g, .g, .g, .g, .g, .g, .g, .g, .g, .g, .g, .g, (.c (.tuple #[(sv u24_0), (sv u24_1)]) h24), .g, .g, .g, .g, .g, .g, (.ln y19.2.length), .g, (.b true), .g, (.ln y19.1.length), .g, .g]) (args := [.agg #[.int .i64 x1, (sv v2), .int .i64 x3], .int .u8 x4]) (h := h) (h' := h24) (v := .bool ((y19.1.length : Int) == 0)) (hC := (And.intro (SlE.len (Heapy.sle (v := u20_0) (xs := y19.1) (enc := enc3) hp24 2 rfl (fun _ => rfl) (by decide))) (And.intro c27 (And.intro (SlE.len (Heapy.sle (v := u20_1) (xs := y19.2) (enc := enc3) hp24 3 rfl (fun _ => rfl) (by decide))) (And.intro c24 (And.intro c20 (And.intro (F5_l1_1 h x1 l2 v2 hv2 x3 x4 0 y17 e17 c18) (And.intro (SlE.len hv2) (And.intro c11 (And.intro c9 (And.intro (g_ff c9) (And.intro (g_ff c9) (And.intro (g_ff c9) (And.intro c7 (And.intro (g_ff c7) (And.intro (g_ff c7) (And.intro (g_ff c7) (And.intro (g_ff l_f) (And.intro (F10_spec x1 l2 x3 v2 h hv2 _ rfl) (And.intro (g_ff l_f) (And.intro (g_ff l_f) (And.intro (F9_spec h _ rfl) trivial)))))))))))))))))))))) (hr := by kernel_rfl)⟩
          · refine dec_bif (fun c28 => ?_) (fun c28 => ?_)
            · intro hr
              obtain rfl := Option.some.inj hr
              exact ⟨h24, Heapy.pick hp24 [] (by decide), pFun_sound good tab_ok (f := 5) (its := [.g, .g, (.c (.bool true) h), .g, .g, (.w .g), (.w (.c (.bool (F10 x1 l2 x3)) h)), (.w .g), .g, .g, (.w .g), (.w .g), (.w .g), (.p false), .g, (.w .g), (.w .g), (.w .g), (.p false), (.b false), .g, .g, (.ln l2.length), .g, (.l F5_m1_1 [] (.exit 0) (F5_x1_1 h x1 v2 x3 x4 y17)), .g, .g, .g, .g, .g, .g, (.c (.tuple #[(sv u20_0), (sv u20_1)]) h20), .g, .g, .g, .g, .g, .g, .g, .g, .g, .g, .g, .g, .g, .g, .g, (.c (.tuple #[(sv u24_0), (sv u24_1)]) h24), .g, .g, .g, .g, .g, .g, (.ln y19.2.length), .g, (.b false), .g, (.ln y23.2.length), .g, .g, .n, .n, .n, .n, .n, (.p true), (.b true), .g]) (args := [.agg #[.int .i64 x1, (sv v2), .int .i64 x3], .int .u8 x4]) (h := h) (h' := h24) (v := .bool false) (hC := (And.intro l_t (And.intro c28 (And.intro (g_tf c28) (And.intro (g_tf c28) (And.intro (g_tf c28) (And.intro (g_tf c28) (And.intro (g_tf c28) (And.intro (SlE.len (Heapy.sle (v := u24_1) (xs := y23.2) (enc := enc3) hp24 1 rfl (fun _ => rfl) (by decide))) (And.intro c27 (And.intro (SlE.len (Heapy.sle (v := u20_1) (xs := y19.2) (enc := enc3) hp24 3 rfl (fun _ => rfl) (by decide))) (And.intro c24 (And.intro c20 (And.intro (F5_l1_1 h x1 l2 v2 hv2 x3 x4 0 y17 e17 c18) (And.intro (SlE.len hv2) (And.intro c11 (And.intro c9 (And.intro (g_ff c9) (And.intro (g_ff c9) (And.intro (g_ff c9) (And.intro c7 (And.intro (g_ff c7) (And.intro (g_ff c7) (And.intro (g_ff c7) (And.intro (g_ff l_f) (And.intro (F10_spec x1 l2 x3 v2 h hv2 _ rfl) (And.intro (g_ff l_f) (And.intro (g_ff l_f) (And.intro (F9_spec h _ rfl) trivial))))))))))))))))))))))))))))) (hr := by kernel_rfl)⟩
            · refine dec_bif (fun c29 => ?_) (fun c29 => ?_)
              · intro hr
                obtain rfl := Option.some.inj hr
                exact ⟨h24, Heapy.pick hp24 [] (by decide), pFun_sound good tab_ok (f := 5) (its := [.g, .g, (.c (.bool true) h), .g, .g, (.w .g), (.w (.c (.bool (F10 x1 l2 x3)) h)), (.w .g), .g, .g, (.w .g), (.w .g), (.w .g), (.p false), .g, (.w .g), (.w .g), (.w .g), (.p false), (.b false), .g, .g, (.ln l2.length), .g, (.l F5_m1_1 [] (.exit 0) (F5_x1_1 h x1 v2 x3 x4 y17)), .g, .g, .g, .g, .g, .g, (.c (.tuple #[(sv u20_0), (sv u20_1)]) h20), .g, .g, .g, .g, .g, .g, .g, .g, .g, .g, .g, .g, .g, .g, .g, (.c (.tuple #[(sv u24_0), (sv u24_1)]) h24), .g, .g, .g, .g, .g, .g, (.ln y19.2.length), .g, (.b false), .g, (.ln y23.2.length), .g, .g, (.w .g), (.w (.ln y19.1.length)), (.w .g), (.w (.ln y23.1.length)), (.w .g), (.p false), (.b true), .g]) (args := [.agg #[.int .i64 x1, (sv v2), .int .i64 x3], .int .u8 x4]) (h := h) (h' := h24) (v := .bool false) (hC := (And.intro c29 (And.intro c28 (And.intro (g_ff c28) (And.intro (SlE.len (Heapy.sle (v := u24_0) (xs := y23.1) (enc := enc3) hp24 0 rfl (fun _ => rfl) (by decide))) (And.intro (g_ff c28) (And.intro (g_ff c28) (And.intro (SlE.len (Heapy.sle (v := u20_0) (xs := y19.1) (enc := enc3) hp24 2 rfl (fun _ => rfl) (by decide))) (And.intro (g_ff c28) (And.intro (g_ff c28) (And.intro (SlE.len (Heapy.sle (v := u24_1) (xs := y23.2) (enc := enc3) hp24 1 rfl (fun _ => rfl) (by decide))) (And.intro c27 (And.intro (SlE.len (Heapy.sle (v := u20_1) (xs := y19.2) (enc := enc3) hp24 3 rfl (fun _ => rfl) (by decide))) (And.intro c24 (And.intro c20 (And.intro (F5_l1_1 h x1 l2 v2 hv2 x3 x4 0 y17 e17 c18) (And.intro (SlE.len hv2) (And.intro c11 (And.intro c9 (And.intro (g_ff c9) (And.intro (g_ff c9) (And.intro (g_ff c9) (And.intro c7 (And.intro (g_ff c7) (And.intro (g_ff c7) (And.intro (g_ff c7) (And.intro (g_ff l_f) (And.intro (F10_spec x1 l2 x3 v2 h hv2 _ rfl) (And.intro (g_ff l_f) (And.intro (g_ff l_f) (And.intro (F9_spec h _ rfl) trivial))))))))))))))))))))))))))))))) (hr := by kernel_rfl)⟩
              · refine bind_opt fun y35 e35 => ?_
                refine dec_bif (fun c36 => ?_) (fun c36 => ?_)
                · intro hr
                  obtain rfl := Option.some.inj hr
                  exact ⟨h24, Heapy.pick hp24 [] (by decide), pFun_sound good tab_ok (f := 5) (its := [.g, .g, (.c (.bool true) h), .g, .g, (.w .g), (.w (.c (.bool (F10 x1 l2 x3)) h)), (.w .g), .g, .g, (.w .g), (.w .g), (.w .g), (.p false), .g, (.w .g), (.w .g), (.w .g), (.p false), (.b false), .g, .g, (.ln l2.length), .g, (.l F5_m1_1 [] (.exit 0) (F5_x1_1 h x1 v2 x3 x4 y17)), .g, .g, .g, .g, .g, .g, (.c (.tuple #[(sv u20_0), (sv u20_1)]) h20), .g, .g, .g, .g, .g, .g, .g, .g, .g, .g, .g, .g, .g, .g, .g, (.c (.tuple #[(sv u24_0), (sv u24_1)]) h24), .g, .g, .g, .g, .g, .g, (.ln y19.2.length), .g, (.b false), .g, (.ln y23.2.length), .g, .g, (.w .g), (.w (.ln y19.1.length)), (.w .g), (.w (.ln y23.1.length)), (.w .g), (.p false), (.b false), .g, (.ln y19.1.length), .g, (.l F5_m2_1 [2] .ret (F5_x2_0 h24 y35))]) (args := [.agg #[.int .i64 x1, (sv v2), .int .i64 x3], .int .u8 x4]) (h := h) (h' := h24) (v := .bool false) (hC := (And.intro (F5_l2_0 h y19 u20_0 u20_1 y23 u24_0 u24_1 h24 hp24 0 y35 e35 c36) (And.intro (SlE.len (Heapy.sle (v := u20_0) (xs := y19.1) (enc := enc3) hp24 2 rfl (fun _ => rfl) (by decide))) (And.intro c29 (And.intro c28 (And.intro (g_ff c28) (And.intro (SlE.len (Heapy.sle (v := u24_0) (xs := y23.1) (enc := enc3) hp24 0 rfl (fun _ => rfl) (by decide))) (And.intro (g_ff c28) (And.intro (g_ff c28) (And.intro (SlE.len (Heapy.sle (v := u20_0) (xs := y19.1) (enc := enc3) hp24 2 rfl (fun _ => rfl) (by decide))) (And.intro (g_ff c28) (And.intro (g_ff c28) (And.intro (SlE.len (Heapy.sle (v := u24_1) (xs := y23.2) (enc := enc3) hp24 1 rfl (fun _ => rfl) (by decide))) (And.intro c27 (And.intro (SlE.len (Heapy.sle (v := u20_1) (xs := y19.2) (enc := enc3) hp24 3 rfl (fun _ => rfl) (by decide))) (And.intro c24 (And.intro c20 (And.intro (F5_l1_1 h x1 l2 v2 hv2 x3 x4 0 y17 e17 c18) (And.intro (SlE.len hv2) (And.intro c11 (And.intro c9 (And.intro (g_ff c9) (And.intro (g_ff c9) (And.intro (g_ff c9) (And.intro c7 (And.intro (g_ff c7) (And.intro (g_ff c7) (And.intro (g_ff c7) (And.intro (g_ff l_f) (And.intro (F10_spec x1 l2 x3 v2 h hv2 _ rfl) (And.intro (g_ff l_f) (And.intro (g_ff l_f) (And.intro (F9_spec h _ rfl) trivial))))))))))))))))))))))))))))))))) (hr := by kernel_rfl)⟩
                · intro hr
                  obtain rfl := Option.some.inj hr
                  exact ⟨h24, Heapy.pick hp24 [] (by decide), pFun_sound good tab_ok (f := 5) (its := [.g, .g, (.c (.bool true) h), .g, .g, (.w .g), (.w (.c (.bool (F10 x1 l2 x3)) h)), (.w .g), .g, .g, (.w .g), (.w .g), (.w .g), (.p false), .g, (.w .g), (.w .g), (.w .g), (.p false), (.b false), .g, .g, (.ln l2.length), .g, (.l F5_m1_1 [] (.exit 0) (F5_x1_1 h x1 v2 x3 x4 y17)), .g, .g, .g, .g, .g, .g, (.c (.tuple #[(sv u20_0), (sv u20_1)]) h20), .g, .g, .g, .g, .g, .g, .g, .g, .g, .g, .g, .g, .g, .g, .g, (.c (.tuple #[(sv u24_0), (sv u24_1)]) h24), .g, .g, .g, .g, .g, .g, (.ln y19.2.length), .g, (.b false), .g, (.ln y23.2.length), .g, .g, (.w .g), (.w (.ln y19.1.length)), (.w .g), (.w (.ln y23.1.length)), (.w .g), (.p false), (.b false), .g, (.ln y19.1.length), .g, (.l F5_m2_1 [2] (.exit 2) (F5_x2_1 h24 y35)), .g]) (args := [.agg #[.int .i64 x1, (sv v2), .int .i64 x3], .int .u8 x4]) (h := h) (h' := h24) (v := .bool true) (hC := (And.intro (F5_l2_1 h y19 u20_0 u20_1 y23 u24_0 u24_1 h24 hp24 0 y35 e35 c36) (And.intro (SlE.len (Heapy.sle (v := u20_0) (xs := y19.1) (enc := enc3) hp24 2 rfl (fun _ => rfl) (by decide))) (And.intro c29 (And.intro c28 (And.intro (g_ff c28) (And.intro (SlE.len (Heapy.sle (v := u24_0) (xs := y23.1) (enc := enc3) hp24 0 rfl (fun _ => rfl) (by decide))) (And.intro (g_ff c28) (And.intro (g_ff c28) (And.intro (SlE.len (Heapy.sle (v := u20_0) (xs := y19.1) (enc := enc3) hp24 2 rfl (fun _ => rfl) (by decide))) (And.intro (g_ff c28) (And.intro (g_ff c28) (And.intro (SlE.len (Heapy.sle (v := u24_1) (xs := y23.2) (enc := enc3) hp24 1 rfl (fun _ => rfl) (by decide))) (And.intro c27 (And.intro (SlE.len (Heapy.sle (v := u20_1) (xs := y19.2) (enc := enc3) hp24 3 rfl (fun _ => rfl) (by decide))) (And.intro c24 (And.intro c20 (And.intro (F5_l1_1 h x1 l2 v2 hv2 x3 x4 0 y17 e17 c18) (And.intro (SlE.len hv2) (And.intro c11 (And.intro c9 (And.intro (g_ff c9) (And.intro (g_ff c9) (And.intro (g_ff c9) (And.intro c7 (And.intro (g_ff c7) (And.intro (g_ff c7) (And.intro (g_ff c7) (And.intro (g_ff l_f) (And.intro (F10_spec x1 l2 x3 v2 h hv2 _ rfl) (And.intro (g_ff l_f) (And.intro (g_ff l_f) (And.intro (F9_spec h _ rfl) trivial))))))))))))))))))))))))))))))))) (hr := by kernel_rfl)⟩
set_option maxRecDepth 100000 in
theorem F5_law (H : ∀ (x1 : Int) (l2 : List (Int × Int × Int × Int)) (x3 : Int) (x4 : Int), (Lit.int .i64 x1).wf = true → (l2.length ≤ maxLen ∧ l2.length * 32 ≤ reachBytes) → (∀ y ∈ l2, W29 y) → (Lit.int .i64 x3).wf = true → (Lit.int .u8 x4).wf = true → F5 x1 l2 x3 x4 = some true) : Law Try.prog 5 10 [24, 5] := by
  intro s us hwf hro hT0
  obtain ⟨u0, vs0, rfl, t0, hT1⟩ := wts_cons hT0
  obtain ⟨cs0, rfl, k0⟩ := wtv_aggS 4 (ks := [.int .i64, .slice 29, .int .i64]) (by kernel_rfl) (by kernel_rfl) t0
  obtain ⟨x1, r_x1, rfl, w_x1, k0_0⟩ := sq_int k0
  obtain ⟨v2, r_l2, rfl, q_l2, k0_1⟩ := sq_slice k0_0
  obtain ⟨l2, a_l2, m_l2, w_l2⟩ := q_l2 E29 W29 4 (by kernel_rfl) fun n cs H => E29_wt H
  obtain ⟨x3, r_x3, rfl, w_x3, k0_2⟩ := sq_int k0_1
  obtain rfl := sq_nil k0_2
  obtain ⟨u1, vs1, rfl, t1, hT2⟩ := wts_cons hT1
  have k1 := wtv_oneS 1 (ks := [.int .u8]) (by kernel_rfl) (by kernel_rfl) t1
  obtain ⟨x4, r_x4, e_x4, w_x4, k1_0⟩ := sq_int k1
  obtain ⟨rfl, rfl⟩ := List.cons.inj e_x4
  have k1_0' := sq_nil k1_0
  obtain rfl := wts_nil hT2
  obtain ⟨h2, _, hc⟩ := F5_spec x1 l2 x3 x4 v2 s hwf a_l2 _ (H x1 l2 x3 x4 w_x1 m_l2 w_l2 w_x3 w_x4)
  refine (hc).mono ?_
  rintro v h' ⟨rfl, rfl⟩
  rfl
/-! 44 jacquard/diffcons.Violated$1 -/
def F44 (x1 : Int) (l2 : List Int) : Option (Int) :=
  (bif decide (x1 ≥ (l2.length : Int)) then
   some (0)
  else
   (Option.bind (at? l2 x1) fun y5 =>
   some (F45 y5 1099511627776)))
set_option maxRecDepth 100000 in
theorem F44_spec (x1 : Int) (l2 : List Int) (v2 : Hd) (id3 : Nat) (off3 : Nat) (g3 : Nat) (h : AHeap) (hv2 : SlE E3 1 h (sv v2) l2) (at3 : At h id3 off3 g3 [(sv v2)]) (r : Int) : F44 x1 l2 = some r → ACalls Try.prog 44 [.int .i64 x1, .pointer (some ⟨id3, off3 + 0, some g3⟩)] h (fun v' h'' => v' = (.int .i64 r : Value) ∧ h'' = h) := by
  unfold F44
  refine dec_bif (fun c4 => ?_) (fun c4 => ?_)
  · intro hr
    obtain rfl := Option.some.inj hr
    exact pFun_sound good tab_ok (f := 44) (its := [.g, .g, (.ld ((sv v2))), (.ln l2.length), .g, (.b true), .g]) (args := [.int .i64 x1, .pointer (some ⟨id3, off3 + 0, some g3⟩)]) (h := h) (h' := h) (v := .int .i64 0) (hC := (And.intro c4 (And.intro (SlE.len hv2) (And.intro (At.one (P := Try.prog) (t := 25) (v := (sv v2)) at3 (by kernel_rfl) 0 rfl rfl) trivial)))) (hr := by kernel_rfl)
  · refine bind_opt fun y5 e5 => ?_
    obtain ⟨id5, off5, g5, cs5, ix5, at5, rfl⟩ := SlE.at hv2 e5
    intro hr
    obtain rfl := Option.some.inj hr
    exact pFun_sound good tab_ok (f := 44) (its := [.g, .g, (.ld ((sv v2))), (.ln l2.length), .g, (.b false), (.ld ((sv v2))), .g, (.ix id5 off5 g5), (.ld (.int .i64 y5)), (.c (.int .i64 (F45 y5 1099511627776)) h), .g]) (args := [.int .i64 x1, .pointer (some ⟨id3, off3 + 0, some g3⟩)]) (h := h) (h' := h) (v := .int .i64 (F45 y5 1099511627776)) (hC := (And.intro (F45_spec y5 1099511627776 h _ rfl) (And.intro (At.one (P := Try.prog) (t := 3) (v := .int .i64 y5) at5 (by kernel_rfl) 0 rfl rfl) (And.intro ix5 (And.intro (At.one (P := Try.prog) (t := 25) (v := (sv v2)) at3 (by kernel_rfl) 0 rfl rfl) (And.intro c4 (And.intro (SlE.len hv2) (And.intro (At.one (P := Try.prog) (t := 25) (v := (sv v2)) at3 (by kernel_rfl) 0 rfl rfl) trivial)))))))) (hr := by kernel_rfl)
/-! 15 jacquard/diffcons.Violated -/
def F15_L : List Nat := [11]
def F15_D : List (Nat × List (Nat × Nat)) := [(6, [(0, 2), (1, 2), (2, 1), (3, 2), (4, 2), (5, 2), (6, 2), (8, 2), (9, 2), (14, 2), (10, 3), (13, 3), (7, 1), (11, 1), (12, 2), (15, 1), (16, 2), (17, 2)])]
def F15_m1_2 : List Bool := [true, true, true, true, true, true, true, true, true, true, true, true, true, true, true, true, true, true, true, true, true, true, true, true, true, true, true, true, true, true, true, true, true, true, true, true, true, true, true, true, true, true]
def F15_m1_1 : List Bool := [false, true, false, true, true, true, true, true, true, false, true, true, true, true, true, false, false, false, true, true, true, true, true, true, true, true, true, true, true, true, true, true, true, true, true, true, true, true, true, true, true, true]
def F15_m1_0 : List Bool := [true, true, true, true, true, true, true, true, false, true, true, true, true, true, true, true, true, true, true, true, true, true, true, true, true, true, true, true, true, true, true, true, true, true, true, true, true, true, true, true, true, true]
def F15_s1 (x1 : Int) (l2 : List (Int × Int × Int × Int)) (x3 : Int) (l4 : List Int) (a8 : Int) : Option (Int ⊕ (Nat × Int)) :=
  (bif decide (a8 < (l2.length : Int)) then
   (Option.bind (at? l2 a8) fun y10 =>
   (bif (F46 (F39 x1) y10.1 y10.2.1 y10.2.2.1 y10.2.2.2) then
    (Option.bind (F44 y10.2.1 l4) fun y13 =>
    (Option.bind (F44 y10.1 l4) fun y15 =>
    (bif decide ((IntKind.i64.wrap (y13 - y15)) < (F47 y10.1 y10.2.1 y10.2.2.1 y10.2.2.2 x3)) then
     some (.inr (0, a8))
    else
     some (.inl (IntKind.i64.wrap (a8 + 1))))))
   else
    some (.inl (IntKind.i64.wrap (a8 + 1)))))
  else
   some (.inr (1, 0)))
def F15_h1 (x1 : Int) (l2 : List (Int × Int × Int × Int)) (v2 : Hd) (x3 : Int) (id5 : Nat) (g5 : Nat) (h5 : AHeap)  (a8 : Int) : AS := ⟨[.int .i64 (F39 x1), junk, .int .i64 x3, junk, junk, junk, junk, junk, junk, .func (.func 44) #[] #[.pointer (some ⟨id5, 0, some g5⟩)], junk, junk, junk, junk, junk, (sv v2), .int .i64 (l2.length : Int), .int .i64 a8, junk, junk, junk, junk, junk, junk, junk, junk, junk, junk, junk, junk, junk, junk, junk, junk, junk, junk, junk, junk, junk, junk, junk, junk], [], h5⟩
theorem F15_d1 : drawsOk F15_D (codeOf Try.prog 15 [1, 1, 1, 0, 1, 0, 0]) = true := by kernel_rfl
def F15_x1_0 (h5 : AHeap)  (r : Nat × Int) : AS := ⟨[junk, junk, junk, junk, junk, junk, junk, junk, .int .i64 r.2, junk, junk, junk, junk, junk, junk, junk, junk, junk, junk, junk, junk, junk, junk, junk, junk, junk, junk, junk, junk, junk, junk, junk, junk, junk, junk, junk, junk, junk, junk, junk, junk, junk], [], h5⟩
def F15_x1_1 (h5 : AHeap)  (r : Nat × Int) : AS := ⟨[junk, junk, junk, junk, junk, junk, junk, junk, junk, junk, junk, junk, junk, junk, junk, junk, junk, junk, junk, junk, junk, junk, junk, junk, junk, junk, junk, junk, junk, junk, junk, junk, junk, junk, junk, junk, junk, junk, junk, junk, junk, junk], [], h5⟩
def F15_x1 (h5 : AHeap) (r : Nat × Int) : Exit × AS := (bif Nat.beq r.1 0 then (.ret, (F15_x1_0 h5 r)) else ((.exit 0), (F15_x1_1 h5 r)))
set_option maxRecDepth 100000 in
theorem F15_r1 (h : AHeap) (x1 : Int) (l2 : List (Int × Int × Int × Int)) (v2 : Hd) (hv2 : SlE E29 4 h (sv v2) l2) (x3 : Int) (l4 : List Int) (v4 : Hd) (hv4 : SlE E3 1 h (sv v4) l4) (id5 : Nat) (g5 : Nat) (h5 : AHeap) (hp5 : Heapy h h5 [⟨⟨some ⟨id5, 0, some g5⟩, 1, 1⟩, 25, 1, [(sv v4)]⟩]) (a8 : Int) (o : Int ⊕ (Nat × Int)) : F15_s1 x1 l2 x3 l4 a8 = some o → RdF Try.prog (codeOf Try.prog 15 [1, 1, 1, 0, 1, 0, 0]) (fun (s : Int) => (F15_h1 x1 l2 v2 x3 id5 g5 h5 s)) (F15_x1 h5) (F15_h1 x1 l2 v2 x3 id5 g5 h5 a8) o := by
  unfold F15_s1
  refine dec_bif (fun c9 => ?_) (fun c9 => ?_)
  · refine bind_opt fun y10 e10 => ?_
    obtain ⟨id10, off10, g10, cs10, ix10, at10, rfl⟩ := SlE.at hv2 e10
    refine dec_bif (fun c12 => ?_) (fun c12 => ?_)
    · refine bind_opt fun y13 e13 => ?_
      refine bind_opt fun y15 e15 => ?_
      refine dec_bif (fun c18 => ?_) (fun c18 => ?_)
      · intro hr
        obtain rfl := Option.some.inj hr
        show AWp Try.prog _ (Ends1 ((F15_x1 h5) ((0, a8) : Nat × Int)).1 ((F15_x1 h5) ((0, a8) : Nat × Int)).2) _
        exact pEnd_sound good (L := F15_L) (D := F15_D) (its := [.g, (.b true), .g, (.ix id10 off10 g10), (.ld (.agg #[.int .i64 y10.1, .int .i64 y10.2.1, .int .i64 y10.2.2.1, .int .i64 y10.2.2.2])), .g, .g, .g, .g, .g, (.c (.bool (F46 (F39 x1) y10.1 y10.2.1 y10.2.2.1 y10.2.2.2)) h5), .g, (.w .g), (.w .g), (.w .g), (.w .g), (.w .g), (.w .g), (.w .g), (.w .g), (.w (.c (.int .i64 y13) h5)), (.w (.c (.int .i64 y15) h5)), (.w .g), (.w (.c (.int .i64 (F47 y10.1 y10.2.1 y10.2.2.1 y10.2.2.2 x3)) h5)), (.w .g), (.p true), (.b true), .g, .g]) (ds := F15_m1_0) (ks := [11]) (e := ((F15_x1 h5) ((0, a8) : Nat × Int)).1) (s2 := ((F15_x1 h5) ((0, a8) : Nat × Int)).2) (hC := (And.intro c18 (And.intro c12 (And.intro (g_tt c12) (And.intro (show AKeep h5 h5 from (AHeap.sub_refl h5)) (And.intro (F47_spec y10.1 y10.2.1 y10.2.2.1 y10.2.2.2 x3 h5 _ rfl) (And.intro (g_tt c12) (And.intro (g_tt c12) (And.intro (show AKeep h5 h5 from (AHeap.sub_refl h5)) (And.intro (F44_spec y10.1 l4 v4 id5 0 g5 h5 (SlE.mono hv4 (Heapy.sub hp5) (E3_mono (Heapy.sub hp5))) (Heapy.boxat (id := id5) (g := g5) (n := 1) (c := 1) (el := 25) (cells := [(sv v4)]) hp5 0 rfl) _ e15) (And.intro (g_tt c12) (And.intro (show AKeep h5 h5 from (AHeap.sub_refl h5)) (And.intro (F44_spec y10.2.1 l4 v4 id5 0 g5 h5 (SlE.mono hv4 (Heapy.sub hp5) (E3_mono (Heapy.sub hp5))) (Heapy.boxat (id := id5) (g := g5) (n := 1) (c := 1) (el := 25) (cells := [(sv v4)]) hp5 0 rfl) _ e13) (And.intro (g_tt c12) (And.intro (g_tt c12) (And.intro (g_tt c12) (And.intro (g_tt c12) (And.intro (g_tt c12) (And.intro (g_tt c12) (And.intro (g_tt c12) (And.intro (g_tt c12) (And.intro (g_tt c12) (And.intro (show AKeep h5 h5 from (AHeap.sub_refl h5)) (And.intro (F46_spec (F39 x1) y10.1 y10.2.1 y10.2.2.1 y10.2.2.2 h5 _ rfl) (And.intro (At.agg (P := Try.prog) (t := 29) (v := .agg #[.int .i64 y10.1, .int .i64 y10.2.1, .int .i64 y10.2.2.1, .int .i64 y10.2.2.2]) (m := 4) (At.mono (Heapy.sub hp5) at10) (by kernel_rfl) (by kernel_rfl) 0 (by kernel_rfl) rfl) (And.intro ix10 (And.intro c9 trivial))))))))))))))))))))))))))) (hd := F15_d1) (h := by kernel_rfl)
      · intro hr
        obtain rfl := Option.some.inj hr
        show AWp Try.prog _ (Ends1 .normal (F15_h1 x1 l2 v2 x3 id5 g5 h5 (IntKind.i64.wrap (a8 + 1)))) _
        exact pEnd_sound good (L := F15_L) (D := F15_D) (its := [.g, (.b true), .g, (.ix id10 off10 g10), (.ld (.agg #[.int .i64 y10.1, .int .i64 y10.2.1, .int .i64 y10.2.2.1, .int .i64 y10.2.2.2])), .g, .g, .g, .g, .g, (.c (.bool (F46 (F39 x1) y10.1 y10.2.1 y10.2.2.1 y10.2.2.2)) h5), .g, (.w .g), (.w .g), (.w .g), (.w .g), (.w .g), (.w .g), (.w .g), (.w .g), (.w (.c (.int .i64 y13) h5)), (.w (.c (.int .i64 y15) h5)), (.w .g), (.w (.c (.int .i64 (F47 y10.1 y10.2.1 y10.2.2.1 y10.2.2.2 x3)) h5)), (.w .g), (.p true), (.b false), .g, .g]) (ds := F15_m1_1) (ks := [11]) (e := .normal) (s2 := (F15_h1 x1 l2 v2 x3 id5 g5 h5 (IntKind.i64.wrap (a8 + 1)))) (hC := (And.intro c18 (And.intro c12 (And.intro (g_tt c12) (And.intro (show AKeep h5 h5 from (AHeap.sub_refl h5)) (And.intro (F47_spec y10.1 y10.2.1 y10.2.2.1 y10.2.2.2 x3 h5 _ rfl) (And.intro (g_tt c12) (And.intro (g_tt c12) (And.intro (show AKeep h5 h5 from (AHeap.sub_refl h5)) (And.intro (F44_spec y10.1 l4 v4 id5 0 g5 h5 (SlE.mono hv4 (Heapy.sub hp5) (E3_mono (Heapy.sub hp5))) (Heapy.boxat (id := id5) (g := g5) (n := 1) (c := 1) (el := 25) (cells := [(sv v4)]) hp5 0 rfl) _ e15) (And.intro (g_tt c12) (And.intro (show AKeep h5 h5 from (AHeap.sub_refl h5)) (And.intro (F44_spec y10.2.1 l4 v4 id5 0 g5 h5 (SlE.mono hv4 (Heapy.sub hp5) (E3_mono (Heapy.sub hp5))) (Heapy.boxat (id := id5) (g := g5) (n := 1) (c := 1) (el := 25) (cells := [(sv v4)]) hp5 0 rfl) _ e13) (And.intro (g_tt c12) (And.intro (g_tt c12) (And.intro (g_tt c12) (And.intro (g_tt c12) (And.intro (g_tt c12) (And.intro (g_tt c12) (And.intro (g_tt c12) (And.intro (g_tt c12) (And.intro (g_tt c12) (And.intro (show AKeep h5 h5 from (AHeap.sub_refl h5)) (And.intro (F46_spec (F39 x1) y10.1 y10.2.1 y10.2.2.1 y10.2.2.2 h5 _ rfl) (And.intro (At.agg (P := Try.prog) (t := 29) (v := .agg #[.int .i64 y10.1, .int .i64 y10.2.1, .int .i64 y10.2.2.1, .int .i64 y10.2.2.2]) (m := 4) (At.mono (Heapy.sub hp5) at10) (by kernel_rfl) (by kernel_rfl) 0 (by kernel_rfl) rfl) (And.intro ix10 (And.intro c9 trivial))))))))))))))))))))))))))) (hd := F15_d1) (h := by kernel_rfl)
    · intro hr
      obtain rfl := Option.some.inj hr
      show AWp Try.prog _ (Ends1 .normal (F15_h1 x1 l2 v2 x3 id5 g5 h5 (IntKind.i64.wrap (a8 + 1)))) _
      exact pEnd_sound good (L := F15_L) (D := F15_D) (its := [.g, (.b true), .g, (.ix id10 off10 g10), (.ld (.agg #[.int .i64 y10.1, .int .i64 y10.2.1, .int .i64 y10.2.2.1, .int .i64 y10.2.2.2])), .g, .g, .g, .g, .g, (.c (.bool (F46 (F39 x1) y10.1 y10.2.1 y10.2.2.1 y10.2.2.2)) h5), .g, .n, .n, .n, .n, .n, .n, .n, .n, .n, .n, .n, .n, .n, (.p false), (.b false), .g, .g]) (ds := F15_m1_1) (ks := [11]) (e := .normal) (s2 := (F15_h1 x1 l2 v2 x3 id5 g5 h5 (IntKind.i64.wrap (a8 + 1)))) (hC := (And.intro l_f (And.intro c12 (And.intro (g_ft c12) (And.intro (g_ft c12) (And.intro (g_ft c12) (And.intro (g_ft c12) (And.intro (g_ft c12) (And.intro (g_ft c12) (And.intro (g_ft c12) (And.intro (g_ft c12) (And.intro (g_ft c12) (And.intro (g_ft c12) (And.intro (g_ft c12) (And.intro (g_ft c12) (And.intro (g_ft c12) (And.intro (show AKeep h5 h5 from (AHeap.sub_refl h5)) (And.intro (F46_spec (F39 x1) y10.1 y10.2.1 y10.2.2.1 y10.2.2.2 h5 _ rfl) (And.intro (At.agg (P := Try.prog) (t := 29) (v := .agg #[.int .i64 y10.1, .int .i64 y10.2.1, .int .i64 y10.2.2.1, .int .i64 y10.2.2.2]) (m := 4) (At.mono (Heapy.sub hp5) at10) (by kernel_rfl) (by kernel_rfl) 0 (by kernel_rfl) rfl) (And.intro ix10 (And.intro c9 trivial))))))))))))))))))))) (hd := F15_d1) (h := by kernel_rfl)
  · intro hr
    obtain rfl := Option.some.inj hr
    show AWp Try.prog _ (Ends1 ((F15_x1 h5) ((1, 0) : Nat × Int)).1 ((F15_x1 h5) ((1, 0) : Nat × Int)).2) _
    exact pEnd_sound good (L := F15_L) (D := F15_D) (its := [.g, (.b false)]) (ds := F15_m1_2) (ks := []) (e := ((F15_x1 h5) ((1, 0) : Nat × Int)).1) (s2 := ((F15_x1 h5) ((1, 0) : Nat × Int)).2) (hC := (And.intro c9 trivial)) (hd := F15_d1) (h := by kernel_rfl)
theorem F15_l1_0 (h : AHeap) (x1 : Int) (l2 : List (Int × Int × Int × Int)) (v2 : Hd) (hv2 : SlE E29 4 h (sv v2) l2) (x3 : Int) (l4 : List Int) (v4 : Hd) (hv4 : SlE E3 1 h (sv v4) l4) (id5 : Nat) (g5 : Nat) (h5 : AHeap) (hp5 : Heapy h h5 [⟨⟨some ⟨id5, 0, some g5⟩, 1, 1⟩, 25, 1, [(sv v4)]⟩]) (x : Int) (r : Nat × Int) (hl : loopO (fun (s : Int) => F15_s1 x1 l2 x3 l4 s) x = some r) (q0 : Nat.beq r.1 0 = true) : AWp Try.prog (.loop (codeOf Try.prog 15 [1, 1, 1, 0, 1, 0, 0])) (Ends1 .ret (F15_x1_0 h5 r)) ((fun (s : Int) => (F15_h1 x1 l2 v2 x3 id5 g5 h5 s)) x) := by
  have k := loop_fun (P := Try.prog) (c := (codeOf Try.prog 15 [1, 1, 1, 0, 1, 0, 0])) (step := (fun (s : Int) => F15_s1 x1 l2 x3 l4 s)) (hd := (fun (s : Int) => (F15_h1 x1 l2 v2 x3 id5 g5 h5 s))) (X := (F15_x1 h5)) (by intro t; unfold F15_x1; cases Nat.beq t.1 0 <;> (intro h; cases h)) (fun x => F15_r1 h x1 l2 v2 hv2 x3 l4 v4 hv4 id5 g5 h5 hp5 x) hl
  simp only [F15_x1, q0, cond_true, cond_false] at k
  exact k
theorem F15_l1_1 (h : AHeap) (x1 : Int) (l2 : List (Int × Int × Int × Int)) (v2 : Hd) (hv2 : SlE E29 4 h (sv v2) l2) (x3 : Int) (l4 : List Int) (v4 : Hd) (hv4 : SlE E3 1 h (sv v4) l4) (id5 : Nat) (g5 : Nat) (h5 : AHeap) (hp5 : Heapy h h5 [⟨⟨some ⟨id5, 0, some g5⟩, 1, 1⟩, 25, 1, [(sv v4)]⟩]) (x : Int) (r : Nat × Int) (hl : loopO (fun (s : Int) => F15_s1 x1 l2 x3 l4 s) x = some r) (q0 : Nat.beq r.1 0 = false) : AWp Try.prog (.loop (codeOf Try.prog 15 [1, 1, 1, 0, 1, 0, 0])) (Ends1 (.exit 0) (F15_x1_1 h5 r)) ((fun (s : Int) => (F15_h1 x1 l2 v2 x3 id5 g5 h5 s)) x) := by
  have k := loop_fun (P := Try.prog) (c := (codeOf Try.prog 15 [1, 1, 1, 0, 1, 0, 0])) (step := (fun (s : Int) => F15_s1 x1 l2 x3 l4 s)) (hd := (fun (s : Int) => (F15_h1 x1 l2 v2 x3 id5 g5 h5 s))) (X := (F15_x1 h5)) (by intro t; unfold F15_x1; cases Nat.beq t.1 0 <;> (intro h; cases h)) (fun x => F15_r1 h x1 l2 v2 hv2 x3 l4 v4 hv4 id5 g5 h5 hp5 x) hl
  simp only [F15_x1, q0, cond_true, cond_false] at k
  exact k
def F15 (x1 : Int) (l2 : List (Int × Int × Int × Int)) (x3 : Int) (l4 : List Int) : Option (Int) :=
  (Option.bind (loopO (fun (s : Int) => F15_s1 x1 l2 x3 l4 s) 0) fun y19 =>
  (bif (Nat.beq y19.1 0) then
   some (y19.2)
  else
   some (-1)))
set_option maxRecDepth 100000 in
theorem F15_spec (x1 : Int) (l2 : List (Int × Int × Int × Int)) (x3 : Int) (l4 : List Int) (v2 : Hd) (v4 : Hd) (h : AHeap) (hw : h.wf) (hv2 : SlE E29 4 h (sv v2) l2) (hv4 : SlE E3 1 h (sv v4) l4) (r : Int) : F15 x1 l2 x3 l4 = some r → ∃ (h' : AHeap), Heapy h h' [] ∧ ACalls Try.prog 15 [.int .i64 x1, (sv v2), .int .i64 x3, (sv v4)] h (fun v' h'' => v' = (.int .i64 r : Value) ∧ h'' = h') := by
  unfold F15
  obtain ⟨id5, g5, h5, m5, hp5⟩ := Heapy.box (P := Try.prog) (Heapy.refl hw) 25 [(sv v4)] (c := 1) rfl
  refine bind_opt fun y19 e19 => ?_
  refine dec_bif (fun c20 => ?_) (fun c20 => ?_)
  · intro hr
    obtain rfl := Option.some.inj hr
    exact ⟨h5, Heapy.pick hp5 [] (by decide), pFun_sound good tab_ok (f := 15) (its := [(.mm (.pointer (some ⟨id5, 0, some g5⟩)) h5), .g, .g, (.c (.int .i64 (F39 x1)) h5), .g, .g, .g, .g, (.ln l2.length), .g, (.l F15_m1_1 [] .ret (F15_x1_0 h5 y19))]) (args := [.int .i64 x1, (sv v2), .int .i64 x3, (sv v4)]) (h := h) (h' := h5) (v := .int .i64 y19.2) (hC := (And.intro (F15_l1_0 h x1 l2 v2 hv2 x3 l4 v4 hv4 id5 g5 h5 hp5 0 y19 e19 c20) (And.intro (SlE.len hv2) (And.intro (F39_spec x1 h5 _ rfl) (And.intro m5 trivial))))) (hr := by kernel_rfl)⟩
  · intro hr
    obtain rfl := Option.some.inj hr
    exact ⟨h5, Heapy.pick hp5 [] (by decide), pFun_sound good tab_ok (f := 15) (its := [(.mm (.pointer (some ⟨id5, 0, some g5⟩)) h5), .g, .g, (.c (.int .i64 (F39 x1)) h5), .g, .g, .g, .g, (.ln l2.length), .g, (.l F15_m1_1 [] (.exit 0) (F15_x1_1 h5 y19)), .g]) (args := [.int .i64 x1, (sv v2), .int .i64 x3, (sv v4)]) (h := h) (h' := h5) (v := .int .i64 (-1)) (hC := (And.intro (F15_l1_1 h x1 l2 v2 hv2 x3 l4 v4 hv4 id5 g5 h5 hp5 0 y19 e19 c20) (And.intro (SlE.len hv2) (And.intro (F39_spec x1 h5 _ rfl) (And.intro m5 trivial))))) (hr := by kernel_rfl)⟩
end
end Go.Proofs.Ytpmbcnknnolojaa.Abs
