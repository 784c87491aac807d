/-
  Contracts, written by program: for each function what its call yields, and that it yields it.
-/
import Derived.Test.YtmncgnjginibiaaDet
namespace Go.Proofs.Ytmncgnjginibiaa.Abs
open Go
set_option linter.unusedVariables false
set_option linter.unusedSimpArgs false

noncomputable section
/-! 43 jacquard/jacquardref30.Nodes -/
def F43 (x1 : Int) : Int :=
  (if 8192 < (if 0 > x1 then 0 else x1) then 8192 else (if 0 > x1 then 0 else x1))
set_option maxRecDepth 100000 in
theorem F43_spec (x1 : Int) (h : AHeap)  (r : Int) : F43 x1 = r → ACalls Try.prog 43 [.int .i64 x1] h (fun v' h'' => v' = (.int .i64 r : Value) ∧ h'' = h) := by
  unfold F43
  intro hr
  subst hr
  exact pFun_sound good tab_ok (f := 43) (its := [.g, .g, .g, .g, .g]) (args := [.int .i64 x1]) (h := h) (h' := h) (v := .int .i64 (if 8192 < (if 0 > x1 then 0 else x1) then 8192 else (if 0 > x1 then 0 else x1))) (hC := trivial) (hr := by kernel_rfl)
def enc81 (x : Int × Int × Int × Int) : List Value := [.int .i64 x.1, .int .i64 x.2.1, .int .i64 x.2.2.1, .int .i64 x.2.2.2]
def E81 (h : AHeap) (cs : List Value) (x : Int × Int × Int × Int) : Prop := cs = enc81 x
theorem E81_mono {h h' : AHeap} (le : h.sub h') (cs : List Value) (x : Int × Int × Int × Int) (H : E81 h cs x) : E81 h' cs x := H
def W81 (x : Int × Int × Int × Int) : Prop := (Lit.int .i64 x.1).wf = true ∧ (Lit.int .i64 x.2.1).wf = true ∧ (Lit.int .i64 x.2.2.1).wf = true ∧ (Lit.int .i64 x.2.2.2).wf = true ∧ True
set_option maxRecDepth 100000 in
theorem E81_wt {h : AHeap} {n : Nat} {cs : List Value} (H : WT Try.prog h n 81 cs) : ∃ x, E81 h cs x ∧ W81 x := by
  have k : SQ Try.prog h [.int .i64, .int .i64, .int .i64, .int .i64] cs := wt_flatS 2 n (by kernel_rfl) H
  obtain ⟨x0, r0, rfl, w0, k0⟩ := sq_int k
  obtain ⟨x1, r1, rfl, w1, k1⟩ := sq_int k0
  obtain ⟨x2, r2, rfl, w2, k2⟩ := sq_int k1
  obtain ⟨x3, r3, rfl, w3, k3⟩ := sq_int k2
  obtain rfl := sq_nil k3
  exact ⟨(x0, x1, x2, x3), rfl, ⟨w0, w1, w2, w3, trivial⟩⟩
/-! 16 jacquard/jacquardlaw30.few -/
def F16 (x1 : Int) (l2 : List (Int × Int × Int × Int)) (x3 : Int) : Bool :=
  (bif decide ((F43 x1) ≤ 20) then
   (decide ((l2.length : Int) ≤ 60))
  else
   false)
set_option maxRecDepth 100000 in
theorem F16_spec (x1 : Int) (l2 : List (Int × Int × Int × Int)) (x3 : Int) (v2 : Hd) (h : AHeap) (hv2 : SlE E81 4 h (sv v2) l2) (r : Bool) : F16 x1 l2 x3 = r → ACalls Try.prog 16 [.agg #[.int .i64 x1, (sv v2), .int .i64 x3]] h (fun v' h'' => v' = (.bool r : Value) ∧ h'' = h) := by
  unfold F16
  refine dec_bif (fun c5 => ?_) (fun c5 => ?_)
  · intro hr
    subst hr
    exact pFun_sound good tab_ok (f := 16) (its := [.g, .g, .g, .g, (.c (.int .i64 (F43 x1)) h), .g, .g, (.w .g), (.w .g), (.w (.ln l2.length)), (.w .g), (.p true), .g]) (args := [.agg #[.int .i64 x1, (sv v2), .int .i64 x3]]) (h := h) (h' := h) (v := .bool (decide ((l2.length : Int) ≤ 60))) (hC := (ai c5 (ai (g_tt c5) (ai (SlE.len hv2) (ai (g_tt c5) (ai (g_tt c5) (ai (g_tt c5) (ai (F43_spec x1 h _ rfl) trivial)))))))) (hr := by kernel_rfl)
  · intro hr
    subst hr
    exact pFun_sound good tab_ok (f := 16) (its := [.g, .g, .g, .g, (.c (.int .i64 (F43 x1)) h), .g, .g, .n, .n, .n, .n, (.p false), .g]) (args := [.agg #[.int .i64 x1, (sv v2), .int .i64 x3]]) (h := h) (h' := h) (v := .bool false) (hC := (ai c5 (ai (g_ft c5) (ai (g_ft c5) (ai (g_ft c5) (ai (g_ft c5) (ai (F43_spec x1 h _ rfl) trivial))))))) (hr := by kernel_rfl)
/-! 48 jacquard/diffcons.size -/
def F48 (x1 : Int) : Int :=
  (if 8192 < (if 0 > x1 then 0 else x1) then 8192 else (if 0 > x1 then 0 else x1))
set_option maxRecDepth 100000 in
theorem F48_spec (x1 : Int) (h : AHeap)  (r : Int) : F48 x1 = r → ACalls Try.prog 48 [.int .i64 x1] h (fun v' h'' => v' = (.int .i64 r : Value) ∧ h'' = h) := by
  unfold F48
  intro hr
  subst hr
  exact pFun_sound good tab_ok (f := 48) (its := [.g, .g, .g, .g, .g]) (args := [.int .i64 x1]) (h := h) (h' := h) (v := .int .i64 (if 8192 < (if 0 > x1 then 0 else x1) then 8192 else (if 0 > x1 then 0 else x1))) (hC := trivial) (hr := by kernel_rfl)
/-! 78 jacquard/diffcons.counts -/
def F78 (x1 : Int) (x2 : Int) (x3 : Int) (x4 : Int) (x5 : Int) : Bool :=
  (bif decide (x2 ≥ 0) then
   (bif decide (x2 < x1) then
    (bif decide (x3 ≥ 0) then
     (decide (x3 < x1))
    else
     false)
   else
    false)
  else
   false)
set_option maxRecDepth 100000 in
theorem F78_spec (x1 : Int) (x2 : Int) (x3 : Int) (x4 : Int) (x5 : Int) (h : AHeap)  (r : Bool) : F78 x1 x2 x3 x4 x5 = r → ACalls Try.prog 78 [.int .i64 x1, .agg #[.int .i64 x2, .int .i64 x3, .int .i64 x4, .int .i64 x5]] h (fun v' h'' => v' = (.bool r : Value) ∧ h'' = h) := by
  unfold F78
  refine dec_bif (fun c6 => ?_) (fun c6 => ?_)
  · refine dec_bif (fun c7 => ?_) (fun c7 => ?_)
    · refine dec_bif (fun c8 => ?_) (fun c8 => ?_)
      · intro hr
        subst hr
        exact pFun_sound good tab_ok (f := 78) (its := [.g, .g, .g, .g, .g, .g, (.w .g), (.w .g), (.w .g), (.w .g), (.p true), .g, (.w .g), (.w .g), (.w .g), (.p true), .g, (.w .g), (.w .g), (.w .g), (.w .g), (.p true), .g]) (args := [.int .i64 x1, .agg #[.int .i64 x2, .int .i64 x3, .int .i64 x4, .int .i64 x5]]) (h := h) (h' := h) (v := .bool (decide (x3 < x1))) (hC := (ai c8 (ai (g_tt c8) (ai (g_tt c8) (ai (g_tt c8) (ai (g_tt c8) (ai c7 (ai (g_tt c7) (ai (g_tt c7) (ai (g_tt c7) (ai c6 (ai (g_tt c6) (ai (g_tt c6) (ai (g_tt c6) (ai (g_tt c6) trivial))))))))))))))) (hr := by kernel_rfl)
      · intro hr
        subst hr
        exact pFun_sound good tab_ok (f := 78) (its := [.g, .g, .g, .g, .g, .g, (.w .g), (.w .g), (.w .g), (.w .g), (.p true), .g, (.w .g), (.w .g), (.w .g), (.p true), .g, .n, .n, .n, .n, (.p false), .g]) (args := [.int .i64 x1, .agg #[.int .i64 x2, .int .i64 x3, .int .i64 x4, .int .i64 x5]]) (h := h) (h' := h) (v := .bool false) (hC := (ai c8 (ai (g_ft c8) (ai (g_ft c8) (ai (g_ft c8) (ai (g_ft c8) (ai c7 (ai (g_tt c7) (ai (g_tt c7) (ai (g_tt c7) (ai c6 (ai (g_tt c6) (ai (g_tt c6) (ai (g_tt c6) (ai (g_tt c6) trivial))))))))))))))) (hr := by kernel_rfl)
    · intro hr
      subst hr
      exact pFun_sound good tab_ok (f := 78) (its := [.g, .g, .g, .g, .g, .g, (.w .g), (.w .g), (.w .g), (.w .g), (.p true), .g, .n, .n, .n, (.p false), .g, .n, .n, .n, .n, .g, .g]) (args := [.int .i64 x1, .agg #[.int .i64 x2, .int .i64 x3, .int .i64 x4, .int .i64 x5]]) (h := h) (h' := h) (v := .bool false) (hC := (ai (g_ft l_f) (ai (g_ft l_f) (ai (g_ft l_f) (ai (g_ft l_f) (ai c7 (ai (g_ft c7) (ai (g_ft c7) (ai (g_ft c7) (ai c6 (ai (g_tt c6) (ai (g_tt c6) (ai (g_tt c6) (ai (g_tt c6) trivial)))))))))))))) (hr := by kernel_rfl)
  · intro hr
    subst hr
    exact pFun_sound good tab_ok (f := 78) (its := [.g, .g, .g, .g, .g, .g, .n, .n, .n, .n, (.p false), .g, .n, .n, .n, .g, .g, .n, .n, .n, .n, .g, .g]) (args := [.int .i64 x1, .agg #[.int .i64 x2, .int .i64 x3, .int .i64 x4, .int .i64 x5]]) (h := h) (h' := h) (v := .bool false) (hC := (ai (g_ft l_f) (ai (g_ft l_f) (ai (g_ft l_f) (ai (g_ft l_f) (ai (g_ft l_f) (ai (g_ft l_f) (ai (g_ft l_f) (ai c6 (ai (g_ft c6) (ai (g_ft c6) (ai (g_ft c6) (ai (g_ft c6) trivial))))))))))))) (hr := by kernel_rfl)
/-! 80 jacquard/diffcons.limit -/
def F80__1 (x1 : Int) (x2 : Int) : Int := (if x2 < (if (IntKind.i64.wrap (0 - x2)) > x1 then (IntKind.i64.wrap (0 - x2)) else x1) then x2 else (if (IntKind.i64.wrap (0 - x2)) > x1 then (IntKind.i64.wrap (0 - x2)) else x1))
def F80 (x1 : Int) (x2 : Int) : Int :=
  (F80__1 x1 x2)
set_option maxRecDepth 100000 in
theorem F80_spec (x1 : Int) (x2 : Int) (h : AHeap)  (r : Int) : F80 x1 x2 = r → ACalls Try.prog 80 [.int .i64 x1, .int .i64 x2] h (fun v' h'' => v' = (.int .i64 r : Value) ∧ h'' = h) := by
  unfold F80
  intro hr
  subst hr
  exact pFun_sound good tab_ok (f := 80) (its := [.g, .g, .g, .g, .g, .g, .g, .g]) (args := [.int .i64 x1, .int .i64 x2]) (h := h) (h' := h) (v := .int .i64 (F80__1 x1 x2)) (hC := trivial) (hr := by kernel_rfl)
/-! 79 jacquard/diffcons.Weight -/
def F79__1 (x4 : Int) (x5 : Int) : Int := (IntKind.i64.wrap ((if 256 < (if 0 > x5 then 0 else x5) then 256 else (if 0 > x5 then 0 else x5)) * (F80 x4 1048576)))
def F79 (x1 : Int) (x2 : Int) (x3 : Int) (x4 : Int) (x5 : Int) : Int :=
  (IntKind.i64.wrap ((F80 x3 1048576) - (F79__1 x4 x5)))
set_option maxRecDepth 100000 in
theorem F79_spec (x1 : Int) (x2 : Int) (x3 : Int) (x4 : Int) (x5 : Int) (h : AHeap)  (r : Int) : F79 x1 x2 x3 x4 x5 = r → ACalls Try.prog 79 [.agg #[.int .i64 x1, .int .i64 x2, .int .i64 x3, .int .i64 x4], .int .i64 x5] h (fun v' h'' => v' = (.int .i64 r : Value) ∧ h'' = h) := by
  unfold F79
  intro hr
  subst hr
  exact pFun_sound good tab_ok (f := 79) (its := [.g, .g, .g, .g, .g, .g, .g, .g, .g, (.c (.int .i64 (F80 x3 1048576)) h), (.c (.int .i64 (F80 x4 1048576)) h), .g, .g, .g]) (args := [.agg #[.int .i64 x1, .int .i64 x2, .int .i64 x3, .int .i64 x4], .int .i64 x5]) (h := h) (h' := h) (v := .int .i64 (IntKind.i64.wrap ((F80 x3 1048576) - (F79__1 x4 x5)))) (hC := (ai (show AKeep h h from (AHeap.sub_refl h)) (ai (F80_spec x4 1048576 h _ rfl) (ai (show AKeep h h from (AHeap.sub_refl h)) (ai (F80_spec x3 1048576 h _ rfl) trivial))))) (hr := by kernel_rfl)
def enc114 (x : Int × Int × Int × Int) : List Value := [.int .i64 x.1, .int .i64 x.2.1, .int .i64 x.2.2.1, .int .i64 x.2.2.2]
def E114 (h : AHeap) (cs : List Value) (x : Int × Int × Int × Int) : Prop := cs = enc114 x
theorem E114_mono {h h' : AHeap} (le : h.sub h') (cs : List Value) (x : Int × Int × Int × Int) (H : E114 h cs x) : E114 h' cs x := H
def W114 (x : Int × Int × Int × Int) : Prop := (Lit.int .i64 x.1).wf = true ∧ (Lit.int .i64 x.2.1).wf = true ∧ (Lit.int .i64 x.2.2.1).wf = true ∧ (Lit.int .i64 x.2.2.2).wf = true ∧ True
set_option maxRecDepth 100000 in
theorem E114_wt {h : AHeap} {n : Nat} {cs : List Value} (H : WT Try.prog h n 114 cs) : ∃ x, E114 h cs x ∧ W114 x := by
  have k : SQ Try.prog h [.int .i64, .int .i64, .int .i64, .int .i64] cs := wt_flatS 2 n (by kernel_rfl) H
  obtain ⟨x0, r0, rfl, w0, k0⟩ := sq_int k
  obtain ⟨x1, r1, rfl, w1, k1⟩ := sq_int k0
  obtain ⟨x2, r2, rfl, w2, k2⟩ := sq_int k1
  obtain ⟨x3, r3, rfl, w3, k3⟩ := sq_int k2
  obtain rfl := sq_nil k3
  exact ⟨(x0, x1, x2, x3), rfl, ⟨w0, w1, w2, w3, trivial⟩⟩
/-! 49 jacquard/diffcons.edges -/
def F49_L : List Nat := [11]
def F49_D : List (Nat × List (Nat × Nat)) := [(8, [(0, 2), (1, 2), (3, 2), (5, 2), (6, 2), (8, 2), (2, 3), (4, 3), (7, 1), (9, 2), (10, 0), (11, 0), (12, 2)]), (5, [(0, 2), (1, 2), (3, 2), (5, 2), (6, 2), (8, 2), (2, 3), (4, 3), (7, 1), (9, 2), (10, 0), (11, 0), (12, 2)])]
def F49_m1_1 : List Bool := [true, true, true, true, true, true, true, true, true, false, true, true, true, true, true, true, true, true, true, true, true, true, true, true, true, true, true, true, true, true, true, true, true, true, true, true, true, true, true, true, true, true, true, true, true, true, true, true, true, true, true, true]
def F49_m1_0 : List Bool := [false, true, false, false, true, true, true, true, true, false, true, true, false, false, false, true, true, true, true, true, true, true, true, true, true, true, true, true, true, true, true, true, true, true, true, true, true, true, true, true, true, true, true, true, true, true, true, true, true, true, true, true]
def F49_s1 (x1 : Int) (l2 : List (Int × Int × Int × Int)) (x3 : Int) (x4 : Bool) (a7 : Int) (l8 : List (Int × Int × Int × Int)) : Option ((Int × (List (Int × Int × Int × Int))) ⊕ (List (Int × Int × Int × Int))) :=
  (bif decide (a7 < (l2.length : Int)) then
   (Option.bind (at? l2 a7) fun y11 =>
   (bif (!(F78 x1 y11.1 y11.2.1 y11.2.2.1 y11.2.2.2)) then
    some (.inl ((IntKind.i64.wrap (a7 + 1)), l8))
   else
    (bif x4 then
     (bif (!(okApp (l8.length + ([(y11.2.1, y11.1, (F79 y11.1 y11.2.1 y11.2.2.1 y11.2.2.2 x3), a7)] : List (Int × Int × Int × Int)).length) 32)) then none else
     some (.inl ((IntKind.i64.wrap (a7 + 1)), (l8 ++ ([(y11.2.1, y11.1, (F79 y11.1 y11.2.1 y11.2.2.1 y11.2.2.2 x3), a7)] : List (Int × Int × Int × Int))))))
    else
     (bif (!(okApp (l8.length + ([(y11.1, y11.2.1, (F79 y11.1 y11.2.1 y11.2.2.1 y11.2.2.2 x3), a7)] : List (Int × Int × Int × Int)).length) 32)) then none else
     some (.inl ((IntKind.i64.wrap (a7 + 1)), (l8 ++ ([(y11.1, y11.2.1, (F79 y11.1 y11.2.1 y11.2.2.1 y11.2.2.2 x3), a7)] : List (Int × Int × Int × Int)))))))))
  else
   some (.inr l8))
def F49_h1 (x1 : Int) (l2 : List (Int × Int × Int × Int)) (v2 : Hd) (x3 : Int) (x4 : Bool) (h9 : AHeap) (u8 : Hd) (a7 : Int) (l8 : List (Int × Int × Int × Int)) : AS := ⟨[.int .i64 x1, junk, .int .i64 x3, .bool x4, junk, junk, junk, junk, junk, (sv u8), junk, junk, (sv v2), .int .i64 (l2.length : Int), .int .i64 a7, junk, junk, junk, junk, junk, junk, junk, junk, junk, junk, junk, junk, junk, junk, junk, junk, junk, junk, junk, junk, junk, junk, junk, junk, junk, junk, junk, junk, junk, junk, junk, junk, junk, junk, junk, junk, junk], [], h9⟩
theorem F49_d1 : drawsOk F49_D (codeOf Try.prog 49 [1, 1, 0, 1, 0, 0]) = true := by kernel_rfl
def F49_x1_0 (h : AHeap) (hx : AHeap) (w0 : Hd) (r : (List (Int × Int × Int × Int))) : AS := ⟨[junk, junk, junk, junk, junk, junk, junk, junk, junk, (sv w0), junk, junk, junk, junk, junk, junk, junk, junk, junk, junk, junk, junk, junk, junk, junk, junk, junk, junk, junk, junk, junk, junk, junk, junk, junk, junk, junk, junk, junk, junk, junk, junk, junk, junk, junk, junk, junk, junk, junk, junk, junk, junk], [], hx⟩
def F49_i1 (h : AHeap) (x1 : Int) (l2 : List (Int × Int × Int × Int)) (v2 : Hd) (x3 : Int) (x4 : Bool) (s : Int × (List (Int × Int × Int × Int))) (S : AS) : Prop := ∃ (h9 : AHeap) (u8 : Hd), Heapy h h9 [⟨u8, 114, 4, List.flatMap enc114 s.2⟩] ∧ Strict u8 ∧ S = (F49_h1 x1 l2 v2 x3 x4 h9 u8 s.1 s.2)
def F49_x1 (h : AHeap) (r : (List (Int × Int × Int × Int))) (e : Exit) (S : AS) : Prop := e = (.exit 0) ∧ ∃ (hx : AHeap) (w0 : Hd), Heapy h hx [⟨w0, 114, 4, List.flatMap enc114 r⟩] ∧ Strict w0 ∧ S = (F49_x1_0 h hx w0 r)
set_option maxRecDepth 100000 in
theorem F49_r1 (h : AHeap) (x1 : Int) (l2 : List (Int × Int × Int × Int)) (v2 : Hd) (hv2 : SlE E81 4 h (sv v2) l2) (x3 : Int) (x4 : Bool) (a7 : Int) (l8 : List (Int × Int × Int × Int)) (S : AS) (hI : (F49_i1 h x1 l2 v2 x3 x4) (a7, l8) S) (o : (Int × (List (Int × Int × Int × Int))) ⊕ (List (Int × Int × Int × Int))) : F49_s1 x1 l2 x3 x4 a7 l8 = some o → Rd Try.prog (codeOf Try.prog 49 [1, 1, 0, 1, 0, 0]) (F49_i1 h x1 l2 v2 x3 x4) (F49_x1 h) S o := by
  obtain ⟨h9, u8, hp9, z8, rfl⟩ := hI
  unfold F49_s1
  refine dec_bif (fun c10 => ?_) (fun c10 => ?_)
  · refine bind_opt fun y11 e11 => ?_
    obtain ⟨id11, off11, g11, cs11, ix11, at11, rfl⟩ := SlE.at hv2 e11
    refine dec_bif (fun c13 => ?_) (fun c13 => ?_)
    · intro hr
      obtain rfl := Option.some.inj hr
      exact ⟨(F49_h1 x1 l2 v2 x3 x4 h9 u8 (IntKind.i64.wrap (a7 + 1)) l8), ⟨h9, u8, (Heapy.pick hp9 [0] (by decide)), z8, rfl⟩, pEnd_sound good (L := F49_L) (D := F49_D) (its := [.g, (.b true), .g, (.ix id11 off11 g11), (.ld (.agg #[.int .i64 y11.1, .int .i64 y11.2.1, .int .i64 y11.2.2.1, .int .i64 y11.2.2.2])), .g, .g, .g, .g, .g, (.c (.bool (F78 x1 y11.1 y11.2.1 y11.2.2.1 y11.2.2.2)) h9), .g, .g, (.b true), .g, .g]) (ds := F49_m1_0) (ks := [11]) (e := .normal) (s2 := (F49_h1 x1 l2 v2 x3 x4 h9 u8 (IntKind.i64.wrap (a7 + 1)) l8)) (hC := (ai c13 (ai (F78_spec x1 y11.1 y11.2.1 y11.2.2.1 y11.2.2.2 h9 _ rfl) (ai (At.agg (P := Try.prog) (t := 81) (v := .agg #[.int .i64 y11.1, .int .i64 y11.2.1, .int .i64 y11.2.2.1, .int .i64 y11.2.2.2]) (m := 4) (At.mono (Heapy.sub hp9) at11) (by kernel_rfl) (by kernel_rfl) 0 (by kernel_rfl) rfl) (ai ix11 (ai c10 trivial)))))) (hd := F49_d1) (h := by kernel_rfl)⟩
    · refine dec_bif (fun c14 => ?_) (fun c14 => ?_)
      · obtain ⟨v16, h16, m16, hp16, _⟩ := Heapy.build (P := Try.prog) hp9 (t := 88) (e := 114) (len := 1) (n := 4) (parts := [(0, .agg #[.int .i64 y11.2.1, .int .i64 y11.1, .int .i64 (F79 y11.1 y11.2.1 y11.2.2.1 y11.2.2.2 x3), .int .i64 a7])]) (cells := List.flatMap enc114 ([(y11.2.1, y11.1, (F79 y11.1 y11.2.1 y11.2.2.1 y11.2.2.2 x3), a7)] : List (Int × Int × Int × Int))) (by kernel_rfl) rfl
        refine guard_ok fun g18 => ?_
        obtain ⟨v19, h19, m19, q19, _, w19⟩ := Heapy.append hp16 (show mkInfo Try.prog 88 = some (114, 4, 32, [.int .i64 0, .int .i64 0, .int .i64 0, .int .i64 0]) by kernel_rfl) 1 (v := u8) (cells := List.flatMap enc114 l8) rfl (Y := (sv v16)) (SlE.src (enc := enc114) (c := 4) (Heapy.sle (v := v16) (xs := ([(y11.2.1, y11.1, (F79 y11.1 y11.2.1 y11.2.2.1 y11.2.2.2 x3), a7)] : List (Int × Int × Int × Int))) (enc := enc114) hp16 0 rfl (fun _ => rfl) (by decide)) (fun _ => rfl)) (flatMap_length (enc := enc114) (c := 4) (fun _ => rfl) _) (by rw [Heapy.vn (v := u8) (xs := l8) (enc := enc114) hp16 1 rfl (fun _ => rfl) (by decide)]; simpa using g18)
        have z19 : Strict v19 := w19 z8
        have hp19 : Heapy h h19 [⟨v16, 114, 4, List.flatMap enc114 ([(y11.2.1, y11.1, (F79 y11.1 y11.2.1 y11.2.2.1 y11.2.2.2 x3), a7)] : List (Int × Int × Int × Int))⟩, ⟨v19, 114, 4, List.flatMap enc114 (l8 ++ ([(y11.2.1, y11.1, (F79 y11.1 y11.2.1 y11.2.2.1 y11.2.2.2 x3), a7)] : List (Int × Int × Int × Int)))⟩] := by rw [← List.flatMap_append] at q19; exact q19
        intro hr
        obtain rfl := Option.some.inj hr
        exact ⟨(F49_h1 x1 l2 v2 x3 x4 h19 v19 (IntKind.i64.wrap (a7 + 1)) (l8 ++ ([(y11.2.1, y11.1, (F79 y11.1 y11.2.1 y11.2.2.1 y11.2.2.2 x3), a7)] : List (Int × Int × Int × Int)))), ⟨h19, v19, (Heapy.pick hp19 [1] (by decide)), z19, rfl⟩, pEnd_sound good (L := F49_L) (D := F49_D) (its := [.g, (.b true), .g, (.ix id11 off11 g11), (.ld (.agg #[.int .i64 y11.1, .int .i64 y11.2.1, .int .i64 y11.2.2.1, .int .i64 y11.2.2.2])), .g, .g, .g, .g, .g, (.c (.bool (F78 x1 y11.1 y11.2.1 y11.2.2.1 y11.2.2.2)) h9), .g, .g, (.b false), .g, .g, (.b true), .g, .g, .g, .g, .g, .g, .g, .g, (.c (.int .i64 (F79 y11.1 y11.2.1 y11.2.2.1 y11.2.2.2 x3)) h9), .g, (.mm (sv v16) h16), (.mm (sv v19) h19), .g, .g, .g]) (ds := F49_m1_0) (ks := [11]) (e := .normal) (s2 := (F49_h1 x1 l2 v2 x3 x4 h19 v19 (IntKind.i64.wrap (a7 + 1)) (l8 ++ ([(y11.2.1, y11.1, (F79 y11.1 y11.2.1 y11.2.2.1 y11.2.2.2 x3), a7)] : List (Int × Int × Int × Int))))) (hC := (ai m19 (ai m16 (ai (show AKeep h9 h9 from (AHeap.sub_refl h9)) (ai (F79_spec y11.1 y11.2.1 y11.2.2.1 y11.2.2.2 x3 h9 _ rfl) (ai c14 (ai c13 (ai (F78_spec x1 y11.1 y11.2.1 y11.2.2.1 y11.2.2.2 h9 _ rfl) (ai (At.agg (P := Try.prog) (t := 81) (v := .agg #[.int .i64 y11.1, .int .i64 y11.2.1, .int .i64 y11.2.2.1, .int .i64 y11.2.2.2]) (m := 4) (At.mono (Heapy.sub hp9) at11) (by kernel_rfl) (by kernel_rfl) 0 (by kernel_rfl) rfl) (ai ix11 (ai c10 trivial))))))))))) (hd := F49_d1) (h := by kernel_rfl)⟩
      · obtain ⟨v22, h22, m22, hp22, _⟩ := Heapy.build (P := Try.prog) hp9 (t := 88) (e := 114) (len := 1) (n := 4) (parts := [(0, .agg #[.int .i64 y11.1, .int .i64 y11.2.1, .int .i64 (F79 y11.1 y11.2.1 y11.2.2.1 y11.2.2.2 x3), .int .i64 a7])]) (cells := List.flatMap enc114 ([(y11.1, y11.2.1, (F79 y11.1 y11.2.1 y11.2.2.1 y11.2.2.2 x3), a7)] : List (Int × Int × Int × Int))) (by kernel_rfl) rfl
        refine guard_ok fun g24 => ?_
        obtain ⟨v25, h25, m25, q25, _, w25⟩ := Heapy.append hp22 (show mkInfo Try.prog 88 = some (114, 4, 32, [.int .i64 0, .int .i64 0, .int .i64 0, .int .i64 0]) by kernel_rfl) 1 (v := u8) (cells := List.flatMap enc114 l8) rfl (Y := (sv v22)) (SlE.src (enc := enc114) (c := 4) (Heapy.sle (v := v22) (xs := ([(y11.1, y11.2.1, (F79 y11.1 y11.2.1 y11.2.2.1 y11.2.2.2 x3), a7)] : List (Int × Int × Int × Int))) (enc := enc114) hp22 0 rfl (fun _ => rfl) (by decide)) (fun _ => rfl)) (flatMap_length (enc := enc114) (c := 4) (fun _ => rfl) _) (by rw [Heapy.vn (v := u8) (xs := l8) (enc := enc114) hp22 1 rfl (fun _ => rfl) (by decide)]; simpa using g24)
        have z25 : Strict v25 := w25 z8
        have hp25 : Heapy h h25 [⟨v22, 114, 4, List.flatMap enc114 ([(y11.1, y11.2.1, (F79 y11.1 y11.2.1 y11.2.2.1 y11.2.2.2 x3), a7)] : List (Int × Int × Int × Int))⟩, ⟨v25, 114, 4, List.flatMap enc114 (l8 ++ ([(y11.1, y11.2.1, (F79 y11.1 y11.2.1 y11.2.2.1 y11.2.2.2 x3), a7)] : List (Int × Int × Int × Int)))⟩] := by rw [← List.flatMap_append] at q25; exact q25
        intro hr
        obtain rfl := Option.some.inj hr
        exact ⟨(F49_h1 x1 l2 v2 x3 x4 h25 v25 (IntKind.i64.wrap (a7 + 1)) (l8 ++ ([(y11.1, y11.2.1, (F79 y11.1 y11.2.1 y11.2.2.1 y11.2.2.2 x3), a7)] : List (Int × Int × Int × Int)))), ⟨h25, v25, (Heapy.pick hp25 [1] (by decide)), z25, rfl⟩, pEnd_sound good (L := F49_L) (D := F49_D) (its := [.g, (.b true), .g, (.ix id11 off11 g11), (.ld (.agg #[.int .i64 y11.1, .int .i64 y11.2.1, .int .i64 y11.2.2.1, .int .i64 y11.2.2.2])), .g, .g, .g, .g, .g, (.c (.bool (F78 x1 y11.1 y11.2.1 y11.2.2.1 y11.2.2.2)) h9), .g, .g, (.b false), .g, .g, (.b false), .g, .g, .g, .g, .g, .g, .g, .g, (.c (.int .i64 (F79 y11.1 y11.2.1 y11.2.2.1 y11.2.2.2 x3)) h9), .g, (.mm (sv v22) h22), (.mm (sv v25) h25), .g, .g, .g]) (ds := F49_m1_0) (ks := [11]) (e := .normal) (s2 := (F49_h1 x1 l2 v2 x3 x4 h25 v25 (IntKind.i64.wrap (a7 + 1)) (l8 ++ ([(y11.1, y11.2.1, (F79 y11.1 y11.2.1 y11.2.2.1 y11.2.2.2 x3), a7)] : List (Int × Int × Int × Int))))) (hC := (ai m25 (ai m22 (ai (show AKeep h9 h9 from (AHeap.sub_refl h9)) (ai (F79_spec y11.1 y11.2.1 y11.2.2.1 y11.2.2.2 x3 h9 _ rfl) (ai c14 (ai c13 (ai (F78_spec x1 y11.1 y11.2.1 y11.2.2.1 y11.2.2.2 h9 _ rfl) (ai (At.agg (P := Try.prog) (t := 81) (v := .agg #[.int .i64 y11.1, .int .i64 y11.2.1, .int .i64 y11.2.2.1, .int .i64 y11.2.2.2]) (m := 4) (At.mono (Heapy.sub hp9) at11) (by kernel_rfl) (by kernel_rfl) 0 (by kernel_rfl) rfl) (ai ix11 (ai c10 trivial))))))))))) (hd := F49_d1) (h := by kernel_rfl)⟩
  · intro hr
    obtain rfl := Option.some.inj hr
    refine ⟨(.exit 0), (F49_x1_0 h h9 u8 (l8 : (List (Int × Int × Int × Int)))), (by intro hh; cases hh), ?_, pEnd_sound good (L := F49_L) (D := F49_D) (its := [.g, (.b false)]) (ds := F49_m1_1) (ks := []) (e := (.exit 0)) (s2 := (F49_x1_0 h h9 u8 (l8 : (List (Int × Int × Int × Int))))) (hC := (ai c10 trivial)) (hd := F49_d1) (h := by kernel_rfl)⟩
    exact ⟨rfl, h9, u8, (Heapy.pick hp9 [0] (by decide)), z8, rfl⟩
theorem F49_l1 (h : AHeap) (x1 : Int) (l2 : List (Int × Int × Int × Int)) (v2 : Hd) (hv2 : SlE E81 4 h (sv v2) l2) (x3 : Int) (x4 : Bool) (x : Int × (List (Int × Int × Int × Int))) (r : (List (Int × Int × Int × Int))) (hl : loopO (fun (s : Int × (List (Int × Int × Int × Int))) => F49_s1 x1 l2 x3 x4 s.1 s.2) x = some r) (S : AS) (hI : (F49_i1 h x1 l2 v2 x3 x4) x S) : ∃ e S', (F49_x1 h) r e S' ∧ AWp Try.prog (.loop (codeOf Try.prog 49 [1, 1, 0, 1, 0, 0])) (Ends1 e S') S :=
  loop_rel (fun x S hI => F49_r1 h x1 l2 v2 hv2 x3 x4 x.1 x.2 S hI) hl hI
def F49 (x1 : Int) (l2 : List (Int × Int × Int × Int)) (x3 : Int) (x4 : Bool) : Option ((List (Int × Int × Int × Int))) :=
  (Option.bind (loopO (fun (s : Int × (List (Int × Int × Int × Int))) => F49_s1 x1 l2 x3 x4 s.1 s.2) (0, ([] : List (Int × Int × Int × Int)))) fun y27 =>
  some (y27))
set_option maxRecDepth 100000 in
theorem F49_spec (x1 : Int) (l2 : List (Int × Int × Int × Int)) (x3 : Int) (x4 : Bool) (v2 : Hd) (h : AHeap) (hw : h.wf) (hv2 : SlE E81 4 h (sv v2) l2) (r : (List (Int × Int × Int × Int))) : F49 x1 l2 x3 x4 = some r → ∃ (ur0 : Hd) (h' : AHeap), Heapy h h' [⟨ur0, 114, 4, List.flatMap enc114 r⟩] ∧ Strict ur0 ∧ ACalls Try.prog 49 [.int .i64 x1, (sv v2), .int .i64 x3, .bool x4] h (fun v' h'' => v' = ((sv ur0) : Value) ∧ h'' = h') := by
  unfold F49
  refine bind_opt fun y27 e27 => ?_
  have hp5 : Heapy h h [⟨⟨none, 0, 0⟩, 114, 4, List.flatMap enc114 ([] : List (Int × Int × Int × Int))⟩] := Heapy.nil (Heapy.refl hw) 114 4
  obtain ⟨ee27, SS27, hX27, hA27⟩ := F49_l1 h x1 l2 v2 hv2 x3 x4 (0, ([] : List (Int × Int × Int × Int))) y27 e27 (F49_h1 x1 l2 v2 x3 x4 h ⟨none, 0, 0⟩ 0 ([] : List (Int × Int × Int × Int))) ⟨h, ⟨none, 0, 0⟩, (Heapy.pick hp5 [0] (by decide)), Strict.nil, rfl⟩
  obtain ⟨rfl, h28, w0_28, hp28, zw0_28, rfl⟩ := hX27
  intro hr
  obtain rfl := Option.some.inj hr
  exact ⟨w0_28, h28, Heapy.pick hp28 [0] (by decide), zw0_28, pFun_sound good tab_ok (f := 49) (its := [.g, .g, .g, (.ln l2.length), .g, (.l F49_m1_0 [] (.exit 0) (F49_x1_0 h h28 w0_28 y27)), .g, .g]) (args := [.int .i64 x1, (sv v2), .int .i64 x3, .bool x4]) (h := h) (h' := h28) (v := (sv w0_28)) (hC := (ai hA27 (ai (SlE.len hv2) trivial))) (hr := by kernel_rfl)⟩
def enc3 (x : Int) : List Value := [.int .i64 x]
def E3 (h : AHeap) (cs : List Value) (x : Int) : Prop := cs = enc3 x
theorem E3_mono {h h' : AHeap} (le : h.sub h') (cs : List Value) (x : Int) (H : E3 h cs x) : E3 h' cs x := H
def W3 (x : Int) : Prop := (Lit.int .i64 x).wf = true ∧ True
set_option maxRecDepth 100000 in
theorem E3_wt {h : AHeap} {n : Nat} {cs : List Value} (H : WT Try.prog h n 3 cs) : ∃ x, E3 h cs x ∧ W3 x := by
  have k : SQ Try.prog h [.int .i64] cs := wt_flatS 1 n (by kernel_rfl) H
  obtain ⟨x0, r0, rfl, w0, k0⟩ := sq_int k
  obtain rfl := sq_nil k0
  exact ⟨x0, rfl, ⟨w0, trivial⟩⟩
/-! 50 jacquard/diffcons.bound -/
def F50 (l1 : List Int) (x2 : Int) : Option (Int) :=
  (bif decide (x2 ≥ (l1.length : Int)) then
   some (0)
  else
   (Option.bind (at? l1 x2) fun y4 =>
   some (F80 y4 1073741824)))
set_option maxRecDepth 100000 in
theorem F50_spec (l1 : List Int) (x2 : Int) (v1 : Hd) (h : AHeap) (hv1 : SlE E3 1 h (sv v1) l1) (r : Int) : F50 l1 x2 = some r → ACalls Try.prog 50 [(sv v1), .int .i64 x2] h (fun v' h'' => v' = (.int .i64 r : Value) ∧ h'' = h) := by
  unfold F50
  refine dec_bif (fun c3 => ?_) (fun c3 => ?_)
  · intro hr
    obtain rfl := Option.some.inj hr
    exact pFun_sound good tab_ok (f := 50) (its := [.g, .g, .g, (.ln l1.length), .g, (.b true), .g]) (args := [(sv v1), .int .i64 x2]) (h := h) (h' := h) (v := .int .i64 0) (hC := (ai c3 (ai (SlE.len hv1) trivial))) (hr := by kernel_rfl)
  · refine bind_opt fun y4 e4 => ?_
    obtain ⟨id4, off4, g4, cs4, ix4, at4, rfl⟩ := SlE.at hv1 e4
    intro hr
    obtain rfl := Option.some.inj hr
    exact pFun_sound good tab_ok (f := 50) (its := [.g, .g, .g, (.ln l1.length), .g, (.b false), .g, .g, (.ix id4 off4 g4), (.ld (.int .i64 y4)), (.c (.int .i64 (F80 y4 1073741824)) h), .g]) (args := [(sv v1), .int .i64 x2]) (h := h) (h' := h) (v := .int .i64 (F80 y4 1073741824)) (hC := (ai (F80_spec y4 1073741824 h _ rfl) (ai (At.one (P := Try.prog) (t := 3) (v := .int .i64 y4) at4 (by kernel_rfl) 0 rfl rfl) (ai ix4 (ai c3 (ai (SlE.len hv1) trivial)))))) (hr := by kernel_rfl)
/-! 52 slices.Reverse[[]int,int] -/
def F52_L : List Nat := []
def F52_D : List (Nat × List (Nat × Nat)) := [(3, [(0, 2), (1, 2), (2, 2), (3, 2), (4, 2), (5, 2), (6, 2), (7, 2), (8, 2), (9, 2), (10, 2), (11, 2), (12, 2), (13, 0), (14, 2), (15, 0)])]
def F52_m1_1 : List Bool := [false, true, true, true, true, true, true, true, true, true, true, true, true, true, true, true, true, true, true, true, true, true, true, true, true, true, true, true]
def F52_m1_0 : List Bool := [false, true, false, false, true, true, true, true, true, true, true, true, true, true, true, true, true, true, true, true, true, true, true, true, true, true, true, true]
def F52_s1  (a3 : Int) (a4 : Int) (l5 : List Int) : Option ((Int × Int × (List Int)) ⊕ (List Int)) :=
  (bif decide (a3 < a4) then
   (Option.bind (at? l5 a4) fun y8 =>
   (Option.bind (at? l5 a3) fun y9 =>
   (Option.bind (at? (setI l5 a3 y8) a4) fun y11 =>
   some (.inl ((IntKind.i64.wrap (a3 + 1)), (IntKind.i64.wrap (a4 - 1)), (setI (setI l5 a3 y8) a4 y9))))))
  else
   some (.inr l5))
def F52_h1 (v1 : Hd) (h6 : AHeap) (a3 : Int) (a4 : Int) (l5 : List Int) : AS := ⟨[(sv v1), junk, .int .i64 a3, .int .i64 a4, junk, junk, junk, junk, junk, junk, junk, junk, junk, junk, junk, junk, junk, junk, junk, junk, junk, junk, junk, junk, junk, junk, junk, junk], [], h6⟩
theorem F52_d1 : drawsOk F52_D (codeOf Try.prog 52 [1, 0, 0]) = true := by kernel_rfl
def F52_x1_0 (h : AHeap) (v1 : Hd) (hx : AHeap) (r : (List Int)) : AS := ⟨[(sv v1), junk, junk, junk, junk, junk, junk, junk, junk, junk, junk, junk, junk, junk, junk, junk, junk, junk, junk, junk, junk, junk, junk, junk, junk, junk, junk, junk], [], hx⟩
def F52_i1 (h : AHeap) (v1 : Hd) (s : Int × Int × (List Int)) (S : AS) : Prop := ∃ (h6 : AHeap), Heapy h h6 [⟨v1, 3, 1, List.flatMap enc3 s.2.2⟩] ∧ S = (F52_h1 v1 h6 s.1 s.2.1 s.2.2)
def F52_x1 (h : AHeap) (v1 : Hd) (r : (List Int)) (e : Exit) (S : AS) : Prop := e = (.exit 0) ∧ ∃ (hx : AHeap), Heapy h hx [⟨v1, 3, 1, List.flatMap enc3 r⟩] ∧ S = (F52_x1_0 h v1 hx r)
set_option maxRecDepth 100000 in
theorem F52_r1 (h : AHeap) (v1 : Hd) (a3 : Int) (a4 : Int) (l5 : List Int) (S : AS) (hI : (F52_i1 h v1) (a3, a4, l5) S) (o : (Int × Int × (List Int)) ⊕ (List Int)) : F52_s1 a3 a4 l5 = some o → Rd Try.prog (codeOf Try.prog 52 [1, 0, 0]) (F52_i1 h v1) (F52_x1 h v1) S o := by
  obtain ⟨h6, hp6, rfl⟩ := hI
  unfold F52_s1
  refine dec_bif (fun c7 => ?_) (fun c7 => ?_)
  · refine bind_opt fun y8 e8 => ?_
    obtain ⟨id8, off8, g8, cs8, ix8, at8, rfl⟩ := SlE.at (Heapy.sle (v := v1) (xs := l5) (enc := enc3) hp6 0 rfl (fun _ => rfl) (by decide)) e8
    refine bind_opt fun y9 e9 => ?_
    obtain ⟨id9, off9, g9, cs9, ix9, at9, rfl⟩ := SlE.at (Heapy.sle (v := v1) (xs := l5) (enc := enc3) hp6 0 rfl (fun _ => rfl) (by decide)) e9
    obtain ⟨h10, m10, hp10⟩ := Heapy.store (P := Try.prog) hp6 0 (v := v1) (xs := l5) (enc := enc3) rfl (fun _ => rfl) e9 (y' := y8) ix9 (t := 3) (x := .int .i64 y8) 0 (vs := [.int .i64 y8]) rfl (by kernel_rfl) rfl rfl rfl rfl
    refine bind_opt fun y11 e11 => ?_
    obtain ⟨id11, off11, g11, cs11, ix11, at11, rfl⟩ := SlE.at (Heapy.sle (v := v1) (xs := (setI l5 a3 y8)) (enc := enc3) hp10 0 rfl (fun _ => rfl) (by decide)) e11
    obtain ⟨h12, m12, hp12⟩ := Heapy.store (P := Try.prog) hp10 0 (v := v1) (xs := (setI l5 a3 y8)) (enc := enc3) rfl (fun _ => rfl) e11 (y' := y9) ix11 (t := 3) (x := .int .i64 y9) 0 (vs := [.int .i64 y9]) rfl (by kernel_rfl) rfl rfl rfl rfl
    intro hr
    obtain rfl := Option.some.inj hr
    exact ⟨(F52_h1 v1 h12 (IntKind.i64.wrap (a3 + 1)) (IntKind.i64.wrap (a4 - 1)) (setI (setI l5 a3 y8) a4 y9)), ⟨h12, (Heapy.pick hp12 [0] (by decide)), rfl⟩, pEnd_sound good (L := F52_L) (D := F52_D) (its := [.g, .g, .g, (.b true), .g, .g, .g, .g, .g, .g, (.ix id8 off8 g8), (.ld (.int .i64 y8)), .g, .g, (.ix id9 off9 g9), (.ld (.int .i64 y9)), (.ix id9 off9 g9), (.mm undef h10), (.ix id11 off11 g11), (.mm undef h12), .g, .g, .g, .g, .g, .g]) (ds := F52_m1_0) (ks := []) (e := .normal) (s2 := (F52_h1 v1 h12 (IntKind.i64.wrap (a3 + 1)) (IntKind.i64.wrap (a4 - 1)) (setI (setI l5 a3 y8) a4 y9))) (hC := (ai m12 (ai ix11 (ai m10 (ai ix9 (ai (At.one (P := Try.prog) (t := 3) (v := .int .i64 y9) at9 (by kernel_rfl) 0 rfl rfl) (ai ix9 (ai (At.one (P := Try.prog) (t := 3) (v := .int .i64 y8) at8 (by kernel_rfl) 0 rfl rfl) (ai ix8 (ai c7 trivial)))))))))) (hd := F52_d1) (h := by kernel_rfl)⟩
  · intro hr
    obtain rfl := Option.some.inj hr
    refine ⟨(.exit 0), (F52_x1_0 h v1 h6 (l5 : (List Int))), (by intro hh; cases hh), ?_, pEnd_sound good (L := F52_L) (D := F52_D) (its := [.g, .g, .g, (.b false)]) (ds := F52_m1_1) (ks := []) (e := (.exit 0)) (s2 := (F52_x1_0 h v1 h6 (l5 : (List Int)))) (hC := (ai c7 trivial)) (hd := F52_d1) (h := by kernel_rfl)⟩
    exact ⟨rfl, h6, (Heapy.pick hp6 [0] (by decide)), rfl⟩
theorem F52_l1 (h : AHeap) (v1 : Hd) (x : Int × Int × (List Int)) (r : (List Int)) (hl : loopO (fun (s : Int × Int × (List Int)) => F52_s1 s.1 s.2.1 s.2.2) x = some r) (S : AS) (hI : (F52_i1 h v1) x S) : ∃ e S', (F52_x1 h v1) r e S' ∧ AWp Try.prog (.loop (codeOf Try.prog 52 [1, 0, 0])) (Ends1 e S') S :=
  loop_rel (fun x S hI => F52_r1 h v1 x.1 x.2.1 x.2.2 S hI) hl hI
def F52 (l1 : List Int) : Option ((List Int)) :=
  (Option.bind (loopO (fun (s : Int × Int × (List Int)) => F52_s1 s.1 s.2.1 s.2.2) (0, (IntKind.i64.wrap ((l1.length : Int) - 1)), l1)) fun y13 =>
  some (y13))
set_option maxRecDepth 100000 in
theorem F52_spec (l1 : List Int) (v1 : Hd) (hi : AHeap) (h : AHeap) (hw : h.wf) (hio : Heapy h hi [⟨v1, 3, 1, List.flatMap enc3 l1⟩]) (r : (List Int)) : F52 l1 = some r → ∃ (h' : AHeap), Heapy h h' [⟨v1, 3, 1, List.flatMap enc3 r⟩] ∧ ACalls Try.prog 52 [(sv v1)] hi (fun v' h'' => v' = (.tuple #[] : Value) ∧ h'' = h') := by
  unfold F52
  refine bind_opt fun y13 e13 => ?_
  obtain ⟨ee13, SS13, hX13, hA13⟩ := F52_l1 h v1 (0, (IntKind.i64.wrap ((l1.length : Int) - 1)), l1) y13 e13 (F52_h1 v1 hi 0 (IntKind.i64.wrap ((l1.length : Int) - 1)) l1) ⟨hi, (Heapy.pick hio [0] (by decide)), rfl⟩
  obtain ⟨rfl, h14, hp14, rfl⟩ := hX13
  intro hr
  obtain rfl := Option.some.inj hr
  exact ⟨h14, Heapy.pick hp14 [0] (by decide), pFun_sound good tab_ok (f := 52) (its := [.g, (.ln l1.length), .g, .g, .g, (.l F52_m1_0 [] (.exit 0) (F52_x1_0 h v1 h14 y13))]) (args := [(sv v1)]) (h := hi) (h' := h14) (v := .tuple #[]) (hC := (ai hA13 (ai (SlE.len (Heapy.sle (v := v1) (xs := l1) (enc := enc3) hio 0 rfl (fun _ => rfl) (by decide))) trivial))) (hr := by kernel_rfl)⟩
/-! 81 jacquard/diffcons.follow -/
def F81_L : List Nat := [9]
def F81_D : List (Nat × List (Nat × Nat)) := []
def F81_m1_1 : List Bool := [false, false, false, true, true, true, true, true, true, true, true, true, true, true, true, true, true, true, true, true, true, true, true, true, true, true, true, true, true, true, true, true, true, true, true, true, true, true, true, true, true, true, true, true]
def F81_m1_0 : List Bool := [false, false, false, true, true, true, true, true, true, true, true, false, false, true, true, true, true, true, true, true, true, true, true, true, true, true, true, true, true, true, true, true, true, true, true, true, true, true, true, true, true, true, true, true]
def F81_s1 (l1 : List Int) (l2 : List (Int × Int × Int × Int)) (a4 : Int) (a5 : Int) : Option ((Int × Int) ⊕ Int) :=
  (bif decide (a5 < (l1.length : Int)) then
   (Option.bind (at? l1 a4) fun y7 =>
   (Option.bind (at? l2 y7) fun y8 =>
   some (.inl (y8.1, (IntKind.i64.wrap (a5 + 1))))))
  else
   some (.inr a4))
def F81_h1 (h : AHeap) (l1 : List Int) (v1 : Hd) (v2 : Hd)  (a4 : Int) (a5 : Int) : AS := ⟨[(sv v1), (sv v2), .int .i64 a4, junk, junk, junk, junk, junk, junk, junk, junk, .int .i64 (l1.length : Int), .int .i64 a5, junk, junk, junk, junk, junk, junk, junk, junk, junk, junk, junk, junk, junk, junk, junk, junk, junk, junk, junk, junk, junk, junk, junk, junk, junk, junk, junk, junk, junk, junk, junk], [], h⟩
theorem F81_d1 : drawsOk F81_D (codeOf Try.prog 81 [1, 0, 1, 0, 0]) = true := by kernel_rfl
def F81_x1_0 (h : AHeap) (v1 : Hd) (v2 : Hd)  (r : Int) : AS := ⟨[(sv v1), (sv v2), .int .i64 r, junk, junk, junk, junk, junk, junk, junk, junk, junk, junk, junk, junk, junk, junk, junk, junk, junk, junk, junk, junk, junk, junk, junk, junk, junk, junk, junk, junk, junk, junk, junk, junk, junk, junk, junk, junk, junk, junk, junk, junk, junk], [], h⟩
def F81_x1 (h : AHeap) (v1 : Hd) (v2 : Hd) (r : Int) : Exit × AS := ((.exit 0), (F81_x1_0 h v1 v2 r))
set_option maxRecDepth 100000 in
theorem F81_r1 (h : AHeap) (l1 : List Int) (v1 : Hd) (hv1 : SlE E3 1 h (sv v1) l1) (l2 : List (Int × Int × Int × Int)) (v2 : Hd) (hv2 : SlE E114 4 h (sv v2) l2) (a4 : Int) (a5 : Int) (o : (Int × Int) ⊕ Int) : F81_s1 l1 l2 a4 a5 = some o → RdF Try.prog (codeOf Try.prog 81 [1, 0, 1, 0, 0]) (fun (s : Int × Int) => (F81_h1 h l1 v1 v2 s.1 s.2)) (F81_x1 h v1 v2) (F81_h1 h l1 v1 v2 a4 a5) o := by
  unfold F81_s1
  refine dec_bif (fun c6 => ?_) (fun c6 => ?_)
  · refine bind_opt fun y7 e7 => ?_
    obtain ⟨id7, off7, g7, cs7, ix7, at7, rfl⟩ := SlE.at hv1 e7
    refine bind_opt fun y8 e8 => ?_
    obtain ⟨id8, off8, g8, cs8, ix8, at8, rfl⟩ := SlE.at hv2 e8
    intro hr
    obtain rfl := Option.some.inj hr
    show AWp Try.prog _ (Ends1 .normal (F81_h1 h l1 v1 v2 y8.1 (IntKind.i64.wrap (a5 + 1)))) _
    exact pEnd_sound good (L := F81_L) (D := F81_D) (its := [.g, (.b true), .g, .g, .g, (.ix id7 off7 g7), (.ld (.int .i64 y7)), (.ix id8 off8 g8), .g, (.ld (.int .i64 y8.1)), .g, .g, .g]) (ds := F81_m1_0) (ks := []) (e := .normal) (s2 := (F81_h1 h l1 v1 v2 y8.1 (IntKind.i64.wrap (a5 + 1)))) (hC := (ai (At.one (P := Try.prog) (t := 3) (v := .int .i64 y8.1) at8 (by kernel_rfl) 0 rfl rfl) (ai ix8 (ai (At.one (P := Try.prog) (t := 3) (v := .int .i64 y7) at7 (by kernel_rfl) 0 rfl rfl) (ai ix7 (ai c6 trivial)))))) (hd := F81_d1) (h := by kernel_rfl)
  · intro hr
    obtain rfl := Option.some.inj hr
    show AWp Try.prog _ (Ends1 ((F81_x1 h v1 v2) (a4 : Int)).1 ((F81_x1 h v1 v2) (a4 : Int)).2) _
    exact pEnd_sound good (L := F81_L) (D := F81_D) (its := [.g, (.b false)]) (ds := F81_m1_1) (ks := []) (e := ((F81_x1 h v1 v2) (a4 : Int)).1) (s2 := ((F81_x1 h v1 v2) (a4 : Int)).2) (hC := (ai c6 trivial)) (hd := F81_d1) (h := by kernel_rfl)
theorem F81_l1_0 (h : AHeap) (l1 : List Int) (v1 : Hd) (hv1 : SlE E3 1 h (sv v1) l1) (l2 : List (Int × Int × Int × Int)) (v2 : Hd) (hv2 : SlE E114 4 h (sv v2) l2) (x : Int × Int) (r : Int) (hl : loopO (fun (s : Int × Int) => F81_s1 l1 l2 s.1 s.2) x = some r) : AWp Try.prog (.loop (codeOf Try.prog 81 [1, 0, 1, 0, 0])) (Ends1 (.exit 0) (F81_x1_0 h v1 v2 r)) ((fun (s : Int × Int) => (F81_h1 h l1 v1 v2 s.1 s.2)) x) := by
  have k := loop_fun (P := Try.prog) (c := (codeOf Try.prog 81 [1, 0, 1, 0, 0])) (step := (fun (s : Int × Int) => F81_s1 l1 l2 s.1 s.2)) (hd := (fun (s : Int × Int) => (F81_h1 h l1 v1 v2 s.1 s.2))) (X := (F81_x1 h v1 v2)) (by intro t; unfold F81_x1; intro h; cases h) (fun x => F81_r1 h l1 v1 hv1 l2 v2 hv2 x.1 x.2) hl
  exact k
def F81_m2_1 : List Bool := [false, false, false, true, true, true, true, false, false, true, true, true, true, true, true, true, true, true, true, true, true, true, true, true, true, true, true, true, true, true, true, true, true, true, true, true, true, true, true, true, true, true, true, true]
def F81_m2_0 : List Bool := [true, true, true, true, true, true, true, false, true, true, true, true, true, true, true, true, true, true, true, true, true, true, true, true, true, true, true, true, true, true, true, true, true, true, true, true, true, true, true, true, true, true, true, true]
def F81_s2 (l1 : List Int) (l2 : List (Int × Int × Int × Int)) (y9 : Int) (a12 : Int) (l13 : List Int) : Option ((Int × (List Int)) ⊕ (List Int)) :=
  (Option.bind (at? l1 a12) fun y15 =>
  (Option.bind (at? l2 y15) fun y16 =>
  (bif (!(okApp (l13.length + ([y16.2.2.2] : List Int).length) 8)) then none else
  (bif (y16.1 == y9) then
   some (.inr (l13 ++ ([y16.2.2.2] : List Int)))
  else
   some (.inl (y16.1, (l13 ++ ([y16.2.2.2] : List Int))))))))
def F81_h2 (v1 : Hd) (v2 : Hd) (y9 : Int) (h14 : AHeap) (u13 : Hd) (a12 : Int) (l13 : List Int) : AS := ⟨[(sv v1), (sv v2), .int .i64 y9, junk, junk, junk, junk, (sv u13), .int .i64 a12, junk, junk, junk, junk, junk, junk, junk, junk, junk, junk, junk, junk, junk, junk, junk, junk, junk, junk, junk, junk, junk, junk, junk, junk, junk, junk, junk, junk, junk, junk, junk, junk, junk, junk, junk], [], h14⟩
theorem F81_d2 : drawsOk F81_D (codeOf Try.prog 81 [1, 1, 1, 0, 1, 0, 0]) = true := by kernel_rfl
def F81_x2_0 (h : AHeap) (hx : AHeap) (w0 : Hd) (r : (List Int)) : AS := ⟨[junk, junk, junk, junk, junk, junk, junk, (sv w0), junk, junk, junk, junk, junk, junk, junk, junk, junk, junk, junk, junk, junk, junk, junk, junk, junk, junk, junk, junk, junk, junk, junk, junk, junk, junk, junk, junk, junk, junk, junk, junk, junk, junk, junk, junk], [], hx⟩
def F81_i2 (h : AHeap) (v1 : Hd) (v2 : Hd) (y9 : Int) (s : Int × (List Int)) (S : AS) : Prop := ∃ (h14 : AHeap) (u13 : Hd), Heapy h h14 [⟨u13, 3, 1, List.flatMap enc3 s.2⟩] ∧ Strict u13 ∧ S = (F81_h2 v1 v2 y9 h14 u13 s.1 s.2)
def F81_x2 (h : AHeap) (r : (List Int)) (e : Exit) (S : AS) : Prop := e = (.exit 2) ∧ ∃ (hx : AHeap) (w0 : Hd), Heapy h hx [⟨w0, 3, 1, List.flatMap enc3 r⟩] ∧ Strict w0 ∧ S = (F81_x2_0 h hx w0 r)
set_option maxRecDepth 100000 in
theorem F81_r2 (h : AHeap) (l1 : List Int) (v1 : Hd) (hv1 : SlE E3 1 h (sv v1) l1) (l2 : List (Int × Int × Int × Int)) (v2 : Hd) (hv2 : SlE E114 4 h (sv v2) l2) (y9 : Int) (a12 : Int) (l13 : List Int) (S : AS) (hI : (F81_i2 h v1 v2 y9) (a12, l13) S) (o : (Int × (List Int)) ⊕ (List Int)) : F81_s2 l1 l2 y9 a12 l13 = some o → Rd Try.prog (codeOf Try.prog 81 [1, 1, 1, 0, 1, 0, 0]) (F81_i2 h v1 v2 y9) (F81_x2 h) S o := by
  obtain ⟨h14, u13, hp14, z13, rfl⟩ := hI
  unfold F81_s2
  refine bind_opt fun y15 e15 => ?_
  obtain ⟨id15, off15, g15, cs15, ix15, at15, rfl⟩ := SlE.at hv1 e15
  refine bind_opt fun y16 e16 => ?_
  obtain ⟨id16, off16, g16, cs16, ix16, at16, rfl⟩ := SlE.at hv2 e16
  obtain ⟨v17, h17, m17, hp17, _⟩ := Heapy.build (P := Try.prog) hp14 (t := 27) (e := 3) (len := 1) (n := 1) (parts := [(0, .int .i64 y16.2.2.2)]) (cells := List.flatMap enc3 ([y16.2.2.2] : List Int)) (by kernel_rfl) rfl
  refine guard_ok fun g19 => ?_
  obtain ⟨v20, h20, m20, q20, _, w20⟩ := Heapy.append hp17 (show mkInfo Try.prog 27 = some (3, 1, 8, [.int .i64 0]) by kernel_rfl) 1 (v := u13) (cells := List.flatMap enc3 l13) rfl (Y := (sv v17)) (SlE.src (enc := enc3) (c := 1) (Heapy.sle (v := v17) (xs := ([y16.2.2.2] : List Int)) (enc := enc3) hp17 0 rfl (fun _ => rfl) (by decide)) (fun _ => rfl)) (flatMap_length (enc := enc3) (c := 1) (fun _ => rfl) _) (by rw [Heapy.vn (v := u13) (xs := l13) (enc := enc3) hp17 1 rfl (fun _ => rfl) (by decide)]; simpa using g19)
  have z20 : Strict v20 := w20 z13
  have hp20 : Heapy h h20 [⟨v17, 3, 1, List.flatMap enc3 ([y16.2.2.2] : List Int)⟩, ⟨v20, 3, 1, List.flatMap enc3 (l13 ++ ([y16.2.2.2] : List Int))⟩] := by rw [← List.flatMap_append] at q20; exact q20
  refine dec_bif (fun c22 => ?_) (fun c22 => ?_)
  · intro hr
    obtain rfl := Option.some.inj hr
    refine ⟨(.exit 2), (F81_x2_0 h h20 v20 ((l13 ++ ([y16.2.2.2] : List Int)) : (List Int))), (by intro hh; cases hh), ?_, pEnd_sound good (L := F81_L) (D := F81_D) (its := [.g, .g, .g, (.ix id15 off15 g15), (.ld (.int .i64 y15)), (.ix id16 off16 g16), (.ld (.agg #[.int .i64 y16.1, .int .i64 y16.2.1, .int .i64 y16.2.2.1, .int .i64 y16.2.2.2])), .g, .g, .g, .g, .g, (.mm (sv v17) h17), (.mm (sv v20) h20), .g, .g, .g, .g, .g, .g, .g, (.b true)]) (ds := F81_m2_0) (ks := [9]) (e := (.exit 2)) (s2 := (F81_x2_0 h h20 v20 ((l13 ++ ([y16.2.2.2] : List Int)) : (List Int)))) (hC := (ai c22 (ai m20 (ai m17 (ai (At.agg (P := Try.prog) (t := 114) (v := .agg #[.int .i64 y16.1, .int .i64 y16.2.1, .int .i64 y16.2.2.1, .int .i64 y16.2.2.2]) (m := 4) (At.mono (Heapy.sub hp14) at16) (by kernel_rfl) (by kernel_rfl) 0 (by kernel_rfl) rfl) (ai ix16 (ai (At.one (P := Try.prog) (t := 3) (v := .int .i64 y15) (At.mono (Heapy.sub hp14) at15) (by kernel_rfl) 0 rfl rfl) (ai ix15 trivial)))))))) (hd := F81_d2) (h := by kernel_rfl)⟩
    exact ⟨rfl, h20, v20, (Heapy.pick hp20 [1] (by decide)), z20, rfl⟩
  · intro hr
    obtain rfl := Option.some.inj hr
    exact ⟨(F81_h2 v1 v2 y9 h20 v20 y16.1 (l13 ++ ([y16.2.2.2] : List Int))), ⟨h20, v20, (Heapy.pick hp20 [1] (by decide)), z20, rfl⟩, pEnd_sound good (L := F81_L) (D := F81_D) (its := [.g, .g, .g, (.ix id15 off15 g15), (.ld (.int .i64 y15)), (.ix id16 off16 g16), (.ld (.agg #[.int .i64 y16.1, .int .i64 y16.2.1, .int .i64 y16.2.2.1, .int .i64 y16.2.2.2])), .g, .g, .g, .g, .g, (.mm (sv v17) h17), (.mm (sv v20) h20), .g, .g, .g, .g, .g, .g, .g, (.b false)]) (ds := F81_m2_1) (ks := [9]) (e := .normal) (s2 := (F81_h2 v1 v2 y9 h20 v20 y16.1 (l13 ++ ([y16.2.2.2] : List Int)))) (hC := (ai c22 (ai m20 (ai m17 (ai (At.agg (P := Try.prog) (t := 114) (v := .agg #[.int .i64 y16.1, .int .i64 y16.2.1, .int .i64 y16.2.2.1, .int .i64 y16.2.2.2]) (m := 4) (At.mono (Heapy.sub hp14) at16) (by kernel_rfl) (by kernel_rfl) 0 (by kernel_rfl) rfl) (ai ix16 (ai (At.one (P := Try.prog) (t := 3) (v := .int .i64 y15) (At.mono (Heapy.sub hp14) at15) (by kernel_rfl) 0 rfl rfl) (ai ix15 trivial)))))))) (hd := F81_d2) (h := by kernel_rfl)⟩
theorem F81_l2 (h : AHeap) (l1 : List Int) (v1 : Hd) (hv1 : SlE E3 1 h (sv v1) l1) (l2 : List (Int × Int × Int × Int)) (v2 : Hd) (hv2 : SlE E114 4 h (sv v2) l2) (y9 : Int) (x : Int × (List Int)) (r : (List Int)) (hl : loopO (fun (s : Int × (List Int)) => F81_s2 l1 l2 y9 s.1 s.2) x = some r) (S : AS) (hI : (F81_i2 h v1 v2 y9) x S) : ∃ e S', (F81_x2 h) r e S' ∧ AWp Try.prog (.loop (codeOf Try.prog 81 [1, 1, 1, 0, 1, 0, 0])) (Ends1 e S') S :=
  loop_rel (fun x S hI => F81_r2 h l1 v1 hv1 l2 v2 hv2 y9 x.1 x.2 S hI) hl hI
def F81 (l1 : List Int) (l2 : List (Int × Int × Int × Int)) (x3 : Int) : Option ((List Int)) :=
  (Option.bind (loopO (fun (s : Int × Int) => F81_s1 l1 l2 s.1 s.2) (x3, 0)) fun y9 =>
  (Option.bind (loopO (fun (s : Int × (List Int)) => F81_s2 l1 l2 y9 s.1 s.2) (y9, ([] : List Int))) fun y23 =>
  (Option.bind (F52 y23) fun y26 =>
  some (y26))))
set_option maxRecDepth 100000 in
theorem F81_spec (l1 : List Int) (l2 : List (Int × Int × Int × Int)) (x3 : Int) (v1 : Hd) (v2 : Hd) (h : AHeap) (hw : h.wf) (hv1 : SlE E3 1 h (sv v1) l1) (hv2 : SlE E114 4 h (sv v2) l2) (r : (List Int)) : F81 l1 l2 x3 = some r → ∃ (ur0 : Hd) (h' : AHeap), Heapy h h' [⟨ur0, 3, 1, List.flatMap enc3 r⟩] ∧ Strict ur0 ∧ ACalls Try.prog 81 [(sv v1), (sv v2), .int .i64 x3] h (fun v' h'' => v' = ((sv ur0) : Value) ∧ h'' = h') := by
  unfold F81
  refine bind_opt fun y9 e9 => ?_
  refine bind_opt fun y23 e23 => ?_
  have hp10 : Heapy h h [⟨⟨none, 0, 0⟩, 3, 1, List.flatMap enc3 ([] : List Int)⟩] := Heapy.nil (Heapy.refl hw) 3 1
  obtain ⟨ee23, SS23, hX23, hA23⟩ := F81_l2 h l1 v1 hv1 l2 v2 hv2 y9 (y9, ([] : List Int)) y23 e23 (F81_h2 v1 v2 y9 h ⟨none, 0, 0⟩ y9 ([] : List Int)) ⟨h, ⟨none, 0, 0⟩, (Heapy.pick hp10 [0] (by decide)), Strict.nil, rfl⟩
  obtain ⟨rfl, h24, w0_24, hp24, zw0_24, rfl⟩ := hX23
  refine bind_opt fun y26 e26 => ?_
  obtain ⟨b25, pb25, ob25, jb25⟩ := Heapy.io hp24 0 (s := ⟨w0_24, 3, 1, List.flatMap enc3 y23⟩) rfl
  obtain ⟨h27, q27, c27⟩ := F52_spec y23 w0_24 h24 b25 (Heapy.wf ob25) pb25 _ e26
  have hp27 : Heapy h h27 [⟨w0_24, 3, 1, List.flatMap enc3 y26⟩] := jb25 (r := []) (s' := ⟨w0_24, 3, 1, List.flatMap enc3 y26⟩) q27
  intro hr
  obtain rfl := Option.some.inj hr
  exact ⟨w0_24, h27, Heapy.pick hp27 [0] (by decide), zw0_24, pFun_sound good tab_ok (f := 81) (its := [.g, .g, (.ln l1.length), .g, (.l F81_m1_0 [] (.exit 0) (F81_x1_0 h v1 v2 y9)), .g, .g, .g, (.l F81_m2_1 [] (.exit 2) (F81_x2_0 h h24 w0_24 y23)), .g, (.c (.tuple #[]) h27), .g, .g]) (args := [(sv v1), (sv v2), .int .i64 x3]) (h := h) (h' := h27) (v := (sv w0_24)) (hC := (ai c27 (ai hA23 (ai (F81_l1_0 h l1 v1 hv1 l2 v2 hv2 (x3, 0) y9 e9) (ai (SlE.len hv1) trivial))))) (hr := by kernel_rfl)⟩
/-! 51 jacquard/diffcons.raise -/
def F51_L : List Nat := [9]
def F51_D : List (Nat × List (Nat × Nat)) := [(14, [(0, 2), (1, 2), (2, 2), (3, 2), (4, 2), (5, 2), (6, 2), (7, 2), (8, 2)])]
def F51_m1_1 : List Bool := [false, false, true, true, true, false, true, true, true, true, true, true, true, true, true, true, true, true, true, true, true, true, true, true, true, true, true, true, true, true, true, true, true, true, true, true, true, true, true, true, true, true, true, true, true, true, true, true, true, true, true, true, true, true, true, true, true, true, true, true, true, true, true, true, true, true, true, true, true, true, true]
def F51_m1_0 : List Bool := [false, false, true, true, true, false, true, true, true, true, true, true, true, true, true, false, false, true, true, true, true, true, true, true, true, true, true, true, true, true, true, true, true, true, true, true, true, true, true, true, true, true, true, true, true, true, true, true, true, true, true, true, true, true, true, true, true, true, true, true, true, true, true, true, true, true, true, true, true, true, true]
def F51_s1 (l1 : List Int) (a7 : Int) (l8 : List Int) : Option ((Int × (List Int)) ⊕ (List Int)) :=
  (bif decide (a7 < ((List.replicate (l1.length : Int).toNat (0 : Int)).length : Int)) then
   (Option.bind (at? l8 a7) fun y11 =>
   some (.inl ((IntKind.i64.wrap (a7 + 1)), (setI l8 a7 (-1)))))
  else
   some (.inr l8))
def F51_h1 (l1 : List Int) (v1 : Hd) (v2 : Hd) (v5 : Hd) (h9 : AHeap) (a7 : Int) (l8 : List Int) : AS := ⟨[(sv v1), (sv v2), junk, junk, junk, (sv v5), junk, junk, junk, junk, junk, junk, junk, junk, junk, .int .i64 ((List.replicate (l1.length : Int).toNat (0 : Int)).length : Int), .int .i64 a7, junk, junk, junk, junk, junk, junk, junk, junk, junk, junk, junk, junk, junk, junk, junk, junk, junk, junk, junk, junk, junk, junk, junk, junk, junk, junk, junk, junk, junk, junk, junk, junk, junk, junk, junk, junk, junk, junk, junk, junk, junk, junk, junk, junk, junk, junk, junk, junk, junk, junk, junk, junk, junk, junk], [], h9⟩
theorem F51_d1 : drawsOk F51_D (codeOf Try.prog 51 [1, 0, 1, 0, 1, 0, 0]) = true := by kernel_rfl
def F51_x1_0 (h : AHeap) (l1 : List Int) (v1 : Hd) (v2 : Hd) (v5 : Hd) (hx : AHeap) (r : (List Int)) : AS := ⟨[(sv v1), (sv v2), junk, junk, junk, (sv v5), junk, junk, junk, junk, junk, junk, junk, junk, junk, junk, junk, junk, junk, junk, junk, junk, junk, junk, junk, junk, junk, junk, junk, junk, junk, junk, junk, junk, junk, junk, junk, junk, junk, junk, junk, junk, junk, junk, junk, junk, junk, junk, junk, junk, junk, junk, junk, junk, junk, junk, junk, junk, junk, junk, junk, junk, junk, junk, junk, junk, junk, junk, junk, junk, junk], [], hx⟩
def F51_i1 (h : AHeap) (l1 : List Int) (v1 : Hd) (v2 : Hd) (v5 : Hd) (s : Int × (List Int)) (S : AS) : Prop := ∃ (h9 : AHeap), Heapy h h9 [⟨v1, 3, 1, List.flatMap enc3 l1⟩, ⟨v5, 3, 1, List.flatMap enc3 s.2⟩] ∧ S = (F51_h1 l1 v1 v2 v5 h9 s.1 s.2)
def F51_x1 (h : AHeap) (l1 : List Int) (v1 : Hd) (v2 : Hd) (v5 : Hd) (r : (List Int)) (e : Exit) (S : AS) : Prop := e = (.exit 0) ∧ ∃ (hx : AHeap), Heapy h hx [⟨v1, 3, 1, List.flatMap enc3 l1⟩, ⟨v5, 3, 1, List.flatMap enc3 r⟩] ∧ S = (F51_x1_0 h l1 v1 v2 v5 hx r)
set_option maxRecDepth 100000 in
theorem F51_r1 (h : AHeap) (l1 : List Int) (v1 : Hd) (v2 : Hd) (v5 : Hd) (a7 : Int) (l8 : List Int) (S : AS) (hI : (F51_i1 h l1 v1 v2 v5) (a7, l8) S) (o : (Int × (List Int)) ⊕ (List Int)) : F51_s1 l1 a7 l8 = some o → Rd Try.prog (codeOf Try.prog 51 [1, 0, 1, 0, 1, 0, 0]) (F51_i1 h l1 v1 v2 v5) (F51_x1 h l1 v1 v2 v5) S o := by
  obtain ⟨h9, hp9, rfl⟩ := hI
  unfold F51_s1
  refine dec_bif (fun c10 => ?_) (fun c10 => ?_)
  · refine bind_opt fun y11 e11 => ?_
    obtain ⟨id11, off11, g11, cs11, ix11, at11, rfl⟩ := SlE.at (Heapy.sle (v := v5) (xs := l8) (enc := enc3) hp9 1 rfl (fun _ => rfl) (by decide)) e11
    obtain ⟨h12, m12, hp12⟩ := Heapy.store (P := Try.prog) hp9 1 (v := v5) (xs := l8) (enc := enc3) rfl (fun _ => rfl) e11 (y' := (-1)) ix11 (t := 3) (x := .int .i64 (-1)) 0 (vs := [.int .i64 (-1)]) rfl (by kernel_rfl) rfl rfl rfl rfl
    intro hr
    obtain rfl := Option.some.inj hr
    exact ⟨(F51_h1 l1 v1 v2 v5 h12 (IntKind.i64.wrap (a7 + 1)) (setI l8 a7 (-1))), ⟨h12, (Heapy.pick hp12 [0, 1] (by decide)), rfl⟩, pEnd_sound good (L := F51_L) (D := F51_D) (its := [.g, (.b true), .g, .g, .g, .g, (.ix id11 off11 g11), (.mm undef h12), .g, .g]) (ds := F51_m1_0) (ks := []) (e := .normal) (s2 := (F51_h1 l1 v1 v2 v5 h12 (IntKind.i64.wrap (a7 + 1)) (setI l8 a7 (-1)))) (hC := (ai m12 (ai ix11 (ai c10 trivial)))) (hd := F51_d1) (h := by kernel_rfl)⟩
  · intro hr
    obtain rfl := Option.some.inj hr
    refine ⟨(.exit 0), (F51_x1_0 h l1 v1 v2 v5 h9 (l8 : (List Int))), (by intro hh; cases hh), ?_, pEnd_sound good (L := F51_L) (D := F51_D) (its := [.g, (.b false)]) (ds := F51_m1_1) (ks := []) (e := (.exit 0)) (s2 := (F51_x1_0 h l1 v1 v2 v5 h9 (l8 : (List Int)))) (hC := (ai c10 trivial)) (hd := F51_d1) (h := by kernel_rfl)⟩
    exact ⟨rfl, h9, (Heapy.pick hp9 [0, 1] (by decide)), rfl⟩
theorem F51_l1 (h : AHeap) (l1 : List Int) (v1 : Hd) (v2 : Hd) (v5 : Hd) (x : Int × (List Int)) (r : (List Int)) (hl : loopO (fun (s : Int × (List Int)) => F51_s1 l1 s.1 s.2) x = some r) (S : AS) (hI : (F51_i1 h l1 v1 v2 v5) x S) : ∃ e S', (F51_x1 h l1 v1 v2 v5) r e S' ∧ AWp Try.prog (.loop (codeOf Try.prog 51 [1, 0, 1, 0, 1, 0, 0])) (Ends1 e S') S :=
  loop_rel (fun x S hI => F51_r1 h l1 v1 v2 v5 x.1 x.2 S hI) hl hI
def F51_m2_1 : List Bool := [false, false, true, true, true, false, true, false, true, true, true, true, true, true, true, true, true, true, true, true, true, true, true, true, false, false, true, true, true, true, true, true, true, true, true, true, true, true, true, true, true, true, true, true, true, true, true, true, true, true, true, true, true, true, true, true, true, true, true, true, true, true, true, true, true, true, true, true, true, true, true]
def F51_m2_0 : List Bool := [false, false, true, true, true, false, true, false, true, true, true, true, true, true, true, true, true, true, true, true, true, true, true, true, false, false, true, false, false, false, true, true, true, true, true, true, true, true, true, true, true, true, true, true, true, true, true, true, true, true, true, true, true, true, true, true, true, true, true, true, true, true, true, true, true, true, true, true, true, true, true]
def F51_s2 (l2 : List (Int × Int × Int × Int)) (a21 : Int) (a22 : Int) (l23 : List Int) (l24 : List Int) : Option ((Int × Int × (List Int) × (List Int)) ⊕ (Int × (List Int) × (List Int))) :=
  (bif decide (a22 < (l2.length : Int)) then
   (Option.bind (at? l2 a22) fun y27 =>
   (Option.bind (at? l23 y27.1) fun y28 =>
   (Option.bind (at? l23 y27.2.1) fun y29 =>
   (bif decide ((IntKind.i64.wrap (y28 + y27.2.2.1)) > y29) then
    (Option.bind (at? l24 y27.2.1) fun y32 =>
    some (.inl (y27.2.1, (IntKind.i64.wrap (a22 + 1)), (setI l23 y27.2.1 (IntKind.i64.wrap (y28 + y27.2.2.1))), (setI l24 y27.2.1 a22))))
   else
    some (.inl (a21, (IntKind.i64.wrap (a22 + 1)), l23, l24))))))
  else
   some (.inr (a21, l23, l24)))
def F51_h2 (l1 : List Int) (v1 : Hd) (l2 : List (Int × Int × Int × Int)) (v2 : Hd) (v5 : Hd) (a16 : Int) (h25 : AHeap) (a21 : Int) (a22 : Int) (l23 : List Int) (l24 : List Int) : AS := ⟨[(sv v1), (sv v2), junk, junk, junk, (sv v5), junk, .int .i64 a21, junk, junk, junk, junk, junk, junk, junk, junk, junk, junk, junk, junk, junk, junk, junk, junk, .int .i64 (l1.length : Int), .int .i64 a16, junk, (sv v2), .int .i64 (l2.length : Int), .int .i64 a22, junk, junk, junk, junk, junk, junk, junk, junk, junk, junk, junk, junk, junk, junk, junk, junk, junk, junk, junk, junk, junk, junk, junk, junk, junk, junk, junk, junk, junk, junk, junk, junk, junk, junk, junk, junk, junk, junk, junk, junk, junk], [], h25⟩
theorem F51_d2 : drawsOk F51_D (codeOf Try.prog 51 [1, 0, 1, 1, 1, 1, 0, 1, 0, 0, 1, 1, 0, 0, 1, 0, 1, 0, 0]) = true := by kernel_rfl
def F51_x2_0 (h : AHeap) (l1 : List Int) (v1 : Hd) (v2 : Hd) (v5 : Hd) (a16 : Int) (hx : AHeap) (r : Int × (List Int) × (List Int)) : AS := ⟨[(sv v1), (sv v2), junk, junk, junk, (sv v5), junk, .int .i64 r.1, junk, junk, junk, junk, junk, junk, junk, junk, junk, junk, junk, junk, junk, junk, junk, junk, .int .i64 (l1.length : Int), .int .i64 a16, junk, junk, junk, junk, junk, junk, junk, junk, junk, junk, junk, junk, junk, junk, junk, junk, junk, junk, junk, junk, junk, junk, junk, junk, junk, junk, junk, junk, junk, junk, junk, junk, junk, junk, junk, junk, junk, junk, junk, junk, junk, junk, junk, junk, junk], [], hx⟩
def F51_i2 (h : AHeap) (l1 : List Int) (v1 : Hd) (l2 : List (Int × Int × Int × Int)) (v2 : Hd) (v5 : Hd) (a16 : Int) (s : Int × Int × (List Int) × (List Int)) (S : AS) : Prop := ∃ (h25 : AHeap), Heapy h h25 [⟨v1, 3, 1, List.flatMap enc3 s.2.2.1⟩, ⟨v5, 3, 1, List.flatMap enc3 s.2.2.2⟩] ∧ S = (F51_h2 l1 v1 l2 v2 v5 a16 h25 s.1 s.2.1 s.2.2.1 s.2.2.2)
def F51_x2 (h : AHeap) (l1 : List Int) (v1 : Hd) (v2 : Hd) (v5 : Hd) (a16 : Int) (r : Int × (List Int) × (List Int)) (e : Exit) (S : AS) : Prop := e = (.exit 4) ∧ ∃ (hx : AHeap), Heapy h hx [⟨v1, 3, 1, List.flatMap enc3 r.2.1⟩, ⟨v5, 3, 1, List.flatMap enc3 r.2.2⟩] ∧ S = (F51_x2_0 h l1 v1 v2 v5 a16 hx r)
set_option maxRecDepth 100000 in
theorem F51_r2 (h : AHeap) (l1 : List Int) (v1 : Hd) (l2 : List (Int × Int × Int × Int)) (v2 : Hd) (hv2 : SlE E114 4 h (sv v2) l2) (v5 : Hd) (a16 : Int) (a21 : Int) (a22 : Int) (l23 : List Int) (l24 : List Int) (S : AS) (hI : (F51_i2 h l1 v1 l2 v2 v5 a16) (a21, a22, l23, l24) S) (o : (Int × Int × (List Int) × (List Int)) ⊕ (Int × (List Int) × (List Int))) : F51_s2 l2 a21 a22 l23 l24 = some o → Rd Try.prog (codeOf Try.prog 51 [1, 0, 1, 1, 1, 1, 0, 1, 0, 0, 1, 1, 0, 0, 1, 0, 1, 0, 0]) (F51_i2 h l1 v1 l2 v2 v5 a16) (F51_x2 h l1 v1 v2 v5 a16) S o := by
  obtain ⟨h25, hp25, rfl⟩ := hI
  unfold F51_s2
  refine dec_bif (fun c26 => ?_) (fun c26 => ?_)
  · refine bind_opt fun y27 e27 => ?_
    obtain ⟨id27, off27, g27, cs27, ix27, at27, rfl⟩ := SlE.at hv2 e27
    refine bind_opt fun y28 e28 => ?_
    obtain ⟨id28, off28, g28, cs28, ix28, at28, rfl⟩ := SlE.at (Heapy.sle (v := v1) (xs := l23) (enc := enc3) hp25 0 rfl (fun _ => rfl) (by decide)) e28
    refine bind_opt fun y29 e29 => ?_
    obtain ⟨id29, off29, g29, cs29, ix29, at29, rfl⟩ := SlE.at (Heapy.sle (v := v1) (xs := l23) (enc := enc3) hp25 0 rfl (fun _ => rfl) (by decide)) e29
    refine dec_bif (fun c30 => ?_) (fun c30 => ?_)
    · obtain ⟨h31, m31, hp31⟩ := Heapy.store (P := Try.prog) hp25 0 (v := v1) (xs := l23) (enc := enc3) rfl (fun _ => rfl) e29 (y' := (IntKind.i64.wrap (y28 + y27.2.2.1))) ix29 (t := 3) (x := .int .i64 (IntKind.i64.wrap (y28 + y27.2.2.1))) 0 (vs := [.int .i64 (IntKind.i64.wrap (y28 + y27.2.2.1))]) rfl (by kernel_rfl) rfl rfl rfl rfl
      refine bind_opt fun y32 e32 => ?_
      obtain ⟨id32, off32, g32, cs32, ix32, at32, rfl⟩ := SlE.at (Heapy.sle (v := v5) (xs := l24) (enc := enc3) hp31 1 rfl (fun _ => rfl) (by decide)) e32
      obtain ⟨h33, m33, hp33⟩ := Heapy.store (P := Try.prog) hp31 1 (v := v5) (xs := l24) (enc := enc3) rfl (fun _ => rfl) e32 (y' := a22) ix32 (t := 3) (x := .int .i64 a22) 0 (vs := [.int .i64 a22]) rfl (by kernel_rfl) rfl rfl rfl rfl
      intro hr
      obtain rfl := Option.some.inj hr
      exact ⟨(F51_h2 l1 v1 l2 v2 v5 a16 h33 y27.2.1 (IntKind.i64.wrap (a22 + 1)) (setI l23 y27.2.1 (IntKind.i64.wrap (y28 + y27.2.2.1))) (setI l24 y27.2.1 a22)), ⟨h33, (Heapy.pick hp33 [0, 1] (by decide)), rfl⟩, pEnd_sound good (L := F51_L) (D := F51_D) (its := [.g, (.b true), .g, (.ix id27 off27 g27), (.ld (.agg #[.int .i64 y27.1, .int .i64 y27.2.1, .int .i64 y27.2.2.1, .int .i64 y27.2.2.2])), .g, .g, .g, .g, .g, .g, (.ix id28 off28 g28), (.ld (.int .i64 y28)), .g, .g, .g, .g, .g, .g, .g, .g, (.ix id29 off29 g29), (.ld (.int .i64 y29)), .g, (.b true), .g, .g, .g, .g, (.ix id29 off29 g29), (.mm undef h31), .g, .g, .g, .g, (.ix id32 off32 g32), (.mm undef h33), .g, .g, .g, .g, .g]) (ds := F51_m2_0) (ks := [9]) (e := .normal) (s2 := (F51_h2 l1 v1 l2 v2 v5 a16 h33 y27.2.1 (IntKind.i64.wrap (a22 + 1)) (setI l23 y27.2.1 (IntKind.i64.wrap (y28 + y27.2.2.1))) (setI l24 y27.2.1 a22))) (hC := (ai m33 (ai ix32 (ai m31 (ai ix29 (ai c30 (ai (At.one (P := Try.prog) (t := 3) (v := .int .i64 y29) at29 (by kernel_rfl) 0 rfl rfl) (ai ix29 (ai (At.one (P := Try.prog) (t := 3) (v := .int .i64 y28) at28 (by kernel_rfl) 0 rfl rfl) (ai ix28 (ai (At.agg (P := Try.prog) (t := 114) (v := .agg #[.int .i64 y27.1, .int .i64 y27.2.1, .int .i64 y27.2.2.1, .int .i64 y27.2.2.2]) (m := 4) (At.mono (Heapy.sub hp25) at27) (by kernel_rfl) (by kernel_rfl) 0 (by kernel_rfl) rfl) (ai ix27 (ai c26 trivial))))))))))))) (hd := F51_d2) (h := by kernel_rfl)⟩
    · intro hr
      obtain rfl := Option.some.inj hr
      exact ⟨(F51_h2 l1 v1 l2 v2 v5 a16 h25 a21 (IntKind.i64.wrap (a22 + 1)) l23 l24), ⟨h25, (Heapy.pick hp25 [0, 1] (by decide)), rfl⟩, pEnd_sound good (L := F51_L) (D := F51_D) (its := [.g, (.b true), .g, (.ix id27 off27 g27), (.ld (.agg #[.int .i64 y27.1, .int .i64 y27.2.1, .int .i64 y27.2.2.1, .int .i64 y27.2.2.2])), .g, .g, .g, .g, .g, .g, (.ix id28 off28 g28), (.ld (.int .i64 y28)), .g, .g, .g, .g, .g, .g, .g, .g, (.ix id29 off29 g29), (.ld (.int .i64 y29)), .g, (.b false), .g, .g]) (ds := F51_m2_0) (ks := [9]) (e := .normal) (s2 := (F51_h2 l1 v1 l2 v2 v5 a16 h25 a21 (IntKind.i64.wrap (a22 + 1)) l23 l24)) (hC := (ai c30 (ai (At.one (P := Try.prog) (t := 3) (v := .int .i64 y29) at29 (by kernel_rfl) 0 rfl rfl) (ai ix29 (ai (At.one (P := Try.prog) (t := 3) (v := .int .i64 y28) at28 (by kernel_rfl) 0 rfl rfl) (ai ix28 (ai (At.agg (P := Try.prog) (t := 114) (v := .agg #[.int .i64 y27.1, .int .i64 y27.2.1, .int .i64 y27.2.2.1, .int .i64 y27.2.2.2]) (m := 4) (At.mono (Heapy.sub hp25) at27) (by kernel_rfl) (by kernel_rfl) 0 (by kernel_rfl) rfl) (ai ix27 (ai c26 trivial))))))))) (hd := F51_d2) (h := by kernel_rfl)⟩
  · intro hr
    obtain rfl := Option.some.inj hr
    refine ⟨(.exit 4), (F51_x2_0 h l1 v1 v2 v5 a16 h25 ((a21, l23, l24) : Int × (List Int) × (List Int))), (by intro hh; cases hh), ?_, pEnd_sound good (L := F51_L) (D := F51_D) (its := [.g, (.b false)]) (ds := F51_m2_1) (ks := []) (e := (.exit 4)) (s2 := (F51_x2_0 h l1 v1 v2 v5 a16 h25 ((a21, l23, l24) : Int × (List Int) × (List Int)))) (hC := (ai c26 trivial)) (hd := F51_d2) (h := by kernel_rfl)⟩
    exact ⟨rfl, h25, (Heapy.pick hp25 [0, 1] (by decide)), rfl⟩
theorem F51_l2 (h : AHeap) (l1 : List Int) (v1 : Hd) (l2 : List (Int × Int × Int × Int)) (v2 : Hd) (hv2 : SlE E114 4 h (sv v2) l2) (v5 : Hd) (a16 : Int) (x : Int × Int × (List Int) × (List Int)) (r : Int × (List Int) × (List Int)) (hl : loopO (fun (s : Int × Int × (List Int) × (List Int)) => F51_s2 l2 s.1 s.2.1 s.2.2.1 s.2.2.2) x = some r) (S : AS) (hI : (F51_i2 h l1 v1 l2 v2 v5 a16) x S) : ∃ e S', (F51_x2 h l1 v1 v2 v5 a16) r e S' ∧ AWp Try.prog (.loop (codeOf Try.prog 51 [1, 0, 1, 1, 1, 1, 0, 1, 0, 0, 1, 1, 0, 0, 1, 0, 1, 0, 0])) (Ends1 e S') S :=
  loop_rel (fun x S hI => F51_r2 h l1 v1 l2 v2 hv2 v5 a16 x.1 x.2.1 x.2.2.1 x.2.2.2 S hI) hl hI
def F51_m3_1 : List Bool := [false, false, true, true, true, false, true, false, true, true, true, true, true, true, true, true, true, true, true, true, true, true, true, true, false, false, true, true, true, true, true, true, true, true, true, true, true, true, true, true, true, true, true, true, true, true, true, true, true, true, true, true, true, true, true, true, true, true, true, true, true, true, true, true, true, true, true, true, true, true, true]
def F51_m3_0 : List Bool := [false, false, true, true, true, false, true, false, true, true, true, true, true, true, true, true, true, true, true, true, true, true, true, true, true, true, true, true, true, true, true, true, true, true, true, true, true, true, true, true, true, true, true, true, true, true, true, true, true, true, true, true, true, true, true, true, true, true, true, true, true, true, true, true, true, true, true, true, true, true, true]
def F51_s3 (l1 : List Int) (l2 : List (Int × Int × Int × Int)) (a15 : Int) (a16 : Int) (l17 : List Int) (l18 : List Int) : Option ((Int × Int × (List Int) × (List Int)) ⊕ (Int × (List Int) × (List Int))) :=
  (bif decide (a16 < (l1.length : Int)) then
   (Option.bind (loopO (fun (s : Int × Int × (List Int) × (List Int)) => F51_s2 l2 s.1 s.2.1 s.2.2.1 s.2.2.2) ((-1), 0, l17, l18)) fun y34 =>
   (bif decide (y34.1 < 0) then
    some (.inr (y34.1, y34.2.1, y34.2.2))
   else
    some (.inl (y34.1, (IntKind.i64.wrap (a16 + 1)), y34.2.1, y34.2.2))))
  else
   some (.inr (a15, l17, l18)))
def F51_h3 (l1 : List Int) (v1 : Hd) (v2 : Hd) (v5 : Hd) (h19 : AHeap) (a15 : Int) (a16 : Int) (l17 : List Int) (l18 : List Int) : AS := ⟨[(sv v1), (sv v2), junk, junk, junk, (sv v5), junk, .int .i64 a15, junk, junk, junk, junk, junk, junk, junk, junk, junk, junk, junk, junk, junk, junk, junk, junk, .int .i64 (l1.length : Int), .int .i64 a16, junk, junk, junk, junk, junk, junk, junk, junk, junk, junk, junk, junk, junk, junk, junk, junk, junk, junk, junk, junk, junk, junk, junk, junk, junk, junk, junk, junk, junk, junk, junk, junk, junk, junk, junk, junk, junk, junk, junk, junk, junk, junk, junk, junk, junk], [], h19⟩
theorem F51_d3 : drawsOk F51_D (codeOf Try.prog 51 [1, 0, 1, 1, 1, 1, 0, 1, 0, 0]) = true := by kernel_rfl
def F51_x3_0 (h : AHeap) (v1 : Hd) (v2 : Hd) (v5 : Hd) (hx : AHeap) (r : Int × (List Int) × (List Int)) : AS := ⟨[(sv v1), (sv v2), junk, junk, junk, (sv v5), junk, .int .i64 r.1, junk, junk, junk, junk, junk, junk, junk, junk, junk, junk, junk, junk, junk, junk, junk, junk, junk, junk, junk, junk, junk, junk, junk, junk, junk, junk, junk, junk, junk, junk, junk, junk, junk, junk, junk, junk, junk, junk, junk, junk, junk, junk, junk, junk, junk, junk, junk, junk, junk, junk, junk, junk, junk, junk, junk, junk, junk, junk, junk, junk, junk, junk, junk], [], hx⟩
def F51_i3 (h : AHeap) (l1 : List Int) (v1 : Hd) (v2 : Hd) (v5 : Hd) (s : Int × Int × (List Int) × (List Int)) (S : AS) : Prop := ∃ (h19 : AHeap), Heapy h h19 [⟨v1, 3, 1, List.flatMap enc3 s.2.2.1⟩, ⟨v5, 3, 1, List.flatMap enc3 s.2.2.2⟩] ∧ S = (F51_h3 l1 v1 v2 v5 h19 s.1 s.2.1 s.2.2.1 s.2.2.2)
def F51_x3 (h : AHeap) (v1 : Hd) (v2 : Hd) (v5 : Hd) (r : Int × (List Int) × (List Int)) (e : Exit) (S : AS) : Prop := e = (.exit 2) ∧ ∃ (hx : AHeap), Heapy h hx [⟨v1, 3, 1, List.flatMap enc3 r.2.1⟩, ⟨v5, 3, 1, List.flatMap enc3 r.2.2⟩] ∧ S = (F51_x3_0 h v1 v2 v5 hx r)
set_option maxRecDepth 100000 in
theorem F51_r3 (h : AHeap) (l1 : List Int) (v1 : Hd) (l2 : List (Int × Int × Int × Int)) (v2 : Hd) (hv2 : SlE E114 4 h (sv v2) l2) (v5 : Hd) (a15 : Int) (a16 : Int) (l17 : List Int) (l18 : List Int) (S : AS) (hI : (F51_i3 h l1 v1 v2 v5) (a15, a16, l17, l18) S) (o : (Int × Int × (List Int) × (List Int)) ⊕ (Int × (List Int) × (List Int))) : F51_s3 l1 l2 a15 a16 l17 l18 = some o → Rd Try.prog (codeOf Try.prog 51 [1, 0, 1, 1, 1, 1, 0, 1, 0, 0]) (F51_i3 h l1 v1 v2 v5) (F51_x3 h v1 v2 v5) S o := by
  obtain ⟨h19, hp19, rfl⟩ := hI
  unfold F51_s3
  refine dec_bif (fun c20 => ?_) (fun c20 => ?_)
  · refine bind_opt fun y34 e34 => ?_
    obtain ⟨ee34, SS34, hX34, hA34⟩ := F51_l2 h l1 v1 l2 v2 hv2 v5 a16 ((-1), 0, l17, l18) y34 e34 (F51_h2 l1 v1 l2 v2 v5 a16 h19 (-1) 0 l17 l18) ⟨h19, (Heapy.pick hp19 [0, 1] (by decide)), rfl⟩
    obtain ⟨rfl, h35, hp35, rfl⟩ := hX34
    refine dec_bif (fun c36 => ?_) (fun c36 => ?_)
    · intro hr
      obtain rfl := Option.some.inj hr
      refine ⟨(.exit 2), (F51_x3_0 h v1 v2 v5 h35 ((y34.1, y34.2.1, y34.2.2) : Int × (List Int) × (List Int))), (by intro hh; cases hh), ?_, pEnd_sound good (L := F51_L) (D := F51_D) (its := [.g, (.b true), .g, .g, (.ln l2.length), .g, (.l F51_m2_0 [] (.exit 4) (F51_x2_0 h l1 v1 v2 v5 a16 h35 y34)), .g, .g, (.b true)]) (ds := F51_m3_0) (ks := []) (e := (.exit 2)) (s2 := (F51_x3_0 h v1 v2 v5 h35 ((y34.1, y34.2.1, y34.2.2) : Int × (List Int) × (List Int)))) (hC := (ai c36 (ai hA34 (ai (SlE.len hv2) (ai c20 trivial))))) (hd := F51_d3) (h := by kernel_rfl)⟩
      exact ⟨rfl, h35, (Heapy.pick hp35 [0, 1] (by decide)), rfl⟩
    · intro hr
      obtain rfl := Option.some.inj hr
      exact ⟨(F51_h3 l1 v1 v2 v5 h35 y34.1 (IntKind.i64.wrap (a16 + 1)) y34.2.1 y34.2.2), ⟨h35, (Heapy.pick hp35 [0, 1] (by decide)), rfl⟩, pEnd_sound good (L := F51_L) (D := F51_D) (its := [.g, (.b true), .g, .g, (.ln l2.length), .g, (.l F51_m2_0 [] (.exit 4) (F51_x2_0 h l1 v1 v2 v5 a16 h35 y34)), .g, .g, (.b false), .g, .g]) (ds := F51_m3_1) (ks := []) (e := .normal) (s2 := (F51_h3 l1 v1 v2 v5 h35 y34.1 (IntKind.i64.wrap (a16 + 1)) y34.2.1 y34.2.2)) (hC := (ai c36 (ai hA34 (ai (SlE.len hv2) (ai c20 trivial))))) (hd := F51_d3) (h := by kernel_rfl)⟩
  · intro hr
    obtain rfl := Option.some.inj hr
    refine ⟨(.exit 2), (F51_x3_0 h v1 v2 v5 h19 ((a15, l17, l18) : Int × (List Int) × (List Int))), (by intro hh; cases hh), ?_, pEnd_sound good (L := F51_L) (D := F51_D) (its := [.g, (.b false)]) (ds := F51_m3_0) (ks := []) (e := (.exit 2)) (s2 := (F51_x3_0 h v1 v2 v5 h19 ((a15, l17, l18) : Int × (List Int) × (List Int)))) (hC := (ai c20 trivial)) (hd := F51_d3) (h := by kernel_rfl)⟩
    exact ⟨rfl, h19, (Heapy.pick hp19 [0, 1] (by decide)), rfl⟩
theorem F51_l3 (h : AHeap) (l1 : List Int) (v1 : Hd) (l2 : List (Int × Int × Int × Int)) (v2 : Hd) (hv2 : SlE E114 4 h (sv v2) l2) (v5 : Hd) (x : Int × Int × (List Int) × (List Int)) (r : Int × (List Int) × (List Int)) (hl : loopO (fun (s : Int × Int × (List Int) × (List Int)) => F51_s3 l1 l2 s.1 s.2.1 s.2.2.1 s.2.2.2) x = some r) (S : AS) (hI : (F51_i3 h l1 v1 v2 v5) x S) : ∃ e S', (F51_x3 h v1 v2 v5) r e S' ∧ AWp Try.prog (.loop (codeOf Try.prog 51 [1, 0, 1, 1, 1, 1, 0, 1, 0, 0])) (Ends1 e S') S :=
  loop_rel (fun x S hI => F51_r3 h l1 v1 l2 v2 hv2 v5 x.1 x.2.1 x.2.2.1 x.2.2.2 S hI) hl hI
def F51 (l1 : List Int) (l2 : List (Int × Int × Int × Int)) : Option ((List Int) × (List Int)) :=
  (bif (!(okLen (l1.length : Int) (l1.length : Int) 8)) then none else
  (Option.bind (loopO (fun (s : Int × (List Int)) => F51_s1 l1 s.1 s.2) (0, (List.replicate (l1.length : Int).toNat (0 : Int)))) fun y13 =>
  (Option.bind (loopO (fun (s : Int × Int × (List Int) × (List Int)) => F51_s3 l1 l2 s.1 s.2.1 s.2.2.1 s.2.2.2) ((-1), 0, l1, y13)) fun y37 =>
  (bif decide (y37.1 < 0) then
   some ([], y37.2.1)
  else
   (Option.bind (F81 y37.2.2 l2 y37.1) fun y40 =>
   some (y40, y37.2.1))))))
set_option maxRecDepth 100000 in
theorem F51_spec (l1 : List Int) (l2 : List (Int × Int × Int × Int)) (v1 : Hd) (v2 : Hd) (hi : AHeap) (h : AHeap) (hw : h.wf) (hv2 : SlE E114 4 h (sv v2) l2) (hio : Heapy h hi [⟨v1, 3, 1, List.flatMap enc3 l1⟩]) (r : (List Int) × (List Int)) : F51 l1 l2 = some r → ∃ (ur0 : Hd) (h' : AHeap), Heapy h h' [⟨ur0, 3, 1, List.flatMap enc3 r.1⟩, ⟨v1, 3, 1, List.flatMap enc3 r.2⟩] ∧ Strict ur0 ∧ ACalls Try.prog 51 [(sv v1), (sv v2)] hi (fun v' h'' => v' = ((sv ur0) : Value) ∧ h'' = h') := by
  unfold F51
  refine guard_ok fun g4 => ?_
  obtain ⟨v5, h5, m5, hp5, _⟩ := Heapy.make hio (show mkInfo Try.prog 27 = some (3, 1, 8, [.int .i64 0]) by kernel_rfl) (a := (l1.length : Int)) (b := (l1.length : Int)) (by simpa using g4) (enc := enc3) (x := 0) rfl rfl
  refine bind_opt fun y13 e13 => ?_
  obtain ⟨ee13, SS13, hX13, hA13⟩ := F51_l1 h l1 v1 v2 v5 (0, (List.replicate (l1.length : Int).toNat (0 : Int))) y13 e13 (F51_h1 l1 v1 v2 v5 h5 0 (List.replicate (l1.length : Int).toNat (0 : Int))) ⟨h5, (Heapy.pick hp5 [1, 0] (by decide)), rfl⟩
  obtain ⟨rfl, h14, hp14, rfl⟩ := hX13
  refine bind_opt fun y37 e37 => ?_
  obtain ⟨ee37, SS37, hX37, hA37⟩ := F51_l3 h l1 v1 l2 v2 hv2 v5 ((-1), 0, l1, y13) y37 e37 (F51_h3 l1 v1 v2 v5 h14 (-1) 0 l1 y13) ⟨h14, (Heapy.pick hp14 [0, 1] (by decide)), rfl⟩
  obtain ⟨rfl, h38, hp38, rfl⟩ := hX37
  refine dec_bif (fun c39 => ?_) (fun c39 => ?_)
  · intro hr
    obtain rfl := Option.some.inj hr
    exact ⟨⟨none, 0, 0⟩, h38, Heapy.pick (Heapy.nil hp38 3 1) [0, 1] (by decide), Strict.nil, pFun_sound good tab_ok (f := 51) (its := [.g, .g, (.ln l1.length), (.mm (sv v5) h5), .g, .g, (.ln (List.replicate (l1.length : Int).toNat (0 : Int)).length), .g, (.l F51_m1_0 [] (.exit 0) (F51_x1_0 h l1 v1 v2 v5 h14 y13)), .g, .g, (.ln l1.length), .g, (.l F51_m3_1 [] (.exit 2) (F51_x3_0 h v1 v2 v5 h38 y37)), .g, .g, (.b true), .g]) (args := [(sv v1), (sv v2)]) (h := hi) (h' := h38) (v := .slice none 0 0) (hC := (ai c39 (ai hA37 (ai (SlE.len (Heapy.sle (v := v1) (xs := l1) (enc := enc3) hp14 0 rfl (fun _ => rfl) (by decide))) (ai hA13 (ai (SlE.len (Heapy.sle (v := v5) (xs := (List.replicate (l1.length : Int).toNat (0 : Int))) (enc := enc3) hp5 0 rfl (fun _ => rfl) (by decide))) (ai m5 (ai (SlE.len (Heapy.sle (v := v1) (xs := l1) (enc := enc3) hio 0 rfl (fun _ => rfl) (by decide))) trivial)))))))) (hr := by kernel_rfl)⟩
  · refine bind_opt fun y40 e40 => ?_
    obtain ⟨u41_0, h41, q41, zu41_0, c41⟩ := F81_spec y37.2.2 l2 y37.1 v5 v2 h38 (Heapy.wf hp38) (Heapy.sle (v := v5) (xs := y37.2.2) (enc := enc3) hp38 1 rfl (fun _ => rfl) (by decide)) (SlE.mono hv2 (Heapy.sub hp38) (E114_mono (Heapy.sub hp38))) _ e40
    have hp41 : Heapy h h41 [⟨u41_0, 3, 1, List.flatMap enc3 y40⟩, ⟨v1, 3, 1, List.flatMap enc3 y37.2.1⟩, ⟨v5, 3, 1, List.flatMap enc3 y37.2.2⟩] := Heapy.call hp38 q41
    intro hr
    obtain rfl := Option.some.inj hr
    exact ⟨u41_0, h41, Heapy.pick hp41 [0, 1] (by decide), zu41_0, pFun_sound good tab_ok (f := 51) (its := [.g, .g, (.ln l1.length), (.mm (sv v5) h5), .g, .g, (.ln (List.replicate (l1.length : Int).toNat (0 : Int)).length), .g, (.l F51_m1_0 [] (.exit 0) (F51_x1_0 h l1 v1 v2 v5 h14 y13)), .g, .g, (.ln l1.length), .g, (.l F51_m3_1 [] (.exit 2) (F51_x3_0 h v1 v2 v5 h38 y37)), .g, .g, (.b false), .g, .g, .g, (.c ((sv u41_0)) h41), .g]) (args := [(sv v1), (sv v2)]) (h := hi) (h' := h41) (v := (sv u41_0)) (hC := (ai c41 (ai c39 (ai hA37 (ai (SlE.len (Heapy.sle (v := v1) (xs := l1) (enc := enc3) hp14 0 rfl (fun _ => rfl) (by decide))) (ai hA13 (ai (SlE.len (Heapy.sle (v := v5) (xs := (List.replicate (l1.length : Int).toNat (0 : Int))) (enc := enc3) hp5 0 rfl (fun _ => rfl) (by decide))) (ai m5 (ai (SlE.len (Heapy.sle (v := v1) (xs := l1) (enc := enc3) hio 0 rfl (fun _ => rfl) (by decide))) trivial))))))))) (hr := by kernel_rfl)⟩
/-! 21 jacquard/diffcons.After -/
def F21_L : List Nat := []
def F21_D : List (Nat × List (Nat × Nat)) := []
def F21_m1_1 : List Bool := [true, true, true, true, true, true, true, true, false, true, false, true, true, true, true, true, true, true, true, true, true, true, true, true, true, true, true, true, true, true, true, true, true, true, true, true, true, true, true]
def F21_m1_0 : List Bool := [true, true, true, false, true, true, true, true, false, true, false, true, true, true, true, true, true, true, true, true, true, false, false, true, true, true, true, true, true, true, true, true, true, true, true, true, true, true, true]
def F21_s1 (x1 : Int) (l4 : List Int) (a12 : Int) (l13 : List Int) : Option ((Int × (List Int)) ⊕ (List Int)) :=
  (bif decide (a12 < ((List.replicate (F48 x1).toNat (0 : Int)).length : Int)) then
   (Option.bind (F50 l4 a12) fun y16 =>
   (Option.bind (at? l13 a12) fun y18 =>
   some (.inl ((IntKind.i64.wrap (a12 + 1)), (setI l13 a12 y16)))))
  else
   some (.inr l13))
def F21_h1 (x1 : Int) (v4 : Hd) (u7_0 : Hd) (v10 : Hd) (h14 : AHeap) (a12 : Int) (l13 : List Int) : AS := ⟨[junk, junk, junk, (sv v4), junk, junk, junk, junk, (sv v10), junk, (sv u7_0), junk, junk, junk, junk, junk, junk, junk, junk, junk, junk, .int .i64 ((List.replicate (F48 x1).toNat (0 : Int)).length : Int), .int .i64 a12, junk, junk, junk, junk, junk, junk, junk, junk, junk, junk, junk, junk, junk, junk, junk, junk], [], h14⟩
theorem F21_d1 : drawsOk F21_D (codeOf Try.prog 21 [1, 1, 1, 1, 0, 1, 0, 0]) = true := by kernel_rfl
def F21_x1_0 (h : AHeap) (y6 : (List (Int × Int × Int × Int))) (u7_0 : Hd) (v10 : Hd) (hx : AHeap) (r : (List Int)) : AS := ⟨[junk, junk, junk, junk, junk, junk, junk, junk, (sv v10), junk, (sv u7_0), junk, junk, junk, junk, junk, junk, junk, junk, junk, junk, junk, junk, junk, junk, junk, junk, junk, junk, junk, junk, junk, junk, junk, junk, junk, junk, junk, junk], [], hx⟩
def F21_i1 (h : AHeap) (x1 : Int) (v4 : Hd) (y6 : (List (Int × Int × Int × Int))) (u7_0 : Hd) (v10 : Hd) (s : Int × (List Int)) (S : AS) : Prop := ∃ (h14 : AHeap), Heapy h h14 [⟨v10, 3, 1, List.flatMap enc3 s.2⟩, ⟨u7_0, 114, 4, List.flatMap enc114 y6⟩] ∧ S = (F21_h1 x1 v4 u7_0 v10 h14 s.1 s.2)
def F21_x1 (h : AHeap) (y6 : (List (Int × Int × Int × Int))) (u7_0 : Hd) (v10 : Hd) (r : (List Int)) (e : Exit) (S : AS) : Prop := e = (.exit 0) ∧ ∃ (hx : AHeap), Heapy h hx [⟨v10, 3, 1, List.flatMap enc3 r⟩, ⟨u7_0, 114, 4, List.flatMap enc114 y6⟩] ∧ S = (F21_x1_0 h y6 u7_0 v10 hx r)
set_option maxRecDepth 100000 in
theorem F21_r1 (h : AHeap) (x1 : Int) (l4 : List Int) (v4 : Hd) (hv4 : SlE E3 1 h (sv v4) l4) (y6 : (List (Int × Int × Int × Int))) (u7_0 : Hd) (v10 : Hd) (a12 : Int) (l13 : List Int) (S : AS) (hI : (F21_i1 h x1 v4 y6 u7_0 v10) (a12, l13) S) (o : (Int × (List Int)) ⊕ (List Int)) : F21_s1 x1 l4 a12 l13 = some o → Rd Try.prog (codeOf Try.prog 21 [1, 1, 1, 1, 0, 1, 0, 0]) (F21_i1 h x1 v4 y6 u7_0 v10) (F21_x1 h y6 u7_0 v10) S o := by
  obtain ⟨h14, hp14, rfl⟩ := hI
  unfold F21_s1
  refine dec_bif (fun c15 => ?_) (fun c15 => ?_)
  · refine bind_opt fun y16 e16 => ?_
    refine bind_opt fun y18 e18 => ?_
    obtain ⟨id18, off18, g18, cs18, ix18, at18, rfl⟩ := SlE.at (Heapy.sle (v := v10) (xs := l13) (enc := enc3) hp14 0 rfl (fun _ => rfl) (by decide)) e18
    obtain ⟨h19, m19, hp19⟩ := Heapy.store (P := Try.prog) hp14 0 (v := v10) (xs := l13) (enc := enc3) rfl (fun _ => rfl) e18 (y' := y16) ix18 (t := 3) (x := .int .i64 y16) 0 (vs := [.int .i64 y16]) rfl (by kernel_rfl) rfl rfl rfl rfl
    intro hr
    obtain rfl := Option.some.inj hr
    exact ⟨(F21_h1 x1 v4 u7_0 v10 h19 (IntKind.i64.wrap (a12 + 1)) (setI l13 a12 y16)), ⟨h19, (Heapy.pick hp19 [0, 1] (by decide)), rfl⟩, pEnd_sound good (L := F21_L) (D := F21_D) (its := [.g, (.b true), .g, .g, .g, .g, .g, .g, (.c (.int .i64 y16) h14), (.ix id18 off18 g18), (.mm undef h19), .g, .g]) (ds := F21_m1_0) (ks := []) (e := .normal) (s2 := (F21_h1 x1 v4 u7_0 v10 h19 (IntKind.i64.wrap (a12 + 1)) (setI l13 a12 y16))) (hC := (ai m19 (ai ix18 (ai (F50_spec l4 a12 v4 h14 (SlE.mono hv4 (Heapy.sub hp14) (E3_mono (Heapy.sub hp14))) _ e16) (ai c15 trivial))))) (hd := F21_d1) (h := by kernel_rfl)⟩
  · intro hr
    obtain rfl := Option.some.inj hr
    refine ⟨(.exit 0), (F21_x1_0 h y6 u7_0 v10 h14 (l13 : (List Int))), (by intro hh; cases hh), ?_, pEnd_sound good (L := F21_L) (D := F21_D) (its := [.g, (.b false)]) (ds := F21_m1_1) (ks := []) (e := (.exit 0)) (s2 := (F21_x1_0 h y6 u7_0 v10 h14 (l13 : (List Int)))) (hC := (ai c15 trivial)) (hd := F21_d1) (h := by kernel_rfl)⟩
    exact ⟨rfl, h14, (Heapy.pick hp14 [0, 1] (by decide)), rfl⟩
theorem F21_l1 (h : AHeap) (x1 : Int) (l4 : List Int) (v4 : Hd) (hv4 : SlE E3 1 h (sv v4) l4) (y6 : (List (Int × Int × Int × Int))) (u7_0 : Hd) (v10 : Hd) (x : Int × (List Int)) (r : (List Int)) (hl : loopO (fun (s : Int × (List Int)) => F21_s1 x1 l4 s.1 s.2) x = some r) (S : AS) (hI : (F21_i1 h x1 v4 y6 u7_0 v10) x S) : ∃ e S', (F21_x1 h y6 u7_0 v10) r e S' ∧ AWp Try.prog (.loop (codeOf Try.prog 21 [1, 1, 1, 1, 0, 1, 0, 0])) (Ends1 e S') S :=
  loop_rel (fun x S hI => F21_r1 h x1 l4 v4 hv4 y6 u7_0 v10 x.1 x.2 S hI) hl hI
def F21 (x1 : Int) (l2 : List (Int × Int × Int × Int)) (x3 : Int) (l4 : List Int) : Option ((List Int) × (List Int)) :=
  (Option.bind (F49 (F48 x1) l2 x3 false) fun y6 =>
  (bif (!(okLen (F48 x1) (F48 x1) 8)) then none else
  (Option.bind (loopO (fun (s : Int × (List Int)) => F21_s1 x1 l4 s.1 s.2) (0, (List.replicate (F48 x1).toNat (0 : Int)))) fun y20 =>
  (Option.bind (F51 y20 y6) fun y23 =>
  (bif (!y23.1.isEmpty) then
   some ([], y23.1)
  else
   some (y23.2, []))))))
set_option maxRecDepth 100000 in
theorem F21_spec (x1 : Int) (l2 : List (Int × Int × Int × Int)) (x3 : Int) (l4 : List Int) (v2 : Hd) (v4 : Hd) (h : AHeap) (hw : h.wf) (hv2 : SlE E81 4 h (sv v2) l2) (hv4 : SlE E3 1 h (sv v4) l4) (r : (List Int) × (List Int)) : F21 x1 l2 x3 l4 = some r → ∃ (ur0 : Hd) (ur1 : Hd) (h' : AHeap), Heapy h h' [⟨ur0, 3, 1, List.flatMap enc3 r.1⟩, ⟨ur1, 3, 1, List.flatMap enc3 r.2⟩] ∧ Strict ur1 ∧ ACalls Try.prog 21 [.int .i64 x1, (sv v2), .int .i64 x3, (sv v4)] h (fun v' h'' => v' = (.tuple #[(sv ur0), (sv ur1)] : Value) ∧ h'' = h') := by
  unfold F21
  refine bind_opt fun y6 e6 => ?_
  obtain ⟨u7_0, h7, q7, zu7_0, c7⟩ := F49_spec (F48 x1) l2 x3 false v2 h hw hv2 _ e6
  have hp7 : Heapy h h7 [⟨u7_0, 114, 4, List.flatMap enc114 y6⟩] := Heapy.call (Heapy.refl hw) q7
  refine guard_ok fun g9 => ?_
  obtain ⟨v10, h10, m10, hp10, _⟩ := Heapy.make hp7 (show mkInfo Try.prog 27 = some (3, 1, 8, [.int .i64 0]) by kernel_rfl) (a := (F48 x1)) (b := (F48 x1)) (by simpa using g9) (enc := enc3) (x := 0) rfl rfl
  refine bind_opt fun y20 e20 => ?_
  obtain ⟨ee20, SS20, hX20, hA20⟩ := F21_l1 h x1 l4 v4 hv4 y6 u7_0 v10 (0, (List.replicate (F48 x1).toNat (0 : Int))) y20 e20 (F21_h1 x1 v4 u7_0 v10 h10 0 (List.replicate (F48 x1).toNat (0 : Int))) ⟨h10, (Heapy.pick hp10 [0, 1] (by decide)), rfl⟩
  obtain ⟨rfl, h21, hp21, rfl⟩ := hX20
  refine bind_opt fun y23 e23 => ?_
  obtain ⟨b22, pb22, ob22, jb22⟩ := Heapy.io hp21 0 (s := ⟨v10, 3, 1, List.flatMap enc3 y20⟩) rfl
  obtain ⟨u24_0, h24, q24, zu24_0, c24⟩ := F51_spec y20 y6 v10 u7_0 h21 b22 (Heapy.wf ob22) (Heapy.sle (v := u7_0) (xs := y6) (enc := enc114) ob22 0 rfl (fun _ => rfl) (by decide)) pb22 _ e23
  have hp24 : Heapy h h24 [⟨u24_0, 3, 1, List.flatMap enc3 y23.1⟩, ⟨v10, 3, 1, List.flatMap enc3 y23.2⟩, ⟨u7_0, 114, 4, List.flatMap enc114 y6⟩] := jb22 (r := [⟨u24_0, 3, 1, List.flatMap enc3 y23.1⟩]) (s' := ⟨v10, 3, 1, List.flatMap enc3 y23.2⟩) q24
  refine dec_bif (fun c26 => ?_) (fun c26 => ?_)
  · intro hr
    obtain rfl := Option.some.inj hr
    exact ⟨⟨none, 0, 0⟩, u24_0, h24, Heapy.pick (Heapy.nil hp24 3 1) [0, 1] (by decide), zu24_0, pFun_sound good tab_ok (f := 21) (its := [.g, .g, .g, (.c (.int .i64 (F48 x1)) h), .g, .g, .g, .g, (.c ((sv u7_0)) h7), .g, .g, (.mm (sv v10) h10), .g, .g, (.ln (List.replicate (F48 x1).toNat (0 : Int)).length), .g, (.l F21_m1_0 [] (.exit 0) (F21_x1_0 h y6 u7_0 v10 h21 y20)), .g, .g, (.c ((sv u24_0)) h24), .g, .g, (.nl y23.1.isEmpty), (.b true), .g, .g, .g]) (args := [.int .i64 x1, (sv v2), .int .i64 x3, (sv v4)]) (h := h) (h' := h24) (v := .tuple #[.slice none 0 0, (sv u24_0)]) (hC := (ai c26 (ai (Heapy.nilE (v := u24_0) (xs := y23.1) (enc := enc3) hp24 0 rfl (fun _ => rfl) (by decide) zu24_0) (ai c24 (ai hA20 (ai (SlE.len (Heapy.sle (v := v10) (xs := (List.replicate (F48 x1).toNat (0 : Int))) (enc := enc3) hp10 0 rfl (fun _ => rfl) (by decide))) (ai m10 (ai c7 (ai (F48_spec x1 h _ rfl) trivial))))))))) (hr := by kernel_rfl)⟩
  · intro hr
    obtain rfl := Option.some.inj hr
    exact ⟨v10, ⟨none, 0, 0⟩, h24, Heapy.pick (Heapy.nil hp24 3 1) [2, 0] (by decide), Strict.nil, pFun_sound good tab_ok (f := 21) (its := [.g, .g, .g, (.c (.int .i64 (F48 x1)) h), .g, .g, .g, .g, (.c ((sv u7_0)) h7), .g, .g, (.mm (sv v10) h10), .g, .g, (.ln (List.replicate (F48 x1).toNat (0 : Int)).length), .g, (.l F21_m1_0 [] (.exit 0) (F21_x1_0 h y6 u7_0 v10 h21 y20)), .g, .g, (.c ((sv u24_0)) h24), .g, .g, (.nl y23.1.isEmpty), (.b false), .g, .g, .g]) (args := [.int .i64 x1, (sv v2), .int .i64 x3, (sv v4)]) (h := h) (h' := h24) (v := .tuple #[(sv v10), .slice none 0 0]) (hC := (ai c26 (ai (Heapy.nilE (v := u24_0) (xs := y23.1) (enc := enc3) hp24 0 rfl (fun _ => rfl) (by decide) zu24_0) (ai c24 (ai hA20 (ai (SlE.len (Heapy.sle (v := v10) (xs := (List.replicate (F48 x1).toNat (0 : Int))) (enc := enc3) hp10 0 rfl (fun _ => rfl) (by decide))) (ai m10 (ai c7 (ai (F48_spec x1 h _ rfl) trivial))))))))) (hr := by kernel_rfl)⟩
/-! 17 jacquard/diffcons.Earliest -/
def F17 (x1 : Int) (l2 : List (Int × Int × Int × Int)) (x3 : Int) : Option ((List Int) × (List Int)) :=
  (Option.bind (F21 x1 l2 x3 []) fun y4 =>
  some (y4.1, y4.2))
set_option maxRecDepth 100000 in
theorem F17_spec (x1 : Int) (l2 : List (Int × Int × Int × Int)) (x3 : Int) (v2 : Hd) (h : AHeap) (hw : h.wf) (hv2 : SlE E81 4 h (sv v2) l2) (r : (List Int) × (List Int)) : F17 x1 l2 x3 = some r → ∃ (ur0 : Hd) (ur1 : Hd) (h' : AHeap), Heapy h h' [⟨ur0, 3, 1, List.flatMap enc3 r.1⟩, ⟨ur1, 3, 1, List.flatMap enc3 r.2⟩] ∧ Strict ur1 ∧ ACalls Try.prog 17 [.int .i64 x1, (sv v2), .int .i64 x3] h (fun v' h'' => v' = (.tuple #[(sv ur0), (sv ur1)] : Value) ∧ h'' = h') := by
  unfold F17
  refine bind_opt fun y4 e4 => ?_
  obtain ⟨u5_0, u5_1, h5, q5, zu5_1, c5⟩ := F21_spec x1 l2 x3 [] v2 ⟨none, 0, 0⟩ h hw hv2 SlE.nil _ e4
  have hp5 : Heapy h h5 [⟨u5_0, 3, 1, List.flatMap enc3 y4.1⟩, ⟨u5_1, 3, 1, List.flatMap enc3 y4.2⟩] := Heapy.call (Heapy.refl hw) q5
  intro hr
  obtain rfl := Option.some.inj hr
  exact ⟨u5_0, u5_1, h5, Heapy.pick hp5 [0, 1] (by decide), zu5_1, pFun_sound good tab_ok (f := 17) (its := [.g, .g, .g, .g, .g, (.c (.tuple #[(sv u5_0), (sv u5_1)]) h5), .g, .g, .g, .g]) (args := [.int .i64 x1, (sv v2), .int .i64 x3]) (h := h) (h' := h5) (v := .tuple #[(sv u5_0), (sv u5_1)]) (hC := (ai c5 trivial)) (hr := by kernel_rfl)⟩
/-! 76 jacquard/jacquardref30.Counts -/
def F76 (x1 : Int) (x2 : Int) (x3 : Int) (x4 : Int) (x5 : Int) : Bool :=
  (bif decide (x2 ≥ 0) then
   (bif decide (x2 < (F43 x1)) then
    (bif decide (x3 ≥ 0) then
     (decide (x3 < (F43 x1)))
    else
     false)
   else
    false)
  else
   false)
set_option maxRecDepth 100000 in
theorem F76_spec (x1 : Int) (x2 : Int) (x3 : Int) (x4 : Int) (x5 : Int) (h : AHeap)  (r : Bool) : F76 x1 x2 x3 x4 x5 = r → ACalls Try.prog 76 [.int .i64 x1, .agg #[.int .i64 x2, .int .i64 x3, .int .i64 x4, .int .i64 x5]] h (fun v' h'' => v' = (.bool r : Value) ∧ h'' = h) := by
  unfold F76
  refine dec_bif (fun c6 => ?_) (fun c6 => ?_)
  · refine dec_bif (fun c8 => ?_) (fun c8 => ?_)
    · refine dec_bif (fun c9 => ?_) (fun c9 => ?_)
      · intro hr
        subst hr
        exact pFun_sound good tab_ok (f := 76) (its := [.g, .g, .g, .g, .g, .g, (.w .g), (.w .g), (.w .g), (.w (.c (.int .i64 (F43 x1)) h)), (.w .g), (.p true), .g, (.w .g), (.w .g), (.w .g), (.p true), .g, (.w .g), (.w .g), (.w .g), (.w (.c (.int .i64 (F43 x1)) h)), (.w .g), (.p true), .g]) (args := [.int .i64 x1, .agg #[.int .i64 x2, .int .i64 x3, .int .i64 x4, .int .i64 x5]]) (h := h) (h' := h) (v := .bool (decide (x3 < (F43 x1)))) (hC := (ai c9 (ai (g_tt c9) (ai (show AKeep h h from (AHeap.sub_refl h)) (ai (F43_spec x1 h _ rfl) (ai (g_tt c9) (ai (g_tt c9) (ai (g_tt c9) (ai (g_tt c9) (ai c8 (ai (g_tt c8) (ai (g_tt c8) (ai (g_tt c8) (ai c6 (ai (g_tt c6) (ai (show AKeep h h from (AHeap.sub_refl h)) (ai (F43_spec x1 h _ rfl) (ai (g_tt c6) (ai (g_tt c6) (ai (g_tt c6) (ai (g_tt c6) trivial))))))))))))))))))))) (hr := by kernel_rfl)
      · intro hr
        subst hr
        exact pFun_sound good tab_ok (f := 76) (its := [.g, .g, .g, .g, .g, .g, (.w .g), (.w .g), (.w .g), (.w (.c (.int .i64 (F43 x1)) h)), (.w .g), (.p true), .g, (.w .g), (.w .g), (.w .g), (.p true), .g, .n, .n, .n, .n, .n, (.p false), .g]) (args := [.int .i64 x1, .agg #[.int .i64 x2, .int .i64 x3, .int .i64 x4, .int .i64 x5]]) (h := h) (h' := h) (v := .bool false) (hC := (ai c9 (ai (g_ft c9) (ai (g_ft c9) (ai (g_ft c9) (ai (g_ft c9) (ai (g_ft c9) (ai c8 (ai (g_tt c8) (ai (g_tt c8) (ai (g_tt c8) (ai c6 (ai (g_tt c6) (ai (show AKeep h h from (AHeap.sub_refl h)) (ai (F43_spec x1 h _ rfl) (ai (g_tt c6) (ai (g_tt c6) (ai (g_tt c6) (ai (g_tt c6) trivial))))))))))))))))))) (hr := by kernel_rfl)
    · intro hr
      subst hr
      exact pFun_sound good tab_ok (f := 76) (its := [.g, .g, .g, .g, .g, .g, (.w .g), (.w .g), (.w .g), (.w (.c (.int .i64 (F43 x1)) h)), (.w .g), (.p true), .g, .n, .n, .n, (.p false), .g, .n, .n, .n, .n, .n, .g, .g]) (args := [.int .i64 x1, .agg #[.int .i64 x2, .int .i64 x3, .int .i64 x4, .int .i64 x5]]) (h := h) (h' := h) (v := .bool false) (hC := (ai (g_ft l_f) (ai (g_ft l_f) (ai (g_ft l_f) (ai (g_ft l_f) (ai (g_ft l_f) (ai c8 (ai (g_ft c8) (ai (g_ft c8) (ai (g_ft c8) (ai c6 (ai (g_tt c6) (ai (show AKeep h h from (AHeap.sub_refl h)) (ai (F43_spec x1 h _ rfl) (ai (g_tt c6) (ai (g_tt c6) (ai (g_tt c6) (ai (g_tt c6) trivial)))))))))))))))))) (hr := by kernel_rfl)
  · intro hr
    subst hr
    exact pFun_sound good tab_ok (f := 76) (its := [.g, .g, .g, .g, .g, .g, .n, .n, .n, .n, .n, (.p false), .g, .n, .n, .n, .g, .g, .n, .n, .n, .n, .n, .g, .g]) (args := [.int .i64 x1, .agg #[.int .i64 x2, .int .i64 x3, .int .i64 x4, .int .i64 x5]]) (h := h) (h' := h) (v := .bool false) (hC := (ai (g_ft l_f) (ai (g_ft l_f) (ai (g_ft l_f) (ai (g_ft l_f) (ai (g_ft l_f) (ai (g_ft l_f) (ai (g_ft l_f) (ai (g_ft l_f) (ai c6 (ai (g_ft c6) (ai (g_ft c6) (ai (g_ft c6) (ai (g_ft c6) (ai (g_ft c6) trivial))))))))))))))) (hr := by kernel_rfl)
/-! 77 jacquard/jacquardref30.Weight -/
def F77__1 (x3 : Int) : Int := (if 1048576 < (if (-1048576) > x3 then (-1048576) else x3) then 1048576 else (if (-1048576) > x3 then (-1048576) else x3))
def F77__2 (x4 : Int) : Int := (if 1048576 < (if (-1048576) > x4 then (-1048576) else x4) then 1048576 else (if (-1048576) > x4 then (-1048576) else x4))
def F77__3 (x4 : Int) (x5 : Int) : Int := (IntKind.i64.wrap ((if 256 < (if 0 > x5 then 0 else x5) then 256 else (if 0 > x5 then 0 else x5)) * (F77__2 x4)))
def F77 (x1 : Int) (x2 : Int) (x3 : Int) (x4 : Int) (x5 : Int) : Int :=
  (IntKind.i64.wrap ((F77__1 x3) - (F77__3 x4 x5)))
set_option maxRecDepth 100000 in
theorem F77_spec (x1 : Int) (x2 : Int) (x3 : Int) (x4 : Int) (x5 : Int) (h : AHeap)  (r : Int) : F77 x1 x2 x3 x4 x5 = r → ACalls Try.prog 77 [.agg #[.int .i64 x1, .int .i64 x2, .int .i64 x3, .int .i64 x4], .int .i64 x5] h (fun v' h'' => v' = (.int .i64 r : Value) ∧ h'' = h) := by
  unfold F77
  intro hr
  subst hr
  exact pFun_sound good tab_ok (f := 77) (its := [.g, .g, .g, .g, .g, .g, .g, .g, .g, .g, .g, .g, .g, .g, .g, .g, .g, .g, .g, .g, .g, .g, .g]) (args := [.agg #[.int .i64 x1, .int .i64 x2, .int .i64 x3, .int .i64 x4], .int .i64 x5]) (h := h) (h' := h) (v := .int .i64 (IntKind.i64.wrap ((F77__1 x3) - (F77__3 x4 x5)))) (hC := trivial) (hr := by kernel_rfl)
/-! 44 jacquard/jacquardref30.Walks -/
def F44_L : List Nat := []
def F44_D : List (Nat × List (Nat × Nat)) := [(19, [(0, 2), (1, 2), (2, 2), (3, 2), (4, 2), (8, 2), (9, 2), (10, 2), (11, 2), (13, 2), (14, 2), (15, 2), (16, 2), (17, 2), (21, 2), (22, 2), (23, 2), (24, 2), (28, 2), (29, 2), (30, 2), (31, 2), (32, 2), (5, 6), (6, 2), (7, 6), (12, 6), (18, 6), (19, 2), (20, 6), (25, 6), (26, 2), (27, 6), (33, 1), (34, 2), (35, 2), (36, 0)]), (33, [(0, 2), (1, 2), (2, 2), (3, 2), (4, 2), (5, 2), (6, 2), (7, 2), (8, 2), (9, 2), (10, 2), (11, 2), (12, 2), (13, 2), (14, 2), (15, 2), (16, 2), (17, 2), (18, 2), (19, 2), (20, 2), (21, 2), (22, 2), (23, 2), (24, 2), (25, 2), (26, 2), (27, 2), (28, 2), (29, 0)])]
def F44__1 (x3 : Int) (y35 : Int × Int × Int × Int) (y41 : Int) : Int := (if (F77 y35.1 y35.2.1 y35.2.2.1 y35.2.2.2 x3) > y41 then (F77 y35.1 y35.2.1 y35.2.2.1 y35.2.2.2 x3) else y41)
def F44_m1_1 : List Bool := [false, false, false, true, true, true, true, true, false, false, false, true, true, true, true, true, true, true, true, false, false, true, true, true, true, true, true, true, true, true, true, true, true, true, true, true, true, true, true, true, true, true, true, true, true, true, true, true, true, true, true, true, true, true, true, true, true, true, true, true, true, true, true, true, true, true, true, true, true, true, true, true, true, true, true, true, true, true, true, true, true, true, true, true, true, true, true, true, true, true, true, true, true, true, true, true, true, true, true, true, true, true, true, true, true, true, true, true, true, true, true, true, true, true, true, true, true, true, true, true, true, true, true, true, true, true, true, true, true, true, true, true, true, true, true, true, true, true, true, true, true, true, true, true, true, true, true, true, true, true, true, true, true, true, true, true, true, true, true, true, true, true, true, true, true, true, true, true, true, true, true, true, true]
def F44_m1_0 : List Bool := [false, false, false, true, true, true, true, true, false, false, false, true, true, true, true, true, true, true, true, false, false, true, true, true, true, false, false, true, true, true, true, true, true, true, true, true, true, true, true, true, true, true, true, true, true, true, true, true, true, true, true, true, true, true, true, true, true, true, true, true, true, true, true, true, true, true, true, true, true, true, true, true, true, true, true, true, true, true, true, true, true, true, true, true, true, true, true, true, true, true, true, true, true, true, true, true, true, true, true, true, true, true, true, true, true, true, true, true, true, true, true, true, true, true, true, true, true, true, true, true, true, true, true, true, true, true, true, true, true, true, true, true, true, true, true, true, true, true, true, true, true, true, true, true, true, true, true, true, true, true, true, true, true, true, true, true, true, true, true, true, true, true, true, true, true, true, true, true, true, true, true, true, true]
def F44_s1 (x1 : Int) (a14 : Int) (l15 : List Int) : Option ((Int × (List Int)) ⊕ (List Int)) :=
  (bif decide (a14 < (F43 x1)) then
   (Option.bind (at? l15 a14) fun y18 =>
   some (.inl ((IntKind.i64.wrap (a14 + 1)), (setI l15 a14 (-1152921504606846976)))))
  else
   some (.inr l15))
def F44_h1 (x1 : Int) (v2 : Hd) (x3 : Int) (a7 : Int) (u8 : List Hd) (v12 : Hd) (h16 : AHeap) (a14 : Int) (l15 : List Int) : AS := ⟨[.int .i64 (F43 x1), (sv v2), .int .i64 x3, junk, junk, junk, junk, junk, (sv (hov u8)), .int .i64 a7, (sv v12), junk, junk, junk, junk, junk, junk, junk, junk, .int .i64 (F43 x1), .int .i64 a7, junk, junk, junk, junk, .int .i64 (F43 x1), .int .i64 a14, junk, junk, junk, junk, junk, junk, junk, junk, junk, junk, junk, junk, junk, junk, junk, junk, junk, junk, junk, junk, junk, junk, junk, junk, junk, junk, junk, junk, junk, junk, junk, junk, junk, junk, junk, junk, junk, junk, junk, junk, junk, junk, junk, junk, junk, junk, junk, junk, junk, junk, junk, junk, junk, junk, junk, junk, junk, junk, junk, junk, junk, junk, junk, junk, junk, junk, junk, junk, junk, junk, junk, junk, junk, junk, junk, junk, junk, junk, junk, junk, junk, junk, junk, junk, junk, junk, junk, junk, junk, junk, junk, junk, junk, junk, junk, junk, junk, junk, junk, junk, junk, junk, junk, junk, junk, junk, junk, junk, junk, junk, junk, junk, junk, junk, junk, junk, junk, junk, junk, junk, junk, junk, junk, junk, junk, junk, junk, junk, junk, junk, junk, junk, junk, junk, junk, junk, junk, junk, junk, junk, junk, junk, junk, junk, junk, junk], [], h16⟩
theorem F44_d1 : drawsOk F44_D (codeOf Try.prog 44 [1, 1, 1, 0, 1, 0, 0, 1, 1, 0, 0, 1, 1, 0, 1, 0, 0]) = true := by kernel_rfl
def F44_x1_0 (h : AHeap) (x1 : Int) (v2 : Hd) (x3 : Int) (a7 : Int) (l8 : List (List Int)) (u8 : List Hd) (v12 : Hd) (hx : AHeap) (r : (List Int)) : AS := ⟨[.int .i64 (F43 x1), (sv v2), .int .i64 x3, junk, junk, junk, junk, junk, (sv (hov u8)), .int .i64 a7, (sv v12), junk, junk, junk, junk, junk, junk, junk, junk, .int .i64 (F43 x1), .int .i64 a7, junk, junk, junk, junk, junk, junk, junk, junk, junk, junk, junk, junk, junk, junk, junk, junk, junk, junk, junk, junk, junk, junk, junk, junk, junk, junk, junk, junk, junk, junk, junk, junk, junk, junk, junk, junk, junk, junk, junk, junk, junk, junk, junk, junk, junk, junk, junk, junk, junk, junk, junk, junk, junk, junk, junk, junk, junk, junk, junk, junk, junk, junk, junk, junk, junk, junk, junk, junk, junk, junk, junk, junk, junk, junk, junk, junk, junk, junk, junk, junk, junk, junk, junk, junk, junk, junk, junk, junk, junk, junk, junk, junk, junk, junk, junk, junk, junk, junk, junk, junk, junk, junk, junk, junk, junk, junk, junk, junk, junk, junk, junk, junk, junk, junk, junk, junk, junk, junk, junk, junk, junk, junk, junk, junk, junk, junk, junk, junk, junk, junk, junk, junk, junk, junk, junk, junk, junk, junk, junk, junk, junk, junk, junk, junk, junk, junk, junk, junk, junk, junk, junk, junk], [], hx⟩
def F44_i1 (h : AHeap) (x1 : Int) (v2 : Hd) (x3 : Int) (a7 : Int) (l8 : List (List Int)) (u8 : List Hd) (v12 : Hd) (s : Int × (List Int)) (S : AS) : Prop := ∃ (h16 : AHeap), Heapy h h16 ([⟨(hov u8), 27, 1, List.flatMap encH (List.tail u8)⟩, ⟨v12, 3, 1, List.flatMap enc3 s.2⟩] ++ NIn 3 1 enc3 (List.tail u8) l8) ∧ S = (F44_h1 x1 v2 x3 a7 u8 v12 h16 s.1 s.2)
def F44_x1 (h : AHeap) (x1 : Int) (v2 : Hd) (x3 : Int) (a7 : Int) (l8 : List (List Int)) (u8 : List Hd) (v12 : Hd) (r : (List Int)) (e : Exit) (S : AS) : Prop := e = (.exit 2) ∧ ∃ (hx : AHeap), Heapy h hx ([⟨(hov u8), 27, 1, List.flatMap encH (List.tail u8)⟩, ⟨v12, 3, 1, List.flatMap enc3 r⟩] ++ NIn 3 1 enc3 (List.tail u8) l8) ∧ S = (F44_x1_0 h x1 v2 x3 a7 l8 u8 v12 hx r)
set_option maxRecDepth 100000 in
theorem F44_r1 (h : AHeap) (x1 : Int) (v2 : Hd) (x3 : Int) (a7 : Int) (l8 : List (List Int)) (u8 : List Hd) (v12 : Hd) (a14 : Int) (l15 : List Int) (S : AS) (hI : (F44_i1 h x1 v2 x3 a7 l8 u8 v12) (a14, l15) S) (o : (Int × (List Int)) ⊕ (List Int)) : F44_s1 x1 a14 l15 = some o → Rd Try.prog (codeOf Try.prog 44 [1, 1, 1, 0, 1, 0, 0, 1, 1, 0, 0, 1, 1, 0, 1, 0, 0]) (F44_i1 h x1 v2 x3 a7 l8 u8 v12) (F44_x1 h x1 v2 x3 a7 l8 u8 v12) S o := by
  obtain ⟨h16, hp16, rfl⟩ := hI
  unfold F44_s1
  refine dec_bif (fun c17 => ?_) (fun c17 => ?_)
  · refine bind_opt fun y18 e18 => ?_
    obtain ⟨id18, off18, g18, cs18, ix18, at18, rfl⟩ := SlE.at (Heapy.sle (v := v12) (xs := l15) (enc := enc3) hp16 1 rfl (fun _ => rfl) (by decide)) e18
    obtain ⟨h19, m19, hp19⟩ := Heapy.store (P := Try.prog) hp16 1 (v := v12) (xs := l15) (enc := enc3) rfl (fun _ => rfl) e18 (y' := (-1152921504606846976)) ix18 (t := 3) (x := .int .i64 (-1152921504606846976)) 0 (vs := [.int .i64 (-1152921504606846976)]) rfl (by kernel_rfl) rfl rfl rfl rfl
    intro hr
    obtain rfl := Option.some.inj hr
    exact ⟨(F44_h1 x1 v2 x3 a7 u8 v12 h19 (IntKind.i64.wrap (a14 + 1)) (setI l15 a14 (-1152921504606846976))), ⟨h19, (Heapy.pickN2 (A := [⟨(hov u8), 27, 1, List.flatMap encH (List.tail u8)⟩, ⟨v12, 3, 1, List.flatMap enc3 (setI l15 a14 (-1152921504606846976))⟩]) (N := NIn 3 1 enc3 (List.tail u8) l8) hp19 2 rfl [0, 1] (by decide) rfl), rfl⟩, pEnd_sound good (L := F44_L) (D := F44_D) (its := [.g, (.b true), .g, .g, .g, .g, (.ix id18 off18 g18), (.mm undef h19), .g, .g]) (ds := F44_m1_0) (ks := []) (e := .normal) (s2 := (F44_h1 x1 v2 x3 a7 u8 v12 h19 (IntKind.i64.wrap (a14 + 1)) (setI l15 a14 (-1152921504606846976)))) (hC := (ai m19 (ai ix18 (ai c17 trivial)))) (hd := F44_d1) (h := by kernel_rfl)⟩
  · intro hr
    obtain rfl := Option.some.inj hr
    refine ⟨(.exit 2), (F44_x1_0 h x1 v2 x3 a7 l8 u8 v12 h16 (l15 : (List Int))), (by intro hh; cases hh), ?_, pEnd_sound good (L := F44_L) (D := F44_D) (its := [.g, (.b false)]) (ds := F44_m1_1) (ks := []) (e := (.exit 2)) (s2 := (F44_x1_0 h x1 v2 x3 a7 l8 u8 v12 h16 (l15 : (List Int)))) (hC := (ai c17 trivial)) (hd := F44_d1) (h := by kernel_rfl)⟩
    exact ⟨rfl, h16, (Heapy.pickN2 (A := [⟨(hov u8), 27, 1, List.flatMap encH (List.tail u8)⟩, ⟨v12, 3, 1, List.flatMap enc3 l15⟩]) (N := NIn 3 1 enc3 (List.tail u8) l8) hp16 2 rfl [0, 1] (by decide) rfl), rfl⟩
theorem F44_l1 (h : AHeap) (x1 : Int) (v2 : Hd) (x3 : Int) (a7 : Int) (l8 : List (List Int)) (u8 : List Hd) (v12 : Hd) (x : Int × (List Int)) (r : (List Int)) (hl : loopO (fun (s : Int × (List Int)) => F44_s1 x1 s.1 s.2) x = some r) (S : AS) (hI : (F44_i1 h x1 v2 x3 a7 l8 u8 v12) x S) : ∃ e S', (F44_x1 h x1 v2 x3 a7 l8 u8 v12) r e S' ∧ AWp Try.prog (.loop (codeOf Try.prog 44 [1, 1, 1, 0, 1, 0, 0, 1, 1, 0, 0, 1, 1, 0, 1, 0, 0])) (Ends1 e S') S :=
  loop_rel (fun x S hI => F44_r1 h x1 v2 x3 a7 l8 u8 v12 x.1 x.2 S hI) hl hI
def F44_m2_1 : List Bool := [false, false, false, true, true, true, true, true, false, true, true, true, true, true, true, true, true, true, true, true, true, true, true, true, true, true, true, true, true, true, true, true, true, true, true, true, true, true, true, true, true, true, true, true, true, true, true, true, true, true, true, true, true, true, true, true, true, true, true, true, true, true, true, true, true, true, true, true, true, true, true, true, true, true, true, true, true, true, true, true, true, true, true, true, true, true, true, true, true, true, true, true, true, true, true, true, true, true, true, true, true, true, true, true, true, true, true, true, true, true, true, true, true, true, true, true, true, true, true, true, true, true, true, true, true, true, true, true, true, true, true, true, true, true, true, true, true, true, true, true, true, true, true, true, true, true, true, true, true, true, true, true, true, true, true, true, true, true, true, true, true, true, true, true, true, true, true, true, true, true, true, true, true]
def F44_m2_0 : List Bool := [false, false, false, true, true, true, true, true, false, true, true, true, true, true, true, true, true, true, true, false, false, true, true, true, true, true, true, true, true, true, true, true, true, true, true, true, true, true, true, true, true, true, true, true, true, true, true, true, true, true, true, true, true, true, true, true, true, true, true, true, true, true, true, true, true, true, true, true, true, true, true, true, true, true, true, true, true, true, true, true, true, true, true, true, true, true, true, true, true, true, true, true, true, true, true, true, true, true, true, true, true, true, true, true, true, true, true, true, true, true, true, true, true, true, true, true, true, true, true, true, true, true, true, true, true, true, true, true, true, true, true, true, true, true, true, true, true, true, true, true, true, true, true, true, true, true, true, true, true, true, true, true, true, true, true, true, true, true, true, true, true, true, true, true, true, true, true, true, true, true, true, true, true]
def F44_s2 (x1 : Int) (a7 : Int) (l8 : List (List Int)) : Option ((Int × (List (List Int))) ⊕ (List (List Int))) :=
  (bif decide (a7 < (F43 x1)) then
   (bif (!(okLen (F43 x1) (F43 x1) 8)) then none else
   (Option.bind (loopO (fun (s : Int × (List Int)) => F44_s1 x1 s.1 s.2) (0, (List.replicate (F43 x1).toNat (0 : Int)))) fun y20 =>
   (Option.bind (at? y20 a7) fun y22 =>
   (bif (!(okApp (l8.length + 1) 24)) then none else
   some (.inl ((IntKind.i64.wrap (a7 + 1)), (l8 ++ [(setI y20 a7 0)])))))))
  else
   some (.inr l8))
def F44_h2 (x1 : Int) (v2 : Hd) (x3 : Int) (h9 : AHeap) (u8 : List Hd) (a7 : Int) (l8 : List (List Int)) : AS := ⟨[.int .i64 (F43 x1), (sv v2), .int .i64 x3, junk, junk, junk, junk, junk, (sv (hov u8)), junk, junk, junk, junk, junk, junk, junk, junk, junk, junk, .int .i64 (F43 x1), .int .i64 a7, junk, junk, junk, junk, junk, junk, junk, junk, junk, junk, junk, junk, junk, junk, junk, junk, junk, junk, junk, junk, junk, junk, junk, junk, junk, junk, junk, junk, junk, junk, junk, junk, junk, junk, junk, junk, junk, junk, junk, junk, junk, junk, junk, junk, junk, junk, junk, junk, junk, junk, junk, junk, junk, junk, junk, junk, junk, junk, junk, junk, junk, junk, junk, junk, junk, junk, junk, junk, junk, junk, junk, junk, junk, junk, junk, junk, junk, junk, junk, junk, junk, junk, junk, junk, junk, junk, junk, junk, junk, junk, junk, junk, junk, junk, junk, junk, junk, junk, junk, junk, junk, junk, junk, junk, junk, junk, junk, junk, junk, junk, junk, junk, junk, junk, junk, junk, junk, junk, junk, junk, junk, junk, junk, junk, junk, junk, junk, junk, junk, junk, junk, junk, junk, junk, junk, junk, junk, junk, junk, junk, junk, junk, junk, junk, junk, junk, junk, junk, junk, junk, junk, junk], [], h9⟩
theorem F44_d2 : drawsOk F44_D (codeOf Try.prog 44 [1, 1, 1, 0, 1, 0, 0]) = true := by kernel_rfl
def F44_x2_0 (h : AHeap) (x1 : Int) (v2 : Hd) (x3 : Int) (hx : AHeap) (w0 : List Hd) (r : (List (List Int))) : AS := ⟨[.int .i64 (F43 x1), (sv v2), .int .i64 x3, junk, junk, junk, junk, junk, (sv (hov w0)), junk, junk, junk, junk, junk, junk, junk, junk, junk, junk, junk, junk, junk, junk, junk, junk, junk, junk, junk, junk, junk, junk, junk, junk, junk, junk, junk, junk, junk, junk, junk, junk, junk, junk, junk, junk, junk, junk, junk, junk, junk, junk, junk, junk, junk, junk, junk, junk, junk, junk, junk, junk, junk, junk, junk, junk, junk, junk, junk, junk, junk, junk, junk, junk, junk, junk, junk, junk, junk, junk, junk, junk, junk, junk, junk, junk, junk, junk, junk, junk, junk, junk, junk, junk, junk, junk, junk, junk, junk, junk, junk, junk, junk, junk, junk, junk, junk, junk, junk, junk, junk, junk, junk, junk, junk, junk, junk, junk, junk, junk, junk, junk, junk, junk, junk, junk, junk, junk, junk, junk, junk, junk, junk, junk, junk, junk, junk, junk, junk, junk, junk, junk, junk, junk, junk, junk, junk, junk, junk, junk, junk, junk, junk, junk, junk, junk, junk, junk, junk, junk, junk, junk, junk, junk, junk, junk, junk, junk, junk, junk, junk, junk, junk, junk], [], hx⟩
def F44_i2 (h : AHeap) (x1 : Int) (v2 : Hd) (x3 : Int) (s : Int × (List (List Int))) (S : AS) : Prop := ∃ (h9 : AHeap) (u8 : List Hd), Heapy h h9 ([⟨(hov u8), 27, 1, List.flatMap encH (List.tail u8)⟩] ++ NIn 3 1 enc3 (List.tail u8) s.2) ∧ S = (F44_h2 x1 v2 x3 h9 u8 s.1 s.2)
def F44_x2 (h : AHeap) (x1 : Int) (v2 : Hd) (x3 : Int) (r : (List (List Int))) (e : Exit) (S : AS) : Prop := e = (.exit 0) ∧ ∃ (hx : AHeap) (w0 : List Hd), Heapy h hx ([⟨(hov w0), 27, 1, List.flatMap encH (List.tail w0)⟩] ++ NIn 3 1 enc3 (List.tail w0) r) ∧ S = (F44_x2_0 h x1 v2 x3 hx w0 r)
set_option maxRecDepth 100000 in
theorem F44_r2 (h : AHeap) (x1 : Int) (v2 : Hd) (x3 : Int) (a7 : Int) (l8 : List (List Int)) (S : AS) (hI : (F44_i2 h x1 v2 x3) (a7, l8) S) (o : (Int × (List (List Int))) ⊕ (List (List Int))) : F44_s2 x1 a7 l8 = some o → Rd Try.prog (codeOf Try.prog 44 [1, 1, 1, 0, 1, 0, 0]) (F44_i2 h x1 v2 x3) (F44_x2 h x1 v2 x3) S o := by
  obtain ⟨h9, u8, hp9, rfl⟩ := hI
  unfold F44_s2
  refine dec_bif (fun c10 => ?_) (fun c10 => ?_)
  · refine guard_ok fun g11 => ?_
    obtain ⟨v12, h12, m12, hp12, _⟩ := Heapy.make hp9 (show mkInfo Try.prog 27 = some (3, 1, 8, [.int .i64 0]) by kernel_rfl) (a := (F43 x1)) (b := (F43 x1)) (by simpa using g11) (enc := enc3) (x := 0) rfl rfl
    refine bind_opt fun y20 e20 => ?_
    obtain ⟨ee20, SS20, hX20, hA20⟩ := F44_l1 h x1 v2 x3 a7 l8 u8 v12 (0, (List.replicate (F43 x1).toNat (0 : Int))) y20 e20 (F44_h1 x1 v2 x3 a7 u8 v12 h12 0 (List.replicate (F43 x1).toNat (0 : Int))) ⟨h12, (Heapy.pickN2 (A := [⟨v12, 3, 1, List.flatMap enc3 (List.replicate (F43 x1).toNat (0 : Int))⟩, ⟨(hov u8), 27, 1, List.flatMap encH (List.tail u8)⟩]) (N := NIn 3 1 enc3 (List.tail u8) l8) hp12 2 rfl [1, 0] (by decide) rfl), rfl⟩
    obtain ⟨rfl, h21, hp21, rfl⟩ := hX20
    refine bind_opt fun y22 e22 => ?_
    obtain ⟨id22, off22, g22, cs22, ix22, at22, rfl⟩ := SlE.at (Heapy.sle (v := v12) (xs := y20) (enc := enc3) hp21 1 rfl (fun _ => rfl) (by decide)) e22
    obtain ⟨h23, m23, hp23⟩ := Heapy.store (P := Try.prog) hp21 1 (v := v12) (xs := y20) (enc := enc3) rfl (fun _ => rfl) e22 (y' := 0) ix22 (t := 3) (x := .int .i64 0) 0 (vs := [.int .i64 0]) rfl (by kernel_rfl) rfl rfl rfl rfl
    obtain ⟨v24, h24, m24, hq24, _⟩ := Heapy.build (P := Try.prog) hp23 (t := 32) (e := 27) (len := 1) (n := 1) (parts := [(0, (sv v12))]) (cells := List.flatMap encH [v12]) (by kernel_rfl) rfl
    have hp24 : Heapy h h24 ([⟨v24, 27, 1, List.flatMap encH [v12]⟩, ⟨(hov u8), 27, 1, List.flatMap encH (List.tail u8)⟩, ⟨v12, 3, 1, List.flatMap enc3 (setI y20 a7 0)⟩] ++ NIn 3 1 enc3 (List.tail u8) l8) := hq24
    refine guard_ok fun g26 => ?_
    obtain ⟨v27, h27, m27, hq27⟩ := Heapy.nipush (P := Try.prog) (A := [⟨v24, 27, 1, List.flatMap encH [v12]⟩, ⟨(hov u8), 27, 1, List.flatMap encH (List.tail u8)⟩, ⟨v12, 3, 1, List.flatMap enc3 (setI y20 a7 0)⟩]) (el := 3) (c := 1) (enc := enc3) (hs := (List.tail u8)) (xss := l8) hp24 1 (show 1 < 3 by decide) (ov := (hov u8)) (eo := 27) rfl 2 (show 2 < 3 by decide) (by decide) (w := v12) (ys := (setI y20 a7 0)) rfl (t := 32) (show mkInfo Try.prog 32 = some (27, 1, 24, [.slice none 0 0]) by kernel_rfl) (Y := (sv v24)) (SlE.src (enc := encH) (c := 1) (Heapy.sle (v := v24) (xs := [v12]) (enc := encH) hp24 0 rfl (fun _ => rfl) (by decide)) (fun _ => rfl)) (by simpa using g26)
    have hp27 : Heapy h h27 ([⟨v24, 27, 1, List.flatMap encH [v12]⟩, ⟨v27, 27, 1, List.flatMap encH ((List.tail u8) ++ [v12])⟩] ++ NIn 3 1 enc3 ((List.tail u8) ++ [v12]) (l8 ++ [(setI y20 a7 0)])) := hq27
    intro hr
    obtain rfl := Option.some.inj hr
    exact ⟨(F44_h2 x1 v2 x3 h27 (v27 :: ((List.tail u8) ++ [v12])) (IntKind.i64.wrap (a7 + 1)) (l8 ++ [(setI y20 a7 0)])), ⟨h27, (v27 :: ((List.tail u8) ++ [v12])), (Heapy.pickN2 (A := [⟨v24, 27, 1, List.flatMap encH [v12]⟩, ⟨v27, 27, 1, List.flatMap encH ((List.tail u8) ++ [v12])⟩]) (N := NIn 3 1 enc3 ((List.tail u8) ++ [v12]) (l8 ++ [(setI y20 a7 0)])) hp27 2 rfl [1] (by decide) rfl), rfl⟩, pEnd_sound good (L := F44_L) (D := F44_D) (its := [.g, (.b true), .g, .g, .g, (.mm (sv v12) h12), .g, .g, .g, (.l F44_m1_0 [] (.exit 2) (F44_x1_0 h x1 v2 x3 a7 l8 u8 v12 h21 y20)), .g, .g, (.ix id22 off22 g22), (.mm undef h23), .g, .g, (.mm (sv v24) h24), (.mm (sv v27) h27), .g, .g, .g]) (ds := F44_m2_0) (ks := []) (e := .normal) (s2 := (F44_h2 x1 v2 x3 h27 (v27 :: ((List.tail u8) ++ [v12])) (IntKind.i64.wrap (a7 + 1)) (l8 ++ [(setI y20 a7 0)]))) (hC := (ai m27 (ai m24 (ai m23 (ai ix22 (ai hA20 (ai m12 (ai c10 trivial)))))))) (hd := F44_d2) (h := by kernel_rfl)⟩
  · intro hr
    obtain rfl := Option.some.inj hr
    refine ⟨(.exit 0), (F44_x2_0 h x1 v2 x3 h9 u8 (l8 : (List (List Int)))), (by intro hh; cases hh), ?_, pEnd_sound good (L := F44_L) (D := F44_D) (its := [.g, (.b false)]) (ds := F44_m2_1) (ks := []) (e := (.exit 0)) (s2 := (F44_x2_0 h x1 v2 x3 h9 u8 (l8 : (List (List Int))))) (hC := (ai c10 trivial)) (hd := F44_d2) (h := by kernel_rfl)⟩
    exact ⟨rfl, h9, u8, (Heapy.pickN2 (A := [⟨(hov u8), 27, 1, List.flatMap encH (List.tail u8)⟩]) (N := NIn 3 1 enc3 (List.tail u8) l8) hp9 1 rfl [0] (by decide) rfl), rfl⟩
theorem F44_l2 (h : AHeap) (x1 : Int) (v2 : Hd) (x3 : Int) (x : Int × (List (List Int))) (r : (List (List Int))) (hl : loopO (fun (s : Int × (List (List Int))) => F44_s2 x1 s.1 s.2) x = some r) (S : AS) (hI : (F44_i2 h x1 v2 x3) x S) : ∃ e S', (F44_x2 h x1 v2 x3) r e S' ∧ AWp Try.prog (.loop (codeOf Try.prog 44 [1, 1, 1, 0, 1, 0, 0])) (Ends1 e S') S :=
  loop_rel (fun x S hI => F44_r2 h x1 v2 x3 x.1 x.2 S hI) hl hI
def F44_m3_1 : List Bool := [false, true, true, true, true, true, true, true, false, true, true, true, true, true, true, true, true, true, true, true, true, true, true, true, true, true, true, true, true, true, true, true, true, true, true, true, true, true, true, true, true, true, true, true, true, true, true, true, true, true, true, true, true, true, true, true, true, true, true, true, true, true, true, true, true, true, true, true, true, true, true, true, true, true, true, true, true, true, true, true, true, true, true, true, true, true, true, true, true, true, true, true, true, true, true, true, true, true, true, true, true, true, true, true, true, true, true, true, true, true, true, true, true, true, true, true, true, true, true, true, true, true, true, true, true, true, true, true, true, true, true, true, true, true, true, true, true, true, true, true, true, true, true, true, true, true, true, true, true, true, true, true, true, true, true, true, true, true, true, true, true, true, true, true, true, true, true, true, true, true, true, true, true]
def F44_m3_0 : List Bool := [false, false, false, true, true, true, true, true, false, true, true, true, true, true, true, true, true, true, true, true, true, true, true, true, true, true, true, true, true, true, true, true, true, true, true, true, true, true, true, true, true, true, false, false, true, true, true, true, true, true, true, true, true, true, true, true, true, true, true, true, true, true, true, true, true, true, true, true, true, true, true, true, true, true, true, true, true, true, true, true, true, true, true, true, true, true, true, true, true, true, true, true, true, true, true, true, true, true, true, true, true, true, true, true, true, true, true, true, true, true, true, true, true, true, true, true, true, true, true, true, true, true, true, true, true, true, true, true, true, true, true, true, true, true, true, true, true, true, true, true, true, true, true, true, true, true, true, true, true, true, true, true, true, true, true, true, true, true, true, true, true, true, true, true, true, true, true, true, true, true, true, true, true]
def F44_s3 (x1 : Int) (l2 : List (Int × Int × Int × Int)) (x3 : Int) (a31 : Int) (l32 : List (List Int)) : Option ((Int × (List (List Int))) ⊕ (List (List Int))) :=
  (bif decide (a31 < (l2.length : Int)) then
   (Option.bind (at? l2 a31) fun y35 =>
   (bif (F76 (F43 x1) y35.1 y35.2.1 y35.2.2.1 y35.2.2.2) then
    (Option.bind (at? l32 y35.1) fun y38 =>
    (Option.bind (at? y38 y35.2.1) fun y41 =>
    some (.inl ((IntKind.i64.wrap (a31 + 1)), (setI l32 y35.1 (setI y38 y35.2.1 (F44__1 x3 y35 y41)))))))
   else
    some (.inl ((IntKind.i64.wrap (a31 + 1)), l32))))
  else
   some (.inr l32))
def F44_h3 (x1 : Int) (l2 : List (Int × Int × Int × Int)) (v2 : Hd) (x3 : Int) (h33 : AHeap) (u32 : List Hd) (a31 : Int) (l32 : List (List Int)) : AS := ⟨[.int .i64 (F43 x1), (sv v2), .int .i64 x3, junk, junk, junk, junk, junk, (sv (hov u32)), junk, junk, junk, junk, junk, junk, junk, junk, junk, junk, junk, junk, junk, junk, junk, junk, junk, junk, junk, junk, junk, junk, junk, junk, junk, junk, junk, junk, junk, junk, junk, junk, junk, .int .i64 (l2.length : Int), .int .i64 a31, junk, junk, junk, junk, junk, junk, junk, junk, junk, junk, junk, junk, junk, junk, junk, junk, junk, junk, junk, junk, junk, junk, junk, junk, junk, junk, junk, junk, junk, junk, junk, junk, junk, junk, junk, junk, junk, junk, junk, junk, junk, junk, junk, junk, junk, junk, junk, junk, junk, junk, junk, junk, junk, junk, junk, junk, junk, junk, junk, junk, junk, junk, junk, junk, junk, junk, junk, junk, junk, junk, junk, junk, junk, junk, junk, junk, junk, junk, junk, junk, junk, junk, junk, junk, junk, junk, junk, junk, junk, junk, junk, junk, junk, junk, junk, junk, junk, junk, junk, junk, junk, junk, junk, junk, junk, junk, junk, junk, junk, junk, junk, junk, junk, junk, junk, junk, junk, junk, junk, junk, junk, junk, junk, junk, junk, junk, junk, junk, junk], [], h33⟩
theorem F44_d3 : drawsOk F44_D (codeOf Try.prog 44 [1, 1, 1, 1, 0, 1, 0, 0]) = true := by kernel_rfl
def F44_x3_0 (h : AHeap) (x1 : Int) (hx : AHeap) (w0 : List Hd) (r : (List (List Int))) : AS := ⟨[.int .i64 (F43 x1), junk, junk, junk, junk, junk, junk, junk, (sv (hov w0)), junk, junk, junk, junk, junk, junk, junk, junk, junk, junk, junk, junk, junk, junk, junk, junk, junk, junk, junk, junk, junk, junk, junk, junk, junk, junk, junk, junk, junk, junk, junk, junk, junk, junk, junk, junk, junk, junk, junk, junk, junk, junk, junk, junk, junk, junk, junk, junk, junk, junk, junk, junk, junk, junk, junk, junk, junk, junk, junk, junk, junk, junk, junk, junk, junk, junk, junk, junk, junk, junk, junk, junk, junk, junk, junk, junk, junk, junk, junk, junk, junk, junk, junk, junk, junk, junk, junk, junk, junk, junk, junk, junk, junk, junk, junk, junk, junk, junk, junk, junk, junk, junk, junk, junk, junk, junk, junk, junk, junk, junk, junk, junk, junk, junk, junk, junk, junk, junk, junk, junk, junk, junk, junk, junk, junk, junk, junk, junk, junk, junk, junk, junk, junk, junk, junk, junk, junk, junk, junk, junk, junk, junk, junk, junk, junk, junk, junk, junk, junk, junk, junk, junk, junk, junk, junk, junk, junk, junk, junk, junk, junk, junk, junk, junk], [], hx⟩
def F44_i3 (h : AHeap) (x1 : Int) (l2 : List (Int × Int × Int × Int)) (v2 : Hd) (x3 : Int) (s : Int × (List (List Int))) (S : AS) : Prop := ∃ (h33 : AHeap) (u32 : List Hd), Heapy h h33 ([⟨(hov u32), 27, 1, List.flatMap encH (List.tail u32)⟩] ++ NIn 3 1 enc3 (List.tail u32) s.2) ∧ S = (F44_h3 x1 l2 v2 x3 h33 u32 s.1 s.2)
def F44_x3 (h : AHeap) (x1 : Int) (r : (List (List Int))) (e : Exit) (S : AS) : Prop := e = (.exit 4) ∧ ∃ (hx : AHeap) (w0 : List Hd), Heapy h hx ([⟨(hov w0), 27, 1, List.flatMap encH (List.tail w0)⟩] ++ NIn 3 1 enc3 (List.tail w0) r) ∧ S = (F44_x3_0 h x1 hx w0 r)
set_option maxRecDepth 100000 in
theorem F44_r3 (h : AHeap) (x1 : Int) (l2 : List (Int × Int × Int × Int)) (v2 : Hd) (hv2 : SlE E81 4 h (sv v2) l2) (x3 : Int) (a31 : Int) (l32 : List (List Int)) (S : AS) (hI : (F44_i3 h x1 l2 v2 x3) (a31, l32) S) (o : (Int × (List (List Int))) ⊕ (List (List Int))) : F44_s3 x1 l2 x3 a31 l32 = some o → Rd Try.prog (codeOf Try.prog 44 [1, 1, 1, 1, 0, 1, 0, 0]) (F44_i3 h x1 l2 v2 x3) (F44_x3 h x1) S o := by
  obtain ⟨h33, u32, hp33, rfl⟩ := hI
  unfold F44_s3
  refine dec_bif (fun c34 => ?_) (fun c34 => ?_)
  · refine bind_opt fun y35 e35 => ?_
    obtain ⟨id35, off35, g35, cs35, ix35, at35, rfl⟩ := SlE.at hv2 e35
    refine dec_bif (fun c37 => ?_) (fun c37 => ?_)
    · refine bind_opt fun y38 e38 => ?_
      obtain ⟨id38, off38, g38, cs38, ix38, _, _⟩ := SlE.at (Heapy.sle (v := (hov u32)) (xs := (List.tail u32)) (enc := encH) hp33 0 rfl (fun _ => rfl) (by decide)) (Heapy.niat (A := [⟨(hov u32), 27, 1, List.flatMap encH (List.tail u32)⟩]) (hs := (List.tail u32)) (xss := l32) hp33 e38)
      have at39 : At h33 id38 off38 g38 (encH (hnth (List.tail u32) y35.1)) := (SlE.atp (Heapy.sle (v := (hov u32)) (xs := (List.tail u32)) (enc := encH) hp33 0 rfl (fun _ => rfl) (by decide)) ix38 (Heapy.niat (A := [⟨(hov u32), 27, 1, List.flatMap encH (List.tail u32)⟩]) (hs := (List.tail u32)) (xss := l32) hp33 e38)).elim fun cs k => by obtain ⟨k1, rfl⟩ := k; exact k1
      have at40 : At h33 id38 off38 g38 (encH (hnth (List.tail u32) y35.1)) := (SlE.atp (Heapy.sle (v := (hov u32)) (xs := (List.tail u32)) (enc := encH) hp33 0 rfl (fun _ => rfl) (by decide)) ix38 (Heapy.niat (A := [⟨(hov u32), 27, 1, List.flatMap encH (List.tail u32)⟩]) (hs := (List.tail u32)) (xss := l32) hp33 e38)).elim fun cs k => by obtain ⟨k1, rfl⟩ := k; exact k1
      refine bind_opt fun y41 e41 => ?_
      obtain ⟨id41, off41, g41, cs41, ix41, at41, rfl⟩ := SlE.at (Heapy.nisle (A := [⟨(hov u32), 27, 1, List.flatMap encH (List.tail u32)⟩]) (el := 3) (c := 1) (enc := enc3) (hs := (List.tail u32)) (xss := l32) hp33 e38 (fun _ => rfl) (by decide)) e41
      obtain ⟨h43, m43, hp43⟩ := Heapy.nistore (P := Try.prog) (A := [⟨(hov u32), 27, 1, List.flatMap encH (List.tail u32)⟩]) (el := 3) (c := 1) (enc := enc3) (hs := (List.tail u32)) (xss := l32) hp33 e38 (fun _ => rfl) e41 (y' := (F44__1 x3 y35 y41)) ix41 (t := 3) (x := .int .i64 (F44__1 x3 y35 y41)) 0 (vs := [.int .i64 (F44__1 x3 y35 y41)]) rfl (by kernel_rfl) rfl rfl rfl rfl
      intro hr
      obtain rfl := Option.some.inj hr
      exact ⟨(F44_h3 x1 l2 v2 x3 h43 ((hov u32) :: (List.tail u32)) (IntKind.i64.wrap (a31 + 1)) (setI l32 y35.1 (setI y38 y35.2.1 (F44__1 x3 y35 y41)))), ⟨h43, ((hov u32) :: (List.tail u32)), (Heapy.pickN2 (A := [⟨(hov u32), 27, 1, List.flatMap encH (List.tail u32)⟩]) (N := NIn 3 1 enc3 (List.tail u32) (setI l32 y35.1 (setI y38 y35.2.1 (F44__1 x3 y35 y41)))) hp43 1 rfl [0] (by decide) rfl), rfl⟩, pEnd_sound good (L := F44_L) (D := F44_D) (its := [.g, (.b true), .g, .g, .g, .g, .g, (.ix id35 off35 g35), (.ld (.agg #[.int .i64 y35.1, .int .i64 y35.2.1, .int .i64 y35.2.2.1, .int .i64 y35.2.2.2])), (.c (.bool (F76 (F43 x1) y35.1 y35.2.1 y35.2.2.1 y35.2.2.2)) h33), (.b true), .g, .g, .g, (.ix id35 off35 g35), .g, .g, .g, (.ix id35 off35 g35), .g, .g, .g, .g, (.ix id35 off35 g35), .g, .g, .g, (.ix id35 off35 g35), .g, .g, .g, (.ix id35 off35 g35), (.ld (.agg #[.int .i64 y35.1, .int .i64 y35.2.1, .int .i64 y35.2.2.1, .int .i64 y35.2.2.2])), .g, (.ld (.int .i64 y35.1)), (.ix id38 off38 g38), (.ld ((sv (hnth (List.tail u32) y35.1)))), (.ld (.int .i64 y35.2.1)), (.ld (.int .i64 y35.1)), (.ix id38 off38 g38), (.ld ((sv (hnth (List.tail u32) y35.1)))), (.ld (.int .i64 y35.2.1)), (.ix id41 off41 g41), (.ld (.int .i64 y41)), (.c (.int .i64 (F77 y35.1 y35.2.1 y35.2.2.1 y35.2.2.2 x3)) h33), .g, (.ix id41 off41 g41), (.mm undef h43), .g, .g]) (ds := F44_m3_0) (ks := []) (e := .normal) (s2 := (F44_h3 x1 l2 v2 x3 h43 ((hov u32) :: (List.tail u32)) (IntKind.i64.wrap (a31 + 1)) (setI l32 y35.1 (setI y38 y35.2.1 (F44__1 x3 y35 y41))))) (hC := (ai m43 (ai ix41 (ai (show AKeep h33 h33 from (AHeap.sub_refl h33)) (ai (F77_spec y35.1 y35.2.1 y35.2.2.1 y35.2.2.2 x3 h33 _ rfl) (ai (At.one (P := Try.prog) (t := 3) (v := .int .i64 y41) at41 (by kernel_rfl) 0 rfl rfl) (ai ix41 (ai (At.one (P := Try.prog) (t := 3) (v := .int .i64 y35.2.1) (At.mono (Heapy.sub hp33) at35) (by kernel_rfl) 1 rfl rfl) (ai (At.one (P := Try.prog) (t := 27) (v := (sv (hnth (List.tail u32) y35.1))) at40 (by kernel_rfl) 0 rfl rfl) (ai ix38 (ai (At.one (P := Try.prog) (t := 3) (v := .int .i64 y35.1) (At.mono (Heapy.sub hp33) at35) (by kernel_rfl) 0 rfl rfl) (ai (At.one (P := Try.prog) (t := 3) (v := .int .i64 y35.2.1) (At.mono (Heapy.sub hp33) at35) (by kernel_rfl) 1 rfl rfl) (ai (At.one (P := Try.prog) (t := 27) (v := (sv (hnth (List.tail u32) y35.1))) at39 (by kernel_rfl) 0 rfl rfl) (ai ix38 (ai (At.one (P := Try.prog) (t := 3) (v := .int .i64 y35.1) (At.mono (Heapy.sub hp33) at35) (by kernel_rfl) 0 rfl rfl) (ai (At.agg (P := Try.prog) (t := 81) (v := .agg #[.int .i64 y35.1, .int .i64 y35.2.1, .int .i64 y35.2.2.1, .int .i64 y35.2.2.2]) (m := 4) (At.mono (Heapy.sub hp33) at35) (by kernel_rfl) (by kernel_rfl) 0 (by kernel_rfl) rfl) (ai ix35 (ai ix35 (ai ix35 (ai ix35 (ai ix35 (ai c37 (ai (F76_spec (F43 x1) y35.1 y35.2.1 y35.2.2.1 y35.2.2.2 h33 _ rfl) (ai (At.agg (P := Try.prog) (t := 81) (v := .agg #[.int .i64 y35.1, .int .i64 y35.2.1, .int .i64 y35.2.2.1, .int .i64 y35.2.2.2]) (m := 4) (At.mono (Heapy.sub hp33) at35) (by kernel_rfl) (by kernel_rfl) 0 (by kernel_rfl) rfl) (ai ix35 (ai c34 trivial)))))))))))))))))))))))))) (hd := F44_d3) (h := by kernel_rfl)⟩
    · intro hr
      obtain rfl := Option.some.inj hr
      exact ⟨(F44_h3 x1 l2 v2 x3 h33 u32 (IntKind.i64.wrap (a31 + 1)) l32), ⟨h33, u32, (Heapy.pickN2 (A := [⟨(hov u32), 27, 1, List.flatMap encH (List.tail u32)⟩]) (N := NIn 3 1 enc3 (List.tail u32) l32) hp33 1 rfl [0] (by decide) rfl), rfl⟩, pEnd_sound good (L := F44_L) (D := F44_D) (its := [.g, (.b true), .g, .g, .g, .g, .g, (.ix id35 off35 g35), (.ld (.agg #[.int .i64 y35.1, .int .i64 y35.2.1, .int .i64 y35.2.2.1, .int .i64 y35.2.2.2])), (.c (.bool (F76 (F43 x1) y35.1 y35.2.1 y35.2.2.1 y35.2.2.2)) h33), (.b false), .g, .g]) (ds := F44_m3_0) (ks := []) (e := .normal) (s2 := (F44_h3 x1 l2 v2 x3 h33 u32 (IntKind.i64.wrap (a31 + 1)) l32)) (hC := (ai c37 (ai (F76_spec (F43 x1) y35.1 y35.2.1 y35.2.2.1 y35.2.2.2 h33 _ rfl) (ai (At.agg (P := Try.prog) (t := 81) (v := .agg #[.int .i64 y35.1, .int .i64 y35.2.1, .int .i64 y35.2.2.1, .int .i64 y35.2.2.2]) (m := 4) (At.mono (Heapy.sub hp33) at35) (by kernel_rfl) (by kernel_rfl) 0 (by kernel_rfl) rfl) (ai ix35 (ai c34 trivial)))))) (hd := F44_d3) (h := by kernel_rfl)⟩
  · intro hr
    obtain rfl := Option.some.inj hr
    refine ⟨(.exit 4), (F44_x3_0 h x1 h33 u32 (l32 : (List (List Int)))), (by intro hh; cases hh), ?_, pEnd_sound good (L := F44_L) (D := F44_D) (its := [.g, (.b false)]) (ds := F44_m3_1) (ks := []) (e := (.exit 4)) (s2 := (F44_x3_0 h x1 h33 u32 (l32 : (List (List Int))))) (hC := (ai c34 trivial)) (hd := F44_d3) (h := by kernel_rfl)⟩
    exact ⟨rfl, h33, u32, (Heapy.pickN2 (A := [⟨(hov u32), 27, 1, List.flatMap encH (List.tail u32)⟩]) (N := NIn 3 1 enc3 (List.tail u32) l32) hp33 1 rfl [0] (by decide) rfl), rfl⟩
theorem F44_l3 (h : AHeap) (x1 : Int) (l2 : List (Int × Int × Int × Int)) (v2 : Hd) (hv2 : SlE E81 4 h (sv v2) l2) (x3 : Int) (x : Int × (List (List Int))) (r : (List (List Int))) (hl : loopO (fun (s : Int × (List (List Int))) => F44_s3 x1 l2 x3 s.1 s.2) x = some r) (S : AS) (hI : (F44_i3 h x1 l2 v2 x3) x S) : ∃ e S', (F44_x3 h x1) r e S' ∧ AWp Try.prog (.loop (codeOf Try.prog 44 [1, 1, 1, 1, 0, 1, 0, 0])) (Ends1 e S') S :=
  loop_rel (fun x S hI => F44_r3 h x1 l2 v2 hv2 x3 x.1 x.2 S hI) hl hI
def F44_m4_1 : List Bool := [false, true, true, true, true, true, true, true, false, true, true, true, true, false, true, true, true, true, true, true, true, true, true, true, true, true, true, true, true, true, true, true, true, true, true, true, true, true, true, true, true, true, true, true, true, true, true, true, true, true, true, true, true, true, true, true, true, true, true, true, true, true, true, true, true, true, true, true, true, true, true, true, true, true, true, true, true, true, true, true, true, true, true, true, true, true, true, true, true, false, false, true, true, true, true, true, true, true, true, true, true, false, false, true, true, true, true, true, true, true, true, true, true, true, true, true, true, true, true, true, true, true, true, true, true, true, true, true, true, true, true, true, true, true, true, true, true, true, true, true, true, true, true, true, true, true, true, true, true, true, true, true, true, true, true, true, true, true, true, true, true, true, true, true, true, true, true, true, true, true, true, true, true]
def F44_m4_0 : List Bool := [false, true, true, true, true, true, true, true, false, true, true, true, true, false, false, true, true, true, true, true, true, true, true, true, true, true, true, true, true, true, true, true, true, true, true, true, true, true, true, true, true, true, true, true, true, true, true, true, true, true, true, true, true, true, true, true, true, true, true, true, true, true, true, true, true, true, true, true, true, true, true, true, true, true, true, true, true, true, true, true, true, true, true, true, true, true, true, true, true, false, false, true, true, true, true, true, true, true, true, true, true, false, false, true, true, false, false, true, true, true, true, true, true, true, true, true, true, true, true, true, true, true, true, true, true, true, true, true, true, true, true, true, true, true, true, true, true, true, true, true, true, true, true, true, true, true, true, true, true, true, true, true, true, true, true, true, true, true, true, true, true, true, true, true, true, true, true, true, true, true, true, true, true]
def F44_s4 (x1 : Int) (a46 : Int) (a54 : Int) (a58 : Int) (l59 : List (List Int)) : Option ((Int × (List (List Int))) ⊕ (List (List Int))) :=
  (bif decide (a58 < (F43 x1)) then
   (Option.bind (at? l59 a54) fun y62 =>
   (Option.bind (at? y62 a46) fun y64 =>
   (bif decide (y64 > (-1152921504606846976)) then
    (Option.bind (at? l59 a46) fun y66 =>
    (Option.bind (at? y66 a58) fun y68 =>
    (bif decide (y68 > (-1152921504606846976)) then
     (Option.bind (at? y62 a58) fun y72 =>
     some (.inl ((IntKind.i64.wrap (a58 + 1)), (setI l59 a54 (setI y62 a58 (if (IntKind.i64.wrap (y64 + y68)) > y72 then (IntKind.i64.wrap (y64 + y68)) else y72))))))
    else
     some (.inl ((IntKind.i64.wrap (a58 + 1)), l59)))))
   else
    some (.inl ((IntKind.i64.wrap (a58 + 1)), l59)))))
  else
   some (.inr l59))
def F44_h4 (x1 : Int) (a46 : Int) (a54 : Int) (h60 : AHeap) (u59 : List Hd) (a58 : Int) (l59 : List (List Int)) : AS := ⟨[.int .i64 (F43 x1), junk, junk, junk, junk, junk, junk, junk, (sv (hov u59)), junk, junk, junk, junk, .int .i64 a46, .int .i64 a54, junk, junk, junk, junk, junk, junk, junk, junk, junk, junk, junk, junk, junk, junk, junk, junk, junk, junk, junk, junk, junk, junk, junk, junk, junk, junk, junk, junk, junk, junk, junk, junk, junk, junk, junk, junk, junk, junk, junk, junk, junk, junk, junk, junk, junk, junk, junk, junk, junk, junk, junk, junk, junk, junk, junk, junk, junk, junk, junk, junk, junk, junk, junk, junk, junk, junk, junk, junk, junk, junk, junk, junk, junk, junk, .int .i64 (F43 x1), .int .i64 a46, junk, junk, junk, junk, junk, junk, junk, junk, junk, junk, .int .i64 (F43 x1), .int .i64 a54, junk, junk, .int .i64 (F43 x1), .int .i64 a58, junk, junk, junk, junk, junk, junk, junk, junk, junk, junk, junk, junk, junk, junk, junk, junk, junk, junk, junk, junk, junk, junk, junk, junk, junk, junk, junk, junk, junk, junk, junk, junk, junk, junk, junk, junk, junk, junk, junk, junk, junk, junk, junk, junk, junk, junk, junk, junk, junk, junk, junk, junk, junk, junk, junk, junk, junk, junk, junk, junk, junk, junk, junk, junk, junk, junk], [], h60⟩
theorem F44_d4 : drawsOk F44_D (codeOf Try.prog 44 [1, 1, 1, 1, 1, 0, 1, 0, 0, 1, 1, 0, 0, 1, 1, 0, 1, 0, 0, 1, 1, 0, 0, 1, 1, 0, 0]) = true := by kernel_rfl
def F44_x4_0 (h : AHeap) (x1 : Int) (a46 : Int) (a54 : Int) (hx : AHeap) (w0 : List Hd) (r : (List (List Int))) : AS := ⟨[.int .i64 (F43 x1), junk, junk, junk, junk, junk, junk, junk, (sv (hov w0)), junk, junk, junk, junk, .int .i64 a46, junk, junk, junk, junk, junk, junk, junk, junk, junk, junk, junk, junk, junk, junk, junk, junk, junk, junk, junk, junk, junk, junk, junk, junk, junk, junk, junk, junk, junk, junk, junk, junk, junk, junk, junk, junk, junk, junk, junk, junk, junk, junk, junk, junk, junk, junk, junk, junk, junk, junk, junk, junk, junk, junk, junk, junk, junk, junk, junk, junk, junk, junk, junk, junk, junk, junk, junk, junk, junk, junk, junk, junk, junk, junk, junk, .int .i64 (F43 x1), .int .i64 a46, junk, junk, junk, junk, junk, junk, junk, junk, junk, junk, .int .i64 (F43 x1), .int .i64 a54, junk, junk, junk, junk, junk, junk, junk, junk, junk, junk, junk, junk, junk, junk, junk, junk, junk, junk, junk, junk, junk, junk, junk, junk, junk, junk, junk, junk, junk, junk, junk, junk, junk, junk, junk, junk, junk, junk, junk, junk, junk, junk, junk, junk, junk, junk, junk, junk, junk, junk, junk, junk, junk, junk, junk, junk, junk, junk, junk, junk, junk, junk, junk, junk, junk, junk, junk, junk, junk, junk], [], hx⟩
def F44_i4 (h : AHeap) (x1 : Int) (a46 : Int) (a54 : Int) (s : Int × (List (List Int))) (S : AS) : Prop := ∃ (h60 : AHeap) (u59 : List Hd), Heapy h h60 ([⟨(hov u59), 27, 1, List.flatMap encH (List.tail u59)⟩] ++ NIn 3 1 enc3 (List.tail u59) s.2) ∧ S = (F44_h4 x1 a46 a54 h60 u59 s.1 s.2)
def F44_x4 (h : AHeap) (x1 : Int) (a46 : Int) (a54 : Int) (r : (List (List Int))) (e : Exit) (S : AS) : Prop := e = (.exit 10) ∧ ∃ (hx : AHeap) (w0 : List Hd), Heapy h hx ([⟨(hov w0), 27, 1, List.flatMap encH (List.tail w0)⟩] ++ NIn 3 1 enc3 (List.tail w0) r) ∧ S = (F44_x4_0 h x1 a46 a54 hx w0 r)
set_option maxRecDepth 100000 in
theorem F44_r4 (h : AHeap) (x1 : Int) (a46 : Int) (a54 : Int) (a58 : Int) (l59 : List (List Int)) (S : AS) (hI : (F44_i4 h x1 a46 a54) (a58, l59) S) (o : (Int × (List (List Int))) ⊕ (List (List Int))) : F44_s4 x1 a46 a54 a58 l59 = some o → Rd Try.prog (codeOf Try.prog 44 [1, 1, 1, 1, 1, 0, 1, 0, 0, 1, 1, 0, 0, 1, 1, 0, 1, 0, 0, 1, 1, 0, 0, 1, 1, 0, 0]) (F44_i4 h x1 a46 a54) (F44_x4 h x1 a46 a54) S o := by
  obtain ⟨h60, u59, hp60, rfl⟩ := hI
  unfold F44_s4
  refine dec_bif (fun c61 => ?_) (fun c61 => ?_)
  · refine bind_opt fun y62 e62 => ?_
    obtain ⟨id62, off62, g62, cs62, ix62, _, _⟩ := SlE.at (Heapy.sle (v := (hov u59)) (xs := (List.tail u59)) (enc := encH) hp60 0 rfl (fun _ => rfl) (by decide)) (Heapy.niat (A := [⟨(hov u59), 27, 1, List.flatMap encH (List.tail u59)⟩]) (hs := (List.tail u59)) (xss := l59) hp60 e62)
    have at63 : At h60 id62 off62 g62 (encH (hnth (List.tail u59) a54)) := (SlE.atp (Heapy.sle (v := (hov u59)) (xs := (List.tail u59)) (enc := encH) hp60 0 rfl (fun _ => rfl) (by decide)) ix62 (Heapy.niat (A := [⟨(hov u59), 27, 1, List.flatMap encH (List.tail u59)⟩]) (hs := (List.tail u59)) (xss := l59) hp60 e62)).elim fun cs k => by obtain ⟨k1, rfl⟩ := k; exact k1
    refine bind_opt fun y64 e64 => ?_
    obtain ⟨id64, off64, g64, cs64, ix64, at64, rfl⟩ := SlE.at (Heapy.nisle (A := [⟨(hov u59), 27, 1, List.flatMap encH (List.tail u59)⟩]) (el := 3) (c := 1) (enc := enc3) (hs := (List.tail u59)) (xss := l59) hp60 e62 (fun _ => rfl) (by decide)) e64
    refine dec_bif (fun c65 => ?_) (fun c65 => ?_)
    · refine bind_opt fun y66 e66 => ?_
      obtain ⟨id66, off66, g66, cs66, ix66, _, _⟩ := SlE.at (Heapy.sle (v := (hov u59)) (xs := (List.tail u59)) (enc := encH) hp60 0 rfl (fun _ => rfl) (by decide)) (Heapy.niat (A := [⟨(hov u59), 27, 1, List.flatMap encH (List.tail u59)⟩]) (hs := (List.tail u59)) (xss := l59) hp60 e66)
      have at67 : At h60 id66 off66 g66 (encH (hnth (List.tail u59) a46)) := (SlE.atp (Heapy.sle (v := (hov u59)) (xs := (List.tail u59)) (enc := encH) hp60 0 rfl (fun _ => rfl) (by decide)) ix66 (Heapy.niat (A := [⟨(hov u59), 27, 1, List.flatMap encH (List.tail u59)⟩]) (hs := (List.tail u59)) (xss := l59) hp60 e66)).elim fun cs k => by obtain ⟨k1, rfl⟩ := k; exact k1
      refine bind_opt fun y68 e68 => ?_
      obtain ⟨id68, off68, g68, cs68, ix68, at68, rfl⟩ := SlE.at (Heapy.nisle (A := [⟨(hov u59), 27, 1, List.flatMap encH (List.tail u59)⟩]) (el := 3) (c := 1) (enc := enc3) (hs := (List.tail u59)) (xss := l59) hp60 e66 (fun _ => rfl) (by decide)) e68
      refine dec_bif (fun c69 => ?_) (fun c69 => ?_)
      · have at70 : At h60 id62 off62 g62 (encH (hnth (List.tail u59) a54)) := (SlE.atp (Heapy.sle (v := (hov u59)) (xs := (List.tail u59)) (enc := encH) hp60 0 rfl (fun _ => rfl) (by decide)) ix62 (Heapy.niat (A := [⟨(hov u59), 27, 1, List.flatMap encH (List.tail u59)⟩]) (hs := (List.tail u59)) (xss := l59) hp60 e62)).elim fun cs k => by obtain ⟨k1, rfl⟩ := k; exact k1
        have at71 : At h60 id62 off62 g62 (encH (hnth (List.tail u59) a54)) := (SlE.atp (Heapy.sle (v := (hov u59)) (xs := (List.tail u59)) (enc := encH) hp60 0 rfl (fun _ => rfl) (by decide)) ix62 (Heapy.niat (A := [⟨(hov u59), 27, 1, List.flatMap encH (List.tail u59)⟩]) (hs := (List.tail u59)) (xss := l59) hp60 e62)).elim fun cs k => by obtain ⟨k1, rfl⟩ := k; exact k1
        refine bind_opt fun y72 e72 => ?_
        obtain ⟨id72, off72, g72, cs72, ix72, at72, rfl⟩ := SlE.at (Heapy.nisle (A := [⟨(hov u59), 27, 1, List.flatMap encH (List.tail u59)⟩]) (el := 3) (c := 1) (enc := enc3) (hs := (List.tail u59)) (xss := l59) hp60 e62 (fun _ => rfl) (by decide)) e72
        have at73 : At h60 id62 off62 g62 (encH (hnth (List.tail u59) a54)) := (SlE.atp (Heapy.sle (v := (hov u59)) (xs := (List.tail u59)) (enc := encH) hp60 0 rfl (fun _ => rfl) (by decide)) ix62 (Heapy.niat (A := [⟨(hov u59), 27, 1, List.flatMap encH (List.tail u59)⟩]) (hs := (List.tail u59)) (xss := l59) hp60 e62)).elim fun cs k => by obtain ⟨k1, rfl⟩ := k; exact k1
        have at74 : At h60 id66 off66 g66 (encH (hnth (List.tail u59) a46)) := (SlE.atp (Heapy.sle (v := (hov u59)) (xs := (List.tail u59)) (enc := encH) hp60 0 rfl (fun _ => rfl) (by decide)) ix66 (Heapy.niat (A := [⟨(hov u59), 27, 1, List.flatMap encH (List.tail u59)⟩]) (hs := (List.tail u59)) (xss := l59) hp60 e66)).elim fun cs k => by obtain ⟨k1, rfl⟩ := k; exact k1
        obtain ⟨h75, m75, hp75⟩ := Heapy.nistore (P := Try.prog) (A := [⟨(hov u59), 27, 1, List.flatMap encH (List.tail u59)⟩]) (el := 3) (c := 1) (enc := enc3) (hs := (List.tail u59)) (xss := l59) hp60 e62 (fun _ => rfl) e72 (y' := (if (IntKind.i64.wrap (y64 + y68)) > y72 then (IntKind.i64.wrap (y64 + y68)) else y72)) ix72 (t := 3) (x := .int .i64 (if (IntKind.i64.wrap (y64 + y68)) > y72 then (IntKind.i64.wrap (y64 + y68)) else y72)) 0 (vs := [.int .i64 (if (IntKind.i64.wrap (y64 + y68)) > y72 then (IntKind.i64.wrap (y64 + y68)) else y72)]) rfl (by kernel_rfl) rfl rfl rfl rfl
        intro hr
        obtain rfl := Option.some.inj hr
        exact ⟨(F44_h4 x1 a46 a54 h75 ((hov u59) :: (List.tail u59)) (IntKind.i64.wrap (a58 + 1)) (setI l59 a54 (setI y62 a58 (if (IntKind.i64.wrap (y64 + y68)) > y72 then (IntKind.i64.wrap (y64 + y68)) else y72)))), ⟨h75, ((hov u59) :: (List.tail u59)), (Heapy.pickN2 (A := [⟨(hov u59), 27, 1, List.flatMap encH (List.tail u59)⟩]) (N := NIn 3 1 enc3 (List.tail u59) (setI l59 a54 (setI y62 a58 (if (IntKind.i64.wrap (y64 + y68)) > y72 then (IntKind.i64.wrap (y64 + y68)) else y72)))) hp75 1 rfl [0] (by decide) rfl), rfl⟩, pEnd_sound good (L := F44_L) (D := F44_D) (its := [.g, (.b true), .g, .g, .g, .g, (.ix id62 off62 g62), (.ld ((sv (hnth (List.tail u59) a54)))), .g, (.ix id64 off64 g64), (.ld (.int .i64 y64)), .g, .g, (.w .g), (.w .g), (.w (.ix id66 off66 g66)), (.w (.ld ((sv (hnth (List.tail u59) a46))))), (.w .g), (.w (.ix id68 off68 g68)), (.w (.ld (.int .i64 y68))), (.w .g), (.p true), (.b true), .g, .g, (.ix id62 off62 g62), (.ld ((sv (hnth (List.tail u59) a54)))), .g, .g, .g, (.ix id62 off62 g62), (.ld ((sv (hnth (List.tail u59) a54)))), .g, (.ix id72 off72 g72), (.ld (.int .i64 y72)), .g, .g, (.ix id62 off62 g62), (.ld ((sv (hnth (List.tail u59) a54)))), .g, (.ix id64 off64 g64), (.ld (.int .i64 y64)), .g, .g, (.ix id66 off66 g66), (.ld ((sv (hnth (List.tail u59) a46)))), .g, (.ix id68 off68 g68), (.ld (.int .i64 y68)), .g, .g, (.ix id72 off72 g72), (.mm undef h75), .g, .g]) (ds := F44_m4_0) (ks := []) (e := .normal) (s2 := (F44_h4 x1 a46 a54 h75 ((hov u59) :: (List.tail u59)) (IntKind.i64.wrap (a58 + 1)) (setI l59 a54 (setI y62 a58 (if (IntKind.i64.wrap (y64 + y68)) > y72 then (IntKind.i64.wrap (y64 + y68)) else y72))))) (hC := (ai m75 (ai ix72 (ai (At.one (P := Try.prog) (t := 3) (v := .int .i64 y68) at68 (by kernel_rfl) 0 rfl rfl) (ai ix68 (ai (At.one (P := Try.prog) (t := 27) (v := (sv (hnth (List.tail u59) a46))) at74 (by kernel_rfl) 0 rfl rfl) (ai ix66 (ai (At.one (P := Try.prog) (t := 3) (v := .int .i64 y64) at64 (by kernel_rfl) 0 rfl rfl) (ai ix64 (ai (At.one (P := Try.prog) (t := 27) (v := (sv (hnth (List.tail u59) a54))) at73 (by kernel_rfl) 0 rfl rfl) (ai ix62 (ai (At.one (P := Try.prog) (t := 3) (v := .int .i64 y72) at72 (by kernel_rfl) 0 rfl rfl) (ai ix72 (ai (At.one (P := Try.prog) (t := 27) (v := (sv (hnth (List.tail u59) a54))) at71 (by kernel_rfl) 0 rfl rfl) (ai ix62 (ai (At.one (P := Try.prog) (t := 27) (v := (sv (hnth (List.tail u59) a54))) at70 (by kernel_rfl) 0 rfl rfl) (ai ix62 (ai c69 (ai c65 (ai (g_tt c65) (ai (At.one (P := Try.prog) (t := 3) (v := .int .i64 y68) at68 (by kernel_rfl) 0 rfl rfl) (ai (g_tt c65) (ai ix68 (ai (g_tt c65) (ai (g_tt c65) (ai (At.one (P := Try.prog) (t := 27) (v := (sv (hnth (List.tail u59) a46))) at67 (by kernel_rfl) 0 rfl rfl) (ai (g_tt c65) (ai ix66 (ai (g_tt c65) (ai (g_tt c65) (ai (g_tt c65) (ai (At.one (P := Try.prog) (t := 3) (v := .int .i64 y64) at64 (by kernel_rfl) 0 rfl rfl) (ai ix64 (ai (At.one (P := Try.prog) (t := 27) (v := (sv (hnth (List.tail u59) a54))) at63 (by kernel_rfl) 0 rfl rfl) (ai ix62 (ai c61 trivial)))))))))))))))))))))))))))))))))))) (hd := F44_d4) (h := by kernel_rfl)⟩
      · intro hr
        obtain rfl := Option.some.inj hr
        exact ⟨(F44_h4 x1 a46 a54 h60 u59 (IntKind.i64.wrap (a58 + 1)) l59), ⟨h60, u59, (Heapy.pickN2 (A := [⟨(hov u59), 27, 1, List.flatMap encH (List.tail u59)⟩]) (N := NIn 3 1 enc3 (List.tail u59) l59) hp60 1 rfl [0] (by decide) rfl), rfl⟩, pEnd_sound good (L := F44_L) (D := F44_D) (its := [.g, (.b true), .g, .g, .g, .g, (.ix id62 off62 g62), (.ld ((sv (hnth (List.tail u59) a54)))), .g, (.ix id64 off64 g64), (.ld (.int .i64 y64)), .g, .g, (.w .g), (.w .g), (.w (.ix id66 off66 g66)), (.w (.ld ((sv (hnth (List.tail u59) a46))))), (.w .g), (.w (.ix id68 off68 g68)), (.w (.ld (.int .i64 y68))), (.w .g), (.p true), (.b false), .g, .g]) (ds := F44_m4_0) (ks := []) (e := .normal) (s2 := (F44_h4 x1 a46 a54 h60 u59 (IntKind.i64.wrap (a58 + 1)) l59)) (hC := (ai c69 (ai c65 (ai (g_tt c65) (ai (At.one (P := Try.prog) (t := 3) (v := .int .i64 y68) at68 (by kernel_rfl) 0 rfl rfl) (ai (g_tt c65) (ai ix68 (ai (g_tt c65) (ai (g_tt c65) (ai (At.one (P := Try.prog) (t := 27) (v := (sv (hnth (List.tail u59) a46))) at67 (by kernel_rfl) 0 rfl rfl) (ai (g_tt c65) (ai ix66 (ai (g_tt c65) (ai (g_tt c65) (ai (g_tt c65) (ai (At.one (P := Try.prog) (t := 3) (v := .int .i64 y64) at64 (by kernel_rfl) 0 rfl rfl) (ai ix64 (ai (At.one (P := Try.prog) (t := 27) (v := (sv (hnth (List.tail u59) a54))) at63 (by kernel_rfl) 0 rfl rfl) (ai ix62 (ai c61 trivial)))))))))))))))))))) (hd := F44_d4) (h := by kernel_rfl)⟩
    · intro hr
      obtain rfl := Option.some.inj hr
      exact ⟨(F44_h4 x1 a46 a54 h60 u59 (IntKind.i64.wrap (a58 + 1)) l59), ⟨h60, u59, (Heapy.pickN2 (A := [⟨(hov u59), 27, 1, List.flatMap encH (List.tail u59)⟩]) (N := NIn 3 1 enc3 (List.tail u59) l59) hp60 1 rfl [0] (by decide) rfl), rfl⟩, pEnd_sound good (L := F44_L) (D := F44_D) (its := [.g, (.b true), .g, .g, .g, .g, (.ix id62 off62 g62), (.ld ((sv (hnth (List.tail u59) a54)))), .g, (.ix id64 off64 g64), (.ld (.int .i64 y64)), .g, .g, .n, .n, .n, .n, .n, .n, .n, .n, (.p false), (.b false), .g, .g]) (ds := F44_m4_0) (ks := []) (e := .normal) (s2 := (F44_h4 x1 a46 a54 h60 u59 (IntKind.i64.wrap (a58 + 1)) l59)) (hC := (ai l_f (ai c65 (ai (g_ft c65) (ai (g_ft c65) (ai (g_ft c65) (ai (g_ft c65) (ai (g_ft c65) (ai (g_ft c65) (ai (g_ft c65) (ai (g_ft c65) (ai (At.one (P := Try.prog) (t := 3) (v := .int .i64 y64) at64 (by kernel_rfl) 0 rfl rfl) (ai ix64 (ai (At.one (P := Try.prog) (t := 27) (v := (sv (hnth (List.tail u59) a54))) at63 (by kernel_rfl) 0 rfl rfl) (ai ix62 (ai c61 trivial)))))))))))))))) (hd := F44_d4) (h := by kernel_rfl)⟩
  · intro hr
    obtain rfl := Option.some.inj hr
    refine ⟨(.exit 10), (F44_x4_0 h x1 a46 a54 h60 u59 (l59 : (List (List Int)))), (by intro hh; cases hh), ?_, pEnd_sound good (L := F44_L) (D := F44_D) (its := [.g, (.b false)]) (ds := F44_m4_1) (ks := []) (e := (.exit 10)) (s2 := (F44_x4_0 h x1 a46 a54 h60 u59 (l59 : (List (List Int))))) (hC := (ai c61 trivial)) (hd := F44_d4) (h := by kernel_rfl)⟩
    exact ⟨rfl, h60, u59, (Heapy.pickN2 (A := [⟨(hov u59), 27, 1, List.flatMap encH (List.tail u59)⟩]) (N := NIn 3 1 enc3 (List.tail u59) l59) hp60 1 rfl [0] (by decide) rfl), rfl⟩
theorem F44_l4 (h : AHeap) (x1 : Int) (a46 : Int) (a54 : Int) (x : Int × (List (List Int))) (r : (List (List Int))) (hl : loopO (fun (s : Int × (List (List Int))) => F44_s4 x1 a46 a54 s.1 s.2) x = some r) (S : AS) (hI : (F44_i4 h x1 a46 a54) x S) : ∃ e S', (F44_x4 h x1 a46 a54) r e S' ∧ AWp Try.prog (.loop (codeOf Try.prog 44 [1, 1, 1, 1, 1, 0, 1, 0, 0, 1, 1, 0, 0, 1, 1, 0, 1, 0, 0, 1, 1, 0, 0, 1, 1, 0, 0])) (Ends1 e S') S :=
  loop_rel (fun x S hI => F44_r4 h x1 a46 a54 x.1 x.2 S hI) hl hI
def F44_m5_1 : List Bool := [false, true, true, true, true, true, true, true, false, true, true, true, true, true, true, true, true, true, true, true, true, true, true, true, true, true, true, true, true, true, true, true, true, true, true, true, true, true, true, true, true, true, true, true, true, true, true, true, true, true, true, true, true, true, true, true, true, true, true, true, true, true, true, true, true, true, true, true, true, true, true, true, true, true, true, true, true, true, true, true, true, true, true, true, true, true, true, true, true, false, false, true, true, true, true, true, true, true, true, true, true, true, true, true, true, true, true, true, true, true, true, true, true, true, true, true, true, true, true, true, true, true, true, true, true, true, true, true, true, true, true, true, true, true, true, true, true, true, true, true, true, true, true, true, true, true, true, true, true, true, true, true, true, true, true, true, true, true, true, true, true, true, true, true, true, true, true, true, true, true, true, true, true]
def F44_m5_0 : List Bool := [false, true, true, true, true, true, true, true, false, true, true, true, true, false, true, true, true, true, true, true, true, true, true, true, true, true, true, true, true, true, true, true, true, true, true, true, true, true, true, true, true, true, true, true, true, true, true, true, true, true, true, true, true, true, true, true, true, true, true, true, true, true, true, true, true, true, true, true, true, true, true, true, true, true, true, true, true, true, true, true, true, true, true, true, true, true, true, true, true, false, false, true, true, true, true, true, true, true, true, true, true, false, false, true, true, true, true, true, true, true, true, true, true, true, true, true, true, true, true, true, true, true, true, true, true, true, true, true, true, true, true, true, true, true, true, true, true, true, true, true, true, true, true, true, true, true, true, true, true, true, true, true, true, true, true, true, true, true, true, true, true, true, true, true, true, true, true, true, true, true, true, true, true]
def F44_s5 (x1 : Int) (a46 : Int) (a54 : Int) (l55 : List (List Int)) : Option ((Int × (List (List Int))) ⊕ (List (List Int))) :=
  (bif decide (a54 < (F43 x1)) then
   (Option.bind (loopO (fun (s : Int × (List (List Int))) => F44_s4 x1 a46 a54 s.1 s.2) (0, l55)) fun y76 =>
   some (.inl ((IntKind.i64.wrap (a54 + 1)), y76)))
  else
   some (.inr l55))
def F44_h5 (x1 : Int) (a46 : Int) (h56 : AHeap) (u55 : List Hd) (a54 : Int) (l55 : List (List Int)) : AS := ⟨[.int .i64 (F43 x1), junk, junk, junk, junk, junk, junk, junk, (sv (hov u55)), junk, junk, junk, junk, .int .i64 a46, junk, junk, junk, junk, junk, junk, junk, junk, junk, junk, junk, junk, junk, junk, junk, junk, junk, junk, junk, junk, junk, junk, junk, junk, junk, junk, junk, junk, junk, junk, junk, junk, junk, junk, junk, junk, junk, junk, junk, junk, junk, junk, junk, junk, junk, junk, junk, junk, junk, junk, junk, junk, junk, junk, junk, junk, junk, junk, junk, junk, junk, junk, junk, junk, junk, junk, junk, junk, junk, junk, junk, junk, junk, junk, junk, .int .i64 (F43 x1), .int .i64 a46, junk, junk, junk, junk, junk, junk, junk, junk, junk, junk, .int .i64 (F43 x1), .int .i64 a54, junk, junk, junk, junk, junk, junk, junk, junk, junk, junk, junk, junk, junk, junk, junk, junk, junk, junk, junk, junk, junk, junk, junk, junk, junk, junk, junk, junk, junk, junk, junk, junk, junk, junk, junk, junk, junk, junk, junk, junk, junk, junk, junk, junk, junk, junk, junk, junk, junk, junk, junk, junk, junk, junk, junk, junk, junk, junk, junk, junk, junk, junk, junk, junk, junk, junk, junk, junk, junk, junk], [], h56⟩
theorem F44_d5 : drawsOk F44_D (codeOf Try.prog 44 [1, 1, 1, 1, 1, 0, 1, 0, 0, 1, 1, 0, 0, 1, 1, 0, 1, 0, 0]) = true := by kernel_rfl
def F44_x5_0 (h : AHeap) (x1 : Int) (a46 : Int) (hx : AHeap) (w0 : List Hd) (r : (List (List Int))) : AS := ⟨[.int .i64 (F43 x1), junk, junk, junk, junk, junk, junk, junk, (sv (hov w0)), junk, junk, junk, junk, junk, junk, junk, junk, junk, junk, junk, junk, junk, junk, junk, junk, junk, junk, junk, junk, junk, junk, junk, junk, junk, junk, junk, junk, junk, junk, junk, junk, junk, junk, junk, junk, junk, junk, junk, junk, junk, junk, junk, junk, junk, junk, junk, junk, junk, junk, junk, junk, junk, junk, junk, junk, junk, junk, junk, junk, junk, junk, junk, junk, junk, junk, junk, junk, junk, junk, junk, junk, junk, junk, junk, junk, junk, junk, junk, junk, .int .i64 (F43 x1), .int .i64 a46, junk, junk, junk, junk, junk, junk, junk, junk, junk, junk, junk, junk, junk, junk, junk, junk, junk, junk, junk, junk, junk, junk, junk, junk, junk, junk, junk, junk, junk, junk, junk, junk, junk, junk, junk, junk, junk, junk, junk, junk, junk, junk, junk, junk, junk, junk, junk, junk, junk, junk, junk, junk, junk, junk, junk, junk, junk, junk, junk, junk, junk, junk, junk, junk, junk, junk, junk, junk, junk, junk, junk, junk, junk, junk, junk, junk, junk, junk, junk, junk, junk, junk], [], hx⟩
def F44_i5 (h : AHeap) (x1 : Int) (a46 : Int) (s : Int × (List (List Int))) (S : AS) : Prop := ∃ (h56 : AHeap) (u55 : List Hd), Heapy h h56 ([⟨(hov u55), 27, 1, List.flatMap encH (List.tail u55)⟩] ++ NIn 3 1 enc3 (List.tail u55) s.2) ∧ S = (F44_h5 x1 a46 h56 u55 s.1 s.2)
def F44_x5 (h : AHeap) (x1 : Int) (a46 : Int) (r : (List (List Int))) (e : Exit) (S : AS) : Prop := e = (.exit 8) ∧ ∃ (hx : AHeap) (w0 : List Hd), Heapy h hx ([⟨(hov w0), 27, 1, List.flatMap encH (List.tail w0)⟩] ++ NIn 3 1 enc3 (List.tail w0) r) ∧ S = (F44_x5_0 h x1 a46 hx w0 r)
set_option maxRecDepth 100000 in
theorem F44_r5 (h : AHeap) (x1 : Int) (a46 : Int) (a54 : Int) (l55 : List (List Int)) (S : AS) (hI : (F44_i5 h x1 a46) (a54, l55) S) (o : (Int × (List (List Int))) ⊕ (List (List Int))) : F44_s5 x1 a46 a54 l55 = some o → Rd Try.prog (codeOf Try.prog 44 [1, 1, 1, 1, 1, 0, 1, 0, 0, 1, 1, 0, 0, 1, 1, 0, 1, 0, 0]) (F44_i5 h x1 a46) (F44_x5 h x1 a46) S o := by
  obtain ⟨h56, u55, hp56, rfl⟩ := hI
  unfold F44_s5
  refine dec_bif (fun c57 => ?_) (fun c57 => ?_)
  · refine bind_opt fun y76 e76 => ?_
    obtain ⟨ee76, SS76, hX76, hA76⟩ := F44_l4 h x1 a46 a54 (0, l55) y76 e76 (F44_h4 x1 a46 a54 h56 u55 0 l55) ⟨h56, u55, (Heapy.pickN2 (A := [⟨(hov u55), 27, 1, List.flatMap encH (List.tail u55)⟩]) (N := NIn 3 1 enc3 (List.tail u55) l55) hp56 1 rfl [0] (by decide) rfl), rfl⟩
    obtain ⟨rfl, h77, w0_77, hp77, rfl⟩ := hX76
    intro hr
    obtain rfl := Option.some.inj hr
    exact ⟨(F44_h5 x1 a46 h77 w0_77 (IntKind.i64.wrap (a54 + 1)) y76), ⟨h77, w0_77, (Heapy.pickN2 (A := [⟨(hov w0_77), 27, 1, List.flatMap encH (List.tail w0_77)⟩]) (N := NIn 3 1 enc3 (List.tail w0_77) y76) hp77 1 rfl [0] (by decide) rfl), rfl⟩, pEnd_sound good (L := F44_L) (D := F44_D) (its := [.g, (.b true), .g, .g, .g, .g, (.l F44_m4_0 [] (.exit 10) (F44_x4_0 h x1 a46 a54 h77 w0_77 y76)), .g, .g]) (ds := F44_m5_0) (ks := []) (e := .normal) (s2 := (F44_h5 x1 a46 h77 w0_77 (IntKind.i64.wrap (a54 + 1)) y76)) (hC := (ai hA76 (ai c57 trivial))) (hd := F44_d5) (h := by kernel_rfl)⟩
  · intro hr
    obtain rfl := Option.some.inj hr
    refine ⟨(.exit 8), (F44_x5_0 h x1 a46 h56 u55 (l55 : (List (List Int)))), (by intro hh; cases hh), ?_, pEnd_sound good (L := F44_L) (D := F44_D) (its := [.g, (.b false)]) (ds := F44_m5_1) (ks := []) (e := (.exit 8)) (s2 := (F44_x5_0 h x1 a46 h56 u55 (l55 : (List (List Int))))) (hC := (ai c57 trivial)) (hd := F44_d5) (h := by kernel_rfl)⟩
    exact ⟨rfl, h56, u55, (Heapy.pickN2 (A := [⟨(hov u55), 27, 1, List.flatMap encH (List.tail u55)⟩]) (N := NIn 3 1 enc3 (List.tail u55) l55) hp56 1 rfl [0] (by decide) rfl), rfl⟩
theorem F44_l5 (h : AHeap) (x1 : Int) (a46 : Int) (x : Int × (List (List Int))) (r : (List (List Int))) (hl : loopO (fun (s : Int × (List (List Int))) => F44_s5 x1 a46 s.1 s.2) x = some r) (S : AS) (hI : (F44_i5 h x1 a46) x S) : ∃ e S', (F44_x5 h x1 a46) r e S' ∧ AWp Try.prog (.loop (codeOf Try.prog 44 [1, 1, 1, 1, 1, 0, 1, 0, 0, 1, 1, 0, 0, 1, 1, 0, 1, 0, 0])) (Ends1 e S') S :=
  loop_rel (fun x S hI => F44_r5 h x1 a46 x.1 x.2 S hI) hl hI
def F44_m6_2 : List Bool := [false, true, true, true, true, true, true, true, false, true, true, true, true, true, true, true, true, true, true, true, true, true, true, true, true, true, true, true, true, true, true, true, true, true, true, true, true, true, true, true, true, true, true, true, true, true, true, true, true, true, true, true, true, true, true, true, true, true, true, true, true, true, true, true, true, true, true, true, true, true, true, true, true, true, true, true, true, true, true, true, true, true, true, true, true, true, true, true, true, false, false, true, true, true, true, true, true, true, true, true, true, true, true, true, true, true, true, true, true, true, true, true, true, true, true, true, true, true, true, true, true, true, true, true, true, true, true, true, true, true, true, true, true, true, true, true, true, true, true, true, true, true, true, true, true, true, true, true, true, true, true, true, true, true, true, true, true, true, true, true, true, true, true, true, true, true, true, true, true, true, true, true, true]
def F44_m6_1 : List Bool := [false, true, true, true, true, true, true, true, false, true, true, true, true, true, true, true, true, true, true, true, true, true, true, true, true, true, true, true, true, true, true, true, true, true, true, true, true, true, true, true, true, true, true, true, true, true, true, true, true, true, true, true, true, true, true, true, true, true, true, true, true, true, true, true, true, true, true, true, true, true, true, true, true, true, true, true, true, true, true, true, true, true, true, true, true, true, true, true, true, false, false, true, true, true, true, true, true, true, true, true, true, true, true, true, true, true, true, true, true, true, true, true, true, true, true, true, true, true, true, true, true, true, true, true, true, true, true, true, true, true, true, true, true, true, true, true, true, true, true, true, true, true, true, true, true, true, true, true, true, true, true, true, true, true, true, true, true, true, false, false, true, true, true, true, true, true, true, true, true, true, true, true, true]
def F44_m6_0 : List Bool := [true, true, true, true, true, true, false, false, true, true, true, true, true, true, true, true, true, true, true, true, true, true, true, true, true, true, true, true, true, true, true, true, true, true, true, true, true, true, true, true, true, true, true, true, true, true, true, true, true, true, true, true, true, true, true, true, true, true, true, true, true, true, true, true, true, true, true, true, true, true, true, true, true, true, true, true, true, true, true, true, true, true, true, true, true, true, true, true, true, true, true, true, true, true, true, true, true, true, true, true, true, true, true, true, true, true, true, true, true, true, true, true, true, true, true, true, true, true, true, true, true, true, true, true, true, true, true, true, true, true, true, true, true, true, true, true, true, true, true, true, true, true, true, true, true, true, true, true, true, true, true, true, true, true, true, true, true, true, true, true, true, true, true, true, true, true, true, true, true, true, true, true, true]
def F44_s6 (x1 : Int) (y78 : (List (List Int))) (a80 : Int) : Option (Int ⊕ Nat) :=
  (bif decide (a80 < (F43 x1)) then
   (Option.bind (at? y78 a80) fun y82 =>
   (Option.bind (at? y82 a80) fun y84 =>
   (bif decide (y84 > 0) then
    some (.inr 0)
   else
    some (.inl (IntKind.i64.wrap (a80 + 1))))))
  else
   some (.inr 1))
def F44_h6 (x1 : Int) (a46 : Int) (w0_79 : List Hd) (h79 : AHeap)  (a80 : Int) : AS := ⟨[.int .i64 (F43 x1), junk, junk, junk, junk, junk, junk, junk, (sv (hov w0_79)), junk, junk, junk, junk, junk, junk, junk, junk, junk, junk, junk, junk, junk, junk, junk, junk, junk, junk, junk, junk, junk, junk, junk, junk, junk, junk, junk, junk, junk, junk, junk, junk, junk, junk, junk, junk, junk, junk, junk, junk, junk, junk, junk, junk, junk, junk, junk, junk, junk, junk, junk, junk, junk, junk, junk, junk, junk, junk, junk, junk, junk, junk, junk, junk, junk, junk, junk, junk, junk, junk, junk, junk, junk, junk, junk, junk, junk, junk, junk, junk, .int .i64 (F43 x1), .int .i64 a46, junk, junk, junk, junk, junk, junk, junk, junk, junk, junk, junk, junk, junk, junk, junk, junk, junk, junk, junk, junk, junk, junk, junk, junk, junk, junk, junk, junk, junk, junk, junk, junk, junk, junk, junk, junk, junk, junk, junk, junk, junk, junk, junk, junk, junk, junk, junk, junk, junk, junk, junk, junk, junk, junk, junk, junk, junk, junk, junk, junk, junk, junk, junk, junk, junk, junk, junk, .int .i64 (F43 x1), .int .i64 a80, junk, junk, junk, junk, junk, junk, junk, junk, junk, junk, junk, junk, junk], [], h79⟩
theorem F44_d6 : drawsOk F44_D (codeOf Try.prog 44 [1, 1, 1, 1, 1, 0, 1, 0, 0, 1, 1, 0, 0, 1, 1, 1, 1, 0, 0]) = true := by kernel_rfl
def F44_x6_0 (x1 : Int) (a46 : Int) (w0_79 : List Hd) (h79 : AHeap)  (r : Nat) : AS := ⟨[junk, junk, junk, junk, junk, junk, .slice none 0 0, .bool false, junk, junk, junk, junk, junk, junk, junk, junk, junk, junk, junk, junk, junk, junk, junk, junk, junk, junk, junk, junk, junk, junk, junk, junk, junk, junk, junk, junk, junk, junk, junk, junk, junk, junk, junk, junk, junk, junk, junk, junk, junk, junk, junk, junk, junk, junk, junk, junk, junk, junk, junk, junk, junk, junk, junk, junk, junk, junk, junk, junk, junk, junk, junk, junk, junk, junk, junk, junk, junk, junk, junk, junk, junk, junk, junk, junk, junk, junk, junk, junk, junk, junk, junk, junk, junk, junk, junk, junk, junk, junk, junk, junk, junk, junk, junk, junk, junk, junk, junk, junk, junk, junk, junk, junk, junk, junk, junk, junk, junk, junk, junk, junk, junk, junk, junk, junk, junk, junk, junk, junk, junk, junk, junk, junk, junk, junk, junk, junk, junk, junk, junk, junk, junk, junk, junk, junk, junk, junk, junk, junk, junk, junk, junk, junk, junk, junk, junk, junk, junk, junk, junk, junk, junk, junk, junk, junk, junk, junk, junk, junk, junk, junk, junk, junk, junk], [], h79⟩
def F44_x6_1 (x1 : Int) (a46 : Int) (w0_79 : List Hd) (h79 : AHeap)  (r : Nat) : AS := ⟨[.int .i64 (F43 x1), junk, junk, junk, junk, junk, junk, junk, (sv (hov w0_79)), junk, junk, junk, junk, junk, junk, junk, junk, junk, junk, junk, junk, junk, junk, junk, junk, junk, junk, junk, junk, junk, junk, junk, junk, junk, junk, junk, junk, junk, junk, junk, junk, junk, junk, junk, junk, junk, junk, junk, junk, junk, junk, junk, junk, junk, junk, junk, junk, junk, junk, junk, junk, junk, junk, junk, junk, junk, junk, junk, junk, junk, junk, junk, junk, junk, junk, junk, junk, junk, junk, junk, junk, junk, junk, junk, junk, junk, junk, junk, junk, .int .i64 (F43 x1), .int .i64 a46, junk, junk, junk, junk, junk, junk, junk, junk, junk, junk, junk, junk, junk, junk, junk, junk, junk, junk, junk, junk, junk, junk, junk, junk, junk, junk, junk, junk, junk, junk, junk, junk, junk, junk, junk, junk, junk, junk, junk, junk, junk, junk, junk, junk, junk, junk, junk, junk, junk, junk, junk, junk, junk, junk, junk, junk, junk, junk, junk, junk, junk, junk, junk, junk, junk, junk, junk, junk, junk, junk, junk, junk, junk, junk, junk, junk, junk, junk, junk, junk, junk, junk], [], h79⟩
def F44_x6 (x1 : Int) (a46 : Int) (w0_79 : List Hd) (h79 : AHeap) (r : Nat) : Exit × AS := (bif Nat.beq r 0 then (.ret, (F44_x6_0 x1 a46 w0_79 h79 r)) else ((.exit 12), (F44_x6_1 x1 a46 w0_79 h79 r)))
set_option maxRecDepth 100000 in
theorem F44_r6 (h : AHeap) (x1 : Int) (a46 : Int) (y78 : (List (List Int))) (w0_79 : List Hd) (h79 : AHeap) (hp79 : Heapy h h79 ([⟨(hov w0_79), 27, 1, List.flatMap encH (List.tail w0_79)⟩] ++ NIn 3 1 enc3 (List.tail w0_79) y78)) (a80 : Int) (o : Int ⊕ Nat) : F44_s6 x1 y78 a80 = some o → RdF Try.prog (codeOf Try.prog 44 [1, 1, 1, 1, 1, 0, 1, 0, 0, 1, 1, 0, 0, 1, 1, 1, 1, 0, 0]) (fun (s : Int) => (F44_h6 x1 a46 w0_79 h79 s)) (F44_x6 x1 a46 w0_79 h79) (F44_h6 x1 a46 w0_79 h79 a80) o := by
  unfold F44_s6
  refine dec_bif (fun c81 => ?_) (fun c81 => ?_)
  · refine bind_opt fun y82 e82 => ?_
    obtain ⟨id82, off82, g82, cs82, ix82, _, _⟩ := SlE.at (Heapy.sle (v := (hov w0_79)) (xs := (List.tail w0_79)) (enc := encH) hp79 0 rfl (fun _ => rfl) (by decide)) (Heapy.niat (A := [⟨(hov w0_79), 27, 1, List.flatMap encH (List.tail w0_79)⟩]) (hs := (List.tail w0_79)) (xss := y78) hp79 e82)
    have at83 : At h79 id82 off82 g82 (encH (hnth (List.tail w0_79) a80)) := (SlE.atp (Heapy.sle (v := (hov w0_79)) (xs := (List.tail w0_79)) (enc := encH) hp79 0 rfl (fun _ => rfl) (by decide)) ix82 (Heapy.niat (A := [⟨(hov w0_79), 27, 1, List.flatMap encH (List.tail w0_79)⟩]) (hs := (List.tail w0_79)) (xss := y78) hp79 e82)).elim fun cs k => by obtain ⟨k1, rfl⟩ := k; exact k1
    refine bind_opt fun y84 e84 => ?_
    obtain ⟨id84, off84, g84, cs84, ix84, at84, rfl⟩ := SlE.at (Heapy.nisle (A := [⟨(hov w0_79), 27, 1, List.flatMap encH (List.tail w0_79)⟩]) (el := 3) (c := 1) (enc := enc3) (hs := (List.tail w0_79)) (xss := y78) hp79 e82 (fun _ => rfl) (by decide)) e84
    refine dec_bif (fun c85 => ?_) (fun c85 => ?_)
    · intro hr
      obtain rfl := Option.some.inj hr
      show AWp Try.prog _ (Ends1 ((F44_x6 x1 a46 w0_79 h79) (0 : Nat)).1 ((F44_x6 x1 a46 w0_79 h79) (0 : Nat)).2) _
      exact pEnd_sound good (L := F44_L) (D := F44_D) (its := [.g, (.b true), .g, .g, .g, .g, (.ix id82 off82 g82), (.ld ((sv (hnth (List.tail w0_79) a80)))), .g, (.ix id84 off84 g84), (.ld (.int .i64 y84)), .g, (.b true), .g, .g]) (ds := F44_m6_0) (ks := []) (e := ((F44_x6 x1 a46 w0_79 h79) (0 : Nat)).1) (s2 := ((F44_x6 x1 a46 w0_79 h79) (0 : Nat)).2) (hC := (ai c85 (ai (At.one (P := Try.prog) (t := 3) (v := .int .i64 y84) at84 (by kernel_rfl) 0 rfl rfl) (ai ix84 (ai (At.one (P := Try.prog) (t := 27) (v := (sv (hnth (List.tail w0_79) a80))) at83 (by kernel_rfl) 0 rfl rfl) (ai ix82 (ai c81 trivial))))))) (hd := F44_d6) (h := by kernel_rfl)
    · intro hr
      obtain rfl := Option.some.inj hr
      show AWp Try.prog _ (Ends1 .normal (F44_h6 x1 a46 w0_79 h79 (IntKind.i64.wrap (a80 + 1)))) _
      exact pEnd_sound good (L := F44_L) (D := F44_D) (its := [.g, (.b true), .g, .g, .g, .g, (.ix id82 off82 g82), (.ld ((sv (hnth (List.tail w0_79) a80)))), .g, (.ix id84 off84 g84), (.ld (.int .i64 y84)), .g, (.b false), .g, .g]) (ds := F44_m6_1) (ks := []) (e := .normal) (s2 := (F44_h6 x1 a46 w0_79 h79 (IntKind.i64.wrap (a80 + 1)))) (hC := (ai c85 (ai (At.one (P := Try.prog) (t := 3) (v := .int .i64 y84) at84 (by kernel_rfl) 0 rfl rfl) (ai ix84 (ai (At.one (P := Try.prog) (t := 27) (v := (sv (hnth (List.tail w0_79) a80))) at83 (by kernel_rfl) 0 rfl rfl) (ai ix82 (ai c81 trivial))))))) (hd := F44_d6) (h := by kernel_rfl)
  · intro hr
    obtain rfl := Option.some.inj hr
    show AWp Try.prog _ (Ends1 ((F44_x6 x1 a46 w0_79 h79) (1 : Nat)).1 ((F44_x6 x1 a46 w0_79 h79) (1 : Nat)).2) _
    exact pEnd_sound good (L := F44_L) (D := F44_D) (its := [.g, (.b false)]) (ds := F44_m6_2) (ks := []) (e := ((F44_x6 x1 a46 w0_79 h79) (1 : Nat)).1) (s2 := ((F44_x6 x1 a46 w0_79 h79) (1 : Nat)).2) (hC := (ai c81 trivial)) (hd := F44_d6) (h := by kernel_rfl)
theorem F44_l6_0 (h : AHeap) (x1 : Int) (a46 : Int) (y78 : (List (List Int))) (w0_79 : List Hd) (h79 : AHeap) (hp79 : Heapy h h79 ([⟨(hov w0_79), 27, 1, List.flatMap encH (List.tail w0_79)⟩] ++ NIn 3 1 enc3 (List.tail w0_79) y78)) (x : Int) (r : Nat) (hl : loopO (fun (s : Int) => F44_s6 x1 y78 s) x = some r) (q0 : Nat.beq r 0 = true) : AWp Try.prog (.loop (codeOf Try.prog 44 [1, 1, 1, 1, 1, 0, 1, 0, 0, 1, 1, 0, 0, 1, 1, 1, 1, 0, 0])) (Ends1 .ret (F44_x6_0 x1 a46 w0_79 h79 r)) ((fun (s : Int) => (F44_h6 x1 a46 w0_79 h79 s)) x) := by
  have k := loop_fun (P := Try.prog) (c := (codeOf Try.prog 44 [1, 1, 1, 1, 1, 0, 1, 0, 0, 1, 1, 0, 0, 1, 1, 1, 1, 0, 0])) (step := (fun (s : Int) => F44_s6 x1 y78 s)) (hd := (fun (s : Int) => (F44_h6 x1 a46 w0_79 h79 s))) (X := (F44_x6 x1 a46 w0_79 h79)) (by intro t; unfold F44_x6; cases Nat.beq t 0 <;> (intro h; cases h)) (fun x => F44_r6 h x1 a46 y78 w0_79 h79 hp79 x) hl
  simp only [F44_x6, q0, cond_true, cond_false] at k
  exact k
theorem F44_l6_1 (h : AHeap) (x1 : Int) (a46 : Int) (y78 : (List (List Int))) (w0_79 : List Hd) (h79 : AHeap) (hp79 : Heapy h h79 ([⟨(hov w0_79), 27, 1, List.flatMap encH (List.tail w0_79)⟩] ++ NIn 3 1 enc3 (List.tail w0_79) y78)) (x : Int) (r : Nat) (hl : loopO (fun (s : Int) => F44_s6 x1 y78 s) x = some r) (q0 : Nat.beq r 0 = false) : AWp Try.prog (.loop (codeOf Try.prog 44 [1, 1, 1, 1, 1, 0, 1, 0, 0, 1, 1, 0, 0, 1, 1, 1, 1, 0, 0])) (Ends1 (.exit 12) (F44_x6_1 x1 a46 w0_79 h79 r)) ((fun (s : Int) => (F44_h6 x1 a46 w0_79 h79 s)) x) := by
  have k := loop_fun (P := Try.prog) (c := (codeOf Try.prog 44 [1, 1, 1, 1, 1, 0, 1, 0, 0, 1, 1, 0, 0, 1, 1, 1, 1, 0, 0])) (step := (fun (s : Int) => F44_s6 x1 y78 s)) (hd := (fun (s : Int) => (F44_h6 x1 a46 w0_79 h79 s))) (X := (F44_x6 x1 a46 w0_79 h79)) (by intro t; unfold F44_x6; cases Nat.beq t 0 <;> (intro h; cases h)) (fun x => F44_r6 h x1 a46 y78 w0_79 h79 hp79 x) hl
  simp only [F44_x6, q0, cond_true, cond_false] at k
  exact k
def F44_m7_2 : List Bool := [true, true, true, true, true, true, true, true, false, true, true, true, true, true, true, true, true, true, true, true, true, true, true, true, true, true, true, true, true, true, true, true, true, true, true, true, true, true, true, true, true, true, true, true, true, true, true, true, true, true, true, true, true, true, true, true, true, true, true, true, true, true, true, true, true, true, true, true, true, true, true, true, true, true, true, true, true, true, true, true, true, true, true, true, true, true, true, true, true, true, true, true, true, true, true, true, true, true, true, true, true, true, true, true, true, true, true, true, true, true, true, true, true, true, true, true, true, true, true, true, true, true, true, true, true, true, true, true, true, true, true, true, true, true, true, true, true, true, true, true, true, true, true, true, true, true, true, true, true, true, true, true, true, true, true, true, true, true, true, true, true, true, true, true, true, true, true, true, true, true, true, true, true]
def F44_m7_1 : List Bool := [false, true, true, true, true, true, true, true, false, true, true, true, true, true, true, true, true, true, true, true, true, true, true, true, true, true, true, true, true, true, true, true, true, true, true, true, true, true, true, true, true, true, true, true, true, true, true, true, true, true, true, true, true, true, true, true, true, true, true, true, true, true, true, true, true, true, true, true, true, true, true, true, true, true, true, true, true, true, true, true, true, true, true, true, true, true, true, true, true, false, false, true, true, true, true, true, true, true, true, true, true, true, true, true, true, true, true, true, true, true, true, true, true, true, true, true, true, true, true, true, true, true, true, true, true, true, true, true, true, true, true, true, true, true, true, true, true, true, true, true, true, true, true, true, true, true, true, true, true, true, true, true, true, true, true, true, true, true, true, true, true, true, true, true, true, true, true, true, true, true, true, true, true]
def F44_m7_0 : List Bool := [true, true, true, true, true, true, false, false, true, true, true, true, true, true, true, true, true, true, true, true, true, true, true, true, true, true, true, true, true, true, true, true, true, true, true, true, true, true, true, true, true, true, true, true, true, true, true, true, true, true, true, true, true, true, true, true, true, true, true, true, true, true, true, true, true, true, true, true, true, true, true, true, true, true, true, true, true, true, true, true, true, true, true, true, true, true, true, true, true, true, true, true, true, true, true, true, true, true, true, true, true, true, true, true, true, true, true, true, true, true, true, true, true, true, true, true, true, true, true, true, true, true, true, true, true, true, true, true, true, true, true, true, true, true, true, true, true, true, true, true, true, true, true, true, true, true, true, true, true, true, true, true, true, true, true, true, true, true, true, true, true, true, true, true, true, true, true, true, true, true, true, true, true]
def F44_s7 (x1 : Int) (a46 : Int) (l47 : List (List Int)) : Option ((Int × (List (List Int))) ⊕ (Nat × (List (List Int)))) :=
  (bif decide (a46 < (F43 x1)) then
   (Option.bind (at? l47 a46) fun y50 =>
   (Option.bind (at? y50 a46) fun y52 =>
   (bif decide (y52 > 0) then
    some (.inr (0, []))
   else
    (Option.bind (loopO (fun (s : Int × (List (List Int))) => F44_s5 x1 a46 s.1 s.2) (0, l47)) fun y78 =>
    (Option.bind (loopO (fun (s : Int) => F44_s6 x1 y78 s) 0) fun y86 =>
    (bif (Nat.beq y86 0) then
     some (.inr (0, []))
    else
     some (.inl ((IntKind.i64.wrap (a46 + 1)), y78))))))))
  else
   some (.inr (1, l47)))
def F44_h7 (x1 : Int) (h48 : AHeap) (u47 : List Hd) (a46 : Int) (l47 : List (List Int)) : AS := ⟨[.int .i64 (F43 x1), junk, junk, junk, junk, junk, junk, junk, (sv (hov u47)), junk, junk, junk, junk, junk, junk, junk, junk, junk, junk, junk, junk, junk, junk, junk, junk, junk, junk, junk, junk, junk, junk, junk, junk, junk, junk, junk, junk, junk, junk, junk, junk, junk, junk, junk, junk, junk, junk, junk, junk, junk, junk, junk, junk, junk, junk, junk, junk, junk, junk, junk, junk, junk, junk, junk, junk, junk, junk, junk, junk, junk, junk, junk, junk, junk, junk, junk, junk, junk, junk, junk, junk, junk, junk, junk, junk, junk, junk, junk, junk, .int .i64 (F43 x1), .int .i64 a46, junk, junk, junk, junk, junk, junk, junk, junk, junk, junk, junk, junk, junk, junk, junk, junk, junk, junk, junk, junk, junk, junk, junk, junk, junk, junk, junk, junk, junk, junk, junk, junk, junk, junk, junk, junk, junk, junk, junk, junk, junk, junk, junk, junk, junk, junk, junk, junk, junk, junk, junk, junk, junk, junk, junk, junk, junk, junk, junk, junk, junk, junk, junk, junk, junk, junk, junk, junk, junk, junk, junk, junk, junk, junk, junk, junk, junk, junk, junk, junk, junk, junk], [], h48⟩
theorem F44_d7 : drawsOk F44_D (codeOf Try.prog 44 [1, 1, 1, 1, 1, 0, 1, 0, 0]) = true := by kernel_rfl
def F44_x7_0 (h : AHeap) (hx : AHeap) (r : Nat × (List (List Int))) : AS := ⟨[junk, junk, junk, junk, junk, junk, .slice none 0 0, .bool false, junk, junk, junk, junk, junk, junk, junk, junk, junk, junk, junk, junk, junk, junk, junk, junk, junk, junk, junk, junk, junk, junk, junk, junk, junk, junk, junk, junk, junk, junk, junk, junk, junk, junk, junk, junk, junk, junk, junk, junk, junk, junk, junk, junk, junk, junk, junk, junk, junk, junk, junk, junk, junk, junk, junk, junk, junk, junk, junk, junk, junk, junk, junk, junk, junk, junk, junk, junk, junk, junk, junk, junk, junk, junk, junk, junk, junk, junk, junk, junk, junk, junk, junk, junk, junk, junk, junk, junk, junk, junk, junk, junk, junk, junk, junk, junk, junk, junk, junk, junk, junk, junk, junk, junk, junk, junk, junk, junk, junk, junk, junk, junk, junk, junk, junk, junk, junk, junk, junk, junk, junk, junk, junk, junk, junk, junk, junk, junk, junk, junk, junk, junk, junk, junk, junk, junk, junk, junk, junk, junk, junk, junk, junk, junk, junk, junk, junk, junk, junk, junk, junk, junk, junk, junk, junk, junk, junk, junk, junk, junk, junk, junk, junk, junk, junk], [], hx⟩
def F44_x7_1 (h : AHeap) (hx : AHeap) (w0 : List Hd) (r : Nat × (List (List Int))) : AS := ⟨[junk, junk, junk, junk, junk, junk, junk, junk, (sv (hov w0)), junk, junk, junk, junk, junk, junk, junk, junk, junk, junk, junk, junk, junk, junk, junk, junk, junk, junk, junk, junk, junk, junk, junk, junk, junk, junk, junk, junk, junk, junk, junk, junk, junk, junk, junk, junk, junk, junk, junk, junk, junk, junk, junk, junk, junk, junk, junk, junk, junk, junk, junk, junk, junk, junk, junk, junk, junk, junk, junk, junk, junk, junk, junk, junk, junk, junk, junk, junk, junk, junk, junk, junk, junk, junk, junk, junk, junk, junk, junk, junk, junk, junk, junk, junk, junk, junk, junk, junk, junk, junk, junk, junk, junk, junk, junk, junk, junk, junk, junk, junk, junk, junk, junk, junk, junk, junk, junk, junk, junk, junk, junk, junk, junk, junk, junk, junk, junk, junk, junk, junk, junk, junk, junk, junk, junk, junk, junk, junk, junk, junk, junk, junk, junk, junk, junk, junk, junk, junk, junk, junk, junk, junk, junk, junk, junk, junk, junk, junk, junk, junk, junk, junk, junk, junk, junk, junk, junk, junk, junk, junk, junk, junk, junk, junk], [], hx⟩
def F44_i7 (h : AHeap) (x1 : Int) (s : Int × (List (List Int))) (S : AS) : Prop := ∃ (h48 : AHeap) (u47 : List Hd), Heapy h h48 ([⟨(hov u47), 27, 1, List.flatMap encH (List.tail u47)⟩] ++ NIn 3 1 enc3 (List.tail u47) s.2) ∧ S = (F44_h7 x1 h48 u47 s.1 s.2)
def F44_x7 (h : AHeap) (r : Nat × (List (List Int))) (e : Exit) (S : AS) : Prop := (bif Nat.beq r.1 0 then (e = .ret ∧ ∃ (hx : AHeap), Heapy h hx [] ∧ S = (F44_x7_0 h hx r)) else (e = (.exit 6) ∧ ∃ (hx : AHeap) (w0 : List Hd), Heapy h hx ([⟨(hov w0), 27, 1, List.flatMap encH (List.tail w0)⟩] ++ NIn 3 1 enc3 (List.tail w0) r.2) ∧ S = (F44_x7_1 h hx w0 r)))
set_option maxRecDepth 100000 in
theorem F44_r7 (h : AHeap) (x1 : Int) (a46 : Int) (l47 : List (List Int)) (S : AS) (hI : (F44_i7 h x1) (a46, l47) S) (o : (Int × (List (List Int))) ⊕ (Nat × (List (List Int)))) : F44_s7 x1 a46 l47 = some o → Rd Try.prog (codeOf Try.prog 44 [1, 1, 1, 1, 1, 0, 1, 0, 0]) (F44_i7 h x1) (F44_x7 h) S o := by
  obtain ⟨h48, u47, hp48, rfl⟩ := hI
  unfold F44_s7
  refine dec_bif (fun c49 => ?_) (fun c49 => ?_)
  · refine bind_opt fun y50 e50 => ?_
    obtain ⟨id50, off50, g50, cs50, ix50, _, _⟩ := SlE.at (Heapy.sle (v := (hov u47)) (xs := (List.tail u47)) (enc := encH) hp48 0 rfl (fun _ => rfl) (by decide)) (Heapy.niat (A := [⟨(hov u47), 27, 1, List.flatMap encH (List.tail u47)⟩]) (hs := (List.tail u47)) (xss := l47) hp48 e50)
    have at51 : At h48 id50 off50 g50 (encH (hnth (List.tail u47) a46)) := (SlE.atp (Heapy.sle (v := (hov u47)) (xs := (List.tail u47)) (enc := encH) hp48 0 rfl (fun _ => rfl) (by decide)) ix50 (Heapy.niat (A := [⟨(hov u47), 27, 1, List.flatMap encH (List.tail u47)⟩]) (hs := (List.tail u47)) (xss := l47) hp48 e50)).elim fun cs k => by obtain ⟨k1, rfl⟩ := k; exact k1
    refine bind_opt fun y52 e52 => ?_
    obtain ⟨id52, off52, g52, cs52, ix52, at52, rfl⟩ := SlE.at (Heapy.nisle (A := [⟨(hov u47), 27, 1, List.flatMap encH (List.tail u47)⟩]) (el := 3) (c := 1) (enc := enc3) (hs := (List.tail u47)) (xss := l47) hp48 e50 (fun _ => rfl) (by decide)) e52
    refine dec_bif (fun c53 => ?_) (fun c53 => ?_)
    · intro hr
      obtain rfl := Option.some.inj hr
      refine ⟨.ret, (F44_x7_0 h h48 ((0, []) : Nat × (List (List Int)))), (by intro hh; cases hh), ?_, pEnd_sound good (L := F44_L) (D := F44_D) (its := [.g, (.b true), .g, .g, .g, .g, (.ix id50 off50 g50), (.ld ((sv (hnth (List.tail u47) a46)))), .g, (.ix id52 off52 g52), (.ld (.int .i64 y52)), .g, (.b true), .g, .g]) (ds := F44_m7_0) (ks := []) (e := .ret) (s2 := (F44_x7_0 h h48 ((0, []) : Nat × (List (List Int))))) (hC := (ai c53 (ai (At.one (P := Try.prog) (t := 3) (v := .int .i64 y52) at52 (by kernel_rfl) 0 rfl rfl) (ai ix52 (ai (At.one (P := Try.prog) (t := 27) (v := (sv (hnth (List.tail u47) a46))) at51 (by kernel_rfl) 0 rfl rfl) (ai ix50 (ai c49 trivial))))))) (hd := F44_d7) (h := by kernel_rfl)⟩
      exact ⟨rfl, h48, (Heapy.pick (Heapy.head (A := [⟨(hov u47), 27, 1, List.flatMap encH (List.tail u47)⟩]) (N := NIn 3 1 enc3 (List.tail u47) l47) hp48) [] (by decide)), rfl⟩
    · refine bind_opt fun y78 e78 => ?_
      obtain ⟨ee78, SS78, hX78, hA78⟩ := F44_l5 h x1 a46 (0, l47) y78 e78 (F44_h5 x1 a46 h48 u47 0 l47) ⟨h48, u47, (Heapy.pickN2 (A := [⟨(hov u47), 27, 1, List.flatMap encH (List.tail u47)⟩]) (N := NIn 3 1 enc3 (List.tail u47) l47) hp48 1 rfl [0] (by decide) rfl), rfl⟩
      obtain ⟨rfl, h79, w0_79, hp79, rfl⟩ := hX78
      refine bind_opt fun y86 e86 => ?_
      refine dec_bif (fun c87 => ?_) (fun c87 => ?_)
      · intro hr
        obtain rfl := Option.some.inj hr
        refine ⟨.ret, (F44_x7_0 h h79 ((0, []) : Nat × (List (List Int)))), (by intro hh; cases hh), ?_, pEnd_sound good (L := F44_L) (D := F44_D) (its := [.g, (.b true), .g, .g, .g, .g, (.ix id50 off50 g50), (.ld ((sv (hnth (List.tail u47) a46)))), .g, (.ix id52 off52 g52), (.ld (.int .i64 y52)), .g, (.b false), .g, .g, (.l F44_m5_0 [] (.exit 8) (F44_x5_0 h x1 a46 h79 w0_79 y78)), .g, .g, (.l F44_m6_1 [] .ret (F44_x6_0 x1 a46 w0_79 h79 y86))]) (ds := F44_m7_0) (ks := []) (e := .ret) (s2 := (F44_x7_0 h h79 ((0, []) : Nat × (List (List Int))))) (hC := (ai (F44_l6_0 h x1 a46 y78 w0_79 h79 hp79 0 y86 e86 c87) (ai hA78 (ai c53 (ai (At.one (P := Try.prog) (t := 3) (v := .int .i64 y52) at52 (by kernel_rfl) 0 rfl rfl) (ai ix52 (ai (At.one (P := Try.prog) (t := 27) (v := (sv (hnth (List.tail u47) a46))) at51 (by kernel_rfl) 0 rfl rfl) (ai ix50 (ai c49 trivial))))))))) (hd := F44_d7) (h := by kernel_rfl)⟩
        exact ⟨rfl, h79, (Heapy.pick (Heapy.head (A := [⟨(hov w0_79), 27, 1, List.flatMap encH (List.tail w0_79)⟩]) (N := NIn 3 1 enc3 (List.tail w0_79) y78) hp79) [] (by decide)), rfl⟩
      · intro hr
        obtain rfl := Option.some.inj hr
        exact ⟨(F44_h7 x1 h79 w0_79 (IntKind.i64.wrap (a46 + 1)) y78), ⟨h79, w0_79, (Heapy.pickN2 (A := [⟨(hov w0_79), 27, 1, List.flatMap encH (List.tail w0_79)⟩]) (N := NIn 3 1 enc3 (List.tail w0_79) y78) hp79 1 rfl [0] (by decide) rfl), rfl⟩, pEnd_sound good (L := F44_L) (D := F44_D) (its := [.g, (.b true), .g, .g, .g, .g, (.ix id50 off50 g50), (.ld ((sv (hnth (List.tail u47) a46)))), .g, (.ix id52 off52 g52), (.ld (.int .i64 y52)), .g, (.b false), .g, .g, (.l F44_m5_0 [] (.exit 8) (F44_x5_0 h x1 a46 h79 w0_79 y78)), .g, .g, (.l F44_m6_1 [] (.exit 12) (F44_x6_1 x1 a46 w0_79 h79 y86)), .g, .g]) (ds := F44_m7_1) (ks := []) (e := .normal) (s2 := (F44_h7 x1 h79 w0_79 (IntKind.i64.wrap (a46 + 1)) y78)) (hC := (ai (F44_l6_1 h x1 a46 y78 w0_79 h79 hp79 0 y86 e86 c87) (ai hA78 (ai c53 (ai (At.one (P := Try.prog) (t := 3) (v := .int .i64 y52) at52 (by kernel_rfl) 0 rfl rfl) (ai ix52 (ai (At.one (P := Try.prog) (t := 27) (v := (sv (hnth (List.tail u47) a46))) at51 (by kernel_rfl) 0 rfl rfl) (ai ix50 (ai c49 trivial))))))))) (hd := F44_d7) (h := by kernel_rfl)⟩
  · intro hr
    obtain rfl := Option.some.inj hr
    refine ⟨(.exit 6), (F44_x7_1 h h48 u47 ((1, l47) : Nat × (List (List Int)))), (by intro hh; cases hh), ?_, pEnd_sound good (L := F44_L) (D := F44_D) (its := [.g, (.b false)]) (ds := F44_m7_2) (ks := []) (e := (.exit 6)) (s2 := (F44_x7_1 h h48 u47 ((1, l47) : Nat × (List (List Int))))) (hC := (ai c49 trivial)) (hd := F44_d7) (h := by kernel_rfl)⟩
    exact ⟨rfl, h48, u47, (Heapy.pickN2 (A := [⟨(hov u47), 27, 1, List.flatMap encH (List.tail u47)⟩]) (N := NIn 3 1 enc3 (List.tail u47) l47) hp48 1 rfl [0] (by decide) rfl), rfl⟩
theorem F44_l7 (h : AHeap) (x1 : Int) (x : Int × (List (List Int))) (r : Nat × (List (List Int))) (hl : loopO (fun (s : Int × (List (List Int))) => F44_s7 x1 s.1 s.2) x = some r) (S : AS) (hI : (F44_i7 h x1) x S) : ∃ e S', (F44_x7 h) r e S' ∧ AWp Try.prog (.loop (codeOf Try.prog 44 [1, 1, 1, 1, 1, 0, 1, 0, 0])) (Ends1 e S') S :=
  loop_rel (fun x S hI => F44_r7 h x1 x.1 x.2 S hI) hl hI
def F44 (x1 : Int) (l2 : List (Int × Int × Int × Int)) (x3 : Int) : Option ((List (List Int)) × Bool) :=
  (Option.bind (loopO (fun (s : Int × (List (List Int))) => F44_s2 x1 s.1 s.2) (0, ([] : List (List Int)))) fun y29 =>
  (Option.bind (loopO (fun (s : Int × (List (List Int))) => F44_s3 x1 l2 x3 s.1 s.2) (0, y29)) fun y44 =>
  (Option.bind (loopO (fun (s : Int × (List (List Int))) => F44_s7 x1 s.1 s.2) (0, y44)) fun y88 =>
  (bif (Nat.beq y88.1 0) then
   some ([], false)
  else
   some (y88.2, true)))))
set_option maxRecDepth 100000 in
theorem F44_spec (x1 : Int) (l2 : List (Int × Int × Int × Int)) (x3 : Int) (v2 : Hd) (h : AHeap) (hw : h.wf) (hv2 : SlE E81 4 h (sv v2) l2) (r : (List (List Int)) × Bool) : F44 x1 l2 x3 = some r → ∃ (ur0 : Hd) (ur0h : List Hd) (h' : AHeap), Heapy h h' ([⟨ur0, 27, 1, List.flatMap encH ur0h⟩] ++ NIn 3 1 enc3 ur0h r.1) ∧ ACalls Try.prog 44 [.int .i64 x1, (sv v2), .int .i64 x3] h (fun v' h'' => v' = (.tuple #[(sv ur0), .bool r.2] : Value) ∧ h'' = h') := by
  unfold F44
  refine bind_opt fun y29 e29 => ?_
  have hp5 : Heapy h h ([⟨⟨none, 0, 0⟩, 27, 1, List.flatMap encH ([] : List Hd)⟩] ++ NIn 3 1 enc3 ([] : List Hd) ([] : List (List Int))) := Heapy.nilO (el := 3) (c := 1) (enc := enc3) (Heapy.refl hw) 27
  obtain ⟨ee29, SS29, hX29, hA29⟩ := F44_l2 h x1 v2 x3 (0, ([] : List (List Int))) y29 e29 (F44_h2 x1 v2 x3 h ((⟨none, 0, 0⟩ : Hd) :: ([] : List Hd)) 0 ([] : List (List Int))) ⟨h, ((⟨none, 0, 0⟩ : Hd) :: ([] : List Hd)), (Heapy.pickN2 (A := [⟨⟨none, 0, 0⟩, 27, 1, List.flatMap encH ([] : List Hd)⟩]) (N := NIn 3 1 enc3 ([] : List Hd) ([] : List (List Int))) hp5 1 rfl [0] (by decide) rfl), rfl⟩
  obtain ⟨rfl, h30, w0_30, hp30, rfl⟩ := hX29
  refine bind_opt fun y44 e44 => ?_
  obtain ⟨ee44, SS44, hX44, hA44⟩ := F44_l3 h x1 l2 v2 hv2 x3 (0, y29) y44 e44 (F44_h3 x1 l2 v2 x3 h30 w0_30 0 y29) ⟨h30, w0_30, (Heapy.pickN2 (A := [⟨(hov w0_30), 27, 1, List.flatMap encH (List.tail w0_30)⟩]) (N := NIn 3 1 enc3 (List.tail w0_30) y29) hp30 1 rfl [0] (by decide) rfl), rfl⟩
  obtain ⟨rfl, h45, w0_45, hp45, rfl⟩ := hX44
  refine bind_opt fun y88 e88 => ?_
  obtain ⟨ee88, SS88, hX88, hA88⟩ := F44_l7 h x1 (0, y44) y88 e88 (F44_h7 x1 h45 w0_45 0 y44) ⟨h45, w0_45, (Heapy.pickN2 (A := [⟨(hov w0_45), 27, 1, List.flatMap encH (List.tail w0_45)⟩]) (N := NIn 3 1 enc3 (List.tail w0_45) y44) hp45 1 rfl [0] (by decide) rfl), rfl⟩
  refine dec_bif (fun c89 => ?_) (fun c89 => ?_)
  · simp only [F44_x7, c89, cond_true, cond_false] at hX88
    obtain ⟨rfl, h90, hp90, rfl⟩ := hX88
    intro hr
    obtain rfl := Option.some.inj hr
    exact ⟨⟨none, 0, 0⟩, [], h90, Heapy.nilN (el := 3) (c := 1) (enc := enc3) (Heapy.drop hp90) 27, pFun_sound good tab_ok (f := 44) (its := [.g, .g, .g, (.c (.int .i64 (F43 x1)) h), .g, .g, .g, .g, (.l F44_m2_0 [] (.exit 0) (F44_x2_0 h x1 v2 x3 h30 w0_30 y29)), .g, (.ln l2.length), .g, (.l F44_m3_0 [] (.exit 4) (F44_x3_0 h x1 h45 w0_45 y44)), .g, .g, (.l F44_m7_1 [] .ret (F44_x7_0 h h90 y88))]) (args := [.int .i64 x1, (sv v2), .int .i64 x3]) (h := h) (h' := h90) (v := .tuple #[.slice none 0 0, .bool false]) (hC := (ai hA88 (ai hA44 (ai (SlE.len hv2) (ai hA29 (ai (F43_spec x1 h _ rfl) trivial)))))) (hr := by kernel_rfl)⟩
  · simp only [F44_x7, c89, cond_true, cond_false] at hX88
    obtain ⟨rfl, h91, w0_91, hp91, rfl⟩ := hX88
    intro hr
    obtain rfl := Option.some.inj hr
    exact ⟨(hov w0_91), (List.tail w0_91), h91, (Heapy.pickN2 (A := [⟨(hov w0_91), 27, 1, List.flatMap encH (List.tail w0_91)⟩]) (N := NIn 3 1 enc3 (List.tail w0_91) y88.2) hp91 1 rfl [0] (by decide) rfl), pFun_sound good tab_ok (f := 44) (its := [.g, .g, .g, (.c (.int .i64 (F43 x1)) h), .g, .g, .g, .g, (.l F44_m2_0 [] (.exit 0) (F44_x2_0 h x1 v2 x3 h30 w0_30 y29)), .g, (.ln l2.length), .g, (.l F44_m3_0 [] (.exit 4) (F44_x3_0 h x1 h45 w0_45 y44)), .g, .g, (.l F44_m7_1 [] (.exit 6) (F44_x7_1 h h91 w0_91 y88)), .g, .g, .g]) (args := [.int .i64 x1, (sv v2), .int .i64 x3]) (h := h) (h' := h91) (v := .tuple #[(sv (hov w0_91)), .bool true]) (hC := (ai hA88 (ai hA44 (ai (SlE.len hv2) (ai hA29 (ai (F43_spec x1 h _ rfl) trivial)))))) (hr := by kernel_rfl)⟩
/-! 45 jacquard/jacquardref30.Bound -/
def F45__1 (y4 : Int) : Int := (if 1073741824 < (if (-1073741824) > y4 then (-1073741824) else y4) then 1073741824 else (if (-1073741824) > y4 then (-1073741824) else y4))
def F45 (l1 : List Int) (x2 : Int) : Option (Int) :=
  (bif decide (x2 ≥ (l1.length : Int)) then
   some (0)
  else
   (Option.bind (at? l1 x2) fun y4 =>
   some (F45__1 y4)))
set_option maxRecDepth 100000 in
theorem F45_spec (l1 : List Int) (x2 : Int) (v1 : Hd) (h : AHeap) (hv1 : SlE E3 1 h (sv v1) l1) (r : Int) : F45 l1 x2 = some r → ACalls Try.prog 45 [(sv v1), .int .i64 x2] h (fun v' h'' => v' = (.int .i64 r : Value) ∧ h'' = h) := by
  unfold F45
  refine dec_bif (fun c3 => ?_) (fun c3 => ?_)
  · intro hr
    obtain rfl := Option.some.inj hr
    exact pFun_sound good tab_ok (f := 45) (its := [.g, .g, .g, (.ln l1.length), .g, (.b true), .g]) (args := [(sv v1), .int .i64 x2]) (h := h) (h' := h) (v := .int .i64 0) (hC := (ai c3 (ai (SlE.len hv1) trivial))) (hr := by kernel_rfl)
  · refine bind_opt fun y4 e4 => ?_
    obtain ⟨id4, off4, g4, cs4, ix4, at4, rfl⟩ := SlE.at hv1 e4
    intro hr
    obtain rfl := Option.some.inj hr
    exact pFun_sound good tab_ok (f := 45) (its := [.g, .g, .g, (.ln l1.length), .g, (.b false), .g, .g, (.ix id4 off4 g4), (.ld (.int .i64 y4)), .g, .g, .g]) (args := [(sv v1), .int .i64 x2]) (h := h) (h' := h) (v := .int .i64 (F45__1 y4)) (hC := (ai (At.one (P := Try.prog) (t := 3) (v := .int .i64 y4) at4 (by kernel_rfl) 0 rfl rfl) (ai ix4 (ai c3 (ai (SlE.len hv1) trivial))))) (hr := by kernel_rfl)
/-! 18 jacquard/jacquardref30.After -/
def F18_L : List Nat := []
def F18_D : List (Nat × List (Nat × Nat)) := [(13, [(0, 2), (1, 2), (2, 2), (4, 2), (5, 2), (6, 2), (8, 2), (7, 5), (9, 2), (10, 5), (3, 1), (11, 2), (12, 2), (13, 2)])]
def F18_m1_1 : List Bool := [true, true, true, false, true, true, true, true, true, true, false, true, false, true, false, true, true, true, true, true, true, true, true, true, true, true, false, false, true, true, true, true, true, true, true, true, true, true, true, true, true, true, true, true, true, true, true, true, true, true, true, true, true, true, true, true, true, true, true, true, true, true, true, true, true, true]
def F18_m1_0 : List Bool := [true, true, true, false, true, true, true, true, true, true, false, true, false, false, false, true, true, true, true, true, true, true, true, true, true, true, false, false, true, true, true, true, true, true, false, false, true, true, true, true, true, true, true, true, true, true, true, true, true, true, true, true, true, true, true, true, true, true, true, true, true, true, true, true, true, true]
def F18_s1 (l4 : List Int) (y5 : (List (List Int)) × Bool) (a11 : Int) (a17 : Int) (a18 : Int) : Option ((Int × Int) ⊕ Int) :=
  (bif decide (a18 < (y5.1.length : Int)) then
   (Option.bind (at? y5.1 a18) fun y20 =>
   (Option.bind (at? y20 a11) fun y22 =>
   (bif decide (y22 > (-1152921504606846976)) then
    (Option.bind (F45 l4 a18) fun y25 =>
    some (.inl ((if (IntKind.i64.wrap (y25 + y22)) > a17 then (IntKind.i64.wrap (y25 + y22)) else a17), (IntKind.i64.wrap (a18 + 1)))))
   else
    some (.inl (a17, (IntKind.i64.wrap (a18 + 1)))))))
  else
   some (.inr a17))
def F18_h1 (v4 : Hd) (y5 : (List (List Int)) × Bool) (u6_0 : Hd) (a11 : Int) (u12 : Hd) (h13 : AHeap)  (a17 : Int) (a18 : Int) : AS := ⟨[junk, junk, junk, (sv v4), junk, junk, junk, junk, junk, junk, (sv u6_0), junk, (sv u12), .int .i64 a11, .int .i64 a17, junk, junk, junk, junk, junk, junk, junk, junk, junk, junk, junk, .int .i64 (y5.1.length : Int), .int .i64 a11, junk, junk, junk, junk, junk, junk, .int .i64 (y5.1.length : Int), .int .i64 a18, junk, junk, junk, junk, junk, junk, junk, junk, junk, junk, junk, junk, junk, junk, junk, junk, junk, junk, junk, junk, junk, junk, junk, junk, junk, junk, junk, junk, junk, junk], [], h13⟩
theorem F18_d1 : drawsOk F18_D (codeOf Try.prog 18 [1, 1, 1, 1, 0, 1, 0, 0, 1, 1, 0, 0, 1, 1, 0, 1, 0, 0]) = true := by kernel_rfl
def F18_x1_0 (v4 : Hd) (y5 : (List (List Int)) × Bool) (u6_0 : Hd) (a11 : Int) (u12 : Hd) (h13 : AHeap)  (r : Int) : AS := ⟨[junk, junk, junk, (sv v4), junk, junk, junk, junk, junk, junk, (sv u6_0), junk, (sv u12), junk, .int .i64 r, junk, junk, junk, junk, junk, junk, junk, junk, junk, junk, junk, .int .i64 (y5.1.length : Int), .int .i64 a11, junk, junk, junk, junk, junk, junk, junk, junk, junk, junk, junk, junk, junk, junk, junk, junk, junk, junk, junk, junk, junk, junk, junk, junk, junk, junk, junk, junk, junk, junk, junk, junk, junk, junk, junk, junk, junk, junk], [], h13⟩
def F18_x1 (v4 : Hd) (y5 : (List (List Int)) × Bool) (u6_0 : Hd) (a11 : Int) (u12 : Hd) (h13 : AHeap) (r : Int) : Exit × AS := ((.exit 2), (F18_x1_0 v4 y5 u6_0 a11 u12 h13 r))
set_option maxRecDepth 100000 in
theorem F18_r1 (h : AHeap) (l4 : List Int) (v4 : Hd) (hv4 : SlE E3 1 h (sv v4) l4) (y5 : (List (List Int)) × Bool) (u6_0 : Hd) (u6_0h : List Hd) (a11 : Int) (l12 : List Int) (u12 : Hd) (h13 : AHeap) (hp13 : Heapy h h13 ([⟨u6_0, 27, 1, List.flatMap encH u6_0h⟩, ⟨u12, 3, 1, List.flatMap enc3 l12⟩] ++ NIn 3 1 enc3 u6_0h y5.1)) (a17 : Int) (a18 : Int) (o : (Int × Int) ⊕ Int) : F18_s1 l4 y5 a11 a17 a18 = some o → RdF Try.prog (codeOf Try.prog 18 [1, 1, 1, 1, 0, 1, 0, 0, 1, 1, 0, 0, 1, 1, 0, 1, 0, 0]) (fun (s : Int × Int) => (F18_h1 v4 y5 u6_0 a11 u12 h13 s.1 s.2)) (F18_x1 v4 y5 u6_0 a11 u12 h13) (F18_h1 v4 y5 u6_0 a11 u12 h13 a17 a18) o := by
  unfold F18_s1
  refine dec_bif (fun c19 => ?_) (fun c19 => ?_)
  · refine bind_opt fun y20 e20 => ?_
    obtain ⟨id20, off20, g20, cs20, ix20, _, _⟩ := SlE.at (Heapy.sle (v := u6_0) (xs := u6_0h) (enc := encH) hp13 0 rfl (fun _ => rfl) (by decide)) (Heapy.niat (A := [⟨u6_0, 27, 1, List.flatMap encH u6_0h⟩, ⟨u12, 3, 1, List.flatMap enc3 l12⟩]) (hs := u6_0h) (xss := y5.1) hp13 e20)
    have at21 : At h13 id20 off20 g20 (encH (hnth u6_0h a18)) := (SlE.atp (Heapy.sle (v := u6_0) (xs := u6_0h) (enc := encH) hp13 0 rfl (fun _ => rfl) (by decide)) ix20 (Heapy.niat (A := [⟨u6_0, 27, 1, List.flatMap encH u6_0h⟩, ⟨u12, 3, 1, List.flatMap enc3 l12⟩]) (hs := u6_0h) (xss := y5.1) hp13 e20)).elim fun cs k => by obtain ⟨k1, rfl⟩ := k; exact k1
    refine bind_opt fun y22 e22 => ?_
    obtain ⟨id22, off22, g22, cs22, ix22, at22, rfl⟩ := SlE.at (Heapy.nisle (A := [⟨u6_0, 27, 1, List.flatMap encH u6_0h⟩, ⟨u12, 3, 1, List.flatMap enc3 l12⟩]) (el := 3) (c := 1) (enc := enc3) (hs := u6_0h) (xss := y5.1) hp13 e20 (fun _ => rfl) (by decide)) e22
    refine dec_bif (fun c23 => ?_) (fun c23 => ?_)
    · have at24 : At h13 id20 off20 g20 (encH (hnth u6_0h a18)) := (SlE.atp (Heapy.sle (v := u6_0) (xs := u6_0h) (enc := encH) hp13 0 rfl (fun _ => rfl) (by decide)) ix20 (Heapy.niat (A := [⟨u6_0, 27, 1, List.flatMap encH u6_0h⟩, ⟨u12, 3, 1, List.flatMap enc3 l12⟩]) (hs := u6_0h) (xss := y5.1) hp13 e20)).elim fun cs k => by obtain ⟨k1, rfl⟩ := k; exact k1
      refine bind_opt fun y25 e25 => ?_
      intro hr
      obtain rfl := Option.some.inj hr
      show AWp Try.prog _ (Ends1 .normal (F18_h1 v4 y5 u6_0 a11 u12 h13 (if (IntKind.i64.wrap (y25 + y22)) > a17 then (IntKind.i64.wrap (y25 + y22)) else a17) (IntKind.i64.wrap (a18 + 1)))) _
      exact pEnd_sound good (L := F18_L) (D := F18_D) (its := [.g, (.b true), .g, .g, .g, .g, (.ix id20 off20 g20), (.ld ((sv (hnth u6_0h a18)))), .g, (.ix id22 off22 g22), (.ld (.int .i64 y22)), .g, (.b true), .g, .g, .g, .g, .g, (.ix id20 off20 g20), .g, (.ld ((sv (hnth u6_0h a18)))), (.ix id22 off22 g22), (.ld (.int .i64 y22)), (.c (.int .i64 y25) h13), .g, .g, .g, .g, .g]) (ds := F18_m1_0) (ks := []) (e := .normal) (s2 := (F18_h1 v4 y5 u6_0 a11 u12 h13 (if (IntKind.i64.wrap (y25 + y22)) > a17 then (IntKind.i64.wrap (y25 + y22)) else a17) (IntKind.i64.wrap (a18 + 1)))) (hC := (ai (show AKeep h13 h13 from (AHeap.sub_refl h13)) (ai (F45_spec l4 a18 v4 h13 (SlE.mono hv4 (Heapy.sub hp13) (E3_mono (Heapy.sub hp13))) _ e25) (ai (At.one (P := Try.prog) (t := 3) (v := .int .i64 y22) at22 (by kernel_rfl) 0 rfl rfl) (ai ix22 (ai (At.one (P := Try.prog) (t := 27) (v := (sv (hnth u6_0h a18))) at24 (by kernel_rfl) 0 rfl rfl) (ai ix20 (ai c23 (ai (At.one (P := Try.prog) (t := 3) (v := .int .i64 y22) at22 (by kernel_rfl) 0 rfl rfl) (ai ix22 (ai (At.one (P := Try.prog) (t := 27) (v := (sv (hnth u6_0h a18))) at21 (by kernel_rfl) 0 rfl rfl) (ai ix20 (ai c19 trivial))))))))))))) (hd := F18_d1) (h := by kernel_rfl)
    · intro hr
      obtain rfl := Option.some.inj hr
      show AWp Try.prog _ (Ends1 .normal (F18_h1 v4 y5 u6_0 a11 u12 h13 a17 (IntKind.i64.wrap (a18 + 1)))) _
      exact pEnd_sound good (L := F18_L) (D := F18_D) (its := [.g, (.b true), .g, .g, .g, .g, (.ix id20 off20 g20), (.ld ((sv (hnth u6_0h a18)))), .g, (.ix id22 off22 g22), (.ld (.int .i64 y22)), .g, (.b false), .g, .g]) (ds := F18_m1_0) (ks := []) (e := .normal) (s2 := (F18_h1 v4 y5 u6_0 a11 u12 h13 a17 (IntKind.i64.wrap (a18 + 1)))) (hC := (ai c23 (ai (At.one (P := Try.prog) (t := 3) (v := .int .i64 y22) at22 (by kernel_rfl) 0 rfl rfl) (ai ix22 (ai (At.one (P := Try.prog) (t := 27) (v := (sv (hnth u6_0h a18))) at21 (by kernel_rfl) 0 rfl rfl) (ai ix20 (ai c19 trivial))))))) (hd := F18_d1) (h := by kernel_rfl)
  · intro hr
    obtain rfl := Option.some.inj hr
    show AWp Try.prog _ (Ends1 ((F18_x1 v4 y5 u6_0 a11 u12 h13) (a17 : Int)).1 ((F18_x1 v4 y5 u6_0 a11 u12 h13) (a17 : Int)).2) _
    exact pEnd_sound good (L := F18_L) (D := F18_D) (its := [.g, (.b false)]) (ds := F18_m1_1) (ks := []) (e := ((F18_x1 v4 y5 u6_0 a11 u12 h13) (a17 : Int)).1) (s2 := ((F18_x1 v4 y5 u6_0 a11 u12 h13) (a17 : Int)).2) (hC := (ai c19 trivial)) (hd := F18_d1) (h := by kernel_rfl)
theorem F18_l1_0 (h : AHeap) (l4 : List Int) (v4 : Hd) (hv4 : SlE E3 1 h (sv v4) l4) (y5 : (List (List Int)) × Bool) (u6_0 : Hd) (u6_0h : List Hd) (a11 : Int) (l12 : List Int) (u12 : Hd) (h13 : AHeap) (hp13 : Heapy h h13 ([⟨u6_0, 27, 1, List.flatMap encH u6_0h⟩, ⟨u12, 3, 1, List.flatMap enc3 l12⟩] ++ NIn 3 1 enc3 u6_0h y5.1)) (x : Int × Int) (r : Int) (hl : loopO (fun (s : Int × Int) => F18_s1 l4 y5 a11 s.1 s.2) x = some r) : AWp Try.prog (.loop (codeOf Try.prog 18 [1, 1, 1, 1, 0, 1, 0, 0, 1, 1, 0, 0, 1, 1, 0, 1, 0, 0])) (Ends1 (.exit 2) (F18_x1_0 v4 y5 u6_0 a11 u12 h13 r)) ((fun (s : Int × Int) => (F18_h1 v4 y5 u6_0 a11 u12 h13 s.1 s.2)) x) := by
  have k := loop_fun (P := Try.prog) (c := (codeOf Try.prog 18 [1, 1, 1, 1, 0, 1, 0, 0, 1, 1, 0, 0, 1, 1, 0, 1, 0, 0])) (step := (fun (s : Int × Int) => F18_s1 l4 y5 a11 s.1 s.2)) (hd := (fun (s : Int × Int) => (F18_h1 v4 y5 u6_0 a11 u12 h13 s.1 s.2))) (X := (F18_x1 v4 y5 u6_0 a11 u12 h13)) (by intro t; unfold F18_x1; intro h; cases h) (fun x => F18_r1 h l4 v4 hv4 y5 u6_0 u6_0h a11 l12 u12 h13 hp13 x.1 x.2) hl
  exact k
def F18_m2_1 : List Bool := [true, true, true, true, true, true, true, true, true, true, true, true, false, true, true, true, true, true, true, true, true, true, true, true, true, true, true, true, true, true, true, true, true, true, true, true, true, true, true, true, true, true, true, true, true, true, true, true, true, true, true, true, true, true, true, true, true, true, true, true, true, true, true, true, true, true]
def F18_m2_0 : List Bool := [true, true, true, false, true, true, true, true, true, true, false, true, false, true, true, true, true, true, true, true, true, true, true, true, true, true, false, false, true, true, true, true, true, true, true, true, true, true, true, true, true, true, true, true, true, true, true, true, true, true, true, true, true, true, true, true, true, true, true, true, true, true, true, true, true, true]
def F18_s2 (l4 : List Int) (y5 : (List (List Int)) × Bool) (a11 : Int) (l12 : List Int) : Option ((Int × (List Int)) ⊕ (List Int)) :=
  (bif decide (a11 < (y5.1.length : Int)) then
   (Option.bind (F45 l4 a11) fun y15 =>
   (Option.bind (loopO (fun (s : Int × Int) => F18_s1 l4 y5 a11 s.1 s.2) (y15, 0)) fun y27 =>
   (bif (!(okApp (l12.length + ([y27] : List Int).length) 8)) then none else
   some (.inl ((IntKind.i64.wrap (a11 + 1)), (l12 ++ ([y27] : List Int)))))))
  else
   some (.inr l12))
def F18_h2 (v4 : Hd) (y5 : (List (List Int)) × Bool) (u6_0 : Hd) (h13 : AHeap) (u12 : Hd) (a11 : Int) (l12 : List Int) : AS := ⟨[junk, junk, junk, (sv v4), junk, junk, junk, junk, junk, junk, (sv u6_0), junk, (sv u12), junk, junk, junk, junk, junk, junk, junk, junk, junk, junk, junk, junk, junk, .int .i64 (y5.1.length : Int), .int .i64 a11, junk, junk, junk, junk, junk, junk, junk, junk, junk, junk, junk, junk, junk, junk, junk, junk, junk, junk, junk, junk, junk, junk, junk, junk, junk, junk, junk, junk, junk, junk, junk, junk, junk, junk, junk, junk, junk, junk], [], h13⟩
theorem F18_d2 : drawsOk F18_D (codeOf Try.prog 18 [1, 1, 1, 1, 0, 1, 0, 0]) = true := by kernel_rfl
def F18_x2_0 (h : AHeap) (hx : AHeap) (w0 : Hd) (r : (List Int)) : AS := ⟨[junk, junk, junk, junk, junk, junk, junk, junk, junk, junk, junk, junk, (sv w0), junk, junk, junk, junk, junk, junk, junk, junk, junk, junk, junk, junk, junk, junk, junk, junk, junk, junk, junk, junk, junk, junk, junk, junk, junk, junk, junk, junk, junk, junk, junk, junk, junk, junk, junk, junk, junk, junk, junk, junk, junk, junk, junk, junk, junk, junk, junk, junk, junk, junk, junk, junk, junk], [], hx⟩
def F18_i2 (h : AHeap) (v4 : Hd) (y5 : (List (List Int)) × Bool) (u6_0 : Hd) (u6_0h : List Hd) (s : Int × (List Int)) (S : AS) : Prop := ∃ (h13 : AHeap) (u12 : Hd), Heapy h h13 ([⟨u6_0, 27, 1, List.flatMap encH u6_0h⟩, ⟨u12, 3, 1, List.flatMap enc3 s.2⟩] ++ NIn 3 1 enc3 u6_0h y5.1) ∧ Strict u12 ∧ S = (F18_h2 v4 y5 u6_0 h13 u12 s.1 s.2)
def F18_x2 (h : AHeap) (r : (List Int)) (e : Exit) (S : AS) : Prop := e = (.exit 0) ∧ ∃ (hx : AHeap) (w0 : Hd), Heapy h hx [⟨w0, 3, 1, List.flatMap enc3 r⟩] ∧ Strict w0 ∧ S = (F18_x2_0 h hx w0 r)
set_option maxRecDepth 100000 in
theorem F18_r2 (h : AHeap) (l4 : List Int) (v4 : Hd) (hv4 : SlE E3 1 h (sv v4) l4) (y5 : (List (List Int)) × Bool) (u6_0 : Hd) (u6_0h : List Hd) (a11 : Int) (l12 : List Int) (S : AS) (hI : (F18_i2 h v4 y5 u6_0 u6_0h) (a11, l12) S) (o : (Int × (List Int)) ⊕ (List Int)) : F18_s2 l4 y5 a11 l12 = some o → Rd Try.prog (codeOf Try.prog 18 [1, 1, 1, 1, 0, 1, 0, 0]) (F18_i2 h v4 y5 u6_0 u6_0h) (F18_x2 h) S o := by
  obtain ⟨h13, u12, hp13, z12, rfl⟩ := hI
  unfold F18_s2
  refine dec_bif (fun c14 => ?_) (fun c14 => ?_)
  · refine bind_opt fun y15 e15 => ?_
    refine bind_opt fun y27 e27 => ?_
    obtain ⟨v28, h28, m28, hp28, _⟩ := Heapy.build (P := Try.prog) hp13 (t := 27) (e := 3) (len := 1) (n := 1) (parts := [(0, .int .i64 y27)]) (cells := List.flatMap enc3 ([y27] : List Int)) (by kernel_rfl) rfl
    refine guard_ok fun g30 => ?_
    obtain ⟨v31, h31, m31, q31, _, w31⟩ := Heapy.append hp28 (show mkInfo Try.prog 27 = some (3, 1, 8, [.int .i64 0]) by kernel_rfl) 2 (v := u12) (cells := List.flatMap enc3 l12) rfl (Y := (sv v28)) (SlE.src (enc := enc3) (c := 1) (Heapy.sle (v := v28) (xs := ([y27] : List Int)) (enc := enc3) hp28 0 rfl (fun _ => rfl) (by decide)) (fun _ => rfl)) (flatMap_length (enc := enc3) (c := 1) (fun _ => rfl) _) (by rw [Heapy.vn (v := u12) (xs := l12) (enc := enc3) hp28 2 rfl (fun _ => rfl) (by decide)]; simpa using g30)
    have z31 : Strict v31 := w31 z12
    have hp31 : Heapy h h31 ([⟨v28, 3, 1, List.flatMap enc3 ([y27] : List Int)⟩, ⟨u6_0, 27, 1, List.flatMap encH u6_0h⟩, ⟨v31, 3, 1, List.flatMap enc3 (l12 ++ ([y27] : List Int))⟩] ++ NIn 3 1 enc3 u6_0h y5.1) := by rw [← List.flatMap_append] at q31; exact q31
    intro hr
    obtain rfl := Option.some.inj hr
    exact ⟨(F18_h2 v4 y5 u6_0 h31 v31 (IntKind.i64.wrap (a11 + 1)) (l12 ++ ([y27] : List Int))), ⟨h31, v31, (Heapy.pickN2 (A := [⟨v28, 3, 1, List.flatMap enc3 ([y27] : List Int)⟩, ⟨u6_0, 27, 1, List.flatMap encH u6_0h⟩, ⟨v31, 3, 1, List.flatMap enc3 (l12 ++ ([y27] : List Int))⟩]) (N := NIn 3 1 enc3 u6_0h y5.1) hp31 3 rfl [1, 2] (by decide) rfl), z31, rfl⟩, pEnd_sound good (L := F18_L) (D := F18_D) (its := [.g, (.b true), .g, .g, .g, .g, (.c (.int .i64 y15) h13), .g, .g, (.ln y5.1.length), .g, (.l F18_m1_0 [] (.exit 2) (F18_x1_0 v4 y5 u6_0 a11 u12 h13 y27)), .g, .g, (.mm (sv v28) h28), (.mm (sv v31) h31), .g, .g, .g]) (ds := F18_m2_0) (ks := []) (e := .normal) (s2 := (F18_h2 v4 y5 u6_0 h31 v31 (IntKind.i64.wrap (a11 + 1)) (l12 ++ ([y27] : List Int)))) (hC := (ai m31 (ai m28 (ai (F18_l1_0 h l4 v4 hv4 y5 u6_0 u6_0h a11 l12 u12 h13 hp13 (y15, 0) y27 e27) (ai (Heapy.nivn (A := [⟨u6_0, 27, 1, List.flatMap encH u6_0h⟩, ⟨u12, 3, 1, List.flatMap enc3 l12⟩]) (hs := u6_0h) (xss := y5.1) (eo := 27) hp13 0 rfl) (ai (F45_spec l4 a11 v4 h13 (SlE.mono hv4 (Heapy.sub hp13) (E3_mono (Heapy.sub hp13))) _ e15) (ai c14 trivial))))))) (hd := F18_d2) (h := by kernel_rfl)⟩
  · intro hr
    obtain rfl := Option.some.inj hr
    refine ⟨(.exit 0), (F18_x2_0 h h13 u12 (l12 : (List Int))), (by intro hh; cases hh), ?_, pEnd_sound good (L := F18_L) (D := F18_D) (its := [.g, (.b false)]) (ds := F18_m2_1) (ks := []) (e := (.exit 0)) (s2 := (F18_x2_0 h h13 u12 (l12 : (List Int)))) (hC := (ai c14 trivial)) (hd := F18_d2) (h := by kernel_rfl)⟩
    exact ⟨rfl, h13, u12, (Heapy.pick (Heapy.head (A := [⟨u6_0, 27, 1, List.flatMap encH u6_0h⟩, ⟨u12, 3, 1, List.flatMap enc3 l12⟩]) (N := NIn 3 1 enc3 u6_0h y5.1) hp13) [1] (by decide)), z12, rfl⟩
theorem F18_l2 (h : AHeap) (l4 : List Int) (v4 : Hd) (hv4 : SlE E3 1 h (sv v4) l4) (y5 : (List (List Int)) × Bool) (u6_0 : Hd) (u6_0h : List Hd) (x : Int × (List Int)) (r : (List Int)) (hl : loopO (fun (s : Int × (List Int)) => F18_s2 l4 y5 s.1 s.2) x = some r) (S : AS) (hI : (F18_i2 h v4 y5 u6_0 u6_0h) x S) : ∃ e S', (F18_x2 h) r e S' ∧ AWp Try.prog (.loop (codeOf Try.prog 18 [1, 1, 1, 1, 0, 1, 0, 0])) (Ends1 e S') S :=
  loop_rel (fun x S hI => F18_r2 h l4 v4 hv4 y5 u6_0 u6_0h x.1 x.2 S hI) hl hI
def F18 (x1 : Int) (l2 : List (Int × Int × Int × Int)) (x3 : Int) (l4 : List Int) : Option ((List Int) × Bool) :=
  (Option.bind (F44 x1 l2 x3) fun y5 =>
  (bif (!y5.2) then
   some ([], false)
  else
   (Option.bind (loopO (fun (s : Int × (List Int)) => F18_s2 l4 y5 s.1 s.2) (0, ([] : List Int))) fun y33 =>
   some (y33, true))))
set_option maxRecDepth 100000 in
theorem F18_spec (x1 : Int) (l2 : List (Int × Int × Int × Int)) (x3 : Int) (l4 : List Int) (v2 : Hd) (v4 : Hd) (h : AHeap) (hw : h.wf) (hv2 : SlE E81 4 h (sv v2) l2) (hv4 : SlE E3 1 h (sv v4) l4) (r : (List Int) × Bool) : F18 x1 l2 x3 l4 = some r → ∃ (ur0 : Hd) (h' : AHeap), Heapy h h' [⟨ur0, 3, 1, List.flatMap enc3 r.1⟩] ∧ Strict ur0 ∧ ACalls Try.prog 18 [.int .i64 x1, (sv v2), .int .i64 x3, (sv v4)] h (fun v' h'' => v' = (.tuple #[(sv ur0), .bool r.2] : Value) ∧ h'' = h') := by
  unfold F18
  refine bind_opt fun y5 e5 => ?_
  obtain ⟨u6_0, u6_0h, h6, q6, c6⟩ := F44_spec x1 l2 x3 v2 h hw hv2 _ e5
  have hp6 : Heapy h h6 ([⟨u6_0, 27, 1, List.flatMap encH u6_0h⟩] ++ NIn 3 1 enc3 u6_0h y5.1) := Heapy.callN (Heapy.refl hw) q6
  refine dec_bif (fun c8 => ?_) (fun c8 => ?_)
  · intro hr
    obtain rfl := Option.some.inj hr
    exact ⟨⟨none, 0, 0⟩, h6, Heapy.pick (Heapy.nil (Heapy.head (A := [⟨u6_0, 27, 1, List.flatMap encH u6_0h⟩]) (N := NIn 3 1 enc3 u6_0h y5.1) hp6) 3 1) [0] (by decide), Strict.nil, pFun_sound good tab_ok (f := 18) (its := [.g, .g, .g, .g, .g, (.c (.tuple #[(sv u6_0), .bool y5.2]) h6), .g, .g, .g, .g, .g, .g, .g, (.b true), .g, .g]) (args := [.int .i64 x1, (sv v2), .int .i64 x3, (sv v4)]) (h := h) (h' := h6) (v := .tuple #[.slice none 0 0, .bool false]) (hC := (ai c8 (ai c6 trivial))) (hr := by kernel_rfl)⟩
  · refine bind_opt fun y33 e33 => ?_
    have hp9 : Heapy h h6 ([⟨⟨none, 0, 0⟩, 3, 1, List.flatMap enc3 ([] : List Int)⟩, ⟨u6_0, 27, 1, List.flatMap encH u6_0h⟩] ++ NIn 3 1 enc3 u6_0h y5.1) := Heapy.nil hp6 3 1
    obtain ⟨ee33, SS33, hX33, hA33⟩ := F18_l2 h l4 v4 hv4 y5 u6_0 u6_0h (0, ([] : List Int)) y33 e33 (F18_h2 v4 y5 u6_0 h6 ⟨none, 0, 0⟩ 0 ([] : List Int)) ⟨h6, ⟨none, 0, 0⟩, (Heapy.pickN2 (A := [⟨⟨none, 0, 0⟩, 3, 1, List.flatMap enc3 ([] : List Int)⟩, ⟨u6_0, 27, 1, List.flatMap encH u6_0h⟩]) (N := NIn 3 1 enc3 u6_0h y5.1) hp9 2 rfl [1, 0] (by decide) rfl), Strict.nil, rfl⟩
    obtain ⟨rfl, h34, w0_34, hp34, zw0_34, rfl⟩ := hX33
    intro hr
    obtain rfl := Option.some.inj hr
    exact ⟨w0_34, h34, Heapy.pick hp34 [0] (by decide), zw0_34, pFun_sound good tab_ok (f := 18) (its := [.g, .g, .g, .g, .g, (.c (.tuple #[(sv u6_0), .bool y5.2]) h6), .g, .g, .g, .g, .g, .g, .g, (.b false), .g, .g, (.ln y5.1.length), .g, (.l F18_m2_0 [] (.exit 0) (F18_x2_0 h h34 w0_34 y33)), .g, .g, .g]) (args := [.int .i64 x1, (sv v2), .int .i64 x3, (sv v4)]) (h := h) (h' := h34) (v := .tuple #[(sv w0_34), .bool true]) (hC := (ai hA33 (ai (Heapy.nivn (A := [⟨u6_0, 27, 1, List.flatMap encH u6_0h⟩]) (hs := u6_0h) (xss := y5.1) (eo := 27) hp6 0 rfl) (ai c8 (ai c6 trivial))))) (hr := by kernel_rfl)⟩
end
end Go.Proofs.Ytmncgnjginibiaa.Abs
