/-
  Contracts, written by program: for each function what its call yields, and that it yields it.
-/
import Derived.Test.YtimeninncpmaeaaBft
namespace Go.Proofs.Ytimeninncpmaeaa.Abs
open Go
set_option linter.unusedVariables false
set_option linter.unusedSimpArgs false

noncomputable section
def enc57 (x : Int × Int × Int × Int) : List Value := [.int .i64 x.1, .int .i64 x.2.1, .int .i64 x.2.2.1, .int .i64 x.2.2.2]
def E57 (h : AHeap) (cs : List Value) (x : Int × Int × Int × Int) : Prop := cs = enc57 x
theorem E57_mono {h h' : AHeap} (le : h.sub h') (cs : List Value) (x : Int × Int × Int × Int) (H : E57 h cs x) : E57 h' cs x := H
def W57 (x : Int × Int × Int × Int) : Prop := (Lit.int .i64 x.1).wf = true ∧ (Lit.int .i64 x.2.1).wf = true ∧ (Lit.int .i64 x.2.2.1).wf = true ∧ (Lit.int .i64 x.2.2.2).wf = true ∧ True
set_option maxRecDepth 100000 in
theorem E57_wt {h : AHeap} {n : Nat} {cs : List Value} (H : WT Try.prog h n 57 cs) : ∃ x, E57 h cs x ∧ W57 x := by
  have k : SQ Try.prog h [.int .i64, .int .i64, .int .i64, .int .i64] cs := wt_flatS 2 n (by kernel_rfl) H
  obtain ⟨x0, r0, rfl, w0, k0⟩ := sq_int k
  obtain ⟨x1, r1, rfl, w1, k1⟩ := sq_int k0
  obtain ⟨x2, r2, rfl, w2, k2⟩ := sq_int k1
  obtain ⟨x3, r3, rfl, w3, k3⟩ := sq_int k2
  obtain rfl := sq_nil k3
  exact ⟨(x0, x1, x2, x3), rfl, ⟨w0, w1, w2, w3, trivial⟩⟩
def enc61 (x : Int × Int) : List Value := [.int .i64 x.1, .int .i64 x.2]
def E61 (h : AHeap) (cs : List Value) (x : Int × Int) : Prop := cs = enc61 x
theorem E61_mono {h h' : AHeap} (le : h.sub h') (cs : List Value) (x : Int × Int) (H : E61 h cs x) : E61 h' cs x := H
def W61 (x : Int × Int) : Prop := (Lit.int .i64 x.1).wf = true ∧ (Lit.int .i64 x.2).wf = true ∧ True
set_option maxRecDepth 100000 in
theorem E61_wt {h : AHeap} {n : Nat} {cs : List Value} (H : WT Try.prog h n 61 cs) : ∃ x, E61 h cs x ∧ W61 x := by
  have k : SQ Try.prog h [.int .i64, .int .i64] cs := wt_flatS 2 n (by kernel_rfl) H
  obtain ⟨x0, r0, rfl, w0, k0⟩ := sq_int k
  obtain ⟨x1, r1, rfl, w1, k1⟩ := sq_int k0
  obtain rfl := sq_nil k1
  exact ⟨(x0, x1), rfl, ⟨w0, w1, trivial⟩⟩
/-! 31 jacquard/jacquardlaw31.pair -/
def F31  : Int × Int × Bool × (List (Int × Int × Int × Int)) × (List (Int × Int)) :=
  (2, 0, true, ([(2, 0, 0, 0), (2, 1, 0, 0), (2, 3, 0, 0), (0, 3, 1, 0), (1, 3, 1, 0), (0, 1, 2, 0), (1, 0, 1, 1)] : List (Int × Int × Int × Int)), ([((-1), 0), ((-1), 0)] : List (Int × Int)))
set_option maxRecDepth 100000 in
theorem F31_spec  (h : AHeap) (hw : h.wf)  (r : Int × Int × Bool × (List (Int × Int × Int × Int)) × (List (Int × Int))) : F31 = r → ∃ (ur0 : Hd) (ur1 : Hd) (h' : AHeap), Heapy h h' [⟨ur0, 57, 4, List.flatMap enc57 r.2.2.2.1⟩, ⟨ur1, 61, 2, List.flatMap enc61 r.2.2.2.2⟩] ∧ ACalls Try.prog 31 [] h (fun v' h'' => v' = (.agg #[.int .i64 r.1, .int .i64 r.2.1, .bool r.2.2.1, (sv ur0), .slice none 0 0, (sv ur1)] : Value) ∧ h'' = h') := by
  unfold F31
  obtain ⟨v1, h1, m1, hp1, _⟩ := Heapy.build (P := Try.prog) (Heapy.refl hw) (t := 22) (e := 57) (len := 7) (n := 4) (parts := [(0, .agg #[.int .i64 2, .int .i64 0, .int .i64 0, .int .i64 0]), (1, .agg #[.int .i64 2, .int .i64 1, .int .i64 0, .int .i64 0]), (2, .agg #[.int .i64 2, .int .i64 3, .int .i64 0, .int .i64 0]), (3, .agg #[.int .i64 0, .int .i64 3, .int .i64 1, .int .i64 0]), (4, .agg #[.int .i64 1, .int .i64 3, .int .i64 1, .int .i64 0]), (5, .agg #[.int .i64 0, .int .i64 1, .int .i64 2, .int .i64 0]), (6, .agg #[.int .i64 1, .int .i64 0, .int .i64 1, .int .i64 1])]) (cells := List.flatMap enc57 ([(2, 0, 0, 0), (2, 1, 0, 0), (2, 3, 0, 0), (0, 3, 1, 0), (1, 3, 1, 0), (0, 1, 2, 0), (1, 0, 1, 1)] : List (Int × Int × Int × Int))) (by kernel_rfl) rfl
  obtain ⟨v3, h3, m3, hp3, _⟩ := Heapy.build (P := Try.prog) hp1 (t := 24) (e := 61) (len := 2) (n := 2) (parts := [(0, .agg #[.int .i64 (-1), .int .i64 0]), (1, .agg #[.int .i64 (-1), .int .i64 0])]) (cells := List.flatMap enc61 ([((-1), 0), ((-1), 0)] : List (Int × Int))) (by kernel_rfl) rfl
  intro hr
  subst hr
  exact ⟨v1, v3, h3, Heapy.pick hp3 [1, 0] (by decide), pFun_sound good tab_ok (f := 31) (its := [.g, .g, .g, .g, .g, .g, .g, .g, (.mm (sv v1) h1), .g, .g, (.mm (sv v3) h3), .g, .g]) (args := []) (h := h) (h' := h3) (v := .agg #[.int .i64 2, .int .i64 0, .bool true, (sv v1), .slice none 0 0, (sv v3)]) (hC := (ai m3 (ai m1 trivial))) (hr := by kernel_rfl)⟩
def enc59 (x : Int × Int × Int × Int) : List Value := [.int .i64 x.1, .int .i64 x.2.1, .int .i64 x.2.2.1, .int .i64 x.2.2.2]
def E59 (h : AHeap) (cs : List Value) (x : Int × Int × Int × Int) : Prop := cs = enc59 x
theorem E59_mono {h h' : AHeap} (le : h.sub h') (cs : List Value) (x : Int × Int × Int × Int) (H : E59 h cs x) : E59 h' cs x := H
def W59 (x : Int × Int × Int × Int) : Prop := (Lit.int .i64 x.1).wf = true ∧ (Lit.int .i64 x.2.1).wf = true ∧ (Lit.int .i64 x.2.2.1).wf = true ∧ (Lit.int .i64 x.2.2.2).wf = true ∧ True
set_option maxRecDepth 100000 in
theorem E59_wt {h : AHeap} {n : Nat} {cs : List Value} (H : WT Try.prog h n 59 cs) : ∃ x, E59 h cs x ∧ W59 x := by
  have k : SQ Try.prog h [.int .i64, .int .i64, .int .i64, .int .i64] cs := wt_flatS 2 n (by kernel_rfl) H
  obtain ⟨x0, r0, rfl, w0, k0⟩ := sq_int k
  obtain ⟨x1, r1, rfl, w1, k1⟩ := sq_int k0
  obtain ⟨x2, r2, rfl, w2, k2⟩ := sq_int k1
  obtain ⟨x3, r3, rfl, w3, k3⟩ := sq_int k2
  obtain rfl := sq_nil k3
  exact ⟨(x0, x1, x2, x3), rfl, ⟨w0, w1, w2, w3, trivial⟩⟩
/-! 42 jacquard/dataflow.Nodes -/
def F42 (x1 : Int) (x2 : Int) (x3 : Bool) (l4 : List (Int × Int × Int × Int)) (l5 : List (Int × Int × Int × Int)) (l6 : List (Int × Int)) : Int :=
  (IntKind.i64.wrap ((IntKind.i64.wrap (x1 + x2)) + 2))
set_option maxRecDepth 100000 in
theorem F42_spec (x1 : Int) (x2 : Int) (x3 : Bool) (l4 : List (Int × Int × Int × Int)) (l5 : List (Int × Int × Int × Int)) (l6 : List (Int × Int)) (v4 : Hd) (v5 : Hd) (v6 : Hd) (h : AHeap) (hv4 : SlE E57 4 h (sv v4) l4) (hv5 : SlE E59 4 h (sv v5) l5) (hv6 : SlE E61 2 h (sv v6) l6) (r : Int) : F42 x1 x2 x3 l4 l5 l6 = r → ACalls Try.prog 42 [.agg #[.int .i64 x1, .int .i64 x2, .bool x3, (sv v4), (sv v5), (sv v6)]] h (fun v' h'' => v' = (.int .i64 r : Value) ∧ h'' = h) := by
  unfold F42
  intro hr
  subst hr
  exact pFun_sound good tab_ok (f := 42) (its := [.g, .g, .g, .g, .g, .g, .g, .g, .g]) (args := [.agg #[.int .i64 x1, .int .i64 x2, .bool x3, (sv v4), (sv v5), (sv v6)]]) (h := h) (h' := h) (v := .int .i64 (IntKind.i64.wrap ((IntKind.i64.wrap (x1 + x2)) + 2))) (hC := trivial) (hr := by kernel_rfl)
/-! 48 jacquard/dataflow.End -/
def F48 (x1 : Int) (x2 : Int) (x3 : Bool) (l4 : List (Int × Int × Int × Int)) (l5 : List (Int × Int × Int × Int)) (l6 : List (Int × Int)) : Int :=
  (IntKind.i64.wrap ((IntKind.i64.wrap (x1 + x2)) + 1))
set_option maxRecDepth 100000 in
theorem F48_spec (x1 : Int) (x2 : Int) (x3 : Bool) (l4 : List (Int × Int × Int × Int)) (l5 : List (Int × Int × Int × Int)) (l6 : List (Int × Int)) (v4 : Hd) (v5 : Hd) (v6 : Hd) (h : AHeap) (hv4 : SlE E57 4 h (sv v4) l4) (hv5 : SlE E59 4 h (sv v5) l5) (hv6 : SlE E61 2 h (sv v6) l6) (r : Int) : F48 x1 x2 x3 l4 l5 l6 = r → ACalls Try.prog 48 [.agg #[.int .i64 x1, .int .i64 x2, .bool x3, (sv v4), (sv v5), (sv v6)]] h (fun v' h'' => v' = (.int .i64 r : Value) ∧ h'' = h) := by
  unfold F48
  intro hr
  subst hr
  exact pFun_sound good tab_ok (f := 48) (its := [.g, .g, .g, .g, .g, .g, .g, .g, .g]) (args := [.agg #[.int .i64 x1, .int .i64 x2, .bool x3, (sv v4), (sv v5), (sv v6)]]) (h := h) (h' := h) (v := .int .i64 (IntKind.i64.wrap ((IntKind.i64.wrap (x1 + x2)) + 1))) (hC := trivial) (hr := by kernel_rfl)
/-! 53 jacquard/dataflow.validArc -/
def F53 (x1 : Int) (x2 : Int) (x3 : Bool) (l4 : List (Int × Int × Int × Int)) (l5 : List (Int × Int × Int × Int)) (l6 : List (Int × Int)) (x7 : Int) (x8 : Int) (x9 : Int) (x10 : Int) : Bool :=
  (bif decide (x7 ≥ 0) then
   (bif decide (x7 < (F42 x1 x2 x3 l4 l5 l6)) then
    (bif (x7 != (F48 x1 x2 x3 l4 l5 l6)) then
     (bif decide (x8 ≥ 0) then
      (bif decide (x8 < (F42 x1 x2 x3 l4 l5 l6)) then
       (bif decide (x9 ≥ 0) then
        (bif decide (x9 ≤ 4096) then
         (bif decide (x10 ≥ 0) then
          (bif decide (x10 ≤ 256) then
           (bif (x10 == 0) then
            true
           else
            x3)
          else
           false)
         else
          false)
        else
         false)
       else
        false)
      else
       false)
     else
      false)
    else
     false)
   else
    false)
  else
   false)
set_option maxRecDepth 100000 in
theorem F53_spec (x1 : Int) (x2 : Int) (x3 : Bool) (l4 : List (Int × Int × Int × Int)) (l5 : List (Int × Int × Int × Int)) (l6 : List (Int × Int)) (x7 : Int) (x8 : Int) (x9 : Int) (x10 : Int) (v4 : Hd) (v5 : Hd) (v6 : Hd) (h : AHeap) (hv4 : SlE E57 4 h (sv v4) l4) (hv5 : SlE E59 4 h (sv v5) l5) (hv6 : SlE E61 2 h (sv v6) l6) (r : Bool) : F53 x1 x2 x3 l4 l5 l6 x7 x8 x9 x10 = r → ACalls Try.prog 53 [.agg #[.int .i64 x1, .int .i64 x2, .bool x3, (sv v4), (sv v5), (sv v6)], .agg #[.int .i64 x7, .int .i64 x8, .int .i64 x9, .int .i64 x10]] h (fun v' h'' => v' = (.bool r : Value) ∧ h'' = h) := by
  unfold F53
  have kc12 := (ai (F42_spec x1 x2 x3 l4 l5 l6 v4 v5 v6 h hv4 hv5 hv6 _ rfl) trivial)
  refine dec_bif (fun c12 => ?_) (fun c12 => ?_)
  · have kc13 := (ai c12 (ai (g_tt c12) (ai (g_tt c12) (ai (g_tt c12) (ai (g_tt c12) kc12)))))
    refine dec_bif (fun c13 => ?_) (fun c13 => ?_)
    · have kc15 := (ai c13 (ai (g_tt c13) (ai (show AKeep h h from (AHeap.sub_refl h)) (ai (F48_spec x1 x2 x3 l4 l5 l6 v4 v5 v6 h hv4 hv5 hv6 _ rfl) (ai (g_tt c13) (ai (g_tt c13) (ai (g_tt c13) (ai (g_tt c13) kc13))))))))
      refine dec_bif (fun c15 => ?_) (fun c15 => ?_)
      · have kc16 := (ai c15 (ai (g_tt c15) (ai (g_tt c15) (ai (g_tt c15) kc15))))
        refine dec_bif (fun c16 => ?_) (fun c16 => ?_)
        · have kc17 := (ai c16 (ai (g_tt c16) (ai (g_tt c16) (ai (g_tt c16) (ai (g_tt c16) kc16)))))
          refine dec_bif (fun c17 => ?_) (fun c17 => ?_)
          · have kc18 := (ai c17 (ai (g_tt c17) (ai (g_tt c17) (ai (g_tt c17) kc17))))
            refine dec_bif (fun c18 => ?_) (fun c18 => ?_)
            · have kc19 := (ai c18 (ai (g_tt c18) (ai (g_tt c18) (ai (g_tt c18) kc18))))
              refine dec_bif (fun c19 => ?_) (fun c19 => ?_)
              · have kc20 := (ai c19 (ai (g_tt c19) (ai (g_tt c19) (ai (g_tt c19) kc19))))
                refine dec_bif (fun c20 => ?_) (fun c20 => ?_)
                · have kc21 := (ai c20 (ai (g_tt c20) (ai (g_tt c20) (ai (g_tt c20) kc20))))
                  refine dec_bif (fun c21 => ?_) (fun c21 => ?_)
                  · have kc22 := (ai (g_tt c21) (ai (g_tt c21) (ai (g_tt c21) (ai (g_tt c21) kc21))))
                    refine dec_bif (fun c22 => ?_) (fun c22 => ?_)
                    · intro hr
                      subst hr
                      exact pFun_sound good tab_ok (f := 53) (its := [.g, .g, .g, .g, (.c (.int .i64 (F42 x1 x2 x3 l4 l5 l6)) h), .g, .g, .g, .g, .g, (.w .g), (.w .g), (.w .g), (.w .g), (.p true), .g, (.w .g), (.w .g), (.w .g), (.w (.c (.int .i64 (F48 x1 x2 x3 l4 l5 l6)) h)), (.w .g), (.p true), .g, (.w .g), (.w .g), (.w .g), (.p true), .g, (.w .g), (.w .g), (.w .g), (.w .g), (.p true), .g, (.w .g), (.w .g), (.w .g), (.p true), .g, (.w .g), (.w .g), (.w .g), (.p true), .g, (.w .g), (.w .g), (.w .g), (.p true), .g, (.w .g), (.w .g), (.w .g), (.p true), .g, (.w .g), (.w .g), (.w .g), (.w .g), .n, .n, (.w (.p true)), (.p true), .g]) (args := [.agg #[.int .i64 x1, .int .i64 x2, .bool x3, (sv v4), (sv v5), (sv v6)], .agg #[.int .i64 x7, .int .i64 x8, .int .i64 x9, .int .i64 x10]]) (h := h) (h' := h) (v := .bool true) (hC := (ai c21 (ai c22 (ai (g_tt c21) (ai (g_tf c22) (ai (g_tf c22) kc22)))))) (hr := by kernel_rfl)
                    · intro hr
                      subst hr
                      exact pFun_sound good tab_ok (f := 53) (its := [.g, .g, .g, .g, (.c (.int .i64 (F42 x1 x2 x3 l4 l5 l6)) h), .g, .g, .g, .g, .g, (.w .g), (.w .g), (.w .g), (.w .g), (.p true), .g, (.w .g), (.w .g), (.w .g), (.w (.c (.int .i64 (F48 x1 x2 x3 l4 l5 l6)) h)), (.w .g), (.p true), .g, (.w .g), (.w .g), (.w .g), (.p true), .g, (.w .g), (.w .g), (.w .g), (.w .g), (.p true), .g, (.w .g), (.w .g), (.w .g), (.p true), .g, (.w .g), (.w .g), (.w .g), (.p true), .g, (.w .g), (.w .g), (.w .g), (.p true), .g, (.w .g), (.w .g), (.w .g), (.p true), .g, (.w .g), (.w .g), (.w .g), (.w .g), (.w .g), (.w .g), (.w (.p false)), (.p true), .g]) (args := [.agg #[.int .i64 x1, .int .i64 x2, .bool x3, (sv v4), (sv v5), (sv v6)], .agg #[.int .i64 x7, .int .i64 x8, .int .i64 x9, .int .i64 x10]]) (h := h) (h' := h) (v := .bool x3) (hC := (ai c21 (ai c22 (ai (g_tt c21) (ai (g_ff c22) (ai (g_ff c22) kc22)))))) (hr := by kernel_rfl)
                  · intro hr
                    subst hr
                    exact pFun_sound good tab_ok (f := 53) (its := [.g, .g, .g, .g, (.c (.int .i64 (F42 x1 x2 x3 l4 l5 l6)) h), .g, .g, .g, .g, .g, (.w .g), (.w .g), (.w .g), (.w .g), (.p true), .g, (.w .g), (.w .g), (.w .g), (.w (.c (.int .i64 (F48 x1 x2 x3 l4 l5 l6)) h)), (.w .g), (.p true), .g, (.w .g), (.w .g), (.w .g), (.p true), .g, (.w .g), (.w .g), (.w .g), (.w .g), (.p true), .g, (.w .g), (.w .g), (.w .g), (.p true), .g, (.w .g), (.w .g), (.w .g), (.p true), .g, (.w .g), (.w .g), (.w .g), (.p true), .g, (.w .g), (.w .g), (.w .g), (.p true), .g, .n, .n, .n, .n, .n, .n, .n, (.p false), .g]) (args := [.agg #[.int .i64 x1, .int .i64 x2, .bool x3, (sv v4), (sv v5), (sv v6)], .agg #[.int .i64 x7, .int .i64 x8, .int .i64 x9, .int .i64 x10]]) (h := h) (h' := h) (v := .bool false) (hC := (ai c21 (ai (g_ft c21) (ai l_f (ai l_f (ai (g_ft c21) (ai (g_ft c21) (ai (g_ft c21) (ai (g_ft c21) kc21))))))))) (hr := by kernel_rfl)
                · intro hr
                  subst hr
                  exact pFun_sound good tab_ok (f := 53) (its := [.g, .g, .g, .g, (.c (.int .i64 (F42 x1 x2 x3 l4 l5 l6)) h), .g, .g, .g, .g, .g, (.w .g), (.w .g), (.w .g), (.w .g), (.p true), .g, (.w .g), (.w .g), (.w .g), (.w (.c (.int .i64 (F48 x1 x2 x3 l4 l5 l6)) h)), (.w .g), (.p true), .g, (.w .g), (.w .g), (.w .g), (.p true), .g, (.w .g), (.w .g), (.w .g), (.w .g), (.p true), .g, (.w .g), (.w .g), (.w .g), (.p true), .g, (.w .g), (.w .g), (.w .g), (.p true), .g, (.w .g), (.w .g), (.w .g), (.p true), .g, .n, .n, .n, (.p false), .g, .n, .n, .n, .n, .n, .n, .n, .g, .g]) (args := [.agg #[.int .i64 x1, .int .i64 x2, .bool x3, (sv v4), (sv v5), (sv v6)], .agg #[.int .i64 x7, .int .i64 x8, .int .i64 x9, .int .i64 x10]]) (h := h) (h' := h) (v := .bool false) (hC := (ai (g_ft l_f) (ai l_f (ai l_f (ai (g_ft l_f) (ai (g_ft l_f) (ai (g_ft l_f) (ai (g_ft l_f) (ai c20 (ai (g_ft c20) (ai (g_ft c20) (ai (g_ft c20) kc20)))))))))))) (hr := by kernel_rfl)
              · intro hr
                subst hr
                exact pFun_sound good tab_ok (f := 53) (its := [.g, .g, .g, .g, (.c (.int .i64 (F42 x1 x2 x3 l4 l5 l6)) h), .g, .g, .g, .g, .g, (.w .g), (.w .g), (.w .g), (.w .g), (.p true), .g, (.w .g), (.w .g), (.w .g), (.w (.c (.int .i64 (F48 x1 x2 x3 l4 l5 l6)) h)), (.w .g), (.p true), .g, (.w .g), (.w .g), (.w .g), (.p true), .g, (.w .g), (.w .g), (.w .g), (.w .g), (.p true), .g, (.w .g), (.w .g), (.w .g), (.p true), .g, (.w .g), (.w .g), (.w .g), (.p true), .g, .n, .n, .n, (.p false), .g, .n, .n, .n, .g, .g, .n, .n, .n, .n, .n, .n, .n, .g, .g]) (args := [.agg #[.int .i64 x1, .int .i64 x2, .bool x3, (sv v4), (sv v5), (sv v6)], .agg #[.int .i64 x7, .int .i64 x8, .int .i64 x9, .int .i64 x10]]) (h := h) (h' := h) (v := .bool false) (hC := (ai (g_ft l_f) (ai l_f (ai l_f (ai (g_ft l_f) (ai (g_ft l_f) (ai (g_ft l_f) (ai (g_ft l_f) (ai (g_ft l_f) (ai (g_ft l_f) (ai (g_ft l_f) (ai c19 (ai (g_ft c19) (ai (g_ft c19) (ai (g_ft c19) kc19))))))))))))))) (hr := by kernel_rfl)
            · intro hr
              subst hr
              exact pFun_sound good tab_ok (f := 53) (its := [.g, .g, .g, .g, (.c (.int .i64 (F42 x1 x2 x3 l4 l5 l6)) h), .g, .g, .g, .g, .g, (.w .g), (.w .g), (.w .g), (.w .g), (.p true), .g, (.w .g), (.w .g), (.w .g), (.w (.c (.int .i64 (F48 x1 x2 x3 l4 l5 l6)) h)), (.w .g), (.p true), .g, (.w .g), (.w .g), (.w .g), (.p true), .g, (.w .g), (.w .g), (.w .g), (.w .g), (.p true), .g, (.w .g), (.w .g), (.w .g), (.p true), .g, .n, .n, .n, (.p false), .g, .n, .n, .n, .g, .g, .n, .n, .n, .g, .g, .n, .n, .n, .n, .n, .n, .n, .g, .g]) (args := [.agg #[.int .i64 x1, .int .i64 x2, .bool x3, (sv v4), (sv v5), (sv v6)], .agg #[.int .i64 x7, .int .i64 x8, .int .i64 x9, .int .i64 x10]]) (h := h) (h' := h) (v := .bool false) (hC := (ai (g_ft l_f) (ai l_f (ai l_f (ai (g_ft l_f) (ai (g_ft l_f) (ai (g_ft l_f) (ai (g_ft l_f) (ai (g_ft l_f) (ai (g_ft l_f) (ai (g_ft l_f) (ai (g_ft l_f) (ai (g_ft l_f) (ai (g_ft l_f) (ai c18 (ai (g_ft c18) (ai (g_ft c18) (ai (g_ft c18) kc18)))))))))))))))))) (hr := by kernel_rfl)
          · intro hr
            subst hr
            exact pFun_sound good tab_ok (f := 53) (its := [.g, .g, .g, .g, (.c (.int .i64 (F42 x1 x2 x3 l4 l5 l6)) h), .g, .g, .g, .g, .g, (.w .g), (.w .g), (.w .g), (.w .g), (.p true), .g, (.w .g), (.w .g), (.w .g), (.w (.c (.int .i64 (F48 x1 x2 x3 l4 l5 l6)) h)), (.w .g), (.p true), .g, (.w .g), (.w .g), (.w .g), (.p true), .g, (.w .g), (.w .g), (.w .g), (.w .g), (.p true), .g, .n, .n, .n, (.p false), .g, .n, .n, .n, .g, .g, .n, .n, .n, .g, .g, .n, .n, .n, .g, .g, .n, .n, .n, .n, .n, .n, .n, .g, .g]) (args := [.agg #[.int .i64 x1, .int .i64 x2, .bool x3, (sv v4), (sv v5), (sv v6)], .agg #[.int .i64 x7, .int .i64 x8, .int .i64 x9, .int .i64 x10]]) (h := h) (h' := h) (v := .bool false) (hC := (ai (g_ft l_f) (ai l_f (ai l_f (ai (g_ft l_f) (ai (g_ft l_f) (ai (g_ft l_f) (ai (g_ft l_f) (ai (g_ft l_f) (ai (g_ft l_f) (ai (g_ft l_f) (ai (g_ft l_f) (ai (g_ft l_f) (ai (g_ft l_f) (ai (g_ft l_f) (ai (g_ft l_f) (ai (g_ft l_f) (ai c17 (ai (g_ft c17) (ai (g_ft c17) (ai (g_ft c17) kc17))))))))))))))))))))) (hr := by kernel_rfl)
        · intro hr
          subst hr
          exact pFun_sound good tab_ok (f := 53) (its := [.g, .g, .g, .g, (.c (.int .i64 (F42 x1 x2 x3 l4 l5 l6)) h), .g, .g, .g, .g, .g, (.w .g), (.w .g), (.w .g), (.w .g), (.p true), .g, (.w .g), (.w .g), (.w .g), (.w (.c (.int .i64 (F48 x1 x2 x3 l4 l5 l6)) h)), (.w .g), (.p true), .g, (.w .g), (.w .g), (.w .g), (.p true), .g, .n, .n, .n, .n, (.p false), .g, .n, .n, .n, .g, .g, .n, .n, .n, .g, .g, .n, .n, .n, .g, .g, .n, .n, .n, .g, .g, .n, .n, .n, .n, .n, .n, .n, .g, .g]) (args := [.agg #[.int .i64 x1, .int .i64 x2, .bool x3, (sv v4), (sv v5), (sv v6)], .agg #[.int .i64 x7, .int .i64 x8, .int .i64 x9, .int .i64 x10]]) (h := h) (h' := h) (v := .bool false) (hC := (ai (g_ft l_f) (ai l_f (ai l_f (ai (g_ft l_f) (ai (g_ft l_f) (ai (g_ft l_f) (ai (g_ft l_f) (ai (g_ft l_f) (ai (g_ft l_f) (ai (g_ft l_f) (ai (g_ft l_f) (ai (g_ft l_f) (ai (g_ft l_f) (ai (g_ft l_f) (ai (g_ft l_f) (ai (g_ft l_f) (ai (g_ft l_f) (ai (g_ft l_f) (ai (g_ft l_f) (ai c16 (ai (g_ft c16) (ai (g_ft c16) (ai (g_ft c16) (ai (g_ft c16) kc16))))))))))))))))))))))))) (hr := by kernel_rfl)
      · intro hr
        subst hr
        exact pFun_sound good tab_ok (f := 53) (its := [.g, .g, .g, .g, (.c (.int .i64 (F42 x1 x2 x3 l4 l5 l6)) h), .g, .g, .g, .g, .g, (.w .g), (.w .g), (.w .g), (.w .g), (.p true), .g, (.w .g), (.w .g), (.w .g), (.w (.c (.int .i64 (F48 x1 x2 x3 l4 l5 l6)) h)), (.w .g), (.p true), .g, .n, .n, .n, (.p false), .g, .n, .n, .n, .n, .g, .g, .n, .n, .n, .g, .g, .n, .n, .n, .g, .g, .n, .n, .n, .g, .g, .n, .n, .n, .g, .g, .n, .n, .n, .n, .n, .n, .n, .g, .g]) (args := [.agg #[.int .i64 x1, .int .i64 x2, .bool x3, (sv v4), (sv v5), (sv v6)], .agg #[.int .i64 x7, .int .i64 x8, .int .i64 x9, .int .i64 x10]]) (h := h) (h' := h) (v := .bool false) (hC := (ai (g_ft l_f) (ai l_f (ai l_f (ai (g_ft l_f) (ai (g_ft l_f) (ai (g_ft l_f) (ai (g_ft l_f) (ai (g_ft l_f) (ai (g_ft l_f) (ai (g_ft l_f) (ai (g_ft l_f) (ai (g_ft l_f) (ai (g_ft l_f) (ai (g_ft l_f) (ai (g_ft l_f) (ai (g_ft l_f) (ai (g_ft l_f) (ai (g_ft l_f) (ai (g_ft l_f) (ai (g_ft l_f) (ai (g_ft l_f) (ai (g_ft l_f) (ai (g_ft l_f) (ai c15 (ai (g_ft c15) (ai (g_ft c15) (ai (g_ft c15) kc15)))))))))))))))))))))))))))) (hr := by kernel_rfl)
    · intro hr
      subst hr
      exact pFun_sound good tab_ok (f := 53) (its := [.g, .g, .g, .g, (.c (.int .i64 (F42 x1 x2 x3 l4 l5 l6)) h), .g, .g, .g, .g, .g, (.w .g), (.w .g), (.w .g), (.w .g), (.p true), .g, .n, .n, .n, .n, .n, (.p false), .g, .n, .n, .n, .g, .g, .n, .n, .n, .n, .g, .g, .n, .n, .n, .g, .g, .n, .n, .n, .g, .g, .n, .n, .n, .g, .g, .n, .n, .n, .g, .g, .n, .n, .n, .n, .n, .n, .n, .g, .g]) (args := [.agg #[.int .i64 x1, .int .i64 x2, .bool x3, (sv v4), (sv v5), (sv v6)], .agg #[.int .i64 x7, .int .i64 x8, .int .i64 x9, .int .i64 x10]]) (h := h) (h' := h) (v := .bool false) (hC := (ai (g_ft l_f) (ai l_f (ai l_f (ai (g_ft l_f) (ai (g_ft l_f) (ai (g_ft l_f) (ai (g_ft l_f) (ai (g_ft l_f) (ai (g_ft l_f) (ai (g_ft l_f) (ai (g_ft l_f) (ai (g_ft l_f) (ai (g_ft l_f) (ai (g_ft l_f) (ai (g_ft l_f) (ai (g_ft l_f) (ai (g_ft l_f) (ai (g_ft l_f) (ai (g_ft l_f) (ai (g_ft l_f) (ai (g_ft l_f) (ai (g_ft l_f) (ai (g_ft l_f) (ai (g_ft l_f) (ai (g_ft l_f) (ai (g_ft l_f) (ai c13 (ai (g_ft c13) (ai (g_ft c13) (ai (g_ft c13) (ai (g_ft c13) (ai (g_ft c13) kc13))))))))))))))))))))))))))))))))) (hr := by kernel_rfl)
  · intro hr
    subst hr
    exact pFun_sound good tab_ok (f := 53) (its := [.g, .g, .g, .g, (.c (.int .i64 (F42 x1 x2 x3 l4 l5 l6)) h), .g, .g, .g, .g, .g, .n, .n, .n, .n, (.p false), .g, .n, .n, .n, .n, .n, .g, .g, .n, .n, .n, .g, .g, .n, .n, .n, .n, .g, .g, .n, .n, .n, .g, .g, .n, .n, .n, .g, .g, .n, .n, .n, .g, .g, .n, .n, .n, .g, .g, .n, .n, .n, .n, .n, .n, .n, .g, .g]) (args := [.agg #[.int .i64 x1, .int .i64 x2, .bool x3, (sv v4), (sv v5), (sv v6)], .agg #[.int .i64 x7, .int .i64 x8, .int .i64 x9, .int .i64 x10]]) (h := h) (h' := h) (v := .bool false) (hC := (ai (g_ft l_f) (ai l_f (ai l_f (ai (g_ft l_f) (ai (g_ft l_f) (ai (g_ft l_f) (ai (g_ft l_f) (ai (g_ft l_f) (ai (g_ft l_f) (ai (g_ft l_f) (ai (g_ft l_f) (ai (g_ft l_f) (ai (g_ft l_f) (ai (g_ft l_f) (ai (g_ft l_f) (ai (g_ft l_f) (ai (g_ft l_f) (ai (g_ft l_f) (ai (g_ft l_f) (ai (g_ft l_f) (ai (g_ft l_f) (ai (g_ft l_f) (ai (g_ft l_f) (ai (g_ft l_f) (ai (g_ft l_f) (ai (g_ft l_f) (ai (g_ft l_f) (ai (g_ft l_f) (ai (g_ft l_f) (ai (g_ft l_f) (ai (g_ft l_f) (ai c12 (ai (g_ft c12) (ai (g_ft c12) (ai (g_ft c12) (ai (g_ft c12) kc12))))))))))))))))))))))))))))))))))))) (hr := by kernel_rfl)
/-! 49 jacquard/dataflow.Source -/
def F49 (x1 : Int) (x2 : Int) (x3 : Bool) (l4 : List (Int × Int × Int × Int)) (l5 : List (Int × Int × Int × Int)) (l6 : List (Int × Int)) : Int :=
  (IntKind.i64.wrap (x1 + x2))
set_option maxRecDepth 100000 in
theorem F49_spec (x1 : Int) (x2 : Int) (x3 : Bool) (l4 : List (Int × Int × Int × Int)) (l5 : List (Int × Int × Int × Int)) (l6 : List (Int × Int)) (v4 : Hd) (v5 : Hd) (v6 : Hd) (h : AHeap) (hv4 : SlE E57 4 h (sv v4) l4) (hv5 : SlE E59 4 h (sv v5) l5) (hv6 : SlE E61 2 h (sv v6) l6) (r : Int) : F49 x1 x2 x3 l4 l5 l6 = r → ACalls Try.prog 49 [.agg #[.int .i64 x1, .int .i64 x2, .bool x3, (sv v4), (sv v5), (sv v6)]] h (fun v' h'' => v' = (.int .i64 r : Value) ∧ h'' = h) := by
  unfold F49
  intro hr
  subst hr
  exact pFun_sound good tab_ok (f := 49) (its := [.g, .g, .g, .g, .g, .g, .g, .g]) (args := [.agg #[.int .i64 x1, .int .i64 x2, .bool x3, (sv v4), (sv v5), (sv v6)]]) (h := h) (h' := h) (v := .int .i64 (IntKind.i64.wrap (x1 + x2))) (hC := trivial) (hr := by kernel_rfl)
/-! 54 jacquard/dataflow.validFrame -/
def F54_L : List Nat := [1, 7]
def F54_D : List (Nat × List (Nat × Nat)) := [(10, [(0, 2), (2, 2), (5, 2), (7, 2), (1, 3), (3, 2), (4, 5), (6, 1), (8, 2), (9, 2)]), (17, [(0, 2), (1, 2), (2, 2), (3, 2), (4, 2), (5, 2), (7, 2), (6, 3), (8, 1), (9, 2), (10, 2), (11, 2), (12, 2), (13, 2), (14, 2), (15, 2), (16, 2), (17, 2), (18, 2), (19, 2), (20, 2), (21, 2), (22, 2), (23, 2), (24, 2), (25, 2), (26, 2), (27, 2), (28, 2), (29, 2), (30, 2), (31, 2), (32, 2), (33, 2)])]
def F54__1 (x1 : Int) (x2 : Int) (l4 : List (Int × Int × Int × Int)) : Bool := decide ((l4.length : Int) < (IntKind.i64.wrap ((IntKind.i64.wrap (2 * (IntKind.i64.wrap (x1 + x2)))) + 1)))
def F54__2 (x1 : Int) (x2 : Int) (x3 : Bool) (l4 : List (Int × Int × Int × Int)) (l5 : List (Int × Int × Int × Int)) (l6 : List (Int × Int)) (y12 : Int × Int × Int × Int) : Bool := (!((y12.1 == (F49 x1 x2 x3 l4 l5 l6)) && ((y12.2.1 == (F48 x1 x2 x3 l4 l5 l6)) && ((y12.2.2.1 == 0) && ((y12.2.2.2 == 0) && true)))))
def F54__3 (x1 : Int) (x2 : Int) (x3 : Bool) (l4 : List (Int × Int × Int × Int)) (l5 : List (Int × Int × Int × Int)) (l6 : List (Int × Int)) (a8 : Int) (y15 : Int × Int × Int × Int) : Bool := (!((y15.1 == (F49 x1 x2 x3 l4 l5 l6)) && ((y15.2.1 == a8) && ((y15.2.2.1 == 0) && ((y15.2.2.2 == 0) && true)))))
def F54_m1_2 : List Bool := (true :: false :: true :: false :: (rp 85 true []))
def F54_m1_1 : List Bool := (true :: false :: true :: false :: (rp 17 true (false :: false :: (rp 66 true []))))
def F54_m1_0 : List Bool := (true :: true :: false :: (rp 86 true []))
def F54_s1 (x1 : Int) (x2 : Int) (x3 : Bool) (l4 : List (Int × Int × Int × Int)) (l5 : List (Int × Int × Int × Int)) (l6 : List (Int × Int)) (a8 : Int) : Option (Int ⊕ Nat) :=
  (bif decide (a8 < (IntKind.i64.wrap ((IntKind.i64.wrap (x1 + x2)) + 1))) then
   (bif (a8 == (IntKind.i64.wrap (x1 + x2))) then
    (Option.bind (at? l4 a8) fun y12 =>
    (bif (F54__2 x1 x2 x3 l4 l5 l6 y12) then
     some (.inr 0)
    else
     some (.inl (IntKind.i64.wrap (a8 + 1)))))
   else
    (Option.bind (at? l4 a8) fun y15 =>
    (bif (F54__3 x1 x2 x3 l4 l5 l6 a8 y15) then
     some (.inr 0)
    else
     some (.inl (IntKind.i64.wrap (a8 + 1))))))
  else
   some (.inr 1))
def F54_h1 (h : AHeap) (x1 : Int) (x2 : Int) (x3 : Bool) (v4 : Hd) (v5 : Hd) (v6 : Hd)  (a8 : Int) : AS := ⟨(junk :: (.pointer (some ⟨1, 0, none⟩)) :: junk :: (.int .i64 (IntKind.i64.wrap (x1 + x2))) :: (rp 17 junk ((.int .i64 (IntKind.i64.wrap ((IntKind.i64.wrap (x1 + x2)) + 1))) :: (.int .i64 a8) :: (rp 66 junk [])))), [(1, [.int .i64 x1, .int .i64 x2, .bool x3, (sv v4), (sv v5), (sv v6)])], h⟩
theorem F54_d1 : drawsOk F54_D (codeOf Try.prog 54 [1, 1, 1, 0, 1, 0, 0]) = true := by kernel_rfl
def F54_x1_0 (h : AHeap) (x1 : Int) (x2 : Int) (x3 : Bool) (v4 : Hd) (v5 : Hd) (v6 : Hd)  (r : Nat) : AS := ⟨(junk :: junk :: (.bool false) :: (rp 86 junk [])), [], h⟩
def F54_x1_1 (h : AHeap) (x1 : Int) (x2 : Int) (x3 : Bool) (v4 : Hd) (v5 : Hd) (v6 : Hd)  (r : Nat) : AS := ⟨(junk :: (.pointer (some ⟨1, 0, none⟩)) :: junk :: (.int .i64 (IntKind.i64.wrap (x1 + x2))) :: (rp 85 junk [])), [(1, [.int .i64 x1, .int .i64 x2, .bool x3, (sv v4), (sv v5), (sv v6)])], h⟩
def F54_x1 (h : AHeap) (x1 : Int) (x2 : Int) (x3 : Bool) (v4 : Hd) (v5 : Hd) (v6 : Hd) (r : Nat) : Exit × AS := (bif Nat.beq r 0 then (.ret, (F54_x1_0 h x1 x2 x3 v4 v5 v6 r)) else ((.exit 0), (F54_x1_1 h x1 x2 x3 v4 v5 v6 r)))
set_option maxRecDepth 100000 in
theorem F54_r1 (h : AHeap) (x1 : Int) (x2 : Int) (x3 : Bool) (l4 : List (Int × Int × Int × Int)) (v4 : Hd) (hv4 : SlE E57 4 h (sv v4) l4) (l5 : List (Int × Int × Int × Int)) (v5 : Hd) (hv5 : SlE E59 4 h (sv v5) l5) (l6 : List (Int × Int)) (v6 : Hd) (hv6 : SlE E61 2 h (sv v6) l6) (a8 : Int) (o : Int ⊕ Nat) : F54_s1 x1 x2 x3 l4 l5 l6 a8 = some o → RdF Try.prog (codeOf Try.prog 54 [1, 1, 1, 0, 1, 0, 0]) (fun (s : Int) => (F54_h1 h x1 x2 x3 v4 v5 v6 s)) (F54_x1 h x1 x2 x3 v4 v5 v6) (F54_h1 h x1 x2 x3 v4 v5 v6 a8) o := by
  unfold F54_s1
  refine dec_bif (fun c9 => ?_) (fun c9 => ?_)
  · have kc10 := (ai c9 trivial)
    refine dec_bif (fun c10 => ?_) (fun c10 => ?_)
    · refine bind_opt fun y12 e12 => ?_
      obtain ⟨id12, off12, g12, cs12, ix12, at12, rfl⟩ := SlE.at hv4 e12
      have kc14 := (ai (show aggEq Try.prog 57 #[.int .i64 y12.1, .int .i64 y12.2.1, .int .i64 y12.2.2.1, .int .i64 y12.2.2.2] #[.int .i64 (F49 x1 x2 x3 l4 l5 l6), .int .i64 (F48 x1 x2 x3 l4 l5 l6), .int .i64 0, .int .i64 0] = some ((y12.1 == (F49 x1 x2 x3 l4 l5 l6)) && ((y12.2.1 == (F48 x1 x2 x3 l4 l5 l6)) && ((y12.2.2.1 == 0) && ((y12.2.2.2 == 0) && true)))) by kernel_rfl) (ai (show AKeep h h from (AHeap.sub_refl h)) (ai (F49_spec x1 x2 x3 l4 l5 l6 v4 v5 v6 h hv4 hv5 hv6 _ rfl) (ai (At.agg (P := Try.prog) (t := 57) (v := .agg #[.int .i64 y12.1, .int .i64 y12.2.1, .int .i64 y12.2.2.1, .int .i64 y12.2.2.2]) (m := 4) at12 (by kernel_rfl) (by kernel_rfl) 0 (by kernel_rfl) rfl) (ai ix12 (ai (F48_spec x1 x2 x3 l4 l5 l6 v4 v5 v6 h hv4 hv5 hv6 _ rfl) (ai c10 kc10)))))))
      refine dec_bif (fun c14 => ?_) (fun c14 => ?_)
      · intro hr
        obtain rfl := Option.some.inj hr
        show AWp Try.prog _ (Ends1 ((F54_x1 h x1 x2 x3 v4 v5 v6) (0 : Nat)).1 ((F54_x1 h x1 x2 x3 v4 v5 v6) (0 : Nat)).2) _
        exact pEnd_sound good (L := F54_L) (D := F54_D) (its := [.g, (.b true), .g, .g, .g, .g, .g, .g, .g, (.b true), .g, (.c (.int .i64 (F48 x1 x2 x3 l4 l5 l6)) h), .g, .g, .g, .g, .g, .g, (.ix id12 off12 g12), (.ld (.agg #[.int .i64 y12.1, .int .i64 y12.2.1, .int .i64 y12.2.2.1, .int .i64 y12.2.2.2])), (.c (.int .i64 (F49 x1 x2 x3 l4 l5 l6)) h), .g, (.eq ((y12.1 == (F49 x1 x2 x3 l4 l5 l6)) && ((y12.2.1 == (F48 x1 x2 x3 l4 l5 l6)) && ((y12.2.2.1 == 0) && ((y12.2.2.2 == 0) && true))))), (.b true), .g]) (ds := F54_m1_0) (ks := [1]) (e := ((F54_x1 h x1 x2 x3 v4 v5 v6) (0 : Nat)).1) (s2 := ((F54_x1 h x1 x2 x3 v4 v5 v6) (0 : Nat)).2) (hC := (ai c14 kc14)) (hd := F54_d1) (h := by kernel_rfl)
      · intro hr
        obtain rfl := Option.some.inj hr
        show AWp Try.prog _ (Ends1 .normal (F54_h1 h x1 x2 x3 v4 v5 v6 (IntKind.i64.wrap (a8 + 1)))) _
        exact pEnd_sound good (L := F54_L) (D := F54_D) (its := [.g, (.b true), .g, .g, .g, .g, .g, .g, .g, (.b true), .g, (.c (.int .i64 (F48 x1 x2 x3 l4 l5 l6)) h), .g, .g, .g, .g, .g, .g, (.ix id12 off12 g12), (.ld (.agg #[.int .i64 y12.1, .int .i64 y12.2.1, .int .i64 y12.2.2.1, .int .i64 y12.2.2.2])), (.c (.int .i64 (F49 x1 x2 x3 l4 l5 l6)) h), .g, (.eq ((y12.1 == (F49 x1 x2 x3 l4 l5 l6)) && ((y12.2.1 == (F48 x1 x2 x3 l4 l5 l6)) && ((y12.2.2.1 == 0) && ((y12.2.2.2 == 0) && true))))), (.b false), .g, .g]) (ds := F54_m1_1) (ks := []) (e := .normal) (s2 := (F54_h1 h x1 x2 x3 v4 v5 v6 (IntKind.i64.wrap (a8 + 1)))) (hC := (ai c14 kc14)) (hd := F54_d1) (h := by kernel_rfl)
    · refine bind_opt fun y15 e15 => ?_
      obtain ⟨id15, off15, g15, cs15, ix15, at15, rfl⟩ := SlE.at hv4 e15
      have kc17 := (ai (show aggEq Try.prog 57 #[.int .i64 y15.1, .int .i64 y15.2.1, .int .i64 y15.2.2.1, .int .i64 y15.2.2.2] #[.int .i64 (F49 x1 x2 x3 l4 l5 l6), .int .i64 a8, .int .i64 0, .int .i64 0] = some ((y15.1 == (F49 x1 x2 x3 l4 l5 l6)) && ((y15.2.1 == a8) && ((y15.2.2.1 == 0) && ((y15.2.2.2 == 0) && true)))) by kernel_rfl) (ai (show AKeep h h from (AHeap.sub_refl h)) (ai (F49_spec x1 x2 x3 l4 l5 l6 v4 v5 v6 h hv4 hv5 hv6 _ rfl) (ai (At.agg (P := Try.prog) (t := 57) (v := .agg #[.int .i64 y15.1, .int .i64 y15.2.1, .int .i64 y15.2.2.1, .int .i64 y15.2.2.2]) (m := 4) at15 (by kernel_rfl) (by kernel_rfl) 0 (by kernel_rfl) rfl) (ai ix15 (ai c10 kc10))))))
      refine dec_bif (fun c17 => ?_) (fun c17 => ?_)
      · intro hr
        obtain rfl := Option.some.inj hr
        show AWp Try.prog _ (Ends1 ((F54_x1 h x1 x2 x3 v4 v5 v6) (0 : Nat)).1 ((F54_x1 h x1 x2 x3 v4 v5 v6) (0 : Nat)).2) _
        exact pEnd_sound good (L := F54_L) (D := F54_D) (its := [.g, (.b true), .g, .g, .g, .g, .g, .g, .g, (.b false), .g, .g, .g, .g, .g, (.ix id15 off15 g15), (.ld (.agg #[.int .i64 y15.1, .int .i64 y15.2.1, .int .i64 y15.2.2.1, .int .i64 y15.2.2.2])), (.c (.int .i64 (F49 x1 x2 x3 l4 l5 l6)) h), .g, (.eq ((y15.1 == (F49 x1 x2 x3 l4 l5 l6)) && ((y15.2.1 == a8) && ((y15.2.2.1 == 0) && ((y15.2.2.2 == 0) && true))))), (.b true), .g]) (ds := F54_m1_0) (ks := [1]) (e := ((F54_x1 h x1 x2 x3 v4 v5 v6) (0 : Nat)).1) (s2 := ((F54_x1 h x1 x2 x3 v4 v5 v6) (0 : Nat)).2) (hC := (ai c17 kc17)) (hd := F54_d1) (h := by kernel_rfl)
      · intro hr
        obtain rfl := Option.some.inj hr
        show AWp Try.prog _ (Ends1 .normal (F54_h1 h x1 x2 x3 v4 v5 v6 (IntKind.i64.wrap (a8 + 1)))) _
        exact pEnd_sound good (L := F54_L) (D := F54_D) (its := [.g, (.b true), .g, .g, .g, .g, .g, .g, .g, (.b false), .g, .g, .g, .g, .g, (.ix id15 off15 g15), (.ld (.agg #[.int .i64 y15.1, .int .i64 y15.2.1, .int .i64 y15.2.2.1, .int .i64 y15.2.2.2])), (.c (.int .i64 (F49 x1 x2 x3 l4 l5 l6)) h), .g, (.eq ((y15.1 == (F49 x1 x2 x3 l4 l5 l6)) && ((y15.2.1 == a8) && ((y15.2.2.1 == 0) && ((y15.2.2.2 == 0) && true))))), (.b false), .g, .g]) (ds := F54_m1_1) (ks := []) (e := .normal) (s2 := (F54_h1 h x1 x2 x3 v4 v5 v6 (IntKind.i64.wrap (a8 + 1)))) (hC := (ai c17 kc17)) (hd := F54_d1) (h := by kernel_rfl)
  · intro hr
    obtain rfl := Option.some.inj hr
    show AWp Try.prog _ (Ends1 ((F54_x1 h x1 x2 x3 v4 v5 v6) (1 : Nat)).1 ((F54_x1 h x1 x2 x3 v4 v5 v6) (1 : Nat)).2) _
    exact pEnd_sound good (L := F54_L) (D := F54_D) (its := [.g, (.b false)]) (ds := F54_m1_2) (ks := []) (e := ((F54_x1 h x1 x2 x3 v4 v5 v6) (1 : Nat)).1) (s2 := ((F54_x1 h x1 x2 x3 v4 v5 v6) (1 : Nat)).2) (hC := (ai c9 trivial)) (hd := F54_d1) (h := by kernel_rfl)
theorem F54_l1_0 (h : AHeap) (x1 : Int) (x2 : Int) (x3 : Bool) (l4 : List (Int × Int × Int × Int)) (v4 : Hd) (hv4 : SlE E57 4 h (sv v4) l4) (l5 : List (Int × Int × Int × Int)) (v5 : Hd) (hv5 : SlE E59 4 h (sv v5) l5) (l6 : List (Int × Int)) (v6 : Hd) (hv6 : SlE E61 2 h (sv v6) l6) (x : Int) (r : Nat) (hl : loopO (fun (s : Int) => F54_s1 x1 x2 x3 l4 l5 l6 s) x = some r) (q0 : Nat.beq r 0 = true) : AWp Try.prog (.loop (codeOf Try.prog 54 [1, 1, 1, 0, 1, 0, 0])) (Ends1 .ret (F54_x1_0 h x1 x2 x3 v4 v5 v6 r)) ((fun (s : Int) => (F54_h1 h x1 x2 x3 v4 v5 v6 s)) x) := by
  have k := loop_fun (P := Try.prog) (c := (codeOf Try.prog 54 [1, 1, 1, 0, 1, 0, 0])) (step := (fun (s : Int) => F54_s1 x1 x2 x3 l4 l5 l6 s)) (hd := (fun (s : Int) => (F54_h1 h x1 x2 x3 v4 v5 v6 s))) (X := (F54_x1 h x1 x2 x3 v4 v5 v6)) (by intro t; unfold F54_x1; cases Nat.beq t 0 <;> (intro h; cases h)) (fun x => F54_r1 h x1 x2 x3 l4 v4 hv4 l5 v5 hv5 l6 v6 hv6 x) hl
  simp only [F54_x1, q0, cond_true, cond_false] at k
  exact k
theorem F54_l1_1 (h : AHeap) (x1 : Int) (x2 : Int) (x3 : Bool) (l4 : List (Int × Int × Int × Int)) (v4 : Hd) (hv4 : SlE E57 4 h (sv v4) l4) (l5 : List (Int × Int × Int × Int)) (v5 : Hd) (hv5 : SlE E59 4 h (sv v5) l5) (l6 : List (Int × Int)) (v6 : Hd) (hv6 : SlE E61 2 h (sv v6) l6) (x : Int) (r : Nat) (hl : loopO (fun (s : Int) => F54_s1 x1 x2 x3 l4 l5 l6 s) x = some r) (q0 : Nat.beq r 0 = false) : AWp Try.prog (.loop (codeOf Try.prog 54 [1, 1, 1, 0, 1, 0, 0])) (Ends1 (.exit 0) (F54_x1_1 h x1 x2 x3 v4 v5 v6 r)) ((fun (s : Int) => (F54_h1 h x1 x2 x3 v4 v5 v6 s)) x) := by
  have k := loop_fun (P := Try.prog) (c := (codeOf Try.prog 54 [1, 1, 1, 0, 1, 0, 0])) (step := (fun (s : Int) => F54_s1 x1 x2 x3 l4 l5 l6 s)) (hd := (fun (s : Int) => (F54_h1 h x1 x2 x3 v4 v5 v6 s))) (X := (F54_x1 h x1 x2 x3 v4 v5 v6)) (by intro t; unfold F54_x1; cases Nat.beq t 0 <;> (intro h; cases h)) (fun x => F54_r1 h x1 x2 x3 l4 v4 hv4 l5 v5 hv5 l6 v6 hv6 x) hl
  simp only [F54_x1, q0, cond_true, cond_false] at k
  exact k
def F54_m2_2 : List Bool := (rp 89 true [])
def F54_m2_1 : List Bool := (true :: false :: true :: false :: (rp 38 true (false :: false :: (rp 45 true []))))
def F54_m2_0 : List Bool := (true :: true :: false :: (rp 86 true []))
def F54_s2 (x1 : Int) (x2 : Int) (x3 : Bool) (l4 : List (Int × Int × Int × Int)) (l5 : List (Int × Int × Int × Int)) (l6 : List (Int × Int)) (a20 : Int) : Option (Int ⊕ Nat) :=
  (bif decide (a20 < (IntKind.i64.wrap (x1 + x2))) then
   (Option.bind (at? l4 (IntKind.i64.wrap ((IntKind.i64.wrap ((IntKind.i64.wrap (x1 + x2)) + 1)) + a20))) fun y22 =>
   (bif (y22.1 != a20) then
    some (.inr 0)
   else
    (bif (y22.2.1 != (F48 x1 x2 x3 l4 l5 l6)) then
     some (.inr 0)
    else
     (bif (y22.2.2.2 != 0) then
      some (.inr 0)
     else
      (bif decide (a20 < x1) then
       (Option.bind (at? l6 a20) fun y28 =>
       (bif decide (y22.2.2.1 < (if y28.2 > 1 then y28.2 else 1)) then
        some (.inr 0)
       else
        some (.inl (IntKind.i64.wrap (a20 + 1)))))
      else
       some (.inl (IntKind.i64.wrap (a20 + 1))))))))
  else
   some (.inr 1))
def F54_h2 (h : AHeap) (x1 : Int) (x2 : Int) (x3 : Bool) (v4 : Hd) (v5 : Hd) (v6 : Hd)  (a20 : Int) : AS := ⟨(junk :: (.pointer (some ⟨1, 0, none⟩)) :: junk :: (.int .i64 (IntKind.i64.wrap (x1 + x2))) :: (rp 38 junk ((.int .i64 (IntKind.i64.wrap (x1 + x2))) :: (.int .i64 a20) :: (rp 45 junk [])))), [(1, [.int .i64 x1, .int .i64 x2, .bool x3, (sv v4), (sv v5), (sv v6)])], h⟩
theorem F54_d2 : drawsOk F54_D (codeOf Try.prog 54 [1, 1, 1, 1, 0, 1, 0, 0]) = true := by kernel_rfl
def F54_x2_0 (h : AHeap)  (r : Nat) : AS := ⟨(junk :: junk :: (.bool false) :: (rp 86 junk [])), [], h⟩
def F54_x2_1 (h : AHeap)  (r : Nat) : AS := ⟨(rp 89 junk []), [], h⟩
def F54_x2 (h : AHeap) (r : Nat) : Exit × AS := (bif Nat.beq r 0 then (.ret, (F54_x2_0 h r)) else ((.exit 2), (F54_x2_1 h r)))
set_option maxRecDepth 100000 in
theorem F54_r2 (h : AHeap) (x1 : Int) (x2 : Int) (x3 : Bool) (l4 : List (Int × Int × Int × Int)) (v4 : Hd) (hv4 : SlE E57 4 h (sv v4) l4) (l5 : List (Int × Int × Int × Int)) (v5 : Hd) (hv5 : SlE E59 4 h (sv v5) l5) (l6 : List (Int × Int)) (v6 : Hd) (hv6 : SlE E61 2 h (sv v6) l6) (a20 : Int) (o : Int ⊕ Nat) : F54_s2 x1 x2 x3 l4 l5 l6 a20 = some o → RdF Try.prog (codeOf Try.prog 54 [1, 1, 1, 1, 0, 1, 0, 0]) (fun (s : Int) => (F54_h2 h x1 x2 x3 v4 v5 v6 s)) (F54_x2 h) (F54_h2 h x1 x2 x3 v4 v5 v6 a20) o := by
  unfold F54_s2
  refine dec_bif (fun c21 => ?_) (fun c21 => ?_)
  · refine bind_opt fun y22 e22 => ?_
    obtain ⟨id22, off22, g22, cs22, ix22, at22, rfl⟩ := SlE.at hv4 e22
    have kc23 := (ai (At.agg (P := Try.prog) (t := 57) (v := .agg #[.int .i64 y22.1, .int .i64 y22.2.1, .int .i64 y22.2.2.1, .int .i64 y22.2.2.2]) (m := 4) at22 (by kernel_rfl) (by kernel_rfl) 0 (by kernel_rfl) rfl) (ai ix22 (ai c21 trivial)))
    refine dec_bif (fun c23 => ?_) (fun c23 => ?_)
    · intro hr
      obtain rfl := Option.some.inj hr
      show AWp Try.prog _ (Ends1 ((F54_x2 h) (0 : Nat)).1 ((F54_x2 h) (0 : Nat)).2) _
      exact pEnd_sound good (L := F54_L) (D := F54_D) (its := [.g, (.b true), .g, .g, .g, .g, .g, .g, .g, .g, (.ix id22 off22 g22), (.ld (.agg #[.int .i64 y22.1, .int .i64 y22.2.1, .int .i64 y22.2.2.1, .int .i64 y22.2.2.2])), .g, .g, .g, .g, .g, .g, .g, .n, .n, .n, .n, .n, (.p true), .g, .n, .n, .n, .g, .g, .n, .n, .n, .n, .n, .n, .n, .n, .n, .n, .n, .n, .n, .n, .n, .n, .g, (.b true), .g]) (ds := F54_m2_0) (ks := [1, 7]) (e := ((F54_x2 h) (0 : Nat)).1) (s2 := ((F54_x2 h) (0 : Nat)).2) (hC := (ai l_t (ai (g_tf l_t) (ai l_f (ai l_f (ai l_f (ai l_f (ai l_f (ai l_f (ai l_f (ai l_f (ai l_f (ai l_f (ai (g_tf l_t) (ai (g_tf l_t) (ai (g_tf l_t) (ai (g_tf l_t) (ai (g_tf l_t) (ai (g_tf l_t) (ai (g_tf l_t) (ai (g_tf l_t) (ai c23 (ai (g_tf c23) (ai (g_tf c23) (ai (g_tf c23) (ai (g_tf c23) (ai (g_tf c23) kc23))))))))))))))))))))))))))) (hd := F54_d2) (h := by kernel_rfl)
    · have kc25 := (ai c23 (ai (g_ff c23) (ai (show AKeep h h from (AHeap.sub_refl h)) (ai (F48_spec x1 x2 x3 l4 l5 l6 v4 v5 v6 h hv4 hv5 hv6 _ rfl) (ai (g_ff c23) (ai (g_ff c23) (ai (g_ff c23) (ai (g_ff c23) kc23))))))))
      refine dec_bif (fun c25 => ?_) (fun c25 => ?_)
      · intro hr
        obtain rfl := Option.some.inj hr
        show AWp Try.prog _ (Ends1 ((F54_x2 h) (0 : Nat)).1 ((F54_x2 h) (0 : Nat)).2) _
        exact pEnd_sound good (L := F54_L) (D := F54_D) (its := [.g, (.b true), .g, .g, .g, .g, .g, .g, .g, .g, (.ix id22 off22 g22), (.ld (.agg #[.int .i64 y22.1, .int .i64 y22.2.1, .int .i64 y22.2.2.1, .int .i64 y22.2.2.2])), .g, .g, .g, .g, .g, .g, .g, (.w .g), (.w .g), (.w .g), (.w (.c (.int .i64 (F48 x1 x2 x3 l4 l5 l6)) h)), (.w .g), (.p false), .g, .n, .n, .n, (.p true), .g, .n, .n, .n, .n, .n, .n, .n, .n, .n, .n, .n, .n, .n, .n, .n, .n, .g, (.b true), .g]) (ds := F54_m2_0) (ks := [1, 7]) (e := ((F54_x2 h) (0 : Nat)).1) (s2 := ((F54_x2 h) (0 : Nat)).2) (hC := (ai l_t (ai (g_tf l_t) (ai l_f (ai l_f (ai l_f (ai l_f (ai l_f (ai l_f (ai l_f (ai l_f (ai l_f (ai l_f (ai (g_tf l_t) (ai (g_tf l_t) (ai (g_tf l_t) (ai (g_tf l_t) (ai (g_tf l_t) (ai c25 (ai (g_tf c25) (ai (g_tf c25) (ai (g_tf c25) kc25)))))))))))))))))))))) (hd := F54_d2) (h := by kernel_rfl)
      · have kc26 := (ai c25 (ai (g_ff c25) (ai (g_ff c25) (ai (g_ff c25) kc25))))
        refine dec_bif (fun c26 => ?_) (fun c26 => ?_)
        · intro hr
          obtain rfl := Option.some.inj hr
          show AWp Try.prog _ (Ends1 ((F54_x2 h) (0 : Nat)).1 ((F54_x2 h) (0 : Nat)).2) _
          exact pEnd_sound good (L := F54_L) (D := F54_D) (its := [.g, (.b true), .g, .g, .g, .g, .g, .g, .g, .g, (.ix id22 off22 g22), (.ld (.agg #[.int .i64 y22.1, .int .i64 y22.2.1, .int .i64 y22.2.2.1, .int .i64 y22.2.2.2])), .g, .g, .g, .g, .g, .g, .g, (.w .g), (.w .g), (.w .g), (.w (.c (.int .i64 (F48 x1 x2 x3 l4 l5 l6)) h)), (.w .g), (.p false), .g, (.w .g), (.w .g), (.w .g), (.p false), .g, .n, .n, .n, .n, .n, .n, .n, .n, .n, .n, .n, .n, .n, .n, .n, .n, (.p true), (.b true), .g]) (ds := F54_m2_0) (ks := [1, 7]) (e := ((F54_x2 h) (0 : Nat)).1) (s2 := ((F54_x2 h) (0 : Nat)).2) (hC := (ai l_t (ai c26 (ai (g_tf c26) (ai l_f (ai l_f (ai l_f (ai l_f (ai l_f (ai l_f (ai l_f (ai l_f (ai l_f (ai l_f (ai (g_tf c26) (ai (g_tf c26) (ai (g_tf c26) (ai (g_tf c26) (ai (g_tf c26) kc26))))))))))))))))))) (hd := F54_d2) (h := by kernel_rfl)
        · have kc27 := (ai (g_ff c26) (ai (g_ff c26) (ai (g_ff c26) (ai (g_ff c26) (ai (g_ff c26) kc26)))))
          refine dec_bif (fun c27 => ?_) (fun c27 => ?_)
          · refine bind_opt fun y28 e28 => ?_
            obtain ⟨id28, off28, g28, cs28, ix28, at28, rfl⟩ := SlE.at hv6 e28
            have kc29 := (ai c26 (ai c27 (ai (g_ff c26) (ai (g_tt c27) (ai (g_tt c27) (ai (At.one (P := Try.prog) (t := 3) (v := .int .i64 y28.2) at28 (by kernel_rfl) 1 rfl rfl) (ai (g_tt c27) (ai (g_tt c27) (ai ix28 (ai (g_tt c27) (ai (g_tt c27) (ai (g_tt c27) (ai (g_tt c27) (ai (g_tt c27) (ai (g_tt c27) kc27)))))))))))))))
            refine dec_bif (fun c29 => ?_) (fun c29 => ?_)
            · intro hr
              obtain rfl := Option.some.inj hr
              show AWp Try.prog _ (Ends1 ((F54_x2 h) (0 : Nat)).1 ((F54_x2 h) (0 : Nat)).2) _
              exact pEnd_sound good (L := F54_L) (D := F54_D) (its := [.g, (.b true), .g, .g, .g, .g, .g, .g, .g, .g, (.ix id22 off22 g22), (.ld (.agg #[.int .i64 y22.1, .int .i64 y22.2.1, .int .i64 y22.2.2.1, .int .i64 y22.2.2.2])), .g, .g, .g, .g, .g, .g, .g, (.w .g), (.w .g), (.w .g), (.w (.c (.int .i64 (F48 x1 x2 x3 l4 l5 l6)) h)), (.w .g), (.p false), .g, (.w .g), (.w .g), (.w .g), (.p false), .g, (.w .g), (.w .g), (.w .g), (.w .g), (.w .g), (.w .g), (.w .g), (.w .g), (.w .g), (.w .g), (.w (.ix id28 off28 g28)), (.w .g), (.w (.ld (.int .i64 y28.2))), (.w .g), (.w .g), (.w (.p true)), (.p false), (.b true), .g]) (ds := F54_m2_0) (ks := [1, 7]) (e := ((F54_x2 h) (0 : Nat)).1) (s2 := ((F54_x2 h) (0 : Nat)).2) (hC := (ai c29 kc29)) (hd := F54_d2) (h := by kernel_rfl)
            · intro hr
              obtain rfl := Option.some.inj hr
              show AWp Try.prog _ (Ends1 .normal (F54_h2 h x1 x2 x3 v4 v5 v6 (IntKind.i64.wrap (a20 + 1)))) _
              exact pEnd_sound good (L := F54_L) (D := F54_D) (its := [.g, (.b true), .g, .g, .g, .g, .g, .g, .g, .g, (.ix id22 off22 g22), (.ld (.agg #[.int .i64 y22.1, .int .i64 y22.2.1, .int .i64 y22.2.2.1, .int .i64 y22.2.2.2])), .g, .g, .g, .g, .g, .g, .g, (.w .g), (.w .g), (.w .g), (.w (.c (.int .i64 (F48 x1 x2 x3 l4 l5 l6)) h)), (.w .g), (.p false), .g, (.w .g), (.w .g), (.w .g), (.p false), .g, (.w .g), (.w .g), (.w .g), (.w .g), (.w .g), (.w .g), (.w .g), (.w .g), (.w .g), (.w .g), (.w (.ix id28 off28 g28)), (.w .g), (.w (.ld (.int .i64 y28.2))), (.w .g), (.w .g), (.w (.p true)), (.p false), (.b false), .g, .g]) (ds := F54_m2_1) (ks := [7]) (e := .normal) (s2 := (F54_h2 h x1 x2 x3 v4 v5 v6 (IntKind.i64.wrap (a20 + 1)))) (hC := (ai c29 kc29)) (hd := F54_d2) (h := by kernel_rfl)
          · intro hr
            obtain rfl := Option.some.inj hr
            show AWp Try.prog _ (Ends1 .normal (F54_h2 h x1 x2 x3 v4 v5 v6 (IntKind.i64.wrap (a20 + 1)))) _
            exact pEnd_sound good (L := F54_L) (D := F54_D) (its := [.g, (.b true), .g, .g, .g, .g, .g, .g, .g, .g, (.ix id22 off22 g22), (.ld (.agg #[.int .i64 y22.1, .int .i64 y22.2.1, .int .i64 y22.2.2.1, .int .i64 y22.2.2.2])), .g, .g, .g, .g, .g, .g, .g, (.w .g), (.w .g), (.w .g), (.w (.c (.int .i64 (F48 x1 x2 x3 l4 l5 l6)) h)), (.w .g), (.p false), .g, (.w .g), (.w .g), (.w .g), (.p false), .g, (.w .g), (.w .g), (.w .g), (.w .g), (.w .g), .n, .n, .n, .n, .n, .n, .n, .n, .n, .n, (.w (.p false)), (.p false), (.b false), .g, .g]) (ds := F54_m2_1) (ks := [7]) (e := .normal) (s2 := (F54_h2 h x1 x2 x3 v4 v5 v6 (IntKind.i64.wrap (a20 + 1)))) (hC := (ai l_f (ai c26 (ai c27 (ai (g_ff c26) (ai (g_ft c27) (ai (g_ft c27) (ai (g_ft c27) (ai (g_ft c27) (ai (g_ft c27) (ai (g_ft c27) (ai (g_ft c27) (ai (g_ft c27) (ai (g_ft c27) (ai (g_ft c27) kc27))))))))))))))) (hd := F54_d2) (h := by kernel_rfl)
  · intro hr
    obtain rfl := Option.some.inj hr
    show AWp Try.prog _ (Ends1 ((F54_x2 h) (1 : Nat)).1 ((F54_x2 h) (1 : Nat)).2) _
    exact pEnd_sound good (L := F54_L) (D := F54_D) (its := [.g, (.b false)]) (ds := F54_m2_2) (ks := [1]) (e := ((F54_x2 h) (1 : Nat)).1) (s2 := ((F54_x2 h) (1 : Nat)).2) (hC := (ai c21 trivial)) (hd := F54_d2) (h := by kernel_rfl)
theorem F54_l2_0 (h : AHeap) (x1 : Int) (x2 : Int) (x3 : Bool) (l4 : List (Int × Int × Int × Int)) (v4 : Hd) (hv4 : SlE E57 4 h (sv v4) l4) (l5 : List (Int × Int × Int × Int)) (v5 : Hd) (hv5 : SlE E59 4 h (sv v5) l5) (l6 : List (Int × Int)) (v6 : Hd) (hv6 : SlE E61 2 h (sv v6) l6) (x : Int) (r : Nat) (hl : loopO (fun (s : Int) => F54_s2 x1 x2 x3 l4 l5 l6 s) x = some r) (q0 : Nat.beq r 0 = true) : AWp Try.prog (.loop (codeOf Try.prog 54 [1, 1, 1, 1, 0, 1, 0, 0])) (Ends1 .ret (F54_x2_0 h r)) ((fun (s : Int) => (F54_h2 h x1 x2 x3 v4 v5 v6 s)) x) := by
  have k := loop_fun (P := Try.prog) (c := (codeOf Try.prog 54 [1, 1, 1, 1, 0, 1, 0, 0])) (step := (fun (s : Int) => F54_s2 x1 x2 x3 l4 l5 l6 s)) (hd := (fun (s : Int) => (F54_h2 h x1 x2 x3 v4 v5 v6 s))) (X := (F54_x2 h)) (by intro t; unfold F54_x2; cases Nat.beq t 0 <;> (intro h; cases h)) (fun x => F54_r2 h x1 x2 x3 l4 v4 hv4 l5 v5 hv5 l6 v6 hv6 x) hl
  simp only [F54_x2, q0, cond_true, cond_false] at k
  exact k
theorem F54_l2_1 (h : AHeap) (x1 : Int) (x2 : Int) (x3 : Bool) (l4 : List (Int × Int × Int × Int)) (v4 : Hd) (hv4 : SlE E57 4 h (sv v4) l4) (l5 : List (Int × Int × Int × Int)) (v5 : Hd) (hv5 : SlE E59 4 h (sv v5) l5) (l6 : List (Int × Int)) (v6 : Hd) (hv6 : SlE E61 2 h (sv v6) l6) (x : Int) (r : Nat) (hl : loopO (fun (s : Int) => F54_s2 x1 x2 x3 l4 l5 l6 s) x = some r) (q0 : Nat.beq r 0 = false) : AWp Try.prog (.loop (codeOf Try.prog 54 [1, 1, 1, 1, 0, 1, 0, 0])) (Ends1 (.exit 2) (F54_x2_1 h r)) ((fun (s : Int) => (F54_h2 h x1 x2 x3 v4 v5 v6 s)) x) := by
  have k := loop_fun (P := Try.prog) (c := (codeOf Try.prog 54 [1, 1, 1, 1, 0, 1, 0, 0])) (step := (fun (s : Int) => F54_s2 x1 x2 x3 l4 l5 l6 s)) (hd := (fun (s : Int) => (F54_h2 h x1 x2 x3 v4 v5 v6 s))) (X := (F54_x2 h)) (by intro t; unfold F54_x2; cases Nat.beq t 0 <;> (intro h; cases h)) (fun x => F54_r2 h x1 x2 x3 l4 v4 hv4 l5 v5 hv5 l6 v6 hv6 x) hl
  simp only [F54_x2, q0, cond_true, cond_false] at k
  exact k
def F54 (x1 : Int) (x2 : Int) (x3 : Bool) (l4 : List (Int × Int × Int × Int)) (l5 : List (Int × Int × Int × Int)) (l6 : List (Int × Int)) : Option (Bool) :=
  (bif (F54__1 x1 x2 l4) then
   some (false)
  else
   (Option.bind (loopO (fun (s : Int) => F54_s1 x1 x2 x3 l4 l5 l6 s) 0) fun y18 =>
   (bif (Nat.beq y18 0) then
    some (false)
   else
    (Option.bind (loopO (fun (s : Int) => F54_s2 x1 x2 x3 l4 l5 l6 s) 0) fun y30 =>
    (bif (Nat.beq y30 0) then
     some (false)
    else
     some (true))))))
set_option maxRecDepth 100000 in
theorem F54_spec (x1 : Int) (x2 : Int) (x3 : Bool) (l4 : List (Int × Int × Int × Int)) (l5 : List (Int × Int × Int × Int)) (l6 : List (Int × Int)) (v4 : Hd) (v5 : Hd) (v6 : Hd) (h : AHeap) (hv4 : SlE E57 4 h (sv v4) l4) (hv5 : SlE E59 4 h (sv v5) l5) (hv6 : SlE E61 2 h (sv v6) l6) (r : Bool) : F54 x1 x2 x3 l4 l5 l6 = some r → ACalls Try.prog 54 [.agg #[.int .i64 x1, .int .i64 x2, .bool x3, (sv v4), (sv v5), (sv v6)]] h (fun v' h'' => v' = (.bool r : Value) ∧ h'' = h) := by
  unfold F54
  have kc7 := (ai (SlE.len hv4) trivial)
  refine dec_bif (fun c7 => ?_) (fun c7 => ?_)
  · intro hr
    obtain rfl := Option.some.inj hr
    exact pFun_sound good tab_ok (f := 54) (its := [.g, .g, .g, .g, .g, .g, .g, .g, .g, .g, (.ln l4.length), .g, .g, .g, .g, (.b true), .g]) (args := [.agg #[.int .i64 x1, .int .i64 x2, .bool x3, (sv v4), (sv v5), (sv v6)]]) (h := h) (h' := h) (v := .bool false) (hC := (ai c7 kc7)) (hr := by kernel_rfl)
  · refine bind_opt fun y18 e18 => ?_
    have kc19 := (ai c7 kc7)
    refine dec_bif (fun c19 => ?_) (fun c19 => ?_)
    · intro hr
      obtain rfl := Option.some.inj hr
      exact pFun_sound good tab_ok (f := 54) (its := [.g, .g, .g, .g, .g, .g, .g, .g, .g, .g, (.ln l4.length), .g, .g, .g, .g, (.b false), .g, .g, .g, (.l F54_m1_1 [] .ret (F54_x1_0 h x1 x2 x3 v4 v5 v6 y18))]) (args := [.agg #[.int .i64 x1, .int .i64 x2, .bool x3, (sv v4), (sv v5), (sv v6)]]) (h := h) (h' := h) (v := .bool false) (hC := (ai (F54_l1_0 h x1 x2 x3 l4 v4 hv4 l5 v5 hv5 l6 v6 hv6 0 y18 e18 c19) kc19)) (hr := by kernel_rfl)
    · refine bind_opt fun y30 e30 => ?_
      have kc31 := (ai (F54_l1_1 h x1 x2 x3 l4 v4 hv4 l5 v5 hv5 l6 v6 hv6 0 y18 e18 c19) kc19)
      refine dec_bif (fun c31 => ?_) (fun c31 => ?_)
      · intro hr
        obtain rfl := Option.some.inj hr
        exact pFun_sound good tab_ok (f := 54) (its := [.g, .g, .g, .g, .g, .g, .g, .g, .g, .g, (.ln l4.length), .g, .g, .g, .g, (.b false), .g, .g, .g, (.l F54_m1_1 [] (.exit 0) (F54_x1_1 h x1 x2 x3 v4 v5 v6 y18)), .g, .g, (.l F54_m2_1 [] .ret (F54_x2_0 h y30))]) (args := [.agg #[.int .i64 x1, .int .i64 x2, .bool x3, (sv v4), (sv v5), (sv v6)]]) (h := h) (h' := h) (v := .bool false) (hC := (ai (F54_l2_0 h x1 x2 x3 l4 v4 hv4 l5 v5 hv5 l6 v6 hv6 0 y30 e30 c31) kc31)) (hr := by kernel_rfl)
      · intro hr
        obtain rfl := Option.some.inj hr
        exact pFun_sound good tab_ok (f := 54) (its := [.g, .g, .g, .g, .g, .g, .g, .g, .g, .g, (.ln l4.length), .g, .g, .g, .g, (.b false), .g, .g, .g, (.l F54_m1_1 [] (.exit 0) (F54_x1_1 h x1 x2 x3 v4 v5 v6 y18)), .g, .g, (.l F54_m2_1 [] (.exit 2) (F54_x2_1 h y30)), .g]) (args := [.agg #[.int .i64 x1, .int .i64 x2, .bool x3, (sv v4), (sv v5), (sv v6)]]) (h := h) (h' := h) (v := .bool true) (hC := (ai (F54_l2_1 h x1 x2 x3 l4 v4 hv4 l5 v5 hv5 l6 v6 hv6 0 y30 e30 c31) kc31)) (hr := by kernel_rfl)
/-! 33 jacquard/dataflow.Valid -/
def F33_L : List Nat := [1, 4, 6, 8]
def F33_D : List (Nat × List (Nat × Nat)) := []
def F33_m1_2 : List Bool := (true :: false :: (rp 115 true []))
def F33_m1_1 : List Bool := (true :: false :: (rp 35 true (false :: false :: false :: (rp 77 true []))))
def F33_m1_0 : List Bool := (true :: true :: false :: (rp 114 true []))
def F33_s1 (x1 : Int) (x2 : Int) (x3 : Bool) (l4 : List (Int × Int × Int × Int)) (l5 : List (Int × Int × Int × Int)) (l6 : List (Int × Int)) (a12 : Int) : Option (Int ⊕ Nat) :=
  (bif decide (a12 < (l4.length : Int)) then
   (Option.bind (at? l4 a12) fun y14 =>
   (bif (!(F53 x1 x2 x3 l4 l5 l6 y14.1 y14.2.1 y14.2.2.1 y14.2.2.2)) then
    some (.inr 0)
   else
    some (.inl (IntKind.i64.wrap (a12 + 1)))))
  else
   some (.inr 1))
def F33_h1 (h : AHeap) (x1 : Int) (x2 : Int) (x3 : Bool) (l4 : List (Int × Int × Int × Int)) (v4 : Hd) (v5 : Hd) (v6 : Hd)  (a12 : Int) : AS := ⟨(junk :: (.pointer (some ⟨1, 0, none⟩)) :: (rp 35 junk ((sv v4) :: (.int .i64 (l4.length : Int)) :: (.int .i64 a12) :: (rp 77 junk [])))), [(1, [.int .i64 x1, .int .i64 x2, .bool x3, (sv v4), (sv v5), (sv v6)])], h⟩
theorem F33_d1 : drawsOk F33_D (codeOf Try.prog 33 [1, 1, 0, 1, 0, 0]) = true := by kernel_rfl
def F33_x1_0 (h : AHeap) (x1 : Int) (x2 : Int) (x3 : Bool) (v4 : Hd) (v5 : Hd) (v6 : Hd)  (r : Nat) : AS := ⟨(junk :: junk :: (.bool false) :: (rp 114 junk [])), [], h⟩
def F33_x1_1 (h : AHeap) (x1 : Int) (x2 : Int) (x3 : Bool) (v4 : Hd) (v5 : Hd) (v6 : Hd)  (r : Nat) : AS := ⟨(junk :: (.pointer (some ⟨1, 0, none⟩)) :: (rp 115 junk [])), [(1, [.int .i64 x1, .int .i64 x2, .bool x3, (sv v4), (sv v5), (sv v6)])], h⟩
def F33_x1 (h : AHeap) (x1 : Int) (x2 : Int) (x3 : Bool) (v4 : Hd) (v5 : Hd) (v6 : Hd) (r : Nat) : Exit × AS := (bif Nat.beq r 0 then (.ret, (F33_x1_0 h x1 x2 x3 v4 v5 v6 r)) else ((.exit 0), (F33_x1_1 h x1 x2 x3 v4 v5 v6 r)))
set_option maxRecDepth 100000 in
theorem F33_r1 (h : AHeap) (x1 : Int) (x2 : Int) (x3 : Bool) (l4 : List (Int × Int × Int × Int)) (v4 : Hd) (hv4 : SlE E57 4 h (sv v4) l4) (l5 : List (Int × Int × Int × Int)) (v5 : Hd) (hv5 : SlE E59 4 h (sv v5) l5) (l6 : List (Int × Int)) (v6 : Hd) (hv6 : SlE E61 2 h (sv v6) l6) (a12 : Int) (o : Int ⊕ Nat) : F33_s1 x1 x2 x3 l4 l5 l6 a12 = some o → RdF Try.prog (codeOf Try.prog 33 [1, 1, 0, 1, 0, 0]) (fun (s : Int) => (F33_h1 h x1 x2 x3 l4 v4 v5 v6 s)) (F33_x1 h x1 x2 x3 v4 v5 v6) (F33_h1 h x1 x2 x3 l4 v4 v5 v6 a12) o := by
  unfold F33_s1
  refine dec_bif (fun c13 => ?_) (fun c13 => ?_)
  · refine bind_opt fun y14 e14 => ?_
    obtain ⟨id14, off14, g14, cs14, ix14, at14, rfl⟩ := SlE.at hv4 e14
    have kc16 := (ai (F53_spec x1 x2 x3 l4 l5 l6 y14.1 y14.2.1 y14.2.2.1 y14.2.2.2 v4 v5 v6 h hv4 hv5 hv6 _ rfl) (ai (At.agg (P := Try.prog) (t := 57) (v := .agg #[.int .i64 y14.1, .int .i64 y14.2.1, .int .i64 y14.2.2.1, .int .i64 y14.2.2.2]) (m := 4) at14 (by kernel_rfl) (by kernel_rfl) 0 (by kernel_rfl) rfl) (ai ix14 (ai c13 trivial))))
    refine dec_bif (fun c16 => ?_) (fun c16 => ?_)
    · intro hr
      obtain rfl := Option.some.inj hr
      show AWp Try.prog _ (Ends1 ((F33_x1 h x1 x2 x3 v4 v5 v6) (0 : Nat)).1 ((F33_x1 h x1 x2 x3 v4 v5 v6) (0 : Nat)).2) _
      exact pEnd_sound good (L := F33_L) (D := F33_D) (its := [.g, (.b true), (.ix id14 off14 g14), (.ld (.agg #[.int .i64 y14.1, .int .i64 y14.2.1, .int .i64 y14.2.2.1, .int .i64 y14.2.2.2])), .g, .g, .g, .g, (.c (.bool (F53 x1 x2 x3 l4 l5 l6 y14.1 y14.2.1 y14.2.2.1 y14.2.2.2)) h), .g, (.b true), .g]) (ds := F33_m1_0) (ks := [1, 4]) (e := ((F33_x1 h x1 x2 x3 v4 v5 v6) (0 : Nat)).1) (s2 := ((F33_x1 h x1 x2 x3 v4 v5 v6) (0 : Nat)).2) (hC := (ai c16 kc16)) (hd := F33_d1) (h := by kernel_rfl)
    · intro hr
      obtain rfl := Option.some.inj hr
      show AWp Try.prog _ (Ends1 .normal (F33_h1 h x1 x2 x3 l4 v4 v5 v6 (IntKind.i64.wrap (a12 + 1)))) _
      exact pEnd_sound good (L := F33_L) (D := F33_D) (its := [.g, (.b true), (.ix id14 off14 g14), (.ld (.agg #[.int .i64 y14.1, .int .i64 y14.2.1, .int .i64 y14.2.2.1, .int .i64 y14.2.2.2])), .g, .g, .g, .g, (.c (.bool (F53 x1 x2 x3 l4 l5 l6 y14.1 y14.2.1 y14.2.2.1 y14.2.2.2)) h), .g, (.b false), .g, .g]) (ds := F33_m1_1) (ks := [4]) (e := .normal) (s2 := (F33_h1 h x1 x2 x3 l4 v4 v5 v6 (IntKind.i64.wrap (a12 + 1)))) (hC := (ai c16 kc16)) (hd := F33_d1) (h := by kernel_rfl)
  · intro hr
    obtain rfl := Option.some.inj hr
    show AWp Try.prog _ (Ends1 ((F33_x1 h x1 x2 x3 v4 v5 v6) (1 : Nat)).1 ((F33_x1 h x1 x2 x3 v4 v5 v6) (1 : Nat)).2) _
    exact pEnd_sound good (L := F33_L) (D := F33_D) (its := [.g, (.b false)]) (ds := F33_m1_2) (ks := []) (e := ((F33_x1 h x1 x2 x3 v4 v5 v6) (1 : Nat)).1) (s2 := ((F33_x1 h x1 x2 x3 v4 v5 v6) (1 : Nat)).2) (hC := (ai c13 trivial)) (hd := F33_d1) (h := by kernel_rfl)
theorem F33_l1_0 (h : AHeap) (x1 : Int) (x2 : Int) (x3 : Bool) (l4 : List (Int × Int × Int × Int)) (v4 : Hd) (hv4 : SlE E57 4 h (sv v4) l4) (l5 : List (Int × Int × Int × Int)) (v5 : Hd) (hv5 : SlE E59 4 h (sv v5) l5) (l6 : List (Int × Int)) (v6 : Hd) (hv6 : SlE E61 2 h (sv v6) l6) (x : Int) (r : Nat) (hl : loopO (fun (s : Int) => F33_s1 x1 x2 x3 l4 l5 l6 s) x = some r) (q0 : Nat.beq r 0 = true) : AWp Try.prog (.loop (codeOf Try.prog 33 [1, 1, 0, 1, 0, 0])) (Ends1 .ret (F33_x1_0 h x1 x2 x3 v4 v5 v6 r)) ((fun (s : Int) => (F33_h1 h x1 x2 x3 l4 v4 v5 v6 s)) x) := by
  have k := loop_fun (P := Try.prog) (c := (codeOf Try.prog 33 [1, 1, 0, 1, 0, 0])) (step := (fun (s : Int) => F33_s1 x1 x2 x3 l4 l5 l6 s)) (hd := (fun (s : Int) => (F33_h1 h x1 x2 x3 l4 v4 v5 v6 s))) (X := (F33_x1 h x1 x2 x3 v4 v5 v6)) (by intro t; unfold F33_x1; cases Nat.beq t 0 <;> (intro h; cases h)) (fun x => F33_r1 h x1 x2 x3 l4 v4 hv4 l5 v5 hv5 l6 v6 hv6 x) hl
  simp only [F33_x1, q0, cond_true, cond_false] at k
  exact k
theorem F33_l1_1 (h : AHeap) (x1 : Int) (x2 : Int) (x3 : Bool) (l4 : List (Int × Int × Int × Int)) (v4 : Hd) (hv4 : SlE E57 4 h (sv v4) l4) (l5 : List (Int × Int × Int × Int)) (v5 : Hd) (hv5 : SlE E59 4 h (sv v5) l5) (l6 : List (Int × Int)) (v6 : Hd) (hv6 : SlE E61 2 h (sv v6) l6) (x : Int) (r : Nat) (hl : loopO (fun (s : Int) => F33_s1 x1 x2 x3 l4 l5 l6 s) x = some r) (q0 : Nat.beq r 0 = false) : AWp Try.prog (.loop (codeOf Try.prog 33 [1, 1, 0, 1, 0, 0])) (Ends1 (.exit 0) (F33_x1_1 h x1 x2 x3 v4 v5 v6 r)) ((fun (s : Int) => (F33_h1 h x1 x2 x3 l4 v4 v5 v6 s)) x) := by
  have k := loop_fun (P := Try.prog) (c := (codeOf Try.prog 33 [1, 1, 0, 1, 0, 0])) (step := (fun (s : Int) => F33_s1 x1 x2 x3 l4 l5 l6 s)) (hd := (fun (s : Int) => (F33_h1 h x1 x2 x3 l4 v4 v5 v6 s))) (X := (F33_x1 h x1 x2 x3 v4 v5 v6)) (by intro t; unfold F33_x1; cases Nat.beq t 0 <;> (intro h; cases h)) (fun x => F33_r1 h x1 x2 x3 l4 v4 hv4 l5 v5 hv5 l6 v6 hv6 x) hl
  simp only [F33_x1, q0, cond_true, cond_false] at k
  exact k
def F33_m2_2 : List Bool := (true :: false :: (rp 115 true []))
def F33_m2_1 : List Bool := (true :: false :: (rp 47 true (false :: false :: false :: (rp 65 true []))))
def F33_m2_0 : List Bool := (true :: true :: false :: (rp 114 true []))
def F33_s2 (l5 : List (Int × Int × Int × Int)) (a19 : Int) : Option (Int ⊕ Nat) :=
  (bif decide (a19 < (l5.length : Int)) then
   (Option.bind (at? l5 a19) fun y21 =>
   (bif decide (y21.1 < 1) then
    some (.inr 0)
   else
    (bif decide (y21.1 > 4) then
     some (.inr 0)
    else
     (bif decide (y21.2.2.2 < 1) then
      some (.inr 0)
     else
      (bif decide (y21.2.2.2 > 1024) then
       some (.inr 0)
      else
       some (.inl (IntKind.i64.wrap (a19 + 1))))))))
  else
   some (.inr 1))
def F33_h2 (h : AHeap) (x1 : Int) (x2 : Int) (x3 : Bool) (v4 : Hd) (l5 : List (Int × Int × Int × Int)) (v5 : Hd) (v6 : Hd)  (a19 : Int) : AS := ⟨(junk :: (.pointer (some ⟨1, 0, none⟩)) :: (rp 47 junk ((sv v5) :: (.int .i64 (l5.length : Int)) :: (.int .i64 a19) :: (rp 65 junk [])))), [(1, [.int .i64 x1, .int .i64 x2, .bool x3, (sv v4), (sv v5), (sv v6)])], h⟩
theorem F33_d2 : drawsOk F33_D (codeOf Try.prog 33 [1, 1, 1, 0, 1, 0, 0]) = true := by kernel_rfl
def F33_x2_0 (h : AHeap) (x1 : Int) (x2 : Int) (x3 : Bool) (v4 : Hd) (v5 : Hd) (v6 : Hd)  (r : Nat) : AS := ⟨(junk :: junk :: (.bool false) :: (rp 114 junk [])), [], h⟩
def F33_x2_1 (h : AHeap) (x1 : Int) (x2 : Int) (x3 : Bool) (v4 : Hd) (v5 : Hd) (v6 : Hd)  (r : Nat) : AS := ⟨(junk :: (.pointer (some ⟨1, 0, none⟩)) :: (rp 115 junk [])), [(1, [.int .i64 x1, .int .i64 x2, .bool x3, (sv v4), (sv v5), (sv v6)])], h⟩
def F33_x2 (h : AHeap) (x1 : Int) (x2 : Int) (x3 : Bool) (v4 : Hd) (v5 : Hd) (v6 : Hd) (r : Nat) : Exit × AS := (bif Nat.beq r 0 then (.ret, (F33_x2_0 h x1 x2 x3 v4 v5 v6 r)) else ((.exit 2), (F33_x2_1 h x1 x2 x3 v4 v5 v6 r)))
set_option maxRecDepth 100000 in
theorem F33_r2 (h : AHeap) (x1 : Int) (x2 : Int) (x3 : Bool) (v4 : Hd) (l5 : List (Int × Int × Int × Int)) (v5 : Hd) (hv5 : SlE E59 4 h (sv v5) l5) (v6 : Hd) (a19 : Int) (o : Int ⊕ Nat) : F33_s2 l5 a19 = some o → RdF Try.prog (codeOf Try.prog 33 [1, 1, 1, 0, 1, 0, 0]) (fun (s : Int) => (F33_h2 h x1 x2 x3 v4 l5 v5 v6 s)) (F33_x2 h x1 x2 x3 v4 v5 v6) (F33_h2 h x1 x2 x3 v4 l5 v5 v6 a19) o := by
  unfold F33_s2
  refine dec_bif (fun c20 => ?_) (fun c20 => ?_)
  · refine bind_opt fun y21 e21 => ?_
    obtain ⟨id21, off21, g21, cs21, ix21, at21, rfl⟩ := SlE.at hv5 e21
    have kc22 := (ai (At.agg (P := Try.prog) (t := 59) (v := .agg #[.int .i64 y21.1, .int .i64 y21.2.1, .int .i64 y21.2.2.1, .int .i64 y21.2.2.2]) (m := 4) at21 (by kernel_rfl) (by kernel_rfl) 0 (by kernel_rfl) rfl) (ai ix21 (ai c20 trivial)))
    refine dec_bif (fun c22 => ?_) (fun c22 => ?_)
    · intro hr
      obtain rfl := Option.some.inj hr
      show AWp Try.prog _ (Ends1 ((F33_x2 h x1 x2 x3 v4 v5 v6) (0 : Nat)).1 ((F33_x2 h x1 x2 x3 v4 v5 v6) (0 : Nat)).2) _
      exact pEnd_sound good (L := F33_L) (D := F33_D) (its := [.g, (.b true), (.ix id21 off21 g21), (.ld (.agg #[.int .i64 y21.1, .int .i64 y21.2.1, .int .i64 y21.2.2.1, .int .i64 y21.2.2.2])), .g, .g, .g, .g, .g, .g, .n, .n, .n, (.p true), .g, .n, .n, .n, .g, .g, .n, .n, .n, .g, (.b true), .g]) (ds := F33_m2_0) (ks := [1, 6]) (e := ((F33_x2 h x1 x2 x3 v4 v5 v6) (0 : Nat)).1) (s2 := ((F33_x2 h x1 x2 x3 v4 v5 v6) (0 : Nat)).2) (hC := (ai l_t (ai (g_tf l_t) (ai (g_tf l_t) (ai (g_tf l_t) (ai (g_tf l_t) (ai (g_tf l_t) (ai (g_tf l_t) (ai c22 (ai (g_tf c22) (ai (g_tf c22) (ai (g_tf c22) kc22)))))))))))) (hd := F33_d2) (h := by kernel_rfl)
    · have kc23 := (ai c22 (ai (g_ff c22) (ai (g_ff c22) (ai (g_ff c22) kc22))))
      refine dec_bif (fun c23 => ?_) (fun c23 => ?_)
      · intro hr
        obtain rfl := Option.some.inj hr
        show AWp Try.prog _ (Ends1 ((F33_x2 h x1 x2 x3 v4 v5 v6) (0 : Nat)).1 ((F33_x2 h x1 x2 x3 v4 v5 v6) (0 : Nat)).2) _
        exact pEnd_sound good (L := F33_L) (D := F33_D) (its := [.g, (.b true), (.ix id21 off21 g21), (.ld (.agg #[.int .i64 y21.1, .int .i64 y21.2.1, .int .i64 y21.2.2.1, .int .i64 y21.2.2.2])), .g, .g, .g, .g, .g, .g, (.w .g), (.w .g), (.w .g), (.p false), .g, .n, .n, .n, (.p true), .g, .n, .n, .n, .g, (.b true), .g]) (ds := F33_m2_0) (ks := [1, 6]) (e := ((F33_x2 h x1 x2 x3 v4 v5 v6) (0 : Nat)).1) (s2 := ((F33_x2 h x1 x2 x3 v4 v5 v6) (0 : Nat)).2) (hC := (ai l_t (ai (g_tf l_t) (ai (g_tf l_t) (ai (g_tf l_t) (ai c23 (ai (g_tf c23) (ai (g_tf c23) (ai (g_tf c23) kc23))))))))) (hd := F33_d2) (h := by kernel_rfl)
      · have kc24 := (ai c23 (ai (g_ff c23) (ai (g_ff c23) (ai (g_ff c23) kc23))))
        refine dec_bif (fun c24 => ?_) (fun c24 => ?_)
        · intro hr
          obtain rfl := Option.some.inj hr
          show AWp Try.prog _ (Ends1 ((F33_x2 h x1 x2 x3 v4 v5 v6) (0 : Nat)).1 ((F33_x2 h x1 x2 x3 v4 v5 v6) (0 : Nat)).2) _
          exact pEnd_sound good (L := F33_L) (D := F33_D) (its := [.g, (.b true), (.ix id21 off21 g21), (.ld (.agg #[.int .i64 y21.1, .int .i64 y21.2.1, .int .i64 y21.2.2.1, .int .i64 y21.2.2.2])), .g, .g, .g, .g, .g, .g, (.w .g), (.w .g), (.w .g), (.p false), .g, (.w .g), (.w .g), (.w .g), (.p false), .g, .n, .n, .n, (.p true), (.b true), .g]) (ds := F33_m2_0) (ks := [1, 6]) (e := ((F33_x2 h x1 x2 x3 v4 v5 v6) (0 : Nat)).1) (s2 := ((F33_x2 h x1 x2 x3 v4 v5 v6) (0 : Nat)).2) (hC := (ai l_t (ai c24 (ai (g_tf c24) (ai (g_tf c24) (ai (g_tf c24) kc24)))))) (hd := F33_d2) (h := by kernel_rfl)
        · have kc25 := (ai c24 (ai (g_ff c24) (ai (g_ff c24) (ai (g_ff c24) kc24))))
          refine dec_bif (fun c25 => ?_) (fun c25 => ?_)
          · intro hr
            obtain rfl := Option.some.inj hr
            show AWp Try.prog _ (Ends1 ((F33_x2 h x1 x2 x3 v4 v5 v6) (0 : Nat)).1 ((F33_x2 h x1 x2 x3 v4 v5 v6) (0 : Nat)).2) _
            exact pEnd_sound good (L := F33_L) (D := F33_D) (its := [.g, (.b true), (.ix id21 off21 g21), (.ld (.agg #[.int .i64 y21.1, .int .i64 y21.2.1, .int .i64 y21.2.2.1, .int .i64 y21.2.2.2])), .g, .g, .g, .g, .g, .g, (.w .g), (.w .g), (.w .g), (.p false), .g, (.w .g), (.w .g), (.w .g), (.p false), .g, (.w .g), (.w .g), (.w .g), (.p false), (.b true), .g]) (ds := F33_m2_0) (ks := [1, 6]) (e := ((F33_x2 h x1 x2 x3 v4 v5 v6) (0 : Nat)).1) (s2 := ((F33_x2 h x1 x2 x3 v4 v5 v6) (0 : Nat)).2) (hC := (ai c25 kc25)) (hd := F33_d2) (h := by kernel_rfl)
          · intro hr
            obtain rfl := Option.some.inj hr
            show AWp Try.prog _ (Ends1 .normal (F33_h2 h x1 x2 x3 v4 l5 v5 v6 (IntKind.i64.wrap (a19 + 1)))) _
            exact pEnd_sound good (L := F33_L) (D := F33_D) (its := [.g, (.b true), (.ix id21 off21 g21), (.ld (.agg #[.int .i64 y21.1, .int .i64 y21.2.1, .int .i64 y21.2.2.1, .int .i64 y21.2.2.2])), .g, .g, .g, .g, .g, .g, (.w .g), (.w .g), (.w .g), (.p false), .g, (.w .g), (.w .g), (.w .g), (.p false), .g, (.w .g), (.w .g), (.w .g), (.p false), (.b false), .g, .g]) (ds := F33_m2_1) (ks := [6]) (e := .normal) (s2 := (F33_h2 h x1 x2 x3 v4 l5 v5 v6 (IntKind.i64.wrap (a19 + 1)))) (hC := (ai c25 kc25)) (hd := F33_d2) (h := by kernel_rfl)
  · intro hr
    obtain rfl := Option.some.inj hr
    show AWp Try.prog _ (Ends1 ((F33_x2 h x1 x2 x3 v4 v5 v6) (1 : Nat)).1 ((F33_x2 h x1 x2 x3 v4 v5 v6) (1 : Nat)).2) _
    exact pEnd_sound good (L := F33_L) (D := F33_D) (its := [.g, (.b false)]) (ds := F33_m2_2) (ks := []) (e := ((F33_x2 h x1 x2 x3 v4 v5 v6) (1 : Nat)).1) (s2 := ((F33_x2 h x1 x2 x3 v4 v5 v6) (1 : Nat)).2) (hC := (ai c20 trivial)) (hd := F33_d2) (h := by kernel_rfl)
theorem F33_l2_0 (h : AHeap) (x1 : Int) (x2 : Int) (x3 : Bool) (v4 : Hd) (l5 : List (Int × Int × Int × Int)) (v5 : Hd) (hv5 : SlE E59 4 h (sv v5) l5) (v6 : Hd) (x : Int) (r : Nat) (hl : loopO (fun (s : Int) => F33_s2 l5 s) x = some r) (q0 : Nat.beq r 0 = true) : AWp Try.prog (.loop (codeOf Try.prog 33 [1, 1, 1, 0, 1, 0, 0])) (Ends1 .ret (F33_x2_0 h x1 x2 x3 v4 v5 v6 r)) ((fun (s : Int) => (F33_h2 h x1 x2 x3 v4 l5 v5 v6 s)) x) := by
  have k := loop_fun (P := Try.prog) (c := (codeOf Try.prog 33 [1, 1, 1, 0, 1, 0, 0])) (step := (fun (s : Int) => F33_s2 l5 s)) (hd := (fun (s : Int) => (F33_h2 h x1 x2 x3 v4 l5 v5 v6 s))) (X := (F33_x2 h x1 x2 x3 v4 v5 v6)) (by intro t; unfold F33_x2; cases Nat.beq t 0 <;> (intro h; cases h)) (fun x => F33_r2 h x1 x2 x3 v4 l5 v5 hv5 v6 x) hl
  simp only [F33_x2, q0, cond_true, cond_false] at k
  exact k
theorem F33_l2_1 (h : AHeap) (x1 : Int) (x2 : Int) (x3 : Bool) (v4 : Hd) (l5 : List (Int × Int × Int × Int)) (v5 : Hd) (hv5 : SlE E59 4 h (sv v5) l5) (v6 : Hd) (x : Int) (r : Nat) (hl : loopO (fun (s : Int) => F33_s2 l5 s) x = some r) (q0 : Nat.beq r 0 = false) : AWp Try.prog (.loop (codeOf Try.prog 33 [1, 1, 1, 0, 1, 0, 0])) (Ends1 (.exit 2) (F33_x2_1 h x1 x2 x3 v4 v5 v6 r)) ((fun (s : Int) => (F33_h2 h x1 x2 x3 v4 l5 v5 v6 s)) x) := by
  have k := loop_fun (P := Try.prog) (c := (codeOf Try.prog 33 [1, 1, 1, 0, 1, 0, 0])) (step := (fun (s : Int) => F33_s2 l5 s)) (hd := (fun (s : Int) => (F33_h2 h x1 x2 x3 v4 l5 v5 v6 s))) (X := (F33_x2 h x1 x2 x3 v4 v5 v6)) (by intro t; unfold F33_x2; cases Nat.beq t 0 <;> (intro h; cases h)) (fun x => F33_r2 h x1 x2 x3 v4 l5 v5 hv5 v6 x) hl
  simp only [F33_x2, q0, cond_true, cond_false] at k
  exact k
def F33_m3_2 : List Bool := (true :: false :: (rp 115 true []))
def F33_m3_1 : List Bool := (true :: false :: (rp 73 true (false :: false :: false :: (rp 39 true []))))
def F33_m3_0 : List Bool := (true :: true :: false :: (rp 114 true []))
def F33_s3 (l5 : List (Int × Int × Int × Int)) (l6 : List (Int × Int)) (a28 : Int) : Option (Int ⊕ Nat) :=
  (bif decide (a28 < (l6.length : Int)) then
   (Option.bind (at? l6 a28) fun y30 =>
   (bif (y30.1 == (-1)) then
    (bif (!(y30.2 == 0)) then
     (bif decide (y30.1 < 0) then
      some (.inr 0)
     else
      (bif decide (y30.1 ≥ (l5.length : Int)) then
       some (.inr 0)
      else
       (bif decide (y30.2 < 1) then
        some (.inr 0)
       else
        (bif decide (y30.2 > 256) then
         some (.inr 0)
        else
         some (.inl (IntKind.i64.wrap (a28 + 1)))))))
    else
     some (.inl (IntKind.i64.wrap (a28 + 1))))
   else
    (bif decide (y30.1 < 0) then
     some (.inr 0)
    else
     (bif decide (y30.1 ≥ (l5.length : Int)) then
      some (.inr 0)
     else
      (bif decide (y30.2 < 1) then
       some (.inr 0)
      else
       (bif decide (y30.2 > 256) then
        some (.inr 0)
       else
        some (.inl (IntKind.i64.wrap (a28 + 1)))))))))
  else
   some (.inr 1))
def F33_h3 (h : AHeap) (x1 : Int) (x2 : Int) (x3 : Bool) (v4 : Hd) (v5 : Hd) (l6 : List (Int × Int)) (v6 : Hd)  (a28 : Int) : AS := ⟨(junk :: (.pointer (some ⟨1, 0, none⟩)) :: (rp 73 junk ((sv v6) :: (.int .i64 (l6.length : Int)) :: (.int .i64 a28) :: (rp 39 junk [])))), [(1, [.int .i64 x1, .int .i64 x2, .bool x3, (sv v4), (sv v5), (sv v6)])], h⟩
theorem F33_d3 : drawsOk F33_D (codeOf Try.prog 33 [1, 1, 1, 1, 0, 1, 0, 0]) = true := by kernel_rfl
def F33_x3_0 (h : AHeap) (x1 : Int) (x2 : Int) (x3 : Bool) (v4 : Hd) (v5 : Hd) (v6 : Hd)  (r : Nat) : AS := ⟨(junk :: junk :: (.bool false) :: (rp 114 junk [])), [], h⟩
def F33_x3_1 (h : AHeap) (x1 : Int) (x2 : Int) (x3 : Bool) (v4 : Hd) (v5 : Hd) (v6 : Hd)  (r : Nat) : AS := ⟨(junk :: (.pointer (some ⟨1, 0, none⟩)) :: (rp 115 junk [])), [(1, [.int .i64 x1, .int .i64 x2, .bool x3, (sv v4), (sv v5), (sv v6)])], h⟩
def F33_x3 (h : AHeap) (x1 : Int) (x2 : Int) (x3 : Bool) (v4 : Hd) (v5 : Hd) (v6 : Hd) (r : Nat) : Exit × AS := (bif Nat.beq r 0 then (.ret, (F33_x3_0 h x1 x2 x3 v4 v5 v6 r)) else ((.exit 4), (F33_x3_1 h x1 x2 x3 v4 v5 v6 r)))
set_option maxRecDepth 100000 in
theorem F33_r3 (h : AHeap) (x1 : Int) (x2 : Int) (x3 : Bool) (v4 : Hd) (l5 : List (Int × Int × Int × Int)) (v5 : Hd) (hv5 : SlE E59 4 h (sv v5) l5) (l6 : List (Int × Int)) (v6 : Hd) (hv6 : SlE E61 2 h (sv v6) l6) (a28 : Int) (o : Int ⊕ Nat) : F33_s3 l5 l6 a28 = some o → RdF Try.prog (codeOf Try.prog 33 [1, 1, 1, 1, 0, 1, 0, 0]) (fun (s : Int) => (F33_h3 h x1 x2 x3 v4 v5 l6 v6 s)) (F33_x3 h x1 x2 x3 v4 v5 v6) (F33_h3 h x1 x2 x3 v4 v5 l6 v6 a28) o := by
  unfold F33_s3
  refine dec_bif (fun c29 => ?_) (fun c29 => ?_)
  · refine bind_opt fun y30 e30 => ?_
    obtain ⟨id30, off30, g30, cs30, ix30, at30, rfl⟩ := SlE.at hv6 e30
    have kc31 := (ai (At.agg (P := Try.prog) (t := 61) (v := .agg #[.int .i64 y30.1, .int .i64 y30.2]) (m := 2) at30 (by kernel_rfl) (by kernel_rfl) 0 (by kernel_rfl) rfl) (ai ix30 (ai c29 trivial)))
    refine dec_bif (fun c31 => ?_) (fun c31 => ?_)
    · have kc32 := (ai c31 (ai (g_tt c31) (ai (g_tt c31) (ai (g_tt c31) kc31))))
      refine dec_bif (fun c32 => ?_) (fun c32 => ?_)
      · have kc33 := (ai (g_tt c32) (ai (g_tt c32) (ai (g_tt c32) (ai (g_tt c32) kc32))))
        refine dec_bif (fun c33 => ?_) (fun c33 => ?_)
        · intro hr
          obtain rfl := Option.some.inj hr
          show AWp Try.prog _ (Ends1 ((F33_x3 h x1 x2 x3 v4 v5 v6) (0 : Nat)).1 ((F33_x3 h x1 x2 x3 v4 v5 v6) (0 : Nat)).2) _
          exact pEnd_sound good (L := F33_L) (D := F33_D) (its := [.g, (.b true), (.ix id30 off30 g30), (.ld (.agg #[.int .i64 y30.1, .int .i64 y30.2])), .g, .g, .g, .g, .g, .g, (.w .g), (.w .g), (.w .g), (.p true), .g, .g, .g, .g, (.w .g), (.w .g), (.w .g), (.w .g), .n, .n, .n, .n, .n, .n, (.w (.p true)), (.w .g), .n, .n, .n, (.w .g), (.w .g), .n, .n, .n, (.w .g), (.p true), (.b true), .g]) (ds := F33_m3_0) (ks := [1, 8]) (e := ((F33_x3 h x1 x2 x3 v4 v5 v6) (0 : Nat)).1) (s2 := ((F33_x3 h x1 x2 x3 v4 v5 v6) (0 : Nat)).2) (hC := (ai l_t (ai c32 (ai (g_tt c32) (ai (g_tf l_t) (ai (g_tf l_t) (ai (g_tf l_t) (ai (g_tt c32) (ai (g_tt c32) (ai (g_tf l_t) (ai (g_tf l_t) (ai (g_tf l_t) (ai (g_tt c32) (ai c33 (ai (g_tt c32) (ai (g_tf c33) (ai (g_tf c33) (ai (g_tf c33) (ai (g_tf c33) (ai (g_tf c33) (ai (g_tf c33) kc33))))))))))))))))))))) (hd := F33_d3) (h := by kernel_rfl)
        · have kc34 := (ai (g_tt c32) (ai c33 (ai (g_tt c32) (ai (g_ff c33) (ai (SlE.len hv5) (ai (g_ff c33) (ai (g_ff c33) (ai (g_ff c33) (ai (g_ff c33) (ai (g_ff c33) kc33))))))))))
          refine dec_bif (fun c34 => ?_) (fun c34 => ?_)
          · intro hr
            obtain rfl := Option.some.inj hr
            show AWp Try.prog _ (Ends1 ((F33_x3 h x1 x2 x3 v4 v5 v6) (0 : Nat)).1 ((F33_x3 h x1 x2 x3 v4 v5 v6) (0 : Nat)).2) _
            exact pEnd_sound good (L := F33_L) (D := F33_D) (its := [.g, (.b true), (.ix id30 off30 g30), (.ld (.agg #[.int .i64 y30.1, .int .i64 y30.2])), .g, .g, .g, .g, .g, .g, (.w .g), (.w .g), (.w .g), (.p true), .g, .g, .g, .g, (.w .g), (.w .g), (.w .g), (.w .g), (.w .g), (.w .g), (.w .g), (.w .g), (.w (.ln l5.length)), (.w .g), (.w (.p false)), (.w .g), .n, .n, .n, (.w (.p true)), (.w .g), .n, .n, .n, (.w .g), (.p true), (.b true), .g]) (ds := F33_m3_0) (ks := [1, 8]) (e := ((F33_x3 h x1 x2 x3 v4 v5 v6) (0 : Nat)).1) (s2 := ((F33_x3 h x1 x2 x3 v4 v5 v6) (0 : Nat)).2) (hC := (ai l_t (ai c32 (ai (g_tt c32) (ai (g_tf l_t) (ai (g_tf l_t) (ai (g_tf l_t) (ai (g_tt c32) (ai c34 (ai (g_tt c32) (ai (g_tf c34) (ai (g_tf c34) (ai (g_tf c34) kc34))))))))))))) (hd := F33_d3) (h := by kernel_rfl)
          · have kc35 := (ai (g_tt c32) (ai c34 (ai (g_tt c32) (ai (g_ff c34) (ai (g_ff c34) (ai (g_ff c34) kc34))))))
            refine dec_bif (fun c35 => ?_) (fun c35 => ?_)
            · intro hr
              obtain rfl := Option.some.inj hr
              show AWp Try.prog _ (Ends1 ((F33_x3 h x1 x2 x3 v4 v5 v6) (0 : Nat)).1 ((F33_x3 h x1 x2 x3 v4 v5 v6) (0 : Nat)).2) _
              exact pEnd_sound good (L := F33_L) (D := F33_D) (its := [.g, (.b true), (.ix id30 off30 g30), (.ld (.agg #[.int .i64 y30.1, .int .i64 y30.2])), .g, .g, .g, .g, .g, .g, (.w .g), (.w .g), (.w .g), (.p true), .g, .g, .g, .g, (.w .g), (.w .g), (.w .g), (.w .g), (.w .g), (.w .g), (.w .g), (.w .g), (.w (.ln l5.length)), (.w .g), (.w (.p false)), (.w .g), (.w .g), (.w .g), (.w .g), (.w (.p false)), (.w .g), .n, .n, .n, (.w (.p true)), (.p true), (.b true), .g]) (ds := F33_m3_0) (ks := [1, 8]) (e := ((F33_x3 h x1 x2 x3 v4 v5 v6) (0 : Nat)).1) (s2 := ((F33_x3 h x1 x2 x3 v4 v5 v6) (0 : Nat)).2) (hC := (ai l_t (ai c32 (ai c35 (ai (g_tt c32) (ai (g_tf c35) (ai (g_tf c35) (ai (g_tf c35) kc35)))))))) (hd := F33_d3) (h := by kernel_rfl)
            · have kc36 := (ai c32 (ai c35 (ai (g_tt c32) (ai (g_ff c35) (ai (g_ff c35) (ai (g_ff c35) kc35))))))
              refine dec_bif (fun c36 => ?_) (fun c36 => ?_)
              · intro hr
                obtain rfl := Option.some.inj hr
                show AWp Try.prog _ (Ends1 ((F33_x3 h x1 x2 x3 v4 v5 v6) (0 : Nat)).1 ((F33_x3 h x1 x2 x3 v4 v5 v6) (0 : Nat)).2) _
                exact pEnd_sound good (L := F33_L) (D := F33_D) (its := [.g, (.b true), (.ix id30 off30 g30), (.ld (.agg #[.int .i64 y30.1, .int .i64 y30.2])), .g, .g, .g, .g, .g, .g, (.w .g), (.w .g), (.w .g), (.p true), .g, .g, .g, .g, (.w .g), (.w .g), (.w .g), (.w .g), (.w .g), (.w .g), (.w .g), (.w .g), (.w (.ln l5.length)), (.w .g), (.w (.p false)), (.w .g), (.w .g), (.w .g), (.w .g), (.w (.p false)), (.w .g), (.w .g), (.w .g), (.w .g), (.w (.p false)), (.p true), (.b true), .g]) (ds := F33_m3_0) (ks := [1, 8]) (e := ((F33_x3 h x1 x2 x3 v4 v5 v6) (0 : Nat)).1) (s2 := ((F33_x3 h x1 x2 x3 v4 v5 v6) (0 : Nat)).2) (hC := (ai c36 kc36)) (hd := F33_d3) (h := by kernel_rfl)
              · intro hr
                obtain rfl := Option.some.inj hr
                show AWp Try.prog _ (Ends1 .normal (F33_h3 h x1 x2 x3 v4 v5 l6 v6 (IntKind.i64.wrap (a28 + 1)))) _
                exact pEnd_sound good (L := F33_L) (D := F33_D) (its := [.g, (.b true), (.ix id30 off30 g30), (.ld (.agg #[.int .i64 y30.1, .int .i64 y30.2])), .g, .g, .g, .g, .g, .g, (.w .g), (.w .g), (.w .g), (.p true), .g, .g, .g, .g, (.w .g), (.w .g), (.w .g), (.w .g), (.w .g), (.w .g), (.w .g), (.w .g), (.w (.ln l5.length)), (.w .g), (.w (.p false)), (.w .g), (.w .g), (.w .g), (.w .g), (.w (.p false)), (.w .g), (.w .g), (.w .g), (.w .g), (.w (.p false)), (.p true), (.b false), .g, .g]) (ds := F33_m3_1) (ks := [8]) (e := .normal) (s2 := (F33_h3 h x1 x2 x3 v4 v5 l6 v6 (IntKind.i64.wrap (a28 + 1)))) (hC := (ai c36 kc36)) (hd := F33_d3) (h := by kernel_rfl)
      · intro hr
        obtain rfl := Option.some.inj hr
        show AWp Try.prog _ (Ends1 .normal (F33_h3 h x1 x2 x3 v4 v5 l6 v6 (IntKind.i64.wrap (a28 + 1)))) _
        exact pEnd_sound good (L := F33_L) (D := F33_D) (its := [.g, (.b true), (.ix id30 off30 g30), (.ld (.agg #[.int .i64 y30.1, .int .i64 y30.2])), .g, .g, .g, .g, .g, .g, (.w .g), (.w .g), (.w .g), (.p true), .g, .g, .g, .g, .n, .n, .n, .n, .n, .n, .n, .n, .n, .n, .n, .n, .n, .n, .n, .n, .n, .n, .n, .n, .n, (.p false), (.b false), .g, .g]) (ds := F33_m3_1) (ks := [8]) (e := .normal) (s2 := (F33_h3 h x1 x2 x3 v4 v5 l6 v6 (IntKind.i64.wrap (a28 + 1)))) (hC := (ai l_f (ai c32 (ai (g_ft c32) (ai l_f (ai l_f (ai l_f (ai (g_ft c32) (ai (g_ft c32) (ai l_f (ai l_f (ai l_f (ai (g_ft c32) (ai (g_ft c32) (ai l_f (ai l_f (ai l_f (ai l_f (ai l_f (ai l_f (ai (g_ft c32) (ai (g_ft c32) (ai (g_ft c32) (ai (g_ft c32) kc32)))))))))))))))))))))))) (hd := F33_d3) (h := by kernel_rfl)
    · have kc37 := (ai (g_tt l_t) (ai (g_tt l_t) (ai (g_tt l_t) (ai (g_tt l_t) (ai c31 (ai (g_ft c31) (ai (g_ft c31) (ai (g_ft c31) kc31))))))))
      refine dec_bif (fun c37 => ?_) (fun c37 => ?_)
      · intro hr
        obtain rfl := Option.some.inj hr
        show AWp Try.prog _ (Ends1 ((F33_x3 h x1 x2 x3 v4 v5 v6) (0 : Nat)).1 ((F33_x3 h x1 x2 x3 v4 v5 v6) (0 : Nat)).2) _
        exact pEnd_sound good (L := F33_L) (D := F33_D) (its := [.g, (.b true), (.ix id30 off30 g30), (.ld (.agg #[.int .i64 y30.1, .int .i64 y30.2])), .g, .g, .g, .g, .g, .g, .n, .n, .n, (.p false), .g, .g, .g, .g, (.w .g), (.w .g), (.w .g), (.w .g), .n, .n, .n, .n, .n, .n, (.w (.p true)), (.w .g), .n, .n, .n, (.w .g), (.w .g), .n, .n, .n, (.w .g), .g, (.b true), .g]) (ds := F33_m3_0) (ks := [1, 8]) (e := ((F33_x3 h x1 x2 x3 v4 v5 v6) (0 : Nat)).1) (s2 := ((F33_x3 h x1 x2 x3 v4 v5 v6) (0 : Nat)).2) (hC := (ai l_t (ai (g_tt l_t) (ai (g_tf l_t) (ai (g_tf l_t) (ai (g_tf l_t) (ai (g_tt l_t) (ai (g_tt l_t) (ai (g_tf l_t) (ai (g_tf l_t) (ai (g_tf l_t) (ai (g_tt l_t) (ai c37 (ai (g_tt l_t) (ai (g_tf c37) (ai (g_tf c37) (ai (g_tf c37) (ai (g_tf c37) (ai (g_tf c37) (ai (g_tf c37) kc37)))))))))))))))))))) (hd := F33_d3) (h := by kernel_rfl)
      · have kc38 := (ai (g_tt l_t) (ai c37 (ai (g_tt l_t) (ai (g_ff c37) (ai (SlE.len hv5) (ai (g_ff c37) (ai (g_ff c37) (ai (g_ff c37) (ai (g_ff c37) (ai (g_ff c37) kc37))))))))))
        refine dec_bif (fun c38 => ?_) (fun c38 => ?_)
        · intro hr
          obtain rfl := Option.some.inj hr
          show AWp Try.prog _ (Ends1 ((F33_x3 h x1 x2 x3 v4 v5 v6) (0 : Nat)).1 ((F33_x3 h x1 x2 x3 v4 v5 v6) (0 : Nat)).2) _
          exact pEnd_sound good (L := F33_L) (D := F33_D) (its := [.g, (.b true), (.ix id30 off30 g30), (.ld (.agg #[.int .i64 y30.1, .int .i64 y30.2])), .g, .g, .g, .g, .g, .g, .n, .n, .n, (.p false), .g, .g, .g, .g, (.w .g), (.w .g), (.w .g), (.w .g), (.w .g), (.w .g), (.w .g), (.w .g), (.w (.ln l5.length)), (.w .g), (.w (.p false)), (.w .g), .n, .n, .n, (.w (.p true)), (.w .g), .n, .n, .n, (.w .g), .g, (.b true), .g]) (ds := F33_m3_0) (ks := [1, 8]) (e := ((F33_x3 h x1 x2 x3 v4 v5 v6) (0 : Nat)).1) (s2 := ((F33_x3 h x1 x2 x3 v4 v5 v6) (0 : Nat)).2) (hC := (ai l_t (ai (g_tt l_t) (ai (g_tf l_t) (ai (g_tf l_t) (ai (g_tf l_t) (ai (g_tt l_t) (ai c38 (ai (g_tt l_t) (ai (g_tf c38) (ai (g_tf c38) (ai (g_tf c38) kc38)))))))))))) (hd := F33_d3) (h := by kernel_rfl)
        · have kc39 := (ai (g_tt l_t) (ai c38 (ai (g_tt l_t) (ai (g_ff c38) (ai (g_ff c38) (ai (g_ff c38) kc38))))))
          refine dec_bif (fun c39 => ?_) (fun c39 => ?_)
          · intro hr
            obtain rfl := Option.some.inj hr
            show AWp Try.prog _ (Ends1 ((F33_x3 h x1 x2 x3 v4 v5 v6) (0 : Nat)).1 ((F33_x3 h x1 x2 x3 v4 v5 v6) (0 : Nat)).2) _
            exact pEnd_sound good (L := F33_L) (D := F33_D) (its := [.g, (.b true), (.ix id30 off30 g30), (.ld (.agg #[.int .i64 y30.1, .int .i64 y30.2])), .g, .g, .g, .g, .g, .g, .n, .n, .n, (.p false), .g, .g, .g, .g, (.w .g), (.w .g), (.w .g), (.w .g), (.w .g), (.w .g), (.w .g), (.w .g), (.w (.ln l5.length)), (.w .g), (.w (.p false)), (.w .g), (.w .g), (.w .g), (.w .g), (.w (.p false)), (.w .g), .n, .n, .n, (.w (.p true)), .g, (.b true), .g]) (ds := F33_m3_0) (ks := [1, 8]) (e := ((F33_x3 h x1 x2 x3 v4 v5 v6) (0 : Nat)).1) (s2 := ((F33_x3 h x1 x2 x3 v4 v5 v6) (0 : Nat)).2) (hC := (ai l_t (ai c39 (ai (g_tt l_t) (ai (g_tf c39) (ai (g_tf c39) (ai (g_tf c39) kc39))))))) (hd := F33_d3) (h := by kernel_rfl)
          · have kc40 := (ai c39 (ai (g_tt l_t) (ai (g_ff c39) (ai (g_ff c39) (ai (g_ff c39) kc39)))))
            refine dec_bif (fun c40 => ?_) (fun c40 => ?_)
            · intro hr
              obtain rfl := Option.some.inj hr
              show AWp Try.prog _ (Ends1 ((F33_x3 h x1 x2 x3 v4 v5 v6) (0 : Nat)).1 ((F33_x3 h x1 x2 x3 v4 v5 v6) (0 : Nat)).2) _
              exact pEnd_sound good (L := F33_L) (D := F33_D) (its := [.g, (.b true), (.ix id30 off30 g30), (.ld (.agg #[.int .i64 y30.1, .int .i64 y30.2])), .g, .g, .g, .g, .g, .g, .n, .n, .n, (.p false), .g, .g, .g, .g, (.w .g), (.w .g), (.w .g), (.w .g), (.w .g), (.w .g), (.w .g), (.w .g), (.w (.ln l5.length)), (.w .g), (.w (.p false)), (.w .g), (.w .g), (.w .g), (.w .g), (.w (.p false)), (.w .g), (.w .g), (.w .g), (.w .g), (.w (.p false)), .g, (.b true), .g]) (ds := F33_m3_0) (ks := [1, 8]) (e := ((F33_x3 h x1 x2 x3 v4 v5 v6) (0 : Nat)).1) (s2 := ((F33_x3 h x1 x2 x3 v4 v5 v6) (0 : Nat)).2) (hC := (ai c40 kc40)) (hd := F33_d3) (h := by kernel_rfl)
            · intro hr
              obtain rfl := Option.some.inj hr
              show AWp Try.prog _ (Ends1 .normal (F33_h3 h x1 x2 x3 v4 v5 l6 v6 (IntKind.i64.wrap (a28 + 1)))) _
              exact pEnd_sound good (L := F33_L) (D := F33_D) (its := [.g, (.b true), (.ix id30 off30 g30), (.ld (.agg #[.int .i64 y30.1, .int .i64 y30.2])), .g, .g, .g, .g, .g, .g, .n, .n, .n, (.p false), .g, .g, .g, .g, (.w .g), (.w .g), (.w .g), (.w .g), (.w .g), (.w .g), (.w .g), (.w .g), (.w (.ln l5.length)), (.w .g), (.w (.p false)), (.w .g), (.w .g), (.w .g), (.w .g), (.w (.p false)), (.w .g), (.w .g), (.w .g), (.w .g), (.w (.p false)), .g, (.b false), .g, .g]) (ds := F33_m3_1) (ks := [8]) (e := .normal) (s2 := (F33_h3 h x1 x2 x3 v4 v5 l6 v6 (IntKind.i64.wrap (a28 + 1)))) (hC := (ai c40 kc40)) (hd := F33_d3) (h := by kernel_rfl)
  · intro hr
    obtain rfl := Option.some.inj hr
    show AWp Try.prog _ (Ends1 ((F33_x3 h x1 x2 x3 v4 v5 v6) (1 : Nat)).1 ((F33_x3 h x1 x2 x3 v4 v5 v6) (1 : Nat)).2) _
    exact pEnd_sound good (L := F33_L) (D := F33_D) (its := [.g, (.b false)]) (ds := F33_m3_2) (ks := []) (e := ((F33_x3 h x1 x2 x3 v4 v5 v6) (1 : Nat)).1) (s2 := ((F33_x3 h x1 x2 x3 v4 v5 v6) (1 : Nat)).2) (hC := (ai c29 trivial)) (hd := F33_d3) (h := by kernel_rfl)
theorem F33_l3_0 (h : AHeap) (x1 : Int) (x2 : Int) (x3 : Bool) (v4 : Hd) (l5 : List (Int × Int × Int × Int)) (v5 : Hd) (hv5 : SlE E59 4 h (sv v5) l5) (l6 : List (Int × Int)) (v6 : Hd) (hv6 : SlE E61 2 h (sv v6) l6) (x : Int) (r : Nat) (hl : loopO (fun (s : Int) => F33_s3 l5 l6 s) x = some r) (q0 : Nat.beq r 0 = true) : AWp Try.prog (.loop (codeOf Try.prog 33 [1, 1, 1, 1, 0, 1, 0, 0])) (Ends1 .ret (F33_x3_0 h x1 x2 x3 v4 v5 v6 r)) ((fun (s : Int) => (F33_h3 h x1 x2 x3 v4 v5 l6 v6 s)) x) := by
  have k := loop_fun (P := Try.prog) (c := (codeOf Try.prog 33 [1, 1, 1, 1, 0, 1, 0, 0])) (step := (fun (s : Int) => F33_s3 l5 l6 s)) (hd := (fun (s : Int) => (F33_h3 h x1 x2 x3 v4 v5 l6 v6 s))) (X := (F33_x3 h x1 x2 x3 v4 v5 v6)) (by intro t; unfold F33_x3; cases Nat.beq t 0 <;> (intro h; cases h)) (fun x => F33_r3 h x1 x2 x3 v4 l5 v5 hv5 l6 v6 hv6 x) hl
  simp only [F33_x3, q0, cond_true, cond_false] at k
  exact k
theorem F33_l3_1 (h : AHeap) (x1 : Int) (x2 : Int) (x3 : Bool) (v4 : Hd) (l5 : List (Int × Int × Int × Int)) (v5 : Hd) (hv5 : SlE E59 4 h (sv v5) l5) (l6 : List (Int × Int)) (v6 : Hd) (hv6 : SlE E61 2 h (sv v6) l6) (x : Int) (r : Nat) (hl : loopO (fun (s : Int) => F33_s3 l5 l6 s) x = some r) (q0 : Nat.beq r 0 = false) : AWp Try.prog (.loop (codeOf Try.prog 33 [1, 1, 1, 1, 0, 1, 0, 0])) (Ends1 (.exit 4) (F33_x3_1 h x1 x2 x3 v4 v5 v6 r)) ((fun (s : Int) => (F33_h3 h x1 x2 x3 v4 v5 l6 v6 s)) x) := by
  have k := loop_fun (P := Try.prog) (c := (codeOf Try.prog 33 [1, 1, 1, 1, 0, 1, 0, 0])) (step := (fun (s : Int) => F33_s3 l5 l6 s)) (hd := (fun (s : Int) => (F33_h3 h x1 x2 x3 v4 v5 l6 v6 s))) (X := (F33_x3 h x1 x2 x3 v4 v5 v6)) (by intro t; unfold F33_x3; cases Nat.beq t 0 <;> (intro h; cases h)) (fun x => F33_r3 h x1 x2 x3 v4 l5 v5 hv5 l6 v6 hv6 x) hl
  simp only [F33_x3, q0, cond_true, cond_false] at k
  exact k
def F33 (x1 : Int) (x2 : Int) (x3 : Bool) (l4 : List (Int × Int × Int × Int)) (l5 : List (Int × Int × Int × Int)) (l6 : List (Int × Int)) : Option (Bool) :=
  (bif decide (x1 < 0) then
   some (false)
  else
   (bif decide (x1 > 4096) then
    some (false)
   else
    (bif decide (x2 < 0) then
     some (false)
    else
     (bif decide (x2 > 4094) then
      some (false)
     else
      (bif ((l6.length : Int) != x1) then
       some (false)
      else
       (Option.bind (loopO (fun (s : Int) => F33_s1 x1 x2 x3 l4 l5 l6 s) 0) fun y17 =>
       (bif (Nat.beq y17 0) then
        some (false)
       else
        (Option.bind (loopO (fun (s : Int) => F33_s2 l5 s) 0) fun y26 =>
        (bif (Nat.beq y26 0) then
         some (false)
        else
         (Option.bind (loopO (fun (s : Int) => F33_s3 l5 l6 s) 0) fun y41 =>
         (bif (Nat.beq y41 0) then
          some (false)
         else
          (Option.bind (F54 x1 x2 x3 l4 l5 l6) fun y43 =>
          some (y43)))))))))))))
set_option maxRecDepth 100000 in
theorem F33_spec (x1 : Int) (x2 : Int) (x3 : Bool) (l4 : List (Int × Int × Int × Int)) (l5 : List (Int × Int × Int × Int)) (l6 : List (Int × Int)) (v4 : Hd) (v5 : Hd) (v6 : Hd) (h : AHeap) (hv4 : SlE E57 4 h (sv v4) l4) (hv5 : SlE E59 4 h (sv v5) l5) (hv6 : SlE E61 2 h (sv v6) l6) (r : Bool) : F33 x1 x2 x3 l4 l5 l6 = some r → ACalls Try.prog 33 [.agg #[.int .i64 x1, .int .i64 x2, .bool x3, (sv v4), (sv v5), (sv v6)]] h (fun v' h'' => v' = (.bool r : Value) ∧ h'' = h) := by
  unfold F33
  refine dec_bif (fun c7 => ?_) (fun c7 => ?_)
  · intro hr
    obtain rfl := Option.some.inj hr
    exact pFun_sound good tab_ok (f := 33) (its := [.g, .g, .g, .g, .g, .g, .n, .n, .n, (.p true), .g, .n, .n, .n, .g, .g, .n, .n, .n, .g, .g, .n, .n, .n, .n, .n, .n, .g, (.b true), .g]) (args := [.agg #[.int .i64 x1, .int .i64 x2, .bool x3, (sv v4), (sv v5), (sv v6)]]) (h := h) (h' := h) (v := .bool false) (hC := (ai l_t (ai (g_tf l_t) (ai (g_tf l_t) (ai (g_tf l_t) (ai (g_tf l_t) (ai (g_tf l_t) (ai (g_tf l_t) (ai (g_tf l_t) (ai (g_tf l_t) (ai (g_tf l_t) (ai (g_tf l_t) (ai (g_tf l_t) (ai (g_tf l_t) (ai c7 (ai (g_tf c7) (ai (g_tf c7) (ai (g_tf c7) trivial)))))))))))))))))) (hr := by kernel_rfl)
  · have kc8 := (ai c7 (ai (g_ff c7) (ai (g_ff c7) (ai (g_ff c7) trivial))))
    refine dec_bif (fun c8 => ?_) (fun c8 => ?_)
    · intro hr
      obtain rfl := Option.some.inj hr
      exact pFun_sound good tab_ok (f := 33) (its := [.g, .g, .g, .g, .g, .g, (.w .g), (.w .g), (.w .g), (.p false), .g, .n, .n, .n, (.p true), .g, .n, .n, .n, .g, .g, .n, .n, .n, .n, .n, .n, .g, (.b true), .g]) (args := [.agg #[.int .i64 x1, .int .i64 x2, .bool x3, (sv v4), (sv v5), (sv v6)]]) (h := h) (h' := h) (v := .bool false) (hC := (ai l_t (ai (g_tf l_t) (ai (g_tf l_t) (ai (g_tf l_t) (ai (g_tf l_t) (ai (g_tf l_t) (ai (g_tf l_t) (ai (g_tf l_t) (ai (g_tf l_t) (ai (g_tf l_t) (ai c8 (ai (g_tf c8) (ai (g_tf c8) (ai (g_tf c8) kc8))))))))))))))) (hr := by kernel_rfl)
    · have kc9 := (ai c8 (ai (g_ff c8) (ai (g_ff c8) (ai (g_ff c8) kc8))))
      refine dec_bif (fun c9 => ?_) (fun c9 => ?_)
      · intro hr
        obtain rfl := Option.some.inj hr
        exact pFun_sound good tab_ok (f := 33) (its := [.g, .g, .g, .g, .g, .g, (.w .g), (.w .g), (.w .g), (.p false), .g, (.w .g), (.w .g), (.w .g), (.p false), .g, .n, .n, .n, (.p true), .g, .n, .n, .n, .n, .n, .n, .g, (.b true), .g]) (args := [.agg #[.int .i64 x1, .int .i64 x2, .bool x3, (sv v4), (sv v5), (sv v6)]]) (h := h) (h' := h) (v := .bool false) (hC := (ai l_t (ai (g_tf l_t) (ai (g_tf l_t) (ai (g_tf l_t) (ai (g_tf l_t) (ai (g_tf l_t) (ai (g_tf l_t) (ai c9 (ai (g_tf c9) (ai (g_tf c9) (ai (g_tf c9) kc9)))))))))))) (hr := by kernel_rfl)
      · have kc10 := (ai c9 (ai (g_ff c9) (ai (g_ff c9) (ai (g_ff c9) kc9))))
        refine dec_bif (fun c10 => ?_) (fun c10 => ?_)
        · intro hr
          obtain rfl := Option.some.inj hr
          exact pFun_sound good tab_ok (f := 33) (its := [.g, .g, .g, .g, .g, .g, (.w .g), (.w .g), (.w .g), (.p false), .g, (.w .g), (.w .g), (.w .g), (.p false), .g, (.w .g), (.w .g), (.w .g), (.p false), .g, .n, .n, .n, .n, .n, .n, (.p true), (.b true), .g]) (args := [.agg #[.int .i64 x1, .int .i64 x2, .bool x3, (sv v4), (sv v5), (sv v6)]]) (h := h) (h' := h) (v := .bool false) (hC := (ai l_t (ai c10 (ai (g_tf c10) (ai (g_tf c10) (ai (g_tf c10) (ai (g_tf c10) (ai (g_tf c10) (ai (g_tf c10) kc10))))))))) (hr := by kernel_rfl)
        · have kc11 := (ai c10 (ai (g_ff c10) (ai (g_ff c10) (ai (g_ff c10) (ai (SlE.len hv6) (ai (g_ff c10) (ai (g_ff c10) (ai (g_ff c10) kc10))))))))
          refine dec_bif (fun c11 => ?_) (fun c11 => ?_)
          · intro hr
            obtain rfl := Option.some.inj hr
            exact pFun_sound good tab_ok (f := 33) (its := [.g, .g, .g, .g, .g, .g, (.w .g), (.w .g), (.w .g), (.p false), .g, (.w .g), (.w .g), (.w .g), (.p false), .g, (.w .g), (.w .g), (.w .g), (.p false), .g, (.w .g), (.w .g), (.w (.ln l6.length)), (.w .g), (.w .g), (.w .g), (.p false), (.b true), .g]) (args := [.agg #[.int .i64 x1, .int .i64 x2, .bool x3, (sv v4), (sv v5), (sv v6)]]) (h := h) (h' := h) (v := .bool false) (hC := (ai c11 kc11)) (hr := by kernel_rfl)
          · refine bind_opt fun y17 e17 => ?_
            have kc18 := (ai (SlE.len hv4) (ai c11 kc11))
            refine dec_bif (fun c18 => ?_) (fun c18 => ?_)
            · intro hr
              obtain rfl := Option.some.inj hr
              exact pFun_sound good tab_ok (f := 33) (its := [.g, .g, .g, .g, .g, .g, (.w .g), (.w .g), (.w .g), (.p false), .g, (.w .g), (.w .g), (.w .g), (.p false), .g, (.w .g), (.w .g), (.w .g), (.p false), .g, (.w .g), (.w .g), (.w (.ln l6.length)), (.w .g), (.w .g), (.w .g), (.p false), (.b false), .g, .g, (.ln l4.length), .g, (.l F33_m1_1 [] .ret (F33_x1_0 h x1 x2 x3 v4 v5 v6 y17))]) (args := [.agg #[.int .i64 x1, .int .i64 x2, .bool x3, (sv v4), (sv v5), (sv v6)]]) (h := h) (h' := h) (v := .bool false) (hC := (ai (F33_l1_0 h x1 x2 x3 l4 v4 hv4 l5 v5 hv5 l6 v6 hv6 0 y17 e17 c18) kc18)) (hr := by kernel_rfl)
            · refine bind_opt fun y26 e26 => ?_
              have kc27 := (ai (SlE.len hv5) (ai (F33_l1_1 h x1 x2 x3 l4 v4 hv4 l5 v5 hv5 l6 v6 hv6 0 y17 e17 c18) kc18))
              refine dec_bif (fun c27 => ?_) (fun c27 => ?_)
              · intro hr
                obtain rfl := Option.some.inj hr
                exact pFun_sound good tab_ok (f := 33) (its := [.g, .g, .g, .g, .g, .g, (.w .g), (.w .g), (.w .g), (.p false), .g, (.w .g), (.w .g), (.w .g), (.p false), .g, (.w .g), (.w .g), (.w .g), (.p false), .g, (.w .g), (.w .g), (.w (.ln l6.length)), (.w .g), (.w .g), (.w .g), (.p false), (.b false), .g, .g, (.ln l4.length), .g, (.l F33_m1_1 [] (.exit 0) (F33_x1_1 h x1 x2 x3 v4 v5 v6 y17)), .g, .g, (.ln l5.length), .g, (.l F33_m2_1 [] .ret (F33_x2_0 h x1 x2 x3 v4 v5 v6 y26))]) (args := [.agg #[.int .i64 x1, .int .i64 x2, .bool x3, (sv v4), (sv v5), (sv v6)]]) (h := h) (h' := h) (v := .bool false) (hC := (ai (F33_l2_0 h x1 x2 x3 v4 l5 v5 hv5 v6 0 y26 e26 c27) kc27)) (hr := by kernel_rfl)
              · refine bind_opt fun y41 e41 => ?_
                have kc42 := (ai (SlE.len hv6) (ai (F33_l2_1 h x1 x2 x3 v4 l5 v5 hv5 v6 0 y26 e26 c27) kc27))
                refine dec_bif (fun c42 => ?_) (fun c42 => ?_)
                · intro hr
                  obtain rfl := Option.some.inj hr
                  exact pFun_sound good tab_ok (f := 33) (its := [.g, .g, .g, .g, .g, .g, (.w .g), (.w .g), (.w .g), (.p false), .g, (.w .g), (.w .g), (.w .g), (.p false), .g, (.w .g), (.w .g), (.w .g), (.p false), .g, (.w .g), (.w .g), (.w (.ln l6.length)), (.w .g), (.w .g), (.w .g), (.p false), (.b false), .g, .g, (.ln l4.length), .g, (.l F33_m1_1 [] (.exit 0) (F33_x1_1 h x1 x2 x3 v4 v5 v6 y17)), .g, .g, (.ln l5.length), .g, (.l F33_m2_1 [] (.exit 2) (F33_x2_1 h x1 x2 x3 v4 v5 v6 y26)), .g, .g, (.ln l6.length), .g, (.l F33_m3_1 [] .ret (F33_x3_0 h x1 x2 x3 v4 v5 v6 y41))]) (args := [.agg #[.int .i64 x1, .int .i64 x2, .bool x3, (sv v4), (sv v5), (sv v6)]]) (h := h) (h' := h) (v := .bool false) (hC := (ai (F33_l3_0 h x1 x2 x3 v4 l5 v5 hv5 l6 v6 hv6 0 y41 e41 c42) kc42)) (hr := by kernel_rfl)
                · refine bind_opt fun y43 e43 => ?_
                  intro hr
                  obtain rfl := Option.some.inj hr
                  exact pFun_sound good tab_ok (f := 33) (its := [.g, .g, .g, .g, .g, .g, (.w .g), (.w .g), (.w .g), (.p false), .g, (.w .g), (.w .g), (.w .g), (.p false), .g, (.w .g), (.w .g), (.w .g), (.p false), .g, (.w .g), (.w .g), (.w (.ln l6.length)), (.w .g), (.w .g), (.w .g), (.p false), (.b false), .g, .g, (.ln l4.length), .g, (.l F33_m1_1 [] (.exit 0) (F33_x1_1 h x1 x2 x3 v4 v5 v6 y17)), .g, .g, (.ln l5.length), .g, (.l F33_m2_1 [] (.exit 2) (F33_x2_1 h x1 x2 x3 v4 v5 v6 y26)), .g, .g, (.ln l6.length), .g, (.l F33_m3_1 [] (.exit 4) (F33_x3_1 h x1 x2 x3 v4 v5 v6 y41)), .g, (.c (.bool y43) h), .g]) (args := [.agg #[.int .i64 x1, .int .i64 x2, .bool x3, (sv v4), (sv v5), (sv v6)]]) (h := h) (h' := h) (v := .bool y43) (hC := (ai (F54_spec x1 x2 x3 l4 l5 l6 v4 v5 v6 h hv4 hv5 hv6 _ e43) (ai (F33_l3_1 h x1 x2 x3 v4 l5 v5 hv5 l6 v6 hv6 0 y41 e41 c42) kc42))) (hr := by kernel_rfl)
/-! 57 jacquard/diffcons.size -/
def F57 (x1 : Int) : Int :=
  (if 8192 < (if 0 > x1 then 0 else x1) then 8192 else (if 0 > x1 then 0 else x1))
set_option maxRecDepth 100000 in
theorem F57_spec (x1 : Int) (h : AHeap)  (r : Int) : F57 x1 = r → ACalls Try.prog 57 [.int .i64 x1] h (fun v' h'' => v' = (.int .i64 r : Value) ∧ h'' = h) := by
  unfold F57
  intro hr
  subst hr
  exact pFun_sound good tab_ok (f := 57) (its := [.g, .g, .g, .g, .g]) (args := [.int .i64 x1]) (h := h) (h' := h) (v := .int .i64 (if 8192 < (if 0 > x1 then 0 else x1) then 8192 else (if 0 > x1 then 0 else x1))) (hC := trivial) (hr := by kernel_rfl)
/-! 58 jacquard/diffcons.counts -/
def F58 (x1 : Int) (x2 : Int) (x3 : Int) (x4 : Int) (x5 : Int) : Bool :=
  (bif decide (x2 ≥ 0) then
   (bif decide (x2 < x1) then
    (bif decide (x3 ≥ 0) then
     (decide (x3 < x1))
    else
     false)
   else
    false)
  else
   false)
set_option maxRecDepth 100000 in
theorem F58_spec (x1 : Int) (x2 : Int) (x3 : Int) (x4 : Int) (x5 : Int) (h : AHeap)  (r : Bool) : F58 x1 x2 x3 x4 x5 = r → ACalls Try.prog 58 [.int .i64 x1, .agg #[.int .i64 x2, .int .i64 x3, .int .i64 x4, .int .i64 x5]] h (fun v' h'' => v' = (.bool r : Value) ∧ h'' = h) := by
  unfold F58
  refine dec_bif (fun c6 => ?_) (fun c6 => ?_)
  · have kc7 := (ai c6 (ai (g_tt c6) (ai (g_tt c6) (ai (g_tt c6) (ai (g_tt c6) trivial)))))
    refine dec_bif (fun c7 => ?_) (fun c7 => ?_)
    · have kc8 := (ai c7 (ai (g_tt c7) (ai (g_tt c7) (ai (g_tt c7) kc7))))
      refine dec_bif (fun c8 => ?_) (fun c8 => ?_)
      · intro hr
        subst hr
        exact pFun_sound good tab_ok (f := 58) (its := [.g, .g, .g, .g, .g, .g, (.w .g), (.w .g), (.w .g), (.w .g), (.p true), .g, (.w .g), (.w .g), (.w .g), (.p true), .g, (.w .g), (.w .g), (.w .g), (.w .g), (.p true), .g]) (args := [.int .i64 x1, .agg #[.int .i64 x2, .int .i64 x3, .int .i64 x4, .int .i64 x5]]) (h := h) (h' := h) (v := .bool (decide (x3 < x1))) (hC := (ai c8 (ai (g_tt c8) (ai (g_tt c8) (ai (g_tt c8) (ai (g_tt c8) kc8)))))) (hr := by kernel_rfl)
      · intro hr
        subst hr
        exact pFun_sound good tab_ok (f := 58) (its := [.g, .g, .g, .g, .g, .g, (.w .g), (.w .g), (.w .g), (.w .g), (.p true), .g, (.w .g), (.w .g), (.w .g), (.p true), .g, .n, .n, .n, .n, (.p false), .g]) (args := [.int .i64 x1, .agg #[.int .i64 x2, .int .i64 x3, .int .i64 x4, .int .i64 x5]]) (h := h) (h' := h) (v := .bool false) (hC := (ai c8 (ai (g_ft c8) (ai (g_ft c8) (ai (g_ft c8) (ai (g_ft c8) kc8)))))) (hr := by kernel_rfl)
    · intro hr
      subst hr
      exact pFun_sound good tab_ok (f := 58) (its := [.g, .g, .g, .g, .g, .g, (.w .g), (.w .g), (.w .g), (.w .g), (.p true), .g, .n, .n, .n, (.p false), .g, .n, .n, .n, .n, .g, .g]) (args := [.int .i64 x1, .agg #[.int .i64 x2, .int .i64 x3, .int .i64 x4, .int .i64 x5]]) (h := h) (h' := h) (v := .bool false) (hC := (ai (g_ft l_f) (ai (g_ft l_f) (ai (g_ft l_f) (ai (g_ft l_f) (ai c7 (ai (g_ft c7) (ai (g_ft c7) (ai (g_ft c7) kc7))))))))) (hr := by kernel_rfl)
  · intro hr
    subst hr
    exact pFun_sound good tab_ok (f := 58) (its := [.g, .g, .g, .g, .g, .g, .n, .n, .n, .n, (.p false), .g, .n, .n, .n, .g, .g, .n, .n, .n, .n, .g, .g]) (args := [.int .i64 x1, .agg #[.int .i64 x2, .int .i64 x3, .int .i64 x4, .int .i64 x5]]) (h := h) (h' := h) (v := .bool false) (hC := (ai (g_ft l_f) (ai (g_ft l_f) (ai (g_ft l_f) (ai (g_ft l_f) (ai (g_ft l_f) (ai (g_ft l_f) (ai (g_ft l_f) (ai c6 (ai (g_ft c6) (ai (g_ft c6) (ai (g_ft c6) (ai (g_ft c6) trivial))))))))))))) (hr := by kernel_rfl)
/-! 68 jacquard/diffcons.limit -/
def F68__1 (x1 : Int) (x2 : Int) : Int := (if x2 < (if (IntKind.i64.wrap (0 - x2)) > x1 then (IntKind.i64.wrap (0 - x2)) else x1) then x2 else (if (IntKind.i64.wrap (0 - x2)) > x1 then (IntKind.i64.wrap (0 - x2)) else x1))
def F68 (x1 : Int) (x2 : Int) : Int :=
  (F68__1 x1 x2)
set_option maxRecDepth 100000 in
theorem F68_spec (x1 : Int) (x2 : Int) (h : AHeap)  (r : Int) : F68 x1 x2 = r → ACalls Try.prog 68 [.int .i64 x1, .int .i64 x2] h (fun v' h'' => v' = (.int .i64 r : Value) ∧ h'' = h) := by
  unfold F68
  intro hr
  subst hr
  exact pFun_sound good tab_ok (f := 68) (its := [.g, .g, .g, .g, .g, .g, .g, .g]) (args := [.int .i64 x1, .int .i64 x2]) (h := h) (h' := h) (v := .int .i64 (F68__1 x1 x2)) (hC := trivial) (hr := by kernel_rfl)
/-! 59 jacquard/diffcons.Weight -/
def F59__1 (x4 : Int) (x5 : Int) : Int := (IntKind.i64.wrap ((if 256 < (if 0 > x5 then 0 else x5) then 256 else (if 0 > x5 then 0 else x5)) * (F68 x4 1048576)))
def F59 (x1 : Int) (x2 : Int) (x3 : Int) (x4 : Int) (x5 : Int) : Int :=
  (IntKind.i64.wrap ((F68 x3 1048576) - (F59__1 x4 x5)))
set_option maxRecDepth 100000 in
theorem F59_spec (x1 : Int) (x2 : Int) (x3 : Int) (x4 : Int) (x5 : Int) (h : AHeap)  (r : Int) : F59 x1 x2 x3 x4 x5 = r → ACalls Try.prog 59 [.agg #[.int .i64 x1, .int .i64 x2, .int .i64 x3, .int .i64 x4], .int .i64 x5] h (fun v' h'' => v' = (.int .i64 r : Value) ∧ h'' = h) := by
  unfold F59
  intro hr
  subst hr
  exact pFun_sound good tab_ok (f := 59) (its := [.g, .g, .g, .g, .g, .g, .g, .g, .g, (.c (.int .i64 (F68 x3 1048576)) h), (.c (.int .i64 (F68 x4 1048576)) h), .g, .g, .g]) (args := [.agg #[.int .i64 x1, .int .i64 x2, .int .i64 x3, .int .i64 x4], .int .i64 x5]) (h := h) (h' := h) (v := .int .i64 (IntKind.i64.wrap ((F68 x3 1048576) - (F59__1 x4 x5)))) (hC := (ai (show AKeep h h from (AHeap.sub_refl h)) (ai (F68_spec x4 1048576 h _ rfl) (ai (show AKeep h h from (AHeap.sub_refl h)) (ai (F68_spec x3 1048576 h _ rfl) trivial))))) (hr := by kernel_rfl)
def enc92 (x : Int × Int × Int × Int) : List Value := [.int .i64 x.1, .int .i64 x.2.1, .int .i64 x.2.2.1, .int .i64 x.2.2.2]
def E92 (h : AHeap) (cs : List Value) (x : Int × Int × Int × Int) : Prop := cs = enc92 x
theorem E92_mono {h h' : AHeap} (le : h.sub h') (cs : List Value) (x : Int × Int × Int × Int) (H : E92 h cs x) : E92 h' cs x := H
def W92 (x : Int × Int × Int × Int) : Prop := (Lit.int .i64 x.1).wf = true ∧ (Lit.int .i64 x.2.1).wf = true ∧ (Lit.int .i64 x.2.2.1).wf = true ∧ (Lit.int .i64 x.2.2.2).wf = true ∧ True
set_option maxRecDepth 100000 in
theorem E92_wt {h : AHeap} {n : Nat} {cs : List Value} (H : WT Try.prog h n 92 cs) : ∃ x, E92 h cs x ∧ W92 x := by
  have k : SQ Try.prog h [.int .i64, .int .i64, .int .i64, .int .i64] cs := wt_flatS 2 n (by kernel_rfl) H
  obtain ⟨x0, r0, rfl, w0, k0⟩ := sq_int k
  obtain ⟨x1, r1, rfl, w1, k1⟩ := sq_int k0
  obtain ⟨x2, r2, rfl, w2, k2⟩ := sq_int k1
  obtain ⟨x3, r3, rfl, w3, k3⟩ := sq_int k2
  obtain rfl := sq_nil k3
  exact ⟨(x0, x1, x2, x3), rfl, ⟨w0, w1, w2, w3, trivial⟩⟩
/-! 63 jacquard/diffcons.edges -/
def F63_L : List Nat := [11]
def F63_D : List (Nat × List (Nat × Nat)) := [(8, [(0, 2), (1, 2), (3, 2), (5, 2), (6, 2), (8, 2), (2, 3), (4, 3), (7, 1), (9, 2), (10, 0), (11, 0), (12, 2)]), (5, [(0, 2), (1, 2), (3, 2), (5, 2), (6, 2), (8, 2), (2, 3), (4, 3), (7, 1), (9, 2), (10, 0), (11, 0), (12, 2)])]
def F63_m1_1 : List Bool := (rp 9 true (false :: (rp 42 true [])))
def F63_m1_0 : List Bool := (false :: true :: false :: false :: (rp 5 true (false :: true :: true :: false :: false :: false :: (rp 37 true []))))
def F63_s1 (x1 : Int) (l2 : List (Int × Int × Int × Int)) (x3 : Int) (x4 : Bool) (a7 : Int) (l8 : List (Int × Int × Int × Int)) : Option ((Int × (List (Int × Int × Int × Int))) ⊕ (List (Int × Int × Int × Int))) :=
  (bif decide (a7 < (l2.length : Int)) then
   (Option.bind (at? l2 a7) fun y11 =>
   (bif (!(F58 x1 y11.1 y11.2.1 y11.2.2.1 y11.2.2.2)) then
    some (.inl ((IntKind.i64.wrap (a7 + 1)), l8))
   else
    (bif x4 then
     (bif (!(okApp (l8.length + ([(y11.2.1, y11.1, (F59 y11.1 y11.2.1 y11.2.2.1 y11.2.2.2 x3), a7)] : List (Int × Int × Int × Int)).length) 32)) then none else
     some (.inl ((IntKind.i64.wrap (a7 + 1)), (l8 ++ ([(y11.2.1, y11.1, (F59 y11.1 y11.2.1 y11.2.2.1 y11.2.2.2 x3), a7)] : List (Int × Int × Int × Int))))))
    else
     (bif (!(okApp (l8.length + ([(y11.1, y11.2.1, (F59 y11.1 y11.2.1 y11.2.2.1 y11.2.2.2 x3), a7)] : List (Int × Int × Int × Int)).length) 32)) then none else
     some (.inl ((IntKind.i64.wrap (a7 + 1)), (l8 ++ ([(y11.1, y11.2.1, (F59 y11.1 y11.2.1 y11.2.2.1 y11.2.2.2 x3), a7)] : List (Int × Int × Int × Int)))))))))
  else
   some (.inr l8))
def F63_h1 (x1 : Int) (l2 : List (Int × Int × Int × Int)) (v2 : Hd) (x3 : Int) (x4 : Bool) (h9 : AHeap) (u8 : Hd) (a7 : Int) (l8 : List (Int × Int × Int × Int)) : AS := ⟨((.int .i64 x1) :: junk :: (.int .i64 x3) :: (.bool x4) :: (rp 5 junk ((sv u8) :: junk :: junk :: (sv v2) :: (.int .i64 (l2.length : Int)) :: (.int .i64 a7) :: (rp 37 junk [])))), [], h9⟩
theorem F63_d1 : drawsOk F63_D (codeOf Try.prog 63 [1, 1, 0, 1, 0, 0]) = true := by kernel_rfl
def F63_x1_0 (h : AHeap) (hx : AHeap) (w0 : Hd) (r : (List (Int × Int × Int × Int))) : AS := ⟨(rp 9 junk ((sv w0) :: (rp 42 junk []))), [], hx⟩
def F63_i1 (h : AHeap) (x1 : Int) (l2 : List (Int × Int × Int × Int)) (v2 : Hd) (x3 : Int) (x4 : Bool) (s : Int × (List (Int × Int × Int × Int))) (S : AS) : Prop := ∃ (h9 : AHeap) (u8 : Hd), Heapy h h9 [⟨u8, 92, 4, List.flatMap enc92 s.2⟩] ∧ Strict u8 ∧ S = (F63_h1 x1 l2 v2 x3 x4 h9 u8 s.1 s.2)
def F63_x1 (h : AHeap) (r : (List (Int × Int × Int × Int))) (e : Exit) (S : AS) : Prop := e = (.exit 0) ∧ ∃ (hx : AHeap) (w0 : Hd), Heapy h hx [⟨w0, 92, 4, List.flatMap enc92 r⟩] ∧ Strict w0 ∧ S = (F63_x1_0 h hx w0 r)
set_option maxRecDepth 100000 in
theorem F63_r1 (h : AHeap) (x1 : Int) (l2 : List (Int × Int × Int × Int)) (v2 : Hd) (hv2 : SlE E57 4 h (sv v2) l2) (x3 : Int) (x4 : Bool) (a7 : Int) (l8 : List (Int × Int × Int × Int)) (S : AS) (hI : (F63_i1 h x1 l2 v2 x3 x4) (a7, l8) S) (o : (Int × (List (Int × Int × Int × Int))) ⊕ (List (Int × Int × Int × Int))) : F63_s1 x1 l2 x3 x4 a7 l8 = some o → Rd Try.prog (codeOf Try.prog 63 [1, 1, 0, 1, 0, 0]) (F63_i1 h x1 l2 v2 x3 x4) (F63_x1 h) S o := by
  obtain ⟨h9, u8, hp9, z8, rfl⟩ := hI
  unfold F63_s1
  refine dec_bif (fun c10 => ?_) (fun c10 => ?_)
  · refine bind_opt fun y11 e11 => ?_
    obtain ⟨id11, off11, g11, cs11, ix11, at11, rfl⟩ := SlE.at hv2 e11
    have kc13 := (ai (F58_spec x1 y11.1 y11.2.1 y11.2.2.1 y11.2.2.2 h9 _ rfl) (ai (At.agg (P := Try.prog) (t := 57) (v := .agg #[.int .i64 y11.1, .int .i64 y11.2.1, .int .i64 y11.2.2.1, .int .i64 y11.2.2.2]) (m := 4) (At.mono (Heapy.sub hp9) at11) (by kernel_rfl) (by kernel_rfl) 0 (by kernel_rfl) rfl) (ai ix11 (ai c10 trivial))))
    refine dec_bif (fun c13 => ?_) (fun c13 => ?_)
    · intro hr
      obtain rfl := Option.some.inj hr
      exact ⟨(F63_h1 x1 l2 v2 x3 x4 h9 u8 (IntKind.i64.wrap (a7 + 1)) l8), ⟨h9, u8, (Heapy.pick hp9 [0] (by decide)), z8, rfl⟩, pEnd_sound good (L := F63_L) (D := F63_D) (its := [.g, (.b true), .g, (.ix id11 off11 g11), (.ld (.agg #[.int .i64 y11.1, .int .i64 y11.2.1, .int .i64 y11.2.2.1, .int .i64 y11.2.2.2])), .g, .g, .g, .g, .g, (.c (.bool (F58 x1 y11.1 y11.2.1 y11.2.2.1 y11.2.2.2)) h9), .g, .g, (.b true), .g, .g]) (ds := F63_m1_0) (ks := [11]) (e := .normal) (s2 := (F63_h1 x1 l2 v2 x3 x4 h9 u8 (IntKind.i64.wrap (a7 + 1)) l8)) (hC := (ai c13 kc13)) (hd := F63_d1) (h := by kernel_rfl)⟩
    · have kc14 := (ai c13 kc13)
      refine dec_bif (fun c14 => ?_) (fun c14 => ?_)
      · obtain ⟨v16, h16, m16, hp16, _⟩ := Heapy.build (P := Try.prog) hp9 (t := 87) (e := 92) (len := 1) (n := 4) (parts := [(0, .agg #[.int .i64 y11.2.1, .int .i64 y11.1, .int .i64 (F59 y11.1 y11.2.1 y11.2.2.1 y11.2.2.2 x3), .int .i64 a7])]) (cells := List.flatMap enc92 ([(y11.2.1, y11.1, (F59 y11.1 y11.2.1 y11.2.2.1 y11.2.2.2 x3), a7)] : List (Int × Int × Int × Int))) (by kernel_rfl) rfl
        refine guard_ok fun g18 => ?_
        obtain ⟨v19, h19, m19, q19, _, w19⟩ := Heapy.append hp16 (show mkInfo Try.prog 87 = some (92, 4, 32, [.int .i64 0, .int .i64 0, .int .i64 0, .int .i64 0]) by kernel_rfl) 1 (v := u8) (cells := List.flatMap enc92 l8) rfl (Y := (sv v16)) (SlE.src (enc := enc92) (c := 4) (Heapy.sle (v := v16) (xs := ([(y11.2.1, y11.1, (F59 y11.1 y11.2.1 y11.2.2.1 y11.2.2.2 x3), a7)] : List (Int × Int × Int × Int))) (enc := enc92) hp16 0 rfl (fun _ => rfl) (by decide)) (fun _ => rfl)) (flatMap_length (enc := enc92) (c := 4) (fun _ => rfl) _) (by rw [Heapy.vn (v := u8) (xs := l8) (enc := enc92) hp16 1 rfl (fun _ => rfl) (by decide)]; simpa using g18)
        have z19 : Strict v19 := w19 z8
        have hp19 : Heapy h h19 [⟨v16, 92, 4, List.flatMap enc92 ([(y11.2.1, y11.1, (F59 y11.1 y11.2.1 y11.2.2.1 y11.2.2.2 x3), a7)] : List (Int × Int × Int × Int))⟩, ⟨v19, 92, 4, List.flatMap enc92 (l8 ++ ([(y11.2.1, y11.1, (F59 y11.1 y11.2.1 y11.2.2.1 y11.2.2.2 x3), a7)] : List (Int × Int × Int × Int)))⟩] := by rw [← List.flatMap_append] at q19; exact q19
        intro hr
        obtain rfl := Option.some.inj hr
        exact ⟨(F63_h1 x1 l2 v2 x3 x4 h19 v19 (IntKind.i64.wrap (a7 + 1)) (l8 ++ ([(y11.2.1, y11.1, (F59 y11.1 y11.2.1 y11.2.2.1 y11.2.2.2 x3), a7)] : List (Int × Int × Int × Int)))), ⟨h19, v19, (Heapy.pick hp19 [1] (by decide)), z19, rfl⟩, pEnd_sound good (L := F63_L) (D := F63_D) (its := [.g, (.b true), .g, (.ix id11 off11 g11), (.ld (.agg #[.int .i64 y11.1, .int .i64 y11.2.1, .int .i64 y11.2.2.1, .int .i64 y11.2.2.2])), .g, .g, .g, .g, .g, (.c (.bool (F58 x1 y11.1 y11.2.1 y11.2.2.1 y11.2.2.2)) h9), .g, .g, (.b false), .g, .g, (.b true), .g, .g, .g, .g, .g, .g, .g, .g, (.c (.int .i64 (F59 y11.1 y11.2.1 y11.2.2.1 y11.2.2.2 x3)) h9), .g, (.mm (sv v16) h16), (.mm (sv v19) h19), .g, .g, .g]) (ds := F63_m1_0) (ks := [11]) (e := .normal) (s2 := (F63_h1 x1 l2 v2 x3 x4 h19 v19 (IntKind.i64.wrap (a7 + 1)) (l8 ++ ([(y11.2.1, y11.1, (F59 y11.1 y11.2.1 y11.2.2.1 y11.2.2.2 x3), a7)] : List (Int × Int × Int × Int))))) (hC := (ai m19 (ai m16 (ai (show AKeep h9 h9 from (AHeap.sub_refl h9)) (ai (F59_spec y11.1 y11.2.1 y11.2.2.1 y11.2.2.2 x3 h9 _ rfl) (ai c14 kc14)))))) (hd := F63_d1) (h := by kernel_rfl)⟩
      · obtain ⟨v22, h22, m22, hp22, _⟩ := Heapy.build (P := Try.prog) hp9 (t := 87) (e := 92) (len := 1) (n := 4) (parts := [(0, .agg #[.int .i64 y11.1, .int .i64 y11.2.1, .int .i64 (F59 y11.1 y11.2.1 y11.2.2.1 y11.2.2.2 x3), .int .i64 a7])]) (cells := List.flatMap enc92 ([(y11.1, y11.2.1, (F59 y11.1 y11.2.1 y11.2.2.1 y11.2.2.2 x3), a7)] : List (Int × Int × Int × Int))) (by kernel_rfl) rfl
        refine guard_ok fun g24 => ?_
        obtain ⟨v25, h25, m25, q25, _, w25⟩ := Heapy.append hp22 (show mkInfo Try.prog 87 = some (92, 4, 32, [.int .i64 0, .int .i64 0, .int .i64 0, .int .i64 0]) by kernel_rfl) 1 (v := u8) (cells := List.flatMap enc92 l8) rfl (Y := (sv v22)) (SlE.src (enc := enc92) (c := 4) (Heapy.sle (v := v22) (xs := ([(y11.1, y11.2.1, (F59 y11.1 y11.2.1 y11.2.2.1 y11.2.2.2 x3), a7)] : List (Int × Int × Int × Int))) (enc := enc92) hp22 0 rfl (fun _ => rfl) (by decide)) (fun _ => rfl)) (flatMap_length (enc := enc92) (c := 4) (fun _ => rfl) _) (by rw [Heapy.vn (v := u8) (xs := l8) (enc := enc92) hp22 1 rfl (fun _ => rfl) (by decide)]; simpa using g24)
        have z25 : Strict v25 := w25 z8
        have hp25 : Heapy h h25 [⟨v22, 92, 4, List.flatMap enc92 ([(y11.1, y11.2.1, (F59 y11.1 y11.2.1 y11.2.2.1 y11.2.2.2 x3), a7)] : List (Int × Int × Int × Int))⟩, ⟨v25, 92, 4, List.flatMap enc92 (l8 ++ ([(y11.1, y11.2.1, (F59 y11.1 y11.2.1 y11.2.2.1 y11.2.2.2 x3), a7)] : List (Int × Int × Int × Int)))⟩] := by rw [← List.flatMap_append] at q25; exact q25
        intro hr
        obtain rfl := Option.some.inj hr
        exact ⟨(F63_h1 x1 l2 v2 x3 x4 h25 v25 (IntKind.i64.wrap (a7 + 1)) (l8 ++ ([(y11.1, y11.2.1, (F59 y11.1 y11.2.1 y11.2.2.1 y11.2.2.2 x3), a7)] : List (Int × Int × Int × Int)))), ⟨h25, v25, (Heapy.pick hp25 [1] (by decide)), z25, rfl⟩, pEnd_sound good (L := F63_L) (D := F63_D) (its := [.g, (.b true), .g, (.ix id11 off11 g11), (.ld (.agg #[.int .i64 y11.1, .int .i64 y11.2.1, .int .i64 y11.2.2.1, .int .i64 y11.2.2.2])), .g, .g, .g, .g, .g, (.c (.bool (F58 x1 y11.1 y11.2.1 y11.2.2.1 y11.2.2.2)) h9), .g, .g, (.b false), .g, .g, (.b false), .g, .g, .g, .g, .g, .g, .g, .g, (.c (.int .i64 (F59 y11.1 y11.2.1 y11.2.2.1 y11.2.2.2 x3)) h9), .g, (.mm (sv v22) h22), (.mm (sv v25) h25), .g, .g, .g]) (ds := F63_m1_0) (ks := [11]) (e := .normal) (s2 := (F63_h1 x1 l2 v2 x3 x4 h25 v25 (IntKind.i64.wrap (a7 + 1)) (l8 ++ ([(y11.1, y11.2.1, (F59 y11.1 y11.2.1 y11.2.2.1 y11.2.2.2 x3), a7)] : List (Int × Int × Int × Int))))) (hC := (ai m25 (ai m22 (ai (show AKeep h9 h9 from (AHeap.sub_refl h9)) (ai (F59_spec y11.1 y11.2.1 y11.2.2.1 y11.2.2.2 x3 h9 _ rfl) (ai c14 kc14)))))) (hd := F63_d1) (h := by kernel_rfl)⟩
  · intro hr
    obtain rfl := Option.some.inj hr
    refine ⟨(.exit 0), (F63_x1_0 h h9 u8 (l8 : (List (Int × Int × Int × Int)))), (by intro hh; cases hh), ?_, pEnd_sound good (L := F63_L) (D := F63_D) (its := [.g, (.b false)]) (ds := F63_m1_1) (ks := []) (e := (.exit 0)) (s2 := (F63_x1_0 h h9 u8 (l8 : (List (Int × Int × Int × Int))))) (hC := (ai c10 trivial)) (hd := F63_d1) (h := by kernel_rfl)⟩
    exact ⟨rfl, h9, u8, (Heapy.pick hp9 [0] (by decide)), z8, rfl⟩
theorem F63_l1 (h : AHeap) (x1 : Int) (l2 : List (Int × Int × Int × Int)) (v2 : Hd) (hv2 : SlE E57 4 h (sv v2) l2) (x3 : Int) (x4 : Bool) (x : Int × (List (Int × Int × Int × Int))) (r : (List (Int × Int × Int × Int))) (hl : loopO (fun (s : Int × (List (Int × Int × Int × Int))) => F63_s1 x1 l2 x3 x4 s.1 s.2) x = some r) (S : AS) (hI : (F63_i1 h x1 l2 v2 x3 x4) x S) : ∃ e S', (F63_x1 h) r e S' ∧ AWp Try.prog (.loop (codeOf Try.prog 63 [1, 1, 0, 1, 0, 0])) (Ends1 e S') S :=
  loop_rel (fun x S hI => F63_r1 h x1 l2 v2 hv2 x3 x4 x.1 x.2 S hI) hl hI
def F63 (x1 : Int) (l2 : List (Int × Int × Int × Int)) (x3 : Int) (x4 : Bool) : Option ((List (Int × Int × Int × Int))) :=
  (Option.bind (loopO (fun (s : Int × (List (Int × Int × Int × Int))) => F63_s1 x1 l2 x3 x4 s.1 s.2) (0, ([] : List (Int × Int × Int × Int)))) fun y27 =>
  some (y27))
set_option maxRecDepth 100000 in
theorem F63_spec (x1 : Int) (l2 : List (Int × Int × Int × Int)) (x3 : Int) (x4 : Bool) (v2 : Hd) (h : AHeap) (hw : h.wf) (hv2 : SlE E57 4 h (sv v2) l2) (r : (List (Int × Int × Int × Int))) : F63 x1 l2 x3 x4 = some r → ∃ (ur0 : Hd) (h' : AHeap), Heapy h h' [⟨ur0, 92, 4, List.flatMap enc92 r⟩] ∧ Strict ur0 ∧ ACalls Try.prog 63 [.int .i64 x1, (sv v2), .int .i64 x3, .bool x4] h (fun v' h'' => v' = ((sv ur0) : Value) ∧ h'' = h') := by
  unfold F63
  refine bind_opt fun y27 e27 => ?_
  have hp5 : Heapy h h [⟨⟨none, 0, 0⟩, 92, 4, List.flatMap enc92 ([] : List (Int × Int × Int × Int))⟩] := Heapy.nil (Heapy.refl hw) 92 4
  obtain ⟨ee27, SS27, hX27, hA27⟩ := F63_l1 h x1 l2 v2 hv2 x3 x4 (0, ([] : List (Int × Int × Int × Int))) y27 e27 (F63_h1 x1 l2 v2 x3 x4 h ⟨none, 0, 0⟩ 0 ([] : List (Int × Int × Int × Int))) ⟨h, ⟨none, 0, 0⟩, (Heapy.pick hp5 [0] (by decide)), Strict.nil, rfl⟩
  obtain ⟨rfl, h28, w0_28, hp28, zw0_28, rfl⟩ := hX27
  intro hr
  obtain rfl := Option.some.inj hr
  exact ⟨w0_28, h28, Heapy.pick hp28 [0] (by decide), zw0_28, pFun_sound good tab_ok (f := 63) (its := [.g, .g, .g, (.ln l2.length), .g, (.l F63_m1_0 [] (.exit 0) (F63_x1_0 h h28 w0_28 y27)), .g, .g]) (args := [.int .i64 x1, (sv v2), .int .i64 x3, .bool x4]) (h := h) (h' := h28) (v := (sv w0_28)) (hC := (ai hA27 (ai (SlE.len hv2) trivial))) (hr := by kernel_rfl)⟩
def enc3 (x : Int) : List Value := [.int .i64 x]
def E3 (h : AHeap) (cs : List Value) (x : Int) : Prop := cs = enc3 x
theorem E3_mono {h h' : AHeap} (le : h.sub h') (cs : List Value) (x : Int) (H : E3 h cs x) : E3 h' cs x := H
def W3 (x : Int) : Prop := (Lit.int .i64 x).wf = true ∧ True
set_option maxRecDepth 100000 in
theorem E3_wt {h : AHeap} {n : Nat} {cs : List Value} (H : WT Try.prog h n 3 cs) : ∃ x, E3 h cs x ∧ W3 x := by
  have k : SQ Try.prog h [.int .i64] cs := wt_flatS 1 n (by kernel_rfl) H
  obtain ⟨x0, r0, rfl, w0, k0⟩ := sq_int k
  obtain rfl := sq_nil k0
  exact ⟨x0, rfl, ⟨w0, trivial⟩⟩
/-! 64 jacquard/diffcons.bound -/
def F64 (l1 : List Int) (x2 : Int) : Option (Int) :=
  (bif decide (x2 ≥ (l1.length : Int)) then
   some (0)
  else
   (Option.bind (at? l1 x2) fun y4 =>
   some (F68 y4 1073741824)))
set_option maxRecDepth 100000 in
theorem F64_spec (l1 : List Int) (x2 : Int) (v1 : Hd) (h : AHeap) (hv1 : SlE E3 1 h (sv v1) l1) (r : Int) : F64 l1 x2 = some r → ACalls Try.prog 64 [(sv v1), .int .i64 x2] h (fun v' h'' => v' = (.int .i64 r : Value) ∧ h'' = h) := by
  unfold F64
  have kc3 := (ai (SlE.len hv1) trivial)
  refine dec_bif (fun c3 => ?_) (fun c3 => ?_)
  · intro hr
    obtain rfl := Option.some.inj hr
    exact pFun_sound good tab_ok (f := 64) (its := [.g, .g, .g, (.ln l1.length), .g, (.b true), .g]) (args := [(sv v1), .int .i64 x2]) (h := h) (h' := h) (v := .int .i64 0) (hC := (ai c3 kc3)) (hr := by kernel_rfl)
  · refine bind_opt fun y4 e4 => ?_
    obtain ⟨id4, off4, g4, cs4, ix4, at4, rfl⟩ := SlE.at hv1 e4
    intro hr
    obtain rfl := Option.some.inj hr
    exact pFun_sound good tab_ok (f := 64) (its := [.g, .g, .g, (.ln l1.length), .g, (.b false), .g, .g, (.ix id4 off4 g4), (.ld (.int .i64 y4)), (.c (.int .i64 (F68 y4 1073741824)) h), .g]) (args := [(sv v1), .int .i64 x2]) (h := h) (h' := h) (v := .int .i64 (F68 y4 1073741824)) (hC := (ai (F68_spec y4 1073741824 h _ rfl) (ai (At.one (P := Try.prog) (t := 3) (v := .int .i64 y4) at4 (by kernel_rfl) 0 rfl rfl) (ai ix4 (ai c3 kc3))))) (hr := by kernel_rfl)
/-! 66 slices.Reverse[[]int,int] -/
def F66_L : List Nat := []
def F66_D : List (Nat × List (Nat × Nat)) := [(3, [(0, 2), (1, 2), (2, 2), (3, 2), (4, 2), (5, 2), (6, 2), (7, 2), (8, 2), (9, 2), (10, 2), (11, 2), (12, 2), (13, 0), (14, 2), (15, 0)])]
def F66_m1_1 : List Bool := (false :: (rp 27 true []))
def F66_m1_0 : List Bool := (false :: true :: false :: false :: (rp 24 true []))
def F66_s1  (a3 : Int) (a4 : Int) (l5 : List Int) : Option ((Int × Int × (List Int)) ⊕ (List Int)) :=
  (bif decide (a3 < a4) then
   (Option.bind (at? l5 a4) fun y8 =>
   (Option.bind (at? l5 a3) fun y9 =>
   (Option.bind (at? (setI l5 a3 y8) a4) fun y11 =>
   some (.inl ((IntKind.i64.wrap (a3 + 1)), (IntKind.i64.wrap (a4 - 1)), (setI (setI l5 a3 y8) a4 y9))))))
  else
   some (.inr l5))
def F66_h1 (v1 : Hd) (h6 : AHeap) (a3 : Int) (a4 : Int) (l5 : List Int) : AS := ⟨((sv v1) :: junk :: (.int .i64 a3) :: (.int .i64 a4) :: (rp 24 junk [])), [], h6⟩
theorem F66_d1 : drawsOk F66_D (codeOf Try.prog 66 [1, 0, 0]) = true := by kernel_rfl
def F66_x1_0 (h : AHeap) (v1 : Hd) (hx : AHeap) (r : (List Int)) : AS := ⟨((sv v1) :: (rp 27 junk [])), [], hx⟩
def F66_i1 (h : AHeap) (v1 : Hd) (s : Int × Int × (List Int)) (S : AS) : Prop := ∃ (h6 : AHeap), Heapy h h6 [⟨v1, 3, 1, List.flatMap enc3 s.2.2⟩] ∧ S = (F66_h1 v1 h6 s.1 s.2.1 s.2.2)
def F66_x1 (h : AHeap) (v1 : Hd) (r : (List Int)) (e : Exit) (S : AS) : Prop := e = (.exit 0) ∧ ∃ (hx : AHeap), Heapy h hx [⟨v1, 3, 1, List.flatMap enc3 r⟩] ∧ S = (F66_x1_0 h v1 hx r)
set_option maxRecDepth 100000 in
theorem F66_r1 (h : AHeap) (v1 : Hd) (a3 : Int) (a4 : Int) (l5 : List Int) (S : AS) (hI : (F66_i1 h v1) (a3, a4, l5) S) (o : (Int × Int × (List Int)) ⊕ (List Int)) : F66_s1 a3 a4 l5 = some o → Rd Try.prog (codeOf Try.prog 66 [1, 0, 0]) (F66_i1 h v1) (F66_x1 h v1) S o := by
  obtain ⟨h6, hp6, rfl⟩ := hI
  unfold F66_s1
  refine dec_bif (fun c7 => ?_) (fun c7 => ?_)
  · refine bind_opt fun y8 e8 => ?_
    obtain ⟨id8, off8, g8, cs8, ix8, at8, rfl⟩ := SlE.at (Heapy.sle (v := v1) (xs := l5) (enc := enc3) hp6 0 rfl (fun _ => rfl) (by decide)) e8
    refine bind_opt fun y9 e9 => ?_
    obtain ⟨id9, off9, g9, cs9, ix9, at9, rfl⟩ := SlE.at (Heapy.sle (v := v1) (xs := l5) (enc := enc3) hp6 0 rfl (fun _ => rfl) (by decide)) e9
    obtain ⟨h10, m10, hp10⟩ := Heapy.store (P := Try.prog) hp6 0 (v := v1) (xs := l5) (enc := enc3) rfl (fun _ => rfl) e9 (y' := y8) ix9 (t := 3) (x := .int .i64 y8) 0 (vs := [.int .i64 y8]) rfl (by kernel_rfl) rfl rfl rfl rfl
    refine bind_opt fun y11 e11 => ?_
    obtain ⟨id11, off11, g11, cs11, ix11, at11, rfl⟩ := SlE.at (Heapy.sle (v := v1) (xs := (setI l5 a3 y8)) (enc := enc3) hp10 0 rfl (fun _ => rfl) (by decide)) e11
    obtain ⟨h12, m12, hp12⟩ := Heapy.store (P := Try.prog) hp10 0 (v := v1) (xs := (setI l5 a3 y8)) (enc := enc3) rfl (fun _ => rfl) e11 (y' := y9) ix11 (t := 3) (x := .int .i64 y9) 0 (vs := [.int .i64 y9]) rfl (by kernel_rfl) rfl rfl rfl rfl
    intro hr
    obtain rfl := Option.some.inj hr
    exact ⟨(F66_h1 v1 h12 (IntKind.i64.wrap (a3 + 1)) (IntKind.i64.wrap (a4 - 1)) (setI (setI l5 a3 y8) a4 y9)), ⟨h12, (Heapy.pick hp12 [0] (by decide)), rfl⟩, pEnd_sound good (L := F66_L) (D := F66_D) (its := [.g, .g, .g, (.b true), .g, .g, .g, .g, .g, .g, (.ix id8 off8 g8), (.ld (.int .i64 y8)), .g, .g, (.ix id9 off9 g9), (.ld (.int .i64 y9)), (.ix id9 off9 g9), (.mm undef h10), (.ix id11 off11 g11), (.mm undef h12), .g, .g, .g, .g, .g, .g]) (ds := F66_m1_0) (ks := []) (e := .normal) (s2 := (F66_h1 v1 h12 (IntKind.i64.wrap (a3 + 1)) (IntKind.i64.wrap (a4 - 1)) (setI (setI l5 a3 y8) a4 y9))) (hC := (ai m12 (ai ix11 (ai m10 (ai ix9 (ai (At.one (P := Try.prog) (t := 3) (v := .int .i64 y9) at9 (by kernel_rfl) 0 rfl rfl) (ai ix9 (ai (At.one (P := Try.prog) (t := 3) (v := .int .i64 y8) at8 (by kernel_rfl) 0 rfl rfl) (ai ix8 (ai c7 trivial)))))))))) (hd := F66_d1) (h := by kernel_rfl)⟩
  · intro hr
    obtain rfl := Option.some.inj hr
    refine ⟨(.exit 0), (F66_x1_0 h v1 h6 (l5 : (List Int))), (by intro hh; cases hh), ?_, pEnd_sound good (L := F66_L) (D := F66_D) (its := [.g, .g, .g, (.b false)]) (ds := F66_m1_1) (ks := []) (e := (.exit 0)) (s2 := (F66_x1_0 h v1 h6 (l5 : (List Int)))) (hC := (ai c7 trivial)) (hd := F66_d1) (h := by kernel_rfl)⟩
    exact ⟨rfl, h6, (Heapy.pick hp6 [0] (by decide)), rfl⟩
theorem F66_l1 (h : AHeap) (v1 : Hd) (x : Int × Int × (List Int)) (r : (List Int)) (hl : loopO (fun (s : Int × Int × (List Int)) => F66_s1 s.1 s.2.1 s.2.2) x = some r) (S : AS) (hI : (F66_i1 h v1) x S) : ∃ e S', (F66_x1 h v1) r e S' ∧ AWp Try.prog (.loop (codeOf Try.prog 66 [1, 0, 0])) (Ends1 e S') S :=
  loop_rel (fun x S hI => F66_r1 h v1 x.1 x.2.1 x.2.2 S hI) hl hI
def F66 (l1 : List Int) : Option ((List Int)) :=
  (Option.bind (loopO (fun (s : Int × Int × (List Int)) => F66_s1 s.1 s.2.1 s.2.2) (0, (IntKind.i64.wrap ((l1.length : Int) - 1)), l1)) fun y13 =>
  some (y13))
set_option maxRecDepth 100000 in
theorem F66_spec (l1 : List Int) (v1 : Hd) (hi : AHeap) (h : AHeap) (hw : h.wf) (hio : Heapy h hi [⟨v1, 3, 1, List.flatMap enc3 l1⟩]) (r : (List Int)) : F66 l1 = some r → ∃ (h' : AHeap), Heapy h h' [⟨v1, 3, 1, List.flatMap enc3 r⟩] ∧ ACalls Try.prog 66 [(sv v1)] hi (fun v' h'' => v' = (.tuple #[] : Value) ∧ h'' = h') := by
  unfold F66
  refine bind_opt fun y13 e13 => ?_
  obtain ⟨ee13, SS13, hX13, hA13⟩ := F66_l1 h v1 (0, (IntKind.i64.wrap ((l1.length : Int) - 1)), l1) y13 e13 (F66_h1 v1 hi 0 (IntKind.i64.wrap ((l1.length : Int) - 1)) l1) ⟨hi, (Heapy.pick hio [0] (by decide)), rfl⟩
  obtain ⟨rfl, h14, hp14, rfl⟩ := hX13
  intro hr
  obtain rfl := Option.some.inj hr
  exact ⟨h14, Heapy.pick hp14 [0] (by decide), pFun_sound good tab_ok (f := 66) (its := [.g, (.ln l1.length), .g, .g, .g, (.l F66_m1_0 [] (.exit 0) (F66_x1_0 h v1 h14 y13))]) (args := [(sv v1)]) (h := hi) (h' := h14) (v := .tuple #[]) (hC := (ai hA13 (ai (SlE.len (Heapy.sle (v := v1) (xs := l1) (enc := enc3) hio 0 rfl (fun _ => rfl) (by decide))) trivial))) (hr := by kernel_rfl)⟩
/-! 70 jacquard/diffcons.follow -/
def F70_L : List Nat := [9]
def F70_D : List (Nat × List (Nat × Nat)) := []
def F70_m1_1 : List Bool := (false :: false :: false :: (rp 41 true []))
def F70_m1_0 : List Bool := (false :: false :: false :: (rp 8 true (false :: false :: (rp 31 true []))))
def F70_s1 (l1 : List Int) (l2 : List (Int × Int × Int × Int)) (a4 : Int) (a5 : Int) : Option ((Int × Int) ⊕ Int) :=
  (bif decide (a5 < (l1.length : Int)) then
   (Option.bind (at? l1 a4) fun y7 =>
   (Option.bind (at? l2 y7) fun y8 =>
   some (.inl (y8.1, (IntKind.i64.wrap (a5 + 1))))))
  else
   some (.inr a4))
def F70_h1 (h : AHeap) (l1 : List Int) (v1 : Hd) (v2 : Hd)  (a4 : Int) (a5 : Int) : AS := ⟨((sv v1) :: (sv v2) :: (.int .i64 a4) :: (rp 8 junk ((.int .i64 (l1.length : Int)) :: (.int .i64 a5) :: (rp 31 junk [])))), [], h⟩
theorem F70_d1 : drawsOk F70_D (codeOf Try.prog 70 [1, 0, 1, 0, 0]) = true := by kernel_rfl
def F70_x1_0 (h : AHeap) (v1 : Hd) (v2 : Hd)  (r : Int) : AS := ⟨((sv v1) :: (sv v2) :: (.int .i64 r) :: (rp 41 junk [])), [], h⟩
def F70_x1 (h : AHeap) (v1 : Hd) (v2 : Hd) (r : Int) : Exit × AS := ((.exit 0), (F70_x1_0 h v1 v2 r))
set_option maxRecDepth 100000 in
theorem F70_r1 (h : AHeap) (l1 : List Int) (v1 : Hd) (hv1 : SlE E3 1 h (sv v1) l1) (l2 : List (Int × Int × Int × Int)) (v2 : Hd) (hv2 : SlE E92 4 h (sv v2) l2) (a4 : Int) (a5 : Int) (o : (Int × Int) ⊕ Int) : F70_s1 l1 l2 a4 a5 = some o → RdF Try.prog (codeOf Try.prog 70 [1, 0, 1, 0, 0]) (fun (s : Int × Int) => (F70_h1 h l1 v1 v2 s.1 s.2)) (F70_x1 h v1 v2) (F70_h1 h l1 v1 v2 a4 a5) o := by
  unfold F70_s1
  refine dec_bif (fun c6 => ?_) (fun c6 => ?_)
  · refine bind_opt fun y7 e7 => ?_
    obtain ⟨id7, off7, g7, cs7, ix7, at7, rfl⟩ := SlE.at hv1 e7
    refine bind_opt fun y8 e8 => ?_
    obtain ⟨id8, off8, g8, cs8, ix8, at8, rfl⟩ := SlE.at hv2 e8
    intro hr
    obtain rfl := Option.some.inj hr
    show AWp Try.prog _ (Ends1 .normal (F70_h1 h l1 v1 v2 y8.1 (IntKind.i64.wrap (a5 + 1)))) _
    exact pEnd_sound good (L := F70_L) (D := F70_D) (its := [.g, (.b true), .g, .g, .g, (.ix id7 off7 g7), (.ld (.int .i64 y7)), (.ix id8 off8 g8), .g, (.ld (.int .i64 y8.1)), .g, .g, .g]) (ds := F70_m1_0) (ks := []) (e := .normal) (s2 := (F70_h1 h l1 v1 v2 y8.1 (IntKind.i64.wrap (a5 + 1)))) (hC := (ai (At.one (P := Try.prog) (t := 3) (v := .int .i64 y8.1) at8 (by kernel_rfl) 0 rfl rfl) (ai ix8 (ai (At.one (P := Try.prog) (t := 3) (v := .int .i64 y7) at7 (by kernel_rfl) 0 rfl rfl) (ai ix7 (ai c6 trivial)))))) (hd := F70_d1) (h := by kernel_rfl)
  · intro hr
    obtain rfl := Option.some.inj hr
    show AWp Try.prog _ (Ends1 ((F70_x1 h v1 v2) (a4 : Int)).1 ((F70_x1 h v1 v2) (a4 : Int)).2) _
    exact pEnd_sound good (L := F70_L) (D := F70_D) (its := [.g, (.b false)]) (ds := F70_m1_1) (ks := []) (e := ((F70_x1 h v1 v2) (a4 : Int)).1) (s2 := ((F70_x1 h v1 v2) (a4 : Int)).2) (hC := (ai c6 trivial)) (hd := F70_d1) (h := by kernel_rfl)
theorem F70_l1_0 (h : AHeap) (l1 : List Int) (v1 : Hd) (hv1 : SlE E3 1 h (sv v1) l1) (l2 : List (Int × Int × Int × Int)) (v2 : Hd) (hv2 : SlE E92 4 h (sv v2) l2) (x : Int × Int) (r : Int) (hl : loopO (fun (s : Int × Int) => F70_s1 l1 l2 s.1 s.2) x = some r) : AWp Try.prog (.loop (codeOf Try.prog 70 [1, 0, 1, 0, 0])) (Ends1 (.exit 0) (F70_x1_0 h v1 v2 r)) ((fun (s : Int × Int) => (F70_h1 h l1 v1 v2 s.1 s.2)) x) := by
  have k := loop_fun (P := Try.prog) (c := (codeOf Try.prog 70 [1, 0, 1, 0, 0])) (step := (fun (s : Int × Int) => F70_s1 l1 l2 s.1 s.2)) (hd := (fun (s : Int × Int) => (F70_h1 h l1 v1 v2 s.1 s.2))) (X := (F70_x1 h v1 v2)) (by intro t; unfold F70_x1; intro h; cases h) (fun x => F70_r1 h l1 v1 hv1 l2 v2 hv2 x.1 x.2) hl
  exact k
def F70_m2_1 : List Bool := (false :: false :: false :: (rp 4 true (false :: false :: (rp 35 true []))))
def F70_m2_0 : List Bool := (rp 7 true (false :: (rp 36 true [])))
def F70_s2 (l1 : List Int) (l2 : List (Int × Int × Int × Int)) (y9 : Int) (a12 : Int) (l13 : List Int) : Option ((Int × (List Int)) ⊕ (List Int)) :=
  (Option.bind (at? l1 a12) fun y15 =>
  (Option.bind (at? l2 y15) fun y16 =>
  (bif (!(okApp (l13.length + ([y16.2.2.2] : List Int).length) 8)) then none else
  (bif (y16.1 == y9) then
   some (.inr (l13 ++ ([y16.2.2.2] : List Int)))
  else
   some (.inl (y16.1, (l13 ++ ([y16.2.2.2] : List Int))))))))
def F70_h2 (v1 : Hd) (v2 : Hd) (y9 : Int) (h14 : AHeap) (u13 : Hd) (a12 : Int) (l13 : List Int) : AS := ⟨((sv v1) :: (sv v2) :: (.int .i64 y9) :: (rp 4 junk ((sv u13) :: (.int .i64 a12) :: (rp 35 junk [])))), [], h14⟩
theorem F70_d2 : drawsOk F70_D (codeOf Try.prog 70 [1, 1, 1, 0, 1, 0, 0]) = true := by kernel_rfl
def F70_x2_0 (h : AHeap) (hx : AHeap) (w0 : Hd) (r : (List Int)) : AS := ⟨(rp 7 junk ((sv w0) :: (rp 36 junk []))), [], hx⟩
def F70_i2 (h : AHeap) (v1 : Hd) (v2 : Hd) (y9 : Int) (s : Int × (List Int)) (S : AS) : Prop := ∃ (h14 : AHeap) (u13 : Hd), Heapy h h14 [⟨u13, 3, 1, List.flatMap enc3 s.2⟩] ∧ Strict u13 ∧ S = (F70_h2 v1 v2 y9 h14 u13 s.1 s.2)
def F70_x2 (h : AHeap) (r : (List Int)) (e : Exit) (S : AS) : Prop := e = (.exit 2) ∧ ∃ (hx : AHeap) (w0 : Hd), Heapy h hx [⟨w0, 3, 1, List.flatMap enc3 r⟩] ∧ Strict w0 ∧ S = (F70_x2_0 h hx w0 r)
set_option maxRecDepth 100000 in
theorem F70_r2 (h : AHeap) (l1 : List Int) (v1 : Hd) (hv1 : SlE E3 1 h (sv v1) l1) (l2 : List (Int × Int × Int × Int)) (v2 : Hd) (hv2 : SlE E92 4 h (sv v2) l2) (y9 : Int) (a12 : Int) (l13 : List Int) (S : AS) (hI : (F70_i2 h v1 v2 y9) (a12, l13) S) (o : (Int × (List Int)) ⊕ (List Int)) : F70_s2 l1 l2 y9 a12 l13 = some o → Rd Try.prog (codeOf Try.prog 70 [1, 1, 1, 0, 1, 0, 0]) (F70_i2 h v1 v2 y9) (F70_x2 h) S o := by
  obtain ⟨h14, u13, hp14, z13, rfl⟩ := hI
  unfold F70_s2
  refine bind_opt fun y15 e15 => ?_
  obtain ⟨id15, off15, g15, cs15, ix15, at15, rfl⟩ := SlE.at hv1 e15
  refine bind_opt fun y16 e16 => ?_
  obtain ⟨id16, off16, g16, cs16, ix16, at16, rfl⟩ := SlE.at hv2 e16
  obtain ⟨v17, h17, m17, hp17, _⟩ := Heapy.build (P := Try.prog) hp14 (t := 29) (e := 3) (len := 1) (n := 1) (parts := [(0, .int .i64 y16.2.2.2)]) (cells := List.flatMap enc3 ([y16.2.2.2] : List Int)) (by kernel_rfl) rfl
  refine guard_ok fun g19 => ?_
  obtain ⟨v20, h20, m20, q20, _, w20⟩ := Heapy.append hp17 (show mkInfo Try.prog 29 = some (3, 1, 8, [.int .i64 0]) by kernel_rfl) 1 (v := u13) (cells := List.flatMap enc3 l13) rfl (Y := (sv v17)) (SlE.src (enc := enc3) (c := 1) (Heapy.sle (v := v17) (xs := ([y16.2.2.2] : List Int)) (enc := enc3) hp17 0 rfl (fun _ => rfl) (by decide)) (fun _ => rfl)) (flatMap_length (enc := enc3) (c := 1) (fun _ => rfl) _) (by rw [Heapy.vn (v := u13) (xs := l13) (enc := enc3) hp17 1 rfl (fun _ => rfl) (by decide)]; simpa using g19)
  have z20 : Strict v20 := w20 z13
  have hp20 : Heapy h h20 [⟨v17, 3, 1, List.flatMap enc3 ([y16.2.2.2] : List Int)⟩, ⟨v20, 3, 1, List.flatMap enc3 (l13 ++ ([y16.2.2.2] : List Int))⟩] := by rw [← List.flatMap_append] at q20; exact q20
  have kc22 := (ai m20 (ai m17 (ai (At.agg (P := Try.prog) (t := 92) (v := .agg #[.int .i64 y16.1, .int .i64 y16.2.1, .int .i64 y16.2.2.1, .int .i64 y16.2.2.2]) (m := 4) (At.mono (Heapy.sub hp14) at16) (by kernel_rfl) (by kernel_rfl) 0 (by kernel_rfl) rfl) (ai ix16 (ai (At.one (P := Try.prog) (t := 3) (v := .int .i64 y15) (At.mono (Heapy.sub hp14) at15) (by kernel_rfl) 0 rfl rfl) (ai ix15 trivial))))))
  refine dec_bif (fun c22 => ?_) (fun c22 => ?_)
  · intro hr
    obtain rfl := Option.some.inj hr
    refine ⟨(.exit 2), (F70_x2_0 h h20 v20 ((l13 ++ ([y16.2.2.2] : List Int)) : (List Int))), (by intro hh; cases hh), ?_, pEnd_sound good (L := F70_L) (D := F70_D) (its := [.g, .g, .g, (.ix id15 off15 g15), (.ld (.int .i64 y15)), (.ix id16 off16 g16), (.ld (.agg #[.int .i64 y16.1, .int .i64 y16.2.1, .int .i64 y16.2.2.1, .int .i64 y16.2.2.2])), .g, .g, .g, .g, .g, (.mm (sv v17) h17), (.mm (sv v20) h20), .g, .g, .g, .g, .g, .g, .g, (.b true)]) (ds := F70_m2_0) (ks := [9]) (e := (.exit 2)) (s2 := (F70_x2_0 h h20 v20 ((l13 ++ ([y16.2.2.2] : List Int)) : (List Int)))) (hC := (ai c22 kc22)) (hd := F70_d2) (h := by kernel_rfl)⟩
    exact ⟨rfl, h20, v20, (Heapy.pick hp20 [1] (by decide)), z20, rfl⟩
  · intro hr
    obtain rfl := Option.some.inj hr
    exact ⟨(F70_h2 v1 v2 y9 h20 v20 y16.1 (l13 ++ ([y16.2.2.2] : List Int))), ⟨h20, v20, (Heapy.pick hp20 [1] (by decide)), z20, rfl⟩, pEnd_sound good (L := F70_L) (D := F70_D) (its := [.g, .g, .g, (.ix id15 off15 g15), (.ld (.int .i64 y15)), (.ix id16 off16 g16), (.ld (.agg #[.int .i64 y16.1, .int .i64 y16.2.1, .int .i64 y16.2.2.1, .int .i64 y16.2.2.2])), .g, .g, .g, .g, .g, (.mm (sv v17) h17), (.mm (sv v20) h20), .g, .g, .g, .g, .g, .g, .g, (.b false)]) (ds := F70_m2_1) (ks := [9]) (e := .normal) (s2 := (F70_h2 v1 v2 y9 h20 v20 y16.1 (l13 ++ ([y16.2.2.2] : List Int)))) (hC := (ai c22 kc22)) (hd := F70_d2) (h := by kernel_rfl)⟩
theorem F70_l2 (h : AHeap) (l1 : List Int) (v1 : Hd) (hv1 : SlE E3 1 h (sv v1) l1) (l2 : List (Int × Int × Int × Int)) (v2 : Hd) (hv2 : SlE E92 4 h (sv v2) l2) (y9 : Int) (x : Int × (List Int)) (r : (List Int)) (hl : loopO (fun (s : Int × (List Int)) => F70_s2 l1 l2 y9 s.1 s.2) x = some r) (S : AS) (hI : (F70_i2 h v1 v2 y9) x S) : ∃ e S', (F70_x2 h) r e S' ∧ AWp Try.prog (.loop (codeOf Try.prog 70 [1, 1, 1, 0, 1, 0, 0])) (Ends1 e S') S :=
  loop_rel (fun x S hI => F70_r2 h l1 v1 hv1 l2 v2 hv2 y9 x.1 x.2 S hI) hl hI
def F70 (l1 : List Int) (l2 : List (Int × Int × Int × Int)) (x3 : Int) : Option ((List Int)) :=
  (Option.bind (loopO (fun (s : Int × Int) => F70_s1 l1 l2 s.1 s.2) (x3, 0)) fun y9 =>
  (Option.bind (loopO (fun (s : Int × (List Int)) => F70_s2 l1 l2 y9 s.1 s.2) (y9, ([] : List Int))) fun y23 =>
  (Option.bind (F66 y23) fun y26 =>
  some (y26))))
set_option maxRecDepth 100000 in
theorem F70_spec (l1 : List Int) (l2 : List (Int × Int × Int × Int)) (x3 : Int) (v1 : Hd) (v2 : Hd) (h : AHeap) (hw : h.wf) (hv1 : SlE E3 1 h (sv v1) l1) (hv2 : SlE E92 4 h (sv v2) l2) (r : (List Int)) : F70 l1 l2 x3 = some r → ∃ (ur0 : Hd) (h' : AHeap), Heapy h h' [⟨ur0, 3, 1, List.flatMap enc3 r⟩] ∧ Strict ur0 ∧ ACalls Try.prog 70 [(sv v1), (sv v2), .int .i64 x3] h (fun v' h'' => v' = ((sv ur0) : Value) ∧ h'' = h') := by
  unfold F70
  refine bind_opt fun y9 e9 => ?_
  refine bind_opt fun y23 e23 => ?_
  have hp10 : Heapy h h [⟨⟨none, 0, 0⟩, 3, 1, List.flatMap enc3 ([] : List Int)⟩] := Heapy.nil (Heapy.refl hw) 3 1
  obtain ⟨ee23, SS23, hX23, hA23⟩ := F70_l2 h l1 v1 hv1 l2 v2 hv2 y9 (y9, ([] : List Int)) y23 e23 (F70_h2 v1 v2 y9 h ⟨none, 0, 0⟩ y9 ([] : List Int)) ⟨h, ⟨none, 0, 0⟩, (Heapy.pick hp10 [0] (by decide)), Strict.nil, rfl⟩
  obtain ⟨rfl, h24, w0_24, hp24, zw0_24, rfl⟩ := hX23
  refine bind_opt fun y26 e26 => ?_
  obtain ⟨b25, pb25, ob25, jb25⟩ := Heapy.io hp24 0 (s := ⟨w0_24, 3, 1, List.flatMap enc3 y23⟩) rfl
  obtain ⟨h27, q27, c27⟩ := F66_spec y23 w0_24 h24 b25 (Heapy.wf ob25) pb25 _ e26
  have hp27 : Heapy h h27 [⟨w0_24, 3, 1, List.flatMap enc3 y26⟩] := jb25 (r := []) (s' := ⟨w0_24, 3, 1, List.flatMap enc3 y26⟩) q27
  intro hr
  obtain rfl := Option.some.inj hr
  exact ⟨w0_24, h27, Heapy.pick hp27 [0] (by decide), zw0_24, pFun_sound good tab_ok (f := 70) (its := [.g, .g, (.ln l1.length), .g, (.l F70_m1_0 [] (.exit 0) (F70_x1_0 h v1 v2 y9)), .g, .g, .g, (.l F70_m2_1 [] (.exit 2) (F70_x2_0 h h24 w0_24 y23)), .g, (.c (.tuple #[]) h27), .g, .g]) (args := [(sv v1), (sv v2), .int .i64 x3]) (h := h) (h' := h27) (v := (sv w0_24)) (hC := (ai c27 (ai hA23 (ai (F70_l1_0 h l1 v1 hv1 l2 v2 hv2 (x3, 0) y9 e9) (ai (SlE.len hv1) trivial))))) (hr := by kernel_rfl)⟩
/-! 65 jacquard/diffcons.raise -/
def F65_L : List Nat := [9]
def F65_D : List (Nat × List (Nat × Nat)) := [(14, [(0, 2), (1, 2), (2, 2), (3, 2), (4, 2), (5, 2), (6, 2), (7, 2), (8, 2)])]
def F65_m1_1 : List Bool := (false :: false :: true :: true :: true :: false :: (rp 65 true []))
def F65_m1_0 : List Bool := (false :: false :: true :: true :: true :: false :: (rp 9 true (false :: false :: (rp 54 true []))))
def F65_s1 (l1 : List Int) (a7 : Int) (l8 : List Int) : Option ((Int × (List Int)) ⊕ (List Int)) :=
  (bif decide (a7 < ((List.replicate (l1.length : Int).toNat (0 : Int)).length : Int)) then
   (Option.bind (at? l8 a7) fun y11 =>
   some (.inl ((IntKind.i64.wrap (a7 + 1)), (setI l8 a7 (-1)))))
  else
   some (.inr l8))
def F65_h1 (l1 : List Int) (v1 : Hd) (v2 : Hd) (v5 : Hd) (h9 : AHeap) (a7 : Int) (l8 : List Int) : AS := ⟨((sv v1) :: (sv v2) :: junk :: junk :: junk :: (sv v5) :: (rp 9 junk ((.int .i64 ((List.replicate (l1.length : Int).toNat (0 : Int)).length : Int)) :: (.int .i64 a7) :: (rp 54 junk [])))), [], h9⟩
theorem F65_d1 : drawsOk F65_D (codeOf Try.prog 65 [1, 0, 1, 0, 1, 0, 0]) = true := by kernel_rfl
def F65_x1_0 (h : AHeap) (l1 : List Int) (v1 : Hd) (v2 : Hd) (v5 : Hd) (hx : AHeap) (r : (List Int)) : AS := ⟨((sv v1) :: (sv v2) :: junk :: junk :: junk :: (sv v5) :: (rp 65 junk [])), [], hx⟩
def F65_i1 (h : AHeap) (l1 : List Int) (v1 : Hd) (v2 : Hd) (v5 : Hd) (s : Int × (List Int)) (S : AS) : Prop := ∃ (h9 : AHeap), Heapy h h9 [⟨v1, 3, 1, List.flatMap enc3 l1⟩, ⟨v5, 3, 1, List.flatMap enc3 s.2⟩] ∧ S = (F65_h1 l1 v1 v2 v5 h9 s.1 s.2)
def F65_x1 (h : AHeap) (l1 : List Int) (v1 : Hd) (v2 : Hd) (v5 : Hd) (r : (List Int)) (e : Exit) (S : AS) : Prop := e = (.exit 0) ∧ ∃ (hx : AHeap), Heapy h hx [⟨v1, 3, 1, List.flatMap enc3 l1⟩, ⟨v5, 3, 1, List.flatMap enc3 r⟩] ∧ S = (F65_x1_0 h l1 v1 v2 v5 hx r)
set_option maxRecDepth 100000 in
theorem F65_r1 (h : AHeap) (l1 : List Int) (v1 : Hd) (v2 : Hd) (v5 : Hd) (a7 : Int) (l8 : List Int) (S : AS) (hI : (F65_i1 h l1 v1 v2 v5) (a7, l8) S) (o : (Int × (List Int)) ⊕ (List Int)) : F65_s1 l1 a7 l8 = some o → Rd Try.prog (codeOf Try.prog 65 [1, 0, 1, 0, 1, 0, 0]) (F65_i1 h l1 v1 v2 v5) (F65_x1 h l1 v1 v2 v5) S o := by
  obtain ⟨h9, hp9, rfl⟩ := hI
  unfold F65_s1
  refine dec_bif (fun c10 => ?_) (fun c10 => ?_)
  · refine bind_opt fun y11 e11 => ?_
    obtain ⟨id11, off11, g11, cs11, ix11, at11, rfl⟩ := SlE.at (Heapy.sle (v := v5) (xs := l8) (enc := enc3) hp9 1 rfl (fun _ => rfl) (by decide)) e11
    obtain ⟨h12, m12, hp12⟩ := Heapy.store (P := Try.prog) hp9 1 (v := v5) (xs := l8) (enc := enc3) rfl (fun _ => rfl) e11 (y' := (-1)) ix11 (t := 3) (x := .int .i64 (-1)) 0 (vs := [.int .i64 (-1)]) rfl (by kernel_rfl) rfl rfl rfl rfl
    intro hr
    obtain rfl := Option.some.inj hr
    exact ⟨(F65_h1 l1 v1 v2 v5 h12 (IntKind.i64.wrap (a7 + 1)) (setI l8 a7 (-1))), ⟨h12, (Heapy.pick hp12 [0, 1] (by decide)), rfl⟩, pEnd_sound good (L := F65_L) (D := F65_D) (its := [.g, (.b true), .g, .g, .g, .g, (.ix id11 off11 g11), (.mm undef h12), .g, .g]) (ds := F65_m1_0) (ks := []) (e := .normal) (s2 := (F65_h1 l1 v1 v2 v5 h12 (IntKind.i64.wrap (a7 + 1)) (setI l8 a7 (-1)))) (hC := (ai m12 (ai ix11 (ai c10 trivial)))) (hd := F65_d1) (h := by kernel_rfl)⟩
  · intro hr
    obtain rfl := Option.some.inj hr
    refine ⟨(.exit 0), (F65_x1_0 h l1 v1 v2 v5 h9 (l8 : (List Int))), (by intro hh; cases hh), ?_, pEnd_sound good (L := F65_L) (D := F65_D) (its := [.g, (.b false)]) (ds := F65_m1_1) (ks := []) (e := (.exit 0)) (s2 := (F65_x1_0 h l1 v1 v2 v5 h9 (l8 : (List Int)))) (hC := (ai c10 trivial)) (hd := F65_d1) (h := by kernel_rfl)⟩
    exact ⟨rfl, h9, (Heapy.pick hp9 [0, 1] (by decide)), rfl⟩
theorem F65_l1 (h : AHeap) (l1 : List Int) (v1 : Hd) (v2 : Hd) (v5 : Hd) (x : Int × (List Int)) (r : (List Int)) (hl : loopO (fun (s : Int × (List Int)) => F65_s1 l1 s.1 s.2) x = some r) (S : AS) (hI : (F65_i1 h l1 v1 v2 v5) x S) : ∃ e S', (F65_x1 h l1 v1 v2 v5) r e S' ∧ AWp Try.prog (.loop (codeOf Try.prog 65 [1, 0, 1, 0, 1, 0, 0])) (Ends1 e S') S :=
  loop_rel (fun x S hI => F65_r1 h l1 v1 v2 v5 x.1 x.2 S hI) hl hI
def F65_m2_1 : List Bool := (false :: false :: true :: true :: true :: false :: true :: false :: (rp 16 true (false :: false :: (rp 45 true []))))
def F65_m2_0 : List Bool := (false :: false :: true :: true :: true :: false :: true :: false :: (rp 16 true (false :: false :: true :: false :: false :: false :: (rp 41 true []))))
def F65_s2 (l2 : List (Int × Int × Int × Int)) (a21 : Int) (a22 : Int) (l23 : List Int) (l24 : List Int) : Option ((Int × Int × (List Int) × (List Int)) ⊕ (Int × (List Int) × (List Int))) :=
  (bif decide (a22 < (l2.length : Int)) then
   (Option.bind (at? l2 a22) fun y27 =>
   (Option.bind (at? l23 y27.1) fun y28 =>
   (Option.bind (at? l23 y27.2.1) fun y29 =>
   (bif decide ((IntKind.i64.wrap (y28 + y27.2.2.1)) > y29) then
    (Option.bind (at? l24 y27.2.1) fun y32 =>
    some (.inl (y27.2.1, (IntKind.i64.wrap (a22 + 1)), (setI l23 y27.2.1 (IntKind.i64.wrap (y28 + y27.2.2.1))), (setI l24 y27.2.1 a22))))
   else
    some (.inl (a21, (IntKind.i64.wrap (a22 + 1)), l23, l24))))))
  else
   some (.inr (a21, l23, l24)))
def F65_h2 (l1 : List Int) (v1 : Hd) (l2 : List (Int × Int × Int × Int)) (v2 : Hd) (v5 : Hd) (a16 : Int) (h25 : AHeap) (a21 : Int) (a22 : Int) (l23 : List Int) (l24 : List Int) : AS := ⟨((sv v1) :: (sv v2) :: junk :: junk :: junk :: (sv v5) :: junk :: (.int .i64 a21) :: (rp 16 junk ((.int .i64 (l1.length : Int)) :: (.int .i64 a16) :: junk :: (sv v2) :: (.int .i64 (l2.length : Int)) :: (.int .i64 a22) :: (rp 41 junk [])))), [], h25⟩
theorem F65_d2 : drawsOk F65_D (codeOf Try.prog 65 [1, 0, 1, 1, 1, 1, 0, 1, 0, 0, 1, 1, 0, 0, 1, 0, 1, 0, 0]) = true := by kernel_rfl
def F65_x2_0 (h : AHeap) (l1 : List Int) (v1 : Hd) (v2 : Hd) (v5 : Hd) (a16 : Int) (hx : AHeap) (r : Int × (List Int) × (List Int)) : AS := ⟨((sv v1) :: (sv v2) :: junk :: junk :: junk :: (sv v5) :: junk :: (.int .i64 r.1) :: (rp 16 junk ((.int .i64 (l1.length : Int)) :: (.int .i64 a16) :: (rp 45 junk [])))), [], hx⟩
def F65_i2 (h : AHeap) (l1 : List Int) (v1 : Hd) (l2 : List (Int × Int × Int × Int)) (v2 : Hd) (v5 : Hd) (a16 : Int) (s : Int × Int × (List Int) × (List Int)) (S : AS) : Prop := ∃ (h25 : AHeap), Heapy h h25 [⟨v1, 3, 1, List.flatMap enc3 s.2.2.1⟩, ⟨v5, 3, 1, List.flatMap enc3 s.2.2.2⟩] ∧ S = (F65_h2 l1 v1 l2 v2 v5 a16 h25 s.1 s.2.1 s.2.2.1 s.2.2.2)
def F65_x2 (h : AHeap) (l1 : List Int) (v1 : Hd) (v2 : Hd) (v5 : Hd) (a16 : Int) (r : Int × (List Int) × (List Int)) (e : Exit) (S : AS) : Prop := e = (.exit 4) ∧ ∃ (hx : AHeap), Heapy h hx [⟨v1, 3, 1, List.flatMap enc3 r.2.1⟩, ⟨v5, 3, 1, List.flatMap enc3 r.2.2⟩] ∧ S = (F65_x2_0 h l1 v1 v2 v5 a16 hx r)
set_option maxRecDepth 100000 in
theorem F65_r2 (h : AHeap) (l1 : List Int) (v1 : Hd) (l2 : List (Int × Int × Int × Int)) (v2 : Hd) (hv2 : SlE E92 4 h (sv v2) l2) (v5 : Hd) (a16 : Int) (a21 : Int) (a22 : Int) (l23 : List Int) (l24 : List Int) (S : AS) (hI : (F65_i2 h l1 v1 l2 v2 v5 a16) (a21, a22, l23, l24) S) (o : (Int × Int × (List Int) × (List Int)) ⊕ (Int × (List Int) × (List Int))) : F65_s2 l2 a21 a22 l23 l24 = some o → Rd Try.prog (codeOf Try.prog 65 [1, 0, 1, 1, 1, 1, 0, 1, 0, 0, 1, 1, 0, 0, 1, 0, 1, 0, 0]) (F65_i2 h l1 v1 l2 v2 v5 a16) (F65_x2 h l1 v1 v2 v5 a16) S o := by
  obtain ⟨h25, hp25, rfl⟩ := hI
  unfold F65_s2
  refine dec_bif (fun c26 => ?_) (fun c26 => ?_)
  · refine bind_opt fun y27 e27 => ?_
    obtain ⟨id27, off27, g27, cs27, ix27, at27, rfl⟩ := SlE.at hv2 e27
    refine bind_opt fun y28 e28 => ?_
    obtain ⟨id28, off28, g28, cs28, ix28, at28, rfl⟩ := SlE.at (Heapy.sle (v := v1) (xs := l23) (enc := enc3) hp25 0 rfl (fun _ => rfl) (by decide)) e28
    refine bind_opt fun y29 e29 => ?_
    obtain ⟨id29, off29, g29, cs29, ix29, at29, rfl⟩ := SlE.at (Heapy.sle (v := v1) (xs := l23) (enc := enc3) hp25 0 rfl (fun _ => rfl) (by decide)) e29
    have kc30 := (ai (At.one (P := Try.prog) (t := 3) (v := .int .i64 y29) at29 (by kernel_rfl) 0 rfl rfl) (ai ix29 (ai (At.one (P := Try.prog) (t := 3) (v := .int .i64 y28) at28 (by kernel_rfl) 0 rfl rfl) (ai ix28 (ai (At.agg (P := Try.prog) (t := 92) (v := .agg #[.int .i64 y27.1, .int .i64 y27.2.1, .int .i64 y27.2.2.1, .int .i64 y27.2.2.2]) (m := 4) (At.mono (Heapy.sub hp25) at27) (by kernel_rfl) (by kernel_rfl) 0 (by kernel_rfl) rfl) (ai ix27 (ai c26 trivial)))))))
    refine dec_bif (fun c30 => ?_) (fun c30 => ?_)
    · obtain ⟨h31, m31, hp31⟩ := Heapy.store (P := Try.prog) hp25 0 (v := v1) (xs := l23) (enc := enc3) rfl (fun _ => rfl) e29 (y' := (IntKind.i64.wrap (y28 + y27.2.2.1))) ix29 (t := 3) (x := .int .i64 (IntKind.i64.wrap (y28 + y27.2.2.1))) 0 (vs := [.int .i64 (IntKind.i64.wrap (y28 + y27.2.2.1))]) rfl (by kernel_rfl) rfl rfl rfl rfl
      refine bind_opt fun y32 e32 => ?_
      obtain ⟨id32, off32, g32, cs32, ix32, at32, rfl⟩ := SlE.at (Heapy.sle (v := v5) (xs := l24) (enc := enc3) hp31 1 rfl (fun _ => rfl) (by decide)) e32
      obtain ⟨h33, m33, hp33⟩ := Heapy.store (P := Try.prog) hp31 1 (v := v5) (xs := l24) (enc := enc3) rfl (fun _ => rfl) e32 (y' := a22) ix32 (t := 3) (x := .int .i64 a22) 0 (vs := [.int .i64 a22]) rfl (by kernel_rfl) rfl rfl rfl rfl
      intro hr
      obtain rfl := Option.some.inj hr
      exact ⟨(F65_h2 l1 v1 l2 v2 v5 a16 h33 y27.2.1 (IntKind.i64.wrap (a22 + 1)) (setI l23 y27.2.1 (IntKind.i64.wrap (y28 + y27.2.2.1))) (setI l24 y27.2.1 a22)), ⟨h33, (Heapy.pick hp33 [0, 1] (by decide)), rfl⟩, pEnd_sound good (L := F65_L) (D := F65_D) (its := [.g, (.b true), .g, (.ix id27 off27 g27), (.ld (.agg #[.int .i64 y27.1, .int .i64 y27.2.1, .int .i64 y27.2.2.1, .int .i64 y27.2.2.2])), .g, .g, .g, .g, .g, .g, (.ix id28 off28 g28), (.ld (.int .i64 y28)), .g, .g, .g, .g, .g, .g, .g, .g, (.ix id29 off29 g29), (.ld (.int .i64 y29)), .g, (.b true), .g, .g, .g, .g, (.ix id29 off29 g29), (.mm undef h31), .g, .g, .g, .g, (.ix id32 off32 g32), (.mm undef h33), .g, .g, .g, .g, .g]) (ds := F65_m2_0) (ks := [9]) (e := .normal) (s2 := (F65_h2 l1 v1 l2 v2 v5 a16 h33 y27.2.1 (IntKind.i64.wrap (a22 + 1)) (setI l23 y27.2.1 (IntKind.i64.wrap (y28 + y27.2.2.1))) (setI l24 y27.2.1 a22))) (hC := (ai m33 (ai ix32 (ai m31 (ai ix29 (ai c30 kc30)))))) (hd := F65_d2) (h := by kernel_rfl)⟩
    · intro hr
      obtain rfl := Option.some.inj hr
      exact ⟨(F65_h2 l1 v1 l2 v2 v5 a16 h25 a21 (IntKind.i64.wrap (a22 + 1)) l23 l24), ⟨h25, (Heapy.pick hp25 [0, 1] (by decide)), rfl⟩, pEnd_sound good (L := F65_L) (D := F65_D) (its := [.g, (.b true), .g, (.ix id27 off27 g27), (.ld (.agg #[.int .i64 y27.1, .int .i64 y27.2.1, .int .i64 y27.2.2.1, .int .i64 y27.2.2.2])), .g, .g, .g, .g, .g, .g, (.ix id28 off28 g28), (.ld (.int .i64 y28)), .g, .g, .g, .g, .g, .g, .g, .g, (.ix id29 off29 g29), (.ld (.int .i64 y29)), .g, (.b false), .g, .g]) (ds := F65_m2_0) (ks := [9]) (e := .normal) (s2 := (F65_h2 l1 v1 l2 v2 v5 a16 h25 a21 (IntKind.i64.wrap (a22 + 1)) l23 l24)) (hC := (ai c30 kc30)) (hd := F65_d2) (h := by kernel_rfl)⟩
  · intro hr
    obtain rfl := Option.some.inj hr
    refine ⟨(.exit 4), (F65_x2_0 h l1 v1 v2 v5 a16 h25 ((a21, l23, l24) : Int × (List Int) × (List Int))), (by intro hh; cases hh), ?_, pEnd_sound good (L := F65_L) (D := F65_D) (its := [.g, (.b false)]) (ds := F65_m2_1) (ks := []) (e := (.exit 4)) (s2 := (F65_x2_0 h l1 v1 v2 v5 a16 h25 ((a21, l23, l24) : Int × (List Int) × (List Int)))) (hC := (ai c26 trivial)) (hd := F65_d2) (h := by kernel_rfl)⟩
    exact ⟨rfl, h25, (Heapy.pick hp25 [0, 1] (by decide)), rfl⟩
theorem F65_l2 (h : AHeap) (l1 : List Int) (v1 : Hd) (l2 : List (Int × Int × Int × Int)) (v2 : Hd) (hv2 : SlE E92 4 h (sv v2) l2) (v5 : Hd) (a16 : Int) (x : Int × Int × (List Int) × (List Int)) (r : Int × (List Int) × (List Int)) (hl : loopO (fun (s : Int × Int × (List Int) × (List Int)) => F65_s2 l2 s.1 s.2.1 s.2.2.1 s.2.2.2) x = some r) (S : AS) (hI : (F65_i2 h l1 v1 l2 v2 v5 a16) x S) : ∃ e S', (F65_x2 h l1 v1 v2 v5 a16) r e S' ∧ AWp Try.prog (.loop (codeOf Try.prog 65 [1, 0, 1, 1, 1, 1, 0, 1, 0, 0, 1, 1, 0, 0, 1, 0, 1, 0, 0])) (Ends1 e S') S :=
  loop_rel (fun x S hI => F65_r2 h l1 v1 l2 v2 hv2 v5 a16 x.1 x.2.1 x.2.2.1 x.2.2.2 S hI) hl hI
def F65_m3_1 : List Bool := (false :: false :: true :: true :: true :: false :: true :: false :: (rp 16 true (false :: false :: (rp 45 true []))))
def F65_m3_0 : List Bool := (false :: false :: true :: true :: true :: false :: true :: false :: (rp 63 true []))
def F65_s3 (l1 : List Int) (l2 : List (Int × Int × Int × Int)) (a15 : Int) (a16 : Int) (l17 : List Int) (l18 : List Int) : Option ((Int × Int × (List Int) × (List Int)) ⊕ (Int × (List Int) × (List Int))) :=
  (bif decide (a16 < (l1.length : Int)) then
   (Option.bind (loopO (fun (s : Int × Int × (List Int) × (List Int)) => F65_s2 l2 s.1 s.2.1 s.2.2.1 s.2.2.2) ((-1), 0, l17, l18)) fun y34 =>
   (bif decide (y34.1 < 0) then
    some (.inr (y34.1, y34.2.1, y34.2.2))
   else
    some (.inl (y34.1, (IntKind.i64.wrap (a16 + 1)), y34.2.1, y34.2.2))))
  else
   some (.inr (a15, l17, l18)))
def F65_h3 (l1 : List Int) (v1 : Hd) (v2 : Hd) (v5 : Hd) (h19 : AHeap) (a15 : Int) (a16 : Int) (l17 : List Int) (l18 : List Int) : AS := ⟨((sv v1) :: (sv v2) :: junk :: junk :: junk :: (sv v5) :: junk :: (.int .i64 a15) :: (rp 16 junk ((.int .i64 (l1.length : Int)) :: (.int .i64 a16) :: (rp 45 junk [])))), [], h19⟩
theorem F65_d3 : drawsOk F65_D (codeOf Try.prog 65 [1, 0, 1, 1, 1, 1, 0, 1, 0, 0]) = true := by kernel_rfl
def F65_x3_0 (h : AHeap) (v1 : Hd) (v2 : Hd) (v5 : Hd) (hx : AHeap) (r : Int × (List Int) × (List Int)) : AS := ⟨((sv v1) :: (sv v2) :: junk :: junk :: junk :: (sv v5) :: junk :: (.int .i64 r.1) :: (rp 63 junk [])), [], hx⟩
def F65_i3 (h : AHeap) (l1 : List Int) (v1 : Hd) (v2 : Hd) (v5 : Hd) (s : Int × Int × (List Int) × (List Int)) (S : AS) : Prop := ∃ (h19 : AHeap), Heapy h h19 [⟨v1, 3, 1, List.flatMap enc3 s.2.2.1⟩, ⟨v5, 3, 1, List.flatMap enc3 s.2.2.2⟩] ∧ S = (F65_h3 l1 v1 v2 v5 h19 s.1 s.2.1 s.2.2.1 s.2.2.2)
def F65_x3 (h : AHeap) (v1 : Hd) (v2 : Hd) (v5 : Hd) (r : Int × (List Int) × (List Int)) (e : Exit) (S : AS) : Prop := e = (.exit 2) ∧ ∃ (hx : AHeap), Heapy h hx [⟨v1, 3, 1, List.flatMap enc3 r.2.1⟩, ⟨v5, 3, 1, List.flatMap enc3 r.2.2⟩] ∧ S = (F65_x3_0 h v1 v2 v5 hx r)
set_option maxRecDepth 100000 in
theorem F65_r3 (h : AHeap) (l1 : List Int) (v1 : Hd) (l2 : List (Int × Int × Int × Int)) (v2 : Hd) (hv2 : SlE E92 4 h (sv v2) l2) (v5 : Hd) (a15 : Int) (a16 : Int) (l17 : List Int) (l18 : List Int) (S : AS) (hI : (F65_i3 h l1 v1 v2 v5) (a15, a16, l17, l18) S) (o : (Int × Int × (List Int) × (List Int)) ⊕ (Int × (List Int) × (List Int))) : F65_s3 l1 l2 a15 a16 l17 l18 = some o → Rd Try.prog (codeOf Try.prog 65 [1, 0, 1, 1, 1, 1, 0, 1, 0, 0]) (F65_i3 h l1 v1 v2 v5) (F65_x3 h v1 v2 v5) S o := by
  obtain ⟨h19, hp19, rfl⟩ := hI
  unfold F65_s3
  refine dec_bif (fun c20 => ?_) (fun c20 => ?_)
  · refine bind_opt fun y34 e34 => ?_
    obtain ⟨ee34, SS34, hX34, hA34⟩ := F65_l2 h l1 v1 l2 v2 hv2 v5 a16 ((-1), 0, l17, l18) y34 e34 (F65_h2 l1 v1 l2 v2 v5 a16 h19 (-1) 0 l17 l18) ⟨h19, (Heapy.pick hp19 [0, 1] (by decide)), rfl⟩
    obtain ⟨rfl, h35, hp35, rfl⟩ := hX34
    have kc36 := (ai hA34 (ai (SlE.len hv2) (ai c20 trivial)))
    refine dec_bif (fun c36 => ?_) (fun c36 => ?_)
    · intro hr
      obtain rfl := Option.some.inj hr
      refine ⟨(.exit 2), (F65_x3_0 h v1 v2 v5 h35 ((y34.1, y34.2.1, y34.2.2) : Int × (List Int) × (List Int))), (by intro hh; cases hh), ?_, pEnd_sound good (L := F65_L) (D := F65_D) (its := [.g, (.b true), .g, .g, (.ln l2.length), .g, (.l F65_m2_0 [] (.exit 4) (F65_x2_0 h l1 v1 v2 v5 a16 h35 y34)), .g, .g, (.b true)]) (ds := F65_m3_0) (ks := []) (e := (.exit 2)) (s2 := (F65_x3_0 h v1 v2 v5 h35 ((y34.1, y34.2.1, y34.2.2) : Int × (List Int) × (List Int)))) (hC := (ai c36 kc36)) (hd := F65_d3) (h := by kernel_rfl)⟩
      exact ⟨rfl, h35, (Heapy.pick hp35 [0, 1] (by decide)), rfl⟩
    · intro hr
      obtain rfl := Option.some.inj hr
      exact ⟨(F65_h3 l1 v1 v2 v5 h35 y34.1 (IntKind.i64.wrap (a16 + 1)) y34.2.1 y34.2.2), ⟨h35, (Heapy.pick hp35 [0, 1] (by decide)), rfl⟩, pEnd_sound good (L := F65_L) (D := F65_D) (its := [.g, (.b true), .g, .g, (.ln l2.length), .g, (.l F65_m2_0 [] (.exit 4) (F65_x2_0 h l1 v1 v2 v5 a16 h35 y34)), .g, .g, (.b false), .g, .g]) (ds := F65_m3_1) (ks := []) (e := .normal) (s2 := (F65_h3 l1 v1 v2 v5 h35 y34.1 (IntKind.i64.wrap (a16 + 1)) y34.2.1 y34.2.2)) (hC := (ai c36 kc36)) (hd := F65_d3) (h := by kernel_rfl)⟩
  · intro hr
    obtain rfl := Option.some.inj hr
    refine ⟨(.exit 2), (F65_x3_0 h v1 v2 v5 h19 ((a15, l17, l18) : Int × (List Int) × (List Int))), (by intro hh; cases hh), ?_, pEnd_sound good (L := F65_L) (D := F65_D) (its := [.g, (.b false)]) (ds := F65_m3_0) (ks := []) (e := (.exit 2)) (s2 := (F65_x3_0 h v1 v2 v5 h19 ((a15, l17, l18) : Int × (List Int) × (List Int)))) (hC := (ai c20 trivial)) (hd := F65_d3) (h := by kernel_rfl)⟩
    exact ⟨rfl, h19, (Heapy.pick hp19 [0, 1] (by decide)), rfl⟩
theorem F65_l3 (h : AHeap) (l1 : List Int) (v1 : Hd) (l2 : List (Int × Int × Int × Int)) (v2 : Hd) (hv2 : SlE E92 4 h (sv v2) l2) (v5 : Hd) (x : Int × Int × (List Int) × (List Int)) (r : Int × (List Int) × (List Int)) (hl : loopO (fun (s : Int × Int × (List Int) × (List Int)) => F65_s3 l1 l2 s.1 s.2.1 s.2.2.1 s.2.2.2) x = some r) (S : AS) (hI : (F65_i3 h l1 v1 v2 v5) x S) : ∃ e S', (F65_x3 h v1 v2 v5) r e S' ∧ AWp Try.prog (.loop (codeOf Try.prog 65 [1, 0, 1, 1, 1, 1, 0, 1, 0, 0])) (Ends1 e S') S :=
  loop_rel (fun x S hI => F65_r3 h l1 v1 l2 v2 hv2 v5 x.1 x.2.1 x.2.2.1 x.2.2.2 S hI) hl hI
def F65 (l1 : List Int) (l2 : List (Int × Int × Int × Int)) : Option ((List Int) × (List Int)) :=
  (bif (!(okLen (l1.length : Int) (l1.length : Int) 8)) then none else
  (Option.bind (loopO (fun (s : Int × (List Int)) => F65_s1 l1 s.1 s.2) (0, (List.replicate (l1.length : Int).toNat (0 : Int)))) fun y13 =>
  (Option.bind (loopO (fun (s : Int × Int × (List Int) × (List Int)) => F65_s3 l1 l2 s.1 s.2.1 s.2.2.1 s.2.2.2) ((-1), 0, l1, y13)) fun y37 =>
  (bif decide (y37.1 < 0) then
   some ([], y37.2.1)
  else
   (Option.bind (F70 y37.2.2 l2 y37.1) fun y40 =>
   some (y40, y37.2.1))))))
set_option maxRecDepth 100000 in
theorem F65_spec (l1 : List Int) (l2 : List (Int × Int × Int × Int)) (v1 : Hd) (v2 : Hd) (hi : AHeap) (h : AHeap) (hw : h.wf) (hv2 : SlE E92 4 h (sv v2) l2) (hio : Heapy h hi [⟨v1, 3, 1, List.flatMap enc3 l1⟩]) (r : (List Int) × (List Int)) : F65 l1 l2 = some r → ∃ (ur0 : Hd) (h' : AHeap), Heapy h h' [⟨ur0, 3, 1, List.flatMap enc3 r.1⟩, ⟨v1, 3, 1, List.flatMap enc3 r.2⟩] ∧ Strict ur0 ∧ ACalls Try.prog 65 [(sv v1), (sv v2)] hi (fun v' h'' => v' = ((sv ur0) : Value) ∧ h'' = h') := by
  unfold F65
  refine guard_ok fun g4 => ?_
  obtain ⟨v5, h5, m5, hp5, _⟩ := Heapy.make hio (show mkInfo Try.prog 29 = some (3, 1, 8, [.int .i64 0]) by kernel_rfl) (a := (l1.length : Int)) (b := (l1.length : Int)) (by simpa using g4) (enc := enc3) (x := 0) rfl rfl
  refine bind_opt fun y13 e13 => ?_
  obtain ⟨ee13, SS13, hX13, hA13⟩ := F65_l1 h l1 v1 v2 v5 (0, (List.replicate (l1.length : Int).toNat (0 : Int))) y13 e13 (F65_h1 l1 v1 v2 v5 h5 0 (List.replicate (l1.length : Int).toNat (0 : Int))) ⟨h5, (Heapy.pick hp5 [1, 0] (by decide)), rfl⟩
  obtain ⟨rfl, h14, hp14, rfl⟩ := hX13
  refine bind_opt fun y37 e37 => ?_
  obtain ⟨ee37, SS37, hX37, hA37⟩ := F65_l3 h l1 v1 l2 v2 hv2 v5 ((-1), 0, l1, y13) y37 e37 (F65_h3 l1 v1 v2 v5 h14 (-1) 0 l1 y13) ⟨h14, (Heapy.pick hp14 [0, 1] (by decide)), rfl⟩
  obtain ⟨rfl, h38, hp38, rfl⟩ := hX37
  have kc39 := (ai hA37 (ai (SlE.len (Heapy.sle (v := v1) (xs := l1) (enc := enc3) hp14 0 rfl (fun _ => rfl) (by decide))) (ai hA13 (ai (SlE.len (Heapy.sle (v := v5) (xs := (List.replicate (l1.length : Int).toNat (0 : Int))) (enc := enc3) hp5 0 rfl (fun _ => rfl) (by decide))) (ai m5 (ai (SlE.len (Heapy.sle (v := v1) (xs := l1) (enc := enc3) hio 0 rfl (fun _ => rfl) (by decide))) trivial))))))
  refine dec_bif (fun c39 => ?_) (fun c39 => ?_)
  · intro hr
    obtain rfl := Option.some.inj hr
    exact ⟨⟨none, 0, 0⟩, h38, Heapy.pick (Heapy.nil hp38 3 1) [0, 1] (by decide), Strict.nil, pFun_sound good tab_ok (f := 65) (its := [.g, .g, (.ln l1.length), (.mm (sv v5) h5), .g, .g, (.ln (List.replicate (l1.length : Int).toNat (0 : Int)).length), .g, (.l F65_m1_0 [] (.exit 0) (F65_x1_0 h l1 v1 v2 v5 h14 y13)), .g, .g, (.ln l1.length), .g, (.l F65_m3_1 [] (.exit 2) (F65_x3_0 h v1 v2 v5 h38 y37)), .g, .g, (.b true), .g]) (args := [(sv v1), (sv v2)]) (h := hi) (h' := h38) (v := .slice none 0 0) (hC := (ai c39 kc39)) (hr := by kernel_rfl)⟩
  · refine bind_opt fun y40 e40 => ?_
    obtain ⟨u41_0, h41, q41, zu41_0, c41⟩ := F70_spec y37.2.2 l2 y37.1 v5 v2 h38 (Heapy.wf hp38) (Heapy.sle (v := v5) (xs := y37.2.2) (enc := enc3) hp38 1 rfl (fun _ => rfl) (by decide)) (SlE.mono hv2 (Heapy.sub hp38) (E92_mono (Heapy.sub hp38))) _ e40
    have hp41 : Heapy h h41 [⟨u41_0, 3, 1, List.flatMap enc3 y40⟩, ⟨v1, 3, 1, List.flatMap enc3 y37.2.1⟩, ⟨v5, 3, 1, List.flatMap enc3 y37.2.2⟩] := Heapy.call hp38 q41
    intro hr
    obtain rfl := Option.some.inj hr
    exact ⟨u41_0, h41, Heapy.pick hp41 [0, 1] (by decide), zu41_0, pFun_sound good tab_ok (f := 65) (its := [.g, .g, (.ln l1.length), (.mm (sv v5) h5), .g, .g, (.ln (List.replicate (l1.length : Int).toNat (0 : Int)).length), .g, (.l F65_m1_0 [] (.exit 0) (F65_x1_0 h l1 v1 v2 v5 h14 y13)), .g, .g, (.ln l1.length), .g, (.l F65_m3_1 [] (.exit 2) (F65_x3_0 h v1 v2 v5 h38 y37)), .g, .g, (.b false), .g, .g, .g, (.c ((sv u41_0)) h41), .g]) (args := [(sv v1), (sv v2)]) (h := hi) (h' := h41) (v := (sv u41_0)) (hC := (ai c41 (ai c39 kc39))) (hr := by kernel_rfl)⟩
/-! 62 jacquard/diffcons.After -/
def F62_L : List Nat := []
def F62_D : List (Nat × List (Nat × Nat)) := []
def F62_m1_1 : List Bool := (rp 8 true (false :: true :: false :: (rp 28 true [])))
def F62_m1_0 : List Bool := (true :: true :: true :: false :: (rp 4 true (false :: true :: false :: (rp 10 true (false :: false :: (rp 16 true []))))))
def F62_s1 (x1 : Int) (l4 : List Int) (a12 : Int) (l13 : List Int) : Option ((Int × (List Int)) ⊕ (List Int)) :=
  (bif decide (a12 < ((List.replicate (F57 x1).toNat (0 : Int)).length : Int)) then
   (Option.bind (F64 l4 a12) fun y16 =>
   (Option.bind (at? l13 a12) fun y18 =>
   some (.inl ((IntKind.i64.wrap (a12 + 1)), (setI l13 a12 y16)))))
  else
   some (.inr l13))
def F62_h1 (x1 : Int) (v4 : Hd) (u7_0 : Hd) (v10 : Hd) (h14 : AHeap) (a12 : Int) (l13 : List Int) : AS := ⟨(junk :: junk :: junk :: (sv v4) :: (rp 4 junk ((sv v10) :: junk :: (sv u7_0) :: (rp 10 junk ((.int .i64 ((List.replicate (F57 x1).toNat (0 : Int)).length : Int)) :: (.int .i64 a12) :: (rp 16 junk [])))))), [], h14⟩
theorem F62_d1 : drawsOk F62_D (codeOf Try.prog 62 [1, 1, 1, 1, 0, 1, 0, 0]) = true := by kernel_rfl
def F62_x1_0 (h : AHeap) (y6 : (List (Int × Int × Int × Int))) (u7_0 : Hd) (v10 : Hd) (hx : AHeap) (r : (List Int)) : AS := ⟨(rp 8 junk ((sv v10) :: junk :: (sv u7_0) :: (rp 28 junk []))), [], hx⟩
def F62_i1 (h : AHeap) (x1 : Int) (v4 : Hd) (y6 : (List (Int × Int × Int × Int))) (u7_0 : Hd) (v10 : Hd) (s : Int × (List Int)) (S : AS) : Prop := ∃ (h14 : AHeap), Heapy h h14 [⟨v10, 3, 1, List.flatMap enc3 s.2⟩, ⟨u7_0, 92, 4, List.flatMap enc92 y6⟩] ∧ S = (F62_h1 x1 v4 u7_0 v10 h14 s.1 s.2)
def F62_x1 (h : AHeap) (y6 : (List (Int × Int × Int × Int))) (u7_0 : Hd) (v10 : Hd) (r : (List Int)) (e : Exit) (S : AS) : Prop := e = (.exit 0) ∧ ∃ (hx : AHeap), Heapy h hx [⟨v10, 3, 1, List.flatMap enc3 r⟩, ⟨u7_0, 92, 4, List.flatMap enc92 y6⟩] ∧ S = (F62_x1_0 h y6 u7_0 v10 hx r)
set_option maxRecDepth 100000 in
theorem F62_r1 (h : AHeap) (x1 : Int) (l4 : List Int) (v4 : Hd) (hv4 : SlE E3 1 h (sv v4) l4) (y6 : (List (Int × Int × Int × Int))) (u7_0 : Hd) (v10 : Hd) (a12 : Int) (l13 : List Int) (S : AS) (hI : (F62_i1 h x1 v4 y6 u7_0 v10) (a12, l13) S) (o : (Int × (List Int)) ⊕ (List Int)) : F62_s1 x1 l4 a12 l13 = some o → Rd Try.prog (codeOf Try.prog 62 [1, 1, 1, 1, 0, 1, 0, 0]) (F62_i1 h x1 v4 y6 u7_0 v10) (F62_x1 h y6 u7_0 v10) S o := by
  obtain ⟨h14, hp14, rfl⟩ := hI
  unfold F62_s1
  refine dec_bif (fun c15 => ?_) (fun c15 => ?_)
  · refine bind_opt fun y16 e16 => ?_
    refine bind_opt fun y18 e18 => ?_
    obtain ⟨id18, off18, g18, cs18, ix18, at18, rfl⟩ := SlE.at (Heapy.sle (v := v10) (xs := l13) (enc := enc3) hp14 0 rfl (fun _ => rfl) (by decide)) e18
    obtain ⟨h19, m19, hp19⟩ := Heapy.store (P := Try.prog) hp14 0 (v := v10) (xs := l13) (enc := enc3) rfl (fun _ => rfl) e18 (y' := y16) ix18 (t := 3) (x := .int .i64 y16) 0 (vs := [.int .i64 y16]) rfl (by kernel_rfl) rfl rfl rfl rfl
    intro hr
    obtain rfl := Option.some.inj hr
    exact ⟨(F62_h1 x1 v4 u7_0 v10 h19 (IntKind.i64.wrap (a12 + 1)) (setI l13 a12 y16)), ⟨h19, (Heapy.pick hp19 [0, 1] (by decide)), rfl⟩, pEnd_sound good (L := F62_L) (D := F62_D) (its := [.g, (.b true), .g, .g, .g, .g, .g, .g, (.c (.int .i64 y16) h14), (.ix id18 off18 g18), (.mm undef h19), .g, .g]) (ds := F62_m1_0) (ks := []) (e := .normal) (s2 := (F62_h1 x1 v4 u7_0 v10 h19 (IntKind.i64.wrap (a12 + 1)) (setI l13 a12 y16))) (hC := (ai m19 (ai ix18 (ai (F64_spec l4 a12 v4 h14 (SlE.mono hv4 (Heapy.sub hp14) (E3_mono (Heapy.sub hp14))) _ e16) (ai c15 trivial))))) (hd := F62_d1) (h := by kernel_rfl)⟩
  · intro hr
    obtain rfl := Option.some.inj hr
    refine ⟨(.exit 0), (F62_x1_0 h y6 u7_0 v10 h14 (l13 : (List Int))), (by intro hh; cases hh), ?_, pEnd_sound good (L := F62_L) (D := F62_D) (its := [.g, (.b false)]) (ds := F62_m1_1) (ks := []) (e := (.exit 0)) (s2 := (F62_x1_0 h y6 u7_0 v10 h14 (l13 : (List Int)))) (hC := (ai c15 trivial)) (hd := F62_d1) (h := by kernel_rfl)⟩
    exact ⟨rfl, h14, (Heapy.pick hp14 [0, 1] (by decide)), rfl⟩
theorem F62_l1 (h : AHeap) (x1 : Int) (l4 : List Int) (v4 : Hd) (hv4 : SlE E3 1 h (sv v4) l4) (y6 : (List (Int × Int × Int × Int))) (u7_0 : Hd) (v10 : Hd) (x : Int × (List Int)) (r : (List Int)) (hl : loopO (fun (s : Int × (List Int)) => F62_s1 x1 l4 s.1 s.2) x = some r) (S : AS) (hI : (F62_i1 h x1 v4 y6 u7_0 v10) x S) : ∃ e S', (F62_x1 h y6 u7_0 v10) r e S' ∧ AWp Try.prog (.loop (codeOf Try.prog 62 [1, 1, 1, 1, 0, 1, 0, 0])) (Ends1 e S') S :=
  loop_rel (fun x S hI => F62_r1 h x1 l4 v4 hv4 y6 u7_0 v10 x.1 x.2 S hI) hl hI
def F62 (x1 : Int) (l2 : List (Int × Int × Int × Int)) (x3 : Int) (l4 : List Int) : Option ((List Int) × (List Int)) :=
  (Option.bind (F63 (F57 x1) l2 x3 false) fun y6 =>
  (bif (!(okLen (F57 x1) (F57 x1) 8)) then none else
  (Option.bind (loopO (fun (s : Int × (List Int)) => F62_s1 x1 l4 s.1 s.2) (0, (List.replicate (F57 x1).toNat (0 : Int)))) fun y20 =>
  (Option.bind (F65 y20 y6) fun y23 =>
  (bif (!y23.1.isEmpty) then
   some ([], y23.1)
  else
   some (y23.2, []))))))
set_option maxRecDepth 100000 in
theorem F62_spec (x1 : Int) (l2 : List (Int × Int × Int × Int)) (x3 : Int) (l4 : List Int) (v2 : Hd) (v4 : Hd) (h : AHeap) (hw : h.wf) (hv2 : SlE E57 4 h (sv v2) l2) (hv4 : SlE E3 1 h (sv v4) l4) (r : (List Int) × (List Int)) : F62 x1 l2 x3 l4 = some r → ∃ (ur0 : Hd) (ur1 : Hd) (h' : AHeap), Heapy h h' [⟨ur0, 3, 1, List.flatMap enc3 r.1⟩, ⟨ur1, 3, 1, List.flatMap enc3 r.2⟩] ∧ Strict ur1 ∧ ACalls Try.prog 62 [.int .i64 x1, (sv v2), .int .i64 x3, (sv v4)] h (fun v' h'' => v' = (.tuple #[(sv ur0), (sv ur1)] : Value) ∧ h'' = h') := by
  unfold F62
  refine bind_opt fun y6 e6 => ?_
  obtain ⟨u7_0, h7, q7, zu7_0, c7⟩ := F63_spec (F57 x1) l2 x3 false v2 h hw hv2 _ e6
  have hp7 : Heapy h h7 [⟨u7_0, 92, 4, List.flatMap enc92 y6⟩] := Heapy.call (Heapy.refl hw) q7
  refine guard_ok fun g9 => ?_
  obtain ⟨v10, h10, m10, hp10, _⟩ := Heapy.make hp7 (show mkInfo Try.prog 29 = some (3, 1, 8, [.int .i64 0]) by kernel_rfl) (a := (F57 x1)) (b := (F57 x1)) (by simpa using g9) (enc := enc3) (x := 0) rfl rfl
  refine bind_opt fun y20 e20 => ?_
  obtain ⟨ee20, SS20, hX20, hA20⟩ := F62_l1 h x1 l4 v4 hv4 y6 u7_0 v10 (0, (List.replicate (F57 x1).toNat (0 : Int))) y20 e20 (F62_h1 x1 v4 u7_0 v10 h10 0 (List.replicate (F57 x1).toNat (0 : Int))) ⟨h10, (Heapy.pick hp10 [0, 1] (by decide)), rfl⟩
  obtain ⟨rfl, h21, hp21, rfl⟩ := hX20
  refine bind_opt fun y23 e23 => ?_
  obtain ⟨b22, pb22, ob22, jb22⟩ := Heapy.io hp21 0 (s := ⟨v10, 3, 1, List.flatMap enc3 y20⟩) rfl
  obtain ⟨u24_0, h24, q24, zu24_0, c24⟩ := F65_spec y20 y6 v10 u7_0 h21 b22 (Heapy.wf ob22) (Heapy.sle (v := u7_0) (xs := y6) (enc := enc92) ob22 0 rfl (fun _ => rfl) (by decide)) pb22 _ e23
  have hp24 : Heapy h h24 [⟨u24_0, 3, 1, List.flatMap enc3 y23.1⟩, ⟨v10, 3, 1, List.flatMap enc3 y23.2⟩, ⟨u7_0, 92, 4, List.flatMap enc92 y6⟩] := jb22 (r := [⟨u24_0, 3, 1, List.flatMap enc3 y23.1⟩]) (s' := ⟨v10, 3, 1, List.flatMap enc3 y23.2⟩) q24
  have kc26 := (ai (Heapy.nilE (v := u24_0) (xs := y23.1) (enc := enc3) hp24 0 rfl (fun _ => rfl) (by decide) zu24_0) (ai c24 (ai hA20 (ai (SlE.len (Heapy.sle (v := v10) (xs := (List.replicate (F57 x1).toNat (0 : Int))) (enc := enc3) hp10 0 rfl (fun _ => rfl) (by decide))) (ai m10 (ai c7 (ai (F57_spec x1 h _ rfl) trivial)))))))
  refine dec_bif (fun c26 => ?_) (fun c26 => ?_)
  · intro hr
    obtain rfl := Option.some.inj hr
    exact ⟨⟨none, 0, 0⟩, u24_0, h24, Heapy.pick (Heapy.nil hp24 3 1) [0, 1] (by decide), zu24_0, pFun_sound good tab_ok (f := 62) (its := [.g, .g, .g, (.c (.int .i64 (F57 x1)) h), .g, .g, .g, .g, (.c ((sv u7_0)) h7), .g, .g, (.mm (sv v10) h10), .g, .g, (.ln (List.replicate (F57 x1).toNat (0 : Int)).length), .g, (.l F62_m1_0 [] (.exit 0) (F62_x1_0 h y6 u7_0 v10 h21 y20)), .g, .g, (.c ((sv u24_0)) h24), .g, .g, (.nl y23.1.isEmpty), (.b true), .g, .g, .g]) (args := [.int .i64 x1, (sv v2), .int .i64 x3, (sv v4)]) (h := h) (h' := h24) (v := .tuple #[.slice none 0 0, (sv u24_0)]) (hC := (ai c26 kc26)) (hr := by kernel_rfl)⟩
  · intro hr
    obtain rfl := Option.some.inj hr
    exact ⟨v10, ⟨none, 0, 0⟩, h24, Heapy.pick (Heapy.nil hp24 3 1) [2, 0] (by decide), Strict.nil, pFun_sound good tab_ok (f := 62) (its := [.g, .g, .g, (.c (.int .i64 (F57 x1)) h), .g, .g, .g, .g, (.c ((sv u7_0)) h7), .g, .g, (.mm (sv v10) h10), .g, .g, (.ln (List.replicate (F57 x1).toNat (0 : Int)).length), .g, (.l F62_m1_0 [] (.exit 0) (F62_x1_0 h y6 u7_0 v10 h21 y20)), .g, .g, (.c ((sv u24_0)) h24), .g, .g, (.nl y23.1.isEmpty), (.b false), .g, .g, .g]) (args := [.int .i64 x1, (sv v2), .int .i64 x3, (sv v4)]) (h := h) (h' := h24) (v := .tuple #[(sv v10), .slice none 0 0]) (hC := (ai c26 kc26)) (hr := by kernel_rfl)⟩
/-! 47 jacquard/diffcons.Earliest -/
def F47 (x1 : Int) (l2 : List (Int × Int × Int × Int)) (x3 : Int) : Option ((List Int) × (List Int)) :=
  (Option.bind (F62 x1 l2 x3 []) fun y4 =>
  some (y4.1, y4.2))
set_option maxRecDepth 100000 in
theorem F47_spec (x1 : Int) (l2 : List (Int × Int × Int × Int)) (x3 : Int) (v2 : Hd) (h : AHeap) (hw : h.wf) (hv2 : SlE E57 4 h (sv v2) l2) (r : (List Int) × (List Int)) : F47 x1 l2 x3 = some r → ∃ (ur0 : Hd) (ur1 : Hd) (h' : AHeap), Heapy h h' [⟨ur0, 3, 1, List.flatMap enc3 r.1⟩, ⟨ur1, 3, 1, List.flatMap enc3 r.2⟩] ∧ Strict ur1 ∧ ACalls Try.prog 47 [.int .i64 x1, (sv v2), .int .i64 x3] h (fun v' h'' => v' = (.tuple #[(sv ur0), (sv ur1)] : Value) ∧ h'' = h') := by
  unfold F47
  refine bind_opt fun y4 e4 => ?_
  obtain ⟨u5_0, u5_1, h5, q5, zu5_1, c5⟩ := F62_spec x1 l2 x3 [] v2 ⟨none, 0, 0⟩ h hw hv2 SlE.nil _ e4
  have hp5 : Heapy h h5 [⟨u5_0, 3, 1, List.flatMap enc3 y4.1⟩, ⟨u5_1, 3, 1, List.flatMap enc3 y4.2⟩] := Heapy.call (Heapy.refl hw) q5
  intro hr
  obtain rfl := Option.some.inj hr
  exact ⟨u5_0, u5_1, h5, Heapy.pick hp5 [0, 1] (by decide), zu5_1, pFun_sound good tab_ok (f := 47) (its := [.g, .g, .g, .g, .g, (.c (.tuple #[(sv u5_0), (sv u5_1)]) h5), .g, .g, .g, .g]) (args := [.int .i64 x1, (sv v2), .int .i64 x3]) (h := h) (h' := h5) (v := .tuple #[(sv u5_0), (sv u5_1)]) (hC := (ai c5 trivial)) (hr := by kernel_rfl)⟩
/-! 34 jacquard/bounds.cycleFor -/
def F34 (x1 : Int) (x2 : Int) (x3 : Bool) (l4 : List (Int × Int × Int × Int)) (l5 : List (Int × Int × Int × Int)) (l6 : List (Int × Int)) (x7 : Int) : Option ((List Int)) :=
  (Option.bind (F47 (F42 x1 x2 x3 l4 l5 l6) l4 x7) fun y9 =>
  some (y9.2))
set_option maxRecDepth 100000 in
theorem F34_spec (x1 : Int) (x2 : Int) (x3 : Bool) (l4 : List (Int × Int × Int × Int)) (l5 : List (Int × Int × Int × Int)) (l6 : List (Int × Int)) (x7 : Int) (v4 : Hd) (v5 : Hd) (v6 : Hd) (h : AHeap) (hw : h.wf) (hv4 : SlE E57 4 h (sv v4) l4) (hv5 : SlE E59 4 h (sv v5) l5) (hv6 : SlE E61 2 h (sv v6) l6) (r : (List Int)) : F34 x1 x2 x3 l4 l5 l6 x7 = some r → ∃ (ur0 : Hd) (h' : AHeap), Heapy h h' [⟨ur0, 3, 1, List.flatMap enc3 r⟩] ∧ Strict ur0 ∧ ACalls Try.prog 34 [.agg #[.int .i64 x1, .int .i64 x2, .bool x3, (sv v4), (sv v5), (sv v6)], .int .i64 x7] h (fun v' h'' => v' = ((sv ur0) : Value) ∧ h'' = h') := by
  unfold F34
  refine bind_opt fun y9 e9 => ?_
  obtain ⟨u10_0, u10_1, h10, q10, zu10_1, c10⟩ := F47_spec (F42 x1 x2 x3 l4 l5 l6) l4 x7 v4 h hw hv4 _ e9
  have hp10 : Heapy h h10 [⟨u10_0, 3, 1, List.flatMap enc3 y9.1⟩, ⟨u10_1, 3, 1, List.flatMap enc3 y9.2⟩] := Heapy.call (Heapy.refl hw) q10
  intro hr
  obtain rfl := Option.some.inj hr
  exact ⟨u10_1, h10, Heapy.pick hp10 [1] (by decide), zu10_1, pFun_sound good tab_ok (f := 34) (its := [.g, .g, .g, .g, .g, .g, (.c (.int .i64 (F42 x1 x2 x3 l4 l5 l6)) h), (.c (.tuple #[(sv u10_0), (sv u10_1)]) h10), .g, .g, .g, .g, .g, .g, .g]) (args := [.agg #[.int .i64 x1, .int .i64 x2, .bool x3, (sv v4), (sv v5), (sv v6)], .int .i64 x7]) (h := h) (h' := h10) (v := (sv u10_1)) (hC := (ai (show AKeep h h10 from (Heapy.sub q10)) (ai c10 (ai (show AKeep h h from (AHeap.sub_refl h)) (ai (F42_spec x1 x2 x3 l4 l5 l6 v4 v5 v6 h hv4 hv5 hv6 _ rfl) trivial))))) (hr := by kernel_rfl)⟩
/-! 36 jacquard/bounds.Recurrence$1 -/
def F36 (x1 : Int) (x2 : Int) (x3 : Int) (x4 : Bool) (l5 : List (Int × Int × Int × Int)) (l6 : List (Int × Int × Int × Int)) (l7 : List (Int × Int)) : Option (Bool) :=
  (Option.bind (F34 x2 x3 x4 l5 l6 l7 (IntKind.i64.wrap (x1 + 1))) fun y9 =>
  some (y9.isEmpty))
set_option maxRecDepth 100000 in
theorem F36_spec (x1 : Int) (x2 : Int) (x3 : Int) (x4 : Bool) (l5 : List (Int × Int × Int × Int)) (l6 : List (Int × Int × Int × Int)) (l7 : List (Int × Int)) (v5 : Hd) (v6 : Hd) (v7 : Hd) (id8 : Nat) (off8 : Nat) (g8 : Nat) (h : AHeap) (hw : h.wf) (hv5 : SlE E57 4 h (sv v5) l5) (hv6 : SlE E59 4 h (sv v6) l6) (hv7 : SlE E61 2 h (sv v7) l7) (at8 : At h id8 off8 g8 [.int .i64 x2, .int .i64 x3, .bool x4, (sv v5), (sv v6), (sv v7)]) (r : Bool) : F36 x1 x2 x3 x4 l5 l6 l7 = some r → ∃ (h' : AHeap), Heapy h h' [] ∧ ACalls Try.prog 36 [.int .i64 x1, .pointer (some ⟨id8, off8 + 0, some g8⟩)] h (fun v' h'' => v' = (.bool r : Value) ∧ h'' = h') := by
  unfold F36
  refine bind_opt fun y9 e9 => ?_
  obtain ⟨u10_0, h10, q10, zu10_0, c10⟩ := F34_spec x2 x3 x4 l5 l6 l7 (IntKind.i64.wrap (x1 + 1)) v5 v6 v7 h hw hv5 hv6 hv7 _ e9
  have hp10 : Heapy h h10 [⟨u10_0, 3, 1, List.flatMap enc3 y9⟩] := Heapy.call (Heapy.refl hw) q10
  intro hr
  obtain rfl := Option.some.inj hr
  exact ⟨h10, Heapy.pick hp10 [] (by decide), pFun_sound good tab_ok (f := 36) (its := [.g, (.ld (.agg #[.int .i64 x2, .int .i64 x3, .bool x4, (sv v5), (sv v6), (sv v7)])), .g, .g, (.c ((sv u10_0)) h10), (.nl y9.isEmpty), .g]) (args := [.int .i64 x1, .pointer (some ⟨id8, off8 + 0, some g8⟩)]) (h := h) (h' := h10) (v := .bool y9.isEmpty) (hC := (ai (Heapy.nilE (v := u10_0) (xs := y9) (enc := enc3) hp10 0 rfl (fun _ => rfl) (by decide) zu10_0) (ai c10 (ai (At.agg (P := Try.prog) (t := 26) (v := .agg #[.int .i64 x2, .int .i64 x3, .bool x4, (sv v5), (sv v6), (sv v7)]) (m := 6) at8 (by kernel_rfl) (by kernel_rfl) 0 (by kernel_rfl) rfl) trivial)))) (hr := by kernel_rfl)⟩
/-! 35 sort.Search -/
def F35w36_L : List Nat := []
def F35w36_D : List (Nat × List (Nat × Nat)) := []
def F35w36__1 (a9 : Int) (a10 : Int) : Int := (IntKind.i64.wrap ((IntKind.i64.wrap (((IntKind.u64.wrap ((IntKind.i64.wrap (a9 + a10)))).fdiv (2 ^ 1)))) + 1))
def F35w36_m1_1 : List Bool := (rp 5 true (false :: (rp 20 true [])))
def F35w36_m1_0 : List Bool := (true :: false :: true :: true :: true :: false :: false :: (rp 19 true []))
def F35w36_s1 (x2 : Int) (x3 : Int) (x4 : Bool) (l5 : List (Int × Int × Int × Int)) (l6 : List (Int × Int × Int × Int)) (l7 : List (Int × Int)) (a9 : Int) (a10 : Int) : Option ((Int × Int) ⊕ Int) :=
  (bif decide (a9 < a10) then
   (Option.bind (F36 (IntKind.i64.wrap (((IntKind.u64.wrap ((IntKind.i64.wrap (a9 + a10)))).fdiv (2 ^ 1)))) x2 x3 x4 l5 l6 l7) fun y13 =>
   (bif (!y13) then
    some (.inl ((F35w36__1 a9 a10), a10))
   else
    some (.inl (a9, (IntKind.i64.wrap (((IntKind.u64.wrap ((IntKind.i64.wrap (a9 + a10)))).fdiv (2 ^ 1))))))))
  else
   some (.inr a9))
def F35w36_h1 (id8 : Nat) (off8 : Nat) (g8 : Nat) (h11 : AHeap) (a9 : Int) (a10 : Int) : AS := ⟨(junk :: (.func (.func 36) #[] #[.pointer (some ⟨id8, off8 + 0, some g8⟩)]) :: junk :: junk :: junk :: (.int .i64 a9) :: (.int .i64 a10) :: (rp 19 junk [])), [], h11⟩
theorem F35w36_d1 : drawsOk F35w36_D (codeOf Try.prog 35 [1, 1, 0, 0, 0]) = true := by kernel_rfl
def F35w36_x1_0 (h : AHeap) (hx : AHeap) (r : Int) : AS := ⟨(rp 5 junk ((.int .i64 r) :: (rp 20 junk []))), [], hx⟩
def F35w36_i1 (h : AHeap) (id8 : Nat) (off8 : Nat) (g8 : Nat) (s : Int × Int) (S : AS) : Prop := ∃ (h11 : AHeap), Heapy h h11 [] ∧ S = (F35w36_h1 id8 off8 g8 h11 s.1 s.2)
def F35w36_x1 (h : AHeap) (r : Int) (e : Exit) (S : AS) : Prop := e = (.exit 0) ∧ ∃ (hx : AHeap), Heapy h hx [] ∧ S = (F35w36_x1_0 h hx r)
set_option maxRecDepth 100000 in
theorem F35w36_r1 (h : AHeap) (x2 : Int) (x3 : Int) (x4 : Bool) (l5 : List (Int × Int × Int × Int)) (v5 : Hd) (hv5 : SlE E57 4 h (sv v5) l5) (l6 : List (Int × Int × Int × Int)) (v6 : Hd) (hv6 : SlE E59 4 h (sv v6) l6) (l7 : List (Int × Int)) (v7 : Hd) (hv7 : SlE E61 2 h (sv v7) l7) (id8 : Nat) (off8 : Nat) (g8 : Nat) (at8 : At h id8 off8 g8 [.int .i64 x2, .int .i64 x3, .bool x4, (sv v5), (sv v6), (sv v7)]) (a9 : Int) (a10 : Int) (S : AS) (hI : (F35w36_i1 h id8 off8 g8) (a9, a10) S) (o : (Int × Int) ⊕ Int) : F35w36_s1 x2 x3 x4 l5 l6 l7 a9 a10 = some o → Rd Try.prog (codeOf Try.prog 35 [1, 1, 0, 0, 0]) (F35w36_i1 h id8 off8 g8) (F35w36_x1 h) S o := by
  obtain ⟨h11, hp11, rfl⟩ := hI
  unfold F35w36_s1
  refine dec_bif (fun c12 => ?_) (fun c12 => ?_)
  · refine bind_opt fun y13 e13 => ?_
    obtain ⟨h14, q14, c14⟩ := F36_spec (IntKind.i64.wrap (((IntKind.u64.wrap ((IntKind.i64.wrap (a9 + a10)))).fdiv (2 ^ 1)))) x2 x3 x4 l5 l6 l7 v5 v6 v7 id8 off8 g8 h11 (Heapy.wf hp11) (SlE.mono hv5 (Heapy.sub hp11) (E57_mono (Heapy.sub hp11))) (SlE.mono hv6 (Heapy.sub hp11) (E59_mono (Heapy.sub hp11))) (SlE.mono hv7 (Heapy.sub hp11) (E61_mono (Heapy.sub hp11))) (At.mono (Heapy.sub hp11) at8) _ e13
    have hp14 : Heapy h h14 [] := Heapy.call hp11 q14
    have kc15 := (ai c14 (ai c12 trivial))
    refine dec_bif (fun c15 => ?_) (fun c15 => ?_)
    · intro hr
      obtain rfl := Option.some.inj hr
      exact ⟨(F35w36_h1 id8 off8 g8 h14 (F35w36__1 a9 a10) a10), ⟨h14, (Heapy.pick hp14 [] (by decide)), rfl⟩, pEnd_sound good (L := F35w36_L) (D := F35w36_D) (its := [.g, .g, .g, (.b true), .g, .g, .g, .g, .g, .g, .g, .g, .g, (.c (.bool y13) h14), .g, (.b true), .g, .g, .g]) (ds := F35w36_m1_0) (ks := []) (e := .normal) (s2 := (F35w36_h1 id8 off8 g8 h14 (F35w36__1 a9 a10) a10)) (hC := (ai c15 kc15)) (hd := F35w36_d1) (h := by kernel_rfl)⟩
    · intro hr
      obtain rfl := Option.some.inj hr
      exact ⟨(F35w36_h1 id8 off8 g8 h14 a9 (IntKind.i64.wrap (((IntKind.u64.wrap ((IntKind.i64.wrap (a9 + a10)))).fdiv (2 ^ 1))))), ⟨h14, (Heapy.pick hp14 [] (by decide)), rfl⟩, pEnd_sound good (L := F35w36_L) (D := F35w36_D) (its := [.g, .g, .g, (.b true), .g, .g, .g, .g, .g, .g, .g, .g, .g, (.c (.bool y13) h14), .g, (.b false), .g, .g]) (ds := F35w36_m1_0) (ks := []) (e := .normal) (s2 := (F35w36_h1 id8 off8 g8 h14 a9 (IntKind.i64.wrap (((IntKind.u64.wrap ((IntKind.i64.wrap (a9 + a10)))).fdiv (2 ^ 1)))))) (hC := (ai c15 kc15)) (hd := F35w36_d1) (h := by kernel_rfl)⟩
  · intro hr
    obtain rfl := Option.some.inj hr
    refine ⟨(.exit 0), (F35w36_x1_0 h h11 (a9 : Int)), (by intro hh; cases hh), ?_, pEnd_sound good (L := F35w36_L) (D := F35w36_D) (its := [.g, .g, .g, (.b false)]) (ds := F35w36_m1_1) (ks := []) (e := (.exit 0)) (s2 := (F35w36_x1_0 h h11 (a9 : Int))) (hC := (ai c12 trivial)) (hd := F35w36_d1) (h := by kernel_rfl)⟩
    exact ⟨rfl, h11, (Heapy.pick hp11 [] (by decide)), rfl⟩
theorem F35w36_l1 (h : AHeap) (x2 : Int) (x3 : Int) (x4 : Bool) (l5 : List (Int × Int × Int × Int)) (v5 : Hd) (hv5 : SlE E57 4 h (sv v5) l5) (l6 : List (Int × Int × Int × Int)) (v6 : Hd) (hv6 : SlE E59 4 h (sv v6) l6) (l7 : List (Int × Int)) (v7 : Hd) (hv7 : SlE E61 2 h (sv v7) l7) (id8 : Nat) (off8 : Nat) (g8 : Nat) (at8 : At h id8 off8 g8 [.int .i64 x2, .int .i64 x3, .bool x4, (sv v5), (sv v6), (sv v7)]) (x : Int × Int) (r : Int) (hl : loopO (fun (s : Int × Int) => F35w36_s1 x2 x3 x4 l5 l6 l7 s.1 s.2) x = some r) (S : AS) (hI : (F35w36_i1 h id8 off8 g8) x S) : ∃ e S', (F35w36_x1 h) r e S' ∧ AWp Try.prog (.loop (codeOf Try.prog 35 [1, 1, 0, 0, 0])) (Ends1 e S') S :=
  loop_rel (fun x S hI => F35w36_r1 h x2 x3 x4 l5 v5 hv5 l6 v6 hv6 l7 v7 hv7 id8 off8 g8 at8 x.1 x.2 S hI) hl hI
def F35w36 (x1 : Int) (x2 : Int) (x3 : Int) (x4 : Bool) (l5 : List (Int × Int × Int × Int)) (l6 : List (Int × Int × Int × Int)) (l7 : List (Int × Int)) : Option (Int) :=
  (Option.bind (loopO (fun (s : Int × Int) => F35w36_s1 x2 x3 x4 l5 l6 l7 s.1 s.2) (0, x1)) fun y16 =>
  some (y16))
set_option maxRecDepth 100000 in
theorem F35w36_spec (x1 : Int) (x2 : Int) (x3 : Int) (x4 : Bool) (l5 : List (Int × Int × Int × Int)) (l6 : List (Int × Int × Int × Int)) (l7 : List (Int × Int)) (v5 : Hd) (v6 : Hd) (v7 : Hd) (id8 : Nat) (off8 : Nat) (g8 : Nat) (h : AHeap) (hw : h.wf) (hv5 : SlE E57 4 h (sv v5) l5) (hv6 : SlE E59 4 h (sv v6) l6) (hv7 : SlE E61 2 h (sv v7) l7) (at8 : At h id8 off8 g8 [.int .i64 x2, .int .i64 x3, .bool x4, (sv v5), (sv v6), (sv v7)]) (r : Int) : F35w36 x1 x2 x3 x4 l5 l6 l7 = some r → ∃ (h' : AHeap), Heapy h h' [] ∧ ACalls Try.prog 35 [.int .i64 x1, .func (.func 36) #[] #[.pointer (some ⟨id8, off8 + 0, some g8⟩)]] h (fun v' h'' => v' = (.int .i64 r : Value) ∧ h'' = h') := by
  unfold F35w36
  refine bind_opt fun y16 e16 => ?_
  obtain ⟨ee16, SS16, hX16, hA16⟩ := F35w36_l1 h x2 x3 x4 l5 v5 hv5 l6 v6 hv6 l7 v7 hv7 id8 off8 g8 at8 (0, x1) y16 e16 (F35w36_h1 id8 off8 g8 h 0 x1) ⟨h, (Heapy.pick (Heapy.refl hw) [] (by decide)), rfl⟩
  obtain ⟨rfl, h17, hp17, rfl⟩ := hX16
  intro hr
  obtain rfl := Option.some.inj hr
  exact ⟨h17, Heapy.pick hp17 [] (by decide), pFun_sound good tab_ok (f := 35) (its := [.g, .g, .g, .g, (.l F35w36_m1_0 [] (.exit 0) (F35w36_x1_0 h h17 y16)), .g, .g]) (args := [.int .i64 x1, .func (.func 36) #[] #[.pointer (some ⟨id8, off8 + 0, some g8⟩)]]) (h := h) (h' := h17) (v := .int .i64 y16) (hC := (ai hA16 trivial)) (hr := by kernel_rfl)⟩
/-! 13 jacquard/bounds.Recurrence -/
def F13 (x1 : Int) (x2 : Int) (x3 : Bool) (l4 : List (Int × Int × Int × Int)) (l5 : List (Int × Int × Int × Int)) (l6 : List (Int × Int)) : Option (Int × Int × (List Int) × Int × Int) :=
  (Option.bind (F33 x1 x2 x3 l4 l5 l6) fun y9 =>
  (bif (!y9) then
   some (0, 0, [], 0, 3)
  else
   (bif (!x3) then
    some (0, 0, [], 0, 1)
   else
    (Option.bind (F34 x1 x2 x3 l4 l5 l6 256) fun y13 =>
    (bif (!y13.isEmpty) then
     some (0, 0, [], 0, 14)
    else
     (Option.bind (F35w36 255 x1 x2 x3 l4 l5 l6) fun y17 =>
     (bif ((IntKind.i64.wrap (1 + y17)) == 1) then
      some (1, 1, [], 0, 0)
     else
      (Option.bind (F34 x1 x2 x3 l4 l5 l6 (IntKind.i64.wrap ((IntKind.i64.wrap (1 + y17)) - 1))) fun y20 =>
      some (2, (IntKind.i64.wrap (1 + y17)), y20, 0, 0)))))))))
set_option maxRecDepth 100000 in
theorem F13_spec (x1 : Int) (x2 : Int) (x3 : Bool) (l4 : List (Int × Int × Int × Int)) (l5 : List (Int × Int × Int × Int)) (l6 : List (Int × Int)) (v4 : Hd) (v5 : Hd) (v6 : Hd) (h : AHeap) (hw : h.wf) (hv4 : SlE E57 4 h (sv v4) l4) (hv5 : SlE E59 4 h (sv v5) l5) (hv6 : SlE E61 2 h (sv v6) l6) (r : Int × Int × (List Int) × Int × Int) : F13 x1 x2 x3 l4 l5 l6 = some r → ∃ (ur0 : Hd) (h' : AHeap), Heapy h h' [⟨ur0, 3, 1, List.flatMap enc3 r.2.2.1⟩] ∧ Strict ur0 ∧ ACalls Try.prog 13 [.agg #[.int .i64 x1, .int .i64 x2, .bool x3, (sv v4), (sv v5), (sv v6)]] h (fun v' h'' => v' = (.tuple #[.agg #[.int .i64 r.1, .int .i64 r.2.1, (sv ur0), .int .i64 r.2.2.2.1], .int .i64 r.2.2.2.2] : Value) ∧ h'' = h') := by
  unfold F13
  obtain ⟨id7, g7, h7, m7, hp7⟩ := Heapy.box (P := Try.prog) (Heapy.refl hw) 26 [.int .i64 x1, .int .i64 x2, .bool x3, (sv v4), (sv v5), (sv v6)] (c := 6) rfl
  refine bind_opt fun y9 e9 => ?_
  have kc11 := (ai (F33_spec x1 x2 x3 l4 l5 l6 v4 v5 v6 h7 (SlE.mono hv4 (Heapy.sub hp7) (E57_mono (Heapy.sub hp7))) (SlE.mono hv5 (Heapy.sub hp7) (E59_mono (Heapy.sub hp7))) (SlE.mono hv6 (Heapy.sub hp7) (E61_mono (Heapy.sub hp7))) _ e9) (ai (At.agg (P := Try.prog) (t := 26) (v := .agg #[.int .i64 x1, .int .i64 x2, .bool x3, (sv v4), (sv v5), (sv v6)]) (m := 6) (Heapy.boxat (id := id7) (g := g7) (n := 1) (c := 6) (el := 26) (cells := [.int .i64 x1, .int .i64 x2, .bool x3, (sv v4), (sv v5), (sv v6)]) hp7 0 rfl) (by kernel_rfl) (by kernel_rfl) 0 (by kernel_rfl) rfl) (ai m7 trivial)))
  refine dec_bif (fun c11 => ?_) (fun c11 => ?_)
  · intro hr
    obtain rfl := Option.some.inj hr
    exact ⟨⟨none, 0, 0⟩, h7, Heapy.pick (Heapy.nil hp7 3 1) [0] (by decide), Strict.nil, pFun_sound good tab_ok (f := 13) (its := [(.mm (.pointer (some ⟨id7, 0, some g7⟩)) h7), .g, .g, (.ld (.agg #[.int .i64 x1, .int .i64 x2, .bool x3, (sv v4), (sv v5), (sv v6)])), (.c (.bool y9) h7), .g, .g, (.b true), .g, .g, .g]) (args := [.agg #[.int .i64 x1, .int .i64 x2, .bool x3, (sv v4), (sv v5), (sv v6)]]) (h := h) (h' := h7) (v := .tuple #[.agg #[.int .i64 0, .int .i64 0, .slice none 0 0, .int .i64 0], .int .i64 3]) (hC := (ai c11 kc11)) (hr := by kernel_rfl)⟩
  · have kc12 := (ai (At.one (P := Try.prog) (t := 4) (v := .bool x3) (Heapy.boxat (id := id7) (g := g7) (n := 1) (c := 6) (el := 26) (cells := [.int .i64 x1, .int .i64 x2, .bool x3, (sv v4), (sv v5), (sv v6)]) hp7 0 rfl) (by kernel_rfl) 2 rfl rfl) (ai c11 kc11))
    refine dec_bif (fun c12 => ?_) (fun c12 => ?_)
    · intro hr
      obtain rfl := Option.some.inj hr
      exact ⟨⟨none, 0, 0⟩, h7, Heapy.pick (Heapy.nil hp7 3 1) [0] (by decide), Strict.nil, pFun_sound good tab_ok (f := 13) (its := [(.mm (.pointer (some ⟨id7, 0, some g7⟩)) h7), .g, .g, (.ld (.agg #[.int .i64 x1, .int .i64 x2, .bool x3, (sv v4), (sv v5), (sv v6)])), (.c (.bool y9) h7), .g, .g, (.b false), .g, (.ld (.bool x3)), .g, .g, (.b true), .g, .g, .g]) (args := [.agg #[.int .i64 x1, .int .i64 x2, .bool x3, (sv v4), (sv v5), (sv v6)]]) (h := h) (h' := h7) (v := .tuple #[.agg #[.int .i64 0, .int .i64 0, .slice none 0 0, .int .i64 0], .int .i64 1]) (hC := (ai c12 kc12)) (hr := by kernel_rfl)⟩
    · refine bind_opt fun y13 e13 => ?_
      obtain ⟨u14_0, h14, q14, zu14_0, c14⟩ := F34_spec x1 x2 x3 l4 l5 l6 256 v4 v5 v6 h7 (Heapy.wf hp7) (SlE.mono hv4 (Heapy.sub hp7) (E57_mono (Heapy.sub hp7))) (SlE.mono hv5 (Heapy.sub hp7) (E59_mono (Heapy.sub hp7))) (SlE.mono hv6 (Heapy.sub hp7) (E61_mono (Heapy.sub hp7))) _ e13
      have hp14 : Heapy h h14 [⟨u14_0, 3, 1, List.flatMap enc3 y13⟩, ⟨⟨some ⟨id7, 0, some g7⟩, 1, 6⟩, 26, 6, [.int .i64 x1, .int .i64 x2, .bool x3, (sv v4), (sv v5), (sv v6)]⟩] := Heapy.call hp7 q14
      have kc16 := (ai (Heapy.nilE (v := u14_0) (xs := y13) (enc := enc3) hp14 0 rfl (fun _ => rfl) (by decide) zu14_0) (ai c14 (ai (At.agg (P := Try.prog) (t := 26) (v := .agg #[.int .i64 x1, .int .i64 x2, .bool x3, (sv v4), (sv v5), (sv v6)]) (m := 6) (Heapy.boxat (id := id7) (g := g7) (n := 1) (c := 6) (el := 26) (cells := [.int .i64 x1, .int .i64 x2, .bool x3, (sv v4), (sv v5), (sv v6)]) hp7 0 rfl) (by kernel_rfl) (by kernel_rfl) 0 (by kernel_rfl) rfl) (ai c12 kc12))))
      refine dec_bif (fun c16 => ?_) (fun c16 => ?_)
      · intro hr
        obtain rfl := Option.some.inj hr
        exact ⟨⟨none, 0, 0⟩, h14, Heapy.pick (Heapy.nil hp14 3 1) [0] (by decide), Strict.nil, pFun_sound good tab_ok (f := 13) (its := [(.mm (.pointer (some ⟨id7, 0, some g7⟩)) h7), .g, .g, (.ld (.agg #[.int .i64 x1, .int .i64 x2, .bool x3, (sv v4), (sv v5), (sv v6)])), (.c (.bool y9) h7), .g, .g, (.b false), .g, (.ld (.bool x3)), .g, .g, (.b false), (.ld (.agg #[.int .i64 x1, .int .i64 x2, .bool x3, (sv v4), (sv v5), (sv v6)])), (.c ((sv u14_0)) h14), (.nl y13.isEmpty), .g, (.b true), .g, .g, .g]) (args := [.agg #[.int .i64 x1, .int .i64 x2, .bool x3, (sv v4), (sv v5), (sv v6)]]) (h := h) (h' := h14) (v := .tuple #[.agg #[.int .i64 0, .int .i64 0, .slice none 0 0, .int .i64 0], .int .i64 14]) (hC := (ai c16 kc16)) (hr := by kernel_rfl)⟩
      · refine bind_opt fun y17 e17 => ?_
        obtain ⟨h18, q18, c18⟩ := F35w36_spec 255 x1 x2 x3 l4 l5 l6 v4 v5 v6 id7 0 g7 h14 (Heapy.wf hp14) (SlE.mono hv4 (Heapy.sub hp14) (E57_mono (Heapy.sub hp14))) (SlE.mono hv5 (Heapy.sub hp14) (E59_mono (Heapy.sub hp14))) (SlE.mono hv6 (Heapy.sub hp14) (E61_mono (Heapy.sub hp14))) (Heapy.boxat (id := id7) (g := g7) (n := 1) (c := 6) (el := 26) (cells := [.int .i64 x1, .int .i64 x2, .bool x3, (sv v4), (sv v5), (sv v6)]) hp14 1 rfl) _ e17
        have hp18 : Heapy h h18 [⟨u14_0, 3, 1, List.flatMap enc3 y13⟩, ⟨⟨some ⟨id7, 0, some g7⟩, 1, 6⟩, 26, 6, [.int .i64 x1, .int .i64 x2, .bool x3, (sv v4), (sv v5), (sv v6)]⟩] := Heapy.call hp14 q18
        have kc19 := (ai c18 (ai c16 kc16))
        refine dec_bif (fun c19 => ?_) (fun c19 => ?_)
        · intro hr
          obtain rfl := Option.some.inj hr
          exact ⟨⟨none, 0, 0⟩, h18, Heapy.pick (Heapy.nil hp18 3 1) [0] (by decide), Strict.nil, pFun_sound good tab_ok (f := 13) (its := [(.mm (.pointer (some ⟨id7, 0, some g7⟩)) h7), .g, .g, (.ld (.agg #[.int .i64 x1, .int .i64 x2, .bool x3, (sv v4), (sv v5), (sv v6)])), (.c (.bool y9) h7), .g, .g, (.b false), .g, (.ld (.bool x3)), .g, .g, (.b false), (.ld (.agg #[.int .i64 x1, .int .i64 x2, .bool x3, (sv v4), (sv v5), (sv v6)])), (.c ((sv u14_0)) h14), (.nl y13.isEmpty), .g, (.b false), .g, (.c (.int .i64 y17) h18), .g, .g, .g, .g, (.b true), .g, .g, .g]) (args := [.agg #[.int .i64 x1, .int .i64 x2, .bool x3, (sv v4), (sv v5), (sv v6)]]) (h := h) (h' := h18) (v := .tuple #[.agg #[.int .i64 1, .int .i64 1, .slice none 0 0, .int .i64 0], .int .i64 0]) (hC := (ai c19 kc19)) (hr := by kernel_rfl)⟩
        · refine bind_opt fun y20 e20 => ?_
          obtain ⟨u21_0, h21, q21, zu21_0, c21⟩ := F34_spec x1 x2 x3 l4 l5 l6 (IntKind.i64.wrap ((IntKind.i64.wrap (1 + y17)) - 1)) v4 v5 v6 h18 (Heapy.wf hp18) (SlE.mono hv4 (Heapy.sub hp18) (E57_mono (Heapy.sub hp18))) (SlE.mono hv5 (Heapy.sub hp18) (E59_mono (Heapy.sub hp18))) (SlE.mono hv6 (Heapy.sub hp18) (E61_mono (Heapy.sub hp18))) _ e20
          have hp21 : Heapy h h21 [⟨u21_0, 3, 1, List.flatMap enc3 y20⟩, ⟨u14_0, 3, 1, List.flatMap enc3 y13⟩, ⟨⟨some ⟨id7, 0, some g7⟩, 1, 6⟩, 26, 6, [.int .i64 x1, .int .i64 x2, .bool x3, (sv v4), (sv v5), (sv v6)]⟩] := Heapy.call hp18 q21
          intro hr
          obtain rfl := Option.some.inj hr
          exact ⟨u21_0, h21, Heapy.pick hp21 [0] (by decide), zu21_0, pFun_sound good tab_ok (f := 13) (its := [(.mm (.pointer (some ⟨id7, 0, some g7⟩)) h7), .g, .g, (.ld (.agg #[.int .i64 x1, .int .i64 x2, .bool x3, (sv v4), (sv v5), (sv v6)])), (.c (.bool y9) h7), .g, .g, (.b false), .g, (.ld (.bool x3)), .g, .g, (.b false), (.ld (.agg #[.int .i64 x1, .int .i64 x2, .bool x3, (sv v4), (sv v5), (sv v6)])), (.c ((sv u14_0)) h14), (.nl y13.isEmpty), .g, (.b false), .g, (.c (.int .i64 y17) h18), .g, .g, .g, .g, (.b false), .g, (.ld (.agg #[.int .i64 x1, .int .i64 x2, .bool x3, (sv v4), (sv v5), (sv v6)])), .g, .g, (.c ((sv u21_0)) h21), .g, .g, .g]) (args := [.agg #[.int .i64 x1, .int .i64 x2, .bool x3, (sv v4), (sv v5), (sv v6)]]) (h := h) (h' := h21) (v := .tuple #[.agg #[.int .i64 2, .int .i64 (IntKind.i64.wrap (1 + y17)), (sv u21_0), .int .i64 0], .int .i64 0]) (hC := (ai c21 (ai (At.agg (P := Try.prog) (t := 26) (v := .agg #[.int .i64 x1, .int .i64 x2, .bool x3, (sv v4), (sv v5), (sv v6)]) (m := 6) (Heapy.boxat (id := id7) (g := g7) (n := 1) (c := 6) (el := 26) (cells := [.int .i64 x1, .int .i64 x2, .bool x3, (sv v4), (sv v5), (sv v6)]) hp18 1 rfl) (by kernel_rfl) (by kernel_rfl) 0 (by kernel_rfl) rfl) (ai c19 kc19)))) (hr := by kernel_rfl)⟩
/-! 40 jacquard/bounds.usage -/
def F40_L : List Nat := [1, 5]
def F40_D : List (Nat × List (Nat × Nat)) := [(1, [(0, 2), (4, 2), (1, 3), (2, 2), (5, 3), (6, 2), (3, 1), (8, 2), (7, 0), (9, 2)]), (6, [(0, 2), (1, 2), (2, 2), (3, 2), (4, 2), (5, 2), (6, 2), (7, 2), (8, 2), (9, 0)]), (7, [(0, 2), (1, 2), (2, 2), (3, 2), (4, 2), (5, 2), (6, 2), (7, 2), (8, 2), (9, 2), (10, 2), (11, 2), (12, 0)])]
def F40_m1_1 : List Bool := (true :: true :: false :: false :: (rp 44 true []))
def F40_m1_0 : List Bool := (true :: true :: false :: false :: (rp 11 true (false :: false :: false :: (rp 30 true []))))
def F40_s1 (l6 : List (Int × Int)) (a12 : Int) (l13 : List Int) (l14 : List Int) : Option ((Int × (List Int) × (List Int)) ⊕ ((List Int) × (List Int))) :=
  (bif decide (a12 < (l6.length : Int)) then
   (Option.bind (at? l6 a12) fun y17 =>
   (bif decide (y17.1 ≥ 0) then
    (Option.bind (at? l13 y17.1) fun y19 =>
    (Option.bind (at? l14 y17.1) fun y21 =>
    some (.inl ((IntKind.i64.wrap (a12 + 1)), (setI l13 y17.1 (IntKind.i64.wrap (y19 + y17.2))), (setI l14 y17.1 (if y17.2 > y21 then y17.2 else y21))))))
   else
    some (.inl ((IntKind.i64.wrap (a12 + 1)), l13, l14))))
  else
   some (.inr (l13, l14)))
def F40_h1 (l6 : List (Int × Int)) (v6 : Hd) (v8 : Hd) (v10 : Hd) (h15 : AHeap) (a12 : Int) (l13 : List Int) (l14 : List Int) : AS := ⟨(junk :: junk :: (sv v8) :: (sv v10) :: (rp 11 junk ((sv v6) :: (.int .i64 (l6.length : Int)) :: (.int .i64 a12) :: (rp 30 junk [])))), [], h15⟩
theorem F40_d1 : drawsOk F40_D (codeOf Try.prog 40 [1, 1, 0, 1, 0, 0]) = true := by kernel_rfl
def F40_x1_0 (h : AHeap) (v8 : Hd) (v10 : Hd) (hx : AHeap) (r : (List Int) × (List Int)) : AS := ⟨(junk :: junk :: (sv v8) :: (sv v10) :: (rp 44 junk [])), [], hx⟩
def F40_i1 (h : AHeap) (l6 : List (Int × Int)) (v6 : Hd) (v8 : Hd) (v10 : Hd) (s : Int × (List Int) × (List Int)) (S : AS) : Prop := ∃ (h15 : AHeap), Heapy h h15 [⟨v8, 3, 1, List.flatMap enc3 s.2.1⟩, ⟨v10, 3, 1, List.flatMap enc3 s.2.2⟩] ∧ S = (F40_h1 l6 v6 v8 v10 h15 s.1 s.2.1 s.2.2)
def F40_x1 (h : AHeap) (v8 : Hd) (v10 : Hd) (r : (List Int) × (List Int)) (e : Exit) (S : AS) : Prop := e = (.exit 0) ∧ ∃ (hx : AHeap), Heapy h hx [⟨v8, 3, 1, List.flatMap enc3 r.1⟩, ⟨v10, 3, 1, List.flatMap enc3 r.2⟩] ∧ S = (F40_x1_0 h v8 v10 hx r)
set_option maxRecDepth 100000 in
theorem F40_r1 (h : AHeap) (l6 : List (Int × Int)) (v6 : Hd) (hv6 : SlE E61 2 h (sv v6) l6) (v8 : Hd) (v10 : Hd) (a12 : Int) (l13 : List Int) (l14 : List Int) (S : AS) (hI : (F40_i1 h l6 v6 v8 v10) (a12, l13, l14) S) (o : (Int × (List Int) × (List Int)) ⊕ ((List Int) × (List Int))) : F40_s1 l6 a12 l13 l14 = some o → Rd Try.prog (codeOf Try.prog 40 [1, 1, 0, 1, 0, 0]) (F40_i1 h l6 v6 v8 v10) (F40_x1 h v8 v10) S o := by
  obtain ⟨h15, hp15, rfl⟩ := hI
  unfold F40_s1
  refine dec_bif (fun c16 => ?_) (fun c16 => ?_)
  · refine bind_opt fun y17 e17 => ?_
    obtain ⟨id17, off17, g17, cs17, ix17, at17, rfl⟩ := SlE.at hv6 e17
    have kc18 := (ai (At.agg (P := Try.prog) (t := 61) (v := .agg #[.int .i64 y17.1, .int .i64 y17.2]) (m := 2) (At.mono (Heapy.sub hp15) at17) (by kernel_rfl) (by kernel_rfl) 0 (by kernel_rfl) rfl) (ai ix17 (ai c16 trivial)))
    refine dec_bif (fun c18 => ?_) (fun c18 => ?_)
    · refine bind_opt fun y19 e19 => ?_
      obtain ⟨id19, off19, g19, cs19, ix19, at19, rfl⟩ := SlE.at (Heapy.sle (v := v8) (xs := l13) (enc := enc3) hp15 0 rfl (fun _ => rfl) (by decide)) e19
      obtain ⟨h20, m20, hp20⟩ := Heapy.store (P := Try.prog) hp15 0 (v := v8) (xs := l13) (enc := enc3) rfl (fun _ => rfl) e19 (y' := (IntKind.i64.wrap (y19 + y17.2))) ix19 (t := 3) (x := .int .i64 (IntKind.i64.wrap (y19 + y17.2))) 0 (vs := [.int .i64 (IntKind.i64.wrap (y19 + y17.2))]) rfl (by kernel_rfl) rfl rfl rfl rfl
      refine bind_opt fun y21 e21 => ?_
      obtain ⟨id21, off21, g21, cs21, ix21, at21, rfl⟩ := SlE.at (Heapy.sle (v := v10) (xs := l14) (enc := enc3) hp20 1 rfl (fun _ => rfl) (by decide)) e21
      obtain ⟨h22, m22, hp22⟩ := Heapy.store (P := Try.prog) hp20 1 (v := v10) (xs := l14) (enc := enc3) rfl (fun _ => rfl) e21 (y' := (if y17.2 > y21 then y17.2 else y21)) ix21 (t := 3) (x := .int .i64 (if y17.2 > y21 then y17.2 else y21)) 0 (vs := [.int .i64 (if y17.2 > y21 then y17.2 else y21)]) rfl (by kernel_rfl) rfl rfl rfl rfl
      intro hr
      obtain rfl := Option.some.inj hr
      exact ⟨(F40_h1 l6 v6 v8 v10 h22 (IntKind.i64.wrap (a12 + 1)) (setI l13 y17.1 (IntKind.i64.wrap (y19 + y17.2))) (setI l14 y17.1 (if y17.2 > y21 then y17.2 else y21))), ⟨h22, (Heapy.pick hp22 [0, 1] (by decide)), rfl⟩, pEnd_sound good (L := F40_L) (D := F40_D) (its := [.g, (.b true), (.ix id17 off17 g17), (.ld (.agg #[.int .i64 y17.1, .int .i64 y17.2])), .g, .g, .g, .g, .g, (.b true), .g, .g, .g, (.ix id19 off19 g19), (.ld (.int .i64 y19)), .g, .g, .g, (.ix id19 off19 g19), (.mm undef h20), .g, .g, .g, .g, .g, .g, (.ix id21 off21 g21), (.ld (.int .i64 y21)), .g, .g, .g, (.ix id21 off21 g21), (.mm undef h22), .g, .g]) (ds := F40_m1_0) (ks := [5]) (e := .normal) (s2 := (F40_h1 l6 v6 v8 v10 h22 (IntKind.i64.wrap (a12 + 1)) (setI l13 y17.1 (IntKind.i64.wrap (y19 + y17.2))) (setI l14 y17.1 (if y17.2 > y21 then y17.2 else y21)))) (hC := (ai m22 (ai ix21 (ai (At.one (P := Try.prog) (t := 3) (v := .int .i64 y21) at21 (by kernel_rfl) 0 rfl rfl) (ai ix21 (ai m20 (ai ix19 (ai (At.one (P := Try.prog) (t := 3) (v := .int .i64 y19) at19 (by kernel_rfl) 0 rfl rfl) (ai ix19 (ai c18 kc18)))))))))) (hd := F40_d1) (h := by kernel_rfl)⟩
    · intro hr
      obtain rfl := Option.some.inj hr
      exact ⟨(F40_h1 l6 v6 v8 v10 h15 (IntKind.i64.wrap (a12 + 1)) l13 l14), ⟨h15, (Heapy.pick hp15 [0, 1] (by decide)), rfl⟩, pEnd_sound good (L := F40_L) (D := F40_D) (its := [.g, (.b true), (.ix id17 off17 g17), (.ld (.agg #[.int .i64 y17.1, .int .i64 y17.2])), .g, .g, .g, .g, .g, (.b false), .g, .g]) (ds := F40_m1_0) (ks := [5]) (e := .normal) (s2 := (F40_h1 l6 v6 v8 v10 h15 (IntKind.i64.wrap (a12 + 1)) l13 l14)) (hC := (ai c18 kc18)) (hd := F40_d1) (h := by kernel_rfl)⟩
  · intro hr
    obtain rfl := Option.some.inj hr
    refine ⟨(.exit 0), (F40_x1_0 h v8 v10 h15 ((l13, l14) : (List Int) × (List Int))), (by intro hh; cases hh), ?_, pEnd_sound good (L := F40_L) (D := F40_D) (its := [.g, (.b false)]) (ds := F40_m1_1) (ks := []) (e := (.exit 0)) (s2 := (F40_x1_0 h v8 v10 h15 ((l13, l14) : (List Int) × (List Int)))) (hC := (ai c16 trivial)) (hd := F40_d1) (h := by kernel_rfl)⟩
    exact ⟨rfl, h15, (Heapy.pick hp15 [0, 1] (by decide)), rfl⟩
theorem F40_l1 (h : AHeap) (l6 : List (Int × Int)) (v6 : Hd) (hv6 : SlE E61 2 h (sv v6) l6) (v8 : Hd) (v10 : Hd) (x : Int × (List Int) × (List Int)) (r : (List Int) × (List Int)) (hl : loopO (fun (s : Int × (List Int) × (List Int)) => F40_s1 l6 s.1 s.2.1 s.2.2) x = some r) (S : AS) (hI : (F40_i1 h l6 v6 v8 v10) x S) : ∃ e S', (F40_x1 h v8 v10) r e S' ∧ AWp Try.prog (.loop (codeOf Try.prog 40 [1, 1, 0, 1, 0, 0])) (Ends1 e S') S :=
  loop_rel (fun x S hI => F40_r1 h l6 v6 hv6 v8 v10 x.1 x.2.1 x.2.2 S hI) hl hI
def F40 (x1 : Int) (x2 : Int) (x3 : Bool) (l4 : List (Int × Int × Int × Int)) (l5 : List (Int × Int × Int × Int)) (l6 : List (Int × Int)) : Option ((List Int) × (List Int)) :=
  (bif (!(okLen (l5.length : Int) (l5.length : Int) 8)) then none else
  (Option.bind (loopO (fun (s : Int × (List Int) × (List Int)) => F40_s1 l6 s.1 s.2.1 s.2.2) (0, (List.replicate (l5.length : Int).toNat (0 : Int)), (List.replicate (l5.length : Int).toNat (0 : Int)))) fun y23 =>
  some (y23.1, y23.2)))
set_option maxRecDepth 100000 in
theorem F40_spec (x1 : Int) (x2 : Int) (x3 : Bool) (l4 : List (Int × Int × Int × Int)) (l5 : List (Int × Int × Int × Int)) (l6 : List (Int × Int)) (v4 : Hd) (v5 : Hd) (v6 : Hd) (h : AHeap) (hw : h.wf) (hv4 : SlE E57 4 h (sv v4) l4) (hv5 : SlE E59 4 h (sv v5) l5) (hv6 : SlE E61 2 h (sv v6) l6) (r : (List Int) × (List Int)) : F40 x1 x2 x3 l4 l5 l6 = some r → ∃ (ur0 : Hd) (ur1 : Hd) (h' : AHeap), Heapy h h' [⟨ur0, 3, 1, List.flatMap enc3 r.1⟩, ⟨ur1, 3, 1, List.flatMap enc3 r.2⟩] ∧ ACalls Try.prog 40 [.agg #[.int .i64 x1, .int .i64 x2, .bool x3, (sv v4), (sv v5), (sv v6)]] h (fun v' h'' => v' = (.tuple #[(sv ur0), (sv ur1)] : Value) ∧ h'' = h') := by
  unfold F40
  refine guard_ok fun g7 => ?_
  obtain ⟨v8, h8, m8, hp8, _⟩ := Heapy.make (Heapy.refl hw) (show mkInfo Try.prog 29 = some (3, 1, 8, [.int .i64 0]) by kernel_rfl) (a := (l5.length : Int)) (b := (l5.length : Int)) (by simpa using g7) (enc := enc3) (x := 0) rfl rfl
  obtain ⟨v10, h10, m10, hp10, _⟩ := Heapy.make hp8 (show mkInfo Try.prog 29 = some (3, 1, 8, [.int .i64 0]) by kernel_rfl) (a := (l5.length : Int)) (b := (l5.length : Int)) (by simpa using g7) (enc := enc3) (x := 0) rfl rfl
  refine bind_opt fun y23 e23 => ?_
  obtain ⟨ee23, SS23, hX23, hA23⟩ := F40_l1 h l6 v6 hv6 v8 v10 (0, (List.replicate (l5.length : Int).toNat (0 : Int)), (List.replicate (l5.length : Int).toNat (0 : Int))) y23 e23 (F40_h1 l6 v6 v8 v10 h10 0 (List.replicate (l5.length : Int).toNat (0 : Int)) (List.replicate (l5.length : Int).toNat (0 : Int))) ⟨h10, (Heapy.pick hp10 [1, 0] (by decide)), rfl⟩
  obtain ⟨rfl, h24, hp24, rfl⟩ := hX23
  intro hr
  obtain rfl := Option.some.inj hr
  exact ⟨v8, v10, h24, Heapy.pick hp24 [0, 1] (by decide), pFun_sound good tab_ok (f := 40) (its := [.g, .g, .g, .g, .g, .g, (.ln l5.length), .g, (.ln l5.length), (.mm (sv v8) h8), .g, (.mm (sv v10) h10), .g, .g, .g, (.ln l6.length), .g, (.l F40_m1_0 [1] (.exit 0) (F40_x1_0 h v8 v10 h24 y23)), .g, .g, .g, .g]) (args := [.agg #[.int .i64 x1, .int .i64 x2, .bool x3, (sv v4), (sv v5), (sv v6)]]) (h := h) (h' := h24) (v := .tuple #[(sv v8), (sv v10)]) (hC := (ai hA23 (ai (SlE.len hv6) (ai m10 (ai m8 (ai (SlE.len hv5) (ai (SlE.len hv5) trivial))))))) (hr := by kernel_rfl)⟩
/-! 43 jacquard/bounds.share -/
def F43 (x1 : Int) (x2 : Int) : Option (Int) :=
  (bif (x2 == 0) then none else
  some (IntKind.i64.wrap ((IntKind.i64.wrap ((IntKind.i64.wrap (x1 + x2)) - 1)).tdiv x2)))
set_option maxRecDepth 100000 in
theorem F43_spec (x1 : Int) (x2 : Int) (h : AHeap)  (r : Int) : F43 x1 x2 = some r → ACalls Try.prog 43 [.int .i64 x1, .int .i64 x2] h (fun v' h'' => v' = (.int .i64 r : Value) ∧ h'' = h) := by
  unfold F43
  refine guard_ok fun g3 => ?_
  intro hr
  obtain rfl := Option.some.inj hr
  exact pFun_sound good tab_ok (f := 43) (its := [.g, .g, .g, .g, .g, .g, .d, .g]) (args := [.int .i64 x1, .int .i64 x2]) (h := h) (h' := h) (v := .int .i64 (IntKind.i64.wrap ((IntKind.i64.wrap ((IntKind.i64.wrap (x1 + x2)) - 1)).tdiv x2))) (hC := (ai (nz g3) trivial)) (hr := by kernel_rfl)
def enc1000031 (x : Int × Int × Unit × Int) : List Value := [.int .i64 x.1, .int .i64 x.2.1, .slice none 0 0, .int .i64 x.2.2.2]
def E1000031 (h : AHeap) (cs : List Value) (x : Int × Int × Unit × Int) : Prop := cs = enc1000031 x
theorem E1000031_mono {h h' : AHeap} (le : h.sub h') (cs : List Value) (x : Int × Int × Unit × Int) (H : E1000031 h cs x) : E1000031 h' cs x := H
/-! 18 jacquard/bounds.Resources -/
def F18_L : List Nat := [1, 7, 8]
def F18_D : List (Nat × List (Nat × Nat)) := [(8, [(0, 2), (1, 2), (2, 2), (3, 2), (4, 2), (5, 2), (7, 2), (9, 2), (6, 1), (8, 2), (10, 0)]), (11, [(0, 2), (1, 2), (2, 2), (3, 2), (4, 2), (5, 2), (6, 2), (7, 2)]), (12, [(0, 2), (1, 2), (2, 2), (4, 2), (3, 4), (5, 0), (6, 2), (7, 0)])]
def F18_m1_1 : List Bool := (rp 5 true (false :: (rp 61 true [])))
def F18_m1_0 : List Bool := (true :: true :: true :: false :: false :: false :: (rp 17 true (false :: false :: false :: (rp 41 true []))))
def F18_s1 (l5 : List (Int × Int × Int × Int)) (y11 : (List Int) × (List Int)) (a17 : Int) (l18 : List (Int × Int × Unit × Int)) : Option ((Int × (List (Int × Int × Unit × Int))) ⊕ (List (Int × Int × Unit × Int))) :=
  (bif decide (a17 < (l5.length : Int)) then
   (Option.bind (at? l5 a17) fun y21 =>
   (Option.bind (at? y11.1 a17) fun y22 =>
   (Option.bind (F43 y22 y21.2.2.2) fun y23 =>
   (bif (y22 == 0) then
    (bif (!(okApp (l18.length + ([(1, 1, (), a17)] : List (Int × Int × Unit × Int)).length) 48)) then none else
    some (.inl ((IntKind.i64.wrap (a17 + 1)), (l18 ++ ([(1, 1, (), a17)] : List (Int × Int × Unit × Int))))))
   else
    (Option.bind (at? y11.2 a17) fun y31 =>
    (bif decide (y31 > y23) then
     (bif (!(okApp (l18.length + ([(4, y31, (), a17)] : List (Int × Int × Unit × Int)).length) 48)) then none else
     some (.inl ((IntKind.i64.wrap (a17 + 1)), (l18 ++ ([(4, y31, (), a17)] : List (Int × Int × Unit × Int))))))
    else
     (bif (!(okApp (l18.length + ([(3, y23, (), a17)] : List (Int × Int × Unit × Int)).length) 48)) then none else
     some (.inl ((IntKind.i64.wrap (a17 + 1)), (l18 ++ ([(3, y23, (), a17)] : List (Int × Int × Unit × Int))))))))))))
  else
   some (.inr l18))
def F18_h1 (l5 : List (Int × Int × Int × Int)) (v5 : Hd) (u12_0 : Hd) (u12_1 : Hd) (h19 : AHeap) (u18 : Hd) (a17 : Int) (l18 : List (Int × Int × Unit × Int)) : AS := ⟨(junk :: junk :: junk :: (sv u12_0) :: (sv u12_1) :: (sv u18) :: (rp 17 junk ((sv v5) :: (.int .i64 (l5.length : Int)) :: (.int .i64 a17) :: (rp 41 junk [])))), [], h19⟩
theorem F18_d1 : drawsOk F18_D (codeOf Try.prog 18 [1, 1, 1, 1, 0, 1, 0, 0]) = true := by kernel_rfl
def F18_x1_0 (h : AHeap) (hx : AHeap) (w0 : Hd) (r : (List (Int × Int × Unit × Int))) : AS := ⟨(rp 5 junk ((sv w0) :: (rp 61 junk []))), [], hx⟩
def F18_i1 (h : AHeap) (l5 : List (Int × Int × Int × Int)) (v5 : Hd) (y11 : (List Int) × (List Int)) (u12_0 : Hd) (u12_1 : Hd) (s : Int × (List (Int × Int × Unit × Int))) (S : AS) : Prop := ∃ (h19 : AHeap) (u18 : Hd), Heapy h h19 [⟨u12_0, 3, 1, List.flatMap enc3 y11.1⟩, ⟨u12_1, 3, 1, List.flatMap enc3 y11.2⟩, ⟨u18, 31, 4, List.flatMap enc1000031 s.2⟩] ∧ Strict u18 ∧ S = (F18_h1 l5 v5 u12_0 u12_1 h19 u18 s.1 s.2)
def F18_x1 (h : AHeap) (r : (List (Int × Int × Unit × Int))) (e : Exit) (S : AS) : Prop := e = (.exit 0) ∧ ∃ (hx : AHeap) (w0 : Hd), Heapy h hx [⟨w0, 31, 4, List.flatMap enc1000031 r⟩] ∧ Strict w0 ∧ S = (F18_x1_0 h hx w0 r)
set_option maxRecDepth 100000 in
theorem F18_r1 (h : AHeap) (l5 : List (Int × Int × Int × Int)) (v5 : Hd) (hv5 : SlE E59 4 h (sv v5) l5) (y11 : (List Int) × (List Int)) (u12_0 : Hd) (u12_1 : Hd) (a17 : Int) (l18 : List (Int × Int × Unit × Int)) (S : AS) (hI : (F18_i1 h l5 v5 y11 u12_0 u12_1) (a17, l18) S) (o : (Int × (List (Int × Int × Unit × Int))) ⊕ (List (Int × Int × Unit × Int))) : F18_s1 l5 y11 a17 l18 = some o → Rd Try.prog (codeOf Try.prog 18 [1, 1, 1, 1, 0, 1, 0, 0]) (F18_i1 h l5 v5 y11 u12_0 u12_1) (F18_x1 h) S o := by
  obtain ⟨h19, u18, hp19, z18, rfl⟩ := hI
  unfold F18_s1
  refine dec_bif (fun c20 => ?_) (fun c20 => ?_)
  · refine bind_opt fun y21 e21 => ?_
    obtain ⟨id21, off21, g21, cs21, ix21, at21, rfl⟩ := SlE.at hv5 e21
    refine bind_opt fun y22 e22 => ?_
    obtain ⟨id22, off22, g22, cs22, ix22, at22, rfl⟩ := SlE.at (Heapy.sle (v := u12_0) (xs := y11.1) (enc := enc3) hp19 0 rfl (fun _ => rfl) (by decide)) e22
    refine bind_opt fun y23 e23 => ?_
    have kc25 := (ai (At.one (P := Try.prog) (t := 3) (v := .int .i64 y22) at22 (by kernel_rfl) 0 rfl rfl) (ai ix22 (ai (show AKeep h19 h19 from (AHeap.sub_refl h19)) (ai (F43_spec y22 y21.2.2.2 h19 _ e23) (ai (At.one (P := Try.prog) (t := 3) (v := .int .i64 y22) at22 (by kernel_rfl) 0 rfl rfl) (ai ix22 (ai (At.agg (P := Try.prog) (t := 59) (v := .agg #[.int .i64 y21.1, .int .i64 y21.2.1, .int .i64 y21.2.2.1, .int .i64 y21.2.2.2]) (m := 4) (At.mono (Heapy.sub hp19) at21) (by kernel_rfl) (by kernel_rfl) 0 (by kernel_rfl) rfl) (ai ix21 (ai c20 trivial)))))))))
    refine dec_bif (fun c25 => ?_) (fun c25 => ?_)
    · obtain ⟨v26, h26, m26, hp26, _⟩ := Heapy.build (P := Try.prog) hp19 (t := 37) (e := 31) (len := 1) (n := 4) (parts := [(0, .agg #[.int .i64 1, .int .i64 1, .slice none 0 0, .int .i64 a17])]) (cells := List.flatMap enc1000031 ([(1, 1, (), a17)] : List (Int × Int × Unit × Int))) (by kernel_rfl) rfl
      refine guard_ok fun g28 => ?_
      obtain ⟨v29, h29, m29, q29, _, w29⟩ := Heapy.append hp26 (show mkInfo Try.prog 37 = some (31, 4, 48, [.int .i64 0, .int .i64 0, .slice none 0 0, .int .i64 0]) by kernel_rfl) 3 (v := u18) (cells := List.flatMap enc1000031 l18) rfl (Y := (sv v26)) (SlE.src (enc := enc1000031) (c := 4) (Heapy.sle (v := v26) (xs := ([(1, 1, (), a17)] : List (Int × Int × Unit × Int))) (enc := enc1000031) hp26 0 rfl (fun _ => rfl) (by decide)) (fun _ => rfl)) (flatMap_length (enc := enc1000031) (c := 4) (fun _ => rfl) _) (by rw [Heapy.vn (v := u18) (xs := l18) (enc := enc1000031) hp26 3 rfl (fun _ => rfl) (by decide)]; simpa using g28)
      have z29 : Strict v29 := w29 z18
      have hp29 : Heapy h h29 [⟨v26, 31, 4, List.flatMap enc1000031 ([(1, 1, (), a17)] : List (Int × Int × Unit × Int))⟩, ⟨u12_0, 3, 1, List.flatMap enc3 y11.1⟩, ⟨u12_1, 3, 1, List.flatMap enc3 y11.2⟩, ⟨v29, 31, 4, List.flatMap enc1000031 (l18 ++ ([(1, 1, (), a17)] : List (Int × Int × Unit × Int)))⟩] := by rw [← List.flatMap_append] at q29; exact q29
      intro hr
      obtain rfl := Option.some.inj hr
      exact ⟨(F18_h1 l5 v5 u12_0 u12_1 h29 v29 (IntKind.i64.wrap (a17 + 1)) (l18 ++ ([(1, 1, (), a17)] : List (Int × Int × Unit × Int)))), ⟨h29, v29, (Heapy.pick hp29 [1, 2, 3] (by decide)), z29, rfl⟩, pEnd_sound good (L := F18_L) (D := F18_D) (its := [.g, (.b true), .g, (.ix id21 off21 g21), (.ld (.agg #[.int .i64 y21.1, .int .i64 y21.2.1, .int .i64 y21.2.2.1, .int .i64 y21.2.2.2])), .g, .g, .g, .g, .g, (.ix id22 off22 g22), (.ld (.int .i64 y22)), .g, .g, .g, .g, (.c (.int .i64 y23) h19), .g, .g, .g, .g, (.ix id22 off22 g22), (.ld (.int .i64 y22)), .g, .g, (.b true), .g, .g, .g, .g, .g, .g, (.mm (sv v26) h26), (.mm (sv v29) h29), .g, .g, .g]) (ds := F18_m1_0) (ks := [7, 8]) (e := .normal) (s2 := (F18_h1 l5 v5 u12_0 u12_1 h29 v29 (IntKind.i64.wrap (a17 + 1)) (l18 ++ ([(1, 1, (), a17)] : List (Int × Int × Unit × Int))))) (hC := (ai m29 (ai m26 (ai c25 kc25)))) (hd := F18_d1) (h := by kernel_rfl)⟩
    · refine bind_opt fun y31 e31 => ?_
      obtain ⟨id31, off31, g31, cs31, ix31, at31, rfl⟩ := SlE.at (Heapy.sle (v := u12_1) (xs := y11.2) (enc := enc3) hp19 1 rfl (fun _ => rfl) (by decide)) e31
      have kc32 := (ai (At.one (P := Try.prog) (t := 3) (v := .int .i64 y31) at31 (by kernel_rfl) 0 rfl rfl) (ai ix31 (ai c25 kc25)))
      refine dec_bif (fun c32 => ?_) (fun c32 => ?_)
      · obtain ⟨v33, h33, m33, hp33, _⟩ := Heapy.build (P := Try.prog) hp19 (t := 37) (e := 31) (len := 1) (n := 4) (parts := [(0, .agg #[.int .i64 4, .int .i64 y31, .slice none 0 0, .int .i64 a17])]) (cells := List.flatMap enc1000031 ([(4, y31, (), a17)] : List (Int × Int × Unit × Int))) (by kernel_rfl) rfl
        refine guard_ok fun g35 => ?_
        obtain ⟨v36, h36, m36, q36, _, w36⟩ := Heapy.append hp33 (show mkInfo Try.prog 37 = some (31, 4, 48, [.int .i64 0, .int .i64 0, .slice none 0 0, .int .i64 0]) by kernel_rfl) 3 (v := u18) (cells := List.flatMap enc1000031 l18) rfl (Y := (sv v33)) (SlE.src (enc := enc1000031) (c := 4) (Heapy.sle (v := v33) (xs := ([(4, y31, (), a17)] : List (Int × Int × Unit × Int))) (enc := enc1000031) hp33 0 rfl (fun _ => rfl) (by decide)) (fun _ => rfl)) (flatMap_length (enc := enc1000031) (c := 4) (fun _ => rfl) _) (by rw [Heapy.vn (v := u18) (xs := l18) (enc := enc1000031) hp33 3 rfl (fun _ => rfl) (by decide)]; simpa using g35)
        have z36 : Strict v36 := w36 z18
        have hp36 : Heapy h h36 [⟨v33, 31, 4, List.flatMap enc1000031 ([(4, y31, (), a17)] : List (Int × Int × Unit × Int))⟩, ⟨u12_0, 3, 1, List.flatMap enc3 y11.1⟩, ⟨u12_1, 3, 1, List.flatMap enc3 y11.2⟩, ⟨v36, 31, 4, List.flatMap enc1000031 (l18 ++ ([(4, y31, (), a17)] : List (Int × Int × Unit × Int)))⟩] := by rw [← List.flatMap_append] at q36; exact q36
        intro hr
        obtain rfl := Option.some.inj hr
        exact ⟨(F18_h1 l5 v5 u12_0 u12_1 h36 v36 (IntKind.i64.wrap (a17 + 1)) (l18 ++ ([(4, y31, (), a17)] : List (Int × Int × Unit × Int)))), ⟨h36, v36, (Heapy.pick hp36 [1, 2, 3] (by decide)), z36, rfl⟩, pEnd_sound good (L := F18_L) (D := F18_D) (its := [.g, (.b true), .g, (.ix id21 off21 g21), (.ld (.agg #[.int .i64 y21.1, .int .i64 y21.2.1, .int .i64 y21.2.2.1, .int .i64 y21.2.2.2])), .g, .g, .g, .g, .g, (.ix id22 off22 g22), (.ld (.int .i64 y22)), .g, .g, .g, .g, (.c (.int .i64 y23) h19), .g, .g, .g, .g, (.ix id22 off22 g22), (.ld (.int .i64 y22)), .g, .g, (.b false), .g, .g, (.ix id31 off31 g31), (.ld (.int .i64 y31)), .g, .g, .g, .g, (.b true), .g, .g, (.ix id31 off31 g31), .g, (.ld (.int .i64 y31)), .g, .g, .g, .g, .g, (.mm (sv v33) h33), (.mm (sv v36) h36), .g, .g, .g]) (ds := F18_m1_0) (ks := [7, 8]) (e := .normal) (s2 := (F18_h1 l5 v5 u12_0 u12_1 h36 v36 (IntKind.i64.wrap (a17 + 1)) (l18 ++ ([(4, y31, (), a17)] : List (Int × Int × Unit × Int))))) (hC := (ai m36 (ai m33 (ai (At.one (P := Try.prog) (t := 3) (v := .int .i64 y31) at31 (by kernel_rfl) 0 rfl rfl) (ai ix31 (ai c32 kc32)))))) (hd := F18_d1) (h := by kernel_rfl)⟩
      · obtain ⟨v38, h38, m38, hp38, _⟩ := Heapy.build (P := Try.prog) hp19 (t := 37) (e := 31) (len := 1) (n := 4) (parts := [(0, .agg #[.int .i64 3, .int .i64 y23, .slice none 0 0, .int .i64 a17])]) (cells := List.flatMap enc1000031 ([(3, y23, (), a17)] : List (Int × Int × Unit × Int))) (by kernel_rfl) rfl
        refine guard_ok fun g40 => ?_
        obtain ⟨v41, h41, m41, q41, _, w41⟩ := Heapy.append hp38 (show mkInfo Try.prog 37 = some (31, 4, 48, [.int .i64 0, .int .i64 0, .slice none 0 0, .int .i64 0]) by kernel_rfl) 3 (v := u18) (cells := List.flatMap enc1000031 l18) rfl (Y := (sv v38)) (SlE.src (enc := enc1000031) (c := 4) (Heapy.sle (v := v38) (xs := ([(3, y23, (), a17)] : List (Int × Int × Unit × Int))) (enc := enc1000031) hp38 0 rfl (fun _ => rfl) (by decide)) (fun _ => rfl)) (flatMap_length (enc := enc1000031) (c := 4) (fun _ => rfl) _) (by rw [Heapy.vn (v := u18) (xs := l18) (enc := enc1000031) hp38 3 rfl (fun _ => rfl) (by decide)]; simpa using g40)
        have z41 : Strict v41 := w41 z18
        have hp41 : Heapy h h41 [⟨v38, 31, 4, List.flatMap enc1000031 ([(3, y23, (), a17)] : List (Int × Int × Unit × Int))⟩, ⟨u12_0, 3, 1, List.flatMap enc3 y11.1⟩, ⟨u12_1, 3, 1, List.flatMap enc3 y11.2⟩, ⟨v41, 31, 4, List.flatMap enc1000031 (l18 ++ ([(3, y23, (), a17)] : List (Int × Int × Unit × Int)))⟩] := by rw [← List.flatMap_append] at q41; exact q41
        intro hr
        obtain rfl := Option.some.inj hr
        exact ⟨(F18_h1 l5 v5 u12_0 u12_1 h41 v41 (IntKind.i64.wrap (a17 + 1)) (l18 ++ ([(3, y23, (), a17)] : List (Int × Int × Unit × Int)))), ⟨h41, v41, (Heapy.pick hp41 [1, 2, 3] (by decide)), z41, rfl⟩, pEnd_sound good (L := F18_L) (D := F18_D) (its := [.g, (.b true), .g, (.ix id21 off21 g21), (.ld (.agg #[.int .i64 y21.1, .int .i64 y21.2.1, .int .i64 y21.2.2.1, .int .i64 y21.2.2.2])), .g, .g, .g, .g, .g, (.ix id22 off22 g22), (.ld (.int .i64 y22)), .g, .g, .g, .g, (.c (.int .i64 y23) h19), .g, .g, .g, .g, (.ix id22 off22 g22), (.ld (.int .i64 y22)), .g, .g, (.b false), .g, .g, (.ix id31 off31 g31), (.ld (.int .i64 y31)), .g, .g, .g, .g, (.b false), .g, .g, (.mm (sv v38) h38), (.mm (sv v41) h41), .g, .g, .g]) (ds := F18_m1_0) (ks := [7, 8]) (e := .normal) (s2 := (F18_h1 l5 v5 u12_0 u12_1 h41 v41 (IntKind.i64.wrap (a17 + 1)) (l18 ++ ([(3, y23, (), a17)] : List (Int × Int × Unit × Int))))) (hC := (ai m41 (ai m38 (ai c32 kc32)))) (hd := F18_d1) (h := by kernel_rfl)⟩
  · intro hr
    obtain rfl := Option.some.inj hr
    refine ⟨(.exit 0), (F18_x1_0 h h19 u18 (l18 : (List (Int × Int × Unit × Int)))), (by intro hh; cases hh), ?_, pEnd_sound good (L := F18_L) (D := F18_D) (its := [.g, (.b false)]) (ds := F18_m1_1) (ks := []) (e := (.exit 0)) (s2 := (F18_x1_0 h h19 u18 (l18 : (List (Int × Int × Unit × Int))))) (hC := (ai c20 trivial)) (hd := F18_d1) (h := by kernel_rfl)⟩
    exact ⟨rfl, h19, u18, (Heapy.pick hp19 [2] (by decide)), z18, rfl⟩
theorem F18_l1 (h : AHeap) (l5 : List (Int × Int × Int × Int)) (v5 : Hd) (hv5 : SlE E59 4 h (sv v5) l5) (y11 : (List Int) × (List Int)) (u12_0 : Hd) (u12_1 : Hd) (x : Int × (List (Int × Int × Unit × Int))) (r : (List (Int × Int × Unit × Int))) (hl : loopO (fun (s : Int × (List (Int × Int × Unit × Int))) => F18_s1 l5 y11 s.1 s.2) x = some r) (S : AS) (hI : (F18_i1 h l5 v5 y11 u12_0 u12_1) x S) : ∃ e S', (F18_x1 h) r e S' ∧ AWp Try.prog (.loop (codeOf Try.prog 18 [1, 1, 1, 1, 0, 1, 0, 0])) (Ends1 e S') S :=
  loop_rel (fun x S hI => F18_r1 h l5 v5 hv5 y11 u12_0 u12_1 x.1 x.2 S hI) hl hI
def F18 (x1 : Int) (x2 : Int) (x3 : Bool) (l4 : List (Int × Int × Int × Int)) (l5 : List (Int × Int × Int × Int)) (l6 : List (Int × Int)) : Option ((List (Int × Int × Unit × Int))) :=
  (Option.bind (F33 x1 x2 x3 l4 l5 l6) fun y7 =>
  (bif (!y7) then
   some ([])
  else
   (bif (!x3) then
    some ([])
   else
    (Option.bind (F40 x1 x2 x3 l4 l5 l6) fun y11 =>
    (Option.bind (loopO (fun (s : Int × (List (Int × Int × Unit × Int))) => F18_s1 l5 y11 s.1 s.2) (0, ([] : List (Int × Int × Unit × Int)))) fun y43 =>
    some (y43))))))
set_option maxRecDepth 100000 in
theorem F18_spec (x1 : Int) (x2 : Int) (x3 : Bool) (l4 : List (Int × Int × Int × Int)) (l5 : List (Int × Int × Int × Int)) (l6 : List (Int × Int)) (v4 : Hd) (v5 : Hd) (v6 : Hd) (h : AHeap) (hw : h.wf) (hv4 : SlE E57 4 h (sv v4) l4) (hv5 : SlE E59 4 h (sv v5) l5) (hv6 : SlE E61 2 h (sv v6) l6) (r : (List (Int × Int × Unit × Int))) : F18 x1 x2 x3 l4 l5 l6 = some r → ∃ (ur0 : Hd) (h' : AHeap), Heapy h h' [⟨ur0, 31, 4, List.flatMap enc1000031 r⟩] ∧ Strict ur0 ∧ ACalls Try.prog 18 [.agg #[.int .i64 x1, .int .i64 x2, .bool x3, (sv v4), (sv v5), (sv v6)]] h (fun v' h'' => v' = ((sv ur0) : Value) ∧ h'' = h') := by
  unfold F18
  refine bind_opt fun y7 e7 => ?_
  have kc9 := (ai (F33_spec x1 x2 x3 l4 l5 l6 v4 v5 v6 h hv4 hv5 hv6 _ e7) trivial)
  refine dec_bif (fun c9 => ?_) (fun c9 => ?_)
  · intro hr
    obtain rfl := Option.some.inj hr
    exact ⟨⟨none, 0, 0⟩, h, Heapy.pick (Heapy.nil (Heapy.refl hw) 31 4) [0] (by decide), Strict.nil, pFun_sound good tab_ok (f := 18) (its := [.g, .g, .g, (.c (.bool y7) h), .g, .g, .n, .n, .n, (.p true), (.b true), .g]) (args := [.agg #[.int .i64 x1, .int .i64 x2, .bool x3, (sv v4), (sv v5), (sv v6)]]) (h := h) (h' := h) (v := .slice none 0 0) (hC := (ai l_t (ai c9 (ai (g_tf c9) (ai (g_tf c9) (ai (g_tf c9) kc9)))))) (hr := by kernel_rfl)⟩
  · have kc10 := (ai c9 (ai (g_ff c9) (ai (g_ff c9) (ai (g_ff c9) kc9))))
    refine dec_bif (fun c10 => ?_) (fun c10 => ?_)
    · intro hr
      obtain rfl := Option.some.inj hr
      exact ⟨⟨none, 0, 0⟩, h, Heapy.pick (Heapy.nil (Heapy.refl hw) 31 4) [0] (by decide), Strict.nil, pFun_sound good tab_ok (f := 18) (its := [.g, .g, .g, (.c (.bool y7) h), .g, .g, (.w .g), (.w .g), (.w .g), (.p false), (.b true), .g]) (args := [.agg #[.int .i64 x1, .int .i64 x2, .bool x3, (sv v4), (sv v5), (sv v6)]]) (h := h) (h' := h) (v := .slice none 0 0) (hC := (ai c10 kc10)) (hr := by kernel_rfl)⟩
    · refine bind_opt fun y11 e11 => ?_
      obtain ⟨u12_0, u12_1, h12, q12, c12⟩ := F40_spec x1 x2 x3 l4 l5 l6 v4 v5 v6 h hw hv4 hv5 hv6 _ e11
      have hp12 : Heapy h h12 [⟨u12_0, 3, 1, List.flatMap enc3 y11.1⟩, ⟨u12_1, 3, 1, List.flatMap enc3 y11.2⟩] := Heapy.call (Heapy.refl hw) q12
      refine bind_opt fun y43 e43 => ?_
      have hp15 : Heapy h h12 [⟨⟨none, 0, 0⟩, 31, 4, List.flatMap enc1000031 ([] : List (Int × Int × Unit × Int))⟩, ⟨u12_0, 3, 1, List.flatMap enc3 y11.1⟩, ⟨u12_1, 3, 1, List.flatMap enc3 y11.2⟩] := Heapy.nil hp12 31 4
      obtain ⟨ee43, SS43, hX43, hA43⟩ := F18_l1 h l5 v5 hv5 y11 u12_0 u12_1 (0, ([] : List (Int × Int × Unit × Int))) y43 e43 (F18_h1 l5 v5 u12_0 u12_1 h12 ⟨none, 0, 0⟩ 0 ([] : List (Int × Int × Unit × Int))) ⟨h12, ⟨none, 0, 0⟩, (Heapy.pick hp15 [1, 2, 0] (by decide)), Strict.nil, rfl⟩
      obtain ⟨rfl, h44, w0_44, hp44, zw0_44, rfl⟩ := hX43
      intro hr
      obtain rfl := Option.some.inj hr
      exact ⟨w0_44, h44, Heapy.pick hp44 [0] (by decide), zw0_44, pFun_sound good tab_ok (f := 18) (its := [.g, .g, .g, (.c (.bool y7) h), .g, .g, (.w .g), (.w .g), (.w .g), (.p false), (.b false), .g, (.c (.tuple #[(sv u12_0), (sv u12_1)]) h12), .g, .g, .g, .g, .g, .g, .g, .g, (.ln l5.length), .g, (.l F18_m1_0 [1] (.exit 0) (F18_x1_0 h h44 w0_44 y43)), .g, .g]) (args := [.agg #[.int .i64 x1, .int .i64 x2, .bool x3, (sv v4), (sv v5), (sv v6)]]) (h := h) (h' := h44) (v := (sv w0_44)) (hC := (ai hA43 (ai (SlE.len hv5) (ai c12 (ai c10 kc10))))) (hr := by kernel_rfl)⟩
/-! 21 jacquard/bounds.Lower -/
def F21_L : List Nat := [1, 2, 4, 7]
def F21_D : List (Nat × List (Nat × Nat)) := []
def F21_m1_1 : List Bool := (true :: true :: false :: true :: false :: (rp 31 true []))
def F21_m1_0 : List Bool := (true :: true :: false :: true :: false :: (rp 13 true (false :: false :: false :: (rp 15 true []))))
def F21_s1 (y11 : (List (Int × Int × Unit × Int))) (a14 : Int) (a15 : Int) (a16 : Int) (a17 : Int) (l18 : List Int) : Option ((Int × Int × Int × Int × (List Int)) ⊕ (Int × Int × Int × (List Int))) :=
  (bif decide (a14 < (y11.length : Int)) then
   (Option.bind (at? y11 a14) fun y21 =>
   (bif decide (y21.2.1 > a16) then
    some (.inl ((IntKind.i64.wrap (a14 + 1)), y21.1, y21.2.1, y21.2.2.2, ([] : List Int)))
   else
    some (.inl ((IntKind.i64.wrap (a14 + 1)), a15, a16, a17, l18))))
  else
   some (.inr (a15, a16, a17, l18)))
def F21_h1 (y11 : (List (Int × Int × Unit × Int))) (u12_0 : Hd) (h19 : AHeap) (u18 : Hd) (a14 : Int) (a15 : Int) (a16 : Int) (a17 : Int) (l18 : List Int) : AS := ⟨(junk :: junk :: (.pointer (some ⟨2, 0, none⟩)) :: junk :: (.pointer (some ⟨4, 0, none⟩)) :: (rp 13 junk ((sv u12_0) :: (.int .i64 (y11.length : Int)) :: (.int .i64 a14) :: (rp 15 junk [])))), [(2, [.int .i64 0, .int .i64 0, .slice none 0 0, .int .i64 0]), (4, [.int .i64 a15, .int .i64 a16, (sv u18), .int .i64 a17])], h19⟩
theorem F21_d1 : drawsOk F21_D (codeOf Try.prog 21 [1, 1, 1, 0, 1, 0, 0]) = true := by kernel_rfl
def F21_x1_0 (h : AHeap) (hx : AHeap) (w0 : Hd) (r : Int × Int × Int × (List Int)) : AS := ⟨(junk :: junk :: (.pointer (some ⟨2, 0, none⟩)) :: junk :: (.pointer (some ⟨4, 0, none⟩)) :: (rp 31 junk [])), [(2, [.int .i64 0, .int .i64 0, .slice none 0 0, .int .i64 0]), (4, [.int .i64 r.1, .int .i64 r.2.1, (sv w0), .int .i64 r.2.2.1])], hx⟩
def F21_i1 (h : AHeap) (y11 : (List (Int × Int × Unit × Int))) (u12_0 : Hd) (s : Int × Int × Int × Int × (List Int)) (S : AS) : Prop := ∃ (h19 : AHeap) (u18 : Hd), Heapy h h19 [⟨u12_0, 31, 4, List.flatMap enc1000031 y11⟩, ⟨u18, 3, 1, List.flatMap enc3 s.2.2.2.2⟩] ∧ Strict u18 ∧ S = (F21_h1 y11 u12_0 h19 u18 s.1 s.2.1 s.2.2.1 s.2.2.2.1 s.2.2.2.2)
def F21_x1 (h : AHeap) (r : Int × Int × Int × (List Int)) (e : Exit) (S : AS) : Prop := e = (.exit 0) ∧ ∃ (hx : AHeap) (w0 : Hd), Heapy h hx [⟨w0, 3, 1, List.flatMap enc3 r.2.2.2⟩] ∧ Strict w0 ∧ S = (F21_x1_0 h hx w0 r)
set_option maxRecDepth 100000 in
theorem F21_r1 (h : AHeap) (y11 : (List (Int × Int × Unit × Int))) (u12_0 : Hd) (a14 : Int) (a15 : Int) (a16 : Int) (a17 : Int) (l18 : List Int) (S : AS) (hI : (F21_i1 h y11 u12_0) (a14, a15, a16, a17, l18) S) (o : (Int × Int × Int × Int × (List Int)) ⊕ (Int × Int × Int × (List Int))) : F21_s1 y11 a14 a15 a16 a17 l18 = some o → Rd Try.prog (codeOf Try.prog 21 [1, 1, 1, 0, 1, 0, 0]) (F21_i1 h y11 u12_0) (F21_x1 h) S o := by
  obtain ⟨h19, u18, hp19, z18, rfl⟩ := hI
  unfold F21_s1
  refine dec_bif (fun c20 => ?_) (fun c20 => ?_)
  · refine bind_opt fun y21 e21 => ?_
    obtain ⟨id21, off21, g21, cs21, ix21, at21, rfl⟩ := SlE.at (Heapy.sle (v := u12_0) (xs := y11) (enc := enc1000031) hp19 0 rfl (fun _ => rfl) (by decide)) e21
    have kc22 := (ai (At.agg (P := Try.prog) (t := 31) (v := .agg #[.int .i64 y21.1, .int .i64 y21.2.1, .slice none 0 0, .int .i64 y21.2.2.2]) (m := 4) at21 (by kernel_rfl) (by kernel_rfl) 0 (by kernel_rfl) rfl) (ai ix21 (ai c20 trivial)))
    refine dec_bif (fun c22 => ?_) (fun c22 => ?_)
    · intro hr
      obtain rfl := Option.some.inj hr
      have hp23 : Heapy h h19 [⟨⟨none, 0, 0⟩, 3, 1, List.flatMap enc3 ([] : List Int)⟩, ⟨u12_0, 31, 4, List.flatMap enc1000031 y11⟩, ⟨u18, 3, 1, List.flatMap enc3 l18⟩] := Heapy.nil hp19 3 1
      exact ⟨(F21_h1 y11 u12_0 h19 ⟨none, 0, 0⟩ (IntKind.i64.wrap (a14 + 1)) y21.1 y21.2.1 y21.2.2.2 ([] : List Int)), ⟨h19, ⟨none, 0, 0⟩, (Heapy.pick hp23 [1, 0] (by decide)), Strict.nil, rfl⟩, pEnd_sound good (L := F21_L) (D := F21_D) (its := [.g, (.b true), (.ix id21 off21 g21), (.ld (.agg #[.int .i64 y21.1, .int .i64 y21.2.1, .slice none 0 0, .int .i64 y21.2.2.2])), .g, .g, .g, .g, .g, .g, .g, (.b true), .g, .g, .g, .g]) (ds := F21_m1_0) (ks := [7]) (e := .normal) (s2 := (F21_h1 y11 u12_0 h19 ⟨none, 0, 0⟩ (IntKind.i64.wrap (a14 + 1)) y21.1 y21.2.1 y21.2.2.2 ([] : List Int))) (hC := (ai c22 kc22)) (hd := F21_d1) (h := by kernel_rfl)⟩
    · intro hr
      obtain rfl := Option.some.inj hr
      exact ⟨(F21_h1 y11 u12_0 h19 u18 (IntKind.i64.wrap (a14 + 1)) a15 a16 a17 l18), ⟨h19, u18, (Heapy.pick hp19 [0, 1] (by decide)), z18, rfl⟩, pEnd_sound good (L := F21_L) (D := F21_D) (its := [.g, (.b true), (.ix id21 off21 g21), (.ld (.agg #[.int .i64 y21.1, .int .i64 y21.2.1, .slice none 0 0, .int .i64 y21.2.2.2])), .g, .g, .g, .g, .g, .g, .g, (.b false), .g, .g]) (ds := F21_m1_0) (ks := [7]) (e := .normal) (s2 := (F21_h1 y11 u12_0 h19 u18 (IntKind.i64.wrap (a14 + 1)) a15 a16 a17 l18)) (hC := (ai c22 kc22)) (hd := F21_d1) (h := by kernel_rfl)⟩
  · intro hr
    obtain rfl := Option.some.inj hr
    refine ⟨(.exit 0), (F21_x1_0 h h19 u18 ((a15, a16, a17, l18) : Int × Int × Int × (List Int))), (by intro hh; cases hh), ?_, pEnd_sound good (L := F21_L) (D := F21_D) (its := [.g, (.b false)]) (ds := F21_m1_1) (ks := []) (e := (.exit 0)) (s2 := (F21_x1_0 h h19 u18 ((a15, a16, a17, l18) : Int × Int × Int × (List Int)))) (hC := (ai c20 trivial)) (hd := F21_d1) (h := by kernel_rfl)⟩
    exact ⟨rfl, h19, u18, (Heapy.pick hp19 [1] (by decide)), z18, rfl⟩
theorem F21_l1 (h : AHeap) (y11 : (List (Int × Int × Unit × Int))) (u12_0 : Hd) (x : Int × Int × Int × Int × (List Int)) (r : Int × Int × Int × (List Int)) (hl : loopO (fun (s : Int × Int × Int × Int × (List Int)) => F21_s1 y11 s.1 s.2.1 s.2.2.1 s.2.2.2.1 s.2.2.2.2) x = some r) (S : AS) (hI : (F21_i1 h y11 u12_0) x S) : ∃ e S', (F21_x1 h) r e S' ∧ AWp Try.prog (.loop (codeOf Try.prog 21 [1, 1, 1, 0, 1, 0, 0])) (Ends1 e S') S :=
  loop_rel (fun x S hI => F21_r1 h y11 u12_0 x.1 x.2.1 x.2.2.1 x.2.2.2.1 x.2.2.2.2 S hI) hl hI
def F21 (x1 : Int) (x2 : Int) (x3 : Bool) (l4 : List (Int × Int × Int × Int)) (l5 : List (Int × Int × Int × Int)) (l6 : List (Int × Int)) : Option (Int × Int × (List Int) × Int × Int) :=
  (Option.bind (F13 x1 x2 x3 l4 l5 l6) fun y7 =>
  (bif (y7.2.2.2.2 != 0) then
   some (0, 0, [], 0, y7.2.2.2.2)
  else
   (Option.bind (F18 x1 x2 x3 l4 l5 l6) fun y11 =>
   (Option.bind (loopO (fun (s : Int × Int × Int × Int × (List Int)) => F21_s1 y11 s.1 s.2.1 s.2.2.1 s.2.2.2.1 s.2.2.2.2) (0, y7.1, y7.2.1, y7.2.2.2.1, y7.2.2.1)) fun y25 =>
   (bif decide (y25.2.1 > 256) then
    some (0, 0, [], 0, 14)
   else
    some (y25.1, y25.2.1, y25.2.2.2, y25.2.2.1, 0))))))
set_option maxRecDepth 100000 in
theorem F21_spec (x1 : Int) (x2 : Int) (x3 : Bool) (l4 : List (Int × Int × Int × Int)) (l5 : List (Int × Int × Int × Int)) (l6 : List (Int × Int)) (v4 : Hd) (v5 : Hd) (v6 : Hd) (h : AHeap) (hw : h.wf) (hv4 : SlE E57 4 h (sv v4) l4) (hv5 : SlE E59 4 h (sv v5) l5) (hv6 : SlE E61 2 h (sv v6) l6) (r : Int × Int × (List Int) × Int × Int) : F21 x1 x2 x3 l4 l5 l6 = some r → ∃ (ur0 : Hd) (h' : AHeap), Heapy h h' [⟨ur0, 3, 1, List.flatMap enc3 r.2.2.1⟩] ∧ Strict ur0 ∧ ACalls Try.prog 21 [.agg #[.int .i64 x1, .int .i64 x2, .bool x3, (sv v4), (sv v5), (sv v6)]] h (fun v' h'' => v' = (.tuple #[.agg #[.int .i64 r.1, .int .i64 r.2.1, (sv ur0), .int .i64 r.2.2.2.1], .int .i64 r.2.2.2.2] : Value) ∧ h'' = h') := by
  unfold F21
  refine bind_opt fun y7 e7 => ?_
  obtain ⟨u8_0, h8, q8, zu8_0, c8⟩ := F13_spec x1 x2 x3 l4 l5 l6 v4 v5 v6 h hw hv4 hv5 hv6 _ e7
  have hp8 : Heapy h h8 [⟨u8_0, 3, 1, List.flatMap enc3 y7.2.2.1⟩] := Heapy.call (Heapy.refl hw) q8
  have kc10 := (ai c8 trivial)
  refine dec_bif (fun c10 => ?_) (fun c10 => ?_)
  · intro hr
    obtain rfl := Option.some.inj hr
    exact ⟨⟨none, 0, 0⟩, h8, Heapy.pick (Heapy.nil hp8 3 1) [0] (by decide), Strict.nil, pFun_sound good tab_ok (f := 21) (its := [.g, .g, .g, .g, (.c (.tuple #[.agg #[.int .i64 y7.1, .int .i64 y7.2.1, (sv u8_0), .int .i64 y7.2.2.2.1], .int .i64 y7.2.2.2.2]) h8), .g, .g, .g, .g, .g, .g, .g, .g, (.b true), .g, .g, .g, .g]) (args := [.agg #[.int .i64 x1, .int .i64 x2, .bool x3, (sv v4), (sv v5), (sv v6)]]) (h := h) (h' := h8) (v := .tuple #[.agg #[.int .i64 0, .int .i64 0, .slice none 0 0, .int .i64 0], .int .i64 y7.2.2.2.2]) (hC := (ai c10 kc10)) (hr := by kernel_rfl)⟩
  · refine bind_opt fun y11 e11 => ?_
    obtain ⟨u12_0, h12, q12, zu12_0, c12⟩ := F18_spec x1 x2 x3 l4 l5 l6 v4 v5 v6 h8 (Heapy.wf hp8) (SlE.mono hv4 (Heapy.sub hp8) (E57_mono (Heapy.sub hp8))) (SlE.mono hv5 (Heapy.sub hp8) (E59_mono (Heapy.sub hp8))) (SlE.mono hv6 (Heapy.sub hp8) (E61_mono (Heapy.sub hp8))) _ e11
    have hp12 : Heapy h h12 [⟨u12_0, 31, 4, List.flatMap enc1000031 y11⟩, ⟨u8_0, 3, 1, List.flatMap enc3 y7.2.2.1⟩] := Heapy.call hp8 q12
    refine bind_opt fun y25 e25 => ?_
    obtain ⟨ee25, SS25, hX25, hA25⟩ := F21_l1 h y11 u12_0 (0, y7.1, y7.2.1, y7.2.2.2.1, y7.2.2.1) y25 e25 (F21_h1 y11 u12_0 h12 u8_0 0 y7.1 y7.2.1 y7.2.2.2.1 y7.2.2.1) ⟨h12, u8_0, (Heapy.pick hp12 [0, 1] (by decide)), zu8_0, rfl⟩
    obtain ⟨rfl, h26, w0_26, hp26, zw0_26, rfl⟩ := hX25
    have kc27 := (ai hA25 (ai (SlE.len (Heapy.sle (v := u12_0) (xs := y11) (enc := enc1000031) hp12 0 rfl (fun _ => rfl) (by decide))) (ai c12 (ai c10 kc10))))
    refine dec_bif (fun c27 => ?_) (fun c27 => ?_)
    · intro hr
      obtain rfl := Option.some.inj hr
      exact ⟨⟨none, 0, 0⟩, h26, Heapy.pick (Heapy.nil hp26 3 1) [0] (by decide), Strict.nil, pFun_sound good tab_ok (f := 21) (its := [.g, .g, .g, .g, (.c (.tuple #[.agg #[.int .i64 y7.1, .int .i64 y7.2.1, (sv u8_0), .int .i64 y7.2.2.2.1], .int .i64 y7.2.2.2.2]) h8), .g, .g, .g, .g, .g, .g, .g, .g, (.b false), .g, (.c ((sv u12_0)) h12), (.ln y11.length), .g, (.l F21_m1_0 [1] (.exit 0) (F21_x1_0 h h26 w0_26 y25)), .g, .g, .g, (.b true), .g, .g, .g]) (args := [.agg #[.int .i64 x1, .int .i64 x2, .bool x3, (sv v4), (sv v5), (sv v6)]]) (h := h) (h' := h26) (v := .tuple #[.agg #[.int .i64 0, .int .i64 0, .slice none 0 0, .int .i64 0], .int .i64 14]) (hC := (ai c27 kc27)) (hr := by kernel_rfl)⟩
    · intro hr
      obtain rfl := Option.some.inj hr
      exact ⟨w0_26, h26, Heapy.pick hp26 [0] (by decide), zw0_26, pFun_sound good tab_ok (f := 21) (its := [.g, .g, .g, .g, (.c (.tuple #[.agg #[.int .i64 y7.1, .int .i64 y7.2.1, (sv u8_0), .int .i64 y7.2.2.2.1], .int .i64 y7.2.2.2.2]) h8), .g, .g, .g, .g, .g, .g, .g, .g, (.b false), .g, (.c ((sv u12_0)) h12), (.ln y11.length), .g, (.l F21_m1_0 [1] (.exit 0) (F21_x1_0 h h26 w0_26 y25)), .g, .g, .g, (.b false), .g, .g, .g]) (args := [.agg #[.int .i64 x1, .int .i64 x2, .bool x3, (sv v4), (sv v5), (sv v6)]]) (h := h) (h' := h26) (v := .tuple #[.agg #[.int .i64 y25.1, .int .i64 y25.2.1, (sv w0_26), .int .i64 y25.2.2.1], .int .i64 0]) (hC := (ai c27 kc27)) (hr := by kernel_rfl)⟩
/-! 11 jacquard/jacquardlaw31.awake -/
def F11  : Option (Bool) :=
  (Option.bind (F21 F31.1 F31.2.1 F31.2.2.1 F31.2.2.2.1 [] F31.2.2.2.2) fun y4 =>
  (bif (y4.2.2.2.2 == 0) then
   (bif (y4.2.1 == 3) then
    some (y4.1 == 2)
   else
    some (false))
  else
   some (false)))
set_option maxRecDepth 100000 in
theorem F11_spec  (h : AHeap) (hw : h.wf)  (r : Bool) : F11 = some r → ∃ (h' : AHeap), Heapy h h' [] ∧ ACalls Try.prog 11 [] h (fun v' h'' => v' = (.bool r : Value) ∧ h'' = h') := by
  unfold F11
  obtain ⟨u1_0, u1_1, h1, q1, c1⟩ := F31_spec h hw _ rfl
  have hp1 : Heapy h h1 [⟨u1_0, 57, 4, List.flatMap enc57 F31.2.2.2.1⟩, ⟨u1_1, 61, 2, List.flatMap enc61 F31.2.2.2.2⟩] := Heapy.call (Heapy.refl hw) q1
  refine bind_opt fun y4 e4 => ?_
  obtain ⟨u5_0, h5, q5, zu5_0, c5⟩ := F21_spec F31.1 F31.2.1 F31.2.2.1 F31.2.2.2.1 [] F31.2.2.2.2 u1_0 ⟨none, 0, 0⟩ u1_1 h1 (Heapy.wf hp1) (Heapy.sle (v := u1_0) (xs := F31.2.2.2.1) (enc := enc57) hp1 0 rfl (fun _ => rfl) (by decide)) SlE.nil (Heapy.sle (v := u1_1) (xs := F31.2.2.2.2) (enc := enc61) hp1 1 rfl (fun _ => rfl) (by decide)) _ e4
  have hp5 : Heapy h h5 [⟨u5_0, 3, 1, List.flatMap enc3 y4.2.2.1⟩, ⟨u1_0, 57, 4, List.flatMap enc57 F31.2.2.2.1⟩, ⟨u1_1, 61, 2, List.flatMap enc61 F31.2.2.2.2⟩] := Heapy.call hp1 q5
  have kc7 := (ai c5 (ai c1 trivial))
  refine dec_bif (fun c7 => ?_) (fun c7 => ?_)
  · have kc8 := (ai c7 (ai (g_tt c7) (ai (g_tt c7) (ai (g_tt c7) kc7))))
    refine dec_bif (fun c8 => ?_) (fun c8 => ?_)
    · intro hr
      obtain rfl := Option.some.inj hr
      exact ⟨h5, Heapy.pick hp5 [] (by decide), pFun_sound good tab_ok (f := 11) (its := [.g, (.c (.agg #[.int .i64 F31.1, .int .i64 F31.2.1, .bool F31.2.2.1, (sv u1_0), .slice none 0 0, (sv u1_1)]) h1), (.c (.tuple #[.agg #[.int .i64 y4.1, .int .i64 y4.2.1, (sv u5_0), .int .i64 y4.2.2.2.1], .int .i64 y4.2.2.2.2]) h5), .g, .g, .g, .g, .g, .g, .g, .g, .g, (.w .g), (.w .g), (.w .g), (.p true), .g, (.w .g), (.w .g), (.w .g), (.p true), .g]) (args := []) (h := h) (h' := h5) (v := .bool (y4.1 == 2)) (hC := (ai c8 (ai (g_tt c8) (ai (g_tt c8) (ai (g_tt c8) kc8))))) (hr := by kernel_rfl)⟩
    · intro hr
      obtain rfl := Option.some.inj hr
      exact ⟨h5, Heapy.pick hp5 [] (by decide), pFun_sound good tab_ok (f := 11) (its := [.g, (.c (.agg #[.int .i64 F31.1, .int .i64 F31.2.1, .bool F31.2.2.1, (sv u1_0), .slice none 0 0, (sv u1_1)]) h1), (.c (.tuple #[.agg #[.int .i64 y4.1, .int .i64 y4.2.1, (sv u5_0), .int .i64 y4.2.2.2.1], .int .i64 y4.2.2.2.2]) h5), .g, .g, .g, .g, .g, .g, .g, .g, .g, (.w .g), (.w .g), (.w .g), (.p true), .g, .n, .n, .n, (.p false), .g]) (args := []) (h := h) (h' := h5) (v := .bool false) (hC := (ai c8 (ai (g_ft c8) (ai (g_ft c8) (ai (g_ft c8) kc8))))) (hr := by kernel_rfl)⟩
  · intro hr
    obtain rfl := Option.some.inj hr
    exact ⟨h5, Heapy.pick hp5 [] (by decide), pFun_sound good tab_ok (f := 11) (its := [.g, (.c (.agg #[.int .i64 F31.1, .int .i64 F31.2.1, .bool F31.2.2.1, (sv u1_0), .slice none 0 0, (sv u1_1)]) h1), (.c (.tuple #[.agg #[.int .i64 y4.1, .int .i64 y4.2.1, (sv u5_0), .int .i64 y4.2.2.2.1], .int .i64 y4.2.2.2.2]) h5), .g, .g, .g, .g, .g, .g, .g, .g, .g, .n, .n, .n, (.p false), .g, .n, .n, .n, .g, .g]) (args := []) (h := h) (h' := h5) (v := .bool false) (hC := (ai (g_ft l_f) (ai (g_ft l_f) (ai (g_ft l_f) (ai c7 (ai (g_ft c7) (ai (g_ft c7) (ai (g_ft c7) kc7)))))))) (hr := by kernel_rfl)⟩
end
end Go.Proofs.Ytimeninncpmaeaa.Abs
