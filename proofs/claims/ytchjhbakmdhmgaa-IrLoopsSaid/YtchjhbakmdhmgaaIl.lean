/-
  Contracts, written by program: for each function what its call yields, and that it yields it.
-/
import Derived.Test.YtchjhbakmdhmgaaIlc
namespace Go.Proofs.Ytchjhbakmdhmgaa.Abs
open Go
set_option linter.unusedVariables false
set_option linter.unusedSimpArgs false

noncomputable section
/-! 27 jacquard/ir.SelfLoop -/
def F27 (x1 : ByteArray) (l2 : List Int) (l3 : List (ByteArray × Int × Int × Int × Int)) (l4 : List (ByteArray × Int × Bool)) (l5 : List Int) (l6 : List ((List Int) × (List (Int × Int × (List Int) × Int × Int)) × Int × Int × (List (Int × (List Int))) × (List Int) × Int × Int × Int)) (x7 : Int) : Option (Int × Bool) :=
  (bif (!(F53 x1 l2 l3 l4 l5 l6 x7)) then
   some (0, false)
  else
   (Option.bind (at? l6 x7) fun y10 =>
   (bif (y10.2.2.1 != 2) then
    some (0, false)
   else
    (bif ((y10.2.2.2.2.1.length : Int) != 2) then
     some (0, false)
    else
     (Option.bind (at? y10.2.2.2.2.1 0) fun y13 =>
     (Option.bind (at? y10.2.2.2.2.1 1) fun y14 =>
     (bif ((y13.1 == x7) == (y14.1 == x7)) then
      some (0, false)
     else
      (bif (y13.1 == x7) then
       some (0, true)
      else
       some (1, true)))))))))
set_option maxRecDepth 100000 in
theorem F27_spec (x1 : ByteArray) (l2 : List Int) (l3 : List (ByteArray × Int × Int × Int × Int)) (l4 : List (ByteArray × Int × Bool)) (l5 : List Int) (l6 : List ((List Int) × (List (Int × Int × (List Int) × Int × Int)) × Int × Int × (List (Int × (List Int))) × (List Int) × Int × Int × Int)) (x7 : Int) (v2 : Hd) (v3 : Hd) (v4 : Hd) (v5 : Hd) (v6 : Hd) (h : AHeap) (hv2 : SlE E3 1 h (sv v2) l2) (hv3 : SlE E88 5 h (sv v3) l3) (hv4 : SlE E90 3 h (sv v4) l4) (hv5 : SlE E3 1 h (sv v5) l5) (hv6 : SlE E69 9 h (sv v6) l6) (r : Int × Bool) : F27 x1 l2 l3 l4 l5 l6 x7 = some r → ACalls Try.prog 27 [.agg #[.string x1, (sv v2), (sv v3), (sv v4), (sv v5), (sv v6)], .int .i64 x7] h (fun v' h'' => v' = (.tuple #[.int .i64 r.1, .bool r.2] : Value) ∧ h'' = h) := by
  unfold F27
  refine dec_bif (fun c9 => ?_) (fun c9 => ?_)
  · intro hr
    obtain rfl := Option.some.inj hr
    exact pFun_sound good tab_ok (f := 27) (its := [.g, .g, .g, .g, .g, (.c (.bool (F53 x1 l2 l3 l4 l5 l6 x7)) h), .g, (.b true), .g, .g]) (args := [.agg #[.string x1, (sv v2), (sv v3), (sv v4), (sv v5), (sv v6)], .int .i64 x7]) (h := h) (h' := h) (v := .tuple #[.int .i64 0, .bool false]) (hC := (And.intro c9 (And.intro (F53_spec x1 l2 l3 l4 l5 l6 x7 v2 v3 v4 v5 v6 h hv2 hv3 hv4 hv5 hv6 _ rfl) trivial))) (hr := by kernel_rfl)
  · refine bind_opt fun y10 e10 => ?_
    obtain ⟨id10, off10, g10, cs10, ix10, at10, v10_0, v10_1, v10_4, v10_5, rfl, hv10_0, hv10_1, hv10_4, hv10_5⟩ := SlE.at hv6 e10
    refine dec_bif (fun c11 => ?_) (fun c11 => ?_)
    · intro hr
      obtain rfl := Option.some.inj hr
      exact pFun_sound good tab_ok (f := 27) (its := [.g, .g, .g, .g, .g, (.c (.bool (F53 x1 l2 l3 l4 l5 l6 x7)) h), .g, (.b false), .g, .g, .g, (.ix id10 off10 g10), .g, (.ld (.agg #[.int .i64 y10.2.2.1, .int .i64 y10.2.2.2.1, (sv v10_4), (sv v10_5)])), .g, .g, .g, .g, .g, .g, .n, .n, .n, .n, (.p true), .g, .n, .n, .n, .n, .n, .n, .n, .n, .n, .n, .n, .n, .n, .n, .n, .g, (.b true), .g, .g]) (args := [.agg #[.string x1, (sv v2), (sv v3), (sv v4), (sv v5), (sv v6)], .int .i64 x7]) (h := h) (h' := h) (v := .tuple #[.int .i64 0, .bool false]) (hC := (And.intro l_t (And.intro (g_tf l_t) (And.intro (g_tf l_t) (And.intro (g_tf l_t) (And.intro (g_tf l_t) (And.intro (g_tf l_t) (And.intro (g_tf l_t) (And.intro (g_tf l_t) (And.intro (g_tf l_t) (And.intro (g_tf l_t) (And.intro (g_tf l_t) (And.intro (g_tf l_t) (And.intro (g_tf l_t) (And.intro (g_tf l_t) (And.intro (g_tf l_t) (And.intro (g_tf l_t) (And.intro c11 (And.intro (g_tf c11) (And.intro (g_tf c11) (And.intro (g_tf c11) (And.intro (g_tf c11) (And.intro (At.agg (P := Try.prog) (t := 67) (v := .agg #[.int .i64 y10.2.2.1, .int .i64 y10.2.2.2.1, (sv v10_4), (sv v10_5)]) (m := 4) at10 (by kernel_rfl) (by kernel_rfl) 2 (by kernel_rfl) rfl) (And.intro ix10 (And.intro c9 (And.intro (F53_spec x1 l2 l3 l4 l5 l6 x7 v2 v3 v4 v5 v6 h hv2 hv3 hv4 hv5 hv6 _ rfl) trivial)))))))))))))))))))))))))) (hr := by kernel_rfl)
    · refine dec_bif (fun c12 => ?_) (fun c12 => ?_)
      · intro hr
        obtain rfl := Option.some.inj hr
        exact pFun_sound good tab_ok (f := 27) (its := [.g, .g, .g, .g, .g, (.c (.bool (F53 x1 l2 l3 l4 l5 l6 x7)) h), .g, (.b false), .g, .g, .g, (.ix id10 off10 g10), .g, (.ld (.agg #[.int .i64 y10.2.2.1, .int .i64 y10.2.2.2.1, (sv v10_4), (sv v10_5)])), .g, .g, .g, .g, .g, .g, (.w .g), (.w .g), (.w (.ln y10.2.2.2.2.1.length)), (.w .g), (.p false), .g, .n, .n, .n, .n, .n, .n, .n, .n, .n, .n, .n, .n, .n, .n, .n, (.p true), (.b true), .g, .g]) (args := [.agg #[.string x1, (sv v2), (sv v3), (sv v4), (sv v5), (sv v6)], .int .i64 x7]) (h := h) (h' := h) (v := .tuple #[.int .i64 0, .bool false]) (hC := (And.intro l_t (And.intro c12 (And.intro (g_tf c12) (And.intro (g_tf c12) (And.intro (g_tf c12) (And.intro (g_tf c12) (And.intro (g_tf c12) (And.intro (g_tf c12) (And.intro (g_tf c12) (And.intro (g_tf c12) (And.intro (g_tf c12) (And.intro (g_tf c12) (And.intro (g_tf c12) (And.intro (g_tf c12) (And.intro (g_tf c12) (And.intro (g_tf c12) (And.intro (g_tf c12) (And.intro c11 (And.intro (g_ff c11) (And.intro (SlE.len hv10_4) (And.intro (g_ff c11) (And.intro (g_ff c11) (And.intro (g_ff c11) (And.intro (At.agg (P := Try.prog) (t := 67) (v := .agg #[.int .i64 y10.2.2.1, .int .i64 y10.2.2.2.1, (sv v10_4), (sv v10_5)]) (m := 4) at10 (by kernel_rfl) (by kernel_rfl) 2 (by kernel_rfl) rfl) (And.intro ix10 (And.intro c9 (And.intro (F53_spec x1 l2 l3 l4 l5 l6 x7 v2 v3 v4 v5 v6 h hv2 hv3 hv4 hv5 hv6 _ rfl) trivial)))))))))))))))))))))))))))) (hr := by kernel_rfl)
      · refine bind_opt fun y13 e13 => ?_
        obtain ⟨id13, off13, g13, cs13, ix13, at13, v13_1, rfl, hv13_1⟩ := SlE.at hv10_4 e13
        refine bind_opt fun y14 e14 => ?_
        obtain ⟨id14, off14, g14, cs14, ix14, at14, v14_1, rfl, hv14_1⟩ := SlE.at hv10_4 e14
        refine dec_bif (fun c15 => ?_) (fun c15 => ?_)
        · intro hr
          obtain rfl := Option.some.inj hr
          exact pFun_sound good tab_ok (f := 27) (its := [.g, .g, .g, .g, .g, (.c (.bool (F53 x1 l2 l3 l4 l5 l6 x7)) h), .g, (.b false), .g, .g, .g, (.ix id10 off10 g10), .g, (.ld (.agg #[.int .i64 y10.2.2.1, .int .i64 y10.2.2.2.1, (sv v10_4), (sv v10_5)])), .g, .g, .g, .g, .g, .g, (.w .g), (.w .g), (.w (.ln y10.2.2.2.2.1.length)), (.w .g), (.p false), .g, (.w .g), (.w .g), (.w (.ix id13 off13 g13)), (.w .g), (.w (.ld (.int .i64 y13.1))), (.w .g), (.w .g), (.w .g), (.w .g), (.w (.ix id14 off14 g14)), (.w .g), (.w (.ld (.int .i64 y14.1))), (.w .g), (.w .g), (.w .g), (.p false), (.b true), .g, .g]) (args := [.agg #[.string x1, (sv v2), (sv v3), (sv v4), (sv v5), (sv v6)], .int .i64 x7]) (h := h) (h' := h) (v := .tuple #[.int .i64 0, .bool false]) (hC := (And.intro c15 (And.intro c12 (And.intro (g_ff c12) (And.intro (g_ff c12) (And.intro (g_ff c12) (And.intro (At.one (P := Try.prog) (t := 3) (v := .int .i64 y14.1) at14 (by kernel_rfl) 0 rfl rfl) (And.intro (g_ff c12) (And.intro (g_ff c12) (And.intro ix14 (And.intro (g_ff c12) (And.intro (g_ff c12) (And.intro (g_ff c12) (And.intro (g_ff c12) (And.intro (g_ff c12) (And.intro (At.one (P := Try.prog) (t := 3) (v := .int .i64 y13.1) at13 (by kernel_rfl) 0 rfl rfl) (And.intro (g_ff c12) (And.intro (g_ff c12) (And.intro ix13 (And.intro (g_ff c12) (And.intro (g_ff c12) (And.intro (g_ff c12) (And.intro c11 (And.intro (g_ff c11) (And.intro (SlE.len hv10_4) (And.intro (g_ff c11) (And.intro (g_ff c11) (And.intro (g_ff c11) (And.intro (At.agg (P := Try.prog) (t := 67) (v := .agg #[.int .i64 y10.2.2.1, .int .i64 y10.2.2.2.1, (sv v10_4), (sv v10_5)]) (m := 4) at10 (by kernel_rfl) (by kernel_rfl) 2 (by kernel_rfl) rfl) (And.intro ix10 (And.intro c9 (And.intro (F53_spec x1 l2 l3 l4 l5 l6 x7 v2 v3 v4 v5 v6 h hv2 hv3 hv4 hv5 hv6 _ rfl) trivial)))))))))))))))))))))))))))))))) (hr := by kernel_rfl)
        · refine dec_bif (fun c16 => ?_) (fun c16 => ?_)
          · intro hr
            obtain rfl := Option.some.inj hr
            exact pFun_sound good tab_ok (f := 27) (its := [.g, .g, .g, .g, .g, (.c (.bool (F53 x1 l2 l3 l4 l5 l6 x7)) h), .g, (.b false), .g, .g, .g, (.ix id10 off10 g10), .g, (.ld (.agg #[.int .i64 y10.2.2.1, .int .i64 y10.2.2.2.1, (sv v10_4), (sv v10_5)])), .g, .g, .g, .g, .g, .g, (.w .g), (.w .g), (.w (.ln y10.2.2.2.2.1.length)), (.w .g), (.p false), .g, (.w .g), (.w .g), (.w (.ix id13 off13 g13)), (.w .g), (.w (.ld (.int .i64 y13.1))), (.w .g), (.w .g), (.w .g), (.w .g), (.w (.ix id14 off14 g14)), (.w .g), (.w (.ld (.int .i64 y14.1))), (.w .g), (.w .g), (.w .g), (.p false), (.b false), .g, .g, (.ix id13 off13 g13), .g, (.ld (.int .i64 y13.1)), .g, .g, (.b true), .g, .g]) (args := [.agg #[.string x1, (sv v2), (sv v3), (sv v4), (sv v5), (sv v6)], .int .i64 x7]) (h := h) (h' := h) (v := .tuple #[.int .i64 0, .bool true]) (hC := (And.intro c16 (And.intro (At.one (P := Try.prog) (t := 3) (v := .int .i64 y13.1) at13 (by kernel_rfl) 0 rfl rfl) (And.intro ix13 (And.intro c15 (And.intro c12 (And.intro (g_ff c12) (And.intro (g_ff c12) (And.intro (g_ff c12) (And.intro (At.one (P := Try.prog) (t := 3) (v := .int .i64 y14.1) at14 (by kernel_rfl) 0 rfl rfl) (And.intro (g_ff c12) (And.intro (g_ff c12) (And.intro ix14 (And.intro (g_ff c12) (And.intro (g_ff c12) (And.intro (g_ff c12) (And.intro (g_ff c12) (And.intro (g_ff c12) (And.intro (At.one (P := Try.prog) (t := 3) (v := .int .i64 y13.1) at13 (by kernel_rfl) 0 rfl rfl) (And.intro (g_ff c12) (And.intro (g_ff c12) (And.intro ix13 (And.intro (g_ff c12) (And.intro (g_ff c12) (And.intro (g_ff c12) (And.intro c11 (And.intro (g_ff c11) (And.intro (SlE.len hv10_4) (And.intro (g_ff c11) (And.intro (g_ff c11) (And.intro (g_ff c11) (And.intro (At.agg (P := Try.prog) (t := 67) (v := .agg #[.int .i64 y10.2.2.1, .int .i64 y10.2.2.2.1, (sv v10_4), (sv v10_5)]) (m := 4) at10 (by kernel_rfl) (by kernel_rfl) 2 (by kernel_rfl) rfl) (And.intro ix10 (And.intro c9 (And.intro (F53_spec x1 l2 l3 l4 l5 l6 x7 v2 v3 v4 v5 v6 h hv2 hv3 hv4 hv5 hv6 _ rfl) trivial))))))))))))))))))))))))))))))))))) (hr := by kernel_rfl)
          · intro hr
            obtain rfl := Option.some.inj hr
            exact pFun_sound good tab_ok (f := 27) (its := [.g, .g, .g, .g, .g, (.c (.bool (F53 x1 l2 l3 l4 l5 l6 x7)) h), .g, (.b false), .g, .g, .g, (.ix id10 off10 g10), .g, (.ld (.agg #[.int .i64 y10.2.2.1, .int .i64 y10.2.2.2.1, (sv v10_4), (sv v10_5)])), .g, .g, .g, .g, .g, .g, (.w .g), (.w .g), (.w (.ln y10.2.2.2.2.1.length)), (.w .g), (.p false), .g, (.w .g), (.w .g), (.w (.ix id13 off13 g13)), (.w .g), (.w (.ld (.int .i64 y13.1))), (.w .g), (.w .g), (.w .g), (.w .g), (.w (.ix id14 off14 g14)), (.w .g), (.w (.ld (.int .i64 y14.1))), (.w .g), (.w .g), (.w .g), (.p false), (.b false), .g, .g, (.ix id13 off13 g13), .g, (.ld (.int .i64 y13.1)), .g, .g, (.b false), .g, .g]) (args := [.agg #[.string x1, (sv v2), (sv v3), (sv v4), (sv v5), (sv v6)], .int .i64 x7]) (h := h) (h' := h) (v := .tuple #[.int .i64 1, .bool true]) (hC := (And.intro c16 (And.intro (At.one (P := Try.prog) (t := 3) (v := .int .i64 y13.1) at13 (by kernel_rfl) 0 rfl rfl) (And.intro ix13 (And.intro c15 (And.intro c12 (And.intro (g_ff c12) (And.intro (g_ff c12) (And.intro (g_ff c12) (And.intro (At.one (P := Try.prog) (t := 3) (v := .int .i64 y14.1) at14 (by kernel_rfl) 0 rfl rfl) (And.intro (g_ff c12) (And.intro (g_ff c12) (And.intro ix14 (And.intro (g_ff c12) (And.intro (g_ff c12) (And.intro (g_ff c12) (And.intro (g_ff c12) (And.intro (g_ff c12) (And.intro (At.one (P := Try.prog) (t := 3) (v := .int .i64 y13.1) at13 (by kernel_rfl) 0 rfl rfl) (And.intro (g_ff c12) (And.intro (g_ff c12) (And.intro ix13 (And.intro (g_ff c12) (And.intro (g_ff c12) (And.intro (g_ff c12) (And.intro c11 (And.intro (g_ff c11) (And.intro (SlE.len hv10_4) (And.intro (g_ff c11) (And.intro (g_ff c11) (And.intro (g_ff c11) (And.intro (At.agg (P := Try.prog) (t := 67) (v := .agg #[.int .i64 y10.2.2.1, .int .i64 y10.2.2.2.1, (sv v10_4), (sv v10_5)]) (m := 4) at10 (by kernel_rfl) (by kernel_rfl) 2 (by kernel_rfl) rfl) (And.intro ix10 (And.intro c9 (And.intro (F53_spec x1 l2 l3 l4 l5 l6 x7 v2 v3 v4 v5 v6 h hv2 hv3 hv4 hv5 hv6 _ rfl) trivial))))))))))))))))))))))))))))))))))) (hr := by kernel_rfl)
/-! 28 jacquard/jacquardref08.SelfLoop -/
def F28 (x1 : ByteArray) (l2 : List Int) (l3 : List (ByteArray × Int × Int × Int × Int)) (l4 : List (ByteArray × Int × Bool)) (l5 : List Int) (l6 : List ((List Int) × (List (Int × Int × (List Int) × Int × Int)) × Int × Int × (List (Int × (List Int))) × (List Int) × Int × Int × Int)) (x7 : Int) : Option (Int) :=
  (bif decide (x7 < 0) then
   some (-1)
  else
   (bif decide (x7 ≥ (l6.length : Int)) then
    some (-1)
   else
    (Option.bind (at? l6 x7) fun y10 =>
    (bif (y10.2.2.1 != 2) then
     some (-1)
    else
     (Option.bind (at? y10.2.2.2.2.1 0) fun y12 =>
     (Option.bind (at? y10.2.2.2.2.1 1) fun y13 =>
     (bif ((y12.1 == x7) == (y13.1 == x7)) then
      some (-1)
     else
      (bif (y12.1 == x7) then
       some (0)
      else
       some (1)))))))))
set_option maxRecDepth 100000 in
theorem F28_spec (x1 : ByteArray) (l2 : List Int) (l3 : List (ByteArray × Int × Int × Int × Int)) (l4 : List (ByteArray × Int × Bool)) (l5 : List Int) (l6 : List ((List Int) × (List (Int × Int × (List Int) × Int × Int)) × Int × Int × (List (Int × (List Int))) × (List Int) × Int × Int × Int)) (x7 : Int) (v2 : Hd) (v3 : Hd) (v4 : Hd) (v5 : Hd) (v6 : Hd) (h : AHeap) (hv2 : SlE E3 1 h (sv v2) l2) (hv3 : SlE E88 5 h (sv v3) l3) (hv4 : SlE E90 3 h (sv v4) l4) (hv5 : SlE E3 1 h (sv v5) l5) (hv6 : SlE E69 9 h (sv v6) l6) (r : Int) : F28 x1 l2 l3 l4 l5 l6 x7 = some r → ACalls Try.prog 28 [.agg #[.string x1, (sv v2), (sv v3), (sv v4), (sv v5), (sv v6)], .int .i64 x7] h (fun v' h'' => v' = (.int .i64 r : Value) ∧ h'' = h) := by
  unfold F28
  refine dec_bif (fun c8 => ?_) (fun c8 => ?_)
  · intro hr
    obtain rfl := Option.some.inj hr
    exact pFun_sound good tab_ok (f := 28) (its := [.g, .g, .g, .g, .g, .n, .n, .n, .n, .n, (.p true), .g, .n, .n, .n, .n, .n, .n, .n, .n, .g, (.b true), .g]) (args := [.agg #[.string x1, (sv v2), (sv v3), (sv v4), (sv v5), (sv v6)], .int .i64 x7]) (h := h) (h' := h) (v := .int .i64 (-1)) (hC := (And.intro l_t (And.intro (g_tf l_t) (And.intro (g_tf l_t) (And.intro (g_tf l_t) (And.intro (g_tf l_t) (And.intro (g_tf l_t) (And.intro (g_tf l_t) (And.intro (g_tf l_t) (And.intro (g_tf l_t) (And.intro c8 (And.intro (g_tf c8) (And.intro (g_tf c8) (And.intro (g_tf c8) (And.intro (g_tf c8) (And.intro (g_tf c8) trivial)))))))))))))))) (hr := by kernel_rfl)
  · refine dec_bif (fun c9 => ?_) (fun c9 => ?_)
    · intro hr
      obtain rfl := Option.some.inj hr
      exact pFun_sound good tab_ok (f := 28) (its := [.g, .g, .g, .g, .g, (.w .g), (.w .g), (.w .g), (.w (.ln l6.length)), (.w .g), (.p false), .g, .n, .n, .n, .n, .n, .n, .n, .n, (.p true), (.b true), .g]) (args := [.agg #[.string x1, (sv v2), (sv v3), (sv v4), (sv v5), (sv v6)], .int .i64 x7]) (h := h) (h' := h) (v := .int .i64 (-1)) (hC := (And.intro l_t (And.intro c9 (And.intro (g_tf c9) (And.intro (g_tf c9) (And.intro (g_tf c9) (And.intro (g_tf c9) (And.intro (g_tf c9) (And.intro (g_tf c9) (And.intro (g_tf c9) (And.intro (g_tf c9) (And.intro c8 (And.intro (g_ff c8) (And.intro (SlE.len hv6) (And.intro (g_ff c8) (And.intro (g_ff c8) (And.intro (g_ff c8) (And.intro (g_ff c8) trivial)))))))))))))))))) (hr := by kernel_rfl)
    · refine bind_opt fun y10 e10 => ?_
      obtain ⟨id10, off10, g10, cs10, ix10, at10, v10_0, v10_1, v10_4, v10_5, rfl, hv10_0, hv10_1, hv10_4, hv10_5⟩ := SlE.at hv6 e10
      refine dec_bif (fun c11 => ?_) (fun c11 => ?_)
      · intro hr
        obtain rfl := Option.some.inj hr
        exact pFun_sound good tab_ok (f := 28) (its := [.g, .g, .g, .g, .g, (.w .g), (.w .g), (.w .g), (.w (.ln l6.length)), (.w .g), (.p false), .g, (.w .g), (.w .g), (.w .g), (.w (.ix id10 off10 g10)), (.w .g), (.w .g), (.w (.ld (.int .i64 y10.2.2.1))), (.w .g), (.p false), (.b true), .g]) (args := [.agg #[.string x1, (sv v2), (sv v3), (sv v4), (sv v5), (sv v6)], .int .i64 x7]) (h := h) (h' := h) (v := .int .i64 (-1)) (hC := (And.intro c11 (And.intro c9 (And.intro (g_ff c9) (And.intro (At.one (P := Try.prog) (t := 3) (v := .int .i64 y10.2.2.1) at10 (by kernel_rfl) 2 rfl rfl) (And.intro (g_ff c9) (And.intro (g_ff c9) (And.intro (g_ff c9) (And.intro ix10 (And.intro (g_ff c9) (And.intro (g_ff c9) (And.intro (g_ff c9) (And.intro (g_ff c9) (And.intro c8 (And.intro (g_ff c8) (And.intro (SlE.len hv6) (And.intro (g_ff c8) (And.intro (g_ff c8) (And.intro (g_ff c8) (And.intro (g_ff c8) trivial)))))))))))))))))))) (hr := by kernel_rfl)
      · refine bind_opt fun y12 e12 => ?_
        obtain ⟨id12, off12, g12, cs12, ix12, at12, v12_1, rfl, hv12_1⟩ := SlE.at hv10_4 e12
        refine bind_opt fun y13 e13 => ?_
        obtain ⟨id13, off13, g13, cs13, ix13, at13, v13_1, rfl, hv13_1⟩ := SlE.at hv10_4 e13
        refine dec_bif (fun c14 => ?_) (fun c14 => ?_)
        · intro hr
          obtain rfl := Option.some.inj hr
          exact pFun_sound good tab_ok (f := 28) (its := [.g, .g, .g, .g, .g, (.w .g), (.w .g), (.w .g), (.w (.ln l6.length)), (.w .g), (.p false), .g, (.w .g), (.w .g), (.w .g), (.w (.ix id10 off10 g10)), (.w .g), (.w .g), (.w (.ld (.int .i64 y10.2.2.1))), (.w .g), (.p false), (.b false), .g, .g, .g, (.ix id10 off10 g10), .g, .g, (.ld ((sv v10_4))), .g, .g, (.ix id12 off12 g12), .g, (.ld (.int .i64 y12.1)), .g, .g, .g, (.ix id13 off13 g13), .g, (.ld (.int .i64 y13.1)), .g, .g, .g, (.b true), .g]) (args := [.agg #[.string x1, (sv v2), (sv v3), (sv v4), (sv v5), (sv v6)], .int .i64 x7]) (h := h) (h' := h) (v := .int .i64 (-1)) (hC := (And.intro c14 (And.intro (At.one (P := Try.prog) (t := 3) (v := .int .i64 y13.1) at13 (by kernel_rfl) 0 rfl rfl) (And.intro ix13 (And.intro (At.one (P := Try.prog) (t := 3) (v := .int .i64 y12.1) at12 (by kernel_rfl) 0 rfl rfl) (And.intro ix12 (And.intro (At.one (P := Try.prog) (t := 65) (v := (sv v10_4)) at10 (by kernel_rfl) 4 rfl rfl) (And.intro ix10 (And.intro c11 (And.intro c9 (And.intro (g_ff c9) (And.intro (At.one (P := Try.prog) (t := 3) (v := .int .i64 y10.2.2.1) at10 (by kernel_rfl) 2 rfl rfl) (And.intro (g_ff c9) (And.intro (g_ff c9) (And.intro (g_ff c9) (And.intro ix10 (And.intro (g_ff c9) (And.intro (g_ff c9) (And.intro (g_ff c9) (And.intro (g_ff c9) (And.intro c8 (And.intro (g_ff c8) (And.intro (SlE.len hv6) (And.intro (g_ff c8) (And.intro (g_ff c8) (And.intro (g_ff c8) (And.intro (g_ff c8) trivial))))))))))))))))))))))))))) (hr := by kernel_rfl)
        · refine dec_bif (fun c15 => ?_) (fun c15 => ?_)
          · intro hr
            obtain rfl := Option.some.inj hr
            exact pFun_sound good tab_ok (f := 28) (its := [.g, .g, .g, .g, .g, (.w .g), (.w .g), (.w .g), (.w (.ln l6.length)), (.w .g), (.p false), .g, (.w .g), (.w .g), (.w .g), (.w (.ix id10 off10 g10)), (.w .g), (.w .g), (.w (.ld (.int .i64 y10.2.2.1))), (.w .g), (.p false), (.b false), .g, .g, .g, (.ix id10 off10 g10), .g, .g, (.ld ((sv v10_4))), .g, .g, (.ix id12 off12 g12), .g, (.ld (.int .i64 y12.1)), .g, .g, .g, (.ix id13 off13 g13), .g, (.ld (.int .i64 y13.1)), .g, .g, .g, (.b false), .g, (.ix id12 off12 g12), .g, (.ld (.int .i64 y12.1)), .g, .g, (.b true), .g]) (args := [.agg #[.string x1, (sv v2), (sv v3), (sv v4), (sv v5), (sv v6)], .int .i64 x7]) (h := h) (h' := h) (v := .int .i64 0) (hC := (And.intro c15 (And.intro (At.one (P := Try.prog) (t := 3) (v := .int .i64 y12.1) at12 (by kernel_rfl) 0 rfl rfl) (And.intro ix12 (And.intro c14 (And.intro (At.one (P := Try.prog) (t := 3) (v := .int .i64 y13.1) at13 (by kernel_rfl) 0 rfl rfl) (And.intro ix13 (And.intro (At.one (P := Try.prog) (t := 3) (v := .int .i64 y12.1) at12 (by kernel_rfl) 0 rfl rfl) (And.intro ix12 (And.intro (At.one (P := Try.prog) (t := 65) (v := (sv v10_4)) at10 (by kernel_rfl) 4 rfl rfl) (And.intro ix10 (And.intro c11 (And.intro c9 (And.intro (g_ff c9) (And.intro (At.one (P := Try.prog) (t := 3) (v := .int .i64 y10.2.2.1) at10 (by kernel_rfl) 2 rfl rfl) (And.intro (g_ff c9) (And.intro (g_ff c9) (And.intro (g_ff c9) (And.intro ix10 (And.intro (g_ff c9) (And.intro (g_ff c9) (And.intro (g_ff c9) (And.intro (g_ff c9) (And.intro c8 (And.intro (g_ff c8) (And.intro (SlE.len hv6) (And.intro (g_ff c8) (And.intro (g_ff c8) (And.intro (g_ff c8) (And.intro (g_ff c8) trivial)))))))))))))))))))))))))))))) (hr := by kernel_rfl)
          · intro hr
            obtain rfl := Option.some.inj hr
            exact pFun_sound good tab_ok (f := 28) (its := [.g, .g, .g, .g, .g, (.w .g), (.w .g), (.w .g), (.w (.ln l6.length)), (.w .g), (.p false), .g, (.w .g), (.w .g), (.w .g), (.w (.ix id10 off10 g10)), (.w .g), (.w .g), (.w (.ld (.int .i64 y10.2.2.1))), (.w .g), (.p false), (.b false), .g, .g, .g, (.ix id10 off10 g10), .g, .g, (.ld ((sv v10_4))), .g, .g, (.ix id12 off12 g12), .g, (.ld (.int .i64 y12.1)), .g, .g, .g, (.ix id13 off13 g13), .g, (.ld (.int .i64 y13.1)), .g, .g, .g, (.b false), .g, (.ix id12 off12 g12), .g, (.ld (.int .i64 y12.1)), .g, .g, (.b false), .g]) (args := [.agg #[.string x1, (sv v2), (sv v3), (sv v4), (sv v5), (sv v6)], .int .i64 x7]) (h := h) (h' := h) (v := .int .i64 1) (hC := (And.intro c15 (And.intro (At.one (P := Try.prog) (t := 3) (v := .int .i64 y12.1) at12 (by kernel_rfl) 0 rfl rfl) (And.intro ix12 (And.intro c14 (And.intro (At.one (P := Try.prog) (t := 3) (v := .int .i64 y13.1) at13 (by kernel_rfl) 0 rfl rfl) (And.intro ix13 (And.intro (At.one (P := Try.prog) (t := 3) (v := .int .i64 y12.1) at12 (by kernel_rfl) 0 rfl rfl) (And.intro ix12 (And.intro (At.one (P := Try.prog) (t := 65) (v := (sv v10_4)) at10 (by kernel_rfl) 4 rfl rfl) (And.intro ix10 (And.intro c11 (And.intro c9 (And.intro (g_ff c9) (And.intro (At.one (P := Try.prog) (t := 3) (v := .int .i64 y10.2.2.1) at10 (by kernel_rfl) 2 rfl rfl) (And.intro (g_ff c9) (And.intro (g_ff c9) (And.intro (g_ff c9) (And.intro ix10 (And.intro (g_ff c9) (And.intro (g_ff c9) (And.intro (g_ff c9) (And.intro (g_ff c9) (And.intro c8 (And.intro (g_ff c8) (And.intro (SlE.len hv6) (And.intro (g_ff c8) (And.intro (g_ff c8) (And.intro (g_ff c8) (And.intro (g_ff c8) trivial)))))))))))))))))))))))))))))) (hr := by kernel_rfl)
/-! 8 jacquard/jacquardlaw08.IrLoops -/
def F8_L : List Nat := [2]
def F8_D : List (Nat × List (Nat × Nat)) := []
def F8_m1_2 : List Bool := [true, false, false, true, true, true, true, true, true, true, true, true, true, true, true, true, true, true, true, true, true, true, true, true, true, true, true, true, true, true, true, true, true, true, true, true, true, true, true, true, true, true, true, true, true, true, true, true, true, true, true, true, true, true, true, true, true, true, true, true, true, true]
def F8_m1_1 : List Bool := [true, false, false, true, true, false, true, true, true, true, true, true, true, true, true, true, true, true, true, true, true, true, true, true, true, true, true, true, true, true, true, true, true, true, true, true, true, true, true, true, true, true, true, true, true, true, true, true, true, true, true, true, true, true, true, true, true, true, true, true, true, true]
def F8_m1_0 : List Bool := [true, true, true, true, false, true, true, true, true, true, true, true, true, true, true, true, true, true, true, true, true, true, true, true, true, true, true, true, true, true, true, true, true, true, true, true, true, true, true, true, true, true, true, true, true, true, true, true, true, true, true, true, true, true, true, true, true, true, true, true, true, true]
def F8_s1 (x1 : ByteArray) (l2 : List Int) (l3 : List (ByteArray × Int × Int × Int × Int)) (l4 : List (ByteArray × Int × Bool)) (l5 : List Int) (l6 : List ((List Int) × (List (Int × Int × (List Int) × Int × Int)) × Int × Int × (List (Int × (List Int))) × (List Int) × Int × Int × Int)) (a17 : Int) : Option (Int ⊕ Nat) :=
  (bif decide (a17 ≤ (l6.length : Int)) then
   (Option.bind (F27 x1 l2 l3 l4 l5 l6 a17) fun y19 =>
   (Option.bind (F28 x1 l2 l3 l4 l5 l6 a17) fun y21 =>
   (bif (!(y19.2 == decide (y21 ≥ 0))) then
    some (.inr 0)
   else
    (bif (y19.1 != (if 0 > y21 then 0 else y21)) then
     some (.inr 0)
    else
     some (.inl (IntKind.i64.wrap (a17 + 1)))))))
  else
   some (.inr 1))
def F8_h1 (x1 : ByteArray) (v2 : Hd) (v3 : Hd) (v4 : Hd) (v5 : Hd) (v6 : Hd) (x7 : Int) (h14 : AHeap)  (a17 : Int) : AS := ⟨[junk, .int .i64 x7, .pointer (some ⟨2, 0, none⟩), junk, junk, .int .i64 a17, junk, junk, junk, junk, junk, junk, junk, junk, junk, junk, junk, junk, junk, junk, junk, junk, junk, junk, junk, junk, junk, junk, junk, junk, junk, junk, junk, junk, junk, junk, junk, junk, junk, junk, junk, junk, junk, junk, junk, junk, junk, junk, junk, junk, junk, junk, junk, junk, junk, junk, junk, junk, junk, junk, junk, junk], [(2, [.string x1, (sv v2), (sv v3), (sv v4), (sv v5), (sv v6)])], h14⟩
theorem F8_d1 : drawsOk F8_D (codeOf Try.prog 8 [1, 1, 0, 1, 0, 0]) = true := by kernel_rfl
def F8_x1_0 (x1 : ByteArray) (v2 : Hd) (v3 : Hd) (v4 : Hd) (v5 : Hd) (v6 : Hd) (x7 : Int) (h14 : AHeap)  (r : Nat) : AS := ⟨[junk, junk, junk, junk, .bool false, junk, junk, junk, junk, junk, junk, junk, junk, junk, junk, junk, junk, junk, junk, junk, junk, junk, junk, junk, junk, junk, junk, junk, junk, junk, junk, junk, junk, junk, junk, junk, junk, junk, junk, junk, junk, junk, junk, junk, junk, junk, junk, junk, junk, junk, junk, junk, junk, junk, junk, junk, junk, junk, junk, junk, junk, junk], [], h14⟩
def F8_x1_1 (x1 : ByteArray) (v2 : Hd) (v3 : Hd) (v4 : Hd) (v5 : Hd) (v6 : Hd) (x7 : Int) (h14 : AHeap)  (r : Nat) : AS := ⟨[junk, .int .i64 x7, .pointer (some ⟨2, 0, none⟩), junk, junk, junk, junk, junk, junk, junk, junk, junk, junk, junk, junk, junk, junk, junk, junk, junk, junk, junk, junk, junk, junk, junk, junk, junk, junk, junk, junk, junk, junk, junk, junk, junk, junk, junk, junk, junk, junk, junk, junk, junk, junk, junk, junk, junk, junk, junk, junk, junk, junk, junk, junk, junk, junk, junk, junk, junk, junk, junk], [(2, [.string x1, (sv v2), (sv v3), (sv v4), (sv v5), (sv v6)])], h14⟩
def F8_x1 (x1 : ByteArray) (v2 : Hd) (v3 : Hd) (v4 : Hd) (v5 : Hd) (v6 : Hd) (x7 : Int) (h14 : AHeap) (r : Nat) : Exit × AS := (bif Nat.beq r 0 then (.ret, (F8_x1_0 x1 v2 v3 v4 v5 v6 x7 h14 r)) else ((.exit 0), (F8_x1_1 x1 v2 v3 v4 v5 v6 x7 h14 r)))
set_option maxRecDepth 100000 in
theorem F8_r1 (h : AHeap) (x1 : ByteArray) (l2 : List Int) (v2 : Hd) (hv2 : SlE E3 1 h (sv v2) l2) (l3 : List (ByteArray × Int × Int × Int × Int)) (v3 : Hd) (hv3 : SlE E88 5 h (sv v3) l3) (l4 : List (ByteArray × Int × Bool)) (v4 : Hd) (hv4 : SlE E90 3 h (sv v4) l4) (l5 : List Int) (v5 : Hd) (hv5 : SlE E3 1 h (sv v5) l5) (l6 : List ((List Int) × (List (Int × Int × (List Int) × Int × Int)) × Int × Int × (List (Int × (List Int))) × (List Int) × Int × Int × Int)) (v6 : Hd) (hv6 : SlE E69 9 h (sv v6) l6) (x7 : Int) (h14 : AHeap) (hp14 : Heapy h h14 []) (a17 : Int) (o : Int ⊕ Nat) : F8_s1 x1 l2 l3 l4 l5 l6 a17 = some o → RdF Try.prog (codeOf Try.prog 8 [1, 1, 0, 1, 0, 0]) (fun (s : Int) => (F8_h1 x1 v2 v3 v4 v5 v6 x7 h14 s)) (F8_x1 x1 v2 v3 v4 v5 v6 x7 h14) (F8_h1 x1 v2 v3 v4 v5 v6 x7 h14 a17) o := by
  unfold F8_s1
  refine dec_bif (fun c18 => ?_) (fun c18 => ?_)
  · refine bind_opt fun y19 e19 => ?_
    refine bind_opt fun y21 e21 => ?_
    refine dec_bif (fun c23 => ?_) (fun c23 => ?_)
    · intro hr
      obtain rfl := Option.some.inj hr
      show AWp Try.prog _ (Ends1 ((F8_x1 x1 v2 v3 v4 v5 v6 x7 h14) (0 : Nat)).1 ((F8_x1 x1 v2 v3 v4 v5 v6 x7 h14) (0 : Nat)).2) _
      exact pEnd_sound good (L := F8_L) (D := F8_D) (its := [.g, .g, .g, (.ln l6.length), .g, (.b true), .g, .g, (.c (.tuple #[.int .i64 y19.1, .bool y19.2]) h14), .g, .g, .g, .g, .g, .g, .g, (.c (.int .i64 y21) h14), .g, .g, .g, .g, .g, .g, .n, .n, .n, .n, (.p true), (.b true), .g]) (ds := F8_m1_0) (ks := [2]) (e := ((F8_x1 x1 v2 v3 v4 v5 v6 x7 h14) (0 : Nat)).1) (s2 := ((F8_x1 x1 v2 v3 v4 v5 v6 x7 h14) (0 : Nat)).2) (hC := (And.intro l_t (And.intro c23 (And.intro (g_tf c23) (And.intro (g_tf c23) (And.intro (g_tf c23) (And.intro (g_tf c23) (And.intro (F28_spec x1 l2 l3 l4 l5 l6 a17 v2 v3 v4 v5 v6 h14 (SlE.mono hv2 (Heapy.sub hp14) (E3_mono (Heapy.sub hp14))) (SlE.mono hv3 (Heapy.sub hp14) (E88_mono (Heapy.sub hp14))) (SlE.mono hv4 (Heapy.sub hp14) (E90_mono (Heapy.sub hp14))) (SlE.mono hv5 (Heapy.sub hp14) (E3_mono (Heapy.sub hp14))) (SlE.mono hv6 (Heapy.sub hp14) (E69_mono (Heapy.sub hp14))) _ e21) (And.intro (F27_spec x1 l2 l3 l4 l5 l6 a17 v2 v3 v4 v5 v6 h14 (SlE.mono hv2 (Heapy.sub hp14) (E3_mono (Heapy.sub hp14))) (SlE.mono hv3 (Heapy.sub hp14) (E88_mono (Heapy.sub hp14))) (SlE.mono hv4 (Heapy.sub hp14) (E90_mono (Heapy.sub hp14))) (SlE.mono hv5 (Heapy.sub hp14) (E3_mono (Heapy.sub hp14))) (SlE.mono hv6 (Heapy.sub hp14) (E69_mono (Heapy.sub hp14))) _ e19) (And.intro c18 (And.intro (SlE.len hv6) trivial))))))))))) (hd := F8_d1) (h := by kernel_rfl)
    · refine dec_bif (fun c24 => ?_) (fun c24 => ?_)
      · intro hr
        obtain rfl := Option.some.inj hr
        show AWp Try.prog _ (Ends1 ((F8_x1 x1 v2 v3 v4 v5 v6 x7 h14) (0 : Nat)).1 ((F8_x1 x1 v2 v3 v4 v5 v6 x7 h14) (0 : Nat)).2) _
        exact pEnd_sound good (L := F8_L) (D := F8_D) (its := [.g, .g, .g, (.ln l6.length), .g, (.b true), .g, .g, (.c (.tuple #[.int .i64 y19.1, .bool y19.2]) h14), .g, .g, .g, .g, .g, .g, .g, (.c (.int .i64 y21) h14), .g, .g, .g, .g, .g, .g, (.w .g), (.w .g), (.w .g), (.w .g), (.p false), (.b true), .g]) (ds := F8_m1_0) (ks := [2]) (e := ((F8_x1 x1 v2 v3 v4 v5 v6 x7 h14) (0 : Nat)).1) (s2 := ((F8_x1 x1 v2 v3 v4 v5 v6 x7 h14) (0 : Nat)).2) (hC := (And.intro c24 (And.intro c23 (And.intro (g_ff c23) (And.intro (g_ff c23) (And.intro (g_ff c23) (And.intro (g_ff c23) (And.intro (F28_spec x1 l2 l3 l4 l5 l6 a17 v2 v3 v4 v5 v6 h14 (SlE.mono hv2 (Heapy.sub hp14) (E3_mono (Heapy.sub hp14))) (SlE.mono hv3 (Heapy.sub hp14) (E88_mono (Heapy.sub hp14))) (SlE.mono hv4 (Heapy.sub hp14) (E90_mono (Heapy.sub hp14))) (SlE.mono hv5 (Heapy.sub hp14) (E3_mono (Heapy.sub hp14))) (SlE.mono hv6 (Heapy.sub hp14) (E69_mono (Heapy.sub hp14))) _ e21) (And.intro (F27_spec x1 l2 l3 l4 l5 l6 a17 v2 v3 v4 v5 v6 h14 (SlE.mono hv2 (Heapy.sub hp14) (E3_mono (Heapy.sub hp14))) (SlE.mono hv3 (Heapy.sub hp14) (E88_mono (Heapy.sub hp14))) (SlE.mono hv4 (Heapy.sub hp14) (E90_mono (Heapy.sub hp14))) (SlE.mono hv5 (Heapy.sub hp14) (E3_mono (Heapy.sub hp14))) (SlE.mono hv6 (Heapy.sub hp14) (E69_mono (Heapy.sub hp14))) _ e19) (And.intro c18 (And.intro (SlE.len hv6) trivial))))))))))) (hd := F8_d1) (h := by kernel_rfl)
      · intro hr
        obtain rfl := Option.some.inj hr
        show AWp Try.prog _ (Ends1 .normal (F8_h1 x1 v2 v3 v4 v5 v6 x7 h14 (IntKind.i64.wrap (a17 + 1)))) _
        exact pEnd_sound good (L := F8_L) (D := F8_D) (its := [.g, .g, .g, (.ln l6.length), .g, (.b true), .g, .g, (.c (.tuple #[.int .i64 y19.1, .bool y19.2]) h14), .g, .g, .g, .g, .g, .g, .g, (.c (.int .i64 y21) h14), .g, .g, .g, .g, .g, .g, (.w .g), (.w .g), (.w .g), (.w .g), (.p false), (.b false), .g, .g, .g]) (ds := F8_m1_1) (ks := []) (e := .normal) (s2 := (F8_h1 x1 v2 v3 v4 v5 v6 x7 h14 (IntKind.i64.wrap (a17 + 1)))) (hC := (And.intro c24 (And.intro c23 (And.intro (g_ff c23) (And.intro (g_ff c23) (And.intro (g_ff c23) (And.intro (g_ff c23) (And.intro (F28_spec x1 l2 l3 l4 l5 l6 a17 v2 v3 v4 v5 v6 h14 (SlE.mono hv2 (Heapy.sub hp14) (E3_mono (Heapy.sub hp14))) (SlE.mono hv3 (Heapy.sub hp14) (E88_mono (Heapy.sub hp14))) (SlE.mono hv4 (Heapy.sub hp14) (E90_mono (Heapy.sub hp14))) (SlE.mono hv5 (Heapy.sub hp14) (E3_mono (Heapy.sub hp14))) (SlE.mono hv6 (Heapy.sub hp14) (E69_mono (Heapy.sub hp14))) _ e21) (And.intro (F27_spec x1 l2 l3 l4 l5 l6 a17 v2 v3 v4 v5 v6 h14 (SlE.mono hv2 (Heapy.sub hp14) (E3_mono (Heapy.sub hp14))) (SlE.mono hv3 (Heapy.sub hp14) (E88_mono (Heapy.sub hp14))) (SlE.mono hv4 (Heapy.sub hp14) (E90_mono (Heapy.sub hp14))) (SlE.mono hv5 (Heapy.sub hp14) (E3_mono (Heapy.sub hp14))) (SlE.mono hv6 (Heapy.sub hp14) (E69_mono (Heapy.sub hp14))) _ e19) (And.intro c18 (And.intro (SlE.len hv6) trivial))))))))))) (hd := F8_d1) (h := by kernel_rfl)
  · intro hr
    obtain rfl := Option.some.inj hr
    show AWp Try.prog _ (Ends1 ((F8_x1 x1 v2 v3 v4 v5 v6 x7 h14) (1 : Nat)).1 ((F8_x1 x1 v2 v3 v4 v5 v6 x7 h14) (1 : Nat)).2) _
    exact pEnd_sound good (L := F8_L) (D := F8_D) (its := [.g, .g, .g, (.ln l6.length), .g, (.b false)]) (ds := F8_m1_2) (ks := []) (e := ((F8_x1 x1 v2 v3 v4 v5 v6 x7 h14) (1 : Nat)).1) (s2 := ((F8_x1 x1 v2 v3 v4 v5 v6 x7 h14) (1 : Nat)).2) (hC := (And.intro c18 (And.intro (SlE.len hv6) trivial))) (hd := F8_d1) (h := by kernel_rfl)
theorem F8_l1_0 (h : AHeap) (x1 : ByteArray) (l2 : List Int) (v2 : Hd) (hv2 : SlE E3 1 h (sv v2) l2) (l3 : List (ByteArray × Int × Int × Int × Int)) (v3 : Hd) (hv3 : SlE E88 5 h (sv v3) l3) (l4 : List (ByteArray × Int × Bool)) (v4 : Hd) (hv4 : SlE E90 3 h (sv v4) l4) (l5 : List Int) (v5 : Hd) (hv5 : SlE E3 1 h (sv v5) l5) (l6 : List ((List Int) × (List (Int × Int × (List Int) × Int × Int)) × Int × Int × (List (Int × (List Int))) × (List Int) × Int × Int × Int)) (v6 : Hd) (hv6 : SlE E69 9 h (sv v6) l6) (x7 : Int) (h14 : AHeap) (hp14 : Heapy h h14 []) (x : Int) (r : Nat) (hl : loopO (fun (s : Int) => F8_s1 x1 l2 l3 l4 l5 l6 s) x = some r) (q0 : Nat.beq r 0 = true) : AWp Try.prog (.loop (codeOf Try.prog 8 [1, 1, 0, 1, 0, 0])) (Ends1 .ret (F8_x1_0 x1 v2 v3 v4 v5 v6 x7 h14 r)) ((fun (s : Int) => (F8_h1 x1 v2 v3 v4 v5 v6 x7 h14 s)) x) := by
  have k := loop_fun (P := Try.prog) (c := (codeOf Try.prog 8 [1, 1, 0, 1, 0, 0])) (step := (fun (s : Int) => F8_s1 x1 l2 l3 l4 l5 l6 s)) (hd := (fun (s : Int) => (F8_h1 x1 v2 v3 v4 v5 v6 x7 h14 s))) (X := (F8_x1 x1 v2 v3 v4 v5 v6 x7 h14)) (by intro t; unfold F8_x1; cases Nat.beq t 0 <;> (intro h; cases h)) (fun x => F8_r1 h x1 l2 v2 hv2 l3 v3 hv3 l4 v4 hv4 l5 v5 hv5 l6 v6 hv6 x7 h14 hp14 x) hl
  simp only [F8_x1, q0, cond_true, cond_false] at k
  exact k
theorem F8_l1_1 (h : AHeap) (x1 : ByteArray) (l2 : List Int) (v2 : Hd) (hv2 : SlE E3 1 h (sv v2) l2) (l3 : List (ByteArray × Int × Int × Int × Int)) (v3 : Hd) (hv3 : SlE E88 5 h (sv v3) l3) (l4 : List (ByteArray × Int × Bool)) (v4 : Hd) (hv4 : SlE E90 3 h (sv v4) l4) (l5 : List Int) (v5 : Hd) (hv5 : SlE E3 1 h (sv v5) l5) (l6 : List ((List Int) × (List (Int × Int × (List Int) × Int × Int)) × Int × Int × (List (Int × (List Int))) × (List Int) × Int × Int × Int)) (v6 : Hd) (hv6 : SlE E69 9 h (sv v6) l6) (x7 : Int) (h14 : AHeap) (hp14 : Heapy h h14 []) (x : Int) (r : Nat) (hl : loopO (fun (s : Int) => F8_s1 x1 l2 l3 l4 l5 l6 s) x = some r) (q0 : Nat.beq r 0 = false) : AWp Try.prog (.loop (codeOf Try.prog 8 [1, 1, 0, 1, 0, 0])) (Ends1 (.exit 0) (F8_x1_1 x1 v2 v3 v4 v5 v6 x7 h14 r)) ((fun (s : Int) => (F8_h1 x1 v2 v3 v4 v5 v6 x7 h14 s)) x) := by
  have k := loop_fun (P := Try.prog) (c := (codeOf Try.prog 8 [1, 1, 0, 1, 0, 0])) (step := (fun (s : Int) => F8_s1 x1 l2 l3 l4 l5 l6 s)) (hd := (fun (s : Int) => (F8_h1 x1 v2 v3 v4 v5 v6 x7 h14 s))) (X := (F8_x1 x1 v2 v3 v4 v5 v6 x7 h14)) (by intro t; unfold F8_x1; cases Nat.beq t 0 <;> (intro h; cases h)) (fun x => F8_r1 h x1 l2 v2 hv2 l3 v3 hv3 l4 v4 hv4 l5 v5 hv5 l6 v6 hv6 x7 h14 hp14 x) hl
  simp only [F8_x1, q0, cond_true, cond_false] at k
  exact k
def F8 (x1 : ByteArray) (l2 : List Int) (l3 : List (ByteArray × Int × Int × Int × Int)) (l4 : List (ByteArray × Int × Bool)) (l5 : List Int) (l6 : List ((List Int) × (List (Int × Int × (List Int) × Int × Int)) × Int × Int × (List (Int × (List Int))) × (List Int) × Int × Int × Int)) (x7 : Int) : Option (Bool) :=
  (Option.bind (F25 x1 l2 l3 l4 l5 l6) fun y9 =>
  (bif (!y9) then
   some (true)
  else
   (Option.bind (F26 x1 l2 l3 l4 l5 l6) fun y13 =>
   (bif (!y13) then
    some (true)
   else
    (Option.bind (loopO (fun (s : Int) => F8_s1 x1 l2 l3 l4 l5 l6 s) (-1)) fun y25 =>
    (bif (Nat.beq y25 0) then
     some (false)
    else
     (Option.bind (F27 x1 l2 l3 l4 l5 l6 x7) fun y27 =>
     (Option.bind (F28 x1 l2 l3 l4 l5 l6 x7) fun y29 =>
     some (y27.2 == decide (y29 ≥ 0))))))))))
set_option maxRecDepth 100000 in
theorem F8_spec (x1 : ByteArray) (l2 : List Int) (l3 : List (ByteArray × Int × Int × Int × Int)) (l4 : List (ByteArray × Int × Bool)) (l5 : List Int) (l6 : List ((List Int) × (List (Int × Int × (List Int) × Int × Int)) × Int × Int × (List (Int × (List Int))) × (List Int) × Int × Int × Int)) (x7 : Int) (v2 : Hd) (v3 : Hd) (v4 : Hd) (v5 : Hd) (v6 : Hd) (h : AHeap) (hw : h.wf) (hv2 : SlE E3 1 h (sv v2) l2) (hv3 : SlE E88 5 h (sv v3) l3) (hv4 : SlE E90 3 h (sv v4) l4) (hv5 : SlE E3 1 h (sv v5) l5) (hv6 : SlE E69 9 h (sv v6) l6) (r : Bool) : F8 x1 l2 l3 l4 l5 l6 x7 = some r → ∃ (h' : AHeap), Heapy h h' [] ∧ ACalls Try.prog 8 [.agg #[.string x1, (sv v2), (sv v3), (sv v4), (sv v5), (sv v6)], .int .i64 x7] h (fun v' h'' => v' = (.bool r : Value) ∧ h'' = h') := by
  unfold F8
  refine bind_opt fun y9 e9 => ?_
  refine dec_bif (fun c11 => ?_) (fun c11 => ?_)
  · intro hr
    obtain rfl := Option.some.inj hr
    exact ⟨h, Heapy.pick (Heapy.refl hw) [] (by decide), pFun_sound good tab_ok (f := 8) (its := [.g, .g, (.c (.bool true) h), .g, .g, (.w .g), (.w (.c (.bool y9) h)), (.w .g), .g, .g, .n, .n, .n, (.p true), (.b true), (.c (.bool true) h), .g]) (args := [.agg #[.string x1, (sv v2), (sv v3), (sv v4), (sv v5), (sv v6)], .int .i64 x7]) (h := h) (h' := h) (v := .bool true) (hC := (And.intro (F24_spec h _ rfl) (And.intro l_t (And.intro c11 (And.intro (g_tf c11) (And.intro (g_tf c11) (And.intro (g_tf c11) (And.intro (g_ff l_f) (And.intro (F25_spec x1 l2 l3 l4 l5 l6 v2 v3 v4 v5 v6 h hv2 hv3 hv4 hv5 hv6 _ e9) (And.intro (g_ff l_f) (And.intro (g_ff l_f) (And.intro (F24_spec h _ rfl) trivial)))))))))))) (hr := by kernel_rfl)⟩
  · refine bind_opt fun y13 e13 => ?_
    obtain ⟨h14, q14, c14⟩ := F26_spec x1 l2 l3 l4 l5 l6 v2 v3 v4 v5 v6 h hw hv2 hv3 hv4 hv5 hv6 _ e13
    have hp14 : Heapy h h14 [] := Heapy.call (Heapy.refl hw) q14
    refine dec_bif (fun c15 => ?_) (fun c15 => ?_)
    · intro hr
      obtain rfl := Option.some.inj hr
      exact ⟨h14, Heapy.pick hp14 [] (by decide), pFun_sound good tab_ok (f := 8) (its := [.g, .g, (.c (.bool true) h), .g, .g, (.w .g), (.w (.c (.bool y9) h)), (.w .g), .g, .g, (.w .g), (.w (.c (.bool y13) h14)), (.w .g), (.p false), (.b true), (.c (.bool true) h14), .g]) (args := [.agg #[.string x1, (sv v2), (sv v3), (sv v4), (sv v5), (sv v6)], .int .i64 x7]) (h := h) (h' := h14) (v := .bool true) (hC := (And.intro (F24_spec h14 _ rfl) (And.intro c15 (And.intro c11 (And.intro (g_ff c11) (And.intro c14 (And.intro (g_ff c11) (And.intro (g_ff c11) (And.intro (g_ff l_f) (And.intro (F25_spec x1 l2 l3 l4 l5 l6 v2 v3 v4 v5 v6 h hv2 hv3 hv4 hv5 hv6 _ e9) (And.intro (g_ff l_f) (And.intro (g_ff l_f) (And.intro (F24_spec h _ rfl) trivial))))))))))))) (hr := by kernel_rfl)⟩
    · refine bind_opt fun y25 e25 => ?_
      refine dec_bif (fun c26 => ?_) (fun c26 => ?_)
      · intro hr
        obtain rfl := Option.some.inj hr
        exact ⟨h14, Heapy.pick hp14 [] (by decide), pFun_sound good tab_ok (f := 8) (its := [.g, .g, (.c (.bool true) h), .g, .g, (.w .g), (.w (.c (.bool y9) h)), (.w .g), .g, .g, (.w .g), (.w (.c (.bool y13) h14)), (.w .g), (.p false), (.b false), .g, (.l F8_m1_1 [] .ret (F8_x1_0 x1 v2 v3 v4 v5 v6 x7 h14 y25))]) (args := [.agg #[.string x1, (sv v2), (sv v3), (sv v4), (sv v5), (sv v6)], .int .i64 x7]) (h := h) (h' := h14) (v := .bool false) (hC := (And.intro (F8_l1_0 h x1 l2 v2 hv2 l3 v3 hv3 l4 v4 hv4 l5 v5 hv5 l6 v6 hv6 x7 h14 hp14 (-1) y25 e25 c26) (And.intro c15 (And.intro c11 (And.intro (g_ff c11) (And.intro c14 (And.intro (g_ff c11) (And.intro (g_ff c11) (And.intro (g_ff l_f) (And.intro (F25_spec x1 l2 l3 l4 l5 l6 v2 v3 v4 v5 v6 h hv2 hv3 hv4 hv5 hv6 _ e9) (And.intro (g_ff l_f) (And.intro (g_ff l_f) (And.intro (F24_spec h _ rfl) trivial))))))))))))) (hr := by kernel_rfl)⟩
      · refine bind_opt fun y27 e27 => ?_
        refine bind_opt fun y29 e29 => ?_
        intro hr
        obtain rfl := Option.some.inj hr
        exact ⟨h14, Heapy.pick hp14 [] (by decide), pFun_sound good tab_ok (f := 8) (its := [.g, .g, (.c (.bool true) h), .g, .g, (.w .g), (.w (.c (.bool y9) h)), (.w .g), .g, .g, (.w .g), (.w (.c (.bool y13) h14)), (.w .g), (.p false), (.b false), .g, (.l F8_m1_1 [] (.exit 0) (F8_x1_1 x1 v2 v3 v4 v5 v6 x7 h14 y25)), .g, .g, (.c (.tuple #[.int .i64 y27.1, .bool y27.2]) h14), .g, .g, .g, .g, .g, .g, .g, .g, (.c (.int .i64 y29) h14), .g, .g, .g]) (args := [.agg #[.string x1, (sv v2), (sv v3), (sv v4), (sv v5), (sv v6)], .int .i64 x7]) (h := h) (h' := h14) (v := .bool (y27.2 == decide (y29 ≥ 0))) (hC := (And.intro (F28_spec x1 l2 l3 l4 l5 l6 x7 v2 v3 v4 v5 v6 h14 (SlE.mono hv2 (Heapy.sub hp14) (E3_mono (Heapy.sub hp14))) (SlE.mono hv3 (Heapy.sub hp14) (E88_mono (Heapy.sub hp14))) (SlE.mono hv4 (Heapy.sub hp14) (E90_mono (Heapy.sub hp14))) (SlE.mono hv5 (Heapy.sub hp14) (E3_mono (Heapy.sub hp14))) (SlE.mono hv6 (Heapy.sub hp14) (E69_mono (Heapy.sub hp14))) _ e29) (And.intro (F27_spec x1 l2 l3 l4 l5 l6 x7 v2 v3 v4 v5 v6 h14 (SlE.mono hv2 (Heapy.sub hp14) (E3_mono (Heapy.sub hp14))) (SlE.mono hv3 (Heapy.sub hp14) (E88_mono (Heapy.sub hp14))) (SlE.mono hv4 (Heapy.sub hp14) (E90_mono (Heapy.sub hp14))) (SlE.mono hv5 (Heapy.sub hp14) (E3_mono (Heapy.sub hp14))) (SlE.mono hv6 (Heapy.sub hp14) (E69_mono (Heapy.sub hp14))) _ e27) (And.intro (F8_l1_1 h x1 l2 v2 hv2 l3 v3 hv3 l4 v4 hv4 l5 v5 hv5 l6 v6 hv6 x7 h14 hp14 (-1) y25 e25 c26) (And.intro c15 (And.intro c11 (And.intro (g_ff c11) (And.intro c14 (And.intro (g_ff c11) (And.intro (g_ff c11) (And.intro (g_ff l_f) (And.intro (F25_spec x1 l2 l3 l4 l5 l6 v2 v3 v4 v5 v6 h hv2 hv3 hv4 hv5 hv6 _ e9) (And.intro (g_ff l_f) (And.intro (g_ff l_f) (And.intro (F24_spec h _ rfl) trivial))))))))))))))) (hr := by kernel_rfl)⟩
set_option maxRecDepth 100000 in
theorem F8_law (H : ∀ (x1 : ByteArray) (l2 : List Int) (l3 : List (ByteArray × Int × Int × Int × Int)) (l4 : List (ByteArray × Int × Bool)) (l5 : List Int) (l6 : List ((List Int) × (List (Int × Int × (List Int) × Int × Int)) × Int × Int × (List (Int × (List Int))) × (List Int) × Int × Int × Int)) (x7 : Int), x1.size ≤ maxLen → (l2.length ≤ maxLen ∧ l2.length * 8 ≤ reachBytes) → (∀ y ∈ l2, W3 y) → (l3.length ≤ maxLen ∧ l3.length * 48 ≤ reachBytes) → (∀ y ∈ l3, W88 y) → (l4.length ≤ maxLen ∧ l4.length * 32 ≤ reachBytes) → (∀ y ∈ l4, W90 y) → (l5.length ≤ maxLen ∧ l5.length * 8 ≤ reachBytes) → (∀ y ∈ l5, W3 y) → (l6.length ≤ maxLen ∧ l6.length * 136 ≤ reachBytes) → (∀ y ∈ l6, W69 y) → (Lit.int .i64 x7).wf = true → F8 x1 l2 l3 l4 l5 l6 x7 = some true) : Law Try.prog 8 10 [46, 3] := by
  intro s us hwf hro hT0
  obtain ⟨u0, vs0, rfl, t0, hT1⟩ := wts_cons hT0
  obtain ⟨cs0, rfl, k0⟩ := wtv_aggS 8 (ks := [.string, .slice 3, .slice 88, .slice 90, .slice 3, .slice 69]) (by kernel_rfl) (by kernel_rfl) t0
  obtain ⟨x1, r_x1, rfl, w_x1, k0_0⟩ := sq_string k0
  obtain ⟨v2, r_l2, rfl, q_l2, k0_1⟩ := sq_slice k0_0
  obtain ⟨l2, a_l2, m_l2, w_l2⟩ := q_l2 E3 W3 1 (by kernel_rfl) fun n cs H => E3_wt H
  obtain ⟨v3, r_l3, rfl, q_l3, k0_2⟩ := sq_slice k0_1
  obtain ⟨l3, a_l3, m_l3, w_l3⟩ := q_l3 E88 W88 5 (by kernel_rfl) fun n cs H => E88_wt H
  obtain ⟨v4, r_l4, rfl, q_l4, k0_3⟩ := sq_slice k0_2
  obtain ⟨l4, a_l4, m_l4, w_l4⟩ := q_l4 E90 W90 3 (by kernel_rfl) fun n cs H => E90_wt H
  obtain ⟨v5, r_l5, rfl, q_l5, k0_4⟩ := sq_slice k0_3
  obtain ⟨l5, a_l5, m_l5, w_l5⟩ := q_l5 E3 W3 1 (by kernel_rfl) fun n cs H => E3_wt H
  obtain ⟨v6, r_l6, rfl, q_l6, k0_5⟩ := sq_slice k0_4
  obtain ⟨l6, a_l6, m_l6, w_l6⟩ := q_l6 E69 W69 9 (by kernel_rfl) fun n cs H => E69_wt H
  obtain rfl := sq_nil k0_5
  obtain ⟨u1, vs1, rfl, t1, hT2⟩ := wts_cons hT1
  have k1 := wtv_oneS 1 (ks := [.int .i64]) (by kernel_rfl) (by kernel_rfl) t1
  obtain ⟨x7, r_x7, e_x7, w_x7, k1_0⟩ := sq_int k1
  obtain ⟨rfl, rfl⟩ := List.cons.inj e_x7
  have k1_0' := sq_nil k1_0
  obtain rfl := wts_nil hT2
  obtain ⟨h2, _, hc⟩ := F8_spec x1 l2 l3 l4 l5 l6 x7 v2 v3 v4 v5 v6 s hwf a_l2 a_l3 a_l4 a_l5 a_l6 _ (H x1 l2 l3 l4 l5 l6 x7 w_x1 m_l2 w_l2 m_l3 w_l3 m_l4 w_l4 m_l5 w_l5 m_l6 w_l6 w_x7)
  refine (hc).mono ?_
  rintro v h' ⟨rfl, rfl⟩
  rfl
end
end Go.Proofs.Ytchjhbakmdhmgaa.Abs
