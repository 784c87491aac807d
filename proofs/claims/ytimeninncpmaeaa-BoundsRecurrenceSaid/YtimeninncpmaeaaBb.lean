/-
  Contracts, written by program: for each function what its call yields, and that it yields it.
-/
import Derived.Test.YtimeninncpmaeaaBbb
namespace Go.Proofs.Ytimeninncpmaeaa.Abs
open Go
set_option linter.unusedVariables false
set_option linter.unusedSimpArgs false

noncomputable section
/-! 16 jacquard/jacquardref31.Accepts -/
def F16 (x1 : Int) (x2 : Int) (x3 : Bool) (l4 : List (Int × Int × Int × Int)) (l5 : List (Int × Int × Int × Int)) (l6 : List (Int × Int)) (x7 : Int) (x8 : Int) (l9 : List Int) (x10 : Int) : Option (Bool) :=
  (bif decide (x8 < 1) then
   some (false)
  else
   (bif decide (x8 > 256) then
    some (false)
   else
    (bif (x7 == 1) then
     some (x8 == 1)
    else
     (bif (x7 == 2) then
      (Option.bind (F38 (IntKind.i64.wrap ((F26 x1 x2 x3 l4 l5 l6) + 1)) l4 (IntKind.i64.wrap (x8 - 1)) l9) fun y16 =>
      (bif decide (x8 ≥ 2) then
       some (y16.2)
      else
       some (false)))
     else
      (bif (x7 == 3) then
       (bif decide (x10 < 0) then
        some (false)
       else
        (bif decide (x10 ≥ (l5.length : Int)) then
         some (false)
        else
         (Option.bind (F39 x1 x2 x3 l4 l5 l6 x10) fun y22 =>
         (Option.bind (at? l5 x10) fun y24 =>
         some (decide (y22.1 > (IntKind.i64.wrap ((IntKind.i64.wrap (x8 - 1)) * y24.2.2.2))))))))
      else
       (bif (x7 == 4) then
        (bif decide (x10 < 0) then
         some (false)
        else
         (bif decide (x10 ≥ (l5.length : Int)) then
          some (false)
         else
          (Option.bind (F39 x1 x2 x3 l4 l5 l6 x10) fun y28 =>
          some (decide (y28.2 ≥ x8)))))
       else
        some (false)))))))
set_option maxRecDepth 100000 in
theorem F16_spec (x1 : Int) (x2 : Int) (x3 : Bool) (l4 : List (Int × Int × Int × Int)) (l5 : List (Int × Int × Int × Int)) (l6 : List (Int × Int)) (x7 : Int) (x8 : Int) (l9 : List Int) (x10 : Int) (v4 : Hd) (v5 : Hd) (v6 : Hd) (v9 : Hd) (h : AHeap) (hv4 : SlE E57 4 h (sv v4) l4) (hv5 : SlE E59 4 h (sv v5) l5) (hv6 : SlE E61 2 h (sv v6) l6) (hv9 : SlE E3 1 h (sv v9) l9) (r : Bool) : F16 x1 x2 x3 l4 l5 l6 x7 x8 l9 x10 = some r → ACalls Try.prog 16 [.agg #[.int .i64 x1, .int .i64 x2, .bool x3, (sv v4), (sv v5), (sv v6)], .agg #[.int .i64 x7, .int .i64 x8, (sv v9), .int .i64 x10]] h (fun v' h'' => v' = (.bool r : Value) ∧ h'' = h) := by
  unfold F16
  refine dec_bif (fun c11 => ?_) (fun c11 => ?_)
  · intro hr
    obtain rfl := Option.some.inj hr
    exact pFun_sound good tab_ok (f := 16) (its := [.g, .g, .g, .g, .g, .g, .g, .n, .n, .n, (.p true), (.b true), .g]) (args := [.agg #[.int .i64 x1, .int .i64 x2, .bool x3, (sv v4), (sv v5), (sv v6)], .agg #[.int .i64 x7, .int .i64 x8, (sv v9), .int .i64 x10]]) (h := h) (h' := h) (v := .bool false) (hC := (ai l_t (ai c11 (ai (g_tf c11) (ai (g_tf c11) (ai (g_tf c11) trivial)))))) (hr := by kernel_rfl)
  · have kc12 := (ai c11 (ai (g_ff c11) (ai (g_ff c11) (ai (g_ff c11) trivial))))
    refine dec_bif (fun c12 => ?_) (fun c12 => ?_)
    · intro hr
      obtain rfl := Option.some.inj hr
      exact pFun_sound good tab_ok (f := 16) (its := [.g, .g, .g, .g, .g, .g, .g, (.w .g), (.w .g), (.w .g), (.p false), (.b true), .g]) (args := [.agg #[.int .i64 x1, .int .i64 x2, .bool x3, (sv v4), (sv v5), (sv v6)], .agg #[.int .i64 x7, .int .i64 x8, (sv v9), .int .i64 x10]]) (h := h) (h' := h) (v := .bool false) (hC := (ai c12 kc12)) (hr := by kernel_rfl)
    · have kc13 := (ai c12 kc12)
      refine dec_bif (fun c13 => ?_) (fun c13 => ?_)
      · intro hr
        obtain rfl := Option.some.inj hr
        exact pFun_sound good tab_ok (f := 16) (its := [.g, .g, .g, .g, .g, .g, .g, (.w .g), (.w .g), (.w .g), (.p false), (.b false), .g, .g, .g, .g, (.b true), .g, .g, .g, .g]) (args := [.agg #[.int .i64 x1, .int .i64 x2, .bool x3, (sv v4), (sv v5), (sv v6)], .agg #[.int .i64 x7, .int .i64 x8, (sv v9), .int .i64 x10]]) (h := h) (h' := h) (v := .bool (x8 == 1)) (hC := (ai c13 kc13)) (hr := by kernel_rfl)
      · have kc14 := (ai c13 kc13)
        refine dec_bif (fun c14 => ?_) (fun c14 => ?_)
        · refine bind_opt fun y16 e16 => ?_
          have kc18 := (ai (show AKeep h h from (AHeap.sub_refl h)) (ai (F38_spec (IntKind.i64.wrap ((F26 x1 x2 x3 l4 l5 l6) + 1)) l4 (IntKind.i64.wrap (x8 - 1)) l9 v4 v9 h hv4 hv9 _ e16) (ai (show AKeep h h from (AHeap.sub_refl h)) (ai (F26_spec x1 x2 x3 l4 l5 l6 v4 v5 v6 h hv4 hv5 hv6 _ rfl) (ai c14 kc14)))))
          refine dec_bif (fun c18 => ?_) (fun c18 => ?_)
          · intro hr
            obtain rfl := Option.some.inj hr
            exact pFun_sound good tab_ok (f := 16) (its := [.g, .g, .g, .g, .g, .g, .g, (.w .g), (.w .g), (.w .g), (.p false), (.b false), .g, .g, .g, .g, (.b false), .g, .g, (.b true), .g, .g, .g, .g, .g, .g, .g, .g, (.c (.int .i64 (F26 x1 x2 x3 l4 l5 l6)) h), .g, (.c (.tuple #[.int .i64 y16.1, .bool y16.2]) h), .g, .g, .g, .g, .g, .g, .g, .g, .g, (.w .g), (.p true), .g]) (args := [.agg #[.int .i64 x1, .int .i64 x2, .bool x3, (sv v4), (sv v5), (sv v6)], .agg #[.int .i64 x7, .int .i64 x8, (sv v9), .int .i64 x10]]) (h := h) (h' := h) (v := .bool y16.2) (hC := (ai c18 (ai (g_tt c18) kc18))) (hr := by kernel_rfl)
          · intro hr
            obtain rfl := Option.some.inj hr
            exact pFun_sound good tab_ok (f := 16) (its := [.g, .g, .g, .g, .g, .g, .g, (.w .g), (.w .g), (.w .g), (.p false), (.b false), .g, .g, .g, .g, (.b false), .g, .g, (.b true), .g, .g, .g, .g, .g, .g, .g, .g, (.c (.int .i64 (F26 x1 x2 x3 l4 l5 l6)) h), .g, (.c (.tuple #[.int .i64 y16.1, .bool y16.2]) h), .g, .g, .g, .g, .g, .g, .g, .g, .g, .n, (.p false), .g]) (args := [.agg #[.int .i64 x1, .int .i64 x2, .bool x3, (sv v4), (sv v5), (sv v6)], .agg #[.int .i64 x7, .int .i64 x8, (sv v9), .int .i64 x10]]) (h := h) (h' := h) (v := .bool false) (hC := (ai c18 (ai (g_ft c18) kc18))) (hr := by kernel_rfl)
        · have kc19 := (ai c14 kc14)
          refine dec_bif (fun c19 => ?_) (fun c19 => ?_)
          · have kc20 := (ai c19 (ai c19 kc19))
            refine dec_bif (fun c20 => ?_) (fun c20 => ?_)
            · intro hr
              obtain rfl := Option.some.inj hr
              exact pFun_sound good tab_ok (f := 16) (its := [.g, .g, .g, .g, .g, .g, .g, (.w .g), (.w .g), (.w .g), (.p false), (.b false), .g, .g, .g, .g, (.b false), .g, .g, (.b false), .g, .g, (.b true), (.b true), .g, .g, .g, .g, .n, .n, .n, .n, .n, .n, (.p true), (.b true), .g]) (args := [.agg #[.int .i64 x1, .int .i64 x2, .bool x3, (sv v4), (sv v5), (sv v6)], .agg #[.int .i64 x7, .int .i64 x8, (sv v9), .int .i64 x10]]) (h := h) (h' := h) (v := .bool false) (hC := (ai l_t (ai c20 (ai (g_tf c20) (ai (g_tf c20) (ai (g_tf c20) (ai (g_tf c20) (ai (g_tf c20) (ai (g_tf c20) kc20))))))))) (hr := by kernel_rfl)
            · have kc21 := (ai c20 (ai (g_ff c20) (ai (SlE.len hv5) (ai (g_ff c20) (ai (g_ff c20) (ai (g_ff c20) (ai (g_ff c20) (ai (g_ff c20) kc20))))))))
              refine dec_bif (fun c21 => ?_) (fun c21 => ?_)
              · intro hr
                obtain rfl := Option.some.inj hr
                exact pFun_sound good tab_ok (f := 16) (its := [.g, .g, .g, .g, .g, .g, .g, (.w .g), (.w .g), (.w .g), (.p false), (.b false), .g, .g, .g, .g, (.b false), .g, .g, (.b false), .g, .g, (.b true), (.b true), .g, .g, .g, .g, (.w .g), (.w .g), (.w .g), (.w .g), (.w (.ln l5.length)), (.w .g), (.p false), (.b true), .g]) (args := [.agg #[.int .i64 x1, .int .i64 x2, .bool x3, (sv v4), (sv v5), (sv v6)], .agg #[.int .i64 x7, .int .i64 x8, (sv v9), .int .i64 x10]]) (h := h) (h' := h) (v := .bool false) (hC := (ai c21 kc21)) (hr := by kernel_rfl)
              · refine bind_opt fun y22 e22 => ?_
                refine bind_opt fun y24 e24 => ?_
                obtain ⟨id24, off24, g24, cs24, ix24, at24, rfl⟩ := SlE.at hv5 e24
                intro hr
                obtain rfl := Option.some.inj hr
                exact pFun_sound good tab_ok (f := 16) (its := [.g, .g, .g, .g, .g, .g, .g, (.w .g), (.w .g), (.w .g), (.p false), (.b false), .g, .g, .g, .g, (.b false), .g, .g, (.b false), .g, .g, (.b true), (.b true), .g, .g, .g, .g, (.w .g), (.w .g), (.w .g), (.w .g), (.w (.ln l5.length)), (.w .g), (.p false), (.b false), .g, .g, .g, (.c (.tuple #[.int .i64 y22.1, .int .i64 y22.2]) h), .g, .g, .g, .g, .g, .g, .g, .g, (.b true), .g, .g, .g, .g, .g, .g, .g, .g, (.ix id24 off24 g24), .g, (.ld (.int .i64 y24.2.2.2)), .g, .g, .g]) (args := [.agg #[.int .i64 x1, .int .i64 x2, .bool x3, (sv v4), (sv v5), (sv v6)], .agg #[.int .i64 x7, .int .i64 x8, (sv v9), .int .i64 x10]]) (h := h) (h' := h) (v := .bool (decide (y22.1 > (IntKind.i64.wrap ((IntKind.i64.wrap (x8 - 1)) * y24.2.2.2))))) (hC := (ai (At.one (P := Try.prog) (t := 3) (v := .int .i64 y24.2.2.2) at24 (by kernel_rfl) 3 rfl rfl) (ai ix24 (ai c19 (ai (F39_spec x1 x2 x3 l4 l5 l6 x10 v4 v5 v6 h hv4 hv5 hv6 _ e22) (ai c21 kc21)))))) (hr := by kernel_rfl)
          · have kc25 := (ai c19 kc19)
            refine dec_bif (fun c25 => ?_) (fun c25 => ?_)
            · have kc26 := (ai c25 kc25)
              refine dec_bif (fun c26 => ?_) (fun c26 => ?_)
              · intro hr
                obtain rfl := Option.some.inj hr
                exact pFun_sound good tab_ok (f := 16) (its := [.g, .g, .g, .g, .g, .g, .g, (.w .g), (.w .g), (.w .g), (.p false), (.b false), .g, .g, .g, .g, (.b false), .g, .g, (.b false), .g, .g, (.b false), .g, .g, (.b true), .g, .g, .g, .g, .n, .n, .n, .n, .n, .n, (.p true), (.b true), .g]) (args := [.agg #[.int .i64 x1, .int .i64 x2, .bool x3, (sv v4), (sv v5), (sv v6)], .agg #[.int .i64 x7, .int .i64 x8, (sv v9), .int .i64 x10]]) (h := h) (h' := h) (v := .bool false) (hC := (ai l_t (ai c26 (ai (g_tf c26) (ai (g_tf c26) (ai (g_tf c26) (ai (g_tf c26) (ai (g_tf c26) (ai (g_tf c26) kc26))))))))) (hr := by kernel_rfl)
              · have kc27 := (ai c26 (ai (g_ff c26) (ai (SlE.len hv5) (ai (g_ff c26) (ai (g_ff c26) (ai (g_ff c26) (ai (g_ff c26) (ai (g_ff c26) kc26))))))))
                refine dec_bif (fun c27 => ?_) (fun c27 => ?_)
                · intro hr
                  obtain rfl := Option.some.inj hr
                  exact pFun_sound good tab_ok (f := 16) (its := [.g, .g, .g, .g, .g, .g, .g, (.w .g), (.w .g), (.w .g), (.p false), (.b false), .g, .g, .g, .g, (.b false), .g, .g, (.b false), .g, .g, (.b false), .g, .g, (.b true), .g, .g, .g, .g, (.w .g), (.w .g), (.w .g), (.w .g), (.w (.ln l5.length)), (.w .g), (.p false), (.b true), .g]) (args := [.agg #[.int .i64 x1, .int .i64 x2, .bool x3, (sv v4), (sv v5), (sv v6)], .agg #[.int .i64 x7, .int .i64 x8, (sv v9), .int .i64 x10]]) (h := h) (h' := h) (v := .bool false) (hC := (ai c27 kc27)) (hr := by kernel_rfl)
                · refine bind_opt fun y28 e28 => ?_
                  intro hr
                  obtain rfl := Option.some.inj hr
                  exact pFun_sound good tab_ok (f := 16) (its := [.g, .g, .g, .g, .g, .g, .g, (.w .g), (.w .g), (.w .g), (.p false), (.b false), .g, .g, .g, .g, (.b false), .g, .g, (.b false), .g, .g, (.b false), .g, .g, (.b true), .g, .g, .g, .g, (.w .g), (.w .g), (.w .g), (.w .g), (.w (.ln l5.length)), (.w .g), (.p false), (.b false), .g, .g, .g, (.c (.tuple #[.int .i64 y28.1, .int .i64 y28.2]) h), .g, .g, .g, .g, .g, .g, .g, .g, (.b false), .g, .g, .g, .g, .g]) (args := [.agg #[.int .i64 x1, .int .i64 x2, .bool x3, (sv v4), (sv v5), (sv v6)], .agg #[.int .i64 x7, .int .i64 x8, (sv v9), .int .i64 x10]]) (h := h) (h' := h) (v := .bool (decide (y28.2 ≥ x8))) (hC := (ai c19 (ai (F39_spec x1 x2 x3 l4 l5 l6 x10 v4 v5 v6 h hv4 hv5 hv6 _ e28) (ai c27 kc27)))) (hr := by kernel_rfl)
            · intro hr
              obtain rfl := Option.some.inj hr
              exact pFun_sound good tab_ok (f := 16) (its := [.g, .g, .g, .g, .g, .g, .g, (.w .g), (.w .g), (.w .g), (.p false), (.b false), .g, .g, .g, .g, (.b false), .g, .g, (.b false), .g, .g, (.b false), .g, .g, (.b false), .g]) (args := [.agg #[.int .i64 x1, .int .i64 x2, .bool x3, (sv v4), (sv v5), (sv v6)], .agg #[.int .i64 x7, .int .i64 x8, (sv v9), .int .i64 x10]]) (h := h) (h' := h) (v := .bool false) (hC := (ai c25 kc25)) (hr := by kernel_rfl)
/-! 41 jacquard/diffcons.Positive -/
def F41_L : List Nat := []
def F41_D : List (Nat × List (Nat × Nat)) := [(9, [(0, 2), (1, 2), (2, 2), (3, 2), (4, 2), (5, 2), (6, 2), (7, 2), (8, 2), (9, 2), (10, 2), (11, 2), (12, 2), (13, 2), (14, 2), (15, 2), (16, 2), (17, 2), (18, 2), (19, 2), (20, 2), (21, 2), (22, 2), (23, 2), (24, 1), (25, 2), (26, 2), (27, 2), (28, 2), (29, 2), (30, 2), (31, 2), (32, 2), (33, 2), (34, 2), (35, 2), (36, 2), (37, 2), (38, 2), (39, 2), (40, 2), (41, 2), (42, 2), (43, 2), (44, 2), (45, 2), (46, 2), (47, 0), (48, 2)])]
def F41_m1_2 : List Bool := (rp 8 true (false :: (rp 93 true [])))
def F41_m1_1 : List Bool := (false :: false :: false :: false :: (rp 4 true (false :: true :: false :: (rp 9 true (false :: false :: false :: (rp 79 true []))))))
def F41_m1_0 : List Bool := (rp 8 true (false :: false :: (rp 92 true [])))
def F41_s1 (x1 : Int) (l2 : List (Int × Int × Int × Int)) (x3 : Int) (l4 : List Int) (a9 : Int) (a10 : Int) (l11 : List (Int × Bool)) : Option ((Int × Int × (List (Int × Bool))) ⊕ (Nat × Int)) :=
  (bif decide (a10 < (l4.length : Int)) then
   (Option.bind (at? l4 a10) fun y14 =>
   (Option.bind (at? l4 ((IntKind.i64.wrap (a10 + 1)).tmod (l4.length : Int))) fun y15 =>
   (bif decide (y14 < 0) then
    some (.inr (0, 0))
   else
    (bif decide (y14 ≥ (l2.length : Int)) then
     some (.inr (0, 0))
    else
     (bif decide (y15 < 0) then
      some (.inr (0, 0))
     else
      (bif decide (y15 ≥ (l2.length : Int)) then
       some (.inr (0, 0))
      else
       (Option.bind (at? l2 y14) fun y20 =>
       (bif (!(F58 (F57 x1) y20.1 y20.2.1 y20.2.2.1 y20.2.2.2)) then
        some (.inr (0, 0))
       else
        (Option.bind (at? l2 y15) fun y23 =>
        (bif (y20.2.1 != y23.1) then
         some (.inr (0, 0))
        else
         (bif ((mget y20.1 l11).getD false) then
          some (.inr (0, 0))
         else
          some (.inl ((IntKind.i64.wrap (a9 + (F59 y20.1 y20.2.1 y20.2.2.1 y20.2.2.2 x3))), (IntKind.i64.wrap (a10 + 1)), (mput y20.1 true l11))))))))))))))
  else
   some (.inr (1, a9)))
def F41_h1 (x1 : Int) (v2 : Hd) (x3 : Int) (l4 : List Int) (v4 : Hd) (id7 : Nat) (h12 : AHeap) (a9 : Int) (a10 : Int) (l11 : List (Int × Bool)) : AS := ⟨((.int .i64 (F57 x1)) :: (sv v2) :: (.int .i64 x3) :: (sv v4) :: (rp 4 junk ((.int .i64 a9) :: junk :: (.map (some id7)) :: (rp 9 junk ((sv v4) :: (.int .i64 (l4.length : Int)) :: (.int .i64 a10) :: (rp 79 junk [])))))), [], h12⟩
theorem F41_d1 : drawsOk F41_D (codeOf Try.prog 41 [1, 1, 1, 1, 0, 1, 0, 0]) = true := by kernel_rfl
def F41_x1_0 (h : AHeap) (hx : AHeap) (r : Nat × Int) : AS := ⟨(rp 8 junk ((.int .i64 0) :: (.bool false) :: (rp 92 junk []))), [], hx⟩
def F41_x1_1 (h : AHeap) (hx : AHeap) (r : Nat × Int) : AS := ⟨(rp 8 junk ((.int .i64 r.2) :: (rp 93 junk []))), [], hx⟩
def F41_i1 (h : AHeap) (x1 : Int) (v2 : Hd) (x3 : Int) (l4 : List Int) (v4 : Hd) (id7 : Nat) (s : Int × Int × (List (Int × Bool))) (S : AS) : Prop := ∃ (h12 : AHeap), Heapy h h12 [⟨⟨some ⟨id7, 0, some 1⟩, 0, 0⟩, 0, 0, List.flatMap (fun (p : Int × Bool) => [.int .i64 p.1, .bool p.2]) s.2.2⟩] ∧ S = (F41_h1 x1 v2 x3 l4 v4 id7 h12 s.1 s.2.1 s.2.2)
def F41_x1 (h : AHeap) (r : Nat × Int) (e : Exit) (S : AS) : Prop := (bif Nat.beq r.1 0 then (e = .ret ∧ ∃ (hx : AHeap), Heapy h hx [] ∧ S = (F41_x1_0 h hx r)) else (e = (.exit 0) ∧ ∃ (hx : AHeap), Heapy h hx [] ∧ S = (F41_x1_1 h hx r)))
set_option maxRecDepth 100000 in
theorem F41_r1 (h : AHeap) (x1 : Int) (l2 : List (Int × Int × Int × Int)) (v2 : Hd) (hv2 : SlE E57 4 h (sv v2) l2) (x3 : Int) (l4 : List Int) (v4 : Hd) (hv4 : SlE E3 1 h (sv v4) l4) (c6 : ((l4.length : Int) == 0) = false) (id7 : Nat) (a9 : Int) (a10 : Int) (l11 : List (Int × Bool)) (S : AS) (hI : (F41_i1 h x1 v2 x3 l4 v4 id7) (a9, a10, l11) S) (o : (Int × Int × (List (Int × Bool))) ⊕ (Nat × Int)) : F41_s1 x1 l2 x3 l4 a9 a10 l11 = some o → Rd Try.prog (codeOf Try.prog 41 [1, 1, 1, 1, 0, 1, 0, 0]) (F41_i1 h x1 v2 x3 l4 v4 id7) (F41_x1 h) S o := by
  obtain ⟨h12, hp12, rfl⟩ := hI
  unfold F41_s1
  refine dec_bif (fun c13 => ?_) (fun c13 => ?_)
  · refine bind_opt fun y14 e14 => ?_
    obtain ⟨id14, off14, g14, cs14, ix14, at14, rfl⟩ := SlE.at hv4 e14
    refine bind_opt fun y15 e15 => ?_
    obtain ⟨id15, off15, g15, cs15, ix15, at15, rfl⟩ := SlE.at hv4 e15
    have kc16 := (ai (At.one (P := Try.prog) (t := 3) (v := .int .i64 y15) (At.mono (Heapy.sub hp12) at15) (by kernel_rfl) 0 rfl rfl) (ai ix15 (ai (nz c6) (ai (SlE.len hv4) (ai (At.one (P := Try.prog) (t := 3) (v := .int .i64 y14) (At.mono (Heapy.sub hp12) at14) (by kernel_rfl) 0 rfl rfl) (ai ix14 (ai c13 trivial)))))))
    refine dec_bif (fun c16 => ?_) (fun c16 => ?_)
    · intro hr
      obtain rfl := Option.some.inj hr
      refine ⟨.ret, (F41_x1_0 h h12 ((0, 0) : Nat × Int)), (by intro hh; cases hh), ?_, pEnd_sound good (L := F41_L) (D := F41_D) (its := [.g, (.b true), .g, (.ix id14 off14 g14), (.ld (.int .i64 y14)), .g, .g, .g, .g, .g, .g, (.ln l4.length), .d, (.ix id15 off15 g15), (.ld (.int .i64 y15)), .g, .g, .g, .g, .n, .n, .n, .n, (.p true), .g, .n, .n, .g, .g, .n, .n, .n, .n, .g, .g, .n, .n, .n, .n, .n, .n, .n, .g, .g, .n, .n, .n, .n, .n, .n, .n, .n, .n, .n, .n, .g, .g, .n, .n, .n, .n, .n, .n, .n, .g, (.b true), .g, .g]) (ds := F41_m1_0) (ks := []) (e := .ret) (s2 := (F41_x1_0 h h12 ((0, 0) : Nat × Int))) (hC := (ai l_t (ai (g_tf l_t) (ai (g_tf l_t) (ai (g_tf l_t) (ai (g_tf l_t) (ai (g_tf l_t) (ai (g_tf l_t) (ai (g_tf l_t) (ai (g_tf l_t) (ai (g_tf l_t) (ai (g_tf l_t) (ai (g_tf l_t) (ai (g_tf l_t) (ai (g_tf l_t) (ai (g_tf l_t) (ai (g_tf l_t) (ai (g_tf l_t) (ai (g_tf l_t) (ai (g_tf l_t) (ai (g_tf l_t) (ai (g_tf l_t) (ai (g_tf l_t) (ai (g_tf l_t) (ai (g_tf l_t) (ai (g_tf l_t) (ai (g_tf l_t) (ai (g_tf l_t) (ai (g_tf l_t) (ai (g_tf l_t) (ai (g_tf l_t) (ai (g_tf l_t) (ai (g_tf l_t) (ai c16 (ai (g_tf c16) (ai (g_tf c16) (ai (g_tf c16) (ai (g_tf c16) kc16)))))))))))))))))))))))))))))))))))))) (hd := F41_d1) (h := by kernel_rfl)⟩
      exact ⟨rfl, h12, (Heapy.pick hp12 [] (by decide)), rfl⟩
    · have kc17 := (ai c16 (ai (g_ff c16) (ai (SlE.len hv2) (ai (g_ff c16) (ai (g_ff c16) (ai (g_ff c16) kc16))))))
      refine dec_bif (fun c17 => ?_) (fun c17 => ?_)
      · intro hr
        obtain rfl := Option.some.inj hr
        refine ⟨.ret, (F41_x1_0 h h12 ((0, 0) : Nat × Int)), (by intro hh; cases hh), ?_, pEnd_sound good (L := F41_L) (D := F41_D) (its := [.g, (.b true), .g, (.ix id14 off14 g14), (.ld (.int .i64 y14)), .g, .g, .g, .g, .g, .g, (.ln l4.length), .d, (.ix id15 off15 g15), (.ld (.int .i64 y15)), .g, .g, .g, .g, (.w .g), (.w .g), (.w (.ln l2.length)), (.w .g), (.p false), .g, .n, .n, (.p true), .g, .n, .n, .n, .n, .g, .g, .n, .n, .n, .n, .n, .n, .n, .g, .g, .n, .n, .n, .n, .n, .n, .n, .n, .n, .n, .n, .g, .g, .n, .n, .n, .n, .n, .n, .n, .g, (.b true), .g, .g]) (ds := F41_m1_0) (ks := []) (e := .ret) (s2 := (F41_x1_0 h h12 ((0, 0) : Nat × Int))) (hC := (ai l_t (ai (g_tf l_t) (ai (g_tf l_t) (ai (g_tf l_t) (ai (g_tf l_t) (ai (g_tf l_t) (ai (g_tf l_t) (ai (g_tf l_t) (ai (g_tf l_t) (ai (g_tf l_t) (ai (g_tf l_t) (ai (g_tf l_t) (ai (g_tf l_t) (ai (g_tf l_t) (ai (g_tf l_t) (ai (g_tf l_t) (ai (g_tf l_t) (ai (g_tf l_t) (ai (g_tf l_t) (ai (g_tf l_t) (ai (g_tf l_t) (ai (g_tf l_t) (ai (g_tf l_t) (ai (g_tf l_t) (ai (g_tf l_t) (ai (g_tf l_t) (ai (g_tf l_t) (ai (g_tf l_t) (ai (g_tf l_t) (ai (g_tf l_t) (ai c17 (ai (g_tf c17) (ai (g_tf c17) kc17)))))))))))))))))))))))))))))))))) (hd := F41_d1) (h := by kernel_rfl)⟩
        exact ⟨rfl, h12, (Heapy.pick hp12 [] (by decide)), rfl⟩
      · have kc18 := (ai c17 (ai (g_ff c17) (ai (g_ff c17) kc17)))
        refine dec_bif (fun c18 => ?_) (fun c18 => ?_)
        · intro hr
          obtain rfl := Option.some.inj hr
          refine ⟨.ret, (F41_x1_0 h h12 ((0, 0) : Nat × Int)), (by intro hh; cases hh), ?_, pEnd_sound good (L := F41_L) (D := F41_D) (its := [.g, (.b true), .g, (.ix id14 off14 g14), (.ld (.int .i64 y14)), .g, .g, .g, .g, .g, .g, (.ln l4.length), .d, (.ix id15 off15 g15), (.ld (.int .i64 y15)), .g, .g, .g, .g, (.w .g), (.w .g), (.w (.ln l2.length)), (.w .g), (.p false), .g, (.w .g), (.w .g), (.p false), .g, .n, .n, .n, .n, (.p true), .g, .n, .n, .n, .n, .n, .n, .n, .g, .g, .n, .n, .n, .n, .n, .n, .n, .n, .n, .n, .n, .g, .g, .n, .n, .n, .n, .n, .n, .n, .g, (.b true), .g, .g]) (ds := F41_m1_0) (ks := []) (e := .ret) (s2 := (F41_x1_0 h h12 ((0, 0) : Nat × Int))) (hC := (ai l_t (ai (g_tf l_t) (ai (g_tf l_t) (ai (g_tf l_t) (ai (g_tf l_t) (ai (g_tf l_t) (ai (g_tf l_t) (ai (g_tf l_t) (ai (g_tf l_t) (ai (g_tf l_t) (ai (g_tf l_t) (ai (g_tf l_t) (ai (g_tf l_t) (ai (g_tf l_t) (ai (g_tf l_t) (ai (g_tf l_t) (ai (g_tf l_t) (ai (g_tf l_t) (ai (g_tf l_t) (ai (g_tf l_t) (ai (g_tf l_t) (ai (g_tf l_t) (ai (g_tf l_t) (ai (g_tf l_t) (ai (g_tf l_t) (ai (g_tf l_t) (ai c18 (ai (g_tf c18) (ai (g_tf c18) (ai (g_tf c18) (ai (g_tf c18) kc18)))))))))))))))))))))))))))))))) (hd := F41_d1) (h := by kernel_rfl)⟩
          exact ⟨rfl, h12, (Heapy.pick hp12 [] (by decide)), rfl⟩
        · have kc19 := (ai c18 (ai (g_ff c18) (ai (SlE.len hv2) (ai (g_ff c18) (ai (g_ff c18) (ai (g_ff c18) kc18))))))
          refine dec_bif (fun c19 => ?_) (fun c19 => ?_)
          · intro hr
            obtain rfl := Option.some.inj hr
            refine ⟨.ret, (F41_x1_0 h h12 ((0, 0) : Nat × Int)), (by intro hh; cases hh), ?_, pEnd_sound good (L := F41_L) (D := F41_D) (its := [.g, (.b true), .g, (.ix id14 off14 g14), (.ld (.int .i64 y14)), .g, .g, .g, .g, .g, .g, (.ln l4.length), .d, (.ix id15 off15 g15), (.ld (.int .i64 y15)), .g, .g, .g, .g, (.w .g), (.w .g), (.w (.ln l2.length)), (.w .g), (.p false), .g, (.w .g), (.w .g), (.p false), .g, (.w .g), (.w .g), (.w (.ln l2.length)), (.w .g), (.p false), .g, .n, .n, .n, .n, .n, .n, .n, (.p true), .g, .n, .n, .n, .n, .n, .n, .n, .n, .n, .n, .n, .g, .g, .n, .n, .n, .n, .n, .n, .n, .g, (.b true), .g, .g]) (ds := F41_m1_0) (ks := []) (e := .ret) (s2 := (F41_x1_0 h h12 ((0, 0) : Nat × Int))) (hC := (ai l_t (ai (g_tf l_t) (ai (g_tf l_t) (ai (g_tf l_t) (ai (g_tf l_t) (ai (g_tf l_t) (ai (g_tf l_t) (ai (g_tf l_t) (ai (g_tf l_t) (ai (g_tf l_t) (ai (g_tf l_t) (ai (g_tf l_t) (ai (g_tf l_t) (ai (g_tf l_t) (ai (g_tf l_t) (ai (g_tf l_t) (ai (g_tf l_t) (ai (g_tf l_t) (ai (g_tf l_t) (ai c19 (ai (g_tf c19) (ai (g_tf c19) (ai (g_tf c19) (ai (g_tf c19) (ai (g_tf c19) (ai (g_tf c19) (ai (g_tf c19) kc19)))))))))))))))))))))))))))) (hd := F41_d1) (h := by kernel_rfl)⟩
            exact ⟨rfl, h12, (Heapy.pick hp12 [] (by decide)), rfl⟩
          · refine bind_opt fun y20 e20 => ?_
            obtain ⟨id20, off20, g20, cs20, ix20, at20, rfl⟩ := SlE.at hv2 e20
            have kc22 := (ai c19 (ai (g_ff c19) (ai (show AKeep h12 h12 from (AHeap.sub_refl h12)) (ai (F58_spec (F57 x1) y20.1 y20.2.1 y20.2.2.1 y20.2.2.2 h12 _ rfl) (ai (g_ff c19) (ai (At.agg (P := Try.prog) (t := 57) (v := .agg #[.int .i64 y20.1, .int .i64 y20.2.1, .int .i64 y20.2.2.1, .int .i64 y20.2.2.2]) (m := 4) (At.mono (Heapy.sub hp12) at20) (by kernel_rfl) (by kernel_rfl) 0 (by kernel_rfl) rfl) (ai (g_ff c19) (ai ix20 (ai (g_ff c19) (ai (g_ff c19) (ai (g_ff c19) (ai (g_ff c19) kc19))))))))))))
            refine dec_bif (fun c22 => ?_) (fun c22 => ?_)
            · intro hr
              obtain rfl := Option.some.inj hr
              refine ⟨.ret, (F41_x1_0 h h12 ((0, 0) : Nat × Int)), (by intro hh; cases hh), ?_, pEnd_sound good (L := F41_L) (D := F41_D) (its := [.g, (.b true), .g, (.ix id14 off14 g14), (.ld (.int .i64 y14)), .g, .g, .g, .g, .g, .g, (.ln l4.length), .d, (.ix id15 off15 g15), (.ld (.int .i64 y15)), .g, .g, .g, .g, (.w .g), (.w .g), (.w (.ln l2.length)), (.w .g), (.p false), .g, (.w .g), (.w .g), (.p false), .g, (.w .g), (.w .g), (.w (.ln l2.length)), (.w .g), (.p false), .g, (.w .g), (.w .g), (.w .g), (.w (.ix id20 off20 g20)), (.w (.ld (.agg #[.int .i64 y20.1, .int .i64 y20.2.1, .int .i64 y20.2.2.1, .int .i64 y20.2.2.2]))), (.w (.c (.bool (F58 (F57 x1) y20.1 y20.2.1 y20.2.2.1 y20.2.2.2)) h12)), (.w .g), (.p false), .g, .n, .n, .n, .n, .n, .n, .n, .n, .n, .n, .n, (.p true), .g, .n, .n, .n, .n, .n, .n, .n, .g, (.b true), .g, .g]) (ds := F41_m1_0) (ks := []) (e := .ret) (s2 := (F41_x1_0 h h12 ((0, 0) : Nat × Int))) (hC := (ai l_t (ai (g_tf l_t) (ai (g_tf l_t) (ai (g_tf l_t) (ai (g_tf l_t) (ai (g_tf l_t) (ai (g_tf l_t) (ai (g_tf l_t) (ai c22 (ai (g_tf c22) (ai (g_tf c22) (ai (g_tf c22) (ai (g_tf c22) (ai (g_tf c22) (ai (g_tf c22) (ai (g_tf c22) (ai (g_tf c22) (ai (g_tf c22) (ai (g_tf c22) (ai (g_tf c22) kc22))))))))))))))))))))) (hd := F41_d1) (h := by kernel_rfl)⟩
              exact ⟨rfl, h12, (Heapy.pick hp12 [] (by decide)), rfl⟩
            · refine bind_opt fun y23 e23 => ?_
              obtain ⟨id23, off23, g23, cs23, ix23, at23, rfl⟩ := SlE.at hv2 e23
              have kc24 := (ai c22 (ai (g_ff c22) (ai (At.one (P := Try.prog) (t := 3) (v := .int .i64 y23.1) (At.mono (Heapy.sub hp12) at23) (by kernel_rfl) 0 rfl rfl) (ai (g_ff c22) (ai (g_ff c22) (ai ix23 (ai (g_ff c22) (ai (g_ff c22) (ai (g_ff c22) (ai (At.one (P := Try.prog) (t := 3) (v := .int .i64 y20.2.1) (At.mono (Heapy.sub hp12) at20) (by kernel_rfl) 1 rfl rfl) (ai (g_ff c22) (ai (g_ff c22) (ai ix20 (ai (g_ff c22) (ai (g_ff c22) (ai (g_ff c22) kc22))))))))))))))))
              refine dec_bif (fun c24 => ?_) (fun c24 => ?_)
              · intro hr
                obtain rfl := Option.some.inj hr
                refine ⟨.ret, (F41_x1_0 h h12 ((0, 0) : Nat × Int)), (by intro hh; cases hh), ?_, pEnd_sound good (L := F41_L) (D := F41_D) (its := [.g, (.b true), .g, (.ix id14 off14 g14), (.ld (.int .i64 y14)), .g, .g, .g, .g, .g, .g, (.ln l4.length), .d, (.ix id15 off15 g15), (.ld (.int .i64 y15)), .g, .g, .g, .g, (.w .g), (.w .g), (.w (.ln l2.length)), (.w .g), (.p false), .g, (.w .g), (.w .g), (.p false), .g, (.w .g), (.w .g), (.w (.ln l2.length)), (.w .g), (.p false), .g, (.w .g), (.w .g), (.w .g), (.w (.ix id20 off20 g20)), (.w (.ld (.agg #[.int .i64 y20.1, .int .i64 y20.2.1, .int .i64 y20.2.2.1, .int .i64 y20.2.2.2]))), (.w (.c (.bool (F58 (F57 x1) y20.1 y20.2.1 y20.2.2.1 y20.2.2.2)) h12)), (.w .g), (.p false), .g, (.w .g), (.w .g), (.w (.ix id20 off20 g20)), (.w .g), (.w (.ld (.int .i64 y20.2.1))), (.w .g), (.w .g), (.w (.ix id23 off23 g23)), (.w .g), (.w (.ld (.int .i64 y23.1))), (.w .g), (.p false), .g, .n, .n, .n, .n, .n, .n, .n, (.p true), (.b true), .g, .g]) (ds := F41_m1_0) (ks := []) (e := .ret) (s2 := (F41_x1_0 h h12 ((0, 0) : Nat × Int))) (hC := (ai l_t (ai c24 (ai (g_tf c24) (ai (g_tf c24) (ai (g_tf c24) (ai (g_tf c24) (ai (g_tf c24) (ai (g_tf c24) (ai (g_tf c24) kc24)))))))))) (hd := F41_d1) (h := by kernel_rfl)⟩
                exact ⟨rfl, h12, (Heapy.pick hp12 [] (by decide)), rfl⟩
              · have kc25 := (ai c24 (ai (Heapy.mlook (P := Try.prog) (id := id7) (q := .i64) (f := (fun b => .bool b)) (xs := l11) hp12 0 rfl (t := 84) (kt := 3) (et := 4) (by kernel_rfl) (by kernel_rfl) (z := false) (by kernel_rfl) y20.1 false) (ai (g_ff c24) (ai (At.one (P := Try.prog) (t := 3) (v := .int .i64 y20.1) (At.mono (Heapy.sub hp12) at20) (by kernel_rfl) 0 rfl rfl) (ai (g_ff c24) (ai (g_ff c24) (ai ix20 (ai (g_ff c24) (ai (g_ff c24) (ai (g_ff c24) (ai (g_ff c24) kc24)))))))))))
                refine dec_bif (fun c25 => ?_) (fun c25 => ?_)
                · intro hr
                  obtain rfl := Option.some.inj hr
                  refine ⟨.ret, (F41_x1_0 h h12 ((0, 0) : Nat × Int)), (by intro hh; cases hh), ?_, pEnd_sound good (L := F41_L) (D := F41_D) (its := [.g, (.b true), .g, (.ix id14 off14 g14), (.ld (.int .i64 y14)), .g, .g, .g, .g, .g, .g, (.ln l4.length), .d, (.ix id15 off15 g15), (.ld (.int .i64 y15)), .g, .g, .g, .g, (.w .g), (.w .g), (.w (.ln l2.length)), (.w .g), (.p false), .g, (.w .g), (.w .g), (.p false), .g, (.w .g), (.w .g), (.w (.ln l2.length)), (.w .g), (.p false), .g, (.w .g), (.w .g), (.w .g), (.w (.ix id20 off20 g20)), (.w (.ld (.agg #[.int .i64 y20.1, .int .i64 y20.2.1, .int .i64 y20.2.2.1, .int .i64 y20.2.2.2]))), (.w (.c (.bool (F58 (F57 x1) y20.1 y20.2.1 y20.2.2.1 y20.2.2.2)) h12)), (.w .g), (.p false), .g, (.w .g), (.w .g), (.w (.ix id20 off20 g20)), (.w .g), (.w (.ld (.int .i64 y20.2.1))), (.w .g), (.w .g), (.w (.ix id23 off23 g23)), (.w .g), (.w (.ld (.int .i64 y23.1))), (.w .g), (.p false), .g, (.w .g), (.w .g), (.w .g), (.w (.ix id20 off20 g20)), (.w .g), (.w (.ld (.int .i64 y20.1))), (.w (.mm (.bool ((mget y20.1 l11).getD false)) h12)), (.p false), (.b true), .g, .g]) (ds := F41_m1_0) (ks := []) (e := .ret) (s2 := (F41_x1_0 h h12 ((0, 0) : Nat × Int))) (hC := (ai c25 kc25)) (hd := F41_d1) (h := by kernel_rfl)⟩
                  exact ⟨rfl, h12, (Heapy.pick hp12 [] (by decide)), rfl⟩
                · obtain ⟨h26, m26, hp26⟩ := Heapy.mset (P := Try.prog) (id := id7) (q := .i64) (f := (fun b => .bool b)) (xs := l11) hp12 0 rfl (t := 84) (kt := 3) (et := 4) (by kernel_rfl) (by kernel_rfl) y20.1 true rfl rfl
                  intro hr
                  obtain rfl := Option.some.inj hr
                  exact ⟨(F41_h1 x1 v2 x3 l4 v4 id7 h26 (IntKind.i64.wrap (a9 + (F59 y20.1 y20.2.1 y20.2.2.1 y20.2.2.2 x3))) (IntKind.i64.wrap (a10 + 1)) (mput y20.1 true l11)), ⟨h26, (Heapy.pick hp26 [0] (by decide)), rfl⟩, pEnd_sound good (L := F41_L) (D := F41_D) (its := [.g, (.b true), .g, (.ix id14 off14 g14), (.ld (.int .i64 y14)), .g, .g, .g, .g, .g, .g, (.ln l4.length), .d, (.ix id15 off15 g15), (.ld (.int .i64 y15)), .g, .g, .g, .g, (.w .g), (.w .g), (.w (.ln l2.length)), (.w .g), (.p false), .g, (.w .g), (.w .g), (.p false), .g, (.w .g), (.w .g), (.w (.ln l2.length)), (.w .g), (.p false), .g, (.w .g), (.w .g), (.w .g), (.w (.ix id20 off20 g20)), (.w (.ld (.agg #[.int .i64 y20.1, .int .i64 y20.2.1, .int .i64 y20.2.2.1, .int .i64 y20.2.2.2]))), (.w (.c (.bool (F58 (F57 x1) y20.1 y20.2.1 y20.2.2.1 y20.2.2.2)) h12)), (.w .g), (.p false), .g, (.w .g), (.w .g), (.w (.ix id20 off20 g20)), (.w .g), (.w (.ld (.int .i64 y20.2.1))), (.w .g), (.w .g), (.w (.ix id23 off23 g23)), (.w .g), (.w (.ld (.int .i64 y23.1))), (.w .g), (.p false), .g, (.w .g), (.w .g), (.w .g), (.w (.ix id20 off20 g20)), (.w .g), (.w (.ld (.int .i64 y20.1))), (.w (.mm (.bool ((mget y20.1 l11).getD false)) h12)), (.p false), (.b false), .g, .g, .g, (.ix id20 off20 g20), .g, (.ld (.int .i64 y20.1)), (.mm undef h26), .g, .g, .g, (.ix id20 off20 g20), (.ld (.agg #[.int .i64 y20.1, .int .i64 y20.2.1, .int .i64 y20.2.2.1, .int .i64 y20.2.2.2])), .g, (.c (.int .i64 (F59 y20.1 y20.2.1 y20.2.2.1 y20.2.2.2 x3)) h26), .g, .g, .g, .g]) (ds := F41_m1_1) (ks := []) (e := .normal) (s2 := (F41_h1 x1 v2 x3 l4 v4 id7 h26 (IntKind.i64.wrap (a9 + (F59 y20.1 y20.2.1 y20.2.2.1 y20.2.2.2 x3))) (IntKind.i64.wrap (a10 + 1)) (mput y20.1 true l11))) (hC := (ai (F59_spec y20.1 y20.2.1 y20.2.2.1 y20.2.2.2 x3 h26 _ rfl) (ai (At.agg (P := Try.prog) (t := 57) (v := .agg #[.int .i64 y20.1, .int .i64 y20.2.1, .int .i64 y20.2.2.1, .int .i64 y20.2.2.2]) (m := 4) (At.mono (Heapy.sub hp26) at20) (by kernel_rfl) (by kernel_rfl) 0 (by kernel_rfl) rfl) (ai ix20 (ai m26 (ai (At.one (P := Try.prog) (t := 3) (v := .int .i64 y20.1) (At.mono (Heapy.sub hp12) at20) (by kernel_rfl) 0 rfl rfl) (ai ix20 (ai c25 kc25)))))))) (hd := F41_d1) (h := by kernel_rfl)⟩
  · intro hr
    obtain rfl := Option.some.inj hr
    refine ⟨(.exit 0), (F41_x1_1 h h12 ((1, a9) : Nat × Int)), (by intro hh; cases hh), ?_, pEnd_sound good (L := F41_L) (D := F41_D) (its := [.g, (.b false)]) (ds := F41_m1_2) (ks := []) (e := (.exit 0)) (s2 := (F41_x1_1 h h12 ((1, a9) : Nat × Int))) (hC := (ai c13 trivial)) (hd := F41_d1) (h := by kernel_rfl)⟩
    exact ⟨rfl, h12, (Heapy.pick hp12 [] (by decide)), rfl⟩
theorem F41_l1 (h : AHeap) (x1 : Int) (l2 : List (Int × Int × Int × Int)) (v2 : Hd) (hv2 : SlE E57 4 h (sv v2) l2) (x3 : Int) (l4 : List Int) (v4 : Hd) (hv4 : SlE E3 1 h (sv v4) l4) (c6 : ((l4.length : Int) == 0) = false) (id7 : Nat) (x : Int × Int × (List (Int × Bool))) (r : Nat × Int) (hl : loopO (fun (s : Int × Int × (List (Int × Bool))) => F41_s1 x1 l2 x3 l4 s.1 s.2.1 s.2.2) x = some r) (S : AS) (hI : (F41_i1 h x1 v2 x3 l4 v4 id7) x S) : ∃ e S', (F41_x1 h) r e S' ∧ AWp Try.prog (.loop (codeOf Try.prog 41 [1, 1, 1, 1, 0, 1, 0, 0])) (Ends1 e S') S :=
  loop_rel (fun x S hI => F41_r1 h x1 l2 v2 hv2 x3 l4 v4 hv4 c6 id7 x.1 x.2.1 x.2.2 S hI) hl hI
def F41 (x1 : Int) (l2 : List (Int × Int × Int × Int)) (x3 : Int) (l4 : List Int) : Option (Int × Bool) :=
  (bif ((l4.length : Int) == 0) then
   some (0, false)
  else
   (Option.bind (loopO (fun (s : Int × Int × (List (Int × Bool))) => F41_s1 x1 l2 x3 l4 s.1 s.2.1 s.2.2) (0, 0, ([] : List (Int × Bool)))) fun y28 =>
   (bif (Nat.beq y28.1 0) then
    some (0, false)
   else
    some (y28.2, (decide (y28.2 > 0))))))
set_option maxRecDepth 100000 in
theorem F41_spec (x1 : Int) (l2 : List (Int × Int × Int × Int)) (x3 : Int) (l4 : List Int) (v2 : Hd) (v4 : Hd) (h : AHeap) (hw : h.wf) (hv2 : SlE E57 4 h (sv v2) l2) (hv4 : SlE E3 1 h (sv v4) l4) (r : Int × Bool) : F41 x1 l2 x3 l4 = some r → ∃ (h' : AHeap), Heapy h h' [] ∧ ACalls Try.prog 41 [.int .i64 x1, (sv v2), .int .i64 x3, (sv v4)] h (fun v' h'' => v' = (.tuple #[.int .i64 r.1, .bool r.2] : Value) ∧ h'' = h') := by
  unfold F41
  have kc6 := (ai (SlE.len hv4) (ai (F57_spec x1 h _ rfl) trivial))
  refine dec_bif (fun c6 => ?_) (fun c6 => ?_)
  · intro hr
    obtain rfl := Option.some.inj hr
    exact ⟨h, Heapy.pick (Heapy.refl hw) [] (by decide), pFun_sound good tab_ok (f := 41) (its := [.g, .g, .g, (.c (.int .i64 (F57 x1)) h), .g, .g, (.ln l4.length), .g, (.b true), .g, .g]) (args := [.int .i64 x1, (sv v2), .int .i64 x3, (sv v4)]) (h := h) (h' := h) (v := .tuple #[.int .i64 0, .bool false]) (hC := (ai c6 kc6)) (hr := by kernel_rfl)⟩
  · obtain ⟨id7, h7, m7, hp7⟩ := Heapy.mkmap (P := Try.prog) (Heapy.refl hw) (t := 84) (kt := 3) (et := 4) (by kernel_rfl)
    refine bind_opt fun y28 e28 => ?_
    obtain ⟨ee28, SS28, hX28, hA28⟩ := F41_l1 h x1 l2 v2 hv2 x3 l4 v4 hv4 c6 id7 (0, 0, ([] : List (Int × Bool))) y28 e28 (F41_h1 x1 v2 x3 l4 v4 id7 h7 0 0 ([] : List (Int × Bool))) ⟨h7, (Heapy.pick hp7 [0] (by decide)), rfl⟩
    have kc29 := (ai (SlE.len hv4) (ai m7 (ai c6 kc6)))
    refine dec_bif (fun c29 => ?_) (fun c29 => ?_)
    · simp only [F41_x1, c29, cond_true, cond_false] at hX28
      obtain ⟨rfl, h30, hp30, rfl⟩ := hX28
      intro hr
      obtain rfl := Option.some.inj hr
      exact ⟨h30, Heapy.pick hp30 [] (by decide), pFun_sound good tab_ok (f := 41) (its := [.g, .g, .g, (.c (.int .i64 (F57 x1)) h), .g, .g, (.ln l4.length), .g, (.b false), (.mm (.map (some id7)) h7), .g, .g, (.ln l4.length), .g, (.l F41_m1_1 [] .ret (F41_x1_0 h h30 y28))]) (args := [.int .i64 x1, (sv v2), .int .i64 x3, (sv v4)]) (h := h) (h' := h30) (v := .tuple #[.int .i64 0, .bool false]) (hC := (ai hA28 kc29)) (hr := by kernel_rfl)⟩
    · simp only [F41_x1, c29, cond_true, cond_false] at hX28
      obtain ⟨rfl, h31, hp31, rfl⟩ := hX28
      intro hr
      obtain rfl := Option.some.inj hr
      exact ⟨h31, Heapy.pick hp31 [] (by decide), pFun_sound good tab_ok (f := 41) (its := [.g, .g, .g, (.c (.int .i64 (F57 x1)) h), .g, .g, (.ln l4.length), .g, (.b false), (.mm (.map (some id7)) h7), .g, .g, (.ln l4.length), .g, (.l F41_m1_1 [] (.exit 0) (F41_x1_1 h h31 y28)), .g, .g, .g, .g, .g]) (args := [.int .i64 x1, (sv v2), .int .i64 x3, (sv v4)]) (h := h) (h' := h31) (v := .tuple #[.int .i64 y28.2, .bool (decide (y28.2 > 0))]) (hC := (ai hA28 kc29)) (hr := by kernel_rfl)⟩
/-! 17 jacquard/bounds.Check -/
def F17 (x1 : Int) (x2 : Int) (x3 : Bool) (l4 : List (Int × Int × Int × Int)) (l5 : List (Int × Int × Int × Int)) (l6 : List (Int × Int)) (x7 : Int) (x8 : Int) (l9 : List Int) (x10 : Int) : Option (Bool) :=
  (Option.bind (F33 x1 x2 x3 l4 l5 l6) fun y11 =>
  (bif (!y11) then
   some (false)
  else
   (bif (!x3) then
    some (false)
   else
    (bif decide (x8 < 1) then
     some (false)
    else
     (bif decide (x8 > 256) then
      some (false)
     else
      (bif (x7 == 3) then
       (bif decide (x10 < 0) then
        some (false)
       else
        (bif decide (x10 ≥ (l5.length : Int)) then
         some (false)
        else
         (Option.bind (F40 x1 x2 x3 l4 l5 l6) fun y20 =>
         (Option.bind (at? y20.1 x10) fun y24 =>
         (Option.bind (at? l5 x10) fun y25 =>
         some (decide (y24 > (IntKind.i64.wrap ((IntKind.i64.wrap (x8 - 1)) * y25.2.2.2)))))))))
      else
       (bif (x7 == 4) then
        (bif decide (x10 < 0) then
         some (false)
        else
         (bif decide (x10 ≥ (l5.length : Int)) then
          some (false)
         else
          (Option.bind (F40 x1 x2 x3 l4 l5 l6) fun y29 =>
          (Option.bind (at? y29.2 x10) fun y33 =>
          some (decide (y33 ≥ x8))))))
       else
        (bif (x7 == 2) then
         (bif decide (x8 ≥ 2) then
          (Option.bind (F41 (F42 x1 x2 x3 l4 l5 l6) l4 (IntKind.i64.wrap (x8 - 1)) l9) fun y37 =>
          some (y37.2))
         else
          (bif (x7 == 1) then
           some (x8 == 1)
          else
           some (false)))
        else
         (bif (x7 == 1) then
          some (x8 == 1)
         else
          some (false))))))))))
set_option maxRecDepth 100000 in
theorem F17_spec (x1 : Int) (x2 : Int) (x3 : Bool) (l4 : List (Int × Int × Int × Int)) (l5 : List (Int × Int × Int × Int)) (l6 : List (Int × Int)) (x7 : Int) (x8 : Int) (l9 : List Int) (x10 : Int) (v4 : Hd) (v5 : Hd) (v6 : Hd) (v9 : Hd) (h : AHeap) (hw : h.wf) (hv4 : SlE E57 4 h (sv v4) l4) (hv5 : SlE E59 4 h (sv v5) l5) (hv6 : SlE E61 2 h (sv v6) l6) (hv9 : SlE E3 1 h (sv v9) l9) (r : Bool) : F17 x1 x2 x3 l4 l5 l6 x7 x8 l9 x10 = some r → ∃ (h' : AHeap), Heapy h h' [] ∧ ACalls Try.prog 17 [.agg #[.int .i64 x1, .int .i64 x2, .bool x3, (sv v4), (sv v5), (sv v6)], .agg #[.int .i64 x7, .int .i64 x8, (sv v9), .int .i64 x10]] h (fun v' h'' => v' = (.bool r : Value) ∧ h'' = h') := by
  unfold F17
  refine bind_opt fun y11 e11 => ?_
  have kc13 := (ai (F33_spec x1 x2 x3 l4 l5 l6 v4 v5 v6 h hv4 hv5 hv6 _ e11) trivial)
  refine dec_bif (fun c13 => ?_) (fun c13 => ?_)
  · intro hr
    obtain rfl := Option.some.inj hr
    exact ⟨h, Heapy.pick (Heapy.refl hw) [] (by decide), pFun_sound good tab_ok (f := 17) (its := [.g, .g, .g, .g, (.c (.bool y11) h), .g, .g, .n, .n, .n, (.p true), .g, .n, .n, .n, .g, .g, .n, .n, .n, .g, (.b true), .g]) (args := [.agg #[.int .i64 x1, .int .i64 x2, .bool x3, (sv v4), (sv v5), (sv v6)], .agg #[.int .i64 x7, .int .i64 x8, (sv v9), .int .i64 x10]]) (h := h) (h' := h) (v := .bool false) (hC := (ai l_t (ai (g_tf l_t) (ai (g_tf l_t) (ai (g_tf l_t) (ai (g_tf l_t) (ai (g_tf l_t) (ai (g_tf l_t) (ai c13 (ai (g_tf c13) (ai (g_tf c13) (ai (g_tf c13) kc13)))))))))))) (hr := by kernel_rfl)⟩
  · have kc14 := (ai c13 (ai (g_ff c13) (ai (g_ff c13) (ai (g_ff c13) kc13))))
    refine dec_bif (fun c14 => ?_) (fun c14 => ?_)
    · intro hr
      obtain rfl := Option.some.inj hr
      exact ⟨h, Heapy.pick (Heapy.refl hw) [] (by decide), pFun_sound good tab_ok (f := 17) (its := [.g, .g, .g, .g, (.c (.bool y11) h), .g, .g, (.w .g), (.w .g), (.w .g), (.p false), .g, .n, .n, .n, (.p true), .g, .n, .n, .n, .g, (.b true), .g]) (args := [.agg #[.int .i64 x1, .int .i64 x2, .bool x3, (sv v4), (sv v5), (sv v6)], .agg #[.int .i64 x7, .int .i64 x8, (sv v9), .int .i64 x10]]) (h := h) (h' := h) (v := .bool false) (hC := (ai l_t (ai (g_tf l_t) (ai (g_tf l_t) (ai (g_tf l_t) (ai c14 (ai (g_tf c14) (ai (g_tf c14) (ai (g_tf c14) kc14))))))))) (hr := by kernel_rfl)⟩
    · have kc15 := (ai c14 (ai (g_ff c14) (ai (g_ff c14) (ai (g_ff c14) kc14))))
      refine dec_bif (fun c15 => ?_) (fun c15 => ?_)
      · intro hr
        obtain rfl := Option.some.inj hr
        exact ⟨h, Heapy.pick (Heapy.refl hw) [] (by decide), pFun_sound good tab_ok (f := 17) (its := [.g, .g, .g, .g, (.c (.bool y11) h), .g, .g, (.w .g), (.w .g), (.w .g), (.p false), .g, (.w .g), (.w .g), (.w .g), (.p false), .g, .n, .n, .n, (.p true), (.b true), .g]) (args := [.agg #[.int .i64 x1, .int .i64 x2, .bool x3, (sv v4), (sv v5), (sv v6)], .agg #[.int .i64 x7, .int .i64 x8, (sv v9), .int .i64 x10]]) (h := h) (h' := h) (v := .bool false) (hC := (ai l_t (ai c15 (ai (g_tf c15) (ai (g_tf c15) (ai (g_tf c15) kc15)))))) (hr := by kernel_rfl)⟩
      · have kc16 := (ai c15 (ai (g_ff c15) (ai (g_ff c15) (ai (g_ff c15) kc15))))
        refine dec_bif (fun c16 => ?_) (fun c16 => ?_)
        · intro hr
          obtain rfl := Option.some.inj hr
          exact ⟨h, Heapy.pick (Heapy.refl hw) [] (by decide), pFun_sound good tab_ok (f := 17) (its := [.g, .g, .g, .g, (.c (.bool y11) h), .g, .g, (.w .g), (.w .g), (.w .g), (.p false), .g, (.w .g), (.w .g), (.w .g), (.p false), .g, (.w .g), (.w .g), (.w .g), (.p false), (.b true), .g]) (args := [.agg #[.int .i64 x1, .int .i64 x2, .bool x3, (sv v4), (sv v5), (sv v6)], .agg #[.int .i64 x7, .int .i64 x8, (sv v9), .int .i64 x10]]) (h := h) (h' := h) (v := .bool false) (hC := (ai c16 kc16)) (hr := by kernel_rfl)⟩
        · have kc17 := (ai c16 kc16)
          refine dec_bif (fun c17 => ?_) (fun c17 => ?_)
          · have kc18 := (ai l_t (ai c17 (ai (g_tf c17) (ai (g_tf c17) (ai (g_tf c17) kc17)))))
            refine dec_bif (fun c18 => ?_) (fun c18 => ?_)
            · intro hr
              obtain rfl := Option.some.inj hr
              exact ⟨h, Heapy.pick (Heapy.refl hw) [] (by decide), pFun_sound good tab_ok (f := 17) (its := [.g, .g, .g, .g, (.c (.bool y11) h), .g, .g, (.w .g), (.w .g), (.w .g), (.p false), .g, (.w .g), (.w .g), (.w .g), (.p false), .g, (.w .g), (.w .g), (.w .g), (.p false), (.b false), .g, .g, .g, .g, .n, .n, .n, (.p true), (.b true), .g, .g, .g, .g, .n, .n, .n, .n, .n, .n, (.p true), (.b true), .g]) (args := [.agg #[.int .i64 x1, .int .i64 x2, .bool x3, (sv v4), (sv v5), (sv v6)], .agg #[.int .i64 x7, .int .i64 x8, (sv v9), .int .i64 x10]]) (h := h) (h' := h) (v := .bool false) (hC := (ai l_t (ai c18 (ai (g_tf c18) (ai (g_tf c18) (ai (g_tf c18) (ai (g_tf c18) (ai (g_tf c18) (ai (g_tf c18) kc18))))))))) (hr := by kernel_rfl)⟩
            · have kc19 := (ai c18 (ai (g_ff c18) (ai (SlE.len hv5) (ai (g_ff c18) (ai (g_ff c18) (ai (g_ff c18) (ai (g_ff c18) (ai (g_ff c18) kc18))))))))
              refine dec_bif (fun c19 => ?_) (fun c19 => ?_)
              · intro hr
                obtain rfl := Option.some.inj hr
                exact ⟨h, Heapy.pick (Heapy.refl hw) [] (by decide), pFun_sound good tab_ok (f := 17) (its := [.g, .g, .g, .g, (.c (.bool y11) h), .g, .g, (.w .g), (.w .g), (.w .g), (.p false), .g, (.w .g), (.w .g), (.w .g), (.p false), .g, (.w .g), (.w .g), (.w .g), (.p false), (.b false), .g, .g, .g, .g, .n, .n, .n, (.p true), (.b true), .g, .g, .g, .g, (.w .g), (.w .g), (.w .g), (.w .g), (.w (.ln l5.length)), (.w .g), (.p false), (.b true), .g]) (args := [.agg #[.int .i64 x1, .int .i64 x2, .bool x3, (sv v4), (sv v5), (sv v6)], .agg #[.int .i64 x7, .int .i64 x8, (sv v9), .int .i64 x10]]) (h := h) (h' := h) (v := .bool false) (hC := (ai c19 kc19)) (hr := by kernel_rfl)⟩
              · refine bind_opt fun y20 e20 => ?_
                obtain ⟨u21_0, u21_1, h21, q21, c21⟩ := F40_spec x1 x2 x3 l4 l5 l6 v4 v5 v6 h hw hv4 hv5 hv6 _ e20
                have hp21 : Heapy h h21 [⟨u21_0, 3, 1, List.flatMap enc3 y20.1⟩, ⟨u21_1, 3, 1, List.flatMap enc3 y20.2⟩] := Heapy.call (Heapy.refl hw) q21
                refine bind_opt fun y24 e24 => ?_
                obtain ⟨id24, off24, g24, cs24, ix24, at24, rfl⟩ := SlE.at (Heapy.sle (v := u21_0) (xs := y20.1) (enc := enc3) hp21 0 rfl (fun _ => rfl) (by decide)) e24
                refine bind_opt fun y25 e25 => ?_
                obtain ⟨id25, off25, g25, cs25, ix25, at25, rfl⟩ := SlE.at hv5 e25
                intro hr
                obtain rfl := Option.some.inj hr
                exact ⟨h21, Heapy.pick hp21 [] (by decide), pFun_sound good tab_ok (f := 17) (its := [.g, .g, .g, .g, (.c (.bool y11) h), .g, .g, (.w .g), (.w .g), (.w .g), (.p false), .g, (.w .g), (.w .g), (.w .g), (.p false), .g, (.w .g), (.w .g), (.w .g), (.p false), (.b false), .g, .g, .g, .g, .n, .n, .n, (.p true), (.b true), .g, .g, .g, .g, (.w .g), (.w .g), (.w .g), (.w .g), (.w (.ln l5.length)), (.w .g), (.p false), (.b false), .g, (.c (.tuple #[(sv u21_0), (sv u21_1)]) h21), .g, .g, .g, .g, .g, .g, .g, .g, (.b true), .g, .g, .g, (.ix id24 off24 g24), (.ld (.int .i64 y24)), .g, .g, .g, .g, .g, .g, .g, (.ix id25 off25 g25), .g, (.ld (.int .i64 y25.2.2.2)), .g, .g, .g]) (args := [.agg #[.int .i64 x1, .int .i64 x2, .bool x3, (sv v4), (sv v5), (sv v6)], .agg #[.int .i64 x7, .int .i64 x8, (sv v9), .int .i64 x10]]) (h := h) (h' := h21) (v := .bool (decide (y24 > (IntKind.i64.wrap ((IntKind.i64.wrap (x8 - 1)) * y25.2.2.2))))) (hC := (ai (At.one (P := Try.prog) (t := 3) (v := .int .i64 y25.2.2.2) (At.mono (Heapy.sub hp21) at25) (by kernel_rfl) 3 rfl rfl) (ai ix25 (ai (At.one (P := Try.prog) (t := 3) (v := .int .i64 y24) at24 (by kernel_rfl) 0 rfl rfl) (ai ix24 (ai c17 (ai c21 (ai c19 kc19)))))))) (hr := by kernel_rfl)⟩
          · have kc26 := (ai c17 (ai (g_ff c17) (ai (g_ff c17) (ai (g_ff c17) kc17))))
            refine dec_bif (fun c26 => ?_) (fun c26 => ?_)
            · have kc27 := (ai c26 kc26)
              refine dec_bif (fun c27 => ?_) (fun c27 => ?_)
              · intro hr
                obtain rfl := Option.some.inj hr
                exact ⟨h, Heapy.pick (Heapy.refl hw) [] (by decide), pFun_sound good tab_ok (f := 17) (its := [.g, .g, .g, .g, (.c (.bool y11) h), .g, .g, (.w .g), (.w .g), (.w .g), (.p false), .g, (.w .g), (.w .g), (.w .g), (.p false), .g, (.w .g), (.w .g), (.w .g), (.p false), (.b false), .g, .g, .g, .g, (.w .g), (.w .g), (.w .g), (.p false), (.b true), .g, .g, .g, .g, .n, .n, .n, .n, .n, .n, (.p true), (.b true), .g]) (args := [.agg #[.int .i64 x1, .int .i64 x2, .bool x3, (sv v4), (sv v5), (sv v6)], .agg #[.int .i64 x7, .int .i64 x8, (sv v9), .int .i64 x10]]) (h := h) (h' := h) (v := .bool false) (hC := (ai l_t (ai c27 (ai (g_tf c27) (ai (g_tf c27) (ai (g_tf c27) (ai (g_tf c27) (ai (g_tf c27) (ai (g_tf c27) kc27))))))))) (hr := by kernel_rfl)⟩
              · have kc28 := (ai c27 (ai (g_ff c27) (ai (SlE.len hv5) (ai (g_ff c27) (ai (g_ff c27) (ai (g_ff c27) (ai (g_ff c27) (ai (g_ff c27) kc27))))))))
                refine dec_bif (fun c28 => ?_) (fun c28 => ?_)
                · intro hr
                  obtain rfl := Option.some.inj hr
                  exact ⟨h, Heapy.pick (Heapy.refl hw) [] (by decide), pFun_sound good tab_ok (f := 17) (its := [.g, .g, .g, .g, (.c (.bool y11) h), .g, .g, (.w .g), (.w .g), (.w .g), (.p false), .g, (.w .g), (.w .g), (.w .g), (.p false), .g, (.w .g), (.w .g), (.w .g), (.p false), (.b false), .g, .g, .g, .g, (.w .g), (.w .g), (.w .g), (.p false), (.b true), .g, .g, .g, .g, (.w .g), (.w .g), (.w .g), (.w .g), (.w (.ln l5.length)), (.w .g), (.p false), (.b true), .g]) (args := [.agg #[.int .i64 x1, .int .i64 x2, .bool x3, (sv v4), (sv v5), (sv v6)], .agg #[.int .i64 x7, .int .i64 x8, (sv v9), .int .i64 x10]]) (h := h) (h' := h) (v := .bool false) (hC := (ai c28 kc28)) (hr := by kernel_rfl)⟩
                · refine bind_opt fun y29 e29 => ?_
                  obtain ⟨u30_0, u30_1, h30, q30, c30⟩ := F40_spec x1 x2 x3 l4 l5 l6 v4 v5 v6 h hw hv4 hv5 hv6 _ e29
                  have hp30 : Heapy h h30 [⟨u30_0, 3, 1, List.flatMap enc3 y29.1⟩, ⟨u30_1, 3, 1, List.flatMap enc3 y29.2⟩] := Heapy.call (Heapy.refl hw) q30
                  refine bind_opt fun y33 e33 => ?_
                  obtain ⟨id33, off33, g33, cs33, ix33, at33, rfl⟩ := SlE.at (Heapy.sle (v := u30_1) (xs := y29.2) (enc := enc3) hp30 1 rfl (fun _ => rfl) (by decide)) e33
                  intro hr
                  obtain rfl := Option.some.inj hr
                  exact ⟨h30, Heapy.pick hp30 [] (by decide), pFun_sound good tab_ok (f := 17) (its := [.g, .g, .g, .g, (.c (.bool y11) h), .g, .g, (.w .g), (.w .g), (.w .g), (.p false), .g, (.w .g), (.w .g), (.w .g), (.p false), .g, (.w .g), (.w .g), (.w .g), (.p false), (.b false), .g, .g, .g, .g, (.w .g), (.w .g), (.w .g), (.p false), (.b true), .g, .g, .g, .g, (.w .g), (.w .g), (.w .g), (.w .g), (.w (.ln l5.length)), (.w .g), (.p false), (.b false), .g, (.c (.tuple #[(sv u30_0), (sv u30_1)]) h30), .g, .g, .g, .g, .g, .g, .g, .g, (.b false), .g, .g, .g, (.ix id33 off33 g33), (.ld (.int .i64 y33)), .g, .g, .g, .g]) (args := [.agg #[.int .i64 x1, .int .i64 x2, .bool x3, (sv v4), (sv v5), (sv v6)], .agg #[.int .i64 x7, .int .i64 x8, (sv v9), .int .i64 x10]]) (h := h) (h' := h30) (v := .bool (decide (y33 ≥ x8))) (hC := (ai (At.one (P := Try.prog) (t := 3) (v := .int .i64 y33) at33 (by kernel_rfl) 0 rfl rfl) (ai ix33 (ai c17 (ai c30 (ai c28 kc28)))))) (hr := by kernel_rfl)⟩
            · have kc34 := (ai c26 kc26)
              refine dec_bif (fun c34 => ?_) (fun c34 => ?_)
              · have kc35 := (ai c34 (ai (g_tt c34) (ai (g_tt c34) (ai (g_tt c34) kc34))))
                refine dec_bif (fun c35 => ?_) (fun c35 => ?_)
                · refine bind_opt fun y37 e37 => ?_
                  obtain ⟨h38, q38, c38⟩ := F41_spec (F42 x1 x2 x3 l4 l5 l6) l4 (IntKind.i64.wrap (x8 - 1)) l9 v4 v9 h hw hv4 hv9 _ e37
                  have hp38 : Heapy h h38 [] := Heapy.call (Heapy.refl hw) q38
                  intro hr
                  obtain rfl := Option.some.inj hr
                  exact ⟨h38, Heapy.pick hp38 [] (by decide), pFun_sound good tab_ok (f := 17) (its := [.g, .g, .g, .g, (.c (.bool y11) h), .g, .g, (.w .g), (.w .g), (.w .g), (.p false), .g, (.w .g), (.w .g), (.w .g), (.p false), .g, (.w .g), (.w .g), (.w .g), (.p false), (.b false), .g, .g, .g, .g, (.w .g), (.w .g), (.w .g), (.p false), (.b false), .g, .g, .g, .g, (.w .g), (.w .g), (.w .g), (.p true), (.b true), .g, .g, .g, .g, .g, .g, .g, .g, (.c (.int .i64 (F42 x1 x2 x3 l4 l5 l6)) h), (.c (.tuple #[.int .i64 y37.1, .bool y37.2]) h38), .g, .g, .g, .g, .g, .g, .g]) (args := [.agg #[.int .i64 x1, .int .i64 x2, .bool x3, (sv v4), (sv v5), (sv v6)], .agg #[.int .i64 x7, .int .i64 x8, (sv v9), .int .i64 x10]]) (h := h) (h' := h38) (v := .bool y37.2) (hC := (ai (show AKeep h h38 from (Heapy.sub q38)) (ai c38 (ai (show AKeep h h from (AHeap.sub_refl h)) (ai (F42_spec x1 x2 x3 l4 l5 l6 v4 v5 v6 h hv4 hv5 hv6 _ rfl) (ai c35 kc35)))))) (hr := by kernel_rfl)⟩
                · have kc39 := (ai c35 kc35)
                  refine dec_bif (fun c39 => ?_) (fun c39 => ?_)
                  · intro hr
                    obtain rfl := Option.some.inj hr
                    exact ⟨h, Heapy.pick (Heapy.refl hw) [] (by decide), pFun_sound good tab_ok (f := 17) (its := [.g, .g, .g, .g, (.c (.bool y11) h), .g, .g, (.w .g), (.w .g), (.w .g), (.p false), .g, (.w .g), (.w .g), (.w .g), (.p false), .g, (.w .g), (.w .g), (.w .g), (.p false), (.b false), .g, .g, .g, .g, (.w .g), (.w .g), (.w .g), (.p false), (.b false), .g, .g, .g, .g, (.w .g), (.w .g), (.w .g), (.p true), (.b false), .g, .g, .g, .g, (.w .g), (.w .g), (.w .g), (.p true), .g]) (args := [.agg #[.int .i64 x1, .int .i64 x2, .bool x3, (sv v4), (sv v5), (sv v6)], .agg #[.int .i64 x7, .int .i64 x8, (sv v9), .int .i64 x10]]) (h := h) (h' := h) (v := .bool (x8 == 1)) (hC := (ai c39 (ai (g_tt c39) (ai (g_tt c39) (ai (g_tt c39) kc39))))) (hr := by kernel_rfl)⟩
                  · intro hr
                    obtain rfl := Option.some.inj hr
                    exact ⟨h, Heapy.pick (Heapy.refl hw) [] (by decide), pFun_sound good tab_ok (f := 17) (its := [.g, .g, .g, .g, (.c (.bool y11) h), .g, .g, (.w .g), (.w .g), (.w .g), (.p false), .g, (.w .g), (.w .g), (.w .g), (.p false), .g, (.w .g), (.w .g), (.w .g), (.p false), (.b false), .g, .g, .g, .g, (.w .g), (.w .g), (.w .g), (.p false), (.b false), .g, .g, .g, .g, (.w .g), (.w .g), (.w .g), (.p true), (.b false), .g, .g, .g, .g, .n, .n, .n, (.p false), .g]) (args := [.agg #[.int .i64 x1, .int .i64 x2, .bool x3, (sv v4), (sv v5), (sv v6)], .agg #[.int .i64 x7, .int .i64 x8, (sv v9), .int .i64 x10]]) (h := h) (h' := h) (v := .bool false) (hC := (ai c39 (ai (g_ft c39) (ai (g_ft c39) (ai (g_ft c39) kc39))))) (hr := by kernel_rfl)⟩
              · have kc40 := (ai l_f (ai c34 (ai (g_ft c34) (ai (g_ft c34) (ai (g_ft c34) kc34)))))
                refine dec_bif (fun c40 => ?_) (fun c40 => ?_)
                · intro hr
                  obtain rfl := Option.some.inj hr
                  exact ⟨h, Heapy.pick (Heapy.refl hw) [] (by decide), pFun_sound good tab_ok (f := 17) (its := [.g, .g, .g, .g, (.c (.bool y11) h), .g, .g, (.w .g), (.w .g), (.w .g), (.p false), .g, (.w .g), (.w .g), (.w .g), (.p false), .g, (.w .g), (.w .g), (.w .g), (.p false), (.b false), .g, .g, .g, .g, (.w .g), (.w .g), (.w .g), (.p false), (.b false), .g, .g, .g, .g, .n, .n, .n, (.p false), (.b false), .g, .g, .g, .g, (.w .g), (.w .g), (.w .g), (.p true), .g]) (args := [.agg #[.int .i64 x1, .int .i64 x2, .bool x3, (sv v4), (sv v5), (sv v6)], .agg #[.int .i64 x7, .int .i64 x8, (sv v9), .int .i64 x10]]) (h := h) (h' := h) (v := .bool (x8 == 1)) (hC := (ai c40 (ai (g_tt c40) (ai (g_tt c40) (ai (g_tt c40) kc40))))) (hr := by kernel_rfl)⟩
                · intro hr
                  obtain rfl := Option.some.inj hr
                  exact ⟨h, Heapy.pick (Heapy.refl hw) [] (by decide), pFun_sound good tab_ok (f := 17) (its := [.g, .g, .g, .g, (.c (.bool y11) h), .g, .g, (.w .g), (.w .g), (.w .g), (.p false), .g, (.w .g), (.w .g), (.w .g), (.p false), .g, (.w .g), (.w .g), (.w .g), (.p false), (.b false), .g, .g, .g, .g, (.w .g), (.w .g), (.w .g), (.p false), (.b false), .g, .g, .g, .g, .n, .n, .n, (.p false), (.b false), .g, .g, .g, .g, .n, .n, .n, (.p false), .g]) (args := [.agg #[.int .i64 x1, .int .i64 x2, .bool x3, (sv v4), (sv v5), (sv v6)], .agg #[.int .i64 x7, .int .i64 x8, (sv v9), .int .i64 x10]]) (h := h) (h' := h) (v := .bool false) (hC := (ai c40 (ai (g_ft c40) (ai (g_ft c40) (ai (g_ft c40) kc40))))) (hr := by kernel_rfl)⟩
/-! 3 jacquard/jacquardlaw31.BoundsRecurrence -/
def F3 (x1 : Int) (x2 : Int) (x3 : Bool) (l4 : List (Int × Int × Int × Int)) (l5 : List (Int × Int × Int × Int)) (l6 : List (Int × Int)) : Option (Bool) :=
  (Option.bind F11 fun y7 =>
  (bif (!y7) then
   (Option.bind F11 fun y10 =>
   some (y10))
  else
   (Option.bind (F12 x1 x2 x3 l4 l5 l6) fun y12 =>
   (bif (!y12) then
    (Option.bind F11 fun y15 =>
    some (y15))
   else
    (Option.bind (F13 x1 x2 x3 l4 l5 l6) fun y17 =>
    (Option.bind (F14 x1 x2 x3 l4 l5 l6) fun y20 =>
    (bif (!y20) then
     (bif (y17.2.2.2.2 == 3) then
      some (y17.2.1 == 0)
     else
      some (false))
    else
     (bif (!x3) then
      (bif (y17.2.2.2.2 == 1) then
       some (y17.2.1 == 0)
      else
       some (false))
     else
      (Option.bind (F15 x1 x2 x3 l4 l5 l6) fun y26 =>
      (bif (y26 == 0) then
       (bif (y17.2.2.2.2 == 14) then
        some (y17.2.1 == 0)
       else
        some (false))
      else
       (bif (y26 == 1) then
        (bif (y17.2.2.2.2 == 0) then
         (bif (y17.1 == 1) then
          (bif (y17.2.1 == 1) then
           (bif ((y17.2.2.1.length : Int) == 0) then
            some (y17.2.2.2.1 == 0)
           else
            some (false))
          else
           some (false))
         else
          some (false))
        else
         some (false))
       else
        (bif (y17.2.2.2.2 == 0) then
         (bif (y17.1 == 2) then
          (bif (y17.2.1 == y26) then
           (bif (y17.2.2.2.1 == 0) then
            (Option.bind (F16 x1 x2 x3 l4 l5 l6 y17.1 y17.2.1 y17.2.2.1 y17.2.2.2.1) fun y39 =>
            (bif y39 then
             (Option.bind (F17 x1 x2 x3 l4 l5 l6 y17.1 y17.2.1 y17.2.2.1 y17.2.2.2.1) fun y42 =>
             some (y42))
            else
             some (false)))
           else
            some (false))
          else
           some (false))
         else
          some (false))
        else
         some (false)))))))))))))
set_option maxRecDepth 100000 in
theorem F3_spec (x1 : Int) (x2 : Int) (x3 : Bool) (l4 : List (Int × Int × Int × Int)) (l5 : List (Int × Int × Int × Int)) (l6 : List (Int × Int)) (v4 : Hd) (v5 : Hd) (v6 : Hd) (h : AHeap) (hw : h.wf) (hv4 : SlE E57 4 h (sv v4) l4) (hv5 : SlE E59 4 h (sv v5) l5) (hv6 : SlE E61 2 h (sv v6) l6) (r : Bool) : F3 x1 x2 x3 l4 l5 l6 = some r → ∃ (h' : AHeap), Heapy h h' [] ∧ ACalls Try.prog 3 [.agg #[.int .i64 x1, .int .i64 x2, .bool x3, (sv v4), (sv v5), (sv v6)]] h (fun v' h'' => v' = (.bool r : Value) ∧ h'' = h') := by
  unfold F3
  refine bind_opt fun y7 e7 => ?_
  obtain ⟨h8, q8, c8⟩ := F11_spec h hw _ e7
  have hp8 : Heapy h h8 [] := Heapy.call (Heapy.refl hw) q8
  have kc9 := (ai c8 trivial)
  refine dec_bif (fun c9 => ?_) (fun c9 => ?_)
  · refine bind_opt fun y10 e10 => ?_
    obtain ⟨h11, q11, c11⟩ := F11_spec h8 (Heapy.wf hp8) _ e10
    have hp11 : Heapy h h11 [] := Heapy.call hp8 q11
    intro hr
    obtain rfl := Option.some.inj hr
    exact ⟨h11, Heapy.pick hp11 [] (by decide), pFun_sound good tab_ok (f := 3) (its := [.g, .g, (.c (.bool y7) h8), .g, .g, .n, .n, .n, (.p true), (.b true), (.c (.bool y10) h11), .g]) (args := [.agg #[.int .i64 x1, .int .i64 x2, .bool x3, (sv v4), (sv v5), (sv v6)]]) (h := h) (h' := h11) (v := .bool y10) (hC := (ai c11 (ai l_t (ai c9 (ai (g_tf c9) (ai (g_tf c9) (ai (g_tf c9) kc9))))))) (hr := by kernel_rfl)⟩
  · refine bind_opt fun y12 e12 => ?_
    have kc14 := (ai c9 (ai (g_ff c9) (ai (F12_spec x1 x2 x3 l4 l5 l6 v4 v5 v6 h8 (SlE.mono hv4 (Heapy.sub hp8) (E57_mono (Heapy.sub hp8))) (SlE.mono hv5 (Heapy.sub hp8) (E59_mono (Heapy.sub hp8))) (SlE.mono hv6 (Heapy.sub hp8) (E61_mono (Heapy.sub hp8))) _ e12) (ai (g_ff c9) (ai (g_ff c9) kc9)))))
    refine dec_bif (fun c14 => ?_) (fun c14 => ?_)
    · refine bind_opt fun y15 e15 => ?_
      obtain ⟨h16, q16, c16⟩ := F11_spec h8 (Heapy.wf hp8) _ e15
      have hp16 : Heapy h h16 [] := Heapy.call hp8 q16
      intro hr
      obtain rfl := Option.some.inj hr
      exact ⟨h16, Heapy.pick hp16 [] (by decide), pFun_sound good tab_ok (f := 3) (its := [.g, .g, (.c (.bool y7) h8), .g, .g, (.w .g), (.w (.c (.bool y12) h8)), (.w .g), (.p false), (.b true), (.c (.bool y15) h16), .g]) (args := [.agg #[.int .i64 x1, .int .i64 x2, .bool x3, (sv v4), (sv v5), (sv v6)]]) (h := h) (h' := h16) (v := .bool y15) (hC := (ai c16 (ai c14 kc14))) (hr := by kernel_rfl)⟩
    · refine bind_opt fun y17 e17 => ?_
      obtain ⟨u18_0, h18, q18, zu18_0, c18⟩ := F13_spec x1 x2 x3 l4 l5 l6 v4 v5 v6 h8 (Heapy.wf hp8) (SlE.mono hv4 (Heapy.sub hp8) (E57_mono (Heapy.sub hp8))) (SlE.mono hv5 (Heapy.sub hp8) (E59_mono (Heapy.sub hp8))) (SlE.mono hv6 (Heapy.sub hp8) (E61_mono (Heapy.sub hp8))) _ e17
      have hp18 : Heapy h h18 [⟨u18_0, 3, 1, List.flatMap enc3 y17.2.2.1⟩] := Heapy.call hp8 q18
      refine bind_opt fun y20 e20 => ?_
      have kc22 := (ai (F14_spec x1 x2 x3 l4 l5 l6 v4 v5 v6 h18 (SlE.mono hv4 (Heapy.sub hp18) (E57_mono (Heapy.sub hp18))) (SlE.mono hv5 (Heapy.sub hp18) (E59_mono (Heapy.sub hp18))) (SlE.mono hv6 (Heapy.sub hp18) (E61_mono (Heapy.sub hp18))) _ e20) (ai c18 (ai c14 kc14)))
      refine dec_bif (fun c22 => ?_) (fun c22 => ?_)
      · have kc23 := (ai c22 kc22)
        refine dec_bif (fun c23 => ?_) (fun c23 => ?_)
        · intro hr
          obtain rfl := Option.some.inj hr
          exact ⟨h18, Heapy.pick hp18 [] (by decide), pFun_sound good tab_ok (f := 3) (its := [.g, .g, (.c (.bool y7) h8), .g, .g, (.w .g), (.w (.c (.bool y12) h8)), (.w .g), (.p false), (.b false), .g, (.c (.tuple #[.agg #[.int .i64 y17.1, .int .i64 y17.2.1, (sv u18_0), .int .i64 y17.2.2.2.1], .int .i64 y17.2.2.2.2]) h18), .g, .g, .g, .g, .g, .g, .g, (.c (.bool y20) h18), .g, .g, (.b true), .g, .g, .g, (.w .g), (.w .g), (.w .g), (.p true), .g]) (args := [.agg #[.int .i64 x1, .int .i64 x2, .bool x3, (sv v4), (sv v5), (sv v6)]]) (h := h) (h' := h18) (v := .bool (y17.2.1 == 0)) (hC := (ai c23 (ai (g_tt c23) (ai (g_tt c23) (ai (g_tt c23) kc23))))) (hr := by kernel_rfl)⟩
        · intro hr
          obtain rfl := Option.some.inj hr
          exact ⟨h18, Heapy.pick hp18 [] (by decide), pFun_sound good tab_ok (f := 3) (its := [.g, .g, (.c (.bool y7) h8), .g, .g, (.w .g), (.w (.c (.bool y12) h8)), (.w .g), (.p false), (.b false), .g, (.c (.tuple #[.agg #[.int .i64 y17.1, .int .i64 y17.2.1, (sv u18_0), .int .i64 y17.2.2.2.1], .int .i64 y17.2.2.2.2]) h18), .g, .g, .g, .g, .g, .g, .g, (.c (.bool y20) h18), .g, .g, (.b true), .g, .g, .g, .n, .n, .n, (.p false), .g]) (args := [.agg #[.int .i64 x1, .int .i64 x2, .bool x3, (sv v4), (sv v5), (sv v6)]]) (h := h) (h' := h18) (v := .bool false) (hC := (ai c23 (ai (g_ft c23) (ai (g_ft c23) (ai (g_ft c23) kc23))))) (hr := by kernel_rfl)⟩
      · have kc24 := (ai c22 kc22)
        refine dec_bif (fun c24 => ?_) (fun c24 => ?_)
        · have kc25 := (ai c24 kc24)
          refine dec_bif (fun c25 => ?_) (fun c25 => ?_)
          · intro hr
            obtain rfl := Option.some.inj hr
            exact ⟨h18, Heapy.pick hp18 [] (by decide), pFun_sound good tab_ok (f := 3) (its := [.g, .g, (.c (.bool y7) h8), .g, .g, (.w .g), (.w (.c (.bool y12) h8)), (.w .g), (.p false), (.b false), .g, (.c (.tuple #[.agg #[.int .i64 y17.1, .int .i64 y17.2.1, (sv u18_0), .int .i64 y17.2.2.2.1], .int .i64 y17.2.2.2.2]) h18), .g, .g, .g, .g, .g, .g, .g, (.c (.bool y20) h18), .g, .g, (.b false), .g, .g, .g, .g, (.b true), .g, .g, .g, (.w .g), (.w .g), (.w .g), (.p true), .g]) (args := [.agg #[.int .i64 x1, .int .i64 x2, .bool x3, (sv v4), (sv v5), (sv v6)]]) (h := h) (h' := h18) (v := .bool (y17.2.1 == 0)) (hC := (ai c25 (ai (g_tt c25) (ai (g_tt c25) (ai (g_tt c25) kc25))))) (hr := by kernel_rfl)⟩
          · intro hr
            obtain rfl := Option.some.inj hr
            exact ⟨h18, Heapy.pick hp18 [] (by decide), pFun_sound good tab_ok (f := 3) (its := [.g, .g, (.c (.bool y7) h8), .g, .g, (.w .g), (.w (.c (.bool y12) h8)), (.w .g), (.p false), (.b false), .g, (.c (.tuple #[.agg #[.int .i64 y17.1, .int .i64 y17.2.1, (sv u18_0), .int .i64 y17.2.2.2.1], .int .i64 y17.2.2.2.2]) h18), .g, .g, .g, .g, .g, .g, .g, (.c (.bool y20) h18), .g, .g, (.b false), .g, .g, .g, .g, (.b true), .g, .g, .g, .n, .n, .n, (.p false), .g]) (args := [.agg #[.int .i64 x1, .int .i64 x2, .bool x3, (sv v4), (sv v5), (sv v6)]]) (h := h) (h' := h18) (v := .bool false) (hC := (ai c25 (ai (g_ft c25) (ai (g_ft c25) (ai (g_ft c25) kc25))))) (hr := by kernel_rfl)⟩
        · refine bind_opt fun y26 e26 => ?_
          obtain ⟨h27, q27, c27⟩ := F15_spec x1 x2 x3 l4 l5 l6 v4 v5 v6 h18 (Heapy.wf hp18) (SlE.mono hv4 (Heapy.sub hp18) (E57_mono (Heapy.sub hp18))) (SlE.mono hv5 (Heapy.sub hp18) (E59_mono (Heapy.sub hp18))) (SlE.mono hv6 (Heapy.sub hp18) (E61_mono (Heapy.sub hp18))) _ e26
          have hp27 : Heapy h h27 [⟨u18_0, 3, 1, List.flatMap enc3 y17.2.2.1⟩] := Heapy.call hp18 q27
          have kc28 := (ai c27 (ai c24 kc24))
          refine dec_bif (fun c28 => ?_) (fun c28 => ?_)
          · have kc29 := (ai c28 kc28)
            refine dec_bif (fun c29 => ?_) (fun c29 => ?_)
            · intro hr
              obtain rfl := Option.some.inj hr
              exact ⟨h27, Heapy.pick hp27 [] (by decide), pFun_sound good tab_ok (f := 3) (its := [.g, .g, (.c (.bool y7) h8), .g, .g, (.w .g), (.w (.c (.bool y12) h8)), (.w .g), (.p false), (.b false), .g, (.c (.tuple #[.agg #[.int .i64 y17.1, .int .i64 y17.2.1, (sv u18_0), .int .i64 y17.2.2.2.1], .int .i64 y17.2.2.2.2]) h18), .g, .g, .g, .g, .g, .g, .g, (.c (.bool y20) h18), .g, .g, (.b false), .g, .g, .g, .g, (.b false), .g, (.c (.int .i64 y26) h27), .g, .g, .g, (.b true), .g, .g, .g, (.w .g), (.w .g), (.w .g), (.p true), .g]) (args := [.agg #[.int .i64 x1, .int .i64 x2, .bool x3, (sv v4), (sv v5), (sv v6)]]) (h := h) (h' := h27) (v := .bool (y17.2.1 == 0)) (hC := (ai c29 (ai (g_tt c29) (ai (g_tt c29) (ai (g_tt c29) kc29))))) (hr := by kernel_rfl)⟩
            · intro hr
              obtain rfl := Option.some.inj hr
              exact ⟨h27, Heapy.pick hp27 [] (by decide), pFun_sound good tab_ok (f := 3) (its := [.g, .g, (.c (.bool y7) h8), .g, .g, (.w .g), (.w (.c (.bool y12) h8)), (.w .g), (.p false), (.b false), .g, (.c (.tuple #[.agg #[.int .i64 y17.1, .int .i64 y17.2.1, (sv u18_0), .int .i64 y17.2.2.2.1], .int .i64 y17.2.2.2.2]) h18), .g, .g, .g, .g, .g, .g, .g, (.c (.bool y20) h18), .g, .g, (.b false), .g, .g, .g, .g, (.b false), .g, (.c (.int .i64 y26) h27), .g, .g, .g, (.b true), .g, .g, .g, .n, .n, .n, (.p false), .g]) (args := [.agg #[.int .i64 x1, .int .i64 x2, .bool x3, (sv v4), (sv v5), (sv v6)]]) (h := h) (h' := h27) (v := .bool false) (hC := (ai c29 (ai (g_ft c29) (ai (g_ft c29) (ai (g_ft c29) kc29))))) (hr := by kernel_rfl)⟩
          · have kc30 := (ai c28 kc28)
            refine dec_bif (fun c30 => ?_) (fun c30 => ?_)
            · have kc31 := (ai c30 kc30)
              refine dec_bif (fun c31 => ?_) (fun c31 => ?_)
              · have kc32 := (ai c31 (ai (g_tt c31) (ai (g_tt c31) (ai (g_tt c31) kc31))))
                refine dec_bif (fun c32 => ?_) (fun c32 => ?_)
                · have kc33 := (ai c32 (ai (g_tt c32) (ai (g_tt c32) (ai (g_tt c32) kc32))))
                  refine dec_bif (fun c33 => ?_) (fun c33 => ?_)
                  · have kc34 := (ai c33 (ai (g_tt c33) (ai (SlE.len (Heapy.sle (v := u18_0) (xs := y17.2.2.1) (enc := enc3) hp27 0 rfl (fun _ => rfl) (by decide))) (ai (g_tt c33) (ai (g_tt c33) (ai (g_tt c33) kc33))))))
                    refine dec_bif (fun c34 => ?_) (fun c34 => ?_)
                    · intro hr
                      obtain rfl := Option.some.inj hr
                      exact ⟨h27, Heapy.pick hp27 [] (by decide), pFun_sound good tab_ok (f := 3) (its := [.g, .g, (.c (.bool y7) h8), .g, .g, (.w .g), (.w (.c (.bool y12) h8)), (.w .g), (.p false), (.b false), .g, (.c (.tuple #[.agg #[.int .i64 y17.1, .int .i64 y17.2.1, (sv u18_0), .int .i64 y17.2.2.2.1], .int .i64 y17.2.2.2.2]) h18), .g, .g, .g, .g, .g, .g, .g, (.c (.bool y20) h18), .g, .g, (.b false), .g, .g, .g, .g, (.b false), .g, (.c (.int .i64 y26) h27), .g, .g, .g, (.b false), .g, .g, (.b true), .g, .g, .g, (.w .g), (.w .g), (.w .g), (.p true), .g, (.w .g), (.w .g), (.w .g), (.p true), .g, (.w .g), (.w .g), (.w (.ln y17.2.2.1.length)), (.w .g), (.p true), .g, (.w .g), (.w .g), (.w .g), (.p true), .g]) (args := [.agg #[.int .i64 x1, .int .i64 x2, .bool x3, (sv v4), (sv v5), (sv v6)]]) (h := h) (h' := h27) (v := .bool (y17.2.2.2.1 == 0)) (hC := (ai c34 (ai (g_tt c34) (ai (g_tt c34) (ai (g_tt c34) kc34))))) (hr := by kernel_rfl)⟩
                    · intro hr
                      obtain rfl := Option.some.inj hr
                      exact ⟨h27, Heapy.pick hp27 [] (by decide), pFun_sound good tab_ok (f := 3) (its := [.g, .g, (.c (.bool y7) h8), .g, .g, (.w .g), (.w (.c (.bool y12) h8)), (.w .g), (.p false), (.b false), .g, (.c (.tuple #[.agg #[.int .i64 y17.1, .int .i64 y17.2.1, (sv u18_0), .int .i64 y17.2.2.2.1], .int .i64 y17.2.2.2.2]) h18), .g, .g, .g, .g, .g, .g, .g, (.c (.bool y20) h18), .g, .g, (.b false), .g, .g, .g, .g, (.b false), .g, (.c (.int .i64 y26) h27), .g, .g, .g, (.b false), .g, .g, (.b true), .g, .g, .g, (.w .g), (.w .g), (.w .g), (.p true), .g, (.w .g), (.w .g), (.w .g), (.p true), .g, (.w .g), (.w .g), (.w (.ln y17.2.2.1.length)), (.w .g), (.p true), .g, .n, .n, .n, (.p false), .g]) (args := [.agg #[.int .i64 x1, .int .i64 x2, .bool x3, (sv v4), (sv v5), (sv v6)]]) (h := h) (h' := h27) (v := .bool false) (hC := (ai c34 (ai (g_ft c34) (ai (g_ft c34) (ai (g_ft c34) kc34))))) (hr := by kernel_rfl)⟩
                  · intro hr
                    obtain rfl := Option.some.inj hr
                    exact ⟨h27, Heapy.pick hp27 [] (by decide), pFun_sound good tab_ok (f := 3) (its := [.g, .g, (.c (.bool y7) h8), .g, .g, (.w .g), (.w (.c (.bool y12) h8)), (.w .g), (.p false), (.b false), .g, (.c (.tuple #[.agg #[.int .i64 y17.1, .int .i64 y17.2.1, (sv u18_0), .int .i64 y17.2.2.2.1], .int .i64 y17.2.2.2.2]) h18), .g, .g, .g, .g, .g, .g, .g, (.c (.bool y20) h18), .g, .g, (.b false), .g, .g, .g, .g, (.b false), .g, (.c (.int .i64 y26) h27), .g, .g, .g, (.b false), .g, .g, (.b true), .g, .g, .g, (.w .g), (.w .g), (.w .g), (.p true), .g, (.w .g), (.w .g), (.w .g), (.p true), .g, .n, .n, .n, .n, (.p false), .g, .n, .n, .n, .g, .g]) (args := [.agg #[.int .i64 x1, .int .i64 x2, .bool x3, (sv v4), (sv v5), (sv v6)]]) (h := h) (h' := h27) (v := .bool false) (hC := (ai (g_ft l_f) (ai (g_ft l_f) (ai (g_ft l_f) (ai c33 (ai (g_ft c33) (ai (g_ft c33) (ai (g_ft c33) (ai (g_ft c33) kc33))))))))) (hr := by kernel_rfl)⟩
                · intro hr
                  obtain rfl := Option.some.inj hr
                  exact ⟨h27, Heapy.pick hp27 [] (by decide), pFun_sound good tab_ok (f := 3) (its := [.g, .g, (.c (.bool y7) h8), .g, .g, (.w .g), (.w (.c (.bool y12) h8)), (.w .g), (.p false), (.b false), .g, (.c (.tuple #[.agg #[.int .i64 y17.1, .int .i64 y17.2.1, (sv u18_0), .int .i64 y17.2.2.2.1], .int .i64 y17.2.2.2.2]) h18), .g, .g, .g, .g, .g, .g, .g, (.c (.bool y20) h18), .g, .g, (.b false), .g, .g, .g, .g, (.b false), .g, (.c (.int .i64 y26) h27), .g, .g, .g, (.b false), .g, .g, (.b true), .g, .g, .g, (.w .g), (.w .g), (.w .g), (.p true), .g, .n, .n, .n, (.p false), .g, .n, .n, .n, .n, .g, .g, .n, .n, .n, .g, .g]) (args := [.agg #[.int .i64 x1, .int .i64 x2, .bool x3, (sv v4), (sv v5), (sv v6)]]) (h := h) (h' := h27) (v := .bool false) (hC := (ai (g_ft l_f) (ai (g_ft l_f) (ai (g_ft l_f) (ai (g_ft l_f) (ai (g_ft l_f) (ai (g_ft l_f) (ai (g_ft l_f) (ai c32 (ai (g_ft c32) (ai (g_ft c32) (ai (g_ft c32) kc32)))))))))))) (hr := by kernel_rfl)⟩
              · intro hr
                obtain rfl := Option.some.inj hr
                exact ⟨h27, Heapy.pick hp27 [] (by decide), pFun_sound good tab_ok (f := 3) (its := [.g, .g, (.c (.bool y7) h8), .g, .g, (.w .g), (.w (.c (.bool y12) h8)), (.w .g), (.p false), (.b false), .g, (.c (.tuple #[.agg #[.int .i64 y17.1, .int .i64 y17.2.1, (sv u18_0), .int .i64 y17.2.2.2.1], .int .i64 y17.2.2.2.2]) h18), .g, .g, .g, .g, .g, .g, .g, (.c (.bool y20) h18), .g, .g, (.b false), .g, .g, .g, .g, (.b false), .g, (.c (.int .i64 y26) h27), .g, .g, .g, (.b false), .g, .g, (.b true), .g, .g, .g, .n, .n, .n, (.p false), .g, .n, .n, .n, .g, .g, .n, .n, .n, .n, .g, .g, .n, .n, .n, .g, .g]) (args := [.agg #[.int .i64 x1, .int .i64 x2, .bool x3, (sv v4), (sv v5), (sv v6)]]) (h := h) (h' := h27) (v := .bool false) (hC := (ai (g_ft l_f) (ai (g_ft l_f) (ai (g_ft l_f) (ai (g_ft l_f) (ai (g_ft l_f) (ai (g_ft l_f) (ai (g_ft l_f) (ai (g_ft l_f) (ai (g_ft l_f) (ai (g_ft l_f) (ai c31 (ai (g_ft c31) (ai (g_ft c31) (ai (g_ft c31) kc31))))))))))))))) (hr := by kernel_rfl)⟩
            · have kc35 := (ai c30 kc30)
              refine dec_bif (fun c35 => ?_) (fun c35 => ?_)
              · have kc36 := (ai c35 (ai (g_tt c35) (ai (g_tt c35) (ai (g_tt c35) kc35))))
                refine dec_bif (fun c36 => ?_) (fun c36 => ?_)
                · have kc37 := (ai c36 (ai (g_tt c36) (ai (g_tt c36) (ai (g_tt c36) (ai (g_tt c36) kc36)))))
                  refine dec_bif (fun c37 => ?_) (fun c37 => ?_)
                  · have kc38 := (ai c37 (ai (g_tt c37) (ai (g_tt c37) (ai (g_tt c37) kc37))))
                    refine dec_bif (fun c38 => ?_) (fun c38 => ?_)
                    · refine bind_opt fun y39 e39 => ?_
                      have kc41 := (ai c38 (ai (F16_spec x1 x2 x3 l4 l5 l6 y17.1 y17.2.1 y17.2.2.1 y17.2.2.2.1 v4 v5 v6 u18_0 h27 (SlE.mono hv4 (Heapy.sub hp27) (E57_mono (Heapy.sub hp27))) (SlE.mono hv5 (Heapy.sub hp27) (E59_mono (Heapy.sub hp27))) (SlE.mono hv6 (Heapy.sub hp27) (E61_mono (Heapy.sub hp27))) (Heapy.sle (v := u18_0) (xs := y17.2.2.1) (enc := enc3) hp27 0 rfl (fun _ => rfl) (by decide)) _ e39) (ai (g_tt c38) (ai (g_tt c38) (ai (g_tt c38) kc38)))))
                      refine dec_bif (fun c41 => ?_) (fun c41 => ?_)
                      · refine bind_opt fun y42 e42 => ?_
                        obtain ⟨h43, q43, c43⟩ := F17_spec x1 x2 x3 l4 l5 l6 y17.1 y17.2.1 y17.2.2.1 y17.2.2.2.1 v4 v5 v6 u18_0 h27 (Heapy.wf hp27) (SlE.mono hv4 (Heapy.sub hp27) (E57_mono (Heapy.sub hp27))) (SlE.mono hv5 (Heapy.sub hp27) (E59_mono (Heapy.sub hp27))) (SlE.mono hv6 (Heapy.sub hp27) (E61_mono (Heapy.sub hp27))) (Heapy.sle (v := u18_0) (xs := y17.2.2.1) (enc := enc3) hp27 0 rfl (fun _ => rfl) (by decide)) _ e42
                        have hp43 : Heapy h h43 [⟨u18_0, 3, 1, List.flatMap enc3 y17.2.2.1⟩] := Heapy.call hp27 q43
                        intro hr
                        obtain rfl := Option.some.inj hr
                        exact ⟨h43, Heapy.pick hp43 [] (by decide), pFun_sound good tab_ok (f := 3) (its := [.g, .g, (.c (.bool y7) h8), .g, .g, (.w .g), (.w (.c (.bool y12) h8)), (.w .g), (.p false), (.b false), .g, (.c (.tuple #[.agg #[.int .i64 y17.1, .int .i64 y17.2.1, (sv u18_0), .int .i64 y17.2.2.2.1], .int .i64 y17.2.2.2.2]) h18), .g, .g, .g, .g, .g, .g, .g, (.c (.bool y20) h18), .g, .g, (.b false), .g, .g, .g, .g, (.b false), .g, (.c (.int .i64 y26) h27), .g, .g, .g, (.b false), .g, .g, (.b false), .g, .g, .g, (.w .g), (.w .g), (.w .g), (.p true), .g, (.w .g), (.w .g), (.w .g), (.w .g), (.p true), .g, (.w .g), (.w .g), (.w .g), (.p true), .g, (.w .g), (.w .g), (.w (.c (.bool y39) h27)), (.p true), .g, (.w .g), (.w .g), (.w (.c (.bool y42) h43)), (.p true), .g]) (args := [.agg #[.int .i64 x1, .int .i64 x2, .bool x3, (sv v4), (sv v5), (sv v6)]]) (h := h) (h' := h43) (v := .bool y42) (hC := (ai c41 (ai c43 (ai (g_tt c41) (ai (g_tt c41) (ai (g_tt c41) kc41)))))) (hr := by kernel_rfl)⟩
                      · intro hr
                        obtain rfl := Option.some.inj hr
                        exact ⟨h27, Heapy.pick hp27 [] (by decide), pFun_sound good tab_ok (f := 3) (its := [.g, .g, (.c (.bool y7) h8), .g, .g, (.w .g), (.w (.c (.bool y12) h8)), (.w .g), (.p false), (.b false), .g, (.c (.tuple #[.agg #[.int .i64 y17.1, .int .i64 y17.2.1, (sv u18_0), .int .i64 y17.2.2.2.1], .int .i64 y17.2.2.2.2]) h18), .g, .g, .g, .g, .g, .g, .g, (.c (.bool y20) h18), .g, .g, (.b false), .g, .g, .g, .g, (.b false), .g, (.c (.int .i64 y26) h27), .g, .g, .g, (.b false), .g, .g, (.b false), .g, .g, .g, (.w .g), (.w .g), (.w .g), (.p true), .g, (.w .g), (.w .g), (.w .g), (.w .g), (.p true), .g, (.w .g), (.w .g), (.w .g), (.p true), .g, (.w .g), (.w .g), (.w (.c (.bool y39) h27)), (.p true), .g, .n, .n, .n, (.p false), .g]) (args := [.agg #[.int .i64 x1, .int .i64 x2, .bool x3, (sv v4), (sv v5), (sv v6)]]) (h := h) (h' := h27) (v := .bool false) (hC := (ai c41 (ai (g_ft c41) (ai (g_ft c41) (ai (g_ft c41) kc41))))) (hr := by kernel_rfl)⟩
                    · intro hr
                      obtain rfl := Option.some.inj hr
                      exact ⟨h27, Heapy.pick hp27 [] (by decide), pFun_sound good tab_ok (f := 3) (its := [.g, .g, (.c (.bool y7) h8), .g, .g, (.w .g), (.w (.c (.bool y12) h8)), (.w .g), (.p false), (.b false), .g, (.c (.tuple #[.agg #[.int .i64 y17.1, .int .i64 y17.2.1, (sv u18_0), .int .i64 y17.2.2.2.1], .int .i64 y17.2.2.2.2]) h18), .g, .g, .g, .g, .g, .g, .g, (.c (.bool y20) h18), .g, .g, (.b false), .g, .g, .g, .g, (.b false), .g, (.c (.int .i64 y26) h27), .g, .g, .g, (.b false), .g, .g, (.b false), .g, .g, .g, (.w .g), (.w .g), (.w .g), (.p true), .g, (.w .g), (.w .g), (.w .g), (.w .g), (.p true), .g, (.w .g), (.w .g), (.w .g), (.p true), .g, .n, .n, .n, (.p false), .g, .n, .n, .n, .g, .g]) (args := [.agg #[.int .i64 x1, .int .i64 x2, .bool x3, (sv v4), (sv v5), (sv v6)]]) (h := h) (h' := h27) (v := .bool false) (hC := (ai (g_ft l_f) (ai (g_ft l_f) (ai (g_ft l_f) (ai c38 (ai (g_ft c38) (ai (g_ft c38) (ai (g_ft c38) kc38)))))))) (hr := by kernel_rfl)⟩
                  · intro hr
                    obtain rfl := Option.some.inj hr
                    exact ⟨h27, Heapy.pick hp27 [] (by decide), pFun_sound good tab_ok (f := 3) (its := [.g, .g, (.c (.bool y7) h8), .g, .g, (.w .g), (.w (.c (.bool y12) h8)), (.w .g), (.p false), (.b false), .g, (.c (.tuple #[.agg #[.int .i64 y17.1, .int .i64 y17.2.1, (sv u18_0), .int .i64 y17.2.2.2.1], .int .i64 y17.2.2.2.2]) h18), .g, .g, .g, .g, .g, .g, .g, (.c (.bool y20) h18), .g, .g, (.b false), .g, .g, .g, .g, (.b false), .g, (.c (.int .i64 y26) h27), .g, .g, .g, (.b false), .g, .g, (.b false), .g, .g, .g, (.w .g), (.w .g), (.w .g), (.p true), .g, (.w .g), (.w .g), (.w .g), (.w .g), (.p true), .g, .n, .n, .n, (.p false), .g, .n, .n, .n, .g, .g, .n, .n, .n, .g, .g]) (args := [.agg #[.int .i64 x1, .int .i64 x2, .bool x3, (sv v4), (sv v5), (sv v6)]]) (h := h) (h' := h27) (v := .bool false) (hC := (ai (g_ft l_f) (ai (g_ft l_f) (ai (g_ft l_f) (ai (g_ft l_f) (ai (g_ft l_f) (ai (g_ft l_f) (ai c37 (ai (g_ft c37) (ai (g_ft c37) (ai (g_ft c37) kc37))))))))))) (hr := by kernel_rfl)⟩
                · intro hr
                  obtain rfl := Option.some.inj hr
                  exact ⟨h27, Heapy.pick hp27 [] (by decide), pFun_sound good tab_ok (f := 3) (its := [.g, .g, (.c (.bool y7) h8), .g, .g, (.w .g), (.w (.c (.bool y12) h8)), (.w .g), (.p false), (.b false), .g, (.c (.tuple #[.agg #[.int .i64 y17.1, .int .i64 y17.2.1, (sv u18_0), .int .i64 y17.2.2.2.1], .int .i64 y17.2.2.2.2]) h18), .g, .g, .g, .g, .g, .g, .g, (.c (.bool y20) h18), .g, .g, (.b false), .g, .g, .g, .g, (.b false), .g, (.c (.int .i64 y26) h27), .g, .g, .g, (.b false), .g, .g, (.b false), .g, .g, .g, (.w .g), (.w .g), (.w .g), (.p true), .g, .n, .n, .n, .n, (.p false), .g, .n, .n, .n, .g, .g, .n, .n, .n, .g, .g, .n, .n, .n, .g, .g]) (args := [.agg #[.int .i64 x1, .int .i64 x2, .bool x3, (sv v4), (sv v5), (sv v6)]]) (h := h) (h' := h27) (v := .bool false) (hC := (ai (g_ft l_f) (ai (g_ft l_f) (ai (g_ft l_f) (ai (g_ft l_f) (ai (g_ft l_f) (ai (g_ft l_f) (ai (g_ft l_f) (ai (g_ft l_f) (ai (g_ft l_f) (ai c36 (ai (g_ft c36) (ai (g_ft c36) (ai (g_ft c36) (ai (g_ft c36) kc36))))))))))))))) (hr := by kernel_rfl)⟩
              · intro hr
                obtain rfl := Option.some.inj hr
                exact ⟨h27, Heapy.pick hp27 [] (by decide), pFun_sound good tab_ok (f := 3) (its := [.g, .g, (.c (.bool y7) h8), .g, .g, (.w .g), (.w (.c (.bool y12) h8)), (.w .g), (.p false), (.b false), .g, (.c (.tuple #[.agg #[.int .i64 y17.1, .int .i64 y17.2.1, (sv u18_0), .int .i64 y17.2.2.2.1], .int .i64 y17.2.2.2.2]) h18), .g, .g, .g, .g, .g, .g, .g, (.c (.bool y20) h18), .g, .g, (.b false), .g, .g, .g, .g, (.b false), .g, (.c (.int .i64 y26) h27), .g, .g, .g, (.b false), .g, .g, (.b false), .g, .g, .g, .n, .n, .n, (.p false), .g, .n, .n, .n, .n, .g, .g, .n, .n, .n, .g, .g, .n, .n, .n, .g, .g, .n, .n, .n, .g, .g]) (args := [.agg #[.int .i64 x1, .int .i64 x2, .bool x3, (sv v4), (sv v5), (sv v6)]]) (h := h) (h' := h27) (v := .bool false) (hC := (ai (g_ft l_f) (ai (g_ft l_f) (ai (g_ft l_f) (ai (g_ft l_f) (ai (g_ft l_f) (ai (g_ft l_f) (ai (g_ft l_f) (ai (g_ft l_f) (ai (g_ft l_f) (ai (g_ft l_f) (ai (g_ft l_f) (ai (g_ft l_f) (ai (g_ft l_f) (ai c35 (ai (g_ft c35) (ai (g_ft c35) (ai (g_ft c35) kc35)))))))))))))))))) (hr := by kernel_rfl)⟩
set_option maxRecDepth 100000 in
theorem F3_law (H : ∀ (x1 : Int) (x2 : Int) (x3 : Bool) (l4 : List (Int × Int × Int × Int)) (l5 : List (Int × Int × Int × Int)) (l6 : List (Int × Int)), (Lit.int .i64 x1).wf = true → (Lit.int .i64 x2).wf = true → (l4.length ≤ maxLen ∧ l4.length * 32 ≤ reachBytes) → (∀ y ∈ l4, W57 y) → (l5.length ≤ maxLen ∧ l5.length * 32 ≤ reachBytes) → (∀ y ∈ l5, W59 y) → (l6.length ≤ maxLen ∧ l6.length * 16 ≤ reachBytes) → (∀ y ∈ l6, W61 y) → F3 x1 x2 x3 l4 l5 l6 = some true) : Law Try.prog 3 10 [26] := by
  intro s us hwf hro hT0
  obtain ⟨u0, vs0, rfl, t0, hT1⟩ := wts_cons hT0
  obtain ⟨cs0, rfl, k0⟩ := wtv_aggS 4 (ks := [.int .i64, .int .i64, .bool, .slice 57, .slice 59, .slice 61]) (by kernel_rfl) (by kernel_rfl) t0
  obtain ⟨x1, r_x1, rfl, w_x1, k0_0⟩ := sq_int k0
  obtain ⟨x2, r_x2, rfl, w_x2, k0_1⟩ := sq_int k0_0
  obtain ⟨x3, r_x3, rfl, k0_2⟩ := sq_bool k0_1
  obtain ⟨v4, r_l4, rfl, q_l4, k0_3⟩ := sq_slice k0_2
  obtain ⟨l4, a_l4, m_l4, w_l4⟩ := q_l4 E57 W57 4 (by kernel_rfl) fun n cs H => E57_wt H
  obtain ⟨v5, r_l5, rfl, q_l5, k0_4⟩ := sq_slice k0_3
  obtain ⟨l5, a_l5, m_l5, w_l5⟩ := q_l5 E59 W59 4 (by kernel_rfl) fun n cs H => E59_wt H
  obtain ⟨v6, r_l6, rfl, q_l6, k0_5⟩ := sq_slice k0_4
  obtain ⟨l6, a_l6, m_l6, w_l6⟩ := q_l6 E61 W61 2 (by kernel_rfl) fun n cs H => E61_wt H
  obtain rfl := sq_nil k0_5
  obtain rfl := wts_nil hT1
  obtain ⟨h2, _, hc⟩ := F3_spec x1 x2 x3 l4 l5 l6 v4 v5 v6 s hwf a_l4 a_l5 a_l6 _ (H x1 x2 x3 l4 l5 l6 w_x1 w_x2 m_l4 w_l4 m_l5 w_l5 m_l6 w_l6)
  refine (hc).mono ?_
  rintro v h' ⟨rfl, rfl⟩
  rfl
/-! 52 jacquard/jacquardref30.Bound -/
def F52__1 (y4 : Int) : Int := (if 1073741824 < (if (-1073741824) > y4 then (-1073741824) else y4) then 1073741824 else (if (-1073741824) > y4 then (-1073741824) else y4))
def F52 (l1 : List Int) (x2 : Int) : Option (Int) :=
  (bif decide (x2 ≥ (l1.length : Int)) then
   some (0)
  else
   (Option.bind (at? l1 x2) fun y4 =>
   some (F52__1 y4)))
set_option maxRecDepth 100000 in
theorem F52_spec (l1 : List Int) (x2 : Int) (v1 : Hd) (h : AHeap) (hv1 : SlE E3 1 h (sv v1) l1) (r : Int) : F52 l1 x2 = some r → ACalls Try.prog 52 [(sv v1), .int .i64 x2] h (fun v' h'' => v' = (.int .i64 r : Value) ∧ h'' = h) := by
  unfold F52
  have kc3 := (ai (SlE.len hv1) trivial)
  refine dec_bif (fun c3 => ?_) (fun c3 => ?_)
  · intro hr
    obtain rfl := Option.some.inj hr
    exact pFun_sound good tab_ok (f := 52) (its := [.g, .g, .g, (.ln l1.length), .g, (.b true), .g]) (args := [(sv v1), .int .i64 x2]) (h := h) (h' := h) (v := .int .i64 0) (hC := (ai c3 kc3)) (hr := by kernel_rfl)
  · refine bind_opt fun y4 e4 => ?_
    obtain ⟨id4, off4, g4, cs4, ix4, at4, rfl⟩ := SlE.at hv1 e4
    intro hr
    obtain rfl := Option.some.inj hr
    exact pFun_sound good tab_ok (f := 52) (its := [.g, .g, .g, (.ln l1.length), .g, (.b false), .g, .g, (.ix id4 off4 g4), (.ld (.int .i64 y4)), .g, .g, .g]) (args := [(sv v1), .int .i64 x2]) (h := h) (h' := h) (v := .int .i64 (F52__1 y4)) (hC := (ai (At.one (P := Try.prog) (t := 3) (v := .int .i64 y4) at4 (by kernel_rfl) 0 rfl rfl) (ai ix4 (ai c3 kc3)))) (hr := by kernel_rfl)
/-! 27 jacquard/jacquardref30.After -/
def F27_L : List Nat := []
def F27_D : List (Nat × List (Nat × Nat)) := [(13, [(0, 2), (1, 2), (2, 2), (4, 2), (5, 2), (6, 2), (8, 2), (7, 5), (9, 2), (10, 5), (3, 1), (11, 2), (12, 2), (13, 2)])]
def F27_m1_1 : List Bool := (true :: true :: true :: false :: (rp 6 true (false :: true :: false :: true :: false :: (rp 11 true (false :: false :: (rp 38 true []))))))
def F27_m1_0 : List Bool := (true :: true :: true :: false :: (rp 6 true (false :: true :: false :: false :: false :: (rp 11 true (false :: false :: (rp 6 true (false :: false :: (rp 30 true []))))))))
def F27_s1 (l4 : List Int) (y5 : (List (List Int)) × Bool) (a11 : Int) (a17 : Int) (a18 : Int) : Option ((Int × Int) ⊕ Int) :=
  (bif decide (a18 < (y5.1.length : Int)) then
   (Option.bind (at? y5.1 a18) fun y20 =>
   (Option.bind (at? y20 a11) fun y22 =>
   (bif decide (y22 > (-1152921504606846976)) then
    (Option.bind (F52 l4 a18) fun y25 =>
    some (.inl ((if (IntKind.i64.wrap (y25 + y22)) > a17 then (IntKind.i64.wrap (y25 + y22)) else a17), (IntKind.i64.wrap (a18 + 1)))))
   else
    some (.inl (a17, (IntKind.i64.wrap (a18 + 1)))))))
  else
   some (.inr a17))
def F27_h1 (v4 : Hd) (y5 : (List (List Int)) × Bool) (u6_0 : Hd) (a11 : Int) (u12 : Hd) (h13 : AHeap)  (a17 : Int) (a18 : Int) : AS := ⟨(junk :: junk :: junk :: (sv v4) :: (rp 6 junk ((sv u6_0) :: junk :: (sv u12) :: (.int .i64 a11) :: (.int .i64 a17) :: (rp 11 junk ((.int .i64 (y5.1.length : Int)) :: (.int .i64 a11) :: (rp 6 junk ((.int .i64 (y5.1.length : Int)) :: (.int .i64 a18) :: (rp 30 junk [])))))))), [], h13⟩
theorem F27_d1 : drawsOk F27_D (codeOf Try.prog 27 [1, 1, 1, 1, 0, 1, 0, 0, 1, 1, 0, 0, 1, 1, 0, 1, 0, 0]) = true := by kernel_rfl
def F27_x1_0 (v4 : Hd) (y5 : (List (List Int)) × Bool) (u6_0 : Hd) (a11 : Int) (u12 : Hd) (h13 : AHeap)  (r : Int) : AS := ⟨(junk :: junk :: junk :: (sv v4) :: (rp 6 junk ((sv u6_0) :: junk :: (sv u12) :: junk :: (.int .i64 r) :: (rp 11 junk ((.int .i64 (y5.1.length : Int)) :: (.int .i64 a11) :: (rp 38 junk [])))))), [], h13⟩
def F27_x1 (v4 : Hd) (y5 : (List (List Int)) × Bool) (u6_0 : Hd) (a11 : Int) (u12 : Hd) (h13 : AHeap) (r : Int) : Exit × AS := ((.exit 2), (F27_x1_0 v4 y5 u6_0 a11 u12 h13 r))
set_option maxRecDepth 100000 in
theorem F27_r1 (h : AHeap) (l4 : List Int) (v4 : Hd) (hv4 : SlE E3 1 h (sv v4) l4) (y5 : (List (List Int)) × Bool) (u6_0 : Hd) (u6_0h : List Hd) (a11 : Int) (l12 : List Int) (u12 : Hd) (h13 : AHeap) (hp13 : Heapy h h13 ([⟨u6_0, 29, 1, List.flatMap encH u6_0h⟩, ⟨u12, 3, 1, List.flatMap enc3 l12⟩] ++ NIn 3 1 enc3 u6_0h y5.1)) (a17 : Int) (a18 : Int) (o : (Int × Int) ⊕ Int) : F27_s1 l4 y5 a11 a17 a18 = some o → RdF Try.prog (codeOf Try.prog 27 [1, 1, 1, 1, 0, 1, 0, 0, 1, 1, 0, 0, 1, 1, 0, 1, 0, 0]) (fun (s : Int × Int) => (F27_h1 v4 y5 u6_0 a11 u12 h13 s.1 s.2)) (F27_x1 v4 y5 u6_0 a11 u12 h13) (F27_h1 v4 y5 u6_0 a11 u12 h13 a17 a18) o := by
  unfold F27_s1
  refine dec_bif (fun c19 => ?_) (fun c19 => ?_)
  · refine bind_opt fun y20 e20 => ?_
    obtain ⟨id20, off20, g20, cs20, ix20, _, _⟩ := SlE.at (Heapy.sle (v := u6_0) (xs := u6_0h) (enc := encH) hp13 0 rfl (fun _ => rfl) (by decide)) (Heapy.niat (A := [⟨u6_0, 29, 1, List.flatMap encH u6_0h⟩, ⟨u12, 3, 1, List.flatMap enc3 l12⟩]) (hs := u6_0h) (xss := y5.1) hp13 e20)
    have at21 : At h13 id20 off20 g20 (encH (hnth u6_0h a18)) := (SlE.atp (Heapy.sle (v := u6_0) (xs := u6_0h) (enc := encH) hp13 0 rfl (fun _ => rfl) (by decide)) ix20 (Heapy.niat (A := [⟨u6_0, 29, 1, List.flatMap encH u6_0h⟩, ⟨u12, 3, 1, List.flatMap enc3 l12⟩]) (hs := u6_0h) (xss := y5.1) hp13 e20)).elim fun cs k => by obtain ⟨k1, rfl⟩ := k; exact k1
    refine bind_opt fun y22 e22 => ?_
    obtain ⟨id22, off22, g22, cs22, ix22, at22, rfl⟩ := SlE.at (Heapy.nisle (A := [⟨u6_0, 29, 1, List.flatMap encH u6_0h⟩, ⟨u12, 3, 1, List.flatMap enc3 l12⟩]) (el := 3) (c := 1) (enc := enc3) (hs := u6_0h) (xss := y5.1) hp13 e20 (fun _ => rfl) (by decide)) e22
    have kc23 := (ai (At.one (P := Try.prog) (t := 3) (v := .int .i64 y22) at22 (by kernel_rfl) 0 rfl rfl) (ai ix22 (ai (At.one (P := Try.prog) (t := 29) (v := (sv (hnth u6_0h a18))) at21 (by kernel_rfl) 0 rfl rfl) (ai ix20 (ai c19 trivial)))))
    refine dec_bif (fun c23 => ?_) (fun c23 => ?_)
    · have at24 : At h13 id20 off20 g20 (encH (hnth u6_0h a18)) := (SlE.atp (Heapy.sle (v := u6_0) (xs := u6_0h) (enc := encH) hp13 0 rfl (fun _ => rfl) (by decide)) ix20 (Heapy.niat (A := [⟨u6_0, 29, 1, List.flatMap encH u6_0h⟩, ⟨u12, 3, 1, List.flatMap enc3 l12⟩]) (hs := u6_0h) (xss := y5.1) hp13 e20)).elim fun cs k => by obtain ⟨k1, rfl⟩ := k; exact k1
      refine bind_opt fun y25 e25 => ?_
      intro hr
      obtain rfl := Option.some.inj hr
      show AWp Try.prog _ (Ends1 .normal (F27_h1 v4 y5 u6_0 a11 u12 h13 (if (IntKind.i64.wrap (y25 + y22)) > a17 then (IntKind.i64.wrap (y25 + y22)) else a17) (IntKind.i64.wrap (a18 + 1)))) _
      exact pEnd_sound good (L := F27_L) (D := F27_D) (its := [.g, (.b true), .g, .g, .g, .g, (.ix id20 off20 g20), (.ld ((sv (hnth u6_0h a18)))), .g, (.ix id22 off22 g22), (.ld (.int .i64 y22)), .g, (.b true), .g, .g, .g, .g, .g, (.ix id20 off20 g20), .g, (.ld ((sv (hnth u6_0h a18)))), (.ix id22 off22 g22), (.ld (.int .i64 y22)), (.c (.int .i64 y25) h13), .g, .g, .g, .g, .g]) (ds := F27_m1_0) (ks := []) (e := .normal) (s2 := (F27_h1 v4 y5 u6_0 a11 u12 h13 (if (IntKind.i64.wrap (y25 + y22)) > a17 then (IntKind.i64.wrap (y25 + y22)) else a17) (IntKind.i64.wrap (a18 + 1)))) (hC := (ai (show AKeep h13 h13 from (AHeap.sub_refl h13)) (ai (F52_spec l4 a18 v4 h13 (SlE.mono hv4 (Heapy.sub hp13) (E3_mono (Heapy.sub hp13))) _ e25) (ai (At.one (P := Try.prog) (t := 3) (v := .int .i64 y22) at22 (by kernel_rfl) 0 rfl rfl) (ai ix22 (ai (At.one (P := Try.prog) (t := 29) (v := (sv (hnth u6_0h a18))) at24 (by kernel_rfl) 0 rfl rfl) (ai ix20 (ai c23 kc23)))))))) (hd := F27_d1) (h := by kernel_rfl)
    · intro hr
      obtain rfl := Option.some.inj hr
      show AWp Try.prog _ (Ends1 .normal (F27_h1 v4 y5 u6_0 a11 u12 h13 a17 (IntKind.i64.wrap (a18 + 1)))) _
      exact pEnd_sound good (L := F27_L) (D := F27_D) (its := [.g, (.b true), .g, .g, .g, .g, (.ix id20 off20 g20), (.ld ((sv (hnth u6_0h a18)))), .g, (.ix id22 off22 g22), (.ld (.int .i64 y22)), .g, (.b false), .g, .g]) (ds := F27_m1_0) (ks := []) (e := .normal) (s2 := (F27_h1 v4 y5 u6_0 a11 u12 h13 a17 (IntKind.i64.wrap (a18 + 1)))) (hC := (ai c23 kc23)) (hd := F27_d1) (h := by kernel_rfl)
  · intro hr
    obtain rfl := Option.some.inj hr
    show AWp Try.prog _ (Ends1 ((F27_x1 v4 y5 u6_0 a11 u12 h13) (a17 : Int)).1 ((F27_x1 v4 y5 u6_0 a11 u12 h13) (a17 : Int)).2) _
    exact pEnd_sound good (L := F27_L) (D := F27_D) (its := [.g, (.b false)]) (ds := F27_m1_1) (ks := []) (e := ((F27_x1 v4 y5 u6_0 a11 u12 h13) (a17 : Int)).1) (s2 := ((F27_x1 v4 y5 u6_0 a11 u12 h13) (a17 : Int)).2) (hC := (ai c19 trivial)) (hd := F27_d1) (h := by kernel_rfl)
theorem F27_l1_0 (h : AHeap) (l4 : List Int) (v4 : Hd) (hv4 : SlE E3 1 h (sv v4) l4) (y5 : (List (List Int)) × Bool) (u6_0 : Hd) (u6_0h : List Hd) (a11 : Int) (l12 : List Int) (u12 : Hd) (h13 : AHeap) (hp13 : Heapy h h13 ([⟨u6_0, 29, 1, List.flatMap encH u6_0h⟩, ⟨u12, 3, 1, List.flatMap enc3 l12⟩] ++ NIn 3 1 enc3 u6_0h y5.1)) (x : Int × Int) (r : Int) (hl : loopO (fun (s : Int × Int) => F27_s1 l4 y5 a11 s.1 s.2) x = some r) : AWp Try.prog (.loop (codeOf Try.prog 27 [1, 1, 1, 1, 0, 1, 0, 0, 1, 1, 0, 0, 1, 1, 0, 1, 0, 0])) (Ends1 (.exit 2) (F27_x1_0 v4 y5 u6_0 a11 u12 h13 r)) ((fun (s : Int × Int) => (F27_h1 v4 y5 u6_0 a11 u12 h13 s.1 s.2)) x) := by
  have k := loop_fun (P := Try.prog) (c := (codeOf Try.prog 27 [1, 1, 1, 1, 0, 1, 0, 0, 1, 1, 0, 0, 1, 1, 0, 1, 0, 0])) (step := (fun (s : Int × Int) => F27_s1 l4 y5 a11 s.1 s.2)) (hd := (fun (s : Int × Int) => (F27_h1 v4 y5 u6_0 a11 u12 h13 s.1 s.2))) (X := (F27_x1 v4 y5 u6_0 a11 u12 h13)) (by intro t; unfold F27_x1; intro h; cases h) (fun x => F27_r1 h l4 v4 hv4 y5 u6_0 u6_0h a11 l12 u12 h13 hp13 x.1 x.2) hl
  exact k
def F27_m2_1 : List Bool := (rp 12 true (false :: (rp 53 true [])))
def F27_m2_0 : List Bool := (true :: true :: true :: false :: (rp 6 true (false :: true :: false :: (rp 13 true (false :: false :: (rp 38 true []))))))
def F27_s2 (l4 : List Int) (y5 : (List (List Int)) × Bool) (a11 : Int) (l12 : List Int) : Option ((Int × (List Int)) ⊕ (List Int)) :=
  (bif decide (a11 < (y5.1.length : Int)) then
   (Option.bind (F52 l4 a11) fun y15 =>
   (Option.bind (loopO (fun (s : Int × Int) => F27_s1 l4 y5 a11 s.1 s.2) (y15, 0)) fun y27 =>
   (bif (!(okApp (l12.length + ([y27] : List Int).length) 8)) then none else
   some (.inl ((IntKind.i64.wrap (a11 + 1)), (l12 ++ ([y27] : List Int)))))))
  else
   some (.inr l12))
def F27_h2 (v4 : Hd) (y5 : (List (List Int)) × Bool) (u6_0 : Hd) (h13 : AHeap) (u12 : Hd) (a11 : Int) (l12 : List Int) : AS := ⟨(junk :: junk :: junk :: (sv v4) :: (rp 6 junk ((sv u6_0) :: junk :: (sv u12) :: (rp 13 junk ((.int .i64 (y5.1.length : Int)) :: (.int .i64 a11) :: (rp 38 junk [])))))), [], h13⟩
theorem F27_d2 : drawsOk F27_D (codeOf Try.prog 27 [1, 1, 1, 1, 0, 1, 0, 0]) = true := by kernel_rfl
def F27_x2_0 (h : AHeap) (hx : AHeap) (w0 : Hd) (r : (List Int)) : AS := ⟨(rp 12 junk ((sv w0) :: (rp 53 junk []))), [], hx⟩
def F27_i2 (h : AHeap) (v4 : Hd) (y5 : (List (List Int)) × Bool) (u6_0 : Hd) (u6_0h : List Hd) (s : Int × (List Int)) (S : AS) : Prop := ∃ (h13 : AHeap) (u12 : Hd), Heapy h h13 ([⟨u6_0, 29, 1, List.flatMap encH u6_0h⟩, ⟨u12, 3, 1, List.flatMap enc3 s.2⟩] ++ NIn 3 1 enc3 u6_0h y5.1) ∧ Strict u12 ∧ S = (F27_h2 v4 y5 u6_0 h13 u12 s.1 s.2)
def F27_x2 (h : AHeap) (r : (List Int)) (e : Exit) (S : AS) : Prop := e = (.exit 0) ∧ ∃ (hx : AHeap) (w0 : Hd), Heapy h hx [⟨w0, 3, 1, List.flatMap enc3 r⟩] ∧ Strict w0 ∧ S = (F27_x2_0 h hx w0 r)
set_option maxRecDepth 100000 in
theorem F27_r2 (h : AHeap) (l4 : List Int) (v4 : Hd) (hv4 : SlE E3 1 h (sv v4) l4) (y5 : (List (List Int)) × Bool) (u6_0 : Hd) (u6_0h : List Hd) (a11 : Int) (l12 : List Int) (S : AS) (hI : (F27_i2 h v4 y5 u6_0 u6_0h) (a11, l12) S) (o : (Int × (List Int)) ⊕ (List Int)) : F27_s2 l4 y5 a11 l12 = some o → Rd Try.prog (codeOf Try.prog 27 [1, 1, 1, 1, 0, 1, 0, 0]) (F27_i2 h v4 y5 u6_0 u6_0h) (F27_x2 h) S o := by
  obtain ⟨h13, u12, hp13, z12, rfl⟩ := hI
  unfold F27_s2
  refine dec_bif (fun c14 => ?_) (fun c14 => ?_)
  · refine bind_opt fun y15 e15 => ?_
    refine bind_opt fun y27 e27 => ?_
    obtain ⟨v28, h28, m28, hp28, _⟩ := Heapy.build (P := Try.prog) hp13 (t := 29) (e := 3) (len := 1) (n := 1) (parts := [(0, .int .i64 y27)]) (cells := List.flatMap enc3 ([y27] : List Int)) (by kernel_rfl) rfl
    refine guard_ok fun g30 => ?_
    obtain ⟨v31, h31, m31, q31, _, w31⟩ := Heapy.append hp28 (show mkInfo Try.prog 29 = some (3, 1, 8, [.int .i64 0]) by kernel_rfl) 2 (v := u12) (cells := List.flatMap enc3 l12) rfl (Y := (sv v28)) (SlE.src (enc := enc3) (c := 1) (Heapy.sle (v := v28) (xs := ([y27] : List Int)) (enc := enc3) hp28 0 rfl (fun _ => rfl) (by decide)) (fun _ => rfl)) (flatMap_length (enc := enc3) (c := 1) (fun _ => rfl) _) (by rw [Heapy.vn (v := u12) (xs := l12) (enc := enc3) hp28 2 rfl (fun _ => rfl) (by decide)]; simpa using g30)
    have z31 : Strict v31 := w31 z12
    have hp31 : Heapy h h31 ([⟨v28, 3, 1, List.flatMap enc3 ([y27] : List Int)⟩, ⟨u6_0, 29, 1, List.flatMap encH u6_0h⟩, ⟨v31, 3, 1, List.flatMap enc3 (l12 ++ ([y27] : List Int))⟩] ++ NIn 3 1 enc3 u6_0h y5.1) := by rw [← List.flatMap_append] at q31; exact q31
    intro hr
    obtain rfl := Option.some.inj hr
    exact ⟨(F27_h2 v4 y5 u6_0 h31 v31 (IntKind.i64.wrap (a11 + 1)) (l12 ++ ([y27] : List Int))), ⟨h31, v31, (Heapy.pickN2 (A := [⟨v28, 3, 1, List.flatMap enc3 ([y27] : List Int)⟩, ⟨u6_0, 29, 1, List.flatMap encH u6_0h⟩, ⟨v31, 3, 1, List.flatMap enc3 (l12 ++ ([y27] : List Int))⟩]) (N := NIn 3 1 enc3 u6_0h y5.1) hp31 3 rfl [1, 2] (by decide) rfl), z31, rfl⟩, pEnd_sound good (L := F27_L) (D := F27_D) (its := [.g, (.b true), .g, .g, .g, .g, (.c (.int .i64 y15) h13), .g, .g, (.ln y5.1.length), .g, (.l F27_m1_0 [] (.exit 2) (F27_x1_0 v4 y5 u6_0 a11 u12 h13 y27)), .g, .g, (.mm (sv v28) h28), (.mm (sv v31) h31), .g, .g, .g]) (ds := F27_m2_0) (ks := []) (e := .normal) (s2 := (F27_h2 v4 y5 u6_0 h31 v31 (IntKind.i64.wrap (a11 + 1)) (l12 ++ ([y27] : List Int)))) (hC := (ai m31 (ai m28 (ai (F27_l1_0 h l4 v4 hv4 y5 u6_0 u6_0h a11 l12 u12 h13 hp13 (y15, 0) y27 e27) (ai (Heapy.nivn (A := [⟨u6_0, 29, 1, List.flatMap encH u6_0h⟩, ⟨u12, 3, 1, List.flatMap enc3 l12⟩]) (hs := u6_0h) (xss := y5.1) (eo := 29) hp13 0 rfl) (ai (F52_spec l4 a11 v4 h13 (SlE.mono hv4 (Heapy.sub hp13) (E3_mono (Heapy.sub hp13))) _ e15) (ai c14 trivial))))))) (hd := F27_d2) (h := by kernel_rfl)⟩
  · intro hr
    obtain rfl := Option.some.inj hr
    refine ⟨(.exit 0), (F27_x2_0 h h13 u12 (l12 : (List Int))), (by intro hh; cases hh), ?_, pEnd_sound good (L := F27_L) (D := F27_D) (its := [.g, (.b false)]) (ds := F27_m2_1) (ks := []) (e := (.exit 0)) (s2 := (F27_x2_0 h h13 u12 (l12 : (List Int)))) (hC := (ai c14 trivial)) (hd := F27_d2) (h := by kernel_rfl)⟩
    exact ⟨rfl, h13, u12, (Heapy.pick (Heapy.head (A := [⟨u6_0, 29, 1, List.flatMap encH u6_0h⟩, ⟨u12, 3, 1, List.flatMap enc3 l12⟩]) (N := NIn 3 1 enc3 u6_0h y5.1) hp13) [1] (by decide)), z12, rfl⟩
theorem F27_l2 (h : AHeap) (l4 : List Int) (v4 : Hd) (hv4 : SlE E3 1 h (sv v4) l4) (y5 : (List (List Int)) × Bool) (u6_0 : Hd) (u6_0h : List Hd) (x : Int × (List Int)) (r : (List Int)) (hl : loopO (fun (s : Int × (List Int)) => F27_s2 l4 y5 s.1 s.2) x = some r) (S : AS) (hI : (F27_i2 h v4 y5 u6_0 u6_0h) x S) : ∃ e S', (F27_x2 h) r e S' ∧ AWp Try.prog (.loop (codeOf Try.prog 27 [1, 1, 1, 1, 0, 1, 0, 0])) (Ends1 e S') S :=
  loop_rel (fun x S hI => F27_r2 h l4 v4 hv4 y5 u6_0 u6_0h x.1 x.2 S hI) hl hI
def F27 (x1 : Int) (l2 : List (Int × Int × Int × Int)) (x3 : Int) (l4 : List Int) : Option ((List Int) × Bool) :=
  (Option.bind (F51 x1 l2 x3) fun y5 =>
  (bif (!y5.2) then
   some ([], false)
  else
   (Option.bind (loopO (fun (s : Int × (List Int)) => F27_s2 l4 y5 s.1 s.2) (0, ([] : List Int))) fun y33 =>
   some (y33, true))))
set_option maxRecDepth 100000 in
theorem F27_spec (x1 : Int) (l2 : List (Int × Int × Int × Int)) (x3 : Int) (l4 : List Int) (v2 : Hd) (v4 : Hd) (h : AHeap) (hw : h.wf) (hv2 : SlE E57 4 h (sv v2) l2) (hv4 : SlE E3 1 h (sv v4) l4) (r : (List Int) × Bool) : F27 x1 l2 x3 l4 = some r → ∃ (ur0 : Hd) (h' : AHeap), Heapy h h' [⟨ur0, 3, 1, List.flatMap enc3 r.1⟩] ∧ Strict ur0 ∧ ACalls Try.prog 27 [.int .i64 x1, (sv v2), .int .i64 x3, (sv v4)] h (fun v' h'' => v' = (.tuple #[(sv ur0), .bool r.2] : Value) ∧ h'' = h') := by
  unfold F27
  refine bind_opt fun y5 e5 => ?_
  obtain ⟨u6_0, u6_0h, h6, q6, c6⟩ := F51_spec x1 l2 x3 v2 h hw hv2 _ e5
  have hp6 : Heapy h h6 ([⟨u6_0, 29, 1, List.flatMap encH u6_0h⟩] ++ NIn 3 1 enc3 u6_0h y5.1) := Heapy.callN (Heapy.refl hw) q6
  have kc8 := (ai c6 trivial)
  refine dec_bif (fun c8 => ?_) (fun c8 => ?_)
  · intro hr
    obtain rfl := Option.some.inj hr
    exact ⟨⟨none, 0, 0⟩, h6, Heapy.pick (Heapy.nil (Heapy.head (A := [⟨u6_0, 29, 1, List.flatMap encH u6_0h⟩]) (N := NIn 3 1 enc3 u6_0h y5.1) hp6) 3 1) [0] (by decide), Strict.nil, pFun_sound good tab_ok (f := 27) (its := [.g, .g, .g, .g, .g, (.c (.tuple #[(sv u6_0), .bool y5.2]) h6), .g, .g, .g, .g, .g, .g, .g, (.b true), .g, .g]) (args := [.int .i64 x1, (sv v2), .int .i64 x3, (sv v4)]) (h := h) (h' := h6) (v := .tuple #[.slice none 0 0, .bool false]) (hC := (ai c8 kc8)) (hr := by kernel_rfl)⟩
  · refine bind_opt fun y33 e33 => ?_
    have hp9 : Heapy h h6 ([⟨⟨none, 0, 0⟩, 3, 1, List.flatMap enc3 ([] : List Int)⟩, ⟨u6_0, 29, 1, List.flatMap encH u6_0h⟩] ++ NIn 3 1 enc3 u6_0h y5.1) := Heapy.nil hp6 3 1
    obtain ⟨ee33, SS33, hX33, hA33⟩ := F27_l2 h l4 v4 hv4 y5 u6_0 u6_0h (0, ([] : List Int)) y33 e33 (F27_h2 v4 y5 u6_0 h6 ⟨none, 0, 0⟩ 0 ([] : List Int)) ⟨h6, ⟨none, 0, 0⟩, (Heapy.pickN2 (A := [⟨⟨none, 0, 0⟩, 3, 1, List.flatMap enc3 ([] : List Int)⟩, ⟨u6_0, 29, 1, List.flatMap encH u6_0h⟩]) (N := NIn 3 1 enc3 u6_0h y5.1) hp9 2 rfl [1, 0] (by decide) rfl), Strict.nil, rfl⟩
    obtain ⟨rfl, h34, w0_34, hp34, zw0_34, rfl⟩ := hX33
    intro hr
    obtain rfl := Option.some.inj hr
    exact ⟨w0_34, h34, Heapy.pick hp34 [0] (by decide), zw0_34, pFun_sound good tab_ok (f := 27) (its := [.g, .g, .g, .g, .g, (.c (.tuple #[(sv u6_0), .bool y5.2]) h6), .g, .g, .g, .g, .g, .g, .g, (.b false), .g, .g, (.ln y5.1.length), .g, (.l F27_m2_0 [] (.exit 0) (F27_x2_0 h h34 w0_34 y33)), .g, .g, .g]) (args := [.int .i64 x1, (sv v2), .int .i64 x3, (sv v4)]) (h := h) (h' := h34) (v := .tuple #[(sv w0_34), .bool true]) (hC := (ai hA33 (ai (Heapy.nivn (A := [⟨u6_0, 29, 1, List.flatMap encH u6_0h⟩]) (hs := u6_0h) (xss := y5.1) (eo := 29) hp6 0 rfl) (ai c8 kc8)))) (hr := by kernel_rfl)⟩
end
end Go.Proofs.Ytimeninncpmaeaa.Abs
