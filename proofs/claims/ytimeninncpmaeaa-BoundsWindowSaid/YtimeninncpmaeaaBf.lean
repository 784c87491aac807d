/-
  Contracts, written by program: for each function what its call yields, and that it yields it.
-/
import Derived.Test.YtimeninncpmaeaaBfb
namespace Go.Proofs.Ytimeninncpmaeaa.Abs
open Go
set_option linter.unusedVariables false
set_option linter.unusedSimpArgs false

noncomputable section
/-! 52 jacquard/jacquardref30.Bound -/
def F52__1 (y4 : Int) : Int := (if 1073741824 < (if (-1073741824) > y4 then (-1073741824) else y4) then 1073741824 else (if (-1073741824) > y4 then (-1073741824) else y4))
def F52 (l1 : List Int) (x2 : Int) : Option (Int) :=
  (bif decide (x2 ≥ (l1.length : Int)) then
   some (0)
  else
   (Option.bind (at? l1 x2) fun y4 =>
   some (F52__1 y4)))
set_option maxRecDepth 100000 in
theorem F52_spec (l1 : List Int) (x2 : Int) (v1 : Hd) (h : AHeap) (hv1 : SlE E3 1 h (sv v1) l1) (r : Int) : F52 l1 x2 = some r → ACalls Try.prog 52 [(sv v1), .int .i64 x2] h (fun v' h'' => v' = (.int .i64 r : Value) ∧ h'' = h) := by
  unfold F52
  have kc3 := (ai (SlE.len hv1) trivial)
  refine dec_bif (fun c3 => ?_) (fun c3 => ?_)
  · intro hr
    obtain rfl := Option.some.inj hr
    exact pFun_sound good tab_ok (f := 52) (its := [.g, .g, .g, (.ln l1.length), .g, (.b true), .g]) (args := [(sv v1), .int .i64 x2]) (h := h) (h' := h) (v := .int .i64 0) (hC := (ai c3 kc3)) (hr := by kernel_rfl)
  · refine bind_opt fun y4 e4 => ?_
    obtain ⟨id4, off4, g4, cs4, ix4, at4, rfl⟩ := SlE.at hv1 e4
    intro hr
    obtain rfl := Option.some.inj hr
    exact pFun_sound good tab_ok (f := 52) (its := [.g, .g, .g, (.ln l1.length), .g, (.b false), .g, .g, (.ix id4 off4 g4), (.ld (.int .i64 y4)), .g, .g, .g]) (args := [(sv v1), .int .i64 x2]) (h := h) (h' := h) (v := .int .i64 (F52__1 y4)) (hC := (ai (At.one (P := Try.prog) (t := 3) (v := .int .i64 y4) at4 (by kernel_rfl) 0 rfl rfl) (ai ix4 (ai c3 kc3)))) (hr := by kernel_rfl)
/-! 27 jacquard/jacquardref30.After -/
def F27_L : List Nat := []
def F27_D : List (Nat × List (Nat × Nat)) := [(13, [(0, 2), (1, 2), (2, 2), (4, 2), (5, 2), (6, 2), (8, 2), (7, 5), (9, 2), (10, 5), (3, 1), (11, 2), (12, 2), (13, 2)])]
def F27_m1_1 : List Bool := (true :: true :: true :: false :: (rp 6 true (false :: true :: false :: true :: false :: (rp 11 true (false :: false :: (rp 38 true []))))))
def F27_m1_0 : List Bool := (true :: true :: true :: false :: (rp 6 true (false :: true :: false :: false :: false :: (rp 11 true (false :: false :: (rp 6 true (false :: false :: (rp 30 true []))))))))
def F27_s1 (l4 : List Int) (y5 : (List (List Int)) × Bool) (a11 : Int) (a17 : Int) (a18 : Int) : Option ((Int × Int) ⊕ Int) :=
  (bif decide (a18 < (y5.1.length : Int)) then
   (Option.bind (at? y5.1 a18) fun y20 =>
   (Option.bind (at? y20 a11) fun y22 =>
   (bif decide (y22 > (-1152921504606846976)) then
    (Option.bind (F52 l4 a18) fun y25 =>
    some (.inl ((if (IntKind.i64.wrap (y25 + y22)) > a17 then (IntKind.i64.wrap (y25 + y22)) else a17), (IntKind.i64.wrap (a18 + 1)))))
   else
    some (.inl (a17, (IntKind.i64.wrap (a18 + 1)))))))
  else
   some (.inr a17))
def F27_h1 (v4 : Hd) (y5 : (List (List Int)) × Bool) (u6_0 : Hd) (a11 : Int) (u12 : Hd) (h13 : AHeap)  (a17 : Int) (a18 : Int) : AS := ⟨(junk :: junk :: junk :: (sv v4) :: (rp 6 junk ((sv u6_0) :: junk :: (sv u12) :: (.int .i64 a11) :: (.int .i64 a17) :: (rp 11 junk ((.int .i64 (y5.1.length : Int)) :: (.int .i64 a11) :: (rp 6 junk ((.int .i64 (y5.1.length : Int)) :: (.int .i64 a18) :: (rp 30 junk [])))))))), [], h13⟩
theorem F27_d1 : drawsOk F27_D (codeOf Try.prog 27 [1, 1, 1, 1, 0, 1, 0, 0, 1, 1, 0, 0, 1, 1, 0, 1, 0, 0]) = true := by kernel_rfl
def F27_x1_0 (v4 : Hd) (y5 : (List (List Int)) × Bool) (u6_0 : Hd) (a11 : Int) (u12 : Hd) (h13 : AHeap)  (r : Int) : AS := ⟨(junk :: junk :: junk :: (sv v4) :: (rp 6 junk ((sv u6_0) :: junk :: (sv u12) :: junk :: (.int .i64 r) :: (rp 11 junk ((.int .i64 (y5.1.length : Int)) :: (.int .i64 a11) :: (rp 38 junk [])))))), [], h13⟩
def F27_x1 (v4 : Hd) (y5 : (List (List Int)) × Bool) (u6_0 : Hd) (a11 : Int) (u12 : Hd) (h13 : AHeap) (r : Int) : Exit × AS := ((.exit 2), (F27_x1_0 v4 y5 u6_0 a11 u12 h13 r))
set_option maxRecDepth 100000 in
theorem F27_r1 (h : AHeap) (l4 : List Int) (v4 : Hd) (hv4 : SlE E3 1 h (sv v4) l4) (y5 : (List (List Int)) × Bool) (u6_0 : Hd) (u6_0h : List Hd) (a11 : Int) (l12 : List Int) (u12 : Hd) (h13 : AHeap) (hp13 : Heapy h h13 ([⟨u6_0, 29, 1, List.flatMap encH u6_0h⟩, ⟨u12, 3, 1, List.flatMap enc3 l12⟩] ++ NIn 3 1 enc3 u6_0h y5.1)) (a17 : Int) (a18 : Int) (o : (Int × Int) ⊕ Int) : F27_s1 l4 y5 a11 a17 a18 = some o → RdF Try.prog (codeOf Try.prog 27 [1, 1, 1, 1, 0, 1, 0, 0, 1, 1, 0, 0, 1, 1, 0, 1, 0, 0]) (fun (s : Int × Int) => (F27_h1 v4 y5 u6_0 a11 u12 h13 s.1 s.2)) (F27_x1 v4 y5 u6_0 a11 u12 h13) (F27_h1 v4 y5 u6_0 a11 u12 h13 a17 a18) o := by
  unfold F27_s1
  refine dec_bif (fun c19 => ?_) (fun c19 => ?_)
  · refine bind_opt fun y20 e20 => ?_
    obtain ⟨id20, off20, g20, cs20, ix20, _, _⟩ := SlE.at (Heapy.sle (v := u6_0) (xs := u6_0h) (enc := encH) hp13 0 rfl (fun _ => rfl) (by decide)) (Heapy.niat (A := [⟨u6_0, 29, 1, List.flatMap encH u6_0h⟩, ⟨u12, 3, 1, List.flatMap enc3 l12⟩]) (hs := u6_0h) (xss := y5.1) hp13 e20)
    have at21 : At h13 id20 off20 g20 (encH (hnth u6_0h a18)) := (SlE.atp (Heapy.sle (v := u6_0) (xs := u6_0h) (enc := encH) hp13 0 rfl (fun _ => rfl) (by decide)) ix20 (Heapy.niat (A := [⟨u6_0, 29, 1, List.flatMap encH u6_0h⟩, ⟨u12, 3, 1, List.flatMap enc3 l12⟩]) (hs := u6_0h) (xss := y5.1) hp13 e20)).elim fun cs k => by obtain ⟨k1, rfl⟩ := k; exact k1
    refine bind_opt fun y22 e22 => ?_
    obtain ⟨id22, off22, g22, cs22, ix22, at22, rfl⟩ := SlE.at (Heapy.nisle (A := [⟨u6_0, 29, 1, List.flatMap encH u6_0h⟩, ⟨u12, 3, 1, List.flatMap enc3 l12⟩]) (el := 3) (c := 1) (enc := enc3) (hs := u6_0h) (xss := y5.1) hp13 e20 (fun _ => rfl) (by decide)) e22
    have kc23 := (ai (At.one (P := Try.prog) (t := 3) (v := .int .i64 y22) at22 (by kernel_rfl) 0 rfl rfl) (ai ix22 (ai (At.one (P := Try.prog) (t := 29) (v := (sv (hnth u6_0h a18))) at21 (by kernel_rfl) 0 rfl rfl) (ai ix20 (ai c19 trivial)))))
    refine dec_bif (fun c23 => ?_) (fun c23 => ?_)
    · have at24 : At h13 id20 off20 g20 (encH (hnth u6_0h a18)) := (SlE.atp (Heapy.sle (v := u6_0) (xs := u6_0h) (enc := encH) hp13 0 rfl (fun _ => rfl) (by decide)) ix20 (Heapy.niat (A := [⟨u6_0, 29, 1, List.flatMap encH u6_0h⟩, ⟨u12, 3, 1, List.flatMap enc3 l12⟩]) (hs := u6_0h) (xss := y5.1) hp13 e20)).elim fun cs k => by obtain ⟨k1, rfl⟩ := k; exact k1
      refine bind_opt fun y25 e25 => ?_
      intro hr
      obtain rfl := Option.some.inj hr
      show AWp Try.prog _ (Ends1 .normal (F27_h1 v4 y5 u6_0 a11 u12 h13 (if (IntKind.i64.wrap (y25 + y22)) > a17 then (IntKind.i64.wrap (y25 + y22)) else a17) (IntKind.i64.wrap (a18 + 1)))) _
      exact pEnd_sound good (L := F27_L) (D := F27_D) (its := [.g, (.b true), .g, .g, .g, .g, (.ix id20 off20 g20), (.ld ((sv (hnth u6_0h a18)))), .g, (.ix id22 off22 g22), (.ld (.int .i64 y22)), .g, (.b true), .g, .g, .g, .g, .g, (.ix id20 off20 g20), .g, (.ld ((sv (hnth u6_0h a18)))), (.ix id22 off22 g22), (.ld (.int .i64 y22)), (.c (.int .i64 y25) h13), .g, .g, .g, .g, .g]) (ds := F27_m1_0) (ks := []) (e := .normal) (s2 := (F27_h1 v4 y5 u6_0 a11 u12 h13 (if (IntKind.i64.wrap (y25 + y22)) > a17 then (IntKind.i64.wrap (y25 + y22)) else a17) (IntKind.i64.wrap (a18 + 1)))) (hC := (ai (show AKeep h13 h13 from (AHeap.sub_refl h13)) (ai (F52_spec l4 a18 v4 h13 (SlE.mono hv4 (Heapy.sub hp13) (E3_mono (Heapy.sub hp13))) _ e25) (ai (At.one (P := Try.prog) (t := 3) (v := .int .i64 y22) at22 (by kernel_rfl) 0 rfl rfl) (ai ix22 (ai (At.one (P := Try.prog) (t := 29) (v := (sv (hnth u6_0h a18))) at24 (by kernel_rfl) 0 rfl rfl) (ai ix20 (ai c23 kc23)))))))) (hd := F27_d1) (h := by kernel_rfl)
    · intro hr
      obtain rfl := Option.some.inj hr
      show AWp Try.prog _ (Ends1 .normal (F27_h1 v4 y5 u6_0 a11 u12 h13 a17 (IntKind.i64.wrap (a18 + 1)))) _
      exact pEnd_sound good (L := F27_L) (D := F27_D) (its := [.g, (.b true), .g, .g, .g, .g, (.ix id20 off20 g20), (.ld ((sv (hnth u6_0h a18)))), .g, (.ix id22 off22 g22), (.ld (.int .i64 y22)), .g, (.b false), .g, .g]) (ds := F27_m1_0) (ks := []) (e := .normal) (s2 := (F27_h1 v4 y5 u6_0 a11 u12 h13 a17 (IntKind.i64.wrap (a18 + 1)))) (hC := (ai c23 kc23)) (hd := F27_d1) (h := by kernel_rfl)
  · intro hr
    obtain rfl := Option.some.inj hr
    show AWp Try.prog _ (Ends1 ((F27_x1 v4 y5 u6_0 a11 u12 h13) (a17 : Int)).1 ((F27_x1 v4 y5 u6_0 a11 u12 h13) (a17 : Int)).2) _
    exact pEnd_sound good (L := F27_L) (D := F27_D) (its := [.g, (.b false)]) (ds := F27_m1_1) (ks := []) (e := ((F27_x1 v4 y5 u6_0 a11 u12 h13) (a17 : Int)).1) (s2 := ((F27_x1 v4 y5 u6_0 a11 u12 h13) (a17 : Int)).2) (hC := (ai c19 trivial)) (hd := F27_d1) (h := by kernel_rfl)
theorem F27_l1_0 (h : AHeap) (l4 : List Int) (v4 : Hd) (hv4 : SlE E3 1 h (sv v4) l4) (y5 : (List (List Int)) × Bool) (u6_0 : Hd) (u6_0h : List Hd) (a11 : Int) (l12 : List Int) (u12 : Hd) (h13 : AHeap) (hp13 : Heapy h h13 ([⟨u6_0, 29, 1, List.flatMap encH u6_0h⟩, ⟨u12, 3, 1, List.flatMap enc3 l12⟩] ++ NIn 3 1 enc3 u6_0h y5.1)) (x : Int × Int) (r : Int) (hl : loopO (fun (s : Int × Int) => F27_s1 l4 y5 a11 s.1 s.2) x = some r) : AWp Try.prog (.loop (codeOf Try.prog 27 [1, 1, 1, 1, 0, 1, 0, 0, 1, 1, 0, 0, 1, 1, 0, 1, 0, 0])) (Ends1 (.exit 2) (F27_x1_0 v4 y5 u6_0 a11 u12 h13 r)) ((fun (s : Int × Int) => (F27_h1 v4 y5 u6_0 a11 u12 h13 s.1 s.2)) x) := by
  have k := loop_fun (P := Try.prog) (c := (codeOf Try.prog 27 [1, 1, 1, 1, 0, 1, 0, 0, 1, 1, 0, 0, 1, 1, 0, 1, 0, 0])) (step := (fun (s : Int × Int) => F27_s1 l4 y5 a11 s.1 s.2)) (hd := (fun (s : Int × Int) => (F27_h1 v4 y5 u6_0 a11 u12 h13 s.1 s.2))) (X := (F27_x1 v4 y5 u6_0 a11 u12 h13)) (by intro t; unfold F27_x1; intro h; cases h) (fun x => F27_r1 h l4 v4 hv4 y5 u6_0 u6_0h a11 l12 u12 h13 hp13 x.1 x.2) hl
  exact k
def F27_m2_1 : List Bool := (rp 12 true (false :: (rp 53 true [])))
def F27_m2_0 : List Bool := (true :: true :: true :: false :: (rp 6 true (false :: true :: false :: (rp 13 true (false :: false :: (rp 38 true []))))))
def F27_s2 (l4 : List Int) (y5 : (List (List Int)) × Bool) (a11 : Int) (l12 : List Int) : Option ((Int × (List Int)) ⊕ (List Int)) :=
  (bif decide (a11 < (y5.1.length : Int)) then
   (Option.bind (F52 l4 a11) fun y15 =>
   (Option.bind (loopO (fun (s : Int × Int) => F27_s1 l4 y5 a11 s.1 s.2) (y15, 0)) fun y27 =>
   (bif (!(okApp (l12.length + ([y27] : List Int).length) 8)) then none else
   some (.inl ((IntKind.i64.wrap (a11 + 1)), (l12 ++ ([y27] : List Int)))))))
  else
   some (.inr l12))
def F27_h2 (v4 : Hd) (y5 : (List (List Int)) × Bool) (u6_0 : Hd) (h13 : AHeap) (u12 : Hd) (a11 : Int) (l12 : List Int) : AS := ⟨(junk :: junk :: junk :: (sv v4) :: (rp 6 junk ((sv u6_0) :: junk :: (sv u12) :: (rp 13 junk ((.int .i64 (y5.1.length : Int)) :: (.int .i64 a11) :: (rp 38 junk [])))))), [], h13⟩
theorem F27_d2 : drawsOk F27_D (codeOf Try.prog 27 [1, 1, 1, 1, 0, 1, 0, 0]) = true := by kernel_rfl
def F27_x2_0 (h : AHeap) (hx : AHeap) (w0 : Hd) (r : (List Int)) : AS := ⟨(rp 12 junk ((sv w0) :: (rp 53 junk []))), [], hx⟩
def F27_i2 (h : AHeap) (v4 : Hd) (y5 : (List (List Int)) × Bool) (u6_0 : Hd) (u6_0h : List Hd) (s : Int × (List Int)) (S : AS) : Prop := ∃ (h13 : AHeap) (u12 : Hd), Heapy h h13 ([⟨u6_0, 29, 1, List.flatMap encH u6_0h⟩, ⟨u12, 3, 1, List.flatMap enc3 s.2⟩] ++ NIn 3 1 enc3 u6_0h y5.1) ∧ Strict u12 ∧ S = (F27_h2 v4 y5 u6_0 h13 u12 s.1 s.2)
def F27_x2 (h : AHeap) (r : (List Int)) (e : Exit) (S : AS) : Prop := e = (.exit 0) ∧ ∃ (hx : AHeap) (w0 : Hd), Heapy h hx [⟨w0, 3, 1, List.flatMap enc3 r⟩] ∧ Strict w0 ∧ S = (F27_x2_0 h hx w0 r)
set_option maxRecDepth 100000 in
theorem F27_r2 (h : AHeap) (l4 : List Int) (v4 : Hd) (hv4 : SlE E3 1 h (sv v4) l4) (y5 : (List (List Int)) × Bool) (u6_0 : Hd) (u6_0h : List Hd) (a11 : Int) (l12 : List Int) (S : AS) (hI : (F27_i2 h v4 y5 u6_0 u6_0h) (a11, l12) S) (o : (Int × (List Int)) ⊕ (List Int)) : F27_s2 l4 y5 a11 l12 = some o → Rd Try.prog (codeOf Try.prog 27 [1, 1, 1, 1, 0, 1, 0, 0]) (F27_i2 h v4 y5 u6_0 u6_0h) (F27_x2 h) S o := by
  obtain ⟨h13, u12, hp13, z12, rfl⟩ := hI
  unfold F27_s2
  refine dec_bif (fun c14 => ?_) (fun c14 => ?_)
  · refine bind_opt fun y15 e15 => ?_
    refine bind_opt fun y27 e27 => ?_
    obtain ⟨v28, h28, m28, hp28, _⟩ := Heapy.build (P := Try.prog) hp13 (t := 29) (e := 3) (len := 1) (n := 1) (parts := [(0, .int .i64 y27)]) (cells := List.flatMap enc3 ([y27] : List Int)) (by kernel_rfl) rfl
    refine guard_ok fun g30 => ?_
    obtain ⟨v31, h31, m31, q31, _, w31⟩ := Heapy.append hp28 (show mkInfo Try.prog 29 = some (3, 1, 8, [.int .i64 0]) by kernel_rfl) 2 (v := u12) (cells := List.flatMap enc3 l12) rfl (Y := (sv v28)) (SlE.src (enc := enc3) (c := 1) (Heapy.sle (v := v28) (xs := ([y27] : List Int)) (enc := enc3) hp28 0 rfl (fun _ => rfl) (by decide)) (fun _ => rfl)) (flatMap_length (enc := enc3) (c := 1) (fun _ => rfl) _) (by rw [Heapy.vn (v := u12) (xs := l12) (enc := enc3) hp28 2 rfl (fun _ => rfl) (by decide)]; simpa using g30)
    have z31 : Strict v31 := w31 z12
    have hp31 : Heapy h h31 ([⟨v28, 3, 1, List.flatMap enc3 ([y27] : List Int)⟩, ⟨u6_0, 29, 1, List.flatMap encH u6_0h⟩, ⟨v31, 3, 1, List.flatMap enc3 (l12 ++ ([y27] : List Int))⟩] ++ NIn 3 1 enc3 u6_0h y5.1) := by rw [← List.flatMap_append] at q31; exact q31
    intro hr
    obtain rfl := Option.some.inj hr
    exact ⟨(F27_h2 v4 y5 u6_0 h31 v31 (IntKind.i64.wrap (a11 + 1)) (l12 ++ ([y27] : List Int))), ⟨h31, v31, (Heapy.pickN2 (A := [⟨v28, 3, 1, List.flatMap enc3 ([y27] : List Int)⟩, ⟨u6_0, 29, 1, List.flatMap encH u6_0h⟩, ⟨v31, 3, 1, List.flatMap enc3 (l12 ++ ([y27] : List Int))⟩]) (N := NIn 3 1 enc3 u6_0h y5.1) hp31 3 rfl [1, 2] (by decide) rfl), z31, rfl⟩, pEnd_sound good (L := F27_L) (D := F27_D) (its := [.g, (.b true), .g, .g, .g, .g, (.c (.int .i64 y15) h13), .g, .g, (.ln y5.1.length), .g, (.l F27_m1_0 [] (.exit 2) (F27_x1_0 v4 y5 u6_0 a11 u12 h13 y27)), .g, .g, (.mm (sv v28) h28), (.mm (sv v31) h31), .g, .g, .g]) (ds := F27_m2_0) (ks := []) (e := .normal) (s2 := (F27_h2 v4 y5 u6_0 h31 v31 (IntKind.i64.wrap (a11 + 1)) (l12 ++ ([y27] : List Int)))) (hC := (ai m31 (ai m28 (ai (F27_l1_0 h l4 v4 hv4 y5 u6_0 u6_0h a11 l12 u12 h13 hp13 (y15, 0) y27 e27) (ai (Heapy.nivn (A := [⟨u6_0, 29, 1, List.flatMap encH u6_0h⟩, ⟨u12, 3, 1, List.flatMap enc3 l12⟩]) (hs := u6_0h) (xss := y5.1) (eo := 29) hp13 0 rfl) (ai (F52_spec l4 a11 v4 h13 (SlE.mono hv4 (Heapy.sub hp13) (E3_mono (Heapy.sub hp13))) _ e15) (ai c14 trivial))))))) (hd := F27_d2) (h := by kernel_rfl)⟩
  · intro hr
    obtain rfl := Option.some.inj hr
    refine ⟨(.exit 0), (F27_x2_0 h h13 u12 (l12 : (List Int))), (by intro hh; cases hh), ?_, pEnd_sound good (L := F27_L) (D := F27_D) (its := [.g, (.b false)]) (ds := F27_m2_1) (ks := []) (e := (.exit 0)) (s2 := (F27_x2_0 h h13 u12 (l12 : (List Int)))) (hC := (ai c14 trivial)) (hd := F27_d2) (h := by kernel_rfl)⟩
    exact ⟨rfl, h13, u12, (Heapy.pick (Heapy.head (A := [⟨u6_0, 29, 1, List.flatMap encH u6_0h⟩, ⟨u12, 3, 1, List.flatMap enc3 l12⟩]) (N := NIn 3 1 enc3 u6_0h y5.1) hp13) [1] (by decide)), z12, rfl⟩
theorem F27_l2 (h : AHeap) (l4 : List Int) (v4 : Hd) (hv4 : SlE E3 1 h (sv v4) l4) (y5 : (List (List Int)) × Bool) (u6_0 : Hd) (u6_0h : List Hd) (x : Int × (List Int)) (r : (List Int)) (hl : loopO (fun (s : Int × (List Int)) => F27_s2 l4 y5 s.1 s.2) x = some r) (S : AS) (hI : (F27_i2 h v4 y5 u6_0 u6_0h) x S) : ∃ e S', (F27_x2 h) r e S' ∧ AWp Try.prog (.loop (codeOf Try.prog 27 [1, 1, 1, 1, 0, 1, 0, 0])) (Ends1 e S') S :=
  loop_rel (fun x S hI => F27_r2 h l4 v4 hv4 y5 u6_0 u6_0h x.1 x.2 S hI) hl hI
def F27 (x1 : Int) (l2 : List (Int × Int × Int × Int)) (x3 : Int) (l4 : List Int) : Option ((List Int) × Bool) :=
  (Option.bind (F51 x1 l2 x3) fun y5 =>
  (bif (!y5.2) then
   some ([], false)
  else
   (Option.bind (loopO (fun (s : Int × (List Int)) => F27_s2 l4 y5 s.1 s.2) (0, ([] : List Int))) fun y33 =>
   some (y33, true))))
set_option maxRecDepth 100000 in
theorem F27_spec (x1 : Int) (l2 : List (Int × Int × Int × Int)) (x3 : Int) (l4 : List Int) (v2 : Hd) (v4 : Hd) (h : AHeap) (hw : h.wf) (hv2 : SlE E57 4 h (sv v2) l2) (hv4 : SlE E3 1 h (sv v4) l4) (r : (List Int) × Bool) : F27 x1 l2 x3 l4 = some r → ∃ (ur0 : Hd) (h' : AHeap), Heapy h h' [⟨ur0, 3, 1, List.flatMap enc3 r.1⟩] ∧ Strict ur0 ∧ ACalls Try.prog 27 [.int .i64 x1, (sv v2), .int .i64 x3, (sv v4)] h (fun v' h'' => v' = (.tuple #[(sv ur0), .bool r.2] : Value) ∧ h'' = h') := by
  unfold F27
  refine bind_opt fun y5 e5 => ?_
  obtain ⟨u6_0, u6_0h, h6, q6, c6⟩ := F51_spec x1 l2 x3 v2 h hw hv2 _ e5
  have hp6 : Heapy h h6 ([⟨u6_0, 29, 1, List.flatMap encH u6_0h⟩] ++ NIn 3 1 enc3 u6_0h y5.1) := Heapy.callN (Heapy.refl hw) q6
  have kc8 := (ai c6 trivial)
  refine dec_bif (fun c8 => ?_) (fun c8 => ?_)
  · intro hr
    obtain rfl := Option.some.inj hr
    exact ⟨⟨none, 0, 0⟩, h6, Heapy.pick (Heapy.nil (Heapy.head (A := [⟨u6_0, 29, 1, List.flatMap encH u6_0h⟩]) (N := NIn 3 1 enc3 u6_0h y5.1) hp6) 3 1) [0] (by decide), Strict.nil, pFun_sound good tab_ok (f := 27) (its := [.g, .g, .g, .g, .g, (.c (.tuple #[(sv u6_0), .bool y5.2]) h6), .g, .g, .g, .g, .g, .g, .g, (.b true), .g, .g]) (args := [.int .i64 x1, (sv v2), .int .i64 x3, (sv v4)]) (h := h) (h' := h6) (v := .tuple #[.slice none 0 0, .bool false]) (hC := (ai c8 kc8)) (hr := by kernel_rfl)⟩
  · refine bind_opt fun y33 e33 => ?_
    have hp9 : Heapy h h6 ([⟨⟨none, 0, 0⟩, 3, 1, List.flatMap enc3 ([] : List Int)⟩, ⟨u6_0, 29, 1, List.flatMap encH u6_0h⟩] ++ NIn 3 1 enc3 u6_0h y5.1) := Heapy.nil hp6 3 1
    obtain ⟨ee33, SS33, hX33, hA33⟩ := F27_l2 h l4 v4 hv4 y5 u6_0 u6_0h (0, ([] : List Int)) y33 e33 (F27_h2 v4 y5 u6_0 h6 ⟨none, 0, 0⟩ 0 ([] : List Int)) ⟨h6, ⟨none, 0, 0⟩, (Heapy.pickN2 (A := [⟨⟨none, 0, 0⟩, 3, 1, List.flatMap enc3 ([] : List Int)⟩, ⟨u6_0, 29, 1, List.flatMap encH u6_0h⟩]) (N := NIn 3 1 enc3 u6_0h y5.1) hp9 2 rfl [1, 0] (by decide) rfl), Strict.nil, rfl⟩
    obtain ⟨rfl, h34, w0_34, hp34, zw0_34, rfl⟩ := hX33
    intro hr
    obtain rfl := Option.some.inj hr
    exact ⟨w0_34, h34, Heapy.pick hp34 [0] (by decide), zw0_34, pFun_sound good tab_ok (f := 27) (its := [.g, .g, .g, .g, .g, (.c (.tuple #[(sv u6_0), .bool y5.2]) h6), .g, .g, .g, .g, .g, .g, .g, (.b false), .g, .g, (.ln y5.1.length), .g, (.l F27_m2_0 [] (.exit 0) (F27_x2_0 h h34 w0_34 y33)), .g, .g, .g]) (args := [.int .i64 x1, (sv v2), .int .i64 x3, (sv v4)]) (h := h) (h' := h34) (v := .tuple #[(sv w0_34), .bool true]) (hC := (ai hA33 (ai (Heapy.nivn (A := [⟨u6_0, 29, 1, List.flatMap encH u6_0h⟩]) (hs := u6_0h) (xss := y5.1) (eo := 29) hp6 0 rfl) (ai c8 kc8)))) (hr := by kernel_rfl)⟩
/-! 29 jacquard/jacquardref30.Latest -/
def F29_L : List Nat := []
def F29_D : List (Nat × List (Nat × Nat)) := [(13, [(0, 2), (1, 2), (2, 2), (4, 2), (5, 2), (6, 2), (8, 2), (7, 5), (9, 2), (10, 5), (3, 1), (11, 2), (12, 2), (13, 2)])]
def F29_m1_1 : List Bool := (true :: true :: true :: false :: (rp 6 true (false :: true :: false :: true :: false :: (rp 11 true (false :: false :: (rp 38 true []))))))
def F29_m1_0 : List Bool := (true :: true :: true :: false :: (rp 6 true (false :: true :: false :: false :: false :: (rp 11 true (false :: false :: (rp 6 true (false :: false :: (rp 30 true []))))))))
def F29_s1 (l4 : List Int) (y5 : (List (List Int)) × Bool) (a11 : Int) (a17 : Int) (a18 : Int) : Option ((Int × Int) ⊕ Int) :=
  (bif decide (a18 < (y5.1.length : Int)) then
   (Option.bind (at? y5.1 a11) fun y20 =>
   (Option.bind (at? y20 a18) fun y22 =>
   (bif decide (y22 > (-1152921504606846976)) then
    (Option.bind (F52 l4 a18) fun y25 =>
    some (.inl ((if (IntKind.i64.wrap (y25 - y22)) < a17 then (IntKind.i64.wrap (y25 - y22)) else a17), (IntKind.i64.wrap (a18 + 1)))))
   else
    some (.inl (a17, (IntKind.i64.wrap (a18 + 1)))))))
  else
   some (.inr a17))
def F29_h1 (v4 : Hd) (y5 : (List (List Int)) × Bool) (u6_0 : Hd) (a11 : Int) (u12 : Hd) (h13 : AHeap)  (a17 : Int) (a18 : Int) : AS := ⟨(junk :: junk :: junk :: (sv v4) :: (rp 6 junk ((sv u6_0) :: junk :: (sv u12) :: (.int .i64 a11) :: (.int .i64 a17) :: (rp 11 junk ((.int .i64 (y5.1.length : Int)) :: (.int .i64 a11) :: (rp 6 junk ((.int .i64 (y5.1.length : Int)) :: (.int .i64 a18) :: (rp 30 junk [])))))))), [], h13⟩
theorem F29_d1 : drawsOk F29_D (codeOf Try.prog 29 [1, 1, 1, 1, 0, 1, 0, 0, 1, 1, 0, 0, 1, 1, 0, 1, 0, 0]) = true := by kernel_rfl
def F29_x1_0 (v4 : Hd) (y5 : (List (List Int)) × Bool) (u6_0 : Hd) (a11 : Int) (u12 : Hd) (h13 : AHeap)  (r : Int) : AS := ⟨(junk :: junk :: junk :: (sv v4) :: (rp 6 junk ((sv u6_0) :: junk :: (sv u12) :: junk :: (.int .i64 r) :: (rp 11 junk ((.int .i64 (y5.1.length : Int)) :: (.int .i64 a11) :: (rp 38 junk [])))))), [], h13⟩
def F29_x1 (v4 : Hd) (y5 : (List (List Int)) × Bool) (u6_0 : Hd) (a11 : Int) (u12 : Hd) (h13 : AHeap) (r : Int) : Exit × AS := ((.exit 2), (F29_x1_0 v4 y5 u6_0 a11 u12 h13 r))
set_option maxRecDepth 100000 in
theorem F29_r1 (h : AHeap) (l4 : List Int) (v4 : Hd) (hv4 : SlE E3 1 h (sv v4) l4) (y5 : (List (List Int)) × Bool) (u6_0 : Hd) (u6_0h : List Hd) (a11 : Int) (l12 : List Int) (u12 : Hd) (h13 : AHeap) (hp13 : Heapy h h13 ([⟨u6_0, 29, 1, List.flatMap encH u6_0h⟩, ⟨u12, 3, 1, List.flatMap enc3 l12⟩] ++ NIn 3 1 enc3 u6_0h y5.1)) (a17 : Int) (a18 : Int) (o : (Int × Int) ⊕ Int) : F29_s1 l4 y5 a11 a17 a18 = some o → RdF Try.prog (codeOf Try.prog 29 [1, 1, 1, 1, 0, 1, 0, 0, 1, 1, 0, 0, 1, 1, 0, 1, 0, 0]) (fun (s : Int × Int) => (F29_h1 v4 y5 u6_0 a11 u12 h13 s.1 s.2)) (F29_x1 v4 y5 u6_0 a11 u12 h13) (F29_h1 v4 y5 u6_0 a11 u12 h13 a17 a18) o := by
  unfold F29_s1
  refine dec_bif (fun c19 => ?_) (fun c19 => ?_)
  · refine bind_opt fun y20 e20 => ?_
    obtain ⟨id20, off20, g20, cs20, ix20, _, _⟩ := SlE.at (Heapy.sle (v := u6_0) (xs := u6_0h) (enc := encH) hp13 0 rfl (fun _ => rfl) (by decide)) (Heapy.niat (A := [⟨u6_0, 29, 1, List.flatMap encH u6_0h⟩, ⟨u12, 3, 1, List.flatMap enc3 l12⟩]) (hs := u6_0h) (xss := y5.1) hp13 e20)
    have at21 : At h13 id20 off20 g20 (encH (hnth u6_0h a11)) := (SlE.atp (Heapy.sle (v := u6_0) (xs := u6_0h) (enc := encH) hp13 0 rfl (fun _ => rfl) (by decide)) ix20 (Heapy.niat (A := [⟨u6_0, 29, 1, List.flatMap encH u6_0h⟩, ⟨u12, 3, 1, List.flatMap enc3 l12⟩]) (hs := u6_0h) (xss := y5.1) hp13 e20)).elim fun cs k => by obtain ⟨k1, rfl⟩ := k; exact k1
    refine bind_opt fun y22 e22 => ?_
    obtain ⟨id22, off22, g22, cs22, ix22, at22, rfl⟩ := SlE.at (Heapy.nisle (A := [⟨u6_0, 29, 1, List.flatMap encH u6_0h⟩, ⟨u12, 3, 1, List.flatMap enc3 l12⟩]) (el := 3) (c := 1) (enc := enc3) (hs := u6_0h) (xss := y5.1) hp13 e20 (fun _ => rfl) (by decide)) e22
    have kc23 := (ai (At.one (P := Try.prog) (t := 3) (v := .int .i64 y22) at22 (by kernel_rfl) 0 rfl rfl) (ai ix22 (ai (At.one (P := Try.prog) (t := 29) (v := (sv (hnth u6_0h a11))) at21 (by kernel_rfl) 0 rfl rfl) (ai ix20 (ai c19 trivial)))))
    refine dec_bif (fun c23 => ?_) (fun c23 => ?_)
    · have at24 : At h13 id20 off20 g20 (encH (hnth u6_0h a11)) := (SlE.atp (Heapy.sle (v := u6_0) (xs := u6_0h) (enc := encH) hp13 0 rfl (fun _ => rfl) (by decide)) ix20 (Heapy.niat (A := [⟨u6_0, 29, 1, List.flatMap encH u6_0h⟩, ⟨u12, 3, 1, List.flatMap enc3 l12⟩]) (hs := u6_0h) (xss := y5.1) hp13 e20)).elim fun cs k => by obtain ⟨k1, rfl⟩ := k; exact k1
      refine bind_opt fun y25 e25 => ?_
      intro hr
      obtain rfl := Option.some.inj hr
      show AWp Try.prog _ (Ends1 .normal (F29_h1 v4 y5 u6_0 a11 u12 h13 (if (IntKind.i64.wrap (y25 - y22)) < a17 then (IntKind.i64.wrap (y25 - y22)) else a17) (IntKind.i64.wrap (a18 + 1)))) _
      exact pEnd_sound good (L := F29_L) (D := F29_D) (its := [.g, (.b true), .g, .g, .g, .g, (.ix id20 off20 g20), (.ld ((sv (hnth u6_0h a11)))), .g, (.ix id22 off22 g22), (.ld (.int .i64 y22)), .g, (.b true), .g, .g, .g, .g, .g, (.ix id20 off20 g20), .g, (.ld ((sv (hnth u6_0h a11)))), (.ix id22 off22 g22), (.ld (.int .i64 y22)), (.c (.int .i64 y25) h13), .g, .g, .g, .g, .g]) (ds := F29_m1_0) (ks := []) (e := .normal) (s2 := (F29_h1 v4 y5 u6_0 a11 u12 h13 (if (IntKind.i64.wrap (y25 - y22)) < a17 then (IntKind.i64.wrap (y25 - y22)) else a17) (IntKind.i64.wrap (a18 + 1)))) (hC := (ai (show AKeep h13 h13 from (AHeap.sub_refl h13)) (ai (F52_spec l4 a18 v4 h13 (SlE.mono hv4 (Heapy.sub hp13) (E3_mono (Heapy.sub hp13))) _ e25) (ai (At.one (P := Try.prog) (t := 3) (v := .int .i64 y22) at22 (by kernel_rfl) 0 rfl rfl) (ai ix22 (ai (At.one (P := Try.prog) (t := 29) (v := (sv (hnth u6_0h a11))) at24 (by kernel_rfl) 0 rfl rfl) (ai ix20 (ai c23 kc23)))))))) (hd := F29_d1) (h := by kernel_rfl)
    · intro hr
      obtain rfl := Option.some.inj hr
      show AWp Try.prog _ (Ends1 .normal (F29_h1 v4 y5 u6_0 a11 u12 h13 a17 (IntKind.i64.wrap (a18 + 1)))) _
      exact pEnd_sound good (L := F29_L) (D := F29_D) (its := [.g, (.b true), .g, .g, .g, .g, (.ix id20 off20 g20), (.ld ((sv (hnth u6_0h a11)))), .g, (.ix id22 off22 g22), (.ld (.int .i64 y22)), .g, (.b false), .g, .g]) (ds := F29_m1_0) (ks := []) (e := .normal) (s2 := (F29_h1 v4 y5 u6_0 a11 u12 h13 a17 (IntKind.i64.wrap (a18 + 1)))) (hC := (ai c23 kc23)) (hd := F29_d1) (h := by kernel_rfl)
  · intro hr
    obtain rfl := Option.some.inj hr
    show AWp Try.prog _ (Ends1 ((F29_x1 v4 y5 u6_0 a11 u12 h13) (a17 : Int)).1 ((F29_x1 v4 y5 u6_0 a11 u12 h13) (a17 : Int)).2) _
    exact pEnd_sound good (L := F29_L) (D := F29_D) (its := [.g, (.b false)]) (ds := F29_m1_1) (ks := []) (e := ((F29_x1 v4 y5 u6_0 a11 u12 h13) (a17 : Int)).1) (s2 := ((F29_x1 v4 y5 u6_0 a11 u12 h13) (a17 : Int)).2) (hC := (ai c19 trivial)) (hd := F29_d1) (h := by kernel_rfl)
theorem F29_l1_0 (h : AHeap) (l4 : List Int) (v4 : Hd) (hv4 : SlE E3 1 h (sv v4) l4) (y5 : (List (List Int)) × Bool) (u6_0 : Hd) (u6_0h : List Hd) (a11 : Int) (l12 : List Int) (u12 : Hd) (h13 : AHeap) (hp13 : Heapy h h13 ([⟨u6_0, 29, 1, List.flatMap encH u6_0h⟩, ⟨u12, 3, 1, List.flatMap enc3 l12⟩] ++ NIn 3 1 enc3 u6_0h y5.1)) (x : Int × Int) (r : Int) (hl : loopO (fun (s : Int × Int) => F29_s1 l4 y5 a11 s.1 s.2) x = some r) : AWp Try.prog (.loop (codeOf Try.prog 29 [1, 1, 1, 1, 0, 1, 0, 0, 1, 1, 0, 0, 1, 1, 0, 1, 0, 0])) (Ends1 (.exit 2) (F29_x1_0 v4 y5 u6_0 a11 u12 h13 r)) ((fun (s : Int × Int) => (F29_h1 v4 y5 u6_0 a11 u12 h13 s.1 s.2)) x) := by
  have k := loop_fun (P := Try.prog) (c := (codeOf Try.prog 29 [1, 1, 1, 1, 0, 1, 0, 0, 1, 1, 0, 0, 1, 1, 0, 1, 0, 0])) (step := (fun (s : Int × Int) => F29_s1 l4 y5 a11 s.1 s.2)) (hd := (fun (s : Int × Int) => (F29_h1 v4 y5 u6_0 a11 u12 h13 s.1 s.2))) (X := (F29_x1 v4 y5 u6_0 a11 u12 h13)) (by intro t; unfold F29_x1; intro h; cases h) (fun x => F29_r1 h l4 v4 hv4 y5 u6_0 u6_0h a11 l12 u12 h13 hp13 x.1 x.2) hl
  exact k
def F29_m2_1 : List Bool := (rp 12 true (false :: (rp 53 true [])))
def F29_m2_0 : List Bool := (true :: true :: true :: false :: (rp 6 true (false :: true :: false :: (rp 13 true (false :: false :: (rp 38 true []))))))
def F29_s2 (l4 : List Int) (y5 : (List (List Int)) × Bool) (a11 : Int) (l12 : List Int) : Option ((Int × (List Int)) ⊕ (List Int)) :=
  (bif decide (a11 < (y5.1.length : Int)) then
   (Option.bind (F52 l4 a11) fun y15 =>
   (Option.bind (loopO (fun (s : Int × Int) => F29_s1 l4 y5 a11 s.1 s.2) (y15, 0)) fun y27 =>
   (bif (!(okApp (l12.length + ([y27] : List Int).length) 8)) then none else
   some (.inl ((IntKind.i64.wrap (a11 + 1)), (l12 ++ ([y27] : List Int)))))))
  else
   some (.inr l12))
def F29_h2 (v4 : Hd) (y5 : (List (List Int)) × Bool) (u6_0 : Hd) (h13 : AHeap) (u12 : Hd) (a11 : Int) (l12 : List Int) : AS := ⟨(junk :: junk :: junk :: (sv v4) :: (rp 6 junk ((sv u6_0) :: junk :: (sv u12) :: (rp 13 junk ((.int .i64 (y5.1.length : Int)) :: (.int .i64 a11) :: (rp 38 junk [])))))), [], h13⟩
theorem F29_d2 : drawsOk F29_D (codeOf Try.prog 29 [1, 1, 1, 1, 0, 1, 0, 0]) = true := by kernel_rfl
def F29_x2_0 (h : AHeap) (hx : AHeap) (w0 : Hd) (r : (List Int)) : AS := ⟨(rp 12 junk ((sv w0) :: (rp 53 junk []))), [], hx⟩
def F29_i2 (h : AHeap) (v4 : Hd) (y5 : (List (List Int)) × Bool) (u6_0 : Hd) (u6_0h : List Hd) (s : Int × (List Int)) (S : AS) : Prop := ∃ (h13 : AHeap) (u12 : Hd), Heapy h h13 ([⟨u6_0, 29, 1, List.flatMap encH u6_0h⟩, ⟨u12, 3, 1, List.flatMap enc3 s.2⟩] ++ NIn 3 1 enc3 u6_0h y5.1) ∧ Strict u12 ∧ S = (F29_h2 v4 y5 u6_0 h13 u12 s.1 s.2)
def F29_x2 (h : AHeap) (r : (List Int)) (e : Exit) (S : AS) : Prop := e = (.exit 0) ∧ ∃ (hx : AHeap) (w0 : Hd), Heapy h hx [⟨w0, 3, 1, List.flatMap enc3 r⟩] ∧ Strict w0 ∧ S = (F29_x2_0 h hx w0 r)
set_option maxRecDepth 100000 in
theorem F29_r2 (h : AHeap) (l4 : List Int) (v4 : Hd) (hv4 : SlE E3 1 h (sv v4) l4) (y5 : (List (List Int)) × Bool) (u6_0 : Hd) (u6_0h : List Hd) (a11 : Int) (l12 : List Int) (S : AS) (hI : (F29_i2 h v4 y5 u6_0 u6_0h) (a11, l12) S) (o : (Int × (List Int)) ⊕ (List Int)) : F29_s2 l4 y5 a11 l12 = some o → Rd Try.prog (codeOf Try.prog 29 [1, 1, 1, 1, 0, 1, 0, 0]) (F29_i2 h v4 y5 u6_0 u6_0h) (F29_x2 h) S o := by
  obtain ⟨h13, u12, hp13, z12, rfl⟩ := hI
  unfold F29_s2
  refine dec_bif (fun c14 => ?_) (fun c14 => ?_)
  · refine bind_opt fun y15 e15 => ?_
    refine bind_opt fun y27 e27 => ?_
    obtain ⟨v28, h28, m28, hp28, _⟩ := Heapy.build (P := Try.prog) hp13 (t := 29) (e := 3) (len := 1) (n := 1) (parts := [(0, .int .i64 y27)]) (cells := List.flatMap enc3 ([y27] : List Int)) (by kernel_rfl) rfl
    refine guard_ok fun g30 => ?_
    obtain ⟨v31, h31, m31, q31, _, w31⟩ := Heapy.append hp28 (show mkInfo Try.prog 29 = some (3, 1, 8, [.int .i64 0]) by kernel_rfl) 2 (v := u12) (cells := List.flatMap enc3 l12) rfl (Y := (sv v28)) (SlE.src (enc := enc3) (c := 1) (Heapy.sle (v := v28) (xs := ([y27] : List Int)) (enc := enc3) hp28 0 rfl (fun _ => rfl) (by decide)) (fun _ => rfl)) (flatMap_length (enc := enc3) (c := 1) (fun _ => rfl) _) (by rw [Heapy.vn (v := u12) (xs := l12) (enc := enc3) hp28 2 rfl (fun _ => rfl) (by decide)]; simpa using g30)
    have z31 : Strict v31 := w31 z12
    have hp31 : Heapy h h31 ([⟨v28, 3, 1, List.flatMap enc3 ([y27] : List Int)⟩, ⟨u6_0, 29, 1, List.flatMap encH u6_0h⟩, ⟨v31, 3, 1, List.flatMap enc3 (l12 ++ ([y27] : List Int))⟩] ++ NIn 3 1 enc3 u6_0h y5.1) := by rw [← List.flatMap_append] at q31; exact q31
    intro hr
    obtain rfl := Option.some.inj hr
    exact ⟨(F29_h2 v4 y5 u6_0 h31 v31 (IntKind.i64.wrap (a11 + 1)) (l12 ++ ([y27] : List Int))), ⟨h31, v31, (Heapy.pickN2 (A := [⟨v28, 3, 1, List.flatMap enc3 ([y27] : List Int)⟩, ⟨u6_0, 29, 1, List.flatMap encH u6_0h⟩, ⟨v31, 3, 1, List.flatMap enc3 (l12 ++ ([y27] : List Int))⟩]) (N := NIn 3 1 enc3 u6_0h y5.1) hp31 3 rfl [1, 2] (by decide) rfl), z31, rfl⟩, pEnd_sound good (L := F29_L) (D := F29_D) (its := [.g, (.b true), .g, .g, .g, .g, (.c (.int .i64 y15) h13), .g, .g, (.ln y5.1.length), .g, (.l F29_m1_0 [] (.exit 2) (F29_x1_0 v4 y5 u6_0 a11 u12 h13 y27)), .g, .g, (.mm (sv v28) h28), (.mm (sv v31) h31), .g, .g, .g]) (ds := F29_m2_0) (ks := []) (e := .normal) (s2 := (F29_h2 v4 y5 u6_0 h31 v31 (IntKind.i64.wrap (a11 + 1)) (l12 ++ ([y27] : List Int)))) (hC := (ai m31 (ai m28 (ai (F29_l1_0 h l4 v4 hv4 y5 u6_0 u6_0h a11 l12 u12 h13 hp13 (y15, 0) y27 e27) (ai (Heapy.nivn (A := [⟨u6_0, 29, 1, List.flatMap encH u6_0h⟩, ⟨u12, 3, 1, List.flatMap enc3 l12⟩]) (hs := u6_0h) (xss := y5.1) (eo := 29) hp13 0 rfl) (ai (F52_spec l4 a11 v4 h13 (SlE.mono hv4 (Heapy.sub hp13) (E3_mono (Heapy.sub hp13))) _ e15) (ai c14 trivial))))))) (hd := F29_d2) (h := by kernel_rfl)⟩
  · intro hr
    obtain rfl := Option.some.inj hr
    refine ⟨(.exit 0), (F29_x2_0 h h13 u12 (l12 : (List Int))), (by intro hh; cases hh), ?_, pEnd_sound good (L := F29_L) (D := F29_D) (its := [.g, (.b false)]) (ds := F29_m2_1) (ks := []) (e := (.exit 0)) (s2 := (F29_x2_0 h h13 u12 (l12 : (List Int)))) (hC := (ai c14 trivial)) (hd := F29_d2) (h := by kernel_rfl)⟩
    exact ⟨rfl, h13, u12, (Heapy.pick (Heapy.head (A := [⟨u6_0, 29, 1, List.flatMap encH u6_0h⟩, ⟨u12, 3, 1, List.flatMap enc3 l12⟩]) (N := NIn 3 1 enc3 u6_0h y5.1) hp13) [1] (by decide)), z12, rfl⟩
theorem F29_l2 (h : AHeap) (l4 : List Int) (v4 : Hd) (hv4 : SlE E3 1 h (sv v4) l4) (y5 : (List (List Int)) × Bool) (u6_0 : Hd) (u6_0h : List Hd) (x : Int × (List Int)) (r : (List Int)) (hl : loopO (fun (s : Int × (List Int)) => F29_s2 l4 y5 s.1 s.2) x = some r) (S : AS) (hI : (F29_i2 h v4 y5 u6_0 u6_0h) x S) : ∃ e S', (F29_x2 h) r e S' ∧ AWp Try.prog (.loop (codeOf Try.prog 29 [1, 1, 1, 1, 0, 1, 0, 0])) (Ends1 e S') S :=
  loop_rel (fun x S hI => F29_r2 h l4 v4 hv4 y5 u6_0 u6_0h x.1 x.2 S hI) hl hI
def F29 (x1 : Int) (l2 : List (Int × Int × Int × Int)) (x3 : Int) (l4 : List Int) : Option ((List Int) × Bool) :=
  (Option.bind (F51 x1 l2 x3) fun y5 =>
  (bif (!y5.2) then
   some ([], false)
  else
   (Option.bind (loopO (fun (s : Int × (List Int)) => F29_s2 l4 y5 s.1 s.2) (0, ([] : List Int))) fun y33 =>
   some (y33, true))))
set_option maxRecDepth 100000 in
theorem F29_spec (x1 : Int) (l2 : List (Int × Int × Int × Int)) (x3 : Int) (l4 : List Int) (v2 : Hd) (v4 : Hd) (h : AHeap) (hw : h.wf) (hv2 : SlE E57 4 h (sv v2) l2) (hv4 : SlE E3 1 h (sv v4) l4) (r : (List Int) × Bool) : F29 x1 l2 x3 l4 = some r → ∃ (ur0 : Hd) (h' : AHeap), Heapy h h' [⟨ur0, 3, 1, List.flatMap enc3 r.1⟩] ∧ Strict ur0 ∧ ACalls Try.prog 29 [.int .i64 x1, (sv v2), .int .i64 x3, (sv v4)] h (fun v' h'' => v' = (.tuple #[(sv ur0), .bool r.2] : Value) ∧ h'' = h') := by
  unfold F29
  refine bind_opt fun y5 e5 => ?_
  obtain ⟨u6_0, u6_0h, h6, q6, c6⟩ := F51_spec x1 l2 x3 v2 h hw hv2 _ e5
  have hp6 : Heapy h h6 ([⟨u6_0, 29, 1, List.flatMap encH u6_0h⟩] ++ NIn 3 1 enc3 u6_0h y5.1) := Heapy.callN (Heapy.refl hw) q6
  have kc8 := (ai c6 trivial)
  refine dec_bif (fun c8 => ?_) (fun c8 => ?_)
  · intro hr
    obtain rfl := Option.some.inj hr
    exact ⟨⟨none, 0, 0⟩, h6, Heapy.pick (Heapy.nil (Heapy.head (A := [⟨u6_0, 29, 1, List.flatMap encH u6_0h⟩]) (N := NIn 3 1 enc3 u6_0h y5.1) hp6) 3 1) [0] (by decide), Strict.nil, pFun_sound good tab_ok (f := 29) (its := [.g, .g, .g, .g, .g, (.c (.tuple #[(sv u6_0), .bool y5.2]) h6), .g, .g, .g, .g, .g, .g, .g, (.b true), .g, .g]) (args := [.int .i64 x1, (sv v2), .int .i64 x3, (sv v4)]) (h := h) (h' := h6) (v := .tuple #[.slice none 0 0, .bool false]) (hC := (ai c8 kc8)) (hr := by kernel_rfl)⟩
  · refine bind_opt fun y33 e33 => ?_
    have hp9 : Heapy h h6 ([⟨⟨none, 0, 0⟩, 3, 1, List.flatMap enc3 ([] : List Int)⟩, ⟨u6_0, 29, 1, List.flatMap encH u6_0h⟩] ++ NIn 3 1 enc3 u6_0h y5.1) := Heapy.nil hp6 3 1
    obtain ⟨ee33, SS33, hX33, hA33⟩ := F29_l2 h l4 v4 hv4 y5 u6_0 u6_0h (0, ([] : List Int)) y33 e33 (F29_h2 v4 y5 u6_0 h6 ⟨none, 0, 0⟩ 0 ([] : List Int)) ⟨h6, ⟨none, 0, 0⟩, (Heapy.pickN2 (A := [⟨⟨none, 0, 0⟩, 3, 1, List.flatMap enc3 ([] : List Int)⟩, ⟨u6_0, 29, 1, List.flatMap encH u6_0h⟩]) (N := NIn 3 1 enc3 u6_0h y5.1) hp9 2 rfl [1, 0] (by decide) rfl), Strict.nil, rfl⟩
    obtain ⟨rfl, h34, w0_34, hp34, zw0_34, rfl⟩ := hX33
    intro hr
    obtain rfl := Option.some.inj hr
    exact ⟨w0_34, h34, Heapy.pick hp34 [0] (by decide), zw0_34, pFun_sound good tab_ok (f := 29) (its := [.g, .g, .g, .g, .g, (.c (.tuple #[(sv u6_0), .bool y5.2]) h6), .g, .g, .g, .g, .g, .g, .g, (.b false), .g, .g, (.ln y5.1.length), .g, (.l F29_m2_0 [] (.exit 0) (F29_x2_0 h h34 w0_34 y33)), .g, .g, .g]) (args := [.int .i64 x1, (sv v2), .int .i64 x3, (sv v4)]) (h := h) (h' := h34) (v := .tuple #[(sv w0_34), .bool true]) (hC := (ai hA33 (ai (Heapy.nivn (A := [⟨u6_0, 29, 1, List.flatMap encH u6_0h⟩]) (hs := u6_0h) (xss := y5.1) (eo := 29) hp6 0 rfl) (ai c8 kc8)))) (hr := by kernel_rfl)⟩
/-! 9 jacquard/jacquardlaw31.BoundsWindow -/
def F9_L : List Nat := [3]
def F9_D : List (Nat × List (Nat × Nat)) := [(28, [(0, 2), (1, 2), (2, 2), (3, 2), (4, 2), (5, 2), (6, 2), (7, 2), (8, 2), (9, 2), (10, 2), (11, 2), (12, 2), (13, 2), (14, 2), (15, 2), (16, 2), (17, 2), (18, 2), (19, 2)])]
def F9__1 (x1 : Int) (x2 : Int) (x3 : Bool) (l4 : List (Int × Int × Int × Int)) (l5 : List (Int × Int × Int × Int)) (l6 : List (Int × Int)) (a55 : Int) : Bool := decide (a55 < ((List.replicate (IntKind.i64.wrap ((F26 x1 x2 x3 l4 l5 l6) + 1)).toNat (0 : Int)).length : Int))
def F9_m1_1 : List Bool := (true :: false :: false :: false :: true :: true :: true :: false :: false :: false :: (rp 169 true []))
def F9_m1_0 : List Bool := (true :: false :: false :: false :: true :: true :: true :: false :: false :: false :: (rp 56 true (false :: (rp 112 true []))))
def F9_s1 (x1 : Int) (x2 : Int) (x3 : Bool) (l4 : List (Int × Int × Int × Int)) (l5 : List (Int × Int × Int × Int)) (l6 : List (Int × Int)) (x7 : Int) (x8 : Int)  : Option Bool :=
  (Option.bind (F14 x1 x2 x3 l4 l5 l6) fun y23 =>
  (bif (!y23) then
   some (true)
  else
   (bif x3 then
    (bif decide (x7 < 1) then
     some (true)
    else
     (bif decide (x7 > 256) then
      some (true)
     else
      (bif (!x3) then
       (bif (x7 != 0) then
        some (true)
       else
        (bif decide (x8 < 0) then
         some (true)
        else
         some (decide (x8 > 4096))))
      else
       (bif decide (x8 < 0) then
        some (true)
       else
        some (decide (x8 > 4096))))))
   else
    (bif (!x3) then
     (bif (x7 != 0) then
      some (true)
     else
      (bif decide (x8 < 0) then
       some (true)
      else
       some (decide (x8 > 4096))))
    else
     (bif decide (x8 < 0) then
      some (true)
     else
      some (decide (x8 > 4096)))))))
def F9_h1 (x1 : Int) (x2 : Int) (x3 : Bool) (v4 : Hd) (v5 : Hd) (v6 : Hd) (x7 : Int) (x8 : Int) (y19 : (List Int) × (List Int) × Int) (u20_0 : Hd) (u20_1 : Hd) (h20 : AHeap)   : AS := ⟨(junk :: (.int .i64 x7) :: (.int .i64 x8) :: (.pointer (some ⟨3, 0, none⟩)) :: junk :: junk :: junk :: (sv u20_0) :: (sv u20_1) :: (.int .i64 y19.2.2) :: (rp 169 junk [])), [(3, [.int .i64 x1, .int .i64 x2, .bool x3, (sv v4), (sv v5), (sv v6)])], h20⟩
theorem F9_d1 : drawsOk F9_D (codeOf Try.prog 9 [1, 1, 1, 0, 0]) = true := by kernel_rfl
def F9_x1_0 (x1 : Int) (x2 : Int) (x3 : Bool) (v4 : Hd) (v5 : Hd) (v6 : Hd) (x7 : Int) (x8 : Int) (y19 : (List Int) × (List Int) × Int) (u20_0 : Hd) (u20_1 : Hd) (h20 : AHeap)  (r : Bool) : AS := ⟨(junk :: (.int .i64 x7) :: (.int .i64 x8) :: (.pointer (some ⟨3, 0, none⟩)) :: junk :: junk :: junk :: (sv u20_0) :: (sv u20_1) :: (.int .i64 y19.2.2) :: (rp 56 junk ((.bool r) :: (rp 112 junk [])))), [(3, [.int .i64 x1, .int .i64 x2, .bool x3, (sv v4), (sv v5), (sv v6)])], h20⟩
def F9_x1 (x1 : Int) (x2 : Int) (x3 : Bool) (v4 : Hd) (v5 : Hd) (v6 : Hd) (x7 : Int) (x8 : Int) (y19 : (List Int) × (List Int) × Int) (u20_0 : Hd) (u20_1 : Hd) (h20 : AHeap) (r : Bool) : Exit × AS := (.normal, (F9_x1_0 x1 x2 x3 v4 v5 v6 x7 x8 y19 u20_0 u20_1 h20 r))
set_option maxRecDepth 100000 in
theorem F9_r1 (h : AHeap) (x1 : Int) (x2 : Int) (x3 : Bool) (l4 : List (Int × Int × Int × Int)) (v4 : Hd) (hv4 : SlE E57 4 h (sv v4) l4) (l5 : List (Int × Int × Int × Int)) (v5 : Hd) (hv5 : SlE E59 4 h (sv v5) l5) (l6 : List (Int × Int)) (v6 : Hd) (hv6 : SlE E61 2 h (sv v6) l6) (x7 : Int) (x8 : Int) (y19 : (List Int) × (List Int) × Int) (u20_0 : Hd) (u20_1 : Hd) (h20 : AHeap) (hp20 : Heapy h h20 [⟨u20_0, 3, 1, List.flatMap enc3 y19.1⟩, ⟨u20_1, 3, 1, List.flatMap enc3 y19.2.1⟩]) (r : Bool) : F9_s1 x1 x2 x3 l4 l5 l6 x7 x8 = some r → AWp Try.prog (codeOf Try.prog 9 [1, 1, 1, 0, 0]) (Ends1 ((F9_x1 x1 x2 x3 v4 v5 v6 x7 x8 y19 u20_0 u20_1 h20) r).1 ((F9_x1 x1 x2 x3 v4 v5 v6 x7 x8 y19 u20_0 u20_1 h20) r).2) (F9_h1 x1 x2 x3 v4 v5 v6 x7 x8 y19 u20_0 u20_1 h20) := by
  unfold F9_s1
  refine bind_opt fun y23 e23 => ?_
  have kc25 := (ai (F14_spec x1 x2 x3 l4 l5 l6 v4 v5 v6 h20 (SlE.mono hv4 (Heapy.sub hp20) (E57_mono (Heapy.sub hp20))) (SlE.mono hv5 (Heapy.sub hp20) (E59_mono (Heapy.sub hp20))) (SlE.mono hv6 (Heapy.sub hp20) (E61_mono (Heapy.sub hp20))) _ e23) trivial)
  refine dec_bif (fun c25 => ?_) (fun c25 => ?_)
  · intro hr
    obtain rfl := Option.some.inj hr
    show AWp Try.prog _ (Ends1 ((F9_x1 x1 x2 x3 v4 v5 v6 x7 x8 y19 u20_0 u20_1 h20) (true : Bool)).1 ((F9_x1 x1 x2 x3 v4 v5 v6 x7 x8 y19 u20_0 u20_1 h20) (true : Bool)).2) _
    exact pEnd_sound good (L := F9_L) (D := F9_D) (its := [.g, (.c (.bool y23) h20), .g, .g, .n, .n, .n, .n, .n, .n, .n, .n, .n, .n, (.p true), .g, .n, .n, .n, .n, .n, .n, .n, .g, .g, .n, .n, .g, .g, .n, .n, .g]) (ds := F9_m1_0) (ks := []) (e := ((F9_x1 x1 x2 x3 v4 v5 v6 x7 x8 y19 u20_0 u20_1 h20) (true : Bool)).1) (s2 := ((F9_x1 x1 x2 x3 v4 v5 v6 x7 x8 y19 u20_0 u20_1 h20) (true : Bool)).2) (hC := (ai (g_tf l_t) (ai (g_tf l_t) (ai (g_tf l_t) (ai (g_tf l_t) (ai (g_tf l_t) (ai l_f (ai l_f (ai (g_tf l_t) (ai (g_tf l_t) (ai (g_tf l_t) (ai (g_tf l_t) (ai c25 (ai (g_tf c25) (ai l_f (ai l_f (ai l_f (ai l_f (ai l_f (ai l_f (ai (g_tf c25) (ai (g_tf c25) (ai (g_tf c25) kc25))))))))))))))))))))))) (hd := F9_d1) (h := by kernel_rfl)
  · have kc26 := (ai (g_ff c25) (ai (g_ff c25) (ai (g_ff c25) kc25)))
    refine dec_bif (fun c26 => ?_) (fun c26 => ?_)
    · have kc27 := (ai (g_tt c26) (ai (g_tt c26) (ai (g_tt c26) kc26)))
      refine dec_bif (fun c27 => ?_) (fun c27 => ?_)
      · intro hr
        obtain rfl := Option.some.inj hr
        show AWp Try.prog _ (Ends1 ((F9_x1 x1 x2 x3 v4 v5 v6 x7 x8 y19 u20_0 u20_1 h20) (true : Bool)).1 ((F9_x1 x1 x2 x3 v4 v5 v6 x7 x8 y19 u20_0 u20_1 h20) (true : Bool)).2) _
        exact pEnd_sound good (L := F9_L) (D := F9_D) (its := [.g, (.c (.bool y23) h20), .g, .g, (.w .g), (.w .g), (.w .g), (.w .g), (.w .g), (.w .g), .n, .n, (.w (.p true)), (.w (.p true)), (.p false), .g, .n, .n, .n, .n, .n, .n, .n, .g, .g, .n, .n, .g, .g, .n, .n, .g]) (ds := F9_m1_0) (ks := []) (e := ((F9_x1 x1 x2 x3 v4 v5 v6 x7 x8 y19 u20_0 u20_1 h20) (true : Bool)).1) (s2 := ((F9_x1 x1 x2 x3 v4 v5 v6 x7 x8 y19 u20_0 u20_1 h20) (true : Bool)).2) (hC := (ai (g_tf l_t) (ai (g_tf l_t) (ai (g_tf l_t) (ai (g_tf l_t) (ai (g_tf l_t) (ai l_f (ai l_f (ai (g_tf l_t) (ai (g_tf l_t) (ai (g_tf l_t) (ai (g_tf l_t) (ai c25 (ai c26 (ai (g_ff c25) (ai c27 (ai (g_tt c26) (ai (g_tf c27) (ai (g_tf c27) kc27))))))))))))))))))) (hd := F9_d1) (h := by kernel_rfl)
      · have kc28 := (ai c25 (ai c26 (ai (g_ff c25) (ai c27 (ai (g_tt c26) (ai (g_ff c27) (ai (g_ff c27) kc27)))))))
        refine dec_bif (fun c28 => ?_) (fun c28 => ?_)
        · intro hr
          obtain rfl := Option.some.inj hr
          show AWp Try.prog _ (Ends1 ((F9_x1 x1 x2 x3 v4 v5 v6 x7 x8 y19 u20_0 u20_1 h20) (true : Bool)).1 ((F9_x1 x1 x2 x3 v4 v5 v6 x7 x8 y19 u20_0 u20_1 h20) (true : Bool)).2) _
          exact pEnd_sound good (L := F9_L) (D := F9_D) (its := [.g, (.c (.bool y23) h20), .g, .g, (.w .g), (.w .g), (.w .g), (.w .g), (.w .g), (.w .g), (.w .g), (.w .g), (.w (.p false)), (.w (.p true)), (.p false), .g, .n, .n, .n, .n, .n, .n, .n, (.p true), .g, .n, .n, .g, .g, .n, .n, .g]) (ds := F9_m1_0) (ks := []) (e := ((F9_x1 x1 x2 x3 v4 v5 v6 x7 x8 y19 u20_0 u20_1 h20) (true : Bool)).1) (s2 := ((F9_x1 x1 x2 x3 v4 v5 v6 x7 x8 y19 u20_0 u20_1 h20) (true : Bool)).2) (hC := (ai (g_tf l_t) (ai (g_tf l_t) (ai (g_tf l_t) (ai (g_tf l_t) (ai c28 (ai (g_tf c28) (ai l_f (ai l_f (ai (g_tf c28) (ai (g_tf c28) (ai (g_tf c28) (ai (g_tf c28) kc28))))))))))))) (hd := F9_d1) (h := by kernel_rfl)
        · have kc29 := (ai (g_ff c28) (ai (g_ff c28) (ai (g_ff c28) (ai (g_ff c28) kc28))))
          refine dec_bif (fun c29 => ?_) (fun c29 => ?_)
          · have kc30 := (ai c28 (ai c29 (ai (g_ff c28) (ai (g_tt c29) (ai (g_tt c29) kc29)))))
            refine dec_bif (fun c30 => ?_) (fun c30 => ?_)
            · intro hr
              obtain rfl := Option.some.inj hr
              show AWp Try.prog _ (Ends1 ((F9_x1 x1 x2 x3 v4 v5 v6 x7 x8 y19 u20_0 u20_1 h20) (true : Bool)).1 ((F9_x1 x1 x2 x3 v4 v5 v6 x7 x8 y19 u20_0 u20_1 h20) (true : Bool)).2) _
              exact pEnd_sound good (L := F9_L) (D := F9_D) (its := [.g, (.c (.bool y23) h20), .g, .g, (.w .g), (.w .g), (.w .g), (.w .g), (.w .g), (.w .g), (.w .g), (.w .g), (.w (.p false)), (.w (.p true)), (.p false), .g, (.w .g), (.w .g), (.w .g), (.w .g), (.w .g), (.w .g), (.w (.p true)), (.p false), .g, .n, .n, (.p true), .g, .n, .n, .g]) (ds := F9_m1_0) (ks := []) (e := ((F9_x1 x1 x2 x3 v4 v5 v6 x7 x8 y19 u20_0 u20_1 h20) (true : Bool)).1) (s2 := ((F9_x1 x1 x2 x3 v4 v5 v6 x7 x8 y19 u20_0 u20_1 h20) (true : Bool)).2) (hC := (ai (g_tf l_t) (ai (g_tf l_t) (ai c30 (ai (g_tf c30) (ai (g_tf c30) kc30)))))) (hd := F9_d1) (h := by kernel_rfl)
            · have kc31 := (ai c30 (ai (g_ff c30) (ai (g_ff c30) kc30)))
              refine dec_bif (fun c31 => ?_) (fun c31 => ?_)
              · intro hr
                obtain rfl := Option.some.inj hr
                show AWp Try.prog _ (Ends1 ((F9_x1 x1 x2 x3 v4 v5 v6 x7 x8 y19 u20_0 u20_1 h20) (true : Bool)).1 ((F9_x1 x1 x2 x3 v4 v5 v6 x7 x8 y19 u20_0 u20_1 h20) (true : Bool)).2) _
                exact pEnd_sound good (L := F9_L) (D := F9_D) (its := [.g, (.c (.bool y23) h20), .g, .g, (.w .g), (.w .g), (.w .g), (.w .g), (.w .g), (.w .g), (.w .g), (.w .g), (.w (.p false)), (.w (.p true)), (.p false), .g, (.w .g), (.w .g), (.w .g), (.w .g), (.w .g), (.w .g), (.w (.p true)), (.p false), .g, (.w .g), (.w .g), (.p false), .g, .n, .n, (.p true)]) (ds := F9_m1_0) (ks := []) (e := ((F9_x1 x1 x2 x3 v4 v5 v6 x7 x8 y19 u20_0 u20_1 h20) (true : Bool)).1) (s2 := ((F9_x1 x1 x2 x3 v4 v5 v6 x7 x8 y19 u20_0 u20_1 h20) (true : Bool)).2) (hC := (ai c31 (ai (g_tf c31) (ai (g_tf c31) kc31)))) (hd := F9_d1) (h := by kernel_rfl)
              · intro hr
                obtain rfl := Option.some.inj hr
                show AWp Try.prog _ (Ends1 ((F9_x1 x1 x2 x3 v4 v5 v6 x7 x8 y19 u20_0 u20_1 h20) ((decide (x8 > 4096)) : Bool)).1 ((F9_x1 x1 x2 x3 v4 v5 v6 x7 x8 y19 u20_0 u20_1 h20) ((decide (x8 > 4096)) : Bool)).2) _
                exact pEnd_sound good (L := F9_L) (D := F9_D) (its := [.g, (.c (.bool y23) h20), .g, .g, (.w .g), (.w .g), (.w .g), (.w .g), (.w .g), (.w .g), (.w .g), (.w .g), (.w (.p false)), (.w (.p true)), (.p false), .g, (.w .g), (.w .g), (.w .g), (.w .g), (.w .g), (.w .g), (.w (.p true)), (.p false), .g, (.w .g), (.w .g), (.p false), .g, (.w .g), (.w .g), (.p false)]) (ds := F9_m1_0) (ks := []) (e := ((F9_x1 x1 x2 x3 v4 v5 v6 x7 x8 y19 u20_0 u20_1 h20) ((decide (x8 > 4096)) : Bool)).1) (s2 := ((F9_x1 x1 x2 x3 v4 v5 v6 x7 x8 y19 u20_0 u20_1 h20) ((decide (x8 > 4096)) : Bool)).2) (hC := (ai c31 (ai (g_ff c31) (ai (g_ff c31) kc31)))) (hd := F9_d1) (h := by kernel_rfl)
          · have kc32 := (ai (g_ff l_f) (ai (g_ff l_f) (ai c28 (ai c29 (ai (g_ff c28) (ai (g_ft c29) (ai (g_ft c29) kc29)))))))
            refine dec_bif (fun c32 => ?_) (fun c32 => ?_)
            · intro hr
              obtain rfl := Option.some.inj hr
              show AWp Try.prog _ (Ends1 ((F9_x1 x1 x2 x3 v4 v5 v6 x7 x8 y19 u20_0 u20_1 h20) (true : Bool)).1 ((F9_x1 x1 x2 x3 v4 v5 v6 x7 x8 y19 u20_0 u20_1 h20) (true : Bool)).2) _
              exact pEnd_sound good (L := F9_L) (D := F9_D) (its := [.g, (.c (.bool y23) h20), .g, .g, (.w .g), (.w .g), (.w .g), (.w .g), (.w .g), (.w .g), (.w .g), (.w .g), (.w (.p false)), (.w (.p true)), (.p false), .g, (.w .g), (.w .g), (.w .g), (.w .g), .n, .n, (.w (.p false)), (.p false), .g, (.w .g), (.w .g), .g, .g, .n, .n, (.p true)]) (ds := F9_m1_0) (ks := []) (e := ((F9_x1 x1 x2 x3 v4 v5 v6 x7 x8 y19 u20_0 u20_1 h20) (true : Bool)).1) (s2 := ((F9_x1 x1 x2 x3 v4 v5 v6 x7 x8 y19 u20_0 u20_1 h20) (true : Bool)).2) (hC := (ai c32 (ai (g_tf c32) (ai (g_tf c32) kc32)))) (hd := F9_d1) (h := by kernel_rfl)
            · intro hr
              obtain rfl := Option.some.inj hr
              show AWp Try.prog _ (Ends1 ((F9_x1 x1 x2 x3 v4 v5 v6 x7 x8 y19 u20_0 u20_1 h20) ((decide (x8 > 4096)) : Bool)).1 ((F9_x1 x1 x2 x3 v4 v5 v6 x7 x8 y19 u20_0 u20_1 h20) ((decide (x8 > 4096)) : Bool)).2) _
              exact pEnd_sound good (L := F9_L) (D := F9_D) (its := [.g, (.c (.bool y23) h20), .g, .g, (.w .g), (.w .g), (.w .g), (.w .g), (.w .g), (.w .g), (.w .g), (.w .g), (.w (.p false)), (.w (.p true)), (.p false), .g, (.w .g), (.w .g), (.w .g), (.w .g), .n, .n, (.w (.p false)), (.p false), .g, (.w .g), (.w .g), .g, .g, (.w .g), (.w .g), (.p false)]) (ds := F9_m1_0) (ks := []) (e := ((F9_x1 x1 x2 x3 v4 v5 v6 x7 x8 y19 u20_0 u20_1 h20) ((decide (x8 > 4096)) : Bool)).1) (s2 := ((F9_x1 x1 x2 x3 v4 v5 v6 x7 x8 y19 u20_0 u20_1 h20) ((decide (x8 > 4096)) : Bool)).2) (hC := (ai c32 (ai (g_ff c32) (ai (g_ff c32) kc32)))) (hd := F9_d1) (h := by kernel_rfl)
    · have kc33 := (ai (g_ff l_f) (ai (g_ff l_f) (ai (g_ff l_f) (ai (g_ff l_f) (ai c25 (ai c26 (ai (g_ff c25) (ai (g_ft c26) (ai l_f (ai l_f (ai (g_ft c26) (ai (g_ft c26) (ai (g_ft c26) kc26)))))))))))))
      refine dec_bif (fun c33 => ?_) (fun c33 => ?_)
      · have kc34 := (ai c33 (ai (g_ff l_f) (ai (g_tt c33) (ai (g_tt c33) kc33))))
        refine dec_bif (fun c34 => ?_) (fun c34 => ?_)
        · intro hr
          obtain rfl := Option.some.inj hr
          show AWp Try.prog _ (Ends1 ((F9_x1 x1 x2 x3 v4 v5 v6 x7 x8 y19 u20_0 u20_1 h20) (true : Bool)).1 ((F9_x1 x1 x2 x3 v4 v5 v6 x7 x8 y19 u20_0 u20_1 h20) (true : Bool)).2) _
          exact pEnd_sound good (L := F9_L) (D := F9_D) (its := [.g, (.c (.bool y23) h20), .g, .g, (.w .g), (.w .g), (.w .g), .n, .n, .n, .n, .n, .n, (.w (.p false)), (.p false), .g, (.w .g), (.w .g), (.w .g), (.w .g), (.w .g), (.w .g), (.w (.p true)), .g, .g, .n, .n, (.p true), .g, .n, .n, .g]) (ds := F9_m1_0) (ks := []) (e := ((F9_x1 x1 x2 x3 v4 v5 v6 x7 x8 y19 u20_0 u20_1 h20) (true : Bool)).1) (s2 := ((F9_x1 x1 x2 x3 v4 v5 v6 x7 x8 y19 u20_0 u20_1 h20) (true : Bool)).2) (hC := (ai (g_tf l_t) (ai (g_tf l_t) (ai c34 (ai (g_tf c34) (ai (g_tf c34) kc34)))))) (hd := F9_d1) (h := by kernel_rfl)
        · have kc35 := (ai c34 (ai (g_ff c34) (ai (g_ff c34) kc34)))
          refine dec_bif (fun c35 => ?_) (fun c35 => ?_)
          · intro hr
            obtain rfl := Option.some.inj hr
            show AWp Try.prog _ (Ends1 ((F9_x1 x1 x2 x3 v4 v5 v6 x7 x8 y19 u20_0 u20_1 h20) (true : Bool)).1 ((F9_x1 x1 x2 x3 v4 v5 v6 x7 x8 y19 u20_0 u20_1 h20) (true : Bool)).2) _
            exact pEnd_sound good (L := F9_L) (D := F9_D) (its := [.g, (.c (.bool y23) h20), .g, .g, (.w .g), (.w .g), (.w .g), .n, .n, .n, .n, .n, .n, (.w (.p false)), (.p false), .g, (.w .g), (.w .g), (.w .g), (.w .g), (.w .g), (.w .g), (.w (.p true)), .g, .g, (.w .g), (.w .g), (.p false), .g, .n, .n, (.p true)]) (ds := F9_m1_0) (ks := []) (e := ((F9_x1 x1 x2 x3 v4 v5 v6 x7 x8 y19 u20_0 u20_1 h20) (true : Bool)).1) (s2 := ((F9_x1 x1 x2 x3 v4 v5 v6 x7 x8 y19 u20_0 u20_1 h20) (true : Bool)).2) (hC := (ai c35 (ai (g_tf c35) (ai (g_tf c35) kc35)))) (hd := F9_d1) (h := by kernel_rfl)
          · intro hr
            obtain rfl := Option.some.inj hr
            show AWp Try.prog _ (Ends1 ((F9_x1 x1 x2 x3 v4 v5 v6 x7 x8 y19 u20_0 u20_1 h20) ((decide (x8 > 4096)) : Bool)).1 ((F9_x1 x1 x2 x3 v4 v5 v6 x7 x8 y19 u20_0 u20_1 h20) ((decide (x8 > 4096)) : Bool)).2) _
            exact pEnd_sound good (L := F9_L) (D := F9_D) (its := [.g, (.c (.bool y23) h20), .g, .g, (.w .g), (.w .g), (.w .g), .n, .n, .n, .n, .n, .n, (.w (.p false)), (.p false), .g, (.w .g), (.w .g), (.w .g), (.w .g), (.w .g), (.w .g), (.w (.p true)), .g, .g, (.w .g), (.w .g), (.p false), .g, (.w .g), (.w .g), (.p false)]) (ds := F9_m1_0) (ks := []) (e := ((F9_x1 x1 x2 x3 v4 v5 v6 x7 x8 y19 u20_0 u20_1 h20) ((decide (x8 > 4096)) : Bool)).1) (s2 := ((F9_x1 x1 x2 x3 v4 v5 v6 x7 x8 y19 u20_0 u20_1 h20) ((decide (x8 > 4096)) : Bool)).2) (hC := (ai c35 (ai (g_ff c35) (ai (g_ff c35) kc35)))) (hd := F9_d1) (h := by kernel_rfl)
      · have kc36 := (ai (g_ff l_f) (ai (g_ff l_f) (ai c33 (ai (g_ff l_f) (ai (g_ft c33) (ai (g_ft c33) kc33))))))
        refine dec_bif (fun c36 => ?_) (fun c36 => ?_)
        · intro hr
          obtain rfl := Option.some.inj hr
          show AWp Try.prog _ (Ends1 ((F9_x1 x1 x2 x3 v4 v5 v6 x7 x8 y19 u20_0 u20_1 h20) (true : Bool)).1 ((F9_x1 x1 x2 x3 v4 v5 v6 x7 x8 y19 u20_0 u20_1 h20) (true : Bool)).2) _
          exact pEnd_sound good (L := F9_L) (D := F9_D) (its := [.g, (.c (.bool y23) h20), .g, .g, (.w .g), (.w .g), (.w .g), .n, .n, .n, .n, .n, .n, (.w (.p false)), (.p false), .g, (.w .g), (.w .g), (.w .g), (.w .g), .n, .n, (.w (.p false)), .g, .g, (.w .g), (.w .g), .g, .g, .n, .n, (.p true)]) (ds := F9_m1_0) (ks := []) (e := ((F9_x1 x1 x2 x3 v4 v5 v6 x7 x8 y19 u20_0 u20_1 h20) (true : Bool)).1) (s2 := ((F9_x1 x1 x2 x3 v4 v5 v6 x7 x8 y19 u20_0 u20_1 h20) (true : Bool)).2) (hC := (ai c36 (ai (g_tf c36) (ai (g_tf c36) kc36)))) (hd := F9_d1) (h := by kernel_rfl)
        · intro hr
          obtain rfl := Option.some.inj hr
          show AWp Try.prog _ (Ends1 ((F9_x1 x1 x2 x3 v4 v5 v6 x7 x8 y19 u20_0 u20_1 h20) ((decide (x8 > 4096)) : Bool)).1 ((F9_x1 x1 x2 x3 v4 v5 v6 x7 x8 y19 u20_0 u20_1 h20) ((decide (x8 > 4096)) : Bool)).2) _
          exact pEnd_sound good (L := F9_L) (D := F9_D) (its := [.g, (.c (.bool y23) h20), .g, .g, (.w .g), (.w .g), (.w .g), .n, .n, .n, .n, .n, .n, (.w (.p false)), (.p false), .g, (.w .g), (.w .g), (.w .g), (.w .g), .n, .n, (.w (.p false)), .g, .g, (.w .g), (.w .g), .g, .g, (.w .g), (.w .g), (.p false)]) (ds := F9_m1_0) (ks := []) (e := ((F9_x1 x1 x2 x3 v4 v5 v6 x7 x8 y19 u20_0 u20_1 h20) ((decide (x8 > 4096)) : Bool)).1) (s2 := ((F9_x1 x1 x2 x3 v4 v5 v6 x7 x8 y19 u20_0 u20_1 h20) ((decide (x8 > 4096)) : Bool)).2) (hC := (ai c36 (ai (g_ff c36) (ai (g_ff c36) kc36)))) (hd := F9_d1) (h := by kernel_rfl)
theorem F9_l1_0 (h : AHeap) (x1 : Int) (x2 : Int) (x3 : Bool) (l4 : List (Int × Int × Int × Int)) (v4 : Hd) (hv4 : SlE E57 4 h (sv v4) l4) (l5 : List (Int × Int × Int × Int)) (v5 : Hd) (hv5 : SlE E59 4 h (sv v5) l5) (l6 : List (Int × Int)) (v6 : Hd) (hv6 : SlE E61 2 h (sv v6) l6) (x7 : Int) (x8 : Int) (y19 : (List Int) × (List Int) × Int) (u20_0 : Hd) (u20_1 : Hd) (h20 : AHeap) (hp20 : Heapy h h20 [⟨u20_0, 3, 1, List.flatMap enc3 y19.1⟩, ⟨u20_1, 3, 1, List.flatMap enc3 y19.2.1⟩]) (r : Bool) (hl : F9_s1 x1 x2 x3 l4 l5 l6 x7 x8 = some r) : AWp Try.prog (codeOf Try.prog 9 [1, 1, 1, 0, 0]) (Ends1 .normal (F9_x1_0 x1 x2 x3 v4 v5 v6 x7 x8 y19 u20_0 u20_1 h20 r)) (F9_h1 x1 x2 x3 v4 v5 v6 x7 x8 y19 u20_0 u20_1 h20) := by
  have k := F9_r1 h x1 x2 x3 l4 v4 hv4 l5 v5 hv5 l6 v6 hv6 x7 x8 y19 u20_0 u20_1 h20 hp20 r hl
  exact k
def F9_m2_1 : List Bool := (true :: false :: false :: false :: true :: true :: true :: false :: false :: false :: false :: false :: false :: (rp 166 true []))
def F9_m2_0 : List Bool := (true :: false :: false :: false :: true :: true :: true :: false :: false :: false :: false :: false :: false :: (rp 76 true (false :: false :: (rp 88 true []))))
def F9_s2 (x8 : Int) (y41 : (List Int) × Bool) (a44 : Bool) (a45 : Int) : Option ((Bool × Int) ⊕ Bool) :=
  (bif decide (a45 < (y41.1.length : Int)) then
   (bif a44 then
    (Option.bind (at? y41.1 a45) fun y48 =>
    some (.inl ((decide (y48 ≤ x8)), (IntKind.i64.wrap (a45 + 1)))))
   else
    some (.inl (false, (IntKind.i64.wrap (a45 + 1)))))
  else
   some (.inr a44))
def F9_h2 (x1 : Int) (x2 : Int) (x3 : Bool) (l4 : List (Int × Int × Int × Int)) (v4 : Hd) (l5 : List (Int × Int × Int × Int)) (v5 : Hd) (l6 : List (Int × Int)) (v6 : Hd) (x7 : Int) (x8 : Int) (y19 : (List Int) × (List Int) × Int) (u20_0 : Hd) (u20_1 : Hd) (y41 : (List Int) × Bool) (u42_0 : Hd) (h42 : AHeap)  (a44 : Bool) (a45 : Int) : AS := ⟨(junk :: (.int .i64 x7) :: (.int .i64 x8) :: (.pointer (some ⟨3, 0, none⟩)) :: junk :: junk :: junk :: (sv u20_0) :: (sv u20_1) :: (.int .i64 y19.2.2) :: (.int .i64 (IntKind.i64.wrap ((F26 x1 x2 x3 l4 l5 l6) + 1))) :: (sv u42_0) :: (.bool a44) :: (rp 76 junk ((.int .i64 (y41.1.length : Int)) :: (.int .i64 a45) :: (rp 88 junk [])))), [(3, [.int .i64 x1, .int .i64 x2, .bool x3, (sv v4), (sv v5), (sv v6)])], h42⟩
theorem F9_d2 : drawsOk F9_D (codeOf Try.prog 9 [1, 1, 1, 1, 1, 1, 0, 1, 0, 0]) = true := by kernel_rfl
def F9_x2_0 (x1 : Int) (x2 : Int) (x3 : Bool) (l4 : List (Int × Int × Int × Int)) (v4 : Hd) (l5 : List (Int × Int × Int × Int)) (v5 : Hd) (l6 : List (Int × Int)) (v6 : Hd) (x7 : Int) (x8 : Int) (y19 : (List Int) × (List Int) × Int) (u20_0 : Hd) (u20_1 : Hd) (u42_0 : Hd) (h42 : AHeap)  (r : Bool) : AS := ⟨(junk :: (.int .i64 x7) :: (.int .i64 x8) :: (.pointer (some ⟨3, 0, none⟩)) :: junk :: junk :: junk :: (sv u20_0) :: (sv u20_1) :: (.int .i64 y19.2.2) :: (.int .i64 (IntKind.i64.wrap ((F26 x1 x2 x3 l4 l5 l6) + 1))) :: (sv u42_0) :: (.bool r) :: (rp 166 junk [])), [(3, [.int .i64 x1, .int .i64 x2, .bool x3, (sv v4), (sv v5), (sv v6)])], h42⟩
def F9_x2 (x1 : Int) (x2 : Int) (x3 : Bool) (l4 : List (Int × Int × Int × Int)) (v4 : Hd) (l5 : List (Int × Int × Int × Int)) (v5 : Hd) (l6 : List (Int × Int)) (v6 : Hd) (x7 : Int) (x8 : Int) (y19 : (List Int) × (List Int) × Int) (u20_0 : Hd) (u20_1 : Hd) (u42_0 : Hd) (h42 : AHeap) (r : Bool) : Exit × AS := ((.exit 0), (F9_x2_0 x1 x2 x3 l4 v4 l5 v5 l6 v6 x7 x8 y19 u20_0 u20_1 u42_0 h42 r))
set_option maxRecDepth 100000 in
theorem F9_r2 (h : AHeap) (x1 : Int) (x2 : Int) (x3 : Bool) (l4 : List (Int × Int × Int × Int)) (v4 : Hd) (l5 : List (Int × Int × Int × Int)) (v5 : Hd) (l6 : List (Int × Int)) (v6 : Hd) (x7 : Int) (x8 : Int) (y19 : (List Int) × (List Int) × Int) (u20_0 : Hd) (u20_1 : Hd) (y41 : (List Int) × Bool) (u42_0 : Hd) (h42 : AHeap) (hp42 : Heapy h h42 [⟨u42_0, 3, 1, List.flatMap enc3 y41.1⟩, ⟨u20_0, 3, 1, List.flatMap enc3 y19.1⟩, ⟨u20_1, 3, 1, List.flatMap enc3 y19.2.1⟩]) (a44 : Bool) (a45 : Int) (o : (Bool × Int) ⊕ Bool) : F9_s2 x8 y41 a44 a45 = some o → RdF Try.prog (codeOf Try.prog 9 [1, 1, 1, 1, 1, 1, 0, 1, 0, 0]) (fun (s : Bool × Int) => (F9_h2 x1 x2 x3 l4 v4 l5 v5 l6 v6 x7 x8 y19 u20_0 u20_1 y41 u42_0 h42 s.1 s.2)) (F9_x2 x1 x2 x3 l4 v4 l5 v5 l6 v6 x7 x8 y19 u20_0 u20_1 u42_0 h42) (F9_h2 x1 x2 x3 l4 v4 l5 v5 l6 v6 x7 x8 y19 u20_0 u20_1 y41 u42_0 h42 a44 a45) o := by
  unfold F9_s2
  refine dec_bif (fun c46 => ?_) (fun c46 => ?_)
  · have kc47 := (ai c46 trivial)
    refine dec_bif (fun c47 => ?_) (fun c47 => ?_)
    · refine bind_opt fun y48 e48 => ?_
      obtain ⟨id48, off48, g48, cs48, ix48, at48, rfl⟩ := SlE.at (Heapy.sle (v := u42_0) (xs := y41.1) (enc := enc3) hp42 0 rfl (fun _ => rfl) (by decide)) e48
      intro hr
      obtain rfl := Option.some.inj hr
      show AWp Try.prog _ (Ends1 .normal (F9_h2 x1 x2 x3 l4 v4 l5 v5 l6 v6 x7 x8 y19 u20_0 u20_1 y41 u42_0 h42 (decide (y48 ≤ x8)) (IntKind.i64.wrap (a45 + 1)))) _
      exact pEnd_sound good (L := F9_L) (D := F9_D) (its := [.g, (.b true), .g, .g, .g, .g, (.w .g), (.w .g), (.w (.ix id48 off48 g48)), (.w (.ld (.int .i64 y48))), (.w .g), (.w .g), (.p true), .g, .g, .g]) (ds := F9_m2_0) (ks := []) (e := .normal) (s2 := (F9_h2 x1 x2 x3 l4 v4 l5 v5 l6 v6 x7 x8 y19 u20_0 u20_1 y41 u42_0 h42 (decide (y48 ≤ x8)) (IntKind.i64.wrap (a45 + 1)))) (hC := (ai c47 (ai (g_tt c47) (ai (g_tt c47) (ai (At.one (P := Try.prog) (t := 3) (v := .int .i64 y48) at48 (by kernel_rfl) 0 rfl rfl) (ai (g_tt c47) (ai ix48 (ai (g_tt c47) (ai (g_tt c47) (ai (g_tt c47) kc47)))))))))) (hd := F9_d2) (h := by kernel_rfl)
    · intro hr
      obtain rfl := Option.some.inj hr
      show AWp Try.prog _ (Ends1 .normal (F9_h2 x1 x2 x3 l4 v4 l5 v5 l6 v6 x7 x8 y19 u20_0 u20_1 y41 u42_0 h42 false (IntKind.i64.wrap (a45 + 1)))) _
      exact pEnd_sound good (L := F9_L) (D := F9_D) (its := [.g, (.b true), .g, .g, .g, .g, .n, .n, .n, .n, .n, .n, (.p false), .g, .g, .g]) (ds := F9_m2_0) (ks := []) (e := .normal) (s2 := (F9_h2 x1 x2 x3 l4 v4 l5 v5 l6 v6 x7 x8 y19 u20_0 u20_1 y41 u42_0 h42 false (IntKind.i64.wrap (a45 + 1)))) (hC := (ai c47 (ai (g_ft c47) (ai (g_ft c47) (ai (g_ft c47) (ai (g_ft c47) (ai (g_ft c47) (ai (g_ft c47) kc47)))))))) (hd := F9_d2) (h := by kernel_rfl)
  · intro hr
    obtain rfl := Option.some.inj hr
    show AWp Try.prog _ (Ends1 ((F9_x2 x1 x2 x3 l4 v4 l5 v5 l6 v6 x7 x8 y19 u20_0 u20_1 u42_0 h42) (a44 : Bool)).1 ((F9_x2 x1 x2 x3 l4 v4 l5 v5 l6 v6 x7 x8 y19 u20_0 u20_1 u42_0 h42) (a44 : Bool)).2) _
    exact pEnd_sound good (L := F9_L) (D := F9_D) (its := [.g, (.b false)]) (ds := F9_m2_1) (ks := []) (e := ((F9_x2 x1 x2 x3 l4 v4 l5 v5 l6 v6 x7 x8 y19 u20_0 u20_1 u42_0 h42) (a44 : Bool)).1) (s2 := ((F9_x2 x1 x2 x3 l4 v4 l5 v5 l6 v6 x7 x8 y19 u20_0 u20_1 u42_0 h42) (a44 : Bool)).2) (hC := (ai c46 trivial)) (hd := F9_d2) (h := by kernel_rfl)
theorem F9_l2_0 (h : AHeap) (x1 : Int) (x2 : Int) (x3 : Bool) (l4 : List (Int × Int × Int × Int)) (v4 : Hd) (l5 : List (Int × Int × Int × Int)) (v5 : Hd) (l6 : List (Int × Int)) (v6 : Hd) (x7 : Int) (x8 : Int) (y19 : (List Int) × (List Int) × Int) (u20_0 : Hd) (u20_1 : Hd) (y41 : (List Int) × Bool) (u42_0 : Hd) (h42 : AHeap) (hp42 : Heapy h h42 [⟨u42_0, 3, 1, List.flatMap enc3 y41.1⟩, ⟨u20_0, 3, 1, List.flatMap enc3 y19.1⟩, ⟨u20_1, 3, 1, List.flatMap enc3 y19.2.1⟩]) (x : Bool × Int) (r : Bool) (hl : loopO (fun (s : Bool × Int) => F9_s2 x8 y41 s.1 s.2) x = some r) : AWp Try.prog (.loop (codeOf Try.prog 9 [1, 1, 1, 1, 1, 1, 0, 1, 0, 0])) (Ends1 (.exit 0) (F9_x2_0 x1 x2 x3 l4 v4 l5 v5 l6 v6 x7 x8 y19 u20_0 u20_1 u42_0 h42 r)) ((fun (s : Bool × Int) => (F9_h2 x1 x2 x3 l4 v4 l5 v5 l6 v6 x7 x8 y19 u20_0 u20_1 y41 u42_0 h42 s.1 s.2)) x) := by
  have k := loop_fun (P := Try.prog) (c := (codeOf Try.prog 9 [1, 1, 1, 1, 1, 1, 0, 1, 0, 0])) (step := (fun (s : Bool × Int) => F9_s2 x8 y41 s.1 s.2)) (hd := (fun (s : Bool × Int) => (F9_h2 x1 x2 x3 l4 v4 l5 v5 l6 v6 x7 x8 y19 u20_0 u20_1 y41 u42_0 h42 s.1 s.2))) (X := (F9_x2 x1 x2 x3 l4 v4 l5 v5 l6 v6 x7 x8 y19 u20_0 u20_1 u42_0 h42)) (by intro t; unfold F9_x2; intro h; cases h) (fun x => F9_r2 h x1 x2 x3 l4 v4 l5 v5 l6 v6 x7 x8 y19 u20_0 u20_1 y41 u42_0 h42 hp42 x.1 x.2) hl
  exact k
def F9_m3_1 : List Bool := (true :: false :: true :: false :: true :: true :: true :: false :: false :: false :: false :: false :: true :: true :: false :: (rp 164 true []))
def F9_m3_0 : List Bool := (true :: false :: false :: false :: true :: true :: true :: false :: false :: false :: false :: false :: true :: true :: false :: (rp 103 true (false :: false :: (rp 59 true []))))
def F9_s3 (x1 : Int) (x2 : Int) (x3 : Bool) (l4 : List (Int × Int × Int × Int)) (l5 : List (Int × Int × Int × Int)) (l6 : List (Int × Int)) (x8 : Int) (a55 : Int) (l56 : List Int) : Option ((Int × (List Int)) ⊕ (List Int)) :=
  (bif (F9__1 x1 x2 x3 l4 l5 l6 a55) then
   (Option.bind (at? l56 a55) fun y59 =>
   some (.inl ((IntKind.i64.wrap (a55 + 1)), (setI l56 a55 x8))))
  else
   some (.inr l56))
def F9_h3 (x1 : Int) (x2 : Int) (x3 : Bool) (l4 : List (Int × Int × Int × Int)) (v4 : Hd) (l5 : List (Int × Int × Int × Int)) (v5 : Hd) (l6 : List (Int × Int)) (v6 : Hd) (x7 : Int) (x8 : Int) (y19 : (List Int) × (List Int) × Int) (u20_0 : Hd) (u20_1 : Hd) (u42_0 : Hd) (v53 : Hd) (h57 : AHeap) (a55 : Int) (l56 : List Int) : AS := ⟨(junk :: (.int .i64 x7) :: (.int .i64 x8) :: (.pointer (some ⟨3, 0, none⟩)) :: junk :: junk :: junk :: (sv u20_0) :: (sv u20_1) :: (.int .i64 y19.2.2) :: (.int .i64 (IntKind.i64.wrap ((F26 x1 x2 x3 l4 l5 l6) + 1))) :: (sv u42_0) :: junk :: junk :: (sv v53) :: (rp 103 junk ((.int .i64 ((List.replicate (IntKind.i64.wrap ((F26 x1 x2 x3 l4 l5 l6) + 1)).toNat (0 : Int)).length : Int)) :: (.int .i64 a55) :: (rp 59 junk [])))), [(3, [.int .i64 x1, .int .i64 x2, .bool x3, (sv v4), (sv v5), (sv v6)])], h57⟩
theorem F9_d3 : drawsOk F9_D (codeOf Try.prog 9 [1, 1, 1, 1, 1, 1, 1, 1, 1, 0, 1, 0, 0]) = true := by kernel_rfl
def F9_x3_0 (h : AHeap) (x1 : Int) (x2 : Int) (x3 : Bool) (l4 : List (Int × Int × Int × Int)) (v4 : Hd) (l5 : List (Int × Int × Int × Int)) (v5 : Hd) (l6 : List (Int × Int)) (v6 : Hd) (x7 : Int) (y19 : (List Int) × (List Int) × Int) (u20_0 : Hd) (u20_1 : Hd) (y41 : (List Int) × Bool) (u42_0 : Hd) (v53 : Hd) (hx : AHeap) (r : (List Int)) : AS := ⟨(junk :: (.int .i64 x7) :: junk :: (.pointer (some ⟨3, 0, none⟩)) :: junk :: junk :: junk :: (sv u20_0) :: (sv u20_1) :: (.int .i64 y19.2.2) :: (.int .i64 (IntKind.i64.wrap ((F26 x1 x2 x3 l4 l5 l6) + 1))) :: (sv u42_0) :: junk :: junk :: (sv v53) :: (rp 164 junk [])), [(3, [.int .i64 x1, .int .i64 x2, .bool x3, (sv v4), (sv v5), (sv v6)])], hx⟩
def F9_i3 (h : AHeap) (x1 : Int) (x2 : Int) (x3 : Bool) (l4 : List (Int × Int × Int × Int)) (v4 : Hd) (l5 : List (Int × Int × Int × Int)) (v5 : Hd) (l6 : List (Int × Int)) (v6 : Hd) (x7 : Int) (x8 : Int) (y19 : (List Int) × (List Int) × Int) (u20_0 : Hd) (u20_1 : Hd) (y41 : (List Int) × Bool) (u42_0 : Hd) (v53 : Hd) (s : Int × (List Int)) (S : AS) : Prop := ∃ (h57 : AHeap), Heapy h h57 [⟨u20_0, 3, 1, List.flatMap enc3 y19.1⟩, ⟨u20_1, 3, 1, List.flatMap enc3 y19.2.1⟩, ⟨u42_0, 3, 1, List.flatMap enc3 y41.1⟩, ⟨v53, 3, 1, List.flatMap enc3 s.2⟩] ∧ S = (F9_h3 x1 x2 x3 l4 v4 l5 v5 l6 v6 x7 x8 y19 u20_0 u20_1 u42_0 v53 h57 s.1 s.2)
def F9_x3 (h : AHeap) (x1 : Int) (x2 : Int) (x3 : Bool) (l4 : List (Int × Int × Int × Int)) (v4 : Hd) (l5 : List (Int × Int × Int × Int)) (v5 : Hd) (l6 : List (Int × Int)) (v6 : Hd) (x7 : Int) (y19 : (List Int) × (List Int) × Int) (u20_0 : Hd) (u20_1 : Hd) (y41 : (List Int) × Bool) (u42_0 : Hd) (v53 : Hd) (r : (List Int)) (e : Exit) (S : AS) : Prop := e = (.exit 2) ∧ ∃ (hx : AHeap), Heapy h hx [⟨u20_0, 3, 1, List.flatMap enc3 y19.1⟩, ⟨u20_1, 3, 1, List.flatMap enc3 y19.2.1⟩, ⟨u42_0, 3, 1, List.flatMap enc3 y41.1⟩, ⟨v53, 3, 1, List.flatMap enc3 r⟩] ∧ S = (F9_x3_0 h x1 x2 x3 l4 v4 l5 v5 l6 v6 x7 y19 u20_0 u20_1 y41 u42_0 v53 hx r)
set_option maxRecDepth 100000 in
theorem F9_r3 (h : AHeap) (x1 : Int) (x2 : Int) (x3 : Bool) (l4 : List (Int × Int × Int × Int)) (v4 : Hd) (l5 : List (Int × Int × Int × Int)) (v5 : Hd) (l6 : List (Int × Int)) (v6 : Hd) (x7 : Int) (x8 : Int) (y19 : (List Int) × (List Int) × Int) (u20_0 : Hd) (u20_1 : Hd) (y41 : (List Int) × Bool) (u42_0 : Hd) (v53 : Hd) (a55 : Int) (l56 : List Int) (S : AS) (hI : (F9_i3 h x1 x2 x3 l4 v4 l5 v5 l6 v6 x7 x8 y19 u20_0 u20_1 y41 u42_0 v53) (a55, l56) S) (o : (Int × (List Int)) ⊕ (List Int)) : F9_s3 x1 x2 x3 l4 l5 l6 x8 a55 l56 = some o → Rd Try.prog (codeOf Try.prog 9 [1, 1, 1, 1, 1, 1, 1, 1, 1, 0, 1, 0, 0]) (F9_i3 h x1 x2 x3 l4 v4 l5 v5 l6 v6 x7 x8 y19 u20_0 u20_1 y41 u42_0 v53) (F9_x3 h x1 x2 x3 l4 v4 l5 v5 l6 v6 x7 y19 u20_0 u20_1 y41 u42_0 v53) S o := by
  obtain ⟨h57, hp57, rfl⟩ := hI
  unfold F9_s3
  refine dec_bif (fun c58 => ?_) (fun c58 => ?_)
  · refine bind_opt fun y59 e59 => ?_
    obtain ⟨id59, off59, g59, cs59, ix59, at59, rfl⟩ := SlE.at (Heapy.sle (v := v53) (xs := l56) (enc := enc3) hp57 3 rfl (fun _ => rfl) (by decide)) e59
    obtain ⟨h60, m60, hp60⟩ := Heapy.store (P := Try.prog) hp57 3 (v := v53) (xs := l56) (enc := enc3) rfl (fun _ => rfl) e59 (y' := x8) ix59 (t := 3) (x := .int .i64 x8) 0 (vs := [.int .i64 x8]) rfl (by kernel_rfl) rfl rfl rfl rfl
    intro hr
    obtain rfl := Option.some.inj hr
    exact ⟨(F9_h3 x1 x2 x3 l4 v4 l5 v5 l6 v6 x7 x8 y19 u20_0 u20_1 u42_0 v53 h60 (IntKind.i64.wrap (a55 + 1)) (setI l56 a55 x8)), ⟨h60, (Heapy.pick hp60 [0, 1, 2, 3] (by decide)), rfl⟩, pEnd_sound good (L := F9_L) (D := F9_D) (its := [.g, (.b true), .g, .g, .g, .g, .g, (.ix id59 off59 g59), (.mm undef h60), .g, .g]) (ds := F9_m3_0) (ks := []) (e := .normal) (s2 := (F9_h3 x1 x2 x3 l4 v4 l5 v5 l6 v6 x7 x8 y19 u20_0 u20_1 u42_0 v53 h60 (IntKind.i64.wrap (a55 + 1)) (setI l56 a55 x8))) (hC := (ai m60 (ai ix59 (ai c58 trivial)))) (hd := F9_d3) (h := by kernel_rfl)⟩
  · intro hr
    obtain rfl := Option.some.inj hr
    refine ⟨(.exit 2), (F9_x3_0 h x1 x2 x3 l4 v4 l5 v5 l6 v6 x7 y19 u20_0 u20_1 y41 u42_0 v53 h57 (l56 : (List Int))), (by intro hh; cases hh), ?_, pEnd_sound good (L := F9_L) (D := F9_D) (its := [.g, (.b false)]) (ds := F9_m3_1) (ks := []) (e := (.exit 2)) (s2 := (F9_x3_0 h x1 x2 x3 l4 v4 l5 v5 l6 v6 x7 y19 u20_0 u20_1 y41 u42_0 v53 h57 (l56 : (List Int)))) (hC := (ai c58 trivial)) (hd := F9_d3) (h := by kernel_rfl)⟩
    exact ⟨rfl, h57, (Heapy.pick hp57 [0, 1, 2, 3] (by decide)), rfl⟩
theorem F9_l3 (h : AHeap) (x1 : Int) (x2 : Int) (x3 : Bool) (l4 : List (Int × Int × Int × Int)) (v4 : Hd) (l5 : List (Int × Int × Int × Int)) (v5 : Hd) (l6 : List (Int × Int)) (v6 : Hd) (x7 : Int) (x8 : Int) (y19 : (List Int) × (List Int) × Int) (u20_0 : Hd) (u20_1 : Hd) (y41 : (List Int) × Bool) (u42_0 : Hd) (v53 : Hd) (x : Int × (List Int)) (r : (List Int)) (hl : loopO (fun (s : Int × (List Int)) => F9_s3 x1 x2 x3 l4 l5 l6 x8 s.1 s.2) x = some r) (S : AS) (hI : (F9_i3 h x1 x2 x3 l4 v4 l5 v5 l6 v6 x7 x8 y19 u20_0 u20_1 y41 u42_0 v53) x S) : ∃ e S', (F9_x3 h x1 x2 x3 l4 v4 l5 v5 l6 v6 x7 y19 u20_0 u20_1 y41 u42_0 v53) r e S' ∧ AWp Try.prog (.loop (codeOf Try.prog 9 [1, 1, 1, 1, 1, 1, 1, 1, 1, 0, 1, 0, 0])) (Ends1 e S') S :=
  loop_rel (fun x S hI => F9_r3 h x1 x2 x3 l4 v4 l5 v5 l6 v6 x7 x8 y19 u20_0 u20_1 y41 u42_0 v53 x.1 x.2 S hI) hl hI
def F9_m4_2 : List Bool := (rp 179 true [])
def F9_m4_1 : List Bool := (rp 7 true (false :: false :: true :: true :: false :: (rp 4 true (false :: (rp 137 true (false :: false :: (rp 23 true [])))))))
def F9_m4_0 : List Bool := (rp 6 true (false :: (rp 172 true [])))
def F9_s4 (x1 : Int) (x2 : Int) (x3 : Bool) (l4 : List (Int × Int × Int × Int)) (l5 : List (Int × Int × Int × Int)) (l6 : List (Int × Int)) (y19 : (List Int) × (List Int) × Int) (y41 : (List Int) × Bool) (y66 : (List Int) × Bool) (a72 : Int) : Option (Int ⊕ Nat) :=
  (bif decide (a72 < (IntKind.i64.wrap ((F26 x1 x2 x3 l4 l5 l6) + 1))) then
   (Option.bind (at? y19.1 a72) fun y74 =>
   (Option.bind (at? y41.1 a72) fun y75 =>
   (bif (y74 != y75) then
    some (.inr 0)
   else
    (Option.bind (at? y19.2.1 a72) fun y77 =>
    (Option.bind (at? y66.1 a72) fun y78 =>
    (bif (y77 != y78) then
     some (.inr 0)
    else
     some (.inl (IntKind.i64.wrap (a72 + 1)))))))))
  else
   some (.inr 1))
def F9_h4 (x1 : Int) (x2 : Int) (x3 : Bool) (l4 : List (Int × Int × Int × Int)) (l5 : List (Int × Int × Int × Int)) (l6 : List (Int × Int)) (u20_0 : Hd) (u20_1 : Hd) (u42_0 : Hd) (u67_0 : Hd) (h67 : AHeap)  (a72 : Int) : AS := ⟨(rp 7 junk ((sv u20_0) :: (sv u20_1) :: junk :: junk :: (sv u42_0) :: (rp 4 junk ((sv u67_0) :: (rp 137 junk ((.int .i64 (IntKind.i64.wrap ((F26 x1 x2 x3 l4 l5 l6) + 1))) :: (.int .i64 a72) :: (rp 23 junk []))))))), [], h67⟩
theorem F9_d4 : drawsOk F9_D (codeOf Try.prog 9 [1, 1, 1, 1, 1, 1, 1, 1, 1, 1, 1, 1, 1, 0, 1, 0, 0]) = true := by kernel_rfl
def F9_x4_0 (h67 : AHeap)  (r : Nat) : AS := ⟨(rp 6 junk ((.bool false) :: (rp 172 junk []))), [], h67⟩
def F9_x4_1 (h67 : AHeap)  (r : Nat) : AS := ⟨(rp 179 junk []), [], h67⟩
def F9_x4 (h67 : AHeap) (r : Nat) : Exit × AS := (bif Nat.beq r 0 then (.ret, (F9_x4_0 h67 r)) else ((.exit 4), (F9_x4_1 h67 r)))
set_option maxRecDepth 100000 in
theorem F9_r4 (h : AHeap) (x1 : Int) (x2 : Int) (x3 : Bool) (l4 : List (Int × Int × Int × Int)) (l5 : List (Int × Int × Int × Int)) (l6 : List (Int × Int)) (y19 : (List Int) × (List Int) × Int) (u20_0 : Hd) (u20_1 : Hd) (y41 : (List Int) × Bool) (u42_0 : Hd) (v53 : Hd) (y61 : (List Int)) (y66 : (List Int) × Bool) (u67_0 : Hd) (h67 : AHeap) (hp67 : Heapy h h67 [⟨u67_0, 3, 1, List.flatMap enc3 y66.1⟩, ⟨u20_0, 3, 1, List.flatMap enc3 y19.1⟩, ⟨u20_1, 3, 1, List.flatMap enc3 y19.2.1⟩, ⟨u42_0, 3, 1, List.flatMap enc3 y41.1⟩, ⟨v53, 3, 1, List.flatMap enc3 (setI y61 (F28 x1 x2 x3 l4 l5 l6) 0)⟩]) (a72 : Int) (o : Int ⊕ Nat) : F9_s4 x1 x2 x3 l4 l5 l6 y19 y41 y66 a72 = some o → RdF Try.prog (codeOf Try.prog 9 [1, 1, 1, 1, 1, 1, 1, 1, 1, 1, 1, 1, 1, 0, 1, 0, 0]) (fun (s : Int) => (F9_h4 x1 x2 x3 l4 l5 l6 u20_0 u20_1 u42_0 u67_0 h67 s)) (F9_x4 h67) (F9_h4 x1 x2 x3 l4 l5 l6 u20_0 u20_1 u42_0 u67_0 h67 a72) o := by
  unfold F9_s4
  refine dec_bif (fun c73 => ?_) (fun c73 => ?_)
  · refine bind_opt fun y74 e74 => ?_
    obtain ⟨id74, off74, g74, cs74, ix74, at74, rfl⟩ := SlE.at (Heapy.sle (v := u20_0) (xs := y19.1) (enc := enc3) hp67 1 rfl (fun _ => rfl) (by decide)) e74
    refine bind_opt fun y75 e75 => ?_
    obtain ⟨id75, off75, g75, cs75, ix75, at75, rfl⟩ := SlE.at (Heapy.sle (v := u42_0) (xs := y41.1) (enc := enc3) hp67 3 rfl (fun _ => rfl) (by decide)) e75
    have kc76 := (ai (At.one (P := Try.prog) (t := 3) (v := .int .i64 y75) at75 (by kernel_rfl) 0 rfl rfl) (ai ix75 (ai (At.one (P := Try.prog) (t := 3) (v := .int .i64 y74) at74 (by kernel_rfl) 0 rfl rfl) (ai ix74 (ai c73 trivial)))))
    refine dec_bif (fun c76 => ?_) (fun c76 => ?_)
    · intro hr
      obtain rfl := Option.some.inj hr
      show AWp Try.prog _ (Ends1 ((F9_x4 h67) (0 : Nat)).1 ((F9_x4 h67) (0 : Nat)).2) _
      exact pEnd_sound good (L := F9_L) (D := F9_D) (its := [.g, (.b true), .g, .g, .g, .g, (.ix id74 off74 g74), (.ld (.int .i64 y74)), .g, .g, (.ix id75 off75 g75), (.ld (.int .i64 y75)), .g, .g, .n, .n, .n, .n, .n, .n, .n, .n, .n, (.p true), (.b true), .g]) (ds := F9_m4_0) (ks := []) (e := ((F9_x4 h67) (0 : Nat)).1) (s2 := ((F9_x4 h67) (0 : Nat)).2) (hC := (ai l_t (ai c76 (ai (g_tf c76) (ai (g_tf c76) (ai (g_tf c76) (ai (g_tf c76) (ai (g_tf c76) (ai (g_tf c76) (ai (g_tf c76) (ai (g_tf c76) (ai (g_tf c76) kc76)))))))))))) (hd := F9_d4) (h := by kernel_rfl)
    · refine bind_opt fun y77 e77 => ?_
      obtain ⟨id77, off77, g77, cs77, ix77, at77, rfl⟩ := SlE.at (Heapy.sle (v := u20_1) (xs := y19.2.1) (enc := enc3) hp67 2 rfl (fun _ => rfl) (by decide)) e77
      refine bind_opt fun y78 e78 => ?_
      obtain ⟨id78, off78, g78, cs78, ix78, at78, rfl⟩ := SlE.at (Heapy.sle (v := u67_0) (xs := y66.1) (enc := enc3) hp67 0 rfl (fun _ => rfl) (by decide)) e78
      have kc79 := (ai c76 (ai (g_ff c76) (ai (At.one (P := Try.prog) (t := 3) (v := .int .i64 y78) at78 (by kernel_rfl) 0 rfl rfl) (ai (g_ff c76) (ai ix78 (ai (g_ff c76) (ai (g_ff c76) (ai (g_ff c76) (ai (At.one (P := Try.prog) (t := 3) (v := .int .i64 y77) at77 (by kernel_rfl) 0 rfl rfl) (ai (g_ff c76) (ai ix77 (ai (g_ff c76) (ai (g_ff c76) (ai (g_ff c76) kc76))))))))))))))
      refine dec_bif (fun c79 => ?_) (fun c79 => ?_)
      · intro hr
        obtain rfl := Option.some.inj hr
        show AWp Try.prog _ (Ends1 ((F9_x4 h67) (0 : Nat)).1 ((F9_x4 h67) (0 : Nat)).2) _
        exact pEnd_sound good (L := F9_L) (D := F9_D) (its := [.g, (.b true), .g, .g, .g, .g, (.ix id74 off74 g74), (.ld (.int .i64 y74)), .g, .g, (.ix id75 off75 g75), (.ld (.int .i64 y75)), .g, .g, (.w .g), (.w .g), (.w (.ix id77 off77 g77)), (.w (.ld (.int .i64 y77))), (.w .g), (.w .g), (.w (.ix id78 off78 g78)), (.w (.ld (.int .i64 y78))), (.w .g), (.p false), (.b true), .g]) (ds := F9_m4_0) (ks := []) (e := ((F9_x4 h67) (0 : Nat)).1) (s2 := ((F9_x4 h67) (0 : Nat)).2) (hC := (ai c79 kc79)) (hd := F9_d4) (h := by kernel_rfl)
      · intro hr
        obtain rfl := Option.some.inj hr
        show AWp Try.prog _ (Ends1 .normal (F9_h4 x1 x2 x3 l4 l5 l6 u20_0 u20_1 u42_0 u67_0 h67 (IntKind.i64.wrap (a72 + 1)))) _
        exact pEnd_sound good (L := F9_L) (D := F9_D) (its := [.g, (.b true), .g, .g, .g, .g, (.ix id74 off74 g74), (.ld (.int .i64 y74)), .g, .g, (.ix id75 off75 g75), (.ld (.int .i64 y75)), .g, .g, (.w .g), (.w .g), (.w (.ix id77 off77 g77)), (.w (.ld (.int .i64 y77))), (.w .g), (.w .g), (.w (.ix id78 off78 g78)), (.w (.ld (.int .i64 y78))), (.w .g), (.p false), (.b false), .g, .g]) (ds := F9_m4_1) (ks := []) (e := .normal) (s2 := (F9_h4 x1 x2 x3 l4 l5 l6 u20_0 u20_1 u42_0 u67_0 h67 (IntKind.i64.wrap (a72 + 1)))) (hC := (ai c79 kc79)) (hd := F9_d4) (h := by kernel_rfl)
  · intro hr
    obtain rfl := Option.some.inj hr
    show AWp Try.prog _ (Ends1 ((F9_x4 h67) (1 : Nat)).1 ((F9_x4 h67) (1 : Nat)).2) _
    exact pEnd_sound good (L := F9_L) (D := F9_D) (its := [.g, (.b false)]) (ds := F9_m4_2) (ks := []) (e := ((F9_x4 h67) (1 : Nat)).1) (s2 := ((F9_x4 h67) (1 : Nat)).2) (hC := (ai c73 trivial)) (hd := F9_d4) (h := by kernel_rfl)
theorem F9_l4_0 (h : AHeap) (x1 : Int) (x2 : Int) (x3 : Bool) (l4 : List (Int × Int × Int × Int)) (l5 : List (Int × Int × Int × Int)) (l6 : List (Int × Int)) (y19 : (List Int) × (List Int) × Int) (u20_0 : Hd) (u20_1 : Hd) (y41 : (List Int) × Bool) (u42_0 : Hd) (v53 : Hd) (y61 : (List Int)) (y66 : (List Int) × Bool) (u67_0 : Hd) (h67 : AHeap) (hp67 : Heapy h h67 [⟨u67_0, 3, 1, List.flatMap enc3 y66.1⟩, ⟨u20_0, 3, 1, List.flatMap enc3 y19.1⟩, ⟨u20_1, 3, 1, List.flatMap enc3 y19.2.1⟩, ⟨u42_0, 3, 1, List.flatMap enc3 y41.1⟩, ⟨v53, 3, 1, List.flatMap enc3 (setI y61 (F28 x1 x2 x3 l4 l5 l6) 0)⟩]) (x : Int) (r : Nat) (hl : loopO (fun (s : Int) => F9_s4 x1 x2 x3 l4 l5 l6 y19 y41 y66 s) x = some r) (q0 : Nat.beq r 0 = true) : AWp Try.prog (.loop (codeOf Try.prog 9 [1, 1, 1, 1, 1, 1, 1, 1, 1, 1, 1, 1, 1, 0, 1, 0, 0])) (Ends1 .ret (F9_x4_0 h67 r)) ((fun (s : Int) => (F9_h4 x1 x2 x3 l4 l5 l6 u20_0 u20_1 u42_0 u67_0 h67 s)) x) := by
  have k := loop_fun (P := Try.prog) (c := (codeOf Try.prog 9 [1, 1, 1, 1, 1, 1, 1, 1, 1, 1, 1, 1, 1, 0, 1, 0, 0])) (step := (fun (s : Int) => F9_s4 x1 x2 x3 l4 l5 l6 y19 y41 y66 s)) (hd := (fun (s : Int) => (F9_h4 x1 x2 x3 l4 l5 l6 u20_0 u20_1 u42_0 u67_0 h67 s))) (X := (F9_x4 h67)) (by intro t; unfold F9_x4; cases Nat.beq t 0 <;> (intro h; cases h)) (fun x => F9_r4 h x1 x2 x3 l4 l5 l6 y19 u20_0 u20_1 y41 u42_0 v53 y61 y66 u67_0 h67 hp67 x) hl
  simp only [F9_x4, q0, cond_true, cond_false] at k
  exact k
theorem F9_l4_1 (h : AHeap) (x1 : Int) (x2 : Int) (x3 : Bool) (l4 : List (Int × Int × Int × Int)) (l5 : List (Int × Int × Int × Int)) (l6 : List (Int × Int)) (y19 : (List Int) × (List Int) × Int) (u20_0 : Hd) (u20_1 : Hd) (y41 : (List Int) × Bool) (u42_0 : Hd) (v53 : Hd) (y61 : (List Int)) (y66 : (List Int) × Bool) (u67_0 : Hd) (h67 : AHeap) (hp67 : Heapy h h67 [⟨u67_0, 3, 1, List.flatMap enc3 y66.1⟩, ⟨u20_0, 3, 1, List.flatMap enc3 y19.1⟩, ⟨u20_1, 3, 1, List.flatMap enc3 y19.2.1⟩, ⟨u42_0, 3, 1, List.flatMap enc3 y41.1⟩, ⟨v53, 3, 1, List.flatMap enc3 (setI y61 (F28 x1 x2 x3 l4 l5 l6) 0)⟩]) (x : Int) (r : Nat) (hl : loopO (fun (s : Int) => F9_s4 x1 x2 x3 l4 l5 l6 y19 y41 y66 s) x = some r) (q0 : Nat.beq r 0 = false) : AWp Try.prog (.loop (codeOf Try.prog 9 [1, 1, 1, 1, 1, 1, 1, 1, 1, 1, 1, 1, 1, 0, 1, 0, 0])) (Ends1 (.exit 4) (F9_x4_1 h67 r)) ((fun (s : Int) => (F9_h4 x1 x2 x3 l4 l5 l6 u20_0 u20_1 u42_0 u67_0 h67 s)) x) := by
  have k := loop_fun (P := Try.prog) (c := (codeOf Try.prog 9 [1, 1, 1, 1, 1, 1, 1, 1, 1, 1, 1, 1, 1, 0, 1, 0, 0])) (step := (fun (s : Int) => F9_s4 x1 x2 x3 l4 l5 l6 y19 y41 y66 s)) (hd := (fun (s : Int) => (F9_h4 x1 x2 x3 l4 l5 l6 u20_0 u20_1 u42_0 u67_0 h67 s))) (X := (F9_x4 h67)) (by intro t; unfold F9_x4; cases Nat.beq t 0 <;> (intro h; cases h)) (fun x => F9_r4 h x1 x2 x3 l4 l5 l6 y19 u20_0 u20_1 y41 u42_0 v53 y61 y66 u67_0 h67 hp67 x) hl
  simp only [F9_x4, q0, cond_true, cond_false] at k
  exact k
def F9 (x1 : Int) (x2 : Int) (x3 : Bool) (l4 : List (Int × Int × Int × Int)) (l5 : List (Int × Int × Int × Int)) (l6 : List (Int × Int)) (x7 : Int) (x8 : Int) : Option (Bool) :=
  (Option.bind F11 fun y9 =>
  (bif (!y9) then
   (Option.bind F11 fun y12 =>
   some (y12))
  else
   (Option.bind (F12 x1 x2 x3 l4 l5 l6) fun y14 =>
   (bif (!y14) then
    (Option.bind F11 fun y17 =>
    some (y17))
   else
    (Option.bind (F25 x1 x2 x3 l4 l5 l6 x7 x8) fun y19 =>
    (Option.bind (F9_s1 x1 x2 x3 l4 l5 l6 x7 x8) fun y37 =>
    (bif y37 then
     (bif (y19.2.2 == 3) then
      some ((IntKind.i64.wrap ((y19.1.length : Int) + (y19.2.1.length : Int))) == 0)
     else
      some (false))
    else
     (Option.bind (F27 (IntKind.i64.wrap ((F26 x1 x2 x3 l4 l5 l6) + 1)) l4 x7 []) fun y41 =>
     (Option.bind (loopO (fun (s : Bool × Int) => F9_s2 x8 y41 s.1 s.2) (y41.2, 0)) fun y49 =>
     (bif (!y49) then
      (bif (y19.2.2 == 14) then
       some ((IntKind.i64.wrap ((y19.1.length : Int) + (y19.2.1.length : Int))) == 0)
      else
       some (false))
     else
      (bif (!(okLen (IntKind.i64.wrap ((F26 x1 x2 x3 l4 l5 l6) + 1)) (IntKind.i64.wrap ((F26 x1 x2 x3 l4 l5 l6) + 1)) 8)) then none else
      (Option.bind (loopO (fun (s : Int × (List Int)) => F9_s3 x1 x2 x3 l4 l5 l6 x8 s.1 s.2) (0, (List.replicate (IntKind.i64.wrap ((F26 x1 x2 x3 l4 l5 l6) + 1)).toNat (0 : Int)))) fun y61 =>
      (Option.bind (at? y61 (F28 x1 x2 x3 l4 l5 l6)) fun y64 =>
      (Option.bind (F29 (IntKind.i64.wrap ((F26 x1 x2 x3 l4 l5 l6) + 1)) l4 x7 (setI y61 (F28 x1 x2 x3 l4 l5 l6) 0)) fun y66 =>
      (bif (y19.2.2 != 0) then
       some (false)
      else
       (bif ((y19.1.length : Int) != (IntKind.i64.wrap ((F26 x1 x2 x3 l4 l5 l6) + 1))) then
        some (false)
       else
        (bif ((y19.2.1.length : Int) != (IntKind.i64.wrap ((F26 x1 x2 x3 l4 l5 l6) + 1))) then
         some (false)
        else
         (Option.bind (loopO (fun (s : Int) => F9_s4 x1 x2 x3 l4 l5 l6 y19 y41 y66 s) 0) fun y80 =>
         (bif (Nat.beq y80 0) then
          some (false)
         else
          some (true))))))))))))))))))))
set_option maxRecDepth 100000 in
theorem F9_spec (x1 : Int) (x2 : Int) (x3 : Bool) (l4 : List (Int × Int × Int × Int)) (l5 : List (Int × Int × Int × Int)) (l6 : List (Int × Int)) (x7 : Int) (x8 : Int) (v4 : Hd) (v5 : Hd) (v6 : Hd) (h : AHeap) (hw : h.wf) (hv4 : SlE E57 4 h (sv v4) l4) (hv5 : SlE E59 4 h (sv v5) l5) (hv6 : SlE E61 2 h (sv v6) l6) (r : Bool) : F9 x1 x2 x3 l4 l5 l6 x7 x8 = some r → ∃ (h' : AHeap), Heapy h h' [] ∧ ACalls Try.prog 9 [.agg #[.int .i64 x1, .int .i64 x2, .bool x3, (sv v4), (sv v5), (sv v6)], .int .i64 x7, .int .i64 x8] h (fun v' h'' => v' = (.bool r : Value) ∧ h'' = h') := by
  unfold F9
  refine bind_opt fun y9 e9 => ?_
  obtain ⟨h10, q10, c10⟩ := F11_spec h hw _ e9
  have hp10 : Heapy h h10 [] := Heapy.call (Heapy.refl hw) q10
  have kc11 := (ai c10 trivial)
  refine dec_bif (fun c11 => ?_) (fun c11 => ?_)
  · refine bind_opt fun y12 e12 => ?_
    obtain ⟨h13, q13, c13⟩ := F11_spec h10 (Heapy.wf hp10) _ e12
    have hp13 : Heapy h h13 [] := Heapy.call hp10 q13
    intro hr
    obtain rfl := Option.some.inj hr
    exact ⟨h13, Heapy.pick hp13 [] (by decide), pFun_sound good tab_ok (f := 9) (its := [.g, .g, (.c (.bool y9) h10), .g, .g, .n, .n, .n, (.p true), (.b true), (.c (.bool y12) h13), .g]) (args := [.agg #[.int .i64 x1, .int .i64 x2, .bool x3, (sv v4), (sv v5), (sv v6)], .int .i64 x7, .int .i64 x8]) (h := h) (h' := h13) (v := .bool y12) (hC := (ai c13 (ai l_t (ai c11 (ai (g_tf c11) (ai (g_tf c11) (ai (g_tf c11) kc11))))))) (hr := by kernel_rfl)⟩
  · refine bind_opt fun y14 e14 => ?_
    have kc16 := (ai c11 (ai (g_ff c11) (ai (F12_spec x1 x2 x3 l4 l5 l6 v4 v5 v6 h10 (SlE.mono hv4 (Heapy.sub hp10) (E57_mono (Heapy.sub hp10))) (SlE.mono hv5 (Heapy.sub hp10) (E59_mono (Heapy.sub hp10))) (SlE.mono hv6 (Heapy.sub hp10) (E61_mono (Heapy.sub hp10))) _ e14) (ai (g_ff c11) (ai (g_ff c11) kc11)))))
    refine dec_bif (fun c16 => ?_) (fun c16 => ?_)
    · refine bind_opt fun y17 e17 => ?_
      obtain ⟨h18, q18, c18⟩ := F11_spec h10 (Heapy.wf hp10) _ e17
      have hp18 : Heapy h h18 [] := Heapy.call hp10 q18
      intro hr
      obtain rfl := Option.some.inj hr
      exact ⟨h18, Heapy.pick hp18 [] (by decide), pFun_sound good tab_ok (f := 9) (its := [.g, .g, (.c (.bool y9) h10), .g, .g, (.w .g), (.w (.c (.bool y14) h10)), (.w .g), (.p false), (.b true), (.c (.bool y17) h18), .g]) (args := [.agg #[.int .i64 x1, .int .i64 x2, .bool x3, (sv v4), (sv v5), (sv v6)], .int .i64 x7, .int .i64 x8]) (h := h) (h' := h18) (v := .bool y17) (hC := (ai c18 (ai c16 kc16))) (hr := by kernel_rfl)⟩
    · refine bind_opt fun y19 e19 => ?_
      obtain ⟨u20_0, u20_1, h20, q20, c20⟩ := F25_spec x1 x2 x3 l4 l5 l6 x7 x8 v4 v5 v6 h10 (Heapy.wf hp10) (SlE.mono hv4 (Heapy.sub hp10) (E57_mono (Heapy.sub hp10))) (SlE.mono hv5 (Heapy.sub hp10) (E59_mono (Heapy.sub hp10))) (SlE.mono hv6 (Heapy.sub hp10) (E61_mono (Heapy.sub hp10))) _ e19
      have hp20 : Heapy h h20 [⟨u20_0, 3, 1, List.flatMap enc3 y19.1⟩, ⟨u20_1, 3, 1, List.flatMap enc3 y19.2.1⟩] := Heapy.call hp10 q20
      refine bind_opt fun y37 e37 => ?_
      have kc38 := (ai (F9_l1_0 h x1 x2 x3 l4 v4 hv4 l5 v5 hv5 l6 v6 hv6 x7 x8 y19 u20_0 u20_1 h20 hp20 y37 e37) (ai c20 (ai c16 kc16)))
      refine dec_bif (fun c38 => ?_) (fun c38 => ?_)
      · have kc39 := (ai c38 kc38)
        refine dec_bif (fun c39 => ?_) (fun c39 => ?_)
        · intro hr
          obtain rfl := Option.some.inj hr
          exact ⟨h20, Heapy.pick hp20 [] (by decide), pFun_sound good tab_ok (f := 9) (its := [.g, .g, (.c (.bool y9) h10), .g, .g, (.w .g), (.w (.c (.bool y14) h10)), (.w .g), (.p false), (.b false), .g, .g, .g, (.c (.tuple #[(sv u20_0), (sv u20_1), .int .i64 y19.2.2]) h20), .g, .g, .g, .g, .g, .g, .g, .u, (.j F9_m1_1 [] .normal (F9_x1_0 x1 x2 x3 v4 v5 v6 x7 x8 y19 u20_0 u20_1 h20 y37)), (.b true), .g, .g, .g, (.w .g), (.w (.ln y19.1.length)), (.w .g), (.w (.ln y19.2.1.length)), (.w .g), (.w .g), (.p true), .g]) (args := [.agg #[.int .i64 x1, .int .i64 x2, .bool x3, (sv v4), (sv v5), (sv v6)], .int .i64 x7, .int .i64 x8]) (h := h) (h' := h20) (v := .bool ((IntKind.i64.wrap ((y19.1.length : Int) + (y19.2.1.length : Int))) == 0)) (hC := (ai c39 (ai (g_tt c39) (ai (g_tt c39) (ai (SlE.len (Heapy.sle (v := u20_1) (xs := y19.2.1) (enc := enc3) hp20 1 rfl (fun _ => rfl) (by decide))) (ai (g_tt c39) (ai (g_tt c39) (ai (SlE.len (Heapy.sle (v := u20_0) (xs := y19.1) (enc := enc3) hp20 0 rfl (fun _ => rfl) (by decide))) (ai (g_tt c39) (ai (g_tt c39) kc39)))))))))) (hr := by kernel_rfl)⟩
        · intro hr
          obtain rfl := Option.some.inj hr
          exact ⟨h20, Heapy.pick hp20 [] (by decide), pFun_sound good tab_ok (f := 9) (its := [.g, .g, (.c (.bool y9) h10), .g, .g, (.w .g), (.w (.c (.bool y14) h10)), (.w .g), (.p false), (.b false), .g, .g, .g, (.c (.tuple #[(sv u20_0), (sv u20_1), .int .i64 y19.2.2]) h20), .g, .g, .g, .g, .g, .g, .g, .u, (.j F9_m1_1 [] .normal (F9_x1_0 x1 x2 x3 v4 v5 v6 x7 x8 y19 u20_0 u20_1 h20 y37)), (.b true), .g, .g, .g, .n, .n, .n, .n, .n, .n, (.p false), .g]) (args := [.agg #[.int .i64 x1, .int .i64 x2, .bool x3, (sv v4), (sv v5), (sv v6)], .int .i64 x7, .int .i64 x8]) (h := h) (h' := h20) (v := .bool false) (hC := (ai c39 (ai (g_ft c39) (ai (g_ft c39) (ai (g_ft c39) (ai (g_ft c39) (ai (g_ft c39) (ai (g_ft c39) kc39)))))))) (hr := by kernel_rfl)⟩
      · refine bind_opt fun y41 e41 => ?_
        obtain ⟨u42_0, h42, q42, zu42_0, c42⟩ := F27_spec (IntKind.i64.wrap ((F26 x1 x2 x3 l4 l5 l6) + 1)) l4 x7 [] v4 ⟨none, 0, 0⟩ h20 (Heapy.wf hp20) (SlE.mono hv4 (Heapy.sub hp20) (E57_mono (Heapy.sub hp20))) SlE.nil _ e41
        have hp42 : Heapy h h42 [⟨u42_0, 3, 1, List.flatMap enc3 y41.1⟩, ⟨u20_0, 3, 1, List.flatMap enc3 y19.1⟩, ⟨u20_1, 3, 1, List.flatMap enc3 y19.2.1⟩] := Heapy.call hp20 q42
        refine bind_opt fun y49 e49 => ?_
        have kc50 := (ai (F9_l2_0 h x1 x2 x3 l4 v4 l5 v5 l6 v6 x7 x8 y19 u20_0 u20_1 y41 u42_0 h42 hp42 (y41.2, 0) y49 e49) (ai (SlE.len (Heapy.sle (v := u42_0) (xs := y41.1) (enc := enc3) hp42 0 rfl (fun _ => rfl) (by decide))) (ai c42 (ai (F26_spec x1 x2 x3 l4 l5 l6 v4 v5 v6 h20 (SlE.mono hv4 (Heapy.sub hp20) (E57_mono (Heapy.sub hp20))) (SlE.mono hv5 (Heapy.sub hp20) (E59_mono (Heapy.sub hp20))) (SlE.mono hv6 (Heapy.sub hp20) (E61_mono (Heapy.sub hp20))) _ rfl) (ai c38 kc38)))))
        refine dec_bif (fun c50 => ?_) (fun c50 => ?_)
        · have kc51 := (ai c50 kc50)
          refine dec_bif (fun c51 => ?_) (fun c51 => ?_)
          · intro hr
            obtain rfl := Option.some.inj hr
            exact ⟨h42, Heapy.pick hp42 [] (by decide), pFun_sound good tab_ok (f := 9) (its := [.g, .g, (.c (.bool y9) h10), .g, .g, (.w .g), (.w (.c (.bool y14) h10)), (.w .g), (.p false), (.b false), .g, .g, .g, (.c (.tuple #[(sv u20_0), (sv u20_1), .int .i64 y19.2.2]) h20), .g, .g, .g, .g, .g, .g, .g, .u, (.j F9_m1_1 [] .normal (F9_x1_0 x1 x2 x3 v4 v5 v6 x7 x8 y19 u20_0 u20_1 h20 y37)), (.b false), .g, (.c (.int .i64 (F26 x1 x2 x3 l4 l5 l6)) h20), .g, .g, .g, .g, .g, .g, (.c (.tuple #[(sv u42_0), .bool y41.2]) h42), .g, .g, .g, .g, .g, .g, (.ln y41.1.length), .g, (.l F9_m2_0 [] (.exit 0) (F9_x2_0 x1 x2 x3 l4 v4 l5 v5 l6 v6 x7 x8 y19 u20_0 u20_1 u42_0 h42 y49)), .g, .g, (.b true), .g, .g, .g, (.w .g), (.w (.ln y19.1.length)), (.w .g), (.w (.ln y19.2.1.length)), (.w .g), (.w .g), (.p true), .g]) (args := [.agg #[.int .i64 x1, .int .i64 x2, .bool x3, (sv v4), (sv v5), (sv v6)], .int .i64 x7, .int .i64 x8]) (h := h) (h' := h42) (v := .bool ((IntKind.i64.wrap ((y19.1.length : Int) + (y19.2.1.length : Int))) == 0)) (hC := (ai c51 (ai (g_tt c51) (ai (g_tt c51) (ai (SlE.len (Heapy.sle (v := u20_1) (xs := y19.2.1) (enc := enc3) hp42 2 rfl (fun _ => rfl) (by decide))) (ai (g_tt c51) (ai (g_tt c51) (ai (SlE.len (Heapy.sle (v := u20_0) (xs := y19.1) (enc := enc3) hp42 1 rfl (fun _ => rfl) (by decide))) (ai (g_tt c51) (ai (g_tt c51) kc51)))))))))) (hr := by kernel_rfl)⟩
          · intro hr
            obtain rfl := Option.some.inj hr
            exact ⟨h42, Heapy.pick hp42 [] (by decide), pFun_sound good tab_ok (f := 9) (its := [.g, .g, (.c (.bool y9) h10), .g, .g, (.w .g), (.w (.c (.bool y14) h10)), (.w .g), (.p false), (.b false), .g, .g, .g, (.c (.tuple #[(sv u20_0), (sv u20_1), .int .i64 y19.2.2]) h20), .g, .g, .g, .g, .g, .g, .g, .u, (.j F9_m1_1 [] .normal (F9_x1_0 x1 x2 x3 v4 v5 v6 x7 x8 y19 u20_0 u20_1 h20 y37)), (.b false), .g, (.c (.int .i64 (F26 x1 x2 x3 l4 l5 l6)) h20), .g, .g, .g, .g, .g, .g, (.c (.tuple #[(sv u42_0), .bool y41.2]) h42), .g, .g, .g, .g, .g, .g, (.ln y41.1.length), .g, (.l F9_m2_0 [] (.exit 0) (F9_x2_0 x1 x2 x3 l4 v4 l5 v5 l6 v6 x7 x8 y19 u20_0 u20_1 u42_0 h42 y49)), .g, .g, (.b true), .g, .g, .g, .n, .n, .n, .n, .n, .n, (.p false), .g]) (args := [.agg #[.int .i64 x1, .int .i64 x2, .bool x3, (sv v4), (sv v5), (sv v6)], .int .i64 x7, .int .i64 x8]) (h := h) (h' := h42) (v := .bool false) (hC := (ai c51 (ai (g_ft c51) (ai (g_ft c51) (ai (g_ft c51) (ai (g_ft c51) (ai (g_ft c51) (ai (g_ft c51) kc51)))))))) (hr := by kernel_rfl)⟩
        · refine guard_ok fun g52 => ?_
          obtain ⟨v53, h53, m53, hp53, _⟩ := Heapy.make hp42 (show mkInfo Try.prog 29 = some (3, 1, 8, [.int .i64 0]) by kernel_rfl) (a := (IntKind.i64.wrap ((F26 x1 x2 x3 l4 l5 l6) + 1))) (b := (IntKind.i64.wrap ((F26 x1 x2 x3 l4 l5 l6) + 1))) (by simpa using g52) (enc := enc3) (x := 0) rfl rfl
          refine bind_opt fun y61 e61 => ?_
          obtain ⟨ee61, SS61, hX61, hA61⟩ := F9_l3 h x1 x2 x3 l4 v4 l5 v5 l6 v6 x7 x8 y19 u20_0 u20_1 y41 u42_0 v53 (0, (List.replicate (IntKind.i64.wrap ((F26 x1 x2 x3 l4 l5 l6) + 1)).toNat (0 : Int))) y61 e61 (F9_h3 x1 x2 x3 l4 v4 l5 v5 l6 v6 x7 x8 y19 u20_0 u20_1 u42_0 v53 h53 0 (List.replicate (IntKind.i64.wrap ((F26 x1 x2 x3 l4 l5 l6) + 1)).toNat (0 : Int))) ⟨h53, (Heapy.pick hp53 [2, 3, 1, 0] (by decide)), rfl⟩
          obtain ⟨rfl, h62, hp62, rfl⟩ := hX61
          refine bind_opt fun y64 e64 => ?_
          obtain ⟨id64, off64, g64, cs64, ix64, at64, rfl⟩ := SlE.at (Heapy.sle (v := v53) (xs := y61) (enc := enc3) hp62 3 rfl (fun _ => rfl) (by decide)) e64
          obtain ⟨h65, m65, hp65⟩ := Heapy.store (P := Try.prog) hp62 3 (v := v53) (xs := y61) (enc := enc3) rfl (fun _ => rfl) e64 (y' := 0) ix64 (t := 3) (x := .int .i64 0) 0 (vs := [.int .i64 0]) rfl (by kernel_rfl) rfl rfl rfl rfl
          refine bind_opt fun y66 e66 => ?_
          obtain ⟨u67_0, h67, q67, zu67_0, c67⟩ := F29_spec (IntKind.i64.wrap ((F26 x1 x2 x3 l4 l5 l6) + 1)) l4 x7 (setI y61 (F28 x1 x2 x3 l4 l5 l6) 0) v4 v53 h65 (Heapy.wf hp65) (SlE.mono hv4 (Heapy.sub hp65) (E57_mono (Heapy.sub hp65))) (Heapy.sle (v := v53) (xs := (setI y61 (F28 x1 x2 x3 l4 l5 l6) 0)) (enc := enc3) hp65 3 rfl (fun _ => rfl) (by decide)) _ e66
          have hp67 : Heapy h h67 [⟨u67_0, 3, 1, List.flatMap enc3 y66.1⟩, ⟨u20_0, 3, 1, List.flatMap enc3 y19.1⟩, ⟨u20_1, 3, 1, List.flatMap enc3 y19.2.1⟩, ⟨u42_0, 3, 1, List.flatMap enc3 y41.1⟩, ⟨v53, 3, 1, List.flatMap enc3 (setI y61 (F28 x1 x2 x3 l4 l5 l6) 0)⟩] := Heapy.call hp65 q67
          have kc69 := (ai c67 (ai m65 (ai ix64 (ai (F28_spec x1 x2 x3 l4 l5 l6 v4 v5 v6 h62 (SlE.mono hv4 (Heapy.sub hp62) (E57_mono (Heapy.sub hp62))) (SlE.mono hv5 (Heapy.sub hp62) (E59_mono (Heapy.sub hp62))) (SlE.mono hv6 (Heapy.sub hp62) (E61_mono (Heapy.sub hp62))) _ rfl) (ai hA61 (ai (SlE.len (Heapy.sle (v := v53) (xs := (List.replicate (IntKind.i64.wrap ((F26 x1 x2 x3 l4 l5 l6) + 1)).toNat (0 : Int))) (enc := enc3) hp53 0 rfl (fun _ => rfl) (by decide))) (ai m53 (ai c50 kc50))))))))
          refine dec_bif (fun c69 => ?_) (fun c69 => ?_)
          · intro hr
            obtain rfl := Option.some.inj hr
            exact ⟨h67, Heapy.pick hp67 [] (by decide), pFun_sound good tab_ok (f := 9) (its := [.g, .g, (.c (.bool y9) h10), .g, .g, (.w .g), (.w (.c (.bool y14) h10)), (.w .g), (.p false), (.b false), .g, .g, .g, (.c (.tuple #[(sv u20_0), (sv u20_1), .int .i64 y19.2.2]) h20), .g, .g, .g, .g, .g, .g, .g, .u, (.j F9_m1_1 [] .normal (F9_x1_0 x1 x2 x3 v4 v5 v6 x7 x8 y19 u20_0 u20_1 h20 y37)), (.b false), .g, (.c (.int .i64 (F26 x1 x2 x3 l4 l5 l6)) h20), .g, .g, .g, .g, .g, .g, (.c (.tuple #[(sv u42_0), .bool y41.2]) h42), .g, .g, .g, .g, .g, .g, (.ln y41.1.length), .g, (.l F9_m2_0 [] (.exit 0) (F9_x2_0 x1 x2 x3 l4 v4 l5 v5 l6 v6 x7 x8 y19 u20_0 u20_1 u42_0 h42 y49)), .g, .g, (.b false), .g, (.mm (sv v53) h53), .g, .g, (.ln (List.replicate (IntKind.i64.wrap ((F26 x1 x2 x3 l4 l5 l6) + 1)).toNat (0 : Int)).length), .g, (.l F9_m3_0 [] (.exit 2) (F9_x3_0 h x1 x2 x3 l4 v4 l5 v5 l6 v6 x7 y19 u20_0 u20_1 y41 u42_0 v53 h62 y61)), .g, .g, (.c (.int .i64 (F28 x1 x2 x3 l4 l5 l6)) h62), (.ix id64 off64 g64), (.mm undef h65), .g, .g, .g, .g, .g, (.c (.tuple #[(sv u67_0), .bool y66.2]) h67), .g, .g, .g, .g, .g, .g, .g, .g, .n, .n, .n, .n, (.p true), .g, .n, .n, .n, .n, .g, (.b true), .g]) (args := [.agg #[.int .i64 x1, .int .i64 x2, .bool x3, (sv v4), (sv v5), (sv v6)], .int .i64 x7, .int .i64 x8]) (h := h) (h' := h67) (v := .bool false) (hC := (ai l_t (ai (g_tf l_t) (ai (g_tf l_t) (ai (g_tf l_t) (ai (g_tf l_t) (ai c69 (ai (g_tf c69) (ai (g_tf c69) (ai (g_tf c69) (ai (g_tf c69) kc69))))))))))) (hr := by kernel_rfl)⟩
          · have kc70 := (ai c69 (ai (g_ff c69) (ai (g_ff c69) (ai (SlE.len (Heapy.sle (v := u20_0) (xs := y19.1) (enc := enc3) hp67 1 rfl (fun _ => rfl) (by decide))) (ai (g_ff c69) (ai (g_ff c69) kc69))))))
            refine dec_bif (fun c70 => ?_) (fun c70 => ?_)
            · intro hr
              obtain rfl := Option.some.inj hr
              exact ⟨h67, Heapy.pick hp67 [] (by decide), pFun_sound good tab_ok (f := 9) (its := [.g, .g, (.c (.bool y9) h10), .g, .g, (.w .g), (.w (.c (.bool y14) h10)), (.w .g), (.p false), (.b false), .g, .g, .g, (.c (.tuple #[(sv u20_0), (sv u20_1), .int .i64 y19.2.2]) h20), .g, .g, .g, .g, .g, .g, .g, .u, (.j F9_m1_1 [] .normal (F9_x1_0 x1 x2 x3 v4 v5 v6 x7 x8 y19 u20_0 u20_1 h20 y37)), (.b false), .g, (.c (.int .i64 (F26 x1 x2 x3 l4 l5 l6)) h20), .g, .g, .g, .g, .g, .g, (.c (.tuple #[(sv u42_0), .bool y41.2]) h42), .g, .g, .g, .g, .g, .g, (.ln y41.1.length), .g, (.l F9_m2_0 [] (.exit 0) (F9_x2_0 x1 x2 x3 l4 v4 l5 v5 l6 v6 x7 x8 y19 u20_0 u20_1 u42_0 h42 y49)), .g, .g, (.b false), .g, (.mm (sv v53) h53), .g, .g, (.ln (List.replicate (IntKind.i64.wrap ((F26 x1 x2 x3 l4 l5 l6) + 1)).toNat (0 : Int)).length), .g, (.l F9_m3_0 [] (.exit 2) (F9_x3_0 h x1 x2 x3 l4 v4 l5 v5 l6 v6 x7 y19 u20_0 u20_1 y41 u42_0 v53 h62 y61)), .g, .g, (.c (.int .i64 (F28 x1 x2 x3 l4 l5 l6)) h62), (.ix id64 off64 g64), (.mm undef h65), .g, .g, .g, .g, .g, (.c (.tuple #[(sv u67_0), .bool y66.2]) h67), .g, .g, .g, .g, .g, .g, .g, .g, (.w .g), (.w (.ln y19.1.length)), (.w .g), (.w .g), (.p false), .g, .n, .n, .n, .n, (.p true), (.b true), .g]) (args := [.agg #[.int .i64 x1, .int .i64 x2, .bool x3, (sv v4), (sv v5), (sv v6)], .int .i64 x7, .int .i64 x8]) (h := h) (h' := h67) (v := .bool false) (hC := (ai l_t (ai c70 (ai (g_tf c70) (ai (g_tf c70) (ai (g_tf c70) (ai (g_tf c70) kc70))))))) (hr := by kernel_rfl)⟩
            · have kc71 := (ai c70 (ai (g_ff c70) (ai (g_ff c70) (ai (SlE.len (Heapy.sle (v := u20_1) (xs := y19.2.1) (enc := enc3) hp67 2 rfl (fun _ => rfl) (by decide))) (ai (g_ff c70) (ai (g_ff c70) kc70))))))
              refine dec_bif (fun c71 => ?_) (fun c71 => ?_)
              · intro hr
                obtain rfl := Option.some.inj hr
                exact ⟨h67, Heapy.pick hp67 [] (by decide), pFun_sound good tab_ok (f := 9) (its := [.g, .g, (.c (.bool y9) h10), .g, .g, (.w .g), (.w (.c (.bool y14) h10)), (.w .g), (.p false), (.b false), .g, .g, .g, (.c (.tuple #[(sv u20_0), (sv u20_1), .int .i64 y19.2.2]) h20), .g, .g, .g, .g, .g, .g, .g, .u, (.j F9_m1_1 [] .normal (F9_x1_0 x1 x2 x3 v4 v5 v6 x7 x8 y19 u20_0 u20_1 h20 y37)), (.b false), .g, (.c (.int .i64 (F26 x1 x2 x3 l4 l5 l6)) h20), .g, .g, .g, .g, .g, .g, (.c (.tuple #[(sv u42_0), .bool y41.2]) h42), .g, .g, .g, .g, .g, .g, (.ln y41.1.length), .g, (.l F9_m2_0 [] (.exit 0) (F9_x2_0 x1 x2 x3 l4 v4 l5 v5 l6 v6 x7 x8 y19 u20_0 u20_1 u42_0 h42 y49)), .g, .g, (.b false), .g, (.mm (sv v53) h53), .g, .g, (.ln (List.replicate (IntKind.i64.wrap ((F26 x1 x2 x3 l4 l5 l6) + 1)).toNat (0 : Int)).length), .g, (.l F9_m3_0 [] (.exit 2) (F9_x3_0 h x1 x2 x3 l4 v4 l5 v5 l6 v6 x7 y19 u20_0 u20_1 y41 u42_0 v53 h62 y61)), .g, .g, (.c (.int .i64 (F28 x1 x2 x3 l4 l5 l6)) h62), (.ix id64 off64 g64), (.mm undef h65), .g, .g, .g, .g, .g, (.c (.tuple #[(sv u67_0), .bool y66.2]) h67), .g, .g, .g, .g, .g, .g, .g, .g, (.w .g), (.w (.ln y19.1.length)), (.w .g), (.w .g), (.p false), .g, (.w .g), (.w (.ln y19.2.1.length)), (.w .g), (.w .g), (.p false), (.b true), .g]) (args := [.agg #[.int .i64 x1, .int .i64 x2, .bool x3, (sv v4), (sv v5), (sv v6)], .int .i64 x7, .int .i64 x8]) (h := h) (h' := h67) (v := .bool false) (hC := (ai c71 kc71)) (hr := by kernel_rfl)⟩
              · refine bind_opt fun y80 e80 => ?_
                have kc81 := (ai c71 kc71)
                refine dec_bif (fun c81 => ?_) (fun c81 => ?_)
                · intro hr
                  obtain rfl := Option.some.inj hr
                  exact ⟨h67, Heapy.pick hp67 [] (by decide), pFun_sound good tab_ok (f := 9) (its := [.g, .g, (.c (.bool y9) h10), .g, .g, (.w .g), (.w (.c (.bool y14) h10)), (.w .g), (.p false), (.b false), .g, .g, .g, (.c (.tuple #[(sv u20_0), (sv u20_1), .int .i64 y19.2.2]) h20), .g, .g, .g, .g, .g, .g, .g, .u, (.j F9_m1_1 [] .normal (F9_x1_0 x1 x2 x3 v4 v5 v6 x7 x8 y19 u20_0 u20_1 h20 y37)), (.b false), .g, (.c (.int .i64 (F26 x1 x2 x3 l4 l5 l6)) h20), .g, .g, .g, .g, .g, .g, (.c (.tuple #[(sv u42_0), .bool y41.2]) h42), .g, .g, .g, .g, .g, .g, (.ln y41.1.length), .g, (.l F9_m2_0 [] (.exit 0) (F9_x2_0 x1 x2 x3 l4 v4 l5 v5 l6 v6 x7 x8 y19 u20_0 u20_1 u42_0 h42 y49)), .g, .g, (.b false), .g, (.mm (sv v53) h53), .g, .g, (.ln (List.replicate (IntKind.i64.wrap ((F26 x1 x2 x3 l4 l5 l6) + 1)).toNat (0 : Int)).length), .g, (.l F9_m3_0 [] (.exit 2) (F9_x3_0 h x1 x2 x3 l4 v4 l5 v5 l6 v6 x7 y19 u20_0 u20_1 y41 u42_0 v53 h62 y61)), .g, .g, (.c (.int .i64 (F28 x1 x2 x3 l4 l5 l6)) h62), (.ix id64 off64 g64), (.mm undef h65), .g, .g, .g, .g, .g, (.c (.tuple #[(sv u67_0), .bool y66.2]) h67), .g, .g, .g, .g, .g, .g, .g, .g, (.w .g), (.w (.ln y19.1.length)), (.w .g), (.w .g), (.p false), .g, (.w .g), (.w (.ln y19.2.1.length)), (.w .g), (.w .g), (.p false), (.b false), .g, .g, (.l F9_m4_1 [3] .ret (F9_x4_0 h67 y80))]) (args := [.agg #[.int .i64 x1, .int .i64 x2, .bool x3, (sv v4), (sv v5), (sv v6)], .int .i64 x7, .int .i64 x8]) (h := h) (h' := h67) (v := .bool false) (hC := (ai (F9_l4_0 h x1 x2 x3 l4 l5 l6 y19 u20_0 u20_1 y41 u42_0 v53 y61 y66 u67_0 h67 hp67 0 y80 e80 c81) kc81)) (hr := by kernel_rfl)⟩
                · intro hr
                  obtain rfl := Option.some.inj hr
                  exact ⟨h67, Heapy.pick hp67 [] (by decide), pFun_sound good tab_ok (f := 9) (its := [.g, .g, (.c (.bool y9) h10), .g, .g, (.w .g), (.w (.c (.bool y14) h10)), (.w .g), (.p false), (.b false), .g, .g, .g, (.c (.tuple #[(sv u20_0), (sv u20_1), .int .i64 y19.2.2]) h20), .g, .g, .g, .g, .g, .g, .g, .u, (.j F9_m1_1 [] .normal (F9_x1_0 x1 x2 x3 v4 v5 v6 x7 x8 y19 u20_0 u20_1 h20 y37)), (.b false), .g, (.c (.int .i64 (F26 x1 x2 x3 l4 l5 l6)) h20), .g, .g, .g, .g, .g, .g, (.c (.tuple #[(sv u42_0), .bool y41.2]) h42), .g, .g, .g, .g, .g, .g, (.ln y41.1.length), .g, (.l F9_m2_0 [] (.exit 0) (F9_x2_0 x1 x2 x3 l4 v4 l5 v5 l6 v6 x7 x8 y19 u20_0 u20_1 u42_0 h42 y49)), .g, .g, (.b false), .g, (.mm (sv v53) h53), .g, .g, (.ln (List.replicate (IntKind.i64.wrap ((F26 x1 x2 x3 l4 l5 l6) + 1)).toNat (0 : Int)).length), .g, (.l F9_m3_0 [] (.exit 2) (F9_x3_0 h x1 x2 x3 l4 v4 l5 v5 l6 v6 x7 y19 u20_0 u20_1 y41 u42_0 v53 h62 y61)), .g, .g, (.c (.int .i64 (F28 x1 x2 x3 l4 l5 l6)) h62), (.ix id64 off64 g64), (.mm undef h65), .g, .g, .g, .g, .g, (.c (.tuple #[(sv u67_0), .bool y66.2]) h67), .g, .g, .g, .g, .g, .g, .g, .g, (.w .g), (.w (.ln y19.1.length)), (.w .g), (.w .g), (.p false), .g, (.w .g), (.w (.ln y19.2.1.length)), (.w .g), (.w .g), (.p false), (.b false), .g, .g, (.l F9_m4_1 [3] (.exit 4) (F9_x4_1 h67 y80)), .g]) (args := [.agg #[.int .i64 x1, .int .i64 x2, .bool x3, (sv v4), (sv v5), (sv v6)], .int .i64 x7, .int .i64 x8]) (h := h) (h' := h67) (v := .bool true) (hC := (ai (F9_l4_1 h x1 x2 x3 l4 l5 l6 y19 u20_0 u20_1 y41 u42_0 v53 y61 y66 u67_0 h67 hp67 0 y80 e80 c81) kc81)) (hr := by kernel_rfl)⟩
set_option maxRecDepth 100000 in
theorem F9_law (H : ∀ (x1 : Int) (x2 : Int) (x3 : Bool) (l4 : List (Int × Int × Int × Int)) (l5 : List (Int × Int × Int × Int)) (l6 : List (Int × Int)) (x7 : Int) (x8 : Int), (Lit.int .i64 x1).wf = true → (Lit.int .i64 x2).wf = true → (l4.length ≤ maxLen ∧ l4.length * 32 ≤ reachBytes) → (∀ y ∈ l4, W57 y) → (l5.length ≤ maxLen ∧ l5.length * 32 ≤ reachBytes) → (∀ y ∈ l5, W59 y) → (l6.length ≤ maxLen ∧ l6.length * 16 ≤ reachBytes) → (∀ y ∈ l6, W61 y) → (Lit.int .i64 x7).wf = true → (Lit.int .i64 x8).wf = true → F9 x1 x2 x3 l4 l5 l6 x7 x8 = some true) : Law Try.prog 9 10 [26, 3, 3] := by
  intro s us hwf hro hT0
  obtain ⟨u0, vs0, rfl, t0, hT1⟩ := wts_cons hT0
  obtain ⟨cs0, rfl, k0⟩ := wtv_aggS 4 (ks := [.int .i64, .int .i64, .bool, .slice 57, .slice 59, .slice 61]) (by kernel_rfl) (by kernel_rfl) t0
  obtain ⟨x1, r_x1, rfl, w_x1, k0_0⟩ := sq_int k0
  obtain ⟨x2, r_x2, rfl, w_x2, k0_1⟩ := sq_int k0_0
  obtain ⟨x3, r_x3, rfl, k0_2⟩ := sq_bool k0_1
  obtain ⟨v4, r_l4, rfl, q_l4, k0_3⟩ := sq_slice k0_2
  obtain ⟨l4, a_l4, m_l4, w_l4⟩ := q_l4 E57 W57 4 (by kernel_rfl) fun n cs H => E57_wt H
  obtain ⟨v5, r_l5, rfl, q_l5, k0_4⟩ := sq_slice k0_3
  obtain ⟨l5, a_l5, m_l5, w_l5⟩ := q_l5 E59 W59 4 (by kernel_rfl) fun n cs H => E59_wt H
  obtain ⟨v6, r_l6, rfl, q_l6, k0_5⟩ := sq_slice k0_4
  obtain ⟨l6, a_l6, m_l6, w_l6⟩ := q_l6 E61 W61 2 (by kernel_rfl) fun n cs H => E61_wt H
  obtain rfl := sq_nil k0_5
  obtain ⟨u1, vs1, rfl, t1, hT2⟩ := wts_cons hT1
  have k1 := wtv_oneS 1 (ks := [.int .i64]) (by kernel_rfl) (by kernel_rfl) t1
  obtain ⟨x7, r_x7, e_x7, w_x7, k1_0⟩ := sq_int k1
  obtain ⟨rfl, rfl⟩ := List.cons.inj e_x7
  have k1_0' := sq_nil k1_0
  obtain ⟨u2, vs2, rfl, t2, hT3⟩ := wts_cons hT2
  have k2 := wtv_oneS 1 (ks := [.int .i64]) (by kernel_rfl) (by kernel_rfl) t2
  obtain ⟨x8, r_x8, e_x8, w_x8, k2_0⟩ := sq_int k2
  obtain ⟨rfl, rfl⟩ := List.cons.inj e_x8
  have k2_0' := sq_nil k2_0
  obtain rfl := wts_nil hT3
  obtain ⟨h2, _, hc⟩ := F9_spec x1 x2 x3 l4 l5 l6 x7 x8 v4 v5 v6 s hwf a_l4 a_l5 a_l6 _ (H x1 x2 x3 l4 l5 l6 x7 x8 w_x1 w_x2 m_l4 w_l4 m_l5 w_l5 m_l6 w_l6 w_x7 w_x8)
  refine (hc).mono ?_
  rintro v h' ⟨rfl, rfl⟩
  rfl
end
end Go.Proofs.Ytimeninncpmaeaa.Abs
