/-
  Contracts, written by program: for each function what its call yields, and that it yields it.
-/
import Derived.Test.YtdoafmfkbddmlaaGlb
namespace Go.Proofs.Ytdoafmfkbddmlaa.Abs
open Go
set_option linter.unusedVariables false
set_option linter.unusedSimpArgs false

noncomputable section
/-! 12 jacquard/gates.Eval -/
def F12_L : List Nat := [10]
def F12_D : List (Nat × List (Nat × Nat)) := [(22, [(0, 1), (1, 1), (2, 1), (3, 1), (4, 1), (5, 1), (6, 1), (7, 1), (8, 1), (9, 1), (10, 1), (11, 1), (12, 1), (13, 1), (14, 0)])]
def F12_m1_1 : List Bool := [true, true, true, true, true, true, true, false, true, true, true, true, true, true, true, true, true, true, true, true, true, true, true, true, true, true, true, true, true, true, true, true, true, true, true, true, true, true, true, true, true, true, true, true, true, true, true, true, true, true, true, true, true, true, true, true, true, true, true, true, true, true, true, true, true, true, true, true, true, true, true, true, true, true, true, true, true, true, true, true, true, true, true, true, true, true, true, true, true, true, true, true, true, true, true, true, true, true, true, true, true, true, true, true, true, true, true, true, true]
def F12_m1_0 : List Bool := [true, false, true, true, true, true, true, false, false, true, true, true, true, true, true, true, true, true, true, true, true, false, false, false, true, true, true, true, true, true, true, true, true, true, true, true, true, true, true, true, true, true, true, true, true, true, true, true, true, true, true, true, true, true, true, true, true, true, true, true, true, true, true, true, true, true, true, true, true, true, true, true, true, true, true, true, true, true, true, true, true, true, true, true, true, true, true, true, true, true, true, true, true, true, true, true, true, true, true, true, true, true, true, true, true, true, true, true, true]
def F12_s1 (l1 : List (Int × Int × Int)) (l2 : List Bool) (a9 : Int) (a10 : Int) (l11 : List Bool) : Option ((Int × Int × (List Bool)) ⊕ (List Bool)) :=
  (bif decide (a10 < (l1.length : Int)) then
   (Option.bind (at? l1 a10) fun y14 =>
   (bif (y14.1 == 2) then
    (Option.bind (at? l11 a10) fun y16 =>
    some (.inl (a9, (IntKind.i64.wrap (a10 + 1)), (setI l11 a10 true))))
   else
    (bif (y14.1 == 3) then
     (Option.bind (at? l2 a9) fun y19 =>
     (Option.bind (at? l11 a10) fun y20 =>
     some (.inl ((IntKind.i64.wrap (a9 + 1)), (IntKind.i64.wrap (a10 + 1)), (setI l11 a10 y19)))))
    else
     (bif (y14.1 == 4) then
      (Option.bind (at? l11 y14.2.1) fun y23 =>
      (Option.bind (at? l11 a10) fun y24 =>
      some (.inl (a9, (IntKind.i64.wrap (a10 + 1)), (setI l11 a10 (!y23))))))
     else
      (bif (y14.1 == 5) then
       (Option.bind (at? l11 y14.2.1) fun y27 =>
       (bif y27 then
        (Option.bind (at? l11 y14.2.2) fun y29 =>
        (Option.bind (at? l11 a10) fun y30 =>
        some (.inl (a9, (IntKind.i64.wrap (a10 + 1)), (setI l11 a10 y29)))))
       else
        (Option.bind (at? l11 a10) fun y32 =>
        some (.inl (a9, (IntKind.i64.wrap (a10 + 1)), (setI l11 a10 false))))))
      else
       (bif (y14.1 == 6) then
        (Option.bind (at? l11 y14.2.1) fun y35 =>
        (bif y35 then
         (Option.bind (at? l11 a10) fun y37 =>
         some (.inl (a9, (IntKind.i64.wrap (a10 + 1)), (setI l11 a10 true))))
        else
         (Option.bind (at? l11 y14.2.2) fun y39 =>
         (Option.bind (at? l11 a10) fun y40 =>
         some (.inl (a9, (IntKind.i64.wrap (a10 + 1)), (setI l11 a10 y39)))))))
       else
        (bif (y14.1 == 7) then
         (Option.bind (at? l11 y14.2.1) fun y43 =>
         (Option.bind (at? l11 y14.2.2) fun y44 =>
         (Option.bind (at? l11 a10) fun y45 =>
         some (.inl (a9, (IntKind.i64.wrap (a10 + 1)), (setI l11 a10 (!(y43 == y44))))))))
        else
         some (.inl (a9, (IntKind.i64.wrap (a10 + 1)), l11)))))))))
  else
   some (.inr l11))
def F12_h1 (l1 : List (Int × Int × Int)) (v1 : Hd) (v2 : Hd) (h12 : AHeap) (u11 : Hd) (a9 : Int) (a10 : Int) (l11 : List Bool) : AS := ⟨[junk, (sv v2), junk, junk, junk, junk, junk, (sv u11), .int .i64 a9, junk, junk, junk, junk, junk, junk, junk, junk, junk, junk, junk, junk, (sv v1), .int .i64 (l1.length : Int), .int .i64 a10, junk, junk, junk, junk, junk, junk, junk, junk, junk, junk, junk, junk, junk, junk, junk, junk, junk, junk, junk, junk, junk, junk, junk, junk, junk, junk, junk, junk, junk, junk, junk, junk, junk, junk, junk, junk, junk, junk, junk, junk, junk, junk, junk, junk, junk, junk, junk, junk, junk, junk, junk, junk, junk, junk, junk, junk, junk, junk, junk, junk, junk, junk, junk, junk, junk, junk, junk, junk, junk, junk, junk, junk, junk, junk, junk, junk, junk, junk, junk, junk, junk, junk, junk, junk, junk], [], h12⟩
theorem F12_d1 : drawsOk F12_D (codeOf Try.prog 12 [1, 1, 1, 1, 0, 1, 0, 0]) = true := by kernel_rfl
def F12_x1_0 (h : AHeap) (hx : AHeap) (w0 : Hd) (r : (List Bool)) : AS := ⟨[junk, junk, junk, junk, junk, junk, junk, (sv w0), junk, junk, junk, junk, junk, junk, junk, junk, junk, junk, junk, junk, junk, junk, junk, junk, junk, junk, junk, junk, junk, junk, junk, junk, junk, junk, junk, junk, junk, junk, junk, junk, junk, junk, junk, junk, junk, junk, junk, junk, junk, junk, junk, junk, junk, junk, junk, junk, junk, junk, junk, junk, junk, junk, junk, junk, junk, junk, junk, junk, junk, junk, junk, junk, junk, junk, junk, junk, junk, junk, junk, junk, junk, junk, junk, junk, junk, junk, junk, junk, junk, junk, junk, junk, junk, junk, junk, junk, junk, junk, junk, junk, junk, junk, junk, junk, junk, junk, junk, junk, junk], [], hx⟩
def F12_i1 (h : AHeap) (l1 : List (Int × Int × Int)) (v1 : Hd) (v2 : Hd) (s : Int × Int × (List Bool)) (S : AS) : Prop := ∃ (h12 : AHeap) (u11 : Hd), Heapy h h12 [⟨u11, 4, 1, List.flatMap enc4 s.2.2⟩] ∧ S = (F12_h1 l1 v1 v2 h12 u11 s.1 s.2.1 s.2.2)
def F12_x1 (h : AHeap) (r : (List Bool)) (e : Exit) (S : AS) : Prop := e = (.exit 0) ∧ ∃ (hx : AHeap) (w0 : Hd), Heapy h hx [⟨w0, 4, 1, List.flatMap enc4 r⟩] ∧ S = (F12_x1_0 h hx w0 r)
set_option maxRecDepth 100000 in
theorem F12_r1 (h : AHeap) (l1 : List (Int × Int × Int)) (v1 : Hd) (hv1 : SlE E38 3 h (sv v1) l1) (l2 : List Bool) (v2 : Hd) (hv2 : SlE E4 1 h (sv v2) l2) (a9 : Int) (a10 : Int) (l11 : List Bool) (S : AS) (hI : (F12_i1 h l1 v1 v2) (a9, a10, l11) S) (o : (Int × Int × (List Bool)) ⊕ (List Bool)) : F12_s1 l1 l2 a9 a10 l11 = some o → Rd Try.prog (codeOf Try.prog 12 [1, 1, 1, 1, 0, 1, 0, 0]) (F12_i1 h l1 v1 v2) (F12_x1 h) S o := by
  obtain ⟨h12, u11, hp12, rfl⟩ := hI
  unfold F12_s1
  refine dec_bif (fun c13 => ?_) (fun c13 => ?_)
  · refine bind_opt fun y14 e14 => ?_
    obtain ⟨id14, off14, g14, cs14, ix14, at14, rfl⟩ := SlE.at hv1 e14
    refine dec_bif (fun c15 => ?_) (fun c15 => ?_)
    · refine bind_opt fun y16 e16 => ?_
      obtain ⟨id16, off16, g16, cs16, ix16, at16, rfl⟩ := SlE.at (Heapy.sle (v := u11) (xs := l11) (enc := enc4) hp12 0 rfl (fun _ => rfl) (by decide)) e16
      obtain ⟨h17, m17, hp17⟩ := Heapy.store (P := Try.prog) hp12 0 (v := u11) (xs := l11) (enc := enc4) rfl (fun _ => rfl) e16 (y' := true) ix16 (t := 4) (x := .bool true) 0 (vs := [.bool true]) rfl (by kernel_rfl) rfl rfl rfl rfl
      intro hr
      obtain rfl := Option.some.inj hr
      exact ⟨(F12_h1 l1 v1 v2 h17 u11 a9 (IntKind.i64.wrap (a10 + 1)) (setI l11 a10 true)), ⟨h17, u11, (Heapy.pick hp17 [0] (by decide)), rfl⟩, pEnd_sound good (L := F12_L) (D := F12_D) (its := [.g, (.b true), .g, (.ix id14 off14 g14), (.ld (.agg #[.int .i64 y14.1, .int .i64 y14.2.1, .int .i64 y14.2.2])), .g, .g, .g, .g, .g, .g, .g, (.b true), .g, .g, (.ix id16 off16 g16), (.mm undef h17), .g, .g]) (ds := F12_m1_0) (ks := [10]) (e := .normal) (s2 := (F12_h1 l1 v1 v2 h17 u11 a9 (IntKind.i64.wrap (a10 + 1)) (setI l11 a10 true))) (hC := (And.intro m17 (And.intro ix16 (And.intro c15 (And.intro (At.agg (P := Try.prog) (t := 38) (v := .agg #[.int .i64 y14.1, .int .i64 y14.2.1, .int .i64 y14.2.2]) (m := 3) (At.mono (Heapy.sub hp12) at14) (by kernel_rfl) (by kernel_rfl) 0 (by kernel_rfl) rfl) (And.intro ix14 (And.intro c13 trivial))))))) (hd := F12_d1) (h := by kernel_rfl)⟩
    · refine dec_bif (fun c18 => ?_) (fun c18 => ?_)
      · refine bind_opt fun y19 e19 => ?_
        obtain ⟨id19, off19, g19, cs19, ix19, at19, rfl⟩ := SlE.at hv2 e19
        refine bind_opt fun y20 e20 => ?_
        obtain ⟨id20, off20, g20, cs20, ix20, at20, rfl⟩ := SlE.at (Heapy.sle (v := u11) (xs := l11) (enc := enc4) hp12 0 rfl (fun _ => rfl) (by decide)) e20
        obtain ⟨h21, m21, hp21⟩ := Heapy.store (P := Try.prog) hp12 0 (v := u11) (xs := l11) (enc := enc4) rfl (fun _ => rfl) e20 (y' := y19) ix20 (t := 4) (x := .bool y19) 0 (vs := [.bool y19]) rfl (by kernel_rfl) rfl rfl rfl rfl
        intro hr
        obtain rfl := Option.some.inj hr
        exact ⟨(F12_h1 l1 v1 v2 h21 u11 (IntKind.i64.wrap (a9 + 1)) (IntKind.i64.wrap (a10 + 1)) (setI l11 a10 y19)), ⟨h21, u11, (Heapy.pick hp21 [0] (by decide)), rfl⟩, pEnd_sound good (L := F12_L) (D := F12_D) (its := [.g, (.b true), .g, (.ix id14 off14 g14), (.ld (.agg #[.int .i64 y14.1, .int .i64 y14.2.1, .int .i64 y14.2.2])), .g, .g, .g, .g, .g, .g, .g, (.b false), .g, .g, (.b true), .g, .g, .g, .g, (.ix id19 off19 g19), (.ld (.bool y19)), (.ix id20 off20 g20), (.mm undef h21), .g, .g, .g, .g, .g]) (ds := F12_m1_0) (ks := [10]) (e := .normal) (s2 := (F12_h1 l1 v1 v2 h21 u11 (IntKind.i64.wrap (a9 + 1)) (IntKind.i64.wrap (a10 + 1)) (setI l11 a10 y19))) (hC := (And.intro m21 (And.intro ix20 (And.intro (At.one (P := Try.prog) (t := 4) (v := .bool y19) (At.mono (Heapy.sub hp12) at19) (by kernel_rfl) 0 rfl rfl) (And.intro ix19 (And.intro c18 (And.intro c15 (And.intro (At.agg (P := Try.prog) (t := 38) (v := .agg #[.int .i64 y14.1, .int .i64 y14.2.1, .int .i64 y14.2.2]) (m := 3) (At.mono (Heapy.sub hp12) at14) (by kernel_rfl) (by kernel_rfl) 0 (by kernel_rfl) rfl) (And.intro ix14 (And.intro c13 trivial)))))))))) (hd := F12_d1) (h := by kernel_rfl)⟩
      · refine dec_bif (fun c22 => ?_) (fun c22 => ?_)
        · refine bind_opt fun y23 e23 => ?_
          obtain ⟨id23, off23, g23, cs23, ix23, at23, rfl⟩ := SlE.at (Heapy.sle (v := u11) (xs := l11) (enc := enc4) hp12 0 rfl (fun _ => rfl) (by decide)) e23
          refine bind_opt fun y24 e24 => ?_
          obtain ⟨id24, off24, g24, cs24, ix24, at24, rfl⟩ := SlE.at (Heapy.sle (v := u11) (xs := l11) (enc := enc4) hp12 0 rfl (fun _ => rfl) (by decide)) e24
          obtain ⟨h25, m25, hp25⟩ := Heapy.store (P := Try.prog) hp12 0 (v := u11) (xs := l11) (enc := enc4) rfl (fun _ => rfl) e24 (y' := (!y23)) ix24 (t := 4) (x := .bool (!y23)) 0 (vs := [.bool (!y23)]) rfl (by kernel_rfl) rfl rfl rfl rfl
          intro hr
          obtain rfl := Option.some.inj hr
          exact ⟨(F12_h1 l1 v1 v2 h25 u11 a9 (IntKind.i64.wrap (a10 + 1)) (setI l11 a10 (!y23))), ⟨h25, u11, (Heapy.pick hp25 [0] (by decide)), rfl⟩, pEnd_sound good (L := F12_L) (D := F12_D) (its := [.g, (.b true), .g, (.ix id14 off14 g14), (.ld (.agg #[.int .i64 y14.1, .int .i64 y14.2.1, .int .i64 y14.2.2])), .g, .g, .g, .g, .g, .g, .g, (.b false), .g, .g, (.b false), .g, .g, (.b true), .g, .g, .g, .g, .g, (.ix id23 off23 g23), (.ld (.bool y23)), .g, (.ix id24 off24 g24), (.mm undef h25), .g, .g]) (ds := F12_m1_0) (ks := [10]) (e := .normal) (s2 := (F12_h1 l1 v1 v2 h25 u11 a9 (IntKind.i64.wrap (a10 + 1)) (setI l11 a10 (!y23)))) (hC := (And.intro m25 (And.intro ix24 (And.intro (At.one (P := Try.prog) (t := 4) (v := .bool y23) at23 (by kernel_rfl) 0 rfl rfl) (And.intro ix23 (And.intro c22 (And.intro c18 (And.intro c15 (And.intro (At.agg (P := Try.prog) (t := 38) (v := .agg #[.int .i64 y14.1, .int .i64 y14.2.1, .int .i64 y14.2.2]) (m := 3) (At.mono (Heapy.sub hp12) at14) (by kernel_rfl) (by kernel_rfl) 0 (by kernel_rfl) rfl) (And.intro ix14 (And.intro c13 trivial))))))))))) (hd := F12_d1) (h := by kernel_rfl)⟩
        · refine dec_bif (fun c26 => ?_) (fun c26 => ?_)
          · refine bind_opt fun y27 e27 => ?_
            obtain ⟨id27, off27, g27, cs27, ix27, at27, rfl⟩ := SlE.at (Heapy.sle (v := u11) (xs := l11) (enc := enc4) hp12 0 rfl (fun _ => rfl) (by decide)) e27
            refine dec_bif (fun c28 => ?_) (fun c28 => ?_)
            · refine bind_opt fun y29 e29 => ?_
              obtain ⟨id29, off29, g29, cs29, ix29, at29, rfl⟩ := SlE.at (Heapy.sle (v := u11) (xs := l11) (enc := enc4) hp12 0 rfl (fun _ => rfl) (by decide)) e29
              refine bind_opt fun y30 e30 => ?_
              obtain ⟨id30, off30, g30, cs30, ix30, at30, rfl⟩ := SlE.at (Heapy.sle (v := u11) (xs := l11) (enc := enc4) hp12 0 rfl (fun _ => rfl) (by decide)) e30
              obtain ⟨h31, m31, hp31⟩ := Heapy.store (P := Try.prog) hp12 0 (v := u11) (xs := l11) (enc := enc4) rfl (fun _ => rfl) e30 (y' := y29) ix30 (t := 4) (x := .bool y29) 0 (vs := [.bool y29]) rfl (by kernel_rfl) rfl rfl rfl rfl
              intro hr
              obtain rfl := Option.some.inj hr
              exact ⟨(F12_h1 l1 v1 v2 h31 u11 a9 (IntKind.i64.wrap (a10 + 1)) (setI l11 a10 y29)), ⟨h31, u11, (Heapy.pick hp31 [0] (by decide)), rfl⟩, pEnd_sound good (L := F12_L) (D := F12_D) (its := [.g, (.b true), .g, (.ix id14 off14 g14), (.ld (.agg #[.int .i64 y14.1, .int .i64 y14.2.1, .int .i64 y14.2.2])), .g, .g, .g, .g, .g, .g, .g, (.b false), .g, .g, (.b false), .g, .g, (.b false), .g, .g, (.b true), .g, .g, .g, .g, .g, (.ix id27 off27 g27), (.ld (.bool y27)), .g, (.w .g), (.w .g), (.w .g), (.w (.ix id29 off29 g29)), (.w (.ld (.bool y29))), (.p true), (.ix id30 off30 g30), (.mm undef h31), .g, .g]) (ds := F12_m1_0) (ks := [10]) (e := .normal) (s2 := (F12_h1 l1 v1 v2 h31 u11 a9 (IntKind.i64.wrap (a10 + 1)) (setI l11 a10 y29))) (hC := (And.intro m31 (And.intro ix30 (And.intro c28 (And.intro (At.one (P := Try.prog) (t := 4) (v := .bool y29) at29 (by kernel_rfl) 0 rfl rfl) (And.intro (g_tt c28) (And.intro ix29 (And.intro (g_tt c28) (And.intro (g_tt c28) (And.intro (g_tt c28) (And.intro (g_tt c28) (And.intro (At.one (P := Try.prog) (t := 4) (v := .bool y27) at27 (by kernel_rfl) 0 rfl rfl) (And.intro ix27 (And.intro c26 (And.intro c22 (And.intro c18 (And.intro c15 (And.intro (At.agg (P := Try.prog) (t := 38) (v := .agg #[.int .i64 y14.1, .int .i64 y14.2.1, .int .i64 y14.2.2]) (m := 3) (At.mono (Heapy.sub hp12) at14) (by kernel_rfl) (by kernel_rfl) 0 (by kernel_rfl) rfl) (And.intro ix14 (And.intro c13 trivial)))))))))))))))))))) (hd := F12_d1) (h := by kernel_rfl)⟩
            · refine bind_opt fun y32 e32 => ?_
              obtain ⟨id32, off32, g32, cs32, ix32, at32, rfl⟩ := SlE.at (Heapy.sle (v := u11) (xs := l11) (enc := enc4) hp12 0 rfl (fun _ => rfl) (by decide)) e32
              obtain ⟨h33, m33, hp33⟩ := Heapy.store (P := Try.prog) hp12 0 (v := u11) (xs := l11) (enc := enc4) rfl (fun _ => rfl) e32 (y' := false) ix32 (t := 4) (x := .bool false) 0 (vs := [.bool false]) rfl (by kernel_rfl) rfl rfl rfl rfl
              intro hr
              obtain rfl := Option.some.inj hr
              exact ⟨(F12_h1 l1 v1 v2 h33 u11 a9 (IntKind.i64.wrap (a10 + 1)) (setI l11 a10 false)), ⟨h33, u11, (Heapy.pick hp33 [0] (by decide)), rfl⟩, pEnd_sound good (L := F12_L) (D := F12_D) (its := [.g, (.b true), .g, (.ix id14 off14 g14), (.ld (.agg #[.int .i64 y14.1, .int .i64 y14.2.1, .int .i64 y14.2.2])), .g, .g, .g, .g, .g, .g, .g, (.b false), .g, .g, (.b false), .g, .g, (.b false), .g, .g, (.b true), .g, .g, .g, .g, .g, (.ix id27 off27 g27), (.ld (.bool y27)), .g, .n, .n, .n, .n, .n, (.p false), (.ix id32 off32 g32), (.mm undef h33), .g, .g]) (ds := F12_m1_0) (ks := [10]) (e := .normal) (s2 := (F12_h1 l1 v1 v2 h33 u11 a9 (IntKind.i64.wrap (a10 + 1)) (setI l11 a10 false))) (hC := (And.intro m33 (And.intro ix32 (And.intro c28 (And.intro (g_ft c28) (And.intro (g_ft c28) (And.intro (g_ft c28) (And.intro (g_ft c28) (And.intro (g_ft c28) (And.intro (At.one (P := Try.prog) (t := 4) (v := .bool y27) at27 (by kernel_rfl) 0 rfl rfl) (And.intro ix27 (And.intro c26 (And.intro c22 (And.intro c18 (And.intro c15 (And.intro (At.agg (P := Try.prog) (t := 38) (v := .agg #[.int .i64 y14.1, .int .i64 y14.2.1, .int .i64 y14.2.2]) (m := 3) (At.mono (Heapy.sub hp12) at14) (by kernel_rfl) (by kernel_rfl) 0 (by kernel_rfl) rfl) (And.intro ix14 (And.intro c13 trivial)))))))))))))))))) (hd := F12_d1) (h := by kernel_rfl)⟩
          · refine dec_bif (fun c34 => ?_) (fun c34 => ?_)
            · refine bind_opt fun y35 e35 => ?_
              obtain ⟨id35, off35, g35, cs35, ix35, at35, rfl⟩ := SlE.at (Heapy.sle (v := u11) (xs := l11) (enc := enc4) hp12 0 rfl (fun _ => rfl) (by decide)) e35
              refine dec_bif (fun c36 => ?_) (fun c36 => ?_)
              · refine bind_opt fun y37 e37 => ?_
                obtain ⟨id37, off37, g37, cs37, ix37, at37, rfl⟩ := SlE.at (Heapy.sle (v := u11) (xs := l11) (enc := enc4) hp12 0 rfl (fun _ => rfl) (by decide)) e37
                obtain ⟨h38, m38, hp38⟩ := Heapy.store (P := Try.prog) hp12 0 (v := u11) (xs := l11) (enc := enc4) rfl (fun _ => rfl) e37 (y' := true) ix37 (t := 4) (x := .bool true) 0 (vs := [.bool true]) rfl (by kernel_rfl) rfl rfl rfl rfl
                intro hr
                obtain rfl := Option.some.inj hr
                exact ⟨(F12_h1 l1 v1 v2 h38 u11 a9 (IntKind.i64.wrap (a10 + 1)) (setI l11 a10 true)), ⟨h38, u11, (Heapy.pick hp38 [0] (by decide)), rfl⟩, pEnd_sound good (L := F12_L) (D := F12_D) (its := [.g, (.b true), .g, (.ix id14 off14 g14), (.ld (.agg #[.int .i64 y14.1, .int .i64 y14.2.1, .int .i64 y14.2.2])), .g, .g, .g, .g, .g, .g, .g, (.b false), .g, .g, (.b false), .g, .g, (.b false), .g, .g, (.b false), .g, .g, (.b true), .g, .g, .g, .g, .g, (.ix id35 off35 g35), (.ld (.bool y35)), .g, .n, .n, .n, .n, .n, (.p true), (.ix id37 off37 g37), (.mm undef h38), .g, .g]) (ds := F12_m1_0) (ks := [10]) (e := .normal) (s2 := (F12_h1 l1 v1 v2 h38 u11 a9 (IntKind.i64.wrap (a10 + 1)) (setI l11 a10 true))) (hC := (And.intro m38 (And.intro ix37 (And.intro c36 (And.intro (g_tf c36) (And.intro (g_tf c36) (And.intro (g_tf c36) (And.intro (g_tf c36) (And.intro (g_tf c36) (And.intro (At.one (P := Try.prog) (t := 4) (v := .bool y35) at35 (by kernel_rfl) 0 rfl rfl) (And.intro ix35 (And.intro c34 (And.intro c26 (And.intro c22 (And.intro c18 (And.intro c15 (And.intro (At.agg (P := Try.prog) (t := 38) (v := .agg #[.int .i64 y14.1, .int .i64 y14.2.1, .int .i64 y14.2.2]) (m := 3) (At.mono (Heapy.sub hp12) at14) (by kernel_rfl) (by kernel_rfl) 0 (by kernel_rfl) rfl) (And.intro ix14 (And.intro c13 trivial))))))))))))))))))) (hd := F12_d1) (h := by kernel_rfl)⟩
              · refine bind_opt fun y39 e39 => ?_
                obtain ⟨id39, off39, g39, cs39, ix39, at39, rfl⟩ := SlE.at (Heapy.sle (v := u11) (xs := l11) (enc := enc4) hp12 0 rfl (fun _ => rfl) (by decide)) e39
                refine bind_opt fun y40 e40 => ?_
                obtain ⟨id40, off40, g40, cs40, ix40, at40, rfl⟩ := SlE.at (Heapy.sle (v := u11) (xs := l11) (enc := enc4) hp12 0 rfl (fun _ => rfl) (by decide)) e40
                obtain ⟨h41, m41, hp41⟩ := Heapy.store (P := Try.prog) hp12 0 (v := u11) (xs := l11) (enc := enc4) rfl (fun _ => rfl) e40 (y' := y39) ix40 (t := 4) (x := .bool y39) 0 (vs := [.bool y39]) rfl (by kernel_rfl) rfl rfl rfl rfl
                intro hr
                obtain rfl := Option.some.inj hr
                exact ⟨(F12_h1 l1 v1 v2 h41 u11 a9 (IntKind.i64.wrap (a10 + 1)) (setI l11 a10 y39)), ⟨h41, u11, (Heapy.pick hp41 [0] (by decide)), rfl⟩, pEnd_sound good (L := F12_L) (D := F12_D) (its := [.g, (.b true), .g, (.ix id14 off14 g14), (.ld (.agg #[.int .i64 y14.1, .int .i64 y14.2.1, .int .i64 y14.2.2])), .g, .g, .g, .g, .g, .g, .g, (.b false), .g, .g, (.b false), .g, .g, (.b false), .g, .g, (.b false), .g, .g, (.b true), .g, .g, .g, .g, .g, (.ix id35 off35 g35), (.ld (.bool y35)), .g, (.w .g), (.w .g), (.w .g), (.w (.ix id39 off39 g39)), (.w (.ld (.bool y39))), (.p false), (.ix id40 off40 g40), (.mm undef h41), .g, .g]) (ds := F12_m1_0) (ks := [10]) (e := .normal) (s2 := (F12_h1 l1 v1 v2 h41 u11 a9 (IntKind.i64.wrap (a10 + 1)) (setI l11 a10 y39))) (hC := (And.intro m41 (And.intro ix40 (And.intro c36 (And.intro (At.one (P := Try.prog) (t := 4) (v := .bool y39) at39 (by kernel_rfl) 0 rfl rfl) (And.intro (g_ff c36) (And.intro ix39 (And.intro (g_ff c36) (And.intro (g_ff c36) (And.intro (g_ff c36) (And.intro (g_ff c36) (And.intro (At.one (P := Try.prog) (t := 4) (v := .bool y35) at35 (by kernel_rfl) 0 rfl rfl) (And.intro ix35 (And.intro c34 (And.intro c26 (And.intro c22 (And.intro c18 (And.intro c15 (And.intro (At.agg (P := Try.prog) (t := 38) (v := .agg #[.int .i64 y14.1, .int .i64 y14.2.1, .int .i64 y14.2.2]) (m := 3) (At.mono (Heapy.sub hp12) at14) (by kernel_rfl) (by kernel_rfl) 0 (by kernel_rfl) rfl) (And.intro ix14 (And.intro c13 trivial))))))))))))))))))))) (hd := F12_d1) (h := by kernel_rfl)⟩
            · refine dec_bif (fun c42 => ?_) (fun c42 => ?_)
              · refine bind_opt fun y43 e43 => ?_
                obtain ⟨id43, off43, g43, cs43, ix43, at43, rfl⟩ := SlE.at (Heapy.sle (v := u11) (xs := l11) (enc := enc4) hp12 0 rfl (fun _ => rfl) (by decide)) e43
                refine bind_opt fun y44 e44 => ?_
                obtain ⟨id44, off44, g44, cs44, ix44, at44, rfl⟩ := SlE.at (Heapy.sle (v := u11) (xs := l11) (enc := enc4) hp12 0 rfl (fun _ => rfl) (by decide)) e44
                refine bind_opt fun y45 e45 => ?_
                obtain ⟨id45, off45, g45, cs45, ix45, at45, rfl⟩ := SlE.at (Heapy.sle (v := u11) (xs := l11) (enc := enc4) hp12 0 rfl (fun _ => rfl) (by decide)) e45
                obtain ⟨h46, m46, hp46⟩ := Heapy.store (P := Try.prog) hp12 0 (v := u11) (xs := l11) (enc := enc4) rfl (fun _ => rfl) e45 (y' := (!(y43 == y44))) ix45 (t := 4) (x := .bool (!(y43 == y44))) 0 (vs := [.bool (!(y43 == y44))]) rfl (by kernel_rfl) rfl rfl rfl rfl
                intro hr
                obtain rfl := Option.some.inj hr
                exact ⟨(F12_h1 l1 v1 v2 h46 u11 a9 (IntKind.i64.wrap (a10 + 1)) (setI l11 a10 (!(y43 == y44)))), ⟨h46, u11, (Heapy.pick hp46 [0] (by decide)), rfl⟩, pEnd_sound good (L := F12_L) (D := F12_D) (its := [.g, (.b true), .g, (.ix id14 off14 g14), (.ld (.agg #[.int .i64 y14.1, .int .i64 y14.2.1, .int .i64 y14.2.2])), .g, .g, .g, .g, .g, .g, .g, (.b false), .g, .g, (.b false), .g, .g, (.b false), .g, .g, (.b false), .g, .g, (.b false), .g, .g, (.b true), .g, .g, .g, .g, .g, (.ix id43 off43 g43), (.ld (.bool y43)), .g, .g, .g, (.ix id44 off44 g44), (.ld (.bool y44)), .g, (.ix id45 off45 g45), (.mm undef h46), .g, .g]) (ds := F12_m1_0) (ks := [10]) (e := .normal) (s2 := (F12_h1 l1 v1 v2 h46 u11 a9 (IntKind.i64.wrap (a10 + 1)) (setI l11 a10 (!(y43 == y44))))) (hC := (And.intro m46 (And.intro ix45 (And.intro (At.one (P := Try.prog) (t := 4) (v := .bool y44) at44 (by kernel_rfl) 0 rfl rfl) (And.intro ix44 (And.intro (At.one (P := Try.prog) (t := 4) (v := .bool y43) at43 (by kernel_rfl) 0 rfl rfl) (And.intro ix43 (And.intro c42 (And.intro c34 (And.intro c26 (And.intro c22 (And.intro c18 (And.intro c15 (And.intro (At.agg (P := Try.prog) (t := 38) (v := .agg #[.int .i64 y14.1, .int .i64 y14.2.1, .int .i64 y14.2.2]) (m := 3) (At.mono (Heapy.sub hp12) at14) (by kernel_rfl) (by kernel_rfl) 0 (by kernel_rfl) rfl) (And.intro ix14 (And.intro c13 trivial)))))))))))))))) (hd := F12_d1) (h := by kernel_rfl)⟩
              · intro hr
                obtain rfl := Option.some.inj hr
                exact ⟨(F12_h1 l1 v1 v2 h12 u11 a9 (IntKind.i64.wrap (a10 + 1)) l11), ⟨h12, u11, (Heapy.pick hp12 [0] (by decide)), rfl⟩, pEnd_sound good (L := F12_L) (D := F12_D) (its := [.g, (.b true), .g, (.ix id14 off14 g14), (.ld (.agg #[.int .i64 y14.1, .int .i64 y14.2.1, .int .i64 y14.2.2])), .g, .g, .g, .g, .g, .g, .g, (.b false), .g, .g, (.b false), .g, .g, (.b false), .g, .g, (.b false), .g, .g, (.b false), .g, .g, (.b false), .g, .g]) (ds := F12_m1_0) (ks := [10]) (e := .normal) (s2 := (F12_h1 l1 v1 v2 h12 u11 a9 (IntKind.i64.wrap (a10 + 1)) l11)) (hC := (And.intro c42 (And.intro c34 (And.intro c26 (And.intro c22 (And.intro c18 (And.intro c15 (And.intro (At.agg (P := Try.prog) (t := 38) (v := .agg #[.int .i64 y14.1, .int .i64 y14.2.1, .int .i64 y14.2.2]) (m := 3) (At.mono (Heapy.sub hp12) at14) (by kernel_rfl) (by kernel_rfl) 0 (by kernel_rfl) rfl) (And.intro ix14 (And.intro c13 trivial)))))))))) (hd := F12_d1) (h := by kernel_rfl)⟩
  · intro hr
    obtain rfl := Option.some.inj hr
    refine ⟨(.exit 0), (F12_x1_0 h h12 u11 (l11 : (List Bool))), (by intro hh; cases hh), ?_, pEnd_sound good (L := F12_L) (D := F12_D) (its := [.g, (.b false)]) (ds := F12_m1_1) (ks := []) (e := (.exit 0)) (s2 := (F12_x1_0 h h12 u11 (l11 : (List Bool)))) (hC := (And.intro c13 trivial)) (hd := F12_d1) (h := by kernel_rfl)⟩
    exact ⟨rfl, h12, u11, (Heapy.pick hp12 [0] (by decide)), rfl⟩
theorem F12_l1 (h : AHeap) (l1 : List (Int × Int × Int)) (v1 : Hd) (hv1 : SlE E38 3 h (sv v1) l1) (l2 : List Bool) (v2 : Hd) (hv2 : SlE E4 1 h (sv v2) l2) (x : Int × Int × (List Bool)) (r : (List Bool)) (hl : loopO (fun (s : Int × Int × (List Bool)) => F12_s1 l1 l2 s.1 s.2.1 s.2.2) x = some r) (S : AS) (hI : (F12_i1 h l1 v1 v2) x S) : ∃ e S', (F12_x1 h) r e S' ∧ AWp Try.prog (.loop (codeOf Try.prog 12 [1, 1, 1, 1, 0, 1, 0, 0])) (Ends1 e S') S :=
  loop_rel (fun x S hI => F12_r1 h l1 v1 hv1 l2 v2 hv2 x.1 x.2.1 x.2.2 S hI) hl hI
def F12 (l1 : List (Int × Int × Int)) (l2 : List Bool) : Option ((List Bool) × Int) :=
  (Option.bind (F24 l1 (l2.length : Int)) fun y3 =>
  (bif (y3 != 0) then
   some ([], y3)
  else
   (bif (!(okLen (l1.length : Int) (l1.length : Int) 1)) then none else
   (Option.bind (loopO (fun (s : Int × Int × (List Bool)) => F12_s1 l1 l2 s.1 s.2.1 s.2.2) (0, 0, (List.replicate (l1.length : Int).toNat false))) fun y47 =>
   some (y47, 0)))))
set_option maxRecDepth 100000 in
theorem F12_spec (l1 : List (Int × Int × Int)) (l2 : List Bool) (v1 : Hd) (v2 : Hd) (h : AHeap) (hw : h.wf) (hv1 : SlE E38 3 h (sv v1) l1) (hv2 : SlE E4 1 h (sv v2) l2) (r : (List Bool) × Int) : F12 l1 l2 = some r → ∃ (ur0 : Hd) (h' : AHeap), Heapy h h' [⟨ur0, 4, 1, List.flatMap enc4 r.1⟩] ∧ ACalls Try.prog 12 [(sv v1), (sv v2)] h (fun v' h'' => v' = (.tuple #[(sv ur0), .int .i64 r.2] : Value) ∧ h'' = h') := by
  unfold F12
  refine bind_opt fun y3 e3 => ?_
  refine dec_bif (fun c5 => ?_) (fun c5 => ?_)
  · intro hr
    obtain rfl := Option.some.inj hr
    exact ⟨⟨none, 0, 0⟩, h, Heapy.pick (Heapy.nil (Heapy.refl hw) 4 1) [0] (by decide), pFun_sound good tab_ok (f := 12) (its := [.g, .g, .g, .g, (.ln l2.length), (.c (.int .i64 y3) h), .g, .g, .g, (.b true), .g, .g, .g]) (args := [(sv v1), (sv v2)]) (h := h) (h' := h) (v := .tuple #[.slice none 0 0, .int .i64 y3]) (hC := (And.intro c5 (And.intro (F24_spec l1 (l2.length : Int) v1 h hv1 _ e3) (And.intro (SlE.len hv2) trivial)))) (hr := by kernel_rfl)⟩
  · refine guard_ok fun g6 => ?_
    obtain ⟨v7, h7, m7, hp7, _⟩ := Heapy.make (Heapy.refl hw) (show mkInfo Try.prog 27 = some (4, 1, 1, [.bool false]) by kernel_rfl) (a := (l1.length : Int)) (b := (l1.length : Int)) (by simpa using g6) (enc := enc4) (x := false) rfl rfl
    refine bind_opt fun y47 e47 => ?_
    obtain ⟨ee47, SS47, hX47, hA47⟩ := F12_l1 h l1 v1 hv1 l2 v2 hv2 (0, 0, (List.replicate (l1.length : Int).toNat false)) y47 e47 (F12_h1 l1 v1 v2 h7 v7 0 0 (List.replicate (l1.length : Int).toNat false)) ⟨h7, v7, (Heapy.pick hp7 [0] (by decide)), rfl⟩
    obtain ⟨rfl, h48, w0_48, hp48, rfl⟩ := hX47
    intro hr
    obtain rfl := Option.some.inj hr
    exact ⟨w0_48, h48, Heapy.pick hp48 [0] (by decide), pFun_sound good tab_ok (f := 12) (its := [.g, .g, .g, .g, (.ln l2.length), (.c (.int .i64 y3) h), .g, .g, .g, (.b false), .g, (.ln l1.length), (.mm (sv v7) h7), .g, .g, .g, (.ln l1.length), .g, (.l F12_m1_0 [] (.exit 0) (F12_x1_0 h h48 w0_48 y47)), .g, .g, .g]) (args := [(sv v1), (sv v2)]) (h := h) (h' := h48) (v := .tuple #[(sv w0_48), .int .i64 0]) (hC := (And.intro hA47 (And.intro (SlE.len hv1) (And.intro m7 (And.intro (SlE.len hv1) (And.intro c5 (And.intro (F24_spec l1 (l2.length : Int) v1 h hv1 _ e3) (And.intro (SlE.len hv2) trivial)))))))) (hr := by kernel_rfl)⟩
/-! 7 jacquard/jacquardlaw46.GatesLocal -/
def F7_L : List Nat := []
def F7_D : List (Nat × List (Nat × Nat)) := [(7, [(0, 1), (1, 1), (2, 1), (3, 1), (4, 1), (5, 1), (6, 1), (7, 0), (8, 1), (9, 0), (10, 1), (11, 1), (12, 1), (13, 1), (14, 1)]), (13, [(0, 1), (1, 1), (2, 1), (3, 1), (4, 1), (5, 1), (6, 1), (7, 1), (8, 1)])]
def F7__1 (x3 : Int) (y7 : (List (Int × Int × Int))) (y21 : (List Bool) × Int) : Bool := ((y21.1.length : Int) != (IntKind.i64.wrap (1 + ((IntKind.i64.wrap (x3)).tmod (y7.length : Int)))))
def F7_m1_2 : List Bool := [true, true, true, true, true, true, true, true, true, true, true, true, true, true, true, true, true, true, true, true, true, true, true, true, true, true, true, true, true, true, true, true, true, true, true, true, true, true, true, true, true, true, true, true, true, true, true, true, true, true, true, true, true, true, true, true, true, true, true, true, true, true, true, true, true, true, true, true, true, true, true, true, true, true, true, true, true, true, true, true, true, true, true, true, true, true, true]
def F7_m1_1 : List Bool := [true, true, true, true, true, true, true, true, true, true, false, true, false, true, true, true, true, true, true, true, true, true, true, true, true, true, true, true, true, true, true, true, true, true, true, true, true, true, true, true, true, true, true, true, true, true, true, true, true, true, true, true, true, true, true, true, true, true, true, true, true, true, true, true, true, true, true, true, true, true, true, true, true, false, false, true, true, true, true, true, true, true, true, true, true, true, true]
def F7_m1_0 : List Bool := [true, true, true, true, true, true, false, true, true, true, true, true, true, true, true, true, true, true, true, true, true, true, true, true, true, true, true, true, true, true, true, true, true, true, true, true, true, true, true, true, true, true, true, true, true, true, true, true, true, true, true, true, true, true, true, true, true, true, true, true, true, true, true, true, true, true, true, true, true, true, true, true, true, true, true, true, true, true, true, true, true, true, true, true, true, true, true]
def F7_s1 (y14 : (List Bool) × Int) (y21 : (List Bool) × Int) (a28 : Int) : Option (Int ⊕ Nat) :=
  (bif decide (a28 < (y21.1.length : Int)) then
   (Option.bind (at? y14.1 a28) fun y30 =>
   (Option.bind (at? y21.1 a28) fun y31 =>
   (bif (!(y30 == y31)) then
    some (.inr 0)
   else
    some (.inl (IntKind.i64.wrap (a28 + 1))))))
  else
   some (.inr 1))
def F7_h1 (u15_0 : Hd) (y21 : (List Bool) × Int) (u22_0 : Hd) (h22 : AHeap)  (a28 : Int) : AS := ⟨[junk, junk, junk, junk, junk, junk, junk, junk, junk, junk, (sv u15_0), junk, (sv u22_0), junk, junk, junk, junk, junk, junk, junk, junk, junk, junk, junk, junk, junk, junk, junk, junk, junk, junk, junk, junk, junk, junk, junk, junk, junk, junk, junk, junk, junk, junk, junk, junk, junk, junk, junk, junk, junk, junk, junk, junk, junk, junk, junk, junk, junk, junk, junk, junk, junk, junk, junk, junk, junk, junk, junk, junk, junk, junk, junk, junk, .int .i64 (y21.1.length : Int), .int .i64 a28, junk, junk, junk, junk, junk, junk, junk, junk, junk, junk, junk, junk], [], h22⟩
theorem F7_d1 : drawsOk F7_D (codeOf Try.prog 7 [1, 1, 1, 1, 1, 1, 1, 1, 0, 1, 0, 0]) = true := by kernel_rfl
def F7_x1_0 (h22 : AHeap)  (r : Nat) : AS := ⟨[junk, junk, junk, junk, junk, junk, .bool false, junk, junk, junk, junk, junk, junk, junk, junk, junk, junk, junk, junk, junk, junk, junk, junk, junk, junk, junk, junk, junk, junk, junk, junk, junk, junk, junk, junk, junk, junk, junk, junk, junk, junk, junk, junk, junk, junk, junk, junk, junk, junk, junk, junk, junk, junk, junk, junk, junk, junk, junk, junk, junk, junk, junk, junk, junk, junk, junk, junk, junk, junk, junk, junk, junk, junk, junk, junk, junk, junk, junk, junk, junk, junk, junk, junk, junk, junk, junk, junk], [], h22⟩
def F7_x1_1 (h22 : AHeap)  (r : Nat) : AS := ⟨[junk, junk, junk, junk, junk, junk, junk, junk, junk, junk, junk, junk, junk, junk, junk, junk, junk, junk, junk, junk, junk, junk, junk, junk, junk, junk, junk, junk, junk, junk, junk, junk, junk, junk, junk, junk, junk, junk, junk, junk, junk, junk, junk, junk, junk, junk, junk, junk, junk, junk, junk, junk, junk, junk, junk, junk, junk, junk, junk, junk, junk, junk, junk, junk, junk, junk, junk, junk, junk, junk, junk, junk, junk, junk, junk, junk, junk, junk, junk, junk, junk, junk, junk, junk, junk, junk, junk], [], h22⟩
def F7_x1 (h22 : AHeap) (r : Nat) : Exit × AS := (bif Nat.beq r 0 then (.ret, (F7_x1_0 h22 r)) else ((.exit 0), (F7_x1_1 h22 r)))
set_option maxRecDepth 100000 in
theorem F7_r1 (h : AHeap) (y7 : (List (Int × Int × Int))) (u8_0 : Hd) (y11 : (List Bool)) (u12_0 : Hd) (y14 : (List Bool) × Int) (u15_0 : Hd) (y21 : (List Bool) × Int) (u22_0 : Hd) (h22 : AHeap) (hp22 : Heapy h h22 [⟨u22_0, 4, 1, List.flatMap enc4 y21.1⟩, ⟨u15_0, 4, 1, List.flatMap enc4 y14.1⟩, ⟨u12_0, 4, 1, List.flatMap enc4 y11⟩, ⟨u8_0, 38, 3, List.flatMap enc38 y7⟩]) (a28 : Int) (o : Int ⊕ Nat) : F7_s1 y14 y21 a28 = some o → RdF Try.prog (codeOf Try.prog 7 [1, 1, 1, 1, 1, 1, 1, 1, 0, 1, 0, 0]) (fun (s : Int) => (F7_h1 u15_0 y21 u22_0 h22 s)) (F7_x1 h22) (F7_h1 u15_0 y21 u22_0 h22 a28) o := by
  unfold F7_s1
  refine dec_bif (fun c29 => ?_) (fun c29 => ?_)
  · refine bind_opt fun y30 e30 => ?_
    obtain ⟨id30, off30, g30, cs30, ix30, at30, rfl⟩ := SlE.at (Heapy.sle (v := u15_0) (xs := y14.1) (enc := enc4) hp22 1 rfl (fun _ => rfl) (by decide)) e30
    refine bind_opt fun y31 e31 => ?_
    obtain ⟨id31, off31, g31, cs31, ix31, at31, rfl⟩ := SlE.at (Heapy.sle (v := u22_0) (xs := y21.1) (enc := enc4) hp22 0 rfl (fun _ => rfl) (by decide)) e31
    refine dec_bif (fun c32 => ?_) (fun c32 => ?_)
    · intro hr
      obtain rfl := Option.some.inj hr
      show AWp Try.prog _ (Ends1 ((F7_x1 h22) (0 : Nat)).1 ((F7_x1 h22) (0 : Nat)).2) _
      exact pEnd_sound good (L := F7_L) (D := F7_D) (its := [.g, (.b true), .g, .g, .g, .g, (.ix id30 off30 g30), (.ld (.bool y30)), .g, .g, (.ix id31 off31 g31), (.ld (.bool y31)), .g, (.b true), .g]) (ds := F7_m1_0) (ks := []) (e := ((F7_x1 h22) (0 : Nat)).1) (s2 := ((F7_x1 h22) (0 : Nat)).2) (hC := (And.intro c32 (And.intro (At.one (P := Try.prog) (t := 4) (v := .bool y31) at31 (by kernel_rfl) 0 rfl rfl) (And.intro ix31 (And.intro (At.one (P := Try.prog) (t := 4) (v := .bool y30) at30 (by kernel_rfl) 0 rfl rfl) (And.intro ix30 (And.intro c29 trivial))))))) (hd := F7_d1) (h := by kernel_rfl)
    · intro hr
      obtain rfl := Option.some.inj hr
      show AWp Try.prog _ (Ends1 .normal (F7_h1 u15_0 y21 u22_0 h22 (IntKind.i64.wrap (a28 + 1)))) _
      exact pEnd_sound good (L := F7_L) (D := F7_D) (its := [.g, (.b true), .g, .g, .g, .g, (.ix id30 off30 g30), (.ld (.bool y30)), .g, .g, (.ix id31 off31 g31), (.ld (.bool y31)), .g, (.b false), .g, .g]) (ds := F7_m1_1) (ks := []) (e := .normal) (s2 := (F7_h1 u15_0 y21 u22_0 h22 (IntKind.i64.wrap (a28 + 1)))) (hC := (And.intro c32 (And.intro (At.one (P := Try.prog) (t := 4) (v := .bool y31) at31 (by kernel_rfl) 0 rfl rfl) (And.intro ix31 (And.intro (At.one (P := Try.prog) (t := 4) (v := .bool y30) at30 (by kernel_rfl) 0 rfl rfl) (And.intro ix30 (And.intro c29 trivial))))))) (hd := F7_d1) (h := by kernel_rfl)
  · intro hr
    obtain rfl := Option.some.inj hr
    show AWp Try.prog _ (Ends1 ((F7_x1 h22) (1 : Nat)).1 ((F7_x1 h22) (1 : Nat)).2) _
    exact pEnd_sound good (L := F7_L) (D := F7_D) (its := [.g, (.b false)]) (ds := F7_m1_2) (ks := []) (e := ((F7_x1 h22) (1 : Nat)).1) (s2 := ((F7_x1 h22) (1 : Nat)).2) (hC := (And.intro c29 trivial)) (hd := F7_d1) (h := by kernel_rfl)
theorem F7_l1_0 (h : AHeap) (y7 : (List (Int × Int × Int))) (u8_0 : Hd) (y11 : (List Bool)) (u12_0 : Hd) (y14 : (List Bool) × Int) (u15_0 : Hd) (y21 : (List Bool) × Int) (u22_0 : Hd) (h22 : AHeap) (hp22 : Heapy h h22 [⟨u22_0, 4, 1, List.flatMap enc4 y21.1⟩, ⟨u15_0, 4, 1, List.flatMap enc4 y14.1⟩, ⟨u12_0, 4, 1, List.flatMap enc4 y11⟩, ⟨u8_0, 38, 3, List.flatMap enc38 y7⟩]) (x : Int) (r : Nat) (hl : loopO (fun (s : Int) => F7_s1 y14 y21 s) x = some r) (q0 : Nat.beq r 0 = true) : AWp Try.prog (.loop (codeOf Try.prog 7 [1, 1, 1, 1, 1, 1, 1, 1, 0, 1, 0, 0])) (Ends1 .ret (F7_x1_0 h22 r)) ((fun (s : Int) => (F7_h1 u15_0 y21 u22_0 h22 s)) x) := by
  have k := loop_fun (P := Try.prog) (c := (codeOf Try.prog 7 [1, 1, 1, 1, 1, 1, 1, 1, 0, 1, 0, 0])) (step := (fun (s : Int) => F7_s1 y14 y21 s)) (hd := (fun (s : Int) => (F7_h1 u15_0 y21 u22_0 h22 s))) (X := (F7_x1 h22)) (by intro t; unfold F7_x1; cases Nat.beq t 0 <;> (intro h; cases h)) (fun x => F7_r1 h y7 u8_0 y11 u12_0 y14 u15_0 y21 u22_0 h22 hp22 x) hl
  simp only [F7_x1, q0, cond_true, cond_false] at k
  exact k
theorem F7_l1_1 (h : AHeap) (y7 : (List (Int × Int × Int))) (u8_0 : Hd) (y11 : (List Bool)) (u12_0 : Hd) (y14 : (List Bool) × Int) (u15_0 : Hd) (y21 : (List Bool) × Int) (u22_0 : Hd) (h22 : AHeap) (hp22 : Heapy h h22 [⟨u22_0, 4, 1, List.flatMap enc4 y21.1⟩, ⟨u15_0, 4, 1, List.flatMap enc4 y14.1⟩, ⟨u12_0, 4, 1, List.flatMap enc4 y11⟩, ⟨u8_0, 38, 3, List.flatMap enc38 y7⟩]) (x : Int) (r : Nat) (hl : loopO (fun (s : Int) => F7_s1 y14 y21 s) x = some r) (q0 : Nat.beq r 0 = false) : AWp Try.prog (.loop (codeOf Try.prog 7 [1, 1, 1, 1, 1, 1, 1, 1, 0, 1, 0, 0])) (Ends1 (.exit 0) (F7_x1_1 h22 r)) ((fun (s : Int) => (F7_h1 u15_0 y21 u22_0 h22 s)) x) := by
  have k := loop_fun (P := Try.prog) (c := (codeOf Try.prog 7 [1, 1, 1, 1, 1, 1, 1, 1, 0, 1, 0, 0])) (step := (fun (s : Int) => F7_s1 y14 y21 s)) (hd := (fun (s : Int) => (F7_h1 u15_0 y21 u22_0 h22 s))) (X := (F7_x1 h22)) (by intro t; unfold F7_x1; cases Nat.beq t 0 <;> (intro h; cases h)) (fun x => F7_r1 h y7 u8_0 y11 u12_0 y14 u15_0 y21 u22_0 h22 hp22 x) hl
  simp only [F7_x1, q0, cond_true, cond_false] at k
  exact k
def F7 (l1 : List (Int × Int × Int)) (l2 : List Bool) (x3 : Int) : Option (Bool) :=
  (bif decide ((l1.length : Int) > 200) then
   some (true)
  else
   (Option.bind (F15 l1) fun y7 =>
   (bif ((y7.length : Int) == 0) then none else
   (Option.bind (F19 y7 l2) fun y11 =>
   (Option.bind (F12 y7 y11) fun y14 =>
   (bif (!(subOk (0 : Int) (IntKind.i64.wrap (1 + ((IntKind.i64.wrap (x3)).tmod (y7.length : Int)))) y7.length)) then none else
   (Option.bind (F13 (subL y7 (0 : Int) (IntKind.i64.wrap (1 + ((IntKind.i64.wrap (x3)).tmod (y7.length : Int)))))) fun y18 =>
   (bif (!(subOk (0 : Int) y18 y11.length)) then none else
   (Option.bind (F12 (subL y7 (0 : Int) (IntKind.i64.wrap (1 + ((IntKind.i64.wrap (x3)).tmod (y7.length : Int))))) (subL y11 (0 : Int) y18)) fun y21 =>
   (bif (y14.2 != 0) then
    some (false)
   else
    (bif (y21.2 != 0) then
     some (false)
    else
     (bif ((y14.1.length : Int) != (y7.length : Int)) then
      some (false)
     else
      (bif (F7__1 x3 y7 y21) then
       some (false)
      else
       (Option.bind (loopO (fun (s : Int) => F7_s1 y14 y21 s) 0) fun y33 =>
       (bif (Nat.beq y33 0) then
        some (false)
       else
        some (true))))))))))))))))
set_option maxRecDepth 100000 in
theorem F7_spec (l1 : List (Int × Int × Int)) (l2 : List Bool) (x3 : Int) (v1 : Hd) (v2 : Hd) (h : AHeap) (hw : h.wf) (hv1 : SlE E59 3 h (sv v1) l1) (hv2 : SlE E4 1 h (sv v2) l2) (r : Bool) : F7 l1 l2 x3 = some r → ∃ (h' : AHeap), Heapy h h' [] ∧ ACalls Try.prog 7 [(sv v1), (sv v2), .int .u8 x3] h (fun v' h'' => v' = (.bool r : Value) ∧ h'' = h') := by
  unfold F7
  refine dec_bif (fun c5 => ?_) (fun c5 => ?_)
  · intro hr
    obtain rfl := Option.some.inj hr
    exact ⟨h, Heapy.pick (Heapy.refl hw) [] (by decide), pFun_sound good tab_ok (f := 7) (its := [.g, (.c (.bool true) h), .g, .g, (.w .g), (.w (.ln l1.length)), (.w .g), .g, (.b true), (.c (.bool true) h), .g]) (args := [(sv v1), (sv v2), .int .u8 x3]) (h := h) (h' := h) (v := .bool true) (hC := (And.intro (F9_spec h _ rfl) (And.intro c5 (And.intro (g_ff l_f) (And.intro (SlE.len hv1) (And.intro (g_ff l_f) (And.intro (g_ff l_f) (And.intro (F9_spec h _ rfl) trivial)))))))) (hr := by kernel_rfl)⟩
  · refine bind_opt fun y7 e7 => ?_
    obtain ⟨u8_0, h8, q8, c8⟩ := F15_spec l1 v1 h hw hv1 _ e7
    have hp8 : Heapy h h8 [⟨u8_0, 38, 3, List.flatMap enc38 y7⟩] := Heapy.call (Heapy.refl hw) q8
    refine guard_ok fun g10 => ?_
    refine bind_opt fun y11 e11 => ?_
    obtain ⟨u12_0, h12, q12, c12⟩ := F19_spec y7 l2 u8_0 v2 h8 (Heapy.wf hp8) (Heapy.sle (v := u8_0) (xs := y7) (enc := enc38) hp8 0 rfl (fun _ => rfl) (by decide)) (SlE.mono hv2 (Heapy.sub hp8) (E4_mono (Heapy.sub hp8))) _ e11
    have hp12 : Heapy h h12 [⟨u12_0, 4, 1, List.flatMap enc4 y11⟩, ⟨u8_0, 38, 3, List.flatMap enc38 y7⟩] := Heapy.call hp8 q12
    refine bind_opt fun y14 e14 => ?_
    obtain ⟨u15_0, h15, q15, c15⟩ := F12_spec y7 y11 u8_0 u12_0 h12 (Heapy.wf hp12) (Heapy.sle (v := u8_0) (xs := y7) (enc := enc38) hp12 1 rfl (fun _ => rfl) (by decide)) (Heapy.sle (v := u12_0) (xs := y11) (enc := enc4) hp12 0 rfl (fun _ => rfl) (by decide)) _ e14
    have hp15 : Heapy h h15 [⟨u15_0, 4, 1, List.flatMap enc4 y14.1⟩, ⟨u12_0, 4, 1, List.flatMap enc4 y11⟩, ⟨u8_0, 38, 3, List.flatMap enc38 y7⟩] := Heapy.call hp12 q15
    refine guard_ok fun g17 => ?_
    refine bind_opt fun y18 e18 => ?_
    refine guard_ok fun g20 => ?_
    refine bind_opt fun y21 e21 => ?_
    obtain ⟨u22_0, h22, q22, c22⟩ := F12_spec (subL y7 (0 : Int) (IntKind.i64.wrap (1 + ((IntKind.i64.wrap (x3)).tmod (y7.length : Int))))) (subL y11 (0 : Int) y18) (Hd.sub u8_0 ((0 : Int)).toNat ((IntKind.i64.wrap (1 + ((IntKind.i64.wrap (x3)).tmod (y7.length : Int))))).toNat 3) (Hd.sub u12_0 ((0 : Int)).toNat (y18).toNat 1) h15 (Heapy.wf hp15) (SlE.sub (Heapy.sle (v := u8_0) (xs := y7) (enc := enc38) hp15 2 rfl (fun _ => rfl) (by decide)) (nn g17)) (SlE.sub (Heapy.sle (v := u12_0) (xs := y11) (enc := enc4) hp15 1 rfl (fun _ => rfl) (by decide)) (nn g20)) _ e21
    have hp22 : Heapy h h22 [⟨u22_0, 4, 1, List.flatMap enc4 y21.1⟩, ⟨u15_0, 4, 1, List.flatMap enc4 y14.1⟩, ⟨u12_0, 4, 1, List.flatMap enc4 y11⟩, ⟨u8_0, 38, 3, List.flatMap enc38 y7⟩] := Heapy.call hp15 q22
    refine dec_bif (fun c24 => ?_) (fun c24 => ?_)
    · intro hr
      obtain rfl := Option.some.inj hr
      exact ⟨h22, Heapy.pick hp22 [] (by decide), pFun_sound good tab_ok (f := 7) (its := [.g, (.c (.bool true) h), .g, .g, (.w .g), (.w (.ln l1.length)), (.w .g), .g, (.b false), .g, (.c ((sv u8_0)) h8), .g, .g, .g, .g, (.ln y7.length), .d, .g, .g, .g, .g, (.c ((sv u12_0)) h12), .g, .g, .g, (.c (.tuple #[(sv u15_0), .int .i64 y14.2]) h15), .g, .g, .g, .g, .g, .g, .g, (.sl (sv (Hd.sub u8_0 ((0 : Int)).toNat ((IntKind.i64.wrap (1 + ((IntKind.i64.wrap (x3)).tmod (y7.length : Int))))).toNat 3))), .g, .g, .g, (.sl (sv (Hd.sub u8_0 ((0 : Int)).toNat ((IntKind.i64.wrap (1 + ((IntKind.i64.wrap (x3)).tmod (y7.length : Int))))).toNat 3))), (.c (.int .i64 y18) h15), (.sl (sv (Hd.sub u12_0 ((0 : Int)).toNat (y18).toNat 1))), (.c (.tuple #[(sv u22_0), .int .i64 y21.2]) h22), .g, .g, .g, .g, .g, .g, .g, .g, .n, .n, (.p true), .g, .n, .n, .n, .n, .n, .g, .g, .n, .n, .n, .n, .g, (.b true), .g]) (args := [(sv v1), (sv v2), .int .u8 x3]) (h := h) (h' := h22) (v := .bool false) (hC := (And.intro l_t (And.intro (g_tf l_t) (And.intro (g_tf l_t) (And.intro (g_tf l_t) (And.intro (g_tf l_t) (And.intro (g_tf l_t) (And.intro (g_tf l_t) (And.intro (g_tf l_t) (And.intro (g_tf l_t) (And.intro (g_tf l_t) (And.intro c24 (And.intro (g_tf c24) (And.intro (g_tf c24) (And.intro c22 (And.intro (slv_sub (P := Try.prog) (t := 27) (e := 4) (Heapy.sle (v := u12_0) (xs := y11) (enc := enc4) hp15 1 rfl (fun _ => rfl) (by decide)) (by kernel_rfl) (by kernel_rfl) (none) (some y18) rfl rfl (nn g20)) (And.intro (F13_spec (subL y7 (0 : Int) (IntKind.i64.wrap (1 + ((IntKind.i64.wrap (x3)).tmod (y7.length : Int))))) (Hd.sub u8_0 ((0 : Int)).toNat ((IntKind.i64.wrap (1 + ((IntKind.i64.wrap (x3)).tmod (y7.length : Int))))).toNat 3) h15 (SlE.sub (Heapy.sle (v := u8_0) (xs := y7) (enc := enc38) hp15 2 rfl (fun _ => rfl) (by decide)) (nn g17)) _ e18) (And.intro (slv_sub (P := Try.prog) (t := 22) (e := 38) (Heapy.sle (v := u8_0) (xs := y7) (enc := enc38) hp15 2 rfl (fun _ => rfl) (by decide)) (by kernel_rfl) (by kernel_rfl) (none) (some (IntKind.i64.wrap (1 + ((IntKind.i64.wrap (x3)).tmod (y7.length : Int))))) rfl rfl (nn g17)) (And.intro (slv_sub (P := Try.prog) (t := 22) (e := 38) (Heapy.sle (v := u8_0) (xs := y7) (enc := enc38) hp15 2 rfl (fun _ => rfl) (by decide)) (by kernel_rfl) (by kernel_rfl) (none) (some (IntKind.i64.wrap (1 + ((IntKind.i64.wrap (x3)).tmod (y7.length : Int))))) rfl rfl (nn g17)) (And.intro c15 (And.intro c12 (And.intro (nz g10) (And.intro (SlE.len (Heapy.sle (v := u8_0) (xs := y7) (enc := enc38) hp8 0 rfl (fun _ => rfl) (by decide))) (And.intro c8 (And.intro c5 (And.intro (g_ff l_f) (And.intro (SlE.len hv1) (And.intro (g_ff l_f) (And.intro (g_ff l_f) (And.intro (F9_spec h _ rfl) trivial)))))))))))))))))))))))))))))) (hr := by kernel_rfl)⟩
    · refine dec_bif (fun c25 => ?_) (fun c25 => ?_)
      · intro hr
        obtain rfl := Option.some.inj hr
        exact ⟨h22, Heapy.pick hp22 [] (by decide), pFun_sound good tab_ok (f := 7) (its := [.g, (.c (.bool true) h), .g, .g, (.w .g), (.w (.ln l1.length)), (.w .g), .g, (.b false), .g, (.c ((sv u8_0)) h8), .g, .g, .g, .g, (.ln y7.length), .d, .g, .g, .g, .g, (.c ((sv u12_0)) h12), .g, .g, .g, (.c (.tuple #[(sv u15_0), .int .i64 y14.2]) h15), .g, .g, .g, .g, .g, .g, .g, (.sl (sv (Hd.sub u8_0 ((0 : Int)).toNat ((IntKind.i64.wrap (1 + ((IntKind.i64.wrap (x3)).tmod (y7.length : Int))))).toNat 3))), .g, .g, .g, (.sl (sv (Hd.sub u8_0 ((0 : Int)).toNat ((IntKind.i64.wrap (1 + ((IntKind.i64.wrap (x3)).tmod (y7.length : Int))))).toNat 3))), (.c (.int .i64 y18) h15), (.sl (sv (Hd.sub u12_0 ((0 : Int)).toNat (y18).toNat 1))), (.c (.tuple #[(sv u22_0), .int .i64 y21.2]) h22), .g, .g, .g, .g, .g, .g, .g, .g, (.w .g), (.w .g), (.p false), .g, .n, .n, .n, .n, .n, (.p true), .g, .n, .n, .n, .n, .g, (.b true), .g]) (args := [(sv v1), (sv v2), .int .u8 x3]) (h := h) (h' := h22) (v := .bool false) (hC := (And.intro l_t (And.intro (g_tf l_t) (And.intro (g_tf l_t) (And.intro (g_tf l_t) (And.intro (g_tf l_t) (And.intro c25 (And.intro (g_tf c25) (And.intro (g_tf c25) (And.intro (g_tf c25) (And.intro (g_tf c25) (And.intro (g_tf c25) (And.intro c24 (And.intro (g_ff c24) (And.intro (g_ff c24) (And.intro c22 (And.intro (slv_sub (P := Try.prog) (t := 27) (e := 4) (Heapy.sle (v := u12_0) (xs := y11) (enc := enc4) hp15 1 rfl (fun _ => rfl) (by decide)) (by kernel_rfl) (by kernel_rfl) (none) (some y18) rfl rfl (nn g20)) (And.intro (F13_spec (subL y7 (0 : Int) (IntKind.i64.wrap (1 + ((IntKind.i64.wrap (x3)).tmod (y7.length : Int))))) (Hd.sub u8_0 ((0 : Int)).toNat ((IntKind.i64.wrap (1 + ((IntKind.i64.wrap (x3)).tmod (y7.length : Int))))).toNat 3) h15 (SlE.sub (Heapy.sle (v := u8_0) (xs := y7) (enc := enc38) hp15 2 rfl (fun _ => rfl) (by decide)) (nn g17)) _ e18) (And.intro (slv_sub (P := Try.prog) (t := 22) (e := 38) (Heapy.sle (v := u8_0) (xs := y7) (enc := enc38) hp15 2 rfl (fun _ => rfl) (by decide)) (by kernel_rfl) (by kernel_rfl) (none) (some (IntKind.i64.wrap (1 + ((IntKind.i64.wrap (x3)).tmod (y7.length : Int))))) rfl rfl (nn g17)) (And.intro (slv_sub (P := Try.prog) (t := 22) (e := 38) (Heapy.sle (v := u8_0) (xs := y7) (enc := enc38) hp15 2 rfl (fun _ => rfl) (by decide)) (by kernel_rfl) (by kernel_rfl) (none) (some (IntKind.i64.wrap (1 + ((IntKind.i64.wrap (x3)).tmod (y7.length : Int))))) rfl rfl (nn g17)) (And.intro c15 (And.intro c12 (And.intro (nz g10) (And.intro (SlE.len (Heapy.sle (v := u8_0) (xs := y7) (enc := enc38) hp8 0 rfl (fun _ => rfl) (by decide))) (And.intro c8 (And.intro c5 (And.intro (g_ff l_f) (And.intro (SlE.len hv1) (And.intro (g_ff l_f) (And.intro (g_ff l_f) (And.intro (F9_spec h _ rfl) trivial))))))))))))))))))))))))))))))) (hr := by kernel_rfl)⟩
      · refine dec_bif (fun c26 => ?_) (fun c26 => ?_)
        · intro hr
          obtain rfl := Option.some.inj hr
          exact ⟨h22, Heapy.pick hp22 [] (by decide), pFun_sound good tab_ok (f := 7) (its := [.g, (.c (.bool true) h), .g, .g, (.w .g), (.w (.ln l1.length)), (.w .g), .g, (.b false), .g, (.c ((sv u8_0)) h8), .g, .g, .g, .g, (.ln y7.length), .d, .g, .g, .g, .g, (.c ((sv u12_0)) h12), .g, .g, .g, (.c (.tuple #[(sv u15_0), .int .i64 y14.2]) h15), .g, .g, .g, .g, .g, .g, .g, (.sl (sv (Hd.sub u8_0 ((0 : Int)).toNat ((IntKind.i64.wrap (1 + ((IntKind.i64.wrap (x3)).tmod (y7.length : Int))))).toNat 3))), .g, .g, .g, (.sl (sv (Hd.sub u8_0 ((0 : Int)).toNat ((IntKind.i64.wrap (1 + ((IntKind.i64.wrap (x3)).tmod (y7.length : Int))))).toNat 3))), (.c (.int .i64 y18) h15), (.sl (sv (Hd.sub u12_0 ((0 : Int)).toNat (y18).toNat 1))), (.c (.tuple #[(sv u22_0), .int .i64 y21.2]) h22), .g, .g, .g, .g, .g, .g, .g, .g, (.w .g), (.w .g), (.p false), .g, (.w .g), (.w (.ln y14.1.length)), (.w .g), (.w (.ln y7.length)), (.w .g), (.p false), .g, .n, .n, .n, .n, (.p true), (.b true), .g]) (args := [(sv v1), (sv v2), .int .u8 x3]) (h := h) (h' := h22) (v := .bool false) (hC := (And.intro l_t (And.intro c26 (And.intro (g_tf c26) (And.intro (g_tf c26) (And.intro (g_tf c26) (And.intro (g_tf c26) (And.intro c25 (And.intro (g_ff c25) (And.intro (SlE.len (Heapy.sle (v := u8_0) (xs := y7) (enc := enc38) hp22 3 rfl (fun _ => rfl) (by decide))) (And.intro (g_ff c25) (And.intro (g_ff c25) (And.intro (SlE.len (Heapy.sle (v := u15_0) (xs := y14.1) (enc := enc4) hp22 1 rfl (fun _ => rfl) (by decide))) (And.intro (g_ff c25) (And.intro (g_ff c25) (And.intro c24 (And.intro (g_ff c24) (And.intro (g_ff c24) (And.intro c22 (And.intro (slv_sub (P := Try.prog) (t := 27) (e := 4) (Heapy.sle (v := u12_0) (xs := y11) (enc := enc4) hp15 1 rfl (fun _ => rfl) (by decide)) (by kernel_rfl) (by kernel_rfl) (none) (some y18) rfl rfl (nn g20)) (And.intro (F13_spec (subL y7 (0 : Int) (IntKind.i64.wrap (1 + ((IntKind.i64.wrap (x3)).tmod (y7.length : Int))))) (Hd.sub u8_0 ((0 : Int)).toNat ((IntKind.i64.wrap (1 + ((IntKind.i64.wrap (x3)).tmod (y7.length : Int))))).toNat 3) h15 (SlE.sub (Heapy.sle (v := u8_0) (xs := y7) (enc := enc38) hp15 2 rfl (fun _ => rfl) (by decide)) (nn g17)) _ e18) (And.intro (slv_sub (P := Try.prog) (t := 22) (e := 38) (Heapy.sle (v := u8_0) (xs := y7) (enc := enc38) hp15 2 rfl (fun _ => rfl) (by decide)) (by kernel_rfl) (by kernel_rfl) (none) (some (IntKind.i64.wrap (1 + ((IntKind.i64.wrap (x3)).tmod (y7.length : Int))))) rfl rfl (nn g17)) (And.intro (slv_sub (P := Try.prog) (t := 22) (e := 38) (Heapy.sle (v := u8_0) (xs := y7) (enc := enc38) hp15 2 rfl (fun _ => rfl) (by decide)) (by kernel_rfl) (by kernel_rfl) (none) (some (IntKind.i64.wrap (1 + ((IntKind.i64.wrap (x3)).tmod (y7.length : Int))))) rfl rfl (nn g17)) (And.intro c15 (And.intro c12 (And.intro (nz g10) (And.intro (SlE.len (Heapy.sle (v := u8_0) (xs := y7) (enc := enc38) hp8 0 rfl (fun _ => rfl) (by decide))) (And.intro c8 (And.intro c5 (And.intro (g_ff l_f) (And.intro (SlE.len hv1) (And.intro (g_ff l_f) (And.intro (g_ff l_f) (And.intro (F9_spec h _ rfl) trivial)))))))))))))))))))))))))))))))))) (hr := by kernel_rfl)⟩
        · refine dec_bif (fun c27 => ?_) (fun c27 => ?_)
          · intro hr
            obtain rfl := Option.some.inj hr
            exact ⟨h22, Heapy.pick hp22 [] (by decide), pFun_sound good tab_ok (f := 7) (its := [.g, (.c (.bool true) h), .g, .g, (.w .g), (.w (.ln l1.length)), (.w .g), .g, (.b false), .g, (.c ((sv u8_0)) h8), .g, .g, .g, .g, (.ln y7.length), .d, .g, .g, .g, .g, (.c ((sv u12_0)) h12), .g, .g, .g, (.c (.tuple #[(sv u15_0), .int .i64 y14.2]) h15), .g, .g, .g, .g, .g, .g, .g, (.sl (sv (Hd.sub u8_0 ((0 : Int)).toNat ((IntKind.i64.wrap (1 + ((IntKind.i64.wrap (x3)).tmod (y7.length : Int))))).toNat 3))), .g, .g, .g, (.sl (sv (Hd.sub u8_0 ((0 : Int)).toNat ((IntKind.i64.wrap (1 + ((IntKind.i64.wrap (x3)).tmod (y7.length : Int))))).toNat 3))), (.c (.int .i64 y18) h15), (.sl (sv (Hd.sub u12_0 ((0 : Int)).toNat (y18).toNat 1))), (.c (.tuple #[(sv u22_0), .int .i64 y21.2]) h22), .g, .g, .g, .g, .g, .g, .g, .g, (.w .g), (.w .g), (.p false), .g, (.w .g), (.w (.ln y14.1.length)), (.w .g), (.w (.ln y7.length)), (.w .g), (.p false), .g, (.w .g), (.w (.ln y21.1.length)), (.w .g), (.w .g), (.p false), (.b true), .g]) (args := [(sv v1), (sv v2), .int .u8 x3]) (h := h) (h' := h22) (v := .bool false) (hC := (And.intro c27 (And.intro c26 (And.intro (g_ff c26) (And.intro (g_ff c26) (And.intro (SlE.len (Heapy.sle (v := u22_0) (xs := y21.1) (enc := enc4) hp22 0 rfl (fun _ => rfl) (by decide))) (And.intro (g_ff c26) (And.intro (g_ff c26) (And.intro c25 (And.intro (g_ff c25) (And.intro (SlE.len (Heapy.sle (v := u8_0) (xs := y7) (enc := enc38) hp22 3 rfl (fun _ => rfl) (by decide))) (And.intro (g_ff c25) (And.intro (g_ff c25) (And.intro (SlE.len (Heapy.sle (v := u15_0) (xs := y14.1) (enc := enc4) hp22 1 rfl (fun _ => rfl) (by decide))) (And.intro (g_ff c25) (And.intro (g_ff c25) (And.intro c24 (And.intro (g_ff c24) (And.intro (g_ff c24) (And.intro c22 (And.intro (slv_sub (P := Try.prog) (t := 27) (e := 4) (Heapy.sle (v := u12_0) (xs := y11) (enc := enc4) hp15 1 rfl (fun _ => rfl) (by decide)) (by kernel_rfl) (by kernel_rfl) (none) (some y18) rfl rfl (nn g20)) (And.intro (F13_spec (subL y7 (0 : Int) (IntKind.i64.wrap (1 + ((IntKind.i64.wrap (x3)).tmod (y7.length : Int))))) (Hd.sub u8_0 ((0 : Int)).toNat ((IntKind.i64.wrap (1 + ((IntKind.i64.wrap (x3)).tmod (y7.length : Int))))).toNat 3) h15 (SlE.sub (Heapy.sle (v := u8_0) (xs := y7) (enc := enc38) hp15 2 rfl (fun _ => rfl) (by decide)) (nn g17)) _ e18) (And.intro (slv_sub (P := Try.prog) (t := 22) (e := 38) (Heapy.sle (v := u8_0) (xs := y7) (enc := enc38) hp15 2 rfl (fun _ => rfl) (by decide)) (by kernel_rfl) (by kernel_rfl) (none) (some (IntKind.i64.wrap (1 + ((IntKind.i64.wrap (x3)).tmod (y7.length : Int))))) rfl rfl (nn g17)) (And.intro (slv_sub (P := Try.prog) (t := 22) (e := 38) (Heapy.sle (v := u8_0) (xs := y7) (enc := enc38) hp15 2 rfl (fun _ => rfl) (by decide)) (by kernel_rfl) (by kernel_rfl) (none) (some (IntKind.i64.wrap (1 + ((IntKind.i64.wrap (x3)).tmod (y7.length : Int))))) rfl rfl (nn g17)) (And.intro c15 (And.intro c12 (And.intro (nz g10) (And.intro (SlE.len (Heapy.sle (v := u8_0) (xs := y7) (enc := enc38) hp8 0 rfl (fun _ => rfl) (by decide))) (And.intro c8 (And.intro c5 (And.intro (g_ff l_f) (And.intro (SlE.len hv1) (And.intro (g_ff l_f) (And.intro (g_ff l_f) (And.intro (F9_spec h _ rfl) trivial))))))))))))))))))))))))))))))))))) (hr := by kernel_rfl)⟩
          · refine bind_opt fun y33 e33 => ?_
            refine dec_bif (fun c34 => ?_) (fun c34 => ?_)
            · intro hr
              obtain rfl := Option.some.inj hr
              exact ⟨h22, Heapy.pick hp22 [] (by decide), pFun_sound good tab_ok (f := 7) (its := [.g, (.c (.bool true) h), .g, .g, (.w .g), (.w (.ln l1.length)), (.w .g), .g, (.b false), .g, (.c ((sv u8_0)) h8), .g, .g, .g, .g, (.ln y7.length), .d, .g, .g, .g, .g, (.c ((sv u12_0)) h12), .g, .g, .g, (.c (.tuple #[(sv u15_0), .int .i64 y14.2]) h15), .g, .g, .g, .g, .g, .g, .g, (.sl (sv (Hd.sub u8_0 ((0 : Int)).toNat ((IntKind.i64.wrap (1 + ((IntKind.i64.wrap (x3)).tmod (y7.length : Int))))).toNat 3))), .g, .g, .g, (.sl (sv (Hd.sub u8_0 ((0 : Int)).toNat ((IntKind.i64.wrap (1 + ((IntKind.i64.wrap (x3)).tmod (y7.length : Int))))).toNat 3))), (.c (.int .i64 y18) h15), (.sl (sv (Hd.sub u12_0 ((0 : Int)).toNat (y18).toNat 1))), (.c (.tuple #[(sv u22_0), .int .i64 y21.2]) h22), .g, .g, .g, .g, .g, .g, .g, .g, (.w .g), (.w .g), (.p false), .g, (.w .g), (.w (.ln y14.1.length)), (.w .g), (.w (.ln y7.length)), (.w .g), (.p false), .g, (.w .g), (.w (.ln y21.1.length)), (.w .g), (.w .g), (.p false), (.b false), .g, (.ln y21.1.length), .g, (.l F7_m1_1 [] .ret (F7_x1_0 h22 y33))]) (args := [(sv v1), (sv v2), .int .u8 x3]) (h := h) (h' := h22) (v := .bool false) (hC := (And.intro (F7_l1_0 h y7 u8_0 y11 u12_0 y14 u15_0 y21 u22_0 h22 hp22 0 y33 e33 c34) (And.intro (SlE.len (Heapy.sle (v := u22_0) (xs := y21.1) (enc := enc4) hp22 0 rfl (fun _ => rfl) (by decide))) (And.intro c27 (And.intro c26 (And.intro (g_ff c26) (And.intro (g_ff c26) (And.intro (SlE.len (Heapy.sle (v := u22_0) (xs := y21.1) (enc := enc4) hp22 0 rfl (fun _ => rfl) (by decide))) (And.intro (g_ff c26) (And.intro (g_ff c26) (And.intro c25 (And.intro (g_ff c25) (And.intro (SlE.len (Heapy.sle (v := u8_0) (xs := y7) (enc := enc38) hp22 3 rfl (fun _ => rfl) (by decide))) (And.intro (g_ff c25) (And.intro (g_ff c25) (And.intro (SlE.len (Heapy.sle (v := u15_0) (xs := y14.1) (enc := enc4) hp22 1 rfl (fun _ => rfl) (by decide))) (And.intro (g_ff c25) (And.intro (g_ff c25) (And.intro c24 (And.intro (g_ff c24) (And.intro (g_ff c24) (And.intro c22 (And.intro (slv_sub (P := Try.prog) (t := 27) (e := 4) (Heapy.sle (v := u12_0) (xs := y11) (enc := enc4) hp15 1 rfl (fun _ => rfl) (by decide)) (by kernel_rfl) (by kernel_rfl) (none) (some y18) rfl rfl (nn g20)) (And.intro (F13_spec (subL y7 (0 : Int) (IntKind.i64.wrap (1 + ((IntKind.i64.wrap (x3)).tmod (y7.length : Int))))) (Hd.sub u8_0 ((0 : Int)).toNat ((IntKind.i64.wrap (1 + ((IntKind.i64.wrap (x3)).tmod (y7.length : Int))))).toNat 3) h15 (SlE.sub (Heapy.sle (v := u8_0) (xs := y7) (enc := enc38) hp15 2 rfl (fun _ => rfl) (by decide)) (nn g17)) _ e18) (And.intro (slv_sub (P := Try.prog) (t := 22) (e := 38) (Heapy.sle (v := u8_0) (xs := y7) (enc := enc38) hp15 2 rfl (fun _ => rfl) (by decide)) (by kernel_rfl) (by kernel_rfl) (none) (some (IntKind.i64.wrap (1 + ((IntKind.i64.wrap (x3)).tmod (y7.length : Int))))) rfl rfl (nn g17)) (And.intro (slv_sub (P := Try.prog) (t := 22) (e := 38) (Heapy.sle (v := u8_0) (xs := y7) (enc := enc38) hp15 2 rfl (fun _ => rfl) (by decide)) (by kernel_rfl) (by kernel_rfl) (none) (some (IntKind.i64.wrap (1 + ((IntKind.i64.wrap (x3)).tmod (y7.length : Int))))) rfl rfl (nn g17)) (And.intro c15 (And.intro c12 (And.intro (nz g10) (And.intro (SlE.len (Heapy.sle (v := u8_0) (xs := y7) (enc := enc38) hp8 0 rfl (fun _ => rfl) (by decide))) (And.intro c8 (And.intro c5 (And.intro (g_ff l_f) (And.intro (SlE.len hv1) (And.intro (g_ff l_f) (And.intro (g_ff l_f) (And.intro (F9_spec h _ rfl) trivial))))))))))))))))))))))))))))))))))))) (hr := by kernel_rfl)⟩
            · intro hr
              obtain rfl := Option.some.inj hr
              exact ⟨h22, Heapy.pick hp22 [] (by decide), pFun_sound good tab_ok (f := 7) (its := [.g, (.c (.bool true) h), .g, .g, (.w .g), (.w (.ln l1.length)), (.w .g), .g, (.b false), .g, (.c ((sv u8_0)) h8), .g, .g, .g, .g, (.ln y7.length), .d, .g, .g, .g, .g, (.c ((sv u12_0)) h12), .g, .g, .g, (.c (.tuple #[(sv u15_0), .int .i64 y14.2]) h15), .g, .g, .g, .g, .g, .g, .g, (.sl (sv (Hd.sub u8_0 ((0 : Int)).toNat ((IntKind.i64.wrap (1 + ((IntKind.i64.wrap (x3)).tmod (y7.length : Int))))).toNat 3))), .g, .g, .g, (.sl (sv (Hd.sub u8_0 ((0 : Int)).toNat ((IntKind.i64.wrap (1 + ((IntKind.i64.wrap (x3)).tmod (y7.length : Int))))).toNat 3))), (.c (.int .i64 y18) h15), (.sl (sv (Hd.sub u12_0 ((0 : Int)).toNat (y18).toNat 1))), (.c (.tuple #[(sv u22_0), .int .i64 y21.2]) h22), .g, .g, .g, .g, .g, .g, .g, .g, (.w .g), (.w .g), (.p false), .g, (.w .g), (.w (.ln y14.1.length)), (.w .g), (.w (.ln y7.length)), (.w .g), (.p false), .g, (.w .g), (.w (.ln y21.1.length)), (.w .g), (.w .g), (.p false), (.b false), .g, (.ln y21.1.length), .g, (.l F7_m1_1 [] (.exit 0) (F7_x1_1 h22 y33)), .g]) (args := [(sv v1), (sv v2), .int .u8 x3]) (h := h) (h' := h22) (v := .bool true) (hC := (And.intro (F7_l1_1 h y7 u8_0 y11 u12_0 y14 u15_0 y21 u22_0 h22 hp22 0 y33 e33 c34) (And.intro (SlE.len (Heapy.sle (v := u22_0) (xs := y21.1) (enc := enc4) hp22 0 rfl (fun _ => rfl) (by decide))) (And.intro c27 (And.intro c26 (And.intro (g_ff c26) (And.intro (g_ff c26) (And.intro (SlE.len (Heapy.sle (v := u22_0) (xs := y21.1) (enc := enc4) hp22 0 rfl (fun _ => rfl) (by decide))) (And.intro (g_ff c26) (And.intro (g_ff c26) (And.intro c25 (And.intro (g_ff c25) (And.intro (SlE.len (Heapy.sle (v := u8_0) (xs := y7) (enc := enc38) hp22 3 rfl (fun _ => rfl) (by decide))) (And.intro (g_ff c25) (And.intro (g_ff c25) (And.intro (SlE.len (Heapy.sle (v := u15_0) (xs := y14.1) (enc := enc4) hp22 1 rfl (fun _ => rfl) (by decide))) (And.intro (g_ff c25) (And.intro (g_ff c25) (And.intro c24 (And.intro (g_ff c24) (And.intro (g_ff c24) (And.intro c22 (And.intro (slv_sub (P := Try.prog) (t := 27) (e := 4) (Heapy.sle (v := u12_0) (xs := y11) (enc := enc4) hp15 1 rfl (fun _ => rfl) (by decide)) (by kernel_rfl) (by kernel_rfl) (none) (some y18) rfl rfl (nn g20)) (And.intro (F13_spec (subL y7 (0 : Int) (IntKind.i64.wrap (1 + ((IntKind.i64.wrap (x3)).tmod (y7.length : Int))))) (Hd.sub u8_0 ((0 : Int)).toNat ((IntKind.i64.wrap (1 + ((IntKind.i64.wrap (x3)).tmod (y7.length : Int))))).toNat 3) h15 (SlE.sub (Heapy.sle (v := u8_0) (xs := y7) (enc := enc38) hp15 2 rfl (fun _ => rfl) (by decide)) (nn g17)) _ e18) (And.intro (slv_sub (P := Try.prog) (t := 22) (e := 38) (Heapy.sle (v := u8_0) (xs := y7) (enc := enc38) hp15 2 rfl (fun _ => rfl) (by decide)) (by kernel_rfl) (by kernel_rfl) (none) (some (IntKind.i64.wrap (1 + ((IntKind.i64.wrap (x3)).tmod (y7.length : Int))))) rfl rfl (nn g17)) (And.intro (slv_sub (P := Try.prog) (t := 22) (e := 38) (Heapy.sle (v := u8_0) (xs := y7) (enc := enc38) hp15 2 rfl (fun _ => rfl) (by decide)) (by kernel_rfl) (by kernel_rfl) (none) (some (IntKind.i64.wrap (1 + ((IntKind.i64.wrap (x3)).tmod (y7.length : Int))))) rfl rfl (nn g17)) (And.intro c15 (And.intro c12 (And.intro (nz g10) (And.intro (SlE.len (Heapy.sle (v := u8_0) (xs := y7) (enc := enc38) hp8 0 rfl (fun _ => rfl) (by decide))) (And.intro c8 (And.intro c5 (And.intro (g_ff l_f) (And.intro (SlE.len hv1) (And.intro (g_ff l_f) (And.intro (g_ff l_f) (And.intro (F9_spec h _ rfl) trivial))))))))))))))))))))))))))))))))))))) (hr := by kernel_rfl)⟩
set_option maxRecDepth 100000 in
theorem F7_law (H : ∀ (l1 : List (Int × Int × Int)) (l2 : List Bool) (x3 : Int), (l1.length ≤ maxLen ∧ l1.length * 3 ≤ reachBytes) → (∀ y ∈ l1, W59 y) → (l2.length ≤ maxLen ∧ l2.length * 1 ≤ reachBytes) → (∀ y ∈ l2, W4 y) → (Lit.int .u8 x3).wf = true → F7 l1 l2 x3 = some true) : Law Try.prog 7 10 [33, 27, 5] := by
  intro s us hwf hro hT0
  obtain ⟨u0, vs0, rfl, t0, hT1⟩ := wts_cons hT0
  have k0 := wtv_oneS 3 (ks := [.slice 59]) (by kernel_rfl) (by kernel_rfl) t0
  obtain ⟨v1, r_l1, e_l1, q_l1, k0_0⟩ := sq_slice k0
  obtain ⟨l1, a_l1, m_l1, w_l1⟩ := q_l1 E59 W59 3 (by kernel_rfl) fun n cs H => E59_wt H
  obtain ⟨rfl, rfl⟩ := List.cons.inj e_l1
  have k0_0' := sq_nil k0_0
  obtain ⟨u1, vs1, rfl, t1, hT2⟩ := wts_cons hT1
  have k1 := wtv_oneS 2 (ks := [.slice 4]) (by kernel_rfl) (by kernel_rfl) t1
  obtain ⟨v2, r_l2, e_l2, q_l2, k1_0⟩ := sq_slice k1
  obtain ⟨l2, a_l2, m_l2, w_l2⟩ := q_l2 E4 W4 1 (by kernel_rfl) fun n cs H => E4_wt H
  obtain ⟨rfl, rfl⟩ := List.cons.inj e_l2
  have k1_0' := sq_nil k1_0
  obtain ⟨u2, vs2, rfl, t2, hT3⟩ := wts_cons hT2
  have k2 := wtv_oneS 1 (ks := [.int .u8]) (by kernel_rfl) (by kernel_rfl) t2
  obtain ⟨x3, r_x3, e_x3, w_x3, k2_0⟩ := sq_int k2
  obtain ⟨rfl, rfl⟩ := List.cons.inj e_x3
  have k2_0' := sq_nil k2_0
  obtain rfl := wts_nil hT3
  obtain ⟨h2, _, hc⟩ := F7_spec l1 l2 x3 v1 v2 s hwf a_l1 a_l2 _ (H l1 l2 x3 m_l1 w_l1 m_l2 w_l2 w_x3)
  refine (hc).mono ?_
  rintro v h' ⟨rfl, rfl⟩
  rfl
end
end Go.Proofs.Ytdoafmfkbddmlaa.Abs
