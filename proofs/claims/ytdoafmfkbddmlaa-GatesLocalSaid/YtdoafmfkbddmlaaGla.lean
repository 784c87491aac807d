/-
  Contracts, written by program: for each function what its call yields, and that it yields it.
-/
import Derived.Test.YtdoafmfkbddmlaaVw
import Derived.Test.YtdoafmfkbddmlaaChecked
namespace Go.Proofs.Ytdoafmfkbddmlaa.Abs
open Go
set_option linter.unusedVariables false
set_option linter.unusedSimpArgs false

theorem good : Good Try.prog := good_of Try.checked.mixed (by kernel_rfl)
noncomputable section
def tabC : List FEnt := [
  { f := 9, L := [], D := [] },
  { f := 11, L := [4], D := [(5, [(0, 1), (1, 1), (2, 1), (3, 1), (4, 1), (5, 1), (6, 1), (7, 1), (8, 1), (9, 1), (10, 1), (11, 1), (12, 1), (13, 1), (14, 1), (15, 1), (16, 1), (17, 1), (18, 1), (19, 1)])] },
  { f := 12, L := [10], D := [(22, [(0, 1), (1, 1), (2, 1), (3, 1), (4, 1), (5, 1), (6, 1), (7, 1), (8, 1), (9, 1), (10, 1), (11, 1), (12, 1), (13, 1), (14, 0)])] },
  { f := 23, L := [], D := [] },
  { f := 24, L := [], D := [] },
  { f := 27, L := [5], D := [] }]

theorem tabC_ok : tabOk Try.prog tabC = true := by kernel_rfl
theorem F9_run : rIs (rCall 2000 Try.prog tabC 40 9 [] AHeap.none) true = true := by kernel_rfl
theorem F9_spec0 (h : AHeap) : ACalls Try.prog 9 [] h (fun v' h'' => v' = (.bool true : Value) ∧ h'' = h) := acalls_run good 2000 40 tabC tabC_ok F9_run rfl h
def F9 : Unit := ()
theorem F9_spec (h : AHeap) (r : Unit) (_ : F9 = r) : ACalls Try.prog 9 [] h (fun v' h'' => v' = (.bool true : Value) ∧ h'' = h) := F9_spec0 h
def tab : List FEnt := [
  { f := 7, L := [], D := [(7, [(0, 1), (1, 1), (2, 1), (3, 1), (4, 1), (5, 1), (6, 1), (7, 0), (8, 1), (9, 0), (10, 1), (11, 1), (12, 1), (13, 1), (14, 1)]), (13, [(0, 1), (1, 1), (2, 1), (3, 1), (4, 1), (5, 1), (6, 1), (7, 1), (8, 1)])] },
  { f := 11, L := [4], D := [(5, [(0, 1), (1, 1), (2, 1), (3, 1), (4, 1), (5, 1), (6, 1), (7, 1), (8, 1), (9, 1), (10, 1), (11, 1), (12, 1), (13, 1), (14, 1), (15, 1), (16, 1), (17, 1), (18, 1), (19, 1)])] },
  { f := 12, L := [10], D := [(22, [(0, 1), (1, 1), (2, 1), (3, 1), (4, 1), (5, 1), (6, 1), (7, 1), (8, 1), (9, 1), (10, 1), (11, 1), (12, 1), (13, 1), (14, 0)])] },
  { f := 13, L := [], D := [] },
  { f := 15, L := [5], D := [] },
  { f := 19, L := [], D := [] },
  { f := 23, L := [], D := [] },
  { f := 24, L := [], D := [] },
  { f := 27, L := [5], D := [] }]

theorem tab_ok : tabOk Try.prog tab = true := by kernel_rfl
def enc59 (x : Int × Int × Int) : List Value := [.int .u8 x.1, .int .u8 x.2.1, .int .u8 x.2.2]
def E59 (h : AHeap) (cs : List Value) (x : Int × Int × Int) : Prop := cs = enc59 x
theorem E59_mono {h h' : AHeap} (le : h.sub h') (cs : List Value) (x : Int × Int × Int) (H : E59 h cs x) : E59 h' cs x := H
def W59 (x : Int × Int × Int) : Prop := (Lit.int .u8 x.1).wf = true ∧ (Lit.int .u8 x.2.1).wf = true ∧ (Lit.int .u8 x.2.2).wf = true ∧ True
set_option maxRecDepth 100000 in
theorem E59_wt {h : AHeap} {n : Nat} {cs : List Value} (H : WT Try.prog h n 59 cs) : ∃ x, E59 h cs x ∧ W59 x := by
  have k : SQ Try.prog h [.int .u8, .int .u8, .int .u8] cs := wt_flatS 2 n (by kernel_rfl) H
  obtain ⟨x0, r0, rfl, w0, k0⟩ := sq_int k
  obtain ⟨x1, r1, rfl, w1, k1⟩ := sq_int k0
  obtain ⟨x2, r2, rfl, w2, k2⟩ := sq_int k1
  obtain rfl := sq_nil k2
  exact ⟨(x0, x1, x2), rfl, ⟨w0, w1, w2, trivial⟩⟩
def enc38 (x : Int × Int × Int) : List Value := [.int .i64 x.1, .int .i64 x.2.1, .int .i64 x.2.2]
def E38 (h : AHeap) (cs : List Value) (x : Int × Int × Int) : Prop := cs = enc38 x
theorem E38_mono {h h' : AHeap} (le : h.sub h') (cs : List Value) (x : Int × Int × Int) (H : E38 h cs x) : E38 h' cs x := H
def W38 (x : Int × Int × Int) : Prop := (Lit.int .i64 x.1).wf = true ∧ (Lit.int .i64 x.2.1).wf = true ∧ (Lit.int .i64 x.2.2).wf = true ∧ True
set_option maxRecDepth 100000 in
theorem E38_wt {h : AHeap} {n : Nat} {cs : List Value} (H : WT Try.prog h n 38 cs) : ∃ x, E38 h cs x ∧ W38 x := by
  have k : SQ Try.prog h [.int .i64, .int .i64, .int .i64] cs := wt_flatS 2 n (by kernel_rfl) H
  obtain ⟨x0, r0, rfl, w0, k0⟩ := sq_int k
  obtain ⟨x1, r1, rfl, w1, k1⟩ := sq_int k0
  obtain ⟨x2, r2, rfl, w2, k2⟩ := sq_int k1
  obtain rfl := sq_nil k2
  exact ⟨(x0, x1, x2), rfl, ⟨w0, w1, w2, trivial⟩⟩
/-! 15 jacquard/jacquardref46.Made -/
def F15_L : List Nat := [5]
def F15_D : List (Nat × List (Nat × Nat)) := []
def F15__1 (l5 : List (Int × Int × Int)) (y8 : Int × Int × Int) : Int := (IntKind.i64.wrap ((IntKind.i64.wrap ((l5.length : Int) - 1)) - ((IntKind.i64.wrap (y8.2.1)).tmod (l5.length : Int))))
def F15__2 (l5 : List (Int × Int × Int)) (y8 : Int × Int × Int) : Int := (IntKind.i64.wrap ((IntKind.i64.wrap ((l5.length : Int) - 1)) - ((IntKind.i64.wrap (y8.2.2)).tmod (l5.length : Int))))
def F15_m1_1 : List Bool := [true, true, true, false, true, true, true, true, true, true, true, true, true, true, true, true, true, true, true, true, true, true, true, true, true, true, true, true, true, true, true, true, true, true, true, true, true, true, true, true, true, true, true, true, true, true, true, true, true, true, true, true, true, true, true, true, true, true, true, true, true, true]
def F15_m1_0 : List Bool := [false, true, true, false, false, true, true, true, true, true, true, true, true, true, true, true, true, true, true, true, true, true, true, true, true, true, true, true, true, true, true, true, true, true, true, true, true, true, true, true, true, true, true, true, true, true, true, true, true, true, true, true, true, true, true, true, true, true, true, true, true, true]
def F15_s1 (l1 : List (Int × Int × Int)) (a4 : Int) (l5 : List (Int × Int × Int)) : Option ((Int × (List (Int × Int × Int))) ⊕ (List (Int × Int × Int))) :=
  (bif decide (a4 < (l1.length : Int)) then
   (Option.bind (at? l1 a4) fun y8 =>
   (bif decide ((IntKind.i64.wrap (1 + (IntKind.i64.wrap ((y8.1.tmod 7))))) ≥ 4) then
    (bif ((l5.length : Int) == 0) then none else
    (bif decide ((IntKind.i64.wrap (1 + (IntKind.i64.wrap ((y8.1.tmod 7))))) ≥ 5) then
     (bif (!(okApp (l5.length + ([((IntKind.i64.wrap (1 + (IntKind.i64.wrap ((y8.1.tmod 7))))), (F15__1 l5 y8), (F15__2 l5 y8))] : List (Int × Int × Int)).length) 24)) then none else
     some (.inl ((IntKind.i64.wrap (a4 + 1)), (l5 ++ ([((IntKind.i64.wrap (1 + (IntKind.i64.wrap ((y8.1.tmod 7))))), (F15__1 l5 y8), (F15__2 l5 y8))] : List (Int × Int × Int))))))
    else
     (bif (!(okApp (l5.length + ([((IntKind.i64.wrap (1 + (IntKind.i64.wrap ((y8.1.tmod 7))))), (F15__1 l5 y8), 0)] : List (Int × Int × Int)).length) 24)) then none else
     some (.inl ((IntKind.i64.wrap (a4 + 1)), (l5 ++ ([((IntKind.i64.wrap (1 + (IntKind.i64.wrap ((y8.1.tmod 7))))), (F15__1 l5 y8), 0)] : List (Int × Int × Int))))))))
   else
    (bif decide ((IntKind.i64.wrap (1 + (IntKind.i64.wrap ((y8.1.tmod 7))))) ≥ 5) then
     (bif ((l5.length : Int) == 0) then none else
     (bif (!(okApp (l5.length + ([((IntKind.i64.wrap (1 + (IntKind.i64.wrap ((y8.1.tmod 7))))), 0, (F15__2 l5 y8))] : List (Int × Int × Int)).length) 24)) then none else
     some (.inl ((IntKind.i64.wrap (a4 + 1)), (l5 ++ ([((IntKind.i64.wrap (1 + (IntKind.i64.wrap ((y8.1.tmod 7))))), 0, (F15__2 l5 y8))] : List (Int × Int × Int)))))))
    else
     (bif (!(okApp (l5.length + ([((IntKind.i64.wrap (1 + (IntKind.i64.wrap ((y8.1.tmod 7))))), 0, 0)] : List (Int × Int × Int)).length) 24)) then none else
     some (.inl ((IntKind.i64.wrap (a4 + 1)), (l5 ++ ([((IntKind.i64.wrap (1 + (IntKind.i64.wrap ((y8.1.tmod 7))))), 0, 0)] : List (Int × Int × Int)))))))))
  else
   some (.inr l5))
def F15_h1 (v1 : Hd) (h6 : AHeap) (u5 : Hd) (a4 : Int) (l5 : List (Int × Int × Int)) : AS := ⟨[(sv v1), junk, junk, (sv u5), .int .i64 a4, junk, junk, junk, junk, junk, junk, junk, junk, junk, junk, junk, junk, junk, junk, junk, junk, junk, junk, junk, junk, junk, junk, junk, junk, junk, junk, junk, junk, junk, junk, junk, junk, junk, junk, junk, junk, junk, junk, junk, junk, junk, junk, junk, junk, junk, junk, junk, junk, junk, junk, junk, junk, junk, junk, junk, junk, junk], [], h6⟩
theorem F15_d1 : drawsOk F15_D (codeOf Try.prog 15 [1, 1, 0, 1, 0, 0]) = true := by kernel_rfl
def F15_x1_0 (h : AHeap) (hx : AHeap) (w0 : Hd) (r : (List (Int × Int × Int))) : AS := ⟨[junk, junk, junk, (sv w0), junk, junk, junk, junk, junk, junk, junk, junk, junk, junk, junk, junk, junk, junk, junk, junk, junk, junk, junk, junk, junk, junk, junk, junk, junk, junk, junk, junk, junk, junk, junk, junk, junk, junk, junk, junk, junk, junk, junk, junk, junk, junk, junk, junk, junk, junk, junk, junk, junk, junk, junk, junk, junk, junk, junk, junk, junk, junk], [], hx⟩
def F15_i1 (h : AHeap) (v1 : Hd) (s : Int × (List (Int × Int × Int))) (S : AS) : Prop := ∃ (h6 : AHeap) (u5 : Hd), Heapy h h6 [⟨u5, 38, 3, List.flatMap enc38 s.2⟩] ∧ S = (F15_h1 v1 h6 u5 s.1 s.2)
def F15_x1 (h : AHeap) (r : (List (Int × Int × Int))) (e : Exit) (S : AS) : Prop := e = (.exit 0) ∧ ∃ (hx : AHeap) (w0 : Hd), Heapy h hx [⟨w0, 38, 3, List.flatMap enc38 r⟩] ∧ S = (F15_x1_0 h hx w0 r)
set_option maxRecDepth 100000 in
theorem F15_r1 (h : AHeap) (l1 : List (Int × Int × Int)) (v1 : Hd) (hv1 : SlE E59 3 h (sv v1) l1) (a4 : Int) (l5 : List (Int × Int × Int)) (S : AS) (hI : (F15_i1 h v1) (a4, l5) S) (o : (Int × (List (Int × Int × Int))) ⊕ (List (Int × Int × Int))) : F15_s1 l1 a4 l5 = some o → Rd Try.prog (codeOf Try.prog 15 [1, 1, 0, 1, 0, 0]) (F15_i1 h v1) (F15_x1 h) S o := by
  obtain ⟨h6, u5, hp6, rfl⟩ := hI
  unfold F15_s1
  refine dec_bif (fun c7 => ?_) (fun c7 => ?_)
  · refine bind_opt fun y8 e8 => ?_
    obtain ⟨id8, off8, g8, cs8, ix8, at8, rfl⟩ := SlE.at hv1 e8
    refine dec_bif (fun c9 => ?_) (fun c9 => ?_)
    · refine guard_ok fun g10 => ?_
      refine dec_bif (fun c11 => ?_) (fun c11 => ?_)
      · obtain ⟨v12, h12, m12, hp12, _⟩ := Heapy.build (P := Try.prog) hp6 (t := 22) (e := 38) (len := 1) (n := 3) (parts := [(0, .agg #[.int .i64 (IntKind.i64.wrap (1 + (IntKind.i64.wrap ((y8.1.tmod 7))))), .int .i64 (F15__1 l5 y8), .int .i64 (F15__2 l5 y8)])]) (cells := List.flatMap enc38 ([((IntKind.i64.wrap (1 + (IntKind.i64.wrap ((y8.1.tmod 7))))), (F15__1 l5 y8), (F15__2 l5 y8))] : List (Int × Int × Int))) (by kernel_rfl) rfl
        refine guard_ok fun g14 => ?_
        obtain ⟨v15, h15, m15, q15, _⟩ := Heapy.append hp12 (show mkInfo Try.prog 22 = some (38, 3, 24, [.int .i64 0, .int .i64 0, .int .i64 0]) by kernel_rfl) 1 (v := u5) (cells := List.flatMap enc38 l5) rfl (Y := (sv v12)) (SlE.src (enc := enc38) (c := 3) (Heapy.sle (v := v12) (xs := ([((IntKind.i64.wrap (1 + (IntKind.i64.wrap ((y8.1.tmod 7))))), (F15__1 l5 y8), (F15__2 l5 y8))] : List (Int × Int × Int))) (enc := enc38) hp12 0 rfl (fun _ => rfl) (by decide)) (fun _ => rfl)) (flatMap_length (enc := enc38) (c := 3) (fun _ => rfl) _) (by rw [Heapy.vn (v := u5) (xs := l5) (enc := enc38) hp12 1 rfl (fun _ => rfl) (by decide)]; simpa using g14)
        have hp15 : Heapy h h15 [⟨v12, 38, 3, List.flatMap enc38 ([((IntKind.i64.wrap (1 + (IntKind.i64.wrap ((y8.1.tmod 7))))), (F15__1 l5 y8), (F15__2 l5 y8))] : List (Int × Int × Int))⟩, ⟨v15, 38, 3, List.flatMap enc38 (l5 ++ ([((IntKind.i64.wrap (1 + (IntKind.i64.wrap ((y8.1.tmod 7))))), (F15__1 l5 y8), (F15__2 l5 y8))] : List (Int × Int × Int)))⟩] := by rw [← List.flatMap_append] at q15; exact q15
        intro hr
        obtain rfl := Option.some.inj hr
        exact ⟨(F15_h1 v1 h15 v15 (IntKind.i64.wrap (a4 + 1)) (l5 ++ ([((IntKind.i64.wrap (1 + (IntKind.i64.wrap ((y8.1.tmod 7))))), (F15__1 l5 y8), (F15__2 l5 y8))] : List (Int × Int × Int)))), ⟨h15, v15, (Heapy.pick hp15 [1] (by decide)), rfl⟩, pEnd_sound good (L := F15_L) (D := F15_D) (its := [.g, .g, (.ln l1.length), .g, (.b true), .g, .g, (.ix id8 off8 g8), .g, (.ld (.int .u8 y8.1)), .g, .g, .g, .g, .g, .g, .g, .g, .g, (.b true), .g, (.ln l5.length), .g, .g, .g, (.ix id8 off8 g8), .g, (.ld (.int .u8 y8.2.1)), .g, .g, (.ln l5.length), .d, .g, .g, .g, .g, .g, .g, (.b true), .g, (.ln l5.length), .g, .g, .g, (.ix id8 off8 g8), .g, (.ld (.int .u8 y8.2.2)), .g, .g, (.ln l5.length), .d, .g, .g, .g, .g, .g, (.mm (sv v12) h12), (.mm (sv v15) h15), .g, .g, .g, .g]) (ds := F15_m1_0) (ks := [5]) (e := .normal) (s2 := (F15_h1 v1 h15 v15 (IntKind.i64.wrap (a4 + 1)) (l5 ++ ([((IntKind.i64.wrap (1 + (IntKind.i64.wrap ((y8.1.tmod 7))))), (F15__1 l5 y8), (F15__2 l5 y8))] : List (Int × Int × Int))))) (hC := (And.intro m15 (And.intro m12 (And.intro (nz g10) (And.intro (SlE.len (Heapy.sle (v := u5) (xs := l5) (enc := enc38) hp6 0 rfl (fun _ => rfl) (by decide))) (And.intro (At.one (P := Try.prog) (t := 5) (v := .int .u8 y8.2.2) (At.mono (Heapy.sub hp6) at8) (by kernel_rfl) 2 rfl rfl) (And.intro ix8 (And.intro (SlE.len (Heapy.sle (v := u5) (xs := l5) (enc := enc38) hp6 0 rfl (fun _ => rfl) (by decide))) (And.intro c11 (And.intro (nz g10) (And.intro (SlE.len (Heapy.sle (v := u5) (xs := l5) (enc := enc38) hp6 0 rfl (fun _ => rfl) (by decide))) (And.intro (At.one (P := Try.prog) (t := 5) (v := .int .u8 y8.2.1) (At.mono (Heapy.sub hp6) at8) (by kernel_rfl) 1 rfl rfl) (And.intro ix8 (And.intro (SlE.len (Heapy.sle (v := u5) (xs := l5) (enc := enc38) hp6 0 rfl (fun _ => rfl) (by decide))) (And.intro c9 (And.intro (At.one (P := Try.prog) (t := 5) (v := .int .u8 y8.1) (At.mono (Heapy.sub hp6) at8) (by kernel_rfl) 0 rfl rfl) (And.intro ix8 (And.intro c7 (And.intro (SlE.len hv1) trivial))))))))))))))))))) (hd := F15_d1) (h := by kernel_rfl)⟩
      · obtain ⟨v17, h17, m17, hp17, _⟩ := Heapy.build (P := Try.prog) hp6 (t := 22) (e := 38) (len := 1) (n := 3) (parts := [(0, .agg #[.int .i64 (IntKind.i64.wrap (1 + (IntKind.i64.wrap ((y8.1.tmod 7))))), .int .i64 (F15__1 l5 y8), .int .i64 0])]) (cells := List.flatMap enc38 ([((IntKind.i64.wrap (1 + (IntKind.i64.wrap ((y8.1.tmod 7))))), (F15__1 l5 y8), 0)] : List (Int × Int × Int))) (by kernel_rfl) rfl
        refine guard_ok fun g19 => ?_
        obtain ⟨v20, h20, m20, q20, _⟩ := Heapy.append hp17 (show mkInfo Try.prog 22 = some (38, 3, 24, [.int .i64 0, .int .i64 0, .int .i64 0]) by kernel_rfl) 1 (v := u5) (cells := List.flatMap enc38 l5) rfl (Y := (sv v17)) (SlE.src (enc := enc38) (c := 3) (Heapy.sle (v := v17) (xs := ([((IntKind.i64.wrap (1 + (IntKind.i64.wrap ((y8.1.tmod 7))))), (F15__1 l5 y8), 0)] : List (Int × Int × Int))) (enc := enc38) hp17 0 rfl (fun _ => rfl) (by decide)) (fun _ => rfl)) (flatMap_length (enc := enc38) (c := 3) (fun _ => rfl) _) (by rw [Heapy.vn (v := u5) (xs := l5) (enc := enc38) hp17 1 rfl (fun _ => rfl) (by decide)]; simpa using g19)
        have hp20 : Heapy h h20 [⟨v17, 38, 3, List.flatMap enc38 ([((IntKind.i64.wrap (1 + (IntKind.i64.wrap ((y8.1.tmod 7))))), (F15__1 l5 y8), 0)] : List (Int × Int × Int))⟩, ⟨v20, 38, 3, List.flatMap enc38 (l5 ++ ([((IntKind.i64.wrap (1 + (IntKind.i64.wrap ((y8.1.tmod 7))))), (F15__1 l5 y8), 0)] : List (Int × Int × Int)))⟩] := by rw [← List.flatMap_append] at q20; exact q20
        intro hr
        obtain rfl := Option.some.inj hr
        exact ⟨(F15_h1 v1 h20 v20 (IntKind.i64.wrap (a4 + 1)) (l5 ++ ([((IntKind.i64.wrap (1 + (IntKind.i64.wrap ((y8.1.tmod 7))))), (F15__1 l5 y8), 0)] : List (Int × Int × Int)))), ⟨h20, v20, (Heapy.pick hp20 [1] (by decide)), rfl⟩, pEnd_sound good (L := F15_L) (D := F15_D) (its := [.g, .g, (.ln l1.length), .g, (.b true), .g, .g, (.ix id8 off8 g8), .g, (.ld (.int .u8 y8.1)), .g, .g, .g, .g, .g, .g, .g, .g, .g, (.b true), .g, (.ln l5.length), .g, .g, .g, (.ix id8 off8 g8), .g, (.ld (.int .u8 y8.2.1)), .g, .g, (.ln l5.length), .d, .g, .g, .g, .g, .g, .g, (.b false), .g, .g, (.mm (sv v17) h17), (.mm (sv v20) h20), .g, .g, .g, .g]) (ds := F15_m1_0) (ks := [5]) (e := .normal) (s2 := (F15_h1 v1 h20 v20 (IntKind.i64.wrap (a4 + 1)) (l5 ++ ([((IntKind.i64.wrap (1 + (IntKind.i64.wrap ((y8.1.tmod 7))))), (F15__1 l5 y8), 0)] : List (Int × Int × Int))))) (hC := (And.intro m20 (And.intro m17 (And.intro c11 (And.intro (nz g10) (And.intro (SlE.len (Heapy.sle (v := u5) (xs := l5) (enc := enc38) hp6 0 rfl (fun _ => rfl) (by decide))) (And.intro (At.one (P := Try.prog) (t := 5) (v := .int .u8 y8.2.1) (At.mono (Heapy.sub hp6) at8) (by kernel_rfl) 1 rfl rfl) (And.intro ix8 (And.intro (SlE.len (Heapy.sle (v := u5) (xs := l5) (enc := enc38) hp6 0 rfl (fun _ => rfl) (by decide))) (And.intro c9 (And.intro (At.one (P := Try.prog) (t := 5) (v := .int .u8 y8.1) (At.mono (Heapy.sub hp6) at8) (by kernel_rfl) 0 rfl rfl) (And.intro ix8 (And.intro c7 (And.intro (SlE.len hv1) trivial)))))))))))))) (hd := F15_d1) (h := by kernel_rfl)⟩
    · refine dec_bif (fun c22 => ?_) (fun c22 => ?_)
      · refine guard_ok fun g23 => ?_
        obtain ⟨v24, h24, m24, hp24, _⟩ := Heapy.build (P := Try.prog) hp6 (t := 22) (e := 38) (len := 1) (n := 3) (parts := [(0, .agg #[.int .i64 (IntKind.i64.wrap (1 + (IntKind.i64.wrap ((y8.1.tmod 7))))), .int .i64 0, .int .i64 (F15__2 l5 y8)])]) (cells := List.flatMap enc38 ([((IntKind.i64.wrap (1 + (IntKind.i64.wrap ((y8.1.tmod 7))))), 0, (F15__2 l5 y8))] : List (Int × Int × Int))) (by kernel_rfl) rfl
        refine guard_ok fun g26 => ?_
        obtain ⟨v27, h27, m27, q27, _⟩ := Heapy.append hp24 (show mkInfo Try.prog 22 = some (38, 3, 24, [.int .i64 0, .int .i64 0, .int .i64 0]) by kernel_rfl) 1 (v := u5) (cells := List.flatMap enc38 l5) rfl (Y := (sv v24)) (SlE.src (enc := enc38) (c := 3) (Heapy.sle (v := v24) (xs := ([((IntKind.i64.wrap (1 + (IntKind.i64.wrap ((y8.1.tmod 7))))), 0, (F15__2 l5 y8))] : List (Int × Int × Int))) (enc := enc38) hp24 0 rfl (fun _ => rfl) (by decide)) (fun _ => rfl)) (flatMap_length (enc := enc38) (c := 3) (fun _ => rfl) _) (by rw [Heapy.vn (v := u5) (xs := l5) (enc := enc38) hp24 1 rfl (fun _ => rfl) (by decide)]; simpa using g26)
        have hp27 : Heapy h h27 [⟨v24, 38, 3, List.flatMap enc38 ([((IntKind.i64.wrap (1 + (IntKind.i64.wrap ((y8.1.tmod 7))))), 0, (F15__2 l5 y8))] : List (Int × Int × Int))⟩, ⟨v27, 38, 3, List.flatMap enc38 (l5 ++ ([((IntKind.i64.wrap (1 + (IntKind.i64.wrap ((y8.1.tmod 7))))), 0, (F15__2 l5 y8))] : List (Int × Int × Int)))⟩] := by rw [← List.flatMap_append] at q27; exact q27
        intro hr
        obtain rfl := Option.some.inj hr
        exact ⟨(F15_h1 v1 h27 v27 (IntKind.i64.wrap (a4 + 1)) (l5 ++ ([((IntKind.i64.wrap (1 + (IntKind.i64.wrap ((y8.1.tmod 7))))), 0, (F15__2 l5 y8))] : List (Int × Int × Int)))), ⟨h27, v27, (Heapy.pick hp27 [1] (by decide)), rfl⟩, pEnd_sound good (L := F15_L) (D := F15_D) (its := [.g, .g, (.ln l1.length), .g, (.b true), .g, .g, (.ix id8 off8 g8), .g, (.ld (.int .u8 y8.1)), .g, .g, .g, .g, .g, .g, .g, .g, .g, (.b false), .g, .g, .g, (.b true), .g, (.ln l5.length), .g, .g, .g, (.ix id8 off8 g8), .g, (.ld (.int .u8 y8.2.2)), .g, .g, (.ln l5.length), .d, .g, .g, .g, .g, .g, (.mm (sv v24) h24), (.mm (sv v27) h27), .g, .g, .g, .g]) (ds := F15_m1_0) (ks := [5]) (e := .normal) (s2 := (F15_h1 v1 h27 v27 (IntKind.i64.wrap (a4 + 1)) (l5 ++ ([((IntKind.i64.wrap (1 + (IntKind.i64.wrap ((y8.1.tmod 7))))), 0, (F15__2 l5 y8))] : List (Int × Int × Int))))) (hC := (And.intro m27 (And.intro m24 (And.intro (nz g23) (And.intro (SlE.len (Heapy.sle (v := u5) (xs := l5) (enc := enc38) hp6 0 rfl (fun _ => rfl) (by decide))) (And.intro (At.one (P := Try.prog) (t := 5) (v := .int .u8 y8.2.2) (At.mono (Heapy.sub hp6) at8) (by kernel_rfl) 2 rfl rfl) (And.intro ix8 (And.intro (SlE.len (Heapy.sle (v := u5) (xs := l5) (enc := enc38) hp6 0 rfl (fun _ => rfl) (by decide))) (And.intro c22 (And.intro c9 (And.intro (At.one (P := Try.prog) (t := 5) (v := .int .u8 y8.1) (At.mono (Heapy.sub hp6) at8) (by kernel_rfl) 0 rfl rfl) (And.intro ix8 (And.intro c7 (And.intro (SlE.len hv1) trivial)))))))))))))) (hd := F15_d1) (h := by kernel_rfl)⟩
      · obtain ⟨v29, h29, m29, hp29, _⟩ := Heapy.build (P := Try.prog) hp6 (t := 22) (e := 38) (len := 1) (n := 3) (parts := [(0, .agg #[.int .i64 (IntKind.i64.wrap (1 + (IntKind.i64.wrap ((y8.1.tmod 7))))), .int .i64 0, .int .i64 0])]) (cells := List.flatMap enc38 ([((IntKind.i64.wrap (1 + (IntKind.i64.wrap ((y8.1.tmod 7))))), 0, 0)] : List (Int × Int × Int))) (by kernel_rfl) rfl
        refine guard_ok fun g31 => ?_
        obtain ⟨v32, h32, m32, q32, _⟩ := Heapy.append hp29 (show mkInfo Try.prog 22 = some (38, 3, 24, [.int .i64 0, .int .i64 0, .int .i64 0]) by kernel_rfl) 1 (v := u5) (cells := List.flatMap enc38 l5) rfl (Y := (sv v29)) (SlE.src (enc := enc38) (c := 3) (Heapy.sle (v := v29) (xs := ([((IntKind.i64.wrap (1 + (IntKind.i64.wrap ((y8.1.tmod 7))))), 0, 0)] : List (Int × Int × Int))) (enc := enc38) hp29 0 rfl (fun _ => rfl) (by decide)) (fun _ => rfl)) (flatMap_length (enc := enc38) (c := 3) (fun _ => rfl) _) (by rw [Heapy.vn (v := u5) (xs := l5) (enc := enc38) hp29 1 rfl (fun _ => rfl) (by decide)]; simpa using g31)
        have hp32 : Heapy h h32 [⟨v29, 38, 3, List.flatMap enc38 ([((IntKind.i64.wrap (1 + (IntKind.i64.wrap ((y8.1.tmod 7))))), 0, 0)] : List (Int × Int × Int))⟩, ⟨v32, 38, 3, List.flatMap enc38 (l5 ++ ([((IntKind.i64.wrap (1 + (IntKind.i64.wrap ((y8.1.tmod 7))))), 0, 0)] : List (Int × Int × Int)))⟩] := by rw [← List.flatMap_append] at q32; exact q32
        intro hr
        obtain rfl := Option.some.inj hr
        exact ⟨(F15_h1 v1 h32 v32 (IntKind.i64.wrap (a4 + 1)) (l5 ++ ([((IntKind.i64.wrap (1 + (IntKind.i64.wrap ((y8.1.tmod 7))))), 0, 0)] : List (Int × Int × Int)))), ⟨h32, v32, (Heapy.pick hp32 [1] (by decide)), rfl⟩, pEnd_sound good (L := F15_L) (D := F15_D) (its := [.g, .g, (.ln l1.length), .g, (.b true), .g, .g, (.ix id8 off8 g8), .g, (.ld (.int .u8 y8.1)), .g, .g, .g, .g, .g, .g, .g, .g, .g, (.b false), .g, .g, .g, (.b false), .g, .g, (.mm (sv v29) h29), (.mm (sv v32) h32), .g, .g, .g, .g]) (ds := F15_m1_0) (ks := [5]) (e := .normal) (s2 := (F15_h1 v1 h32 v32 (IntKind.i64.wrap (a4 + 1)) (l5 ++ ([((IntKind.i64.wrap (1 + (IntKind.i64.wrap ((y8.1.tmod 7))))), 0, 0)] : List (Int × Int × Int))))) (hC := (And.intro m32 (And.intro m29 (And.intro c22 (And.intro c9 (And.intro (At.one (P := Try.prog) (t := 5) (v := .int .u8 y8.1) (At.mono (Heapy.sub hp6) at8) (by kernel_rfl) 0 rfl rfl) (And.intro ix8 (And.intro c7 (And.intro (SlE.len hv1) trivial))))))))) (hd := F15_d1) (h := by kernel_rfl)⟩
  · intro hr
    obtain rfl := Option.some.inj hr
    refine ⟨(.exit 0), (F15_x1_0 h h6 u5 (l5 : (List (Int × Int × Int)))), (by intro hh; cases hh), ?_, pEnd_sound good (L := F15_L) (D := F15_D) (its := [.g, .g, (.ln l1.length), .g, (.b false)]) (ds := F15_m1_1) (ks := []) (e := (.exit 0)) (s2 := (F15_x1_0 h h6 u5 (l5 : (List (Int × Int × Int))))) (hC := (And.intro c7 (And.intro (SlE.len hv1) trivial))) (hd := F15_d1) (h := by kernel_rfl)⟩
    exact ⟨rfl, h6, u5, (Heapy.pick hp6 [0] (by decide)), rfl⟩
theorem F15_l1 (h : AHeap) (l1 : List (Int × Int × Int)) (v1 : Hd) (hv1 : SlE E59 3 h (sv v1) l1) (x : Int × (List (Int × Int × Int))) (r : (List (Int × Int × Int))) (hl : loopO (fun (s : Int × (List (Int × Int × Int))) => F15_s1 l1 s.1 s.2) x = some r) (S : AS) (hI : (F15_i1 h v1) x S) : ∃ e S', (F15_x1 h) r e S' ∧ AWp Try.prog (.loop (codeOf Try.prog 15 [1, 1, 0, 1, 0, 0])) (Ends1 e S') S :=
  loop_rel (fun x S hI => F15_r1 h l1 v1 hv1 x.1 x.2 S hI) hl hI
def F15 (l1 : List (Int × Int × Int)) : Option ((List (Int × Int × Int))) :=
  (Option.bind (loopO (fun (s : Int × (List (Int × Int × Int))) => F15_s1 l1 s.1 s.2) (0, ([(3, 0, 0)] : List (Int × Int × Int)))) fun y34 =>
  some (y34))
set_option maxRecDepth 100000 in
theorem F15_spec (l1 : List (Int × Int × Int)) (v1 : Hd) (h : AHeap) (hw : h.wf) (hv1 : SlE E59 3 h (sv v1) l1) (r : (List (Int × Int × Int))) : F15 l1 = some r → ∃ (ur0 : Hd) (h' : AHeap), Heapy h h' [⟨ur0, 38, 3, List.flatMap enc38 r⟩] ∧ ACalls Try.prog 15 [(sv v1)] h (fun v' h'' => v' = ((sv ur0) : Value) ∧ h'' = h') := by
  unfold F15
  obtain ⟨v2, h2, m2, hp2, _⟩ := Heapy.build (P := Try.prog) (Heapy.refl hw) (t := 22) (e := 38) (len := 1) (n := 3) (parts := [(0, .agg #[.int .i64 3, .int .i64 0, .int .i64 0])]) (cells := List.flatMap enc38 ([(3, 0, 0)] : List (Int × Int × Int))) (by kernel_rfl) rfl
  refine bind_opt fun y34 e34 => ?_
  obtain ⟨ee34, SS34, hX34, hA34⟩ := F15_l1 h l1 v1 hv1 (0, ([(3, 0, 0)] : List (Int × Int × Int))) y34 e34 (F15_h1 v1 h2 v2 0 ([(3, 0, 0)] : List (Int × Int × Int))) ⟨h2, v2, (Heapy.pick hp2 [0] (by decide)), rfl⟩
  obtain ⟨rfl, h35, w0_35, hp35, rfl⟩ := hX34
  intro hr
  obtain rfl := Option.some.inj hr
  exact ⟨w0_35, h35, Heapy.pick hp35 [0] (by decide), pFun_sound good tab_ok (f := 15) (its := [.g, .g, (.mm (sv v2) h2), .g, .g, (.l F15_m1_0 [] (.exit 0) (F15_x1_0 h h35 w0_35 y34)), .g, .g]) (args := [(sv v1)]) (h := h) (h' := h35) (v := (sv w0_35)) (hC := (And.intro hA34 (And.intro m2 trivial))) (hr := by kernel_rfl)⟩
/-! 13 jacquard/jacquardref46.Inputs -/
def F13_L : List Nat := []
def F13_D : List (Nat × List (Nat × Nat)) := []
def F13_m1_1 : List Bool := [true, true, true, false, true, true, true, true, true, true, true, true, true, true, true, true, true, true, true, true]
def F13_m1_0 : List Bool := [false, true, true, false, false, true, true, true, true, true, true, true, true, true, true, true, true, true, true, true]
def F13_s1 (l1 : List (Int × Int × Int)) (a2 : Int) (a3 : Int) : Option ((Int × Int) ⊕ Int) :=
  (bif decide (a3 < (l1.length : Int)) then
   (Option.bind (at? l1 a3) fun y5 =>
   (bif (y5.1 == 3) then
    some (.inl ((IntKind.i64.wrap (a2 + 1)), (IntKind.i64.wrap (a3 + 1))))
   else
    some (.inl (a2, (IntKind.i64.wrap (a3 + 1))))))
  else
   some (.inr a2))
def F13_h1 (h : AHeap) (v1 : Hd)  (a2 : Int) (a3 : Int) : AS := ⟨[(sv v1), junk, junk, .int .i64 a2, .int .i64 a3, junk, junk, junk, junk, junk, junk, junk, junk, junk, junk, junk, junk, junk, junk, junk], [], h⟩
theorem F13_d1 : drawsOk F13_D (codeOf Try.prog 13 [1, 1, 0, 1, 0, 0]) = true := by kernel_rfl
def F13_x1_0 (h : AHeap)  (r : Int) : AS := ⟨[junk, junk, junk, .int .i64 r, junk, junk, junk, junk, junk, junk, junk, junk, junk, junk, junk, junk, junk, junk, junk, junk], [], h⟩
def F13_x1 (h : AHeap) (r : Int) : Exit × AS := ((.exit 0), (F13_x1_0 h r))
set_option maxRecDepth 100000 in
theorem F13_r1 (h : AHeap) (l1 : List (Int × Int × Int)) (v1 : Hd) (hv1 : SlE E38 3 h (sv v1) l1) (a2 : Int) (a3 : Int) (o : (Int × Int) ⊕ Int) : F13_s1 l1 a2 a3 = some o → RdF Try.prog (codeOf Try.prog 13 [1, 1, 0, 1, 0, 0]) (fun (s : Int × Int) => (F13_h1 h v1 s.1 s.2)) (F13_x1 h) (F13_h1 h v1 a2 a3) o := by
  unfold F13_s1
  refine dec_bif (fun c4 => ?_) (fun c4 => ?_)
  · refine bind_opt fun y5 e5 => ?_
    obtain ⟨id5, off5, g5, cs5, ix5, at5, rfl⟩ := SlE.at hv1 e5
    refine dec_bif (fun c6 => ?_) (fun c6 => ?_)
    · intro hr
      obtain rfl := Option.some.inj hr
      show AWp Try.prog _ (Ends1 .normal (F13_h1 h v1 (IntKind.i64.wrap (a2 + 1)) (IntKind.i64.wrap (a3 + 1)))) _
      exact pEnd_sound good (L := F13_L) (D := F13_D) (its := [.g, .g, (.ln l1.length), .g, (.b true), .g, .g, (.ix id5 off5 g5), .g, (.ld (.int .i64 y5.1)), .g, (.b true), .g, .g, .g, .g, .g, .g]) (ds := F13_m1_0) (ks := []) (e := .normal) (s2 := (F13_h1 h v1 (IntKind.i64.wrap (a2 + 1)) (IntKind.i64.wrap (a3 + 1)))) (hC := (And.intro c6 (And.intro (At.one (P := Try.prog) (t := 3) (v := .int .i64 y5.1) at5 (by kernel_rfl) 0 rfl rfl) (And.intro ix5 (And.intro c4 (And.intro (SlE.len hv1) trivial)))))) (hd := F13_d1) (h := by kernel_rfl)
    · intro hr
      obtain rfl := Option.some.inj hr
      show AWp Try.prog _ (Ends1 .normal (F13_h1 h v1 a2 (IntKind.i64.wrap (a3 + 1)))) _
      exact pEnd_sound good (L := F13_L) (D := F13_D) (its := [.g, .g, (.ln l1.length), .g, (.b true), .g, .g, (.ix id5 off5 g5), .g, (.ld (.int .i64 y5.1)), .g, (.b false), .g, .g, .g]) (ds := F13_m1_0) (ks := []) (e := .normal) (s2 := (F13_h1 h v1 a2 (IntKind.i64.wrap (a3 + 1)))) (hC := (And.intro c6 (And.intro (At.one (P := Try.prog) (t := 3) (v := .int .i64 y5.1) at5 (by kernel_rfl) 0 rfl rfl) (And.intro ix5 (And.intro c4 (And.intro (SlE.len hv1) trivial)))))) (hd := F13_d1) (h := by kernel_rfl)
  · intro hr
    obtain rfl := Option.some.inj hr
    show AWp Try.prog _ (Ends1 ((F13_x1 h) (a2 : Int)).1 ((F13_x1 h) (a2 : Int)).2) _
    exact pEnd_sound good (L := F13_L) (D := F13_D) (its := [.g, .g, (.ln l1.length), .g, (.b false)]) (ds := F13_m1_1) (ks := []) (e := ((F13_x1 h) (a2 : Int)).1) (s2 := ((F13_x1 h) (a2 : Int)).2) (hC := (And.intro c4 (And.intro (SlE.len hv1) trivial))) (hd := F13_d1) (h := by kernel_rfl)
theorem F13_l1_0 (h : AHeap) (l1 : List (Int × Int × Int)) (v1 : Hd) (hv1 : SlE E38 3 h (sv v1) l1) (x : Int × Int) (r : Int) (hl : loopO (fun (s : Int × Int) => F13_s1 l1 s.1 s.2) x = some r) : AWp Try.prog (.loop (codeOf Try.prog 13 [1, 1, 0, 1, 0, 0])) (Ends1 (.exit 0) (F13_x1_0 h r)) ((fun (s : Int × Int) => (F13_h1 h v1 s.1 s.2)) x) := by
  have k := loop_fun (P := Try.prog) (c := (codeOf Try.prog 13 [1, 1, 0, 1, 0, 0])) (step := (fun (s : Int × Int) => F13_s1 l1 s.1 s.2)) (hd := (fun (s : Int × Int) => (F13_h1 h v1 s.1 s.2))) (X := (F13_x1 h)) (by intro t; unfold F13_x1; intro h; cases h) (fun x => F13_r1 h l1 v1 hv1 x.1 x.2) hl
  exact k
def F13 (l1 : List (Int × Int × Int)) : Option (Int) :=
  (Option.bind (loopO (fun (s : Int × Int) => F13_s1 l1 s.1 s.2) (0, 0)) fun y7 =>
  some (y7))
set_option maxRecDepth 100000 in
theorem F13_spec (l1 : List (Int × Int × Int)) (v1 : Hd) (h : AHeap) (hv1 : SlE E38 3 h (sv v1) l1) (r : Int) : F13 l1 = some r → ACalls Try.prog 13 [(sv v1)] h (fun v' h'' => v' = (.int .i64 r : Value) ∧ h'' = h) := by
  unfold F13
  refine bind_opt fun y7 e7 => ?_
  intro hr
  obtain rfl := Option.some.inj hr
  exact pFun_sound good tab_ok (f := 13) (its := [.g, .g, .g, (.l F13_m1_0 [] (.exit 0) (F13_x1_0 h y7)), .g, .g]) (args := [(sv v1)]) (h := h) (h' := h) (v := .int .i64 y7) (hC := (And.intro (F13_l1_0 h l1 v1 hv1 (0, 0) y7 e7) trivial)) (hr := by kernel_rfl)
def enc4 (x : Bool) : List Value := [.bool x]
def E4 (h : AHeap) (cs : List Value) (x : Bool) : Prop := cs = enc4 x
theorem E4_mono {h h' : AHeap} (le : h.sub h') (cs : List Value) (x : Bool) (H : E4 h cs x) : E4 h' cs x := H
def W4 (x : Bool) : Prop := True
set_option maxRecDepth 100000 in
theorem E4_wt {h : AHeap} {n : Nat} {cs : List Value} (H : WT Try.prog h n 4 cs) : ∃ x, E4 h cs x ∧ W4 x := by
  have k : SQ Try.prog h [.bool] cs := wt_flatS 1 n (by kernel_rfl) H
  obtain ⟨x0, r0, rfl, k0⟩ := sq_bool k
  obtain rfl := sq_nil k0
  exact ⟨x0, rfl, trivial⟩
/-! 19 jacquard/jacquardref46.Open -/
def F19_L : List Nat := []
def F19_D : List (Nat × List (Nat × Nat)) := []
def F19_m1_1 : List Bool := [true, true, true, true, true, false, true, true, true, true, true, true, true, true, true, true, true, true, true, true, true, true, true, true, true, true, true, true, true, true]
def F19_m1_0 : List Bool := [false, false, true, true, true, false, false, true, true, true, true, true, true, true, true, true, true, true, true, true, true, true, true, true, true, true, true, true, true, true]
def F19_s1 (l1 : List (Int × Int × Int)) (l2 : List Bool) (a5 : Int) (l6 : List Bool) : Option ((Int × (List Bool)) ⊕ (List Bool)) :=
  (Option.bind (F13 l1) fun y8 =>
  (bif decide (a5 < y8) then
   (bif decide ((l2.length : Int) > 0) then
    (bif ((if 1 > (l2.length : Int) then 1 else (l2.length : Int)) == 0) then none else
    (Option.bind (at? l2 (a5.tmod (if 1 > (l2.length : Int) then 1 else (l2.length : Int)))) fun y13 =>
    (bif (!(okApp (l6.length + ([y13] : List Bool).length) 1)) then none else
    some (.inl ((IntKind.i64.wrap (a5 + 1)), (l6 ++ ([y13] : List Bool)))))))
   else
    (bif (!(okApp (l6.length + ([false] : List Bool).length) 1)) then none else
    some (.inl ((IntKind.i64.wrap (a5 + 1)), (l6 ++ ([false] : List Bool))))))
  else
   some (.inr l6)))
def F19_h1 (v1 : Hd) (v2 : Hd) (h7 : AHeap) (u6 : Hd) (a5 : Int) (l6 : List Bool) : AS := ⟨[(sv v1), (sv v2), junk, junk, junk, (sv u6), .int .i64 a5, junk, junk, junk, junk, junk, junk, junk, junk, junk, junk, junk, junk, junk, junk, junk, junk, junk, junk, junk, junk, junk, junk, junk], [], h7⟩
theorem F19_d1 : drawsOk F19_D (codeOf Try.prog 19 [1, 1, 0, 1, 0, 0]) = true := by kernel_rfl
def F19_x1_0 (h : AHeap) (hx : AHeap) (w0 : Hd) (r : (List Bool)) : AS := ⟨[junk, junk, junk, junk, junk, (sv w0), junk, junk, junk, junk, junk, junk, junk, junk, junk, junk, junk, junk, junk, junk, junk, junk, junk, junk, junk, junk, junk, junk, junk, junk], [], hx⟩
def F19_i1 (h : AHeap) (v1 : Hd) (v2 : Hd) (s : Int × (List Bool)) (S : AS) : Prop := ∃ (h7 : AHeap) (u6 : Hd), Heapy h h7 [⟨u6, 4, 1, List.flatMap enc4 s.2⟩] ∧ S = (F19_h1 v1 v2 h7 u6 s.1 s.2)
def F19_x1 (h : AHeap) (r : (List Bool)) (e : Exit) (S : AS) : Prop := e = (.exit 0) ∧ ∃ (hx : AHeap) (w0 : Hd), Heapy h hx [⟨w0, 4, 1, List.flatMap enc4 r⟩] ∧ S = (F19_x1_0 h hx w0 r)
set_option maxRecDepth 100000 in
theorem F19_r1 (h : AHeap) (l1 : List (Int × Int × Int)) (v1 : Hd) (hv1 : SlE E38 3 h (sv v1) l1) (l2 : List Bool) (v2 : Hd) (hv2 : SlE E4 1 h (sv v2) l2) (a5 : Int) (l6 : List Bool) (S : AS) (hI : (F19_i1 h v1 v2) (a5, l6) S) (o : (Int × (List Bool)) ⊕ (List Bool)) : F19_s1 l1 l2 a5 l6 = some o → Rd Try.prog (codeOf Try.prog 19 [1, 1, 0, 1, 0, 0]) (F19_i1 h v1 v2) (F19_x1 h) S o := by
  obtain ⟨h7, u6, hp7, rfl⟩ := hI
  unfold F19_s1
  refine bind_opt fun y8 e8 => ?_
  refine dec_bif (fun c10 => ?_) (fun c10 => ?_)
  · refine dec_bif (fun c11 => ?_) (fun c11 => ?_)
    · refine guard_ok fun g12 => ?_
      refine bind_opt fun y13 e13 => ?_
      obtain ⟨id13, off13, g13, cs13, ix13, at13, rfl⟩ := SlE.at hv2 e13
      obtain ⟨v14, h14, m14, hp14, _⟩ := Heapy.build (P := Try.prog) hp7 (t := 27) (e := 4) (len := 1) (n := 1) (parts := [(0, .bool y13)]) (cells := List.flatMap enc4 ([y13] : List Bool)) (by kernel_rfl) rfl
      refine guard_ok fun g16 => ?_
      obtain ⟨v17, h17, m17, q17, _⟩ := Heapy.append hp14 (show mkInfo Try.prog 27 = some (4, 1, 1, [.bool false]) by kernel_rfl) 1 (v := u6) (cells := List.flatMap enc4 l6) rfl (Y := (sv v14)) (SlE.src (enc := enc4) (c := 1) (Heapy.sle (v := v14) (xs := ([y13] : List Bool)) (enc := enc4) hp14 0 rfl (fun _ => rfl) (by decide)) (fun _ => rfl)) (flatMap_length (enc := enc4) (c := 1) (fun _ => rfl) _) (by rw [Heapy.vn (v := u6) (xs := l6) (enc := enc4) hp14 1 rfl (fun _ => rfl) (by decide)]; simpa using g16)
      have hp17 : Heapy h h17 [⟨v14, 4, 1, List.flatMap enc4 ([y13] : List Bool)⟩, ⟨v17, 4, 1, List.flatMap enc4 (l6 ++ ([y13] : List Bool))⟩] := by rw [← List.flatMap_append] at q17; exact q17
      intro hr
      obtain rfl := Option.some.inj hr
      exact ⟨(F19_h1 v1 v2 h17 v17 (IntKind.i64.wrap (a5 + 1)) (l6 ++ ([y13] : List Bool))), ⟨h17, v17, (Heapy.pick hp17 [1] (by decide)), rfl⟩, pEnd_sound good (L := F19_L) (D := F19_D) (its := [.g, .g, (.c (.int .i64 y8) h7), .g, (.b true), .g, .g, (.ln l2.length), .g, .g, (.w .g), (.w .g), (.w .g), (.w (.ln l2.length)), (.w .g), (.w .d), (.w (.ix id13 off13 g13)), (.w (.ld (.bool y13))), (.p true), (.mm (sv v14) h14), (.mm (sv v17) h17), .g, .g, .g, .g]) (ds := F19_m1_0) (ks := []) (e := .normal) (s2 := (F19_h1 v1 v2 h17 v17 (IntKind.i64.wrap (a5 + 1)) (l6 ++ ([y13] : List Bool)))) (hC := (And.intro m17 (And.intro m14 (And.intro c11 (And.intro (At.one (P := Try.prog) (t := 4) (v := .bool y13) (At.mono (Heapy.sub hp7) at13) (by kernel_rfl) 0 rfl rfl) (And.intro (g_tt c11) (And.intro ix13 (And.intro (g_tt c11) (And.intro (nz g12) (And.intro (g_tt c11) (And.intro (g_tt c11) (And.intro (SlE.len hv2) (And.intro (g_tt c11) (And.intro (g_tt c11) (And.intro (g_tt c11) (And.intro (g_tt c11) (And.intro (SlE.len hv2) (And.intro c10 (And.intro (F13_spec l1 v1 h7 (SlE.mono hv1 (Heapy.sub hp7) (E38_mono (Heapy.sub hp7))) _ e8) trivial))))))))))))))))))) (hd := F19_d1) (h := by kernel_rfl)⟩
    · obtain ⟨v19, h19, m19, hp19, _⟩ := Heapy.build (P := Try.prog) hp7 (t := 27) (e := 4) (len := 1) (n := 1) (parts := [(0, .bool false)]) (cells := List.flatMap enc4 ([false] : List Bool)) (by kernel_rfl) rfl
      refine guard_ok fun g21 => ?_
      obtain ⟨v22, h22, m22, q22, _⟩ := Heapy.append hp19 (show mkInfo Try.prog 27 = some (4, 1, 1, [.bool false]) by kernel_rfl) 1 (v := u6) (cells := List.flatMap enc4 l6) rfl (Y := (sv v19)) (SlE.src (enc := enc4) (c := 1) (Heapy.sle (v := v19) (xs := ([false] : List Bool)) (enc := enc4) hp19 0 rfl (fun _ => rfl) (by decide)) (fun _ => rfl)) (flatMap_length (enc := enc4) (c := 1) (fun _ => rfl) _) (by rw [Heapy.vn (v := u6) (xs := l6) (enc := enc4) hp19 1 rfl (fun _ => rfl) (by decide)]; simpa using g21)
      have hp22 : Heapy h h22 [⟨v19, 4, 1, List.flatMap enc4 ([false] : List Bool)⟩, ⟨v22, 4, 1, List.flatMap enc4 (l6 ++ ([false] : List Bool))⟩] := by rw [← List.flatMap_append] at q22; exact q22
      intro hr
      obtain rfl := Option.some.inj hr
      exact ⟨(F19_h1 v1 v2 h22 v22 (IntKind.i64.wrap (a5 + 1)) (l6 ++ ([false] : List Bool))), ⟨h22, v22, (Heapy.pick hp22 [1] (by decide)), rfl⟩, pEnd_sound good (L := F19_L) (D := F19_D) (its := [.g, .g, (.c (.int .i64 y8) h7), .g, (.b true), .g, .g, (.ln l2.length), .g, .g, .n, .n, .n, .n, .n, .n, .n, .n, (.p false), (.mm (sv v19) h19), (.mm (sv v22) h22), .g, .g, .g, .g]) (ds := F19_m1_0) (ks := []) (e := .normal) (s2 := (F19_h1 v1 v2 h22 v22 (IntKind.i64.wrap (a5 + 1)) (l6 ++ ([false] : List Bool)))) (hC := (And.intro m22 (And.intro m19 (And.intro c11 (And.intro (g_ft c11) (And.intro (g_ft c11) (And.intro (g_ft c11) (And.intro (g_ft c11) (And.intro (g_ft c11) (And.intro (g_ft c11) (And.intro (g_ft c11) (And.intro (g_ft c11) (And.intro (SlE.len hv2) (And.intro c10 (And.intro (F13_spec l1 v1 h7 (SlE.mono hv1 (Heapy.sub hp7) (E38_mono (Heapy.sub hp7))) _ e8) trivial))))))))))))))) (hd := F19_d1) (h := by kernel_rfl)⟩
  · intro hr
    obtain rfl := Option.some.inj hr
    refine ⟨(.exit 0), (F19_x1_0 h h7 u6 (l6 : (List Bool))), (by intro hh; cases hh), ?_, pEnd_sound good (L := F19_L) (D := F19_D) (its := [.g, .g, (.c (.int .i64 y8) h7), .g, (.b false)]) (ds := F19_m1_1) (ks := []) (e := (.exit 0)) (s2 := (F19_x1_0 h h7 u6 (l6 : (List Bool)))) (hC := (And.intro c10 (And.intro (F13_spec l1 v1 h7 (SlE.mono hv1 (Heapy.sub hp7) (E38_mono (Heapy.sub hp7))) _ e8) trivial))) (hd := F19_d1) (h := by kernel_rfl)⟩
    exact ⟨rfl, h7, u6, (Heapy.pick hp7 [0] (by decide)), rfl⟩
theorem F19_l1 (h : AHeap) (l1 : List (Int × Int × Int)) (v1 : Hd) (hv1 : SlE E38 3 h (sv v1) l1) (l2 : List Bool) (v2 : Hd) (hv2 : SlE E4 1 h (sv v2) l2) (x : Int × (List Bool)) (r : (List Bool)) (hl : loopO (fun (s : Int × (List Bool)) => F19_s1 l1 l2 s.1 s.2) x = some r) (S : AS) (hI : (F19_i1 h v1 v2) x S) : ∃ e S', (F19_x1 h) r e S' ∧ AWp Try.prog (.loop (codeOf Try.prog 19 [1, 1, 0, 1, 0, 0])) (Ends1 e S') S :=
  loop_rel (fun x S hI => F19_r1 h l1 v1 hv1 l2 v2 hv2 x.1 x.2 S hI) hl hI
def F19 (l1 : List (Int × Int × Int)) (l2 : List Bool) : Option ((List Bool)) :=
  (Option.bind (loopO (fun (s : Int × (List Bool)) => F19_s1 l1 l2 s.1 s.2) (0, ([] : List Bool))) fun y24 =>
  some (y24))
set_option maxRecDepth 100000 in
theorem F19_spec (l1 : List (Int × Int × Int)) (l2 : List Bool) (v1 : Hd) (v2 : Hd) (h : AHeap) (hw : h.wf) (hv1 : SlE E38 3 h (sv v1) l1) (hv2 : SlE E4 1 h (sv v2) l2) (r : (List Bool)) : F19 l1 l2 = some r → ∃ (ur0 : Hd) (h' : AHeap), Heapy h h' [⟨ur0, 4, 1, List.flatMap enc4 r⟩] ∧ ACalls Try.prog 19 [(sv v1), (sv v2)] h (fun v' h'' => v' = ((sv ur0) : Value) ∧ h'' = h') := by
  unfold F19
  refine bind_opt fun y24 e24 => ?_
  have hp3 : Heapy h h [⟨⟨none, 0, 0⟩, 4, 1, List.flatMap enc4 ([] : List Bool)⟩] := Heapy.nil (Heapy.refl hw) 4 1
  obtain ⟨ee24, SS24, hX24, hA24⟩ := F19_l1 h l1 v1 hv1 l2 v2 hv2 (0, ([] : List Bool)) y24 e24 (F19_h1 v1 v2 h ⟨none, 0, 0⟩ 0 ([] : List Bool)) ⟨h, ⟨none, 0, 0⟩, (Heapy.pick hp3 [0] (by decide)), rfl⟩
  obtain ⟨rfl, h25, w0_25, hp25, rfl⟩ := hX24
  intro hr
  obtain rfl := Option.some.inj hr
  exact ⟨w0_25, h25, Heapy.pick hp25 [0] (by decide), pFun_sound good tab_ok (f := 19) (its := [.g, .g, .g, (.l F19_m1_0 [] (.exit 0) (F19_x1_0 h h25 w0_25 y24)), .g, .g]) (args := [(sv v1), (sv v2)]) (h := h) (h' := h25) (v := (sv w0_25)) (hC := (And.intro hA24 trivial)) (hr := by kernel_rfl)⟩
/-! 23 jacquard/gates.operands -/
def F23 (x1 : Int) : Int :=
  (bif (x1 == 1) then
   0
  else
   (bif (x1 == 2) then
    0
   else
    (bif (x1 == 3) then
     0
    else
     (bif (x1 == 4) then
      1
     else
      (bif (x1 == 5) then
       2
      else
       (bif (x1 == 6) then
        2
       else
        (bif (x1 == 7) then
         2
        else
         (-1))))))))
set_option maxRecDepth 100000 in
theorem F23_spec (x1 : Int) (h : AHeap)  (r : Int) : F23 x1 = r → ACalls Try.prog 23 [.int .i64 x1] h (fun v' h'' => v' = (.int .i64 r : Value) ∧ h'' = h) := by
  unfold F23
  refine dec_bif (fun c2 => ?_) (fun c2 => ?_)
  · intro hr
    subst hr
    exact pFun_sound good tab_ok (f := 23) (its := [.g, .g, .g, .g, (.b true), (.b true), .g]) (args := [.int .i64 x1]) (h := h) (h' := h) (v := .int .i64 0) (hC := (And.intro c2 (And.intro c2 trivial))) (hr := by kernel_rfl)
  · refine dec_bif (fun c3 => ?_) (fun c3 => ?_)
    · intro hr
      subst hr
      exact pFun_sound good tab_ok (f := 23) (its := [.g, .g, .g, .g, (.b false), .g, .g, (.b true), (.b true), .g]) (args := [.int .i64 x1]) (h := h) (h' := h) (v := .int .i64 0) (hC := (And.intro c3 (And.intro c3 (And.intro c2 trivial)))) (hr := by kernel_rfl)
    · refine dec_bif (fun c4 => ?_) (fun c4 => ?_)
      · intro hr
        subst hr
        exact pFun_sound good tab_ok (f := 23) (its := [.g, .g, .g, .g, (.b false), .g, .g, (.b false), .g, .g, (.b true), .g]) (args := [.int .i64 x1]) (h := h) (h' := h) (v := .int .i64 0) (hC := (And.intro c4 (And.intro c3 (And.intro c2 trivial)))) (hr := by kernel_rfl)
      · refine dec_bif (fun c5 => ?_) (fun c5 => ?_)
        · intro hr
          subst hr
          exact pFun_sound good tab_ok (f := 23) (its := [.g, .g, .g, .g, (.b false), .g, .g, (.b false), .g, .g, (.b false), .g, .g, (.b true), .g]) (args := [.int .i64 x1]) (h := h) (h' := h) (v := .int .i64 1) (hC := (And.intro c5 (And.intro c4 (And.intro c3 (And.intro c2 trivial))))) (hr := by kernel_rfl)
        · refine dec_bif (fun c6 => ?_) (fun c6 => ?_)
          · intro hr
            subst hr
            exact pFun_sound good tab_ok (f := 23) (its := [.g, .g, .g, .g, (.b false), .g, .g, (.b false), .g, .g, (.b false), .g, .g, (.b false), .g, .g, (.b true), (.b true), .g]) (args := [.int .i64 x1]) (h := h) (h' := h) (v := .int .i64 2) (hC := (And.intro c6 (And.intro c6 (And.intro c5 (And.intro c4 (And.intro c3 (And.intro c2 trivial))))))) (hr := by kernel_rfl)
          · refine dec_bif (fun c7 => ?_) (fun c7 => ?_)
            · intro hr
              subst hr
              exact pFun_sound good tab_ok (f := 23) (its := [.g, .g, .g, .g, (.b false), .g, .g, (.b false), .g, .g, (.b false), .g, .g, (.b false), .g, .g, (.b false), .g, .g, (.b true), (.b true), .g]) (args := [.int .i64 x1]) (h := h) (h' := h) (v := .int .i64 2) (hC := (And.intro c7 (And.intro c7 (And.intro c6 (And.intro c5 (And.intro c4 (And.intro c3 (And.intro c2 trivial)))))))) (hr := by kernel_rfl)
            · refine dec_bif (fun c8 => ?_) (fun c8 => ?_)
              · intro hr
                subst hr
                exact pFun_sound good tab_ok (f := 23) (its := [.g, .g, .g, .g, (.b false), .g, .g, (.b false), .g, .g, (.b false), .g, .g, (.b false), .g, .g, (.b false), .g, .g, (.b false), .g, .g, (.b true), .g]) (args := [.int .i64 x1]) (h := h) (h' := h) (v := .int .i64 2) (hC := (And.intro c8 (And.intro c7 (And.intro c6 (And.intro c5 (And.intro c4 (And.intro c3 (And.intro c2 trivial)))))))) (hr := by kernel_rfl)
              · intro hr
                subst hr
                exact pFun_sound good tab_ok (f := 23) (its := [.g, .g, .g, .g, (.b false), .g, .g, (.b false), .g, .g, (.b false), .g, .g, (.b false), .g, .g, (.b false), .g, .g, (.b false), .g, .g, (.b false), .g]) (args := [.int .i64 x1]) (h := h) (h' := h) (v := .int .i64 (-1)) (hC := (And.intro c8 (And.intro c7 (And.intro c6 (And.intro c5 (And.intro c4 (And.intro c3 (And.intro c2 trivial)))))))) (hr := by kernel_rfl)
end
end Go.Proofs.Ytdoafmfkbddmlaa.Abs
