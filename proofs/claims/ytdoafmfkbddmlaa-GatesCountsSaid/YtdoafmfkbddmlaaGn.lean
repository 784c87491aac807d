/-
  Contracts, written by program: for each function what its call yields, and that it yields it.
-/
import Derived.Test.YtdoafmfkbddmlaaVw
import Derived.Test.YtdoafmfkbddmlaaChecked
namespace Go.Proofs.Ytdoafmfkbddmlaa.Abs
open Go
set_option linter.unusedVariables false
set_option linter.unusedSimpArgs false

theorem good : Good Try.prog := good_of Try.checked.mixed (by kernel_rfl)
noncomputable section
def tabC : List FEnt := [
  { f := 9, L := [], D := [] },
  { f := 11, L := [4], D := [(5, [(0, 1), (1, 1), (2, 1), (3, 1), (4, 1), (5, 1), (6, 1), (7, 1), (8, 1), (9, 1), (10, 1), (11, 1), (12, 1), (13, 1), (14, 1), (15, 1), (16, 1), (17, 1), (18, 1), (19, 1)])] },
  { f := 12, L := [10], D := [(22, [(0, 1), (1, 1), (2, 1), (3, 1), (4, 1), (5, 1), (6, 1), (7, 1), (8, 1), (9, 1), (10, 1), (11, 1), (12, 1), (13, 1), (14, 0)])] },
  { f := 23, L := [], D := [] },
  { f := 24, L := [], D := [] },
  { f := 27, L := [5], D := [] }]

theorem tabC_ok : tabOk Try.prog tabC = true := by kernel_rfl
theorem F9_run : rIs (rCall 2000 Try.prog tabC 40 9 [] AHeap.none) true = true := by kernel_rfl
theorem F9_spec0 (h : AHeap) : ACalls Try.prog 9 [] h (fun v' h'' => v' = (.bool true : Value) ∧ h'' = h) := acalls_run good 2000 40 tabC tabC_ok F9_run rfl h
def F9 : Unit := ()
theorem F9_spec (h : AHeap) (r : Unit) (_ : F9 = r) : ACalls Try.prog 9 [] h (fun v' h'' => v' = (.bool true : Value) ∧ h'' = h) := F9_spec0 h
def tab : List FEnt := [
  { f := 5, L := [4], D := [] },
  { f := 15, L := [5], D := [] },
  { f := 16, L := [2, 3, 5], D := [] },
  { f := 23, L := [], D := [] }]

theorem tab_ok : tabOk Try.prog tab = true := by kernel_rfl
def enc59 (x : Int × Int × Int) : List Value := [.int .u8 x.1, .int .u8 x.2.1, .int .u8 x.2.2]
def E59 (h : AHeap) (cs : List Value) (x : Int × Int × Int) : Prop := cs = enc59 x
theorem E59_mono {h h' : AHeap} (le : h.sub h') (cs : List Value) (x : Int × Int × Int) (H : E59 h cs x) : E59 h' cs x := H
def W59 (x : Int × Int × Int) : Prop := (Lit.int .u8 x.1).wf = true ∧ (Lit.int .u8 x.2.1).wf = true ∧ (Lit.int .u8 x.2.2).wf = true ∧ True
set_option maxRecDepth 100000 in
theorem E59_wt {h : AHeap} {n : Nat} {cs : List Value} (H : WT Try.prog h n 59 cs) : ∃ x, E59 h cs x ∧ W59 x := by
  have k : SQ Try.prog h [.int .u8, .int .u8, .int .u8] cs := wt_flatS 2 n (by kernel_rfl) H
  obtain ⟨x0, r0, rfl, w0, k0⟩ := sq_int k
  obtain ⟨x1, r1, rfl, w1, k1⟩ := sq_int k0
  obtain ⟨x2, r2, rfl, w2, k2⟩ := sq_int k1
  obtain rfl := sq_nil k2
  exact ⟨(x0, x1, x2), rfl, ⟨w0, w1, w2, trivial⟩⟩
def enc38 (x : Int × Int × Int) : List Value := [.int .i64 x.1, .int .i64 x.2.1, .int .i64 x.2.2]
def E38 (h : AHeap) (cs : List Value) (x : Int × Int × Int) : Prop := cs = enc38 x
theorem E38_mono {h h' : AHeap} (le : h.sub h') (cs : List Value) (x : Int × Int × Int) (H : E38 h cs x) : E38 h' cs x := H
def W38 (x : Int × Int × Int) : Prop := (Lit.int .i64 x.1).wf = true ∧ (Lit.int .i64 x.2.1).wf = true ∧ (Lit.int .i64 x.2.2).wf = true ∧ True
set_option maxRecDepth 100000 in
theorem E38_wt {h : AHeap} {n : Nat} {cs : List Value} (H : WT Try.prog h n 38 cs) : ∃ x, E38 h cs x ∧ W38 x := by
  have k : SQ Try.prog h [.int .i64, .int .i64, .int .i64] cs := wt_flatS 2 n (by kernel_rfl) H
  obtain ⟨x0, r0, rfl, w0, k0⟩ := sq_int k
  obtain ⟨x1, r1, rfl, w1, k1⟩ := sq_int k0
  obtain ⟨x2, r2, rfl, w2, k2⟩ := sq_int k1
  obtain rfl := sq_nil k2
  exact ⟨(x0, x1, x2), rfl, ⟨w0, w1, w2, trivial⟩⟩
/-! 15 jacquard/jacquardref46.Made -/
def F15_L : List Nat := [5]
def F15_D : List (Nat × List (Nat × Nat)) := []
def F15__1 (l5 : List (Int × Int × Int)) (y8 : Int × Int × Int) : Int := (IntKind.i64.wrap ((IntKind.i64.wrap ((l5.length : Int) - 1)) - ((IntKind.i64.wrap (y8.2.1)).tmod (l5.length : Int))))
def F15__2 (l5 : List (Int × Int × Int)) (y8 : Int × Int × Int) : Int := (IntKind.i64.wrap ((IntKind.i64.wrap ((l5.length : Int) - 1)) - ((IntKind.i64.wrap (y8.2.2)).tmod (l5.length : Int))))
def F15_m1_1 : List Bool := [true, true, true, false, true, true, true, true, true, true, true, true, true, true, true, true, true, true, true, true, true, true, true, true, true, true, true, true, true, true, true, true, true, true, true, true, true, true, true, true, true, true, true, true, true, true, true, true, true, true, true, true, true, true, true, true, true, true, true, true, true, true]
def F15_m1_0 : List Bool := [false, true, true, false, false, true, true, true, true, true, true, true, true, true, true, true, true, true, true, true, true, true, true, true, true, true, true, true, true, true, true, true, true, true, true, true, true, true, true, true, true, true, true, true, true, true, true, true, true, true, true, true, true, true, true, true, true, true, true, true, true, true]
def F15_s1 (l1 : List (Int × Int × Int)) (a4 : Int) (l5 : List (Int × Int × Int)) : Option ((Int × (List (Int × Int × Int))) ⊕ (List (Int × Int × Int))) :=
  (bif decide (a4 < (l1.length : Int)) then
   (Option.bind (at? l1 a4) fun y8 =>
   (bif decide ((IntKind.i64.wrap (1 + (IntKind.i64.wrap ((y8.1.tmod 7))))) ≥ 4) then
    (bif ((l5.length : Int) == 0) then none else
    (bif decide ((IntKind.i64.wrap (1 + (IntKind.i64.wrap ((y8.1.tmod 7))))) ≥ 5) then
     (bif (!(okApp (l5.length + ([((IntKind.i64.wrap (1 + (IntKind.i64.wrap ((y8.1.tmod 7))))), (F15__1 l5 y8), (F15__2 l5 y8))] : List (Int × Int × Int)).length) 24)) then none else
     some (.inl ((IntKind.i64.wrap (a4 + 1)), (l5 ++ ([((IntKind.i64.wrap (1 + (IntKind.i64.wrap ((y8.1.tmod 7))))), (F15__1 l5 y8), (F15__2 l5 y8))] : List (Int × Int × Int))))))
    else
     (bif (!(okApp (l5.length + ([((IntKind.i64.wrap (1 + (IntKind.i64.wrap ((y8.1.tmod 7))))), (F15__1 l5 y8), 0)] : List (Int × Int × Int)).length) 24)) then none else
     some (.inl ((IntKind.i64.wrap (a4 + 1)), (l5 ++ ([((IntKind.i64.wrap (1 + (IntKind.i64.wrap ((y8.1.tmod 7))))), (F15__1 l5 y8), 0)] : List (Int × Int × Int))))))))
   else
    (bif decide ((IntKind.i64.wrap (1 + (IntKind.i64.wrap ((y8.1.tmod 7))))) ≥ 5) then
     (bif ((l5.length : Int) == 0) then none else
     (bif (!(okApp (l5.length + ([((IntKind.i64.wrap (1 + (IntKind.i64.wrap ((y8.1.tmod 7))))), 0, (F15__2 l5 y8))] : List (Int × Int × Int)).length) 24)) then none else
     some (.inl ((IntKind.i64.wrap (a4 + 1)), (l5 ++ ([((IntKind.i64.wrap (1 + (IntKind.i64.wrap ((y8.1.tmod 7))))), 0, (F15__2 l5 y8))] : List (Int × Int × Int)))))))
    else
     (bif (!(okApp (l5.length + ([((IntKind.i64.wrap (1 + (IntKind.i64.wrap ((y8.1.tmod 7))))), 0, 0)] : List (Int × Int × Int)).length) 24)) then none else
     some (.inl ((IntKind.i64.wrap (a4 + 1)), (l5 ++ ([((IntKind.i64.wrap (1 + (IntKind.i64.wrap ((y8.1.tmod 7))))), 0, 0)] : List (Int × Int × Int)))))))))
  else
   some (.inr l5))
def F15_h1 (v1 : Hd) (h6 : AHeap) (u5 : Hd) (a4 : Int) (l5 : List (Int × Int × Int)) : AS := ⟨[(sv v1), junk, junk, (sv u5), .int .i64 a4, junk, junk, junk, junk, junk, junk, junk, junk, junk, junk, junk, junk, junk, junk, junk, junk, junk, junk, junk, junk, junk, junk, junk, junk, junk, junk, junk, junk, junk, junk, junk, junk, junk, junk, junk, junk, junk, junk, junk, junk, junk, junk, junk, junk, junk, junk, junk, junk, junk, junk, junk, junk, junk, junk, junk, junk, junk], [], h6⟩
theorem F15_d1 : drawsOk F15_D (codeOf Try.prog 15 [1, 1, 0, 1, 0, 0]) = true := by kernel_rfl
def F15_x1_0 (h : AHeap) (hx : AHeap) (w0 : Hd) (r : (List (Int × Int × Int))) : AS := ⟨[junk, junk, junk, (sv w0), junk, junk, junk, junk, junk, junk, junk, junk, junk, junk, junk, junk, junk, junk, junk, junk, junk, junk, junk, junk, junk, junk, junk, junk, junk, junk, junk, junk, junk, junk, junk, junk, junk, junk, junk, junk, junk, junk, junk, junk, junk, junk, junk, junk, junk, junk, junk, junk, junk, junk, junk, junk, junk, junk, junk, junk, junk, junk], [], hx⟩
def F15_i1 (h : AHeap) (v1 : Hd) (s : Int × (List (Int × Int × Int))) (S : AS) : Prop := ∃ (h6 : AHeap) (u5 : Hd), Heapy h h6 [⟨u5, 38, 3, List.flatMap enc38 s.2⟩] ∧ S = (F15_h1 v1 h6 u5 s.1 s.2)
def F15_x1 (h : AHeap) (r : (List (Int × Int × Int))) (e : Exit) (S : AS) : Prop := e = (.exit 0) ∧ ∃ (hx : AHeap) (w0 : Hd), Heapy h hx [⟨w0, 38, 3, List.flatMap enc38 r⟩] ∧ S = (F15_x1_0 h hx w0 r)
set_option maxRecDepth 100000 in
theorem F15_r1 (h : AHeap) (l1 : List (Int × Int × Int)) (v1 : Hd) (hv1 : SlE E59 3 h (sv v1) l1) (a4 : Int) (l5 : List (Int × Int × Int)) (S : AS) (hI : (F15_i1 h v1) (a4, l5) S) (o : (Int × (List (Int × Int × Int))) ⊕ (List (Int × Int × Int))) : F15_s1 l1 a4 l5 = some o → Rd Try.prog (codeOf Try.prog 15 [1, 1, 0, 1, 0, 0]) (F15_i1 h v1) (F15_x1 h) S o := by
  obtain ⟨h6, u5, hp6, rfl⟩ := hI
  unfold F15_s1
  refine dec_bif (fun c7 => ?_) (fun c7 => ?_)
  · refine bind_opt fun y8 e8 => ?_
    obtain ⟨id8, off8, g8, cs8, ix8, at8, rfl⟩ := SlE.at hv1 e8
    refine dec_bif (fun c9 => ?_) (fun c9 => ?_)
    · refine guard_ok fun g10 => ?_
      refine dec_bif (fun c11 => ?_) (fun c11 => ?_)
      · obtain ⟨v12, h12, m12, hp12, _⟩ := Heapy.build (P := Try.prog) hp6 (t := 22) (e := 38) (len := 1) (n := 3) (parts := [(0, .agg #[.int .i64 (IntKind.i64.wrap (1 + (IntKind.i64.wrap ((y8.1.tmod 7))))), .int .i64 (F15__1 l5 y8), .int .i64 (F15__2 l5 y8)])]) (cells := List.flatMap enc38 ([((IntKind.i64.wrap (1 + (IntKind.i64.wrap ((y8.1.tmod 7))))), (F15__1 l5 y8), (F15__2 l5 y8))] : List (Int × Int × Int))) (by kernel_rfl) rfl
        refine guard_ok fun g14 => ?_
        obtain ⟨v15, h15, m15, q15, _⟩ := Heapy.append hp12 (show mkInfo Try.prog 22 = some (38, 3, 24, [.int .i64 0, .int .i64 0, .int .i64 0]) by kernel_rfl) 1 (v := u5) (cells := List.flatMap enc38 l5) rfl (Y := (sv v12)) (SlE.src (enc := enc38) (c := 3) (Heapy.sle (v := v12) (xs := ([((IntKind.i64.wrap (1 + (IntKind.i64.wrap ((y8.1.tmod 7))))), (F15__1 l5 y8), (F15__2 l5 y8))] : List (Int × Int × Int))) (enc := enc38) hp12 0 rfl (fun _ => rfl) (by decide)) (fun _ => rfl)) (flatMap_length (enc := enc38) (c := 3) (fun _ => rfl) _) (by rw [Heapy.vn (v := u5) (xs := l5) (enc := enc38) hp12 1 rfl (fun _ => rfl) (by decide)]; simpa using g14)
        have hp15 : Heapy h h15 [⟨v12, 38, 3, List.flatMap enc38 ([((IntKind.i64.wrap (1 + (IntKind.i64.wrap ((y8.1.tmod 7))))), (F15__1 l5 y8), (F15__2 l5 y8))] : List (Int × Int × Int))⟩, ⟨v15, 38, 3, List.flatMap enc38 (l5 ++ ([((IntKind.i64.wrap (1 + (IntKind.i64.wrap ((y8.1.tmod 7))))), (F15__1 l5 y8), (F15__2 l5 y8))] : List (Int × Int × Int)))⟩] := by rw [← List.flatMap_append] at q15; exact q15
        intro hr
        obtain rfl := Option.some.inj hr
        exact ⟨(F15_h1 v1 h15 v15 (IntKind.i64.wrap (a4 + 1)) (l5 ++ ([((IntKind.i64.wrap (1 + (IntKind.i64.wrap ((y8.1.tmod 7))))), (F15__1 l5 y8), (F15__2 l5 y8))] : List (Int × Int × Int)))), ⟨h15, v15, (Heapy.pick hp15 [1] (by decide)), rfl⟩, pEnd_sound good (L := F15_L) (D := F15_D) (its := [.g, .g, (.ln l1.length), .g, (.b true), .g, .g, (.ix id8 off8 g8), .g, (.ld (.int .u8 y8.1)), .g, .g, .g, .g, .g, .g, .g, .g, .g, (.b true), .g, (.ln l5.length), .g, .g, .g, (.ix id8 off8 g8), .g, (.ld (.int .u8 y8.2.1)), .g, .g, (.ln l5.length), .d, .g, .g, .g, .g, .g, .g, (.b true), .g, (.ln l5.length), .g, .g, .g, (.ix id8 off8 g8), .g, (.ld (.int .u8 y8.2.2)), .g, .g, (.ln l5.length), .d, .g, .g, .g, .g, .g, (.mm (sv v12) h12), (.mm (sv v15) h15), .g, .g, .g, .g]) (ds := F15_m1_0) (ks := [5]) (e := .normal) (s2 := (F15_h1 v1 h15 v15 (IntKind.i64.wrap (a4 + 1)) (l5 ++ ([((IntKind.i64.wrap (1 + (IntKind.i64.wrap ((y8.1.tmod 7))))), (F15__1 l5 y8), (F15__2 l5 y8))] : List (Int × Int × Int))))) (hC := (And.intro m15 (And.intro m12 (And.intro (nz g10) (And.intro (SlE.len (Heapy.sle (v := u5) (xs := l5) (enc := enc38) hp6 0 rfl (fun _ => rfl) (by decide))) (And.intro (At.one (P := Try.prog) (t := 5) (v := .int .u8 y8.2.2) (At.mono (Heapy.sub hp6) at8) (by kernel_rfl) 2 rfl rfl) (And.intro ix8 (And.intro (SlE.len (Heapy.sle (v := u5) (xs := l5) (enc := enc38) hp6 0 rfl (fun _ => rfl) (by decide))) (And.intro c11 (And.intro (nz g10) (And.intro (SlE.len (Heapy.sle (v := u5) (xs := l5) (enc := enc38) hp6 0 rfl (fun _ => rfl) (by decide))) (And.intro (At.one (P := Try.prog) (t := 5) (v := .int .u8 y8.2.1) (At.mono (Heapy.sub hp6) at8) (by kernel_rfl) 1 rfl rfl) (And.intro ix8 (And.intro (SlE.len (Heapy.sle (v := u5) (xs := l5) (enc := enc38) hp6 0 rfl (fun _ => rfl) (by decide))) (And.intro c9 (And.intro (At.one (P := Try.prog) (t := 5) (v := .int .u8 y8.1) (At.mono (Heapy.sub hp6) at8) (by kernel_rfl) 0 rfl rfl) (And.intro ix8 (And.intro c7 (And.intro (SlE.len hv1) trivial))))))))))))))))))) (hd := F15_d1) (h := by kernel_rfl)⟩
      · obtain ⟨v17, h17, m17, hp17, _⟩ := Heapy.build (P := Try.prog) hp6 (t := 22) (e := 38) (len := 1) (n := 3) (parts := [(0, .agg #[.int .i64 (IntKind.i64.wrap (1 + (IntKind.i64.wrap ((y8.1.tmod 7))))), .int .i64 (F15__1 l5 y8), .int .i64 0])]) (cells := List.flatMap enc38 ([((IntKind.i64.wrap (1 + (IntKind.i64.wrap ((y8.1.tmod 7))))), (F15__1 l5 y8), 0)] : List (Int × Int × Int))) (by kernel_rfl) rfl
        refine guard_ok fun g19 => ?_
        obtain ⟨v20, h20, m20, q20, _⟩ := Heapy.append hp17 (show mkInfo Try.prog 22 = some (38, 3, 24, [.int .i64 0, .int .i64 0, .int .i64 0]) by kernel_rfl) 1 (v := u5) (cells := List.flatMap enc38 l5) rfl (Y := (sv v17)) (SlE.src (enc := enc38) (c := 3) (Heapy.sle (v := v17) (xs := ([((IntKind.i64.wrap (1 + (IntKind.i64.wrap ((y8.1.tmod 7))))), (F15__1 l5 y8), 0)] : List (Int × Int × Int))) (enc := enc38) hp17 0 rfl (fun _ => rfl) (by decide)) (fun _ => rfl)) (flatMap_length (enc := enc38) (c := 3) (fun _ => rfl) _) (by rw [Heapy.vn (v := u5) (xs := l5) (enc := enc38) hp17 1 rfl (fun _ => rfl) (by decide)]; simpa using g19)
        have hp20 : Heapy h h20 [⟨v17, 38, 3, List.flatMap enc38 ([((IntKind.i64.wrap (1 + (IntKind.i64.wrap ((y8.1.tmod 7))))), (F15__1 l5 y8), 0)] : List (Int × Int × Int))⟩, ⟨v20, 38, 3, List.flatMap enc38 (l5 ++ ([((IntKind.i64.wrap (1 + (IntKind.i64.wrap ((y8.1.tmod 7))))), (F15__1 l5 y8), 0)] : List (Int × Int × Int)))⟩] := by rw [← List.flatMap_append] at q20; exact q20
        intro hr
        obtain rfl := Option.some.inj hr
        exact ⟨(F15_h1 v1 h20 v20 (IntKind.i64.wrap (a4 + 1)) (l5 ++ ([((IntKind.i64.wrap (1 + (IntKind.i64.wrap ((y8.1.tmod 7))))), (F15__1 l5 y8), 0)] : List (Int × Int × Int)))), ⟨h20, v20, (Heapy.pick hp20 [1] (by decide)), rfl⟩, pEnd_sound good (L := F15_L) (D := F15_D) (its := [.g, .g, (.ln l1.length), .g, (.b true), .g, .g, (.ix id8 off8 g8), .g, (.ld (.int .u8 y8.1)), .g, .g, .g, .g, .g, .g, .g, .g, .g, (.b true), .g, (.ln l5.length), .g, .g, .g, (.ix id8 off8 g8), .g, (.ld (.int .u8 y8.2.1)), .g, .g, (.ln l5.length), .d, .g, .g, .g, .g, .g, .g, (.b false), .g, .g, (.mm (sv v17) h17), (.mm (sv v20) h20), .g, .g, .g, .g]) (ds := F15_m1_0) (ks := [5]) (e := .normal) (s2 := (F15_h1 v1 h20 v20 (IntKind.i64.wrap (a4 + 1)) (l5 ++ ([((IntKind.i64.wrap (1 + (IntKind.i64.wrap ((y8.1.tmod 7))))), (F15__1 l5 y8), 0)] : List (Int × Int × Int))))) (hC := (And.intro m20 (And.intro m17 (And.intro c11 (And.intro (nz g10) (And.intro (SlE.len (Heapy.sle (v := u5) (xs := l5) (enc := enc38) hp6 0 rfl (fun _ => rfl) (by decide))) (And.intro (At.one (P := Try.prog) (t := 5) (v := .int .u8 y8.2.1) (At.mono (Heapy.sub hp6) at8) (by kernel_rfl) 1 rfl rfl) (And.intro ix8 (And.intro (SlE.len (Heapy.sle (v := u5) (xs := l5) (enc := enc38) hp6 0 rfl (fun _ => rfl) (by decide))) (And.intro c9 (And.intro (At.one (P := Try.prog) (t := 5) (v := .int .u8 y8.1) (At.mono (Heapy.sub hp6) at8) (by kernel_rfl) 0 rfl rfl) (And.intro ix8 (And.intro c7 (And.intro (SlE.len hv1) trivial)))))))))))))) (hd := F15_d1) (h := by kernel_rfl)⟩
    · refine dec_bif (fun c22 => ?_) (fun c22 => ?_)
      · refine guard_ok fun g23 => ?_
        obtain ⟨v24, h24, m24, hp24, _⟩ := Heapy.build (P := Try.prog) hp6 (t := 22) (e := 38) (len := 1) (n := 3) (parts := [(0, .agg #[.int .i64 (IntKind.i64.wrap (1 + (IntKind.i64.wrap ((y8.1.tmod 7))))), .int .i64 0, .int .i64 (F15__2 l5 y8)])]) (cells := List.flatMap enc38 ([((IntKind.i64.wrap (1 + (IntKind.i64.wrap ((y8.1.tmod 7))))), 0, (F15__2 l5 y8))] : List (Int × Int × Int))) (by kernel_rfl) rfl
        refine guard_ok fun g26 => ?_
        obtain ⟨v27, h27, m27, q27, _⟩ := Heapy.append hp24 (show mkInfo Try.prog 22 = some (38, 3, 24, [.int .i64 0, .int .i64 0, .int .i64 0]) by kernel_rfl) 1 (v := u5) (cells := List.flatMap enc38 l5) rfl (Y := (sv v24)) (SlE.src (enc := enc38) (c := 3) (Heapy.sle (v := v24) (xs := ([((IntKind.i64.wrap (1 + (IntKind.i64.wrap ((y8.1.tmod 7))))), 0, (F15__2 l5 y8))] : List (Int × Int × Int))) (enc := enc38) hp24 0 rfl (fun _ => rfl) (by decide)) (fun _ => rfl)) (flatMap_length (enc := enc38) (c := 3) (fun _ => rfl) _) (by rw [Heapy.vn (v := u5) (xs := l5) (enc := enc38) hp24 1 rfl (fun _ => rfl) (by decide)]; simpa using g26)
        have hp27 : Heapy h h27 [⟨v24, 38, 3, List.flatMap enc38 ([((IntKind.i64.wrap (1 + (IntKind.i64.wrap ((y8.1.tmod 7))))), 0, (F15__2 l5 y8))] : List (Int × Int × Int))⟩, ⟨v27, 38, 3, List.flatMap enc38 (l5 ++ ([((IntKind.i64.wrap (1 + (IntKind.i64.wrap ((y8.1.tmod 7))))), 0, (F15__2 l5 y8))] : List (Int × Int × Int)))⟩] := by rw [← List.flatMap_append] at q27; exact q27
        intro hr
        obtain rfl := Option.some.inj hr
        exact ⟨(F15_h1 v1 h27 v27 (IntKind.i64.wrap (a4 + 1)) (l5 ++ ([((IntKind.i64.wrap (1 + (IntKind.i64.wrap ((y8.1.tmod 7))))), 0, (F15__2 l5 y8))] : List (Int × Int × Int)))), ⟨h27, v27, (Heapy.pick hp27 [1] (by decide)), rfl⟩, pEnd_sound good (L := F15_L) (D := F15_D) (its := [.g, .g, (.ln l1.length), .g, (.b true), .g, .g, (.ix id8 off8 g8), .g, (.ld (.int .u8 y8.1)), .g, .g, .g, .g, .g, .g, .g, .g, .g, (.b false), .g, .g, .g, (.b true), .g, (.ln l5.length), .g, .g, .g, (.ix id8 off8 g8), .g, (.ld (.int .u8 y8.2.2)), .g, .g, (.ln l5.length), .d, .g, .g, .g, .g, .g, (.mm (sv v24) h24), (.mm (sv v27) h27), .g, .g, .g, .g]) (ds := F15_m1_0) (ks := [5]) (e := .normal) (s2 := (F15_h1 v1 h27 v27 (IntKind.i64.wrap (a4 + 1)) (l5 ++ ([((IntKind.i64.wrap (1 + (IntKind.i64.wrap ((y8.1.tmod 7))))), 0, (F15__2 l5 y8))] : List (Int × Int × Int))))) (hC := (And.intro m27 (And.intro m24 (And.intro (nz g23) (And.intro (SlE.len (Heapy.sle (v := u5) (xs := l5) (enc := enc38) hp6 0 rfl (fun _ => rfl) (by decide))) (And.intro (At.one (P := Try.prog) (t := 5) (v := .int .u8 y8.2.2) (At.mono (Heapy.sub hp6) at8) (by kernel_rfl) 2 rfl rfl) (And.intro ix8 (And.intro (SlE.len (Heapy.sle (v := u5) (xs := l5) (enc := enc38) hp6 0 rfl (fun _ => rfl) (by decide))) (And.intro c22 (And.intro c9 (And.intro (At.one (P := Try.prog) (t := 5) (v := .int .u8 y8.1) (At.mono (Heapy.sub hp6) at8) (by kernel_rfl) 0 rfl rfl) (And.intro ix8 (And.intro c7 (And.intro (SlE.len hv1) trivial)))))))))))))) (hd := F15_d1) (h := by kernel_rfl)⟩
      · obtain ⟨v29, h29, m29, hp29, _⟩ := Heapy.build (P := Try.prog) hp6 (t := 22) (e := 38) (len := 1) (n := 3) (parts := [(0, .agg #[.int .i64 (IntKind.i64.wrap (1 + (IntKind.i64.wrap ((y8.1.tmod 7))))), .int .i64 0, .int .i64 0])]) (cells := List.flatMap enc38 ([((IntKind.i64.wrap (1 + (IntKind.i64.wrap ((y8.1.tmod 7))))), 0, 0)] : List (Int × Int × Int))) (by kernel_rfl) rfl
        refine guard_ok fun g31 => ?_
        obtain ⟨v32, h32, m32, q32, _⟩ := Heapy.append hp29 (show mkInfo Try.prog 22 = some (38, 3, 24, [.int .i64 0, .int .i64 0, .int .i64 0]) by kernel_rfl) 1 (v := u5) (cells := List.flatMap enc38 l5) rfl (Y := (sv v29)) (SlE.src (enc := enc38) (c := 3) (Heapy.sle (v := v29) (xs := ([((IntKind.i64.wrap (1 + (IntKind.i64.wrap ((y8.1.tmod 7))))), 0, 0)] : List (Int × Int × Int))) (enc := enc38) hp29 0 rfl (fun _ => rfl) (by decide)) (fun _ => rfl)) (flatMap_length (enc := enc38) (c := 3) (fun _ => rfl) _) (by rw [Heapy.vn (v := u5) (xs := l5) (enc := enc38) hp29 1 rfl (fun _ => rfl) (by decide)]; simpa using g31)
        have hp32 : Heapy h h32 [⟨v29, 38, 3, List.flatMap enc38 ([((IntKind.i64.wrap (1 + (IntKind.i64.wrap ((y8.1.tmod 7))))), 0, 0)] : List (Int × Int × Int))⟩, ⟨v32, 38, 3, List.flatMap enc38 (l5 ++ ([((IntKind.i64.wrap (1 + (IntKind.i64.wrap ((y8.1.tmod 7))))), 0, 0)] : List (Int × Int × Int)))⟩] := by rw [← List.flatMap_append] at q32; exact q32
        intro hr
        obtain rfl := Option.some.inj hr
        exact ⟨(F15_h1 v1 h32 v32 (IntKind.i64.wrap (a4 + 1)) (l5 ++ ([((IntKind.i64.wrap (1 + (IntKind.i64.wrap ((y8.1.tmod 7))))), 0, 0)] : List (Int × Int × Int)))), ⟨h32, v32, (Heapy.pick hp32 [1] (by decide)), rfl⟩, pEnd_sound good (L := F15_L) (D := F15_D) (its := [.g, .g, (.ln l1.length), .g, (.b true), .g, .g, (.ix id8 off8 g8), .g, (.ld (.int .u8 y8.1)), .g, .g, .g, .g, .g, .g, .g, .g, .g, (.b false), .g, .g, .g, (.b false), .g, .g, (.mm (sv v29) h29), (.mm (sv v32) h32), .g, .g, .g, .g]) (ds := F15_m1_0) (ks := [5]) (e := .normal) (s2 := (F15_h1 v1 h32 v32 (IntKind.i64.wrap (a4 + 1)) (l5 ++ ([((IntKind.i64.wrap (1 + (IntKind.i64.wrap ((y8.1.tmod 7))))), 0, 0)] : List (Int × Int × Int))))) (hC := (And.intro m32 (And.intro m29 (And.intro c22 (And.intro c9 (And.intro (At.one (P := Try.prog) (t := 5) (v := .int .u8 y8.1) (At.mono (Heapy.sub hp6) at8) (by kernel_rfl) 0 rfl rfl) (And.intro ix8 (And.intro c7 (And.intro (SlE.len hv1) trivial))))))))) (hd := F15_d1) (h := by kernel_rfl)⟩
  · intro hr
    obtain rfl := Option.some.inj hr
    refine ⟨(.exit 0), (F15_x1_0 h h6 u5 (l5 : (List (Int × Int × Int)))), (by intro hh; cases hh), ?_, pEnd_sound good (L := F15_L) (D := F15_D) (its := [.g, .g, (.ln l1.length), .g, (.b false)]) (ds := F15_m1_1) (ks := []) (e := (.exit 0)) (s2 := (F15_x1_0 h h6 u5 (l5 : (List (Int × Int × Int))))) (hC := (And.intro c7 (And.intro (SlE.len hv1) trivial))) (hd := F15_d1) (h := by kernel_rfl)⟩
    exact ⟨rfl, h6, u5, (Heapy.pick hp6 [0] (by decide)), rfl⟩
theorem F15_l1 (h : AHeap) (l1 : List (Int × Int × Int)) (v1 : Hd) (hv1 : SlE E59 3 h (sv v1) l1) (x : Int × (List (Int × Int × Int))) (r : (List (Int × Int × Int))) (hl : loopO (fun (s : Int × (List (Int × Int × Int))) => F15_s1 l1 s.1 s.2) x = some r) (S : AS) (hI : (F15_i1 h v1) x S) : ∃ e S', (F15_x1 h) r e S' ∧ AWp Try.prog (.loop (codeOf Try.prog 15 [1, 1, 0, 1, 0, 0])) (Ends1 e S') S :=
  loop_rel (fun x S hI => F15_r1 h l1 v1 hv1 x.1 x.2 S hI) hl hI
def F15 (l1 : List (Int × Int × Int)) : Option ((List (Int × Int × Int))) :=
  (Option.bind (loopO (fun (s : Int × (List (Int × Int × Int))) => F15_s1 l1 s.1 s.2) (0, ([(3, 0, 0)] : List (Int × Int × Int)))) fun y34 =>
  some (y34))
set_option maxRecDepth 100000 in
theorem F15_spec (l1 : List (Int × Int × Int)) (v1 : Hd) (h : AHeap) (hw : h.wf) (hv1 : SlE E59 3 h (sv v1) l1) (r : (List (Int × Int × Int))) : F15 l1 = some r → ∃ (ur0 : Hd) (h' : AHeap), Heapy h h' [⟨ur0, 38, 3, List.flatMap enc38 r⟩] ∧ ACalls Try.prog 15 [(sv v1)] h (fun v' h'' => v' = ((sv ur0) : Value) ∧ h'' = h') := by
  unfold F15
  obtain ⟨v2, h2, m2, hp2, _⟩ := Heapy.build (P := Try.prog) (Heapy.refl hw) (t := 22) (e := 38) (len := 1) (n := 3) (parts := [(0, .agg #[.int .i64 3, .int .i64 0, .int .i64 0])]) (cells := List.flatMap enc38 ([(3, 0, 0)] : List (Int × Int × Int))) (by kernel_rfl) rfl
  refine bind_opt fun y34 e34 => ?_
  obtain ⟨ee34, SS34, hX34, hA34⟩ := F15_l1 h l1 v1 hv1 (0, ([(3, 0, 0)] : List (Int × Int × Int))) y34 e34 (F15_h1 v1 h2 v2 0 ([(3, 0, 0)] : List (Int × Int × Int))) ⟨h2, v2, (Heapy.pick hp2 [0] (by decide)), rfl⟩
  obtain ⟨rfl, h35, w0_35, hp35, rfl⟩ := hX34
  intro hr
  obtain rfl := Option.some.inj hr
  exact ⟨w0_35, h35, Heapy.pick hp35 [0] (by decide), pFun_sound good tab_ok (f := 15) (its := [.g, .g, (.mm (sv v2) h2), .g, .g, (.l F15_m1_0 [] (.exit 0) (F15_x1_0 h h35 w0_35 y34)), .g, .g]) (args := [(sv v1)]) (h := h) (h' := h35) (v := (sv w0_35)) (hC := (And.intro hA34 (And.intro m2 trivial))) (hr := by kernel_rfl)⟩
/-! 23 jacquard/gates.operands -/
def F23 (x1 : Int) : Int :=
  (bif (x1 == 1) then
   0
  else
   (bif (x1 == 2) then
    0
   else
    (bif (x1 == 3) then
     0
    else
     (bif (x1 == 4) then
      1
     else
      (bif (x1 == 5) then
       2
      else
       (bif (x1 == 6) then
        2
       else
        (bif (x1 == 7) then
         2
        else
         (-1))))))))
set_option maxRecDepth 100000 in
theorem F23_spec (x1 : Int) (h : AHeap)  (r : Int) : F23 x1 = r → ACalls Try.prog 23 [.int .i64 x1] h (fun v' h'' => v' = (.int .i64 r : Value) ∧ h'' = h) := by
  unfold F23
  refine dec_bif (fun c2 => ?_) (fun c2 => ?_)
  · intro hr
    subst hr
    exact pFun_sound good tab_ok (f := 23) (its := [.g, .g, .g, .g, (.b true), (.b true), .g]) (args := [.int .i64 x1]) (h := h) (h' := h) (v := .int .i64 0) (hC := (And.intro c2 (And.intro c2 trivial))) (hr := by kernel_rfl)
  · refine dec_bif (fun c3 => ?_) (fun c3 => ?_)
    · intro hr
      subst hr
      exact pFun_sound good tab_ok (f := 23) (its := [.g, .g, .g, .g, (.b false), .g, .g, (.b true), (.b true), .g]) (args := [.int .i64 x1]) (h := h) (h' := h) (v := .int .i64 0) (hC := (And.intro c3 (And.intro c3 (And.intro c2 trivial)))) (hr := by kernel_rfl)
    · refine dec_bif (fun c4 => ?_) (fun c4 => ?_)
      · intro hr
        subst hr
        exact pFun_sound good tab_ok (f := 23) (its := [.g, .g, .g, .g, (.b false), .g, .g, (.b false), .g, .g, (.b true), .g]) (args := [.int .i64 x1]) (h := h) (h' := h) (v := .int .i64 0) (hC := (And.intro c4 (And.intro c3 (And.intro c2 trivial)))) (hr := by kernel_rfl)
      · refine dec_bif (fun c5 => ?_) (fun c5 => ?_)
        · intro hr
          subst hr
          exact pFun_sound good tab_ok (f := 23) (its := [.g, .g, .g, .g, (.b false), .g, .g, (.b false), .g, .g, (.b false), .g, .g, (.b true), .g]) (args := [.int .i64 x1]) (h := h) (h' := h) (v := .int .i64 1) (hC := (And.intro c5 (And.intro c4 (And.intro c3 (And.intro c2 trivial))))) (hr := by kernel_rfl)
        · refine dec_bif (fun c6 => ?_) (fun c6 => ?_)
          · intro hr
            subst hr
            exact pFun_sound good tab_ok (f := 23) (its := [.g, .g, .g, .g, (.b false), .g, .g, (.b false), .g, .g, (.b false), .g, .g, (.b false), .g, .g, (.b true), (.b true), .g]) (args := [.int .i64 x1]) (h := h) (h' := h) (v := .int .i64 2) (hC := (And.intro c6 (And.intro c6 (And.intro c5 (And.intro c4 (And.intro c3 (And.intro c2 trivial))))))) (hr := by kernel_rfl)
          · refine dec_bif (fun c7 => ?_) (fun c7 => ?_)
            · intro hr
              subst hr
              exact pFun_sound good tab_ok (f := 23) (its := [.g, .g, .g, .g, (.b false), .g, .g, (.b false), .g, .g, (.b false), .g, .g, (.b false), .g, .g, (.b false), .g, .g, (.b true), (.b true), .g]) (args := [.int .i64 x1]) (h := h) (h' := h) (v := .int .i64 2) (hC := (And.intro c7 (And.intro c7 (And.intro c6 (And.intro c5 (And.intro c4 (And.intro c3 (And.intro c2 trivial)))))))) (hr := by kernel_rfl)
            · refine dec_bif (fun c8 => ?_) (fun c8 => ?_)
              · intro hr
                subst hr
                exact pFun_sound good tab_ok (f := 23) (its := [.g, .g, .g, .g, (.b false), .g, .g, (.b false), .g, .g, (.b false), .g, .g, (.b false), .g, .g, (.b false), .g, .g, (.b false), .g, .g, (.b true), .g]) (args := [.int .i64 x1]) (h := h) (h' := h) (v := .int .i64 2) (hC := (And.intro c8 (And.intro c7 (And.intro c6 (And.intro c5 (And.intro c4 (And.intro c3 (And.intro c2 trivial)))))))) (hr := by kernel_rfl)
              · intro hr
                subst hr
                exact pFun_sound good tab_ok (f := 23) (its := [.g, .g, .g, .g, (.b false), .g, .g, (.b false), .g, .g, (.b false), .g, .g, (.b false), .g, .g, (.b false), .g, .g, (.b false), .g, .g, (.b false), .g]) (args := [.int .i64 x1]) (h := h) (h' := h) (v := .int .i64 (-1)) (hC := (And.intro c8 (And.intro c7 (And.intro c6 (And.intro c5 (And.intro c4 (And.intro c3 (And.intro c2 trivial)))))))) (hr := by kernel_rfl)
/-! 16 jacquard/gates.Count -/
def F16_L : List Nat := [2, 3, 5]
def F16_D : List (Nat × List (Nat × Nat)) := []
def F16__1 (a3 : Int) (a4 : Int) (a5 : Int) (a6 : Int) (a7 : Int) (a8 : Int) (a9 : Int) (a10 : Int) (y12 : Int × Int × Int) : Int := (IntKind.i64.wrap ((([a3, a4, a5, a6, a7, a8, a9, a10] : List Int).getD (y12.1).toNat 0) + 1))
def F16_m1_1 : List Bool := [true, true, false, false, true, true, true, true, true, true, true, true, true, true, true, true, true, true, true, true, true, true, true, true]
def F16_m1_0 : List Bool := [true, true, false, false, true, true, false, false, false, true, true, true, true, true, true, true, true, true, true, true, true, true, true, true]
def F16_s1 (l1 : List (Int × Int × Int)) (a2 : Int) (a3 : Int) (a4 : Int) (a5 : Int) (a6 : Int) (a7 : Int) (a8 : Int) (a9 : Int) (a10 : Int) : Option ((Int × Int × Int × Int × Int × Int × Int × Int × Int) ⊕ (Int × Int × Int × Int × Int × Int × Int × Int)) :=
  (bif decide (a2 < (l1.length : Int)) then
   (Option.bind (at? l1 a2) fun y12 =>
   (bif decide ((F23 y12.1) ≥ 0) then
    (bif (!(inRange y12.1 8)) then none else
    some (.inl ((IntKind.i64.wrap (a2 + 1)), (updI (y12.1).toNat 0 (F16__1 a3 a4 a5 a6 a7 a8 a9 a10 y12) a3), (updI (y12.1).toNat 1 (F16__1 a3 a4 a5 a6 a7 a8 a9 a10 y12) a4), (updI (y12.1).toNat 2 (F16__1 a3 a4 a5 a6 a7 a8 a9 a10 y12) a5), (updI (y12.1).toNat 3 (F16__1 a3 a4 a5 a6 a7 a8 a9 a10 y12) a6), (updI (y12.1).toNat 4 (F16__1 a3 a4 a5 a6 a7 a8 a9 a10 y12) a7), (updI (y12.1).toNat 5 (F16__1 a3 a4 a5 a6 a7 a8 a9 a10 y12) a8), (updI (y12.1).toNat 6 (F16__1 a3 a4 a5 a6 a7 a8 a9 a10 y12) a9), (updI (y12.1).toNat 7 (F16__1 a3 a4 a5 a6 a7 a8 a9 a10 y12) a10))))
   else
    some (.inl ((IntKind.i64.wrap (a2 + 1)), a3, a4, a5, a6, a7, a8, a9, a10))))
  else
   some (.inr (a3, a4, a5, a6, a7, a8, a9, a10)))
def F16_h1 (h : AHeap) (l1 : List (Int × Int × Int)) (v1 : Hd)  (a2 : Int) (a3 : Int) (a4 : Int) (a5 : Int) (a6 : Int) (a7 : Int) (a8 : Int) (a9 : Int) (a10 : Int) : AS := ⟨[junk, junk, .pointer (some ⟨2, 0, none⟩), .pointer (some ⟨3, 0, none⟩), junk, junk, (sv v1), .int .i64 (l1.length : Int), .int .i64 a2, junk, junk, junk, junk, junk, junk, junk, junk, junk, junk, junk, junk, junk, junk, junk], [(2, [.int .i64 0, .int .i64 0, .int .i64 0, .int .i64 0, .int .i64 0, .int .i64 0, .int .i64 0, .int .i64 0]), (3, [.int .i64 a3, .int .i64 a4, .int .i64 a5, .int .i64 a6, .int .i64 a7, .int .i64 a8, .int .i64 a9, .int .i64 a10])], h⟩
theorem F16_d1 : drawsOk F16_D (codeOf Try.prog 16 [1, 1, 0, 1, 0, 0]) = true := by kernel_rfl
def F16_x1_0 (h : AHeap)  (r : Int × Int × Int × Int × Int × Int × Int × Int) : AS := ⟨[junk, junk, .pointer (some ⟨2, 0, none⟩), .pointer (some ⟨3, 0, none⟩), junk, junk, junk, junk, junk, junk, junk, junk, junk, junk, junk, junk, junk, junk, junk, junk, junk, junk, junk, junk], [(2, [.int .i64 0, .int .i64 0, .int .i64 0, .int .i64 0, .int .i64 0, .int .i64 0, .int .i64 0, .int .i64 0]), (3, [.int .i64 r.1, .int .i64 r.2.1, .int .i64 r.2.2.1, .int .i64 r.2.2.2.1, .int .i64 r.2.2.2.2.1, .int .i64 r.2.2.2.2.2.1, .int .i64 r.2.2.2.2.2.2.1, .int .i64 r.2.2.2.2.2.2.2])], h⟩
def F16_x1 (h : AHeap) (r : Int × Int × Int × Int × Int × Int × Int × Int) : Exit × AS := ((.exit 0), (F16_x1_0 h r))
set_option maxRecDepth 100000 in
theorem F16_r1 (h : AHeap) (l1 : List (Int × Int × Int)) (v1 : Hd) (hv1 : SlE E38 3 h (sv v1) l1) (a2 : Int) (a3 : Int) (a4 : Int) (a5 : Int) (a6 : Int) (a7 : Int) (a8 : Int) (a9 : Int) (a10 : Int) (o : (Int × Int × Int × Int × Int × Int × Int × Int × Int) ⊕ (Int × Int × Int × Int × Int × Int × Int × Int)) : F16_s1 l1 a2 a3 a4 a5 a6 a7 a8 a9 a10 = some o → RdF Try.prog (codeOf Try.prog 16 [1, 1, 0, 1, 0, 0]) (fun (s : Int × Int × Int × Int × Int × Int × Int × Int × Int) => (F16_h1 h l1 v1 s.1 s.2.1 s.2.2.1 s.2.2.2.1 s.2.2.2.2.1 s.2.2.2.2.2.1 s.2.2.2.2.2.2.1 s.2.2.2.2.2.2.2.1 s.2.2.2.2.2.2.2.2)) (F16_x1 h) (F16_h1 h l1 v1 a2 a3 a4 a5 a6 a7 a8 a9 a10) o := by
  unfold F16_s1
  refine dec_bif (fun c11 => ?_) (fun c11 => ?_)
  · refine bind_opt fun y12 e12 => ?_
    obtain ⟨id12, off12, g12, cs12, ix12, at12, rfl⟩ := SlE.at hv1 e12
    refine dec_bif (fun c14 => ?_) (fun c14 => ?_)
    · refine guard_ok fun g15 => ?_
      intro hr
      obtain rfl := Option.some.inj hr
      show AWp Try.prog _ (Ends1 .normal (F16_h1 h l1 v1 (IntKind.i64.wrap (a2 + 1)) (updI (y12.1).toNat 0 (F16__1 a3 a4 a5 a6 a7 a8 a9 a10 y12) a3) (updI (y12.1).toNat 1 (F16__1 a3 a4 a5 a6 a7 a8 a9 a10 y12) a4) (updI (y12.1).toNat 2 (F16__1 a3 a4 a5 a6 a7 a8 a9 a10 y12) a5) (updI (y12.1).toNat 3 (F16__1 a3 a4 a5 a6 a7 a8 a9 a10 y12) a6) (updI (y12.1).toNat 4 (F16__1 a3 a4 a5 a6 a7 a8 a9 a10 y12) a7) (updI (y12.1).toNat 5 (F16__1 a3 a4 a5 a6 a7 a8 a9 a10 y12) a8) (updI (y12.1).toNat 6 (F16__1 a3 a4 a5 a6 a7 a8 a9 a10 y12) a9) (updI (y12.1).toNat 7 (F16__1 a3 a4 a5 a6 a7 a8 a9 a10 y12) a10))) _
      exact pEnd_sound good (L := F16_L) (D := F16_D) (its := [.g, (.b true), (.ix id12 off12 g12), (.ld (.agg #[.int .i64 y12.1, .int .i64 y12.2.1, .int .i64 y12.2.2])), .g, .g, .g, .g, (.c (.int .i64 (F23 y12.1)) h), .g, (.b true), .g, .g, .ia, (.ld (.int .i64 (([a3, a4, a5, a6, a7, a8, a9, a10] : List Int).getD (y12.1).toNat 0))), .g, .ia, (.ls [.int .i64 (updI (y12.1).toNat 0 (F16__1 a3 a4 a5 a6 a7 a8 a9 a10 y12) a3), .int .i64 (updI (y12.1).toNat 1 (F16__1 a3 a4 a5 a6 a7 a8 a9 a10 y12) a4), .int .i64 (updI (y12.1).toNat 2 (F16__1 a3 a4 a5 a6 a7 a8 a9 a10 y12) a5), .int .i64 (updI (y12.1).toNat 3 (F16__1 a3 a4 a5 a6 a7 a8 a9 a10 y12) a6), .int .i64 (updI (y12.1).toNat 4 (F16__1 a3 a4 a5 a6 a7 a8 a9 a10 y12) a7), .int .i64 (updI (y12.1).toNat 5 (F16__1 a3 a4 a5 a6 a7 a8 a9 a10 y12) a8), .int .i64 (updI (y12.1).toNat 6 (F16__1 a3 a4 a5 a6 a7 a8 a9 a10 y12) a9), .int .i64 (updI (y12.1).toNat 7 (F16__1 a3 a4 a5 a6 a7 a8 a9 a10 y12) a10)]), .g, .g]) (ds := F16_m1_0) (ks := [5]) (e := .normal) (s2 := (F16_h1 h l1 v1 (IntKind.i64.wrap (a2 + 1)) (updI (y12.1).toNat 0 (F16__1 a3 a4 a5 a6 a7 a8 a9 a10 y12) a3) (updI (y12.1).toNat 1 (F16__1 a3 a4 a5 a6 a7 a8 a9 a10 y12) a4) (updI (y12.1).toNat 2 (F16__1 a3 a4 a5 a6 a7 a8 a9 a10 y12) a5) (updI (y12.1).toNat 3 (F16__1 a3 a4 a5 a6 a7 a8 a9 a10 y12) a6) (updI (y12.1).toNat 4 (F16__1 a3 a4 a5 a6 a7 a8 a9 a10 y12) a7) (updI (y12.1).toNat 5 (F16__1 a3 a4 a5 a6 a7 a8 a9 a10 y12) a8) (updI (y12.1).toNat 6 (F16__1 a3 a4 a5 a6 a7 a8 a9 a10 y12) a9) (updI (y12.1).toNat 7 (F16__1 a3 a4 a5 a6 a7 a8 a9 a10 y12) a10))) (hC := (And.intro (lstore_sel (P := Try.prog) (t := 3) (x := .int .i64 (F16__1 a3 a4 a5 a6 a7 a8 a9 a10 y12)) (n := 8) (cells := [.int .i64 a3, .int .i64 a4, .int .i64 a5, .int .i64 a6, .int .i64 a7, .int .i64 a8, .int .i64 a9, .int .i64 a10]) 0 1 0 (nn g15) (by kernel_rfl) rfl rfl rfl (fun jj => [.int .i64 (updI jj 0 (F16__1 a3 a4 a5 a6 a7 a8 a9 a10 y12) a3), .int .i64 (updI jj 1 (F16__1 a3 a4 a5 a6 a7 a8 a9 a10 y12) a4), .int .i64 (updI jj 2 (F16__1 a3 a4 a5 a6 a7 a8 a9 a10 y12) a5), .int .i64 (updI jj 3 (F16__1 a3 a4 a5 a6 a7 a8 a9 a10 y12) a6), .int .i64 (updI jj 4 (F16__1 a3 a4 a5 a6 a7 a8 a9 a10 y12) a7), .int .i64 (updI jj 5 (F16__1 a3 a4 a5 a6 a7 a8 a9 a10 y12) a8), .int .i64 (updI jj 6 (F16__1 a3 a4 a5 a6 a7 a8 a9 a10 y12) a9), .int .i64 (updI jj 7 (F16__1 a3 a4 a5 a6 a7 a8 a9 a10 y12) a10)]) (And.intro (And.intro (And.intro (And.intro (And.intro (And.intro (And.intro (And.intro trivial (And.intro rfl rfl)) (And.intro rfl rfl)) (And.intro rfl rfl)) (And.intro rfl rfl)) (And.intro rfl rfl)) (And.intro rfl rfl)) (And.intro rfl rfl)) (And.intro rfl rfl))) (And.intro (nn g15) (And.intro (lread_sel (P := Try.prog) (t := 3) (n := 8) (cells := [.int .i64 a3, .int .i64 a4, .int .i64 a5, .int .i64 a6, .int .i64 a7, .int .i64 a8, .int .i64 a9, .int .i64 a10]) 0 1 0 [a3, a4, a5, a6, a7, a8, a9, a10] 0 (fun x => .int .i64 x) (nn g15) (by kernel_rfl) (And.intro (And.intro (And.intro (And.intro (And.intro (And.intro (And.intro (And.intro trivial rfl) rfl) rfl) rfl) rfl) rfl) rfl) rfl) (fun _ => rfl)) (And.intro (nn g15) (And.intro c14 (And.intro (F23_spec y12.1 h _ rfl) (And.intro (At.agg (P := Try.prog) (t := 38) (v := .agg #[.int .i64 y12.1, .int .i64 y12.2.1, .int .i64 y12.2.2]) (m := 3) at12 (by kernel_rfl) (by kernel_rfl) 0 (by kernel_rfl) rfl) (And.intro ix12 (And.intro c11 trivial)))))))))) (hd := F16_d1) (h := by kernel_rfl)
    · intro hr
      obtain rfl := Option.some.inj hr
      show AWp Try.prog _ (Ends1 .normal (F16_h1 h l1 v1 (IntKind.i64.wrap (a2 + 1)) a3 a4 a5 a6 a7 a8 a9 a10)) _
      exact pEnd_sound good (L := F16_L) (D := F16_D) (its := [.g, (.b true), (.ix id12 off12 g12), (.ld (.agg #[.int .i64 y12.1, .int .i64 y12.2.1, .int .i64 y12.2.2])), .g, .g, .g, .g, (.c (.int .i64 (F23 y12.1)) h), .g, (.b false), .g, .g]) (ds := F16_m1_0) (ks := [5]) (e := .normal) (s2 := (F16_h1 h l1 v1 (IntKind.i64.wrap (a2 + 1)) a3 a4 a5 a6 a7 a8 a9 a10)) (hC := (And.intro c14 (And.intro (F23_spec y12.1 h _ rfl) (And.intro (At.agg (P := Try.prog) (t := 38) (v := .agg #[.int .i64 y12.1, .int .i64 y12.2.1, .int .i64 y12.2.2]) (m := 3) at12 (by kernel_rfl) (by kernel_rfl) 0 (by kernel_rfl) rfl) (And.intro ix12 (And.intro c11 trivial)))))) (hd := F16_d1) (h := by kernel_rfl)
  · intro hr
    obtain rfl := Option.some.inj hr
    show AWp Try.prog _ (Ends1 ((F16_x1 h) ((a3, a4, a5, a6, a7, a8, a9, a10) : Int × Int × Int × Int × Int × Int × Int × Int)).1 ((F16_x1 h) ((a3, a4, a5, a6, a7, a8, a9, a10) : Int × Int × Int × Int × Int × Int × Int × Int)).2) _
    exact pEnd_sound good (L := F16_L) (D := F16_D) (its := [.g, (.b false)]) (ds := F16_m1_1) (ks := []) (e := ((F16_x1 h) ((a3, a4, a5, a6, a7, a8, a9, a10) : Int × Int × Int × Int × Int × Int × Int × Int)).1) (s2 := ((F16_x1 h) ((a3, a4, a5, a6, a7, a8, a9, a10) : Int × Int × Int × Int × Int × Int × Int × Int)).2) (hC := (And.intro c11 trivial)) (hd := F16_d1) (h := by kernel_rfl)
theorem F16_l1_0 (h : AHeap) (l1 : List (Int × Int × Int)) (v1 : Hd) (hv1 : SlE E38 3 h (sv v1) l1) (x : Int × Int × Int × Int × Int × Int × Int × Int × Int) (r : Int × Int × Int × Int × Int × Int × Int × Int) (hl : loopO (fun (s : Int × Int × Int × Int × Int × Int × Int × Int × Int) => F16_s1 l1 s.1 s.2.1 s.2.2.1 s.2.2.2.1 s.2.2.2.2.1 s.2.2.2.2.2.1 s.2.2.2.2.2.2.1 s.2.2.2.2.2.2.2.1 s.2.2.2.2.2.2.2.2) x = some r) : AWp Try.prog (.loop (codeOf Try.prog 16 [1, 1, 0, 1, 0, 0])) (Ends1 (.exit 0) (F16_x1_0 h r)) ((fun (s : Int × Int × Int × Int × Int × Int × Int × Int × Int) => (F16_h1 h l1 v1 s.1 s.2.1 s.2.2.1 s.2.2.2.1 s.2.2.2.2.1 s.2.2.2.2.2.1 s.2.2.2.2.2.2.1 s.2.2.2.2.2.2.2.1 s.2.2.2.2.2.2.2.2)) x) := by
  have k := loop_fun (P := Try.prog) (c := (codeOf Try.prog 16 [1, 1, 0, 1, 0, 0])) (step := (fun (s : Int × Int × Int × Int × Int × Int × Int × Int × Int) => F16_s1 l1 s.1 s.2.1 s.2.2.1 s.2.2.2.1 s.2.2.2.2.1 s.2.2.2.2.2.1 s.2.2.2.2.2.2.1 s.2.2.2.2.2.2.2.1 s.2.2.2.2.2.2.2.2)) (hd := (fun (s : Int × Int × Int × Int × Int × Int × Int × Int × Int) => (F16_h1 h l1 v1 s.1 s.2.1 s.2.2.1 s.2.2.2.1 s.2.2.2.2.1 s.2.2.2.2.2.1 s.2.2.2.2.2.2.1 s.2.2.2.2.2.2.2.1 s.2.2.2.2.2.2.2.2))) (X := (F16_x1 h)) (by intro t; unfold F16_x1; intro h; cases h) (fun x => F16_r1 h l1 v1 hv1 x.1 x.2.1 x.2.2.1 x.2.2.2.1 x.2.2.2.2.1 x.2.2.2.2.2.1 x.2.2.2.2.2.2.1 x.2.2.2.2.2.2.2.1 x.2.2.2.2.2.2.2.2) hl
  exact k
def F16 (l1 : List (Int × Int × Int)) : Option (Int × Int × Int × Int × Int × Int × Int × Int) :=
  (Option.bind (loopO (fun (s : Int × Int × Int × Int × Int × Int × Int × Int × Int) => F16_s1 l1 s.1 s.2.1 s.2.2.1 s.2.2.2.1 s.2.2.2.2.1 s.2.2.2.2.2.1 s.2.2.2.2.2.2.1 s.2.2.2.2.2.2.2.1 s.2.2.2.2.2.2.2.2) (0, 0, 0, 0, 0, 0, 0, 0, 0)) fun y16 =>
  some (y16.1, y16.2.1, y16.2.2.1, y16.2.2.2.1, y16.2.2.2.2.1, y16.2.2.2.2.2.1, y16.2.2.2.2.2.2.1, y16.2.2.2.2.2.2.2))
set_option maxRecDepth 100000 in
theorem F16_spec (l1 : List (Int × Int × Int)) (v1 : Hd) (h : AHeap) (hv1 : SlE E38 3 h (sv v1) l1) (r : Int × Int × Int × Int × Int × Int × Int × Int) : F16 l1 = some r → ACalls Try.prog 16 [(sv v1)] h (fun v' h'' => v' = (.agg #[.int .i64 r.1, .int .i64 r.2.1, .int .i64 r.2.2.1, .int .i64 r.2.2.2.1, .int .i64 r.2.2.2.2.1, .int .i64 r.2.2.2.2.2.1, .int .i64 r.2.2.2.2.2.2.1, .int .i64 r.2.2.2.2.2.2.2] : Value) ∧ h'' = h) := by
  unfold F16
  refine bind_opt fun y16 e16 => ?_
  intro hr
  obtain rfl := Option.some.inj hr
  exact pFun_sound good tab_ok (f := 16) (its := [.g, .g, .g, (.ln l1.length), .g, (.l F16_m1_0 [] (.exit 0) (F16_x1_0 h y16)), .g, .g]) (args := [(sv v1)]) (h := h) (h' := h) (v := .agg #[.int .i64 y16.1, .int .i64 y16.2.1, .int .i64 y16.2.2.1, .int .i64 y16.2.2.2.1, .int .i64 y16.2.2.2.2.1, .int .i64 y16.2.2.2.2.2.1, .int .i64 y16.2.2.2.2.2.2.1, .int .i64 y16.2.2.2.2.2.2.2]) (hC := (And.intro (F16_l1_0 h l1 v1 hv1 (0, 0, 0, 0, 0, 0, 0, 0, 0) y16 e16) (And.intro (SlE.len hv1) trivial))) (hr := by kernel_rfl)
/-! 5 jacquard/jacquardlaw46.GatesCounts -/
def F5_L : List Nat := [4]
def F5_D : List (Nat × List (Nat × Nat)) := []
def F5__1 (y18 : Int × Int × Int × Int × Int × Int × Int × Int) (a21 : Int) : Int := (([y18.1, y18.2.1, y18.2.2.1, y18.2.2.2.1, y18.2.2.2.2.1, y18.2.2.2.2.2.1, y18.2.2.2.2.2.2.1, y18.2.2.2.2.2.2.2] : List Int).getD (a21).toNat 0)
def F5_m1_1 : List Bool := [true, true, true, false, false, false, true, true, true, true, true, true, true, true, true, true, true, true, true, true, true, true, true, true, true, true, true, true, true, true, true, true, true, true, true, true, true, true, true, true, true, true, true, true, true, true, true, true, true, true, true, true, true, true, true, true, true, true, true, true, true, true, true, true, true]
def F5_m1_0 : List Bool := [true, true, true, false, false, false, true, true, true, true, true, true, true, true, true, true, true, true, true, true, true, true, true, true, true, true, true, false, true, true, true, true, true, true, true, true, true, true, true, true, true, true, true, true, true, true, true, true, true, true, true, true, true, true, true, true, true, true, true, true, true, true, true, true, true]
def F5_s1 (y18 : Int × Int × Int × Int × Int × Int × Int × Int) (a20 : Int) (a21 : Int) : Option ((Int × Int) ⊕ Int) :=
  (bif decide (a21 < 8) then
   (bif (!(inRange a21 8)) then none else
   some (.inl ((IntKind.i64.wrap (a20 + (F5__1 y18 a21))), (IntKind.i64.wrap (a21 + 1)))))
  else
   some (.inr a20))
def F5_h1 (u6_0 : Hd) (h16 : AHeap) (y18 : Int × Int × Int × Int × Int × Int × Int × Int)  (a20 : Int) (a21 : Int) : AS := ⟨[junk, junk, junk, (sv u6_0), .pointer (some ⟨4, 0, none⟩), .int .i64 a20, junk, junk, junk, junk, junk, junk, junk, junk, junk, junk, junk, junk, junk, junk, junk, junk, junk, junk, junk, junk, junk, .int .i64 a21, junk, junk, junk, junk, junk, junk, junk, junk, junk, junk, junk, junk, junk, junk, junk, junk, junk, junk, junk, junk, junk, junk, junk, junk, junk, junk, junk, junk, junk, junk, junk, junk, junk, junk, junk, junk, junk], [(4, [.int .i64 y18.1, .int .i64 y18.2.1, .int .i64 y18.2.2.1, .int .i64 y18.2.2.2.1, .int .i64 y18.2.2.2.2.1, .int .i64 y18.2.2.2.2.2.1, .int .i64 y18.2.2.2.2.2.2.1, .int .i64 y18.2.2.2.2.2.2.2])], h16⟩
theorem F5_d1 : drawsOk F5_D (codeOf Try.prog 5 [1, 1, 1, 1, 1, 0, 1, 0, 0]) = true := by kernel_rfl
def F5_x1_0 (u6_0 : Hd) (h16 : AHeap) (y18 : Int × Int × Int × Int × Int × Int × Int × Int)  (r : Int) : AS := ⟨[junk, junk, junk, (sv u6_0), .pointer (some ⟨4, 0, none⟩), .int .i64 r, junk, junk, junk, junk, junk, junk, junk, junk, junk, junk, junk, junk, junk, junk, junk, junk, junk, junk, junk, junk, junk, junk, junk, junk, junk, junk, junk, junk, junk, junk, junk, junk, junk, junk, junk, junk, junk, junk, junk, junk, junk, junk, junk, junk, junk, junk, junk, junk, junk, junk, junk, junk, junk, junk, junk, junk, junk, junk, junk], [(4, [.int .i64 y18.1, .int .i64 y18.2.1, .int .i64 y18.2.2.1, .int .i64 y18.2.2.2.1, .int .i64 y18.2.2.2.2.1, .int .i64 y18.2.2.2.2.2.1, .int .i64 y18.2.2.2.2.2.2.1, .int .i64 y18.2.2.2.2.2.2.2])], h16⟩
def F5_x1 (u6_0 : Hd) (h16 : AHeap) (y18 : Int × Int × Int × Int × Int × Int × Int × Int) (r : Int) : Exit × AS := ((.exit 0), (F5_x1_0 u6_0 h16 y18 r))
set_option maxRecDepth 100000 in
theorem F5_r1 (h : AHeap) (u6_0 : Hd) (h16 : AHeap) (y18 : Int × Int × Int × Int × Int × Int × Int × Int) (a20 : Int) (a21 : Int) (o : (Int × Int) ⊕ Int) : F5_s1 y18 a20 a21 = some o → RdF Try.prog (codeOf Try.prog 5 [1, 1, 1, 1, 1, 0, 1, 0, 0]) (fun (s : Int × Int) => (F5_h1 u6_0 h16 y18 s.1 s.2)) (F5_x1 u6_0 h16 y18) (F5_h1 u6_0 h16 y18 a20 a21) o := by
  unfold F5_s1
  refine dec_bif (fun c22 => ?_) (fun c22 => ?_)
  · refine guard_ok fun g23 => ?_
    intro hr
    obtain rfl := Option.some.inj hr
    show AWp Try.prog _ (Ends1 .normal (F5_h1 u6_0 h16 y18 (IntKind.i64.wrap (a20 + (F5__1 y18 a21))) (IntKind.i64.wrap (a21 + 1)))) _
    exact pEnd_sound good (L := F5_L) (D := F5_D) (its := [.g, (.b true), .g, .g, .g, .g, .ia, (.ld (.int .i64 (F5__1 y18 a21))), .g, .g, .g, .g]) (ds := F5_m1_0) (ks := []) (e := .normal) (s2 := (F5_h1 u6_0 h16 y18 (IntKind.i64.wrap (a20 + (F5__1 y18 a21))) (IntKind.i64.wrap (a21 + 1)))) (hC := (And.intro (lread_sel (P := Try.prog) (t := 3) (n := 8) (cells := [.int .i64 y18.1, .int .i64 y18.2.1, .int .i64 y18.2.2.1, .int .i64 y18.2.2.2.1, .int .i64 y18.2.2.2.2.1, .int .i64 y18.2.2.2.2.2.1, .int .i64 y18.2.2.2.2.2.2.1, .int .i64 y18.2.2.2.2.2.2.2]) 0 1 0 [y18.1, y18.2.1, y18.2.2.1, y18.2.2.2.1, y18.2.2.2.2.1, y18.2.2.2.2.2.1, y18.2.2.2.2.2.2.1, y18.2.2.2.2.2.2.2] 0 (fun x => .int .i64 x) (nn g23) (by kernel_rfl) (And.intro (And.intro (And.intro (And.intro (And.intro (And.intro (And.intro (And.intro trivial rfl) rfl) rfl) rfl) rfl) rfl) rfl) rfl) (fun _ => rfl)) (And.intro (nn g23) (And.intro c22 trivial)))) (hd := F5_d1) (h := by kernel_rfl)
  · intro hr
    obtain rfl := Option.some.inj hr
    show AWp Try.prog _ (Ends1 ((F5_x1 u6_0 h16 y18) (a20 : Int)).1 ((F5_x1 u6_0 h16 y18) (a20 : Int)).2) _
    exact pEnd_sound good (L := F5_L) (D := F5_D) (its := [.g, (.b false)]) (ds := F5_m1_1) (ks := []) (e := ((F5_x1 u6_0 h16 y18) (a20 : Int)).1) (s2 := ((F5_x1 u6_0 h16 y18) (a20 : Int)).2) (hC := (And.intro c22 trivial)) (hd := F5_d1) (h := by kernel_rfl)
theorem F5_l1_0 (h : AHeap) (u6_0 : Hd) (h16 : AHeap) (y18 : Int × Int × Int × Int × Int × Int × Int × Int) (x : Int × Int) (r : Int) (hl : loopO (fun (s : Int × Int) => F5_s1 y18 s.1 s.2) x = some r) : AWp Try.prog (.loop (codeOf Try.prog 5 [1, 1, 1, 1, 1, 0, 1, 0, 0])) (Ends1 (.exit 0) (F5_x1_0 u6_0 h16 y18 r)) ((fun (s : Int × Int) => (F5_h1 u6_0 h16 y18 s.1 s.2)) x) := by
  have k := loop_fun (P := Try.prog) (c := (codeOf Try.prog 5 [1, 1, 1, 1, 1, 0, 1, 0, 0])) (step := (fun (s : Int × Int) => F5_s1 y18 s.1 s.2)) (hd := (fun (s : Int × Int) => (F5_h1 u6_0 h16 y18 s.1 s.2))) (X := (F5_x1 u6_0 h16 y18)) (by intro t; unfold F5_x1; intro h; cases h) (fun x => F5_r1 h u6_0 h16 y18 x.1 x.2) hl
  exact k
def F5_m2_1 : List Bool := [true, true, true, false, false, false, true, false, true, true, true, true, true, true, true, true, true, true, true, true, true, true, true, true, true, true, true, true, true, true, true, true, true, true, true, true, true, true, true, true, true, true, true, true, true, true, true, true, true, true, true, true, true, true, true, true, true, true, true, true, true, true, true, true, true]
def F5_m2_0 : List Bool := [true, true, true, false, false, false, true, false, true, true, true, true, true, true, true, true, true, true, true, true, true, true, true, true, true, true, true, true, true, true, true, true, true, true, true, true, true, false, false, true, true, true, true, true, true, true, true, true, true, true, true, true, true, true, true, true, true, true, true, true, true, true, true, true, true]
def F5_s2 (y5 : (List (Int × Int × Int))) (a25 : Int) (a26 : Int) : Option ((Int × Int) ⊕ Int) :=
  (bif decide (a26 < (y5.length : Int)) then
   (Option.bind (at? y5 a26) fun y28 =>
   (bif (y28.1 == 7) then
    some (.inl ((IntKind.i64.wrap (a25 + 1)), (IntKind.i64.wrap (a26 + 1))))
   else
    some (.inl (a25, (IntKind.i64.wrap (a26 + 1))))))
  else
   some (.inr a25))
def F5_h2 (y5 : (List (Int × Int × Int))) (u6_0 : Hd) (h16 : AHeap) (y18 : Int × Int × Int × Int × Int × Int × Int × Int) (y24 : Int)  (a25 : Int) (a26 : Int) : AS := ⟨[junk, junk, junk, (sv u6_0), .pointer (some ⟨4, 0, none⟩), .int .i64 y24, junk, .int .i64 a25, junk, junk, junk, junk, junk, junk, junk, junk, junk, junk, junk, junk, junk, junk, junk, junk, junk, junk, junk, junk, junk, junk, junk, junk, junk, junk, junk, junk, junk, .int .i64 (y5.length : Int), .int .i64 a26, junk, junk, junk, junk, junk, junk, junk, junk, junk, junk, junk, junk, junk, junk, junk, junk, junk, junk, junk, junk, junk, junk, junk, junk, junk, junk], [(4, [.int .i64 y18.1, .int .i64 y18.2.1, .int .i64 y18.2.2.1, .int .i64 y18.2.2.2.1, .int .i64 y18.2.2.2.2.1, .int .i64 y18.2.2.2.2.2.1, .int .i64 y18.2.2.2.2.2.2.1, .int .i64 y18.2.2.2.2.2.2.2])], h16⟩
theorem F5_d2 : drawsOk F5_D (codeOf Try.prog 5 [1, 1, 1, 1, 1, 1, 1, 0, 1, 0, 0]) = true := by kernel_rfl
def F5_x2_0 (u6_0 : Hd) (h16 : AHeap) (y18 : Int × Int × Int × Int × Int × Int × Int × Int) (y24 : Int)  (r : Int) : AS := ⟨[junk, junk, junk, (sv u6_0), .pointer (some ⟨4, 0, none⟩), .int .i64 y24, junk, .int .i64 r, junk, junk, junk, junk, junk, junk, junk, junk, junk, junk, junk, junk, junk, junk, junk, junk, junk, junk, junk, junk, junk, junk, junk, junk, junk, junk, junk, junk, junk, junk, junk, junk, junk, junk, junk, junk, junk, junk, junk, junk, junk, junk, junk, junk, junk, junk, junk, junk, junk, junk, junk, junk, junk, junk, junk, junk, junk], [(4, [.int .i64 y18.1, .int .i64 y18.2.1, .int .i64 y18.2.2.1, .int .i64 y18.2.2.2.1, .int .i64 y18.2.2.2.2.1, .int .i64 y18.2.2.2.2.2.1, .int .i64 y18.2.2.2.2.2.2.1, .int .i64 y18.2.2.2.2.2.2.2])], h16⟩
def F5_x2 (u6_0 : Hd) (h16 : AHeap) (y18 : Int × Int × Int × Int × Int × Int × Int × Int) (y24 : Int) (r : Int) : Exit × AS := ((.exit 2), (F5_x2_0 u6_0 h16 y18 y24 r))
set_option maxRecDepth 100000 in
theorem F5_r2 (h : AHeap) (y5 : (List (Int × Int × Int))) (u6_0 : Hd) (v13 : Hd) (v16 : Hd) (h16 : AHeap) (hp16 : Heapy h h16 [⟨v13, 38, 3, List.flatMap enc38 ([((-3), 0, 0), (8, 0, 0)] : List (Int × Int × Int))⟩, ⟨v16, 38, 3, List.flatMap enc38 ((([] : List (Int × Int × Int)) ++ y5) ++ ([((-3), 0, 0), (8, 0, 0)] : List (Int × Int × Int)))⟩, ⟨u6_0, 38, 3, List.flatMap enc38 y5⟩]) (y18 : Int × Int × Int × Int × Int × Int × Int × Int) (y24 : Int) (a25 : Int) (a26 : Int) (o : (Int × Int) ⊕ Int) : F5_s2 y5 a25 a26 = some o → RdF Try.prog (codeOf Try.prog 5 [1, 1, 1, 1, 1, 1, 1, 0, 1, 0, 0]) (fun (s : Int × Int) => (F5_h2 y5 u6_0 h16 y18 y24 s.1 s.2)) (F5_x2 u6_0 h16 y18 y24) (F5_h2 y5 u6_0 h16 y18 y24 a25 a26) o := by
  unfold F5_s2
  refine dec_bif (fun c27 => ?_) (fun c27 => ?_)
  · refine bind_opt fun y28 e28 => ?_
    obtain ⟨id28, off28, g28, cs28, ix28, at28, rfl⟩ := SlE.at (Heapy.sle (v := u6_0) (xs := y5) (enc := enc38) hp16 2 rfl (fun _ => rfl) (by decide)) e28
    refine dec_bif (fun c29 => ?_) (fun c29 => ?_)
    · intro hr
      obtain rfl := Option.some.inj hr
      show AWp Try.prog _ (Ends1 .normal (F5_h2 y5 u6_0 h16 y18 y24 (IntKind.i64.wrap (a25 + 1)) (IntKind.i64.wrap (a26 + 1)))) _
      exact pEnd_sound good (L := F5_L) (D := F5_D) (its := [.g, (.b true), .g, .g, .g, .g, (.ix id28 off28 g28), .g, (.ld (.int .i64 y28.1)), .g, (.b true), .g, .g, .g, .g, .g]) (ds := F5_m2_0) (ks := []) (e := .normal) (s2 := (F5_h2 y5 u6_0 h16 y18 y24 (IntKind.i64.wrap (a25 + 1)) (IntKind.i64.wrap (a26 + 1)))) (hC := (And.intro c29 (And.intro (At.one (P := Try.prog) (t := 3) (v := .int .i64 y28.1) at28 (by kernel_rfl) 0 rfl rfl) (And.intro ix28 (And.intro c27 trivial))))) (hd := F5_d2) (h := by kernel_rfl)
    · intro hr
      obtain rfl := Option.some.inj hr
      show AWp Try.prog _ (Ends1 .normal (F5_h2 y5 u6_0 h16 y18 y24 a25 (IntKind.i64.wrap (a26 + 1)))) _
      exact pEnd_sound good (L := F5_L) (D := F5_D) (its := [.g, (.b true), .g, .g, .g, .g, (.ix id28 off28 g28), .g, (.ld (.int .i64 y28.1)), .g, (.b false), .g, .g]) (ds := F5_m2_0) (ks := []) (e := .normal) (s2 := (F5_h2 y5 u6_0 h16 y18 y24 a25 (IntKind.i64.wrap (a26 + 1)))) (hC := (And.intro c29 (And.intro (At.one (P := Try.prog) (t := 3) (v := .int .i64 y28.1) at28 (by kernel_rfl) 0 rfl rfl) (And.intro ix28 (And.intro c27 trivial))))) (hd := F5_d2) (h := by kernel_rfl)
  · intro hr
    obtain rfl := Option.some.inj hr
    show AWp Try.prog _ (Ends1 ((F5_x2 u6_0 h16 y18 y24) (a25 : Int)).1 ((F5_x2 u6_0 h16 y18 y24) (a25 : Int)).2) _
    exact pEnd_sound good (L := F5_L) (D := F5_D) (its := [.g, (.b false)]) (ds := F5_m2_1) (ks := []) (e := ((F5_x2 u6_0 h16 y18 y24) (a25 : Int)).1) (s2 := ((F5_x2 u6_0 h16 y18 y24) (a25 : Int)).2) (hC := (And.intro c27 trivial)) (hd := F5_d2) (h := by kernel_rfl)
theorem F5_l2_0 (h : AHeap) (y5 : (List (Int × Int × Int))) (u6_0 : Hd) (v13 : Hd) (v16 : Hd) (h16 : AHeap) (hp16 : Heapy h h16 [⟨v13, 38, 3, List.flatMap enc38 ([((-3), 0, 0), (8, 0, 0)] : List (Int × Int × Int))⟩, ⟨v16, 38, 3, List.flatMap enc38 ((([] : List (Int × Int × Int)) ++ y5) ++ ([((-3), 0, 0), (8, 0, 0)] : List (Int × Int × Int)))⟩, ⟨u6_0, 38, 3, List.flatMap enc38 y5⟩]) (y18 : Int × Int × Int × Int × Int × Int × Int × Int) (y24 : Int) (x : Int × Int) (r : Int) (hl : loopO (fun (s : Int × Int) => F5_s2 y5 s.1 s.2) x = some r) : AWp Try.prog (.loop (codeOf Try.prog 5 [1, 1, 1, 1, 1, 1, 1, 0, 1, 0, 0])) (Ends1 (.exit 2) (F5_x2_0 u6_0 h16 y18 y24 r)) ((fun (s : Int × Int) => (F5_h2 y5 u6_0 h16 y18 y24 s.1 s.2)) x) := by
  have k := loop_fun (P := Try.prog) (c := (codeOf Try.prog 5 [1, 1, 1, 1, 1, 1, 1, 0, 1, 0, 0])) (step := (fun (s : Int × Int) => F5_s2 y5 s.1 s.2)) (hd := (fun (s : Int × Int) => (F5_h2 y5 u6_0 h16 y18 y24 s.1 s.2))) (X := (F5_x2 u6_0 h16 y18 y24)) (by intro t; unfold F5_x2; intro h; cases h) (fun x => F5_r2 h y5 u6_0 v13 v16 h16 hp16 y18 y24 x.1 x.2) hl
  exact k
def F5 (l1 : List (Int × Int × Int)) : Option (Bool) :=
  (bif decide ((l1.length : Int) > 200) then
   some (true)
  else
   (Option.bind (F15 l1) fun y5 =>
   (bif (!(okApp (([] : List (Int × Int × Int)).length + y5.length) 24)) then none else
   (bif (!(okApp ((([] : List (Int × Int × Int)) ++ y5).length + ([((-3), 0, 0), (8, 0, 0)] : List (Int × Int × Int)).length) 24)) then none else
   (Option.bind (F16 ((([] : List (Int × Int × Int)) ++ y5) ++ ([((-3), 0, 0), (8, 0, 0)] : List (Int × Int × Int)))) fun y18 =>
   (Option.bind (loopO (fun (s : Int × Int) => F5_s1 y18 s.1 s.2) (0, 0)) fun y24 =>
   (Option.bind (loopO (fun (s : Int × Int) => F5_s2 y5 s.1 s.2) (0, 0)) fun y30 =>
   (bif (y24 == (y5.length : Int)) then
    (bif (y18.2.2.2.2.2.2.2 == y30) then
     some (y18.1 == 0)
    else
     some (false))
   else
    some (false)))))))))
set_option maxRecDepth 100000 in
theorem F5_spec (l1 : List (Int × Int × Int)) (v1 : Hd) (h : AHeap) (hw : h.wf) (hv1 : SlE E59 3 h (sv v1) l1) (r : Bool) : F5 l1 = some r → ∃ (h' : AHeap), Heapy h h' [] ∧ ACalls Try.prog 5 [(sv v1)] h (fun v' h'' => v' = (.bool r : Value) ∧ h'' = h') := by
  unfold F5
  refine dec_bif (fun c3 => ?_) (fun c3 => ?_)
  · intro hr
    obtain rfl := Option.some.inj hr
    exact ⟨h, Heapy.pick (Heapy.refl hw) [] (by decide), pFun_sound good tab_ok (f := 5) (its := [.g, (.c (.bool true) h), .g, .g, (.w .g), (.w (.ln l1.length)), (.w .g), .g, (.b true), (.c (.bool true) h), .g]) (args := [(sv v1)]) (h := h) (h' := h) (v := .bool true) (hC := (And.intro (F9_spec h _ rfl) (And.intro c3 (And.intro (g_ff l_f) (And.intro (SlE.len hv1) (And.intro (g_ff l_f) (And.intro (g_ff l_f) (And.intro (F9_spec h _ rfl) trivial)))))))) (hr := by kernel_rfl)⟩
  · refine bind_opt fun y5 e5 => ?_
    obtain ⟨u6_0, h6, q6, c6⟩ := F15_spec l1 v1 h hw hv1 _ e5
    have hp6 : Heapy h h6 [⟨u6_0, 38, 3, List.flatMap enc38 y5⟩] := Heapy.call (Heapy.refl hw) q6
    obtain ⟨v8, h8, m8, hp8, _⟩ := Heapy.build (P := Try.prog) hp6 (t := 22) (e := 38) (len := 0) (n := 3) (parts := []) (cells := List.flatMap enc38 ([] : List (Int × Int × Int))) (by kernel_rfl) rfl
    refine guard_ok fun g10 => ?_
    obtain ⟨v11, h11, m11, q11, _⟩ := Heapy.append hp8 (show mkInfo Try.prog 22 = some (38, 3, 24, [.int .i64 0, .int .i64 0, .int .i64 0]) by kernel_rfl) 0 (v := v8) (cells := List.flatMap enc38 ([] : List (Int × Int × Int))) rfl (Y := (sv u6_0)) (SlE.src (enc := enc38) (c := 3) (Heapy.sle (v := u6_0) (xs := y5) (enc := enc38) hp8 1 rfl (fun _ => rfl) (by decide)) (fun _ => rfl)) (flatMap_length (enc := enc38) (c := 3) (fun _ => rfl) _) (by rw [Heapy.vn (v := v8) (xs := ([] : List (Int × Int × Int))) (enc := enc38) hp8 0 rfl (fun _ => rfl) (by decide)]; simpa using g10)
    have hp11 : Heapy h h11 [⟨v11, 38, 3, List.flatMap enc38 (([] : List (Int × Int × Int)) ++ y5)⟩, ⟨u6_0, 38, 3, List.flatMap enc38 y5⟩] := by rw [← List.flatMap_append] at q11; exact q11
    obtain ⟨v13, h13, m13, hp13, _⟩ := Heapy.build (P := Try.prog) hp11 (t := 22) (e := 38) (len := 2) (n := 3) (parts := [(0, .agg #[.int .i64 (-3), .int .i64 0, .int .i64 0]), (1, .agg #[.int .i64 8, .int .i64 0, .int .i64 0])]) (cells := List.flatMap enc38 ([((-3), 0, 0), (8, 0, 0)] : List (Int × Int × Int))) (by kernel_rfl) rfl
    refine guard_ok fun g15 => ?_
    obtain ⟨v16, h16, m16, q16, _⟩ := Heapy.append hp13 (show mkInfo Try.prog 22 = some (38, 3, 24, [.int .i64 0, .int .i64 0, .int .i64 0]) by kernel_rfl) 1 (v := v11) (cells := List.flatMap enc38 (([] : List (Int × Int × Int)) ++ y5)) rfl (Y := (sv v13)) (SlE.src (enc := enc38) (c := 3) (Heapy.sle (v := v13) (xs := ([((-3), 0, 0), (8, 0, 0)] : List (Int × Int × Int))) (enc := enc38) hp13 0 rfl (fun _ => rfl) (by decide)) (fun _ => rfl)) (flatMap_length (enc := enc38) (c := 3) (fun _ => rfl) _) (by rw [Heapy.vn (v := v11) (xs := (([] : List (Int × Int × Int)) ++ y5)) (enc := enc38) hp13 1 rfl (fun _ => rfl) (by decide)]; simpa using g15)
    have hp16 : Heapy h h16 [⟨v13, 38, 3, List.flatMap enc38 ([((-3), 0, 0), (8, 0, 0)] : List (Int × Int × Int))⟩, ⟨v16, 38, 3, List.flatMap enc38 ((([] : List (Int × Int × Int)) ++ y5) ++ ([((-3), 0, 0), (8, 0, 0)] : List (Int × Int × Int)))⟩, ⟨u6_0, 38, 3, List.flatMap enc38 y5⟩] := by rw [← List.flatMap_append] at q16; exact q16
    refine bind_opt fun y18 e18 => ?_
    refine bind_opt fun y24 e24 => ?_
    refine bind_opt fun y30 e30 => ?_
    refine dec_bif (fun c31 => ?_) (fun c31 => ?_)
    · refine dec_bif (fun c32 => ?_) (fun c32 => ?_)
      · intro hr
        obtain rfl := Option.some.inj hr
        exact ⟨h16, Heapy.pick hp16 [] (by decide), pFun_sound good tab_ok (f := 5) (its := [.g, (.c (.bool true) h), .g, .g, (.w .g), (.w (.ln l1.length)), (.w .g), .g, (.b false), .g, (.c ((sv u6_0)) h6), .g, (.mm (sv v8) h8), .g, (.mm (sv v11) h11), .g, .g, (.mm (sv v13) h13), (.mm (sv v16) h16), (.c (.agg #[.int .i64 y18.1, .int .i64 y18.2.1, .int .i64 y18.2.2.1, .int .i64 y18.2.2.2.1, .int .i64 y18.2.2.2.2.1, .int .i64 y18.2.2.2.2.2.1, .int .i64 y18.2.2.2.2.2.2.1, .int .i64 y18.2.2.2.2.2.2.2]) h16), .g, .g, .g, .g, (.l F5_m1_0 [] (.exit 0) (F5_x1_0 u6_0 h16 y18 y24)), .g, .g, (.ln y5.length), .g, (.l F5_m2_0 [] (.exit 2) (F5_x2_0 u6_0 h16 y18 y24 y30)), .g, .g, (.ln y5.length), .g, .g, (.w .g), (.w .g), (.w .g), (.w .g), (.p true), .g, (.w .g), (.w .g), (.w .g), (.p true), .g]) (args := [(sv v1)]) (h := h) (h' := h16) (v := .bool (y18.1 == 0)) (hC := (And.intro c32 (And.intro (g_tt c32) (And.intro (g_tt c32) (And.intro (g_tt c32) (And.intro c31 (And.intro (g_tt c31) (And.intro (g_tt c31) (And.intro (g_tt c31) (And.intro (g_tt c31) (And.intro (SlE.len (Heapy.sle (v := u6_0) (xs := y5) (enc := enc38) hp16 2 rfl (fun _ => rfl) (by decide))) (And.intro (F5_l2_0 h y5 u6_0 v13 v16 h16 hp16 y18 y24 (0, 0) y30 e30) (And.intro (SlE.len (Heapy.sle (v := u6_0) (xs := y5) (enc := enc38) hp16 2 rfl (fun _ => rfl) (by decide))) (And.intro (F5_l1_0 h u6_0 h16 y18 (0, 0) y24 e24) (And.intro (F16_spec ((([] : List (Int × Int × Int)) ++ y5) ++ ([((-3), 0, 0), (8, 0, 0)] : List (Int × Int × Int))) v16 h16 (Heapy.sle (v := v16) (xs := ((([] : List (Int × Int × Int)) ++ y5) ++ ([((-3), 0, 0), (8, 0, 0)] : List (Int × Int × Int)))) (enc := enc38) hp16 1 rfl (fun _ => rfl) (by decide)) _ e18) (And.intro m16 (And.intro m13 (And.intro m11 (And.intro m8 (And.intro c6 (And.intro c3 (And.intro (g_ff l_f) (And.intro (SlE.len hv1) (And.intro (g_ff l_f) (And.intro (g_ff l_f) (And.intro (F9_spec h _ rfl) trivial)))))))))))))))))))))))))) (hr := by kernel_rfl)⟩
      · intro hr
        obtain rfl := Option.some.inj hr
        exact ⟨h16, Heapy.pick hp16 [] (by decide), pFun_sound good tab_ok (f := 5) (its := [.g, (.c (.bool true) h), .g, .g, (.w .g), (.w (.ln l1.length)), (.w .g), .g, (.b false), .g, (.c ((sv u6_0)) h6), .g, (.mm (sv v8) h8), .g, (.mm (sv v11) h11), .g, .g, (.mm (sv v13) h13), (.mm (sv v16) h16), (.c (.agg #[.int .i64 y18.1, .int .i64 y18.2.1, .int .i64 y18.2.2.1, .int .i64 y18.2.2.2.1, .int .i64 y18.2.2.2.2.1, .int .i64 y18.2.2.2.2.2.1, .int .i64 y18.2.2.2.2.2.2.1, .int .i64 y18.2.2.2.2.2.2.2]) h16), .g, .g, .g, .g, (.l F5_m1_0 [] (.exit 0) (F5_x1_0 u6_0 h16 y18 y24)), .g, .g, (.ln y5.length), .g, (.l F5_m2_0 [] (.exit 2) (F5_x2_0 u6_0 h16 y18 y24 y30)), .g, .g, (.ln y5.length), .g, .g, (.w .g), (.w .g), (.w .g), (.w .g), (.p true), .g, .n, .n, .n, (.p false), .g]) (args := [(sv v1)]) (h := h) (h' := h16) (v := .bool false) (hC := (And.intro c32 (And.intro (g_ft c32) (And.intro (g_ft c32) (And.intro (g_ft c32) (And.intro c31 (And.intro (g_tt c31) (And.intro (g_tt c31) (And.intro (g_tt c31) (And.intro (g_tt c31) (And.intro (SlE.len (Heapy.sle (v := u6_0) (xs := y5) (enc := enc38) hp16 2 rfl (fun _ => rfl) (by decide))) (And.intro (F5_l2_0 h y5 u6_0 v13 v16 h16 hp16 y18 y24 (0, 0) y30 e30) (And.intro (SlE.len (Heapy.sle (v := u6_0) (xs := y5) (enc := enc38) hp16 2 rfl (fun _ => rfl) (by decide))) (And.intro (F5_l1_0 h u6_0 h16 y18 (0, 0) y24 e24) (And.intro (F16_spec ((([] : List (Int × Int × Int)) ++ y5) ++ ([((-3), 0, 0), (8, 0, 0)] : List (Int × Int × Int))) v16 h16 (Heapy.sle (v := v16) (xs := ((([] : List (Int × Int × Int)) ++ y5) ++ ([((-3), 0, 0), (8, 0, 0)] : List (Int × Int × Int)))) (enc := enc38) hp16 1 rfl (fun _ => rfl) (by decide)) _ e18) (And.intro m16 (And.intro m13 (And.intro m11 (And.intro m8 (And.intro c6 (And.intro c3 (And.intro (g_ff l_f) (And.intro (SlE.len hv1) (And.intro (g_ff l_f) (And.intro (g_ff l_f) (And.intro (F9_spec h _ rfl) trivial)))))))))))))))))))))))))) (hr := by kernel_rfl)⟩
    · intro hr
      obtain rfl := Option.some.inj hr
      exact ⟨h16, Heapy.pick hp16 [] (by decide), pFun_sound good tab_ok (f := 5) (its := [.g, (.c (.bool true) h), .g, .g, (.w .g), (.w (.ln l1.length)), (.w .g), .g, (.b false), .g, (.c ((sv u6_0)) h6), .g, (.mm (sv v8) h8), .g, (.mm (sv v11) h11), .g, .g, (.mm (sv v13) h13), (.mm (sv v16) h16), (.c (.agg #[.int .i64 y18.1, .int .i64 y18.2.1, .int .i64 y18.2.2.1, .int .i64 y18.2.2.2.1, .int .i64 y18.2.2.2.2.1, .int .i64 y18.2.2.2.2.2.1, .int .i64 y18.2.2.2.2.2.2.1, .int .i64 y18.2.2.2.2.2.2.2]) h16), .g, .g, .g, .g, (.l F5_m1_0 [] (.exit 0) (F5_x1_0 u6_0 h16 y18 y24)), .g, .g, (.ln y5.length), .g, (.l F5_m2_0 [] (.exit 2) (F5_x2_0 u6_0 h16 y18 y24 y30)), .g, .g, (.ln y5.length), .g, .g, .n, .n, .n, .n, (.p false), .g, .n, .n, .n, .g, .g]) (args := [(sv v1)]) (h := h) (h' := h16) (v := .bool false) (hC := (And.intro (g_ft l_f) (And.intro (g_ft l_f) (And.intro (g_ft l_f) (And.intro c31 (And.intro (g_ft c31) (And.intro (g_ft c31) (And.intro (g_ft c31) (And.intro (g_ft c31) (And.intro (SlE.len (Heapy.sle (v := u6_0) (xs := y5) (enc := enc38) hp16 2 rfl (fun _ => rfl) (by decide))) (And.intro (F5_l2_0 h y5 u6_0 v13 v16 h16 hp16 y18 y24 (0, 0) y30 e30) (And.intro (SlE.len (Heapy.sle (v := u6_0) (xs := y5) (enc := enc38) hp16 2 rfl (fun _ => rfl) (by decide))) (And.intro (F5_l1_0 h u6_0 h16 y18 (0, 0) y24 e24) (And.intro (F16_spec ((([] : List (Int × Int × Int)) ++ y5) ++ ([((-3), 0, 0), (8, 0, 0)] : List (Int × Int × Int))) v16 h16 (Heapy.sle (v := v16) (xs := ((([] : List (Int × Int × Int)) ++ y5) ++ ([((-3), 0, 0), (8, 0, 0)] : List (Int × Int × Int)))) (enc := enc38) hp16 1 rfl (fun _ => rfl) (by decide)) _ e18) (And.intro m16 (And.intro m13 (And.intro m11 (And.intro m8 (And.intro c6 (And.intro c3 (And.intro (g_ff l_f) (And.intro (SlE.len hv1) (And.intro (g_ff l_f) (And.intro (g_ff l_f) (And.intro (F9_spec h _ rfl) trivial))))))))))))))))))))))))) (hr := by kernel_rfl)⟩
set_option maxRecDepth 100000 in
theorem F5_law (H : ∀ (l1 : List (Int × Int × Int)), (l1.length ≤ maxLen ∧ l1.length * 3 ≤ reachBytes) → (∀ y ∈ l1, W59 y) → F5 l1 = some true) : Law Try.prog 5 10 [33] := by
  intro s us hwf hro hT0
  obtain ⟨u0, vs0, rfl, t0, hT1⟩ := wts_cons hT0
  have k0 := wtv_oneS 3 (ks := [.slice 59]) (by kernel_rfl) (by kernel_rfl) t0
  obtain ⟨v1, r_l1, e_l1, q_l1, k0_0⟩ := sq_slice k0
  obtain ⟨l1, a_l1, m_l1, w_l1⟩ := q_l1 E59 W59 3 (by kernel_rfl) fun n cs H => E59_wt H
  obtain ⟨rfl, rfl⟩ := List.cons.inj e_l1
  have k0_0' := sq_nil k0_0
  obtain rfl := wts_nil hT1
  obtain ⟨h2, _, hc⟩ := F5_spec l1 v1 s hwf a_l1 _ (H l1 m_l1 w_l1)
  refine (hc).mono ?_
  rintro v h' ⟨rfl, rfl⟩
  rfl
end
end Go.Proofs.Ytdoafmfkbddmlaa.Abs
