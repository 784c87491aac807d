/-
  Contracts, written by program: for each function what its call yields, and that it yields it.
-/
import Derived.Test.YtdoafmfkbddmlacVw
import Derived.Test.YtdoafmfkbddmlacChecked
namespace Go.Proofs.Ytdoafmfkbddmlac.Abs
open Go
set_option linter.unusedVariables false
set_option linter.unusedSimpArgs false

theorem good : Good Try.prog := good_of Try.checked.mixed (by kernel_rfl)
noncomputable section
def tabC : List FEnt := [
  { f := 18, L := [], D := [] },
  { f := 21, L := [2], D := [] }]

theorem tabC_ok : tabOk Try.prog tabC = true := by kernel_rfl
theorem F18_run : rIs (rCall 2000 Try.prog tabC 40 18 [] AHeap.none) true = true := by kernel_rfl
theorem F18_spec0 (h : AHeap) : ACalls Try.prog 18 [] h (fun v' h'' => v' = (.bool true : Value) ∧ h'' = h) := acalls_run good 2000 40 tabC tabC_ok F18_run rfl h
def F18 : Unit := ()
theorem F18_spec (h : AHeap) (r : Unit) (_ : F18 = r) : ACalls Try.prog 18 [] h (fun v' h'' => v' = (.bool true : Value) ∧ h'' = h) := F18_spec0 h
def tab : List FEnt := [
  { f := 8, L := [], D := [(7, [(0, 2), (1, 2), (2, 2), (3, 2), (4, 2), (6, 2), (7, 2), (8, 2), (10, 2), (9, 5), (5, 1), (11, 1), (12, 2)]), (16, [(0, 2), (1, 2), (2, 2), (3, 2), (4, 2), (5, 2), (6, 2), (7, 2), (8, 2), (9, 2), (10, 2), (11, 2), (12, 2), (13, 2), (14, 2), (15, 2), (16, 2), (17, 2), (18, 2), (19, 2), (20, 2), (21, 2)])] },
  { f := 19, L := [], D := [(5, [(0, 2), (1, 2), (2, 2), (3, 2), (4, 2), (5, 2), (6, 2), (7, 2), (8, 2), (9, 2), (10, 2), (11, 2), (12, 2), (13, 2), (14, 2), (15, 2), (16, 2), (17, 2), (18, 2), (19, 2), (20, 2), (21, 2), (22, 2), (23, 2), (24, 2), (25, 0), (26, 0), (27, 2)])] },
  { f := 20, L := [8], D := [(11, [(0, 2), (1, 2), (2, 2), (3, 2), (4, 2), (5, 2), (6, 2), (7, 2), (8, 2), (9, 2), (10, 2), (11, 2), (12, 2), (13, 0), (14, 0), (15, 2)])] },
  { f := 21, L := [2], D := [] },
  { f := 22, L := [2], D := [] },
  { f := 23, L := [7], D := [] },
  { f := 24, L := [], D := [] },
  { f := 25, L := [], D := [(6, [(0, 2), (1, 2), (2, 2), (3, 2), (4, 2), (5, 2), (6, 2), (7, 2), (8, 2), (9, 2), (10, 2), (11, 2), (12, 2), (13, 2)])] },
  { f := 37, L := [7, 10], D := [] }]

theorem tab_ok : tabOk Try.prog tab = true := by kernel_rfl
def enc55 (x : Int × Int) : List Value := [.int .u8 x.1, .int .u8 x.2]
def E55 (h : AHeap) (cs : List Value) (x : Int × Int) : Prop := cs = enc55 x
theorem E55_mono {h h' : AHeap} (le : h.sub h') (cs : List Value) (x : Int × Int) (H : E55 h cs x) : E55 h' cs x := H
def W55 (x : Int × Int) : Prop := (Lit.int .u8 x.1).wf = true ∧ (Lit.int .u8 x.2).wf = true ∧ True
set_option maxRecDepth 100000 in
theorem E55_wt {h : AHeap} {n : Nat} {cs : List Value} (H : WT Try.prog h n 55 cs) : ∃ x, E55 h cs x ∧ W55 x := by
  have k : SQ Try.prog h [.int .u8, .int .u8] cs := wt_flatS 2 n (by kernel_rfl) H
  obtain ⟨x0, r0, rfl, w0, k0⟩ := sq_int k
  obtain ⟨x1, r1, rfl, w1, k1⟩ := sq_int k0
  obtain rfl := sq_nil k1
  exact ⟨(x0, x1), rfl, ⟨w0, w1, trivial⟩⟩
def enc44 (x : Int × Int × Int) : List Value := [.int .i64 x.1, .int .i64 x.2.1, .int .i64 x.2.2]
def E44 (h : AHeap) (cs : List Value) (x : Int × Int × Int) : Prop := cs = enc44 x
theorem E44_mono {h h' : AHeap} (le : h.sub h') (cs : List Value) (x : Int × Int × Int) (H : E44 h cs x) : E44 h' cs x := H
def W44 (x : Int × Int × Int) : Prop := (Lit.int .i64 x.1).wf = true ∧ (Lit.int .i64 x.2.1).wf = true ∧ (Lit.int .i64 x.2.2).wf = true ∧ True
set_option maxRecDepth 100000 in
theorem E44_wt {h : AHeap} {n : Nat} {cs : List Value} (H : WT Try.prog h n 44 cs) : ∃ x, E44 h cs x ∧ W44 x := by
  have k : SQ Try.prog h [.int .i64, .int .i64, .int .i64] cs := wt_flatS 2 n (by kernel_rfl) H
  obtain ⟨x0, r0, rfl, w0, k0⟩ := sq_int k
  obtain ⟨x1, r1, rfl, w1, k1⟩ := sq_int k0
  obtain ⟨x2, r2, rfl, w2, k2⟩ := sq_int k1
  obtain rfl := sq_nil k2
  exact ⟨(x0, x1, x2), rfl, ⟨w0, w1, w2, trivial⟩⟩
/-! 19 jacquard/jacquardlaw37.lives -/
def F19_L : List Nat := []
def F19_D : List (Nat × List (Nat × Nat)) := [(5, [(0, 2), (1, 2), (2, 2), (3, 2), (4, 2), (5, 2), (6, 2), (7, 2), (8, 2), (9, 2), (10, 2), (11, 2), (12, 2), (13, 2), (14, 2), (15, 2), (16, 2), (17, 2), (18, 2), (19, 2), (20, 2), (21, 2), (22, 2), (23, 2), (24, 2), (25, 0), (26, 0), (27, 2)])]
def F19__1 (y8 : Int × Int) : Int := (IntKind.i64.wrap ((IntKind.i64.wrap ((y8.1.tmod 60))) + (IntKind.i64.wrap ((y8.2.tmod 60)))))
def F19_m1_1 : List Bool := [true, true, true, false, true, true, true, true, true, true, true, true, true, true, true, true, true, true, true, true, true, true, true, true, true, true, true, true, true, true, true, true, true, true, true, true, true, true, true]
def F19_m1_0 : List Bool := [false, true, true, false, true, true, false, false, true, true, true, true, true, true, true, true, true, true, true, true, true, true, true, true, true, true, true, true, true, true, true, true, true, true, true, true, true, true, true]
def F19_s1 (l1 : List (Int × Int)) (a4 : Int) (l5 : List (Int × Int × Int)) : Option ((Int × (List (Int × Int × Int))) ⊕ (List (Int × Int × Int))) :=
  (bif decide (a4 < (l1.length : Int)) then
   (Option.bind (at? l1 a4) fun y8 =>
   (bif (!(okApp (l5.length + ([(a4, (IntKind.i64.wrap ((y8.1.tmod 60))), (F19__1 y8))] : List (Int × Int × Int)).length) 24)) then none else
   some (.inl ((IntKind.i64.wrap (a4 + 1)), (l5 ++ ([(a4, (IntKind.i64.wrap ((y8.1.tmod 60))), (F19__1 y8))] : List (Int × Int × Int)))))))
  else
   some (.inr l5))
def F19_h1 (l1 : List (Int × Int)) (v1 : Hd) (h6 : AHeap) (u5 : Hd) (a4 : Int) (l5 : List (Int × Int × Int)) : AS := ⟨[(sv v1), junk, junk, (sv u5), junk, junk, .int .i64 (l1.length : Int), .int .i64 a4, junk, junk, junk, junk, junk, junk, junk, junk, junk, junk, junk, junk, junk, junk, junk, junk, junk, junk, junk, junk, junk, junk, junk, junk, junk, junk, junk, junk, junk, junk, junk], [], h6⟩
theorem F19_d1 : drawsOk F19_D (codeOf Try.prog 19 [1, 1, 0, 1, 0, 0]) = true := by kernel_rfl
def F19_x1_0 (h : AHeap) (hx : AHeap) (w0 : Hd) (r : (List (Int × Int × Int))) : AS := ⟨[junk, junk, junk, (sv w0), junk, junk, junk, junk, junk, junk, junk, junk, junk, junk, junk, junk, junk, junk, junk, junk, junk, junk, junk, junk, junk, junk, junk, junk, junk, junk, junk, junk, junk, junk, junk, junk, junk, junk, junk], [], hx⟩
def F19_i1 (h : AHeap) (l1 : List (Int × Int)) (v1 : Hd) (s : Int × (List (Int × Int × Int))) (S : AS) : Prop := ∃ (h6 : AHeap) (u5 : Hd), Heapy h h6 [⟨u5, 44, 3, List.flatMap enc44 s.2⟩] ∧ S = (F19_h1 l1 v1 h6 u5 s.1 s.2)
def F19_x1 (h : AHeap) (r : (List (Int × Int × Int))) (e : Exit) (S : AS) : Prop := e = (.exit 0) ∧ ∃ (hx : AHeap) (w0 : Hd), Heapy h hx [⟨w0, 44, 3, List.flatMap enc44 r⟩] ∧ S = (F19_x1_0 h hx w0 r)
set_option maxRecDepth 100000 in
theorem F19_r1 (h : AHeap) (l1 : List (Int × Int)) (v1 : Hd) (hv1 : SlE E55 2 h (sv v1) l1) (a4 : Int) (l5 : List (Int × Int × Int)) (S : AS) (hI : (F19_i1 h l1 v1) (a4, l5) S) (o : (Int × (List (Int × Int × Int))) ⊕ (List (Int × Int × Int))) : F19_s1 l1 a4 l5 = some o → Rd Try.prog (codeOf Try.prog 19 [1, 1, 0, 1, 0, 0]) (F19_i1 h l1 v1) (F19_x1 h) S o := by
  obtain ⟨h6, u5, hp6, rfl⟩ := hI
  unfold F19_s1
  refine dec_bif (fun c7 => ?_) (fun c7 => ?_)
  · refine bind_opt fun y8 e8 => ?_
    obtain ⟨id8, off8, g8, cs8, ix8, at8, rfl⟩ := SlE.at hv1 e8
    obtain ⟨v9, h9, m9, hp9, _⟩ := Heapy.build (P := Try.prog) hp6 (t := 39) (e := 44) (len := 1) (n := 3) (parts := [(0, .agg #[.int .i64 a4, .int .i64 (IntKind.i64.wrap ((y8.1.tmod 60))), .int .i64 (F19__1 y8)])]) (cells := List.flatMap enc44 ([(a4, (IntKind.i64.wrap ((y8.1.tmod 60))), (F19__1 y8))] : List (Int × Int × Int))) (by kernel_rfl) rfl
    refine guard_ok fun g11 => ?_
    obtain ⟨v12, h12, m12, q12, _⟩ := Heapy.append hp9 (show mkInfo Try.prog 39 = some (44, 3, 24, [.int .i64 0, .int .i64 0, .int .i64 0]) by kernel_rfl) 1 (v := u5) (cells := List.flatMap enc44 l5) rfl (Y := (sv v9)) (SlE.src (enc := enc44) (c := 3) (Heapy.sle (v := v9) (xs := ([(a4, (IntKind.i64.wrap ((y8.1.tmod 60))), (F19__1 y8))] : List (Int × Int × Int))) (enc := enc44) hp9 0 rfl (fun _ => rfl) (by decide)) (fun _ => rfl)) (flatMap_length (enc := enc44) (c := 3) (fun _ => rfl) _) (by rw [Heapy.vn (v := u5) (xs := l5) (enc := enc44) hp9 1 rfl (fun _ => rfl) (by decide)]; simpa using g11)
    have hp12 : Heapy h h12 [⟨v9, 44, 3, List.flatMap enc44 ([(a4, (IntKind.i64.wrap ((y8.1.tmod 60))), (F19__1 y8))] : List (Int × Int × Int))⟩, ⟨v12, 44, 3, List.flatMap enc44 (l5 ++ ([(a4, (IntKind.i64.wrap ((y8.1.tmod 60))), (F19__1 y8))] : List (Int × Int × Int)))⟩] := by rw [← List.flatMap_append] at q12; exact q12
    intro hr
    obtain rfl := Option.some.inj hr
    exact ⟨(F19_h1 l1 v1 h12 v12 (IntKind.i64.wrap (a4 + 1)) (l5 ++ ([(a4, (IntKind.i64.wrap ((y8.1.tmod 60))), (F19__1 y8))] : List (Int × Int × Int)))), ⟨h12, v12, (Heapy.pick hp12 [1] (by decide)), rfl⟩, pEnd_sound good (L := F19_L) (D := F19_D) (its := [.g, (.b true), .g, .g, .g, .g, .g, .g, (.ix id8 off8 g8), .g, (.ld (.int .u8 y8.1)), .g, .g, .g, .g, (.ix id8 off8 g8), .g, (.ld (.int .u8 y8.1)), .g, .g, .g, .g, (.ix id8 off8 g8), .g, (.ld (.int .u8 y8.2)), .g, .g, .g, .g, (.mm (sv v9) h9), (.mm (sv v12) h12), .g, .g, .g]) (ds := F19_m1_0) (ks := []) (e := .normal) (s2 := (F19_h1 l1 v1 h12 v12 (IntKind.i64.wrap (a4 + 1)) (l5 ++ ([(a4, (IntKind.i64.wrap ((y8.1.tmod 60))), (F19__1 y8))] : List (Int × Int × Int))))) (hC := (And.intro m12 (And.intro m9 (And.intro (At.one (P := Try.prog) (t := 5) (v := .int .u8 y8.2) (At.mono (Heapy.sub hp6) at8) (by kernel_rfl) 1 rfl rfl) (And.intro ix8 (And.intro (At.one (P := Try.prog) (t := 5) (v := .int .u8 y8.1) (At.mono (Heapy.sub hp6) at8) (by kernel_rfl) 0 rfl rfl) (And.intro ix8 (And.intro (At.one (P := Try.prog) (t := 5) (v := .int .u8 y8.1) (At.mono (Heapy.sub hp6) at8) (by kernel_rfl) 0 rfl rfl) (And.intro ix8 (And.intro c7 trivial)))))))))) (hd := F19_d1) (h := by kernel_rfl)⟩
  · intro hr
    obtain rfl := Option.some.inj hr
    refine ⟨(.exit 0), (F19_x1_0 h h6 u5 (l5 : (List (Int × Int × Int)))), (by intro hh; cases hh), ?_, pEnd_sound good (L := F19_L) (D := F19_D) (its := [.g, (.b false)]) (ds := F19_m1_1) (ks := []) (e := (.exit 0)) (s2 := (F19_x1_0 h h6 u5 (l5 : (List (Int × Int × Int))))) (hC := (And.intro c7 trivial)) (hd := F19_d1) (h := by kernel_rfl)⟩
    exact ⟨rfl, h6, u5, (Heapy.pick hp6 [0] (by decide)), rfl⟩
theorem F19_l1 (h : AHeap) (l1 : List (Int × Int)) (v1 : Hd) (hv1 : SlE E55 2 h (sv v1) l1) (x : Int × (List (Int × Int × Int))) (r : (List (Int × Int × Int))) (hl : loopO (fun (s : Int × (List (Int × Int × Int))) => F19_s1 l1 s.1 s.2) x = some r) (S : AS) (hI : (F19_i1 h l1 v1) x S) : ∃ e S', (F19_x1 h) r e S' ∧ AWp Try.prog (.loop (codeOf Try.prog 19 [1, 1, 0, 1, 0, 0])) (Ends1 e S') S :=
  loop_rel (fun x S hI => F19_r1 h l1 v1 hv1 x.1 x.2 S hI) hl hI
def F19 (l1 : List (Int × Int)) : Option ((List (Int × Int × Int))) :=
  (Option.bind (loopO (fun (s : Int × (List (Int × Int × Int))) => F19_s1 l1 s.1 s.2) (0, ([] : List (Int × Int × Int)))) fun y14 =>
  some (y14))
set_option maxRecDepth 100000 in
theorem F19_spec (l1 : List (Int × Int)) (v1 : Hd) (h : AHeap) (hw : h.wf) (hv1 : SlE E55 2 h (sv v1) l1) (r : (List (Int × Int × Int))) : F19 l1 = some r → ∃ (ur0 : Hd) (h' : AHeap), Heapy h h' [⟨ur0, 44, 3, List.flatMap enc44 r⟩] ∧ ACalls Try.prog 19 [(sv v1)] h (fun v' h'' => v' = ((sv ur0) : Value) ∧ h'' = h') := by
  unfold F19
  refine bind_opt fun y14 e14 => ?_
  have hp2 : Heapy h h [⟨⟨none, 0, 0⟩, 44, 3, List.flatMap enc44 ([] : List (Int × Int × Int))⟩] := Heapy.nil (Heapy.refl hw) 44 3
  obtain ⟨ee14, SS14, hX14, hA14⟩ := F19_l1 h l1 v1 hv1 (0, ([] : List (Int × Int × Int))) y14 e14 (F19_h1 l1 v1 h ⟨none, 0, 0⟩ 0 ([] : List (Int × Int × Int))) ⟨h, ⟨none, 0, 0⟩, (Heapy.pick hp2 [0] (by decide)), rfl⟩
  obtain ⟨rfl, h15, w0_15, hp15, rfl⟩ := hX14
  intro hr
  obtain rfl := Option.some.inj hr
  exact ⟨w0_15, h15, Heapy.pick hp15 [0] (by decide), pFun_sound good tab_ok (f := 19) (its := [.g, .g, .g, (.ln l1.length), .g, (.l F19_m1_0 [] (.exit 0) (F19_x1_0 h h15 w0_15 y14)), .g, .g]) (args := [(sv v1)]) (h := h) (h' := h15) (v := (sv w0_15)) (hC := (And.intro hA14 (And.intro (SlE.len hv1) trivial))) (hr := by kernel_rfl)⟩
/-! 21 jacquard/lifetime.Length -/
def F21 (x1 : Int) (x2 : Int) (x3 : Int) (x4 : Int) : Int :=
  (bif decide (x4 ≤ 0) then
   1
  else
   (IntKind.i64.wrap ((IntKind.i64.wrap ((IntKind.i64.wrap (x3 - x2)).tdiv x4)) + 1)))
set_option maxRecDepth 100000 in
theorem F21_spec (x1 : Int) (x2 : Int) (x3 : Int) (x4 : Int) (h : AHeap)  (r : Int) : F21 x1 x2 x3 x4 = r → ACalls Try.prog 21 [.agg #[.int .i64 x1, .int .i64 x2, .int .i64 x3], .int .i64 x4] h (fun v' h'' => v' = (.int .i64 r : Value) ∧ h'' = h) := by
  unfold F21
  refine dec_bif (fun c5 => ?_) (fun c5 => ?_)
  · intro hr
    subst hr
    exact pFun_sound good tab_ok (f := 21) (its := [.g, .g, .g, .g, (.b true), .g]) (args := [.agg #[.int .i64 x1, .int .i64 x2, .int .i64 x3], .int .i64 x4]) (h := h) (h' := h) (v := .int .i64 1) (hC := (And.intro c5 trivial)) (hr := by kernel_rfl)
  · intro hr
    subst hr
    exact pFun_sound good tab_ok (f := 21) (its := [.g, .g, .g, .g, (.b false), .g, .g, .g, .g, .g, .g, .d, .g, .g]) (args := [.agg #[.int .i64 x1, .int .i64 x2, .int .i64 x3], .int .i64 x4]) (h := h) (h' := h) (v := .int .i64 (IntKind.i64.wrap ((IntKind.i64.wrap ((IntKind.i64.wrap (x3 - x2)).tdiv x4)) + 1))) (hC := (And.intro (nz6 c5) (And.intro c5 trivial))) (hr := by kernel_rfl)
/-! 22 jacquard/jacquardref37.Length -/
def F22_L : List Nat := [2]
def F22_D : List (Nat × List (Nat × Nat)) := []
def F22_m1_1 : List Bool := [true, true, true, true, true, false, true, true, true, true, true, true, true, true, true, true, true, true, true, true, true, true]
def F22_m1_0 : List Bool := [true, false, false, true, true, false, true, true, true, true, true, true, true, true, true, true, true, true, true, true, true, true]
def F22_s1 (x2 : Int) (x3 : Int) (x4 : Int) (a5 : Int) : Option (Int ⊕ Int) :=
  (bif decide (x4 > 0) then
   (bif decide ((IntKind.i64.wrap (x2 + (IntKind.i64.wrap (a5 * x4)))) ≤ x3) then
    some (.inl (IntKind.i64.wrap (a5 + 1)))
   else
    some (.inr a5))
  else
   some (.inr a5))
def F22_h1 (h : AHeap) (x1 : Int) (x2 : Int) (x3 : Int) (x4 : Int)  (a5 : Int) : AS := ⟨[junk, .int .i64 x4, .pointer (some ⟨2, 0, none⟩), junk, junk, .int .i64 a5, junk, junk, junk, junk, junk, junk, junk, junk, junk, junk, junk, junk, junk, junk, junk, junk], [(2, [.int .i64 x1, .int .i64 x2, .int .i64 x3])], h⟩
theorem F22_d1 : drawsOk F22_D (codeOf Try.prog 22 [1, 1, 0, 0, 0]) = true := by kernel_rfl
def F22_x1_0 (h : AHeap)  (r : Int) : AS := ⟨[junk, junk, junk, junk, junk, .int .i64 r, junk, junk, junk, junk, junk, junk, junk, junk, junk, junk, junk, junk, junk, junk, junk, junk], [], h⟩
def F22_x1 (h : AHeap) (r : Int) : Exit × AS := ((.exit 0), (F22_x1_0 h r))
set_option maxRecDepth 100000 in
theorem F22_r1 (h : AHeap) (x1 : Int) (x2 : Int) (x3 : Int) (x4 : Int) (a5 : Int) (o : Int ⊕ Int) : F22_s1 x2 x3 x4 a5 = some o → RdF Try.prog (codeOf Try.prog 22 [1, 1, 0, 0, 0]) (fun (s : Int) => (F22_h1 h x1 x2 x3 x4 s)) (F22_x1 h) (F22_h1 h x1 x2 x3 x4 a5) o := by
  unfold F22_s1
  refine dec_bif (fun c6 => ?_) (fun c6 => ?_)
  · refine dec_bif (fun c7 => ?_) (fun c7 => ?_)
    · intro hr
      obtain rfl := Option.some.inj hr
      show AWp Try.prog _ (Ends1 .normal (F22_h1 h x1 x2 x3 x4 (IntKind.i64.wrap (a5 + 1)))) _
      exact pEnd_sound good (L := F22_L) (D := F22_D) (its := [.g, .g, .g, (.w .g), (.w .g), (.w .g), (.w .g), (.w .g), (.w .g), (.w .g), (.w .g), (.w .g), (.p true), (.b true), .g, .g, .g]) (ds := F22_m1_0) (ks := []) (e := .normal) (s2 := (F22_h1 h x1 x2 x3 x4 (IntKind.i64.wrap (a5 + 1)))) (hC := (And.intro c7 (And.intro c6 (And.intro (g_tt c6) (And.intro (g_tt c6) (And.intro (g_tt c6) (And.intro (g_tt c6) (And.intro (g_tt c6) (And.intro (g_tt c6) (And.intro (g_tt c6) (And.intro (g_tt c6) (And.intro (g_tt c6) trivial)))))))))))) (hd := F22_d1) (h := by kernel_rfl)
    · intro hr
      obtain rfl := Option.some.inj hr
      show AWp Try.prog _ (Ends1 ((F22_x1 h) (a5 : Int)).1 ((F22_x1 h) (a5 : Int)).2) _
      exact pEnd_sound good (L := F22_L) (D := F22_D) (its := [.g, .g, .g, (.w .g), (.w .g), (.w .g), (.w .g), (.w .g), (.w .g), (.w .g), (.w .g), (.w .g), (.p true), (.b false)]) (ds := F22_m1_1) (ks := [2]) (e := ((F22_x1 h) (a5 : Int)).1) (s2 := ((F22_x1 h) (a5 : Int)).2) (hC := (And.intro c7 (And.intro c6 (And.intro (g_tt c6) (And.intro (g_tt c6) (And.intro (g_tt c6) (And.intro (g_tt c6) (And.intro (g_tt c6) (And.intro (g_tt c6) (And.intro (g_tt c6) (And.intro (g_tt c6) (And.intro (g_tt c6) trivial)))))))))))) (hd := F22_d1) (h := by kernel_rfl)
  · intro hr
    obtain rfl := Option.some.inj hr
    show AWp Try.prog _ (Ends1 ((F22_x1 h) (a5 : Int)).1 ((F22_x1 h) (a5 : Int)).2) _
    exact pEnd_sound good (L := F22_L) (D := F22_D) (its := [.g, .g, .g, .n, .n, .n, .n, .n, .n, .n, .n, .n, (.p false), (.b false)]) (ds := F22_m1_1) (ks := [2]) (e := ((F22_x1 h) (a5 : Int)).1) (s2 := ((F22_x1 h) (a5 : Int)).2) (hC := (And.intro l_f (And.intro c6 (And.intro (g_ft c6) (And.intro (g_ft c6) (And.intro (g_ft c6) (And.intro (g_ft c6) (And.intro (g_ft c6) (And.intro (g_ft c6) (And.intro (g_ft c6) (And.intro (g_ft c6) (And.intro (g_ft c6) trivial)))))))))))) (hd := F22_d1) (h := by kernel_rfl)
theorem F22_l1_0 (h : AHeap) (x1 : Int) (x2 : Int) (x3 : Int) (x4 : Int) (x : Int) (r : Int) (hl : loopO (fun (s : Int) => F22_s1 x2 x3 x4 s) x = some r) : AWp Try.prog (.loop (codeOf Try.prog 22 [1, 1, 0, 0, 0])) (Ends1 (.exit 0) (F22_x1_0 h r)) ((fun (s : Int) => (F22_h1 h x1 x2 x3 x4 s)) x) := by
  have k := loop_fun (P := Try.prog) (c := (codeOf Try.prog 22 [1, 1, 0, 0, 0])) (step := (fun (s : Int) => F22_s1 x2 x3 x4 s)) (hd := (fun (s : Int) => (F22_h1 h x1 x2 x3 x4 s))) (X := (F22_x1 h)) (by intro t; unfold F22_x1; intro h; cases h) (fun x => F22_r1 h x1 x2 x3 x4 x) hl
  exact k
def F22 (x1 : Int) (x2 : Int) (x3 : Int) (x4 : Int) : Option (Int) :=
  (Option.bind (loopO (fun (s : Int) => F22_s1 x2 x3 x4 s) 1) fun y8 =>
  some (y8))
set_option maxRecDepth 100000 in
theorem F22_spec (x1 : Int) (x2 : Int) (x3 : Int) (x4 : Int) (h : AHeap)  (r : Int) : F22 x1 x2 x3 x4 = some r → ACalls Try.prog 22 [.agg #[.int .i64 x1, .int .i64 x2, .int .i64 x3], .int .i64 x4] h (fun v' h'' => v' = (.int .i64 r : Value) ∧ h'' = h) := by
  unfold F22
  refine bind_opt fun y8 e8 => ?_
  intro hr
  obtain rfl := Option.some.inj hr
  exact pFun_sound good tab_ok (f := 22) (its := [.g, .g, .g, (.l F22_m1_0 [] (.exit 0) (F22_x1_0 h y8)), .g, .g]) (args := [.agg #[.int .i64 x1, .int .i64 x2, .int .i64 x3], .int .i64 x4]) (h := h) (h' := h) (v := .int .i64 y8) (hC := (And.intro (F22_l1_0 h x1 x2 x3 x4 1 y8 e8) trivial)) (hr := by kernel_rfl)
def enc24 (x : Int × Int) : List Value := [.int .i64 x.1, .int .i64 x.2]
def E24 (h : AHeap) (cs : List Value) (x : Int × Int) : Prop := cs = enc24 x
theorem E24_mono {h h' : AHeap} (le : h.sub h') (cs : List Value) (x : Int × Int) (H : E24 h cs x) : E24 h' cs x := H
def W24 (x : Int × Int) : Prop := (Lit.int .i64 x.1).wf = true ∧ (Lit.int .i64 x.2).wf = true ∧ True
set_option maxRecDepth 100000 in
theorem E24_wt {h : AHeap} {n : Nat} {cs : List Value} (H : WT Try.prog h n 24 cs) : ∃ x, E24 h cs x ∧ W24 x := by
  have k : SQ Try.prog h [.int .i64, .int .i64] cs := wt_flatS 2 n (by kernel_rfl) H
  obtain ⟨x0, r0, rfl, w0, k0⟩ := sq_int k
  obtain ⟨x1, r1, rfl, w1, k1⟩ := sq_int k0
  obtain rfl := sq_nil k1
  exact ⟨(x0, x1), rfl, ⟨w0, w1, trivial⟩⟩
/-! 23 jacquard/lifetime.Spans -/
def F23_L : List Nat := [7]
def F23_D : List (Nat × List (Nat × Nat)) := []
def F23__1 (x2 : Int) (y9 : Int × Int × Int) (a16 : Int) : Int := (if (IntKind.i64.wrap ((IntKind.i64.wrap (y9.2.2 - a16)) + 1)) < x2 then (IntKind.i64.wrap ((IntKind.i64.wrap (y9.2.2 - a16)) + 1)) else x2)
def F23_m1_1 : List Bool := [true, false, true, true, true, false, true, false, false, false, false, false, true, true, true, true, true, true, true, true, true, true, true, true, true, true, true, true, true, true, true, true, true, true, true, true, true, true, true, true, true, true, true, true, true, true, true, true, true, true, true, true, true, true, true, true, true, true, true, true, true, true, true]
def F23_m1_0 : List Bool := [true, false, true, true, true, false, true, true, true, false, false, false, true, true, true, true, true, true, true, true, true, true, true, true, true, true, true, true, true, true, true, true, true, true, true, true, true, true, true, true, true, true, true, true, true, true, true, true, true, true, true, true, true, true, true, true, true, true, true, true, true, true, true]
def F23_s1 (x2 : Int) (y9 : Int × Int × Int) (a16 : Int) (l17 : List (Int × Int)) : Option ((Int × (List (Int × Int))) ⊕ (List (Int × Int))) :=
  (bif decide (a16 ≤ y9.2.2) then
   (bif decide ((l17.length : Int) < 1048576) then
    (bif (!(okApp (l17.length + ([(a16, (F23__1 x2 y9 a16))] : List (Int × Int)).length) 16)) then none else
    (bif decide ((IntKind.i64.wrap (y9.2.2 - a16)) < x2) then
     some (.inr (l17 ++ ([(a16, (F23__1 x2 y9 a16))] : List (Int × Int))))
    else
     some (.inl ((IntKind.i64.wrap (a16 + x2)), (l17 ++ ([(a16, (F23__1 x2 y9 a16))] : List (Int × Int)))))))
   else
    some (.inr l17))
  else
   some (.inr l17))
def F23_h1 (l1 : List (Int × Int × Int)) (v1 : Hd) (x2 : Int) (a5 : Int) (y9 : Int × Int × Int) (h18 : AHeap) (u17 : Hd) (a16 : Int) (l17 : List (Int × Int)) : AS := ⟨[junk, .int .i64 x2, junk, junk, junk, (sv u17), junk, .pointer (some ⟨7, 0, none⟩), .int .i64 a16, (sv v1), .int .i64 (l1.length : Int), .int .i64 a5, junk, junk, junk, junk, junk, junk, junk, junk, junk, junk, junk, junk, junk, junk, junk, junk, junk, junk, junk, junk, junk, junk, junk, junk, junk, junk, junk, junk, junk, junk, junk, junk, junk, junk, junk, junk, junk, junk, junk, junk, junk, junk, junk, junk, junk, junk, junk, junk, junk, junk, junk], [(7, [.int .i64 y9.1, .int .i64 y9.2.1, .int .i64 y9.2.2])], h18⟩
theorem F23_d1 : drawsOk F23_D (codeOf Try.prog 23 [1, 1, 0, 1, 0, 0, 1, 1, 0, 0, 1, 1, 1, 0, 0]) = true := by kernel_rfl
def F23_x1_0 (h : AHeap) (l1 : List (Int × Int × Int)) (v1 : Hd) (x2 : Int) (a5 : Int) (hx : AHeap) (w0 : Hd) (r : (List (Int × Int))) : AS := ⟨[junk, .int .i64 x2, junk, junk, junk, (sv w0), junk, junk, junk, (sv v1), .int .i64 (l1.length : Int), .int .i64 a5, junk, junk, junk, junk, junk, junk, junk, junk, junk, junk, junk, junk, junk, junk, junk, junk, junk, junk, junk, junk, junk, junk, junk, junk, junk, junk, junk, junk, junk, junk, junk, junk, junk, junk, junk, junk, junk, junk, junk, junk, junk, junk, junk, junk, junk, junk, junk, junk, junk, junk, junk], [], hx⟩
def F23_i1 (h : AHeap) (l1 : List (Int × Int × Int)) (v1 : Hd) (x2 : Int) (a5 : Int) (y9 : Int × Int × Int) (s : Int × (List (Int × Int))) (S : AS) : Prop := ∃ (h18 : AHeap) (u17 : Hd), Heapy h h18 [⟨u17, 24, 2, List.flatMap enc24 s.2⟩] ∧ S = (F23_h1 l1 v1 x2 a5 y9 h18 u17 s.1 s.2)
def F23_x1 (h : AHeap) (l1 : List (Int × Int × Int)) (v1 : Hd) (x2 : Int) (a5 : Int) (r : (List (Int × Int))) (e : Exit) (S : AS) : Prop := e = (.exit 2) ∧ ∃ (hx : AHeap) (w0 : Hd), Heapy h hx [⟨w0, 24, 2, List.flatMap enc24 r⟩] ∧ S = (F23_x1_0 h l1 v1 x2 a5 hx w0 r)
set_option maxRecDepth 100000 in
theorem F23_r1 (h : AHeap) (l1 : List (Int × Int × Int)) (v1 : Hd) (x2 : Int) (a5 : Int) (y9 : Int × Int × Int) (a16 : Int) (l17 : List (Int × Int)) (S : AS) (hI : (F23_i1 h l1 v1 x2 a5 y9) (a16, l17) S) (o : (Int × (List (Int × Int))) ⊕ (List (Int × Int))) : F23_s1 x2 y9 a16 l17 = some o → Rd Try.prog (codeOf Try.prog 23 [1, 1, 0, 1, 0, 0, 1, 1, 0, 0, 1, 1, 1, 0, 0]) (F23_i1 h l1 v1 x2 a5 y9) (F23_x1 h l1 v1 x2 a5) S o := by
  obtain ⟨h18, u17, hp18, rfl⟩ := hI
  unfold F23_s1
  refine dec_bif (fun c19 => ?_) (fun c19 => ?_)
  · refine dec_bif (fun c20 => ?_) (fun c20 => ?_)
    · obtain ⟨v21, h21, m21, hp21, _⟩ := Heapy.build (P := Try.prog) hp18 (t := 22) (e := 24) (len := 1) (n := 2) (parts := [(0, .agg #[.int .i64 a16, .int .i64 (F23__1 x2 y9 a16)])]) (cells := List.flatMap enc24 ([(a16, (F23__1 x2 y9 a16))] : List (Int × Int))) (by kernel_rfl) rfl
      refine guard_ok fun g23 => ?_
      obtain ⟨v24, h24, m24, q24, _⟩ := Heapy.append hp21 (show mkInfo Try.prog 22 = some (24, 2, 16, [.int .i64 0, .int .i64 0]) by kernel_rfl) 1 (v := u17) (cells := List.flatMap enc24 l17) rfl (Y := (sv v21)) (SlE.src (enc := enc24) (c := 2) (Heapy.sle (v := v21) (xs := ([(a16, (F23__1 x2 y9 a16))] : List (Int × Int))) (enc := enc24) hp21 0 rfl (fun _ => rfl) (by decide)) (fun _ => rfl)) (flatMap_length (enc := enc24) (c := 2) (fun _ => rfl) _) (by rw [Heapy.vn (v := u17) (xs := l17) (enc := enc24) hp21 1 rfl (fun _ => rfl) (by decide)]; simpa using g23)
      have hp24 : Heapy h h24 [⟨v21, 24, 2, List.flatMap enc24 ([(a16, (F23__1 x2 y9 a16))] : List (Int × Int))⟩, ⟨v24, 24, 2, List.flatMap enc24 (l17 ++ ([(a16, (F23__1 x2 y9 a16))] : List (Int × Int)))⟩] := by rw [← List.flatMap_append] at q24; exact q24
      refine dec_bif (fun c26 => ?_) (fun c26 => ?_)
      · intro hr
        obtain rfl := Option.some.inj hr
        refine ⟨(.exit 2), (F23_x1_0 h l1 v1 x2 a5 h24 v24 ((l17 ++ ([(a16, (F23__1 x2 y9 a16))] : List (Int × Int))) : (List (Int × Int)))), (by intro hh; cases hh), ?_, pEnd_sound good (L := F23_L) (D := F23_D) (its := [.g, .g, .g, .g, .g, (.w .g), (.w (.ln l17.length)), (.w .g), (.p true), (.b true), .g, .g, .g, .g, .g, .g, .g, .g, .g, .g, (.mm (sv v21) h21), (.mm (sv v24) h24), .g, .g, .g, .g, .g, .g, .g, (.b true)]) (ds := F23_m1_0) (ks := [7]) (e := (.exit 2)) (s2 := (F23_x1_0 h l1 v1 x2 a5 h24 v24 ((l17 ++ ([(a16, (F23__1 x2 y9 a16))] : List (Int × Int))) : (List (Int × Int))))) (hC := (And.intro c26 (And.intro m24 (And.intro m21 (And.intro c20 (And.intro c19 (And.intro (g_tt c19) (And.intro (SlE.len (Heapy.sle (v := u17) (xs := l17) (enc := enc24) hp18 0 rfl (fun _ => rfl) (by decide))) (And.intro (g_tt c19) (And.intro (g_tt c19) trivial)))))))))) (hd := F23_d1) (h := by kernel_rfl)⟩
        exact ⟨rfl, h24, v24, (Heapy.pick hp24 [1] (by decide)), rfl⟩
      · intro hr
        obtain rfl := Option.some.inj hr
        exact ⟨(F23_h1 l1 v1 x2 a5 y9 h24 v24 (IntKind.i64.wrap (a16 + x2)) (l17 ++ ([(a16, (F23__1 x2 y9 a16))] : List (Int × Int)))), ⟨h24, v24, (Heapy.pick hp24 [1] (by decide)), rfl⟩, pEnd_sound good (L := F23_L) (D := F23_D) (its := [.g, .g, .g, .g, .g, (.w .g), (.w (.ln l17.length)), (.w .g), (.p true), (.b true), .g, .g, .g, .g, .g, .g, .g, .g, .g, .g, (.mm (sv v21) h21), (.mm (sv v24) h24), .g, .g, .g, .g, .g, .g, .g, (.b false), .g, .g, .g, .g]) (ds := F23_m1_1) (ks := []) (e := .normal) (s2 := (F23_h1 l1 v1 x2 a5 y9 h24 v24 (IntKind.i64.wrap (a16 + x2)) (l17 ++ ([(a16, (F23__1 x2 y9 a16))] : List (Int × Int))))) (hC := (And.intro c26 (And.intro m24 (And.intro m21 (And.intro c20 (And.intro c19 (And.intro (g_tt c19) (And.intro (SlE.len (Heapy.sle (v := u17) (xs := l17) (enc := enc24) hp18 0 rfl (fun _ => rfl) (by decide))) (And.intro (g_tt c19) (And.intro (g_tt c19) trivial)))))))))) (hd := F23_d1) (h := by kernel_rfl)⟩
    · intro hr
      obtain rfl := Option.some.inj hr
      refine ⟨(.exit 2), (F23_x1_0 h l1 v1 x2 a5 h18 u17 (l17 : (List (Int × Int)))), (by intro hh; cases hh), ?_, pEnd_sound good (L := F23_L) (D := F23_D) (its := [.g, .g, .g, .g, .g, (.w .g), (.w (.ln l17.length)), (.w .g), (.p true), (.b false)]) (ds := F23_m1_0) (ks := [7]) (e := (.exit 2)) (s2 := (F23_x1_0 h l1 v1 x2 a5 h18 u17 (l17 : (List (Int × Int))))) (hC := (And.intro c20 (And.intro c19 (And.intro (g_tt c19) (And.intro (SlE.len (Heapy.sle (v := u17) (xs := l17) (enc := enc24) hp18 0 rfl (fun _ => rfl) (by decide))) (And.intro (g_tt c19) (And.intro (g_tt c19) trivial))))))) (hd := F23_d1) (h := by kernel_rfl)⟩
      exact ⟨rfl, h18, u17, (Heapy.pick hp18 [0] (by decide)), rfl⟩
  · intro hr
    obtain rfl := Option.some.inj hr
    refine ⟨(.exit 2), (F23_x1_0 h l1 v1 x2 a5 h18 u17 (l17 : (List (Int × Int)))), (by intro hh; cases hh), ?_, pEnd_sound good (L := F23_L) (D := F23_D) (its := [.g, .g, .g, .g, .g, .n, .n, .n, (.p false), (.b false)]) (ds := F23_m1_0) (ks := [7]) (e := (.exit 2)) (s2 := (F23_x1_0 h l1 v1 x2 a5 h18 u17 (l17 : (List (Int × Int))))) (hC := (And.intro l_f (And.intro c19 (And.intro (g_ft c19) (And.intro (g_ft c19) (And.intro (g_ft c19) trivial)))))) (hd := F23_d1) (h := by kernel_rfl)⟩
    exact ⟨rfl, h18, u17, (Heapy.pick hp18 [0] (by decide)), rfl⟩
theorem F23_l1 (h : AHeap) (l1 : List (Int × Int × Int)) (v1 : Hd) (x2 : Int) (a5 : Int) (y9 : Int × Int × Int) (x : Int × (List (Int × Int))) (r : (List (Int × Int))) (hl : loopO (fun (s : Int × (List (Int × Int))) => F23_s1 x2 y9 s.1 s.2) x = some r) (S : AS) (hI : (F23_i1 h l1 v1 x2 a5 y9) x S) : ∃ e S', (F23_x1 h l1 v1 x2 a5) r e S' ∧ AWp Try.prog (.loop (codeOf Try.prog 23 [1, 1, 0, 1, 0, 0, 1, 1, 0, 0, 1, 1, 1, 0, 0])) (Ends1 e S') S :=
  loop_rel (fun x S hI => F23_r1 h l1 v1 x2 a5 y9 x.1 x.2 S hI) hl hI
def F23_m2_1 : List Bool := [true, true, true, true, true, false, true, true, true, true, true, true, true, true, true, true, true, true, true, true, true, true, true, true, true, true, true, true, true, true, true, true, true, true, true, true, true, true, true, true, true, true, true, true, true, true, true, true, true, true, true, true, true, true, true, true, true, true, true, true, true, true, true]
def F23_m2_0 : List Bool := [true, false, true, true, true, false, true, true, true, false, false, false, true, true, true, true, true, true, true, true, true, true, true, true, true, true, true, true, true, true, true, true, true, true, true, true, true, true, true, true, true, true, true, true, true, true, true, true, true, true, true, true, true, true, true, true, true, true, true, true, true, true, true]
def F23_s2 (l1 : List (Int × Int × Int)) (x2 : Int) (a5 : Int) (l6 : List (Int × Int)) : Option ((Int × (List (Int × Int))) ⊕ (List (Int × Int))) :=
  (bif decide (a5 < (l1.length : Int)) then
   (Option.bind (at? l1 a5) fun y9 =>
   (bif decide (x2 ≤ 0) then
    (bif (!(okApp (l6.length + ([(y9.2.1, (IntKind.i64.wrap ((IntKind.i64.wrap (y9.2.2 - y9.2.1)) + 1)))] : List (Int × Int)).length) 16)) then none else
    some (.inl ((IntKind.i64.wrap (a5 + 1)), (l6 ++ ([(y9.2.1, (IntKind.i64.wrap ((IntKind.i64.wrap (y9.2.2 - y9.2.1)) + 1)))] : List (Int × Int))))))
   else
    (Option.bind (loopO (fun (s : Int × (List (Int × Int))) => F23_s1 x2 y9 s.1 s.2) (y9.2.1, l6)) fun y27 =>
    some (.inl ((IntKind.i64.wrap (a5 + 1)), y27)))))
  else
   some (.inr l6))
def F23_h2 (l1 : List (Int × Int × Int)) (v1 : Hd) (x2 : Int) (h7 : AHeap) (u6 : Hd) (a5 : Int) (l6 : List (Int × Int)) : AS := ⟨[junk, .int .i64 x2, junk, junk, junk, (sv u6), junk, junk, junk, (sv v1), .int .i64 (l1.length : Int), .int .i64 a5, junk, junk, junk, junk, junk, junk, junk, junk, junk, junk, junk, junk, junk, junk, junk, junk, junk, junk, junk, junk, junk, junk, junk, junk, junk, junk, junk, junk, junk, junk, junk, junk, junk, junk, junk, junk, junk, junk, junk, junk, junk, junk, junk, junk, junk, junk, junk, junk, junk, junk, junk], [], h7⟩
theorem F23_d2 : drawsOk F23_D (codeOf Try.prog 23 [1, 1, 0, 1, 0, 0]) = true := by kernel_rfl
def F23_x2_0 (h : AHeap) (hx : AHeap) (w0 : Hd) (r : (List (Int × Int))) : AS := ⟨[junk, junk, junk, junk, junk, (sv w0), junk, junk, junk, junk, junk, junk, junk, junk, junk, junk, junk, junk, junk, junk, junk, junk, junk, junk, junk, junk, junk, junk, junk, junk, junk, junk, junk, junk, junk, junk, junk, junk, junk, junk, junk, junk, junk, junk, junk, junk, junk, junk, junk, junk, junk, junk, junk, junk, junk, junk, junk, junk, junk, junk, junk, junk, junk], [], hx⟩
def F23_i2 (h : AHeap) (l1 : List (Int × Int × Int)) (v1 : Hd) (x2 : Int) (s : Int × (List (Int × Int))) (S : AS) : Prop := ∃ (h7 : AHeap) (u6 : Hd), Heapy h h7 [⟨u6, 24, 2, List.flatMap enc24 s.2⟩] ∧ S = (F23_h2 l1 v1 x2 h7 u6 s.1 s.2)
def F23_x2 (h : AHeap) (r : (List (Int × Int))) (e : Exit) (S : AS) : Prop := e = (.exit 0) ∧ ∃ (hx : AHeap) (w0 : Hd), Heapy h hx [⟨w0, 24, 2, List.flatMap enc24 r⟩] ∧ S = (F23_x2_0 h hx w0 r)
set_option maxRecDepth 100000 in
theorem F23_r2 (h : AHeap) (l1 : List (Int × Int × Int)) (v1 : Hd) (hv1 : SlE E44 3 h (sv v1) l1) (x2 : Int) (a5 : Int) (l6 : List (Int × Int)) (S : AS) (hI : (F23_i2 h l1 v1 x2) (a5, l6) S) (o : (Int × (List (Int × Int))) ⊕ (List (Int × Int))) : F23_s2 l1 x2 a5 l6 = some o → Rd Try.prog (codeOf Try.prog 23 [1, 1, 0, 1, 0, 0]) (F23_i2 h l1 v1 x2) (F23_x2 h) S o := by
  obtain ⟨h7, u6, hp7, rfl⟩ := hI
  unfold F23_s2
  refine dec_bif (fun c8 => ?_) (fun c8 => ?_)
  · refine bind_opt fun y9 e9 => ?_
    obtain ⟨id9, off9, g9, cs9, ix9, at9, rfl⟩ := SlE.at hv1 e9
    refine dec_bif (fun c10 => ?_) (fun c10 => ?_)
    · obtain ⟨v11, h11, m11, hp11, _⟩ := Heapy.build (P := Try.prog) hp7 (t := 22) (e := 24) (len := 1) (n := 2) (parts := [(0, .agg #[.int .i64 y9.2.1, .int .i64 (IntKind.i64.wrap ((IntKind.i64.wrap (y9.2.2 - y9.2.1)) + 1))])]) (cells := List.flatMap enc24 ([(y9.2.1, (IntKind.i64.wrap ((IntKind.i64.wrap (y9.2.2 - y9.2.1)) + 1)))] : List (Int × Int))) (by kernel_rfl) rfl
      refine guard_ok fun g13 => ?_
      obtain ⟨v14, h14, m14, q14, _⟩ := Heapy.append hp11 (show mkInfo Try.prog 22 = some (24, 2, 16, [.int .i64 0, .int .i64 0]) by kernel_rfl) 1 (v := u6) (cells := List.flatMap enc24 l6) rfl (Y := (sv v11)) (SlE.src (enc := enc24) (c := 2) (Heapy.sle (v := v11) (xs := ([(y9.2.1, (IntKind.i64.wrap ((IntKind.i64.wrap (y9.2.2 - y9.2.1)) + 1)))] : List (Int × Int))) (enc := enc24) hp11 0 rfl (fun _ => rfl) (by decide)) (fun _ => rfl)) (flatMap_length (enc := enc24) (c := 2) (fun _ => rfl) _) (by rw [Heapy.vn (v := u6) (xs := l6) (enc := enc24) hp11 1 rfl (fun _ => rfl) (by decide)]; simpa using g13)
      have hp14 : Heapy h h14 [⟨v11, 24, 2, List.flatMap enc24 ([(y9.2.1, (IntKind.i64.wrap ((IntKind.i64.wrap (y9.2.2 - y9.2.1)) + 1)))] : List (Int × Int))⟩, ⟨v14, 24, 2, List.flatMap enc24 (l6 ++ ([(y9.2.1, (IntKind.i64.wrap ((IntKind.i64.wrap (y9.2.2 - y9.2.1)) + 1)))] : List (Int × Int)))⟩] := by rw [← List.flatMap_append] at q14; exact q14
      intro hr
      obtain rfl := Option.some.inj hr
      exact ⟨(F23_h2 l1 v1 x2 h14 v14 (IntKind.i64.wrap (a5 + 1)) (l6 ++ ([(y9.2.1, (IntKind.i64.wrap ((IntKind.i64.wrap (y9.2.2 - y9.2.1)) + 1)))] : List (Int × Int)))), ⟨h14, v14, (Heapy.pick hp14 [1] (by decide)), rfl⟩, pEnd_sound good (L := F23_L) (D := F23_D) (its := [.g, (.b true), (.ix id9 off9 g9), (.ld (.agg #[.int .i64 y9.1, .int .i64 y9.2.1, .int .i64 y9.2.2])), .g, .g, .g, .g, (.b true), .g, .g, .g, .g, .g, .g, .g, .g, .g, .g, (.mm (sv v11) h11), (.mm (sv v14) h14), .g, .g, .g]) (ds := F23_m2_0) (ks := [7]) (e := .normal) (s2 := (F23_h2 l1 v1 x2 h14 v14 (IntKind.i64.wrap (a5 + 1)) (l6 ++ ([(y9.2.1, (IntKind.i64.wrap ((IntKind.i64.wrap (y9.2.2 - y9.2.1)) + 1)))] : List (Int × Int))))) (hC := (And.intro m14 (And.intro m11 (And.intro c10 (And.intro (At.agg (P := Try.prog) (t := 44) (v := .agg #[.int .i64 y9.1, .int .i64 y9.2.1, .int .i64 y9.2.2]) (m := 3) (At.mono (Heapy.sub hp7) at9) (by kernel_rfl) (by kernel_rfl) 0 (by kernel_rfl) rfl) (And.intro ix9 (And.intro c8 trivial))))))) (hd := F23_d2) (h := by kernel_rfl)⟩
    · refine bind_opt fun y27 e27 => ?_
      obtain ⟨ee27, SS27, hX27, hA27⟩ := F23_l1 h l1 v1 x2 a5 y9 (y9.2.1, l6) y27 e27 (F23_h1 l1 v1 x2 a5 y9 h7 u6 y9.2.1 l6) ⟨h7, u6, (Heapy.pick hp7 [0] (by decide)), rfl⟩
      obtain ⟨rfl, h28, w0_28, hp28, rfl⟩ := hX27
      intro hr
      obtain rfl := Option.some.inj hr
      exact ⟨(F23_h2 l1 v1 x2 h28 w0_28 (IntKind.i64.wrap (a5 + 1)) y27), ⟨h28, w0_28, (Heapy.pick hp28 [0] (by decide)), rfl⟩, pEnd_sound good (L := F23_L) (D := F23_D) (its := [.g, (.b true), (.ix id9 off9 g9), (.ld (.agg #[.int .i64 y9.1, .int .i64 y9.2.1, .int .i64 y9.2.2])), .g, .g, .g, .g, (.b false), .g, .g, .g, (.l F23_m1_1 [] (.exit 2) (F23_x1_0 h l1 v1 x2 a5 h28 w0_28 y27)), .g, .g]) (ds := F23_m2_0) (ks := []) (e := .normal) (s2 := (F23_h2 l1 v1 x2 h28 w0_28 (IntKind.i64.wrap (a5 + 1)) y27)) (hC := (And.intro hA27 (And.intro c10 (And.intro (At.agg (P := Try.prog) (t := 44) (v := .agg #[.int .i64 y9.1, .int .i64 y9.2.1, .int .i64 y9.2.2]) (m := 3) (At.mono (Heapy.sub hp7) at9) (by kernel_rfl) (by kernel_rfl) 0 (by kernel_rfl) rfl) (And.intro ix9 (And.intro c8 trivial)))))) (hd := F23_d2) (h := by kernel_rfl)⟩
  · intro hr
    obtain rfl := Option.some.inj hr
    refine ⟨(.exit 0), (F23_x2_0 h h7 u6 (l6 : (List (Int × Int)))), (by intro hh; cases hh), ?_, pEnd_sound good (L := F23_L) (D := F23_D) (its := [.g, (.b false)]) (ds := F23_m2_1) (ks := []) (e := (.exit 0)) (s2 := (F23_x2_0 h h7 u6 (l6 : (List (Int × Int))))) (hC := (And.intro c8 trivial)) (hd := F23_d2) (h := by kernel_rfl)⟩
    exact ⟨rfl, h7, u6, (Heapy.pick hp7 [0] (by decide)), rfl⟩
theorem F23_l2 (h : AHeap) (l1 : List (Int × Int × Int)) (v1 : Hd) (hv1 : SlE E44 3 h (sv v1) l1) (x2 : Int) (x : Int × (List (Int × Int))) (r : (List (Int × Int))) (hl : loopO (fun (s : Int × (List (Int × Int))) => F23_s2 l1 x2 s.1 s.2) x = some r) (S : AS) (hI : (F23_i2 h l1 v1 x2) x S) : ∃ e S', (F23_x2 h) r e S' ∧ AWp Try.prog (.loop (codeOf Try.prog 23 [1, 1, 0, 1, 0, 0])) (Ends1 e S') S :=
  loop_rel (fun x S hI => F23_r2 h l1 v1 hv1 x2 x.1 x.2 S hI) hl hI
def F23 (l1 : List (Int × Int × Int)) (x2 : Int) : Option ((List (Int × Int))) :=
  (Option.bind (loopO (fun (s : Int × (List (Int × Int))) => F23_s2 l1 x2 s.1 s.2) (0, ([] : List (Int × Int)))) fun y29 =>
  some (y29))
set_option maxRecDepth 100000 in
theorem F23_spec (l1 : List (Int × Int × Int)) (x2 : Int) (v1 : Hd) (h : AHeap) (hw : h.wf) (hv1 : SlE E44 3 h (sv v1) l1) (r : (List (Int × Int))) : F23 l1 x2 = some r → ∃ (ur0 : Hd) (h' : AHeap), Heapy h h' [⟨ur0, 24, 2, List.flatMap enc24 r⟩] ∧ ACalls Try.prog 23 [(sv v1), .int .i64 x2] h (fun v' h'' => v' = ((sv ur0) : Value) ∧ h'' = h') := by
  unfold F23
  refine bind_opt fun y29 e29 => ?_
  have hp3 : Heapy h h [⟨⟨none, 0, 0⟩, 24, 2, List.flatMap enc24 ([] : List (Int × Int))⟩] := Heapy.nil (Heapy.refl hw) 24 2
  obtain ⟨ee29, SS29, hX29, hA29⟩ := F23_l2 h l1 v1 hv1 x2 (0, ([] : List (Int × Int))) y29 e29 (F23_h2 l1 v1 x2 h ⟨none, 0, 0⟩ 0 ([] : List (Int × Int))) ⟨h, ⟨none, 0, 0⟩, (Heapy.pick hp3 [0] (by decide)), rfl⟩
  obtain ⟨rfl, h30, w0_30, hp30, rfl⟩ := hX29
  intro hr
  obtain rfl := Option.some.inj hr
  exact ⟨w0_30, h30, Heapy.pick hp30 [0] (by decide), pFun_sound good tab_ok (f := 23) (its := [.g, .g, .g, (.ln l1.length), .g, (.l F23_m2_0 [] (.exit 0) (F23_x2_0 h h30 w0_30 y29)), .g, .g]) (args := [(sv v1), .int .i64 x2]) (h := h) (h' := h30) (v := (sv w0_30)) (hC := (And.intro hA29 (And.intro (SlE.len hv1) trivial))) (hr := by kernel_rfl)⟩
/-! 24 jacquard/jacquardref37.Spans -/
def F24_L : List Nat := []
def F24_D : List (Nat × List (Nat × Nat)) := []
def F24__1 (x2 : Int) (a9 : Int) (y12 : Int × Int × Int) : Int := (IntKind.i64.wrap ((IntKind.i64.wrap ((IntKind.i64.wrap (y12.2.1 + (IntKind.i64.wrap (a9 * x2)))) + x2)) - 1))
def F24__2 (x2 : Int) (a9 : Int) (y12 : Int × Int × Int) : Int := (IntKind.i64.wrap ((if (F24__1 x2 a9 y12) < y12.2.2 then (F24__1 x2 a9 y12) else y12.2.2) - (IntKind.i64.wrap (y12.2.1 + (IntKind.i64.wrap (a9 * x2))))))
def F24__3 (x2 : Int) (a9 : Int) (y12 : Int × Int × Int) : Int := (IntKind.i64.wrap ((IntKind.i64.wrap (y12.2.2 - (IntKind.i64.wrap (y12.2.1 + (IntKind.i64.wrap (a9 * x2)))))) + 1))
def F24_m1_1 : List Bool := [false, false, true, true, true, false, false, true, true, true, true, true, true, true, true, true, true, true, true, true, true, true, true, true, true, true, true, true, true, true, true, true, true, true, true, true, true, true, true, true, true, true, true, true, true, true, true, true, true, true, true, true, true, true, true, true, true, true]
def F24_m1_0 : List Bool := [false, false, true, true, true, false, false, false, true, true, true, true, true, true, true, true, true, true, true, true, true, true, true, true, true, true, true, true, true, true, true, true, true, true, true, true, true, true, true, true, true, true, true, true, true, true, true, true, true, true, true, true, true, true, true, true, true, true]
def F24_s1 (l1 : List (Int × Int × Int)) (x2 : Int) (a5 : Int) (a9 : Int) (l10 : List (Int × Int)) : Option ((Int × (List (Int × Int))) ⊕ (List (Int × Int))) :=
  (Option.bind (at? l1 a5) fun y12 =>
  (Option.bind (F22 y12.1 y12.2.1 y12.2.2 x2) fun y13 =>
  (bif decide (a9 < y13) then
   (bif decide (x2 > 0) then
    (bif (!(okApp (l10.length + ([((IntKind.i64.wrap (y12.2.1 + (IntKind.i64.wrap (a9 * x2)))), (IntKind.i64.wrap ((F24__2 x2 a9 y12) + 1)))] : List (Int × Int)).length) 16)) then none else
    some (.inl ((IntKind.i64.wrap (a9 + 1)), (l10 ++ ([((IntKind.i64.wrap (y12.2.1 + (IntKind.i64.wrap (a9 * x2)))), (IntKind.i64.wrap ((F24__2 x2 a9 y12) + 1)))] : List (Int × Int))))))
   else
    (bif (!(okApp (l10.length + ([((IntKind.i64.wrap (y12.2.1 + (IntKind.i64.wrap (a9 * x2)))), (F24__3 x2 a9 y12))] : List (Int × Int)).length) 16)) then none else
    some (.inl ((IntKind.i64.wrap (a9 + 1)), (l10 ++ ([((IntKind.i64.wrap (y12.2.1 + (IntKind.i64.wrap (a9 * x2)))), (F24__3 x2 a9 y12))] : List (Int × Int)))))))
  else
   some (.inr l10))))
def F24_h1 (v1 : Hd) (x2 : Int) (a5 : Int) (h11 : AHeap) (u10 : Hd) (a9 : Int) (l10 : List (Int × Int)) : AS := ⟨[(sv v1), .int .i64 x2, junk, junk, junk, (sv u10), .int .i64 a5, .int .i64 a9, junk, junk, junk, junk, junk, junk, junk, junk, junk, junk, junk, junk, junk, junk, junk, junk, junk, junk, junk, junk, junk, junk, junk, junk, junk, junk, junk, junk, junk, junk, junk, junk, junk, junk, junk, junk, junk, junk, junk, junk, junk, junk, junk, junk, junk, junk, junk, junk, junk, junk], [], h11⟩
theorem F24_d1 : drawsOk F24_D (codeOf Try.prog 24 [1, 1, 0, 1, 0, 0, 1, 0, 0, 1, 0, 0]) = true := by kernel_rfl
def F24_x1_0 (h : AHeap) (v1 : Hd) (x2 : Int) (a5 : Int) (hx : AHeap) (w0 : Hd) (r : (List (Int × Int))) : AS := ⟨[(sv v1), .int .i64 x2, junk, junk, junk, (sv w0), .int .i64 a5, junk, junk, junk, junk, junk, junk, junk, junk, junk, junk, junk, junk, junk, junk, junk, junk, junk, junk, junk, junk, junk, junk, junk, junk, junk, junk, junk, junk, junk, junk, junk, junk, junk, junk, junk, junk, junk, junk, junk, junk, junk, junk, junk, junk, junk, junk, junk, junk, junk, junk, junk], [], hx⟩
def F24_i1 (h : AHeap) (v1 : Hd) (x2 : Int) (a5 : Int) (s : Int × (List (Int × Int))) (S : AS) : Prop := ∃ (h11 : AHeap) (u10 : Hd), Heapy h h11 [⟨u10, 24, 2, List.flatMap enc24 s.2⟩] ∧ S = (F24_h1 v1 x2 a5 h11 u10 s.1 s.2)
def F24_x1 (h : AHeap) (v1 : Hd) (x2 : Int) (a5 : Int) (r : (List (Int × Int))) (e : Exit) (S : AS) : Prop := e = (.exit 2) ∧ ∃ (hx : AHeap) (w0 : Hd), Heapy h hx [⟨w0, 24, 2, List.flatMap enc24 r⟩] ∧ S = (F24_x1_0 h v1 x2 a5 hx w0 r)
set_option maxRecDepth 100000 in
theorem F24_r1 (h : AHeap) (l1 : List (Int × Int × Int)) (v1 : Hd) (hv1 : SlE E44 3 h (sv v1) l1) (x2 : Int) (a5 : Int) (a9 : Int) (l10 : List (Int × Int)) (S : AS) (hI : (F24_i1 h v1 x2 a5) (a9, l10) S) (o : (Int × (List (Int × Int))) ⊕ (List (Int × Int))) : F24_s1 l1 x2 a5 a9 l10 = some o → Rd Try.prog (codeOf Try.prog 24 [1, 1, 0, 1, 0, 0, 1, 0, 0, 1, 0, 0]) (F24_i1 h v1 x2 a5) (F24_x1 h v1 x2 a5) S o := by
  obtain ⟨h11, u10, hp11, rfl⟩ := hI
  unfold F24_s1
  refine bind_opt fun y12 e12 => ?_
  obtain ⟨id12, off12, g12, cs12, ix12, at12, rfl⟩ := SlE.at hv1 e12
  refine bind_opt fun y13 e13 => ?_
  refine dec_bif (fun c15 => ?_) (fun c15 => ?_)
  · refine dec_bif (fun c16 => ?_) (fun c16 => ?_)
    · obtain ⟨v17, h17, m17, hp17, _⟩ := Heapy.build (P := Try.prog) hp11 (t := 22) (e := 24) (len := 1) (n := 2) (parts := [(0, .agg #[.int .i64 (IntKind.i64.wrap (y12.2.1 + (IntKind.i64.wrap (a9 * x2)))), .int .i64 (IntKind.i64.wrap ((F24__2 x2 a9 y12) + 1))])]) (cells := List.flatMap enc24 ([((IntKind.i64.wrap (y12.2.1 + (IntKind.i64.wrap (a9 * x2)))), (IntKind.i64.wrap ((F24__2 x2 a9 y12) + 1)))] : List (Int × Int))) (by kernel_rfl) rfl
      refine guard_ok fun g19 => ?_
      obtain ⟨v20, h20, m20, q20, _⟩ := Heapy.append hp17 (show mkInfo Try.prog 22 = some (24, 2, 16, [.int .i64 0, .int .i64 0]) by kernel_rfl) 1 (v := u10) (cells := List.flatMap enc24 l10) rfl (Y := (sv v17)) (SlE.src (enc := enc24) (c := 2) (Heapy.sle (v := v17) (xs := ([((IntKind.i64.wrap (y12.2.1 + (IntKind.i64.wrap (a9 * x2)))), (IntKind.i64.wrap ((F24__2 x2 a9 y12) + 1)))] : List (Int × Int))) (enc := enc24) hp17 0 rfl (fun _ => rfl) (by decide)) (fun _ => rfl)) (flatMap_length (enc := enc24) (c := 2) (fun _ => rfl) _) (by rw [Heapy.vn (v := u10) (xs := l10) (enc := enc24) hp17 1 rfl (fun _ => rfl) (by decide)]; simpa using g19)
      have hp20 : Heapy h h20 [⟨v17, 24, 2, List.flatMap enc24 ([((IntKind.i64.wrap (y12.2.1 + (IntKind.i64.wrap (a9 * x2)))), (IntKind.i64.wrap ((F24__2 x2 a9 y12) + 1)))] : List (Int × Int))⟩, ⟨v20, 24, 2, List.flatMap enc24 (l10 ++ ([((IntKind.i64.wrap (y12.2.1 + (IntKind.i64.wrap (a9 * x2)))), (IntKind.i64.wrap ((F24__2 x2 a9 y12) + 1)))] : List (Int × Int)))⟩] := by rw [← List.flatMap_append] at q20; exact q20
      intro hr
      obtain rfl := Option.some.inj hr
      exact ⟨(F24_h1 v1 x2 a5 h20 v20 (IntKind.i64.wrap (a9 + 1)) (l10 ++ ([((IntKind.i64.wrap (y12.2.1 + (IntKind.i64.wrap (a9 * x2)))), (IntKind.i64.wrap ((F24__2 x2 a9 y12) + 1)))] : List (Int × Int)))), ⟨h20, v20, (Heapy.pick hp20 [1] (by decide)), rfl⟩, pEnd_sound good (L := F24_L) (D := F24_D) (its := [.g, .g, .g, (.ix id12 off12 g12), (.ld (.agg #[.int .i64 y12.1, .int .i64 y12.2.1, .int .i64 y12.2.2])), .g, (.c (.int .i64 y13) h11), .g, (.b true), .g, .g, (.ix id12 off12 g12), .g, (.ld (.int .i64 y12.2.1)), .g, .g, .g, .g, .g, .g, .g, (.ix id12 off12 g12), .g, (.ld (.int .i64 y12.2.2)), .g, .g, .g, (.b true), .g, .g, .g, .g, .g, .g, .g, .g, .g, .g, .g, .g, .g, .g, (.mm (sv v17) h17), (.mm (sv v20) h20), .g, .g, .g, .g]) (ds := F24_m1_0) (ks := []) (e := .normal) (s2 := (F24_h1 v1 x2 a5 h20 v20 (IntKind.i64.wrap (a9 + 1)) (l10 ++ ([((IntKind.i64.wrap (y12.2.1 + (IntKind.i64.wrap (a9 * x2)))), (IntKind.i64.wrap ((F24__2 x2 a9 y12) + 1)))] : List (Int × Int))))) (hC := (And.intro m20 (And.intro m17 (And.intro c16 (And.intro (At.one (P := Try.prog) (t := 3) (v := .int .i64 y12.2.2) (At.mono (Heapy.sub hp11) at12) (by kernel_rfl) 2 rfl rfl) (And.intro ix12 (And.intro (At.one (P := Try.prog) (t := 3) (v := .int .i64 y12.2.1) (At.mono (Heapy.sub hp11) at12) (by kernel_rfl) 1 rfl rfl) (And.intro ix12 (And.intro c15 (And.intro (F22_spec y12.1 y12.2.1 y12.2.2 x2 h11 _ e13) (And.intro (At.agg (P := Try.prog) (t := 44) (v := .agg #[.int .i64 y12.1, .int .i64 y12.2.1, .int .i64 y12.2.2]) (m := 3) (At.mono (Heapy.sub hp11) at12) (by kernel_rfl) (by kernel_rfl) 0 (by kernel_rfl) rfl) (And.intro ix12 trivial)))))))))))) (hd := F24_d1) (h := by kernel_rfl)⟩
    · obtain ⟨v22, h22, m22, hp22, _⟩ := Heapy.build (P := Try.prog) hp11 (t := 22) (e := 24) (len := 1) (n := 2) (parts := [(0, .agg #[.int .i64 (IntKind.i64.wrap (y12.2.1 + (IntKind.i64.wrap (a9 * x2)))), .int .i64 (F24__3 x2 a9 y12)])]) (cells := List.flatMap enc24 ([((IntKind.i64.wrap (y12.2.1 + (IntKind.i64.wrap (a9 * x2)))), (F24__3 x2 a9 y12))] : List (Int × Int))) (by kernel_rfl) rfl
      refine guard_ok fun g24 => ?_
      obtain ⟨v25, h25, m25, q25, _⟩ := Heapy.append hp22 (show mkInfo Try.prog 22 = some (24, 2, 16, [.int .i64 0, .int .i64 0]) by kernel_rfl) 1 (v := u10) (cells := List.flatMap enc24 l10) rfl (Y := (sv v22)) (SlE.src (enc := enc24) (c := 2) (Heapy.sle (v := v22) (xs := ([((IntKind.i64.wrap (y12.2.1 + (IntKind.i64.wrap (a9 * x2)))), (F24__3 x2 a9 y12))] : List (Int × Int))) (enc := enc24) hp22 0 rfl (fun _ => rfl) (by decide)) (fun _ => rfl)) (flatMap_length (enc := enc24) (c := 2) (fun _ => rfl) _) (by rw [Heapy.vn (v := u10) (xs := l10) (enc := enc24) hp22 1 rfl (fun _ => rfl) (by decide)]; simpa using g24)
      have hp25 : Heapy h h25 [⟨v22, 24, 2, List.flatMap enc24 ([((IntKind.i64.wrap (y12.2.1 + (IntKind.i64.wrap (a9 * x2)))), (F24__3 x2 a9 y12))] : List (Int × Int))⟩, ⟨v25, 24, 2, List.flatMap enc24 (l10 ++ ([((IntKind.i64.wrap (y12.2.1 + (IntKind.i64.wrap (a9 * x2)))), (F24__3 x2 a9 y12))] : List (Int × Int)))⟩] := by rw [← List.flatMap_append] at q25; exact q25
      intro hr
      obtain rfl := Option.some.inj hr
      exact ⟨(F24_h1 v1 x2 a5 h25 v25 (IntKind.i64.wrap (a9 + 1)) (l10 ++ ([((IntKind.i64.wrap (y12.2.1 + (IntKind.i64.wrap (a9 * x2)))), (F24__3 x2 a9 y12))] : List (Int × Int)))), ⟨h25, v25, (Heapy.pick hp25 [1] (by decide)), rfl⟩, pEnd_sound good (L := F24_L) (D := F24_D) (its := [.g, .g, .g, (.ix id12 off12 g12), (.ld (.agg #[.int .i64 y12.1, .int .i64 y12.2.1, .int .i64 y12.2.2])), .g, (.c (.int .i64 y13) h11), .g, (.b true), .g, .g, (.ix id12 off12 g12), .g, (.ld (.int .i64 y12.2.1)), .g, .g, .g, .g, .g, .g, .g, (.ix id12 off12 g12), .g, (.ld (.int .i64 y12.2.2)), .g, .g, .g, (.b false), .g, .g, .g, .g, .g, .g, .g, (.mm (sv v22) h22), (.mm (sv v25) h25), .g, .g, .g, .g]) (ds := F24_m1_0) (ks := []) (e := .normal) (s2 := (F24_h1 v1 x2 a5 h25 v25 (IntKind.i64.wrap (a9 + 1)) (l10 ++ ([((IntKind.i64.wrap (y12.2.1 + (IntKind.i64.wrap (a9 * x2)))), (F24__3 x2 a9 y12))] : List (Int × Int))))) (hC := (And.intro m25 (And.intro m22 (And.intro c16 (And.intro (At.one (P := Try.prog) (t := 3) (v := .int .i64 y12.2.2) (At.mono (Heapy.sub hp11) at12) (by kernel_rfl) 2 rfl rfl) (And.intro ix12 (And.intro (At.one (P := Try.prog) (t := 3) (v := .int .i64 y12.2.1) (At.mono (Heapy.sub hp11) at12) (by kernel_rfl) 1 rfl rfl) (And.intro ix12 (And.intro c15 (And.intro (F22_spec y12.1 y12.2.1 y12.2.2 x2 h11 _ e13) (And.intro (At.agg (P := Try.prog) (t := 44) (v := .agg #[.int .i64 y12.1, .int .i64 y12.2.1, .int .i64 y12.2.2]) (m := 3) (At.mono (Heapy.sub hp11) at12) (by kernel_rfl) (by kernel_rfl) 0 (by kernel_rfl) rfl) (And.intro ix12 trivial)))))))))))) (hd := F24_d1) (h := by kernel_rfl)⟩
  · intro hr
    obtain rfl := Option.some.inj hr
    refine ⟨(.exit 2), (F24_x1_0 h v1 x2 a5 h11 u10 (l10 : (List (Int × Int)))), (by intro hh; cases hh), ?_, pEnd_sound good (L := F24_L) (D := F24_D) (its := [.g, .g, .g, (.ix id12 off12 g12), (.ld (.agg #[.int .i64 y12.1, .int .i64 y12.2.1, .int .i64 y12.2.2])), .g, (.c (.int .i64 y13) h11), .g, (.b false)]) (ds := F24_m1_1) (ks := []) (e := (.exit 2)) (s2 := (F24_x1_0 h v1 x2 a5 h11 u10 (l10 : (List (Int × Int))))) (hC := (And.intro c15 (And.intro (F22_spec y12.1 y12.2.1 y12.2.2 x2 h11 _ e13) (And.intro (At.agg (P := Try.prog) (t := 44) (v := .agg #[.int .i64 y12.1, .int .i64 y12.2.1, .int .i64 y12.2.2]) (m := 3) (At.mono (Heapy.sub hp11) at12) (by kernel_rfl) (by kernel_rfl) 0 (by kernel_rfl) rfl) (And.intro ix12 trivial))))) (hd := F24_d1) (h := by kernel_rfl)⟩
    exact ⟨rfl, h11, u10, (Heapy.pick hp11 [0] (by decide)), rfl⟩
theorem F24_l1 (h : AHeap) (l1 : List (Int × Int × Int)) (v1 : Hd) (hv1 : SlE E44 3 h (sv v1) l1) (x2 : Int) (a5 : Int) (x : Int × (List (Int × Int))) (r : (List (Int × Int))) (hl : loopO (fun (s : Int × (List (Int × Int))) => F24_s1 l1 x2 a5 s.1 s.2) x = some r) (S : AS) (hI : (F24_i1 h v1 x2 a5) x S) : ∃ e S', (F24_x1 h v1 x2 a5) r e S' ∧ AWp Try.prog (.loop (codeOf Try.prog 24 [1, 1, 0, 1, 0, 0, 1, 0, 0, 1, 0, 0])) (Ends1 e S') S :=
  loop_rel (fun x S hI => F24_r1 h l1 v1 hv1 x2 a5 x.1 x.2 S hI) hl hI
def F24_m2_1 : List Bool := [true, true, true, true, true, false, true, true, true, true, true, true, true, true, true, true, true, true, true, true, true, true, true, true, true, true, true, true, true, true, true, true, true, true, true, true, true, true, true, true, true, true, true, true, true, true, true, true, true, true, true, true, true, true, true, true, true, true]
def F24_m2_0 : List Bool := [false, false, true, true, true, false, false, true, true, true, true, true, true, true, true, true, true, true, true, true, true, true, true, true, true, true, true, true, true, true, true, true, true, true, true, true, true, true, true, true, true, true, true, true, true, true, true, true, true, true, true, true, true, true, true, true, true, true]
def F24_s2 (l1 : List (Int × Int × Int)) (x2 : Int) (a5 : Int) (l6 : List (Int × Int)) : Option ((Int × (List (Int × Int))) ⊕ (List (Int × Int))) :=
  (bif decide (a5 < (l1.length : Int)) then
   (Option.bind (loopO (fun (s : Int × (List (Int × Int))) => F24_s1 l1 x2 a5 s.1 s.2) (0, l6)) fun y27 =>
   some (.inl ((IntKind.i64.wrap (a5 + 1)), y27)))
  else
   some (.inr l6))
def F24_h2 (v1 : Hd) (x2 : Int) (h7 : AHeap) (u6 : Hd) (a5 : Int) (l6 : List (Int × Int)) : AS := ⟨[(sv v1), .int .i64 x2, junk, junk, junk, (sv u6), .int .i64 a5, junk, junk, junk, junk, junk, junk, junk, junk, junk, junk, junk, junk, junk, junk, junk, junk, junk, junk, junk, junk, junk, junk, junk, junk, junk, junk, junk, junk, junk, junk, junk, junk, junk, junk, junk, junk, junk, junk, junk, junk, junk, junk, junk, junk, junk, junk, junk, junk, junk, junk, junk], [], h7⟩
theorem F24_d2 : drawsOk F24_D (codeOf Try.prog 24 [1, 1, 0, 1, 0, 0]) = true := by kernel_rfl
def F24_x2_0 (h : AHeap) (hx : AHeap) (w0 : Hd) (r : (List (Int × Int))) : AS := ⟨[junk, junk, junk, junk, junk, (sv w0), junk, junk, junk, junk, junk, junk, junk, junk, junk, junk, junk, junk, junk, junk, junk, junk, junk, junk, junk, junk, junk, junk, junk, junk, junk, junk, junk, junk, junk, junk, junk, junk, junk, junk, junk, junk, junk, junk, junk, junk, junk, junk, junk, junk, junk, junk, junk, junk, junk, junk, junk, junk], [], hx⟩
def F24_i2 (h : AHeap) (v1 : Hd) (x2 : Int) (s : Int × (List (Int × Int))) (S : AS) : Prop := ∃ (h7 : AHeap) (u6 : Hd), Heapy h h7 [⟨u6, 24, 2, List.flatMap enc24 s.2⟩] ∧ S = (F24_h2 v1 x2 h7 u6 s.1 s.2)
def F24_x2 (h : AHeap) (r : (List (Int × Int))) (e : Exit) (S : AS) : Prop := e = (.exit 0) ∧ ∃ (hx : AHeap) (w0 : Hd), Heapy h hx [⟨w0, 24, 2, List.flatMap enc24 r⟩] ∧ S = (F24_x2_0 h hx w0 r)
set_option maxRecDepth 100000 in
theorem F24_r2 (h : AHeap) (l1 : List (Int × Int × Int)) (v1 : Hd) (hv1 : SlE E44 3 h (sv v1) l1) (x2 : Int) (a5 : Int) (l6 : List (Int × Int)) (S : AS) (hI : (F24_i2 h v1 x2) (a5, l6) S) (o : (Int × (List (Int × Int))) ⊕ (List (Int × Int))) : F24_s2 l1 x2 a5 l6 = some o → Rd Try.prog (codeOf Try.prog 24 [1, 1, 0, 1, 0, 0]) (F24_i2 h v1 x2) (F24_x2 h) S o := by
  obtain ⟨h7, u6, hp7, rfl⟩ := hI
  unfold F24_s2
  refine dec_bif (fun c8 => ?_) (fun c8 => ?_)
  · refine bind_opt fun y27 e27 => ?_
    obtain ⟨ee27, SS27, hX27, hA27⟩ := F24_l1 h l1 v1 hv1 x2 a5 (0, l6) y27 e27 (F24_h1 v1 x2 a5 h7 u6 0 l6) ⟨h7, u6, (Heapy.pick hp7 [0] (by decide)), rfl⟩
    obtain ⟨rfl, h28, w0_28, hp28, rfl⟩ := hX27
    intro hr
    obtain rfl := Option.some.inj hr
    exact ⟨(F24_h2 v1 x2 h28 w0_28 (IntKind.i64.wrap (a5 + 1)) y27), ⟨h28, w0_28, (Heapy.pick hp28 [0] (by decide)), rfl⟩, pEnd_sound good (L := F24_L) (D := F24_D) (its := [.g, .g, (.ln l1.length), .g, (.b true), .g, (.l F24_m1_0 [] (.exit 2) (F24_x1_0 h v1 x2 a5 h28 w0_28 y27)), .g, .g, .g]) (ds := F24_m2_0) (ks := []) (e := .normal) (s2 := (F24_h2 v1 x2 h28 w0_28 (IntKind.i64.wrap (a5 + 1)) y27)) (hC := (And.intro hA27 (And.intro c8 (And.intro (SlE.len hv1) trivial)))) (hd := F24_d2) (h := by kernel_rfl)⟩
  · intro hr
    obtain rfl := Option.some.inj hr
    refine ⟨(.exit 0), (F24_x2_0 h h7 u6 (l6 : (List (Int × Int)))), (by intro hh; cases hh), ?_, pEnd_sound good (L := F24_L) (D := F24_D) (its := [.g, .g, (.ln l1.length), .g, (.b false)]) (ds := F24_m2_1) (ks := []) (e := (.exit 0)) (s2 := (F24_x2_0 h h7 u6 (l6 : (List (Int × Int))))) (hC := (And.intro c8 (And.intro (SlE.len hv1) trivial))) (hd := F24_d2) (h := by kernel_rfl)⟩
    exact ⟨rfl, h7, u6, (Heapy.pick hp7 [0] (by decide)), rfl⟩
theorem F24_l2 (h : AHeap) (l1 : List (Int × Int × Int)) (v1 : Hd) (hv1 : SlE E44 3 h (sv v1) l1) (x2 : Int) (x : Int × (List (Int × Int))) (r : (List (Int × Int))) (hl : loopO (fun (s : Int × (List (Int × Int))) => F24_s2 l1 x2 s.1 s.2) x = some r) (S : AS) (hI : (F24_i2 h v1 x2) x S) : ∃ e S', (F24_x2 h) r e S' ∧ AWp Try.prog (.loop (codeOf Try.prog 24 [1, 1, 0, 1, 0, 0])) (Ends1 e S') S :=
  loop_rel (fun x S hI => F24_r2 h l1 v1 hv1 x2 x.1 x.2 S hI) hl hI
def F24 (l1 : List (Int × Int × Int)) (x2 : Int) : Option ((List (Int × Int))) :=
  (Option.bind (loopO (fun (s : Int × (List (Int × Int))) => F24_s2 l1 x2 s.1 s.2) (0, ([] : List (Int × Int)))) fun y29 =>
  some (y29))
set_option maxRecDepth 100000 in
theorem F24_spec (l1 : List (Int × Int × Int)) (x2 : Int) (v1 : Hd) (h : AHeap) (hw : h.wf) (hv1 : SlE E44 3 h (sv v1) l1) (r : (List (Int × Int))) : F24 l1 x2 = some r → ∃ (ur0 : Hd) (h' : AHeap), Heapy h h' [⟨ur0, 24, 2, List.flatMap enc24 r⟩] ∧ ACalls Try.prog 24 [(sv v1), .int .i64 x2] h (fun v' h'' => v' = ((sv ur0) : Value) ∧ h'' = h') := by
  unfold F24
  refine bind_opt fun y29 e29 => ?_
  have hp3 : Heapy h h [⟨⟨none, 0, 0⟩, 24, 2, List.flatMap enc24 ([] : List (Int × Int))⟩] := Heapy.nil (Heapy.refl hw) 24 2
  obtain ⟨ee29, SS29, hX29, hA29⟩ := F24_l2 h l1 v1 hv1 x2 (0, ([] : List (Int × Int))) y29 e29 (F24_h2 v1 x2 h ⟨none, 0, 0⟩ 0 ([] : List (Int × Int))) ⟨h, ⟨none, 0, 0⟩, (Heapy.pick hp3 [0] (by decide)), rfl⟩
  obtain ⟨rfl, h30, w0_30, hp30, rfl⟩ := hX29
  intro hr
  obtain rfl := Option.some.inj hr
  exact ⟨w0_30, h30, Heapy.pick hp30 [0] (by decide), pFun_sound good tab_ok (f := 24) (its := [.g, .g, .g, (.l F24_m2_0 [] (.exit 0) (F24_x2_0 h h30 w0_30 y29)), .g, .g]) (args := [(sv v1), .int .i64 x2]) (h := h) (h' := h30) (v := (sv w0_30)) (hC := (And.intro hA29 trivial)) (hr := by kernel_rfl)⟩
/-! 37 jacquard/lifetime.crowd -/
def F37_L : List Nat := [7, 10]
def F37_D : List (Nat × List (Nat × Nat)) := []
def F37_m1_1 : List Bool := [false, false, true, true, true, false, true, true, false, true, true, true, false, false, false, true, true, true, true, true, true, true, true, true, true, true, true, true, true, true, true, true, true, true, true, true, true, true, true, true, true, true, true, true, true, true, true, true, true, true, true, true, true, true, true]
def F37_m1_0 : List Bool := [false, false, true, true, true, false, true, false, false, true, true, true, false, false, false, true, true, true, false, false, false, true, true, true, true, true, true, true, true, true, true, true, true, true, true, true, true, true, true, true, true, true, true, true, true, true, true, true, true, true, true, true, true, true, true]
def F37_s1 (l1 : List (Int × Int)) (x2 : Int) (y6 : Int × Int) (a7 : Int) (a8 : Int) : Option ((Int × Int) ⊕ Int) :=
  (bif decide (a8 < (l1.length : Int)) then
   (Option.bind (at? l1 a8) fun y10 =>
   (bif decide (x2 > 0) then
    (bif decide (((IntKind.i64.wrap (y6.1 - y10.1)).tmod x2) < 0) then
     (bif decide ((IntKind.i64.wrap (((IntKind.i64.wrap (y6.1 - y10.1)).tmod x2) + x2)) ≥ 0) then
      (bif decide ((IntKind.i64.wrap (((IntKind.i64.wrap (y6.1 - y10.1)).tmod x2) + x2)) < y10.2) then
       some (.inl ((IntKind.i64.wrap (a7 + 1)), (IntKind.i64.wrap (a8 + 1))))
      else
       some (.inl (a7, (IntKind.i64.wrap (a8 + 1)))))
     else
      some (.inl (a7, (IntKind.i64.wrap (a8 + 1)))))
    else
     (bif decide (((IntKind.i64.wrap (y6.1 - y10.1)).tmod x2) ≥ 0) then
      (bif decide (((IntKind.i64.wrap (y6.1 - y10.1)).tmod x2) < y10.2) then
       some (.inl ((IntKind.i64.wrap (a7 + 1)), (IntKind.i64.wrap (a8 + 1))))
      else
       some (.inl (a7, (IntKind.i64.wrap (a8 + 1)))))
     else
      some (.inl (a7, (IntKind.i64.wrap (a8 + 1))))))
   else
    (bif decide ((IntKind.i64.wrap (y6.1 - y10.1)) ≥ 0) then
     (bif decide ((IntKind.i64.wrap (y6.1 - y10.1)) < y10.2) then
      some (.inl ((IntKind.i64.wrap (a7 + 1)), (IntKind.i64.wrap (a8 + 1))))
     else
      some (.inl (a7, (IntKind.i64.wrap (a8 + 1)))))
    else
     some (.inl (a7, (IntKind.i64.wrap (a8 + 1)))))))
  else
   some (.inr a7))
def F37_h1 (h : AHeap) (l1 : List (Int × Int)) (v1 : Hd) (x2 : Int) (a3 : Int) (a4 : Int) (y6 : Int × Int)  (a7 : Int) (a8 : Int) : AS := ⟨[(sv v1), .int .i64 x2, junk, junk, junk, .int .i64 a3, junk, .pointer (some ⟨7, 0, none⟩), .int .i64 a7, junk, junk, junk, (sv v1), .int .i64 (l1.length : Int), .int .i64 a4, junk, junk, junk, (sv v1), .int .i64 (l1.length : Int), .int .i64 a8, junk, junk, junk, junk, junk, junk, junk, junk, junk, junk, junk, junk, junk, junk, junk, junk, junk, junk, junk, junk, junk, junk, junk, junk, junk, junk, junk, junk, junk, junk, junk, junk, junk, junk], [(7, [.int .i64 y6.1, .int .i64 y6.2])], h⟩
theorem F37_d1 : drawsOk F37_D (codeOf Try.prog 37 [1, 1, 0, 1, 0, 0, 1, 1, 0, 0, 1, 1, 0, 1, 0, 0]) = true := by kernel_rfl
def F37_x1_0 (h : AHeap) (l1 : List (Int × Int)) (v1 : Hd) (x2 : Int) (a3 : Int) (a4 : Int)  (r : Int) : AS := ⟨[(sv v1), .int .i64 x2, junk, junk, junk, .int .i64 a3, junk, junk, .int .i64 r, junk, junk, junk, (sv v1), .int .i64 (l1.length : Int), .int .i64 a4, junk, junk, junk, junk, junk, junk, junk, junk, junk, junk, junk, junk, junk, junk, junk, junk, junk, junk, junk, junk, junk, junk, junk, junk, junk, junk, junk, junk, junk, junk, junk, junk, junk, junk, junk, junk, junk, junk, junk, junk], [], h⟩
def F37_x1 (h : AHeap) (l1 : List (Int × Int)) (v1 : Hd) (x2 : Int) (a3 : Int) (a4 : Int) (r : Int) : Exit × AS := ((.exit 2), (F37_x1_0 h l1 v1 x2 a3 a4 r))
set_option maxRecDepth 100000 in
theorem F37_r1 (h : AHeap) (l1 : List (Int × Int)) (v1 : Hd) (hv1 : SlE E24 2 h (sv v1) l1) (x2 : Int) (a3 : Int) (a4 : Int) (y6 : Int × Int) (a7 : Int) (a8 : Int) (o : (Int × Int) ⊕ Int) : F37_s1 l1 x2 y6 a7 a8 = some o → RdF Try.prog (codeOf Try.prog 37 [1, 1, 0, 1, 0, 0, 1, 1, 0, 0, 1, 1, 0, 1, 0, 0]) (fun (s : Int × Int) => (F37_h1 h l1 v1 x2 a3 a4 y6 s.1 s.2)) (F37_x1 h l1 v1 x2 a3 a4) (F37_h1 h l1 v1 x2 a3 a4 y6 a7 a8) o := by
  unfold F37_s1
  refine dec_bif (fun c9 => ?_) (fun c9 => ?_)
  · refine bind_opt fun y10 e10 => ?_
    obtain ⟨id10, off10, g10, cs10, ix10, at10, rfl⟩ := SlE.at hv1 e10
    refine dec_bif (fun c11 => ?_) (fun c11 => ?_)
    · refine dec_bif (fun c12 => ?_) (fun c12 => ?_)
      · refine dec_bif (fun c13 => ?_) (fun c13 => ?_)
        · refine dec_bif (fun c14 => ?_) (fun c14 => ?_)
          · intro hr
            obtain rfl := Option.some.inj hr
            show AWp Try.prog _ (Ends1 .normal (F37_h1 h l1 v1 x2 a3 a4 y6 (IntKind.i64.wrap (a7 + 1)) (IntKind.i64.wrap (a8 + 1)))) _
            exact pEnd_sound good (L := F37_L) (D := F37_D) (its := [.g, (.b true), (.ix id10 off10 g10), (.ld (.agg #[.int .i64 y10.1, .int .i64 y10.2])), .g, .g, .g, .g, .g, .g, .g, .g, .g, .g, (.b true), .g, .g, .d, .g, .g, .g, (.b true), .g, .g, .g, .g, .g, .g, .g, (.w .g), (.w .g), (.w .g), (.w .g), (.p true), (.b true), .g, .g, .g, .g, .g]) (ds := F37_m1_0) (ks := [10]) (e := .normal) (s2 := (F37_h1 h l1 v1 x2 a3 a4 y6 (IntKind.i64.wrap (a7 + 1)) (IntKind.i64.wrap (a8 + 1)))) (hC := (And.intro c14 (And.intro c13 (And.intro (g_tt c13) (And.intro (g_tt c13) (And.intro (g_tt c13) (And.intro (g_tt c13) (And.intro c12 (And.intro (nz3 c11) (And.intro c11 (And.intro (At.agg (P := Try.prog) (t := 24) (v := .agg #[.int .i64 y10.1, .int .i64 y10.2]) (m := 2) at10 (by kernel_rfl) (by kernel_rfl) 0 (by kernel_rfl) rfl) (And.intro ix10 (And.intro c9 trivial))))))))))))) (hd := F37_d1) (h := by kernel_rfl)
          · intro hr
            obtain rfl := Option.some.inj hr
            show AWp Try.prog _ (Ends1 .normal (F37_h1 h l1 v1 x2 a3 a4 y6 a7 (IntKind.i64.wrap (a8 + 1)))) _
            exact pEnd_sound good (L := F37_L) (D := F37_D) (its := [.g, (.b true), (.ix id10 off10 g10), (.ld (.agg #[.int .i64 y10.1, .int .i64 y10.2])), .g, .g, .g, .g, .g, .g, .g, .g, .g, .g, (.b true), .g, .g, .d, .g, .g, .g, (.b true), .g, .g, .g, .g, .g, .g, .g, (.w .g), (.w .g), (.w .g), (.w .g), (.p true), (.b false), .g, .g]) (ds := F37_m1_0) (ks := [10]) (e := .normal) (s2 := (F37_h1 h l1 v1 x2 a3 a4 y6 a7 (IntKind.i64.wrap (a8 + 1)))) (hC := (And.intro c14 (And.intro c13 (And.intro (g_tt c13) (And.intro (g_tt c13) (And.intro (g_tt c13) (And.intro (g_tt c13) (And.intro c12 (And.intro (nz3 c11) (And.intro c11 (And.intro (At.agg (P := Try.prog) (t := 24) (v := .agg #[.int .i64 y10.1, .int .i64 y10.2]) (m := 2) at10 (by kernel_rfl) (by kernel_rfl) 0 (by kernel_rfl) rfl) (And.intro ix10 (And.intro c9 trivial))))))))))))) (hd := F37_d1) (h := by kernel_rfl)
        · intro hr
          obtain rfl := Option.some.inj hr
          show AWp Try.prog _ (Ends1 .normal (F37_h1 h l1 v1 x2 a3 a4 y6 a7 (IntKind.i64.wrap (a8 + 1)))) _
          exact pEnd_sound good (L := F37_L) (D := F37_D) (its := [.g, (.b true), (.ix id10 off10 g10), (.ld (.agg #[.int .i64 y10.1, .int .i64 y10.2])), .g, .g, .g, .g, .g, .g, .g, .g, .g, .g, (.b true), .g, .g, .d, .g, .g, .g, (.b true), .g, .g, .g, .g, .g, .g, .g, .n, .n, .n, .n, (.p false), (.b false), .g, .g]) (ds := F37_m1_0) (ks := [10]) (e := .normal) (s2 := (F37_h1 h l1 v1 x2 a3 a4 y6 a7 (IntKind.i64.wrap (a8 + 1)))) (hC := (And.intro l_f (And.intro c13 (And.intro (g_ft c13) (And.intro (g_ft c13) (And.intro (g_ft c13) (And.intro (g_ft c13) (And.intro c12 (And.intro (nz3 c11) (And.intro c11 (And.intro (At.agg (P := Try.prog) (t := 24) (v := .agg #[.int .i64 y10.1, .int .i64 y10.2]) (m := 2) at10 (by kernel_rfl) (by kernel_rfl) 0 (by kernel_rfl) rfl) (And.intro ix10 (And.intro c9 trivial))))))))))))) (hd := F37_d1) (h := by kernel_rfl)
      · refine dec_bif (fun c15 => ?_) (fun c15 => ?_)
        · refine dec_bif (fun c16 => ?_) (fun c16 => ?_)
          · intro hr
            obtain rfl := Option.some.inj hr
            show AWp Try.prog _ (Ends1 .normal (F37_h1 h l1 v1 x2 a3 a4 y6 (IntKind.i64.wrap (a7 + 1)) (IntKind.i64.wrap (a8 + 1)))) _
            exact pEnd_sound good (L := F37_L) (D := F37_D) (its := [.g, (.b true), (.ix id10 off10 g10), (.ld (.agg #[.int .i64 y10.1, .int .i64 y10.2])), .g, .g, .g, .g, .g, .g, .g, .g, .g, .g, (.b true), .g, .g, .d, .g, .g, .g, (.b false), .g, .g, .g, (.w .g), (.w .g), (.w .g), (.w .g), (.p true), (.b true), .g, .g, .g, .g, .g]) (ds := F37_m1_0) (ks := [10]) (e := .normal) (s2 := (F37_h1 h l1 v1 x2 a3 a4 y6 (IntKind.i64.wrap (a7 + 1)) (IntKind.i64.wrap (a8 + 1)))) (hC := (And.intro c16 (And.intro c15 (And.intro (g_tt c15) (And.intro (g_tt c15) (And.intro (g_tt c15) (And.intro (g_tt c15) (And.intro c12 (And.intro (nz3 c11) (And.intro c11 (And.intro (At.agg (P := Try.prog) (t := 24) (v := .agg #[.int .i64 y10.1, .int .i64 y10.2]) (m := 2) at10 (by kernel_rfl) (by kernel_rfl) 0 (by kernel_rfl) rfl) (And.intro ix10 (And.intro c9 trivial))))))))))))) (hd := F37_d1) (h := by kernel_rfl)
          · intro hr
            obtain rfl := Option.some.inj hr
            show AWp Try.prog _ (Ends1 .normal (F37_h1 h l1 v1 x2 a3 a4 y6 a7 (IntKind.i64.wrap (a8 + 1)))) _
            exact pEnd_sound good (L := F37_L) (D := F37_D) (its := [.g, (.b true), (.ix id10 off10 g10), (.ld (.agg #[.int .i64 y10.1, .int .i64 y10.2])), .g, .g, .g, .g, .g, .g, .g, .g, .g, .g, (.b true), .g, .g, .d, .g, .g, .g, (.b false), .g, .g, .g, (.w .g), (.w .g), (.w .g), (.w .g), (.p true), (.b false), .g, .g]) (ds := F37_m1_0) (ks := [10]) (e := .normal) (s2 := (F37_h1 h l1 v1 x2 a3 a4 y6 a7 (IntKind.i64.wrap (a8 + 1)))) (hC := (And.intro c16 (And.intro c15 (And.intro (g_tt c15) (And.intro (g_tt c15) (And.intro (g_tt c15) (And.intro (g_tt c15) (And.intro c12 (And.intro (nz3 c11) (And.intro c11 (And.intro (At.agg (P := Try.prog) (t := 24) (v := .agg #[.int .i64 y10.1, .int .i64 y10.2]) (m := 2) at10 (by kernel_rfl) (by kernel_rfl) 0 (by kernel_rfl) rfl) (And.intro ix10 (And.intro c9 trivial))))))))))))) (hd := F37_d1) (h := by kernel_rfl)
        · intro hr
          obtain rfl := Option.some.inj hr
          show AWp Try.prog _ (Ends1 .normal (F37_h1 h l1 v1 x2 a3 a4 y6 a7 (IntKind.i64.wrap (a8 + 1)))) _
          exact pEnd_sound good (L := F37_L) (D := F37_D) (its := [.g, (.b true), (.ix id10 off10 g10), (.ld (.agg #[.int .i64 y10.1, .int .i64 y10.2])), .g, .g, .g, .g, .g, .g, .g, .g, .g, .g, (.b true), .g, .g, .d, .g, .g, .g, (.b false), .g, .g, .g, .n, .n, .n, .n, (.p false), (.b false), .g, .g]) (ds := F37_m1_0) (ks := [10]) (e := .normal) (s2 := (F37_h1 h l1 v1 x2 a3 a4 y6 a7 (IntKind.i64.wrap (a8 + 1)))) (hC := (And.intro l_f (And.intro c15 (And.intro (g_ft c15) (And.intro (g_ft c15) (And.intro (g_ft c15) (And.intro (g_ft c15) (And.intro c12 (And.intro (nz3 c11) (And.intro c11 (And.intro (At.agg (P := Try.prog) (t := 24) (v := .agg #[.int .i64 y10.1, .int .i64 y10.2]) (m := 2) at10 (by kernel_rfl) (by kernel_rfl) 0 (by kernel_rfl) rfl) (And.intro ix10 (And.intro c9 trivial))))))))))))) (hd := F37_d1) (h := by kernel_rfl)
    · refine dec_bif (fun c17 => ?_) (fun c17 => ?_)
      · refine dec_bif (fun c18 => ?_) (fun c18 => ?_)
        · intro hr
          obtain rfl := Option.some.inj hr
          show AWp Try.prog _ (Ends1 .normal (F37_h1 h l1 v1 x2 a3 a4 y6 (IntKind.i64.wrap (a7 + 1)) (IntKind.i64.wrap (a8 + 1)))) _
          exact pEnd_sound good (L := F37_L) (D := F37_D) (its := [.g, (.b true), (.ix id10 off10 g10), (.ld (.agg #[.int .i64 y10.1, .int .i64 y10.2])), .g, .g, .g, .g, .g, .g, .g, .g, .g, .g, (.b false), .g, .g, .g, (.w .g), (.w .g), (.w .g), (.w .g), (.p true), (.b true), .g, .g, .g, .g, .g]) (ds := F37_m1_0) (ks := [10]) (e := .normal) (s2 := (F37_h1 h l1 v1 x2 a3 a4 y6 (IntKind.i64.wrap (a7 + 1)) (IntKind.i64.wrap (a8 + 1)))) (hC := (And.intro c18 (And.intro c17 (And.intro (g_tt c17) (And.intro (g_tt c17) (And.intro (g_tt c17) (And.intro (g_tt c17) (And.intro c11 (And.intro (At.agg (P := Try.prog) (t := 24) (v := .agg #[.int .i64 y10.1, .int .i64 y10.2]) (m := 2) at10 (by kernel_rfl) (by kernel_rfl) 0 (by kernel_rfl) rfl) (And.intro ix10 (And.intro c9 trivial))))))))))) (hd := F37_d1) (h := by kernel_rfl)
        · intro hr
          obtain rfl := Option.some.inj hr
          show AWp Try.prog _ (Ends1 .normal (F37_h1 h l1 v1 x2 a3 a4 y6 a7 (IntKind.i64.wrap (a8 + 1)))) _
          exact pEnd_sound good (L := F37_L) (D := F37_D) (its := [.g, (.b true), (.ix id10 off10 g10), (.ld (.agg #[.int .i64 y10.1, .int .i64 y10.2])), .g, .g, .g, .g, .g, .g, .g, .g, .g, .g, (.b false), .g, .g, .g, (.w .g), (.w .g), (.w .g), (.w .g), (.p true), (.b false), .g, .g]) (ds := F37_m1_0) (ks := [10]) (e := .normal) (s2 := (F37_h1 h l1 v1 x2 a3 a4 y6 a7 (IntKind.i64.wrap (a8 + 1)))) (hC := (And.intro c18 (And.intro c17 (And.intro (g_tt c17) (And.intro (g_tt c17) (And.intro (g_tt c17) (And.intro (g_tt c17) (And.intro c11 (And.intro (At.agg (P := Try.prog) (t := 24) (v := .agg #[.int .i64 y10.1, .int .i64 y10.2]) (m := 2) at10 (by kernel_rfl) (by kernel_rfl) 0 (by kernel_rfl) rfl) (And.intro ix10 (And.intro c9 trivial))))))))))) (hd := F37_d1) (h := by kernel_rfl)
      · intro hr
        obtain rfl := Option.some.inj hr
        show AWp Try.prog _ (Ends1 .normal (F37_h1 h l1 v1 x2 a3 a4 y6 a7 (IntKind.i64.wrap (a8 + 1)))) _
        exact pEnd_sound good (L := F37_L) (D := F37_D) (its := [.g, (.b true), (.ix id10 off10 g10), (.ld (.agg #[.int .i64 y10.1, .int .i64 y10.2])), .g, .g, .g, .g, .g, .g, .g, .g, .g, .g, (.b false), .g, .g, .g, .n, .n, .n, .n, (.p false), (.b false), .g, .g]) (ds := F37_m1_0) (ks := [10]) (e := .normal) (s2 := (F37_h1 h l1 v1 x2 a3 a4 y6 a7 (IntKind.i64.wrap (a8 + 1)))) (hC := (And.intro l_f (And.intro c17 (And.intro (g_ft c17) (And.intro (g_ft c17) (And.intro (g_ft c17) (And.intro (g_ft c17) (And.intro c11 (And.intro (At.agg (P := Try.prog) (t := 24) (v := .agg #[.int .i64 y10.1, .int .i64 y10.2]) (m := 2) at10 (by kernel_rfl) (by kernel_rfl) 0 (by kernel_rfl) rfl) (And.intro ix10 (And.intro c9 trivial))))))))))) (hd := F37_d1) (h := by kernel_rfl)
  · intro hr
    obtain rfl := Option.some.inj hr
    show AWp Try.prog _ (Ends1 ((F37_x1 h l1 v1 x2 a3 a4) (a7 : Int)).1 ((F37_x1 h l1 v1 x2 a3 a4) (a7 : Int)).2) _
    exact pEnd_sound good (L := F37_L) (D := F37_D) (its := [.g, (.b false)]) (ds := F37_m1_1) (ks := [7]) (e := ((F37_x1 h l1 v1 x2 a3 a4) (a7 : Int)).1) (s2 := ((F37_x1 h l1 v1 x2 a3 a4) (a7 : Int)).2) (hC := (And.intro c9 trivial)) (hd := F37_d1) (h := by kernel_rfl)
theorem F37_l1_0 (h : AHeap) (l1 : List (Int × Int)) (v1 : Hd) (hv1 : SlE E24 2 h (sv v1) l1) (x2 : Int) (a3 : Int) (a4 : Int) (y6 : Int × Int) (x : Int × Int) (r : Int) (hl : loopO (fun (s : Int × Int) => F37_s1 l1 x2 y6 s.1 s.2) x = some r) : AWp Try.prog (.loop (codeOf Try.prog 37 [1, 1, 0, 1, 0, 0, 1, 1, 0, 0, 1, 1, 0, 1, 0, 0])) (Ends1 (.exit 2) (F37_x1_0 h l1 v1 x2 a3 a4 r)) ((fun (s : Int × Int) => (F37_h1 h l1 v1 x2 a3 a4 y6 s.1 s.2)) x) := by
  have k := loop_fun (P := Try.prog) (c := (codeOf Try.prog 37 [1, 1, 0, 1, 0, 0, 1, 1, 0, 0, 1, 1, 0, 1, 0, 0])) (step := (fun (s : Int × Int) => F37_s1 l1 x2 y6 s.1 s.2)) (hd := (fun (s : Int × Int) => (F37_h1 h l1 v1 x2 a3 a4 y6 s.1 s.2))) (X := (F37_x1 h l1 v1 x2 a3 a4)) (by intro t; unfold F37_x1; intro h; cases h) (fun x => F37_r1 h l1 v1 hv1 x2 a3 a4 y6 x.1 x.2) hl
  exact k
def F37_m2_1 : List Bool := [true, true, true, true, true, false, true, true, true, true, true, true, true, true, true, true, true, true, true, true, true, true, true, true, true, true, true, true, true, true, true, true, true, true, true, true, true, true, true, true, true, true, true, true, true, true, true, true, true, true, true, true, true, true, true]
def F37_m2_0 : List Bool := [false, false, true, true, true, false, true, true, true, true, true, true, false, false, false, true, true, true, true, true, true, true, true, true, true, true, true, true, true, true, true, true, true, true, true, true, true, true, true, true, true, true, true, true, true, true, true, true, true, true, true, true, true, true, true]
def F37_s2 (l1 : List (Int × Int)) (x2 : Int) (a3 : Int) (a4 : Int) : Option ((Int × Int) ⊕ Int) :=
  (bif decide (a4 < (l1.length : Int)) then
   (Option.bind (at? l1 a4) fun y6 =>
   (Option.bind (loopO (fun (s : Int × Int) => F37_s1 l1 x2 y6 s.1 s.2) (0, 0)) fun y19 =>
   some (.inl ((if y19 > a3 then y19 else a3), (IntKind.i64.wrap (a4 + 1))))))
  else
   some (.inr a3))
def F37_h2 (h : AHeap) (l1 : List (Int × Int)) (v1 : Hd) (x2 : Int)  (a3 : Int) (a4 : Int) : AS := ⟨[(sv v1), .int .i64 x2, junk, junk, junk, .int .i64 a3, junk, junk, junk, junk, junk, junk, (sv v1), .int .i64 (l1.length : Int), .int .i64 a4, junk, junk, junk, junk, junk, junk, junk, junk, junk, junk, junk, junk, junk, junk, junk, junk, junk, junk, junk, junk, junk, junk, junk, junk, junk, junk, junk, junk, junk, junk, junk, junk, junk, junk, junk, junk, junk, junk, junk, junk], [], h⟩
theorem F37_d2 : drawsOk F37_D (codeOf Try.prog 37 [1, 1, 0, 1, 0, 0]) = true := by kernel_rfl
def F37_x2_0 (h : AHeap)  (r : Int) : AS := ⟨[junk, junk, junk, junk, junk, .int .i64 r, junk, junk, junk, junk, junk, junk, junk, junk, junk, junk, junk, junk, junk, junk, junk, junk, junk, junk, junk, junk, junk, junk, junk, junk, junk, junk, junk, junk, junk, junk, junk, junk, junk, junk, junk, junk, junk, junk, junk, junk, junk, junk, junk, junk, junk, junk, junk, junk, junk], [], h⟩
def F37_x2 (h : AHeap) (r : Int) : Exit × AS := ((.exit 0), (F37_x2_0 h r))
set_option maxRecDepth 100000 in
theorem F37_r2 (h : AHeap) (l1 : List (Int × Int)) (v1 : Hd) (hv1 : SlE E24 2 h (sv v1) l1) (x2 : Int) (a3 : Int) (a4 : Int) (o : (Int × Int) ⊕ Int) : F37_s2 l1 x2 a3 a4 = some o → RdF Try.prog (codeOf Try.prog 37 [1, 1, 0, 1, 0, 0]) (fun (s : Int × Int) => (F37_h2 h l1 v1 x2 s.1 s.2)) (F37_x2 h) (F37_h2 h l1 v1 x2 a3 a4) o := by
  unfold F37_s2
  refine dec_bif (fun c5 => ?_) (fun c5 => ?_)
  · refine bind_opt fun y6 e6 => ?_
    obtain ⟨id6, off6, g6, cs6, ix6, at6, rfl⟩ := SlE.at hv1 e6
    refine bind_opt fun y19 e19 => ?_
    intro hr
    obtain rfl := Option.some.inj hr
    show AWp Try.prog _ (Ends1 .normal (F37_h2 h l1 v1 x2 (if y19 > a3 then y19 else a3) (IntKind.i64.wrap (a4 + 1)))) _
    exact pEnd_sound good (L := F37_L) (D := F37_D) (its := [.g, (.b true), (.ix id6 off6 g6), (.ld (.agg #[.int .i64 y6.1, .int .i64 y6.2])), .g, .g, .g, .g, (.ln l1.length), .g, (.l F37_m1_0 [] (.exit 2) (F37_x1_0 h l1 v1 x2 a3 a4 y19)), .g, .g, .g, .g, .g, .g]) (ds := F37_m2_0) (ks := []) (e := .normal) (s2 := (F37_h2 h l1 v1 x2 (if y19 > a3 then y19 else a3) (IntKind.i64.wrap (a4 + 1)))) (hC := (And.intro (F37_l1_0 h l1 v1 hv1 x2 a3 a4 y6 (0, 0) y19 e19) (And.intro (SlE.len hv1) (And.intro (At.agg (P := Try.prog) (t := 24) (v := .agg #[.int .i64 y6.1, .int .i64 y6.2]) (m := 2) at6 (by kernel_rfl) (by kernel_rfl) 0 (by kernel_rfl) rfl) (And.intro ix6 (And.intro c5 trivial)))))) (hd := F37_d2) (h := by kernel_rfl)
  · intro hr
    obtain rfl := Option.some.inj hr
    show AWp Try.prog _ (Ends1 ((F37_x2 h) (a3 : Int)).1 ((F37_x2 h) (a3 : Int)).2) _
    exact pEnd_sound good (L := F37_L) (D := F37_D) (its := [.g, (.b false)]) (ds := F37_m2_1) (ks := []) (e := ((F37_x2 h) (a3 : Int)).1) (s2 := ((F37_x2 h) (a3 : Int)).2) (hC := (And.intro c5 trivial)) (hd := F37_d2) (h := by kernel_rfl)
theorem F37_l2_0 (h : AHeap) (l1 : List (Int × Int)) (v1 : Hd) (hv1 : SlE E24 2 h (sv v1) l1) (x2 : Int) (x : Int × Int) (r : Int) (hl : loopO (fun (s : Int × Int) => F37_s2 l1 x2 s.1 s.2) x = some r) : AWp Try.prog (.loop (codeOf Try.prog 37 [1, 1, 0, 1, 0, 0])) (Ends1 (.exit 0) (F37_x2_0 h r)) ((fun (s : Int × Int) => (F37_h2 h l1 v1 x2 s.1 s.2)) x) := by
  have k := loop_fun (P := Try.prog) (c := (codeOf Try.prog 37 [1, 1, 0, 1, 0, 0])) (step := (fun (s : Int × Int) => F37_s2 l1 x2 s.1 s.2)) (hd := (fun (s : Int × Int) => (F37_h2 h l1 v1 x2 s.1 s.2))) (X := (F37_x2 h)) (by intro t; unfold F37_x2; intro h; cases h) (fun x => F37_r2 h l1 v1 hv1 x2 x.1 x.2) hl
  exact k
def F37 (l1 : List (Int × Int)) (x2 : Int) : Option (Int) :=
  (Option.bind (loopO (fun (s : Int × Int) => F37_s2 l1 x2 s.1 s.2) (0, 0)) fun y20 =>
  some (y20))
set_option maxRecDepth 100000 in
theorem F37_spec (l1 : List (Int × Int)) (x2 : Int) (v1 : Hd) (h : AHeap) (hv1 : SlE E24 2 h (sv v1) l1) (r : Int) : F37 l1 x2 = some r → ACalls Try.prog 37 [(sv v1), .int .i64 x2] h (fun v' h'' => v' = (.int .i64 r : Value) ∧ h'' = h) := by
  unfold F37
  refine bind_opt fun y20 e20 => ?_
  intro hr
  obtain rfl := Option.some.inj hr
  exact pFun_sound good tab_ok (f := 37) (its := [.g, .g, .g, (.ln l1.length), .g, (.l F37_m2_0 [] (.exit 0) (F37_x2_0 h y20)), .g, .g]) (args := [(sv v1), .int .i64 x2]) (h := h) (h' := h) (v := .int .i64 y20) (hC := (And.intro (F37_l2_0 h l1 v1 hv1 x2 (0, 0) y20 e20) (And.intro (SlE.len hv1) trivial))) (hr := by kernel_rfl)
/-! 20 jacquard/lifetime.Pressure -/
def F20_L : List Nat := [8]
def F20_D : List (Nat × List (Nat × Nat)) := [(11, [(0, 2), (1, 2), (2, 2), (3, 2), (4, 2), (5, 2), (6, 2), (7, 2), (8, 2), (9, 2), (10, 2), (11, 2), (12, 2), (13, 0), (14, 0), (15, 2)])]
def F20__1 (x2 : Int) (y16 : Int × Int × Int) : Int := (IntKind.i64.wrap ((IntKind.i64.wrap ((IntKind.i64.wrap (y16.2.2 - y16.2.1)) + 1)).tdiv x2))
def F20__2 (y16 : Int × Int × Int) : Int := (IntKind.i64.wrap (y16.2.1 + (IntKind.i64.wrap ((IntKind.i64.wrap (y16.2.2 - y16.2.1)) + 1))))
def F20__3 (x2 : Int) (y16 : Int × Int × Int) : Int := (IntKind.i64.wrap ((F20__2 y16) - ((IntKind.i64.wrap ((IntKind.i64.wrap (y16.2.2 - y16.2.1)) + 1)).tmod x2)))
def F20_m1_1 : List Bool := [true, false, true, true, true, false, false, true, true, true, true, true, true, true, true, true, true, true, true, true, true, true, true, true, true, true, true, true, true, true, true, true, true, true, true, true, true, true, true, true, true, true, true, true, true, true, true, true, true, true, true, true, true, true, true, true]
def F20_m1_0 : List Bool := [true, false, true, true, true, false, false, true, true, true, true, true, true, true, true, true, false, false, false, true, true, true, true, true, true, true, true, true, true, true, true, true, true, true, true, true, true, true, true, true, true, true, true, true, true, true, true, true, true, true, true, true, true, true, true, true]
def F20_s1 (l1 : List (Int × Int × Int)) (x2 : Int) (a11 : Int) (a12 : Int) (l13 : List (Int × Int)) : Option ((Int × Int × (List (Int × Int))) ⊕ (Int × (List (Int × Int)))) :=
  (bif decide (a12 < (l1.length : Int)) then
   (Option.bind (at? l1 a12) fun y16 =>
   (bif decide ((IntKind.i64.wrap ((IntKind.i64.wrap (y16.2.2 - y16.2.1)) + 1)) > 0) then
    (bif (!(okApp (l13.length + ([((F20__3 x2 y16), ((IntKind.i64.wrap ((IntKind.i64.wrap (y16.2.2 - y16.2.1)) + 1)).tmod x2))] : List (Int × Int)).length) 16)) then none else
    some (.inl ((IntKind.i64.wrap (a11 + (F20__1 x2 y16))), (IntKind.i64.wrap (a12 + 1)), (l13 ++ ([((F20__3 x2 y16), ((IntKind.i64.wrap ((IntKind.i64.wrap (y16.2.2 - y16.2.1)) + 1)).tmod x2))] : List (Int × Int))))))
   else
    some (.inl (a11, (IntKind.i64.wrap (a12 + 1)), l13))))
  else
   some (.inr (a11, l13)))
def F20_h1 (l1 : List (Int × Int × Int)) (v1 : Hd) (x2 : Int) (h14 : AHeap) (u13 : Hd) (a11 : Int) (a12 : Int) (l13 : List (Int × Int)) : AS := ⟨[junk, .int .i64 x2, junk, junk, junk, .int .i64 a11, (sv u13), junk, junk, junk, junk, junk, junk, junk, junk, junk, (sv v1), .int .i64 (l1.length : Int), .int .i64 a12, junk, junk, junk, junk, junk, junk, junk, junk, junk, junk, junk, junk, junk, junk, junk, junk, junk, junk, junk, junk, junk, junk, junk, junk, junk, junk, junk, junk, junk, junk, junk, junk, junk, junk, junk, junk, junk], [], h14⟩
theorem F20_d1 : drawsOk F20_D (codeOf Try.prog 20 [1, 1, 1, 1, 0, 1, 0, 0]) = true := by kernel_rfl
def F20_x1_0 (h : AHeap) (x2 : Int) (hx : AHeap) (w0 : Hd) (r : Int × (List (Int × Int))) : AS := ⟨[junk, .int .i64 x2, junk, junk, junk, .int .i64 r.1, (sv w0), junk, junk, junk, junk, junk, junk, junk, junk, junk, junk, junk, junk, junk, junk, junk, junk, junk, junk, junk, junk, junk, junk, junk, junk, junk, junk, junk, junk, junk, junk, junk, junk, junk, junk, junk, junk, junk, junk, junk, junk, junk, junk, junk, junk, junk, junk, junk, junk, junk], [], hx⟩
def F20_i1 (h : AHeap) (l1 : List (Int × Int × Int)) (v1 : Hd) (x2 : Int) (s : Int × Int × (List (Int × Int))) (S : AS) : Prop := ∃ (h14 : AHeap) (u13 : Hd), Heapy h h14 [⟨u13, 24, 2, List.flatMap enc24 s.2.2⟩] ∧ S = (F20_h1 l1 v1 x2 h14 u13 s.1 s.2.1 s.2.2)
def F20_x1 (h : AHeap) (x2 : Int) (r : Int × (List (Int × Int))) (e : Exit) (S : AS) : Prop := e = (.exit 0) ∧ ∃ (hx : AHeap) (w0 : Hd), Heapy h hx [⟨w0, 24, 2, List.flatMap enc24 r.2⟩] ∧ S = (F20_x1_0 h x2 hx w0 r)
set_option maxRecDepth 100000 in
theorem F20_r1 (h : AHeap) (l1 : List (Int × Int × Int)) (v1 : Hd) (hv1 : SlE E44 3 h (sv v1) l1) (x2 : Int) (c3 : decide (x2 ≤ 0) = false) (a11 : Int) (a12 : Int) (l13 : List (Int × Int)) (S : AS) (hI : (F20_i1 h l1 v1 x2) (a11, a12, l13) S) (o : (Int × Int × (List (Int × Int))) ⊕ (Int × (List (Int × Int)))) : F20_s1 l1 x2 a11 a12 l13 = some o → Rd Try.prog (codeOf Try.prog 20 [1, 1, 1, 1, 0, 1, 0, 0]) (F20_i1 h l1 v1 x2) (F20_x1 h x2) S o := by
  obtain ⟨h14, u13, hp14, rfl⟩ := hI
  unfold F20_s1
  refine dec_bif (fun c15 => ?_) (fun c15 => ?_)
  · refine bind_opt fun y16 e16 => ?_
    obtain ⟨id16, off16, g16, cs16, ix16, at16, rfl⟩ := SlE.at hv1 e16
    refine dec_bif (fun c17 => ?_) (fun c17 => ?_)
    · obtain ⟨v18, h18, m18, hp18, _⟩ := Heapy.build (P := Try.prog) hp14 (t := 22) (e := 24) (len := 1) (n := 2) (parts := [(0, .agg #[.int .i64 (F20__3 x2 y16), .int .i64 ((IntKind.i64.wrap ((IntKind.i64.wrap (y16.2.2 - y16.2.1)) + 1)).tmod x2)])]) (cells := List.flatMap enc24 ([((F20__3 x2 y16), ((IntKind.i64.wrap ((IntKind.i64.wrap (y16.2.2 - y16.2.1)) + 1)).tmod x2))] : List (Int × Int))) (by kernel_rfl) rfl
      refine guard_ok fun g20 => ?_
      obtain ⟨v21, h21, m21, q21, _⟩ := Heapy.append hp18 (show mkInfo Try.prog 22 = some (24, 2, 16, [.int .i64 0, .int .i64 0]) by kernel_rfl) 1 (v := u13) (cells := List.flatMap enc24 l13) rfl (Y := (sv v18)) (SlE.src (enc := enc24) (c := 2) (Heapy.sle (v := v18) (xs := ([((F20__3 x2 y16), ((IntKind.i64.wrap ((IntKind.i64.wrap (y16.2.2 - y16.2.1)) + 1)).tmod x2))] : List (Int × Int))) (enc := enc24) hp18 0 rfl (fun _ => rfl) (by decide)) (fun _ => rfl)) (flatMap_length (enc := enc24) (c := 2) (fun _ => rfl) _) (by rw [Heapy.vn (v := u13) (xs := l13) (enc := enc24) hp18 1 rfl (fun _ => rfl) (by decide)]; simpa using g20)
      have hp21 : Heapy h h21 [⟨v18, 24, 2, List.flatMap enc24 ([((F20__3 x2 y16), ((IntKind.i64.wrap ((IntKind.i64.wrap (y16.2.2 - y16.2.1)) + 1)).tmod x2))] : List (Int × Int))⟩, ⟨v21, 24, 2, List.flatMap enc24 (l13 ++ ([((F20__3 x2 y16), ((IntKind.i64.wrap ((IntKind.i64.wrap (y16.2.2 - y16.2.1)) + 1)).tmod x2))] : List (Int × Int)))⟩] := by rw [← List.flatMap_append] at q21; exact q21
      intro hr
      obtain rfl := Option.some.inj hr
      exact ⟨(F20_h1 l1 v1 x2 h21 v21 (IntKind.i64.wrap (a11 + (F20__1 x2 y16))) (IntKind.i64.wrap (a12 + 1)) (l13 ++ ([((F20__3 x2 y16), ((IntKind.i64.wrap ((IntKind.i64.wrap (y16.2.2 - y16.2.1)) + 1)).tmod x2))] : List (Int × Int)))), ⟨h21, v21, (Heapy.pick hp21 [1] (by decide)), rfl⟩, pEnd_sound good (L := F20_L) (D := F20_D) (its := [.g, (.b true), (.ix id16 off16 g16), (.ld (.agg #[.int .i64 y16.1, .int .i64 y16.2.1, .int .i64 y16.2.2])), .g, .g, .g, .g, .g, .g, .g, .g, .g, .g, .g, (.b true), .g, .g, .g, .d, .g, .g, .g, .g, .g, .g, .g, .g, .g, .d, .g, .g, .g, .d, .g, (.mm (sv v18) h18), (.mm (sv v21) h21), .g, .g, .g]) (ds := F20_m1_0) (ks := [8]) (e := .normal) (s2 := (F20_h1 l1 v1 x2 h21 v21 (IntKind.i64.wrap (a11 + (F20__1 x2 y16))) (IntKind.i64.wrap (a12 + 1)) (l13 ++ ([((F20__3 x2 y16), ((IntKind.i64.wrap ((IntKind.i64.wrap (y16.2.2 - y16.2.1)) + 1)).tmod x2))] : List (Int × Int))))) (hC := (And.intro m21 (And.intro m18 (And.intro (nz6 c3) (And.intro (nz6 c3) (And.intro (nz6 c3) (And.intro c17 (And.intro (At.agg (P := Try.prog) (t := 44) (v := .agg #[.int .i64 y16.1, .int .i64 y16.2.1, .int .i64 y16.2.2]) (m := 3) (At.mono (Heapy.sub hp14) at16) (by kernel_rfl) (by kernel_rfl) 0 (by kernel_rfl) rfl) (And.intro ix16 (And.intro c15 trivial)))))))))) (hd := F20_d1) (h := by kernel_rfl)⟩
    · intro hr
      obtain rfl := Option.some.inj hr
      exact ⟨(F20_h1 l1 v1 x2 h14 u13 a11 (IntKind.i64.wrap (a12 + 1)) l13), ⟨h14, u13, (Heapy.pick hp14 [0] (by decide)), rfl⟩, pEnd_sound good (L := F20_L) (D := F20_D) (its := [.g, (.b true), (.ix id16 off16 g16), (.ld (.agg #[.int .i64 y16.1, .int .i64 y16.2.1, .int .i64 y16.2.2])), .g, .g, .g, .g, .g, .g, .g, .g, .g, .g, .g, (.b false), .g, .g]) (ds := F20_m1_0) (ks := [8]) (e := .normal) (s2 := (F20_h1 l1 v1 x2 h14 u13 a11 (IntKind.i64.wrap (a12 + 1)) l13)) (hC := (And.intro c17 (And.intro (At.agg (P := Try.prog) (t := 44) (v := .agg #[.int .i64 y16.1, .int .i64 y16.2.1, .int .i64 y16.2.2]) (m := 3) (At.mono (Heapy.sub hp14) at16) (by kernel_rfl) (by kernel_rfl) 0 (by kernel_rfl) rfl) (And.intro ix16 (And.intro c15 trivial))))) (hd := F20_d1) (h := by kernel_rfl)⟩
  · intro hr
    obtain rfl := Option.some.inj hr
    refine ⟨(.exit 0), (F20_x1_0 h x2 h14 u13 ((a11, l13) : Int × (List (Int × Int)))), (by intro hh; cases hh), ?_, pEnd_sound good (L := F20_L) (D := F20_D) (its := [.g, (.b false)]) (ds := F20_m1_1) (ks := []) (e := (.exit 0)) (s2 := (F20_x1_0 h x2 h14 u13 ((a11, l13) : Int × (List (Int × Int))))) (hC := (And.intro c15 trivial)) (hd := F20_d1) (h := by kernel_rfl)⟩
    exact ⟨rfl, h14, u13, (Heapy.pick hp14 [0] (by decide)), rfl⟩
theorem F20_l1 (h : AHeap) (l1 : List (Int × Int × Int)) (v1 : Hd) (hv1 : SlE E44 3 h (sv v1) l1) (x2 : Int) (c3 : decide (x2 ≤ 0) = false) (x : Int × Int × (List (Int × Int))) (r : Int × (List (Int × Int))) (hl : loopO (fun (s : Int × Int × (List (Int × Int))) => F20_s1 l1 x2 s.1 s.2.1 s.2.2) x = some r) (S : AS) (hI : (F20_i1 h l1 v1 x2) x S) : ∃ e S', (F20_x1 h x2) r e S' ∧ AWp Try.prog (.loop (codeOf Try.prog 20 [1, 1, 1, 1, 0, 1, 0, 0])) (Ends1 e S') S :=
  loop_rel (fun x S hI => F20_r1 h l1 v1 hv1 x2 c3 x.1 x.2.1 x.2.2 S hI) hl hI
def F20 (l1 : List (Int × Int × Int)) (x2 : Int) : Option (Int) :=
  (bif decide (x2 ≤ 0) then
   (Option.bind (F23 l1 x2) fun y4 =>
   (Option.bind (F37 y4 0) fun y7 =>
   some (y7)))
  else
   (Option.bind (loopO (fun (s : Int × Int × (List (Int × Int))) => F20_s1 l1 x2 s.1 s.2.1 s.2.2) (0, 0, ([] : List (Int × Int)))) fun y23 =>
   (Option.bind (F37 y23.2 x2) fun y25 =>
   some (IntKind.i64.wrap (y23.1 + y25)))))
set_option maxRecDepth 100000 in
theorem F20_spec (l1 : List (Int × Int × Int)) (x2 : Int) (v1 : Hd) (h : AHeap) (hw : h.wf) (hv1 : SlE E44 3 h (sv v1) l1) (r : Int) : F20 l1 x2 = some r → ∃ (h' : AHeap), Heapy h h' [] ∧ ACalls Try.prog 20 [(sv v1), .int .i64 x2] h (fun v' h'' => v' = (.int .i64 r : Value) ∧ h'' = h') := by
  unfold F20
  refine dec_bif (fun c3 => ?_) (fun c3 => ?_)
  · refine bind_opt fun y4 e4 => ?_
    obtain ⟨u5_0, h5, q5, c5⟩ := F23_spec l1 x2 v1 h hw hv1 _ e4
    have hp5 : Heapy h h5 [⟨u5_0, 24, 2, List.flatMap enc24 y4⟩] := Heapy.call (Heapy.refl hw) q5
    refine bind_opt fun y7 e7 => ?_
    intro hr
    obtain rfl := Option.some.inj hr
    exact ⟨h5, Heapy.pick hp5 [] (by decide), pFun_sound good tab_ok (f := 20) (its := [.g, .g, .g, (.b true), .g, .g, (.c ((sv u5_0)) h5), (.c (.int .i64 y7) h5), .g]) (args := [(sv v1), .int .i64 x2]) (h := h) (h' := h5) (v := .int .i64 y7) (hC := (And.intro (F37_spec y4 0 u5_0 h5 (Heapy.sle (v := u5_0) (xs := y4) (enc := enc24) hp5 0 rfl (fun _ => rfl) (by decide)) _ e7) (And.intro c5 (And.intro c3 trivial)))) (hr := by kernel_rfl)⟩
  · refine bind_opt fun y23 e23 => ?_
    have hp9 : Heapy h h [⟨⟨none, 0, 0⟩, 24, 2, List.flatMap enc24 ([] : List (Int × Int))⟩] := Heapy.nil (Heapy.refl hw) 24 2
    obtain ⟨ee23, SS23, hX23, hA23⟩ := F20_l1 h l1 v1 hv1 x2 c3 (0, 0, ([] : List (Int × Int))) y23 e23 (F20_h1 l1 v1 x2 h ⟨none, 0, 0⟩ 0 0 ([] : List (Int × Int))) ⟨h, ⟨none, 0, 0⟩, (Heapy.pick hp9 [0] (by decide)), rfl⟩
    obtain ⟨rfl, h24, w0_24, hp24, rfl⟩ := hX23
    refine bind_opt fun y25 e25 => ?_
    intro hr
    obtain rfl := Option.some.inj hr
    exact ⟨h24, Heapy.pick hp24 [] (by decide), pFun_sound good tab_ok (f := 20) (its := [.g, .g, .g, (.b false), .g, .g, .g, (.ln l1.length), .g, (.l F20_m1_0 [] (.exit 0) (F20_x1_0 h x2 h24 w0_24 y23)), .g, .g, .g, (.c (.int .i64 y25) h24), .g, .g]) (args := [(sv v1), .int .i64 x2]) (h := h) (h' := h24) (v := .int .i64 (IntKind.i64.wrap (y23.1 + y25))) (hC := (And.intro (F37_spec y23.2 x2 w0_24 h24 (Heapy.sle (v := w0_24) (xs := y23.2) (enc := enc24) hp24 0 rfl (fun _ => rfl) (by decide)) _ e25) (And.intro hA23 (And.intro (SlE.len hv1) (And.intro c3 trivial))))) (hr := by kernel_rfl)⟩
/-! 25 jacquard/jacquardref37.Pressure -/
def F25_L : List Nat := []
def F25_D : List (Nat × List (Nat × Nat)) := [(6, [(0, 2), (1, 2), (2, 2), (3, 2), (4, 2), (5, 2), (6, 2), (7, 2), (8, 2), (9, 2), (10, 2), (11, 2), (12, 2), (13, 2)])]
def F25__1 (a6 : Int) (y10 : Int × Int) : Int := (if (IntKind.i64.wrap (y10.1 + y10.2)) > a6 then (IntKind.i64.wrap (y10.1 + y10.2)) else a6)
def F25_m1_1 : List Bool := [true, false, true, true, true, false, false, false, true, true, true, true, true, true, true, true, true, true, true, true, true, true, true, true, true, true, true, true, true, true, true, true, true, true, true, true, true, true, true, true, true, true, true, true, true, true, true, true, true, true, true, true, true, true, true, true, true, true, true, true, true, true, true, true, true, true, true, true, true, true, true, true, true, true, true, true, true, true, true, true, true, true, true, true, true, true, true, true, true, true, true, true]
def F25_m1_0 : List Bool := [true, false, true, true, true, false, false, false, false, true, true, true, true, true, true, true, true, true, true, true, true, true, true, true, true, true, true, true, true, true, true, true, true, true, true, true, true, true, true, true, true, true, true, true, true, true, true, true, true, true, true, true, true, true, true, true, true, true, true, true, true, true, true, true, true, true, true, true, true, true, true, true, true, true, true, true, true, true, true, true, true, true, true, true, true, true, true, true, true, true, true, true]
def F25_s1 (x2 : Int) (y3 : (List (Int × Int))) (a6 : Int) (a7 : Int) : Option ((Int × Int) ⊕ Int) :=
  (bif decide (a7 < (y3.length : Int)) then
   (bif (x2 == 0) then
    (Option.bind (at? y3 a7) fun y10 =>
    some (.inl ((F25__1 a6 y10), (IntKind.i64.wrap (a7 + 1)))))
   else
    some (.inr a6))
  else
   some (.inr a6))
def F25_h1 (x2 : Int) (u4_0 : Hd) (h4 : AHeap)  (a6 : Int) (a7 : Int) : AS := ⟨[junk, .int .i64 x2, junk, junk, junk, (sv u4_0), .int .i64 0, .int .i64 a6, .int .i64 a7, junk, junk, junk, junk, junk, junk, junk, junk, junk, junk, junk, junk, junk, junk, junk, junk, junk, junk, junk, junk, junk, junk, junk, junk, junk, junk, junk, junk, junk, junk, junk, junk, junk, junk, junk, junk, junk, junk, junk, junk, junk, junk, junk, junk, junk, junk, junk, junk, junk, junk, junk, junk, junk, junk, junk, junk, junk, junk, junk, junk, junk, junk, junk, junk, junk, junk, junk, junk, junk, junk, junk, junk, junk, junk, junk, junk, junk, junk, junk, junk, junk, junk, junk], [], h4⟩
theorem F25_d1 : drawsOk F25_D (codeOf Try.prog 25 [1, 1, 1, 0, 1, 0, 0]) = true := by kernel_rfl
def F25_x1_0 (x2 : Int) (u4_0 : Hd) (h4 : AHeap)  (r : Int) : AS := ⟨[junk, .int .i64 x2, junk, junk, junk, (sv u4_0), .int .i64 0, .int .i64 r, junk, junk, junk, junk, junk, junk, junk, junk, junk, junk, junk, junk, junk, junk, junk, junk, junk, junk, junk, junk, junk, junk, junk, junk, junk, junk, junk, junk, junk, junk, junk, junk, junk, junk, junk, junk, junk, junk, junk, junk, junk, junk, junk, junk, junk, junk, junk, junk, junk, junk, junk, junk, junk, junk, junk, junk, junk, junk, junk, junk, junk, junk, junk, junk, junk, junk, junk, junk, junk, junk, junk, junk, junk, junk, junk, junk, junk, junk, junk, junk, junk, junk, junk, junk], [], h4⟩
def F25_x1 (x2 : Int) (u4_0 : Hd) (h4 : AHeap) (r : Int) : Exit × AS := ((.exit 0), (F25_x1_0 x2 u4_0 h4 r))
set_option maxRecDepth 100000 in
theorem F25_r1 (h : AHeap) (x2 : Int) (y3 : (List (Int × Int))) (u4_0 : Hd) (h4 : AHeap) (hp4 : Heapy h h4 [⟨u4_0, 24, 2, List.flatMap enc24 y3⟩]) (a6 : Int) (a7 : Int) (o : (Int × Int) ⊕ Int) : F25_s1 x2 y3 a6 a7 = some o → RdF Try.prog (codeOf Try.prog 25 [1, 1, 1, 0, 1, 0, 0]) (fun (s : Int × Int) => (F25_h1 x2 u4_0 h4 s.1 s.2)) (F25_x1 x2 u4_0 h4) (F25_h1 x2 u4_0 h4 a6 a7) o := by
  unfold F25_s1
  refine dec_bif (fun c8 => ?_) (fun c8 => ?_)
  · refine dec_bif (fun c9 => ?_) (fun c9 => ?_)
    · refine bind_opt fun y10 e10 => ?_
      obtain ⟨id10, off10, g10, cs10, ix10, at10, rfl⟩ := SlE.at (Heapy.sle (v := u4_0) (xs := y3) (enc := enc24) hp4 0 rfl (fun _ => rfl) (by decide)) e10
      intro hr
      obtain rfl := Option.some.inj hr
      show AWp Try.prog _ (Ends1 .normal (F25_h1 x2 u4_0 h4 (F25__1 a6 y10) (IntKind.i64.wrap (a7 + 1)))) _
      exact pEnd_sound good (L := F25_L) (D := F25_D) (its := [.g, .g, (.ln y3.length), .g, .g, (.w .g), (.w .g), (.p true), (.b true), .g, .g, .g, (.ix id10 off10 g10), .g, (.ld (.int .i64 y10.1)), .g, .g, (.ix id10 off10 g10), .g, (.ld (.int .i64 y10.2)), .g, .g, .g, .g, .g, .g]) (ds := F25_m1_0) (ks := []) (e := .normal) (s2 := (F25_h1 x2 u4_0 h4 (F25__1 a6 y10) (IntKind.i64.wrap (a7 + 1)))) (hC := (And.intro (At.one (P := Try.prog) (t := 3) (v := .int .i64 y10.2) at10 (by kernel_rfl) 1 rfl rfl) (And.intro ix10 (And.intro (At.one (P := Try.prog) (t := 3) (v := .int .i64 y10.1) at10 (by kernel_rfl) 0 rfl rfl) (And.intro ix10 (And.intro c9 (And.intro c8 (And.intro (g_tt c8) (And.intro (g_tt c8) (And.intro (SlE.len (Heapy.sle (v := u4_0) (xs := y3) (enc := enc24) hp4 0 rfl (fun _ => rfl) (by decide))) trivial)))))))))) (hd := F25_d1) (h := by kernel_rfl)
    · intro hr
      obtain rfl := Option.some.inj hr
      show AWp Try.prog _ (Ends1 ((F25_x1 x2 u4_0 h4) (a6 : Int)).1 ((F25_x1 x2 u4_0 h4) (a6 : Int)).2) _
      exact pEnd_sound good (L := F25_L) (D := F25_D) (its := [.g, .g, (.ln y3.length), .g, .g, (.w .g), (.w .g), (.p true), (.b false)]) (ds := F25_m1_1) (ks := []) (e := ((F25_x1 x2 u4_0 h4) (a6 : Int)).1) (s2 := ((F25_x1 x2 u4_0 h4) (a6 : Int)).2) (hC := (And.intro c9 (And.intro c8 (And.intro (g_tt c8) (And.intro (g_tt c8) (And.intro (SlE.len (Heapy.sle (v := u4_0) (xs := y3) (enc := enc24) hp4 0 rfl (fun _ => rfl) (by decide))) trivial)))))) (hd := F25_d1) (h := by kernel_rfl)
  · intro hr
    obtain rfl := Option.some.inj hr
    show AWp Try.prog _ (Ends1 ((F25_x1 x2 u4_0 h4) (a6 : Int)).1 ((F25_x1 x2 u4_0 h4) (a6 : Int)).2) _
    exact pEnd_sound good (L := F25_L) (D := F25_D) (its := [.g, .g, (.ln y3.length), .g, .g, .n, .n, (.p false), (.b false)]) (ds := F25_m1_1) (ks := []) (e := ((F25_x1 x2 u4_0 h4) (a6 : Int)).1) (s2 := ((F25_x1 x2 u4_0 h4) (a6 : Int)).2) (hC := (And.intro l_f (And.intro c8 (And.intro (g_ft c8) (And.intro (g_ft c8) (And.intro (SlE.len (Heapy.sle (v := u4_0) (xs := y3) (enc := enc24) hp4 0 rfl (fun _ => rfl) (by decide))) trivial)))))) (hd := F25_d1) (h := by kernel_rfl)
theorem F25_l1_0 (h : AHeap) (x2 : Int) (y3 : (List (Int × Int))) (u4_0 : Hd) (h4 : AHeap) (hp4 : Heapy h h4 [⟨u4_0, 24, 2, List.flatMap enc24 y3⟩]) (x : Int × Int) (r : Int) (hl : loopO (fun (s : Int × Int) => F25_s1 x2 y3 s.1 s.2) x = some r) : AWp Try.prog (.loop (codeOf Try.prog 25 [1, 1, 1, 0, 1, 0, 0])) (Ends1 (.exit 0) (F25_x1_0 x2 u4_0 h4 r)) ((fun (s : Int × Int) => (F25_h1 x2 u4_0 h4 s.1 s.2)) x) := by
  have k := loop_fun (P := Try.prog) (c := (codeOf Try.prog 25 [1, 1, 1, 0, 1, 0, 0])) (step := (fun (s : Int × Int) => F25_s1 x2 y3 s.1 s.2)) (hd := (fun (s : Int × Int) => (F25_h1 x2 u4_0 h4 s.1 s.2))) (X := (F25_x1 x2 u4_0 h4)) (by intro t; unfold F25_x1; intro h; cases h) (fun x => F25_r1 h x2 y3 u4_0 h4 hp4 x.1 x.2) hl
  exact k
def F25_m2_1 : List Bool := [true, false, true, true, true, false, false, false, true, false, false, false, false, true, true, true, true, true, true, true, true, true, true, true, true, true, true, true, true, true, true, true, true, true, true, true, true, true, true, true, true, true, true, true, true, true, true, true, true, true, true, true, true, true, true, true, true, true, true, true, true, true, true, true, true, true, true, true, true, true, true, true, true, true, true, true, true, true, true, true, true, true, true, true, true, true, true, true, true, true, true, true]
def F25_m2_0 : List Bool := [true, false, true, true, true, false, false, false, true, false, false, false, true, true, true, true, true, true, true, true, true, true, true, true, true, true, true, true, true, true, true, true, true, true, true, true, true, true, true, true, true, true, true, true, true, true, true, true, true, true, true, true, true, true, true, true, true, true, true, true, true, true, true, true, true, true, true, true, true, true, true, true, true, true, true, true, true, true, true, true, true, true, true, true, true, true, true, true, true, true, true, true]
def F25_s2 (x2 : Int) (y3 : (List (Int × Int))) (a13 : Int) (a16 : Int) (a18 : Int) (a19 : Int) : Option ((Int × Int) ⊕ Int) :=
  (Option.bind (at? y3 a16) fun y20 =>
  (bif decide (a19 < y20.2) then
   (bif decide (x2 > 0) then
    (bif (((IntKind.i64.wrap (y20.1 + a19)).tmod x2) == a13) then
     some (.inr (IntKind.i64.wrap (a18 + 1)))
    else
     (bif ((IntKind.i64.wrap (y20.1 + a19)) == a13) then
      (bif (x2 == 0) then
       some (.inr (IntKind.i64.wrap (a18 + 1)))
      else
       some (.inl (a18, (IntKind.i64.wrap (a19 + 1)))))
     else
      some (.inl (a18, (IntKind.i64.wrap (a19 + 1))))))
   else
    (bif ((IntKind.i64.wrap (y20.1 + a19)) == a13) then
     (bif (x2 == 0) then
      some (.inr (IntKind.i64.wrap (a18 + 1)))
     else
      some (.inl (a18, (IntKind.i64.wrap (a19 + 1)))))
    else
     some (.inl (a18, (IntKind.i64.wrap (a19 + 1))))))
  else
   some (.inr a18)))
def F25_h2 (x2 : Int) (u4_0 : Hd) (h4 : AHeap) (y11 : Int) (a12 : Int) (a13 : Int) (a16 : Int)  (a18 : Int) (a19 : Int) : AS := ⟨[junk, .int .i64 x2, junk, junk, junk, (sv u4_0), .int .i64 a12, .int .i64 y11, junk, .int .i64 a13, .int .i64 a18, .int .i64 a16, .int .i64 a19, junk, junk, junk, junk, junk, junk, junk, junk, junk, junk, junk, junk, junk, junk, junk, junk, junk, junk, junk, junk, junk, junk, junk, junk, junk, junk, junk, junk, junk, junk, junk, junk, junk, junk, junk, junk, junk, junk, junk, junk, junk, junk, junk, junk, junk, junk, junk, junk, junk, junk, junk, junk, junk, junk, junk, junk, junk, junk, junk, junk, junk, junk, junk, junk, junk, junk, junk, junk, junk, junk, junk, junk, junk, junk, junk, junk, junk, junk, junk], [], h4⟩
theorem F25_d2 : drawsOk F25_D (codeOf Try.prog 25 [1, 1, 1, 1, 0, 1, 0, 0, 1, 0, 0, 1, 0, 1, 0, 0, 1, 0, 0, 1, 0, 0]) = true := by kernel_rfl
def F25_x2_0 (x2 : Int) (u4_0 : Hd) (h4 : AHeap) (y11 : Int) (a12 : Int) (a13 : Int) (a16 : Int)  (r : Int) : AS := ⟨[junk, .int .i64 x2, junk, junk, junk, (sv u4_0), .int .i64 a12, .int .i64 y11, junk, .int .i64 a13, .int .i64 r, .int .i64 a16, junk, junk, junk, junk, junk, junk, junk, junk, junk, junk, junk, junk, junk, junk, junk, junk, junk, junk, junk, junk, junk, junk, junk, junk, junk, junk, junk, junk, junk, junk, junk, junk, junk, junk, junk, junk, junk, junk, junk, junk, junk, junk, junk, junk, junk, junk, junk, junk, junk, junk, junk, junk, junk, junk, junk, junk, junk, junk, junk, junk, junk, junk, junk, junk, junk, junk, junk, junk, junk, junk, junk, junk, junk, junk, junk, junk, junk, junk, junk, junk], [], h4⟩
def F25_x2 (x2 : Int) (u4_0 : Hd) (h4 : AHeap) (y11 : Int) (a12 : Int) (a13 : Int) (a16 : Int) (r : Int) : Exit × AS := ((.exit 6), (F25_x2_0 x2 u4_0 h4 y11 a12 a13 a16 r))
set_option maxRecDepth 100000 in
theorem F25_r2 (h : AHeap) (x2 : Int) (y3 : (List (Int × Int))) (u4_0 : Hd) (h4 : AHeap) (hp4 : Heapy h h4 [⟨u4_0, 24, 2, List.flatMap enc24 y3⟩]) (y11 : Int) (a12 : Int) (a13 : Int) (a16 : Int) (a18 : Int) (a19 : Int) (o : (Int × Int) ⊕ Int) : F25_s2 x2 y3 a13 a16 a18 a19 = some o → RdF Try.prog (codeOf Try.prog 25 [1, 1, 1, 1, 0, 1, 0, 0, 1, 0, 0, 1, 0, 1, 0, 0, 1, 0, 0, 1, 0, 0]) (fun (s : Int × Int) => (F25_h2 x2 u4_0 h4 y11 a12 a13 a16 s.1 s.2)) (F25_x2 x2 u4_0 h4 y11 a12 a13 a16) (F25_h2 x2 u4_0 h4 y11 a12 a13 a16 a18 a19) o := by
  unfold F25_s2
  refine bind_opt fun y20 e20 => ?_
  obtain ⟨id20, off20, g20, cs20, ix20, at20, rfl⟩ := SlE.at (Heapy.sle (v := u4_0) (xs := y3) (enc := enc24) hp4 0 rfl (fun _ => rfl) (by decide)) e20
  refine dec_bif (fun c21 => ?_) (fun c21 => ?_)
  · refine dec_bif (fun c22 => ?_) (fun c22 => ?_)
    · refine dec_bif (fun c23 => ?_) (fun c23 => ?_)
      · intro hr
        obtain rfl := Option.some.inj hr
        show AWp Try.prog _ (Ends1 ((F25_x2 x2 u4_0 h4 y11 a12 a13 a16) ((IntKind.i64.wrap (a18 + 1)) : Int)).1 ((F25_x2 x2 u4_0 h4 y11 a12 a13 a16) ((IntKind.i64.wrap (a18 + 1)) : Int)).2) _
        exact pEnd_sound good (L := F25_L) (D := F25_D) (its := [.g, .g, .g, (.ix id20 off20 g20), .g, (.ld (.int .i64 y20.2)), .g, (.b true), .g, .g, (.ix id20 off20 g20), .g, (.ld (.int .i64 y20.1)), .g, .g, .g, .g, .g, .g, (.w .g), (.w .g), (.w .d), (.w .g), (.w .g), (.p true), .g, .n, .n, .n, .n, .n, .n, .n, (.p true), (.b true), .g, .g, .g]) (ds := F25_m2_0) (ks := []) (e := ((F25_x2 x2 u4_0 h4 y11 a12 a13 a16) ((IntKind.i64.wrap (a18 + 1)) : Int)).1) (s2 := ((F25_x2 x2 u4_0 h4 y11 a12 a13 a16) ((IntKind.i64.wrap (a18 + 1)) : Int)).2) (hC := (And.intro l_t (And.intro c23 (And.intro (g_tf c23) (And.intro l_f (And.intro l_f (And.intro (g_tf c23) (And.intro (g_tf c23) (And.intro (g_tf c23) (And.intro (g_tf c23) (And.intro c22 (And.intro (g_tt c22) (And.intro (g_tt c22) (And.intro (nz3 c22) (And.intro (g_tt c22) (And.intro (g_tt c22) (And.intro (g_tt c22) (And.intro (At.one (P := Try.prog) (t := 3) (v := .int .i64 y20.1) at20 (by kernel_rfl) 0 rfl rfl) (And.intro ix20 (And.intro c21 (And.intro (At.one (P := Try.prog) (t := 3) (v := .int .i64 y20.2) at20 (by kernel_rfl) 1 rfl rfl) (And.intro ix20 trivial)))))))))))))))))))))) (hd := F25_d2) (h := by kernel_rfl)
      · refine dec_bif (fun c24 => ?_) (fun c24 => ?_)
        · refine dec_bif (fun c25 => ?_) (fun c25 => ?_)
          · intro hr
            obtain rfl := Option.some.inj hr
            show AWp Try.prog _ (Ends1 ((F25_x2 x2 u4_0 h4 y11 a12 a13 a16) ((IntKind.i64.wrap (a18 + 1)) : Int)).1 ((F25_x2 x2 u4_0 h4 y11 a12 a13 a16) ((IntKind.i64.wrap (a18 + 1)) : Int)).2) _
            exact pEnd_sound good (L := F25_L) (D := F25_D) (its := [.g, .g, .g, (.ix id20 off20 g20), .g, (.ld (.int .i64 y20.2)), .g, (.b true), .g, .g, (.ix id20 off20 g20), .g, (.ld (.int .i64 y20.1)), .g, .g, .g, .g, .g, .g, (.w .g), (.w .g), (.w .d), (.w .g), (.w .g), (.p true), .g, (.w .g), (.w .g), (.w .g), (.w .g), (.w .g), (.w .g), (.w (.p true)), (.p false), (.b true), .g, .g, .g]) (ds := F25_m2_0) (ks := []) (e := ((F25_x2 x2 u4_0 h4 y11 a12 a13 a16) ((IntKind.i64.wrap (a18 + 1)) : Int)).1) (s2 := ((F25_x2 x2 u4_0 h4 y11 a12 a13 a16) ((IntKind.i64.wrap (a18 + 1)) : Int)).2) (hC := (And.intro c25 (And.intro c23 (And.intro c24 (And.intro (g_ff c23) (And.intro (g_tt c24) (And.intro (g_tt c24) (And.intro (g_ff c23) (And.intro (g_ff c23) (And.intro (g_ff c23) (And.intro (g_ff c23) (And.intro c22 (And.intro (g_tt c22) (And.intro (g_tt c22) (And.intro (nz3 c22) (And.intro (g_tt c22) (And.intro (g_tt c22) (And.intro (g_tt c22) (And.intro (At.one (P := Try.prog) (t := 3) (v := .int .i64 y20.1) at20 (by kernel_rfl) 0 rfl rfl) (And.intro ix20 (And.intro c21 (And.intro (At.one (P := Try.prog) (t := 3) (v := .int .i64 y20.2) at20 (by kernel_rfl) 1 rfl rfl) (And.intro ix20 trivial))))))))))))))))))))))) (hd := F25_d2) (h := by kernel_rfl)
          · intro hr
            obtain rfl := Option.some.inj hr
            show AWp Try.prog _ (Ends1 .normal (F25_h2 x2 u4_0 h4 y11 a12 a13 a16 a18 (IntKind.i64.wrap (a19 + 1)))) _
            exact pEnd_sound good (L := F25_L) (D := F25_D) (its := [.g, .g, .g, (.ix id20 off20 g20), .g, (.ld (.int .i64 y20.2)), .g, (.b true), .g, .g, (.ix id20 off20 g20), .g, (.ld (.int .i64 y20.1)), .g, .g, .g, .g, .g, .g, (.w .g), (.w .g), (.w .d), (.w .g), (.w .g), (.p true), .g, (.w .g), (.w .g), (.w .g), (.w .g), (.w .g), (.w .g), (.w (.p true)), (.p false), (.b false), .g, .g, .g]) (ds := F25_m2_1) (ks := []) (e := .normal) (s2 := (F25_h2 x2 u4_0 h4 y11 a12 a13 a16 a18 (IntKind.i64.wrap (a19 + 1)))) (hC := (And.intro c25 (And.intro c23 (And.intro c24 (And.intro (g_ff c23) (And.intro (g_tt c24) (And.intro (g_tt c24) (And.intro (g_ff c23) (And.intro (g_ff c23) (And.intro (g_ff c23) (And.intro (g_ff c23) (And.intro c22 (And.intro (g_tt c22) (And.intro (g_tt c22) (And.intro (nz3 c22) (And.intro (g_tt c22) (And.intro (g_tt c22) (And.intro (g_tt c22) (And.intro (At.one (P := Try.prog) (t := 3) (v := .int .i64 y20.1) at20 (by kernel_rfl) 0 rfl rfl) (And.intro ix20 (And.intro c21 (And.intro (At.one (P := Try.prog) (t := 3) (v := .int .i64 y20.2) at20 (by kernel_rfl) 1 rfl rfl) (And.intro ix20 trivial))))))))))))))))))))))) (hd := F25_d2) (h := by kernel_rfl)
        · intro hr
          obtain rfl := Option.some.inj hr
          show AWp Try.prog _ (Ends1 .normal (F25_h2 x2 u4_0 h4 y11 a12 a13 a16 a18 (IntKind.i64.wrap (a19 + 1)))) _
          exact pEnd_sound good (L := F25_L) (D := F25_D) (its := [.g, .g, .g, (.ix id20 off20 g20), .g, (.ld (.int .i64 y20.2)), .g, (.b true), .g, .g, (.ix id20 off20 g20), .g, (.ld (.int .i64 y20.1)), .g, .g, .g, .g, .g, .g, (.w .g), (.w .g), (.w .d), (.w .g), (.w .g), (.p true), .g, (.w .g), (.w .g), (.w .g), (.w .g), .n, .n, (.w (.p false)), (.p false), (.b false), .g, .g, .g]) (ds := F25_m2_1) (ks := []) (e := .normal) (s2 := (F25_h2 x2 u4_0 h4 y11 a12 a13 a16 a18 (IntKind.i64.wrap (a19 + 1)))) (hC := (And.intro l_f (And.intro c23 (And.intro c24 (And.intro (g_ff c23) (And.intro (g_ft c24) (And.intro (g_ft c24) (And.intro (g_ff c23) (And.intro (g_ff c23) (And.intro (g_ff c23) (And.intro (g_ff c23) (And.intro c22 (And.intro (g_tt c22) (And.intro (g_tt c22) (And.intro (nz3 c22) (And.intro (g_tt c22) (And.intro (g_tt c22) (And.intro (g_tt c22) (And.intro (At.one (P := Try.prog) (t := 3) (v := .int .i64 y20.1) at20 (by kernel_rfl) 0 rfl rfl) (And.intro ix20 (And.intro c21 (And.intro (At.one (P := Try.prog) (t := 3) (v := .int .i64 y20.2) at20 (by kernel_rfl) 1 rfl rfl) (And.intro ix20 trivial))))))))))))))))))))))) (hd := F25_d2) (h := by kernel_rfl)
    · refine dec_bif (fun c26 => ?_) (fun c26 => ?_)
      · refine dec_bif (fun c27 => ?_) (fun c27 => ?_)
        · intro hr
          obtain rfl := Option.some.inj hr
          show AWp Try.prog _ (Ends1 ((F25_x2 x2 u4_0 h4 y11 a12 a13 a16) ((IntKind.i64.wrap (a18 + 1)) : Int)).1 ((F25_x2 x2 u4_0 h4 y11 a12 a13 a16) ((IntKind.i64.wrap (a18 + 1)) : Int)).2) _
          exact pEnd_sound good (L := F25_L) (D := F25_D) (its := [.g, .g, .g, (.ix id20 off20 g20), .g, (.ld (.int .i64 y20.2)), .g, (.b true), .g, .g, (.ix id20 off20 g20), .g, (.ld (.int .i64 y20.1)), .g, .g, .g, .g, .g, .g, .n, .n, .n, .n, .n, (.p false), .g, (.w .g), (.w .g), (.w .g), (.w .g), (.w .g), (.w .g), (.w (.p true)), .g, (.b true), .g, .g, .g]) (ds := F25_m2_0) (ks := []) (e := ((F25_x2 x2 u4_0 h4 y11 a12 a13 a16) ((IntKind.i64.wrap (a18 + 1)) : Int)).1) (s2 := ((F25_x2 x2 u4_0 h4 y11 a12 a13 a16) ((IntKind.i64.wrap (a18 + 1)) : Int)).2) (hC := (And.intro c27 (And.intro c26 (And.intro (g_ff l_f) (And.intro (g_tt c26) (And.intro (g_tt c26) (And.intro (g_ff l_f) (And.intro (g_ff l_f) (And.intro (g_ff l_f) (And.intro (g_ff l_f) (And.intro c22 (And.intro (g_ft c22) (And.intro (g_ft c22) (And.intro (g_ft c22) (And.intro (g_ft c22) (And.intro (g_ft c22) (And.intro (At.one (P := Try.prog) (t := 3) (v := .int .i64 y20.1) at20 (by kernel_rfl) 0 rfl rfl) (And.intro ix20 (And.intro c21 (And.intro (At.one (P := Try.prog) (t := 3) (v := .int .i64 y20.2) at20 (by kernel_rfl) 1 rfl rfl) (And.intro ix20 trivial))))))))))))))))))))) (hd := F25_d2) (h := by kernel_rfl)
        · intro hr
          obtain rfl := Option.some.inj hr
          show AWp Try.prog _ (Ends1 .normal (F25_h2 x2 u4_0 h4 y11 a12 a13 a16 a18 (IntKind.i64.wrap (a19 + 1)))) _
          exact pEnd_sound good (L := F25_L) (D := F25_D) (its := [.g, .g, .g, (.ix id20 off20 g20), .g, (.ld (.int .i64 y20.2)), .g, (.b true), .g, .g, (.ix id20 off20 g20), .g, (.ld (.int .i64 y20.1)), .g, .g, .g, .g, .g, .g, .n, .n, .n, .n, .n, (.p false), .g, (.w .g), (.w .g), (.w .g), (.w .g), (.w .g), (.w .g), (.w (.p true)), .g, (.b false), .g, .g, .g]) (ds := F25_m2_1) (ks := []) (e := .normal) (s2 := (F25_h2 x2 u4_0 h4 y11 a12 a13 a16 a18 (IntKind.i64.wrap (a19 + 1)))) (hC := (And.intro c27 (And.intro c26 (And.intro (g_ff l_f) (And.intro (g_tt c26) (And.intro (g_tt c26) (And.intro (g_ff l_f) (And.intro (g_ff l_f) (And.intro (g_ff l_f) (And.intro (g_ff l_f) (And.intro c22 (And.intro (g_ft c22) (And.intro (g_ft c22) (And.intro (g_ft c22) (And.intro (g_ft c22) (And.intro (g_ft c22) (And.intro (At.one (P := Try.prog) (t := 3) (v := .int .i64 y20.1) at20 (by kernel_rfl) 0 rfl rfl) (And.intro ix20 (And.intro c21 (And.intro (At.one (P := Try.prog) (t := 3) (v := .int .i64 y20.2) at20 (by kernel_rfl) 1 rfl rfl) (And.intro ix20 trivial))))))))))))))))))))) (hd := F25_d2) (h := by kernel_rfl)
      · intro hr
        obtain rfl := Option.some.inj hr
        show AWp Try.prog _ (Ends1 .normal (F25_h2 x2 u4_0 h4 y11 a12 a13 a16 a18 (IntKind.i64.wrap (a19 + 1)))) _
        exact pEnd_sound good (L := F25_L) (D := F25_D) (its := [.g, .g, .g, (.ix id20 off20 g20), .g, (.ld (.int .i64 y20.2)), .g, (.b true), .g, .g, (.ix id20 off20 g20), .g, (.ld (.int .i64 y20.1)), .g, .g, .g, .g, .g, .g, .n, .n, .n, .n, .n, (.p false), .g, (.w .g), (.w .g), (.w .g), (.w .g), .n, .n, (.w (.p false)), .g, (.b false), .g, .g, .g]) (ds := F25_m2_1) (ks := []) (e := .normal) (s2 := (F25_h2 x2 u4_0 h4 y11 a12 a13 a16 a18 (IntKind.i64.wrap (a19 + 1)))) (hC := (And.intro l_f (And.intro c26 (And.intro (g_ff l_f) (And.intro (g_ft c26) (And.intro (g_ft c26) (And.intro (g_ff l_f) (And.intro (g_ff l_f) (And.intro (g_ff l_f) (And.intro (g_ff l_f) (And.intro c22 (And.intro (g_ft c22) (And.intro (g_ft c22) (And.intro (g_ft c22) (And.intro (g_ft c22) (And.intro (g_ft c22) (And.intro (At.one (P := Try.prog) (t := 3) (v := .int .i64 y20.1) at20 (by kernel_rfl) 0 rfl rfl) (And.intro ix20 (And.intro c21 (And.intro (At.one (P := Try.prog) (t := 3) (v := .int .i64 y20.2) at20 (by kernel_rfl) 1 rfl rfl) (And.intro ix20 trivial))))))))))))))))))))) (hd := F25_d2) (h := by kernel_rfl)
  · intro hr
    obtain rfl := Option.some.inj hr
    show AWp Try.prog _ (Ends1 ((F25_x2 x2 u4_0 h4 y11 a12 a13 a16) (a18 : Int)).1 ((F25_x2 x2 u4_0 h4 y11 a12 a13 a16) (a18 : Int)).2) _
    exact pEnd_sound good (L := F25_L) (D := F25_D) (its := [.g, .g, .g, (.ix id20 off20 g20), .g, (.ld (.int .i64 y20.2)), .g, (.b false)]) (ds := F25_m2_0) (ks := []) (e := ((F25_x2 x2 u4_0 h4 y11 a12 a13 a16) (a18 : Int)).1) (s2 := ((F25_x2 x2 u4_0 h4 y11 a12 a13 a16) (a18 : Int)).2) (hC := (And.intro c21 (And.intro (At.one (P := Try.prog) (t := 3) (v := .int .i64 y20.2) at20 (by kernel_rfl) 1 rfl rfl) (And.intro ix20 trivial)))) (hd := F25_d2) (h := by kernel_rfl)
theorem F25_l2_0 (h : AHeap) (x2 : Int) (y3 : (List (Int × Int))) (u4_0 : Hd) (h4 : AHeap) (hp4 : Heapy h h4 [⟨u4_0, 24, 2, List.flatMap enc24 y3⟩]) (y11 : Int) (a12 : Int) (a13 : Int) (a16 : Int) (x : Int × Int) (r : Int) (hl : loopO (fun (s : Int × Int) => F25_s2 x2 y3 a13 a16 s.1 s.2) x = some r) : AWp Try.prog (.loop (codeOf Try.prog 25 [1, 1, 1, 1, 0, 1, 0, 0, 1, 0, 0, 1, 0, 1, 0, 0, 1, 0, 0, 1, 0, 0])) (Ends1 (.exit 6) (F25_x2_0 x2 u4_0 h4 y11 a12 a13 a16 r)) ((fun (s : Int × Int) => (F25_h2 x2 u4_0 h4 y11 a12 a13 a16 s.1 s.2)) x) := by
  have k := loop_fun (P := Try.prog) (c := (codeOf Try.prog 25 [1, 1, 1, 1, 0, 1, 0, 0, 1, 0, 0, 1, 0, 1, 0, 0, 1, 0, 0, 1, 0, 0])) (step := (fun (s : Int × Int) => F25_s2 x2 y3 a13 a16 s.1 s.2)) (hd := (fun (s : Int × Int) => (F25_h2 x2 u4_0 h4 y11 a12 a13 a16 s.1 s.2))) (X := (F25_x2 x2 u4_0 h4 y11 a12 a13 a16)) (by intro t; unfold F25_x2; intro h; cases h) (fun x => F25_r2 h x2 y3 u4_0 h4 hp4 y11 a12 a13 a16 x.1 x.2) hl
  exact k
def F25_m3_1 : List Bool := [true, false, true, true, true, false, false, false, true, false, false, true, true, true, true, true, true, true, true, true, true, true, true, true, true, true, true, true, true, true, true, true, true, true, true, true, true, true, true, true, true, true, true, true, true, true, true, true, true, true, true, true, true, true, true, true, true, true, true, true, true, true, true, true, true, true, true, true, true, true, true, true, true, true, true, true, true, true, true, true, true, true, true, true, true, true, true, true, true, true, true, true]
def F25_m3_0 : List Bool := [true, false, true, true, true, false, false, false, true, false, false, false, true, true, true, true, true, true, true, true, true, true, true, true, true, true, true, true, true, true, true, true, true, true, true, true, true, true, true, true, true, true, true, true, true, true, true, true, true, true, true, true, true, true, true, true, true, true, true, true, true, true, true, true, true, true, true, true, true, true, true, true, true, true, true, true, true, true, true, true, true, true, true, true, true, true, true, true, true, true, true, true]
def F25_s3 (x2 : Int) (y3 : (List (Int × Int))) (a13 : Int) (a15 : Int) (a16 : Int) : Option ((Int × Int) ⊕ Int) :=
  (bif decide (a16 < (y3.length : Int)) then
   (Option.bind (loopO (fun (s : Int × Int) => F25_s2 x2 y3 a13 a16 s.1 s.2) (a15, 0)) fun y28 =>
   some (.inl (y28, (IntKind.i64.wrap (a16 + 1)))))
  else
   some (.inr a15))
def F25_h3 (x2 : Int) (u4_0 : Hd) (h4 : AHeap) (y11 : Int) (a12 : Int) (a13 : Int)  (a15 : Int) (a16 : Int) : AS := ⟨[junk, .int .i64 x2, junk, junk, junk, (sv u4_0), .int .i64 a12, .int .i64 y11, junk, .int .i64 a13, .int .i64 a15, .int .i64 a16, junk, junk, junk, junk, junk, junk, junk, junk, junk, junk, junk, junk, junk, junk, junk, junk, junk, junk, junk, junk, junk, junk, junk, junk, junk, junk, junk, junk, junk, junk, junk, junk, junk, junk, junk, junk, junk, junk, junk, junk, junk, junk, junk, junk, junk, junk, junk, junk, junk, junk, junk, junk, junk, junk, junk, junk, junk, junk, junk, junk, junk, junk, junk, junk, junk, junk, junk, junk, junk, junk, junk, junk, junk, junk, junk, junk, junk, junk, junk, junk], [], h4⟩
theorem F25_d3 : drawsOk F25_D (codeOf Try.prog 25 [1, 1, 1, 1, 0, 1, 0, 0, 1, 0, 0, 1, 0, 1, 0, 0]) = true := by kernel_rfl
def F25_x3_0 (x2 : Int) (u4_0 : Hd) (h4 : AHeap) (y11 : Int) (a12 : Int) (a13 : Int)  (r : Int) : AS := ⟨[junk, .int .i64 x2, junk, junk, junk, (sv u4_0), .int .i64 a12, .int .i64 y11, junk, .int .i64 a13, .int .i64 r, junk, junk, junk, junk, junk, junk, junk, junk, junk, junk, junk, junk, junk, junk, junk, junk, junk, junk, junk, junk, junk, junk, junk, junk, junk, junk, junk, junk, junk, junk, junk, junk, junk, junk, junk, junk, junk, junk, junk, junk, junk, junk, junk, junk, junk, junk, junk, junk, junk, junk, junk, junk, junk, junk, junk, junk, junk, junk, junk, junk, junk, junk, junk, junk, junk, junk, junk, junk, junk, junk, junk, junk, junk, junk, junk, junk, junk, junk, junk, junk, junk], [], h4⟩
def F25_x3 (x2 : Int) (u4_0 : Hd) (h4 : AHeap) (y11 : Int) (a12 : Int) (a13 : Int) (r : Int) : Exit × AS := ((.exit 4), (F25_x3_0 x2 u4_0 h4 y11 a12 a13 r))
set_option maxRecDepth 100000 in
theorem F25_r3 (h : AHeap) (x2 : Int) (y3 : (List (Int × Int))) (u4_0 : Hd) (h4 : AHeap) (hp4 : Heapy h h4 [⟨u4_0, 24, 2, List.flatMap enc24 y3⟩]) (y11 : Int) (a12 : Int) (a13 : Int) (a15 : Int) (a16 : Int) (o : (Int × Int) ⊕ Int) : F25_s3 x2 y3 a13 a15 a16 = some o → RdF Try.prog (codeOf Try.prog 25 [1, 1, 1, 1, 0, 1, 0, 0, 1, 0, 0, 1, 0, 1, 0, 0]) (fun (s : Int × Int) => (F25_h3 x2 u4_0 h4 y11 a12 a13 s.1 s.2)) (F25_x3 x2 u4_0 h4 y11 a12 a13) (F25_h3 x2 u4_0 h4 y11 a12 a13 a15 a16) o := by
  unfold F25_s3
  refine dec_bif (fun c17 => ?_) (fun c17 => ?_)
  · refine bind_opt fun y28 e28 => ?_
    intro hr
    obtain rfl := Option.some.inj hr
    show AWp Try.prog _ (Ends1 .normal (F25_h3 x2 u4_0 h4 y11 a12 a13 y28 (IntKind.i64.wrap (a16 + 1)))) _
    exact pEnd_sound good (L := F25_L) (D := F25_D) (its := [.g, .g, (.ln y3.length), .g, (.b true), .g, (.l F25_m2_1 [] (.exit 6) (F25_x2_0 x2 u4_0 h4 y11 a12 a13 a16 y28)), .g, .g, .g]) (ds := F25_m3_0) (ks := []) (e := .normal) (s2 := (F25_h3 x2 u4_0 h4 y11 a12 a13 y28 (IntKind.i64.wrap (a16 + 1)))) (hC := (And.intro (F25_l2_0 h x2 y3 u4_0 h4 hp4 y11 a12 a13 a16 (a15, 0) y28 e28) (And.intro c17 (And.intro (SlE.len (Heapy.sle (v := u4_0) (xs := y3) (enc := enc24) hp4 0 rfl (fun _ => rfl) (by decide))) trivial)))) (hd := F25_d3) (h := by kernel_rfl)
  · intro hr
    obtain rfl := Option.some.inj hr
    show AWp Try.prog _ (Ends1 ((F25_x3 x2 u4_0 h4 y11 a12 a13) (a15 : Int)).1 ((F25_x3 x2 u4_0 h4 y11 a12 a13) (a15 : Int)).2) _
    exact pEnd_sound good (L := F25_L) (D := F25_D) (its := [.g, .g, (.ln y3.length), .g, (.b false)]) (ds := F25_m3_1) (ks := []) (e := ((F25_x3 x2 u4_0 h4 y11 a12 a13) (a15 : Int)).1) (s2 := ((F25_x3 x2 u4_0 h4 y11 a12 a13) (a15 : Int)).2) (hC := (And.intro c17 (And.intro (SlE.len (Heapy.sle (v := u4_0) (xs := y3) (enc := enc24) hp4 0 rfl (fun _ => rfl) (by decide))) trivial))) (hd := F25_d3) (h := by kernel_rfl)
theorem F25_l3_0 (h : AHeap) (x2 : Int) (y3 : (List (Int × Int))) (u4_0 : Hd) (h4 : AHeap) (hp4 : Heapy h h4 [⟨u4_0, 24, 2, List.flatMap enc24 y3⟩]) (y11 : Int) (a12 : Int) (a13 : Int) (x : Int × Int) (r : Int) (hl : loopO (fun (s : Int × Int) => F25_s3 x2 y3 a13 s.1 s.2) x = some r) : AWp Try.prog (.loop (codeOf Try.prog 25 [1, 1, 1, 1, 0, 1, 0, 0, 1, 0, 0, 1, 0, 1, 0, 0])) (Ends1 (.exit 4) (F25_x3_0 x2 u4_0 h4 y11 a12 a13 r)) ((fun (s : Int × Int) => (F25_h3 x2 u4_0 h4 y11 a12 a13 s.1 s.2)) x) := by
  have k := loop_fun (P := Try.prog) (c := (codeOf Try.prog 25 [1, 1, 1, 1, 0, 1, 0, 0, 1, 0, 0, 1, 0, 1, 0, 0])) (step := (fun (s : Int × Int) => F25_s3 x2 y3 a13 s.1 s.2)) (hd := (fun (s : Int × Int) => (F25_h3 x2 u4_0 h4 y11 a12 a13 s.1 s.2))) (X := (F25_x3 x2 u4_0 h4 y11 a12 a13)) (by intro t; unfold F25_x3; intro h; cases h) (fun x => F25_r3 h x2 y3 u4_0 h4 hp4 y11 a12 a13 x.1 x.2) hl
  exact k
def F25_m4_1 : List Bool := [true, true, true, true, true, true, false, true, true, true, true, true, true, true, true, true, true, true, true, true, true, true, true, true, true, true, true, true, true, true, true, true, true, true, true, true, true, true, true, true, true, true, true, true, true, true, true, true, true, true, true, true, true, true, true, true, true, true, true, true, true, true, true, true, true, true, true, true, true, true, true, true, true, true, true, true, true, true, true, true, true, true, true, true, true, true, true, true, true, true, true, true]
def F25_m4_0 : List Bool := [true, false, true, true, true, false, false, false, true, false, true, true, true, true, true, true, true, true, true, true, true, true, true, true, true, true, true, true, true, true, true, true, true, true, true, true, true, true, true, true, true, true, true, true, true, true, true, true, true, true, true, true, true, true, true, true, true, true, true, true, true, true, true, true, true, true, true, true, true, true, true, true, true, true, true, true, true, true, true, true, true, true, true, true, true, true, true, true, true, true, true, true]
def F25_s4 (x2 : Int) (y3 : (List (Int × Int))) (y11 : Int) (a12 : Int) (a13 : Int) : Option ((Int × Int) ⊕ Int) :=
  (bif decide (a13 < y11) then
   (Option.bind (loopO (fun (s : Int × Int) => F25_s3 x2 y3 a13 s.1 s.2) (0, 0)) fun y29 =>
   some (.inl ((if y29 > a12 then y29 else a12), (IntKind.i64.wrap (a13 + 1)))))
  else
   some (.inr a12))
def F25_h4 (x2 : Int) (u4_0 : Hd) (h4 : AHeap) (y11 : Int)  (a12 : Int) (a13 : Int) : AS := ⟨[junk, .int .i64 x2, junk, junk, junk, (sv u4_0), .int .i64 a12, .int .i64 y11, junk, .int .i64 a13, junk, junk, junk, junk, junk, junk, junk, junk, junk, junk, junk, junk, junk, junk, junk, junk, junk, junk, junk, junk, junk, junk, junk, junk, junk, junk, junk, junk, junk, junk, junk, junk, junk, junk, junk, junk, junk, junk, junk, junk, junk, junk, junk, junk, junk, junk, junk, junk, junk, junk, junk, junk, junk, junk, junk, junk, junk, junk, junk, junk, junk, junk, junk, junk, junk, junk, junk, junk, junk, junk, junk, junk, junk, junk, junk, junk, junk, junk, junk, junk, junk, junk], [], h4⟩
theorem F25_d4 : drawsOk F25_D (codeOf Try.prog 25 [1, 1, 1, 1, 0, 1, 0, 0]) = true := by kernel_rfl
def F25_x4_0 (h4 : AHeap)  (r : Int) : AS := ⟨[junk, junk, junk, junk, junk, junk, .int .i64 r, junk, junk, junk, junk, junk, junk, junk, junk, junk, junk, junk, junk, junk, junk, junk, junk, junk, junk, junk, junk, junk, junk, junk, junk, junk, junk, junk, junk, junk, junk, junk, junk, junk, junk, junk, junk, junk, junk, junk, junk, junk, junk, junk, junk, junk, junk, junk, junk, junk, junk, junk, junk, junk, junk, junk, junk, junk, junk, junk, junk, junk, junk, junk, junk, junk, junk, junk, junk, junk, junk, junk, junk, junk, junk, junk, junk, junk, junk, junk, junk, junk, junk, junk, junk, junk], [], h4⟩
def F25_x4 (h4 : AHeap) (r : Int) : Exit × AS := ((.exit 2), (F25_x4_0 h4 r))
set_option maxRecDepth 100000 in
theorem F25_r4 (h : AHeap) (x2 : Int) (y3 : (List (Int × Int))) (u4_0 : Hd) (h4 : AHeap) (hp4 : Heapy h h4 [⟨u4_0, 24, 2, List.flatMap enc24 y3⟩]) (y11 : Int) (a12 : Int) (a13 : Int) (o : (Int × Int) ⊕ Int) : F25_s4 x2 y3 y11 a12 a13 = some o → RdF Try.prog (codeOf Try.prog 25 [1, 1, 1, 1, 0, 1, 0, 0]) (fun (s : Int × Int) => (F25_h4 x2 u4_0 h4 y11 s.1 s.2)) (F25_x4 h4) (F25_h4 x2 u4_0 h4 y11 a12 a13) o := by
  unfold F25_s4
  refine dec_bif (fun c14 => ?_) (fun c14 => ?_)
  · refine bind_opt fun y29 e29 => ?_
    intro hr
    obtain rfl := Option.some.inj hr
    show AWp Try.prog _ (Ends1 .normal (F25_h4 x2 u4_0 h4 y11 (if y29 > a12 then y29 else a12) (IntKind.i64.wrap (a13 + 1)))) _
    exact pEnd_sound good (L := F25_L) (D := F25_D) (its := [.g, .g, .g, (.b true), .g, .g, (.l F25_m3_0 [] (.exit 4) (F25_x3_0 x2 u4_0 h4 y11 a12 a13 y29)), .g, .g, .g, .g, .g, .g, .g]) (ds := F25_m4_0) (ks := []) (e := .normal) (s2 := (F25_h4 x2 u4_0 h4 y11 (if y29 > a12 then y29 else a12) (IntKind.i64.wrap (a13 + 1)))) (hC := (And.intro (F25_l3_0 h x2 y3 u4_0 h4 hp4 y11 a12 a13 (0, 0) y29 e29) (And.intro c14 trivial))) (hd := F25_d4) (h := by kernel_rfl)
  · intro hr
    obtain rfl := Option.some.inj hr
    show AWp Try.prog _ (Ends1 ((F25_x4 h4) (a12 : Int)).1 ((F25_x4 h4) (a12 : Int)).2) _
    exact pEnd_sound good (L := F25_L) (D := F25_D) (its := [.g, .g, .g, (.b false)]) (ds := F25_m4_1) (ks := []) (e := ((F25_x4 h4) (a12 : Int)).1) (s2 := ((F25_x4 h4) (a12 : Int)).2) (hC := (And.intro c14 trivial)) (hd := F25_d4) (h := by kernel_rfl)
theorem F25_l4_0 (h : AHeap) (x2 : Int) (y3 : (List (Int × Int))) (u4_0 : Hd) (h4 : AHeap) (hp4 : Heapy h h4 [⟨u4_0, 24, 2, List.flatMap enc24 y3⟩]) (y11 : Int) (x : Int × Int) (r : Int) (hl : loopO (fun (s : Int × Int) => F25_s4 x2 y3 y11 s.1 s.2) x = some r) : AWp Try.prog (.loop (codeOf Try.prog 25 [1, 1, 1, 1, 0, 1, 0, 0])) (Ends1 (.exit 2) (F25_x4_0 h4 r)) ((fun (s : Int × Int) => (F25_h4 x2 u4_0 h4 y11 s.1 s.2)) x) := by
  have k := loop_fun (P := Try.prog) (c := (codeOf Try.prog 25 [1, 1, 1, 1, 0, 1, 0, 0])) (step := (fun (s : Int × Int) => F25_s4 x2 y3 y11 s.1 s.2)) (hd := (fun (s : Int × Int) => (F25_h4 x2 u4_0 h4 y11 s.1 s.2))) (X := (F25_x4 h4)) (by intro t; unfold F25_x4; intro h; cases h) (fun x => F25_r4 h x2 y3 u4_0 h4 hp4 y11 x.1 x.2) hl
  exact k
def F25 (l1 : List (Int × Int × Int)) (x2 : Int) : Option (Int) :=
  (Option.bind (F24 l1 x2) fun y3 =>
  (Option.bind (loopO (fun (s : Int × Int) => F25_s1 x2 y3 s.1 s.2) (x2, 0)) fun y11 =>
  (Option.bind (loopO (fun (s : Int × Int) => F25_s4 x2 y3 y11 s.1 s.2) (0, 0)) fun y30 =>
  some (y30))))
set_option maxRecDepth 100000 in
theorem F25_spec (l1 : List (Int × Int × Int)) (x2 : Int) (v1 : Hd) (h : AHeap) (hw : h.wf) (hv1 : SlE E44 3 h (sv v1) l1) (r : Int) : F25 l1 x2 = some r → ∃ (h' : AHeap), Heapy h h' [] ∧ ACalls Try.prog 25 [(sv v1), .int .i64 x2] h (fun v' h'' => v' = (.int .i64 r : Value) ∧ h'' = h') := by
  unfold F25
  refine bind_opt fun y3 e3 => ?_
  obtain ⟨u4_0, h4, q4, c4⟩ := F24_spec l1 x2 v1 h hw hv1 _ e3
  have hp4 : Heapy h h4 [⟨u4_0, 24, 2, List.flatMap enc24 y3⟩] := Heapy.call (Heapy.refl hw) q4
  refine bind_opt fun y11 e11 => ?_
  refine bind_opt fun y30 e30 => ?_
  intro hr
  obtain rfl := Option.some.inj hr
  exact ⟨h4, Heapy.pick hp4 [] (by decide), pFun_sound good tab_ok (f := 25) (its := [.g, .g, .g, (.c ((sv u4_0)) h4), .g, .g, .g, .g, .g, (.l F25_m1_0 [] (.exit 0) (F25_x1_0 x2 u4_0 h4 y11)), .g, (.l F25_m4_0 [] (.exit 2) (F25_x4_0 h4 y30)), .g, .g]) (args := [(sv v1), .int .i64 x2]) (h := h) (h' := h4) (v := .int .i64 y30) (hC := (And.intro (F25_l4_0 h x2 y3 u4_0 h4 hp4 y11 (0, 0) y30 e30) (And.intro (F25_l1_0 h x2 y3 u4_0 h4 hp4 (x2, 0) y11 e11) (And.intro c4 trivial)))) (hr := by kernel_rfl)⟩
/-! 8 jacquard/jacquardlaw37.LifetimeSpans -/
def F8_L : List Nat := []
def F8_D : List (Nat × List (Nat × Nat)) := [(7, [(0, 2), (1, 2), (2, 2), (3, 2), (4, 2), (6, 2), (7, 2), (8, 2), (10, 2), (9, 5), (5, 1), (11, 1), (12, 2)]), (16, [(0, 2), (1, 2), (2, 2), (3, 2), (4, 2), (5, 2), (6, 2), (7, 2), (8, 2), (9, 2), (10, 2), (11, 2), (12, 2), (13, 2), (14, 2), (15, 2), (16, 2), (17, 2), (18, 2), (19, 2), (20, 2), (21, 2)])]
def F8_m1_2 : List Bool := [true, true, true, true, true, false, false, true, true, true, true, true, true, true, true, true, true, true, true, true, true, true, true, true, true, true, true, true, true, true, true, true, true, true, true, true, true, true, true, true, true, true, true, true, true, true, true, true, true, true, true, true, true, true, true, true, true, true, true, true, true, true, true, true, true, true, true, true, true, true, true, true, true, true, true, true, true, true, true, true, true, true, true, true, true, true, true, true, true]
def F8_m1_1 : List Bool := [true, true, true, true, true, false, false, true, true, true, true, true, true, true, true, true, true, true, true, true, true, true, true, true, true, false, false, true, true, true, true, true, true, true, true, true, true, true, true, true, true, true, true, true, true, true, true, true, true, true, true, true, true, true, true, true, true, true, true, true, true, true, true, true, true, true, true, true, true, true, true, true, true, true, true, true, true, true, true, true, true, true, true, true, true, true, true, true, true]
def F8_m1_0 : List Bool := [true, true, true, true, false, true, true, true, true, true, true, true, true, true, true, true, true, true, true, true, true, true, true, true, true, true, true, true, true, true, true, true, true, true, true, true, true, true, true, true, true, true, true, true, true, true, true, true, true, true, true, true, true, true, true, true, true, true, true, true, true, true, true, true, true, true, true, true, true, true, true, true, true, true, true, true, true, true, true, true, true, true, true, true, true, true, true, true, true]
def F8_s1 (x2 : Int) (y6 : (List (Int × Int × Int))) (a9 : Int) : Option (Int ⊕ Nat) :=
  (bif decide (a9 < (y6.length : Int)) then
   (Option.bind (at? y6 a9) fun y11 =>
   (Option.bind (F22 y11.1 y11.2.1 y11.2.2 (IntKind.i64.wrap ((x2.tmod 21)))) fun y13 =>
   (bif ((F21 y11.1 y11.2.1 y11.2.2 (IntKind.i64.wrap ((x2.tmod 21)))) != y13) then
    some (.inr 0)
   else
    some (.inl (IntKind.i64.wrap (a9 + 1))))))
  else
   some (.inr 1))
def F8_h1 (x2 : Int) (y6 : (List (Int × Int × Int))) (u7_0 : Hd) (h7 : AHeap)  (a9 : Int) : AS := ⟨[junk, junk, junk, junk, junk, (sv u7_0), .int .i64 (IntKind.i64.wrap ((x2.tmod 21))), junk, junk, junk, junk, junk, junk, junk, junk, junk, junk, junk, junk, junk, junk, junk, junk, junk, junk, .int .i64 (y6.length : Int), .int .i64 a9, junk, junk, junk, junk, junk, junk, junk, junk, junk, junk, junk, junk, junk, junk, junk, junk, junk, junk, junk, junk, junk, junk, junk, junk, junk, junk, junk, junk, junk, junk, junk, junk, junk, junk, junk, junk, junk, junk, junk, junk, junk, junk, junk, junk, junk, junk, junk, junk, junk, junk, junk, junk, junk, junk, junk, junk, junk, junk, junk, junk, junk, junk], [], h7⟩
theorem F8_d1 : drawsOk F8_D (codeOf Try.prog 8 [1, 1, 1, 0, 1, 0, 0]) = true := by kernel_rfl
def F8_x1_0 (x2 : Int) (u7_0 : Hd) (h7 : AHeap)  (r : Nat) : AS := ⟨[junk, junk, junk, junk, .bool false, junk, junk, junk, junk, junk, junk, junk, junk, junk, junk, junk, junk, junk, junk, junk, junk, junk, junk, junk, junk, junk, junk, junk, junk, junk, junk, junk, junk, junk, junk, junk, junk, junk, junk, junk, junk, junk, junk, junk, junk, junk, junk, junk, junk, junk, junk, junk, junk, junk, junk, junk, junk, junk, junk, junk, junk, junk, junk, junk, junk, junk, junk, junk, junk, junk, junk, junk, junk, junk, junk, junk, junk, junk, junk, junk, junk, junk, junk, junk, junk, junk, junk, junk, junk], [], h7⟩
def F8_x1_1 (x2 : Int) (u7_0 : Hd) (h7 : AHeap)  (r : Nat) : AS := ⟨[junk, junk, junk, junk, junk, (sv u7_0), .int .i64 (IntKind.i64.wrap ((x2.tmod 21))), junk, junk, junk, junk, junk, junk, junk, junk, junk, junk, junk, junk, junk, junk, junk, junk, junk, junk, junk, junk, junk, junk, junk, junk, junk, junk, junk, junk, junk, junk, junk, junk, junk, junk, junk, junk, junk, junk, junk, junk, junk, junk, junk, junk, junk, junk, junk, junk, junk, junk, junk, junk, junk, junk, junk, junk, junk, junk, junk, junk, junk, junk, junk, junk, junk, junk, junk, junk, junk, junk, junk, junk, junk, junk, junk, junk, junk, junk, junk, junk, junk, junk], [], h7⟩
def F8_x1 (x2 : Int) (u7_0 : Hd) (h7 : AHeap) (r : Nat) : Exit × AS := (bif Nat.beq r 0 then (.ret, (F8_x1_0 x2 u7_0 h7 r)) else ((.exit 0), (F8_x1_1 x2 u7_0 h7 r)))
set_option maxRecDepth 100000 in
theorem F8_r1 (h : AHeap) (x2 : Int) (y6 : (List (Int × Int × Int))) (u7_0 : Hd) (h7 : AHeap) (hp7 : Heapy h h7 [⟨u7_0, 44, 3, List.flatMap enc44 y6⟩]) (a9 : Int) (o : Int ⊕ Nat) : F8_s1 x2 y6 a9 = some o → RdF Try.prog (codeOf Try.prog 8 [1, 1, 1, 0, 1, 0, 0]) (fun (s : Int) => (F8_h1 x2 y6 u7_0 h7 s)) (F8_x1 x2 u7_0 h7) (F8_h1 x2 y6 u7_0 h7 a9) o := by
  unfold F8_s1
  refine dec_bif (fun c10 => ?_) (fun c10 => ?_)
  · refine bind_opt fun y11 e11 => ?_
    obtain ⟨id11, off11, g11, cs11, ix11, at11, rfl⟩ := SlE.at (Heapy.sle (v := u7_0) (xs := y6) (enc := enc44) hp7 0 rfl (fun _ => rfl) (by decide)) e11
    refine bind_opt fun y13 e13 => ?_
    refine dec_bif (fun c15 => ?_) (fun c15 => ?_)
    · intro hr
      obtain rfl := Option.some.inj hr
      show AWp Try.prog _ (Ends1 ((F8_x1 x2 u7_0 h7) (0 : Nat)).1 ((F8_x1 x2 u7_0 h7) (0 : Nat)).2) _
      exact pEnd_sound good (L := F8_L) (D := F8_D) (its := [.g, (.b true), .g, .g, .g, .g, (.ix id11 off11 g11), (.ld (.agg #[.int .i64 y11.1, .int .i64 y11.2.1, .int .i64 y11.2.2])), .g, .g, .g, (.ix id11 off11 g11), .g, (.ld (.agg #[.int .i64 y11.1, .int .i64 y11.2.1, .int .i64 y11.2.2])), (.c (.int .i64 (F21 y11.1 y11.2.1 y11.2.2 (IntKind.i64.wrap ((x2.tmod 21))))) h7), (.c (.int .i64 y13) h7), .g, (.b true), .g]) (ds := F8_m1_0) (ks := []) (e := ((F8_x1 x2 u7_0 h7) (0 : Nat)).1) (s2 := ((F8_x1 x2 u7_0 h7) (0 : Nat)).2) (hC := (And.intro c15 (And.intro (show AKeep h7 h7 from (AHeap.sub_refl h7)) (And.intro (F22_spec y11.1 y11.2.1 y11.2.2 (IntKind.i64.wrap ((x2.tmod 21))) h7 _ e13) (And.intro (show AKeep h7 h7 from (AHeap.sub_refl h7)) (And.intro (F21_spec y11.1 y11.2.1 y11.2.2 (IntKind.i64.wrap ((x2.tmod 21))) h7 _ rfl) (And.intro (At.agg (P := Try.prog) (t := 44) (v := .agg #[.int .i64 y11.1, .int .i64 y11.2.1, .int .i64 y11.2.2]) (m := 3) at11 (by kernel_rfl) (by kernel_rfl) 0 (by kernel_rfl) rfl) (And.intro ix11 (And.intro (At.agg (P := Try.prog) (t := 44) (v := .agg #[.int .i64 y11.1, .int .i64 y11.2.1, .int .i64 y11.2.2]) (m := 3) at11 (by kernel_rfl) (by kernel_rfl) 0 (by kernel_rfl) rfl) (And.intro ix11 (And.intro c10 trivial))))))))))) (hd := F8_d1) (h := by kernel_rfl)
    · intro hr
      obtain rfl := Option.some.inj hr
      show AWp Try.prog _ (Ends1 .normal (F8_h1 x2 y6 u7_0 h7 (IntKind.i64.wrap (a9 + 1)))) _
      exact pEnd_sound good (L := F8_L) (D := F8_D) (its := [.g, (.b true), .g, .g, .g, .g, (.ix id11 off11 g11), (.ld (.agg #[.int .i64 y11.1, .int .i64 y11.2.1, .int .i64 y11.2.2])), .g, .g, .g, (.ix id11 off11 g11), .g, (.ld (.agg #[.int .i64 y11.1, .int .i64 y11.2.1, .int .i64 y11.2.2])), (.c (.int .i64 (F21 y11.1 y11.2.1 y11.2.2 (IntKind.i64.wrap ((x2.tmod 21))))) h7), (.c (.int .i64 y13) h7), .g, (.b false), .g, .g]) (ds := F8_m1_1) (ks := []) (e := .normal) (s2 := (F8_h1 x2 y6 u7_0 h7 (IntKind.i64.wrap (a9 + 1)))) (hC := (And.intro c15 (And.intro (show AKeep h7 h7 from (AHeap.sub_refl h7)) (And.intro (F22_spec y11.1 y11.2.1 y11.2.2 (IntKind.i64.wrap ((x2.tmod 21))) h7 _ e13) (And.intro (show AKeep h7 h7 from (AHeap.sub_refl h7)) (And.intro (F21_spec y11.1 y11.2.1 y11.2.2 (IntKind.i64.wrap ((x2.tmod 21))) h7 _ rfl) (And.intro (At.agg (P := Try.prog) (t := 44) (v := .agg #[.int .i64 y11.1, .int .i64 y11.2.1, .int .i64 y11.2.2]) (m := 3) at11 (by kernel_rfl) (by kernel_rfl) 0 (by kernel_rfl) rfl) (And.intro ix11 (And.intro (At.agg (P := Try.prog) (t := 44) (v := .agg #[.int .i64 y11.1, .int .i64 y11.2.1, .int .i64 y11.2.2]) (m := 3) at11 (by kernel_rfl) (by kernel_rfl) 0 (by kernel_rfl) rfl) (And.intro ix11 (And.intro c10 trivial))))))))))) (hd := F8_d1) (h := by kernel_rfl)
  · intro hr
    obtain rfl := Option.some.inj hr
    show AWp Try.prog _ (Ends1 ((F8_x1 x2 u7_0 h7) (1 : Nat)).1 ((F8_x1 x2 u7_0 h7) (1 : Nat)).2) _
    exact pEnd_sound good (L := F8_L) (D := F8_D) (its := [.g, (.b false)]) (ds := F8_m1_2) (ks := []) (e := ((F8_x1 x2 u7_0 h7) (1 : Nat)).1) (s2 := ((F8_x1 x2 u7_0 h7) (1 : Nat)).2) (hC := (And.intro c10 trivial)) (hd := F8_d1) (h := by kernel_rfl)
theorem F8_l1_0 (h : AHeap) (x2 : Int) (y6 : (List (Int × Int × Int))) (u7_0 : Hd) (h7 : AHeap) (hp7 : Heapy h h7 [⟨u7_0, 44, 3, List.flatMap enc44 y6⟩]) (x : Int) (r : Nat) (hl : loopO (fun (s : Int) => F8_s1 x2 y6 s) x = some r) (q0 : Nat.beq r 0 = true) : AWp Try.prog (.loop (codeOf Try.prog 8 [1, 1, 1, 0, 1, 0, 0])) (Ends1 .ret (F8_x1_0 x2 u7_0 h7 r)) ((fun (s : Int) => (F8_h1 x2 y6 u7_0 h7 s)) x) := by
  have k := loop_fun (P := Try.prog) (c := (codeOf Try.prog 8 [1, 1, 1, 0, 1, 0, 0])) (step := (fun (s : Int) => F8_s1 x2 y6 s)) (hd := (fun (s : Int) => (F8_h1 x2 y6 u7_0 h7 s))) (X := (F8_x1 x2 u7_0 h7)) (by intro t; unfold F8_x1; cases Nat.beq t 0 <;> (intro h; cases h)) (fun x => F8_r1 h x2 y6 u7_0 h7 hp7 x) hl
  simp only [F8_x1, q0, cond_true, cond_false] at k
  exact k
theorem F8_l1_1 (h : AHeap) (x2 : Int) (y6 : (List (Int × Int × Int))) (u7_0 : Hd) (h7 : AHeap) (hp7 : Heapy h h7 [⟨u7_0, 44, 3, List.flatMap enc44 y6⟩]) (x : Int) (r : Nat) (hl : loopO (fun (s : Int) => F8_s1 x2 y6 s) x = some r) (q0 : Nat.beq r 0 = false) : AWp Try.prog (.loop (codeOf Try.prog 8 [1, 1, 1, 0, 1, 0, 0])) (Ends1 (.exit 0) (F8_x1_1 x2 u7_0 h7 r)) ((fun (s : Int) => (F8_h1 x2 y6 u7_0 h7 s)) x) := by
  have k := loop_fun (P := Try.prog) (c := (codeOf Try.prog 8 [1, 1, 1, 0, 1, 0, 0])) (step := (fun (s : Int) => F8_s1 x2 y6 s)) (hd := (fun (s : Int) => (F8_h1 x2 y6 u7_0 h7 s))) (X := (F8_x1 x2 u7_0 h7)) (by intro t; unfold F8_x1; cases Nat.beq t 0 <;> (intro h; cases h)) (fun x => F8_r1 h x2 y6 u7_0 h7 hp7 x) hl
  simp only [F8_x1, q0, cond_true, cond_false] at k
  exact k
def F8_m2_2 : List Bool := [true, true, true, true, true, false, false, true, true, true, true, true, true, true, true, true, true, true, true, true, true, true, true, true, true, true, true, true, true, true, true, true, true, true, true, true, true, true, true, true, true, true, true, true, true, true, true, true, true, true, true, true, true, true, true, true, true, true, true, true, true, true, true, true, true, true, true, true, true, true, true, true, true, true, true, true, true, true, true, true, true, true, true, true, true, true, true, true, true]
def F8_m2_1 : List Bool := [true, true, true, true, true, false, false, true, false, false, true, true, true, true, true, true, true, true, true, true, true, true, true, true, true, true, true, true, true, true, true, true, true, true, true, true, true, true, true, true, true, true, true, true, true, true, true, true, true, true, true, true, true, true, true, false, false, true, true, true, true, true, true, true, true, true, true, true, true, true, true, true, true, true, true, true, true, true, true, true, true, true, true, true, true, true, true, true, true]
def F8_m2_0 : List Bool := [true, true, true, true, false, true, true, true, true, true, true, true, true, true, true, true, true, true, true, true, true, true, true, true, true, true, true, true, true, true, true, true, true, true, true, true, true, true, true, true, true, true, true, true, true, true, true, true, true, true, true, true, true, true, true, true, true, true, true, true, true, true, true, true, true, true, true, true, true, true, true, true, true, true, true, true, true, true, true, true, true, true, true, true, true, true, true, true, true]
def F8_s2 (x2 : Int) (y18 : (List (Int × Int))) (y21 : (List (Int × Int))) (a25 : Int) : Option (Int ⊕ Nat) :=
  (bif decide (a25 < (y18.length : Int)) then
   (Option.bind (at? y18 a25) fun y27 =>
   (Option.bind (at? y21 a25) fun y28 =>
   (bif (!((y27.1 == y28.1) && ((y27.2 == y28.2) && true))) then
    some (.inr 0)
   else
    (bif decide ((IntKind.i64.wrap ((x2.tmod 21))) > 0) then
     (bif decide (y27.2 > (IntKind.i64.wrap ((x2.tmod 21)))) then
      some (.inr 0)
     else
      some (.inl (IntKind.i64.wrap (a25 + 1))))
    else
     some (.inl (IntKind.i64.wrap (a25 + 1)))))))
  else
   some (.inr 1))
def F8_h2 (x2 : Int) (u7_0 : Hd) (y18 : (List (Int × Int))) (u19_0 : Hd) (u22_0 : Hd) (h22 : AHeap)  (a25 : Int) : AS := ⟨[junk, junk, junk, junk, junk, (sv u7_0), .int .i64 (IntKind.i64.wrap ((x2.tmod 21))), junk, (sv u19_0), (sv u22_0), junk, junk, junk, junk, junk, junk, junk, junk, junk, junk, junk, junk, junk, junk, junk, junk, junk, junk, junk, junk, junk, junk, junk, junk, junk, junk, junk, junk, junk, junk, junk, junk, junk, junk, junk, junk, junk, junk, junk, junk, junk, junk, junk, junk, junk, .int .i64 (y18.length : Int), .int .i64 a25, junk, junk, junk, junk, junk, junk, junk, junk, junk, junk, junk, junk, junk, junk, junk, junk, junk, junk, junk, junk, junk, junk, junk, junk, junk, junk, junk, junk, junk, junk, junk, junk], [], h22⟩
theorem F8_d2 : drawsOk F8_D (codeOf Try.prog 8 [1, 1, 1, 1, 1, 1, 0, 1, 0, 0]) = true := by kernel_rfl
def F8_x2_0 (x2 : Int) (u7_0 : Hd) (h22 : AHeap)  (r : Nat) : AS := ⟨[junk, junk, junk, junk, .bool false, junk, junk, junk, junk, junk, junk, junk, junk, junk, junk, junk, junk, junk, junk, junk, junk, junk, junk, junk, junk, junk, junk, junk, junk, junk, junk, junk, junk, junk, junk, junk, junk, junk, junk, junk, junk, junk, junk, junk, junk, junk, junk, junk, junk, junk, junk, junk, junk, junk, junk, junk, junk, junk, junk, junk, junk, junk, junk, junk, junk, junk, junk, junk, junk, junk, junk, junk, junk, junk, junk, junk, junk, junk, junk, junk, junk, junk, junk, junk, junk, junk, junk, junk, junk], [], h22⟩
def F8_x2_1 (x2 : Int) (u7_0 : Hd) (h22 : AHeap)  (r : Nat) : AS := ⟨[junk, junk, junk, junk, junk, (sv u7_0), .int .i64 (IntKind.i64.wrap ((x2.tmod 21))), junk, junk, junk, junk, junk, junk, junk, junk, junk, junk, junk, junk, junk, junk, junk, junk, junk, junk, junk, junk, junk, junk, junk, junk, junk, junk, junk, junk, junk, junk, junk, junk, junk, junk, junk, junk, junk, junk, junk, junk, junk, junk, junk, junk, junk, junk, junk, junk, junk, junk, junk, junk, junk, junk, junk, junk, junk, junk, junk, junk, junk, junk, junk, junk, junk, junk, junk, junk, junk, junk, junk, junk, junk, junk, junk, junk, junk, junk, junk, junk, junk, junk], [], h22⟩
def F8_x2 (x2 : Int) (u7_0 : Hd) (h22 : AHeap) (r : Nat) : Exit × AS := (bif Nat.beq r 0 then (.ret, (F8_x2_0 x2 u7_0 h22 r)) else ((.exit 2), (F8_x2_1 x2 u7_0 h22 r)))
set_option maxRecDepth 100000 in
theorem F8_r2 (h : AHeap) (x2 : Int) (y6 : (List (Int × Int × Int))) (u7_0 : Hd) (y18 : (List (Int × Int))) (u19_0 : Hd) (y21 : (List (Int × Int))) (u22_0 : Hd) (h22 : AHeap) (hp22 : Heapy h h22 [⟨u22_0, 24, 2, List.flatMap enc24 y21⟩, ⟨u19_0, 24, 2, List.flatMap enc24 y18⟩, ⟨u7_0, 44, 3, List.flatMap enc44 y6⟩]) (a25 : Int) (o : Int ⊕ Nat) : F8_s2 x2 y18 y21 a25 = some o → RdF Try.prog (codeOf Try.prog 8 [1, 1, 1, 1, 1, 1, 0, 1, 0, 0]) (fun (s : Int) => (F8_h2 x2 u7_0 y18 u19_0 u22_0 h22 s)) (F8_x2 x2 u7_0 h22) (F8_h2 x2 u7_0 y18 u19_0 u22_0 h22 a25) o := by
  unfold F8_s2
  refine dec_bif (fun c26 => ?_) (fun c26 => ?_)
  · refine bind_opt fun y27 e27 => ?_
    obtain ⟨id27, off27, g27, cs27, ix27, at27, rfl⟩ := SlE.at (Heapy.sle (v := u19_0) (xs := y18) (enc := enc24) hp22 1 rfl (fun _ => rfl) (by decide)) e27
    refine bind_opt fun y28 e28 => ?_
    obtain ⟨id28, off28, g28, cs28, ix28, at28, rfl⟩ := SlE.at (Heapy.sle (v := u22_0) (xs := y21) (enc := enc24) hp22 0 rfl (fun _ => rfl) (by decide)) e28
    refine dec_bif (fun c29 => ?_) (fun c29 => ?_)
    · intro hr
      obtain rfl := Option.some.inj hr
      show AWp Try.prog _ (Ends1 ((F8_x2 x2 u7_0 h22) (0 : Nat)).1 ((F8_x2 x2 u7_0 h22) (0 : Nat)).2) _
      exact pEnd_sound good (L := F8_L) (D := F8_D) (its := [.g, (.b true), .g, .g, .g, .g, (.ix id27 off27 g27), (.ld (.agg #[.int .i64 y27.1, .int .i64 y27.2])), .g, .g, (.ix id28 off28 g28), (.ld (.agg #[.int .i64 y28.1, .int .i64 y28.2])), (.eq ((y27.1 == y28.1) && ((y27.2 == y28.2) && true))), .g, .n, .n, .n, .n, .n, .n, .n, .n, .n, .n, .n, (.p true), (.b true), .g]) (ds := F8_m2_0) (ks := []) (e := ((F8_x2 x2 u7_0 h22) (0 : Nat)).1) (s2 := ((F8_x2 x2 u7_0 h22) (0 : Nat)).2) (hC := (And.intro l_t (And.intro c29 (And.intro (g_tf c29) (And.intro l_f (And.intro l_f (And.intro l_f (And.intro l_f (And.intro l_f (And.intro l_f (And.intro l_f (And.intro (g_tf c29) (And.intro (g_tf c29) (And.intro (g_tf c29) (And.intro (show aggEq Try.prog 24 #[.int .i64 y27.1, .int .i64 y27.2] #[.int .i64 y28.1, .int .i64 y28.2] = some ((y27.1 == y28.1) && ((y27.2 == y28.2) && true)) by kernel_rfl) (And.intro (At.agg (P := Try.prog) (t := 24) (v := .agg #[.int .i64 y28.1, .int .i64 y28.2]) (m := 2) at28 (by kernel_rfl) (by kernel_rfl) 0 (by kernel_rfl) rfl) (And.intro ix28 (And.intro (At.agg (P := Try.prog) (t := 24) (v := .agg #[.int .i64 y27.1, .int .i64 y27.2]) (m := 2) at27 (by kernel_rfl) (by kernel_rfl) 0 (by kernel_rfl) rfl) (And.intro ix27 (And.intro c26 trivial)))))))))))))))))))) (hd := F8_d2) (h := by kernel_rfl)
    · refine dec_bif (fun c30 => ?_) (fun c30 => ?_)
      · refine dec_bif (fun c31 => ?_) (fun c31 => ?_)
        · intro hr
          obtain rfl := Option.some.inj hr
          show AWp Try.prog _ (Ends1 ((F8_x2 x2 u7_0 h22) (0 : Nat)).1 ((F8_x2 x2 u7_0 h22) (0 : Nat)).2) _
          exact pEnd_sound good (L := F8_L) (D := F8_D) (its := [.g, (.b true), .g, .g, .g, .g, (.ix id27 off27 g27), (.ld (.agg #[.int .i64 y27.1, .int .i64 y27.2])), .g, .g, (.ix id28 off28 g28), (.ld (.agg #[.int .i64 y28.1, .int .i64 y28.2])), (.eq ((y27.1 == y28.1) && ((y27.2 == y28.2) && true))), .g, (.w .g), (.w .g), (.w .g), (.w .g), (.w .g), (.w (.ix id27 off27 g27)), (.w .g), (.w (.ld (.int .i64 y27.2))), (.w .g), (.w .g), (.w (.p true)), (.p false), (.b true), .g]) (ds := F8_m2_0) (ks := []) (e := ((F8_x2 x2 u7_0 h22) (0 : Nat)).1) (s2 := ((F8_x2 x2 u7_0 h22) (0 : Nat)).2) (hC := (And.intro c31 (And.intro c29 (And.intro c30 (And.intro (g_ff c29) (And.intro (g_tt c30) (And.intro (g_tt c30) (And.intro (At.one (P := Try.prog) (t := 3) (v := .int .i64 y27.2) at27 (by kernel_rfl) 1 rfl rfl) (And.intro (g_tt c30) (And.intro (g_tt c30) (And.intro ix27 (And.intro (g_tt c30) (And.intro (g_tt c30) (And.intro (g_tt c30) (And.intro (g_ff c29) (And.intro (g_ff c29) (And.intro (g_ff c29) (And.intro (show aggEq Try.prog 24 #[.int .i64 y27.1, .int .i64 y27.2] #[.int .i64 y28.1, .int .i64 y28.2] = some ((y27.1 == y28.1) && ((y27.2 == y28.2) && true)) by kernel_rfl) (And.intro (At.agg (P := Try.prog) (t := 24) (v := .agg #[.int .i64 y28.1, .int .i64 y28.2]) (m := 2) at28 (by kernel_rfl) (by kernel_rfl) 0 (by kernel_rfl) rfl) (And.intro ix28 (And.intro (At.agg (P := Try.prog) (t := 24) (v := .agg #[.int .i64 y27.1, .int .i64 y27.2]) (m := 2) at27 (by kernel_rfl) (by kernel_rfl) 0 (by kernel_rfl) rfl) (And.intro ix27 (And.intro c26 trivial))))))))))))))))))))))) (hd := F8_d2) (h := by kernel_rfl)
        · intro hr
          obtain rfl := Option.some.inj hr
          show AWp Try.prog _ (Ends1 .normal (F8_h2 x2 u7_0 y18 u19_0 u22_0 h22 (IntKind.i64.wrap (a25 + 1)))) _
          exact pEnd_sound good (L := F8_L) (D := F8_D) (its := [.g, (.b true), .g, .g, .g, .g, (.ix id27 off27 g27), (.ld (.agg #[.int .i64 y27.1, .int .i64 y27.2])), .g, .g, (.ix id28 off28 g28), (.ld (.agg #[.int .i64 y28.1, .int .i64 y28.2])), (.eq ((y27.1 == y28.1) && ((y27.2 == y28.2) && true))), .g, (.w .g), (.w .g), (.w .g), (.w .g), (.w .g), (.w (.ix id27 off27 g27)), (.w .g), (.w (.ld (.int .i64 y27.2))), (.w .g), (.w .g), (.w (.p true)), (.p false), (.b false), .g, .g]) (ds := F8_m2_1) (ks := []) (e := .normal) (s2 := (F8_h2 x2 u7_0 y18 u19_0 u22_0 h22 (IntKind.i64.wrap (a25 + 1)))) (hC := (And.intro c31 (And.intro c29 (And.intro c30 (And.intro (g_ff c29) (And.intro (g_tt c30) (And.intro (g_tt c30) (And.intro (At.one (P := Try.prog) (t := 3) (v := .int .i64 y27.2) at27 (by kernel_rfl) 1 rfl rfl) (And.intro (g_tt c30) (And.intro (g_tt c30) (And.intro ix27 (And.intro (g_tt c30) (And.intro (g_tt c30) (And.intro (g_tt c30) (And.intro (g_ff c29) (And.intro (g_ff c29) (And.intro (g_ff c29) (And.intro (show aggEq Try.prog 24 #[.int .i64 y27.1, .int .i64 y27.2] #[.int .i64 y28.1, .int .i64 y28.2] = some ((y27.1 == y28.1) && ((y27.2 == y28.2) && true)) by kernel_rfl) (And.intro (At.agg (P := Try.prog) (t := 24) (v := .agg #[.int .i64 y28.1, .int .i64 y28.2]) (m := 2) at28 (by kernel_rfl) (by kernel_rfl) 0 (by kernel_rfl) rfl) (And.intro ix28 (And.intro (At.agg (P := Try.prog) (t := 24) (v := .agg #[.int .i64 y27.1, .int .i64 y27.2]) (m := 2) at27 (by kernel_rfl) (by kernel_rfl) 0 (by kernel_rfl) rfl) (And.intro ix27 (And.intro c26 trivial))))))))))))))))))))))) (hd := F8_d2) (h := by kernel_rfl)
      · intro hr
        obtain rfl := Option.some.inj hr
        show AWp Try.prog _ (Ends1 .normal (F8_h2 x2 u7_0 y18 u19_0 u22_0 h22 (IntKind.i64.wrap (a25 + 1)))) _
        exact pEnd_sound good (L := F8_L) (D := F8_D) (its := [.g, (.b true), .g, .g, .g, .g, (.ix id27 off27 g27), (.ld (.agg #[.int .i64 y27.1, .int .i64 y27.2])), .g, .g, (.ix id28 off28 g28), (.ld (.agg #[.int .i64 y28.1, .int .i64 y28.2])), (.eq ((y27.1 == y28.1) && ((y27.2 == y28.2) && true))), .g, (.w .g), (.w .g), (.w .g), .n, .n, .n, .n, .n, .n, .n, (.w (.p false)), (.p false), (.b false), .g, .g]) (ds := F8_m2_1) (ks := []) (e := .normal) (s2 := (F8_h2 x2 u7_0 y18 u19_0 u22_0 h22 (IntKind.i64.wrap (a25 + 1)))) (hC := (And.intro l_f (And.intro c29 (And.intro c30 (And.intro (g_ff c29) (And.intro (g_ft c30) (And.intro (g_ft c30) (And.intro (g_ft c30) (And.intro (g_ft c30) (And.intro (g_ft c30) (And.intro (g_ft c30) (And.intro (g_ft c30) (And.intro (g_ff c29) (And.intro (g_ff c29) (And.intro (g_ff c29) (And.intro (show aggEq Try.prog 24 #[.int .i64 y27.1, .int .i64 y27.2] #[.int .i64 y28.1, .int .i64 y28.2] = some ((y27.1 == y28.1) && ((y27.2 == y28.2) && true)) by kernel_rfl) (And.intro (At.agg (P := Try.prog) (t := 24) (v := .agg #[.int .i64 y28.1, .int .i64 y28.2]) (m := 2) at28 (by kernel_rfl) (by kernel_rfl) 0 (by kernel_rfl) rfl) (And.intro ix28 (And.intro (At.agg (P := Try.prog) (t := 24) (v := .agg #[.int .i64 y27.1, .int .i64 y27.2]) (m := 2) at27 (by kernel_rfl) (by kernel_rfl) 0 (by kernel_rfl) rfl) (And.intro ix27 (And.intro c26 trivial))))))))))))))))))))) (hd := F8_d2) (h := by kernel_rfl)
  · intro hr
    obtain rfl := Option.some.inj hr
    show AWp Try.prog _ (Ends1 ((F8_x2 x2 u7_0 h22) (1 : Nat)).1 ((F8_x2 x2 u7_0 h22) (1 : Nat)).2) _
    exact pEnd_sound good (L := F8_L) (D := F8_D) (its := [.g, (.b false)]) (ds := F8_m2_2) (ks := []) (e := ((F8_x2 x2 u7_0 h22) (1 : Nat)).1) (s2 := ((F8_x2 x2 u7_0 h22) (1 : Nat)).2) (hC := (And.intro c26 trivial)) (hd := F8_d2) (h := by kernel_rfl)
theorem F8_l2_0 (h : AHeap) (x2 : Int) (y6 : (List (Int × Int × Int))) (u7_0 : Hd) (y18 : (List (Int × Int))) (u19_0 : Hd) (y21 : (List (Int × Int))) (u22_0 : Hd) (h22 : AHeap) (hp22 : Heapy h h22 [⟨u22_0, 24, 2, List.flatMap enc24 y21⟩, ⟨u19_0, 24, 2, List.flatMap enc24 y18⟩, ⟨u7_0, 44, 3, List.flatMap enc44 y6⟩]) (x : Int) (r : Nat) (hl : loopO (fun (s : Int) => F8_s2 x2 y18 y21 s) x = some r) (q0 : Nat.beq r 0 = true) : AWp Try.prog (.loop (codeOf Try.prog 8 [1, 1, 1, 1, 1, 1, 0, 1, 0, 0])) (Ends1 .ret (F8_x2_0 x2 u7_0 h22 r)) ((fun (s : Int) => (F8_h2 x2 u7_0 y18 u19_0 u22_0 h22 s)) x) := by
  have k := loop_fun (P := Try.prog) (c := (codeOf Try.prog 8 [1, 1, 1, 1, 1, 1, 0, 1, 0, 0])) (step := (fun (s : Int) => F8_s2 x2 y18 y21 s)) (hd := (fun (s : Int) => (F8_h2 x2 u7_0 y18 u19_0 u22_0 h22 s))) (X := (F8_x2 x2 u7_0 h22)) (by intro t; unfold F8_x2; cases Nat.beq t 0 <;> (intro h; cases h)) (fun x => F8_r2 h x2 y6 u7_0 y18 u19_0 y21 u22_0 h22 hp22 x) hl
  simp only [F8_x2, q0, cond_true, cond_false] at k
  exact k
theorem F8_l2_1 (h : AHeap) (x2 : Int) (y6 : (List (Int × Int × Int))) (u7_0 : Hd) (y18 : (List (Int × Int))) (u19_0 : Hd) (y21 : (List (Int × Int))) (u22_0 : Hd) (h22 : AHeap) (hp22 : Heapy h h22 [⟨u22_0, 24, 2, List.flatMap enc24 y21⟩, ⟨u19_0, 24, 2, List.flatMap enc24 y18⟩, ⟨u7_0, 44, 3, List.flatMap enc44 y6⟩]) (x : Int) (r : Nat) (hl : loopO (fun (s : Int) => F8_s2 x2 y18 y21 s) x = some r) (q0 : Nat.beq r 0 = false) : AWp Try.prog (.loop (codeOf Try.prog 8 [1, 1, 1, 1, 1, 1, 0, 1, 0, 0])) (Ends1 (.exit 2) (F8_x2_1 x2 u7_0 h22 r)) ((fun (s : Int) => (F8_h2 x2 u7_0 y18 u19_0 u22_0 h22 s)) x) := by
  have k := loop_fun (P := Try.prog) (c := (codeOf Try.prog 8 [1, 1, 1, 1, 1, 1, 0, 1, 0, 0])) (step := (fun (s : Int) => F8_s2 x2 y18 y21 s)) (hd := (fun (s : Int) => (F8_h2 x2 u7_0 y18 u19_0 u22_0 h22 s))) (X := (F8_x2 x2 u7_0 h22)) (by intro t; unfold F8_x2; cases Nat.beq t 0 <;> (intro h; cases h)) (fun x => F8_r2 h x2 y6 u7_0 y18 u19_0 y21 u22_0 h22 hp22 x) hl
  simp only [F8_x2, q0, cond_true, cond_false] at k
  exact k
def F8 (l1 : List (Int × Int)) (x2 : Int) : Option (Bool) :=
  (bif decide ((l1.length : Int) > 30) then
   some (true)
  else
   (Option.bind (F19 l1) fun y6 =>
   (Option.bind (loopO (fun (s : Int) => F8_s1 x2 y6 s) 0) fun y16 =>
   (bif (Nat.beq y16 0) then
    some (false)
   else
    (Option.bind (F23 y6 (IntKind.i64.wrap ((x2.tmod 21)))) fun y18 =>
    (Option.bind (F24 y6 (IntKind.i64.wrap ((x2.tmod 21)))) fun y21 =>
    (bif ((y18.length : Int) != (y21.length : Int)) then
     some (false)
    else
     (Option.bind (loopO (fun (s : Int) => F8_s2 x2 y18 y21 s) 0) fun y32 =>
     (bif (Nat.beq y32 0) then
      some (false)
     else
      (Option.bind (F20 y6 (IntKind.i64.wrap ((x2.tmod 21)))) fun y34 =>
      (Option.bind (F25 y6 (IntKind.i64.wrap ((x2.tmod 21)))) fun y36 =>
      some (y34 == y36))))))))))))
set_option maxRecDepth 100000 in
theorem F8_spec (l1 : List (Int × Int)) (x2 : Int) (v1 : Hd) (h : AHeap) (hw : h.wf) (hv1 : SlE E55 2 h (sv v1) l1) (r : Bool) : F8 l1 x2 = some r → ∃ (h' : AHeap), Heapy h h' [] ∧ ACalls Try.prog 8 [(sv v1), .int .u8 x2] h (fun v' h'' => v' = (.bool r : Value) ∧ h'' = h') := by
  unfold F8
  refine dec_bif (fun c4 => ?_) (fun c4 => ?_)
  · intro hr
    obtain rfl := Option.some.inj hr
    exact ⟨h, Heapy.pick (Heapy.refl hw) [] (by decide), pFun_sound good tab_ok (f := 8) (its := [.g, (.c (.bool true) h), .g, .g, (.w .g), (.w (.ln l1.length)), (.w .g), .g, (.b true), (.c (.bool true) h), .g]) (args := [(sv v1), .int .u8 x2]) (h := h) (h' := h) (v := .bool true) (hC := (And.intro (F18_spec h _ rfl) (And.intro c4 (And.intro (g_ff l_f) (And.intro (SlE.len hv1) (And.intro (g_ff l_f) (And.intro (g_ff l_f) (And.intro (F18_spec h _ rfl) trivial)))))))) (hr := by kernel_rfl)⟩
  · refine bind_opt fun y6 e6 => ?_
    obtain ⟨u7_0, h7, q7, c7⟩ := F19_spec l1 v1 h hw hv1 _ e6
    have hp7 : Heapy h h7 [⟨u7_0, 44, 3, List.flatMap enc44 y6⟩] := Heapy.call (Heapy.refl hw) q7
    refine bind_opt fun y16 e16 => ?_
    refine dec_bif (fun c17 => ?_) (fun c17 => ?_)
    · intro hr
      obtain rfl := Option.some.inj hr
      exact ⟨h7, Heapy.pick hp7 [] (by decide), pFun_sound good tab_ok (f := 8) (its := [.g, (.c (.bool true) h), .g, .g, (.w .g), (.w (.ln l1.length)), (.w .g), .g, (.b false), .g, (.c ((sv u7_0)) h7), .g, .g, .g, .g, .g, .g, (.ln y6.length), .g, (.l F8_m1_1 [] .ret (F8_x1_0 x2 u7_0 h7 y16))]) (args := [(sv v1), .int .u8 x2]) (h := h) (h' := h7) (v := .bool false) (hC := (And.intro (F8_l1_0 h x2 y6 u7_0 h7 hp7 0 y16 e16 c17) (And.intro (SlE.len (Heapy.sle (v := u7_0) (xs := y6) (enc := enc44) hp7 0 rfl (fun _ => rfl) (by decide))) (And.intro c7 (And.intro c4 (And.intro (g_ff l_f) (And.intro (SlE.len hv1) (And.intro (g_ff l_f) (And.intro (g_ff l_f) (And.intro (F18_spec h _ rfl) trivial)))))))))) (hr := by kernel_rfl)⟩
    · refine bind_opt fun y18 e18 => ?_
      obtain ⟨u19_0, h19, q19, c19⟩ := F23_spec y6 (IntKind.i64.wrap ((x2.tmod 21))) u7_0 h7 (Heapy.wf hp7) (Heapy.sle (v := u7_0) (xs := y6) (enc := enc44) hp7 0 rfl (fun _ => rfl) (by decide)) _ e18
      have hp19 : Heapy h h19 [⟨u19_0, 24, 2, List.flatMap enc24 y18⟩, ⟨u7_0, 44, 3, List.flatMap enc44 y6⟩] := Heapy.call hp7 q19
      refine bind_opt fun y21 e21 => ?_
      obtain ⟨u22_0, h22, q22, c22⟩ := F24_spec y6 (IntKind.i64.wrap ((x2.tmod 21))) u7_0 h19 (Heapy.wf hp19) (Heapy.sle (v := u7_0) (xs := y6) (enc := enc44) hp19 1 rfl (fun _ => rfl) (by decide)) _ e21
      have hp22 : Heapy h h22 [⟨u22_0, 24, 2, List.flatMap enc24 y21⟩, ⟨u19_0, 24, 2, List.flatMap enc24 y18⟩, ⟨u7_0, 44, 3, List.flatMap enc44 y6⟩] := Heapy.call hp19 q22
      refine dec_bif (fun c24 => ?_) (fun c24 => ?_)
      · intro hr
        obtain rfl := Option.some.inj hr
        exact ⟨h22, Heapy.pick hp22 [] (by decide), pFun_sound good tab_ok (f := 8) (its := [.g, (.c (.bool true) h), .g, .g, (.w .g), (.w (.ln l1.length)), (.w .g), .g, (.b false), .g, (.c ((sv u7_0)) h7), .g, .g, .g, .g, .g, .g, (.ln y6.length), .g, (.l F8_m1_1 [] (.exit 0) (F8_x1_1 x2 u7_0 h7 y16)), .g, .g, (.c ((sv u19_0)) h19), .g, .g, (.c ((sv u22_0)) h22), .g, .g, .g, (.ln y18.length), .g, (.ln y21.length), .g, (.b true), .g]) (args := [(sv v1), .int .u8 x2]) (h := h) (h' := h22) (v := .bool false) (hC := (And.intro c24 (And.intro (SlE.len (Heapy.sle (v := u22_0) (xs := y21) (enc := enc24) hp22 0 rfl (fun _ => rfl) (by decide))) (And.intro (SlE.len (Heapy.sle (v := u19_0) (xs := y18) (enc := enc24) hp22 1 rfl (fun _ => rfl) (by decide))) (And.intro c22 (And.intro c19 (And.intro (F8_l1_1 h x2 y6 u7_0 h7 hp7 0 y16 e16 c17) (And.intro (SlE.len (Heapy.sle (v := u7_0) (xs := y6) (enc := enc44) hp7 0 rfl (fun _ => rfl) (by decide))) (And.intro c7 (And.intro c4 (And.intro (g_ff l_f) (And.intro (SlE.len hv1) (And.intro (g_ff l_f) (And.intro (g_ff l_f) (And.intro (F18_spec h _ rfl) trivial))))))))))))))) (hr := by kernel_rfl)⟩
      · refine bind_opt fun y32 e32 => ?_
        refine dec_bif (fun c33 => ?_) (fun c33 => ?_)
        · intro hr
          obtain rfl := Option.some.inj hr
          exact ⟨h22, Heapy.pick hp22 [] (by decide), pFun_sound good tab_ok (f := 8) (its := [.g, (.c (.bool true) h), .g, .g, (.w .g), (.w (.ln l1.length)), (.w .g), .g, (.b false), .g, (.c ((sv u7_0)) h7), .g, .g, .g, .g, .g, .g, (.ln y6.length), .g, (.l F8_m1_1 [] (.exit 0) (F8_x1_1 x2 u7_0 h7 y16)), .g, .g, (.c ((sv u19_0)) h19), .g, .g, (.c ((sv u22_0)) h22), .g, .g, .g, (.ln y18.length), .g, (.ln y21.length), .g, (.b false), .g, (.ln y18.length), .g, (.l F8_m2_1 [] .ret (F8_x2_0 x2 u7_0 h22 y32))]) (args := [(sv v1), .int .u8 x2]) (h := h) (h' := h22) (v := .bool false) (hC := (And.intro (F8_l2_0 h x2 y6 u7_0 y18 u19_0 y21 u22_0 h22 hp22 0 y32 e32 c33) (And.intro (SlE.len (Heapy.sle (v := u19_0) (xs := y18) (enc := enc24) hp22 1 rfl (fun _ => rfl) (by decide))) (And.intro c24 (And.intro (SlE.len (Heapy.sle (v := u22_0) (xs := y21) (enc := enc24) hp22 0 rfl (fun _ => rfl) (by decide))) (And.intro (SlE.len (Heapy.sle (v := u19_0) (xs := y18) (enc := enc24) hp22 1 rfl (fun _ => rfl) (by decide))) (And.intro c22 (And.intro c19 (And.intro (F8_l1_1 h x2 y6 u7_0 h7 hp7 0 y16 e16 c17) (And.intro (SlE.len (Heapy.sle (v := u7_0) (xs := y6) (enc := enc44) hp7 0 rfl (fun _ => rfl) (by decide))) (And.intro c7 (And.intro c4 (And.intro (g_ff l_f) (And.intro (SlE.len hv1) (And.intro (g_ff l_f) (And.intro (g_ff l_f) (And.intro (F18_spec h _ rfl) trivial))))))))))))))))) (hr := by kernel_rfl)⟩
        · refine bind_opt fun y34 e34 => ?_
          obtain ⟨h35, q35, c35⟩ := F20_spec y6 (IntKind.i64.wrap ((x2.tmod 21))) u7_0 h22 (Heapy.wf hp22) (Heapy.sle (v := u7_0) (xs := y6) (enc := enc44) hp22 2 rfl (fun _ => rfl) (by decide)) _ e34
          have hp35 : Heapy h h35 [⟨u22_0, 24, 2, List.flatMap enc24 y21⟩, ⟨u19_0, 24, 2, List.flatMap enc24 y18⟩, ⟨u7_0, 44, 3, List.flatMap enc44 y6⟩] := Heapy.call hp22 q35
          refine bind_opt fun y36 e36 => ?_
          obtain ⟨h37, q37, c37⟩ := F25_spec y6 (IntKind.i64.wrap ((x2.tmod 21))) u7_0 h35 (Heapy.wf hp35) (Heapy.sle (v := u7_0) (xs := y6) (enc := enc44) hp35 2 rfl (fun _ => rfl) (by decide)) _ e36
          have hp37 : Heapy h h37 [⟨u22_0, 24, 2, List.flatMap enc24 y21⟩, ⟨u19_0, 24, 2, List.flatMap enc24 y18⟩, ⟨u7_0, 44, 3, List.flatMap enc44 y6⟩] := Heapy.call hp35 q37
          intro hr
          obtain rfl := Option.some.inj hr
          exact ⟨h37, Heapy.pick hp37 [] (by decide), pFun_sound good tab_ok (f := 8) (its := [.g, (.c (.bool true) h), .g, .g, (.w .g), (.w (.ln l1.length)), (.w .g), .g, (.b false), .g, (.c ((sv u7_0)) h7), .g, .g, .g, .g, .g, .g, (.ln y6.length), .g, (.l F8_m1_1 [] (.exit 0) (F8_x1_1 x2 u7_0 h7 y16)), .g, .g, (.c ((sv u19_0)) h19), .g, .g, (.c ((sv u22_0)) h22), .g, .g, .g, (.ln y18.length), .g, (.ln y21.length), .g, (.b false), .g, (.ln y18.length), .g, (.l F8_m2_1 [] (.exit 2) (F8_x2_1 x2 u7_0 h22 y32)), .g, .g, (.c (.int .i64 y34) h35), .g, .g, (.c (.int .i64 y36) h37), .g, .g]) (args := [(sv v1), .int .u8 x2]) (h := h) (h' := h37) (v := .bool (y34 == y36)) (hC := (And.intro c37 (And.intro c35 (And.intro (F8_l2_1 h x2 y6 u7_0 y18 u19_0 y21 u22_0 h22 hp22 0 y32 e32 c33) (And.intro (SlE.len (Heapy.sle (v := u19_0) (xs := y18) (enc := enc24) hp22 1 rfl (fun _ => rfl) (by decide))) (And.intro c24 (And.intro (SlE.len (Heapy.sle (v := u22_0) (xs := y21) (enc := enc24) hp22 0 rfl (fun _ => rfl) (by decide))) (And.intro (SlE.len (Heapy.sle (v := u19_0) (xs := y18) (enc := enc24) hp22 1 rfl (fun _ => rfl) (by decide))) (And.intro c22 (And.intro c19 (And.intro (F8_l1_1 h x2 y6 u7_0 h7 hp7 0 y16 e16 c17) (And.intro (SlE.len (Heapy.sle (v := u7_0) (xs := y6) (enc := enc44) hp7 0 rfl (fun _ => rfl) (by decide))) (And.intro c7 (And.intro c4 (And.intro (g_ff l_f) (And.intro (SlE.len hv1) (And.intro (g_ff l_f) (And.intro (g_ff l_f) (And.intro (F18_spec h _ rfl) trivial))))))))))))))))))) (hr := by kernel_rfl)⟩
set_option maxRecDepth 100000 in
theorem F8_law (H : ∀ (l1 : List (Int × Int)) (x2 : Int), (l1.length ≤ maxLen ∧ l1.length * 2 ≤ reachBytes) → (∀ y ∈ l1, W55 y) → (Lit.int .u8 x2).wf = true → F8 l1 x2 = some true) : Law Try.prog 8 10 [38, 5] := by
  intro s us hwf hro hT0
  obtain ⟨u0, vs0, rfl, t0, hT1⟩ := wts_cons hT0
  have k0 := wtv_oneS 3 (ks := [.slice 55]) (by kernel_rfl) (by kernel_rfl) t0
  obtain ⟨v1, r_l1, e_l1, q_l1, k0_0⟩ := sq_slice k0
  obtain ⟨l1, a_l1, m_l1, w_l1⟩ := q_l1 E55 W55 2 (by kernel_rfl) fun n cs H => E55_wt H
  obtain ⟨rfl, rfl⟩ := List.cons.inj e_l1
  have k0_0' := sq_nil k0_0
  obtain ⟨u1, vs1, rfl, t1, hT2⟩ := wts_cons hT1
  have k1 := wtv_oneS 1 (ks := [.int .u8]) (by kernel_rfl) (by kernel_rfl) t1
  obtain ⟨x2, r_x2, e_x2, w_x2, k1_0⟩ := sq_int k1
  obtain ⟨rfl, rfl⟩ := List.cons.inj e_x2
  have k1_0' := sq_nil k1_0
  obtain rfl := wts_nil hT2
  obtain ⟨h2, _, hc⟩ := F8_spec l1 x2 v1 s hwf a_l1 _ (H l1 x2 m_l1 w_l1 w_x2)
  refine (hc).mono ?_
  rintro v h' ⟨rfl, rfl⟩
  rfl
end
end Go.Proofs.Ytdoafmfkbddmlac.Abs
