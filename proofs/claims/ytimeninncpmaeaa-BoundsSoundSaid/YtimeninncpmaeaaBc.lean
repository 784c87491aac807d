/-
  Contracts, written by program: for each function what its call yields, and that it yields it.
-/
import Derived.Test.YtimeninncpmaeaaBcb
namespace Go.Proofs.Ytimeninncpmaeaa.Abs
open Go
set_option linter.unusedVariables false
set_option linter.unusedSimpArgs false

noncomputable section
/-! 46 jacquard/jacquardref28.Clashes -/
def F46_L : List Nat := [2, 3]
def F46_D : List (Nat × List (Nat × Nat)) := []
def F46_m1_1 : List Bool := (true :: true :: false :: false :: true :: false :: true :: true :: true :: false :: false :: (rp 22 true []))
def F46_m1_0 : List Bool := (true :: true :: false :: false :: true :: false :: false :: false :: true :: false :: false :: (rp 22 true []))
def F46_s1 (x1 : Int) (x2 : Int) (x3 : Bool) (l4 : List (Int × Int × Int × Int)) (l5 : List (Int × Int × Int × Int)) (l6 : List (Int × Int)) (x7 : Int) (x8 : Int) (l9 : List Int) (l10 : List Int) (l11 : List Int) (a14 : Int) (a18 : Int) (l19 : List (Int × Int)) : Option ((Int × (List (Int × Int))) ⊕ (List (Int × Int))) :=
  (bif decide (a18 < x1) then
   (Option.bind (F61 x1 x2 x3 l4 l5 l6 x7 x8 l9 l10 l11 a14 a18) fun y22 =>
   (bif y22 then
    (bif (!(okApp (l19.length + ([(a14, a18)] : List (Int × Int)).length) 16)) then none else
    some (.inl ((IntKind.i64.wrap (a18 + 1)), (l19 ++ ([(a14, a18)] : List (Int × Int))))))
   else
    some (.inl ((IntKind.i64.wrap (a18 + 1)), l19))))
  else
   some (.inr l19))
def F46_h1 (x1 : Int) (x2 : Int) (x3 : Bool) (v4 : Hd) (v5 : Hd) (v6 : Hd) (x7 : Int) (x8 : Int) (v9 : Hd) (v10 : Hd) (v11 : Hd) (a14 : Int) (h20 : AHeap) (u19 : Hd) (a18 : Int) (l19 : List (Int × Int)) : AS := ⟨(junk :: junk :: (.pointer (some ⟨2, 0, none⟩)) :: (.pointer (some ⟨3, 0, none⟩)) :: junk :: (sv u19) :: (.int .i64 a14) :: (.int .i64 a18) :: junk :: (.int .i64 x1) :: (.int .i64 a14) :: (rp 22 junk [])), [(2, [.int .i64 x1, .int .i64 x2, .bool x3, (sv v4), (sv v5), (sv v6)]), (3, [.int .i64 x7, .int .i64 x8, (sv v9), (sv v10), (sv v11)])], h20⟩
theorem F46_d1 : drawsOk F46_D (codeOf Try.prog 46 [1, 1, 0, 1, 0, 0, 1, 1, 0, 0, 1, 1, 0, 0]) = true := by kernel_rfl
def F46_x1_0 (h : AHeap) (x1 : Int) (x2 : Int) (x3 : Bool) (v4 : Hd) (v5 : Hd) (v6 : Hd) (x7 : Int) (x8 : Int) (v9 : Hd) (v10 : Hd) (v11 : Hd) (a14 : Int) (hx : AHeap) (w0 : Hd) (r : (List (Int × Int))) : AS := ⟨(junk :: junk :: (.pointer (some ⟨2, 0, none⟩)) :: (.pointer (some ⟨3, 0, none⟩)) :: junk :: (sv w0) :: junk :: junk :: junk :: (.int .i64 x1) :: (.int .i64 a14) :: (rp 22 junk [])), [(2, [.int .i64 x1, .int .i64 x2, .bool x3, (sv v4), (sv v5), (sv v6)]), (3, [.int .i64 x7, .int .i64 x8, (sv v9), (sv v10), (sv v11)])], hx⟩
def F46_i1 (h : AHeap) (x1 : Int) (x2 : Int) (x3 : Bool) (v4 : Hd) (v5 : Hd) (v6 : Hd) (x7 : Int) (x8 : Int) (v9 : Hd) (v10 : Hd) (v11 : Hd) (a14 : Int) (s : Int × (List (Int × Int))) (S : AS) : Prop := ∃ (h20 : AHeap) (u19 : Hd), Heapy h h20 [⟨u19, 86, 2, List.flatMap enc86 s.2⟩] ∧ Strict u19 ∧ S = (F46_h1 x1 x2 x3 v4 v5 v6 x7 x8 v9 v10 v11 a14 h20 u19 s.1 s.2)
def F46_x1 (h : AHeap) (x1 : Int) (x2 : Int) (x3 : Bool) (v4 : Hd) (v5 : Hd) (v6 : Hd) (x7 : Int) (x8 : Int) (v9 : Hd) (v10 : Hd) (v11 : Hd) (a14 : Int) (r : (List (Int × Int))) (e : Exit) (S : AS) : Prop := e = (.exit 2) ∧ ∃ (hx : AHeap) (w0 : Hd), Heapy h hx [⟨w0, 86, 2, List.flatMap enc86 r⟩] ∧ Strict w0 ∧ S = (F46_x1_0 h x1 x2 x3 v4 v5 v6 x7 x8 v9 v10 v11 a14 hx w0 r)
set_option maxRecDepth 100000 in
theorem F46_r1 (h : AHeap) (x1 : Int) (x2 : Int) (x3 : Bool) (l4 : List (Int × Int × Int × Int)) (v4 : Hd) (hv4 : SlE E57 4 h (sv v4) l4) (l5 : List (Int × Int × Int × Int)) (v5 : Hd) (hv5 : SlE E59 4 h (sv v5) l5) (l6 : List (Int × Int)) (v6 : Hd) (hv6 : SlE E61 2 h (sv v6) l6) (x7 : Int) (x8 : Int) (l9 : List Int) (v9 : Hd) (hv9 : SlE E3 1 h (sv v9) l9) (l10 : List Int) (v10 : Hd) (hv10 : SlE E3 1 h (sv v10) l10) (l11 : List Int) (v11 : Hd) (hv11 : SlE E3 1 h (sv v11) l11) (a14 : Int) (a18 : Int) (l19 : List (Int × Int)) (S : AS) (hI : (F46_i1 h x1 x2 x3 v4 v5 v6 x7 x8 v9 v10 v11 a14) (a18, l19) S) (o : (Int × (List (Int × Int))) ⊕ (List (Int × Int))) : F46_s1 x1 x2 x3 l4 l5 l6 x7 x8 l9 l10 l11 a14 a18 l19 = some o → Rd Try.prog (codeOf Try.prog 46 [1, 1, 0, 1, 0, 0, 1, 1, 0, 0, 1, 1, 0, 0]) (F46_i1 h x1 x2 x3 v4 v5 v6 x7 x8 v9 v10 v11 a14) (F46_x1 h x1 x2 x3 v4 v5 v6 x7 x8 v9 v10 v11 a14) S o := by
  obtain ⟨h20, u19, hp20, z19, rfl⟩ := hI
  unfold F46_s1
  refine dec_bif (fun c21 => ?_) (fun c21 => ?_)
  · refine bind_opt fun y22 e22 => ?_
    have kc24 := (ai (F61_spec x1 x2 x3 l4 l5 l6 x7 x8 l9 l10 l11 a14 a18 v4 v5 v6 v9 v10 v11 h20 (SlE.mono hv4 (Heapy.sub hp20) (E57_mono (Heapy.sub hp20))) (SlE.mono hv5 (Heapy.sub hp20) (E59_mono (Heapy.sub hp20))) (SlE.mono hv6 (Heapy.sub hp20) (E61_mono (Heapy.sub hp20))) (SlE.mono hv9 (Heapy.sub hp20) (E3_mono (Heapy.sub hp20))) (SlE.mono hv10 (Heapy.sub hp20) (E3_mono (Heapy.sub hp20))) (SlE.mono hv11 (Heapy.sub hp20) (E3_mono (Heapy.sub hp20))) _ e22) (ai c21 trivial))
    refine dec_bif (fun c24 => ?_) (fun c24 => ?_)
    · obtain ⟨v25, h25, m25, hp25, _⟩ := Heapy.build (P := Try.prog) hp20 (t := 71) (e := 86) (len := 1) (n := 2) (parts := [(0, .agg #[.int .i64 a14, .int .i64 a18])]) (cells := List.flatMap enc86 ([(a14, a18)] : List (Int × Int))) (by kernel_rfl) rfl
      refine guard_ok fun g27 => ?_
      obtain ⟨v28, h28, m28, q28, _, w28⟩ := Heapy.append hp25 (show mkInfo Try.prog 71 = some (86, 2, 16, [.int .i64 0, .int .i64 0]) by kernel_rfl) 1 (v := u19) (cells := List.flatMap enc86 l19) rfl (Y := (sv v25)) (SlE.src (enc := enc86) (c := 2) (Heapy.sle (v := v25) (xs := ([(a14, a18)] : List (Int × Int))) (enc := enc86) hp25 0 rfl (fun _ => rfl) (by decide)) (fun _ => rfl)) (flatMap_length (enc := enc86) (c := 2) (fun _ => rfl) _) (by rw [Heapy.vn (v := u19) (xs := l19) (enc := enc86) hp25 1 rfl (fun _ => rfl) (by decide)]; simpa using g27)
      have z28 : Strict v28 := w28 z19
      have hp28 : Heapy h h28 [⟨v25, 86, 2, List.flatMap enc86 ([(a14, a18)] : List (Int × Int))⟩, ⟨v28, 86, 2, List.flatMap enc86 (l19 ++ ([(a14, a18)] : List (Int × Int)))⟩] := by rw [← List.flatMap_append] at q28; exact q28
      intro hr
      obtain rfl := Option.some.inj hr
      exact ⟨(F46_h1 x1 x2 x3 v4 v5 v6 x7 x8 v9 v10 v11 a14 h28 v28 (IntKind.i64.wrap (a18 + 1)) (l19 ++ ([(a14, a18)] : List (Int × Int)))), ⟨h28, v28, (Heapy.pick hp28 [1] (by decide)), z28, rfl⟩, pEnd_sound good (L := F46_L) (D := F46_D) (its := [.g, .g, .g, .g, (.b true), .g, .g, .g, .g, (.c (.bool y22) h20), (.b true), .g, .g, .g, .g, (.mm (sv v25) h25), (.mm (sv v28) h28), .g, .g, .g, .g]) (ds := F46_m1_0) (ks := []) (e := .normal) (s2 := (F46_h1 x1 x2 x3 v4 v5 v6 x7 x8 v9 v10 v11 a14 h28 v28 (IntKind.i64.wrap (a18 + 1)) (l19 ++ ([(a14, a18)] : List (Int × Int))))) (hC := (ai m28 (ai m25 (ai c24 kc24)))) (hd := F46_d1) (h := by kernel_rfl)⟩
    · intro hr
      obtain rfl := Option.some.inj hr
      exact ⟨(F46_h1 x1 x2 x3 v4 v5 v6 x7 x8 v9 v10 v11 a14 h20 u19 (IntKind.i64.wrap (a18 + 1)) l19), ⟨h20, u19, (Heapy.pick hp20 [0] (by decide)), z19, rfl⟩, pEnd_sound good (L := F46_L) (D := F46_D) (its := [.g, .g, .g, .g, (.b true), .g, .g, .g, .g, (.c (.bool y22) h20), (.b false), .g, .g, .g]) (ds := F46_m1_0) (ks := []) (e := .normal) (s2 := (F46_h1 x1 x2 x3 v4 v5 v6 x7 x8 v9 v10 v11 a14 h20 u19 (IntKind.i64.wrap (a18 + 1)) l19)) (hC := (ai c24 kc24)) (hd := F46_d1) (h := by kernel_rfl)⟩
  · intro hr
    obtain rfl := Option.some.inj hr
    refine ⟨(.exit 2), (F46_x1_0 h x1 x2 x3 v4 v5 v6 x7 x8 v9 v10 v11 a14 h20 u19 (l19 : (List (Int × Int)))), (by intro hh; cases hh), ?_, pEnd_sound good (L := F46_L) (D := F46_D) (its := [.g, .g, .g, .g, (.b false)]) (ds := F46_m1_1) (ks := []) (e := (.exit 2)) (s2 := (F46_x1_0 h x1 x2 x3 v4 v5 v6 x7 x8 v9 v10 v11 a14 h20 u19 (l19 : (List (Int × Int))))) (hC := (ai c21 trivial)) (hd := F46_d1) (h := by kernel_rfl)⟩
    exact ⟨rfl, h20, u19, (Heapy.pick hp20 [0] (by decide)), z19, rfl⟩
theorem F46_l1 (h : AHeap) (x1 : Int) (x2 : Int) (x3 : Bool) (l4 : List (Int × Int × Int × Int)) (v4 : Hd) (hv4 : SlE E57 4 h (sv v4) l4) (l5 : List (Int × Int × Int × Int)) (v5 : Hd) (hv5 : SlE E59 4 h (sv v5) l5) (l6 : List (Int × Int)) (v6 : Hd) (hv6 : SlE E61 2 h (sv v6) l6) (x7 : Int) (x8 : Int) (l9 : List Int) (v9 : Hd) (hv9 : SlE E3 1 h (sv v9) l9) (l10 : List Int) (v10 : Hd) (hv10 : SlE E3 1 h (sv v10) l10) (l11 : List Int) (v11 : Hd) (hv11 : SlE E3 1 h (sv v11) l11) (a14 : Int) (x : Int × (List (Int × Int))) (r : (List (Int × Int))) (hl : loopO (fun (s : Int × (List (Int × Int))) => F46_s1 x1 x2 x3 l4 l5 l6 x7 x8 l9 l10 l11 a14 s.1 s.2) x = some r) (S : AS) (hI : (F46_i1 h x1 x2 x3 v4 v5 v6 x7 x8 v9 v10 v11 a14) x S) : ∃ e S', (F46_x1 h x1 x2 x3 v4 v5 v6 x7 x8 v9 v10 v11 a14) r e S' ∧ AWp Try.prog (.loop (codeOf Try.prog 46 [1, 1, 0, 1, 0, 0, 1, 1, 0, 0, 1, 1, 0, 0])) (Ends1 e S') S :=
  loop_rel (fun x S hI => F46_r1 h x1 x2 x3 l4 v4 hv4 l5 v5 hv5 l6 v6 hv6 x7 x8 l9 v9 hv9 l10 v10 hv10 l11 v11 hv11 a14 x.1 x.2 S hI) hl hI
def F46_m2_1 : List Bool := (rp 5 true (false :: (rp 27 true [])))
def F46_m2_0 : List Bool := (true :: true :: false :: false :: true :: false :: true :: true :: true :: false :: false :: (rp 22 true []))
def F46_s2 (x1 : Int) (x2 : Int) (x3 : Bool) (l4 : List (Int × Int × Int × Int)) (l5 : List (Int × Int × Int × Int)) (l6 : List (Int × Int)) (x7 : Int) (x8 : Int) (l9 : List Int) (l10 : List Int) (l11 : List Int) (a14 : Int) (l15 : List (Int × Int)) : Option ((Int × (List (Int × Int))) ⊕ (List (Int × Int))) :=
  (bif decide (a14 < x1) then
   (Option.bind (loopO (fun (s : Int × (List (Int × Int))) => F46_s1 x1 x2 x3 l4 l5 l6 x7 x8 l9 l10 l11 a14 s.1 s.2) (a14, l15)) fun y30 =>
   some (.inl ((IntKind.i64.wrap (a14 + 1)), y30)))
  else
   some (.inr l15))
def F46_h2 (x1 : Int) (x2 : Int) (x3 : Bool) (v4 : Hd) (v5 : Hd) (v6 : Hd) (x7 : Int) (x8 : Int) (v9 : Hd) (v10 : Hd) (v11 : Hd) (h16 : AHeap) (u15 : Hd) (a14 : Int) (l15 : List (Int × Int)) : AS := ⟨(junk :: junk :: (.pointer (some ⟨2, 0, none⟩)) :: (.pointer (some ⟨3, 0, none⟩)) :: junk :: (sv u15) :: junk :: junk :: junk :: (.int .i64 x1) :: (.int .i64 a14) :: (rp 22 junk [])), [(2, [.int .i64 x1, .int .i64 x2, .bool x3, (sv v4), (sv v5), (sv v6)]), (3, [.int .i64 x7, .int .i64 x8, (sv v9), (sv v10), (sv v11)])], h16⟩
theorem F46_d2 : drawsOk F46_D (codeOf Try.prog 46 [1, 1, 0, 1, 0, 0]) = true := by kernel_rfl
def F46_x2_0 (h : AHeap) (hx : AHeap) (w0 : Hd) (r : (List (Int × Int))) : AS := ⟨(rp 5 junk ((sv w0) :: (rp 27 junk []))), [], hx⟩
def F46_i2 (h : AHeap) (x1 : Int) (x2 : Int) (x3 : Bool) (v4 : Hd) (v5 : Hd) (v6 : Hd) (x7 : Int) (x8 : Int) (v9 : Hd) (v10 : Hd) (v11 : Hd) (s : Int × (List (Int × Int))) (S : AS) : Prop := ∃ (h16 : AHeap) (u15 : Hd), Heapy h h16 [⟨u15, 86, 2, List.flatMap enc86 s.2⟩] ∧ Strict u15 ∧ S = (F46_h2 x1 x2 x3 v4 v5 v6 x7 x8 v9 v10 v11 h16 u15 s.1 s.2)
def F46_x2 (h : AHeap) (r : (List (Int × Int))) (e : Exit) (S : AS) : Prop := e = (.exit 0) ∧ ∃ (hx : AHeap) (w0 : Hd), Heapy h hx [⟨w0, 86, 2, List.flatMap enc86 r⟩] ∧ Strict w0 ∧ S = (F46_x2_0 h hx w0 r)
set_option maxRecDepth 100000 in
theorem F46_r2 (h : AHeap) (x1 : Int) (x2 : Int) (x3 : Bool) (l4 : List (Int × Int × Int × Int)) (v4 : Hd) (hv4 : SlE E57 4 h (sv v4) l4) (l5 : List (Int × Int × Int × Int)) (v5 : Hd) (hv5 : SlE E59 4 h (sv v5) l5) (l6 : List (Int × Int)) (v6 : Hd) (hv6 : SlE E61 2 h (sv v6) l6) (x7 : Int) (x8 : Int) (l9 : List Int) (v9 : Hd) (hv9 : SlE E3 1 h (sv v9) l9) (l10 : List Int) (v10 : Hd) (hv10 : SlE E3 1 h (sv v10) l10) (l11 : List Int) (v11 : Hd) (hv11 : SlE E3 1 h (sv v11) l11) (a14 : Int) (l15 : List (Int × Int)) (S : AS) (hI : (F46_i2 h x1 x2 x3 v4 v5 v6 x7 x8 v9 v10 v11) (a14, l15) S) (o : (Int × (List (Int × Int))) ⊕ (List (Int × Int))) : F46_s2 x1 x2 x3 l4 l5 l6 x7 x8 l9 l10 l11 a14 l15 = some o → Rd Try.prog (codeOf Try.prog 46 [1, 1, 0, 1, 0, 0]) (F46_i2 h x1 x2 x3 v4 v5 v6 x7 x8 v9 v10 v11) (F46_x2 h) S o := by
  obtain ⟨h16, u15, hp16, z15, rfl⟩ := hI
  unfold F46_s2
  refine dec_bif (fun c17 => ?_) (fun c17 => ?_)
  · refine bind_opt fun y30 e30 => ?_
    obtain ⟨ee30, SS30, hX30, hA30⟩ := F46_l1 h x1 x2 x3 l4 v4 hv4 l5 v5 hv5 l6 v6 hv6 x7 x8 l9 v9 hv9 l10 v10 hv10 l11 v11 hv11 a14 (a14, l15) y30 e30 (F46_h1 x1 x2 x3 v4 v5 v6 x7 x8 v9 v10 v11 a14 h16 u15 a14 l15) ⟨h16, u15, (Heapy.pick hp16 [0] (by decide)), z15, rfl⟩
    obtain ⟨rfl, h31, w0_31, hp31, zw0_31, rfl⟩ := hX30
    intro hr
    obtain rfl := Option.some.inj hr
    exact ⟨(F46_h2 x1 x2 x3 v4 v5 v6 x7 x8 v9 v10 v11 h31 w0_31 (IntKind.i64.wrap (a14 + 1)) y30), ⟨h31, w0_31, (Heapy.pick hp31 [0] (by decide)), zw0_31, rfl⟩, pEnd_sound good (L := F46_L) (D := F46_D) (its := [.g, (.b true), .g, .g, .g, .g, (.l F46_m1_0 [] (.exit 2) (F46_x1_0 h x1 x2 x3 v4 v5 v6 x7 x8 v9 v10 v11 a14 h31 w0_31 y30)), .g, .g]) (ds := F46_m2_0) (ks := []) (e := .normal) (s2 := (F46_h2 x1 x2 x3 v4 v5 v6 x7 x8 v9 v10 v11 h31 w0_31 (IntKind.i64.wrap (a14 + 1)) y30)) (hC := (ai hA30 (ai c17 trivial))) (hd := F46_d2) (h := by kernel_rfl)⟩
  · intro hr
    obtain rfl := Option.some.inj hr
    refine ⟨(.exit 0), (F46_x2_0 h h16 u15 (l15 : (List (Int × Int)))), (by intro hh; cases hh), ?_, pEnd_sound good (L := F46_L) (D := F46_D) (its := [.g, (.b false)]) (ds := F46_m2_1) (ks := [2, 3]) (e := (.exit 0)) (s2 := (F46_x2_0 h h16 u15 (l15 : (List (Int × Int))))) (hC := (ai c17 trivial)) (hd := F46_d2) (h := by kernel_rfl)⟩
    exact ⟨rfl, h16, u15, (Heapy.pick hp16 [0] (by decide)), z15, rfl⟩
theorem F46_l2 (h : AHeap) (x1 : Int) (x2 : Int) (x3 : Bool) (l4 : List (Int × Int × Int × Int)) (v4 : Hd) (hv4 : SlE E57 4 h (sv v4) l4) (l5 : List (Int × Int × Int × Int)) (v5 : Hd) (hv5 : SlE E59 4 h (sv v5) l5) (l6 : List (Int × Int)) (v6 : Hd) (hv6 : SlE E61 2 h (sv v6) l6) (x7 : Int) (x8 : Int) (l9 : List Int) (v9 : Hd) (hv9 : SlE E3 1 h (sv v9) l9) (l10 : List Int) (v10 : Hd) (hv10 : SlE E3 1 h (sv v10) l10) (l11 : List Int) (v11 : Hd) (hv11 : SlE E3 1 h (sv v11) l11) (x : Int × (List (Int × Int))) (r : (List (Int × Int))) (hl : loopO (fun (s : Int × (List (Int × Int))) => F46_s2 x1 x2 x3 l4 l5 l6 x7 x8 l9 l10 l11 s.1 s.2) x = some r) (S : AS) (hI : (F46_i2 h x1 x2 x3 v4 v5 v6 x7 x8 v9 v10 v11) x S) : ∃ e S', (F46_x2 h) r e S' ∧ AWp Try.prog (.loop (codeOf Try.prog 46 [1, 1, 0, 1, 0, 0])) (Ends1 e S') S :=
  loop_rel (fun x S hI => F46_r2 h x1 x2 x3 l4 v4 hv4 l5 v5 hv5 l6 v6 hv6 x7 x8 l9 v9 hv9 l10 v10 hv10 l11 v11 hv11 x.1 x.2 S hI) hl hI
def F46 (x1 : Int) (x2 : Int) (x3 : Bool) (l4 : List (Int × Int × Int × Int)) (l5 : List (Int × Int × Int × Int)) (l6 : List (Int × Int)) (x7 : Int) (x8 : Int) (l9 : List Int) (l10 : List Int) (l11 : List Int) : Option ((List (Int × Int))) :=
  (Option.bind (loopO (fun (s : Int × (List (Int × Int))) => F46_s2 x1 x2 x3 l4 l5 l6 x7 x8 l9 l10 l11 s.1 s.2) (0, ([] : List (Int × Int)))) fun y32 =>
  some (y32))
set_option maxRecDepth 100000 in
theorem F46_spec (x1 : Int) (x2 : Int) (x3 : Bool) (l4 : List (Int × Int × Int × Int)) (l5 : List (Int × Int × Int × Int)) (l6 : List (Int × Int)) (x7 : Int) (x8 : Int) (l9 : List Int) (l10 : List Int) (l11 : List Int) (v4 : Hd) (v5 : Hd) (v6 : Hd) (v9 : Hd) (v10 : Hd) (v11 : Hd) (h : AHeap) (hw : h.wf) (hv4 : SlE E57 4 h (sv v4) l4) (hv5 : SlE E59 4 h (sv v5) l5) (hv6 : SlE E61 2 h (sv v6) l6) (hv9 : SlE E3 1 h (sv v9) l9) (hv10 : SlE E3 1 h (sv v10) l10) (hv11 : SlE E3 1 h (sv v11) l11) (r : (List (Int × Int))) : F46 x1 x2 x3 l4 l5 l6 x7 x8 l9 l10 l11 = some r → ∃ (ur0 : Hd) (h' : AHeap), Heapy h h' [⟨ur0, 86, 2, List.flatMap enc86 r⟩] ∧ Strict ur0 ∧ ACalls Try.prog 46 [.agg #[.int .i64 x1, .int .i64 x2, .bool x3, (sv v4), (sv v5), (sv v6)], .agg #[.int .i64 x7, .int .i64 x8, (sv v9), (sv v10), (sv v11)]] h (fun v' h'' => v' = ((sv ur0) : Value) ∧ h'' = h') := by
  unfold F46
  refine bind_opt fun y32 e32 => ?_
  have hp12 : Heapy h h [⟨⟨none, 0, 0⟩, 86, 2, List.flatMap enc86 ([] : List (Int × Int))⟩] := Heapy.nil (Heapy.refl hw) 86 2
  obtain ⟨ee32, SS32, hX32, hA32⟩ := F46_l2 h x1 x2 x3 l4 v4 hv4 l5 v5 hv5 l6 v6 hv6 x7 x8 l9 v9 hv9 l10 v10 hv10 l11 v11 hv11 (0, ([] : List (Int × Int))) y32 e32 (F46_h2 x1 x2 x3 v4 v5 v6 x7 x8 v9 v10 v11 h ⟨none, 0, 0⟩ 0 ([] : List (Int × Int))) ⟨h, ⟨none, 0, 0⟩, (Heapy.pick hp12 [0] (by decide)), Strict.nil, rfl⟩
  obtain ⟨rfl, h33, w0_33, hp33, zw0_33, rfl⟩ := hX32
  intro hr
  obtain rfl := Option.some.inj hr
  exact ⟨w0_33, h33, Heapy.pick hp33 [0] (by decide), zw0_33, pFun_sound good tab_ok (f := 46) (its := [.g, .g, .g, .g, .g, .g, .g, (.l F46_m2_0 [] (.exit 0) (F46_x2_0 h h33 w0_33 y32)), .g, .g]) (args := [.agg #[.int .i64 x1, .int .i64 x2, .bool x3, (sv v4), (sv v5), (sv v6)], .agg #[.int .i64 x7, .int .i64 x8, (sv v9), (sv v10), (sv v11)]]) (h := h) (h' := h33) (v := (sv w0_33)) (hC := (ai hA32 trivial)) (hr := by kernel_rfl)⟩
/-! 22 jacquard/jacquardref28.Legal -/
def F22_L : List Nat := [2, 3]
def F22_D : List (Nat × List (Nat × Nat)) := []
def F22_m1_2 : List Bool := (true :: true :: false :: false :: (rp 43 true []))
def F22_m1_1 : List Bool := (true :: true :: false :: false :: (rp 15 true (false :: false :: (rp 26 true []))))
def F22_m1_0 : List Bool := (rp 4 true (false :: (rp 42 true [])))
def F22_s1 (x3 : Bool) (l10 : List Int) (a16 : Int) : Option (Int ⊕ Nat) :=
  (bif decide (a16 < (l10.length : Int)) then
   (bif (!x3) then
    (Option.bind (at? l10 a16) fun y19 =>
    (bif (y19 != 0) then
     some (.inr 0)
    else
     some (.inl (IntKind.i64.wrap (a16 + 1)))))
   else
    some (.inl (IntKind.i64.wrap (a16 + 1))))
  else
   some (.inr 1))
def F22_h1 (h : AHeap) (x1 : Int) (x2 : Int) (x3 : Bool) (v4 : Hd) (v5 : Hd) (v6 : Hd) (x7 : Int) (x8 : Int) (v9 : Hd) (l10 : List Int) (v10 : Hd) (v11 : Hd)  (a16 : Int) : AS := ⟨(junk :: junk :: (.pointer (some ⟨2, 0, none⟩)) :: (.pointer (some ⟨3, 0, none⟩)) :: (rp 15 junk ((.int .i64 (l10.length : Int)) :: (.int .i64 a16) :: (rp 26 junk [])))), [(2, [.int .i64 x1, .int .i64 x2, .bool x3, (sv v4), (sv v5), (sv v6)]), (3, [.int .i64 x7, .int .i64 x8, (sv v9), (sv v10), (sv v11)])], h⟩
theorem F22_d1 : drawsOk F22_D (codeOf Try.prog 22 [1, 1, 0, 1, 0, 0]) = true := by kernel_rfl
def F22_x1_0 (h : AHeap) (x1 : Int) (x2 : Int) (x3 : Bool) (v4 : Hd) (v5 : Hd) (v6 : Hd) (x7 : Int) (x8 : Int) (v9 : Hd) (v10 : Hd) (v11 : Hd)  (r : Nat) : AS := ⟨(rp 4 junk ((.bool false) :: (rp 42 junk []))), [], h⟩
def F22_x1_1 (h : AHeap) (x1 : Int) (x2 : Int) (x3 : Bool) (v4 : Hd) (v5 : Hd) (v6 : Hd) (x7 : Int) (x8 : Int) (v9 : Hd) (v10 : Hd) (v11 : Hd)  (r : Nat) : AS := ⟨(junk :: junk :: (.pointer (some ⟨2, 0, none⟩)) :: (.pointer (some ⟨3, 0, none⟩)) :: (rp 43 junk [])), [(2, [.int .i64 x1, .int .i64 x2, .bool x3, (sv v4), (sv v5), (sv v6)]), (3, [.int .i64 x7, .int .i64 x8, (sv v9), (sv v10), (sv v11)])], h⟩
def F22_x1 (h : AHeap) (x1 : Int) (x2 : Int) (x3 : Bool) (v4 : Hd) (v5 : Hd) (v6 : Hd) (x7 : Int) (x8 : Int) (v9 : Hd) (v10 : Hd) (v11 : Hd) (r : Nat) : Exit × AS := (bif Nat.beq r 0 then (.ret, (F22_x1_0 h x1 x2 x3 v4 v5 v6 x7 x8 v9 v10 v11 r)) else ((.exit 0), (F22_x1_1 h x1 x2 x3 v4 v5 v6 x7 x8 v9 v10 v11 r)))
set_option maxRecDepth 100000 in
theorem F22_r1 (h : AHeap) (x1 : Int) (x2 : Int) (x3 : Bool) (v4 : Hd) (v5 : Hd) (v6 : Hd) (x7 : Int) (x8 : Int) (v9 : Hd) (l10 : List Int) (v10 : Hd) (hv10 : SlE E3 1 h (sv v10) l10) (v11 : Hd) (a16 : Int) (o : Int ⊕ Nat) : F22_s1 x3 l10 a16 = some o → RdF Try.prog (codeOf Try.prog 22 [1, 1, 0, 1, 0, 0]) (fun (s : Int) => (F22_h1 h x1 x2 x3 v4 v5 v6 x7 x8 v9 l10 v10 v11 s)) (F22_x1 h x1 x2 x3 v4 v5 v6 x7 x8 v9 v10 v11) (F22_h1 h x1 x2 x3 v4 v5 v6 x7 x8 v9 l10 v10 v11 a16) o := by
  unfold F22_s1
  refine dec_bif (fun c17 => ?_) (fun c17 => ?_)
  · have kc18 := (ai c17 trivial)
    refine dec_bif (fun c18 => ?_) (fun c18 => ?_)
    · refine bind_opt fun y19 e19 => ?_
      obtain ⟨id19, off19, g19, cs19, ix19, at19, rfl⟩ := SlE.at hv10 e19
      have kc20 := (ai c18 (ai (g_tt c18) (ai (At.one (P := Try.prog) (t := 3) (v := .int .i64 y19) at19 (by kernel_rfl) 0 rfl rfl) (ai (g_tt c18) (ai ix19 (ai (g_tt c18) (ai (g_tt c18) (ai (g_tt c18) (ai (g_tt c18) kc18)))))))))
      refine dec_bif (fun c20 => ?_) (fun c20 => ?_)
      · intro hr
        obtain rfl := Option.some.inj hr
        show AWp Try.prog _ (Ends1 ((F22_x1 h x1 x2 x3 v4 v5 v6 x7 x8 v9 v10 v11) (0 : Nat)).1 ((F22_x1 h x1 x2 x3 v4 v5 v6 x7 x8 v9 v10 v11) (0 : Nat)).2) _
        exact pEnd_sound good (L := F22_L) (D := F22_D) (its := [.g, (.b true), .g, .g, .g, .g, .g, .g, (.w .g), (.w .g), (.w .g), (.w (.ix id19 off19 g19)), (.w (.ld (.int .i64 y19))), (.w .g), (.p true), (.b true), .g]) (ds := F22_m1_0) (ks := [2, 3]) (e := ((F22_x1 h x1 x2 x3 v4 v5 v6 x7 x8 v9 v10 v11) (0 : Nat)).1) (s2 := ((F22_x1 h x1 x2 x3 v4 v5 v6 x7 x8 v9 v10 v11) (0 : Nat)).2) (hC := (ai c20 kc20)) (hd := F22_d1) (h := by kernel_rfl)
      · intro hr
        obtain rfl := Option.some.inj hr
        show AWp Try.prog _ (Ends1 .normal (F22_h1 h x1 x2 x3 v4 v5 v6 x7 x8 v9 l10 v10 v11 (IntKind.i64.wrap (a16 + 1)))) _
        exact pEnd_sound good (L := F22_L) (D := F22_D) (its := [.g, (.b true), .g, .g, .g, .g, .g, .g, (.w .g), (.w .g), (.w .g), (.w (.ix id19 off19 g19)), (.w (.ld (.int .i64 y19))), (.w .g), (.p true), (.b false), .g, .g]) (ds := F22_m1_1) (ks := []) (e := .normal) (s2 := (F22_h1 h x1 x2 x3 v4 v5 v6 x7 x8 v9 l10 v10 v11 (IntKind.i64.wrap (a16 + 1)))) (hC := (ai c20 kc20)) (hd := F22_d1) (h := by kernel_rfl)
    · intro hr
      obtain rfl := Option.some.inj hr
      show AWp Try.prog _ (Ends1 .normal (F22_h1 h x1 x2 x3 v4 v5 v6 x7 x8 v9 l10 v10 v11 (IntKind.i64.wrap (a16 + 1)))) _
      exact pEnd_sound good (L := F22_L) (D := F22_D) (its := [.g, (.b true), .g, .g, .g, .g, .g, .g, .n, .n, .n, .n, .n, .n, (.p false), (.b false), .g, .g]) (ds := F22_m1_1) (ks := []) (e := .normal) (s2 := (F22_h1 h x1 x2 x3 v4 v5 v6 x7 x8 v9 l10 v10 v11 (IntKind.i64.wrap (a16 + 1)))) (hC := (ai l_f (ai c18 (ai (g_ft c18) (ai (g_ft c18) (ai (g_ft c18) (ai (g_ft c18) (ai (g_ft c18) (ai (g_ft c18) kc18))))))))) (hd := F22_d1) (h := by kernel_rfl)
  · intro hr
    obtain rfl := Option.some.inj hr
    show AWp Try.prog _ (Ends1 ((F22_x1 h x1 x2 x3 v4 v5 v6 x7 x8 v9 v10 v11) (1 : Nat)).1 ((F22_x1 h x1 x2 x3 v4 v5 v6 x7 x8 v9 v10 v11) (1 : Nat)).2) _
    exact pEnd_sound good (L := F22_L) (D := F22_D) (its := [.g, (.b false)]) (ds := F22_m1_2) (ks := []) (e := ((F22_x1 h x1 x2 x3 v4 v5 v6 x7 x8 v9 v10 v11) (1 : Nat)).1) (s2 := ((F22_x1 h x1 x2 x3 v4 v5 v6 x7 x8 v9 v10 v11) (1 : Nat)).2) (hC := (ai c17 trivial)) (hd := F22_d1) (h := by kernel_rfl)
theorem F22_l1_0 (h : AHeap) (x1 : Int) (x2 : Int) (x3 : Bool) (v4 : Hd) (v5 : Hd) (v6 : Hd) (x7 : Int) (x8 : Int) (v9 : Hd) (l10 : List Int) (v10 : Hd) (hv10 : SlE E3 1 h (sv v10) l10) (v11 : Hd) (x : Int) (r : Nat) (hl : loopO (fun (s : Int) => F22_s1 x3 l10 s) x = some r) (q0 : Nat.beq r 0 = true) : AWp Try.prog (.loop (codeOf Try.prog 22 [1, 1, 0, 1, 0, 0])) (Ends1 .ret (F22_x1_0 h x1 x2 x3 v4 v5 v6 x7 x8 v9 v10 v11 r)) ((fun (s : Int) => (F22_h1 h x1 x2 x3 v4 v5 v6 x7 x8 v9 l10 v10 v11 s)) x) := by
  have k := loop_fun (P := Try.prog) (c := (codeOf Try.prog 22 [1, 1, 0, 1, 0, 0])) (step := (fun (s : Int) => F22_s1 x3 l10 s)) (hd := (fun (s : Int) => (F22_h1 h x1 x2 x3 v4 v5 v6 x7 x8 v9 l10 v10 v11 s))) (X := (F22_x1 h x1 x2 x3 v4 v5 v6 x7 x8 v9 v10 v11)) (by intro t; unfold F22_x1; cases Nat.beq t 0 <;> (intro h; cases h)) (fun x => F22_r1 h x1 x2 x3 v4 v5 v6 x7 x8 v9 l10 v10 hv10 v11 x) hl
  simp only [F22_x1, q0, cond_true, cond_false] at k
  exact k
theorem F22_l1_1 (h : AHeap) (x1 : Int) (x2 : Int) (x3 : Bool) (v4 : Hd) (v5 : Hd) (v6 : Hd) (x7 : Int) (x8 : Int) (v9 : Hd) (l10 : List Int) (v10 : Hd) (hv10 : SlE E3 1 h (sv v10) l10) (v11 : Hd) (x : Int) (r : Nat) (hl : loopO (fun (s : Int) => F22_s1 x3 l10 s) x = some r) (q0 : Nat.beq r 0 = false) : AWp Try.prog (.loop (codeOf Try.prog 22 [1, 1, 0, 1, 0, 0])) (Ends1 (.exit 0) (F22_x1_1 h x1 x2 x3 v4 v5 v6 x7 x8 v9 v10 v11 r)) ((fun (s : Int) => (F22_h1 h x1 x2 x3 v4 v5 v6 x7 x8 v9 l10 v10 v11 s)) x) := by
  have k := loop_fun (P := Try.prog) (c := (codeOf Try.prog 22 [1, 1, 0, 1, 0, 0])) (step := (fun (s : Int) => F22_s1 x3 l10 s)) (hd := (fun (s : Int) => (F22_h1 h x1 x2 x3 v4 v5 v6 x7 x8 v9 l10 v10 v11 s))) (X := (F22_x1 h x1 x2 x3 v4 v5 v6 x7 x8 v9 v10 v11)) (by intro t; unfold F22_x1; cases Nat.beq t 0 <;> (intro h; cases h)) (fun x => F22_r1 h x1 x2 x3 v4 v5 v6 x7 x8 v9 l10 v10 hv10 v11 x) hl
  simp only [F22_x1, q0, cond_true, cond_false] at k
  exact k
def F22 (x1 : Int) (x2 : Int) (x3 : Bool) (l4 : List (Int × Int × Int × Int)) (l5 : List (Int × Int × Int × Int)) (l6 : List (Int × Int)) (x7 : Int) (x8 : Int) (l9 : List Int) (l10 : List Int) (l11 : List Int) : Option (Bool) :=
  (Option.bind (F44 x1 x2 x3 l4 l5 l6 x7 x8 l9 l10 l11) fun y12 =>
  (bif (!y12) then
   some (false)
  else
   (bif decide (x8 < x7) then
    some (false)
   else
    (Option.bind (loopO (fun (s : Int) => F22_s1 x3 l10 s) 0) fun y21 =>
    (bif (Nat.beq y21 0) then
     some (false)
    else
     (Option.bind (F45 x1 x2 x3 l4 l5 l6 x7 x8 l9 l10 l11) fun y23 =>
     (bif ((y23.length : Int) == 0) then
      (Option.bind (F46 x1 x2 x3 l4 l5 l6 x7 x8 l9 l10 l11) fun y27 =>
      some ((y27.length : Int) == 0))
     else
      some (false))))))))
set_option maxRecDepth 100000 in
theorem F22_spec (x1 : Int) (x2 : Int) (x3 : Bool) (l4 : List (Int × Int × Int × Int)) (l5 : List (Int × Int × Int × Int)) (l6 : List (Int × Int)) (x7 : Int) (x8 : Int) (l9 : List Int) (l10 : List Int) (l11 : List Int) (v4 : Hd) (v5 : Hd) (v6 : Hd) (v9 : Hd) (v10 : Hd) (v11 : Hd) (h : AHeap) (hw : h.wf) (hv4 : SlE E57 4 h (sv v4) l4) (hv5 : SlE E59 4 h (sv v5) l5) (hv6 : SlE E61 2 h (sv v6) l6) (hv9 : SlE E3 1 h (sv v9) l9) (hv10 : SlE E3 1 h (sv v10) l10) (hv11 : SlE E3 1 h (sv v11) l11) (r : Bool) : F22 x1 x2 x3 l4 l5 l6 x7 x8 l9 l10 l11 = some r → ∃ (h' : AHeap), Heapy h h' [] ∧ ACalls Try.prog 22 [.agg #[.int .i64 x1, .int .i64 x2, .bool x3, (sv v4), (sv v5), (sv v6)], .agg #[.int .i64 x7, .int .i64 x8, (sv v9), (sv v10), (sv v11)]] h (fun v' h'' => v' = (.bool r : Value) ∧ h'' = h') := by
  unfold F22
  refine bind_opt fun y12 e12 => ?_
  have kc14 := (ai (F44_spec x1 x2 x3 l4 l5 l6 x7 x8 l9 l10 l11 v4 v5 v6 v9 v10 v11 h hv4 hv5 hv6 hv9 hv10 hv11 _ e12) trivial)
  refine dec_bif (fun c14 => ?_) (fun c14 => ?_)
  · intro hr
    obtain rfl := Option.some.inj hr
    exact ⟨h, Heapy.pick (Heapy.refl hw) [] (by decide), pFun_sound good tab_ok (f := 22) (its := [.g, .g, .g, .g, .g, (.c (.bool y12) h), .g, .g, .n, .n, .n, .n, .n, (.p true), (.b true), .g]) (args := [.agg #[.int .i64 x1, .int .i64 x2, .bool x3, (sv v4), (sv v5), (sv v6)], .agg #[.int .i64 x7, .int .i64 x8, (sv v9), (sv v10), (sv v11)]]) (h := h) (h' := h) (v := .bool false) (hC := (ai l_t (ai c14 (ai (g_tf c14) (ai (g_tf c14) (ai (g_tf c14) (ai (g_tf c14) (ai (g_tf c14) kc14)))))))) (hr := by kernel_rfl)⟩
  · have kc15 := (ai c14 (ai (g_ff c14) (ai (g_ff c14) (ai (g_ff c14) (ai (g_ff c14) (ai (g_ff c14) kc14))))))
    refine dec_bif (fun c15 => ?_) (fun c15 => ?_)
    · intro hr
      obtain rfl := Option.some.inj hr
      exact ⟨h, Heapy.pick (Heapy.refl hw) [] (by decide), pFun_sound good tab_ok (f := 22) (its := [.g, .g, .g, .g, .g, (.c (.bool y12) h), .g, .g, (.w .g), (.w .g), (.w .g), (.w .g), (.w .g), (.p false), (.b true), .g]) (args := [.agg #[.int .i64 x1, .int .i64 x2, .bool x3, (sv v4), (sv v5), (sv v6)], .agg #[.int .i64 x7, .int .i64 x8, (sv v9), (sv v10), (sv v11)]]) (h := h) (h' := h) (v := .bool false) (hC := (ai c15 kc15)) (hr := by kernel_rfl)⟩
    · refine bind_opt fun y21 e21 => ?_
      have kc22 := (ai (SlE.len hv10) (ai c15 kc15))
      refine dec_bif (fun c22 => ?_) (fun c22 => ?_)
      · intro hr
        obtain rfl := Option.some.inj hr
        exact ⟨h, Heapy.pick (Heapy.refl hw) [] (by decide), pFun_sound good tab_ok (f := 22) (its := [.g, .g, .g, .g, .g, (.c (.bool y12) h), .g, .g, (.w .g), (.w .g), (.w .g), (.w .g), (.w .g), (.p false), (.b false), .g, .g, (.ln l10.length), .g, (.l F22_m1_1 [] .ret (F22_x1_0 h x1 x2 x3 v4 v5 v6 x7 x8 v9 v10 v11 y21))]) (args := [.agg #[.int .i64 x1, .int .i64 x2, .bool x3, (sv v4), (sv v5), (sv v6)], .agg #[.int .i64 x7, .int .i64 x8, (sv v9), (sv v10), (sv v11)]]) (h := h) (h' := h) (v := .bool false) (hC := (ai (F22_l1_0 h x1 x2 x3 v4 v5 v6 x7 x8 v9 l10 v10 hv10 v11 0 y21 e21 c22) kc22)) (hr := by kernel_rfl)⟩
      · refine bind_opt fun y23 e23 => ?_
        obtain ⟨u24_0, h24, q24, zu24_0, c24⟩ := F45_spec x1 x2 x3 l4 l5 l6 x7 x8 l9 l10 l11 v4 v5 v6 v9 v10 v11 h hw hv4 hv5 hv6 hv9 hv10 hv11 _ e23
        have hp24 : Heapy h h24 [⟨u24_0, 3, 1, List.flatMap enc3 y23⟩] := Heapy.call (Heapy.refl hw) q24
        have kc26 := (ai (SlE.len (Heapy.sle (v := u24_0) (xs := y23) (enc := enc3) hp24 0 rfl (fun _ => rfl) (by decide))) (ai c24 (ai (F22_l1_1 h x1 x2 x3 v4 v5 v6 x7 x8 v9 l10 v10 hv10 v11 0 y21 e21 c22) kc22)))
        refine dec_bif (fun c26 => ?_) (fun c26 => ?_)
        · refine bind_opt fun y27 e27 => ?_
          obtain ⟨u28_0, h28, q28, zu28_0, c28⟩ := F46_spec x1 x2 x3 l4 l5 l6 x7 x8 l9 l10 l11 v4 v5 v6 v9 v10 v11 h24 (Heapy.wf hp24) (SlE.mono hv4 (Heapy.sub hp24) (E57_mono (Heapy.sub hp24))) (SlE.mono hv5 (Heapy.sub hp24) (E59_mono (Heapy.sub hp24))) (SlE.mono hv6 (Heapy.sub hp24) (E61_mono (Heapy.sub hp24))) (SlE.mono hv9 (Heapy.sub hp24) (E3_mono (Heapy.sub hp24))) (SlE.mono hv10 (Heapy.sub hp24) (E3_mono (Heapy.sub hp24))) (SlE.mono hv11 (Heapy.sub hp24) (E3_mono (Heapy.sub hp24))) _ e27
          have hp28 : Heapy h h28 [⟨u28_0, 86, 2, List.flatMap enc86 y27⟩, ⟨u24_0, 3, 1, List.flatMap enc3 y23⟩] := Heapy.call hp24 q28
          intro hr
          obtain rfl := Option.some.inj hr
          exact ⟨h28, Heapy.pick hp28 [] (by decide), pFun_sound good tab_ok (f := 22) (its := [.g, .g, .g, .g, .g, (.c (.bool y12) h), .g, .g, (.w .g), (.w .g), (.w .g), (.w .g), (.w .g), (.p false), (.b false), .g, .g, (.ln l10.length), .g, (.l F22_m1_1 [] (.exit 0) (F22_x1_1 h x1 x2 x3 v4 v5 v6 x7 x8 v9 v10 v11 y21)), .g, .g, (.c ((sv u24_0)) h24), (.ln y23.length), .g, .g, (.w .g), (.w .g), (.w (.c ((sv u28_0)) h28)), (.w (.ln y27.length)), (.w .g), (.p true), .g]) (args := [.agg #[.int .i64 x1, .int .i64 x2, .bool x3, (sv v4), (sv v5), (sv v6)], .agg #[.int .i64 x7, .int .i64 x8, (sv v9), (sv v10), (sv v11)]]) (h := h) (h' := h28) (v := .bool ((y27.length : Int) == 0)) (hC := (ai c26 (ai (g_tt c26) (ai (SlE.len (Heapy.sle (v := u28_0) (xs := y27) (enc := enc86) hp28 0 rfl (fun _ => rfl) (by decide))) (ai (g_tt c26) (ai c28 (ai (g_tt c26) (ai (g_tt c26) (ai (g_tt c26) kc26))))))))) (hr := by kernel_rfl)⟩
        · intro hr
          obtain rfl := Option.some.inj hr
          exact ⟨h24, Heapy.pick hp24 [] (by decide), pFun_sound good tab_ok (f := 22) (its := [.g, .g, .g, .g, .g, (.c (.bool y12) h), .g, .g, (.w .g), (.w .g), (.w .g), (.w .g), (.w .g), (.p false), (.b false), .g, .g, (.ln l10.length), .g, (.l F22_m1_1 [] (.exit 0) (F22_x1_1 h x1 x2 x3 v4 v5 v6 x7 x8 v9 v10 v11 y21)), .g, .g, (.c ((sv u24_0)) h24), (.ln y23.length), .g, .g, .n, .n, .n, .n, .n, (.p false), .g]) (args := [.agg #[.int .i64 x1, .int .i64 x2, .bool x3, (sv v4), (sv v5), (sv v6)], .agg #[.int .i64 x7, .int .i64 x8, (sv v9), (sv v10), (sv v11)]]) (h := h) (h' := h24) (v := .bool false) (hC := (ai c26 (ai (g_ft c26) (ai (g_ft c26) (ai (g_ft c26) (ai (g_ft c26) (ai (g_ft c26) kc26))))))) (hr := by kernel_rfl)⟩
/-! 41 jacquard/diffcons.Positive -/
def F41_L : List Nat := []
def F41_D : List (Nat × List (Nat × Nat)) := [(9, [(0, 2), (1, 2), (2, 2), (3, 2), (4, 2), (5, 2), (6, 2), (7, 2), (8, 2), (9, 2), (10, 2), (11, 2), (12, 2), (13, 2), (14, 2), (15, 2), (16, 2), (17, 2), (18, 2), (19, 2), (20, 2), (21, 2), (22, 2), (23, 2), (24, 1), (25, 2), (26, 2), (27, 2), (28, 2), (29, 2), (30, 2), (31, 2), (32, 2), (33, 2), (34, 2), (35, 2), (36, 2), (37, 2), (38, 2), (39, 2), (40, 2), (41, 2), (42, 2), (43, 2), (44, 2), (45, 2), (46, 2), (47, 0), (48, 2)])]
def F41_m1_2 : List Bool := (rp 8 true (false :: (rp 93 true [])))
def F41_m1_1 : List Bool := (false :: false :: false :: false :: (rp 4 true (false :: true :: false :: (rp 9 true (false :: false :: false :: (rp 79 true []))))))
def F41_m1_0 : List Bool := (rp 8 true (false :: false :: (rp 92 true [])))
def F41_s1 (x1 : Int) (l2 : List (Int × Int × Int × Int)) (x3 : Int) (l4 : List Int) (a9 : Int) (a10 : Int) (l11 : List (Int × Bool)) : Option ((Int × Int × (List (Int × Bool))) ⊕ (Nat × Int)) :=
  (bif decide (a10 < (l4.length : Int)) then
   (Option.bind (at? l4 a10) fun y14 =>
   (Option.bind (at? l4 ((IntKind.i64.wrap (a10 + 1)).tmod (l4.length : Int))) fun y15 =>
   (bif decide (y14 < 0) then
    some (.inr (0, 0))
   else
    (bif decide (y14 ≥ (l2.length : Int)) then
     some (.inr (0, 0))
    else
     (bif decide (y15 < 0) then
      some (.inr (0, 0))
     else
      (bif decide (y15 ≥ (l2.length : Int)) then
       some (.inr (0, 0))
      else
       (Option.bind (at? l2 y14) fun y20 =>
       (bif (!(F58 (F57 x1) y20.1 y20.2.1 y20.2.2.1 y20.2.2.2)) then
        some (.inr (0, 0))
       else
        (Option.bind (at? l2 y15) fun y23 =>
        (bif (y20.2.1 != y23.1) then
         some (.inr (0, 0))
        else
         (bif ((mget y20.1 l11).getD false) then
          some (.inr (0, 0))
         else
          some (.inl ((IntKind.i64.wrap (a9 + (F59 y20.1 y20.2.1 y20.2.2.1 y20.2.2.2 x3))), (IntKind.i64.wrap (a10 + 1)), (mput y20.1 true l11))))))))))))))
  else
   some (.inr (1, a9)))
def F41_h1 (x1 : Int) (v2 : Hd) (x3 : Int) (l4 : List Int) (v4 : Hd) (id7 : Nat) (h12 : AHeap) (a9 : Int) (a10 : Int) (l11 : List (Int × Bool)) : AS := ⟨((.int .i64 (F57 x1)) :: (sv v2) :: (.int .i64 x3) :: (sv v4) :: (rp 4 junk ((.int .i64 a9) :: junk :: (.map (some id7)) :: (rp 9 junk ((sv v4) :: (.int .i64 (l4.length : Int)) :: (.int .i64 a10) :: (rp 79 junk [])))))), [], h12⟩
theorem F41_d1 : drawsOk F41_D (codeOf Try.prog 41 [1, 1, 1, 1, 0, 1, 0, 0]) = true := by kernel_rfl
def F41_x1_0 (h : AHeap) (hx : AHeap) (r : Nat × Int) : AS := ⟨(rp 8 junk ((.int .i64 0) :: (.bool false) :: (rp 92 junk []))), [], hx⟩
def F41_x1_1 (h : AHeap) (hx : AHeap) (r : Nat × Int) : AS := ⟨(rp 8 junk ((.int .i64 r.2) :: (rp 93 junk []))), [], hx⟩
def F41_i1 (h : AHeap) (x1 : Int) (v2 : Hd) (x3 : Int) (l4 : List Int) (v4 : Hd) (id7 : Nat) (s : Int × Int × (List (Int × Bool))) (S : AS) : Prop := ∃ (h12 : AHeap), Heapy h h12 [⟨⟨some ⟨id7, 0, some 1⟩, 0, 0⟩, 0, 0, List.flatMap (fun (p : Int × Bool) => [.int .i64 p.1, .bool p.2]) s.2.2⟩] ∧ S = (F41_h1 x1 v2 x3 l4 v4 id7 h12 s.1 s.2.1 s.2.2)
def F41_x1 (h : AHeap) (r : Nat × Int) (e : Exit) (S : AS) : Prop := (bif Nat.beq r.1 0 then (e = .ret ∧ ∃ (hx : AHeap), Heapy h hx [] ∧ S = (F41_x1_0 h hx r)) else (e = (.exit 0) ∧ ∃ (hx : AHeap), Heapy h hx [] ∧ S = (F41_x1_1 h hx r)))
set_option maxRecDepth 100000 in
theorem F41_r1 (h : AHeap) (x1 : Int) (l2 : List (Int × Int × Int × Int)) (v2 : Hd) (hv2 : SlE E57 4 h (sv v2) l2) (x3 : Int) (l4 : List Int) (v4 : Hd) (hv4 : SlE E3 1 h (sv v4) l4) (c6 : ((l4.length : Int) == 0) = false) (id7 : Nat) (a9 : Int) (a10 : Int) (l11 : List (Int × Bool)) (S : AS) (hI : (F41_i1 h x1 v2 x3 l4 v4 id7) (a9, a10, l11) S) (o : (Int × Int × (List (Int × Bool))) ⊕ (Nat × Int)) : F41_s1 x1 l2 x3 l4 a9 a10 l11 = some o → Rd Try.prog (codeOf Try.prog 41 [1, 1, 1, 1, 0, 1, 0, 0]) (F41_i1 h x1 v2 x3 l4 v4 id7) (F41_x1 h) S o := by
  obtain ⟨h12, hp12, rfl⟩ := hI
  unfold F41_s1
  refine dec_bif (fun c13 => ?_) (fun c13 => ?_)
  · refine bind_opt fun y14 e14 => ?_
    obtain ⟨id14, off14, g14, cs14, ix14, at14, rfl⟩ := SlE.at hv4 e14
    refine bind_opt fun y15 e15 => ?_
    obtain ⟨id15, off15, g15, cs15, ix15, at15, rfl⟩ := SlE.at hv4 e15
    have kc16 := (ai (At.one (P := Try.prog) (t := 3) (v := .int .i64 y15) (At.mono (Heapy.sub hp12) at15) (by kernel_rfl) 0 rfl rfl) (ai ix15 (ai (nz c6) (ai (SlE.len hv4) (ai (At.one (P := Try.prog) (t := 3) (v := .int .i64 y14) (At.mono (Heapy.sub hp12) at14) (by kernel_rfl) 0 rfl rfl) (ai ix14 (ai c13 trivial)))))))
    refine dec_bif (fun c16 => ?_) (fun c16 => ?_)
    · intro hr
      obtain rfl := Option.some.inj hr
      refine ⟨.ret, (F41_x1_0 h h12 ((0, 0) : Nat × Int)), (by intro hh; cases hh), ?_, pEnd_sound good (L := F41_L) (D := F41_D) (its := [.g, (.b true), .g, (.ix id14 off14 g14), (.ld (.int .i64 y14)), .g, .g, .g, .g, .g, .g, (.ln l4.length), .d, (.ix id15 off15 g15), (.ld (.int .i64 y15)), .g, .g, .g, .g, .n, .n, .n, .n, (.p true), .g, .n, .n, .g, .g, .n, .n, .n, .n, .g, .g, .n, .n, .n, .n, .n, .n, .n, .g, .g, .n, .n, .n, .n, .n, .n, .n, .n, .n, .n, .n, .g, .g, .n, .n, .n, .n, .n, .n, .n, .g, (.b true), .g, .g]) (ds := F41_m1_0) (ks := []) (e := .ret) (s2 := (F41_x1_0 h h12 ((0, 0) : Nat × Int))) (hC := (ai l_t (ai (g_tf l_t) (ai (g_tf l_t) (ai (g_tf l_t) (ai (g_tf l_t) (ai (g_tf l_t) (ai (g_tf l_t) (ai (g_tf l_t) (ai (g_tf l_t) (ai (g_tf l_t) (ai (g_tf l_t) (ai (g_tf l_t) (ai (g_tf l_t) (ai (g_tf l_t) (ai (g_tf l_t) (ai (g_tf l_t) (ai (g_tf l_t) (ai (g_tf l_t) (ai (g_tf l_t) (ai (g_tf l_t) (ai (g_tf l_t) (ai (g_tf l_t) (ai (g_tf l_t) (ai (g_tf l_t) (ai (g_tf l_t) (ai (g_tf l_t) (ai (g_tf l_t) (ai (g_tf l_t) (ai (g_tf l_t) (ai (g_tf l_t) (ai (g_tf l_t) (ai (g_tf l_t) (ai c16 (ai (g_tf c16) (ai (g_tf c16) (ai (g_tf c16) (ai (g_tf c16) kc16)))))))))))))))))))))))))))))))))))))) (hd := F41_d1) (h := by kernel_rfl)⟩
      exact ⟨rfl, h12, (Heapy.pick hp12 [] (by decide)), rfl⟩
    · have kc17 := (ai c16 (ai (g_ff c16) (ai (SlE.len hv2) (ai (g_ff c16) (ai (g_ff c16) (ai (g_ff c16) kc16))))))
      refine dec_bif (fun c17 => ?_) (fun c17 => ?_)
      · intro hr
        obtain rfl := Option.some.inj hr
        refine ⟨.ret, (F41_x1_0 h h12 ((0, 0) : Nat × Int)), (by intro hh; cases hh), ?_, pEnd_sound good (L := F41_L) (D := F41_D) (its := [.g, (.b true), .g, (.ix id14 off14 g14), (.ld (.int .i64 y14)), .g, .g, .g, .g, .g, .g, (.ln l4.length), .d, (.ix id15 off15 g15), (.ld (.int .i64 y15)), .g, .g, .g, .g, (.w .g), (.w .g), (.w (.ln l2.length)), (.w .g), (.p false), .g, .n, .n, (.p true), .g, .n, .n, .n, .n, .g, .g, .n, .n, .n, .n, .n, .n, .n, .g, .g, .n, .n, .n, .n, .n, .n, .n, .n, .n, .n, .n, .g, .g, .n, .n, .n, .n, .n, .n, .n, .g, (.b true), .g, .g]) (ds := F41_m1_0) (ks := []) (e := .ret) (s2 := (F41_x1_0 h h12 ((0, 0) : Nat × Int))) (hC := (ai l_t (ai (g_tf l_t) (ai (g_tf l_t) (ai (g_tf l_t) (ai (g_tf l_t) (ai (g_tf l_t) (ai (g_tf l_t) (ai (g_tf l_t) (ai (g_tf l_t) (ai (g_tf l_t) (ai (g_tf l_t) (ai (g_tf l_t) (ai (g_tf l_t) (ai (g_tf l_t) (ai (g_tf l_t) (ai (g_tf l_t) (ai (g_tf l_t) (ai (g_tf l_t) (ai (g_tf l_t) (ai (g_tf l_t) (ai (g_tf l_t) (ai (g_tf l_t) (ai (g_tf l_t) (ai (g_tf l_t) (ai (g_tf l_t) (ai (g_tf l_t) (ai (g_tf l_t) (ai (g_tf l_t) (ai (g_tf l_t) (ai (g_tf l_t) (ai c17 (ai (g_tf c17) (ai (g_tf c17) kc17)))))))))))))))))))))))))))))))))) (hd := F41_d1) (h := by kernel_rfl)⟩
        exact ⟨rfl, h12, (Heapy.pick hp12 [] (by decide)), rfl⟩
      · have kc18 := (ai c17 (ai (g_ff c17) (ai (g_ff c17) kc17)))
        refine dec_bif (fun c18 => ?_) (fun c18 => ?_)
        · intro hr
          obtain rfl := Option.some.inj hr
          refine ⟨.ret, (F41_x1_0 h h12 ((0, 0) : Nat × Int)), (by intro hh; cases hh), ?_, pEnd_sound good (L := F41_L) (D := F41_D) (its := [.g, (.b true), .g, (.ix id14 off14 g14), (.ld (.int .i64 y14)), .g, .g, .g, .g, .g, .g, (.ln l4.length), .d, (.ix id15 off15 g15), (.ld (.int .i64 y15)), .g, .g, .g, .g, (.w .g), (.w .g), (.w (.ln l2.length)), (.w .g), (.p false), .g, (.w .g), (.w .g), (.p false), .g, .n, .n, .n, .n, (.p true), .g, .n, .n, .n, .n, .n, .n, .n, .g, .g, .n, .n, .n, .n, .n, .n, .n, .n, .n, .n, .n, .g, .g, .n, .n, .n, .n, .n, .n, .n, .g, (.b true), .g, .g]) (ds := F41_m1_0) (ks := []) (e := .ret) (s2 := (F41_x1_0 h h12 ((0, 0) : Nat × Int))) (hC := (ai l_t (ai (g_tf l_t) (ai (g_tf l_t) (ai (g_tf l_t) (ai (g_tf l_t) (ai (g_tf l_t) (ai (g_tf l_t) (ai (g_tf l_t) (ai (g_tf l_t) (ai (g_tf l_t) (ai (g_tf l_t) (ai (g_tf l_t) (ai (g_tf l_t) (ai (g_tf l_t) (ai (g_tf l_t) (ai (g_tf l_t) (ai (g_tf l_t) (ai (g_tf l_t) (ai (g_tf l_t) (ai (g_tf l_t) (ai (g_tf l_t) (ai (g_tf l_t) (ai (g_tf l_t) (ai (g_tf l_t) (ai (g_tf l_t) (ai (g_tf l_t) (ai c18 (ai (g_tf c18) (ai (g_tf c18) (ai (g_tf c18) (ai (g_tf c18) kc18)))))))))))))))))))))))))))))))) (hd := F41_d1) (h := by kernel_rfl)⟩
          exact ⟨rfl, h12, (Heapy.pick hp12 [] (by decide)), rfl⟩
        · have kc19 := (ai c18 (ai (g_ff c18) (ai (SlE.len hv2) (ai (g_ff c18) (ai (g_ff c18) (ai (g_ff c18) kc18))))))
          refine dec_bif (fun c19 => ?_) (fun c19 => ?_)
          · intro hr
            obtain rfl := Option.some.inj hr
            refine ⟨.ret, (F41_x1_0 h h12 ((0, 0) : Nat × Int)), (by intro hh; cases hh), ?_, pEnd_sound good (L := F41_L) (D := F41_D) (its := [.g, (.b true), .g, (.ix id14 off14 g14), (.ld (.int .i64 y14)), .g, .g, .g, .g, .g, .g, (.ln l4.length), .d, (.ix id15 off15 g15), (.ld (.int .i64 y15)), .g, .g, .g, .g, (.w .g), (.w .g), (.w (.ln l2.length)), (.w .g), (.p false), .g, (.w .g), (.w .g), (.p false), .g, (.w .g), (.w .g), (.w (.ln l2.length)), (.w .g), (.p false), .g, .n, .n, .n, .n, .n, .n, .n, (.p true), .g, .n, .n, .n, .n, .n, .n, .n, .n, .n, .n, .n, .g, .g, .n, .n, .n, .n, .n, .n, .n, .g, (.b true), .g, .g]) (ds := F41_m1_0) (ks := []) (e := .ret) (s2 := (F41_x1_0 h h12 ((0, 0) : Nat × Int))) (hC := (ai l_t (ai (g_tf l_t) (ai (g_tf l_t) (ai (g_tf l_t) (ai (g_tf l_t) (ai (g_tf l_t) (ai (g_tf l_t) (ai (g_tf l_t) (ai (g_tf l_t) (ai (g_tf l_t) (ai (g_tf l_t) (ai (g_tf l_t) (ai (g_tf l_t) (ai (g_tf l_t) (ai (g_tf l_t) (ai (g_tf l_t) (ai (g_tf l_t) (ai (g_tf l_t) (ai (g_tf l_t) (ai c19 (ai (g_tf c19) (ai (g_tf c19) (ai (g_tf c19) (ai (g_tf c19) (ai (g_tf c19) (ai (g_tf c19) (ai (g_tf c19) kc19)))))))))))))))))))))))))))) (hd := F41_d1) (h := by kernel_rfl)⟩
            exact ⟨rfl, h12, (Heapy.pick hp12 [] (by decide)), rfl⟩
          · refine bind_opt fun y20 e20 => ?_
            obtain ⟨id20, off20, g20, cs20, ix20, at20, rfl⟩ := SlE.at hv2 e20
            have kc22 := (ai c19 (ai (g_ff c19) (ai (show AKeep h12 h12 from (AHeap.sub_refl h12)) (ai (F58_spec (F57 x1) y20.1 y20.2.1 y20.2.2.1 y20.2.2.2 h12 _ rfl) (ai (g_ff c19) (ai (At.agg (P := Try.prog) (t := 57) (v := .agg #[.int .i64 y20.1, .int .i64 y20.2.1, .int .i64 y20.2.2.1, .int .i64 y20.2.2.2]) (m := 4) (At.mono (Heapy.sub hp12) at20) (by kernel_rfl) (by kernel_rfl) 0 (by kernel_rfl) rfl) (ai (g_ff c19) (ai ix20 (ai (g_ff c19) (ai (g_ff c19) (ai (g_ff c19) (ai (g_ff c19) kc19))))))))))))
            refine dec_bif (fun c22 => ?_) (fun c22 => ?_)
            · intro hr
              obtain rfl := Option.some.inj hr
              refine ⟨.ret, (F41_x1_0 h h12 ((0, 0) : Nat × Int)), (by intro hh; cases hh), ?_, pEnd_sound good (L := F41_L) (D := F41_D) (its := [.g, (.b true), .g, (.ix id14 off14 g14), (.ld (.int .i64 y14)), .g, .g, .g, .g, .g, .g, (.ln l4.length), .d, (.ix id15 off15 g15), (.ld (.int .i64 y15)), .g, .g, .g, .g, (.w .g), (.w .g), (.w (.ln l2.length)), (.w .g), (.p false), .g, (.w .g), (.w .g), (.p false), .g, (.w .g), (.w .g), (.w (.ln l2.length)), (.w .g), (.p false), .g, (.w .g), (.w .g), (.w .g), (.w (.ix id20 off20 g20)), (.w (.ld (.agg #[.int .i64 y20.1, .int .i64 y20.2.1, .int .i64 y20.2.2.1, .int .i64 y20.2.2.2]))), (.w (.c (.bool (F58 (F57 x1) y20.1 y20.2.1 y20.2.2.1 y20.2.2.2)) h12)), (.w .g), (.p false), .g, .n, .n, .n, .n, .n, .n, .n, .n, .n, .n, .n, (.p true), .g, .n, .n, .n, .n, .n, .n, .n, .g, (.b true), .g, .g]) (ds := F41_m1_0) (ks := []) (e := .ret) (s2 := (F41_x1_0 h h12 ((0, 0) : Nat × Int))) (hC := (ai l_t (ai (g_tf l_t) (ai (g_tf l_t) (ai (g_tf l_t) (ai (g_tf l_t) (ai (g_tf l_t) (ai (g_tf l_t) (ai (g_tf l_t) (ai c22 (ai (g_tf c22) (ai (g_tf c22) (ai (g_tf c22) (ai (g_tf c22) (ai (g_tf c22) (ai (g_tf c22) (ai (g_tf c22) (ai (g_tf c22) (ai (g_tf c22) (ai (g_tf c22) (ai (g_tf c22) kc22))))))))))))))))))))) (hd := F41_d1) (h := by kernel_rfl)⟩
              exact ⟨rfl, h12, (Heapy.pick hp12 [] (by decide)), rfl⟩
            · refine bind_opt fun y23 e23 => ?_
              obtain ⟨id23, off23, g23, cs23, ix23, at23, rfl⟩ := SlE.at hv2 e23
              have kc24 := (ai c22 (ai (g_ff c22) (ai (At.one (P := Try.prog) (t := 3) (v := .int .i64 y23.1) (At.mono (Heapy.sub hp12) at23) (by kernel_rfl) 0 rfl rfl) (ai (g_ff c22) (ai (g_ff c22) (ai ix23 (ai (g_ff c22) (ai (g_ff c22) (ai (g_ff c22) (ai (At.one (P := Try.prog) (t := 3) (v := .int .i64 y20.2.1) (At.mono (Heapy.sub hp12) at20) (by kernel_rfl) 1 rfl rfl) (ai (g_ff c22) (ai (g_ff c22) (ai ix20 (ai (g_ff c22) (ai (g_ff c22) (ai (g_ff c22) kc22))))))))))))))))
              refine dec_bif (fun c24 => ?_) (fun c24 => ?_)
              · intro hr
                obtain rfl := Option.some.inj hr
                refine ⟨.ret, (F41_x1_0 h h12 ((0, 0) : Nat × Int)), (by intro hh; cases hh), ?_, pEnd_sound good (L := F41_L) (D := F41_D) (its := [.g, (.b true), .g, (.ix id14 off14 g14), (.ld (.int .i64 y14)), .g, .g, .g, .g, .g, .g, (.ln l4.length), .d, (.ix id15 off15 g15), (.ld (.int .i64 y15)), .g, .g, .g, .g, (.w .g), (.w .g), (.w (.ln l2.length)), (.w .g), (.p false), .g, (.w .g), (.w .g), (.p false), .g, (.w .g), (.w .g), (.w (.ln l2.length)), (.w .g), (.p false), .g, (.w .g), (.w .g), (.w .g), (.w (.ix id20 off20 g20)), (.w (.ld (.agg #[.int .i64 y20.1, .int .i64 y20.2.1, .int .i64 y20.2.2.1, .int .i64 y20.2.2.2]))), (.w (.c (.bool (F58 (F57 x1) y20.1 y20.2.1 y20.2.2.1 y20.2.2.2)) h12)), (.w .g), (.p false), .g, (.w .g), (.w .g), (.w (.ix id20 off20 g20)), (.w .g), (.w (.ld (.int .i64 y20.2.1))), (.w .g), (.w .g), (.w (.ix id23 off23 g23)), (.w .g), (.w (.ld (.int .i64 y23.1))), (.w .g), (.p false), .g, .n, .n, .n, .n, .n, .n, .n, (.p true), (.b true), .g, .g]) (ds := F41_m1_0) (ks := []) (e := .ret) (s2 := (F41_x1_0 h h12 ((0, 0) : Nat × Int))) (hC := (ai l_t (ai c24 (ai (g_tf c24) (ai (g_tf c24) (ai (g_tf c24) (ai (g_tf c24) (ai (g_tf c24) (ai (g_tf c24) (ai (g_tf c24) kc24)))))))))) (hd := F41_d1) (h := by kernel_rfl)⟩
                exact ⟨rfl, h12, (Heapy.pick hp12 [] (by decide)), rfl⟩
              · have kc25 := (ai c24 (ai (Heapy.mlook (P := Try.prog) (id := id7) (q := .i64) (f := (fun b => .bool b)) (xs := l11) hp12 0 rfl (t := 84) (kt := 3) (et := 4) (by kernel_rfl) (by kernel_rfl) (z := false) (by kernel_rfl) y20.1 false) (ai (g_ff c24) (ai (At.one (P := Try.prog) (t := 3) (v := .int .i64 y20.1) (At.mono (Heapy.sub hp12) at20) (by kernel_rfl) 0 rfl rfl) (ai (g_ff c24) (ai (g_ff c24) (ai ix20 (ai (g_ff c24) (ai (g_ff c24) (ai (g_ff c24) (ai (g_ff c24) kc24)))))))))))
                refine dec_bif (fun c25 => ?_) (fun c25 => ?_)
                · intro hr
                  obtain rfl := Option.some.inj hr
                  refine ⟨.ret, (F41_x1_0 h h12 ((0, 0) : Nat × Int)), (by intro hh; cases hh), ?_, pEnd_sound good (L := F41_L) (D := F41_D) (its := [.g, (.b true), .g, (.ix id14 off14 g14), (.ld (.int .i64 y14)), .g, .g, .g, .g, .g, .g, (.ln l4.length), .d, (.ix id15 off15 g15), (.ld (.int .i64 y15)), .g, .g, .g, .g, (.w .g), (.w .g), (.w (.ln l2.length)), (.w .g), (.p false), .g, (.w .g), (.w .g), (.p false), .g, (.w .g), (.w .g), (.w (.ln l2.length)), (.w .g), (.p false), .g, (.w .g), (.w .g), (.w .g), (.w (.ix id20 off20 g20)), (.w (.ld (.agg #[.int .i64 y20.1, .int .i64 y20.2.1, .int .i64 y20.2.2.1, .int .i64 y20.2.2.2]))), (.w (.c (.bool (F58 (F57 x1) y20.1 y20.2.1 y20.2.2.1 y20.2.2.2)) h12)), (.w .g), (.p false), .g, (.w .g), (.w .g), (.w (.ix id20 off20 g20)), (.w .g), (.w (.ld (.int .i64 y20.2.1))), (.w .g), (.w .g), (.w (.ix id23 off23 g23)), (.w .g), (.w (.ld (.int .i64 y23.1))), (.w .g), (.p false), .g, (.w .g), (.w .g), (.w .g), (.w (.ix id20 off20 g20)), (.w .g), (.w (.ld (.int .i64 y20.1))), (.w (.mm (.bool ((mget y20.1 l11).getD false)) h12)), (.p false), (.b true), .g, .g]) (ds := F41_m1_0) (ks := []) (e := .ret) (s2 := (F41_x1_0 h h12 ((0, 0) : Nat × Int))) (hC := (ai c25 kc25)) (hd := F41_d1) (h := by kernel_rfl)⟩
                  exact ⟨rfl, h12, (Heapy.pick hp12 [] (by decide)), rfl⟩
                · obtain ⟨h26, m26, hp26⟩ := Heapy.mset (P := Try.prog) (id := id7) (q := .i64) (f := (fun b => .bool b)) (xs := l11) hp12 0 rfl (t := 84) (kt := 3) (et := 4) (by kernel_rfl) (by kernel_rfl) y20.1 true rfl rfl
                  intro hr
                  obtain rfl := Option.some.inj hr
                  exact ⟨(F41_h1 x1 v2 x3 l4 v4 id7 h26 (IntKind.i64.wrap (a9 + (F59 y20.1 y20.2.1 y20.2.2.1 y20.2.2.2 x3))) (IntKind.i64.wrap (a10 + 1)) (mput y20.1 true l11)), ⟨h26, (Heapy.pick hp26 [0] (by decide)), rfl⟩, pEnd_sound good (L := F41_L) (D := F41_D) (its := [.g, (.b true), .g, (.ix id14 off14 g14), (.ld (.int .i64 y14)), .g, .g, .g, .g, .g, .g, (.ln l4.length), .d, (.ix id15 off15 g15), (.ld (.int .i64 y15)), .g, .g, .g, .g, (.w .g), (.w .g), (.w (.ln l2.length)), (.w .g), (.p false), .g, (.w .g), (.w .g), (.p false), .g, (.w .g), (.w .g), (.w (.ln l2.length)), (.w .g), (.p false), .g, (.w .g), (.w .g), (.w .g), (.w (.ix id20 off20 g20)), (.w (.ld (.agg #[.int .i64 y20.1, .int .i64 y20.2.1, .int .i64 y20.2.2.1, .int .i64 y20.2.2.2]))), (.w (.c (.bool (F58 (F57 x1) y20.1 y20.2.1 y20.2.2.1 y20.2.2.2)) h12)), (.w .g), (.p false), .g, (.w .g), (.w .g), (.w (.ix id20 off20 g20)), (.w .g), (.w (.ld (.int .i64 y20.2.1))), (.w .g), (.w .g), (.w (.ix id23 off23 g23)), (.w .g), (.w (.ld (.int .i64 y23.1))), (.w .g), (.p false), .g, (.w .g), (.w .g), (.w .g), (.w (.ix id20 off20 g20)), (.w .g), (.w (.ld (.int .i64 y20.1))), (.w (.mm (.bool ((mget y20.1 l11).getD false)) h12)), (.p false), (.b false), .g, .g, .g, (.ix id20 off20 g20), .g, (.ld (.int .i64 y20.1)), (.mm undef h26), .g, .g, .g, (.ix id20 off20 g20), (.ld (.agg #[.int .i64 y20.1, .int .i64 y20.2.1, .int .i64 y20.2.2.1, .int .i64 y20.2.2.2])), .g, (.c (.int .i64 (F59 y20.1 y20.2.1 y20.2.2.1 y20.2.2.2 x3)) h26), .g, .g, .g, .g]) (ds := F41_m1_1) (ks := []) (e := .normal) (s2 := (F41_h1 x1 v2 x3 l4 v4 id7 h26 (IntKind.i64.wrap (a9 + (F59 y20.1 y20.2.1 y20.2.2.1 y20.2.2.2 x3))) (IntKind.i64.wrap (a10 + 1)) (mput y20.1 true l11))) (hC := (ai (F59_spec y20.1 y20.2.1 y20.2.2.1 y20.2.2.2 x3 h26 _ rfl) (ai (At.agg (P := Try.prog) (t := 57) (v := .agg #[.int .i64 y20.1, .int .i64 y20.2.1, .int .i64 y20.2.2.1, .int .i64 y20.2.2.2]) (m := 4) (At.mono (Heapy.sub hp26) at20) (by kernel_rfl) (by kernel_rfl) 0 (by kernel_rfl) rfl) (ai ix20 (ai m26 (ai (At.one (P := Try.prog) (t := 3) (v := .int .i64 y20.1) (At.mono (Heapy.sub hp12) at20) (by kernel_rfl) 0 rfl rfl) (ai ix20 (ai c25 kc25)))))))) (hd := F41_d1) (h := by kernel_rfl)⟩
  · intro hr
    obtain rfl := Option.some.inj hr
    refine ⟨(.exit 0), (F41_x1_1 h h12 ((1, a9) : Nat × Int)), (by intro hh; cases hh), ?_, pEnd_sound good (L := F41_L) (D := F41_D) (its := [.g, (.b false)]) (ds := F41_m1_2) (ks := []) (e := (.exit 0)) (s2 := (F41_x1_1 h h12 ((1, a9) : Nat × Int))) (hC := (ai c13 trivial)) (hd := F41_d1) (h := by kernel_rfl)⟩
    exact ⟨rfl, h12, (Heapy.pick hp12 [] (by decide)), rfl⟩
theorem F41_l1 (h : AHeap) (x1 : Int) (l2 : List (Int × Int × Int × Int)) (v2 : Hd) (hv2 : SlE E57 4 h (sv v2) l2) (x3 : Int) (l4 : List Int) (v4 : Hd) (hv4 : SlE E3 1 h (sv v4) l4) (c6 : ((l4.length : Int) == 0) = false) (id7 : Nat) (x : Int × Int × (List (Int × Bool))) (r : Nat × Int) (hl : loopO (fun (s : Int × Int × (List (Int × Bool))) => F41_s1 x1 l2 x3 l4 s.1 s.2.1 s.2.2) x = some r) (S : AS) (hI : (F41_i1 h x1 v2 x3 l4 v4 id7) x S) : ∃ e S', (F41_x1 h) r e S' ∧ AWp Try.prog (.loop (codeOf Try.prog 41 [1, 1, 1, 1, 0, 1, 0, 0])) (Ends1 e S') S :=
  loop_rel (fun x S hI => F41_r1 h x1 l2 v2 hv2 x3 l4 v4 hv4 c6 id7 x.1 x.2.1 x.2.2 S hI) hl hI
def F41 (x1 : Int) (l2 : List (Int × Int × Int × Int)) (x3 : Int) (l4 : List Int) : Option (Int × Bool) :=
  (bif ((l4.length : Int) == 0) then
   some (0, false)
  else
   (Option.bind (loopO (fun (s : Int × Int × (List (Int × Bool))) => F41_s1 x1 l2 x3 l4 s.1 s.2.1 s.2.2) (0, 0, ([] : List (Int × Bool)))) fun y28 =>
   (bif (Nat.beq y28.1 0) then
    some (0, false)
   else
    some (y28.2, (decide (y28.2 > 0))))))
set_option maxRecDepth 100000 in
theorem F41_spec (x1 : Int) (l2 : List (Int × Int × Int × Int)) (x3 : Int) (l4 : List Int) (v2 : Hd) (v4 : Hd) (h : AHeap) (hw : h.wf) (hv2 : SlE E57 4 h (sv v2) l2) (hv4 : SlE E3 1 h (sv v4) l4) (r : Int × Bool) : F41 x1 l2 x3 l4 = some r → ∃ (h' : AHeap), Heapy h h' [] ∧ ACalls Try.prog 41 [.int .i64 x1, (sv v2), .int .i64 x3, (sv v4)] h (fun v' h'' => v' = (.tuple #[.int .i64 r.1, .bool r.2] : Value) ∧ h'' = h') := by
  unfold F41
  have kc6 := (ai (SlE.len hv4) (ai (F57_spec x1 h _ rfl) trivial))
  refine dec_bif (fun c6 => ?_) (fun c6 => ?_)
  · intro hr
    obtain rfl := Option.some.inj hr
    exact ⟨h, Heapy.pick (Heapy.refl hw) [] (by decide), pFun_sound good tab_ok (f := 41) (its := [.g, .g, .g, (.c (.int .i64 (F57 x1)) h), .g, .g, (.ln l4.length), .g, (.b true), .g, .g]) (args := [.int .i64 x1, (sv v2), .int .i64 x3, (sv v4)]) (h := h) (h' := h) (v := .tuple #[.int .i64 0, .bool false]) (hC := (ai c6 kc6)) (hr := by kernel_rfl)⟩
  · obtain ⟨id7, h7, m7, hp7⟩ := Heapy.mkmap (P := Try.prog) (Heapy.refl hw) (t := 84) (kt := 3) (et := 4) (by kernel_rfl)
    refine bind_opt fun y28 e28 => ?_
    obtain ⟨ee28, SS28, hX28, hA28⟩ := F41_l1 h x1 l2 v2 hv2 x3 l4 v4 hv4 c6 id7 (0, 0, ([] : List (Int × Bool))) y28 e28 (F41_h1 x1 v2 x3 l4 v4 id7 h7 0 0 ([] : List (Int × Bool))) ⟨h7, (Heapy.pick hp7 [0] (by decide)), rfl⟩
    have kc29 := (ai (SlE.len hv4) (ai m7 (ai c6 kc6)))
    refine dec_bif (fun c29 => ?_) (fun c29 => ?_)
    · simp only [F41_x1, c29, cond_true, cond_false] at hX28
      obtain ⟨rfl, h30, hp30, rfl⟩ := hX28
      intro hr
      obtain rfl := Option.some.inj hr
      exact ⟨h30, Heapy.pick hp30 [] (by decide), pFun_sound good tab_ok (f := 41) (its := [.g, .g, .g, (.c (.int .i64 (F57 x1)) h), .g, .g, (.ln l4.length), .g, (.b false), (.mm (.map (some id7)) h7), .g, .g, (.ln l4.length), .g, (.l F41_m1_1 [] .ret (F41_x1_0 h h30 y28))]) (args := [.int .i64 x1, (sv v2), .int .i64 x3, (sv v4)]) (h := h) (h' := h30) (v := .tuple #[.int .i64 0, .bool false]) (hC := (ai hA28 kc29)) (hr := by kernel_rfl)⟩
    · simp only [F41_x1, c29, cond_true, cond_false] at hX28
      obtain ⟨rfl, h31, hp31, rfl⟩ := hX28
      intro hr
      obtain rfl := Option.some.inj hr
      exact ⟨h31, Heapy.pick hp31 [] (by decide), pFun_sound good tab_ok (f := 41) (its := [.g, .g, .g, (.c (.int .i64 (F57 x1)) h), .g, .g, (.ln l4.length), .g, (.b false), (.mm (.map (some id7)) h7), .g, .g, (.ln l4.length), .g, (.l F41_m1_1 [] (.exit 0) (F41_x1_1 h h31 y28)), .g, .g, .g, .g, .g]) (args := [.int .i64 x1, (sv v2), .int .i64 x3, (sv v4)]) (h := h) (h' := h31) (v := .tuple #[.int .i64 y28.2, .bool (decide (y28.2 > 0))]) (hC := (ai hA28 kc29)) (hr := by kernel_rfl)⟩
/-! 17 jacquard/bounds.Check -/
def F17 (x1 : Int) (x2 : Int) (x3 : Bool) (l4 : List (Int × Int × Int × Int)) (l5 : List (Int × Int × Int × Int)) (l6 : List (Int × Int)) (x7 : Int) (x8 : Int) (l9 : List Int) (x10 : Int) : Option (Bool) :=
  (Option.bind (F33 x1 x2 x3 l4 l5 l6) fun y11 =>
  (bif (!y11) then
   some (false)
  else
   (bif (!x3) then
    some (false)
   else
    (bif decide (x8 < 1) then
     some (false)
    else
     (bif decide (x8 > 256) then
      some (false)
     else
      (bif (x7 == 3) then
       (bif decide (x10 < 0) then
        some (false)
       else
        (bif decide (x10 ≥ (l5.length : Int)) then
         some (false)
        else
         (Option.bind (F40 x1 x2 x3 l4 l5 l6) fun y20 =>
         (Option.bind (at? y20.1 x10) fun y24 =>
         (Option.bind (at? l5 x10) fun y25 =>
         some (decide (y24 > (IntKind.i64.wrap ((IntKind.i64.wrap (x8 - 1)) * y25.2.2.2)))))))))
      else
       (bif (x7 == 4) then
        (bif decide (x10 < 0) then
         some (false)
        else
         (bif decide (x10 ≥ (l5.length : Int)) then
          some (false)
         else
          (Option.bind (F40 x1 x2 x3 l4 l5 l6) fun y29 =>
          (Option.bind (at? y29.2 x10) fun y33 =>
          some (decide (y33 ≥ x8))))))
       else
        (bif (x7 == 2) then
         (bif decide (x8 ≥ 2) then
          (Option.bind (F41 (F42 x1 x2 x3 l4 l5 l6) l4 (IntKind.i64.wrap (x8 - 1)) l9) fun y37 =>
          some (y37.2))
         else
          (bif (x7 == 1) then
           some (x8 == 1)
          else
           some (false)))
        else
         (bif (x7 == 1) then
          some (x8 == 1)
         else
          some (false))))))))))
set_option maxRecDepth 100000 in
theorem F17_spec (x1 : Int) (x2 : Int) (x3 : Bool) (l4 : List (Int × Int × Int × Int)) (l5 : List (Int × Int × Int × Int)) (l6 : List (Int × Int)) (x7 : Int) (x8 : Int) (l9 : List Int) (x10 : Int) (v4 : Hd) (v5 : Hd) (v6 : Hd) (v9 : Hd) (h : AHeap) (hw : h.wf) (hv4 : SlE E57 4 h (sv v4) l4) (hv5 : SlE E59 4 h (sv v5) l5) (hv6 : SlE E61 2 h (sv v6) l6) (hv9 : SlE E3 1 h (sv v9) l9) (r : Bool) : F17 x1 x2 x3 l4 l5 l6 x7 x8 l9 x10 = some r → ∃ (h' : AHeap), Heapy h h' [] ∧ ACalls Try.prog 17 [.agg #[.int .i64 x1, .int .i64 x2, .bool x3, (sv v4), (sv v5), (sv v6)], .agg #[.int .i64 x7, .int .i64 x8, (sv v9), .int .i64 x10]] h (fun v' h'' => v' = (.bool r : Value) ∧ h'' = h') := by
  unfold F17
  refine bind_opt fun y11 e11 => ?_
  have kc13 := (ai (F33_spec x1 x2 x3 l4 l5 l6 v4 v5 v6 h hv4 hv5 hv6 _ e11) trivial)
  refine dec_bif (fun c13 => ?_) (fun c13 => ?_)
  · intro hr
    obtain rfl := Option.some.inj hr
    exact ⟨h, Heapy.pick (Heapy.refl hw) [] (by decide), pFun_sound good tab_ok (f := 17) (its := [.g, .g, .g, .g, (.c (.bool y11) h), .g, .g, .n, .n, .n, (.p true), .g, .n, .n, .n, .g, .g, .n, .n, .n, .g, (.b true), .g]) (args := [.agg #[.int .i64 x1, .int .i64 x2, .bool x3, (sv v4), (sv v5), (sv v6)], .agg #[.int .i64 x7, .int .i64 x8, (sv v9), .int .i64 x10]]) (h := h) (h' := h) (v := .bool false) (hC := (ai l_t (ai (g_tf l_t) (ai (g_tf l_t) (ai (g_tf l_t) (ai (g_tf l_t) (ai (g_tf l_t) (ai (g_tf l_t) (ai c13 (ai (g_tf c13) (ai (g_tf c13) (ai (g_tf c13) kc13)))))))))))) (hr := by kernel_rfl)⟩
  · have kc14 := (ai c13 (ai (g_ff c13) (ai (g_ff c13) (ai (g_ff c13) kc13))))
    refine dec_bif (fun c14 => ?_) (fun c14 => ?_)
    · intro hr
      obtain rfl := Option.some.inj hr
      exact ⟨h, Heapy.pick (Heapy.refl hw) [] (by decide), pFun_sound good tab_ok (f := 17) (its := [.g, .g, .g, .g, (.c (.bool y11) h), .g, .g, (.w .g), (.w .g), (.w .g), (.p false), .g, .n, .n, .n, (.p true), .g, .n, .n, .n, .g, (.b true), .g]) (args := [.agg #[.int .i64 x1, .int .i64 x2, .bool x3, (sv v4), (sv v5), (sv v6)], .agg #[.int .i64 x7, .int .i64 x8, (sv v9), .int .i64 x10]]) (h := h) (h' := h) (v := .bool false) (hC := (ai l_t (ai (g_tf l_t) (ai (g_tf l_t) (ai (g_tf l_t) (ai c14 (ai (g_tf c14) (ai (g_tf c14) (ai (g_tf c14) kc14))))))))) (hr := by kernel_rfl)⟩
    · have kc15 := (ai c14 (ai (g_ff c14) (ai (g_ff c14) (ai (g_ff c14) kc14))))
      refine dec_bif (fun c15 => ?_) (fun c15 => ?_)
      · intro hr
        obtain rfl := Option.some.inj hr
        exact ⟨h, Heapy.pick (Heapy.refl hw) [] (by decide), pFun_sound good tab_ok (f := 17) (its := [.g, .g, .g, .g, (.c (.bool y11) h), .g, .g, (.w .g), (.w .g), (.w .g), (.p false), .g, (.w .g), (.w .g), (.w .g), (.p false), .g, .n, .n, .n, (.p true), (.b true), .g]) (args := [.agg #[.int .i64 x1, .int .i64 x2, .bool x3, (sv v4), (sv v5), (sv v6)], .agg #[.int .i64 x7, .int .i64 x8, (sv v9), .int .i64 x10]]) (h := h) (h' := h) (v := .bool false) (hC := (ai l_t (ai c15 (ai (g_tf c15) (ai (g_tf c15) (ai (g_tf c15) kc15)))))) (hr := by kernel_rfl)⟩
      · have kc16 := (ai c15 (ai (g_ff c15) (ai (g_ff c15) (ai (g_ff c15) kc15))))
        refine dec_bif (fun c16 => ?_) (fun c16 => ?_)
        · intro hr
          obtain rfl := Option.some.inj hr
          exact ⟨h, Heapy.pick (Heapy.refl hw) [] (by decide), pFun_sound good tab_ok (f := 17) (its := [.g, .g, .g, .g, (.c (.bool y11) h), .g, .g, (.w .g), (.w .g), (.w .g), (.p false), .g, (.w .g), (.w .g), (.w .g), (.p false), .g, (.w .g), (.w .g), (.w .g), (.p false), (.b true), .g]) (args := [.agg #[.int .i64 x1, .int .i64 x2, .bool x3, (sv v4), (sv v5), (sv v6)], .agg #[.int .i64 x7, .int .i64 x8, (sv v9), .int .i64 x10]]) (h := h) (h' := h) (v := .bool false) (hC := (ai c16 kc16)) (hr := by kernel_rfl)⟩
        · have kc17 := (ai c16 kc16)
          refine dec_bif (fun c17 => ?_) (fun c17 => ?_)
          · have kc18 := (ai l_t (ai c17 (ai (g_tf c17) (ai (g_tf c17) (ai (g_tf c17) kc17)))))
            refine dec_bif (fun c18 => ?_) (fun c18 => ?_)
            · intro hr
              obtain rfl := Option.some.inj hr
              exact ⟨h, Heapy.pick (Heapy.refl hw) [] (by decide), pFun_sound good tab_ok (f := 17) (its := [.g, .g, .g, .g, (.c (.bool y11) h), .g, .g, (.w .g), (.w .g), (.w .g), (.p false), .g, (.w .g), (.w .g), (.w .g), (.p false), .g, (.w .g), (.w .g), (.w .g), (.p false), (.b false), .g, .g, .g, .g, .n, .n, .n, (.p true), (.b true), .g, .g, .g, .g, .n, .n, .n, .n, .n, .n, (.p true), (.b true), .g]) (args := [.agg #[.int .i64 x1, .int .i64 x2, .bool x3, (sv v4), (sv v5), (sv v6)], .agg #[.int .i64 x7, .int .i64 x8, (sv v9), .int .i64 x10]]) (h := h) (h' := h) (v := .bool false) (hC := (ai l_t (ai c18 (ai (g_tf c18) (ai (g_tf c18) (ai (g_tf c18) (ai (g_tf c18) (ai (g_tf c18) (ai (g_tf c18) kc18))))))))) (hr := by kernel_rfl)⟩
            · have kc19 := (ai c18 (ai (g_ff c18) (ai (SlE.len hv5) (ai (g_ff c18) (ai (g_ff c18) (ai (g_ff c18) (ai (g_ff c18) (ai (g_ff c18) kc18))))))))
              refine dec_bif (fun c19 => ?_) (fun c19 => ?_)
              · intro hr
                obtain rfl := Option.some.inj hr
                exact ⟨h, Heapy.pick (Heapy.refl hw) [] (by decide), pFun_sound good tab_ok (f := 17) (its := [.g, .g, .g, .g, (.c (.bool y11) h), .g, .g, (.w .g), (.w .g), (.w .g), (.p false), .g, (.w .g), (.w .g), (.w .g), (.p false), .g, (.w .g), (.w .g), (.w .g), (.p false), (.b false), .g, .g, .g, .g, .n, .n, .n, (.p true), (.b true), .g, .g, .g, .g, (.w .g), (.w .g), (.w .g), (.w .g), (.w (.ln l5.length)), (.w .g), (.p false), (.b true), .g]) (args := [.agg #[.int .i64 x1, .int .i64 x2, .bool x3, (sv v4), (sv v5), (sv v6)], .agg #[.int .i64 x7, .int .i64 x8, (sv v9), .int .i64 x10]]) (h := h) (h' := h) (v := .bool false) (hC := (ai c19 kc19)) (hr := by kernel_rfl)⟩
              · refine bind_opt fun y20 e20 => ?_
                obtain ⟨u21_0, u21_1, h21, q21, c21⟩ := F40_spec x1 x2 x3 l4 l5 l6 v4 v5 v6 h hw hv4 hv5 hv6 _ e20
                have hp21 : Heapy h h21 [⟨u21_0, 3, 1, List.flatMap enc3 y20.1⟩, ⟨u21_1, 3, 1, List.flatMap enc3 y20.2⟩] := Heapy.call (Heapy.refl hw) q21
                refine bind_opt fun y24 e24 => ?_
                obtain ⟨id24, off24, g24, cs24, ix24, at24, rfl⟩ := SlE.at (Heapy.sle (v := u21_0) (xs := y20.1) (enc := enc3) hp21 0 rfl (fun _ => rfl) (by decide)) e24
                refine bind_opt fun y25 e25 => ?_
                obtain ⟨id25, off25, g25, cs25, ix25, at25, rfl⟩ := SlE.at hv5 e25
                intro hr
                obtain rfl := Option.some.inj hr
                exact ⟨h21, Heapy.pick hp21 [] (by decide), pFun_sound good tab_ok (f := 17) (its := [.g, .g, .g, .g, (.c (.bool y11) h), .g, .g, (.w .g), (.w .g), (.w .g), (.p false), .g, (.w .g), (.w .g), (.w .g), (.p false), .g, (.w .g), (.w .g), (.w .g), (.p false), (.b false), .g, .g, .g, .g, .n, .n, .n, (.p true), (.b true), .g, .g, .g, .g, (.w .g), (.w .g), (.w .g), (.w .g), (.w (.ln l5.length)), (.w .g), (.p false), (.b false), .g, (.c (.tuple #[(sv u21_0), (sv u21_1)]) h21), .g, .g, .g, .g, .g, .g, .g, .g, (.b true), .g, .g, .g, (.ix id24 off24 g24), (.ld (.int .i64 y24)), .g, .g, .g, .g, .g, .g, .g, (.ix id25 off25 g25), .g, (.ld (.int .i64 y25.2.2.2)), .g, .g, .g]) (args := [.agg #[.int .i64 x1, .int .i64 x2, .bool x3, (sv v4), (sv v5), (sv v6)], .agg #[.int .i64 x7, .int .i64 x8, (sv v9), .int .i64 x10]]) (h := h) (h' := h21) (v := .bool (decide (y24 > (IntKind.i64.wrap ((IntKind.i64.wrap (x8 - 1)) * y25.2.2.2))))) (hC := (ai (At.one (P := Try.prog) (t := 3) (v := .int .i64 y25.2.2.2) (At.mono (Heapy.sub hp21) at25) (by kernel_rfl) 3 rfl rfl) (ai ix25 (ai (At.one (P := Try.prog) (t := 3) (v := .int .i64 y24) at24 (by kernel_rfl) 0 rfl rfl) (ai ix24 (ai c17 (ai c21 (ai c19 kc19)))))))) (hr := by kernel_rfl)⟩
          · have kc26 := (ai c17 (ai (g_ff c17) (ai (g_ff c17) (ai (g_ff c17) kc17))))
            refine dec_bif (fun c26 => ?_) (fun c26 => ?_)
            · have kc27 := (ai c26 kc26)
              refine dec_bif (fun c27 => ?_) (fun c27 => ?_)
              · intro hr
                obtain rfl := Option.some.inj hr
                exact ⟨h, Heapy.pick (Heapy.refl hw) [] (by decide), pFun_sound good tab_ok (f := 17) (its := [.g, .g, .g, .g, (.c (.bool y11) h), .g, .g, (.w .g), (.w .g), (.w .g), (.p false), .g, (.w .g), (.w .g), (.w .g), (.p false), .g, (.w .g), (.w .g), (.w .g), (.p false), (.b false), .g, .g, .g, .g, (.w .g), (.w .g), (.w .g), (.p false), (.b true), .g, .g, .g, .g, .n, .n, .n, .n, .n, .n, (.p true), (.b true), .g]) (args := [.agg #[.int .i64 x1, .int .i64 x2, .bool x3, (sv v4), (sv v5), (sv v6)], .agg #[.int .i64 x7, .int .i64 x8, (sv v9), .int .i64 x10]]) (h := h) (h' := h) (v := .bool false) (hC := (ai l_t (ai c27 (ai (g_tf c27) (ai (g_tf c27) (ai (g_tf c27) (ai (g_tf c27) (ai (g_tf c27) (ai (g_tf c27) kc27))))))))) (hr := by kernel_rfl)⟩
              · have kc28 := (ai c27 (ai (g_ff c27) (ai (SlE.len hv5) (ai (g_ff c27) (ai (g_ff c27) (ai (g_ff c27) (ai (g_ff c27) (ai (g_ff c27) kc27))))))))
                refine dec_bif (fun c28 => ?_) (fun c28 => ?_)
                · intro hr
                  obtain rfl := Option.some.inj hr
                  exact ⟨h, Heapy.pick (Heapy.refl hw) [] (by decide), pFun_sound good tab_ok (f := 17) (its := [.g, .g, .g, .g, (.c (.bool y11) h), .g, .g, (.w .g), (.w .g), (.w .g), (.p false), .g, (.w .g), (.w .g), (.w .g), (.p false), .g, (.w .g), (.w .g), (.w .g), (.p false), (.b false), .g, .g, .g, .g, (.w .g), (.w .g), (.w .g), (.p false), (.b true), .g, .g, .g, .g, (.w .g), (.w .g), (.w .g), (.w .g), (.w (.ln l5.length)), (.w .g), (.p false), (.b true), .g]) (args := [.agg #[.int .i64 x1, .int .i64 x2, .bool x3, (sv v4), (sv v5), (sv v6)], .agg #[.int .i64 x7, .int .i64 x8, (sv v9), .int .i64 x10]]) (h := h) (h' := h) (v := .bool false) (hC := (ai c28 kc28)) (hr := by kernel_rfl)⟩
                · refine bind_opt fun y29 e29 => ?_
                  obtain ⟨u30_0, u30_1, h30, q30, c30⟩ := F40_spec x1 x2 x3 l4 l5 l6 v4 v5 v6 h hw hv4 hv5 hv6 _ e29
                  have hp30 : Heapy h h30 [⟨u30_0, 3, 1, List.flatMap enc3 y29.1⟩, ⟨u30_1, 3, 1, List.flatMap enc3 y29.2⟩] := Heapy.call (Heapy.refl hw) q30
                  refine bind_opt fun y33 e33 => ?_
                  obtain ⟨id33, off33, g33, cs33, ix33, at33, rfl⟩ := SlE.at (Heapy.sle (v := u30_1) (xs := y29.2) (enc := enc3) hp30 1 rfl (fun _ => rfl) (by decide)) e33
                  intro hr
                  obtain rfl := Option.some.inj hr
                  exact ⟨h30, Heapy.pick hp30 [] (by decide), pFun_sound good tab_ok (f := 17) (its := [.g, .g, .g, .g, (.c (.bool y11) h), .g, .g, (.w .g), (.w .g), (.w .g), (.p false), .g, (.w .g), (.w .g), (.w .g), (.p false), .g, (.w .g), (.w .g), (.w .g), (.p false), (.b false), .g, .g, .g, .g, (.w .g), (.w .g), (.w .g), (.p false), (.b true), .g, .g, .g, .g, (.w .g), (.w .g), (.w .g), (.w .g), (.w (.ln l5.length)), (.w .g), (.p false), (.b false), .g, (.c (.tuple #[(sv u30_0), (sv u30_1)]) h30), .g, .g, .g, .g, .g, .g, .g, .g, (.b false), .g, .g, .g, (.ix id33 off33 g33), (.ld (.int .i64 y33)), .g, .g, .g, .g]) (args := [.agg #[.int .i64 x1, .int .i64 x2, .bool x3, (sv v4), (sv v5), (sv v6)], .agg #[.int .i64 x7, .int .i64 x8, (sv v9), .int .i64 x10]]) (h := h) (h' := h30) (v := .bool (decide (y33 ≥ x8))) (hC := (ai (At.one (P := Try.prog) (t := 3) (v := .int .i64 y33) at33 (by kernel_rfl) 0 rfl rfl) (ai ix33 (ai c17 (ai c30 (ai c28 kc28)))))) (hr := by kernel_rfl)⟩
            · have kc34 := (ai c26 kc26)
              refine dec_bif (fun c34 => ?_) (fun c34 => ?_)
              · have kc35 := (ai c34 (ai (g_tt c34) (ai (g_tt c34) (ai (g_tt c34) kc34))))
                refine dec_bif (fun c35 => ?_) (fun c35 => ?_)
                · refine bind_opt fun y37 e37 => ?_
                  obtain ⟨h38, q38, c38⟩ := F41_spec (F42 x1 x2 x3 l4 l5 l6) l4 (IntKind.i64.wrap (x8 - 1)) l9 v4 v9 h hw hv4 hv9 _ e37
                  have hp38 : Heapy h h38 [] := Heapy.call (Heapy.refl hw) q38
                  intro hr
                  obtain rfl := Option.some.inj hr
                  exact ⟨h38, Heapy.pick hp38 [] (by decide), pFun_sound good tab_ok (f := 17) (its := [.g, .g, .g, .g, (.c (.bool y11) h), .g, .g, (.w .g), (.w .g), (.w .g), (.p false), .g, (.w .g), (.w .g), (.w .g), (.p false), .g, (.w .g), (.w .g), (.w .g), (.p false), (.b false), .g, .g, .g, .g, (.w .g), (.w .g), (.w .g), (.p false), (.b false), .g, .g, .g, .g, (.w .g), (.w .g), (.w .g), (.p true), (.b true), .g, .g, .g, .g, .g, .g, .g, .g, (.c (.int .i64 (F42 x1 x2 x3 l4 l5 l6)) h), (.c (.tuple #[.int .i64 y37.1, .bool y37.2]) h38), .g, .g, .g, .g, .g, .g, .g]) (args := [.agg #[.int .i64 x1, .int .i64 x2, .bool x3, (sv v4), (sv v5), (sv v6)], .agg #[.int .i64 x7, .int .i64 x8, (sv v9), .int .i64 x10]]) (h := h) (h' := h38) (v := .bool y37.2) (hC := (ai (show AKeep h h38 from (Heapy.sub q38)) (ai c38 (ai (show AKeep h h from (AHeap.sub_refl h)) (ai (F42_spec x1 x2 x3 l4 l5 l6 v4 v5 v6 h hv4 hv5 hv6 _ rfl) (ai c35 kc35)))))) (hr := by kernel_rfl)⟩
                · have kc39 := (ai c35 kc35)
                  refine dec_bif (fun c39 => ?_) (fun c39 => ?_)
                  · intro hr
                    obtain rfl := Option.some.inj hr
                    exact ⟨h, Heapy.pick (Heapy.refl hw) [] (by decide), pFun_sound good tab_ok (f := 17) (its := [.g, .g, .g, .g, (.c (.bool y11) h), .g, .g, (.w .g), (.w .g), (.w .g), (.p false), .g, (.w .g), (.w .g), (.w .g), (.p false), .g, (.w .g), (.w .g), (.w .g), (.p false), (.b false), .g, .g, .g, .g, (.w .g), (.w .g), (.w .g), (.p false), (.b false), .g, .g, .g, .g, (.w .g), (.w .g), (.w .g), (.p true), (.b false), .g, .g, .g, .g, (.w .g), (.w .g), (.w .g), (.p true), .g]) (args := [.agg #[.int .i64 x1, .int .i64 x2, .bool x3, (sv v4), (sv v5), (sv v6)], .agg #[.int .i64 x7, .int .i64 x8, (sv v9), .int .i64 x10]]) (h := h) (h' := h) (v := .bool (x8 == 1)) (hC := (ai c39 (ai (g_tt c39) (ai (g_tt c39) (ai (g_tt c39) kc39))))) (hr := by kernel_rfl)⟩
                  · intro hr
                    obtain rfl := Option.some.inj hr
                    exact ⟨h, Heapy.pick (Heapy.refl hw) [] (by decide), pFun_sound good tab_ok (f := 17) (its := [.g, .g, .g, .g, (.c (.bool y11) h), .g, .g, (.w .g), (.w .g), (.w .g), (.p false), .g, (.w .g), (.w .g), (.w .g), (.p false), .g, (.w .g), (.w .g), (.w .g), (.p false), (.b false), .g, .g, .g, .g, (.w .g), (.w .g), (.w .g), (.p false), (.b false), .g, .g, .g, .g, (.w .g), (.w .g), (.w .g), (.p true), (.b false), .g, .g, .g, .g, .n, .n, .n, (.p false), .g]) (args := [.agg #[.int .i64 x1, .int .i64 x2, .bool x3, (sv v4), (sv v5), (sv v6)], .agg #[.int .i64 x7, .int .i64 x8, (sv v9), .int .i64 x10]]) (h := h) (h' := h) (v := .bool false) (hC := (ai c39 (ai (g_ft c39) (ai (g_ft c39) (ai (g_ft c39) kc39))))) (hr := by kernel_rfl)⟩
              · have kc40 := (ai l_f (ai c34 (ai (g_ft c34) (ai (g_ft c34) (ai (g_ft c34) kc34)))))
                refine dec_bif (fun c40 => ?_) (fun c40 => ?_)
                · intro hr
                  obtain rfl := Option.some.inj hr
                  exact ⟨h, Heapy.pick (Heapy.refl hw) [] (by decide), pFun_sound good tab_ok (f := 17) (its := [.g, .g, .g, .g, (.c (.bool y11) h), .g, .g, (.w .g), (.w .g), (.w .g), (.p false), .g, (.w .g), (.w .g), (.w .g), (.p false), .g, (.w .g), (.w .g), (.w .g), (.p false), (.b false), .g, .g, .g, .g, (.w .g), (.w .g), (.w .g), (.p false), (.b false), .g, .g, .g, .g, .n, .n, .n, (.p false), (.b false), .g, .g, .g, .g, (.w .g), (.w .g), (.w .g), (.p true), .g]) (args := [.agg #[.int .i64 x1, .int .i64 x2, .bool x3, (sv v4), (sv v5), (sv v6)], .agg #[.int .i64 x7, .int .i64 x8, (sv v9), .int .i64 x10]]) (h := h) (h' := h) (v := .bool (x8 == 1)) (hC := (ai c40 (ai (g_tt c40) (ai (g_tt c40) (ai (g_tt c40) kc40))))) (hr := by kernel_rfl)⟩
                · intro hr
                  obtain rfl := Option.some.inj hr
                  exact ⟨h, Heapy.pick (Heapy.refl hw) [] (by decide), pFun_sound good tab_ok (f := 17) (its := [.g, .g, .g, .g, (.c (.bool y11) h), .g, .g, (.w .g), (.w .g), (.w .g), (.p false), .g, (.w .g), (.w .g), (.w .g), (.p false), .g, (.w .g), (.w .g), (.w .g), (.p false), (.b false), .g, .g, .g, .g, (.w .g), (.w .g), (.w .g), (.p false), (.b false), .g, .g, .g, .g, .n, .n, .n, (.p false), (.b false), .g, .g, .g, .g, .n, .n, .n, (.p false), .g]) (args := [.agg #[.int .i64 x1, .int .i64 x2, .bool x3, (sv v4), (sv v5), (sv v6)], .agg #[.int .i64 x7, .int .i64 x8, (sv v9), .int .i64 x10]]) (h := h) (h' := h) (v := .bool false) (hC := (ai c40 (ai (g_ft c40) (ai (g_ft c40) (ai (g_ft c40) kc40))))) (hr := by kernel_rfl)⟩
/-! 7 jacquard/jacquardlaw31.BoundsSound -/
def F7 (x1 : Int) (x2 : Int) (x3 : Bool) (l4 : List (Int × Int × Int × Int)) (l5 : List (Int × Int × Int × Int)) (l6 : List (Int × Int)) (x7 : Int) (x8 : Int) (l9 : List Int) (l10 : List Int) (l11 : List Int) (x12 : Int) (x13 : Int) (l14 : List Int) (x15 : Int) : Option (Bool) :=
  (Option.bind F11 fun y16 =>
  (bif (!y16) then
   (Option.bind F11 fun y19 =>
   some (y19))
  else
   (Option.bind (F12 x1 x2 x3 l4 l5 l6) fun y21 =>
   (bif (!y21) then
    (Option.bind F11 fun y24 =>
    some (y24))
   else
    (bif decide ((l14.length : Int) > 30) then
     (Option.bind F11 fun y27 =>
     some (y27))
    else
     (Option.bind (F19 x1 x2 x3 l4 l5 l6) fun y29 =>
     (bif (!y29) then
      (Option.bind F11 fun y32 =>
      some (y32))
     else
      (bif decide ((l9.length : Int) > 20) then
       (Option.bind F11 fun y35 =>
       some (y35))
      else
       (bif decide ((l11.length : Int) > 20) then
        (Option.bind F11 fun y38 =>
        some (y38))
       else
        (bif decide ((l10.length : Int) > 20) then
         (Option.bind F11 fun y41 =>
         some (y41))
        else
         (Option.bind (F22 x1 x2 x3 l4 l5 l6 x7 x8 l9 l10 l11) fun y43 =>
         (bif (!y43) then
          (Option.bind F11 fun y46 =>
          some (y46))
         else
          (Option.bind (F21 x1 x2 x3 l4 l5 l6) fun y48 =>
          (bif (y48.2.2.2.2 == 0) then
           (bif decide (y48.2.1 ≤ x7) then
            (Option.bind (F17 x1 x2 x3 l4 l5 l6 x12 x13 l14 x15) fun y53 =>
            (bif (!y53) then
             some (true)
            else
             some (decide (x13 ≤ x7))))
           else
            some (false))
          else
           some (false)))))))))))))))
set_option maxRecDepth 100000 in
theorem F7_spec (x1 : Int) (x2 : Int) (x3 : Bool) (l4 : List (Int × Int × Int × Int)) (l5 : List (Int × Int × Int × Int)) (l6 : List (Int × Int)) (x7 : Int) (x8 : Int) (l9 : List Int) (l10 : List Int) (l11 : List Int) (x12 : Int) (x13 : Int) (l14 : List Int) (x15 : Int) (v4 : Hd) (v5 : Hd) (v6 : Hd) (v9 : Hd) (v10 : Hd) (v11 : Hd) (v14 : Hd) (h : AHeap) (hw : h.wf) (hv4 : SlE E57 4 h (sv v4) l4) (hv5 : SlE E59 4 h (sv v5) l5) (hv6 : SlE E61 2 h (sv v6) l6) (hv9 : SlE E3 1 h (sv v9) l9) (hv10 : SlE E3 1 h (sv v10) l10) (hv11 : SlE E3 1 h (sv v11) l11) (hv14 : SlE E3 1 h (sv v14) l14) (r : Bool) : F7 x1 x2 x3 l4 l5 l6 x7 x8 l9 l10 l11 x12 x13 l14 x15 = some r → ∃ (h' : AHeap), Heapy h h' [] ∧ ACalls Try.prog 7 [.agg #[.int .i64 x1, .int .i64 x2, .bool x3, (sv v4), (sv v5), (sv v6)], .agg #[.int .i64 x7, .int .i64 x8, (sv v9), (sv v10), (sv v11)], .agg #[.int .i64 x12, .int .i64 x13, (sv v14), .int .i64 x15]] h (fun v' h'' => v' = (.bool r : Value) ∧ h'' = h') := by
  unfold F7
  refine bind_opt fun y16 e16 => ?_
  obtain ⟨h17, q17, c17⟩ := F11_spec h hw _ e16
  have hp17 : Heapy h h17 [] := Heapy.call (Heapy.refl hw) q17
  have kc18 := (ai c17 trivial)
  refine dec_bif (fun c18 => ?_) (fun c18 => ?_)
  · refine bind_opt fun y19 e19 => ?_
    obtain ⟨h20, q20, c20⟩ := F11_spec h17 (Heapy.wf hp17) _ e19
    have hp20 : Heapy h h20 [] := Heapy.call hp17 q20
    intro hr
    obtain rfl := Option.some.inj hr
    exact ⟨h20, Heapy.pick hp20 [] (by decide), pFun_sound good tab_ok (f := 7) (its := [.g, .g, .g, .g, (.c (.bool y16) h17), .g, .g, .n, .n, .n, (.p true), .g, .n, .n, .n, .n, .g, .g, .n, .n, .n, .g, .g, .n, .n, .n, .n, .g, .g, .n, .n, .n, .n, .g, .g, .n, .n, .n, .n, .g, .g, .n, .n, .n, .n, .g, (.b true), (.c (.bool y19) h20), .g]) (args := [.agg #[.int .i64 x1, .int .i64 x2, .bool x3, (sv v4), (sv v5), (sv v6)], .agg #[.int .i64 x7, .int .i64 x8, (sv v9), (sv v10), (sv v11)], .agg #[.int .i64 x12, .int .i64 x13, (sv v14), .int .i64 x15]]) (h := h) (h' := h20) (v := .bool y19) (hC := (ai c20 (ai l_t (ai (g_tf l_t) (ai (g_tf l_t) (ai (g_tf l_t) (ai (g_tf l_t) (ai (g_tf l_t) (ai (g_tf l_t) (ai (g_tf l_t) (ai (g_tf l_t) (ai (g_tf l_t) (ai (g_tf l_t) (ai (g_tf l_t) (ai (g_tf l_t) (ai (g_tf l_t) (ai (g_tf l_t) (ai (g_tf l_t) (ai (g_tf l_t) (ai (g_tf l_t) (ai (g_tf l_t) (ai (g_tf l_t) (ai (g_tf l_t) (ai (g_tf l_t) (ai (g_tf l_t) (ai (g_tf l_t) (ai c18 (ai (g_tf c18) (ai (g_tf c18) (ai (g_tf c18) kc18)))))))))))))))))))))))))))))) (hr := by kernel_rfl)⟩
  · refine bind_opt fun y21 e21 => ?_
    have kc23 := (ai c18 (ai (g_ff c18) (ai (F12_spec x1 x2 x3 l4 l5 l6 v4 v5 v6 h17 (SlE.mono hv4 (Heapy.sub hp17) (E57_mono (Heapy.sub hp17))) (SlE.mono hv5 (Heapy.sub hp17) (E59_mono (Heapy.sub hp17))) (SlE.mono hv6 (Heapy.sub hp17) (E61_mono (Heapy.sub hp17))) _ e21) (ai (g_ff c18) (ai (g_ff c18) kc18)))))
    refine dec_bif (fun c23 => ?_) (fun c23 => ?_)
    · refine bind_opt fun y24 e24 => ?_
      obtain ⟨h25, q25, c25⟩ := F11_spec h17 (Heapy.wf hp17) _ e24
      have hp25 : Heapy h h25 [] := Heapy.call hp17 q25
      intro hr
      obtain rfl := Option.some.inj hr
      exact ⟨h25, Heapy.pick hp25 [] (by decide), pFun_sound good tab_ok (f := 7) (its := [.g, .g, .g, .g, (.c (.bool y16) h17), .g, .g, (.w .g), (.w (.c (.bool y21) h17)), (.w .g), (.p false), .g, .n, .n, .n, .n, (.p true), .g, .n, .n, .n, .g, .g, .n, .n, .n, .n, .g, .g, .n, .n, .n, .n, .g, .g, .n, .n, .n, .n, .g, .g, .n, .n, .n, .n, .g, (.b true), (.c (.bool y24) h25), .g]) (args := [.agg #[.int .i64 x1, .int .i64 x2, .bool x3, (sv v4), (sv v5), (sv v6)], .agg #[.int .i64 x7, .int .i64 x8, (sv v9), (sv v10), (sv v11)], .agg #[.int .i64 x12, .int .i64 x13, (sv v14), .int .i64 x15]]) (h := h) (h' := h25) (v := .bool y24) (hC := (ai c25 (ai l_t (ai (g_tf l_t) (ai (g_tf l_t) (ai (g_tf l_t) (ai (g_tf l_t) (ai (g_tf l_t) (ai (g_tf l_t) (ai (g_tf l_t) (ai (g_tf l_t) (ai (g_tf l_t) (ai (g_tf l_t) (ai (g_tf l_t) (ai (g_tf l_t) (ai (g_tf l_t) (ai (g_tf l_t) (ai (g_tf l_t) (ai (g_tf l_t) (ai (g_tf l_t) (ai (g_tf l_t) (ai (g_tf l_t) (ai c23 (ai (g_tf c23) (ai (g_tf c23) (ai (g_tf c23) (ai (g_tf c23) kc23))))))))))))))))))))))))))) (hr := by kernel_rfl)⟩
    · have kc26 := (ai c23 (ai (g_ff c23) (ai (SlE.len hv14) (ai (g_ff c23) (ai (g_ff c23) (ai (g_ff c23) kc23))))))
      refine dec_bif (fun c26 => ?_) (fun c26 => ?_)
      · refine bind_opt fun y27 e27 => ?_
        obtain ⟨h28, q28, c28⟩ := F11_spec h17 (Heapy.wf hp17) _ e27
        have hp28 : Heapy h h28 [] := Heapy.call hp17 q28
        intro hr
        obtain rfl := Option.some.inj hr
        exact ⟨h28, Heapy.pick hp28 [] (by decide), pFun_sound good tab_ok (f := 7) (its := [.g, .g, .g, .g, (.c (.bool y16) h17), .g, .g, (.w .g), (.w (.c (.bool y21) h17)), (.w .g), (.p false), .g, (.w .g), (.w .g), (.w (.ln l14.length)), (.w .g), (.p false), .g, .n, .n, .n, (.p true), .g, .n, .n, .n, .n, .g, .g, .n, .n, .n, .n, .g, .g, .n, .n, .n, .n, .g, .g, .n, .n, .n, .n, .g, (.b true), (.c (.bool y27) h28), .g]) (args := [.agg #[.int .i64 x1, .int .i64 x2, .bool x3, (sv v4), (sv v5), (sv v6)], .agg #[.int .i64 x7, .int .i64 x8, (sv v9), (sv v10), (sv v11)], .agg #[.int .i64 x12, .int .i64 x13, (sv v14), .int .i64 x15]]) (h := h) (h' := h28) (v := .bool y27) (hC := (ai c28 (ai l_t (ai (g_tf l_t) (ai (g_tf l_t) (ai (g_tf l_t) (ai (g_tf l_t) (ai (g_tf l_t) (ai (g_tf l_t) (ai (g_tf l_t) (ai (g_tf l_t) (ai (g_tf l_t) (ai (g_tf l_t) (ai (g_tf l_t) (ai (g_tf l_t) (ai (g_tf l_t) (ai (g_tf l_t) (ai (g_tf l_t) (ai (g_tf l_t) (ai c26 (ai (g_tf c26) (ai (g_tf c26) (ai (g_tf c26) kc26))))))))))))))))))))))) (hr := by kernel_rfl)⟩
      · refine bind_opt fun y29 e29 => ?_
        have kc31 := (ai c26 (ai (g_ff c26) (ai (F19_spec x1 x2 x3 l4 l5 l6 v4 v5 v6 h17 (SlE.mono hv4 (Heapy.sub hp17) (E57_mono (Heapy.sub hp17))) (SlE.mono hv5 (Heapy.sub hp17) (E59_mono (Heapy.sub hp17))) (SlE.mono hv6 (Heapy.sub hp17) (E61_mono (Heapy.sub hp17))) _ e29) (ai (g_ff c26) (ai (g_ff c26) kc26)))))
        refine dec_bif (fun c31 => ?_) (fun c31 => ?_)
        · refine bind_opt fun y32 e32 => ?_
          obtain ⟨h33, q33, c33⟩ := F11_spec h17 (Heapy.wf hp17) _ e32
          have hp33 : Heapy h h33 [] := Heapy.call hp17 q33
          intro hr
          obtain rfl := Option.some.inj hr
          exact ⟨h33, Heapy.pick hp33 [] (by decide), pFun_sound good tab_ok (f := 7) (its := [.g, .g, .g, .g, (.c (.bool y16) h17), .g, .g, (.w .g), (.w (.c (.bool y21) h17)), (.w .g), (.p false), .g, (.w .g), (.w .g), (.w (.ln l14.length)), (.w .g), (.p false), .g, (.w .g), (.w (.c (.bool y29) h17)), (.w .g), (.p false), .g, .n, .n, .n, .n, (.p true), .g, .n, .n, .n, .n, .g, .g, .n, .n, .n, .n, .g, .g, .n, .n, .n, .n, .g, (.b true), (.c (.bool y32) h33), .g]) (args := [.agg #[.int .i64 x1, .int .i64 x2, .bool x3, (sv v4), (sv v5), (sv v6)], .agg #[.int .i64 x7, .int .i64 x8, (sv v9), (sv v10), (sv v11)], .agg #[.int .i64 x12, .int .i64 x13, (sv v14), .int .i64 x15]]) (h := h) (h' := h33) (v := .bool y32) (hC := (ai c33 (ai l_t (ai (g_tf l_t) (ai (g_tf l_t) (ai (g_tf l_t) (ai (g_tf l_t) (ai (g_tf l_t) (ai (g_tf l_t) (ai (g_tf l_t) (ai (g_tf l_t) (ai (g_tf l_t) (ai (g_tf l_t) (ai (g_tf l_t) (ai (g_tf l_t) (ai c31 (ai (g_tf c31) (ai (g_tf c31) (ai (g_tf c31) (ai (g_tf c31) kc31)))))))))))))))))))) (hr := by kernel_rfl)⟩
        · have kc34 := (ai c31 (ai (g_ff c31) (ai (SlE.len hv9) (ai (g_ff c31) (ai (g_ff c31) (ai (g_ff c31) kc31))))))
          refine dec_bif (fun c34 => ?_) (fun c34 => ?_)
          · refine bind_opt fun y35 e35 => ?_
            obtain ⟨h36, q36, c36⟩ := F11_spec h17 (Heapy.wf hp17) _ e35
            have hp36 : Heapy h h36 [] := Heapy.call hp17 q36
            intro hr
            obtain rfl := Option.some.inj hr
            exact ⟨h36, Heapy.pick hp36 [] (by decide), pFun_sound good tab_ok (f := 7) (its := [.g, .g, .g, .g, (.c (.bool y16) h17), .g, .g, (.w .g), (.w (.c (.bool y21) h17)), (.w .g), (.p false), .g, (.w .g), (.w .g), (.w (.ln l14.length)), (.w .g), (.p false), .g, (.w .g), (.w (.c (.bool y29) h17)), (.w .g), (.p false), .g, (.w .g), (.w .g), (.w (.ln l9.length)), (.w .g), (.p false), .g, .n, .n, .n, .n, (.p true), .g, .n, .n, .n, .n, .g, .g, .n, .n, .n, .n, .g, (.b true), (.c (.bool y35) h36), .g]) (args := [.agg #[.int .i64 x1, .int .i64 x2, .bool x3, (sv v4), (sv v5), (sv v6)], .agg #[.int .i64 x7, .int .i64 x8, (sv v9), (sv v10), (sv v11)], .agg #[.int .i64 x12, .int .i64 x13, (sv v14), .int .i64 x15]]) (h := h) (h' := h36) (v := .bool y35) (hC := (ai c36 (ai l_t (ai (g_tf l_t) (ai (g_tf l_t) (ai (g_tf l_t) (ai (g_tf l_t) (ai (g_tf l_t) (ai (g_tf l_t) (ai (g_tf l_t) (ai (g_tf l_t) (ai c34 (ai (g_tf c34) (ai (g_tf c34) (ai (g_tf c34) (ai (g_tf c34) kc34)))))))))))))))) (hr := by kernel_rfl)⟩
          · have kc37 := (ai c34 (ai (g_ff c34) (ai (SlE.len hv11) (ai (g_ff c34) (ai (g_ff c34) (ai (g_ff c34) kc34))))))
            refine dec_bif (fun c37 => ?_) (fun c37 => ?_)
            · refine bind_opt fun y38 e38 => ?_
              obtain ⟨h39, q39, c39⟩ := F11_spec h17 (Heapy.wf hp17) _ e38
              have hp39 : Heapy h h39 [] := Heapy.call hp17 q39
              intro hr
              obtain rfl := Option.some.inj hr
              exact ⟨h39, Heapy.pick hp39 [] (by decide), pFun_sound good tab_ok (f := 7) (its := [.g, .g, .g, .g, (.c (.bool y16) h17), .g, .g, (.w .g), (.w (.c (.bool y21) h17)), (.w .g), (.p false), .g, (.w .g), (.w .g), (.w (.ln l14.length)), (.w .g), (.p false), .g, (.w .g), (.w (.c (.bool y29) h17)), (.w .g), (.p false), .g, (.w .g), (.w .g), (.w (.ln l9.length)), (.w .g), (.p false), .g, (.w .g), (.w .g), (.w (.ln l11.length)), (.w .g), (.p false), .g, .n, .n, .n, .n, (.p true), .g, .n, .n, .n, .n, .g, (.b true), (.c (.bool y38) h39), .g]) (args := [.agg #[.int .i64 x1, .int .i64 x2, .bool x3, (sv v4), (sv v5), (sv v6)], .agg #[.int .i64 x7, .int .i64 x8, (sv v9), (sv v10), (sv v11)], .agg #[.int .i64 x12, .int .i64 x13, (sv v14), .int .i64 x15]]) (h := h) (h' := h39) (v := .bool y38) (hC := (ai c39 (ai l_t (ai (g_tf l_t) (ai (g_tf l_t) (ai (g_tf l_t) (ai (g_tf l_t) (ai c37 (ai (g_tf c37) (ai (g_tf c37) (ai (g_tf c37) (ai (g_tf c37) kc37)))))))))))) (hr := by kernel_rfl)⟩
            · have kc40 := (ai c37 (ai (g_ff c37) (ai (SlE.len hv10) (ai (g_ff c37) (ai (g_ff c37) (ai (g_ff c37) kc37))))))
              refine dec_bif (fun c40 => ?_) (fun c40 => ?_)
              · refine bind_opt fun y41 e41 => ?_
                obtain ⟨h42, q42, c42⟩ := F11_spec h17 (Heapy.wf hp17) _ e41
                have hp42 : Heapy h h42 [] := Heapy.call hp17 q42
                intro hr
                obtain rfl := Option.some.inj hr
                exact ⟨h42, Heapy.pick hp42 [] (by decide), pFun_sound good tab_ok (f := 7) (its := [.g, .g, .g, .g, (.c (.bool y16) h17), .g, .g, (.w .g), (.w (.c (.bool y21) h17)), (.w .g), (.p false), .g, (.w .g), (.w .g), (.w (.ln l14.length)), (.w .g), (.p false), .g, (.w .g), (.w (.c (.bool y29) h17)), (.w .g), (.p false), .g, (.w .g), (.w .g), (.w (.ln l9.length)), (.w .g), (.p false), .g, (.w .g), (.w .g), (.w (.ln l11.length)), (.w .g), (.p false), .g, (.w .g), (.w .g), (.w (.ln l10.length)), (.w .g), (.p false), .g, .n, .n, .n, .n, (.p true), (.b true), (.c (.bool y41) h42), .g]) (args := [.agg #[.int .i64 x1, .int .i64 x2, .bool x3, (sv v4), (sv v5), (sv v6)], .agg #[.int .i64 x7, .int .i64 x8, (sv v9), (sv v10), (sv v11)], .agg #[.int .i64 x12, .int .i64 x13, (sv v14), .int .i64 x15]]) (h := h) (h' := h42) (v := .bool y41) (hC := (ai c42 (ai l_t (ai c40 (ai (g_tf c40) (ai (g_tf c40) (ai (g_tf c40) (ai (g_tf c40) kc40)))))))) (hr := by kernel_rfl)⟩
              · refine bind_opt fun y43 e43 => ?_
                obtain ⟨h44, q44, c44⟩ := F22_spec x1 x2 x3 l4 l5 l6 x7 x8 l9 l10 l11 v4 v5 v6 v9 v10 v11 h17 (Heapy.wf hp17) (SlE.mono hv4 (Heapy.sub hp17) (E57_mono (Heapy.sub hp17))) (SlE.mono hv5 (Heapy.sub hp17) (E59_mono (Heapy.sub hp17))) (SlE.mono hv6 (Heapy.sub hp17) (E61_mono (Heapy.sub hp17))) (SlE.mono hv9 (Heapy.sub hp17) (E3_mono (Heapy.sub hp17))) (SlE.mono hv10 (Heapy.sub hp17) (E3_mono (Heapy.sub hp17))) (SlE.mono hv11 (Heapy.sub hp17) (E3_mono (Heapy.sub hp17))) _ e43
                have hp44 : Heapy h h44 [] := Heapy.call hp17 q44
                have kc45 := (ai c40 (ai (g_ff c40) (ai c44 (ai (g_ff c40) (ai (g_ff c40) (ai (g_ff c40) kc40))))))
                refine dec_bif (fun c45 => ?_) (fun c45 => ?_)
                · refine bind_opt fun y46 e46 => ?_
                  obtain ⟨h47, q47, c47⟩ := F11_spec h44 (Heapy.wf hp44) _ e46
                  have hp47 : Heapy h h47 [] := Heapy.call hp44 q47
                  intro hr
                  obtain rfl := Option.some.inj hr
                  exact ⟨h47, Heapy.pick hp47 [] (by decide), pFun_sound good tab_ok (f := 7) (its := [.g, .g, .g, .g, (.c (.bool y16) h17), .g, .g, (.w .g), (.w (.c (.bool y21) h17)), (.w .g), (.p false), .g, (.w .g), (.w .g), (.w (.ln l14.length)), (.w .g), (.p false), .g, (.w .g), (.w (.c (.bool y29) h17)), (.w .g), (.p false), .g, (.w .g), (.w .g), (.w (.ln l9.length)), (.w .g), (.p false), .g, (.w .g), (.w .g), (.w (.ln l11.length)), (.w .g), (.p false), .g, (.w .g), (.w .g), (.w (.ln l10.length)), (.w .g), (.p false), .g, (.w .g), (.w .g), (.w (.c (.bool y43) h44)), (.w .g), (.p false), (.b true), (.c (.bool y46) h47), .g]) (args := [.agg #[.int .i64 x1, .int .i64 x2, .bool x3, (sv v4), (sv v5), (sv v6)], .agg #[.int .i64 x7, .int .i64 x8, (sv v9), (sv v10), (sv v11)], .agg #[.int .i64 x12, .int .i64 x13, (sv v14), .int .i64 x15]]) (h := h) (h' := h47) (v := .bool y46) (hC := (ai c47 (ai c45 kc45))) (hr := by kernel_rfl)⟩
                · refine bind_opt fun y48 e48 => ?_
                  obtain ⟨u49_0, h49, q49, zu49_0, c49⟩ := F21_spec x1 x2 x3 l4 l5 l6 v4 v5 v6 h44 (Heapy.wf hp44) (SlE.mono hv4 (Heapy.sub hp44) (E57_mono (Heapy.sub hp44))) (SlE.mono hv5 (Heapy.sub hp44) (E59_mono (Heapy.sub hp44))) (SlE.mono hv6 (Heapy.sub hp44) (E61_mono (Heapy.sub hp44))) _ e48
                  have hp49 : Heapy h h49 [⟨u49_0, 3, 1, List.flatMap enc3 y48.2.2.1⟩] := Heapy.call hp44 q49
                  have kc51 := (ai c49 (ai c45 kc45))
                  refine dec_bif (fun c51 => ?_) (fun c51 => ?_)
                  · have kc52 := (ai c51 (ai (g_tt c51) (ai (g_tt c51) (ai (g_tt c51) (ai (g_tt c51) (ai (g_tt c51) kc51))))))
                    refine dec_bif (fun c52 => ?_) (fun c52 => ?_)
                    · refine bind_opt fun y53 e53 => ?_
                      obtain ⟨h54, q54, c54⟩ := F17_spec x1 x2 x3 l4 l5 l6 x12 x13 l14 x15 v4 v5 v6 v14 h49 (Heapy.wf hp49) (SlE.mono hv4 (Heapy.sub hp49) (E57_mono (Heapy.sub hp49))) (SlE.mono hv5 (Heapy.sub hp49) (E59_mono (Heapy.sub hp49))) (SlE.mono hv6 (Heapy.sub hp49) (E61_mono (Heapy.sub hp49))) (SlE.mono hv14 (Heapy.sub hp49) (E3_mono (Heapy.sub hp49))) _ e53
                      have hp54 : Heapy h h54 [⟨u49_0, 3, 1, List.flatMap enc3 y48.2.2.1⟩] := Heapy.call hp49 q54
                      have kc55 := (ai (g_tt c52) (ai (g_tt c52) (ai c54 (ai (g_tt c52) (ai (g_tt c52) (ai (g_tt c52) kc52))))))
                      refine dec_bif (fun c55 => ?_) (fun c55 => ?_)
                      · intro hr
                        obtain rfl := Option.some.inj hr
                        exact ⟨h54, Heapy.pick hp54 [] (by decide), pFun_sound good tab_ok (f := 7) (its := [.g, .g, .g, .g, (.c (.bool y16) h17), .g, .g, (.w .g), (.w (.c (.bool y21) h17)), (.w .g), (.p false), .g, (.w .g), (.w .g), (.w (.ln l14.length)), (.w .g), (.p false), .g, (.w .g), (.w (.c (.bool y29) h17)), (.w .g), (.p false), .g, (.w .g), (.w .g), (.w (.ln l9.length)), (.w .g), (.p false), .g, (.w .g), (.w .g), (.w (.ln l11.length)), (.w .g), (.p false), .g, (.w .g), (.w .g), (.w (.ln l10.length)), (.w .g), (.p false), .g, (.w .g), (.w .g), (.w (.c (.bool y43) h44)), (.w .g), (.p false), (.b false), .g, (.c (.tuple #[.agg #[.int .i64 y48.1, .int .i64 y48.2.1, (sv u49_0), .int .i64 y48.2.2.2.1], .int .i64 y48.2.2.2.2]) h49), .g, .g, .g, .g, .g, .g, .g, .g, .g, (.w .g), (.w .g), (.w .g), (.w .g), (.w .g), (.p true), .g, (.w .g), (.w .g), (.w (.c (.bool y53) h54)), (.w .g), (.w .g), .n, .n, .n, .n, .n, (.w (.p true)), (.p true), .g]) (args := [.agg #[.int .i64 x1, .int .i64 x2, .bool x3, (sv v4), (sv v5), (sv v6)], .agg #[.int .i64 x7, .int .i64 x8, (sv v9), (sv v10), (sv v11)], .agg #[.int .i64 x12, .int .i64 x13, (sv v14), .int .i64 x15]]) (h := h) (h' := h54) (v := .bool true) (hC := (ai c52 (ai c55 (ai (g_tt c52) (ai (g_tf c55) (ai (g_tf c55) (ai (g_tf c55) (ai (g_tf c55) (ai (g_tf c55) kc55))))))))) (hr := by kernel_rfl)⟩
                      · intro hr
                        obtain rfl := Option.some.inj hr
                        exact ⟨h54, Heapy.pick hp54 [] (by decide), pFun_sound good tab_ok (f := 7) (its := [.g, .g, .g, .g, (.c (.bool y16) h17), .g, .g, (.w .g), (.w (.c (.bool y21) h17)), (.w .g), (.p false), .g, (.w .g), (.w .g), (.w (.ln l14.length)), (.w .g), (.p false), .g, (.w .g), (.w (.c (.bool y29) h17)), (.w .g), (.p false), .g, (.w .g), (.w .g), (.w (.ln l9.length)), (.w .g), (.p false), .g, (.w .g), (.w .g), (.w (.ln l11.length)), (.w .g), (.p false), .g, (.w .g), (.w .g), (.w (.ln l10.length)), (.w .g), (.p false), .g, (.w .g), (.w .g), (.w (.c (.bool y43) h44)), (.w .g), (.p false), (.b false), .g, (.c (.tuple #[.agg #[.int .i64 y48.1, .int .i64 y48.2.1, (sv u49_0), .int .i64 y48.2.2.2.1], .int .i64 y48.2.2.2.2]) h49), .g, .g, .g, .g, .g, .g, .g, .g, .g, (.w .g), (.w .g), (.w .g), (.w .g), (.w .g), (.p true), .g, (.w .g), (.w .g), (.w (.c (.bool y53) h54)), (.w .g), (.w .g), (.w .g), (.w .g), (.w .g), (.w .g), (.w .g), (.w (.p false)), (.p true), .g]) (args := [.agg #[.int .i64 x1, .int .i64 x2, .bool x3, (sv v4), (sv v5), (sv v6)], .agg #[.int .i64 x7, .int .i64 x8, (sv v9), (sv v10), (sv v11)], .agg #[.int .i64 x12, .int .i64 x13, (sv v14), .int .i64 x15]]) (h := h) (h' := h54) (v := .bool (decide (x13 ≤ x7))) (hC := (ai c52 (ai c55 (ai (g_tt c52) (ai (g_ff c55) (ai (g_ff c55) (ai (g_ff c55) (ai (g_ff c55) (ai (g_ff c55) kc55))))))))) (hr := by kernel_rfl)⟩
                    · intro hr
                      obtain rfl := Option.some.inj hr
                      exact ⟨h49, Heapy.pick hp49 [] (by decide), pFun_sound good tab_ok (f := 7) (its := [.g, .g, .g, .g, (.c (.bool y16) h17), .g, .g, (.w .g), (.w (.c (.bool y21) h17)), (.w .g), (.p false), .g, (.w .g), (.w .g), (.w (.ln l14.length)), (.w .g), (.p false), .g, (.w .g), (.w (.c (.bool y29) h17)), (.w .g), (.p false), .g, (.w .g), (.w .g), (.w (.ln l9.length)), (.w .g), (.p false), .g, (.w .g), (.w .g), (.w (.ln l11.length)), (.w .g), (.p false), .g, (.w .g), (.w .g), (.w (.ln l10.length)), (.w .g), (.p false), .g, (.w .g), (.w .g), (.w (.c (.bool y43) h44)), (.w .g), (.p false), (.b false), .g, (.c (.tuple #[.agg #[.int .i64 y48.1, .int .i64 y48.2.1, (sv u49_0), .int .i64 y48.2.2.2.1], .int .i64 y48.2.2.2.2]) h49), .g, .g, .g, .g, .g, .g, .g, .g, .g, (.w .g), (.w .g), (.w .g), (.w .g), (.w .g), (.p true), .g, .n, .n, .n, .n, .n, .n, .n, .n, .n, .n, .n, (.p false), .g]) (args := [.agg #[.int .i64 x1, .int .i64 x2, .bool x3, (sv v4), (sv v5), (sv v6)], .agg #[.int .i64 x7, .int .i64 x8, (sv v9), (sv v10), (sv v11)], .agg #[.int .i64 x12, .int .i64 x13, (sv v14), .int .i64 x15]]) (h := h) (h' := h49) (v := .bool false) (hC := (ai c52 (ai (g_ft c52) (ai l_f (ai l_f (ai l_f (ai l_f (ai l_f (ai (g_ft c52) (ai (g_ft c52) (ai (g_ft c52) (ai (g_ft c52) (ai (g_ft c52) kc52))))))))))))) (hr := by kernel_rfl)⟩
                  · intro hr
                    obtain rfl := Option.some.inj hr
                    exact ⟨h49, Heapy.pick hp49 [] (by decide), pFun_sound good tab_ok (f := 7) (its := [.g, .g, .g, .g, (.c (.bool y16) h17), .g, .g, (.w .g), (.w (.c (.bool y21) h17)), (.w .g), (.p false), .g, (.w .g), (.w .g), (.w (.ln l14.length)), (.w .g), (.p false), .g, (.w .g), (.w (.c (.bool y29) h17)), (.w .g), (.p false), .g, (.w .g), (.w .g), (.w (.ln l9.length)), (.w .g), (.p false), .g, (.w .g), (.w .g), (.w (.ln l11.length)), (.w .g), (.p false), .g, (.w .g), (.w .g), (.w (.ln l10.length)), (.w .g), (.p false), .g, (.w .g), (.w .g), (.w (.c (.bool y43) h44)), (.w .g), (.p false), (.b false), .g, (.c (.tuple #[.agg #[.int .i64 y48.1, .int .i64 y48.2.1, (sv u49_0), .int .i64 y48.2.2.2.1], .int .i64 y48.2.2.2.2]) h49), .g, .g, .g, .g, .g, .g, .g, .g, .g, .n, .n, .n, .n, .n, (.p false), .g, .n, .n, .n, .n, .n, .n, .n, .n, .n, .n, .n, .g, .g]) (args := [.agg #[.int .i64 x1, .int .i64 x2, .bool x3, (sv v4), (sv v5), (sv v6)], .agg #[.int .i64 x7, .int .i64 x8, (sv v9), (sv v10), (sv v11)], .agg #[.int .i64 x12, .int .i64 x13, (sv v14), .int .i64 x15]]) (h := h) (h' := h49) (v := .bool false) (hC := (ai (g_ft l_f) (ai l_f (ai l_f (ai l_f (ai l_f (ai l_f (ai (g_ft l_f) (ai (g_ft l_f) (ai (g_ft l_f) (ai (g_ft l_f) (ai (g_ft l_f) (ai c51 (ai (g_ft c51) (ai (g_ft c51) (ai (g_ft c51) (ai (g_ft c51) (ai (g_ft c51) kc51)))))))))))))))))) (hr := by kernel_rfl)⟩
set_option maxRecDepth 100000 in
theorem F7_law (H : ∀ (x1 : Int) (x2 : Int) (x3 : Bool) (l4 : List (Int × Int × Int × Int)) (l5 : List (Int × Int × Int × Int)) (l6 : List (Int × Int)) (x7 : Int) (x8 : Int) (l9 : List Int) (l10 : List Int) (l11 : List Int) (x12 : Int) (x13 : Int) (l14 : List Int) (x15 : Int), (Lit.int .i64 x1).wf = true → (Lit.int .i64 x2).wf = true → (l4.length ≤ maxLen ∧ l4.length * 32 ≤ reachBytes) → (∀ y ∈ l4, W57 y) → (l5.length ≤ maxLen ∧ l5.length * 32 ≤ reachBytes) → (∀ y ∈ l5, W59 y) → (l6.length ≤ maxLen ∧ l6.length * 16 ≤ reachBytes) → (∀ y ∈ l6, W61 y) → (Lit.int .i64 x7).wf = true → (Lit.int .i64 x8).wf = true → (l9.length ≤ maxLen ∧ l9.length * 8 ≤ reachBytes) → (∀ y ∈ l9, W3 y) → (l10.length ≤ maxLen ∧ l10.length * 8 ≤ reachBytes) → (∀ y ∈ l10, W3 y) → (l11.length ≤ maxLen ∧ l11.length * 8 ≤ reachBytes) → (∀ y ∈ l11, W3 y) → (Lit.int .i64 x12).wf = true → (Lit.int .i64 x13).wf = true → (l14.length ≤ maxLen ∧ l14.length * 8 ≤ reachBytes) → (∀ y ∈ l14, W3 y) → (Lit.int .i64 x15).wf = true → F7 x1 x2 x3 l4 l5 l6 x7 x8 l9 l10 l11 x12 x13 l14 x15 = some true) : Law Try.prog 7 10 [26, 41, 31] := by
  intro s us hwf hro hT0
  obtain ⟨u0, vs0, rfl, t0, hT1⟩ := wts_cons hT0
  obtain ⟨cs0, rfl, k0⟩ := wtv_aggS 4 (ks := [.int .i64, .int .i64, .bool, .slice 57, .slice 59, .slice 61]) (by kernel_rfl) (by kernel_rfl) t0
  obtain ⟨x1, r_x1, rfl, w_x1, k0_0⟩ := sq_int k0
  obtain ⟨x2, r_x2, rfl, w_x2, k0_1⟩ := sq_int k0_0
  obtain ⟨x3, r_x3, rfl, k0_2⟩ := sq_bool k0_1
  obtain ⟨v4, r_l4, rfl, q_l4, k0_3⟩ := sq_slice k0_2
  obtain ⟨l4, a_l4, m_l4, w_l4⟩ := q_l4 E57 W57 4 (by kernel_rfl) fun n cs H => E57_wt H
  obtain ⟨v5, r_l5, rfl, q_l5, k0_4⟩ := sq_slice k0_3
  obtain ⟨l5, a_l5, m_l5, w_l5⟩ := q_l5 E59 W59 4 (by kernel_rfl) fun n cs H => E59_wt H
  obtain ⟨v6, r_l6, rfl, q_l6, k0_5⟩ := sq_slice k0_4
  obtain ⟨l6, a_l6, m_l6, w_l6⟩ := q_l6 E61 W61 2 (by kernel_rfl) fun n cs H => E61_wt H
  obtain rfl := sq_nil k0_5
  obtain ⟨u1, vs1, rfl, t1, hT2⟩ := wts_cons hT1
  obtain ⟨cs1, rfl, k1⟩ := wtv_aggS 3 (ks := [.int .i64, .int .i64, .slice 3, .slice 3, .slice 3]) (by kernel_rfl) (by kernel_rfl) t1
  obtain ⟨x7, r_x7, rfl, w_x7, k1_0⟩ := sq_int k1
  obtain ⟨x8, r_x8, rfl, w_x8, k1_1⟩ := sq_int k1_0
  obtain ⟨v9, r_l9, rfl, q_l9, k1_2⟩ := sq_slice k1_1
  obtain ⟨l9, a_l9, m_l9, w_l9⟩ := q_l9 E3 W3 1 (by kernel_rfl) fun n cs H => E3_wt H
  obtain ⟨v10, r_l10, rfl, q_l10, k1_3⟩ := sq_slice k1_2
  obtain ⟨l10, a_l10, m_l10, w_l10⟩ := q_l10 E3 W3 1 (by kernel_rfl) fun n cs H => E3_wt H
  obtain ⟨v11, r_l11, rfl, q_l11, k1_4⟩ := sq_slice k1_3
  obtain ⟨l11, a_l11, m_l11, w_l11⟩ := q_l11 E3 W3 1 (by kernel_rfl) fun n cs H => E3_wt H
  obtain rfl := sq_nil k1_4
  obtain ⟨u2, vs2, rfl, t2, hT3⟩ := wts_cons hT2
  obtain ⟨cs2, rfl, k2⟩ := wtv_aggS 3 (ks := [.int .i64, .int .i64, .slice 3, .int .i64]) (by kernel_rfl) (by kernel_rfl) t2
  obtain ⟨x12, r_x12, rfl, w_x12, k2_0⟩ := sq_int k2
  obtain ⟨x13, r_x13, rfl, w_x13, k2_1⟩ := sq_int k2_0
  obtain ⟨v14, r_l14, rfl, q_l14, k2_2⟩ := sq_slice k2_1
  obtain ⟨l14, a_l14, m_l14, w_l14⟩ := q_l14 E3 W3 1 (by kernel_rfl) fun n cs H => E3_wt H
  obtain ⟨x15, r_x15, rfl, w_x15, k2_3⟩ := sq_int k2_2
  obtain rfl := sq_nil k2_3
  obtain rfl := wts_nil hT3
  obtain ⟨h2, _, hc⟩ := F7_spec x1 x2 x3 l4 l5 l6 x7 x8 l9 l10 l11 x12 x13 l14 x15 v4 v5 v6 v9 v10 v11 v14 s hwf a_l4 a_l5 a_l6 a_l9 a_l10 a_l11 a_l14 _ (H x1 x2 x3 l4 l5 l6 x7 x8 l9 l10 l11 x12 x13 l14 x15 w_x1 w_x2 m_l4 w_l4 m_l5 w_l5 m_l6 w_l6 w_x7 w_x8 m_l9 w_l9 m_l10 w_l10 m_l11 w_l11 w_x12 w_x13 m_l14 w_l14 w_x15)
  refine (hc).mono ?_
  rintro v h' ⟨rfl, rfl⟩
  rfl
end
end Go.Proofs.Ytimeninncpmaeaa.Abs
