/-
  Contracts, written by program: for each function what its call yields, and that it yields it.
-/
import Derived.Test.YtimeninncpmaeaaBdb
namespace Go.Proofs.Ytimeninncpmaeaa.Abs
open Go
set_option linter.unusedVariables false
set_option linter.unusedSimpArgs false

noncomputable section
/-! 46 jacquard/jacquardref28.Clashes -/
def F46_L : List Nat := [2, 3]
def F46_D : List (Nat × List (Nat × Nat)) := []
def F46_m1_1 : List Bool := (true :: true :: false :: false :: true :: false :: true :: true :: true :: false :: false :: (rp 22 true []))
def F46_m1_0 : List Bool := (true :: true :: false :: false :: true :: false :: false :: false :: true :: false :: false :: (rp 22 true []))
def F46_s1 (x1 : Int) (x2 : Int) (x3 : Bool) (l4 : List (Int × Int × Int × Int)) (l5 : List (Int × Int × Int × Int)) (l6 : List (Int × Int)) (x7 : Int) (x8 : Int) (l9 : List Int) (l10 : List Int) (l11 : List Int) (a14 : Int) (a18 : Int) (l19 : List (Int × Int)) : Option ((Int × (List (Int × Int))) ⊕ (List (Int × Int))) :=
  (bif decide (a18 < x1) then
   (Option.bind (F61 x1 x2 x3 l4 l5 l6 x7 x8 l9 l10 l11 a14 a18) fun y22 =>
   (bif y22 then
    (bif (!(okApp (l19.length + ([(a14, a18)] : List (Int × Int)).length) 16)) then none else
    some (.inl ((IntKind.i64.wrap (a18 + 1)), (l19 ++ ([(a14, a18)] : List (Int × Int))))))
   else
    some (.inl ((IntKind.i64.wrap (a18 + 1)), l19))))
  else
   some (.inr l19))
def F46_h1 (x1 : Int) (x2 : Int) (x3 : Bool) (v4 : Hd) (v5 : Hd) (v6 : Hd) (x7 : Int) (x8 : Int) (v9 : Hd) (v10 : Hd) (v11 : Hd) (a14 : Int) (h20 : AHeap) (u19 : Hd) (a18 : Int) (l19 : List (Int × Int)) : AS := ⟨(junk :: junk :: (.pointer (some ⟨2, 0, none⟩)) :: (.pointer (some ⟨3, 0, none⟩)) :: junk :: (sv u19) :: (.int .i64 a14) :: (.int .i64 a18) :: junk :: (.int .i64 x1) :: (.int .i64 a14) :: (rp 22 junk [])), [(2, [.int .i64 x1, .int .i64 x2, .bool x3, (sv v4), (sv v5), (sv v6)]), (3, [.int .i64 x7, .int .i64 x8, (sv v9), (sv v10), (sv v11)])], h20⟩
theorem F46_d1 : drawsOk F46_D (codeOf Try.prog 46 [1, 1, 0, 1, 0, 0, 1, 1, 0, 0, 1, 1, 0, 0]) = true := by kernel_rfl
def F46_x1_0 (h : AHeap) (x1 : Int) (x2 : Int) (x3 : Bool) (v4 : Hd) (v5 : Hd) (v6 : Hd) (x7 : Int) (x8 : Int) (v9 : Hd) (v10 : Hd) (v11 : Hd) (a14 : Int) (hx : AHeap) (w0 : Hd) (r : (List (Int × Int))) : AS := ⟨(junk :: junk :: (.pointer (some ⟨2, 0, none⟩)) :: (.pointer (some ⟨3, 0, none⟩)) :: junk :: (sv w0) :: junk :: junk :: junk :: (.int .i64 x1) :: (.int .i64 a14) :: (rp 22 junk [])), [(2, [.int .i64 x1, .int .i64 x2, .bool x3, (sv v4), (sv v5), (sv v6)]), (3, [.int .i64 x7, .int .i64 x8, (sv v9), (sv v10), (sv v11)])], hx⟩
def F46_i1 (h : AHeap) (x1 : Int) (x2 : Int) (x3 : Bool) (v4 : Hd) (v5 : Hd) (v6 : Hd) (x7 : Int) (x8 : Int) (v9 : Hd) (v10 : Hd) (v11 : Hd) (a14 : Int) (s : Int × (List (Int × Int))) (S : AS) : Prop := ∃ (h20 : AHeap) (u19 : Hd), Heapy h h20 [⟨u19, 86, 2, List.flatMap enc86 s.2⟩] ∧ Strict u19 ∧ S = (F46_h1 x1 x2 x3 v4 v5 v6 x7 x8 v9 v10 v11 a14 h20 u19 s.1 s.2)
def F46_x1 (h : AHeap) (x1 : Int) (x2 : Int) (x3 : Bool) (v4 : Hd) (v5 : Hd) (v6 : Hd) (x7 : Int) (x8 : Int) (v9 : Hd) (v10 : Hd) (v11 : Hd) (a14 : Int) (r : (List (Int × Int))) (e : Exit) (S : AS) : Prop := e = (.exit 2) ∧ ∃ (hx : AHeap) (w0 : Hd), Heapy h hx [⟨w0, 86, 2, List.flatMap enc86 r⟩] ∧ Strict w0 ∧ S = (F46_x1_0 h x1 x2 x3 v4 v5 v6 x7 x8 v9 v10 v11 a14 hx w0 r)
set_option maxRecDepth 100000 in
theorem F46_r1 (h : AHeap) (x1 : Int) (x2 : Int) (x3 : Bool) (l4 : List (Int × Int × Int × Int)) (v4 : Hd) (hv4 : SlE E57 4 h (sv v4) l4) (l5 : List (Int × Int × Int × Int)) (v5 : Hd) (hv5 : SlE E59 4 h (sv v5) l5) (l6 : List (Int × Int)) (v6 : Hd) (hv6 : SlE E61 2 h (sv v6) l6) (x7 : Int) (x8 : Int) (l9 : List Int) (v9 : Hd) (hv9 : SlE E3 1 h (sv v9) l9) (l10 : List Int) (v10 : Hd) (hv10 : SlE E3 1 h (sv v10) l10) (l11 : List Int) (v11 : Hd) (hv11 : SlE E3 1 h (sv v11) l11) (a14 : Int) (a18 : Int) (l19 : List (Int × Int)) (S : AS) (hI : (F46_i1 h x1 x2 x3 v4 v5 v6 x7 x8 v9 v10 v11 a14) (a18, l19) S) (o : (Int × (List (Int × Int))) ⊕ (List (Int × Int))) : F46_s1 x1 x2 x3 l4 l5 l6 x7 x8 l9 l10 l11 a14 a18 l19 = some o → Rd Try.prog (codeOf Try.prog 46 [1, 1, 0, 1, 0, 0, 1, 1, 0, 0, 1, 1, 0, 0]) (F46_i1 h x1 x2 x3 v4 v5 v6 x7 x8 v9 v10 v11 a14) (F46_x1 h x1 x2 x3 v4 v5 v6 x7 x8 v9 v10 v11 a14) S o := by
  obtain ⟨h20, u19, hp20, z19, rfl⟩ := hI
  unfold F46_s1
  refine dec_bif (fun c21 => ?_) (fun c21 => ?_)
  · refine bind_opt fun y22 e22 => ?_
    have kc24 := (ai (F61_spec x1 x2 x3 l4 l5 l6 x7 x8 l9 l10 l11 a14 a18 v4 v5 v6 v9 v10 v11 h20 (SlE.mono hv4 (Heapy.sub hp20) (E57_mono (Heapy.sub hp20))) (SlE.mono hv5 (Heapy.sub hp20) (E59_mono (Heapy.sub hp20))) (SlE.mono hv6 (Heapy.sub hp20) (E61_mono (Heapy.sub hp20))) (SlE.mono hv9 (Heapy.sub hp20) (E3_mono (Heapy.sub hp20))) (SlE.mono hv10 (Heapy.sub hp20) (E3_mono (Heapy.sub hp20))) (SlE.mono hv11 (Heapy.sub hp20) (E3_mono (Heapy.sub hp20))) _ e22) (ai c21 trivial))
    refine dec_bif (fun c24 => ?_) (fun c24 => ?_)
    · obtain ⟨v25, h25, m25, hp25, _⟩ := Heapy.build (P := Try.prog) hp20 (t := 71) (e := 86) (len := 1) (n := 2) (parts := [(0, .agg #[.int .i64 a14, .int .i64 a18])]) (cells := List.flatMap enc86 ([(a14, a18)] : List (Int × Int))) (by kernel_rfl) rfl
      refine guard_ok fun g27 => ?_
      obtain ⟨v28, h28, m28, q28, _, w28⟩ := Heapy.append hp25 (show mkInfo Try.prog 71 = some (86, 2, 16, [.int .i64 0, .int .i64 0]) by kernel_rfl) 1 (v := u19) (cells := List.flatMap enc86 l19) rfl (Y := (sv v25)) (SlE.src (enc := enc86) (c := 2) (Heapy.sle (v := v25) (xs := ([(a14, a18)] : List (Int × Int))) (enc := enc86) hp25 0 rfl (fun _ => rfl) (by decide)) (fun _ => rfl)) (flatMap_length (enc := enc86) (c := 2) (fun _ => rfl) _) (by rw [Heapy.vn (v := u19) (xs := l19) (enc := enc86) hp25 1 rfl (fun _ => rfl) (by decide)]; simpa using g27)
      have z28 : Strict v28 := w28 z19
      have hp28 : Heapy h h28 [⟨v25, 86, 2, List.flatMap enc86 ([(a14, a18)] : List (Int × Int))⟩, ⟨v28, 86, 2, List.flatMap enc86 (l19 ++ ([(a14, a18)] : List (Int × Int)))⟩] := by rw [← List.flatMap_append] at q28; exact q28
      intro hr
      obtain rfl := Option.some.inj hr
      exact ⟨(F46_h1 x1 x2 x3 v4 v5 v6 x7 x8 v9 v10 v11 a14 h28 v28 (IntKind.i64.wrap (a18 + 1)) (l19 ++ ([(a14, a18)] : List (Int × Int)))), ⟨h28, v28, (Heapy.pick hp28 [1] (by decide)), z28, rfl⟩, pEnd_sound good (L := F46_L) (D := F46_D) (its := [.g, .g, .g, .g, (.b true), .g, .g, .g, .g, (.c (.bool y22) h20), (.b true), .g, .g, .g, .g, (.mm (sv v25) h25), (.mm (sv v28) h28), .g, .g, .g, .g]) (ds := F46_m1_0) (ks := []) (e := .normal) (s2 := (F46_h1 x1 x2 x3 v4 v5 v6 x7 x8 v9 v10 v11 a14 h28 v28 (IntKind.i64.wrap (a18 + 1)) (l19 ++ ([(a14, a18)] : List (Int × Int))))) (hC := (ai m28 (ai m25 (ai c24 kc24)))) (hd := F46_d1) (h := by kernel_rfl)⟩
    · intro hr
      obtain rfl := Option.some.inj hr
      exact ⟨(F46_h1 x1 x2 x3 v4 v5 v6 x7 x8 v9 v10 v11 a14 h20 u19 (IntKind.i64.wrap (a18 + 1)) l19), ⟨h20, u19, (Heapy.pick hp20 [0] (by decide)), z19, rfl⟩, pEnd_sound good (L := F46_L) (D := F46_D) (its := [.g, .g, .g, .g, (.b true), .g, .g, .g, .g, (.c (.bool y22) h20), (.b false), .g, .g, .g]) (ds := F46_m1_0) (ks := []) (e := .normal) (s2 := (F46_h1 x1 x2 x3 v4 v5 v6 x7 x8 v9 v10 v11 a14 h20 u19 (IntKind.i64.wrap (a18 + 1)) l19)) (hC := (ai c24 kc24)) (hd := F46_d1) (h := by kernel_rfl)⟩
  · intro hr
    obtain rfl := Option.some.inj hr
    refine ⟨(.exit 2), (F46_x1_0 h x1 x2 x3 v4 v5 v6 x7 x8 v9 v10 v11 a14 h20 u19 (l19 : (List (Int × Int)))), (by intro hh; cases hh), ?_, pEnd_sound good (L := F46_L) (D := F46_D) (its := [.g, .g, .g, .g, (.b false)]) (ds := F46_m1_1) (ks := []) (e := (.exit 2)) (s2 := (F46_x1_0 h x1 x2 x3 v4 v5 v6 x7 x8 v9 v10 v11 a14 h20 u19 (l19 : (List (Int × Int))))) (hC := (ai c21 trivial)) (hd := F46_d1) (h := by kernel_rfl)⟩
    exact ⟨rfl, h20, u19, (Heapy.pick hp20 [0] (by decide)), z19, rfl⟩
theorem F46_l1 (h : AHeap) (x1 : Int) (x2 : Int) (x3 : Bool) (l4 : List (Int × Int × Int × Int)) (v4 : Hd) (hv4 : SlE E57 4 h (sv v4) l4) (l5 : List (Int × Int × Int × Int)) (v5 : Hd) (hv5 : SlE E59 4 h (sv v5) l5) (l6 : List (Int × Int)) (v6 : Hd) (hv6 : SlE E61 2 h (sv v6) l6) (x7 : Int) (x8 : Int) (l9 : List Int) (v9 : Hd) (hv9 : SlE E3 1 h (sv v9) l9) (l10 : List Int) (v10 : Hd) (hv10 : SlE E3 1 h (sv v10) l10) (l11 : List Int) (v11 : Hd) (hv11 : SlE E3 1 h (sv v11) l11) (a14 : Int) (x : Int × (List (Int × Int))) (r : (List (Int × Int))) (hl : loopO (fun (s : Int × (List (Int × Int))) => F46_s1 x1 x2 x3 l4 l5 l6 x7 x8 l9 l10 l11 a14 s.1 s.2) x = some r) (S : AS) (hI : (F46_i1 h x1 x2 x3 v4 v5 v6 x7 x8 v9 v10 v11 a14) x S) : ∃ e S', (F46_x1 h x1 x2 x3 v4 v5 v6 x7 x8 v9 v10 v11 a14) r e S' ∧ AWp Try.prog (.loop (codeOf Try.prog 46 [1, 1, 0, 1, 0, 0, 1, 1, 0, 0, 1, 1, 0, 0])) (Ends1 e S') S :=
  loop_rel (fun x S hI => F46_r1 h x1 x2 x3 l4 v4 hv4 l5 v5 hv5 l6 v6 hv6 x7 x8 l9 v9 hv9 l10 v10 hv10 l11 v11 hv11 a14 x.1 x.2 S hI) hl hI
def F46_m2_1 : List Bool := (rp 5 true (false :: (rp 27 true [])))
def F46_m2_0 : List Bool := (true :: true :: false :: false :: true :: false :: true :: true :: true :: false :: false :: (rp 22 true []))
def F46_s2 (x1 : Int) (x2 : Int) (x3 : Bool) (l4 : List (Int × Int × Int × Int)) (l5 : List (Int × Int × Int × Int)) (l6 : List (Int × Int)) (x7 : Int) (x8 : Int) (l9 : List Int) (l10 : List Int) (l11 : List Int) (a14 : Int) (l15 : List (Int × Int)) : Option ((Int × (List (Int × Int))) ⊕ (List (Int × Int))) :=
  (bif decide (a14 < x1) then
   (Option.bind (loopO (fun (s : Int × (List (Int × Int))) => F46_s1 x1 x2 x3 l4 l5 l6 x7 x8 l9 l10 l11 a14 s.1 s.2) (a14, l15)) fun y30 =>
   some (.inl ((IntKind.i64.wrap (a14 + 1)), y30)))
  else
   some (.inr l15))
def F46_h2 (x1 : Int) (x2 : Int) (x3 : Bool) (v4 : Hd) (v5 : Hd) (v6 : Hd) (x7 : Int) (x8 : Int) (v9 : Hd) (v10 : Hd) (v11 : Hd) (h16 : AHeap) (u15 : Hd) (a14 : Int) (l15 : List (Int × Int)) : AS := ⟨(junk :: junk :: (.pointer (some ⟨2, 0, none⟩)) :: (.pointer (some ⟨3, 0, none⟩)) :: junk :: (sv u15) :: junk :: junk :: junk :: (.int .i64 x1) :: (.int .i64 a14) :: (rp 22 junk [])), [(2, [.int .i64 x1, .int .i64 x2, .bool x3, (sv v4), (sv v5), (sv v6)]), (3, [.int .i64 x7, .int .i64 x8, (sv v9), (sv v10), (sv v11)])], h16⟩
theorem F46_d2 : drawsOk F46_D (codeOf Try.prog 46 [1, 1, 0, 1, 0, 0]) = true := by kernel_rfl
def F46_x2_0 (h : AHeap) (hx : AHeap) (w0 : Hd) (r : (List (Int × Int))) : AS := ⟨(rp 5 junk ((sv w0) :: (rp 27 junk []))), [], hx⟩
def F46_i2 (h : AHeap) (x1 : Int) (x2 : Int) (x3 : Bool) (v4 : Hd) (v5 : Hd) (v6 : Hd) (x7 : Int) (x8 : Int) (v9 : Hd) (v10 : Hd) (v11 : Hd) (s : Int × (List (Int × Int))) (S : AS) : Prop := ∃ (h16 : AHeap) (u15 : Hd), Heapy h h16 [⟨u15, 86, 2, List.flatMap enc86 s.2⟩] ∧ Strict u15 ∧ S = (F46_h2 x1 x2 x3 v4 v5 v6 x7 x8 v9 v10 v11 h16 u15 s.1 s.2)
def F46_x2 (h : AHeap) (r : (List (Int × Int))) (e : Exit) (S : AS) : Prop := e = (.exit 0) ∧ ∃ (hx : AHeap) (w0 : Hd), Heapy h hx [⟨w0, 86, 2, List.flatMap enc86 r⟩] ∧ Strict w0 ∧ S = (F46_x2_0 h hx w0 r)
set_option maxRecDepth 100000 in
theorem F46_r2 (h : AHeap) (x1 : Int) (x2 : Int) (x3 : Bool) (l4 : List (Int × Int × Int × Int)) (v4 : Hd) (hv4 : SlE E57 4 h (sv v4) l4) (l5 : List (Int × Int × Int × Int)) (v5 : Hd) (hv5 : SlE E59 4 h (sv v5) l5) (l6 : List (Int × Int)) (v6 : Hd) (hv6 : SlE E61 2 h (sv v6) l6) (x7 : Int) (x8 : Int) (l9 : List Int) (v9 : Hd) (hv9 : SlE E3 1 h (sv v9) l9) (l10 : List Int) (v10 : Hd) (hv10 : SlE E3 1 h (sv v10) l10) (l11 : List Int) (v11 : Hd) (hv11 : SlE E3 1 h (sv v11) l11) (a14 : Int) (l15 : List (Int × Int)) (S : AS) (hI : (F46_i2 h x1 x2 x3 v4 v5 v6 x7 x8 v9 v10 v11) (a14, l15) S) (o : (Int × (List (Int × Int))) ⊕ (List (Int × Int))) : F46_s2 x1 x2 x3 l4 l5 l6 x7 x8 l9 l10 l11 a14 l15 = some o → Rd Try.prog (codeOf Try.prog 46 [1, 1, 0, 1, 0, 0]) (F46_i2 h x1 x2 x3 v4 v5 v6 x7 x8 v9 v10 v11) (F46_x2 h) S o := by
  obtain ⟨h16, u15, hp16, z15, rfl⟩ := hI
  unfold F46_s2
  refine dec_bif (fun c17 => ?_) (fun c17 => ?_)
  · refine bind_opt fun y30 e30 => ?_
    obtain ⟨ee30, SS30, hX30, hA30⟩ := F46_l1 h x1 x2 x3 l4 v4 hv4 l5 v5 hv5 l6 v6 hv6 x7 x8 l9 v9 hv9 l10 v10 hv10 l11 v11 hv11 a14 (a14, l15) y30 e30 (F46_h1 x1 x2 x3 v4 v5 v6 x7 x8 v9 v10 v11 a14 h16 u15 a14 l15) ⟨h16, u15, (Heapy.pick hp16 [0] (by decide)), z15, rfl⟩
    obtain ⟨rfl, h31, w0_31, hp31, zw0_31, rfl⟩ := hX30
    intro hr
    obtain rfl := Option.some.inj hr
    exact ⟨(F46_h2 x1 x2 x3 v4 v5 v6 x7 x8 v9 v10 v11 h31 w0_31 (IntKind.i64.wrap (a14 + 1)) y30), ⟨h31, w0_31, (Heapy.pick hp31 [0] (by decide)), zw0_31, rfl⟩, pEnd_sound good (L := F46_L) (D := F46_D) (its := [.g, (.b true), .g, .g, .g, .g, (.l F46_m1_0 [] (.exit 2) (F46_x1_0 h x1 x2 x3 v4 v5 v6 x7 x8 v9 v10 v11 a14 h31 w0_31 y30)), .g, .g]) (ds := F46_m2_0) (ks := []) (e := .normal) (s2 := (F46_h2 x1 x2 x3 v4 v5 v6 x7 x8 v9 v10 v11 h31 w0_31 (IntKind.i64.wrap (a14 + 1)) y30)) (hC := (ai hA30 (ai c17 trivial))) (hd := F46_d2) (h := by kernel_rfl)⟩
  · intro hr
    obtain rfl := Option.some.inj hr
    refine ⟨(.exit 0), (F46_x2_0 h h16 u15 (l15 : (List (Int × Int)))), (by intro hh; cases hh), ?_, pEnd_sound good (L := F46_L) (D := F46_D) (its := [.g, (.b false)]) (ds := F46_m2_1) (ks := [2, 3]) (e := (.exit 0)) (s2 := (F46_x2_0 h h16 u15 (l15 : (List (Int × Int))))) (hC := (ai c17 trivial)) (hd := F46_d2) (h := by kernel_rfl)⟩
    exact ⟨rfl, h16, u15, (Heapy.pick hp16 [0] (by decide)), z15, rfl⟩
theorem F46_l2 (h : AHeap) (x1 : Int) (x2 : Int) (x3 : Bool) (l4 : List (Int × Int × Int × Int)) (v4 : Hd) (hv4 : SlE E57 4 h (sv v4) l4) (l5 : List (Int × Int × Int × Int)) (v5 : Hd) (hv5 : SlE E59 4 h (sv v5) l5) (l6 : List (Int × Int)) (v6 : Hd) (hv6 : SlE E61 2 h (sv v6) l6) (x7 : Int) (x8 : Int) (l9 : List Int) (v9 : Hd) (hv9 : SlE E3 1 h (sv v9) l9) (l10 : List Int) (v10 : Hd) (hv10 : SlE E3 1 h (sv v10) l10) (l11 : List Int) (v11 : Hd) (hv11 : SlE E3 1 h (sv v11) l11) (x : Int × (List (Int × Int))) (r : (List (Int × Int))) (hl : loopO (fun (s : Int × (List (Int × Int))) => F46_s2 x1 x2 x3 l4 l5 l6 x7 x8 l9 l10 l11 s.1 s.2) x = some r) (S : AS) (hI : (F46_i2 h x1 x2 x3 v4 v5 v6 x7 x8 v9 v10 v11) x S) : ∃ e S', (F46_x2 h) r e S' ∧ AWp Try.prog (.loop (codeOf Try.prog 46 [1, 1, 0, 1, 0, 0])) (Ends1 e S') S :=
  loop_rel (fun x S hI => F46_r2 h x1 x2 x3 l4 v4 hv4 l5 v5 hv5 l6 v6 hv6 x7 x8 l9 v9 hv9 l10 v10 hv10 l11 v11 hv11 x.1 x.2 S hI) hl hI
def F46 (x1 : Int) (x2 : Int) (x3 : Bool) (l4 : List (Int × Int × Int × Int)) (l5 : List (Int × Int × Int × Int)) (l6 : List (Int × Int)) (x7 : Int) (x8 : Int) (l9 : List Int) (l10 : List Int) (l11 : List Int) : Option ((List (Int × Int))) :=
  (Option.bind (loopO (fun (s : Int × (List (Int × Int))) => F46_s2 x1 x2 x3 l4 l5 l6 x7 x8 l9 l10 l11 s.1 s.2) (0, ([] : List (Int × Int)))) fun y32 =>
  some (y32))
set_option maxRecDepth 100000 in
theorem F46_spec (x1 : Int) (x2 : Int) (x3 : Bool) (l4 : List (Int × Int × Int × Int)) (l5 : List (Int × Int × Int × Int)) (l6 : List (Int × Int)) (x7 : Int) (x8 : Int) (l9 : List Int) (l10 : List Int) (l11 : List Int) (v4 : Hd) (v5 : Hd) (v6 : Hd) (v9 : Hd) (v10 : Hd) (v11 : Hd) (h : AHeap) (hw : h.wf) (hv4 : SlE E57 4 h (sv v4) l4) (hv5 : SlE E59 4 h (sv v5) l5) (hv6 : SlE E61 2 h (sv v6) l6) (hv9 : SlE E3 1 h (sv v9) l9) (hv10 : SlE E3 1 h (sv v10) l10) (hv11 : SlE E3 1 h (sv v11) l11) (r : (List (Int × Int))) : F46 x1 x2 x3 l4 l5 l6 x7 x8 l9 l10 l11 = some r → ∃ (ur0 : Hd) (h' : AHeap), Heapy h h' [⟨ur0, 86, 2, List.flatMap enc86 r⟩] ∧ Strict ur0 ∧ ACalls Try.prog 46 [.agg #[.int .i64 x1, .int .i64 x2, .bool x3, (sv v4), (sv v5), (sv v6)], .agg #[.int .i64 x7, .int .i64 x8, (sv v9), (sv v10), (sv v11)]] h (fun v' h'' => v' = ((sv ur0) : Value) ∧ h'' = h') := by
  unfold F46
  refine bind_opt fun y32 e32 => ?_
  have hp12 : Heapy h h [⟨⟨none, 0, 0⟩, 86, 2, List.flatMap enc86 ([] : List (Int × Int))⟩] := Heapy.nil (Heapy.refl hw) 86 2
  obtain ⟨ee32, SS32, hX32, hA32⟩ := F46_l2 h x1 x2 x3 l4 v4 hv4 l5 v5 hv5 l6 v6 hv6 x7 x8 l9 v9 hv9 l10 v10 hv10 l11 v11 hv11 (0, ([] : List (Int × Int))) y32 e32 (F46_h2 x1 x2 x3 v4 v5 v6 x7 x8 v9 v10 v11 h ⟨none, 0, 0⟩ 0 ([] : List (Int × Int))) ⟨h, ⟨none, 0, 0⟩, (Heapy.pick hp12 [0] (by decide)), Strict.nil, rfl⟩
  obtain ⟨rfl, h33, w0_33, hp33, zw0_33, rfl⟩ := hX32
  intro hr
  obtain rfl := Option.some.inj hr
  exact ⟨w0_33, h33, Heapy.pick hp33 [0] (by decide), zw0_33, pFun_sound good tab_ok (f := 46) (its := [.g, .g, .g, .g, .g, .g, .g, (.l F46_m2_0 [] (.exit 0) (F46_x2_0 h h33 w0_33 y32)), .g, .g]) (args := [.agg #[.int .i64 x1, .int .i64 x2, .bool x3, (sv v4), (sv v5), (sv v6)], .agg #[.int .i64 x7, .int .i64 x8, (sv v9), (sv v10), (sv v11)]]) (h := h) (h' := h33) (v := (sv w0_33)) (hC := (ai hA32 trivial)) (hr := by kernel_rfl)⟩
/-! 22 jacquard/jacquardref28.Legal -/
def F22_L : List Nat := [2, 3]
def F22_D : List (Nat × List (Nat × Nat)) := []
def F22_m1_2 : List Bool := (true :: true :: false :: false :: (rp 43 true []))
def F22_m1_1 : List Bool := (true :: true :: false :: false :: (rp 15 true (false :: false :: (rp 26 true []))))
def F22_m1_0 : List Bool := (rp 4 true (false :: (rp 42 true [])))
def F22_s1 (x3 : Bool) (l10 : List Int) (a16 : Int) : Option (Int ⊕ Nat) :=
  (bif decide (a16 < (l10.length : Int)) then
   (bif (!x3) then
    (Option.bind (at? l10 a16) fun y19 =>
    (bif (y19 != 0) then
     some (.inr 0)
    else
     some (.inl (IntKind.i64.wrap (a16 + 1)))))
   else
    some (.inl (IntKind.i64.wrap (a16 + 1))))
  else
   some (.inr 1))
def F22_h1 (h : AHeap) (x1 : Int) (x2 : Int) (x3 : Bool) (v4 : Hd) (v5 : Hd) (v6 : Hd) (x7 : Int) (x8 : Int) (v9 : Hd) (l10 : List Int) (v10 : Hd) (v11 : Hd)  (a16 : Int) : AS := ⟨(junk :: junk :: (.pointer (some ⟨2, 0, none⟩)) :: (.pointer (some ⟨3, 0, none⟩)) :: (rp 15 junk ((.int .i64 (l10.length : Int)) :: (.int .i64 a16) :: (rp 26 junk [])))), [(2, [.int .i64 x1, .int .i64 x2, .bool x3, (sv v4), (sv v5), (sv v6)]), (3, [.int .i64 x7, .int .i64 x8, (sv v9), (sv v10), (sv v11)])], h⟩
theorem F22_d1 : drawsOk F22_D (codeOf Try.prog 22 [1, 1, 0, 1, 0, 0]) = true := by kernel_rfl
def F22_x1_0 (h : AHeap) (x1 : Int) (x2 : Int) (x3 : Bool) (v4 : Hd) (v5 : Hd) (v6 : Hd) (x7 : Int) (x8 : Int) (v9 : Hd) (v10 : Hd) (v11 : Hd)  (r : Nat) : AS := ⟨(rp 4 junk ((.bool false) :: (rp 42 junk []))), [], h⟩
def F22_x1_1 (h : AHeap) (x1 : Int) (x2 : Int) (x3 : Bool) (v4 : Hd) (v5 : Hd) (v6 : Hd) (x7 : Int) (x8 : Int) (v9 : Hd) (v10 : Hd) (v11 : Hd)  (r : Nat) : AS := ⟨(junk :: junk :: (.pointer (some ⟨2, 0, none⟩)) :: (.pointer (some ⟨3, 0, none⟩)) :: (rp 43 junk [])), [(2, [.int .i64 x1, .int .i64 x2, .bool x3, (sv v4), (sv v5), (sv v6)]), (3, [.int .i64 x7, .int .i64 x8, (sv v9), (sv v10), (sv v11)])], h⟩
def F22_x1 (h : AHeap) (x1 : Int) (x2 : Int) (x3 : Bool) (v4 : Hd) (v5 : Hd) (v6 : Hd) (x7 : Int) (x8 : Int) (v9 : Hd) (v10 : Hd) (v11 : Hd) (r : Nat) : Exit × AS := (bif Nat.beq r 0 then (.ret, (F22_x1_0 h x1 x2 x3 v4 v5 v6 x7 x8 v9 v10 v11 r)) else ((.exit 0), (F22_x1_1 h x1 x2 x3 v4 v5 v6 x7 x8 v9 v10 v11 r)))
set_option maxRecDepth 100000 in
theorem F22_r1 (h : AHeap) (x1 : Int) (x2 : Int) (x3 : Bool) (v4 : Hd) (v5 : Hd) (v6 : Hd) (x7 : Int) (x8 : Int) (v9 : Hd) (l10 : List Int) (v10 : Hd) (hv10 : SlE E3 1 h (sv v10) l10) (v11 : Hd) (a16 : Int) (o : Int ⊕ Nat) : F22_s1 x3 l10 a16 = some o → RdF Try.prog (codeOf Try.prog 22 [1, 1, 0, 1, 0, 0]) (fun (s : Int) => (F22_h1 h x1 x2 x3 v4 v5 v6 x7 x8 v9 l10 v10 v11 s)) (F22_x1 h x1 x2 x3 v4 v5 v6 x7 x8 v9 v10 v11) (F22_h1 h x1 x2 x3 v4 v5 v6 x7 x8 v9 l10 v10 v11 a16) o := by
  unfold F22_s1
  refine dec_bif (fun c17 => ?_) (fun c17 => ?_)
  · have kc18 := (ai c17 trivial)
    refine dec_bif (fun c18 => ?_) (fun c18 => ?_)
    · refine bind_opt fun y19 e19 => ?_
      obtain ⟨id19, off19, g19, cs19, ix19, at19, rfl⟩ := SlE.at hv10 e19
      have kc20 := (ai c18 (ai (g_tt c18) (ai (At.one (P := Try.prog) (t := 3) (v := .int .i64 y19) at19 (by kernel_rfl) 0 rfl rfl) (ai (g_tt c18) (ai ix19 (ai (g_tt c18) (ai (g_tt c18) (ai (g_tt c18) (ai (g_tt c18) kc18)))))))))
      refine dec_bif (fun c20 => ?_) (fun c20 => ?_)
      · intro hr
        obtain rfl := Option.some.inj hr
        show AWp Try.prog _ (Ends1 ((F22_x1 h x1 x2 x3 v4 v5 v6 x7 x8 v9 v10 v11) (0 : Nat)).1 ((F22_x1 h x1 x2 x3 v4 v5 v6 x7 x8 v9 v10 v11) (0 : Nat)).2) _
        exact pEnd_sound good (L := F22_L) (D := F22_D) (its := [.g, (.b true), .g, .g, .g, .g, .g, .g, (.w .g), (.w .g), (.w .g), (.w (.ix id19 off19 g19)), (.w (.ld (.int .i64 y19))), (.w .g), (.p true), (.b true), .g]) (ds := F22_m1_0) (ks := [2, 3]) (e := ((F22_x1 h x1 x2 x3 v4 v5 v6 x7 x8 v9 v10 v11) (0 : Nat)).1) (s2 := ((F22_x1 h x1 x2 x3 v4 v5 v6 x7 x8 v9 v10 v11) (0 : Nat)).2) (hC := (ai c20 kc20)) (hd := F22_d1) (h := by kernel_rfl)
      · intro hr
        obtain rfl := Option.some.inj hr
        show AWp Try.prog _ (Ends1 .normal (F22_h1 h x1 x2 x3 v4 v5 v6 x7 x8 v9 l10 v10 v11 (IntKind.i64.wrap (a16 + 1)))) _
        exact pEnd_sound good (L := F22_L) (D := F22_D) (its := [.g, (.b true), .g, .g, .g, .g, .g, .g, (.w .g), (.w .g), (.w .g), (.w (.ix id19 off19 g19)), (.w (.ld (.int .i64 y19))), (.w .g), (.p true), (.b false), .g, .g]) (ds := F22_m1_1) (ks := []) (e := .normal) (s2 := (F22_h1 h x1 x2 x3 v4 v5 v6 x7 x8 v9 l10 v10 v11 (IntKind.i64.wrap (a16 + 1)))) (hC := (ai c20 kc20)) (hd := F22_d1) (h := by kernel_rfl)
    · intro hr
      obtain rfl := Option.some.inj hr
      show AWp Try.prog _ (Ends1 .normal (F22_h1 h x1 x2 x3 v4 v5 v6 x7 x8 v9 l10 v10 v11 (IntKind.i64.wrap (a16 + 1)))) _
      exact pEnd_sound good (L := F22_L) (D := F22_D) (its := [.g, (.b true), .g, .g, .g, .g, .g, .g, .n, .n, .n, .n, .n, .n, (.p false), (.b false), .g, .g]) (ds := F22_m1_1) (ks := []) (e := .normal) (s2 := (F22_h1 h x1 x2 x3 v4 v5 v6 x7 x8 v9 l10 v10 v11 (IntKind.i64.wrap (a16 + 1)))) (hC := (ai l_f (ai c18 (ai (g_ft c18) (ai (g_ft c18) (ai (g_ft c18) (ai (g_ft c18) (ai (g_ft c18) (ai (g_ft c18) kc18))))))))) (hd := F22_d1) (h := by kernel_rfl)
  · intro hr
    obtain rfl := Option.some.inj hr
    show AWp Try.prog _ (Ends1 ((F22_x1 h x1 x2 x3 v4 v5 v6 x7 x8 v9 v10 v11) (1 : Nat)).1 ((F22_x1 h x1 x2 x3 v4 v5 v6 x7 x8 v9 v10 v11) (1 : Nat)).2) _
    exact pEnd_sound good (L := F22_L) (D := F22_D) (its := [.g, (.b false)]) (ds := F22_m1_2) (ks := []) (e := ((F22_x1 h x1 x2 x3 v4 v5 v6 x7 x8 v9 v10 v11) (1 : Nat)).1) (s2 := ((F22_x1 h x1 x2 x3 v4 v5 v6 x7 x8 v9 v10 v11) (1 : Nat)).2) (hC := (ai c17 trivial)) (hd := F22_d1) (h := by kernel_rfl)
theorem F22_l1_0 (h : AHeap) (x1 : Int) (x2 : Int) (x3 : Bool) (v4 : Hd) (v5 : Hd) (v6 : Hd) (x7 : Int) (x8 : Int) (v9 : Hd) (l10 : List Int) (v10 : Hd) (hv10 : SlE E3 1 h (sv v10) l10) (v11 : Hd) (x : Int) (r : Nat) (hl : loopO (fun (s : Int) => F22_s1 x3 l10 s) x = some r) (q0 : Nat.beq r 0 = true) : AWp Try.prog (.loop (codeOf Try.prog 22 [1, 1, 0, 1, 0, 0])) (Ends1 .ret (F22_x1_0 h x1 x2 x3 v4 v5 v6 x7 x8 v9 v10 v11 r)) ((fun (s : Int) => (F22_h1 h x1 x2 x3 v4 v5 v6 x7 x8 v9 l10 v10 v11 s)) x) := by
  have k := loop_fun (P := Try.prog) (c := (codeOf Try.prog 22 [1, 1, 0, 1, 0, 0])) (step := (fun (s : Int) => F22_s1 x3 l10 s)) (hd := (fun (s : Int) => (F22_h1 h x1 x2 x3 v4 v5 v6 x7 x8 v9 l10 v10 v11 s))) (X := (F22_x1 h x1 x2 x3 v4 v5 v6 x7 x8 v9 v10 v11)) (by intro t; unfold F22_x1; cases Nat.beq t 0 <;> (intro h; cases h)) (fun x => F22_r1 h x1 x2 x3 v4 v5 v6 x7 x8 v9 l10 v10 hv10 v11 x) hl
  simp only [F22_x1, q0, cond_true, cond_false] at k
  exact k
theorem F22_l1_1 (h : AHeap) (x1 : Int) (x2 : Int) (x3 : Bool) (v4 : Hd) (v5 : Hd) (v6 : Hd) (x7 : Int) (x8 : Int) (v9 : Hd) (l10 : List Int) (v10 : Hd) (hv10 : SlE E3 1 h (sv v10) l10) (v11 : Hd) (x : Int) (r : Nat) (hl : loopO (fun (s : Int) => F22_s1 x3 l10 s) x = some r) (q0 : Nat.beq r 0 = false) : AWp Try.prog (.loop (codeOf Try.prog 22 [1, 1, 0, 1, 0, 0])) (Ends1 (.exit 0) (F22_x1_1 h x1 x2 x3 v4 v5 v6 x7 x8 v9 v10 v11 r)) ((fun (s : Int) => (F22_h1 h x1 x2 x3 v4 v5 v6 x7 x8 v9 l10 v10 v11 s)) x) := by
  have k := loop_fun (P := Try.prog) (c := (codeOf Try.prog 22 [1, 1, 0, 1, 0, 0])) (step := (fun (s : Int) => F22_s1 x3 l10 s)) (hd := (fun (s : Int) => (F22_h1 h x1 x2 x3 v4 v5 v6 x7 x8 v9 l10 v10 v11 s))) (X := (F22_x1 h x1 x2 x3 v4 v5 v6 x7 x8 v9 v10 v11)) (by intro t; unfold F22_x1; cases Nat.beq t 0 <;> (intro h; cases h)) (fun x => F22_r1 h x1 x2 x3 v4 v5 v6 x7 x8 v9 l10 v10 hv10 v11 x) hl
  simp only [F22_x1, q0, cond_true, cond_false] at k
  exact k
def F22 (x1 : Int) (x2 : Int) (x3 : Bool) (l4 : List (Int × Int × Int × Int)) (l5 : List (Int × Int × Int × Int)) (l6 : List (Int × Int)) (x7 : Int) (x8 : Int) (l9 : List Int) (l10 : List Int) (l11 : List Int) : Option (Bool) :=
  (Option.bind (F44 x1 x2 x3 l4 l5 l6 x7 x8 l9 l10 l11) fun y12 =>
  (bif (!y12) then
   some (false)
  else
   (bif decide (x8 < x7) then
    some (false)
   else
    (Option.bind (loopO (fun (s : Int) => F22_s1 x3 l10 s) 0) fun y21 =>
    (bif (Nat.beq y21 0) then
     some (false)
    else
     (Option.bind (F45 x1 x2 x3 l4 l5 l6 x7 x8 l9 l10 l11) fun y23 =>
     (bif ((y23.length : Int) == 0) then
      (Option.bind (F46 x1 x2 x3 l4 l5 l6 x7 x8 l9 l10 l11) fun y27 =>
      some ((y27.length : Int) == 0))
     else
      some (false))))))))
set_option maxRecDepth 100000 in
theorem F22_spec (x1 : Int) (x2 : Int) (x3 : Bool) (l4 : List (Int × Int × Int × Int)) (l5 : List (Int × Int × Int × Int)) (l6 : List (Int × Int)) (x7 : Int) (x8 : Int) (l9 : List Int) (l10 : List Int) (l11 : List Int) (v4 : Hd) (v5 : Hd) (v6 : Hd) (v9 : Hd) (v10 : Hd) (v11 : Hd) (h : AHeap) (hw : h.wf) (hv4 : SlE E57 4 h (sv v4) l4) (hv5 : SlE E59 4 h (sv v5) l5) (hv6 : SlE E61 2 h (sv v6) l6) (hv9 : SlE E3 1 h (sv v9) l9) (hv10 : SlE E3 1 h (sv v10) l10) (hv11 : SlE E3 1 h (sv v11) l11) (r : Bool) : F22 x1 x2 x3 l4 l5 l6 x7 x8 l9 l10 l11 = some r → ∃ (h' : AHeap), Heapy h h' [] ∧ ACalls Try.prog 22 [.agg #[.int .i64 x1, .int .i64 x2, .bool x3, (sv v4), (sv v5), (sv v6)], .agg #[.int .i64 x7, .int .i64 x8, (sv v9), (sv v10), (sv v11)]] h (fun v' h'' => v' = (.bool r : Value) ∧ h'' = h') := by
  unfold F22
  refine bind_opt fun y12 e12 => ?_
  have kc14 := (ai (F44_spec x1 x2 x3 l4 l5 l6 x7 x8 l9 l10 l11 v4 v5 v6 v9 v10 v11 h hv4 hv5 hv6 hv9 hv10 hv11 _ e12) trivial)
  refine dec_bif (fun c14 => ?_) (fun c14 => ?_)
  · intro hr
    obtain rfl := Option.some.inj hr
    exact ⟨h, Heapy.pick (Heapy.refl hw) [] (by decide), pFun_sound good tab_ok (f := 22) (its := [.g, .g, .g, .g, .g, (.c (.bool y12) h), .g, .g, .n, .n, .n, .n, .n, (.p true), (.b true), .g]) (args := [.agg #[.int .i64 x1, .int .i64 x2, .bool x3, (sv v4), (sv v5), (sv v6)], .agg #[.int .i64 x7, .int .i64 x8, (sv v9), (sv v10), (sv v11)]]) (h := h) (h' := h) (v := .bool false) (hC := (ai l_t (ai c14 (ai (g_tf c14) (ai (g_tf c14) (ai (g_tf c14) (ai (g_tf c14) (ai (g_tf c14) kc14)))))))) (hr := by kernel_rfl)⟩
  · have kc15 := (ai c14 (ai (g_ff c14) (ai (g_ff c14) (ai (g_ff c14) (ai (g_ff c14) (ai (g_ff c14) kc14))))))
    refine dec_bif (fun c15 => ?_) (fun c15 => ?_)
    · intro hr
      obtain rfl := Option.some.inj hr
      exact ⟨h, Heapy.pick (Heapy.refl hw) [] (by decide), pFun_sound good tab_ok (f := 22) (its := [.g, .g, .g, .g, .g, (.c (.bool y12) h), .g, .g, (.w .g), (.w .g), (.w .g), (.w .g), (.w .g), (.p false), (.b true), .g]) (args := [.agg #[.int .i64 x1, .int .i64 x2, .bool x3, (sv v4), (sv v5), (sv v6)], .agg #[.int .i64 x7, .int .i64 x8, (sv v9), (sv v10), (sv v11)]]) (h := h) (h' := h) (v := .bool false) (hC := (ai c15 kc15)) (hr := by kernel_rfl)⟩
    · refine bind_opt fun y21 e21 => ?_
      have kc22 := (ai (SlE.len hv10) (ai c15 kc15))
      refine dec_bif (fun c22 => ?_) (fun c22 => ?_)
      · intro hr
        obtain rfl := Option.some.inj hr
        exact ⟨h, Heapy.pick (Heapy.refl hw) [] (by decide), pFun_sound good tab_ok (f := 22) (its := [.g, .g, .g, .g, .g, (.c (.bool y12) h), .g, .g, (.w .g), (.w .g), (.w .g), (.w .g), (.w .g), (.p false), (.b false), .g, .g, (.ln l10.length), .g, (.l F22_m1_1 [] .ret (F22_x1_0 h x1 x2 x3 v4 v5 v6 x7 x8 v9 v10 v11 y21))]) (args := [.agg #[.int .i64 x1, .int .i64 x2, .bool x3, (sv v4), (sv v5), (sv v6)], .agg #[.int .i64 x7, .int .i64 x8, (sv v9), (sv v10), (sv v11)]]) (h := h) (h' := h) (v := .bool false) (hC := (ai (F22_l1_0 h x1 x2 x3 v4 v5 v6 x7 x8 v9 l10 v10 hv10 v11 0 y21 e21 c22) kc22)) (hr := by kernel_rfl)⟩
      · refine bind_opt fun y23 e23 => ?_
        obtain ⟨u24_0, h24, q24, zu24_0, c24⟩ := F45_spec x1 x2 x3 l4 l5 l6 x7 x8 l9 l10 l11 v4 v5 v6 v9 v10 v11 h hw hv4 hv5 hv6 hv9 hv10 hv11 _ e23
        have hp24 : Heapy h h24 [⟨u24_0, 3, 1, List.flatMap enc3 y23⟩] := Heapy.call (Heapy.refl hw) q24
        have kc26 := (ai (SlE.len (Heapy.sle (v := u24_0) (xs := y23) (enc := enc3) hp24 0 rfl (fun _ => rfl) (by decide))) (ai c24 (ai (F22_l1_1 h x1 x2 x3 v4 v5 v6 x7 x8 v9 l10 v10 hv10 v11 0 y21 e21 c22) kc22)))
        refine dec_bif (fun c26 => ?_) (fun c26 => ?_)
        · refine bind_opt fun y27 e27 => ?_
          obtain ⟨u28_0, h28, q28, zu28_0, c28⟩ := F46_spec x1 x2 x3 l4 l5 l6 x7 x8 l9 l10 l11 v4 v5 v6 v9 v10 v11 h24 (Heapy.wf hp24) (SlE.mono hv4 (Heapy.sub hp24) (E57_mono (Heapy.sub hp24))) (SlE.mono hv5 (Heapy.sub hp24) (E59_mono (Heapy.sub hp24))) (SlE.mono hv6 (Heapy.sub hp24) (E61_mono (Heapy.sub hp24))) (SlE.mono hv9 (Heapy.sub hp24) (E3_mono (Heapy.sub hp24))) (SlE.mono hv10 (Heapy.sub hp24) (E3_mono (Heapy.sub hp24))) (SlE.mono hv11 (Heapy.sub hp24) (E3_mono (Heapy.sub hp24))) _ e27
          have hp28 : Heapy h h28 [⟨u28_0, 86, 2, List.flatMap enc86 y27⟩, ⟨u24_0, 3, 1, List.flatMap enc3 y23⟩] := Heapy.call hp24 q28
          intro hr
          obtain rfl := Option.some.inj hr
          exact ⟨h28, Heapy.pick hp28 [] (by decide), pFun_sound good tab_ok (f := 22) (its := [.g, .g, .g, .g, .g, (.c (.bool y12) h), .g, .g, (.w .g), (.w .g), (.w .g), (.w .g), (.w .g), (.p false), (.b false), .g, .g, (.ln l10.length), .g, (.l F22_m1_1 [] (.exit 0) (F22_x1_1 h x1 x2 x3 v4 v5 v6 x7 x8 v9 v10 v11 y21)), .g, .g, (.c ((sv u24_0)) h24), (.ln y23.length), .g, .g, (.w .g), (.w .g), (.w (.c ((sv u28_0)) h28)), (.w (.ln y27.length)), (.w .g), (.p true), .g]) (args := [.agg #[.int .i64 x1, .int .i64 x2, .bool x3, (sv v4), (sv v5), (sv v6)], .agg #[.int .i64 x7, .int .i64 x8, (sv v9), (sv v10), (sv v11)]]) (h := h) (h' := h28) (v := .bool ((y27.length : Int) == 0)) (hC := (ai c26 (ai (g_tt c26) (ai (SlE.len (Heapy.sle (v := u28_0) (xs := y27) (enc := enc86) hp28 0 rfl (fun _ => rfl) (by decide))) (ai (g_tt c26) (ai c28 (ai (g_tt c26) (ai (g_tt c26) (ai (g_tt c26) kc26))))))))) (hr := by kernel_rfl)⟩
        · intro hr
          obtain rfl := Option.some.inj hr
          exact ⟨h24, Heapy.pick hp24 [] (by decide), pFun_sound good tab_ok (f := 22) (its := [.g, .g, .g, .g, .g, (.c (.bool y12) h), .g, .g, (.w .g), (.w .g), (.w .g), (.w .g), (.w .g), (.p false), (.b false), .g, .g, (.ln l10.length), .g, (.l F22_m1_1 [] (.exit 0) (F22_x1_1 h x1 x2 x3 v4 v5 v6 x7 x8 v9 v10 v11 y21)), .g, .g, (.c ((sv u24_0)) h24), (.ln y23.length), .g, .g, .n, .n, .n, .n, .n, (.p false), .g]) (args := [.agg #[.int .i64 x1, .int .i64 x2, .bool x3, (sv v4), (sv v5), (sv v6)], .agg #[.int .i64 x7, .int .i64 x8, (sv v9), (sv v10), (sv v11)]]) (h := h) (h' := h24) (v := .bool false) (hC := (ai c26 (ai (g_ft c26) (ai (g_ft c26) (ai (g_ft c26) (ai (g_ft c26) (ai (g_ft c26) kc26))))))) (hr := by kernel_rfl)⟩
/-! 50 jacquard/diffcons.Latest -/
def F50_L : List Nat := []
def F50_D : List (Nat × List (Nat × Nat)) := []
def F50_m1_1 : List Bool := (rp 8 true (false :: true :: false :: (rp 46 true [])))
def F50_m1_0 : List Bool := (true :: true :: true :: false :: (rp 4 true (false :: true :: false :: (rp 11 true (false :: false :: (rp 33 true []))))))
def F50_s1 (x1 : Int) (l4 : List Int) (a12 : Int) (l13 : List Int) : Option ((Int × (List Int)) ⊕ (List Int)) :=
  (bif decide (a12 < ((List.replicate (F57 x1).toNat (0 : Int)).length : Int)) then
   (Option.bind (F64 l4 a12) fun y16 =>
   (Option.bind (at? l13 a12) fun y18 =>
   some (.inl ((IntKind.i64.wrap (a12 + 1)), (setI l13 a12 (IntKind.i64.wrap (0 - y16)))))))
  else
   some (.inr l13))
def F50_h1 (x1 : Int) (v4 : Hd) (u7_0 : Hd) (v10 : Hd) (h14 : AHeap) (a12 : Int) (l13 : List Int) : AS := ⟨(junk :: junk :: junk :: (sv v4) :: (rp 4 junk ((sv v10) :: junk :: (sv u7_0) :: (rp 11 junk ((.int .i64 ((List.replicate (F57 x1).toNat (0 : Int)).length : Int)) :: (.int .i64 a12) :: (rp 33 junk [])))))), [], h14⟩
theorem F50_d1 : drawsOk F50_D (codeOf Try.prog 50 [1, 1, 1, 1, 0, 1, 0, 0]) = true := by kernel_rfl
def F50_x1_0 (h : AHeap) (y6 : (List (Int × Int × Int × Int))) (u7_0 : Hd) (v10 : Hd) (hx : AHeap) (r : (List Int)) : AS := ⟨(rp 8 junk ((sv v10) :: junk :: (sv u7_0) :: (rp 46 junk []))), [], hx⟩
def F50_i1 (h : AHeap) (x1 : Int) (v4 : Hd) (y6 : (List (Int × Int × Int × Int))) (u7_0 : Hd) (v10 : Hd) (s : Int × (List Int)) (S : AS) : Prop := ∃ (h14 : AHeap), Heapy h h14 [⟨v10, 3, 1, List.flatMap enc3 s.2⟩, ⟨u7_0, 92, 4, List.flatMap enc92 y6⟩] ∧ S = (F50_h1 x1 v4 u7_0 v10 h14 s.1 s.2)
def F50_x1 (h : AHeap) (y6 : (List (Int × Int × Int × Int))) (u7_0 : Hd) (v10 : Hd) (r : (List Int)) (e : Exit) (S : AS) : Prop := e = (.exit 0) ∧ ∃ (hx : AHeap), Heapy h hx [⟨v10, 3, 1, List.flatMap enc3 r⟩, ⟨u7_0, 92, 4, List.flatMap enc92 y6⟩] ∧ S = (F50_x1_0 h y6 u7_0 v10 hx r)
set_option maxRecDepth 100000 in
theorem F50_r1 (h : AHeap) (x1 : Int) (l4 : List Int) (v4 : Hd) (hv4 : SlE E3 1 h (sv v4) l4) (y6 : (List (Int × Int × Int × Int))) (u7_0 : Hd) (v10 : Hd) (a12 : Int) (l13 : List Int) (S : AS) (hI : (F50_i1 h x1 v4 y6 u7_0 v10) (a12, l13) S) (o : (Int × (List Int)) ⊕ (List Int)) : F50_s1 x1 l4 a12 l13 = some o → Rd Try.prog (codeOf Try.prog 50 [1, 1, 1, 1, 0, 1, 0, 0]) (F50_i1 h x1 v4 y6 u7_0 v10) (F50_x1 h y6 u7_0 v10) S o := by
  obtain ⟨h14, hp14, rfl⟩ := hI
  unfold F50_s1
  refine dec_bif (fun c15 => ?_) (fun c15 => ?_)
  · refine bind_opt fun y16 e16 => ?_
    refine bind_opt fun y18 e18 => ?_
    obtain ⟨id18, off18, g18, cs18, ix18, at18, rfl⟩ := SlE.at (Heapy.sle (v := v10) (xs := l13) (enc := enc3) hp14 0 rfl (fun _ => rfl) (by decide)) e18
    obtain ⟨h19, m19, hp19⟩ := Heapy.store (P := Try.prog) hp14 0 (v := v10) (xs := l13) (enc := enc3) rfl (fun _ => rfl) e18 (y' := (IntKind.i64.wrap (0 - y16))) ix18 (t := 3) (x := .int .i64 (IntKind.i64.wrap (0 - y16))) 0 (vs := [.int .i64 (IntKind.i64.wrap (0 - y16))]) rfl (by kernel_rfl) rfl rfl rfl rfl
    intro hr
    obtain rfl := Option.some.inj hr
    exact ⟨(F50_h1 x1 v4 u7_0 v10 h19 (IntKind.i64.wrap (a12 + 1)) (setI l13 a12 (IntKind.i64.wrap (0 - y16)))), ⟨h19, (Heapy.pick hp19 [0, 1] (by decide)), rfl⟩, pEnd_sound good (L := F50_L) (D := F50_D) (its := [.g, (.b true), .g, .g, .g, .g, .g, .g, (.c (.int .i64 y16) h14), .g, (.ix id18 off18 g18), (.mm undef h19), .g, .g]) (ds := F50_m1_0) (ks := []) (e := .normal) (s2 := (F50_h1 x1 v4 u7_0 v10 h19 (IntKind.i64.wrap (a12 + 1)) (setI l13 a12 (IntKind.i64.wrap (0 - y16))))) (hC := (ai m19 (ai ix18 (ai (F64_spec l4 a12 v4 h14 (SlE.mono hv4 (Heapy.sub hp14) (E3_mono (Heapy.sub hp14))) _ e16) (ai c15 trivial))))) (hd := F50_d1) (h := by kernel_rfl)⟩
  · intro hr
    obtain rfl := Option.some.inj hr
    refine ⟨(.exit 0), (F50_x1_0 h y6 u7_0 v10 h14 (l13 : (List Int))), (by intro hh; cases hh), ?_, pEnd_sound good (L := F50_L) (D := F50_D) (its := [.g, (.b false)]) (ds := F50_m1_1) (ks := []) (e := (.exit 0)) (s2 := (F50_x1_0 h y6 u7_0 v10 h14 (l13 : (List Int)))) (hC := (ai c15 trivial)) (hd := F50_d1) (h := by kernel_rfl)⟩
    exact ⟨rfl, h14, (Heapy.pick hp14 [0, 1] (by decide)), rfl⟩
theorem F50_l1 (h : AHeap) (x1 : Int) (l4 : List Int) (v4 : Hd) (hv4 : SlE E3 1 h (sv v4) l4) (y6 : (List (Int × Int × Int × Int))) (u7_0 : Hd) (v10 : Hd) (x : Int × (List Int)) (r : (List Int)) (hl : loopO (fun (s : Int × (List Int)) => F50_s1 x1 l4 s.1 s.2) x = some r) (S : AS) (hI : (F50_i1 h x1 v4 y6 u7_0 v10) x S) : ∃ e S', (F50_x1 h y6 u7_0 v10) r e S' ∧ AWp Try.prog (.loop (codeOf Try.prog 50 [1, 1, 1, 1, 0, 1, 0, 0])) (Ends1 e S') S :=
  loop_rel (fun x S hI => F50_r1 h x1 l4 v4 hv4 y6 u7_0 v10 x.1 x.2 S hI) hl hI
def F50_m2_1 : List Bool := (rp 8 true (false :: (rp 48 true [])))
def F50_m2_0 : List Bool := (rp 8 true (false :: (rp 34 true (false :: false :: (rp 12 true [])))))
def F50_s2 (y23 : (List Int) × (List Int)) (a30 : Int) (l31 : List Int) : Option ((Int × (List Int)) ⊕ (List Int)) :=
  (bif decide (a30 < (y23.2.length : Int)) then
   (Option.bind (at? l31 a30) fun y34 =>
   some (.inl ((IntKind.i64.wrap (a30 + 1)), (setI l31 a30 (IntKind.i64.wrap (0 - y34))))))
  else
   some (.inr l31))
def F50_h2 (v10 : Hd) (y23 : (List Int) × (List Int)) (h32 : AHeap) (a30 : Int) (l31 : List Int) : AS := ⟨(rp 8 junk ((sv v10) :: (rp 34 junk ((.int .i64 (y23.2.length : Int)) :: (.int .i64 a30) :: (rp 12 junk []))))), [], h32⟩
theorem F50_d2 : drawsOk F50_D (codeOf Try.prog 50 [1, 1, 1, 1, 1, 1, 0, 1, 0, 0]) = true := by kernel_rfl
def F50_x2_0 (h : AHeap) (v10 : Hd) (hx : AHeap) (r : (List Int)) : AS := ⟨(rp 8 junk ((sv v10) :: (rp 48 junk []))), [], hx⟩
def F50_i2 (h : AHeap) (v10 : Hd) (y23 : (List Int) × (List Int)) (s : Int × (List Int)) (S : AS) : Prop := ∃ (h32 : AHeap), Heapy h h32 [⟨v10, 3, 1, List.flatMap enc3 s.2⟩] ∧ S = (F50_h2 v10 y23 h32 s.1 s.2)
def F50_x2 (h : AHeap) (v10 : Hd) (r : (List Int)) (e : Exit) (S : AS) : Prop := e = (.exit 2) ∧ ∃ (hx : AHeap), Heapy h hx [⟨v10, 3, 1, List.flatMap enc3 r⟩] ∧ S = (F50_x2_0 h v10 hx r)
set_option maxRecDepth 100000 in
theorem F50_r2 (h : AHeap) (v10 : Hd) (y23 : (List Int) × (List Int)) (a30 : Int) (l31 : List Int) (S : AS) (hI : (F50_i2 h v10 y23) (a30, l31) S) (o : (Int × (List Int)) ⊕ (List Int)) : F50_s2 y23 a30 l31 = some o → Rd Try.prog (codeOf Try.prog 50 [1, 1, 1, 1, 1, 1, 0, 1, 0, 0]) (F50_i2 h v10 y23) (F50_x2 h v10) S o := by
  obtain ⟨h32, hp32, rfl⟩ := hI
  unfold F50_s2
  refine dec_bif (fun c33 => ?_) (fun c33 => ?_)
  · refine bind_opt fun y34 e34 => ?_
    obtain ⟨id34, off34, g34, cs34, ix34, at34, rfl⟩ := SlE.at (Heapy.sle (v := v10) (xs := l31) (enc := enc3) hp32 0 rfl (fun _ => rfl) (by decide)) e34
    obtain ⟨h35, m35, hp35⟩ := Heapy.store (P := Try.prog) hp32 0 (v := v10) (xs := l31) (enc := enc3) rfl (fun _ => rfl) e34 (y' := (IntKind.i64.wrap (0 - y34))) ix34 (t := 3) (x := .int .i64 (IntKind.i64.wrap (0 - y34))) 0 (vs := [.int .i64 (IntKind.i64.wrap (0 - y34))]) rfl (by kernel_rfl) rfl rfl rfl rfl
    intro hr
    obtain rfl := Option.some.inj hr
    exact ⟨(F50_h2 v10 y23 h35 (IntKind.i64.wrap (a30 + 1)) (setI l31 a30 (IntKind.i64.wrap (0 - y34)))), ⟨h35, (Heapy.pick hp35 [0] (by decide)), rfl⟩, pEnd_sound good (L := F50_L) (D := F50_D) (its := [.g, (.b true), .g, .g, .g, .g, .g, .g, (.ix id34 off34 g34), (.ld (.int .i64 y34)), .g, (.ix id34 off34 g34), (.mm undef h35), .g, .g]) (ds := F50_m2_0) (ks := []) (e := .normal) (s2 := (F50_h2 v10 y23 h35 (IntKind.i64.wrap (a30 + 1)) (setI l31 a30 (IntKind.i64.wrap (0 - y34))))) (hC := (ai m35 (ai ix34 (ai (At.one (P := Try.prog) (t := 3) (v := .int .i64 y34) at34 (by kernel_rfl) 0 rfl rfl) (ai ix34 (ai c33 trivial)))))) (hd := F50_d2) (h := by kernel_rfl)⟩
  · intro hr
    obtain rfl := Option.some.inj hr
    refine ⟨(.exit 2), (F50_x2_0 h v10 h32 (l31 : (List Int))), (by intro hh; cases hh), ?_, pEnd_sound good (L := F50_L) (D := F50_D) (its := [.g, (.b false)]) (ds := F50_m2_1) (ks := []) (e := (.exit 2)) (s2 := (F50_x2_0 h v10 h32 (l31 : (List Int)))) (hC := (ai c33 trivial)) (hd := F50_d2) (h := by kernel_rfl)⟩
    exact ⟨rfl, h32, (Heapy.pick hp32 [0] (by decide)), rfl⟩
theorem F50_l2 (h : AHeap) (v10 : Hd) (y23 : (List Int) × (List Int)) (x : Int × (List Int)) (r : (List Int)) (hl : loopO (fun (s : Int × (List Int)) => F50_s2 y23 s.1 s.2) x = some r) (S : AS) (hI : (F50_i2 h v10 y23) x S) : ∃ e S', (F50_x2 h v10) r e S' ∧ AWp Try.prog (.loop (codeOf Try.prog 50 [1, 1, 1, 1, 1, 1, 0, 1, 0, 0])) (Ends1 e S') S :=
  loop_rel (fun x S hI => F50_r2 h v10 y23 x.1 x.2 S hI) hl hI
def F50 (x1 : Int) (l2 : List (Int × Int × Int × Int)) (x3 : Int) (l4 : List Int) : Option ((List Int) × (List Int)) :=
  (Option.bind (F63 (F57 x1) l2 x3 true) fun y6 =>
  (bif (!(okLen (F57 x1) (F57 x1) 8)) then none else
  (Option.bind (loopO (fun (s : Int × (List Int)) => F50_s1 x1 l4 s.1 s.2) (0, (List.replicate (F57 x1).toNat (0 : Int)))) fun y20 =>
  (Option.bind (F65 y20 y6) fun y23 =>
  (bif (!y23.1.isEmpty) then
   (Option.bind (F66 y23.1) fun y28 =>
   some ([], y28))
  else
   (Option.bind (loopO (fun (s : Int × (List Int)) => F50_s2 y23 s.1 s.2) (0, y23.2)) fun y36 =>
   some (y36, [])))))))
set_option maxRecDepth 100000 in
theorem F50_spec (x1 : Int) (l2 : List (Int × Int × Int × Int)) (x3 : Int) (l4 : List Int) (v2 : Hd) (v4 : Hd) (h : AHeap) (hw : h.wf) (hv2 : SlE E57 4 h (sv v2) l2) (hv4 : SlE E3 1 h (sv v4) l4) (r : (List Int) × (List Int)) : F50 x1 l2 x3 l4 = some r → ∃ (ur0 : Hd) (ur1 : Hd) (h' : AHeap), Heapy h h' [⟨ur0, 3, 1, List.flatMap enc3 r.1⟩, ⟨ur1, 3, 1, List.flatMap enc3 r.2⟩] ∧ Strict ur1 ∧ ACalls Try.prog 50 [.int .i64 x1, (sv v2), .int .i64 x3, (sv v4)] h (fun v' h'' => v' = (.tuple #[(sv ur0), (sv ur1)] : Value) ∧ h'' = h') := by
  unfold F50
  refine bind_opt fun y6 e6 => ?_
  obtain ⟨u7_0, h7, q7, zu7_0, c7⟩ := F63_spec (F57 x1) l2 x3 true v2 h hw hv2 _ e6
  have hp7 : Heapy h h7 [⟨u7_0, 92, 4, List.flatMap enc92 y6⟩] := Heapy.call (Heapy.refl hw) q7
  refine guard_ok fun g9 => ?_
  obtain ⟨v10, h10, m10, hp10, _⟩ := Heapy.make hp7 (show mkInfo Try.prog 29 = some (3, 1, 8, [.int .i64 0]) by kernel_rfl) (a := (F57 x1)) (b := (F57 x1)) (by simpa using g9) (enc := enc3) (x := 0) rfl rfl
  refine bind_opt fun y20 e20 => ?_
  obtain ⟨ee20, SS20, hX20, hA20⟩ := F50_l1 h x1 l4 v4 hv4 y6 u7_0 v10 (0, (List.replicate (F57 x1).toNat (0 : Int))) y20 e20 (F50_h1 x1 v4 u7_0 v10 h10 0 (List.replicate (F57 x1).toNat (0 : Int))) ⟨h10, (Heapy.pick hp10 [0, 1] (by decide)), rfl⟩
  obtain ⟨rfl, h21, hp21, rfl⟩ := hX20
  refine bind_opt fun y23 e23 => ?_
  obtain ⟨b22, pb22, ob22, jb22⟩ := Heapy.io hp21 0 (s := ⟨v10, 3, 1, List.flatMap enc3 y20⟩) rfl
  obtain ⟨u24_0, h24, q24, zu24_0, c24⟩ := F65_spec y20 y6 v10 u7_0 h21 b22 (Heapy.wf ob22) (Heapy.sle (v := u7_0) (xs := y6) (enc := enc92) ob22 0 rfl (fun _ => rfl) (by decide)) pb22 _ e23
  have hp24 : Heapy h h24 [⟨u24_0, 3, 1, List.flatMap enc3 y23.1⟩, ⟨v10, 3, 1, List.flatMap enc3 y23.2⟩, ⟨u7_0, 92, 4, List.flatMap enc92 y6⟩] := jb22 (r := [⟨u24_0, 3, 1, List.flatMap enc3 y23.1⟩]) (s' := ⟨v10, 3, 1, List.flatMap enc3 y23.2⟩) q24
  have kc26 := (ai (Heapy.nilE (v := u24_0) (xs := y23.1) (enc := enc3) hp24 0 rfl (fun _ => rfl) (by decide) zu24_0) (ai c24 (ai hA20 (ai (SlE.len (Heapy.sle (v := v10) (xs := (List.replicate (F57 x1).toNat (0 : Int))) (enc := enc3) hp10 0 rfl (fun _ => rfl) (by decide))) (ai m10 (ai c7 (ai (F57_spec x1 h _ rfl) trivial)))))))
  refine dec_bif (fun c26 => ?_) (fun c26 => ?_)
  · refine bind_opt fun y28 e28 => ?_
    obtain ⟨b27, pb27, ob27, jb27⟩ := Heapy.io hp24 0 (s := ⟨u24_0, 3, 1, List.flatMap enc3 y23.1⟩) rfl
    obtain ⟨h29, q29, c29⟩ := F66_spec y23.1 u24_0 h24 b27 (Heapy.wf ob27) pb27 _ e28
    have hp29 : Heapy h h29 [⟨u24_0, 3, 1, List.flatMap enc3 y28⟩, ⟨v10, 3, 1, List.flatMap enc3 y23.2⟩, ⟨u7_0, 92, 4, List.flatMap enc92 y6⟩] := jb27 (r := []) (s' := ⟨u24_0, 3, 1, List.flatMap enc3 y28⟩) q29
    intro hr
    obtain rfl := Option.some.inj hr
    exact ⟨⟨none, 0, 0⟩, u24_0, h29, Heapy.pick (Heapy.nil hp29 3 1) [0, 1] (by decide), zu24_0, pFun_sound good tab_ok (f := 50) (its := [.g, .g, .g, (.c (.int .i64 (F57 x1)) h), .g, .g, .g, .g, (.c ((sv u7_0)) h7), .g, .g, (.mm (sv v10) h10), .g, .g, (.ln (List.replicate (F57 x1).toNat (0 : Int)).length), .g, (.l F50_m1_0 [] (.exit 0) (F50_x1_0 h y6 u7_0 v10 h21 y20)), .g, .g, (.c ((sv u24_0)) h24), .g, .g, (.nl y23.1.isEmpty), (.b true), .g, (.c (.tuple #[]) h29), .g, .g, .g]) (args := [.int .i64 x1, (sv v2), .int .i64 x3, (sv v4)]) (h := h) (h' := h29) (v := .tuple #[.slice none 0 0, (sv u24_0)]) (hC := (ai c29 (ai c26 kc26))) (hr := by kernel_rfl)⟩
  · refine bind_opt fun y36 e36 => ?_
    obtain ⟨ee36, SS36, hX36, hA36⟩ := F50_l2 h v10 y23 (0, y23.2) y36 e36 (F50_h2 v10 y23 h24 0 y23.2) ⟨h24, (Heapy.pick hp24 [1] (by decide)), rfl⟩
    obtain ⟨rfl, h37, hp37, rfl⟩ := hX36
    intro hr
    obtain rfl := Option.some.inj hr
    exact ⟨v10, ⟨none, 0, 0⟩, h37, Heapy.pick (Heapy.nil hp37 3 1) [1, 0] (by decide), Strict.nil, pFun_sound good tab_ok (f := 50) (its := [.g, .g, .g, (.c (.int .i64 (F57 x1)) h), .g, .g, .g, .g, (.c ((sv u7_0)) h7), .g, .g, (.mm (sv v10) h10), .g, .g, (.ln (List.replicate (F57 x1).toNat (0 : Int)).length), .g, (.l F50_m1_0 [] (.exit 0) (F50_x1_0 h y6 u7_0 v10 h21 y20)), .g, .g, (.c ((sv u24_0)) h24), .g, .g, (.nl y23.1.isEmpty), (.b false), .g, (.ln y23.2.length), .g, (.l F50_m2_0 [] (.exit 2) (F50_x2_0 h v10 h37 y36)), .g, .g, .g]) (args := [.int .i64 x1, (sv v2), .int .i64 x3, (sv v4)]) (h := h) (h' := h37) (v := .tuple #[(sv v10), .slice none 0 0]) (hC := (ai hA36 (ai (SlE.len (Heapy.sle (v := v10) (xs := y23.2) (enc := enc3) hp24 1 rfl (fun _ => rfl) (by decide))) (ai c26 kc26)))) (hr := by kernel_rfl)⟩
/-! 25 jacquard/bounds.Window -/
def F25_L : List Nat := [3]
def F25_D : List (Nat × List (Nat × Nat)) := []
def F25_m1_1 : List Bool := (true :: false :: false :: false :: (rp 86 true []))
def F25_m1_0 : List Bool := (rp 6 true (false :: false :: false :: (rp 81 true [])))
def F25_s1 (x1 : Int) (x2 : Int) (x3 : Bool) (l4 : List (Int × Int × Int × Int)) (l5 : List (Int × Int × Int × Int)) (l6 : List (Int × Int)) (x7 : Int) (x8 : Int)  : Option Nat :=
  (Option.bind (F33 x1 x2 x3 l4 l5 l6) fun y9 =>
  (bif (!y9) then
   some (0)
  else
   (bif (!x3) then
    (bif (x7 != 0) then
     some (0)
    else
     (bif x3 then
      (bif decide (x7 < 1) then
       some (0)
      else
       (bif decide (x7 > 256) then
        some (0)
       else
        (bif decide (x8 < 0) then
         some (0)
        else
         (bif decide (x8 > 4096) then
          some (0)
         else
          some (1)))))
     else
      (bif decide (x8 < 0) then
       some (0)
      else
       (bif decide (x8 > 4096) then
        some (0)
       else
        some (1)))))
   else
    (bif x3 then
     (bif decide (x7 < 1) then
      some (0)
     else
      (bif decide (x7 > 256) then
       some (0)
      else
       (bif decide (x8 < 0) then
        some (0)
       else
        (bif decide (x8 > 4096) then
         some (0)
        else
         some (1)))))
    else
     (bif decide (x8 < 0) then
      some (0)
     else
      (bif decide (x8 > 4096) then
       some (0)
      else
       some (1)))))))
def F25_h1 (h : AHeap) (x1 : Int) (x2 : Int) (x3 : Bool) (v4 : Hd) (v5 : Hd) (v6 : Hd) (x7 : Int) (x8 : Int)   : AS := ⟨(junk :: (.int .i64 x7) :: (.int .i64 x8) :: (.pointer (some ⟨3, 0, none⟩)) :: (rp 86 junk [])), [(3, [.int .i64 x1, .int .i64 x2, .bool x3, (sv v4), (sv v5), (sv v6)])], h⟩
theorem F25_d1 : drawsOk F25_D (codeOf Try.prog 25 [1, 0]) = true := by kernel_rfl
def F25_x1_0 (h : AHeap) (x1 : Int) (x2 : Int) (x3 : Bool) (v4 : Hd) (v5 : Hd) (v6 : Hd) (x7 : Int) (x8 : Int)  (r : Nat) : AS := ⟨(rp 6 junk ((.slice none 0 0) :: (.slice none 0 0) :: (.int .i64 3) :: (rp 81 junk []))), [], h⟩
def F25_x1_1 (h : AHeap) (x1 : Int) (x2 : Int) (x3 : Bool) (v4 : Hd) (v5 : Hd) (v6 : Hd) (x7 : Int) (x8 : Int)  (r : Nat) : AS := ⟨(junk :: (.int .i64 x7) :: (.int .i64 x8) :: (.pointer (some ⟨3, 0, none⟩)) :: (rp 86 junk [])), [(3, [.int .i64 x1, .int .i64 x2, .bool x3, (sv v4), (sv v5), (sv v6)])], h⟩
def F25_x1 (h : AHeap) (x1 : Int) (x2 : Int) (x3 : Bool) (v4 : Hd) (v5 : Hd) (v6 : Hd) (x7 : Int) (x8 : Int) (r : Nat) : Exit × AS := (bif Nat.beq r 0 then (.ret, (F25_x1_0 h x1 x2 x3 v4 v5 v6 x7 x8 r)) else (.normal, (F25_x1_1 h x1 x2 x3 v4 v5 v6 x7 x8 r)))
set_option maxRecDepth 100000 in
theorem F25_r1 (h : AHeap) (x1 : Int) (x2 : Int) (x3 : Bool) (l4 : List (Int × Int × Int × Int)) (v4 : Hd) (hv4 : SlE E57 4 h (sv v4) l4) (l5 : List (Int × Int × Int × Int)) (v5 : Hd) (hv5 : SlE E59 4 h (sv v5) l5) (l6 : List (Int × Int)) (v6 : Hd) (hv6 : SlE E61 2 h (sv v6) l6) (x7 : Int) (x8 : Int) (r : Nat) : F25_s1 x1 x2 x3 l4 l5 l6 x7 x8 = some r → AWp Try.prog (codeOf Try.prog 25 [1, 0]) (Ends1 ((F25_x1 h x1 x2 x3 v4 v5 v6 x7 x8) r).1 ((F25_x1 h x1 x2 x3 v4 v5 v6 x7 x8) r).2) (F25_h1 h x1 x2 x3 v4 v5 v6 x7 x8) := by
  unfold F25_s1
  refine bind_opt fun y9 e9 => ?_
  have kc11 := (ai (F33_spec x1 x2 x3 l4 l5 l6 v4 v5 v6 h hv4 hv5 hv6 _ e9) trivial)
  refine dec_bif (fun c11 => ?_) (fun c11 => ?_)
  · intro hr
    obtain rfl := Option.some.inj hr
    show AWp Try.prog _ (Ends1 ((F25_x1 h x1 x2 x3 v4 v5 v6 x7 x8) (0 : Nat)).1 ((F25_x1 h x1 x2 x3 v4 v5 v6 x7 x8) (0 : Nat)).2) _
    exact pEnd_sound good (L := F25_L) (D := F25_D) (its := [.g, (.c (.bool y9) h), .g, .g, .n, .n, .n, .n, .n, .n, .n, (.p true), .g, .n, .n, .n, .n, .n, .n, .n, .n, .n, .n, .g, .g, .n, .n, .g, .g, .n, .n, .g, (.b true), .g, .g, .g]) (ds := F25_m1_0) (ks := [3]) (e := ((F25_x1 h x1 x2 x3 v4 v5 v6 x7 x8) (0 : Nat)).1) (s2 := ((F25_x1 h x1 x2 x3 v4 v5 v6 x7 x8) (0 : Nat)).2) (hC := (ai l_t (ai (g_tf l_t) (ai (g_tf l_t) (ai (g_tf l_t) (ai (g_tf l_t) (ai (g_tf l_t) (ai l_f (ai l_f (ai l_f (ai l_f (ai l_f (ai l_f (ai (g_tf l_t) (ai (g_tf l_t) (ai (g_tf l_t) (ai c11 (ai (g_tf c11) (ai l_f (ai l_f (ai (g_tf c11) (ai (g_tf c11) (ai (g_tf c11) (ai (g_tf c11) kc11)))))))))))))))))))))))) (hd := F25_d1) (h := by kernel_rfl)
  · have kc12 := (ai (g_ff c11) (ai (g_ff c11) (ai (g_ff c11) (ai (g_ff c11) kc11))))
    refine dec_bif (fun c12 => ?_) (fun c12 => ?_)
    · have kc13 := (ai c11 (ai c12 (ai (g_ff c11) (ai (g_tt c12) (ai (g_tt c12) kc12)))))
      refine dec_bif (fun c13 => ?_) (fun c13 => ?_)
      · intro hr
        obtain rfl := Option.some.inj hr
        show AWp Try.prog _ (Ends1 ((F25_x1 h x1 x2 x3 v4 v5 v6 x7 x8) (0 : Nat)).1 ((F25_x1 h x1 x2 x3 v4 v5 v6 x7 x8) (0 : Nat)).2) _
        exact pEnd_sound good (L := F25_L) (D := F25_D) (its := [.g, (.c (.bool y9) h), .g, .g, (.w .g), (.w .g), (.w .g), (.w .g), (.w .g), (.w .g), (.w (.p true)), (.p false), .g, .n, .n, .n, .n, .n, .n, .n, .n, .n, .n, (.p true), .g, .n, .n, .g, .g, .n, .n, .g, (.b true), .g, .g, .g]) (ds := F25_m1_0) (ks := [3]) (e := ((F25_x1 h x1 x2 x3 v4 v5 v6 x7 x8) (0 : Nat)).1) (s2 := ((F25_x1 h x1 x2 x3 v4 v5 v6 x7 x8) (0 : Nat)).2) (hC := (ai l_t (ai (g_tf l_t) (ai (g_tf l_t) (ai (g_tf l_t) (ai (g_tf l_t) (ai c13 (ai (g_tf c13) (ai l_f (ai l_f (ai l_f (ai l_f (ai l_f (ai l_f (ai (g_tf c13) (ai (g_tf c13) (ai (g_tf c13) kc13))))))))))))))))) (hd := F25_d1) (h := by kernel_rfl)
      · have kc14 := (ai (g_ff c13) (ai (g_ff c13) (ai (g_ff c13) kc13)))
        refine dec_bif (fun c14 => ?_) (fun c14 => ?_)
        · have kc15 := (ai (g_tt c14) (ai (g_tt c14) (ai (g_tt c14) kc14)))
          refine dec_bif (fun c15 => ?_) (fun c15 => ?_)
          · intro hr
            obtain rfl := Option.some.inj hr
            show AWp Try.prog _ (Ends1 ((F25_x1 h x1 x2 x3 v4 v5 v6 x7 x8) (0 : Nat)).1 ((F25_x1 h x1 x2 x3 v4 v5 v6 x7 x8) (0 : Nat)).2) _
            exact pEnd_sound good (L := F25_L) (D := F25_D) (its := [.g, (.c (.bool y9) h), .g, .g, (.w .g), (.w .g), (.w .g), (.w .g), (.w .g), (.w .g), (.w (.p true)), (.p false), .g, (.w .g), (.w .g), (.w .g), (.w .g), (.w .g), (.w .g), .n, .n, (.w (.p true)), (.w (.p true)), (.p false), .g, .n, .n, .g, .g, .n, .n, .g, (.b true), .g, .g, .g]) (ds := F25_m1_0) (ks := [3]) (e := ((F25_x1 h x1 x2 x3 v4 v5 v6 x7 x8) (0 : Nat)).1) (s2 := ((F25_x1 h x1 x2 x3 v4 v5 v6 x7 x8) (0 : Nat)).2) (hC := (ai l_t (ai (g_tf l_t) (ai (g_tf l_t) (ai (g_tf l_t) (ai (g_tf l_t) (ai c13 (ai c14 (ai (g_ff c13) (ai c15 (ai (g_tt c14) (ai (g_tf c15) (ai (g_tf c15) kc15))))))))))))) (hd := F25_d1) (h := by kernel_rfl)
          · have kc16 := (ai c13 (ai c14 (ai (g_ff c13) (ai c15 (ai (g_tt c14) (ai (g_ff c15) (ai (g_ff c15) kc15)))))))
            refine dec_bif (fun c16 => ?_) (fun c16 => ?_)
            · intro hr
              obtain rfl := Option.some.inj hr
              show AWp Try.prog _ (Ends1 ((F25_x1 h x1 x2 x3 v4 v5 v6 x7 x8) (0 : Nat)).1 ((F25_x1 h x1 x2 x3 v4 v5 v6 x7 x8) (0 : Nat)).2) _
              exact pEnd_sound good (L := F25_L) (D := F25_D) (its := [.g, (.c (.bool y9) h), .g, .g, (.w .g), (.w .g), (.w .g), (.w .g), (.w .g), (.w .g), (.w (.p true)), (.p false), .g, (.w .g), (.w .g), (.w .g), (.w .g), (.w .g), (.w .g), (.w .g), (.w .g), (.w (.p false)), (.w (.p true)), (.p false), .g, .n, .n, (.p true), .g, .n, .n, .g, (.b true), .g, .g, .g]) (ds := F25_m1_0) (ks := [3]) (e := ((F25_x1 h x1 x2 x3 v4 v5 v6 x7 x8) (0 : Nat)).1) (s2 := ((F25_x1 h x1 x2 x3 v4 v5 v6 x7 x8) (0 : Nat)).2) (hC := (ai l_t (ai (g_tf l_t) (ai (g_tf l_t) (ai c16 (ai (g_tf c16) (ai (g_tf c16) kc16))))))) (hd := F25_d1) (h := by kernel_rfl)
            · have kc17 := (ai c16 (ai (g_ff c16) (ai (g_ff c16) kc16)))
              refine dec_bif (fun c17 => ?_) (fun c17 => ?_)
              · intro hr
                obtain rfl := Option.some.inj hr
                show AWp Try.prog _ (Ends1 ((F25_x1 h x1 x2 x3 v4 v5 v6 x7 x8) (0 : Nat)).1 ((F25_x1 h x1 x2 x3 v4 v5 v6 x7 x8) (0 : Nat)).2) _
                exact pEnd_sound good (L := F25_L) (D := F25_D) (its := [.g, (.c (.bool y9) h), .g, .g, (.w .g), (.w .g), (.w .g), (.w .g), (.w .g), (.w .g), (.w (.p true)), (.p false), .g, (.w .g), (.w .g), (.w .g), (.w .g), (.w .g), (.w .g), (.w .g), (.w .g), (.w (.p false)), (.w (.p true)), (.p false), .g, (.w .g), (.w .g), (.p false), .g, .n, .n, (.p true), (.b true), .g, .g, .g]) (ds := F25_m1_0) (ks := [3]) (e := ((F25_x1 h x1 x2 x3 v4 v5 v6 x7 x8) (0 : Nat)).1) (s2 := ((F25_x1 h x1 x2 x3 v4 v5 v6 x7 x8) (0 : Nat)).2) (hC := (ai l_t (ai c17 (ai (g_tf c17) (ai (g_tf c17) kc17))))) (hd := F25_d1) (h := by kernel_rfl)
              · have kc18 := (ai c17 (ai (g_ff c17) (ai (g_ff c17) kc17)))
                refine dec_bif (fun c18 => ?_) (fun c18 => ?_)
                · intro hr
                  obtain rfl := Option.some.inj hr
                  show AWp Try.prog _ (Ends1 ((F25_x1 h x1 x2 x3 v4 v5 v6 x7 x8) (0 : Nat)).1 ((F25_x1 h x1 x2 x3 v4 v5 v6 x7 x8) (0 : Nat)).2) _
                  exact pEnd_sound good (L := F25_L) (D := F25_D) (its := [.g, (.c (.bool y9) h), .g, .g, (.w .g), (.w .g), (.w .g), (.w .g), (.w .g), (.w .g), (.w (.p true)), (.p false), .g, (.w .g), (.w .g), (.w .g), (.w .g), (.w .g), (.w .g), (.w .g), (.w .g), (.w (.p false)), (.w (.p true)), (.p false), .g, (.w .g), (.w .g), (.p false), .g, (.w .g), (.w .g), (.p false), (.b true), .g, .g, .g]) (ds := F25_m1_0) (ks := [3]) (e := ((F25_x1 h x1 x2 x3 v4 v5 v6 x7 x8) (0 : Nat)).1) (s2 := ((F25_x1 h x1 x2 x3 v4 v5 v6 x7 x8) (0 : Nat)).2) (hC := (ai c18 kc18)) (hd := F25_d1) (h := by kernel_rfl)
                · intro hr
                  obtain rfl := Option.some.inj hr
                  show AWp Try.prog _ (Ends1 ((F25_x1 h x1 x2 x3 v4 v5 v6 x7 x8) (1 : Nat)).1 ((F25_x1 h x1 x2 x3 v4 v5 v6 x7 x8) (1 : Nat)).2) _
                  exact pEnd_sound good (L := F25_L) (D := F25_D) (its := [.g, (.c (.bool y9) h), .g, .g, (.w .g), (.w .g), (.w .g), (.w .g), (.w .g), (.w .g), (.w (.p true)), (.p false), .g, (.w .g), (.w .g), (.w .g), (.w .g), (.w .g), (.w .g), (.w .g), (.w .g), (.w (.p false)), (.w (.p true)), (.p false), .g, (.w .g), (.w .g), (.p false), .g, (.w .g), (.w .g), (.p false), (.b false)]) (ds := F25_m1_1) (ks := []) (e := ((F25_x1 h x1 x2 x3 v4 v5 v6 x7 x8) (1 : Nat)).1) (s2 := ((F25_x1 h x1 x2 x3 v4 v5 v6 x7 x8) (1 : Nat)).2) (hC := (ai c18 kc18)) (hd := F25_d1) (h := by kernel_rfl)
        · have kc19 := (ai (g_ff l_f) (ai (g_ff l_f) (ai c13 (ai c14 (ai (g_ff c13) (ai (g_ft c14) (ai l_f (ai l_f (ai (g_ft c14) (ai (g_ft c14) (ai (g_ft c14) kc14)))))))))))
          refine dec_bif (fun c19 => ?_) (fun c19 => ?_)
          · intro hr
            obtain rfl := Option.some.inj hr
            show AWp Try.prog _ (Ends1 ((F25_x1 h x1 x2 x3 v4 v5 v6 x7 x8) (0 : Nat)).1 ((F25_x1 h x1 x2 x3 v4 v5 v6 x7 x8) (0 : Nat)).2) _
            exact pEnd_sound good (L := F25_L) (D := F25_D) (its := [.g, (.c (.bool y9) h), .g, .g, (.w .g), (.w .g), (.w .g), (.w .g), (.w .g), (.w .g), (.w (.p true)), (.p false), .g, (.w .g), (.w .g), (.w .g), .n, .n, .n, .n, .n, .n, (.w (.p false)), (.p false), .g, (.w .g), (.w .g), .g, .g, .n, .n, (.p true), (.b true), .g, .g, .g]) (ds := F25_m1_0) (ks := [3]) (e := ((F25_x1 h x1 x2 x3 v4 v5 v6 x7 x8) (0 : Nat)).1) (s2 := ((F25_x1 h x1 x2 x3 v4 v5 v6 x7 x8) (0 : Nat)).2) (hC := (ai l_t (ai c19 (ai (g_tf c19) (ai (g_tf c19) kc19))))) (hd := F25_d1) (h := by kernel_rfl)
          · have kc20 := (ai c19 (ai (g_ff c19) (ai (g_ff c19) kc19)))
            refine dec_bif (fun c20 => ?_) (fun c20 => ?_)
            · intro hr
              obtain rfl := Option.some.inj hr
              show AWp Try.prog _ (Ends1 ((F25_x1 h x1 x2 x3 v4 v5 v6 x7 x8) (0 : Nat)).1 ((F25_x1 h x1 x2 x3 v4 v5 v6 x7 x8) (0 : Nat)).2) _
              exact pEnd_sound good (L := F25_L) (D := F25_D) (its := [.g, (.c (.bool y9) h), .g, .g, (.w .g), (.w .g), (.w .g), (.w .g), (.w .g), (.w .g), (.w (.p true)), (.p false), .g, (.w .g), (.w .g), (.w .g), .n, .n, .n, .n, .n, .n, (.w (.p false)), (.p false), .g, (.w .g), (.w .g), .g, .g, (.w .g), (.w .g), (.p false), (.b true), .g, .g, .g]) (ds := F25_m1_0) (ks := [3]) (e := ((F25_x1 h x1 x2 x3 v4 v5 v6 x7 x8) (0 : Nat)).1) (s2 := ((F25_x1 h x1 x2 x3 v4 v5 v6 x7 x8) (0 : Nat)).2) (hC := (ai c20 kc20)) (hd := F25_d1) (h := by kernel_rfl)
            · intro hr
              obtain rfl := Option.some.inj hr
              show AWp Try.prog _ (Ends1 ((F25_x1 h x1 x2 x3 v4 v5 v6 x7 x8) (1 : Nat)).1 ((F25_x1 h x1 x2 x3 v4 v5 v6 x7 x8) (1 : Nat)).2) _
              exact pEnd_sound good (L := F25_L) (D := F25_D) (its := [.g, (.c (.bool y9) h), .g, .g, (.w .g), (.w .g), (.w .g), (.w .g), (.w .g), (.w .g), (.w (.p true)), (.p false), .g, (.w .g), (.w .g), (.w .g), .n, .n, .n, .n, .n, .n, (.w (.p false)), (.p false), .g, (.w .g), (.w .g), .g, .g, (.w .g), (.w .g), (.p false), (.b false)]) (ds := F25_m1_1) (ks := []) (e := ((F25_x1 h x1 x2 x3 v4 v5 v6 x7 x8) (1 : Nat)).1) (s2 := ((F25_x1 h x1 x2 x3 v4 v5 v6 x7 x8) (1 : Nat)).2) (hC := (ai c20 kc20)) (hd := F25_d1) (h := by kernel_rfl)
    · have kc21 := (ai (g_ff l_f) (ai (g_ff l_f) (ai (g_ff l_f) (ai c11 (ai c12 (ai (g_ff c11) (ai (g_ft c12) (ai (g_ft c12) kc12))))))))
      refine dec_bif (fun c21 => ?_) (fun c21 => ?_)
      · have kc22 := (ai (g_tt c21) (ai (g_tt c21) (ai (g_tt c21) kc21)))
        refine dec_bif (fun c22 => ?_) (fun c22 => ?_)
        · intro hr
          obtain rfl := Option.some.inj hr
          show AWp Try.prog _ (Ends1 ((F25_x1 h x1 x2 x3 v4 v5 v6 x7 x8) (0 : Nat)).1 ((F25_x1 h x1 x2 x3 v4 v5 v6 x7 x8) (0 : Nat)).2) _
          exact pEnd_sound good (L := F25_L) (D := F25_D) (its := [.g, (.c (.bool y9) h), .g, .g, (.w .g), (.w .g), (.w .g), (.w .g), .n, .n, (.w (.p false)), (.p false), .g, (.w .g), (.w .g), (.w .g), (.w .g), (.w .g), (.w .g), .n, .n, (.w (.p true)), (.w (.p true)), .g, .g, .n, .n, .g, .g, .n, .n, .g, (.b true), .g, .g, .g]) (ds := F25_m1_0) (ks := [3]) (e := ((F25_x1 h x1 x2 x3 v4 v5 v6 x7 x8) (0 : Nat)).1) (s2 := ((F25_x1 h x1 x2 x3 v4 v5 v6 x7 x8) (0 : Nat)).2) (hC := (ai l_t (ai (g_tf l_t) (ai (g_tf l_t) (ai (g_tf l_t) (ai (g_tf l_t) (ai c21 (ai (g_ff l_f) (ai c22 (ai (g_tt c21) (ai (g_tf c22) (ai (g_tf c22) kc22)))))))))))) (hd := F25_d1) (h := by kernel_rfl)
        · have kc23 := (ai c21 (ai (g_ff l_f) (ai c22 (ai (g_tt c21) (ai (g_ff c22) (ai (g_ff c22) kc22))))))
          refine dec_bif (fun c23 => ?_) (fun c23 => ?_)
          · intro hr
            obtain rfl := Option.some.inj hr
            show AWp Try.prog _ (Ends1 ((F25_x1 h x1 x2 x3 v4 v5 v6 x7 x8) (0 : Nat)).1 ((F25_x1 h x1 x2 x3 v4 v5 v6 x7 x8) (0 : Nat)).2) _
            exact pEnd_sound good (L := F25_L) (D := F25_D) (its := [.g, (.c (.bool y9) h), .g, .g, (.w .g), (.w .g), (.w .g), (.w .g), .n, .n, (.w (.p false)), (.p false), .g, (.w .g), (.w .g), (.w .g), (.w .g), (.w .g), (.w .g), (.w .g), (.w .g), (.w (.p false)), (.w (.p true)), .g, .g, .n, .n, (.p true), .g, .n, .n, .g, (.b true), .g, .g, .g]) (ds := F25_m1_0) (ks := [3]) (e := ((F25_x1 h x1 x2 x3 v4 v5 v6 x7 x8) (0 : Nat)).1) (s2 := ((F25_x1 h x1 x2 x3 v4 v5 v6 x7 x8) (0 : Nat)).2) (hC := (ai l_t (ai (g_tf l_t) (ai (g_tf l_t) (ai c23 (ai (g_tf c23) (ai (g_tf c23) kc23))))))) (hd := F25_d1) (h := by kernel_rfl)
          · have kc24 := (ai c23 (ai (g_ff c23) (ai (g_ff c23) kc23)))
            refine dec_bif (fun c24 => ?_) (fun c24 => ?_)
            · intro hr
              obtain rfl := Option.some.inj hr
              show AWp Try.prog _ (Ends1 ((F25_x1 h x1 x2 x3 v4 v5 v6 x7 x8) (0 : Nat)).1 ((F25_x1 h x1 x2 x3 v4 v5 v6 x7 x8) (0 : Nat)).2) _
              exact pEnd_sound good (L := F25_L) (D := F25_D) (its := [.g, (.c (.bool y9) h), .g, .g, (.w .g), (.w .g), (.w .g), (.w .g), .n, .n, (.w (.p false)), (.p false), .g, (.w .g), (.w .g), (.w .g), (.w .g), (.w .g), (.w .g), (.w .g), (.w .g), (.w (.p false)), (.w (.p true)), .g, .g, (.w .g), (.w .g), (.p false), .g, .n, .n, (.p true), (.b true), .g, .g, .g]) (ds := F25_m1_0) (ks := [3]) (e := ((F25_x1 h x1 x2 x3 v4 v5 v6 x7 x8) (0 : Nat)).1) (s2 := ((F25_x1 h x1 x2 x3 v4 v5 v6 x7 x8) (0 : Nat)).2) (hC := (ai l_t (ai c24 (ai (g_tf c24) (ai (g_tf c24) kc24))))) (hd := F25_d1) (h := by kernel_rfl)
            · have kc25 := (ai c24 (ai (g_ff c24) (ai (g_ff c24) kc24)))
              refine dec_bif (fun c25 => ?_) (fun c25 => ?_)
              · intro hr
                obtain rfl := Option.some.inj hr
                show AWp Try.prog _ (Ends1 ((F25_x1 h x1 x2 x3 v4 v5 v6 x7 x8) (0 : Nat)).1 ((F25_x1 h x1 x2 x3 v4 v5 v6 x7 x8) (0 : Nat)).2) _
                exact pEnd_sound good (L := F25_L) (D := F25_D) (its := [.g, (.c (.bool y9) h), .g, .g, (.w .g), (.w .g), (.w .g), (.w .g), .n, .n, (.w (.p false)), (.p false), .g, (.w .g), (.w .g), (.w .g), (.w .g), (.w .g), (.w .g), (.w .g), (.w .g), (.w (.p false)), (.w (.p true)), .g, .g, (.w .g), (.w .g), (.p false), .g, (.w .g), (.w .g), (.p false), (.b true), .g, .g, .g]) (ds := F25_m1_0) (ks := [3]) (e := ((F25_x1 h x1 x2 x3 v4 v5 v6 x7 x8) (0 : Nat)).1) (s2 := ((F25_x1 h x1 x2 x3 v4 v5 v6 x7 x8) (0 : Nat)).2) (hC := (ai c25 kc25)) (hd := F25_d1) (h := by kernel_rfl)
              · intro hr
                obtain rfl := Option.some.inj hr
                show AWp Try.prog _ (Ends1 ((F25_x1 h x1 x2 x3 v4 v5 v6 x7 x8) (1 : Nat)).1 ((F25_x1 h x1 x2 x3 v4 v5 v6 x7 x8) (1 : Nat)).2) _
                exact pEnd_sound good (L := F25_L) (D := F25_D) (its := [.g, (.c (.bool y9) h), .g, .g, (.w .g), (.w .g), (.w .g), (.w .g), .n, .n, (.w (.p false)), (.p false), .g, (.w .g), (.w .g), (.w .g), (.w .g), (.w .g), (.w .g), (.w .g), (.w .g), (.w (.p false)), (.w (.p true)), .g, .g, (.w .g), (.w .g), (.p false), .g, (.w .g), (.w .g), (.p false), (.b false)]) (ds := F25_m1_1) (ks := []) (e := ((F25_x1 h x1 x2 x3 v4 v5 v6 x7 x8) (1 : Nat)).1) (s2 := ((F25_x1 h x1 x2 x3 v4 v5 v6 x7 x8) (1 : Nat)).2) (hC := (ai c25 kc25)) (hd := F25_d1) (h := by kernel_rfl)
      · have kc26 := (ai (g_ff l_f) (ai (g_ff l_f) (ai c21 (ai (g_ff l_f) (ai (g_ft c21) (ai l_f (ai l_f (ai (g_ft c21) (ai (g_ft c21) (ai (g_ft c21) kc21))))))))))
        refine dec_bif (fun c26 => ?_) (fun c26 => ?_)
        · intro hr
          obtain rfl := Option.some.inj hr
          show AWp Try.prog _ (Ends1 ((F25_x1 h x1 x2 x3 v4 v5 v6 x7 x8) (0 : Nat)).1 ((F25_x1 h x1 x2 x3 v4 v5 v6 x7 x8) (0 : Nat)).2) _
          exact pEnd_sound good (L := F25_L) (D := F25_D) (its := [.g, (.c (.bool y9) h), .g, .g, (.w .g), (.w .g), (.w .g), (.w .g), .n, .n, (.w (.p false)), (.p false), .g, (.w .g), (.w .g), (.w .g), .n, .n, .n, .n, .n, .n, (.w (.p false)), .g, .g, (.w .g), (.w .g), .g, .g, .n, .n, (.p true), (.b true), .g, .g, .g]) (ds := F25_m1_0) (ks := [3]) (e := ((F25_x1 h x1 x2 x3 v4 v5 v6 x7 x8) (0 : Nat)).1) (s2 := ((F25_x1 h x1 x2 x3 v4 v5 v6 x7 x8) (0 : Nat)).2) (hC := (ai l_t (ai c26 (ai (g_tf c26) (ai (g_tf c26) kc26))))) (hd := F25_d1) (h := by kernel_rfl)
        · have kc27 := (ai c26 (ai (g_ff c26) (ai (g_ff c26) kc26)))
          refine dec_bif (fun c27 => ?_) (fun c27 => ?_)
          · intro hr
            obtain rfl := Option.some.inj hr
            show AWp Try.prog _ (Ends1 ((F25_x1 h x1 x2 x3 v4 v5 v6 x7 x8) (0 : Nat)).1 ((F25_x1 h x1 x2 x3 v4 v5 v6 x7 x8) (0 : Nat)).2) _
            exact pEnd_sound good (L := F25_L) (D := F25_D) (its := [.g, (.c (.bool y9) h), .g, .g, (.w .g), (.w .g), (.w .g), (.w .g), .n, .n, (.w (.p false)), (.p false), .g, (.w .g), (.w .g), (.w .g), .n, .n, .n, .n, .n, .n, (.w (.p false)), .g, .g, (.w .g), (.w .g), .g, .g, (.w .g), (.w .g), (.p false), (.b true), .g, .g, .g]) (ds := F25_m1_0) (ks := [3]) (e := ((F25_x1 h x1 x2 x3 v4 v5 v6 x7 x8) (0 : Nat)).1) (s2 := ((F25_x1 h x1 x2 x3 v4 v5 v6 x7 x8) (0 : Nat)).2) (hC := (ai c27 kc27)) (hd := F25_d1) (h := by kernel_rfl)
          · intro hr
            obtain rfl := Option.some.inj hr
            show AWp Try.prog _ (Ends1 ((F25_x1 h x1 x2 x3 v4 v5 v6 x7 x8) (1 : Nat)).1 ((F25_x1 h x1 x2 x3 v4 v5 v6 x7 x8) (1 : Nat)).2) _
            exact pEnd_sound good (L := F25_L) (D := F25_D) (its := [.g, (.c (.bool y9) h), .g, .g, (.w .g), (.w .g), (.w .g), (.w .g), .n, .n, (.w (.p false)), (.p false), .g, (.w .g), (.w .g), (.w .g), .n, .n, .n, .n, .n, .n, (.w (.p false)), .g, .g, (.w .g), (.w .g), .g, .g, (.w .g), (.w .g), (.p false), (.b false)]) (ds := F25_m1_1) (ks := []) (e := ((F25_x1 h x1 x2 x3 v4 v5 v6 x7 x8) (1 : Nat)).1) (s2 := ((F25_x1 h x1 x2 x3 v4 v5 v6 x7 x8) (1 : Nat)).2) (hC := (ai c27 kc27)) (hd := F25_d1) (h := by kernel_rfl)
theorem F25_l1_0 (h : AHeap) (x1 : Int) (x2 : Int) (x3 : Bool) (l4 : List (Int × Int × Int × Int)) (v4 : Hd) (hv4 : SlE E57 4 h (sv v4) l4) (l5 : List (Int × Int × Int × Int)) (v5 : Hd) (hv5 : SlE E59 4 h (sv v5) l5) (l6 : List (Int × Int)) (v6 : Hd) (hv6 : SlE E61 2 h (sv v6) l6) (x7 : Int) (x8 : Int) (r : Nat) (hl : F25_s1 x1 x2 x3 l4 l5 l6 x7 x8 = some r) (q0 : Nat.beq r 0 = true) : AWp Try.prog (codeOf Try.prog 25 [1, 0]) (Ends1 .ret (F25_x1_0 h x1 x2 x3 v4 v5 v6 x7 x8 r)) (F25_h1 h x1 x2 x3 v4 v5 v6 x7 x8) := by
  have k := F25_r1 h x1 x2 x3 l4 v4 hv4 l5 v5 hv5 l6 v6 hv6 x7 x8 r hl
  simp only [F25_x1, q0, cond_true, cond_false] at k
  exact k
theorem F25_l1_1 (h : AHeap) (x1 : Int) (x2 : Int) (x3 : Bool) (l4 : List (Int × Int × Int × Int)) (v4 : Hd) (hv4 : SlE E57 4 h (sv v4) l4) (l5 : List (Int × Int × Int × Int)) (v5 : Hd) (hv5 : SlE E59 4 h (sv v5) l5) (l6 : List (Int × Int)) (v6 : Hd) (hv6 : SlE E61 2 h (sv v6) l6) (x7 : Int) (x8 : Int) (r : Nat) (hl : F25_s1 x1 x2 x3 l4 l5 l6 x7 x8 = some r) (q0 : Nat.beq r 0 = false) : AWp Try.prog (codeOf Try.prog 25 [1, 0]) (Ends1 .normal (F25_x1_1 h x1 x2 x3 v4 v5 v6 x7 x8 r)) (F25_h1 h x1 x2 x3 v4 v5 v6 x7 x8) := by
  have k := F25_r1 h x1 x2 x3 l4 v4 hv4 l5 v5 hv5 l6 v6 hv6 x7 x8 r hl
  simp only [F25_x1, q0, cond_true, cond_false] at k
  exact k
def F25_m2_2 : List Bool := (true :: false :: true :: false :: true :: true :: false :: true :: true :: false :: true :: false :: (rp 78 true []))
def F25_m2_1 : List Bool := (true :: false :: false :: false :: true :: true :: false :: true :: true :: false :: true :: false :: (rp 48 true (false :: false :: false :: (rp 27 true []))))
def F25_m2_0 : List Bool := (rp 6 true (false :: false :: false :: (rp 81 true [])))
def F25_s2 (x1 : Int) (x2 : Int) (x3 : Bool) (l4 : List (Int × Int × Int × Int)) (l5 : List (Int × Int × Int × Int)) (l6 : List (Int × Int)) (x8 : Int) (y31 : (List Int) × (List Int)) (a39 : Int) (l40 : List Int) : Option ((Int × (List Int)) ⊕ (Nat × (List Int))) :=
  (bif decide (a39 < (y31.1.length : Int)) then
   (Option.bind (at? y31.1 a39) fun y43 =>
   (bif decide (y43 > x8) then
    some (.inr (0, []))
   else
    (bif (a39 != (F49 x1 x2 x3 l4 l5 l6)) then
     (Option.bind (at? l40 a39) fun y47 =>
     some (.inl ((IntKind.i64.wrap (a39 + 1)), (setI l40 a39 x8))))
    else
     some (.inl ((IntKind.i64.wrap (a39 + 1)), l40)))))
  else
   some (.inr (1, l40)))
def F25_h2 (x1 : Int) (x2 : Int) (x3 : Bool) (l4 : List (Int × Int × Int × Int)) (v4 : Hd) (l5 : List (Int × Int × Int × Int)) (v5 : Hd) (l6 : List (Int × Int)) (v6 : Hd) (x7 : Int) (x8 : Int) (y31 : (List Int) × (List Int)) (u32_0 : Hd) (v37 : Hd) (h41 : AHeap) (a39 : Int) (l40 : List Int) : AS := ⟨(junk :: (.int .i64 x7) :: (.int .i64 x8) :: (.pointer (some ⟨3, 0, none⟩)) :: junk :: junk :: (sv u32_0) :: junk :: junk :: (.int .i64 (F42 x1 x2 x3 l4 l5 l6)) :: junk :: (sv v37) :: (rp 48 junk ((sv u32_0) :: (.int .i64 (y31.1.length : Int)) :: (.int .i64 a39) :: (rp 27 junk [])))), [(3, [.int .i64 x1, .int .i64 x2, .bool x3, (sv v4), (sv v5), (sv v6)])], h41⟩
theorem F25_d2 : drawsOk F25_D (codeOf Try.prog 25 [1, 1, 1, 1, 1, 1, 0, 1, 0, 0]) = true := by kernel_rfl
def F25_x2_0 (h : AHeap) (x1 : Int) (x2 : Int) (x3 : Bool) (l4 : List (Int × Int × Int × Int)) (v4 : Hd) (l5 : List (Int × Int × Int × Int)) (v5 : Hd) (l6 : List (Int × Int)) (v6 : Hd) (x7 : Int) (y31 : (List Int) × (List Int)) (u32_0 : Hd) (v37 : Hd) (hx : AHeap) (r : Nat × (List Int)) : AS := ⟨(rp 6 junk ((.slice none 0 0) :: (.slice none 0 0) :: (.int .i64 14) :: (rp 81 junk []))), [], hx⟩
def F25_x2_1 (h : AHeap) (x1 : Int) (x2 : Int) (x3 : Bool) (l4 : List (Int × Int × Int × Int)) (v4 : Hd) (l5 : List (Int × Int × Int × Int)) (v5 : Hd) (l6 : List (Int × Int)) (v6 : Hd) (x7 : Int) (y31 : (List Int) × (List Int)) (u32_0 : Hd) (v37 : Hd) (hx : AHeap) (r : Nat × (List Int)) : AS := ⟨(junk :: (.int .i64 x7) :: junk :: (.pointer (some ⟨3, 0, none⟩)) :: junk :: junk :: (sv u32_0) :: junk :: junk :: (.int .i64 (F42 x1 x2 x3 l4 l5 l6)) :: junk :: (sv v37) :: (rp 78 junk [])), [(3, [.int .i64 x1, .int .i64 x2, .bool x3, (sv v4), (sv v5), (sv v6)])], hx⟩
def F25_i2 (h : AHeap) (x1 : Int) (x2 : Int) (x3 : Bool) (l4 : List (Int × Int × Int × Int)) (v4 : Hd) (l5 : List (Int × Int × Int × Int)) (v5 : Hd) (l6 : List (Int × Int)) (v6 : Hd) (x7 : Int) (x8 : Int) (y31 : (List Int) × (List Int)) (u32_0 : Hd) (v37 : Hd) (s : Int × (List Int)) (S : AS) : Prop := ∃ (h41 : AHeap), Heapy h h41 [⟨u32_0, 3, 1, List.flatMap enc3 y31.1⟩, ⟨v37, 3, 1, List.flatMap enc3 s.2⟩] ∧ S = (F25_h2 x1 x2 x3 l4 v4 l5 v5 l6 v6 x7 x8 y31 u32_0 v37 h41 s.1 s.2)
def F25_x2 (h : AHeap) (x1 : Int) (x2 : Int) (x3 : Bool) (l4 : List (Int × Int × Int × Int)) (v4 : Hd) (l5 : List (Int × Int × Int × Int)) (v5 : Hd) (l6 : List (Int × Int)) (v6 : Hd) (x7 : Int) (y31 : (List Int) × (List Int)) (u32_0 : Hd) (v37 : Hd) (r : Nat × (List Int)) (e : Exit) (S : AS) : Prop := (bif Nat.beq r.1 0 then (e = .ret ∧ ∃ (hx : AHeap), Heapy h hx [] ∧ S = (F25_x2_0 h x1 x2 x3 l4 v4 l5 v5 l6 v6 x7 y31 u32_0 v37 hx r)) else (e = (.exit 0) ∧ ∃ (hx : AHeap), Heapy h hx [⟨u32_0, 3, 1, List.flatMap enc3 y31.1⟩, ⟨v37, 3, 1, List.flatMap enc3 r.2⟩] ∧ S = (F25_x2_1 h x1 x2 x3 l4 v4 l5 v5 l6 v6 x7 y31 u32_0 v37 hx r)))
set_option maxRecDepth 100000 in
theorem F25_r2 (h : AHeap) (x1 : Int) (x2 : Int) (x3 : Bool) (l4 : List (Int × Int × Int × Int)) (v4 : Hd) (hv4 : SlE E57 4 h (sv v4) l4) (l5 : List (Int × Int × Int × Int)) (v5 : Hd) (hv5 : SlE E59 4 h (sv v5) l5) (l6 : List (Int × Int)) (v6 : Hd) (hv6 : SlE E61 2 h (sv v6) l6) (x7 : Int) (x8 : Int) (y31 : (List Int) × (List Int)) (u32_0 : Hd) (v37 : Hd) (a39 : Int) (l40 : List Int) (S : AS) (hI : (F25_i2 h x1 x2 x3 l4 v4 l5 v5 l6 v6 x7 x8 y31 u32_0 v37) (a39, l40) S) (o : (Int × (List Int)) ⊕ (Nat × (List Int))) : F25_s2 x1 x2 x3 l4 l5 l6 x8 y31 a39 l40 = some o → Rd Try.prog (codeOf Try.prog 25 [1, 1, 1, 1, 1, 1, 0, 1, 0, 0]) (F25_i2 h x1 x2 x3 l4 v4 l5 v5 l6 v6 x7 x8 y31 u32_0 v37) (F25_x2 h x1 x2 x3 l4 v4 l5 v5 l6 v6 x7 y31 u32_0 v37) S o := by
  obtain ⟨h41, hp41, rfl⟩ := hI
  unfold F25_s2
  refine dec_bif (fun c42 => ?_) (fun c42 => ?_)
  · refine bind_opt fun y43 e43 => ?_
    obtain ⟨id43, off43, g43, cs43, ix43, at43, rfl⟩ := SlE.at (Heapy.sle (v := u32_0) (xs := y31.1) (enc := enc3) hp41 0 rfl (fun _ => rfl) (by decide)) e43
    have kc44 := (ai (At.one (P := Try.prog) (t := 3) (v := .int .i64 y43) at43 (by kernel_rfl) 0 rfl rfl) (ai ix43 (ai c42 trivial)))
    refine dec_bif (fun c44 => ?_) (fun c44 => ?_)
    · intro hr
      obtain rfl := Option.some.inj hr
      refine ⟨.ret, (F25_x2_0 h x1 x2 x3 l4 v4 l5 v5 l6 v6 x7 y31 u32_0 v37 h41 ((0, []) : Nat × (List Int))), (by intro hh; cases hh), ?_, pEnd_sound good (L := F25_L) (D := F25_D) (its := [.g, (.b true), .g, (.ix id43 off43 g43), (.ld (.int .i64 y43)), .g, .g, .g, .g, .g, (.b true), .g, .g, .g]) (ds := F25_m2_0) (ks := [3]) (e := .ret) (s2 := (F25_x2_0 h x1 x2 x3 l4 v4 l5 v5 l6 v6 x7 y31 u32_0 v37 h41 ((0, []) : Nat × (List Int)))) (hC := (ai c44 kc44)) (hd := F25_d2) (h := by kernel_rfl)⟩
      exact ⟨rfl, h41, (Heapy.pick hp41 [] (by decide)), rfl⟩
    · have kc46 := (ai (F49_spec x1 x2 x3 l4 l5 l6 v4 v5 v6 h41 (SlE.mono hv4 (Heapy.sub hp41) (E57_mono (Heapy.sub hp41))) (SlE.mono hv5 (Heapy.sub hp41) (E59_mono (Heapy.sub hp41))) (SlE.mono hv6 (Heapy.sub hp41) (E61_mono (Heapy.sub hp41))) _ rfl) (ai c44 kc44))
      refine dec_bif (fun c46 => ?_) (fun c46 => ?_)
      · refine bind_opt fun y47 e47 => ?_
        obtain ⟨id47, off47, g47, cs47, ix47, at47, rfl⟩ := SlE.at (Heapy.sle (v := v37) (xs := l40) (enc := enc3) hp41 1 rfl (fun _ => rfl) (by decide)) e47
        obtain ⟨h48, m48, hp48⟩ := Heapy.store (P := Try.prog) hp41 1 (v := v37) (xs := l40) (enc := enc3) rfl (fun _ => rfl) e47 (y' := x8) ix47 (t := 3) (x := .int .i64 x8) 0 (vs := [.int .i64 x8]) rfl (by kernel_rfl) rfl rfl rfl rfl
        intro hr
        obtain rfl := Option.some.inj hr
        exact ⟨(F25_h2 x1 x2 x3 l4 v4 l5 v5 l6 v6 x7 x8 y31 u32_0 v37 h48 (IntKind.i64.wrap (a39 + 1)) (setI l40 a39 x8)), ⟨h48, (Heapy.pick hp48 [0, 1] (by decide)), rfl⟩, pEnd_sound good (L := F25_L) (D := F25_D) (its := [.g, (.b true), .g, (.ix id43 off43 g43), (.ld (.int .i64 y43)), .g, .g, .g, .g, .g, (.b false), .g, .g, (.c (.int .i64 (F49 x1 x2 x3 l4 l5 l6)) h41), .g, (.b true), .g, .g, .g, (.ix id47 off47 g47), (.mm undef h48), .g, .g]) (ds := F25_m2_1) (ks := []) (e := .normal) (s2 := (F25_h2 x1 x2 x3 l4 v4 l5 v5 l6 v6 x7 x8 y31 u32_0 v37 h48 (IntKind.i64.wrap (a39 + 1)) (setI l40 a39 x8))) (hC := (ai m48 (ai ix47 (ai c46 kc46)))) (hd := F25_d2) (h := by kernel_rfl)⟩
      · intro hr
        obtain rfl := Option.some.inj hr
        exact ⟨(F25_h2 x1 x2 x3 l4 v4 l5 v5 l6 v6 x7 x8 y31 u32_0 v37 h41 (IntKind.i64.wrap (a39 + 1)) l40), ⟨h41, (Heapy.pick hp41 [0, 1] (by decide)), rfl⟩, pEnd_sound good (L := F25_L) (D := F25_D) (its := [.g, (.b true), .g, (.ix id43 off43 g43), (.ld (.int .i64 y43)), .g, .g, .g, .g, .g, (.b false), .g, .g, (.c (.int .i64 (F49 x1 x2 x3 l4 l5 l6)) h41), .g, (.b false), .g, .g]) (ds := F25_m2_1) (ks := []) (e := .normal) (s2 := (F25_h2 x1 x2 x3 l4 v4 l5 v5 l6 v6 x7 x8 y31 u32_0 v37 h41 (IntKind.i64.wrap (a39 + 1)) l40)) (hC := (ai c46 kc46)) (hd := F25_d2) (h := by kernel_rfl)⟩
  · intro hr
    obtain rfl := Option.some.inj hr
    refine ⟨(.exit 0), (F25_x2_1 h x1 x2 x3 l4 v4 l5 v5 l6 v6 x7 y31 u32_0 v37 h41 ((1, l40) : Nat × (List Int))), (by intro hh; cases hh), ?_, pEnd_sound good (L := F25_L) (D := F25_D) (its := [.g, (.b false)]) (ds := F25_m2_2) (ks := []) (e := (.exit 0)) (s2 := (F25_x2_1 h x1 x2 x3 l4 v4 l5 v5 l6 v6 x7 y31 u32_0 v37 h41 ((1, l40) : Nat × (List Int)))) (hC := (ai c42 trivial)) (hd := F25_d2) (h := by kernel_rfl)⟩
    exact ⟨rfl, h41, (Heapy.pick hp41 [0, 1] (by decide)), rfl⟩
theorem F25_l2 (h : AHeap) (x1 : Int) (x2 : Int) (x3 : Bool) (l4 : List (Int × Int × Int × Int)) (v4 : Hd) (hv4 : SlE E57 4 h (sv v4) l4) (l5 : List (Int × Int × Int × Int)) (v5 : Hd) (hv5 : SlE E59 4 h (sv v5) l5) (l6 : List (Int × Int)) (v6 : Hd) (hv6 : SlE E61 2 h (sv v6) l6) (x7 : Int) (x8 : Int) (y31 : (List Int) × (List Int)) (u32_0 : Hd) (v37 : Hd) (x : Int × (List Int)) (r : Nat × (List Int)) (hl : loopO (fun (s : Int × (List Int)) => F25_s2 x1 x2 x3 l4 l5 l6 x8 y31 s.1 s.2) x = some r) (S : AS) (hI : (F25_i2 h x1 x2 x3 l4 v4 l5 v5 l6 v6 x7 x8 y31 u32_0 v37) x S) : ∃ e S', (F25_x2 h x1 x2 x3 l4 v4 l5 v5 l6 v6 x7 y31 u32_0 v37) r e S' ∧ AWp Try.prog (.loop (codeOf Try.prog 25 [1, 1, 1, 1, 1, 1, 0, 1, 0, 0])) (Ends1 e S') S :=
  loop_rel (fun x S hI => F25_r2 h x1 x2 x3 l4 v4 hv4 l5 v5 hv5 l6 v6 hv6 x7 x8 y31 u32_0 v37 x.1 x.2 S hI) hl hI
def F25 (x1 : Int) (x2 : Int) (x3 : Bool) (l4 : List (Int × Int × Int × Int)) (l5 : List (Int × Int × Int × Int)) (l6 : List (Int × Int)) (x7 : Int) (x8 : Int) : Option ((List Int) × (List Int) × Int) :=
  (Option.bind (F25_s1 x1 x2 x3 l4 l5 l6 x7 x8) fun y28 =>
  (bif (Nat.beq y28 0) then
   some ([], [], 3)
  else
   (Option.bind (F47 (F42 x1 x2 x3 l4 l5 l6) l4 x7) fun y31 =>
   (bif (!y31.2.isEmpty) then
    some ([], [], 14)
   else
    (bif (!(okLen (F42 x1 x2 x3 l4 l5 l6) (F42 x1 x2 x3 l4 l5 l6) 8)) then none else
    (Option.bind (loopO (fun (s : Int × (List Int)) => F25_s2 x1 x2 x3 l4 l5 l6 x8 y31 s.1 s.2) (0, (List.replicate (F42 x1 x2 x3 l4 l5 l6).toNat (0 : Int)))) fun y49 =>
    (bif (Nat.beq y49.1 0) then
     some ([], [], 14)
    else
     (Option.bind (F50 (F42 x1 x2 x3 l4 l5 l6) l4 x7 y49.2) fun y53 =>
     some (y31.1, y53.1, 0)))))))))
set_option maxRecDepth 100000 in
theorem F25_spec (x1 : Int) (x2 : Int) (x3 : Bool) (l4 : List (Int × Int × Int × Int)) (l5 : List (Int × Int × Int × Int)) (l6 : List (Int × Int)) (x7 : Int) (x8 : Int) (v4 : Hd) (v5 : Hd) (v6 : Hd) (h : AHeap) (hw : h.wf) (hv4 : SlE E57 4 h (sv v4) l4) (hv5 : SlE E59 4 h (sv v5) l5) (hv6 : SlE E61 2 h (sv v6) l6) (r : (List Int) × (List Int) × Int) : F25 x1 x2 x3 l4 l5 l6 x7 x8 = some r → ∃ (ur0 : Hd) (ur1 : Hd) (h' : AHeap), Heapy h h' [⟨ur0, 3, 1, List.flatMap enc3 r.1⟩, ⟨ur1, 3, 1, List.flatMap enc3 r.2.1⟩] ∧ ACalls Try.prog 25 [.agg #[.int .i64 x1, .int .i64 x2, .bool x3, (sv v4), (sv v5), (sv v6)], .int .i64 x7, .int .i64 x8] h (fun v' h'' => v' = (.tuple #[(sv ur0), (sv ur1), .int .i64 r.2.2] : Value) ∧ h'' = h') := by
  unfold F25
  refine bind_opt fun y28 e28 => ?_
  refine dec_bif (fun c29 => ?_) (fun c29 => ?_)
  · intro hr
    obtain rfl := Option.some.inj hr
    exact ⟨⟨none, 0, 0⟩, ⟨none, 0, 0⟩, h, Heapy.pick (Heapy.nil (Heapy.nil (Heapy.refl hw) 3 1) 3 1) [1, 0] (by decide), pFun_sound good tab_ok (f := 25) (its := [.g, .g, .g, .g, (.j F25_m1_1 [] .ret (F25_x1_0 h x1 x2 x3 v4 v5 v6 x7 x8 y28))]) (args := [.agg #[.int .i64 x1, .int .i64 x2, .bool x3, (sv v4), (sv v5), (sv v6)], .int .i64 x7, .int .i64 x8]) (h := h) (h' := h) (v := .tuple #[.slice none 0 0, .slice none 0 0, .int .i64 3]) (hC := (ai (F25_l1_0 h x1 x2 x3 l4 v4 hv4 l5 v5 hv5 l6 v6 hv6 x7 x8 y28 e28 c29) trivial)) (hr := by kernel_rfl)⟩
  · refine bind_opt fun y31 e31 => ?_
    obtain ⟨u32_0, u32_1, h32, q32, zu32_1, c32⟩ := F47_spec (F42 x1 x2 x3 l4 l5 l6) l4 x7 v4 h hw hv4 _ e31
    have hp32 : Heapy h h32 [⟨u32_0, 3, 1, List.flatMap enc3 y31.1⟩, ⟨u32_1, 3, 1, List.flatMap enc3 y31.2⟩] := Heapy.call (Heapy.refl hw) q32
    have kc35 := (ai (Heapy.nilE (v := u32_1) (xs := y31.2) (enc := enc3) hp32 1 rfl (fun _ => rfl) (by decide) zu32_1) (ai c32 (ai (F42_spec x1 x2 x3 l4 l5 l6 v4 v5 v6 h hv4 hv5 hv6 _ rfl) (ai (F25_l1_1 h x1 x2 x3 l4 v4 hv4 l5 v5 hv5 l6 v6 hv6 x7 x8 y28 e28 c29) trivial))))
    refine dec_bif (fun c35 => ?_) (fun c35 => ?_)
    · intro hr
      obtain rfl := Option.some.inj hr
      exact ⟨⟨none, 0, 0⟩, ⟨none, 0, 0⟩, h32, Heapy.pick (Heapy.nil (Heapy.nil hp32 3 1) 3 1) [1, 0] (by decide), pFun_sound good tab_ok (f := 25) (its := [.g, .g, .g, .g, (.j F25_m1_1 [] .normal (F25_x1_1 h x1 x2 x3 v4 v5 v6 x7 x8 y28)), .g, (.c (.int .i64 (F42 x1 x2 x3 l4 l5 l6)) h), .g, .g, .g, .g, .g, (.c (.tuple #[(sv u32_0), (sv u32_1)]) h32), .g, .g, .g, .g, .g, .g, (.nl y31.2.isEmpty), (.b true), .g, .g, .g]) (args := [.agg #[.int .i64 x1, .int .i64 x2, .bool x3, (sv v4), (sv v5), (sv v6)], .int .i64 x7, .int .i64 x8]) (h := h) (h' := h32) (v := .tuple #[.slice none 0 0, .slice none 0 0, .int .i64 14]) (hC := (ai c35 kc35)) (hr := by kernel_rfl)⟩
    · refine guard_ok fun g36 => ?_
      obtain ⟨v37, h37, m37, hp37, _⟩ := Heapy.make hp32 (show mkInfo Try.prog 29 = some (3, 1, 8, [.int .i64 0]) by kernel_rfl) (a := (F42 x1 x2 x3 l4 l5 l6)) (b := (F42 x1 x2 x3 l4 l5 l6)) (by simpa using g36) (enc := enc3) (x := 0) rfl rfl
      refine bind_opt fun y49 e49 => ?_
      obtain ⟨ee49, SS49, hX49, hA49⟩ := F25_l2 h x1 x2 x3 l4 v4 hv4 l5 v5 hv5 l6 v6 hv6 x7 x8 y31 u32_0 v37 (0, (List.replicate (F42 x1 x2 x3 l4 l5 l6).toNat (0 : Int))) y49 e49 (F25_h2 x1 x2 x3 l4 v4 l5 v5 l6 v6 x7 x8 y31 u32_0 v37 h37 0 (List.replicate (F42 x1 x2 x3 l4 l5 l6).toNat (0 : Int))) ⟨h37, (Heapy.pick hp37 [1, 0] (by decide)), rfl⟩
      have kc50 := (ai (SlE.len (Heapy.sle (v := u32_0) (xs := y31.1) (enc := enc3) hp37 1 rfl (fun _ => rfl) (by decide))) (ai m37 (ai c35 kc35)))
      refine dec_bif (fun c50 => ?_) (fun c50 => ?_)
      · simp only [F25_x2, c50, cond_true, cond_false] at hX49
        obtain ⟨rfl, h51, hp51, rfl⟩ := hX49
        intro hr
        obtain rfl := Option.some.inj hr
        exact ⟨⟨none, 0, 0⟩, ⟨none, 0, 0⟩, h51, Heapy.pick (Heapy.nil (Heapy.nil hp51 3 1) 3 1) [1, 0] (by decide), pFun_sound good tab_ok (f := 25) (its := [.g, .g, .g, .g, (.j F25_m1_1 [] .normal (F25_x1_1 h x1 x2 x3 v4 v5 v6 x7 x8 y28)), .g, (.c (.int .i64 (F42 x1 x2 x3 l4 l5 l6)) h), .g, .g, .g, .g, .g, (.c (.tuple #[(sv u32_0), (sv u32_1)]) h32), .g, .g, .g, .g, .g, .g, (.nl y31.2.isEmpty), (.b false), .g, (.mm (sv v37) h37), .g, .g, (.ln y31.1.length), .g, (.l F25_m2_1 [] .ret (F25_x2_0 h x1 x2 x3 l4 v4 l5 v5 l6 v6 x7 y31 u32_0 v37 h51 y49))]) (args := [.agg #[.int .i64 x1, .int .i64 x2, .bool x3, (sv v4), (sv v5), (sv v6)], .int .i64 x7, .int .i64 x8]) (h := h) (h' := h51) (v := .tuple #[.slice none 0 0, .slice none 0 0, .int .i64 14]) (hC := (ai hA49 kc50)) (hr := by kernel_rfl)⟩
      · simp only [F25_x2, c50, cond_true, cond_false] at hX49
        obtain ⟨rfl, h52, hp52, rfl⟩ := hX49
        refine bind_opt fun y53 e53 => ?_
        obtain ⟨u54_0, u54_1, h54, q54, zu54_1, c54⟩ := F50_spec (F42 x1 x2 x3 l4 l5 l6) l4 x7 y49.2 v4 v37 h52 (Heapy.wf hp52) (SlE.mono hv4 (Heapy.sub hp52) (E57_mono (Heapy.sub hp52))) (Heapy.sle (v := v37) (xs := y49.2) (enc := enc3) hp52 1 rfl (fun _ => rfl) (by decide)) _ e53
        have hp54 : Heapy h h54 [⟨u54_0, 3, 1, List.flatMap enc3 y53.1⟩, ⟨u54_1, 3, 1, List.flatMap enc3 y53.2⟩, ⟨u32_0, 3, 1, List.flatMap enc3 y31.1⟩, ⟨v37, 3, 1, List.flatMap enc3 y49.2⟩] := Heapy.call hp52 q54
        intro hr
        obtain rfl := Option.some.inj hr
        exact ⟨u32_0, u54_0, h54, Heapy.pick hp54 [2, 0] (by decide), pFun_sound good tab_ok (f := 25) (its := [.g, .g, .g, .g, (.j F25_m1_1 [] .normal (F25_x1_1 h x1 x2 x3 v4 v5 v6 x7 x8 y28)), .g, (.c (.int .i64 (F42 x1 x2 x3 l4 l5 l6)) h), .g, .g, .g, .g, .g, (.c (.tuple #[(sv u32_0), (sv u32_1)]) h32), .g, .g, .g, .g, .g, .g, (.nl y31.2.isEmpty), (.b false), .g, (.mm (sv v37) h37), .g, .g, (.ln y31.1.length), .g, (.l F25_m2_1 [] (.exit 0) (F25_x2_1 h x1 x2 x3 l4 v4 l5 v5 l6 v6 x7 y31 u32_0 v37 h52 y49)), .g, .g, .g, .g, .g, (.c (.tuple #[(sv u54_0), (sv u54_1)]) h54), .g, .g, .g, .g, .g, .g, .g, .g, .g]) (args := [.agg #[.int .i64 x1, .int .i64 x2, .bool x3, (sv v4), (sv v5), (sv v6)], .int .i64 x7, .int .i64 x8]) (h := h) (h' := h54) (v := .tuple #[(sv u32_0), (sv u54_0), .int .i64 0]) (hC := (ai c54 (ai hA49 kc50))) (hr := by kernel_rfl)⟩
/-! 23 jacquard/bounds.Depth -/
def F23_L : List Nat := [1, 10]
def F23_D : List (Nat × List (Nat × Nat)) := [(5, [(0, 2), (2, 2), (3, 3), (1, 1), (4, 1), (5, 2), (6, 2), (7, 2), (8, 2), (9, 2)]), (13, [(0, 2), (1, 2), (2, 2), (3, 2), (4, 2), (5, 2), (6, 2), (7, 1), (8, 2), (9, 2)])]
def F23_m1_1 : List Bool := (rp 6 true (false :: (rp 51 true [])))
def F23_m1_0 : List Bool := (rp 6 true (false :: false :: (rp 32 true (false :: false :: false :: (rp 15 true [])))))
def F23_s1 (l5 : List (Int × Int × Int × Int)) (y19 : (List Int) × (List Int)) (a23 : Int) (a24 : Int) : Option ((Int × Int) ⊕ Int) :=
  (bif decide (a24 < (l5.length : Int)) then
   (Option.bind (at? l5 a24) fun y26 =>
   (Option.bind (at? y19.1 a24) fun y27 =>
   (Option.bind (F43 y27 y26.2.2.2) fun y28 =>
   some (.inl ((if y28 > a23 then y28 else a23), (IntKind.i64.wrap (a24 + 1)))))))
  else
   some (.inr a23))
def F23_h1 (l5 : List (Int × Int × Int × Int)) (v5 : Hd) (u20_0 : Hd) (h20 : AHeap)  (a23 : Int) (a24 : Int) : AS := ⟨(rp 6 junk ((.int .i64 a23) :: (sv u20_0) :: (rp 32 junk ((sv v5) :: (.int .i64 (l5.length : Int)) :: (.int .i64 a24) :: (rp 15 junk []))))), [], h20⟩
theorem F23_d1 : drawsOk F23_D (codeOf Try.prog 23 [1, 1, 1, 1, 1, 1, 0, 1, 0, 0]) = true := by kernel_rfl
def F23_x1_0 (h20 : AHeap)  (r : Int) : AS := ⟨(rp 6 junk ((.int .i64 r) :: (rp 51 junk []))), [], h20⟩
def F23_x1 (h20 : AHeap) (r : Int) : Exit × AS := ((.exit 1), (F23_x1_0 h20 r))
set_option maxRecDepth 100000 in
theorem F23_r1 (h : AHeap) (l5 : List (Int × Int × Int × Int)) (v5 : Hd) (hv5 : SlE E59 4 h (sv v5) l5) (y12 : (List Int) × (List Int)) (u13_0 : Hd) (u13_1 : Hd) (y19 : (List Int) × (List Int)) (u20_0 : Hd) (u20_1 : Hd) (h20 : AHeap) (hp20 : Heapy h h20 [⟨u20_0, 3, 1, List.flatMap enc3 y19.1⟩, ⟨u20_1, 3, 1, List.flatMap enc3 y19.2⟩, ⟨u13_0, 3, 1, List.flatMap enc3 y12.1⟩, ⟨u13_1, 3, 1, List.flatMap enc3 y12.2⟩]) (a23 : Int) (a24 : Int) (o : (Int × Int) ⊕ Int) : F23_s1 l5 y19 a23 a24 = some o → RdF Try.prog (codeOf Try.prog 23 [1, 1, 1, 1, 1, 1, 0, 1, 0, 0]) (fun (s : Int × Int) => (F23_h1 l5 v5 u20_0 h20 s.1 s.2)) (F23_x1 h20) (F23_h1 l5 v5 u20_0 h20 a23 a24) o := by
  unfold F23_s1
  refine dec_bif (fun c25 => ?_) (fun c25 => ?_)
  · refine bind_opt fun y26 e26 => ?_
    obtain ⟨id26, off26, g26, cs26, ix26, at26, rfl⟩ := SlE.at hv5 e26
    refine bind_opt fun y27 e27 => ?_
    obtain ⟨id27, off27, g27, cs27, ix27, at27, rfl⟩ := SlE.at (Heapy.sle (v := u20_0) (xs := y19.1) (enc := enc3) hp20 0 rfl (fun _ => rfl) (by decide)) e27
    refine bind_opt fun y28 e28 => ?_
    intro hr
    obtain rfl := Option.some.inj hr
    show AWp Try.prog _ (Ends1 .normal (F23_h1 l5 v5 u20_0 h20 (if y28 > a23 then y28 else a23) (IntKind.i64.wrap (a24 + 1)))) _
    exact pEnd_sound good (L := F23_L) (D := F23_D) (its := [.g, (.b true), .g, (.ix id26 off26 g26), (.ld (.agg #[.int .i64 y26.1, .int .i64 y26.2.1, .int .i64 y26.2.2.1, .int .i64 y26.2.2.2])), .g, .g, .g, .g, .g, .g, (.ix id27 off27 g27), (.ld (.int .i64 y27)), .g, .g, (.c (.int .i64 y28) h20), .g, .g, .g, .g]) (ds := F23_m1_0) (ks := [10]) (e := .normal) (s2 := (F23_h1 l5 v5 u20_0 h20 (if y28 > a23 then y28 else a23) (IntKind.i64.wrap (a24 + 1)))) (hC := (ai (show AKeep h20 h20 from (AHeap.sub_refl h20)) (ai (F43_spec y27 y26.2.2.2 h20 _ e28) (ai (At.one (P := Try.prog) (t := 3) (v := .int .i64 y27) at27 (by kernel_rfl) 0 rfl rfl) (ai ix27 (ai (At.agg (P := Try.prog) (t := 59) (v := .agg #[.int .i64 y26.1, .int .i64 y26.2.1, .int .i64 y26.2.2.1, .int .i64 y26.2.2.2]) (m := 4) (At.mono (Heapy.sub hp20) at26) (by kernel_rfl) (by kernel_rfl) 0 (by kernel_rfl) rfl) (ai ix26 (ai c25 trivial)))))))) (hd := F23_d1) (h := by kernel_rfl)
  · intro hr
    obtain rfl := Option.some.inj hr
    show AWp Try.prog _ (Ends1 ((F23_x1 h20) (a23 : Int)).1 ((F23_x1 h20) (a23 : Int)).2) _
    exact pEnd_sound good (L := F23_L) (D := F23_D) (its := [.g, (.b false)]) (ds := F23_m1_1) (ks := []) (e := ((F23_x1 h20) (a23 : Int)).1) (s2 := ((F23_x1 h20) (a23 : Int)).2) (hC := (ai c25 trivial)) (hd := F23_d1) (h := by kernel_rfl)
theorem F23_l1_0 (h : AHeap) (l5 : List (Int × Int × Int × Int)) (v5 : Hd) (hv5 : SlE E59 4 h (sv v5) l5) (y12 : (List Int) × (List Int)) (u13_0 : Hd) (u13_1 : Hd) (y19 : (List Int) × (List Int)) (u20_0 : Hd) (u20_1 : Hd) (h20 : AHeap) (hp20 : Heapy h h20 [⟨u20_0, 3, 1, List.flatMap enc3 y19.1⟩, ⟨u20_1, 3, 1, List.flatMap enc3 y19.2⟩, ⟨u13_0, 3, 1, List.flatMap enc3 y12.1⟩, ⟨u13_1, 3, 1, List.flatMap enc3 y12.2⟩]) (x : Int × Int) (r : Int) (hl : loopO (fun (s : Int × Int) => F23_s1 l5 y19 s.1 s.2) x = some r) : AWp Try.prog (.loop (codeOf Try.prog 23 [1, 1, 1, 1, 1, 1, 0, 1, 0, 0])) (Ends1 (.exit 1) (F23_x1_0 h20 r)) ((fun (s : Int × Int) => (F23_h1 l5 v5 u20_0 h20 s.1 s.2)) x) := by
  have k := loop_fun (P := Try.prog) (c := (codeOf Try.prog 23 [1, 1, 1, 1, 1, 1, 0, 1, 0, 0])) (step := (fun (s : Int × Int) => F23_s1 l5 y19 s.1 s.2)) (hd := (fun (s : Int × Int) => (F23_h1 l5 v5 u20_0 h20 s.1 s.2))) (X := (F23_x1 h20)) (by intro t; unfold F23_x1; intro h; cases h) (fun x => F23_r1 h l5 v5 hv5 y12 u13_0 u13_1 y19 u20_0 u20_1 h20 hp20 x.1 x.2) hl
  exact k
def F23 (x1 : Int) (x2 : Int) (x3 : Bool) (l4 : List (Int × Int × Int × Int)) (l5 : List (Int × Int × Int × Int)) (l6 : List (Int × Int)) : Option (Int × Int) :=
  (Option.bind (F33 x1 x2 x3 l4 l5 l6) fun y7 =>
  (bif (!y7) then
   some (0, 3)
  else
   (bif x3 then
    some (0, 1)
   else
    (Option.bind (F47 (F42 x1 x2 x3 l4 l5 l6) l4 0) fun y12 =>
    (bif (!y12.2.isEmpty) then
     some (0, 14)
    else
     (Option.bind (at? y12.1 (F48 x1 x2 x3 l4 l5 l6)) fun y18 =>
     (Option.bind (F40 x1 x2 x3 l4 l5 l6) fun y19 =>
     (Option.bind (loopO (fun (s : Int × Int) => F23_s1 l5 y19 s.1 s.2) ((if y18 > 1 then y18 else 1), 0)) fun y30 =>
     some (y30, 0)))))))))
set_option maxRecDepth 100000 in
theorem F23_spec (x1 : Int) (x2 : Int) (x3 : Bool) (l4 : List (Int × Int × Int × Int)) (l5 : List (Int × Int × Int × Int)) (l6 : List (Int × Int)) (v4 : Hd) (v5 : Hd) (v6 : Hd) (h : AHeap) (hw : h.wf) (hv4 : SlE E57 4 h (sv v4) l4) (hv5 : SlE E59 4 h (sv v5) l5) (hv6 : SlE E61 2 h (sv v6) l6) (r : Int × Int) : F23 x1 x2 x3 l4 l5 l6 = some r → ∃ (h' : AHeap), Heapy h h' [] ∧ ACalls Try.prog 23 [.agg #[.int .i64 x1, .int .i64 x2, .bool x3, (sv v4), (sv v5), (sv v6)]] h (fun v' h'' => v' = (.tuple #[.int .i64 r.1, .int .i64 r.2] : Value) ∧ h'' = h') := by
  unfold F23
  refine bind_opt fun y7 e7 => ?_
  have kc9 := (ai (F33_spec x1 x2 x3 l4 l5 l6 v4 v5 v6 h hv4 hv5 hv6 _ e7) trivial)
  refine dec_bif (fun c9 => ?_) (fun c9 => ?_)
  · intro hr
    obtain rfl := Option.some.inj hr
    exact ⟨h, Heapy.pick (Heapy.refl hw) [] (by decide), pFun_sound good tab_ok (f := 23) (its := [.g, .g, .g, .g, (.c (.bool y7) h), .g, .g, (.b true), .g, .g]) (args := [.agg #[.int .i64 x1, .int .i64 x2, .bool x3, (sv v4), (sv v5), (sv v6)]]) (h := h) (h' := h) (v := .tuple #[.int .i64 0, .int .i64 3]) (hC := (ai c9 kc9)) (hr := by kernel_rfl)⟩
  · have kc10 := (ai c9 kc9)
    refine dec_bif (fun c10 => ?_) (fun c10 => ?_)
    · intro hr
      obtain rfl := Option.some.inj hr
      exact ⟨h, Heapy.pick (Heapy.refl hw) [] (by decide), pFun_sound good tab_ok (f := 23) (its := [.g, .g, .g, .g, (.c (.bool y7) h), .g, .g, (.b false), .g, .g, .g, (.b true), .g, .g]) (args := [.agg #[.int .i64 x1, .int .i64 x2, .bool x3, (sv v4), (sv v5), (sv v6)]]) (h := h) (h' := h) (v := .tuple #[.int .i64 0, .int .i64 1]) (hC := (ai c10 kc10)) (hr := by kernel_rfl)⟩
    · refine bind_opt fun y12 e12 => ?_
      obtain ⟨u13_0, u13_1, h13, q13, zu13_1, c13⟩ := F47_spec (F42 x1 x2 x3 l4 l5 l6) l4 0 v4 h hw hv4 _ e12
      have hp13 : Heapy h h13 [⟨u13_0, 3, 1, List.flatMap enc3 y12.1⟩, ⟨u13_1, 3, 1, List.flatMap enc3 y12.2⟩] := Heapy.call (Heapy.refl hw) q13
      have kc16 := (ai (Heapy.nilE (v := u13_1) (xs := y12.2) (enc := enc3) hp13 1 rfl (fun _ => rfl) (by decide) zu13_1) (ai (show AKeep h h13 from (Heapy.sub q13)) (ai c13 (ai (show AKeep h h from (AHeap.sub_refl h)) (ai (F42_spec x1 x2 x3 l4 l5 l6 v4 v5 v6 h hv4 hv5 hv6 _ rfl) (ai c10 kc10))))))
      refine dec_bif (fun c16 => ?_) (fun c16 => ?_)
      · intro hr
        obtain rfl := Option.some.inj hr
        exact ⟨h13, Heapy.pick hp13 [] (by decide), pFun_sound good tab_ok (f := 23) (its := [.g, .g, .g, .g, (.c (.bool y7) h), .g, .g, (.b false), .g, .g, .g, (.b false), .g, .g, .g, (.c (.int .i64 (F42 x1 x2 x3 l4 l5 l6)) h), (.c (.tuple #[(sv u13_0), (sv u13_1)]) h13), .g, .g, .g, .g, .g, .g, (.nl y12.2.isEmpty), (.b true), .g, .g]) (args := [.agg #[.int .i64 x1, .int .i64 x2, .bool x3, (sv v4), (sv v5), (sv v6)]]) (h := h) (h' := h13) (v := .tuple #[.int .i64 0, .int .i64 14]) (hC := (ai c16 kc16)) (hr := by kernel_rfl)⟩
      · refine bind_opt fun y18 e18 => ?_
        obtain ⟨id18, off18, g18, cs18, ix18, at18, rfl⟩ := SlE.at (Heapy.sle (v := u13_0) (xs := y12.1) (enc := enc3) hp13 0 rfl (fun _ => rfl) (by decide)) e18
        refine bind_opt fun y19 e19 => ?_
        obtain ⟨u20_0, u20_1, h20, q20, c20⟩ := F40_spec x1 x2 x3 l4 l5 l6 v4 v5 v6 h13 (Heapy.wf hp13) (SlE.mono hv4 (Heapy.sub hp13) (E57_mono (Heapy.sub hp13))) (SlE.mono hv5 (Heapy.sub hp13) (E59_mono (Heapy.sub hp13))) (SlE.mono hv6 (Heapy.sub hp13) (E61_mono (Heapy.sub hp13))) _ e19
        have hp20 : Heapy h h20 [⟨u20_0, 3, 1, List.flatMap enc3 y19.1⟩, ⟨u20_1, 3, 1, List.flatMap enc3 y19.2⟩, ⟨u13_0, 3, 1, List.flatMap enc3 y12.1⟩, ⟨u13_1, 3, 1, List.flatMap enc3 y12.2⟩] := Heapy.call hp13 q20
        refine bind_opt fun y30 e30 => ?_
        intro hr
        obtain rfl := Option.some.inj hr
        exact ⟨h20, Heapy.pick hp20 [] (by decide), pFun_sound good tab_ok (f := 23) (its := [.g, .g, .g, .g, (.c (.bool y7) h), .g, .g, (.b false), .g, .g, .g, (.b false), .g, .g, .g, (.c (.int .i64 (F42 x1 x2 x3 l4 l5 l6)) h), (.c (.tuple #[(sv u13_0), (sv u13_1)]) h13), .g, .g, .g, .g, .g, .g, (.nl y12.2.isEmpty), (.b false), .g, .g, (.c (.int .i64 (F48 x1 x2 x3 l4 l5 l6)) h13), (.ix id18 off18 g18), (.ld (.int .i64 y18)), .g, .g, .g, (.c (.tuple #[(sv u20_0), (sv u20_1)]) h20), .g, .g, .g, .g, .g, .g, .g, (.ln l5.length), .g, (.l F23_m1_0 [1] (.exit 1) (F23_x1_0 h20 y30)), .g, .g, .g]) (args := [.agg #[.int .i64 x1, .int .i64 x2, .bool x3, (sv v4), (sv v5), (sv v6)]]) (h := h) (h' := h20) (v := .tuple #[.int .i64 y30, .int .i64 0]) (hC := (ai (F23_l1_0 h l5 v5 hv5 y12 u13_0 u13_1 y19 u20_0 u20_1 h20 hp20 ((if y18 > 1 then y18 else 1), 0) y30 e30) (ai (SlE.len hv5) (ai c20 (ai (At.one (P := Try.prog) (t := 3) (v := .int .i64 y18) at18 (by kernel_rfl) 0 rfl rfl) (ai ix18 (ai (F48_spec x1 x2 x3 l4 l5 l6 v4 v5 v6 h13 (SlE.mono hv4 (Heapy.sub hp13) (E57_mono (Heapy.sub hp13))) (SlE.mono hv5 (Heapy.sub hp13) (E59_mono (Heapy.sub hp13))) (SlE.mono hv6 (Heapy.sub hp13) (E61_mono (Heapy.sub hp13))) _ rfl) (ai c16 kc16)))))))) (hr := by kernel_rfl)⟩
/-! 10 jacquard/jacquardlaw31.BoundsWithin -/
def F10_L : List Nat := [2, 3]
def F10_D : List (Nat × List (Nat × Nat)) := []
def F10_m1_2 : List Bool := (true :: true :: false :: false :: (rp 111 true []))
def F10_m1_1 : List Bool := (true :: true :: false :: false :: true :: false :: false :: (rp 70 true (false :: false :: (rp 36 true []))))
def F10_m1_0 : List Bool := (rp 4 true (false :: (rp 110 true [])))
def F10_s1 (x1 : Int) (x2 : Int) (x3 : Bool) (l4 : List (Int × Int × Int × Int)) (l5 : List (Int × Int × Int × Int)) (l6 : List (Int × Int)) (x7 : Int) (x8 : Int) (l9 : List Int) (l10 : List Int) (l11 : List Int) (y41 : (List Int) × (List Int) × Int) (a49 : Int) : Option (Int ⊕ Nat) :=
  (bif decide (a49 < (IntKind.i64.wrap ((F26 x1 x2 x3 l4 l5 l6) + 1))) then
   (Option.bind (F30 x1 x2 x3 l4 l5 l6 x7 x8 l9 l10 l11 a49) fun y51 =>
   (Option.bind (at? y41.1 a49) fun y53 =>
   (bif decide (y51 < y53) then
    some (.inr 0)
   else
    (Option.bind (at? y41.2.1 a49) fun y55 =>
    (bif decide (y51 > y55) then
     some (.inr 0)
    else
     some (.inl (IntKind.i64.wrap (a49 + 1))))))))
  else
   some (.inr 1))
def F10_h1 (x1 : Int) (x2 : Int) (x3 : Bool) (l4 : List (Int × Int × Int × Int)) (v4 : Hd) (l5 : List (Int × Int × Int × Int)) (v5 : Hd) (l6 : List (Int × Int)) (v6 : Hd) (x7 : Int) (x8 : Int) (v9 : Hd) (v10 : Hd) (v11 : Hd) (u42_0 : Hd) (u42_1 : Hd) (h42 : AHeap)  (a49 : Int) : AS := ⟨(junk :: junk :: (.pointer (some ⟨2, 0, none⟩)) :: (.pointer (some ⟨3, 0, none⟩)) :: junk :: (sv u42_0) :: (sv u42_1) :: (rp 70 junk ((.int .i64 (IntKind.i64.wrap ((F26 x1 x2 x3 l4 l5 l6) + 1))) :: (.int .i64 a49) :: (rp 36 junk [])))), [(2, [.int .i64 x1, .int .i64 x2, .bool x3, (sv v4), (sv v5), (sv v6)]), (3, [.int .i64 x7, .int .i64 x8, (sv v9), (sv v10), (sv v11)])], h42⟩
theorem F10_d1 : drawsOk F10_D (codeOf Try.prog 10 [1, 1, 1, 1, 1, 0, 1, 0, 0]) = true := by kernel_rfl
def F10_x1_0 (x1 : Int) (x2 : Int) (x3 : Bool) (v4 : Hd) (v5 : Hd) (v6 : Hd) (x7 : Int) (x8 : Int) (v9 : Hd) (v10 : Hd) (v11 : Hd) (h42 : AHeap)  (r : Nat) : AS := ⟨(rp 4 junk ((.bool false) :: (rp 110 junk []))), [], h42⟩
def F10_x1_1 (x1 : Int) (x2 : Int) (x3 : Bool) (v4 : Hd) (v5 : Hd) (v6 : Hd) (x7 : Int) (x8 : Int) (v9 : Hd) (v10 : Hd) (v11 : Hd) (h42 : AHeap)  (r : Nat) : AS := ⟨(junk :: junk :: (.pointer (some ⟨2, 0, none⟩)) :: (.pointer (some ⟨3, 0, none⟩)) :: (rp 111 junk [])), [(2, [.int .i64 x1, .int .i64 x2, .bool x3, (sv v4), (sv v5), (sv v6)]), (3, [.int .i64 x7, .int .i64 x8, (sv v9), (sv v10), (sv v11)])], h42⟩
def F10_x1 (x1 : Int) (x2 : Int) (x3 : Bool) (v4 : Hd) (v5 : Hd) (v6 : Hd) (x7 : Int) (x8 : Int) (v9 : Hd) (v10 : Hd) (v11 : Hd) (h42 : AHeap) (r : Nat) : Exit × AS := (bif Nat.beq r 0 then (.ret, (F10_x1_0 x1 x2 x3 v4 v5 v6 x7 x8 v9 v10 v11 h42 r)) else ((.exit 0), (F10_x1_1 x1 x2 x3 v4 v5 v6 x7 x8 v9 v10 v11 h42 r)))
set_option maxRecDepth 100000 in
theorem F10_r1 (h : AHeap) (x1 : Int) (x2 : Int) (x3 : Bool) (l4 : List (Int × Int × Int × Int)) (v4 : Hd) (hv4 : SlE E57 4 h (sv v4) l4) (l5 : List (Int × Int × Int × Int)) (v5 : Hd) (hv5 : SlE E59 4 h (sv v5) l5) (l6 : List (Int × Int)) (v6 : Hd) (hv6 : SlE E61 2 h (sv v6) l6) (x7 : Int) (x8 : Int) (l9 : List Int) (v9 : Hd) (hv9 : SlE E3 1 h (sv v9) l9) (l10 : List Int) (v10 : Hd) (hv10 : SlE E3 1 h (sv v10) l10) (l11 : List Int) (v11 : Hd) (hv11 : SlE E3 1 h (sv v11) l11) (y41 : (List Int) × (List Int) × Int) (u42_0 : Hd) (u42_1 : Hd) (h42 : AHeap) (hp42 : Heapy h h42 [⟨u42_0, 3, 1, List.flatMap enc3 y41.1⟩, ⟨u42_1, 3, 1, List.flatMap enc3 y41.2.1⟩]) (a49 : Int) (o : Int ⊕ Nat) : F10_s1 x1 x2 x3 l4 l5 l6 x7 x8 l9 l10 l11 y41 a49 = some o → RdF Try.prog (codeOf Try.prog 10 [1, 1, 1, 1, 1, 0, 1, 0, 0]) (fun (s : Int) => (F10_h1 x1 x2 x3 l4 v4 l5 v5 l6 v6 x7 x8 v9 v10 v11 u42_0 u42_1 h42 s)) (F10_x1 x1 x2 x3 v4 v5 v6 x7 x8 v9 v10 v11 h42) (F10_h1 x1 x2 x3 l4 v4 l5 v5 l6 v6 x7 x8 v9 v10 v11 u42_0 u42_1 h42 a49) o := by
  unfold F10_s1
  refine dec_bif (fun c50 => ?_) (fun c50 => ?_)
  · refine bind_opt fun y51 e51 => ?_
    refine bind_opt fun y53 e53 => ?_
    obtain ⟨id53, off53, g53, cs53, ix53, at53, rfl⟩ := SlE.at (Heapy.sle (v := u42_0) (xs := y41.1) (enc := enc3) hp42 0 rfl (fun _ => rfl) (by decide)) e53
    have kc54 := (ai (At.one (P := Try.prog) (t := 3) (v := .int .i64 y53) at53 (by kernel_rfl) 0 rfl rfl) (ai ix53 (ai (F30_spec x1 x2 x3 l4 l5 l6 x7 x8 l9 l10 l11 a49 v4 v5 v6 v9 v10 v11 h42 (SlE.mono hv4 (Heapy.sub hp42) (E57_mono (Heapy.sub hp42))) (SlE.mono hv5 (Heapy.sub hp42) (E59_mono (Heapy.sub hp42))) (SlE.mono hv6 (Heapy.sub hp42) (E61_mono (Heapy.sub hp42))) (SlE.mono hv9 (Heapy.sub hp42) (E3_mono (Heapy.sub hp42))) (SlE.mono hv10 (Heapy.sub hp42) (E3_mono (Heapy.sub hp42))) (SlE.mono hv11 (Heapy.sub hp42) (E3_mono (Heapy.sub hp42))) _ e51) (ai c50 trivial))))
    refine dec_bif (fun c54 => ?_) (fun c54 => ?_)
    · intro hr
      obtain rfl := Option.some.inj hr
      show AWp Try.prog _ (Ends1 ((F10_x1 x1 x2 x3 v4 v5 v6 x7 x8 v9 v10 v11 h42) (0 : Nat)).1 ((F10_x1 x1 x2 x3 v4 v5 v6 x7 x8 v9 v10 v11 h42) (0 : Nat)).2) _
      exact pEnd_sound good (L := F10_L) (D := F10_D) (its := [.g, (.b true), .g, .g, .g, .g, .g, (.c (.int .i64 y51) h42), .g, .g, .g, .g, (.ix id53 off53 g53), (.ld (.int .i64 y53)), .g, .g, .n, .n, .n, .n, .n, .n, (.p true), (.b true), .g]) (ds := F10_m1_0) (ks := [2, 3]) (e := ((F10_x1 x1 x2 x3 v4 v5 v6 x7 x8 v9 v10 v11 h42) (0 : Nat)).1) (s2 := ((F10_x1 x1 x2 x3 v4 v5 v6 x7 x8 v9 v10 v11 h42) (0 : Nat)).2) (hC := (ai l_t (ai c54 (ai (g_tf c54) (ai (g_tf c54) (ai (g_tf c54) (ai (g_tf c54) (ai (g_tf c54) (ai (g_tf c54) kc54))))))))) (hd := F10_d1) (h := by kernel_rfl)
    · refine bind_opt fun y55 e55 => ?_
      obtain ⟨id55, off55, g55, cs55, ix55, at55, rfl⟩ := SlE.at (Heapy.sle (v := u42_1) (xs := y41.2.1) (enc := enc3) hp42 1 rfl (fun _ => rfl) (by decide)) e55
      have kc56 := (ai c54 (ai (g_ff c54) (ai (At.one (P := Try.prog) (t := 3) (v := .int .i64 y55) at55 (by kernel_rfl) 0 rfl rfl) (ai (g_ff c54) (ai ix55 (ai (g_ff c54) (ai (g_ff c54) (ai (g_ff c54) (ai (g_ff c54) kc54)))))))))
      refine dec_bif (fun c56 => ?_) (fun c56 => ?_)
      · intro hr
        obtain rfl := Option.some.inj hr
        show AWp Try.prog _ (Ends1 ((F10_x1 x1 x2 x3 v4 v5 v6 x7 x8 v9 v10 v11 h42) (0 : Nat)).1 ((F10_x1 x1 x2 x3 v4 v5 v6 x7 x8 v9 v10 v11 h42) (0 : Nat)).2) _
        exact pEnd_sound good (L := F10_L) (D := F10_D) (its := [.g, (.b true), .g, .g, .g, .g, .g, (.c (.int .i64 y51) h42), .g, .g, .g, .g, (.ix id53 off53 g53), (.ld (.int .i64 y53)), .g, .g, (.w .g), (.w .g), (.w .g), (.w (.ix id55 off55 g55)), (.w (.ld (.int .i64 y55))), (.w .g), (.p false), (.b true), .g]) (ds := F10_m1_0) (ks := [2, 3]) (e := ((F10_x1 x1 x2 x3 v4 v5 v6 x7 x8 v9 v10 v11 h42) (0 : Nat)).1) (s2 := ((F10_x1 x1 x2 x3 v4 v5 v6 x7 x8 v9 v10 v11 h42) (0 : Nat)).2) (hC := (ai c56 kc56)) (hd := F10_d1) (h := by kernel_rfl)
      · intro hr
        obtain rfl := Option.some.inj hr
        show AWp Try.prog _ (Ends1 .normal (F10_h1 x1 x2 x3 l4 v4 l5 v5 l6 v6 x7 x8 v9 v10 v11 u42_0 u42_1 h42 (IntKind.i64.wrap (a49 + 1)))) _
        exact pEnd_sound good (L := F10_L) (D := F10_D) (its := [.g, (.b true), .g, .g, .g, .g, .g, (.c (.int .i64 y51) h42), .g, .g, .g, .g, (.ix id53 off53 g53), (.ld (.int .i64 y53)), .g, .g, (.w .g), (.w .g), (.w .g), (.w (.ix id55 off55 g55)), (.w (.ld (.int .i64 y55))), (.w .g), (.p false), (.b false), .g, .g]) (ds := F10_m1_1) (ks := []) (e := .normal) (s2 := (F10_h1 x1 x2 x3 l4 v4 l5 v5 l6 v6 x7 x8 v9 v10 v11 u42_0 u42_1 h42 (IntKind.i64.wrap (a49 + 1)))) (hC := (ai c56 kc56)) (hd := F10_d1) (h := by kernel_rfl)
  · intro hr
    obtain rfl := Option.some.inj hr
    show AWp Try.prog _ (Ends1 ((F10_x1 x1 x2 x3 v4 v5 v6 x7 x8 v9 v10 v11 h42) (1 : Nat)).1 ((F10_x1 x1 x2 x3 v4 v5 v6 x7 x8 v9 v10 v11 h42) (1 : Nat)).2) _
    exact pEnd_sound good (L := F10_L) (D := F10_D) (its := [.g, (.b false)]) (ds := F10_m1_2) (ks := []) (e := ((F10_x1 x1 x2 x3 v4 v5 v6 x7 x8 v9 v10 v11 h42) (1 : Nat)).1) (s2 := ((F10_x1 x1 x2 x3 v4 v5 v6 x7 x8 v9 v10 v11 h42) (1 : Nat)).2) (hC := (ai c50 trivial)) (hd := F10_d1) (h := by kernel_rfl)
theorem F10_l1_0 (h : AHeap) (x1 : Int) (x2 : Int) (x3 : Bool) (l4 : List (Int × Int × Int × Int)) (v4 : Hd) (hv4 : SlE E57 4 h (sv v4) l4) (l5 : List (Int × Int × Int × Int)) (v5 : Hd) (hv5 : SlE E59 4 h (sv v5) l5) (l6 : List (Int × Int)) (v6 : Hd) (hv6 : SlE E61 2 h (sv v6) l6) (x7 : Int) (x8 : Int) (l9 : List Int) (v9 : Hd) (hv9 : SlE E3 1 h (sv v9) l9) (l10 : List Int) (v10 : Hd) (hv10 : SlE E3 1 h (sv v10) l10) (l11 : List Int) (v11 : Hd) (hv11 : SlE E3 1 h (sv v11) l11) (y41 : (List Int) × (List Int) × Int) (u42_0 : Hd) (u42_1 : Hd) (h42 : AHeap) (hp42 : Heapy h h42 [⟨u42_0, 3, 1, List.flatMap enc3 y41.1⟩, ⟨u42_1, 3, 1, List.flatMap enc3 y41.2.1⟩]) (x : Int) (r : Nat) (hl : loopO (fun (s : Int) => F10_s1 x1 x2 x3 l4 l5 l6 x7 x8 l9 l10 l11 y41 s) x = some r) (q0 : Nat.beq r 0 = true) : AWp Try.prog (.loop (codeOf Try.prog 10 [1, 1, 1, 1, 1, 0, 1, 0, 0])) (Ends1 .ret (F10_x1_0 x1 x2 x3 v4 v5 v6 x7 x8 v9 v10 v11 h42 r)) ((fun (s : Int) => (F10_h1 x1 x2 x3 l4 v4 l5 v5 l6 v6 x7 x8 v9 v10 v11 u42_0 u42_1 h42 s)) x) := by
  have k := loop_fun (P := Try.prog) (c := (codeOf Try.prog 10 [1, 1, 1, 1, 1, 0, 1, 0, 0])) (step := (fun (s : Int) => F10_s1 x1 x2 x3 l4 l5 l6 x7 x8 l9 l10 l11 y41 s)) (hd := (fun (s : Int) => (F10_h1 x1 x2 x3 l4 v4 l5 v5 l6 v6 x7 x8 v9 v10 v11 u42_0 u42_1 h42 s))) (X := (F10_x1 x1 x2 x3 v4 v5 v6 x7 x8 v9 v10 v11 h42)) (by intro t; unfold F10_x1; cases Nat.beq t 0 <;> (intro h; cases h)) (fun x => F10_r1 h x1 x2 x3 l4 v4 hv4 l5 v5 hv5 l6 v6 hv6 x7 x8 l9 v9 hv9 l10 v10 hv10 l11 v11 hv11 y41 u42_0 u42_1 h42 hp42 x) hl
  simp only [F10_x1, q0, cond_true, cond_false] at k
  exact k
theorem F10_l1_1 (h : AHeap) (x1 : Int) (x2 : Int) (x3 : Bool) (l4 : List (Int × Int × Int × Int)) (v4 : Hd) (hv4 : SlE E57 4 h (sv v4) l4) (l5 : List (Int × Int × Int × Int)) (v5 : Hd) (hv5 : SlE E59 4 h (sv v5) l5) (l6 : List (Int × Int)) (v6 : Hd) (hv6 : SlE E61 2 h (sv v6) l6) (x7 : Int) (x8 : Int) (l9 : List Int) (v9 : Hd) (hv9 : SlE E3 1 h (sv v9) l9) (l10 : List Int) (v10 : Hd) (hv10 : SlE E3 1 h (sv v10) l10) (l11 : List Int) (v11 : Hd) (hv11 : SlE E3 1 h (sv v11) l11) (y41 : (List Int) × (List Int) × Int) (u42_0 : Hd) (u42_1 : Hd) (h42 : AHeap) (hp42 : Heapy h h42 [⟨u42_0, 3, 1, List.flatMap enc3 y41.1⟩, ⟨u42_1, 3, 1, List.flatMap enc3 y41.2.1⟩]) (x : Int) (r : Nat) (hl : loopO (fun (s : Int) => F10_s1 x1 x2 x3 l4 l5 l6 x7 x8 l9 l10 l11 y41 s) x = some r) (q0 : Nat.beq r 0 = false) : AWp Try.prog (.loop (codeOf Try.prog 10 [1, 1, 1, 1, 1, 0, 1, 0, 0])) (Ends1 (.exit 0) (F10_x1_1 x1 x2 x3 v4 v5 v6 x7 x8 v9 v10 v11 h42 r)) ((fun (s : Int) => (F10_h1 x1 x2 x3 l4 v4 l5 v5 l6 v6 x7 x8 v9 v10 v11 u42_0 u42_1 h42 s)) x) := by
  have k := loop_fun (P := Try.prog) (c := (codeOf Try.prog 10 [1, 1, 1, 1, 1, 0, 1, 0, 0])) (step := (fun (s : Int) => F10_s1 x1 x2 x3 l4 l5 l6 x7 x8 l9 l10 l11 y41 s)) (hd := (fun (s : Int) => (F10_h1 x1 x2 x3 l4 v4 l5 v5 l6 v6 x7 x8 v9 v10 v11 u42_0 u42_1 h42 s))) (X := (F10_x1 x1 x2 x3 v4 v5 v6 x7 x8 v9 v10 v11 h42)) (by intro t; unfold F10_x1; cases Nat.beq t 0 <;> (intro h; cases h)) (fun x => F10_r1 h x1 x2 x3 l4 v4 hv4 l5 v5 hv5 l6 v6 hv6 x7 x8 l9 v9 hv9 l10 v10 hv10 l11 v11 hv11 y41 u42_0 u42_1 h42 hp42 x) hl
  simp only [F10_x1, q0, cond_true, cond_false] at k
  exact k
def F10 (x1 : Int) (x2 : Int) (x3 : Bool) (l4 : List (Int × Int × Int × Int)) (l5 : List (Int × Int × Int × Int)) (l6 : List (Int × Int)) (x7 : Int) (x8 : Int) (l9 : List Int) (l10 : List Int) (l11 : List Int) : Option (Bool) :=
  (Option.bind F11 fun y12 =>
  (bif (!y12) then
   (Option.bind F11 fun y15 =>
   some (y15))
  else
   (Option.bind (F12 x1 x2 x3 l4 l5 l6) fun y17 =>
   (bif (!y17) then
    (Option.bind F11 fun y20 =>
    some (y20))
   else
    (bif decide ((l9.length : Int) > 20) then
     (Option.bind F11 fun y23 =>
     some (y23))
    else
     (bif decide ((l11.length : Int) > 20) then
      (Option.bind F11 fun y26 =>
      some (y26))
     else
      (bif decide ((l10.length : Int) > 20) then
       (Option.bind F11 fun y29 =>
       some (y29))
      else
       (Option.bind (F14 x1 x2 x3 l4 l5 l6) fun y31 =>
       (bif (!y31) then
        (Option.bind F11 fun y34 =>
        some (y34))
       else
        (Option.bind (F22 x1 x2 x3 l4 l5 l6 x7 x8 l9 l10 l11) fun y36 =>
        (bif (!y36) then
         (Option.bind F11 fun y39 =>
         some (y39))
        else
         (Option.bind (F25 x1 x2 x3 l4 l5 l6 x7 x8) fun y41 =>
         (bif (y41.2.2 != 0) then
          some (false)
         else
          (bif ((y41.1.length : Int) != (IntKind.i64.wrap ((F26 x1 x2 x3 l4 l5 l6) + 1))) then
           some (false)
          else
           (bif ((y41.2.1.length : Int) != (IntKind.i64.wrap ((F26 x1 x2 x3 l4 l5 l6) + 1))) then
            some (false)
           else
            (Option.bind (loopO (fun (s : Int) => F10_s1 x1 x2 x3 l4 l5 l6 x7 x8 l9 l10 l11 y41 s) 0) fun y57 =>
            (bif (Nat.beq y57 0) then
             some (false)
            else
             (bif x3 then
              some (true)
             else
              (Option.bind (F23 x1 x2 x3 l4 l5 l6) fun y60 =>
              (bif (y60.2 == 0) then
               some (decide (y60.1 ≤ x8))
              else
               some (false)))))))))))))))))))))
set_option maxRecDepth 100000 in
theorem F10_spec (x1 : Int) (x2 : Int) (x3 : Bool) (l4 : List (Int × Int × Int × Int)) (l5 : List (Int × Int × Int × Int)) (l6 : List (Int × Int)) (x7 : Int) (x8 : Int) (l9 : List Int) (l10 : List Int) (l11 : List Int) (v4 : Hd) (v5 : Hd) (v6 : Hd) (v9 : Hd) (v10 : Hd) (v11 : Hd) (h : AHeap) (hw : h.wf) (hv4 : SlE E57 4 h (sv v4) l4) (hv5 : SlE E59 4 h (sv v5) l5) (hv6 : SlE E61 2 h (sv v6) l6) (hv9 : SlE E3 1 h (sv v9) l9) (hv10 : SlE E3 1 h (sv v10) l10) (hv11 : SlE E3 1 h (sv v11) l11) (r : Bool) : F10 x1 x2 x3 l4 l5 l6 x7 x8 l9 l10 l11 = some r → ∃ (h' : AHeap), Heapy h h' [] ∧ ACalls Try.prog 10 [.agg #[.int .i64 x1, .int .i64 x2, .bool x3, (sv v4), (sv v5), (sv v6)], .agg #[.int .i64 x7, .int .i64 x8, (sv v9), (sv v10), (sv v11)]] h (fun v' h'' => v' = (.bool r : Value) ∧ h'' = h') := by
  unfold F10
  refine bind_opt fun y12 e12 => ?_
  obtain ⟨h13, q13, c13⟩ := F11_spec h hw _ e12
  have hp13 : Heapy h h13 [] := Heapy.call (Heapy.refl hw) q13
  have kc14 := (ai c13 trivial)
  refine dec_bif (fun c14 => ?_) (fun c14 => ?_)
  · refine bind_opt fun y15 e15 => ?_
    obtain ⟨h16, q16, c16⟩ := F11_spec h13 (Heapy.wf hp13) _ e15
    have hp16 : Heapy h h16 [] := Heapy.call hp13 q16
    intro hr
    obtain rfl := Option.some.inj hr
    exact ⟨h16, Heapy.pick hp16 [] (by decide), pFun_sound good tab_ok (f := 10) (its := [.g, .g, .g, (.c (.bool y12) h13), .g, .g, .n, .n, .n, (.p true), .g, .n, .n, .n, .n, .g, .g, .n, .n, .n, .n, .g, .g, .n, .n, .n, .n, .g, .g, .n, .n, .n, .g, .g, .n, .n, .n, .n, .g, (.b true), (.c (.bool y15) h16), .g]) (args := [.agg #[.int .i64 x1, .int .i64 x2, .bool x3, (sv v4), (sv v5), (sv v6)], .agg #[.int .i64 x7, .int .i64 x8, (sv v9), (sv v10), (sv v11)]]) (h := h) (h' := h16) (v := .bool y15) (hC := (ai c16 (ai l_t (ai (g_tf l_t) (ai (g_tf l_t) (ai (g_tf l_t) (ai (g_tf l_t) (ai (g_tf l_t) (ai (g_tf l_t) (ai (g_tf l_t) (ai (g_tf l_t) (ai (g_tf l_t) (ai (g_tf l_t) (ai (g_tf l_t) (ai (g_tf l_t) (ai (g_tf l_t) (ai (g_tf l_t) (ai (g_tf l_t) (ai (g_tf l_t) (ai (g_tf l_t) (ai (g_tf l_t) (ai (g_tf l_t) (ai c14 (ai (g_tf c14) (ai (g_tf c14) (ai (g_tf c14) kc14)))))))))))))))))))))))))) (hr := by kernel_rfl)⟩
  · refine bind_opt fun y17 e17 => ?_
    have kc19 := (ai c14 (ai (g_ff c14) (ai (F12_spec x1 x2 x3 l4 l5 l6 v4 v5 v6 h13 (SlE.mono hv4 (Heapy.sub hp13) (E57_mono (Heapy.sub hp13))) (SlE.mono hv5 (Heapy.sub hp13) (E59_mono (Heapy.sub hp13))) (SlE.mono hv6 (Heapy.sub hp13) (E61_mono (Heapy.sub hp13))) _ e17) (ai (g_ff c14) (ai (g_ff c14) kc14)))))
    refine dec_bif (fun c19 => ?_) (fun c19 => ?_)
    · refine bind_opt fun y20 e20 => ?_
      obtain ⟨h21, q21, c21⟩ := F11_spec h13 (Heapy.wf hp13) _ e20
      have hp21 : Heapy h h21 [] := Heapy.call hp13 q21
      intro hr
      obtain rfl := Option.some.inj hr
      exact ⟨h21, Heapy.pick hp21 [] (by decide), pFun_sound good tab_ok (f := 10) (its := [.g, .g, .g, (.c (.bool y12) h13), .g, .g, (.w .g), (.w (.c (.bool y17) h13)), (.w .g), (.p false), .g, .n, .n, .n, .n, (.p true), .g, .n, .n, .n, .n, .g, .g, .n, .n, .n, .n, .g, .g, .n, .n, .n, .g, .g, .n, .n, .n, .n, .g, (.b true), (.c (.bool y20) h21), .g]) (args := [.agg #[.int .i64 x1, .int .i64 x2, .bool x3, (sv v4), (sv v5), (sv v6)], .agg #[.int .i64 x7, .int .i64 x8, (sv v9), (sv v10), (sv v11)]]) (h := h) (h' := h21) (v := .bool y20) (hC := (ai c21 (ai l_t (ai (g_tf l_t) (ai (g_tf l_t) (ai (g_tf l_t) (ai (g_tf l_t) (ai (g_tf l_t) (ai (g_tf l_t) (ai (g_tf l_t) (ai (g_tf l_t) (ai (g_tf l_t) (ai (g_tf l_t) (ai (g_tf l_t) (ai (g_tf l_t) (ai (g_tf l_t) (ai (g_tf l_t) (ai (g_tf l_t) (ai c19 (ai (g_tf c19) (ai (g_tf c19) (ai (g_tf c19) (ai (g_tf c19) kc19))))))))))))))))))))))) (hr := by kernel_rfl)⟩
    · have kc22 := (ai c19 (ai (g_ff c19) (ai (SlE.len hv9) (ai (g_ff c19) (ai (g_ff c19) (ai (g_ff c19) kc19))))))
      refine dec_bif (fun c22 => ?_) (fun c22 => ?_)
      · refine bind_opt fun y23 e23 => ?_
        obtain ⟨h24, q24, c24⟩ := F11_spec h13 (Heapy.wf hp13) _ e23
        have hp24 : Heapy h h24 [] := Heapy.call hp13 q24
        intro hr
        obtain rfl := Option.some.inj hr
        exact ⟨h24, Heapy.pick hp24 [] (by decide), pFun_sound good tab_ok (f := 10) (its := [.g, .g, .g, (.c (.bool y12) h13), .g, .g, (.w .g), (.w (.c (.bool y17) h13)), (.w .g), (.p false), .g, (.w .g), (.w .g), (.w (.ln l9.length)), (.w .g), (.p false), .g, .n, .n, .n, .n, (.p true), .g, .n, .n, .n, .n, .g, .g, .n, .n, .n, .g, .g, .n, .n, .n, .n, .g, (.b true), (.c (.bool y23) h24), .g]) (args := [.agg #[.int .i64 x1, .int .i64 x2, .bool x3, (sv v4), (sv v5), (sv v6)], .agg #[.int .i64 x7, .int .i64 x8, (sv v9), (sv v10), (sv v11)]]) (h := h) (h' := h24) (v := .bool y23) (hC := (ai c24 (ai l_t (ai (g_tf l_t) (ai (g_tf l_t) (ai (g_tf l_t) (ai (g_tf l_t) (ai (g_tf l_t) (ai (g_tf l_t) (ai (g_tf l_t) (ai (g_tf l_t) (ai (g_tf l_t) (ai (g_tf l_t) (ai (g_tf l_t) (ai c22 (ai (g_tf c22) (ai (g_tf c22) (ai (g_tf c22) (ai (g_tf c22) kc22))))))))))))))))))) (hr := by kernel_rfl)⟩
      · have kc25 := (ai c22 (ai (g_ff c22) (ai (SlE.len hv11) (ai (g_ff c22) (ai (g_ff c22) (ai (g_ff c22) kc22))))))
        refine dec_bif (fun c25 => ?_) (fun c25 => ?_)
        · refine bind_opt fun y26 e26 => ?_
          obtain ⟨h27, q27, c27⟩ := F11_spec h13 (Heapy.wf hp13) _ e26
          have hp27 : Heapy h h27 [] := Heapy.call hp13 q27
          intro hr
          obtain rfl := Option.some.inj hr
          exact ⟨h27, Heapy.pick hp27 [] (by decide), pFun_sound good tab_ok (f := 10) (its := [.g, .g, .g, (.c (.bool y12) h13), .g, .g, (.w .g), (.w (.c (.bool y17) h13)), (.w .g), (.p false), .g, (.w .g), (.w .g), (.w (.ln l9.length)), (.w .g), (.p false), .g, (.w .g), (.w .g), (.w (.ln l11.length)), (.w .g), (.p false), .g, .n, .n, .n, .n, (.p true), .g, .n, .n, .n, .g, .g, .n, .n, .n, .n, .g, (.b true), (.c (.bool y26) h27), .g]) (args := [.agg #[.int .i64 x1, .int .i64 x2, .bool x3, (sv v4), (sv v5), (sv v6)], .agg #[.int .i64 x7, .int .i64 x8, (sv v9), (sv v10), (sv v11)]]) (h := h) (h' := h27) (v := .bool y26) (hC := (ai c27 (ai l_t (ai (g_tf l_t) (ai (g_tf l_t) (ai (g_tf l_t) (ai (g_tf l_t) (ai (g_tf l_t) (ai (g_tf l_t) (ai (g_tf l_t) (ai c25 (ai (g_tf c25) (ai (g_tf c25) (ai (g_tf c25) (ai (g_tf c25) kc25))))))))))))))) (hr := by kernel_rfl)⟩
        · have kc28 := (ai c25 (ai (g_ff c25) (ai (SlE.len hv10) (ai (g_ff c25) (ai (g_ff c25) (ai (g_ff c25) kc25))))))
          refine dec_bif (fun c28 => ?_) (fun c28 => ?_)
          · refine bind_opt fun y29 e29 => ?_
            obtain ⟨h30, q30, c30⟩ := F11_spec h13 (Heapy.wf hp13) _ e29
            have hp30 : Heapy h h30 [] := Heapy.call hp13 q30
            intro hr
            obtain rfl := Option.some.inj hr
            exact ⟨h30, Heapy.pick hp30 [] (by decide), pFun_sound good tab_ok (f := 10) (its := [.g, .g, .g, (.c (.bool y12) h13), .g, .g, (.w .g), (.w (.c (.bool y17) h13)), (.w .g), (.p false), .g, (.w .g), (.w .g), (.w (.ln l9.length)), (.w .g), (.p false), .g, (.w .g), (.w .g), (.w (.ln l11.length)), (.w .g), (.p false), .g, (.w .g), (.w .g), (.w (.ln l10.length)), (.w .g), (.p false), .g, .n, .n, .n, (.p true), .g, .n, .n, .n, .n, .g, (.b true), (.c (.bool y29) h30), .g]) (args := [.agg #[.int .i64 x1, .int .i64 x2, .bool x3, (sv v4), (sv v5), (sv v6)], .agg #[.int .i64 x7, .int .i64 x8, (sv v9), (sv v10), (sv v11)]]) (h := h) (h' := h30) (v := .bool y29) (hC := (ai c30 (ai l_t (ai (g_tf l_t) (ai (g_tf l_t) (ai (g_tf l_t) (ai (g_tf l_t) (ai c28 (ai (g_tf c28) (ai (g_tf c28) (ai (g_tf c28) kc28))))))))))) (hr := by kernel_rfl)⟩
          · refine bind_opt fun y31 e31 => ?_
            have kc33 := (ai c28 (ai (g_ff c28) (ai (F14_spec x1 x2 x3 l4 l5 l6 v4 v5 v6 h13 (SlE.mono hv4 (Heapy.sub hp13) (E57_mono (Heapy.sub hp13))) (SlE.mono hv5 (Heapy.sub hp13) (E59_mono (Heapy.sub hp13))) (SlE.mono hv6 (Heapy.sub hp13) (E61_mono (Heapy.sub hp13))) _ e31) (ai (g_ff c28) (ai (g_ff c28) kc28)))))
            refine dec_bif (fun c33 => ?_) (fun c33 => ?_)
            · refine bind_opt fun y34 e34 => ?_
              obtain ⟨h35, q35, c35⟩ := F11_spec h13 (Heapy.wf hp13) _ e34
              have hp35 : Heapy h h35 [] := Heapy.call hp13 q35
              intro hr
              obtain rfl := Option.some.inj hr
              exact ⟨h35, Heapy.pick hp35 [] (by decide), pFun_sound good tab_ok (f := 10) (its := [.g, .g, .g, (.c (.bool y12) h13), .g, .g, (.w .g), (.w (.c (.bool y17) h13)), (.w .g), (.p false), .g, (.w .g), (.w .g), (.w (.ln l9.length)), (.w .g), (.p false), .g, (.w .g), (.w .g), (.w (.ln l11.length)), (.w .g), (.p false), .g, (.w .g), (.w .g), (.w (.ln l10.length)), (.w .g), (.p false), .g, (.w .g), (.w (.c (.bool y31) h13)), (.w .g), (.p false), .g, .n, .n, .n, .n, (.p true), (.b true), (.c (.bool y34) h35), .g]) (args := [.agg #[.int .i64 x1, .int .i64 x2, .bool x3, (sv v4), (sv v5), (sv v6)], .agg #[.int .i64 x7, .int .i64 x8, (sv v9), (sv v10), (sv v11)]]) (h := h) (h' := h35) (v := .bool y34) (hC := (ai c35 (ai l_t (ai c33 (ai (g_tf c33) (ai (g_tf c33) (ai (g_tf c33) (ai (g_tf c33) kc33)))))))) (hr := by kernel_rfl)⟩
            · refine bind_opt fun y36 e36 => ?_
              obtain ⟨h37, q37, c37⟩ := F22_spec x1 x2 x3 l4 l5 l6 x7 x8 l9 l10 l11 v4 v5 v6 v9 v10 v11 h13 (Heapy.wf hp13) (SlE.mono hv4 (Heapy.sub hp13) (E57_mono (Heapy.sub hp13))) (SlE.mono hv5 (Heapy.sub hp13) (E59_mono (Heapy.sub hp13))) (SlE.mono hv6 (Heapy.sub hp13) (E61_mono (Heapy.sub hp13))) (SlE.mono hv9 (Heapy.sub hp13) (E3_mono (Heapy.sub hp13))) (SlE.mono hv10 (Heapy.sub hp13) (E3_mono (Heapy.sub hp13))) (SlE.mono hv11 (Heapy.sub hp13) (E3_mono (Heapy.sub hp13))) _ e36
              have hp37 : Heapy h h37 [] := Heapy.call hp13 q37
              have kc38 := (ai c33 (ai (g_ff c33) (ai c37 (ai (g_ff c33) (ai (g_ff c33) (ai (g_ff c33) kc33))))))
              refine dec_bif (fun c38 => ?_) (fun c38 => ?_)
              · refine bind_opt fun y39 e39 => ?_
                obtain ⟨h40, q40, c40⟩ := F11_spec h37 (Heapy.wf hp37) _ e39
                have hp40 : Heapy h h40 [] := Heapy.call hp37 q40
                intro hr
                obtain rfl := Option.some.inj hr
                exact ⟨h40, Heapy.pick hp40 [] (by decide), pFun_sound good tab_ok (f := 10) (its := [.g, .g, .g, (.c (.bool y12) h13), .g, .g, (.w .g), (.w (.c (.bool y17) h13)), (.w .g), (.p false), .g, (.w .g), (.w .g), (.w (.ln l9.length)), (.w .g), (.p false), .g, (.w .g), (.w .g), (.w (.ln l11.length)), (.w .g), (.p false), .g, (.w .g), (.w .g), (.w (.ln l10.length)), (.w .g), (.p false), .g, (.w .g), (.w (.c (.bool y31) h13)), (.w .g), (.p false), .g, (.w .g), (.w .g), (.w (.c (.bool y36) h37)), (.w .g), (.p false), (.b true), (.c (.bool y39) h40), .g]) (args := [.agg #[.int .i64 x1, .int .i64 x2, .bool x3, (sv v4), (sv v5), (sv v6)], .agg #[.int .i64 x7, .int .i64 x8, (sv v9), (sv v10), (sv v11)]]) (h := h) (h' := h40) (v := .bool y39) (hC := (ai c40 (ai c38 kc38))) (hr := by kernel_rfl)⟩
              · refine bind_opt fun y41 e41 => ?_
                obtain ⟨u42_0, u42_1, h42, q42, c42⟩ := F25_spec x1 x2 x3 l4 l5 l6 x7 x8 v4 v5 v6 h37 (Heapy.wf hp37) (SlE.mono hv4 (Heapy.sub hp37) (E57_mono (Heapy.sub hp37))) (SlE.mono hv5 (Heapy.sub hp37) (E59_mono (Heapy.sub hp37))) (SlE.mono hv6 (Heapy.sub hp37) (E61_mono (Heapy.sub hp37))) _ e41
                have hp42 : Heapy h h42 [⟨u42_0, 3, 1, List.flatMap enc3 y41.1⟩, ⟨u42_1, 3, 1, List.flatMap enc3 y41.2.1⟩] := Heapy.call hp37 q42
                have kc46 := (ai (F26_spec x1 x2 x3 l4 l5 l6 v4 v5 v6 h42 (SlE.mono hv4 (Heapy.sub hp42) (E57_mono (Heapy.sub hp42))) (SlE.mono hv5 (Heapy.sub hp42) (E59_mono (Heapy.sub hp42))) (SlE.mono hv6 (Heapy.sub hp42) (E61_mono (Heapy.sub hp42))) _ rfl) (ai c42 (ai c38 kc38)))
                refine dec_bif (fun c46 => ?_) (fun c46 => ?_)
                · intro hr
                  obtain rfl := Option.some.inj hr
                  exact ⟨h42, Heapy.pick hp42 [] (by decide), pFun_sound good tab_ok (f := 10) (its := [.g, .g, .g, (.c (.bool y12) h13), .g, .g, (.w .g), (.w (.c (.bool y17) h13)), (.w .g), (.p false), .g, (.w .g), (.w .g), (.w (.ln l9.length)), (.w .g), (.p false), .g, (.w .g), (.w .g), (.w (.ln l11.length)), (.w .g), (.p false), .g, (.w .g), (.w .g), (.w (.ln l10.length)), (.w .g), (.p false), .g, (.w .g), (.w (.c (.bool y31) h13)), (.w .g), (.p false), .g, (.w .g), (.w .g), (.w (.c (.bool y36) h37)), (.w .g), (.p false), (.b false), .g, .g, .g, .g, .g, (.c (.tuple #[(sv u42_0), (sv u42_1), .int .i64 y41.2.2]) h42), .g, .g, .g, .g, .g, .g, .g, .g, (.c (.int .i64 (F26 x1 x2 x3 l4 l5 l6)) h42), .g, .g, .g, .g, .g, .n, .n, .n, .n, (.p true), .g, .n, .n, .n, .n, .g, (.b true), .g]) (args := [.agg #[.int .i64 x1, .int .i64 x2, .bool x3, (sv v4), (sv v5), (sv v6)], .agg #[.int .i64 x7, .int .i64 x8, (sv v9), (sv v10), (sv v11)]]) (h := h) (h' := h42) (v := .bool false) (hC := (ai l_t (ai (g_tf l_t) (ai (g_tf l_t) (ai (g_tf l_t) (ai (g_tf l_t) (ai c46 (ai (g_tf c46) (ai (g_tf c46) (ai (g_tf c46) (ai (g_tf c46) kc46))))))))))) (hr := by kernel_rfl)⟩
                · have kc47 := (ai c46 (ai (g_ff c46) (ai (g_ff c46) (ai (SlE.len (Heapy.sle (v := u42_0) (xs := y41.1) (enc := enc3) hp42 0 rfl (fun _ => rfl) (by decide))) (ai (g_ff c46) (ai (g_ff c46) kc46))))))
                  refine dec_bif (fun c47 => ?_) (fun c47 => ?_)
                  · intro hr
                    obtain rfl := Option.some.inj hr
                    exact ⟨h42, Heapy.pick hp42 [] (by decide), pFun_sound good tab_ok (f := 10) (its := [.g, .g, .g, (.c (.bool y12) h13), .g, .g, (.w .g), (.w (.c (.bool y17) h13)), (.w .g), (.p false), .g, (.w .g), (.w .g), (.w (.ln l9.length)), (.w .g), (.p false), .g, (.w .g), (.w .g), (.w (.ln l11.length)), (.w .g), (.p false), .g, (.w .g), (.w .g), (.w (.ln l10.length)), (.w .g), (.p false), .g, (.w .g), (.w (.c (.bool y31) h13)), (.w .g), (.p false), .g, (.w .g), (.w .g), (.w (.c (.bool y36) h37)), (.w .g), (.p false), (.b false), .g, .g, .g, .g, .g, (.c (.tuple #[(sv u42_0), (sv u42_1), .int .i64 y41.2.2]) h42), .g, .g, .g, .g, .g, .g, .g, .g, (.c (.int .i64 (F26 x1 x2 x3 l4 l5 l6)) h42), .g, .g, .g, .g, .g, (.w .g), (.w (.ln y41.1.length)), (.w .g), (.w .g), (.p false), .g, .n, .n, .n, .n, (.p true), (.b true), .g]) (args := [.agg #[.int .i64 x1, .int .i64 x2, .bool x3, (sv v4), (sv v5), (sv v6)], .agg #[.int .i64 x7, .int .i64 x8, (sv v9), (sv v10), (sv v11)]]) (h := h) (h' := h42) (v := .bool false) (hC := (ai l_t (ai c47 (ai (g_tf c47) (ai (g_tf c47) (ai (g_tf c47) (ai (g_tf c47) kc47))))))) (hr := by kernel_rfl)⟩
                  · have kc48 := (ai c47 (ai (g_ff c47) (ai (g_ff c47) (ai (SlE.len (Heapy.sle (v := u42_1) (xs := y41.2.1) (enc := enc3) hp42 1 rfl (fun _ => rfl) (by decide))) (ai (g_ff c47) (ai (g_ff c47) kc47))))))
                    refine dec_bif (fun c48 => ?_) (fun c48 => ?_)
                    · intro hr
                      obtain rfl := Option.some.inj hr
                      exact ⟨h42, Heapy.pick hp42 [] (by decide), pFun_sound good tab_ok (f := 10) (its := [.g, .g, .g, (.c (.bool y12) h13), .g, .g, (.w .g), (.w (.c (.bool y17) h13)), (.w .g), (.p false), .g, (.w .g), (.w .g), (.w (.ln l9.length)), (.w .g), (.p false), .g, (.w .g), (.w .g), (.w (.ln l11.length)), (.w .g), (.p false), .g, (.w .g), (.w .g), (.w (.ln l10.length)), (.w .g), (.p false), .g, (.w .g), (.w (.c (.bool y31) h13)), (.w .g), (.p false), .g, (.w .g), (.w .g), (.w (.c (.bool y36) h37)), (.w .g), (.p false), (.b false), .g, .g, .g, .g, .g, (.c (.tuple #[(sv u42_0), (sv u42_1), .int .i64 y41.2.2]) h42), .g, .g, .g, .g, .g, .g, .g, .g, (.c (.int .i64 (F26 x1 x2 x3 l4 l5 l6)) h42), .g, .g, .g, .g, .g, (.w .g), (.w (.ln y41.1.length)), (.w .g), (.w .g), (.p false), .g, (.w .g), (.w (.ln y41.2.1.length)), (.w .g), (.w .g), (.p false), (.b true), .g]) (args := [.agg #[.int .i64 x1, .int .i64 x2, .bool x3, (sv v4), (sv v5), (sv v6)], .agg #[.int .i64 x7, .int .i64 x8, (sv v9), (sv v10), (sv v11)]]) (h := h) (h' := h42) (v := .bool false) (hC := (ai c48 kc48)) (hr := by kernel_rfl)⟩
                    · refine bind_opt fun y57 e57 => ?_
                      have kc58 := (ai c48 kc48)
                      refine dec_bif (fun c58 => ?_) (fun c58 => ?_)
                      · intro hr
                        obtain rfl := Option.some.inj hr
                        exact ⟨h42, Heapy.pick hp42 [] (by decide), pFun_sound good tab_ok (f := 10) (its := [.g, .g, .g, (.c (.bool y12) h13), .g, .g, (.w .g), (.w (.c (.bool y17) h13)), (.w .g), (.p false), .g, (.w .g), (.w .g), (.w (.ln l9.length)), (.w .g), (.p false), .g, (.w .g), (.w .g), (.w (.ln l11.length)), (.w .g), (.p false), .g, (.w .g), (.w .g), (.w (.ln l10.length)), (.w .g), (.p false), .g, (.w .g), (.w (.c (.bool y31) h13)), (.w .g), (.p false), .g, (.w .g), (.w .g), (.w (.c (.bool y36) h37)), (.w .g), (.p false), (.b false), .g, .g, .g, .g, .g, (.c (.tuple #[(sv u42_0), (sv u42_1), .int .i64 y41.2.2]) h42), .g, .g, .g, .g, .g, .g, .g, .g, (.c (.int .i64 (F26 x1 x2 x3 l4 l5 l6)) h42), .g, .g, .g, .g, .g, (.w .g), (.w (.ln y41.1.length)), (.w .g), (.w .g), (.p false), .g, (.w .g), (.w (.ln y41.2.1.length)), (.w .g), (.w .g), (.p false), (.b false), .g, .g, (.l F10_m1_1 [] .ret (F10_x1_0 x1 x2 x3 v4 v5 v6 x7 x8 v9 v10 v11 h42 y57))]) (args := [.agg #[.int .i64 x1, .int .i64 x2, .bool x3, (sv v4), (sv v5), (sv v6)], .agg #[.int .i64 x7, .int .i64 x8, (sv v9), (sv v10), (sv v11)]]) (h := h) (h' := h42) (v := .bool false) (hC := (ai (F10_l1_0 h x1 x2 x3 l4 v4 hv4 l5 v5 hv5 l6 v6 hv6 x7 x8 l9 v9 hv9 l10 v10 hv10 l11 v11 hv11 y41 u42_0 u42_1 h42 hp42 0 y57 e57 c58) kc58)) (hr := by kernel_rfl)⟩
                      · have kc59 := (ai (F10_l1_1 h x1 x2 x3 l4 v4 hv4 l5 v5 hv5 l6 v6 hv6 x7 x8 l9 v9 hv9 l10 v10 hv10 l11 v11 hv11 y41 u42_0 u42_1 h42 hp42 0 y57 e57 c58) kc58)
                        refine dec_bif (fun c59 => ?_) (fun c59 => ?_)
                        · intro hr
                          obtain rfl := Option.some.inj hr
                          exact ⟨h42, Heapy.pick hp42 [] (by decide), pFun_sound good tab_ok (f := 10) (its := [.g, .g, .g, (.c (.bool y12) h13), .g, .g, (.w .g), (.w (.c (.bool y17) h13)), (.w .g), (.p false), .g, (.w .g), (.w .g), (.w (.ln l9.length)), (.w .g), (.p false), .g, (.w .g), (.w .g), (.w (.ln l11.length)), (.w .g), (.p false), .g, (.w .g), (.w .g), (.w (.ln l10.length)), (.w .g), (.p false), .g, (.w .g), (.w (.c (.bool y31) h13)), (.w .g), (.p false), .g, (.w .g), (.w .g), (.w (.c (.bool y36) h37)), (.w .g), (.p false), (.b false), .g, .g, .g, .g, .g, (.c (.tuple #[(sv u42_0), (sv u42_1), .int .i64 y41.2.2]) h42), .g, .g, .g, .g, .g, .g, .g, .g, (.c (.int .i64 (F26 x1 x2 x3 l4 l5 l6)) h42), .g, .g, .g, .g, .g, (.w .g), (.w (.ln y41.1.length)), (.w .g), (.w .g), (.p false), .g, (.w .g), (.w (.ln y41.2.1.length)), (.w .g), (.w .g), (.p false), (.b false), .g, .g, (.l F10_m1_1 [] (.exit 0) (F10_x1_1 x1 x2 x3 v4 v5 v6 x7 x8 v9 v10 v11 h42 y57)), .g, .g, (.b true), .g]) (args := [.agg #[.int .i64 x1, .int .i64 x2, .bool x3, (sv v4), (sv v5), (sv v6)], .agg #[.int .i64 x7, .int .i64 x8, (sv v9), (sv v10), (sv v11)]]) (h := h) (h' := h42) (v := .bool true) (hC := (ai c59 kc59)) (hr := by kernel_rfl)⟩
                        · refine bind_opt fun y60 e60 => ?_
                          obtain ⟨h61, q61, c61⟩ := F23_spec x1 x2 x3 l4 l5 l6 v4 v5 v6 h42 (Heapy.wf hp42) (SlE.mono hv4 (Heapy.sub hp42) (E57_mono (Heapy.sub hp42))) (SlE.mono hv5 (Heapy.sub hp42) (E59_mono (Heapy.sub hp42))) (SlE.mono hv6 (Heapy.sub hp42) (E61_mono (Heapy.sub hp42))) _ e60
                          have hp61 : Heapy h h61 [⟨u42_0, 3, 1, List.flatMap enc3 y41.1⟩, ⟨u42_1, 3, 1, List.flatMap enc3 y41.2.1⟩] := Heapy.call hp42 q61
                          have kc62 := (ai c61 (ai c59 kc59))
                          refine dec_bif (fun c62 => ?_) (fun c62 => ?_)
                          · intro hr
                            obtain rfl := Option.some.inj hr
                            exact ⟨h61, Heapy.pick hp61 [] (by decide), pFun_sound good tab_ok (f := 10) (its := [.g, .g, .g, (.c (.bool y12) h13), .g, .g, (.w .g), (.w (.c (.bool y17) h13)), (.w .g), (.p false), .g, (.w .g), (.w .g), (.w (.ln l9.length)), (.w .g), (.p false), .g, (.w .g), (.w .g), (.w (.ln l11.length)), (.w .g), (.p false), .g, (.w .g), (.w .g), (.w (.ln l10.length)), (.w .g), (.p false), .g, (.w .g), (.w (.c (.bool y31) h13)), (.w .g), (.p false), .g, (.w .g), (.w .g), (.w (.c (.bool y36) h37)), (.w .g), (.p false), (.b false), .g, .g, .g, .g, .g, (.c (.tuple #[(sv u42_0), (sv u42_1), .int .i64 y41.2.2]) h42), .g, .g, .g, .g, .g, .g, .g, .g, (.c (.int .i64 (F26 x1 x2 x3 l4 l5 l6)) h42), .g, .g, .g, .g, .g, (.w .g), (.w (.ln y41.1.length)), (.w .g), (.w .g), (.p false), .g, (.w .g), (.w (.ln y41.2.1.length)), (.w .g), (.w .g), (.p false), (.b false), .g, .g, (.l F10_m1_1 [] (.exit 0) (F10_x1_1 x1 x2 x3 v4 v5 v6 x7 x8 v9 v10 v11 h42 y57)), .g, .g, (.b false), .g, (.c (.tuple #[.int .i64 y60.1, .int .i64 y60.2]) h61), .g, .g, .g, .g, .g, .g, .g, .g, (.w .g), (.w .g), (.w .g), (.w .g), (.p true), .g]) (args := [.agg #[.int .i64 x1, .int .i64 x2, .bool x3, (sv v4), (sv v5), (sv v6)], .agg #[.int .i64 x7, .int .i64 x8, (sv v9), (sv v10), (sv v11)]]) (h := h) (h' := h61) (v := .bool (decide (y60.1 ≤ x8))) (hC := (ai c62 (ai (g_tt c62) (ai (g_tt c62) (ai (g_tt c62) (ai (g_tt c62) kc62)))))) (hr := by kernel_rfl)⟩
                          · intro hr
                            obtain rfl := Option.some.inj hr
                            exact ⟨h61, Heapy.pick hp61 [] (by decide), pFun_sound good tab_ok (f := 10) (its := [.g, .g, .g, (.c (.bool y12) h13), .g, .g, (.w .g), (.w (.c (.bool y17) h13)), (.w .g), (.p false), .g, (.w .g), (.w .g), (.w (.ln l9.length)), (.w .g), (.p false), .g, (.w .g), (.w .g), (.w (.ln l11.length)), (.w .g), (.p false), .g, (.w .g), (.w .g), (.w (.ln l10.length)), (.w .g), (.p false), .g, (.w .g), (.w (.c (.bool y31) h13)), (.w .g), (.p false), .g, (.w .g), (.w .g), (.w (.c (.bool y36) h37)), (.w .g), (.p false), (.b false), .g, .g, .g, .g, .g, (.c (.tuple #[(sv u42_0), (sv u42_1), .int .i64 y41.2.2]) h42), .g, .g, .g, .g, .g, .g, .g, .g, (.c (.int .i64 (F26 x1 x2 x3 l4 l5 l6)) h42), .g, .g, .g, .g, .g, (.w .g), (.w (.ln y41.1.length)), (.w .g), (.w .g), (.p false), .g, (.w .g), (.w (.ln y41.2.1.length)), (.w .g), (.w .g), (.p false), (.b false), .g, .g, (.l F10_m1_1 [] (.exit 0) (F10_x1_1 x1 x2 x3 v4 v5 v6 x7 x8 v9 v10 v11 h42 y57)), .g, .g, (.b false), .g, (.c (.tuple #[.int .i64 y60.1, .int .i64 y60.2]) h61), .g, .g, .g, .g, .g, .g, .g, .g, .n, .n, .n, .n, (.p false), .g]) (args := [.agg #[.int .i64 x1, .int .i64 x2, .bool x3, (sv v4), (sv v5), (sv v6)], .agg #[.int .i64 x7, .int .i64 x8, (sv v9), (sv v10), (sv v11)]]) (h := h) (h' := h61) (v := .bool false) (hC := (ai c62 (ai (g_ft c62) (ai (g_ft c62) (ai (g_ft c62) (ai (g_ft c62) kc62)))))) (hr := by kernel_rfl)⟩
set_option maxRecDepth 100000 in
theorem F10_law (H : ∀ (x1 : Int) (x2 : Int) (x3 : Bool) (l4 : List (Int × Int × Int × Int)) (l5 : List (Int × Int × Int × Int)) (l6 : List (Int × Int)) (x7 : Int) (x8 : Int) (l9 : List Int) (l10 : List Int) (l11 : List Int), (Lit.int .i64 x1).wf = true → (Lit.int .i64 x2).wf = true → (l4.length ≤ maxLen ∧ l4.length * 32 ≤ reachBytes) → (∀ y ∈ l4, W57 y) → (l5.length ≤ maxLen ∧ l5.length * 32 ≤ reachBytes) → (∀ y ∈ l5, W59 y) → (l6.length ≤ maxLen ∧ l6.length * 16 ≤ reachBytes) → (∀ y ∈ l6, W61 y) → (Lit.int .i64 x7).wf = true → (Lit.int .i64 x8).wf = true → (l9.length ≤ maxLen ∧ l9.length * 8 ≤ reachBytes) → (∀ y ∈ l9, W3 y) → (l10.length ≤ maxLen ∧ l10.length * 8 ≤ reachBytes) → (∀ y ∈ l10, W3 y) → (l11.length ≤ maxLen ∧ l11.length * 8 ≤ reachBytes) → (∀ y ∈ l11, W3 y) → F10 x1 x2 x3 l4 l5 l6 x7 x8 l9 l10 l11 = some true) : Law Try.prog 10 10 [26, 41] := by
  intro s us hwf hro hT0
  obtain ⟨u0, vs0, rfl, t0, hT1⟩ := wts_cons hT0
  obtain ⟨cs0, rfl, k0⟩ := wtv_aggS 4 (ks := [.int .i64, .int .i64, .bool, .slice 57, .slice 59, .slice 61]) (by kernel_rfl) (by kernel_rfl) t0
  obtain ⟨x1, r_x1, rfl, w_x1, k0_0⟩ := sq_int k0
  obtain ⟨x2, r_x2, rfl, w_x2, k0_1⟩ := sq_int k0_0
  obtain ⟨x3, r_x3, rfl, k0_2⟩ := sq_bool k0_1
  obtain ⟨v4, r_l4, rfl, q_l4, k0_3⟩ := sq_slice k0_2
  obtain ⟨l4, a_l4, m_l4, w_l4⟩ := q_l4 E57 W57 4 (by kernel_rfl) fun n cs H => E57_wt H
  obtain ⟨v5, r_l5, rfl, q_l5, k0_4⟩ := sq_slice k0_3
  obtain ⟨l5, a_l5, m_l5, w_l5⟩ := q_l5 E59 W59 4 (by kernel_rfl) fun n cs H => E59_wt H
  obtain ⟨v6, r_l6, rfl, q_l6, k0_5⟩ := sq_slice k0_4
  obtain ⟨l6, a_l6, m_l6, w_l6⟩ := q_l6 E61 W61 2 (by kernel_rfl) fun n cs H => E61_wt H
  obtain rfl := sq_nil k0_5
  obtain ⟨u1, vs1, rfl, t1, hT2⟩ := wts_cons hT1
  obtain ⟨cs1, rfl, k1⟩ := wtv_aggS 3 (ks := [.int .i64, .int .i64, .slice 3, .slice 3, .slice 3]) (by kernel_rfl) (by kernel_rfl) t1
  obtain ⟨x7, r_x7, rfl, w_x7, k1_0⟩ := sq_int k1
  obtain ⟨x8, r_x8, rfl, w_x8, k1_1⟩ := sq_int k1_0
  obtain ⟨v9, r_l9, rfl, q_l9, k1_2⟩ := sq_slice k1_1
  obtain ⟨l9, a_l9, m_l9, w_l9⟩ := q_l9 E3 W3 1 (by kernel_rfl) fun n cs H => E3_wt H
  obtain ⟨v10, r_l10, rfl, q_l10, k1_3⟩ := sq_slice k1_2
  obtain ⟨l10, a_l10, m_l10, w_l10⟩ := q_l10 E3 W3 1 (by kernel_rfl) fun n cs H => E3_wt H
  obtain ⟨v11, r_l11, rfl, q_l11, k1_4⟩ := sq_slice k1_3
  obtain ⟨l11, a_l11, m_l11, w_l11⟩ := q_l11 E3 W3 1 (by kernel_rfl) fun n cs H => E3_wt H
  obtain rfl := sq_nil k1_4
  obtain rfl := wts_nil hT2
  obtain ⟨h2, _, hc⟩ := F10_spec x1 x2 x3 l4 l5 l6 x7 x8 l9 l10 l11 v4 v5 v6 v9 v10 v11 s hwf a_l4 a_l5 a_l6 a_l9 a_l10 a_l11 _ (H x1 x2 x3 l4 l5 l6 x7 x8 l9 l10 l11 w_x1 w_x2 m_l4 w_l4 m_l5 w_l5 m_l6 w_l6 w_x7 w_x8 m_l9 w_l9 m_l10 w_l10 m_l11 w_l11)
  refine (hc).mono ?_
  rintro v h' ⟨rfl, rfl⟩
  rfl
end
end Go.Proofs.Ytimeninncpmaeaa.Abs
