/-
  Contracts, written by program: for each function what its call yields, and that it yields it.
-/
import Derived.Test.YtpmbcnknnolojaaDta
namespace Go.Proofs.Ytpmbcnknnolojaa.Abs
open Go
set_option linter.unusedVariables false
set_option linter.unusedSimpArgs false

noncomputable section
/-! 4 jacquard/jacquardlaw30.DiffconsHolds -/
def F4_L : List Nat := [3]
def F4_D : List (Nat × List (Nat × Nat)) := [(21, [(0, 2), (1, 2), (2, 2), (4, 2), (5, 2), (3, 5), (6, 1), (7, 2), (8, 2), (9, 2), (10, 2), (11, 2), (12, 2), (13, 2), (14, 2), (15, 2), (16, 2), (17, 2), (18, 2)])]
def F4_m1_1 : List Bool := [true, false, true, false, true, true, true, false, true, false, false, true, true, true, true, true, true, true, true, true, true, true, true, true, true, true, true, true, true, true, true, true, true, true, true, true, true, true, true, true, true, true, true, true, true, true, true, true, true, true, true, true, true, true, true, true, true, true, true, true, true, true, true, true, true, true, true, true, true, true, true, true, true, true, true, true, true, true, true, true, true, true, true, true, true, true, true, true, true, true, true, true, true, true, true, true, true, true, true, true, true, true, true, true, true, true, true, true, true, true, true, true, true, true, true, true, true, true, true, true, true, true]
def F4_m1_0 : List Bool := [true, false, false, false, true, true, true, false, true, false, false, true, true, true, true, true, true, true, true, true, true, true, true, true, true, true, true, true, true, true, true, true, true, true, true, true, true, true, true, true, true, true, true, true, true, true, true, true, true, true, true, true, true, true, true, true, true, true, true, true, true, true, true, true, true, true, true, true, false, false, true, true, true, true, true, true, true, true, true, true, true, true, true, true, true, true, true, true, true, true, true, true, true, true, true, true, true, true, true, true, true, true, true, true, true, true, true, true, true, true, true, true, true, true, true, true, true, true, true, true, true, true]
def F4_s1 (x1 : Int) (l4 : List Int) (l5 : List Int) (a26 : Int) (l27 : List Int) : Option ((Int × (List Int)) ⊕ (List Int)) :=
  (bif decide (a26 < (F14 x1)) then
   (Option.bind (F11 l4 a26) fun y30 =>
   (Option.bind (F11 l5 a26) fun y32 =>
   (bif (!(okApp (l27.length + ([(if y32 > y30 then y32 else y30)] : List Int).length) 8)) then none else
   some (.inl ((IntKind.i64.wrap (a26 + 1)), (l27 ++ ([(if y32 > y30 then y32 else y30)] : List Int)))))))
  else
   some (.inr l27))
def F4_h1 (x1 : Int) (v2 : Hd) (x3 : Int) (v4 : Hd) (v5 : Hd) (u15_0 : Hd) (h28 : AHeap) (u27 : Hd) (a26 : Int) (l27 : List Int) : AS := ⟨[junk, (sv v4), (sv v5), .pointer (some ⟨3, 0, none⟩), junk, junk, junk, (sv u15_0), junk, .int .i64 (F14 x1), (sv u27), junk, junk, junk, junk, junk, junk, junk, junk, junk, junk, junk, junk, junk, junk, junk, junk, junk, junk, junk, junk, junk, junk, junk, junk, junk, junk, junk, junk, junk, junk, junk, junk, junk, junk, junk, junk, junk, junk, junk, junk, junk, junk, junk, junk, junk, junk, junk, junk, junk, junk, junk, junk, junk, junk, junk, junk, junk, .int .i64 (F14 x1), .int .i64 a26, junk, junk, junk, junk, junk, junk, junk, junk, junk, junk, junk, junk, junk, junk, junk, junk, junk, junk, junk, junk, junk, junk, junk, junk, junk, junk, junk, junk, junk, junk, junk, junk, junk, junk, junk, junk, junk, junk, junk, junk, junk, junk, junk, junk, junk, junk, junk, junk, junk, junk, junk, junk], [(3, [.int .i64 x1, (sv v2), .int .i64 x3])], h28⟩
theorem F4_d1 : drawsOk F4_D (codeOf Try.prog 4 [1, 1, 1, 1, 1, 1, 1, 0, 1, 0, 0]) = true := by kernel_rfl
def F4_x1_0 (h : AHeap) (x1 : Int) (v2 : Hd) (x3 : Int) (v4 : Hd) (y14 : (List Int) × (List Int)) (u15_0 : Hd) (hx : AHeap) (w1 : Hd) (r : (List Int)) : AS := ⟨[junk, (sv v4), junk, .pointer (some ⟨3, 0, none⟩), junk, junk, junk, (sv u15_0), junk, .int .i64 (F14 x1), (sv w1), junk, junk, junk, junk, junk, junk, junk, junk, junk, junk, junk, junk, junk, junk, junk, junk, junk, junk, junk, junk, junk, junk, junk, junk, junk, junk, junk, junk, junk, junk, junk, junk, junk, junk, junk, junk, junk, junk, junk, junk, junk, junk, junk, junk, junk, junk, junk, junk, junk, junk, junk, junk, junk, junk, junk, junk, junk, junk, junk, junk, junk, junk, junk, junk, junk, junk, junk, junk, junk, junk, junk, junk, junk, junk, junk, junk, junk, junk, junk, junk, junk, junk, junk, junk, junk, junk, junk, junk, junk, junk, junk, junk, junk, junk, junk, junk, junk, junk, junk, junk, junk, junk, junk, junk, junk, junk, junk, junk, junk, junk, junk], [(3, [.int .i64 x1, (sv v2), .int .i64 x3])], hx⟩
def F4_i1 (h : AHeap) (x1 : Int) (v2 : Hd) (x3 : Int) (v4 : Hd) (v5 : Hd) (y14 : (List Int) × (List Int)) (u15_0 : Hd) (s : Int × (List Int)) (S : AS) : Prop := ∃ (h28 : AHeap) (u27 : Hd), Heapy h h28 [⟨u15_0, 3, 1, List.flatMap enc3 y14.1⟩, ⟨u27, 3, 1, List.flatMap enc3 s.2⟩] ∧ Strict u27 ∧ S = (F4_h1 x1 v2 x3 v4 v5 u15_0 h28 u27 s.1 s.2)
def F4_x1 (h : AHeap) (x1 : Int) (v2 : Hd) (x3 : Int) (v4 : Hd) (y14 : (List Int) × (List Int)) (u15_0 : Hd) (r : (List Int)) (e : Exit) (S : AS) : Prop := e = (.exit 0) ∧ ∃ (hx : AHeap) (w1 : Hd), Heapy h hx [⟨u15_0, 3, 1, List.flatMap enc3 y14.1⟩, ⟨w1, 3, 1, List.flatMap enc3 r⟩] ∧ Strict w1 ∧ S = (F4_x1_0 h x1 v2 x3 v4 y14 u15_0 hx w1 r)
set_option maxRecDepth 100000 in
theorem F4_r1 (h : AHeap) (x1 : Int) (v2 : Hd) (x3 : Int) (l4 : List Int) (v4 : Hd) (hv4 : SlE E3 1 h (sv v4) l4) (l5 : List Int) (v5 : Hd) (hv5 : SlE E3 1 h (sv v5) l5) (y14 : (List Int) × (List Int)) (u15_0 : Hd) (a26 : Int) (l27 : List Int) (S : AS) (hI : (F4_i1 h x1 v2 x3 v4 v5 y14 u15_0) (a26, l27) S) (o : (Int × (List Int)) ⊕ (List Int)) : F4_s1 x1 l4 l5 a26 l27 = some o → Rd Try.prog (codeOf Try.prog 4 [1, 1, 1, 1, 1, 1, 1, 0, 1, 0, 0]) (F4_i1 h x1 v2 x3 v4 v5 y14 u15_0) (F4_x1 h x1 v2 x3 v4 y14 u15_0) S o := by
  obtain ⟨h28, u27, hp28, z27, rfl⟩ := hI
  unfold F4_s1
  refine dec_bif (fun c29 => ?_) (fun c29 => ?_)
  · refine bind_opt fun y30 e30 => ?_
    refine bind_opt fun y32 e32 => ?_
    obtain ⟨v34, h34, m34, hp34, _⟩ := Heapy.build (P := Try.prog) hp28 (t := 25) (e := 3) (len := 1) (n := 1) (parts := [(0, .int .i64 (if y32 > y30 then y32 else y30))]) (cells := List.flatMap enc3 ([(if y32 > y30 then y32 else y30)] : List Int)) (by kernel_rfl) rfl
    refine guard_ok fun g36 => ?_
    obtain ⟨v37, h37, m37, q37, _, w37⟩ := Heapy.append hp34 (show mkInfo Try.prog 25 = some (3, 1, 8, [.int .i64 0]) by kernel_rfl) 2 (v := u27) (cells := List.flatMap enc3 l27) rfl (Y := (sv v34)) (SlE.src (enc := enc3) (c := 1) (Heapy.sle (v := v34) (xs := ([(if y32 > y30 then y32 else y30)] : List Int)) (enc := enc3) hp34 0 rfl (fun _ => rfl) (by decide)) (fun _ => rfl)) (flatMap_length (enc := enc3) (c := 1) (fun _ => rfl) _) (by rw [Heapy.vn (v := u27) (xs := l27) (enc := enc3) hp34 2 rfl (fun _ => rfl) (by decide)]; simpa using g36)
    have z37 : Strict v37 := w37 z27
    have hp37 : Heapy h h37 [⟨v34, 3, 1, List.flatMap enc3 ([(if y32 > y30 then y32 else y30)] : List Int)⟩, ⟨u15_0, 3, 1, List.flatMap enc3 y14.1⟩, ⟨v37, 3, 1, List.flatMap enc3 (l27 ++ ([(if y32 > y30 then y32 else y30)] : List Int))⟩] := by rw [← List.flatMap_append] at q37; exact q37
    intro hr
    obtain rfl := Option.some.inj hr
    exact ⟨(F4_h1 x1 v2 x3 v4 v5 u15_0 h37 v37 (IntKind.i64.wrap (a26 + 1)) (l27 ++ ([(if y32 > y30 then y32 else y30)] : List Int))), ⟨h37, v37, (Heapy.pick hp37 [1, 2] (by decide)), z37, rfl⟩, pEnd_sound good (L := F4_L) (D := F4_D) (its := [.g, (.b true), .g, .g, .g, .g, .g, (.c (.int .i64 y30) h28), .g, .g, (.c (.int .i64 y32) h28), .g, (.mm (sv v34) h34), (.mm (sv v37) h37), .g, .g, .g]) (ds := F4_m1_0) (ks := []) (e := .normal) (s2 := (F4_h1 x1 v2 x3 v4 v5 u15_0 h37 v37 (IntKind.i64.wrap (a26 + 1)) (l27 ++ ([(if y32 > y30 then y32 else y30)] : List Int)))) (hC := (And.intro m37 (And.intro m34 (And.intro (F11_spec l5 a26 v5 h28 (SlE.mono hv5 (Heapy.sub hp28) (E3_mono (Heapy.sub hp28))) _ e32) (And.intro (F11_spec l4 a26 v4 h28 (SlE.mono hv4 (Heapy.sub hp28) (E3_mono (Heapy.sub hp28))) _ e30) (And.intro c29 trivial)))))) (hd := F4_d1) (h := by kernel_rfl)⟩
  · intro hr
    obtain rfl := Option.some.inj hr
    refine ⟨(.exit 0), (F4_x1_0 h x1 v2 x3 v4 y14 u15_0 h28 u27 (l27 : (List Int))), (by intro hh; cases hh), ?_, pEnd_sound good (L := F4_L) (D := F4_D) (its := [.g, (.b false)]) (ds := F4_m1_1) (ks := []) (e := (.exit 0)) (s2 := (F4_x1_0 h x1 v2 x3 v4 y14 u15_0 h28 u27 (l27 : (List Int)))) (hC := (And.intro c29 trivial)) (hd := F4_d1) (h := by kernel_rfl)⟩
    exact ⟨rfl, h28, u27, (Heapy.pick hp28 [0, 1] (by decide)), z27, rfl⟩
theorem F4_l1 (h : AHeap) (x1 : Int) (v2 : Hd) (x3 : Int) (l4 : List Int) (v4 : Hd) (hv4 : SlE E3 1 h (sv v4) l4) (l5 : List Int) (v5 : Hd) (hv5 : SlE E3 1 h (sv v5) l5) (y14 : (List Int) × (List Int)) (u15_0 : Hd) (x : Int × (List Int)) (r : (List Int)) (hl : loopO (fun (s : Int × (List Int)) => F4_s1 x1 l4 l5 s.1 s.2) x = some r) (S : AS) (hI : (F4_i1 h x1 v2 x3 v4 v5 y14 u15_0) x S) : ∃ e S', (F4_x1 h x1 v2 x3 v4 y14 u15_0) r e S' ∧ AWp Try.prog (.loop (codeOf Try.prog 4 [1, 1, 1, 1, 1, 1, 1, 0, 1, 0, 0])) (Ends1 e S') S :=
  loop_rel (fun x S hI => F4_r1 h x1 v2 x3 l4 v4 hv4 l5 v5 hv5 y14 u15_0 x.1 x.2 S hI) hl hI
def F4_m2_2 : List Bool := [true, true, true, true, true, true, true, true, true, true, true, true, true, true, true, true, true, true, true, true, true, true, true, true, true, true, true, true, true, true, true, true, true, true, true, true, true, true, true, true, true, true, true, true, true, true, true, true, true, true, true, true, true, true, true, true, true, true, true, true, true, true, true, true, true, true, true, true, true, true, true, true, true, true, true, true, true, true, true, true, true, true, true, true, true, true, true, true, true, true, true, true, true, true, true, true, true, true, true, true, true, true, true, true, true, true, true, true, true, true, true, true, true, true, true, true, true, true, true, true, true, true]
def F4_m2_1 : List Bool := [true, false, true, true, true, true, true, false, true, true, true, true, false, true, true, true, true, true, true, true, true, true, true, true, true, true, true, true, true, true, true, true, true, true, true, true, true, true, true, true, true, true, true, true, true, true, true, true, true, true, true, true, true, true, true, true, true, true, true, true, true, true, true, true, true, true, true, true, true, true, true, true, true, true, true, true, true, true, true, true, true, true, true, true, true, true, true, true, true, true, true, true, true, true, true, true, true, true, false, false, true, true, true, true, true, true, true, true, true, true, true, true, true, true, true, true, true, true, true, true, true, true]
def F4_m2_0 : List Bool := [true, true, true, true, true, true, false, true, true, true, true, true, true, true, true, true, true, true, true, true, true, true, true, true, true, true, true, true, true, true, true, true, true, true, true, true, true, true, true, true, true, true, true, true, true, true, true, true, true, true, true, true, true, true, true, true, true, true, true, true, true, true, true, true, true, true, true, true, true, true, true, true, true, true, true, true, true, true, true, true, true, true, true, true, true, true, true, true, true, true, true, true, true, true, true, true, true, true, true, true, true, true, true, true, true, true, true, true, true, true, true, true, true, true, true, true, true, true, true, true, true, true]
def F4_s2 (x1 : Int) (l4 : List Int) (y14 : (List Int) × (List Int)) (y41 : (List Int) × (List Int)) (a46 : Int) : Option (Int ⊕ Nat) :=
  (bif decide (a46 < (F14 x1)) then
   (Option.bind (at? y14.1 a46) fun y48 =>
   (Option.bind (F11 l4 a46) fun y49 =>
   (bif decide (y48 < y49) then
    some (.inr 0)
   else
    (Option.bind (at? y41.1 a46) fun y52 =>
    (bif decide (y52 < y48) then
     some (.inr 0)
    else
     some (.inl (IntKind.i64.wrap (a46 + 1))))))))
  else
   some (.inr 1))
def F4_h2 (x1 : Int) (v4 : Hd) (u15_0 : Hd) (u42_0 : Hd) (h42 : AHeap)  (a46 : Int) : AS := ⟨[junk, (sv v4), junk, junk, junk, junk, junk, (sv u15_0), junk, junk, junk, junk, (sv u42_0), junk, junk, junk, junk, junk, junk, junk, junk, junk, junk, junk, junk, junk, junk, junk, junk, junk, junk, junk, junk, junk, junk, junk, junk, junk, junk, junk, junk, junk, junk, junk, junk, junk, junk, junk, junk, junk, junk, junk, junk, junk, junk, junk, junk, junk, junk, junk, junk, junk, junk, junk, junk, junk, junk, junk, junk, junk, junk, junk, junk, junk, junk, junk, junk, junk, junk, junk, junk, junk, junk, junk, junk, junk, junk, junk, junk, junk, junk, junk, junk, junk, junk, junk, junk, junk, .int .i64 (F14 x1), .int .i64 a46, junk, junk, junk, junk, junk, junk, junk, junk, junk, junk, junk, junk, junk, junk, junk, junk, junk, junk, junk, junk, junk, junk], [], h42⟩
theorem F4_d2 : drawsOk F4_D (codeOf Try.prog 4 [1, 1, 1, 1, 1, 1, 1, 1, 1, 1, 0, 1, 0, 0]) = true := by kernel_rfl
def F4_x2_0 (h42 : AHeap)  (r : Nat) : AS := ⟨[junk, junk, junk, junk, junk, junk, .bool false, junk, junk, junk, junk, junk, junk, junk, junk, junk, junk, junk, junk, junk, junk, junk, junk, junk, junk, junk, junk, junk, junk, junk, junk, junk, junk, junk, junk, junk, junk, junk, junk, junk, junk, junk, junk, junk, junk, junk, junk, junk, junk, junk, junk, junk, junk, junk, junk, junk, junk, junk, junk, junk, junk, junk, junk, junk, junk, junk, junk, junk, junk, junk, junk, junk, junk, junk, junk, junk, junk, junk, junk, junk, junk, junk, junk, junk, junk, junk, junk, junk, junk, junk, junk, junk, junk, junk, junk, junk, junk, junk, junk, junk, junk, junk, junk, junk, junk, junk, junk, junk, junk, junk, junk, junk, junk, junk, junk, junk, junk, junk, junk, junk, junk, junk], [], h42⟩
def F4_x2_1 (h42 : AHeap)  (r : Nat) : AS := ⟨[junk, junk, junk, junk, junk, junk, junk, junk, junk, junk, junk, junk, junk, junk, junk, junk, junk, junk, junk, junk, junk, junk, junk, junk, junk, junk, junk, junk, junk, junk, junk, junk, junk, junk, junk, junk, junk, junk, junk, junk, junk, junk, junk, junk, junk, junk, junk, junk, junk, junk, junk, junk, junk, junk, junk, junk, junk, junk, junk, junk, junk, junk, junk, junk, junk, junk, junk, junk, junk, junk, junk, junk, junk, junk, junk, junk, junk, junk, junk, junk, junk, junk, junk, junk, junk, junk, junk, junk, junk, junk, junk, junk, junk, junk, junk, junk, junk, junk, junk, junk, junk, junk, junk, junk, junk, junk, junk, junk, junk, junk, junk, junk, junk, junk, junk, junk, junk, junk, junk, junk, junk, junk], [], h42⟩
def F4_x2 (h42 : AHeap) (r : Nat) : Exit × AS := (bif Nat.beq r 0 then (.ret, (F4_x2_0 h42 r)) else ((.exit 2), (F4_x2_1 h42 r)))
set_option maxRecDepth 100000 in
theorem F4_r2 (h : AHeap) (x1 : Int) (l4 : List Int) (v4 : Hd) (hv4 : SlE E3 1 h (sv v4) l4) (y14 : (List Int) × (List Int)) (u15_0 : Hd) (y39 : (List Int)) (w1_40 : Hd) (y41 : (List Int) × (List Int)) (u42_0 : Hd) (u42_1 : Hd) (h42 : AHeap) (hp42 : Heapy h h42 [⟨u42_0, 3, 1, List.flatMap enc3 y41.1⟩, ⟨u42_1, 3, 1, List.flatMap enc3 y41.2⟩, ⟨u15_0, 3, 1, List.flatMap enc3 y14.1⟩, ⟨w1_40, 3, 1, List.flatMap enc3 y39⟩]) (a46 : Int) (o : Int ⊕ Nat) : F4_s2 x1 l4 y14 y41 a46 = some o → RdF Try.prog (codeOf Try.prog 4 [1, 1, 1, 1, 1, 1, 1, 1, 1, 1, 0, 1, 0, 0]) (fun (s : Int) => (F4_h2 x1 v4 u15_0 u42_0 h42 s)) (F4_x2 h42) (F4_h2 x1 v4 u15_0 u42_0 h42 a46) o := by
  unfold F4_s2
  refine dec_bif (fun c47 => ?_) (fun c47 => ?_)
  · refine bind_opt fun y48 e48 => ?_
    obtain ⟨id48, off48, g48, cs48, ix48, at48, rfl⟩ := SlE.at (Heapy.sle (v := u15_0) (xs := y14.1) (enc := enc3) hp42 2 rfl (fun _ => rfl) (by decide)) e48
    refine bind_opt fun y49 e49 => ?_
    refine dec_bif (fun c51 => ?_) (fun c51 => ?_)
    · intro hr
      obtain rfl := Option.some.inj hr
      show AWp Try.prog _ (Ends1 ((F4_x2 h42) (0 : Nat)).1 ((F4_x2 h42) (0 : Nat)).2) _
      exact pEnd_sound good (L := F4_L) (D := F4_D) (its := [.g, (.b true), .g, .g, .g, .g, (.ix id48 off48 g48), .g, .g, (.ld (.int .i64 y48)), (.c (.int .i64 y49) h42), .g, .g, .n, .n, .n, .n, .n, .n, .n, .n, .n, (.p true), (.b true), .g]) (ds := F4_m2_0) (ks := []) (e := ((F4_x2 h42) (0 : Nat)).1) (s2 := ((F4_x2 h42) (0 : Nat)).2) (hC := (And.intro l_t (And.intro c51 (And.intro (g_tf c51) (And.intro (g_tf c51) (And.intro (g_tf c51) (And.intro (g_tf c51) (And.intro (g_tf c51) (And.intro (g_tf c51) (And.intro (g_tf c51) (And.intro (g_tf c51) (And.intro (g_tf c51) (And.intro (show AKeep h42 h42 from (AHeap.sub_refl h42)) (And.intro (F11_spec l4 a46 v4 h42 (SlE.mono hv4 (Heapy.sub hp42) (E3_mono (Heapy.sub hp42))) _ e49) (And.intro (At.one (P := Try.prog) (t := 3) (v := .int .i64 y48) at48 (by kernel_rfl) 0 rfl rfl) (And.intro ix48 (And.intro c47 trivial))))))))))))))))) (hd := F4_d2) (h := by kernel_rfl)
    · refine bind_opt fun y52 e52 => ?_
      obtain ⟨id52, off52, g52, cs52, ix52, at52, rfl⟩ := SlE.at (Heapy.sle (v := u42_0) (xs := y41.1) (enc := enc3) hp42 0 rfl (fun _ => rfl) (by decide)) e52
      refine dec_bif (fun c53 => ?_) (fun c53 => ?_)
      · intro hr
        obtain rfl := Option.some.inj hr
        show AWp Try.prog _ (Ends1 ((F4_x2 h42) (0 : Nat)).1 ((F4_x2 h42) (0 : Nat)).2) _
        exact pEnd_sound good (L := F4_L) (D := F4_D) (its := [.g, (.b true), .g, .g, .g, .g, (.ix id48 off48 g48), .g, .g, (.ld (.int .i64 y48)), (.c (.int .i64 y49) h42), .g, .g, (.w .g), (.w .g), (.w (.ix id52 off52 g52)), (.w (.ld (.int .i64 y52))), (.w .g), (.w .g), (.w (.ix id48 off48 g48)), (.w (.ld (.int .i64 y48))), (.w .g), (.p false), (.b true), .g]) (ds := F4_m2_0) (ks := []) (e := ((F4_x2 h42) (0 : Nat)).1) (s2 := ((F4_x2 h42) (0 : Nat)).2) (hC := (And.intro c53 (And.intro c51 (And.intro (g_ff c51) (And.intro (At.one (P := Try.prog) (t := 3) (v := .int .i64 y48) at48 (by kernel_rfl) 0 rfl rfl) (And.intro (g_ff c51) (And.intro ix48 (And.intro (g_ff c51) (And.intro (g_ff c51) (And.intro (g_ff c51) (And.intro (At.one (P := Try.prog) (t := 3) (v := .int .i64 y52) at52 (by kernel_rfl) 0 rfl rfl) (And.intro (g_ff c51) (And.intro ix52 (And.intro (g_ff c51) (And.intro (g_ff c51) (And.intro (g_ff c51) (And.intro (show AKeep h42 h42 from (AHeap.sub_refl h42)) (And.intro (F11_spec l4 a46 v4 h42 (SlE.mono hv4 (Heapy.sub hp42) (E3_mono (Heapy.sub hp42))) _ e49) (And.intro (At.one (P := Try.prog) (t := 3) (v := .int .i64 y48) at48 (by kernel_rfl) 0 rfl rfl) (And.intro ix48 (And.intro c47 trivial))))))))))))))))))))) (hd := F4_d2) (h := by kernel_rfl)
      · intro hr
        obtain rfl := Option.some.inj hr
        show AWp Try.prog _ (Ends1 .normal (F4_h2 x1 v4 u15_0 u42_0 h42 (IntKind.i64.wrap (a46 + 1)))) _
        exact pEnd_sound good (L := F4_L) (D := F4_D) (its := [.g, (.b true), .g, .g, .g, .g, (.ix id48 off48 g48), .g, .g, (.ld (.int .i64 y48)), (.c (.int .i64 y49) h42), .g, .g, (.w .g), (.w .g), (.w (.ix id52 off52 g52)), (.w (.ld (.int .i64 y52))), (.w .g), (.w .g), (.w (.ix id48 off48 g48)), (.w (.ld (.int .i64 y48))), (.w .g), (.p false), (.b false), .g, .g]) (ds := F4_m2_1) (ks := []) (e := .normal) (s2 := (F4_h2 x1 v4 u15_0 u42_0 h42 (IntKind.i64.wrap (a46 + 1)))) (hC := (And.intro c53 (And.intro c51 (And.intro (g_ff c51) (And.intro (At.one (P := Try.prog) (t := 3) (v := .int .i64 y48) at48 (by kernel_rfl) 0 rfl rfl) (And.intro (g_ff c51) (And.intro ix48 (And.intro (g_ff c51) (And.intro (g_ff c51) (And.intro (g_ff c51) (And.intro (At.one (P := Try.prog) (t := 3) (v := .int .i64 y52) at52 (by kernel_rfl) 0 rfl rfl) (And.intro (g_ff c51) (And.intro ix52 (And.intro (g_ff c51) (And.intro (g_ff c51) (And.intro (g_ff c51) (And.intro (show AKeep h42 h42 from (AHeap.sub_refl h42)) (And.intro (F11_spec l4 a46 v4 h42 (SlE.mono hv4 (Heapy.sub hp42) (E3_mono (Heapy.sub hp42))) _ e49) (And.intro (At.one (P := Try.prog) (t := 3) (v := .int .i64 y48) at48 (by kernel_rfl) 0 rfl rfl) (And.intro ix48 (And.intro c47 trivial))))))))))))))))))))) (hd := F4_d2) (h := by kernel_rfl)
  · intro hr
    obtain rfl := Option.some.inj hr
    show AWp Try.prog _ (Ends1 ((F4_x2 h42) (1 : Nat)).1 ((F4_x2 h42) (1 : Nat)).2) _
    exact pEnd_sound good (L := F4_L) (D := F4_D) (its := [.g, (.b false)]) (ds := F4_m2_2) (ks := []) (e := ((F4_x2 h42) (1 : Nat)).1) (s2 := ((F4_x2 h42) (1 : Nat)).2) (hC := (And.intro c47 trivial)) (hd := F4_d2) (h := by kernel_rfl)
theorem F4_l2_0 (h : AHeap) (x1 : Int) (l4 : List Int) (v4 : Hd) (hv4 : SlE E3 1 h (sv v4) l4) (y14 : (List Int) × (List Int)) (u15_0 : Hd) (y39 : (List Int)) (w1_40 : Hd) (y41 : (List Int) × (List Int)) (u42_0 : Hd) (u42_1 : Hd) (h42 : AHeap) (hp42 : Heapy h h42 [⟨u42_0, 3, 1, List.flatMap enc3 y41.1⟩, ⟨u42_1, 3, 1, List.flatMap enc3 y41.2⟩, ⟨u15_0, 3, 1, List.flatMap enc3 y14.1⟩, ⟨w1_40, 3, 1, List.flatMap enc3 y39⟩]) (x : Int) (r : Nat) (hl : loopO (fun (s : Int) => F4_s2 x1 l4 y14 y41 s) x = some r) (q0 : Nat.beq r 0 = true) : AWp Try.prog (.loop (codeOf Try.prog 4 [1, 1, 1, 1, 1, 1, 1, 1, 1, 1, 0, 1, 0, 0])) (Ends1 .ret (F4_x2_0 h42 r)) ((fun (s : Int) => (F4_h2 x1 v4 u15_0 u42_0 h42 s)) x) := by
  have k := loop_fun (P := Try.prog) (c := (codeOf Try.prog 4 [1, 1, 1, 1, 1, 1, 1, 1, 1, 1, 0, 1, 0, 0])) (step := (fun (s : Int) => F4_s2 x1 l4 y14 y41 s)) (hd := (fun (s : Int) => (F4_h2 x1 v4 u15_0 u42_0 h42 s))) (X := (F4_x2 h42)) (by intro t; unfold F4_x2; cases Nat.beq t 0 <;> (intro h; cases h)) (fun x => F4_r2 h x1 l4 v4 hv4 y14 u15_0 y39 w1_40 y41 u42_0 u42_1 h42 hp42 x) hl
  simp only [F4_x2, q0, cond_true, cond_false] at k
  exact k
theorem F4_l2_1 (h : AHeap) (x1 : Int) (l4 : List Int) (v4 : Hd) (hv4 : SlE E3 1 h (sv v4) l4) (y14 : (List Int) × (List Int)) (u15_0 : Hd) (y39 : (List Int)) (w1_40 : Hd) (y41 : (List Int) × (List Int)) (u42_0 : Hd) (u42_1 : Hd) (h42 : AHeap) (hp42 : Heapy h h42 [⟨u42_0, 3, 1, List.flatMap enc3 y41.1⟩, ⟨u42_1, 3, 1, List.flatMap enc3 y41.2⟩, ⟨u15_0, 3, 1, List.flatMap enc3 y14.1⟩, ⟨w1_40, 3, 1, List.flatMap enc3 y39⟩]) (x : Int) (r : Nat) (hl : loopO (fun (s : Int) => F4_s2 x1 l4 y14 y41 s) x = some r) (q0 : Nat.beq r 0 = false) : AWp Try.prog (.loop (codeOf Try.prog 4 [1, 1, 1, 1, 1, 1, 1, 1, 1, 1, 0, 1, 0, 0])) (Ends1 (.exit 2) (F4_x2_1 h42 r)) ((fun (s : Int) => (F4_h2 x1 v4 u15_0 u42_0 h42 s)) x) := by
  have k := loop_fun (P := Try.prog) (c := (codeOf Try.prog 4 [1, 1, 1, 1, 1, 1, 1, 1, 1, 1, 0, 1, 0, 0])) (step := (fun (s : Int) => F4_s2 x1 l4 y14 y41 s)) (hd := (fun (s : Int) => (F4_h2 x1 v4 u15_0 u42_0 h42 s))) (X := (F4_x2 h42)) (by intro t; unfold F4_x2; cases Nat.beq t 0 <;> (intro h; cases h)) (fun x => F4_r2 h x1 l4 v4 hv4 y14 u15_0 y39 w1_40 y41 u42_0 u42_1 h42 hp42 x) hl
  simp only [F4_x2, q0, cond_true, cond_false] at k
  exact k
def F4 (x1 : Int) (l2 : List (Int × Int × Int × Int)) (x3 : Int) (l4 : List Int) (l5 : List Int) : Option (Bool) :=
  (bif (!(F10 x1 l2 x3)) then
   some (true)
  else
   (bif decide ((l4.length : Int) > 30) then
    some (true)
   else
    (bif decide ((l5.length : Int) > 30) then
     some (true)
    else
     (Option.bind (F13 x1 l2 x3 l4) fun y14 =>
     (bif decide ((y14.2.length : Int) > 0) then
      some ((y14.1.length : Int) == 0)
     else
      (bif ((y14.1.length : Int) != (F14 x1)) then
       some (false)
      else
       (Option.bind (F15 x1 l2 x3 y14.1) fun y21 =>
       (bif (y21 != (-1)) then
        some (false)
       else
        (Option.bind (loopO (fun (s : Int × (List Int)) => F4_s1 x1 l4 l5 s.1 s.2) (0, ([] : List Int))) fun y39 =>
        (Option.bind (F13 x1 l2 x3 y39) fun y41 =>
        (bif ((y41.1.length : Int) != (F14 x1)) then
         some (false)
        else
         (Option.bind (loopO (fun (s : Int) => F4_s2 x1 l4 y14 y41 s) 0) fun y54 =>
         (bif (Nat.beq y54 0) then
          some (false)
         else
          some (true))))))))))))))
set_option maxRecDepth 100000 in
theorem F4_spec (x1 : Int) (l2 : List (Int × Int × Int × Int)) (x3 : Int) (l4 : List Int) (l5 : List Int) (v2 : Hd) (v4 : Hd) (v5 : Hd) (h : AHeap) (hw : h.wf) (hv2 : SlE E29 4 h (sv v2) l2) (hv4 : SlE E3 1 h (sv v4) l4) (hv5 : SlE E3 1 h (sv v5) l5) (r : Bool) : F4 x1 l2 x3 l4 l5 = some r → ∃ (h' : AHeap), Heapy h h' [] ∧ ACalls Try.prog 4 [.agg #[.int .i64 x1, (sv v2), .int .i64 x3], (sv v4), (sv v5)] h (fun v' h'' => v' = (.bool r : Value) ∧ h'' = h') := by
  unfold F4
  refine dec_bif (fun c8 => ?_) (fun c8 => ?_)
  · intro hr
    obtain rfl := Option.some.inj hr
    exact ⟨h, Heapy.pick (Heapy.refl hw) [] (by decide), pFun_sound good tab_ok (f := 4) (its := [.g, .g, (.c (.bool true) h), .g, .g, (.w .g), (.w (.c (.bool (F10 x1 l2 x3)) h)), (.w .g), .g, .g, .n, .n, .n, (.p true), .g, .n, .n, .n, .g, (.b true), (.c (.bool true) h), .g]) (args := [.agg #[.int .i64 x1, (sv v2), .int .i64 x3], (sv v4), (sv v5)]) (h := h) (h' := h) (v := .bool true) (hC := (And.intro (F9_spec h _ rfl) (And.intro l_t (And.intro (g_tf l_t) (And.intro (g_tf l_t) (And.intro (g_tf l_t) (And.intro c8 (And.intro (g_tf c8) (And.intro (g_tf c8) (And.intro (g_tf c8) (And.intro (g_ff l_f) (And.intro (F10_spec x1 l2 x3 v2 h hv2 _ rfl) (And.intro (g_ff l_f) (And.intro (g_ff l_f) (And.intro (F9_spec h _ rfl) trivial))))))))))))))) (hr := by kernel_rfl)⟩
  · refine dec_bif (fun c10 => ?_) (fun c10 => ?_)
    · intro hr
      obtain rfl := Option.some.inj hr
      exact ⟨h, Heapy.pick (Heapy.refl hw) [] (by decide), pFun_sound good tab_ok (f := 4) (its := [.g, .g, (.c (.bool true) h), .g, .g, (.w .g), (.w (.c (.bool (F10 x1 l2 x3)) h)), (.w .g), .g, .g, (.w .g), (.w (.ln l4.length)), (.w .g), (.p false), .g, .n, .n, .n, (.p true), (.b true), (.c (.bool true) h), .g]) (args := [.agg #[.int .i64 x1, (sv v2), .int .i64 x3], (sv v4), (sv v5)]) (h := h) (h' := h) (v := .bool true) (hC := (And.intro (F9_spec h _ rfl) (And.intro l_t (And.intro c10 (And.intro (g_tf c10) (And.intro (g_tf c10) (And.intro (g_tf c10) (And.intro c8 (And.intro (g_ff c8) (And.intro (SlE.len hv4) (And.intro (g_ff c8) (And.intro (g_ff c8) (And.intro (g_ff l_f) (And.intro (F10_spec x1 l2 x3 v2 h hv2 _ rfl) (And.intro (g_ff l_f) (And.intro (g_ff l_f) (And.intro (F9_spec h _ rfl) trivial))))))))))))))))) (hr := by kernel_rfl)⟩
    · refine dec_bif (fun c12 => ?_) (fun c12 => ?_)
      · intro hr
        obtain rfl := Option.some.inj hr
        exact ⟨h, Heapy.pick (Heapy.refl hw) [] (by decide), pFun_sound good tab_ok (f := 4) (its := [.g, .g, (.c (.bool true) h), .g, .g, (.w .g), (.w (.c (.bool (F10 x1 l2 x3)) h)), (.w .g), .g, .g, (.w .g), (.w (.ln l4.length)), (.w .g), (.p false), .g, (.w .g), (.w (.ln l5.length)), (.w .g), (.p false), (.b true), (.c (.bool true) h), .g]) (args := [.agg #[.int .i64 x1, (sv v2), .int .i64 x3], (sv v4), (sv v5)]) (h := h) (h' := h) (v := .bool true) (hC := (And.intro (F9_spec h _ rfl) (And.intro c12 (And.intro c10 (And.intro (g_ff c10) (And.intro (SlE.len hv5) (And.intro (g_ff c10) (And.intro (g_ff c10) (And.intro c8 (And.intro (g_ff c8) (And.intro (SlE.len hv4) (And.intro (g_ff c8) (And.intro (g_ff c8) (And.intro (g_ff l_f) (And.intro (F10_spec x1 l2 x3 v2 h hv2 _ rfl) (And.intro (g_ff l_f) (And.intro (g_ff l_f) (And.intro (F9_spec h _ rfl) trivial)))))))))))))))))) (hr := by kernel_rfl)⟩
      · refine bind_opt fun y14 e14 => ?_
        obtain ⟨u15_0, u15_1, h15, q15, zu15_1, c15⟩ := F13_spec x1 l2 x3 l4 v2 v4 h hw hv2 hv4 _ e14
        have hp15 : Heapy h h15 [⟨u15_0, 3, 1, List.flatMap enc3 y14.1⟩, ⟨u15_1, 3, 1, List.flatMap enc3 y14.2⟩] := Heapy.call (Heapy.refl hw) q15
        refine dec_bif (fun c18 => ?_) (fun c18 => ?_)
        · intro hr
          obtain rfl := Option.some.inj hr
          exact ⟨h15, Heapy.pick hp15 [] (by decide), pFun_sound good tab_ok (f := 4) (its := [.g, .g, (.c (.bool true) h), .g, .g, (.w .g), (.w (.c (.bool (F10 x1 l2 x3)) h)), (.w .g), .g, .g, (.w .g), (.w (.ln l4.length)), (.w .g), (.p false), .g, (.w .g), (.w (.ln l5.length)), (.w .g), (.p false), (.b false), .g, .g, .g, .g, .g, .g, .g, (.c (.tuple #[(sv u15_0), (sv u15_1)]) h15), .g, .g, .g, .g, .g, .g, (.ln y14.2.length), .g, (.b true), .g, (.ln y14.1.length), .g, .g]) (args := [.agg #[.int .i64 x1, (sv v2), .int .i64 x3], (sv v4), (sv v5)]) (h := h) (h' := h15) (v := .bool ((y14.1.length : Int) == 0)) (hC := (And.intro (SlE.len (Heapy.sle (v := u15_0) (xs := y14.1) (enc := enc3) hp15 0 rfl (fun _ => rfl) (by decide))) (And.intro c18 (And.intro (SlE.len (Heapy.sle (v := u15_1) (xs := y14.2) (enc := enc3) hp15 1 rfl (fun _ => rfl) (by decide))) (And.intro c15 (And.intro c12 (And.intro c10 (And.intro (g_ff c10) (And.intro (SlE.len hv5) (And.intro (g_ff c10) (And.intro (g_ff c10) (And.intro c8 (And.intro (g_ff c8) (And.intro (SlE.len hv4) (And.intro (g_ff c8) (And.intro (g_ff c8) (And.intro (g_ff l_f) (And.intro (F10_spec x1 l2 x3 v2 h hv2 _ rfl) (And.intro (g_ff l_f) (And.intro (g_ff l_f) (And.intro (F9_spec h _ rfl) trivial))))))))))))))))))))) (hr := by kernel_rfl)⟩
        · refine dec_bif (fun c20 => ?_) (fun c20 => ?_)
          · intro hr
            obtain rfl := Option.some.inj hr
            exact ⟨h15, Heapy.pick hp15 [] (by decide), pFun_sound good tab_ok (f := 4) (its := [.g, .g, (.c (.bool true) h), .g, .g, (.w .g), (.w (.c (.bool (F10 x1 l2 x3)) h)), (.w .g), .g, .g, (.w .g), (.w (.ln l4.length)), (.w .g), (.p false), .g, (.w .g), (.w (.ln l5.length)), (.w .g), (.p false), (.b false), .g, .g, .g, .g, .g, .g, .g, (.c (.tuple #[(sv u15_0), (sv u15_1)]) h15), .g, .g, .g, .g, .g, .g, (.ln y14.2.length), .g, (.b false), .g, .g, (.c (.int .i64 (F14 x1)) h15), .g, .g, (.ln y14.1.length), .g, .g, .g, .n, .n, .n, .n, .n, .n, .n, .n, .n, (.p true), (.b true), .g]) (args := [.agg #[.int .i64 x1, (sv v2), .int .i64 x3], (sv v4), (sv v5)]) (h := h) (h' := h15) (v := .bool false) (hC := (And.intro l_t (And.intro c20 (And.intro (g_tf c20) (And.intro (g_tf c20) (And.intro (g_tf c20) (And.intro (g_tf c20) (And.intro (g_tf c20) (And.intro (g_tf c20) (And.intro (g_tf c20) (And.intro (g_tf c20) (And.intro (g_tf c20) (And.intro (SlE.len (Heapy.sle (v := u15_0) (xs := y14.1) (enc := enc3) hp15 0 rfl (fun _ => rfl) (by decide))) (And.intro (F14_spec x1 h15 _ rfl) (And.intro c18 (And.intro (SlE.len (Heapy.sle (v := u15_1) (xs := y14.2) (enc := enc3) hp15 1 rfl (fun _ => rfl) (by decide))) (And.intro c15 (And.intro c12 (And.intro c10 (And.intro (g_ff c10) (And.intro (SlE.len hv5) (And.intro (g_ff c10) (And.intro (g_ff c10) (And.intro c8 (And.intro (g_ff c8) (And.intro (SlE.len hv4) (And.intro (g_ff c8) (And.intro (g_ff c8) (And.intro (g_ff l_f) (And.intro (F10_spec x1 l2 x3 v2 h hv2 _ rfl) (And.intro (g_ff l_f) (And.intro (g_ff l_f) (And.intro (F9_spec h _ rfl) trivial))))))))))))))))))))))))))))))))) (hr := by kernel_rfl)⟩
          · refine bind_opt fun y21 e21 => ?_
            obtain ⟨h22, q22, c22⟩ := F15_spec x1 l2 x3 y14.1 v2 u15_0 h15 (Heapy.wf hp15) (SlE.mono hv2 (Heapy.sub hp15) (E29_mono (Heapy.sub hp15))) (Heapy.sle (v := u15_0) (xs := y14.1) (enc := enc3) hp15 0 rfl (fun _ => rfl) (by decide)) _ e21
            have hp22 : Heapy h h22 [⟨u15_0, 3, 1, List.flatMap enc3 y14.1⟩, ⟨u15_1, 3, 1, List.flatMap enc3 y14.2⟩] := Heapy.call hp15 q22
            refine dec_bif (fun c23 => ?_) (fun c23 => ?_)
            · intro hr
              obtain rfl := Option.some.inj hr
              exact ⟨h22, Heapy.pick hp22 [] (by decide), pFun_sound good tab_ok (f := 4) (its := [.g, .g, (.c (.bool true) h), .g, .g, (.w .g), (.w (.c (.bool (F10 x1 l2 x3)) h)), (.w .g), .g, .g, (.w .g), (.w (.ln l4.length)), (.w .g), (.p false), .g, (.w .g), (.w (.ln l5.length)), (.w .g), (.p false), (.b false), .g, .g, .g, .g, .g, .g, .g, (.c (.tuple #[(sv u15_0), (sv u15_1)]) h15), .g, .g, .g, .g, .g, .g, (.ln y14.2.length), .g, (.b false), .g, .g, (.c (.int .i64 (F14 x1)) h15), .g, .g, (.ln y14.1.length), .g, .g, .g, (.w .g), (.w .g), (.w .g), (.w .g), (.w .g), (.w .g), (.w .g), (.w (.c (.int .i64 y21) h22)), (.w .g), (.p false), (.b true), .g]) (args := [.agg #[.int .i64 x1, (sv v2), .int .i64 x3], (sv v4), (sv v5)]) (h := h) (h' := h22) (v := .bool false) (hC := (And.intro c23 (And.intro c20 (And.intro (g_ff c20) (And.intro c22 (And.intro (g_ff c20) (And.intro (g_ff c20) (And.intro (g_ff c20) (And.intro (g_ff c20) (And.intro (g_ff c20) (And.intro (g_ff c20) (And.intro (g_ff c20) (And.intro (g_ff c20) (And.intro (SlE.len (Heapy.sle (v := u15_0) (xs := y14.1) (enc := enc3) hp15 0 rfl (fun _ => rfl) (by decide))) (And.intro (F14_spec x1 h15 _ rfl) (And.intro c18 (And.intro (SlE.len (Heapy.sle (v := u15_1) (xs := y14.2) (enc := enc3) hp15 1 rfl (fun _ => rfl) (by decide))) (And.intro c15 (And.intro c12 (And.intro c10 (And.intro (g_ff c10) (And.intro (SlE.len hv5) (And.intro (g_ff c10) (And.intro (g_ff c10) (And.intro c8 (And.intro (g_ff c8) (And.intro (SlE.len hv4) (And.intro (g_ff c8) (And.intro (g_ff c8) (And.intro (g_ff l_f) (And.intro (F10_spec x1 l2 x3 v2 h hv2 _ rfl) (And.intro (g_ff l_f) (And.intro (g_ff l_f) (And.intro (F9_spec h _ rfl) trivial)))))))))))))))))))))))))))))))))) (hr := by kernel_rfl)⟩
            · refine bind_opt fun y39 e39 => ?_
              have hp24 : Heapy h h22 [⟨⟨none, 0, 0⟩, 3, 1, List.flatMap enc3 ([] : List Int)⟩, ⟨u15_0, 3, 1, List.flatMap enc3 y14.1⟩, ⟨u15_1, 3, 1, List.flatMap enc3 y14.2⟩] := Heapy.nil hp22 3 1
              obtain ⟨ee39, SS39, hX39, hA39⟩ := F4_l1 h x1 v2 x3 l4 v4 hv4 l5 v5 hv5 y14 u15_0 (0, ([] : List Int)) y39 e39 (F4_h1 x1 v2 x3 v4 v5 u15_0 h22 ⟨none, 0, 0⟩ 0 ([] : List Int)) ⟨h22, ⟨none, 0, 0⟩, (Heapy.pick hp24 [1, 0] (by decide)), Strict.nil, rfl⟩
              obtain ⟨rfl, h40, w1_40, hp40, zw1_40, rfl⟩ := hX39
              refine bind_opt fun y41 e41 => ?_
              obtain ⟨u42_0, u42_1, h42, q42, zu42_1, c42⟩ := F13_spec x1 l2 x3 y39 v2 w1_40 h40 (Heapy.wf hp40) (SlE.mono hv2 (Heapy.sub hp40) (E29_mono (Heapy.sub hp40))) (Heapy.sle (v := w1_40) (xs := y39) (enc := enc3) hp40 1 rfl (fun _ => rfl) (by decide)) _ e41
              have hp42 : Heapy h h42 [⟨u42_0, 3, 1, List.flatMap enc3 y41.1⟩, ⟨u42_1, 3, 1, List.flatMap enc3 y41.2⟩, ⟨u15_0, 3, 1, List.flatMap enc3 y14.1⟩, ⟨w1_40, 3, 1, List.flatMap enc3 y39⟩] := Heapy.call hp40 q42
              refine dec_bif (fun c45 => ?_) (fun c45 => ?_)
              · intro hr
                obtain rfl := Option.some.inj hr
                exact ⟨h42, Heapy.pick hp42 [] (by decide), pFun_sound good tab_ok (f := 4) (its := [.g, .g, (.c (.bool true) h), .g, .g, (.w .g), (.w (.c (.bool (F10 x1 l2 x3)) h)), (.w .g), .g, .g, (.w .g), (.w (.ln l4.length)), (.w .g), (.p false), .g, (.w .g), (.w (.ln l5.length)), (.w .g), (.p false), (.b false), .g, .g, .g, .g, .g, .g, .g, (.c (.tuple #[(sv u15_0), (sv u15_1)]) h15), .g, .g, .g, .g, .g, .g, (.ln y14.2.length), .g, (.b false), .g, .g, (.c (.int .i64 (F14 x1)) h15), .g, .g, (.ln y14.1.length), .g, .g, .g, (.w .g), (.w .g), (.w .g), (.w .g), (.w .g), (.w .g), (.w .g), (.w (.c (.int .i64 y21) h22)), (.w .g), (.p false), (.b false), .g, .g, .g, (.l F4_m1_0 [] (.exit 0) (F4_x1_0 h x1 v2 x3 v4 y14 u15_0 h40 w1_40 y39)), .g, .g, .g, .g, .g, .g, .g, (.c (.tuple #[(sv u42_0), (sv u42_1)]) h42), .g, .g, .g, .g, .g, .g, (.ln y41.1.length), .g, .g, (.b true), .g]) (args := [.agg #[.int .i64 x1, (sv v2), .int .i64 x3], (sv v4), (sv v5)]) (h := h) (h' := h42) (v := .bool false) (hC := (And.intro c45 (And.intro (SlE.len (Heapy.sle (v := u42_0) (xs := y41.1) (enc := enc3) hp42 0 rfl (fun _ => rfl) (by decide))) (And.intro c42 (And.intro hA39 (And.intro c23 (And.intro c20 (And.intro (g_ff c20) (And.intro c22 (And.intro (g_ff c20) (And.intro (g_ff c20) (And.intro (g_ff c20) (And.intro (g_ff c20) (And.intro (g_ff c20) (And.intro (g_ff c20) (And.intro (g_ff c20) (And.intro (g_ff c20) (And.intro (SlE.len (Heapy.sle (v := u15_0) (xs := y14.1) (enc := enc3) hp15 0 rfl (fun _ => rfl) (by decide))) (And.intro (F14_spec x1 h15 _ rfl) (And.intro c18 (And.intro (SlE.len (Heapy.sle (v := u15_1) (xs := y14.2) (enc := enc3) hp15 1 rfl (fun _ => rfl) (by decide))) (And.intro c15 (And.intro c12 (And.intro c10 (And.intro (g_ff c10) (And.intro (SlE.len hv5) (And.intro (g_ff c10) (And.intro (g_ff c10) (And.intro c8 (And.intro (g_ff c8) (And.intro (SlE.len hv4) (And.intro (g_ff c8) (And.intro (g_ff c8) (And.intro (g_ff l_f) (And.intro (F10_spec x1 l2 x3 v2 h hv2 _ rfl) (And.intro (g_ff l_f) (And.intro (g_ff l_f) (And.intro (F9_spec h _ rfl) trivial)))))))))))))))))))))))))))))))))))))) (hr := by kernel_rfl)⟩
              · refine bind_opt fun y54 e54 => ?_
                refine dec_bif (fun c55 => ?_) (fun c55 => ?_)
                · intro hr
                  obtain rfl := Option.some.inj hr
                  exact ⟨h42, Heapy.pick hp42 [] (by decide), pFun_sound good tab_ok (f := 4) (its := [.g, .g, (.c (.bool true) h), .g, .g, (.w .g), (.w (.c (.bool (F10 x1 l2 x3)) h)), (.w .g), .g, .g, (.w .g), (.w (.ln l4.length)), (.w .g), (.p false), .g, (.w .g), (.w (.ln l5.length)), (.w .g), (.p false), (.b false), .g, .g, .g, .g, .g, .g, .g, (.c (.tuple #[(sv u15_0), (sv u15_1)]) h15), .g, .g, .g, .g, .g, .g, (.ln y14.2.length), .g, (.b false), .g, .g, (.c (.int .i64 (F14 x1)) h15), .g, .g, (.ln y14.1.length), .g, .g, .g, (.w .g), (.w .g), (.w .g), (.w .g), (.w .g), (.w .g), (.w .g), (.w (.c (.int .i64 y21) h22)), (.w .g), (.p false), (.b false), .g, .g, .g, (.l F4_m1_0 [] (.exit 0) (F4_x1_0 h x1 v2 x3 v4 y14 u15_0 h40 w1_40 y39)), .g, .g, .g, .g, .g, .g, .g, (.c (.tuple #[(sv u42_0), (sv u42_1)]) h42), .g, .g, .g, .g, .g, .g, (.ln y41.1.length), .g, .g, (.b false), .g, .g, (.l F4_m2_1 [3] .ret (F4_x2_0 h42 y54))]) (args := [.agg #[.int .i64 x1, (sv v2), .int .i64 x3], (sv v4), (sv v5)]) (h := h) (h' := h42) (v := .bool false) (hC := (And.intro (F4_l2_0 h x1 l4 v4 hv4 y14 u15_0 y39 w1_40 y41 u42_0 u42_1 h42 hp42 0 y54 e54 c55) (And.intro c45 (And.intro (SlE.len (Heapy.sle (v := u42_0) (xs := y41.1) (enc := enc3) hp42 0 rfl (fun _ => rfl) (by decide))) (And.intro c42 (And.intro hA39 (And.intro c23 (And.intro c20 (And.intro (g_ff c20) (And.intro c22 (And.intro (g_ff c20) (And.intro (g_ff c20) (And.intro (g_ff c20) (And.intro (g_ff c20) (And.intro (g_ff c20) (And.intro (g_ff c20) (And.intro (g_ff c20) (And.intro (g_ff c20) (And.intro (SlE.len (Heapy.sle (v := u15_0) (xs := y14.1) (enc := enc3) hp15 0 rfl (fun _ => rfl) (by decide))) (And.intro (F14_spec x1 h15 _ rfl) (And.intro c18 (And.intro (SlE.len (Heapy.sle (v := u15_1) (xs := y14.2) (enc := enc3) hp15 1 rfl (fun _ => rfl) (by decide))) (And.intro c15 (And.intro c12 (And.intro c10 (And.intro (g_ff c10) (And.intro (SlE.len hv5) (And.intro (g_ff c10) (And.intro (g_ff c10) (And.intro c8 (And.intro (g_ff c8) (And.intro (SlE.len hv4) (And.intro (g_ff c8) (And.intro (g_ff c8) (And.intro (g_ff l_f) (And.intro (F10_spec x1 l2 x3 v2 h hv2 _ rfl) (And.intro (g_ff l_f) (And.intro (g_ff l_f) (And.intro (F9_spec h _ rfl) trivial))))))))))))))))))))))))))))))))))))))) (hr := by kernel_rfl)⟩
                · intro hr
                  obtain rfl := Option.some.inj hr
                  exact ⟨h42, Heapy.pick hp42 [] (by decide), pFun_sound good tab_ok (f := 4) (its := [.g, .g, (.c (.bool true) h), .g, .g, (.w .g), (.w (.c (.bool (F10 x1 l2 x3)) h)), (.w .g), .g, .g, (.w .g), (.w (.ln l4.length)), (.w .g), (.p false), .g, (.w .g), (.w (.ln l5.length)), (.w .g), (.p false), (.b false), .g, .g, .g, .g, .g, .g, .g, (.c (.tuple #[(sv u15_0), (sv u15_1)]) h15), .g, .g, .g, .g, .g, .g, (.ln y14.2.length), .g, (.b false), .g, .g, (.c (.int .i64 (F14 x1)) h15), .g, .g, (.ln y14.1.length), .g, .g, .g, (.w .g), (.w .g), (.w .g), (.w .g), (.w .g), (.w .g), (.w .g), (.w (.c (.int .i64 y21) h22)), (.w .g), (.p false), (.b false), .g, .g, .g, (.l F4_m1_0 [] (.exit 0) (F4_x1_0 h x1 v2 x3 v4 y14 u15_0 h40 w1_40 y39)), .g, .g, .g, .g, .g, .g, .g, (.c (.tuple #[(sv u42_0), (sv u42_1)]) h42), .g, .g, .g, .g, .g, .g, (.ln y41.1.length), .g, .g, (.b false), .g, .g, (.l F4_m2_1 [3] (.exit 2) (F4_x2_1 h42 y54)), .g]) (args := [.agg #[.int .i64 x1, (sv v2), .int .i64 x3], (sv v4), (sv v5)]) (h := h) (h' := h42) (v := .bool true) (hC := (And.intro (F4_l2_1 h x1 l4 v4 hv4 y14 u15_0 y39 w1_40 y41 u42_0 u42_1 h42 hp42 0 y54 e54 c55) (And.intro c45 (And.intro (SlE.len (Heapy.sle (v := u42_0) (xs := y41.1) (enc := enc3) hp42 0 rfl (fun _ => rfl) (by decide))) (And.intro c42 (And.intro hA39 (And.intro c23 (And.intro c20 (And.intro (g_ff c20) (And.intro c22 (And.intro (g_ff c20) (And.intro (g_ff c20) (And.intro (g_ff c20) (And.intro (g_ff c20) (And.intro (g_ff c20) (And.intro (g_ff c20) (And.intro (g_ff c20) (And.intro (g_ff c20) (And.intro (SlE.len (Heapy.sle (v := u15_0) (xs := y14.1) (enc := enc3) hp15 0 rfl (fun _ => rfl) (by decide))) (And.intro (F14_spec x1 h15 _ rfl) (And.intro c18 (And.intro (SlE.len (Heapy.sle (v := u15_1) (xs := y14.2) (enc := enc3) hp15 1 rfl (fun _ => rfl) (by decide))) (And.intro c15 (And.intro c12 (And.intro c10 (And.intro (g_ff c10) (And.intro (SlE.len hv5) (And.intro (g_ff c10) (And.intro (g_ff c10) (And.intro c8 (And.intro (g_ff c8) (And.intro (SlE.len hv4) (And.intro (g_ff c8) (And.intro (g_ff c8) (And.intro (g_ff l_f) (And.intro (F10_spec x1 l2 x3 v2 h hv2 _ rfl) (And.intro (g_ff l_f) (And.intro (g_ff l_f) (And.intro (F9_spec h _ rfl) trivial))))))))))))))))))))))))))))))))))))))) (hr := by kernel_rfl)⟩
set_option maxRecDepth 100000 in
theorem F4_law (H : ∀ (x1 : Int) (l2 : List (Int × Int × Int × Int)) (x3 : Int) (l4 : List Int) (l5 : List Int), (Lit.int .i64 x1).wf = true → (l2.length ≤ maxLen ∧ l2.length * 32 ≤ reachBytes) → (∀ y ∈ l2, W29 y) → (Lit.int .i64 x3).wf = true → (l4.length ≤ maxLen ∧ l4.length * 8 ≤ reachBytes) → (∀ y ∈ l4, W3 y) → (l5.length ≤ maxLen ∧ l5.length * 8 ≤ reachBytes) → (∀ y ∈ l5, W3 y) → F4 x1 l2 x3 l4 l5 = some true) : Law Try.prog 4 10 [24, 25, 25] := by
  intro s us hwf hro hT0
  obtain ⟨u0, vs0, rfl, t0, hT1⟩ := wts_cons hT0
  obtain ⟨cs0, rfl, k0⟩ := wtv_aggS 4 (ks := [.int .i64, .slice 29, .int .i64]) (by kernel_rfl) (by kernel_rfl) t0
  obtain ⟨x1, r_x1, rfl, w_x1, k0_0⟩ := sq_int k0
  obtain ⟨v2, r_l2, rfl, q_l2, k0_1⟩ := sq_slice k0_0
  obtain ⟨l2, a_l2, m_l2, w_l2⟩ := q_l2 E29 W29 4 (by kernel_rfl) fun n cs H => E29_wt H
  obtain ⟨x3, r_x3, rfl, w_x3, k0_2⟩ := sq_int k0_1
  obtain rfl := sq_nil k0_2
  obtain ⟨u1, vs1, rfl, t1, hT2⟩ := wts_cons hT1
  have k1 := wtv_oneS 2 (ks := [.slice 3]) (by kernel_rfl) (by kernel_rfl) t1
  obtain ⟨v4, r_l4, e_l4, q_l4, k1_0⟩ := sq_slice k1
  obtain ⟨l4, a_l4, m_l4, w_l4⟩ := q_l4 E3 W3 1 (by kernel_rfl) fun n cs H => E3_wt H
  obtain ⟨rfl, rfl⟩ := List.cons.inj e_l4
  have k1_0' := sq_nil k1_0
  obtain ⟨u2, vs2, rfl, t2, hT3⟩ := wts_cons hT2
  have k2 := wtv_oneS 2 (ks := [.slice 3]) (by kernel_rfl) (by kernel_rfl) t2
  obtain ⟨v5, r_l5, e_l5, q_l5, k2_0⟩ := sq_slice k2
  obtain ⟨l5, a_l5, m_l5, w_l5⟩ := q_l5 E3 W3 1 (by kernel_rfl) fun n cs H => E3_wt H
  obtain ⟨rfl, rfl⟩ := List.cons.inj e_l5
  have k2_0' := sq_nil k2_0
  obtain rfl := wts_nil hT3
  obtain ⟨h2, _, hc⟩ := F4_spec x1 l2 x3 l4 l5 v2 v4 v5 s hwf a_l2 a_l4 a_l5 _ (H x1 l2 x3 l4 l5 w_x1 m_l2 w_l2 w_x3 m_l4 w_l4 m_l5 w_l5)
  refine (hc).mono ?_
  rintro v h' ⟨rfl, rfl⟩
  rfl
end
end Go.Proofs.Ytpmbcnknnolojaa.Abs
