/-
  Contracts, written by program: for each function what its call yields, and that it yields it.
-/
import Derived.Test.YtofnegejldgdbaaScc
namespace Go.Proofs.Ytofnegejldgdbaa.Abs
open Go
set_option linter.unusedVariables false
set_option linter.unusedSimpArgs false

noncomputable section
/-! 23 jacquard/schedcheck.Clashes -/
def F23_L : List Nat := [2, 3, 8, 9]
def F23_D : List (Nat × List (Nat × Nat)) := [(11, [(0, 2), (1, 2), (2, 2), (3, 2), (4, 2), (5, 2), (6, 2), (7, 2), (8, 2), (9, 0)]), (15, [(0, 2), (1, 2), (2, 2), (3, 2), (4, 2), (5, 2), (6, 2), (7, 2), (8, 2), (9, 2), (10, 2), (11, 2), (12, 2), (13, 2), (14, 2), (15, 2), (16, 2), (17, 2), (18, 2), (19, 2), (20, 1)])]
def F23_m1_0 : List Bool := [true, true, false, false, true, false, false, false, false, true, true, true, true, true, true, true, true, true, false, false, false, true, true, true, true, true, true, true, true, true, true, true, true, true, true, true, true, true, true, true, true, true, true, true, true, true, true, true, true, true, true, true, true, true, true, true, true, true, true, true, true, true, true, true, true, true, true, true, true, true, true, true, true, true, true, true, true, true, true, true, true, true, true, true, true, true, true, true, true, true, true, true, true, true, true, true, true, true, true]
def F23_s1 (x3 : Bool) (x7 : Int) (a19 : Int) (l20 : List (Int × Int)) (y24 : Int × Int)  : Option (List (Int × Int)) :=
  (bif x3 then
   (bif decide (y24.2 > x7) then
    (bif (!(okApp (l20.length + ([(a19, a19)] : List (Int × Int)).length) 16)) then none else
    some (l20 ++ ([(a19, a19)] : List (Int × Int))))
   else
    some (l20))
  else
   some (l20))
def F23_h1 (x1 : Int) (x2 : Int) (x3 : Bool) (v4 : Hd) (v5 : Hd) (l6 : List (Int × Int)) (v6 : Hd) (x7 : Int) (x8 : Int) (v9 : Hd) (v10 : Hd) (v11 : Hd) (id15 : Nat) (a19 : Int) (u20 : Hd) (y24 : Int × Int) (h26 : AHeap)  : AS := ⟨[junk, junk, .pointer (some ⟨2, 0, none⟩), .pointer (some ⟨3, 0, none⟩), junk, (sv u20), .map (some id15), .int .i64 a19, .pointer (some ⟨8, 0, none⟩), junk, junk, junk, junk, junk, junk, junk, junk, junk, (sv v6), .int .i64 (l6.length : Int), .int .i64 a19, junk, junk, junk, junk, junk, junk, junk, junk, junk, junk, junk, junk, junk, junk, junk, junk, junk, junk, junk, junk, junk, junk, junk, junk, junk, junk, junk, junk, junk, junk, junk, junk, junk, junk, junk, junk, junk, junk, junk, junk, junk, junk, junk, junk, junk, junk, junk, junk, junk, junk, junk, junk, junk, junk, junk, junk, junk, junk, junk, junk, junk, junk, junk, junk, junk, junk, junk, junk, junk, junk, junk, junk, junk, junk, junk, junk, junk, junk], [(2, [.int .i64 x1, .int .i64 x2, .bool x3, (sv v4), (sv v5), (sv v6)]), (3, [.int .i64 x7, .int .i64 x8, (sv v9), (sv v10), (sv v11)]), (8, [.int .i64 y24.1, .int .i64 y24.2])], h26⟩
theorem F23_d1 : drawsOk F23_D (codeOf Try.prog 23 [1, 1, 1, 1, 0, 1, 0, 0, 1, 1, 0, 0, 1, 1, 0]) = true := by kernel_rfl
def F23_x1_0 (h : AHeap) (x1 : Int) (x2 : Int) (x3 : Bool) (v4 : Hd) (v5 : Hd) (l6 : List (Int × Int)) (v6 : Hd) (x7 : Int) (x8 : Int) (v9 : Hd) (v10 : Hd) (v11 : Hd) (id15 : Nat) (a19 : Int) (l21 : List ((Int × Int) × List Int)) (u21 : List Hd) (y24 : Int × Int) (hx : AHeap) (w0 : Hd) (r : (List (Int × Int))) : AS := ⟨[junk, junk, .pointer (some ⟨2, 0, none⟩), .pointer (some ⟨3, 0, none⟩), junk, (sv w0), .map (some id15), .int .i64 a19, .pointer (some ⟨8, 0, none⟩), junk, junk, junk, junk, junk, junk, junk, junk, junk, (sv v6), .int .i64 (l6.length : Int), .int .i64 a19, junk, junk, junk, junk, junk, junk, junk, junk, junk, junk, junk, junk, junk, junk, junk, junk, junk, junk, junk, junk, junk, junk, junk, junk, junk, junk, junk, junk, junk, junk, junk, junk, junk, junk, junk, junk, junk, junk, junk, junk, junk, junk, junk, junk, junk, junk, junk, junk, junk, junk, junk, junk, junk, junk, junk, junk, junk, junk, junk, junk, junk, junk, junk, junk, junk, junk, junk, junk, junk, junk, junk, junk, junk, junk, junk, junk, junk, junk], [(2, [.int .i64 x1, .int .i64 x2, .bool x3, (sv v4), (sv v5), (sv v6)]), (3, [.int .i64 x7, .int .i64 x8, (sv v9), (sv v10), (sv v11)]), (8, [.int .i64 y24.1, .int .i64 y24.2])], hx⟩
def F23_i1 (h : AHeap) (x1 : Int) (x2 : Int) (x3 : Bool) (v4 : Hd) (v5 : Hd) (l6 : List (Int × Int)) (v6 : Hd) (x7 : Int) (x8 : Int) (v9 : Hd) (v10 : Hd) (v11 : Hd) (id15 : Nat) (a19 : Int) (l20 : List (Int × Int)) (u20 : Hd) (l21 : List ((Int × Int) × List Int)) (u21 : List Hd) (y24 : Int × Int) (s : Unit) (S : AS) : Prop := ∃ (h26 : AHeap), Heapy h h26 ([⟨u20, 43, 2, List.flatMap enc43 l20⟩, mrow id15 (q2 .i64) u21 l21] ++ MIn 3 1 enc3 u21 l21) ∧ S = (F23_h1 x1 x2 x3 v4 v5 l6 v6 x7 x8 v9 v10 v11 id15 a19 u20 y24 h26)
def F23_x1 (h : AHeap) (x1 : Int) (x2 : Int) (x3 : Bool) (v4 : Hd) (v5 : Hd) (l6 : List (Int × Int)) (v6 : Hd) (x7 : Int) (x8 : Int) (v9 : Hd) (v10 : Hd) (v11 : Hd) (id15 : Nat) (a19 : Int) (l21 : List ((Int × Int) × List Int)) (u21 : List Hd) (y24 : Int × Int) (r : (List (Int × Int))) (e : Exit) (S : AS) : Prop := e = .normal ∧ ∃ (hx : AHeap) (w0 : Hd), Heapy h hx ([⟨w0, 43, 2, List.flatMap enc43 r⟩, mrow id15 (q2 .i64) u21 l21] ++ MIn 3 1 enc3 u21 l21) ∧ Strict w0 ∧ S = (F23_x1_0 h x1 x2 x3 v4 v5 l6 v6 x7 x8 v9 v10 v11 id15 a19 l21 u21 y24 hx w0 r)
set_option maxRecDepth 100000 in
theorem F23_l1 (h : AHeap) (x1 : Int) (x2 : Int) (x3 : Bool) (v4 : Hd) (v5 : Hd) (l6 : List (Int × Int)) (v6 : Hd) (x7 : Int) (x8 : Int) (v9 : Hd) (v10 : Hd) (v11 : Hd) (id15 : Nat) (a19 : Int) (l20 : List (Int × Int)) (u20 : Hd) (z20 : Strict u20) (l21 : List ((Int × Int) × List Int)) (u21 : List Hd) (y24 : Int × Int) (S : AS) (hI : (F23_i1 h x1 x2 x3 v4 v5 l6 v6 x7 x8 v9 v10 v11 id15 a19 l20 u20 l21 u21 y24) () S) (r : (List (Int × Int))) : F23_s1 x3 x7 a19 l20 y24 = some r → ∃ e S', (F23_x1 h x1 x2 x3 v4 v5 l6 v6 x7 x8 v9 v10 v11 id15 a19 l21 u21 y24) r e S' ∧ AWp Try.prog (codeOf Try.prog 23 [1, 1, 1, 1, 0, 1, 0, 0, 1, 1, 0, 0, 1, 1, 0]) (Ends1 e S') S := by
  obtain ⟨h26, hp26, rfl⟩ := hI
  unfold F23_s1
  refine dec_bif (fun c27 => ?_) (fun c27 => ?_)
  · refine dec_bif (fun c28 => ?_) (fun c28 => ?_)
    · obtain ⟨v29, h29, m29, hp29, _⟩ := Heapy.build (P := Try.prog) hp26 (t := 41) (e := 43) (len := 1) (n := 2) (parts := [(0, .agg #[.int .i64 a19, .int .i64 a19])]) (cells := List.flatMap enc43 ([(a19, a19)] : List (Int × Int))) (by kernel_rfl) rfl
      refine guard_ok fun g31 => ?_
      obtain ⟨v32, h32, m32, q32, _, w32⟩ := Heapy.append hp29 (show mkInfo Try.prog 41 = some (43, 2, 16, [.int .i64 0, .int .i64 0]) by kernel_rfl) 1 (v := u20) (cells := List.flatMap enc43 l20) rfl (Y := (sv v29)) (SlE.src (enc := enc43) (c := 2) (Heapy.sle (v := v29) (xs := ([(a19, a19)] : List (Int × Int))) (enc := enc43) hp29 0 rfl (fun _ => rfl) (by decide)) (fun _ => rfl)) (flatMap_length (enc := enc43) (c := 2) (fun _ => rfl) _) (by rw [Heapy.vn (v := u20) (xs := l20) (enc := enc43) hp29 1 rfl (fun _ => rfl) (by decide)]; simpa using g31)
      have z32 : Strict v32 := w32 z20
      have hp32 : Heapy h h32 ([⟨v29, 43, 2, List.flatMap enc43 ([(a19, a19)] : List (Int × Int))⟩, ⟨v32, 43, 2, List.flatMap enc43 (l20 ++ ([(a19, a19)] : List (Int × Int)))⟩, mrow id15 (q2 .i64) u21 l21] ++ MIn 3 1 enc3 u21 l21) := by rw [← List.flatMap_append] at q32; exact q32
      intro hr
      obtain rfl := Option.some.inj hr
      refine ⟨.normal, (F23_x1_0 h x1 x2 x3 v4 v5 l6 v6 x7 x8 v9 v10 v11 id15 a19 l21 u21 y24 h32 v32 ((l20 ++ ([(a19, a19)] : List (Int × Int))) : (List (Int × Int)))), ?_, pEnd_sound good (L := F23_L) (D := F23_D) (its := [.g, .g, .g, (.w .g), (.w .g), (.w .g), (.w .g), (.w .g), (.p true), (.b true), .g, .g, .g, .g, (.mm (sv v29) h29), (.mm (sv v32) h32), .g]) (ds := F23_m1_0) (ks := []) (e := .normal) (s2 := (F23_x1_0 h x1 x2 x3 v4 v5 l6 v6 x7 x8 v9 v10 v11 id15 a19 l21 u21 y24 h32 v32 ((l20 ++ ([(a19, a19)] : List (Int × Int))) : (List (Int × Int))))) (hC := (ai m32 (ai m29 (ai c28 (ai c27 (ai (g_tt c27) (ai (g_tt c27) (ai (g_tt c27) (ai (g_tt c27) (ai (g_tt c27) trivial)))))))))) (hd := F23_d1) (h := by kernel_rfl)⟩
      exact ⟨rfl, h32, v32, (Heapy.pickN2 (A := [⟨v29, 43, 2, List.flatMap enc43 ([(a19, a19)] : List (Int × Int))⟩, ⟨v32, 43, 2, List.flatMap enc43 (l20 ++ ([(a19, a19)] : List (Int × Int)))⟩, mrow id15 (q2 .i64) u21 l21]) (N := MIn 3 1 enc3 u21 l21) hp32 3 rfl [1, 2] (by decide) rfl), z32, rfl⟩
    · intro hr
      obtain rfl := Option.some.inj hr
      refine ⟨.normal, (F23_x1_0 h x1 x2 x3 v4 v5 l6 v6 x7 x8 v9 v10 v11 id15 a19 l21 u21 y24 h26 u20 (l20 : (List (Int × Int)))), ?_, pEnd_sound good (L := F23_L) (D := F23_D) (its := [.g, .g, .g, (.w .g), (.w .g), (.w .g), (.w .g), (.w .g), (.p true), (.b false)]) (ds := F23_m1_0) (ks := []) (e := .normal) (s2 := (F23_x1_0 h x1 x2 x3 v4 v5 l6 v6 x7 x8 v9 v10 v11 id15 a19 l21 u21 y24 h26 u20 (l20 : (List (Int × Int))))) (hC := (ai c28 (ai c27 (ai (g_tt c27) (ai (g_tt c27) (ai (g_tt c27) (ai (g_tt c27) (ai (g_tt c27) trivial)))))))) (hd := F23_d1) (h := by kernel_rfl)⟩
      exact ⟨rfl, h26, u20, (Heapy.pickN2 (A := [⟨u20, 43, 2, List.flatMap enc43 l20⟩, mrow id15 (q2 .i64) u21 l21]) (N := MIn 3 1 enc3 u21 l21) hp26 2 rfl [0, 1] (by decide) rfl), z20, rfl⟩
  · intro hr
    obtain rfl := Option.some.inj hr
    refine ⟨.normal, (F23_x1_0 h x1 x2 x3 v4 v5 l6 v6 x7 x8 v9 v10 v11 id15 a19 l21 u21 y24 h26 u20 (l20 : (List (Int × Int)))), ?_, pEnd_sound good (L := F23_L) (D := F23_D) (its := [.g, .g, .g, .n, .n, .n, .n, .n, (.p false), (.b false)]) (ds := F23_m1_0) (ks := []) (e := .normal) (s2 := (F23_x1_0 h x1 x2 x3 v4 v5 l6 v6 x7 x8 v9 v10 v11 id15 a19 l21 u21 y24 h26 u20 (l20 : (List (Int × Int))))) (hC := (ai l_f (ai c27 (ai (g_ft c27) (ai (g_ft c27) (ai (g_ft c27) (ai (g_ft c27) (ai (g_ft c27) trivial)))))))) (hd := F23_d1) (h := by kernel_rfl)⟩
    exact ⟨rfl, h26, u20, (Heapy.pickN2 (A := [⟨u20, 43, 2, List.flatMap enc43 l20⟩, mrow id15 (q2 .i64) u21 l21]) (N := MIn 3 1 enc3 u21 l21) hp26 2 rfl [0, 1] (by decide) rfl), z20, rfl⟩
def F23_m2_1 : List Bool := [true, true, false, false, true, false, false, false, true, false, true, true, true, true, true, true, true, true, false, false, false, true, true, true, true, true, true, true, true, true, true, true, true, true, true, true, true, true, true, true, true, true, true, true, true, true, true, true, true, true, true, true, true, true, true, true, true, true, true, true, true, true, true, true, true, true, true, true, true, true, true, true, true, true, true, true, true, true, true, true, true, true, true, true, true, true, true, true, true, true, true, true, true, true, true, true, true, true, true]
def F23_m2_0 : List Bool := [true, true, false, false, true, false, false, false, false, false, true, true, true, true, true, true, true, true, false, false, false, true, true, true, true, true, true, true, true, true, true, true, true, true, true, true, true, true, true, true, true, true, true, true, true, true, true, true, true, true, true, true, true, false, false, false, true, true, true, true, true, true, true, true, true, true, true, true, true, true, true, true, true, true, true, true, true, true, true, true, true, true, true, true, true, true, true, true, true, true, true, true, true, true, true, true, true, true, true]
def F23_s2 (l6 : List (Int × Int)) (x7 : Int) (l9 : List Int) (a19 : Int) (l21 : List ((Int × Int) × List Int)) (y24 : Int × Int) (y36 : Int) (a37 : Int) (l38 : List (Int × Int)) : Option ((Int × (List (Int × Int))) ⊕ (List (Int × Int))) :=
  (bif decide (a37 < ((mgetL (y24.1, y36) l21).length : Int)) then
   (Option.bind (at? (mgetL (y24.1, y36) l21) a37) fun y41 =>
   (Option.bind (at? l9 y41) fun y42 =>
   (Option.bind (at? l6 y41) fun y43 =>
   (Option.bind (at? l9 a19) fun y44 =>
   (bif (F48 x7 y42 y43.2 y44 y24.2) then
    (bif (!(okApp (l38.length + ([(y41, a19)] : List (Int × Int)).length) 16)) then none else
    some (.inl ((IntKind.i64.wrap (a37 + 1)), (l38 ++ ([(y41, a19)] : List (Int × Int))))))
   else
    some (.inl ((IntKind.i64.wrap (a37 + 1)), l38)))))))
  else
   some (.inr l38))
def F23_h2 (x1 : Int) (x2 : Int) (x3 : Bool) (v4 : Hd) (v5 : Hd) (l6 : List (Int × Int)) (v6 : Hd) (x7 : Int) (x8 : Int) (v9 : Hd) (v10 : Hd) (v11 : Hd) (id15 : Nat) (a19 : Int) (l21 : List ((Int × Int) × List Int)) (u21 : List Hd) (y24 : Int × Int) (y36 : Int) (h39 : AHeap) (u38 : Hd) (a37 : Int) (l38 : List (Int × Int)) : AS := ⟨[junk, junk, .pointer (some ⟨2, 0, none⟩), .pointer (some ⟨3, 0, none⟩), junk, (sv u38), .map (some id15), .int .i64 a19, .pointer (some ⟨8, 0, none⟩), .pointer (some ⟨9, 0, none⟩), junk, junk, junk, junk, junk, junk, junk, junk, (sv v6), .int .i64 (l6.length : Int), .int .i64 a19, junk, junk, junk, junk, junk, junk, junk, junk, junk, junk, junk, junk, junk, junk, junk, junk, junk, junk, junk, junk, junk, junk, junk, junk, junk, junk, junk, junk, junk, junk, junk, junk, (sv (hlook (y24.1, y36) u21 l21)), .int .i64 ((mgetL (y24.1, y36) l21).length : Int), .int .i64 a37, junk, junk, junk, junk, junk, junk, junk, junk, junk, junk, junk, junk, junk, junk, junk, junk, junk, junk, junk, junk, junk, junk, junk, junk, junk, junk, junk, junk, junk, junk, junk, junk, junk, junk, junk, junk, junk, junk, junk, junk, junk, junk, junk], [(2, [.int .i64 x1, .int .i64 x2, .bool x3, (sv v4), (sv v5), (sv v6)]), (3, [.int .i64 x7, .int .i64 x8, (sv v9), (sv v10), (sv v11)]), (8, [.int .i64 y24.1, .int .i64 y24.2]), (9, [.int .i64 y24.1, .int .i64 y36])], h39⟩
theorem F23_d2 : drawsOk F23_D (codeOf Try.prog 23 [1, 1, 1, 1, 0, 1, 0, 0, 1, 1, 0, 0, 1, 1, 1, 1, 0, 1, 0, 0]) = true := by kernel_rfl
def F23_x2_0 (h : AHeap) (x1 : Int) (x2 : Int) (x3 : Bool) (v4 : Hd) (v5 : Hd) (l6 : List (Int × Int)) (v6 : Hd) (x7 : Int) (x8 : Int) (v9 : Hd) (v10 : Hd) (v11 : Hd) (id15 : Nat) (a19 : Int) (l21 : List ((Int × Int) × List Int)) (u21 : List Hd) (y24 : Int × Int) (y36 : Int) (hx : AHeap) (w0 : Hd) (r : (List (Int × Int))) : AS := ⟨[junk, junk, .pointer (some ⟨2, 0, none⟩), .pointer (some ⟨3, 0, none⟩), junk, (sv w0), .map (some id15), .int .i64 a19, junk, .pointer (some ⟨9, 0, none⟩), junk, junk, junk, junk, junk, junk, junk, junk, (sv v6), .int .i64 (l6.length : Int), .int .i64 a19, junk, junk, junk, junk, junk, junk, junk, junk, junk, junk, junk, junk, junk, junk, junk, junk, junk, junk, junk, junk, junk, junk, junk, junk, junk, junk, junk, junk, junk, junk, junk, junk, junk, junk, junk, junk, junk, junk, junk, junk, junk, junk, junk, junk, junk, junk, junk, junk, junk, junk, junk, junk, junk, junk, junk, junk, junk, junk, junk, junk, junk, junk, junk, junk, junk, junk, junk, junk, junk, junk, junk, junk, junk, junk, junk, junk, junk, junk], [(2, [.int .i64 x1, .int .i64 x2, .bool x3, (sv v4), (sv v5), (sv v6)]), (3, [.int .i64 x7, .int .i64 x8, (sv v9), (sv v10), (sv v11)]), (9, [.int .i64 y24.1, .int .i64 y36])], hx⟩
def F23_i2 (h : AHeap) (x1 : Int) (x2 : Int) (x3 : Bool) (v4 : Hd) (v5 : Hd) (l6 : List (Int × Int)) (v6 : Hd) (x7 : Int) (x8 : Int) (v9 : Hd) (v10 : Hd) (v11 : Hd) (id15 : Nat) (a19 : Int) (l21 : List ((Int × Int) × List Int)) (u21 : List Hd) (y24 : Int × Int) (y36 : Int) (s : Int × (List (Int × Int))) (S : AS) : Prop := ∃ (h39 : AHeap) (u38 : Hd), Heapy h h39 ([⟨u38, 43, 2, List.flatMap enc43 s.2⟩, mrow id15 (q2 .i64) u21 l21] ++ MIn 3 1 enc3 u21 l21) ∧ Strict u38 ∧ S = (F23_h2 x1 x2 x3 v4 v5 l6 v6 x7 x8 v9 v10 v11 id15 a19 l21 u21 y24 y36 h39 u38 s.1 s.2)
def F23_x2 (h : AHeap) (x1 : Int) (x2 : Int) (x3 : Bool) (v4 : Hd) (v5 : Hd) (l6 : List (Int × Int)) (v6 : Hd) (x7 : Int) (x8 : Int) (v9 : Hd) (v10 : Hd) (v11 : Hd) (id15 : Nat) (a19 : Int) (l21 : List ((Int × Int) × List Int)) (u21 : List Hd) (y24 : Int × Int) (y36 : Int) (r : (List (Int × Int))) (e : Exit) (S : AS) : Prop := e = (.exit 2) ∧ ∃ (hx : AHeap) (w0 : Hd), Heapy h hx ([⟨w0, 43, 2, List.flatMap enc43 r⟩, mrow id15 (q2 .i64) u21 l21] ++ MIn 3 1 enc3 u21 l21) ∧ Strict w0 ∧ S = (F23_x2_0 h x1 x2 x3 v4 v5 l6 v6 x7 x8 v9 v10 v11 id15 a19 l21 u21 y24 y36 hx w0 r)
set_option maxRecDepth 100000 in
theorem F23_r2 (h : AHeap) (x1 : Int) (x2 : Int) (x3 : Bool) (v4 : Hd) (v5 : Hd) (l6 : List (Int × Int)) (v6 : Hd) (hv6 : SlE E77 2 h (sv v6) l6) (x7 : Int) (x8 : Int) (l9 : List Int) (v9 : Hd) (hv9 : SlE E3 1 h (sv v9) l9) (v10 : Hd) (v11 : Hd) (id15 : Nat) (a19 : Int) (l21 : List ((Int × Int) × List Int)) (u21 : List Hd) (y24 : Int × Int) (y36 : Int) (a37 : Int) (l38 : List (Int × Int)) (S : AS) (hI : (F23_i2 h x1 x2 x3 v4 v5 l6 v6 x7 x8 v9 v10 v11 id15 a19 l21 u21 y24 y36) (a37, l38) S) (o : (Int × (List (Int × Int))) ⊕ (List (Int × Int))) : F23_s2 l6 x7 l9 a19 l21 y24 y36 a37 l38 = some o → Rd Try.prog (codeOf Try.prog 23 [1, 1, 1, 1, 0, 1, 0, 0, 1, 1, 0, 0, 1, 1, 1, 1, 0, 1, 0, 0]) (F23_i2 h x1 x2 x3 v4 v5 l6 v6 x7 x8 v9 v10 v11 id15 a19 l21 u21 y24 y36) (F23_x2 h x1 x2 x3 v4 v5 l6 v6 x7 x8 v9 v10 v11 id15 a19 l21 u21 y24 y36) S o := by
  obtain ⟨h39, u38, hp39, z38, rfl⟩ := hI
  unfold F23_s2
  refine dec_bif (fun c40 => ?_) (fun c40 => ?_)
  · refine bind_opt fun y41 e41 => ?_
    obtain ⟨id41, off41, g41, cs41, ix41, at41, rfl⟩ := SlE.at (Heapy.mnsle (A := [⟨u38, 43, 2, List.flatMap enc43 l38⟩, mrow id15 (q2 .i64) u21 l21]) (el := 3) (c := 1) (enc := enc3) (hs := u21) (xs := l21) hp39 (y24.1, y36) (fun _ => rfl) (by decide)) e41
    refine bind_opt fun y42 e42 => ?_
    obtain ⟨id42, off42, g42, cs42, ix42, at42, rfl⟩ := SlE.at hv9 e42
    refine bind_opt fun y43 e43 => ?_
    obtain ⟨id43, off43, g43, cs43, ix43, at43, rfl⟩ := SlE.at hv6 e43
    refine bind_opt fun y44 e44 => ?_
    obtain ⟨id44, off44, g44, cs44, ix44, at44, rfl⟩ := SlE.at hv9 e44
    refine dec_bif (fun c46 => ?_) (fun c46 => ?_)
    · obtain ⟨v47, h47, m47, hp47, _⟩ := Heapy.build (P := Try.prog) hp39 (t := 41) (e := 43) (len := 1) (n := 2) (parts := [(0, .agg #[.int .i64 y41, .int .i64 a19])]) (cells := List.flatMap enc43 ([(y41, a19)] : List (Int × Int))) (by kernel_rfl) rfl
      refine guard_ok fun g49 => ?_
      obtain ⟨v50, h50, m50, q50, _, w50⟩ := Heapy.append hp47 (show mkInfo Try.prog 41 = some (43, 2, 16, [.int .i64 0, .int .i64 0]) by kernel_rfl) 1 (v := u38) (cells := List.flatMap enc43 l38) rfl (Y := (sv v47)) (SlE.src (enc := enc43) (c := 2) (Heapy.sle (v := v47) (xs := ([(y41, a19)] : List (Int × Int))) (enc := enc43) hp47 0 rfl (fun _ => rfl) (by decide)) (fun _ => rfl)) (flatMap_length (enc := enc43) (c := 2) (fun _ => rfl) _) (by rw [Heapy.vn (v := u38) (xs := l38) (enc := enc43) hp47 1 rfl (fun _ => rfl) (by decide)]; simpa using g49)
      have z50 : Strict v50 := w50 z38
      have hp50 : Heapy h h50 ([⟨v47, 43, 2, List.flatMap enc43 ([(y41, a19)] : List (Int × Int))⟩, ⟨v50, 43, 2, List.flatMap enc43 (l38 ++ ([(y41, a19)] : List (Int × Int)))⟩, mrow id15 (q2 .i64) u21 l21] ++ MIn 3 1 enc3 u21 l21) := by rw [← List.flatMap_append] at q50; exact q50
      intro hr
      obtain rfl := Option.some.inj hr
      exact ⟨(F23_h2 x1 x2 x3 v4 v5 l6 v6 x7 x8 v9 v10 v11 id15 a19 l21 u21 y24 y36 h50 v50 (IntKind.i64.wrap (a37 + 1)) (l38 ++ ([(y41, a19)] : List (Int × Int)))), ⟨h50, v50, (Heapy.pickN2 (A := [⟨v47, 43, 2, List.flatMap enc43 ([(y41, a19)] : List (Int × Int))⟩, ⟨v50, 43, 2, List.flatMap enc43 (l38 ++ ([(y41, a19)] : List (Int × Int)))⟩, mrow id15 (q2 .i64) u21 l21]) (N := MIn 3 1 enc3 u21 l21) hp50 3 rfl [1, 2] (by decide) rfl), z50, rfl⟩, pEnd_sound good (L := F23_L) (D := F23_D) (its := [.g, (.b true), (.ix id41 off41 g41), (.ld (.int .i64 y41)), .g, .g, .g, .g, .g, .g, (.ix id42 off42 g42), (.ld (.int .i64 y42)), .g, .g, .g, (.ix id43 off43 g43), .g, (.ld (.int .i64 y43.2)), .g, .g, .g, (.ix id44 off44 g44), (.ld (.int .i64 y44)), .g, .g, (.c (.bool (F48 x7 y42 y43.2 y44 y24.2)) h39), (.b true), .g, .g, .g, .g, (.mm (sv v47) h47), (.mm (sv v50) h50), .g, .g, .g]) (ds := F23_m2_0) (ks := []) (e := .normal) (s2 := (F23_h2 x1 x2 x3 v4 v5 l6 v6 x7 x8 v9 v10 v11 id15 a19 l21 u21 y24 y36 h50 v50 (IntKind.i64.wrap (a37 + 1)) (l38 ++ ([(y41, a19)] : List (Int × Int))))) (hC := (ai m50 (ai m47 (ai c46 (ai (show AKeep h39 h39 from (AHeap.sub_refl h39)) (ai (F48_spec x7 y42 y43.2 y44 y24.2 h39 _ rfl) (ai (At.one (P := Try.prog) (t := 3) (v := .int .i64 y44) (At.mono (Heapy.sub hp39) at44) (by kernel_rfl) 0 rfl rfl) (ai ix44 (ai (At.one (P := Try.prog) (t := 3) (v := .int .i64 y43.2) (At.mono (Heapy.sub hp39) at43) (by kernel_rfl) 1 rfl rfl) (ai ix43 (ai (At.one (P := Try.prog) (t := 3) (v := .int .i64 y42) (At.mono (Heapy.sub hp39) at42) (by kernel_rfl) 0 rfl rfl) (ai ix42 (ai (At.one (P := Try.prog) (t := 3) (v := .int .i64 y41) at41 (by kernel_rfl) 0 rfl rfl) (ai ix41 (ai c40 trivial))))))))))))))) (hd := F23_d2) (h := by kernel_rfl)⟩
    · intro hr
      obtain rfl := Option.some.inj hr
      exact ⟨(F23_h2 x1 x2 x3 v4 v5 l6 v6 x7 x8 v9 v10 v11 id15 a19 l21 u21 y24 y36 h39 u38 (IntKind.i64.wrap (a37 + 1)) l38), ⟨h39, u38, (Heapy.pickN2 (A := [⟨u38, 43, 2, List.flatMap enc43 l38⟩, mrow id15 (q2 .i64) u21 l21]) (N := MIn 3 1 enc3 u21 l21) hp39 2 rfl [0, 1] (by decide) rfl), z38, rfl⟩, pEnd_sound good (L := F23_L) (D := F23_D) (its := [.g, (.b true), (.ix id41 off41 g41), (.ld (.int .i64 y41)), .g, .g, .g, .g, .g, .g, (.ix id42 off42 g42), (.ld (.int .i64 y42)), .g, .g, .g, (.ix id43 off43 g43), .g, (.ld (.int .i64 y43.2)), .g, .g, .g, (.ix id44 off44 g44), (.ld (.int .i64 y44)), .g, .g, (.c (.bool (F48 x7 y42 y43.2 y44 y24.2)) h39), (.b false), .g, .g]) (ds := F23_m2_0) (ks := []) (e := .normal) (s2 := (F23_h2 x1 x2 x3 v4 v5 l6 v6 x7 x8 v9 v10 v11 id15 a19 l21 u21 y24 y36 h39 u38 (IntKind.i64.wrap (a37 + 1)) l38)) (hC := (ai c46 (ai (show AKeep h39 h39 from (AHeap.sub_refl h39)) (ai (F48_spec x7 y42 y43.2 y44 y24.2 h39 _ rfl) (ai (At.one (P := Try.prog) (t := 3) (v := .int .i64 y44) (At.mono (Heapy.sub hp39) at44) (by kernel_rfl) 0 rfl rfl) (ai ix44 (ai (At.one (P := Try.prog) (t := 3) (v := .int .i64 y43.2) (At.mono (Heapy.sub hp39) at43) (by kernel_rfl) 1 rfl rfl) (ai ix43 (ai (At.one (P := Try.prog) (t := 3) (v := .int .i64 y42) (At.mono (Heapy.sub hp39) at42) (by kernel_rfl) 0 rfl rfl) (ai ix42 (ai (At.one (P := Try.prog) (t := 3) (v := .int .i64 y41) at41 (by kernel_rfl) 0 rfl rfl) (ai ix41 (ai c40 trivial))))))))))))) (hd := F23_d2) (h := by kernel_rfl)⟩
  · intro hr
    obtain rfl := Option.some.inj hr
    refine ⟨(.exit 2), (F23_x2_0 h x1 x2 x3 v4 v5 l6 v6 x7 x8 v9 v10 v11 id15 a19 l21 u21 y24 y36 h39 u38 (l38 : (List (Int × Int)))), (by intro hh; cases hh), ?_, pEnd_sound good (L := F23_L) (D := F23_D) (its := [.g, (.b false)]) (ds := F23_m2_1) (ks := [8]) (e := (.exit 2)) (s2 := (F23_x2_0 h x1 x2 x3 v4 v5 l6 v6 x7 x8 v9 v10 v11 id15 a19 l21 u21 y24 y36 h39 u38 (l38 : (List (Int × Int))))) (hC := (ai c40 trivial)) (hd := F23_d2) (h := by kernel_rfl)⟩
    exact ⟨rfl, h39, u38, (Heapy.pickN2 (A := [⟨u38, 43, 2, List.flatMap enc43 l38⟩, mrow id15 (q2 .i64) u21 l21]) (N := MIn 3 1 enc3 u21 l21) hp39 2 rfl [0, 1] (by decide) rfl), z38, rfl⟩
theorem F23_l2 (h : AHeap) (x1 : Int) (x2 : Int) (x3 : Bool) (v4 : Hd) (v5 : Hd) (l6 : List (Int × Int)) (v6 : Hd) (hv6 : SlE E77 2 h (sv v6) l6) (x7 : Int) (x8 : Int) (l9 : List Int) (v9 : Hd) (hv9 : SlE E3 1 h (sv v9) l9) (v10 : Hd) (v11 : Hd) (id15 : Nat) (a19 : Int) (l21 : List ((Int × Int) × List Int)) (u21 : List Hd) (y24 : Int × Int) (y36 : Int) (x : Int × (List (Int × Int))) (r : (List (Int × Int))) (hl : loopO (fun (s : Int × (List (Int × Int))) => F23_s2 l6 x7 l9 a19 l21 y24 y36 s.1 s.2) x = some r) (S : AS) (hI : (F23_i2 h x1 x2 x3 v4 v5 l6 v6 x7 x8 v9 v10 v11 id15 a19 l21 u21 y24 y36) x S) : ∃ e S', (F23_x2 h x1 x2 x3 v4 v5 l6 v6 x7 x8 v9 v10 v11 id15 a19 l21 u21 y24 y36) r e S' ∧ AWp Try.prog (.loop (codeOf Try.prog 23 [1, 1, 1, 1, 0, 1, 0, 0, 1, 1, 0, 0, 1, 1, 1, 1, 0, 1, 0, 0])) (Ends1 e S') S :=
  loop_rel (fun x S hI => F23_r2 h x1 x2 x3 v4 v5 l6 v6 hv6 x7 x8 l9 v9 hv9 v10 v11 id15 a19 l21 u21 y24 y36 x.1 x.2 S hI) hl hI
def F23_m3_1 : List Bool := [true, true, true, true, true, false, true, true, true, true, true, true, true, true, true, true, true, true, true, true, true, true, true, true, true, true, true, true, true, true, true, true, true, true, true, true, true, true, true, true, true, true, true, true, true, true, true, true, true, true, true, true, true, true, true, true, true, true, true, true, true, true, true, true, true, true, true, true, true, true, true, true, true, true, true, true, true, true, true, true, true, true, true, true, true, true, true, true, true, true, true, true, true, true, true, true, true, true, true]
def F23_m3_0 : List Bool := [true, true, false, false, true, false, false, true, true, true, true, true, true, true, true, true, true, true, false, false, false, true, true, true, true, true, true, true, true, true, true, true, true, true, true, true, true, true, true, true, true, true, true, true, true, true, true, true, true, true, true, true, true, true, true, true, true, true, true, true, true, true, true, true, true, true, true, true, true, true, true, true, true, true, true, true, true, true, true, true, true, true, true, true, true, true, true, true, true, true, true, true, true, true, true, true, true, true, true]
def F23_s3 (x3 : Bool) (l6 : List (Int × Int)) (x7 : Int) (l9 : List Int) (l11 : List Int) (a19 : Int) (l20 : List (Int × Int)) (l21 : List ((Int × Int) × List Int)) : Option ((Int × (List (Int × Int)) × (List ((Int × Int) × List Int))) ⊕ (List (Int × Int))) :=
  (bif decide (a19 < (l6.length : Int)) then
   (Option.bind (at? l6 a19) fun y24 =>
   (bif decide (y24.1 < 0) then
    some (.inl ((IntKind.i64.wrap (a19 + 1)), l20, l21))
   else
    (Option.bind (F23_s1 x3 x7 a19 l20 y24) fun y34 =>
    (Option.bind (at? l11 a19) fun y36 =>
    (Option.bind (loopO (fun (s : Int × (List (Int × Int))) => F23_s2 l6 x7 l9 a19 l21 y24 y36 s.1 s.2) (0, y34)) fun y52 =>
    (bif (!(okApp ((mgetL (y24.1, y36) (mens (y24.1, y36) l21)).length + ([a19] : List Int).length) 8)) then none else
    some (.inl ((IntKind.i64.wrap (a19 + 1)), y52, (mappL (y24.1, y36) ([a19] : List Int) l21)))))))))
  else
   some (.inr l20))
def F23_h3 (x1 : Int) (x2 : Int) (x3 : Bool) (v4 : Hd) (v5 : Hd) (l6 : List (Int × Int)) (v6 : Hd) (x7 : Int) (x8 : Int) (v9 : Hd) (v10 : Hd) (v11 : Hd) (id15 : Nat) (h22 : AHeap) (u20 : Hd) (u21 : List Hd) (a19 : Int) (l20 : List (Int × Int)) (l21 : List ((Int × Int) × List Int)) : AS := ⟨[junk, junk, .pointer (some ⟨2, 0, none⟩), .pointer (some ⟨3, 0, none⟩), junk, (sv u20), .map (some id15), junk, junk, junk, junk, junk, junk, junk, junk, junk, junk, junk, (sv v6), .int .i64 (l6.length : Int), .int .i64 a19, junk, junk, junk, junk, junk, junk, junk, junk, junk, junk, junk, junk, junk, junk, junk, junk, junk, junk, junk, junk, junk, junk, junk, junk, junk, junk, junk, junk, junk, junk, junk, junk, junk, junk, junk, junk, junk, junk, junk, junk, junk, junk, junk, junk, junk, junk, junk, junk, junk, junk, junk, junk, junk, junk, junk, junk, junk, junk, junk, junk, junk, junk, junk, junk, junk, junk, junk, junk, junk, junk, junk, junk, junk, junk, junk, junk, junk, junk], [(2, [.int .i64 x1, .int .i64 x2, .bool x3, (sv v4), (sv v5), (sv v6)]), (3, [.int .i64 x7, .int .i64 x8, (sv v9), (sv v10), (sv v11)])], h22⟩
theorem F23_d3 : drawsOk F23_D (codeOf Try.prog 23 [1, 1, 1, 1, 0, 1, 0, 0]) = true := by kernel_rfl
def F23_x3_0 (h : AHeap) (hx : AHeap) (w0 : Hd) (r : (List (Int × Int))) : AS := ⟨[junk, junk, junk, junk, junk, (sv w0), junk, junk, junk, junk, junk, junk, junk, junk, junk, junk, junk, junk, junk, junk, junk, junk, junk, junk, junk, junk, junk, junk, junk, junk, junk, junk, junk, junk, junk, junk, junk, junk, junk, junk, junk, junk, junk, junk, junk, junk, junk, junk, junk, junk, junk, junk, junk, junk, junk, junk, junk, junk, junk, junk, junk, junk, junk, junk, junk, junk, junk, junk, junk, junk, junk, junk, junk, junk, junk, junk, junk, junk, junk, junk, junk, junk, junk, junk, junk, junk, junk, junk, junk, junk, junk, junk, junk, junk, junk, junk, junk, junk, junk], [], hx⟩
def F23_i3 (h : AHeap) (x1 : Int) (x2 : Int) (x3 : Bool) (v4 : Hd) (v5 : Hd) (l6 : List (Int × Int)) (v6 : Hd) (x7 : Int) (x8 : Int) (v9 : Hd) (v10 : Hd) (v11 : Hd) (id15 : Nat) (s : Int × (List (Int × Int)) × (List ((Int × Int) × List Int))) (S : AS) : Prop := ∃ (h22 : AHeap) (u20 : Hd) (u21 : List Hd), Heapy h h22 ([⟨u20, 43, 2, List.flatMap enc43 s.2.1⟩, mrow id15 (q2 .i64) u21 s.2.2] ++ MIn 3 1 enc3 u21 s.2.2) ∧ Strict u20 ∧ S = (F23_h3 x1 x2 x3 v4 v5 l6 v6 x7 x8 v9 v10 v11 id15 h22 u20 u21 s.1 s.2.1 s.2.2)
def F23_x3 (h : AHeap) (r : (List (Int × Int))) (e : Exit) (S : AS) : Prop := e = (.exit 0) ∧ ∃ (hx : AHeap) (w0 : Hd), Heapy h hx [⟨w0, 43, 2, List.flatMap enc43 r⟩] ∧ Strict w0 ∧ S = (F23_x3_0 h hx w0 r)
set_option maxRecDepth 100000 in
theorem F23_r3 (h : AHeap) (x1 : Int) (x2 : Int) (x3 : Bool) (v4 : Hd) (v5 : Hd) (l6 : List (Int × Int)) (v6 : Hd) (hv6 : SlE E77 2 h (sv v6) l6) (x7 : Int) (x8 : Int) (l9 : List Int) (v9 : Hd) (hv9 : SlE E3 1 h (sv v9) l9) (v10 : Hd) (l11 : List Int) (v11 : Hd) (hv11 : SlE E3 1 h (sv v11) l11) (id15 : Nat) (a19 : Int) (l20 : List (Int × Int)) (l21 : List ((Int × Int) × List Int)) (S : AS) (hI : (F23_i3 h x1 x2 x3 v4 v5 l6 v6 x7 x8 v9 v10 v11 id15) (a19, l20, l21) S) (o : (Int × (List (Int × Int)) × (List ((Int × Int) × List Int))) ⊕ (List (Int × Int))) : F23_s3 x3 l6 x7 l9 l11 a19 l20 l21 = some o → Rd Try.prog (codeOf Try.prog 23 [1, 1, 1, 1, 0, 1, 0, 0]) (F23_i3 h x1 x2 x3 v4 v5 l6 v6 x7 x8 v9 v10 v11 id15) (F23_x3 h) S o := by
  obtain ⟨h22, u20, u21, hp22, z20, rfl⟩ := hI
  unfold F23_s3
  refine dec_bif (fun c23 => ?_) (fun c23 => ?_)
  · refine bind_opt fun y24 e24 => ?_
    obtain ⟨id24, off24, g24, cs24, ix24, at24, rfl⟩ := SlE.at hv6 e24
    refine dec_bif (fun c25 => ?_) (fun c25 => ?_)
    · intro hr
      obtain rfl := Option.some.inj hr
      exact ⟨(F23_h3 x1 x2 x3 v4 v5 l6 v6 x7 x8 v9 v10 v11 id15 h22 u20 u21 (IntKind.i64.wrap (a19 + 1)) l20 l21), ⟨h22, u20, u21, (Heapy.pickN2 (A := [⟨u20, 43, 2, List.flatMap enc43 l20⟩, mrow id15 (q2 .i64) u21 l21]) (N := MIn 3 1 enc3 u21 l21) hp22 2 rfl [0, 1] (by decide) rfl), z20, rfl⟩, pEnd_sound good (L := F23_L) (D := F23_D) (its := [.g, (.b true), .g, (.ix id24 off24 g24), (.ld (.agg #[.int .i64 y24.1, .int .i64 y24.2])), .g, .g, .g, .g, .g, .g, (.b true), .g, .g]) (ds := F23_m3_0) (ks := [8]) (e := .normal) (s2 := (F23_h3 x1 x2 x3 v4 v5 l6 v6 x7 x8 v9 v10 v11 id15 h22 u20 u21 (IntKind.i64.wrap (a19 + 1)) l20 l21)) (hC := (ai c25 (ai (At.agg (P := Try.prog) (t := 77) (v := .agg #[.int .i64 y24.1, .int .i64 y24.2]) (m := 2) (At.mono (Heapy.sub hp22) at24) (by kernel_rfl) (by kernel_rfl) 0 (by kernel_rfl) rfl) (ai ix24 (ai c23 trivial))))) (hd := F23_d3) (h := by kernel_rfl)⟩
    · refine bind_opt fun y34 e34 => ?_
      obtain ⟨ee34, SS34, hX34, hA34⟩ := F23_l1 h x1 x2 x3 v4 v5 l6 v6 x7 x8 v9 v10 v11 id15 a19 l20 u20 z20 l21 u21 y24 (F23_h1 x1 x2 x3 v4 v5 l6 v6 x7 x8 v9 v10 v11 id15 a19 u20 y24 h22) ⟨h22, (Heapy.pickN2 (A := [⟨u20, 43, 2, List.flatMap enc43 l20⟩, mrow id15 (q2 .i64) u21 l21]) (N := MIn 3 1 enc3 u21 l21) hp22 2 rfl [0, 1] (by decide) rfl), rfl⟩ y34 e34
      obtain ⟨rfl, h35, w0_35, hp35, zw0_35, rfl⟩ := hX34
      refine bind_opt fun y36 e36 => ?_
      obtain ⟨id36, off36, g36, cs36, ix36, at36, rfl⟩ := SlE.at hv11 e36
      refine bind_opt fun y52 e52 => ?_
      obtain ⟨ee52, SS52, hX52, hA52⟩ := F23_l2 h x1 x2 x3 v4 v5 l6 v6 hv6 x7 x8 l9 v9 hv9 v10 v11 id15 a19 l21 u21 y24 y36 (0, y34) y52 e52 (F23_h2 x1 x2 x3 v4 v5 l6 v6 x7 x8 v9 v10 v11 id15 a19 l21 u21 y24 y36 h35 w0_35 0 y34) ⟨h35, w0_35, (Heapy.pickN2 (A := [⟨w0_35, 43, 2, List.flatMap enc43 y34⟩, mrow id15 (q2 .i64) u21 l21]) (N := MIn 3 1 enc3 u21 l21) hp35 2 rfl [0, 1] (by decide) rfl), zw0_35, rfl⟩
      obtain ⟨rfl, h53, w0_53, hp53, zw0_53, rfl⟩ := hX52
      obtain ⟨v54, h54, m54, hp54, _⟩ := Heapy.build (P := Try.prog) hp53 (t := 27) (e := 3) (len := 1) (n := 1) (parts := [(0, .int .i64 a19)]) (cells := List.flatMap enc3 ([a19] : List Int)) (by kernel_rfl) rfl
      obtain ⟨h56, m56, hp56⟩ := Heapy.mnent (P := Try.prog) (A := [⟨v54, 3, 1, List.flatMap enc3 ([a19] : List Int)⟩, ⟨w0_53, 43, 2, List.flatMap enc43 y52⟩, mrow id15 (q2 .i64) u21 l21]) (el := 3) (c := 1) (enc := enc3) (hs := u21) (xs := l21) (q := q2 .i64) hp54 2 (show 2 < 3 by decide) (id := id15) rfl (t := 80) (kt := 43) (et := 27) (kd := .array 2 3) (by kernel_rfl) (by kernel_rfl) (by kernel_rfl) (y24.1, y36) rfl (by kernel_rfl) (fun b => q2_eq (fun _ _ => by kernel_rfl) _ b) (q2_bits _)
      refine guard_ok fun g57 => ?_
      obtain ⟨v58, h58, h58b, m58, m58b, q58⟩ := Heapy.mnapp (P := Try.prog) (A := [⟨v54, 3, 1, List.flatMap enc3 ([a19] : List Int)⟩, ⟨w0_53, 43, 2, List.flatMap enc43 y52⟩, mrow id15 (q2 .i64) (hens (y24.1, y36) u21 l21) (mens (y24.1, y36) l21)]) (el := 3) (c := 1) (enc := enc3) (hs := (hens (y24.1, y36) u21 l21)) (xs := (mens (y24.1, y36) l21)) (q := q2 .i64) hp56 2 (show 2 < 3 by decide) (id := id15) rfl (y24.1, y36) (by rw [midx_mens]; exact mens_len _) (show mkInfo Try.prog 27 = some (3, 1, 8, [.int .i64 0]) by kernel_rfl) (Y := (sv v54)) (SlE.src (enc := enc3) (c := 1) (Heapy.sle (v := v54) (xs := ([a19] : List Int)) (enc := enc3) hp56 0 rfl (fun _ => rfl) (by decide)) (fun _ => rfl)) (fun _ => rfl) (by decide) (by simpa using g57)
      have hp58 : Heapy h h58b ([⟨v54, 3, 1, List.flatMap enc3 ([a19] : List Int)⟩, ⟨w0_53, 43, 2, List.flatMap enc43 y52⟩, mrow id15 (q2 .i64) ((hens (y24.1, y36) u21 l21).set (midx (y24.1, y36) (mens (y24.1, y36) l21)) v58) (mappL (y24.1, y36) ([a19] : List Int) l21)] ++ MIn 3 1 enc3 ((hens (y24.1, y36) u21 l21).set (midx (y24.1, y36) (mens (y24.1, y36) l21)) v58) (mappL (y24.1, y36) ([a19] : List Int) l21)) := by rw [mappL_mens] at q58; exact q58
      intro hr
      obtain rfl := Option.some.inj hr
      exact ⟨(F23_h3 x1 x2 x3 v4 v5 l6 v6 x7 x8 v9 v10 v11 id15 h58b w0_53 ((hens (y24.1, y36) u21 l21).set (midx (y24.1, y36) (mens (y24.1, y36) l21)) v58) (IntKind.i64.wrap (a19 + 1)) y52 (mappL (y24.1, y36) ([a19] : List Int) l21)), ⟨h58b, w0_53, ((hens (y24.1, y36) u21 l21).set (midx (y24.1, y36) (mens (y24.1, y36) l21)) v58), (Heapy.pickN2 (A := [⟨v54, 3, 1, List.flatMap enc3 ([a19] : List Int)⟩, ⟨w0_53, 43, 2, List.flatMap enc43 y52⟩, mrow id15 (q2 .i64) ((hens (y24.1, y36) u21 l21).set (midx (y24.1, y36) (mens (y24.1, y36) l21)) v58) (mappL (y24.1, y36) ([a19] : List Int) l21)]) (N := MIn 3 1 enc3 ((hens (y24.1, y36) u21 l21).set (midx (y24.1, y36) (mens (y24.1, y36) l21)) v58) (mappL (y24.1, y36) ([a19] : List Int) l21)) hp58 3 rfl [1, 2] (by decide) rfl), zw0_53, rfl⟩, pEnd_sound good (L := F23_L) (D := F23_D) (its := [.g, (.b true), .g, (.ix id24 off24 g24), (.ld (.agg #[.int .i64 y24.1, .int .i64 y24.2])), .g, .g, .g, .g, .g, .g, (.b false), (.j F23_m1_0 [] .normal (F23_x1_0 h x1 x2 x3 v4 v5 l6 v6 x7 x8 v9 v10 v11 id15 a19 l21 u21 y24 h35 w0_35 y34)), .g, .g, .g, .g, .g, (.ix id36 off36 g36), (.ld (.int .i64 y36)), .g, .g, .g, .g, .g, (.mm ((sv (hlook (y24.1, y36) u21 l21))) h35), (.ln (mgetL (y24.1, y36) l21).length), .g, (.l F23_m2_0 [] (.exit 2) (F23_x2_0 h x1 x2 x3 v4 v5 l6 v6 x7 x8 v9 v10 v11 id15 a19 l21 u21 y24 y36 h53 w0_53 y52)), .g, .g, .g, (.mm (sv v54) h54), (.mm (.tuple #[(sv (hlook (y24.1, y36) (hens (y24.1, y36) u21 l21) (mens (y24.1, y36) l21))), .int .i64 ((midx (y24.1, y36) (mens (y24.1, y36) l21) : Nat) : Int)]) h56), .g, (.mm (sv v58) h58), .g, (.mm undef h58b), .g, .g]) (ds := F23_m3_0) (ks := [9]) (e := .normal) (s2 := (F23_h3 x1 x2 x3 v4 v5 l6 v6 x7 x8 v9 v10 v11 id15 h58b w0_53 ((hens (y24.1, y36) u21 l21).set (midx (y24.1, y36) (mens (y24.1, y36) l21)) v58) (IntKind.i64.wrap (a19 + 1)) y52 (mappL (y24.1, y36) ([a19] : List Int) l21))) (hC := (ai m58b (ai m58 (ai m56 (ai m54 (ai hA52 (ai (SlE.len (Heapy.mnsle (A := [⟨w0_35, 43, 2, List.flatMap enc43 y34⟩, mrow id15 (q2 .i64) u21 l21]) (el := 3) (c := 1) (enc := enc3) (hs := u21) (xs := l21) hp35 (y24.1, y36) (fun _ => rfl) (by decide))) (ai (Heapy.mnlook (P := Try.prog) (A := [⟨w0_35, 43, 2, List.flatMap enc43 y34⟩, mrow id15 (q2 .i64) u21 l21]) (el := 3) (c := 1) (enc := enc3) (hs := u21) (xs := l21) (q := q2 .i64) hp35 1 (id := id15) rfl (t := 80) (kt := 43) (et := 27) (kd := .array 2 3) (by kernel_rfl) (by kernel_rfl) (by kernel_rfl) (y24.1, y36) rfl (by kernel_rfl) (fun b => q2_eq (fun _ _ => by kernel_rfl) _ b)) (ai (At.one (P := Try.prog) (t := 3) (v := .int .i64 y36) (At.mono (Heapy.sub hp35) at36) (by kernel_rfl) 0 rfl rfl) (ai ix36 (ai hA34 (ai c25 (ai (At.agg (P := Try.prog) (t := 77) (v := .agg #[.int .i64 y24.1, .int .i64 y24.2]) (m := 2) (At.mono (Heapy.sub hp22) at24) (by kernel_rfl) (by kernel_rfl) 0 (by kernel_rfl) rfl) (ai ix24 (ai c23 trivial))))))))))))))) (hd := F23_d3) (h := by kernel_rfl)⟩
  · intro hr
    obtain rfl := Option.some.inj hr
    refine ⟨(.exit 0), (F23_x3_0 h h22 u20 (l20 : (List (Int × Int)))), (by intro hh; cases hh), ?_, pEnd_sound good (L := F23_L) (D := F23_D) (its := [.g, (.b false)]) (ds := F23_m3_1) (ks := [2, 3]) (e := (.exit 0)) (s2 := (F23_x3_0 h h22 u20 (l20 : (List (Int × Int))))) (hC := (ai c23 trivial)) (hd := F23_d3) (h := by kernel_rfl)⟩
    exact ⟨rfl, h22, u20, (Heapy.pick (Heapy.head (A := [⟨u20, 43, 2, List.flatMap enc43 l20⟩, mrow id15 (q2 .i64) u21 l21]) (N := MIn 3 1 enc3 u21 l21) hp22) [0] (by decide)), z20, rfl⟩
theorem F23_l3 (h : AHeap) (x1 : Int) (x2 : Int) (x3 : Bool) (v4 : Hd) (v5 : Hd) (l6 : List (Int × Int)) (v6 : Hd) (hv6 : SlE E77 2 h (sv v6) l6) (x7 : Int) (x8 : Int) (l9 : List Int) (v9 : Hd) (hv9 : SlE E3 1 h (sv v9) l9) (v10 : Hd) (l11 : List Int) (v11 : Hd) (hv11 : SlE E3 1 h (sv v11) l11) (id15 : Nat) (x : Int × (List (Int × Int)) × (List ((Int × Int) × List Int))) (r : (List (Int × Int))) (hl : loopO (fun (s : Int × (List (Int × Int)) × (List ((Int × Int) × List Int))) => F23_s3 x3 l6 x7 l9 l11 s.1 s.2.1 s.2.2) x = some r) (S : AS) (hI : (F23_i3 h x1 x2 x3 v4 v5 l6 v6 x7 x8 v9 v10 v11 id15) x S) : ∃ e S', (F23_x3 h) r e S' ∧ AWp Try.prog (.loop (codeOf Try.prog 23 [1, 1, 1, 1, 0, 1, 0, 0])) (Ends1 e S') S :=
  loop_rel (fun x S hI => F23_r3 h x1 x2 x3 v4 v5 l6 v6 hv6 x7 x8 l9 v9 hv9 v10 l11 v11 hv11 id15 x.1 x.2.1 x.2.2 S hI) hl hI
def F23 (x1 : Int) (x2 : Int) (x3 : Bool) (l4 : List (Int × Int × Int × Int)) (l5 : List (Int × Int × Int × Int)) (l6 : List (Int × Int)) (x7 : Int) (x8 : Int) (l9 : List Int) (l10 : List Int) (l11 : List Int) : Option ((List (Int × Int))) :=
  (Option.bind (F22 x1 x2 x3 l4 l5 l6 x7 x8 l9 l10 l11) fun y12 =>
  (bif (!y12) then
   some ([])
  else
   (Option.bind (loopO (fun (s : Int × (List (Int × Int)) × (List ((Int × Int) × List Int))) => F23_s3 x3 l6 x7 l9 l11 s.1 s.2.1 s.2.2) (0, ([] : List (Int × Int)), ([] : List ((Int × Int) × List Int)))) fun y59 =>
   (Option.bind (F49w50 y59) fun y62 =>
   some (y62)))))
set_option maxRecDepth 100000 in
theorem F23_spec (x1 : Int) (x2 : Int) (x3 : Bool) (l4 : List (Int × Int × Int × Int)) (l5 : List (Int × Int × Int × Int)) (l6 : List (Int × Int)) (x7 : Int) (x8 : Int) (l9 : List Int) (l10 : List Int) (l11 : List Int) (v4 : Hd) (v5 : Hd) (v6 : Hd) (v9 : Hd) (v10 : Hd) (v11 : Hd) (h : AHeap) (hw : h.wf) (hv4 : SlE E37 4 h (sv v4) l4) (hv5 : SlE E79 4 h (sv v5) l5) (hv6 : SlE E77 2 h (sv v6) l6) (hv9 : SlE E3 1 h (sv v9) l9) (hv10 : SlE E3 1 h (sv v10) l10) (hv11 : SlE E3 1 h (sv v11) l11) (r : (List (Int × Int))) : F23 x1 x2 x3 l4 l5 l6 x7 x8 l9 l10 l11 = some r → ∃ (ur0 : Hd) (h' : AHeap), Heapy h h' [⟨ur0, 43, 2, List.flatMap enc43 r⟩] ∧ Strict ur0 ∧ ACalls Try.prog 23 [.agg #[.int .i64 x1, .int .i64 x2, .bool x3, (sv v4), (sv v5), (sv v6)], .agg #[.int .i64 x7, .int .i64 x8, (sv v9), (sv v10), (sv v11)]] h (fun v' h'' => v' = ((sv ur0) : Value) ∧ h'' = h') := by
  unfold F23
  refine bind_opt fun y12 e12 => ?_
  refine dec_bif (fun c14 => ?_) (fun c14 => ?_)
  · intro hr
    obtain rfl := Option.some.inj hr
    exact ⟨⟨none, 0, 0⟩, h, Heapy.pick (Heapy.nil (Heapy.refl hw) 43 2) [0] (by decide), Strict.nil, pFun_sound good tab_ok (f := 23) (its := [.g, .g, .g, .g, .g, (.c (.bool y12) h), .g, (.b true), .g]) (args := [.agg #[.int .i64 x1, .int .i64 x2, .bool x3, (sv v4), (sv v5), (sv v6)], .agg #[.int .i64 x7, .int .i64 x8, (sv v9), (sv v10), (sv v11)]]) (h := h) (h' := h) (v := .slice none 0 0) (hC := (ai c14 (ai (F22_spec x1 x2 x3 l4 l5 l6 x7 x8 l9 l10 l11 v4 v5 v6 v9 v10 v11 h hv4 hv5 hv6 hv9 hv10 hv11 _ e12) trivial))) (hr := by kernel_rfl)⟩
  · obtain ⟨id15, h15, m15, hq15⟩ := Heapy.mkmap (P := Try.prog) (Heapy.refl hw) (t := 80) (kt := 43) (et := 27) (by kernel_rfl)
    have hp15 : Heapy h h15 ([mrow id15 (q2 .i64) ([] : List Hd) ([] : List ((Int × Int) × List Int))] ++ MIn 3 1 enc3 ([] : List Hd) ([] : List ((Int × Int) × List Int))) := hq15
    refine bind_opt fun y59 e59 => ?_
    have hp17 : Heapy h h15 ([⟨⟨none, 0, 0⟩, 43, 2, List.flatMap enc43 ([] : List (Int × Int))⟩, mrow id15 (q2 .i64) ([] : List Hd) ([] : List ((Int × Int) × List Int))] ++ MIn 3 1 enc3 ([] : List Hd) ([] : List ((Int × Int) × List Int))) := Heapy.nil hp15 43 2
    obtain ⟨ee59, SS59, hX59, hA59⟩ := F23_l3 h x1 x2 x3 v4 v5 l6 v6 hv6 x7 x8 l9 v9 hv9 v10 l11 v11 hv11 id15 (0, ([] : List (Int × Int)), ([] : List ((Int × Int) × List Int))) y59 e59 (F23_h3 x1 x2 x3 v4 v5 l6 v6 x7 x8 v9 v10 v11 id15 h15 ⟨none, 0, 0⟩ ([] : List Hd) 0 ([] : List (Int × Int)) ([] : List ((Int × Int) × List Int))) ⟨h15, ⟨none, 0, 0⟩, ([] : List Hd), (Heapy.pickN2 (A := [⟨⟨none, 0, 0⟩, 43, 2, List.flatMap enc43 ([] : List (Int × Int))⟩, mrow id15 (q2 .i64) ([] : List Hd) ([] : List ((Int × Int) × List Int))]) (N := MIn 3 1 enc3 ([] : List Hd) ([] : List ((Int × Int) × List Int))) hp17 2 rfl [0, 1] (by decide) rfl), Strict.nil, rfl⟩
    obtain ⟨rfl, h60, w0_60, hp60, zw0_60, rfl⟩ := hX59
    refine bind_opt fun y62 e62 => ?_
    obtain ⟨b61, pb61, ob61, jb61⟩ := Heapy.io hp60 0 (s := ⟨w0_60, 43, 2, List.flatMap enc43 y59⟩) rfl
    obtain ⟨h63, q63, c63⟩ := F49w50_spec y59 w0_60 h60 b61 (Heapy.wf ob61) pb61 _ e62
    have hp63 : Heapy h h63 [⟨w0_60, 43, 2, List.flatMap enc43 y62⟩] := jb61 (r := []) (s' := ⟨w0_60, 43, 2, List.flatMap enc43 y62⟩) q63
    intro hr
    obtain rfl := Option.some.inj hr
    exact ⟨w0_60, h63, Heapy.pick hp63 [0] (by decide), zw0_60, pFun_sound good tab_ok (f := 23) (its := [.g, .g, .g, .g, .g, (.c (.bool y12) h), .g, (.b false), .g, (.mm (.map (some id15)) h15), .g, .g, .g, (.ln l6.length), .g, (.l F23_m3_0 [] (.exit 0) (F23_x3_0 h h60 w0_60 y59)), .g, (.c (.tuple #[]) h63), .g, .g]) (args := [.agg #[.int .i64 x1, .int .i64 x2, .bool x3, (sv v4), (sv v5), (sv v6)], .agg #[.int .i64 x7, .int .i64 x8, (sv v9), (sv v10), (sv v11)]]) (h := h) (h' := h63) (v := (sv w0_60)) (hC := (ai c63 (ai hA59 (ai (SlE.len hv6) (ai m15 (ai c14 (ai (F22_spec x1 x2 x3 l4 l5 l6 x7 x8 l9 l10 l11 v4 v5 v6 v9 v10 v11 h hv4 hv5 hv6 hv9 hv10 hv11 _ e12) trivial))))))) (hr := by kernel_rfl)⟩
/-! 68 slices.IndexFunc[[]int,int] -/
def F68w45_L : List Nat := []
def F68w45_D : List (Nat × List (Nat × Nat)) := []
def F68w45_m2_2 : List Bool := [true, true, true, true, true, true, true, true, true, true, true, true, true, true, true, true, true, true, true]
def F68w45_m2_1 : List Bool := [false, false, true, true, true, true, true, false, false, true, true, true, true, true, true, true, true, true, true]
def F68w45_m2_0 : List Bool := [true, true, true, true, false, true, true, true, true, true, true, true, true, true, true, true, true, true, true]
def F68w45_s2 (l1 : List Int) (a2 : Int) : Option (Int ⊕ (Nat × Int)) :=
  (bif decide (a2 < (l1.length : Int)) then
   (Option.bind (at? l1 a2) fun y4 =>
   (bif (F45 y4) then
    some (.inr (0, a2))
   else
    some (.inl (IntKind.i64.wrap (a2 + 1)))))
  else
   some (.inr (1, 0)))
def F68w45_h2 (h : AHeap) (l1 : List Int) (v1 : Hd)  (a2 : Int) : AS := ⟨[(sv v1), .func (.func 45) #[] #[], junk, junk, junk, junk, junk, .int .i64 (l1.length : Int), .int .i64 a2, junk, junk, junk, junk, junk, junk, junk, junk, junk, junk], [], h⟩
theorem F68w45_d2 : drawsOk F68w45_D (codeOf Try.prog 68 [1, 0, 1, 0, 0]) = true := by kernel_rfl
def F68w45_x2_0 (h : AHeap)  (r : Nat × Int) : AS := ⟨[junk, junk, junk, junk, .int .i64 r.2, junk, junk, junk, junk, junk, junk, junk, junk, junk, junk, junk, junk, junk, junk], [], h⟩
def F68w45_x2_1 (h : AHeap)  (r : Nat × Int) : AS := ⟨[junk, junk, junk, junk, junk, junk, junk, junk, junk, junk, junk, junk, junk, junk, junk, junk, junk, junk, junk], [], h⟩
def F68w45_x2 (h : AHeap) (r : Nat × Int) : Exit × AS := (bif Nat.beq r.1 0 then (.ret, (F68w45_x2_0 h r)) else ((.exit 0), (F68w45_x2_1 h r)))
set_option maxRecDepth 100000 in
theorem F68w45_r2 (h : AHeap) (l1 : List Int) (v1 : Hd) (hv1 : SlE E3 1 h (sv v1) l1) (a2 : Int) (o : Int ⊕ (Nat × Int)) : F68w45_s2 l1 a2 = some o → RdF Try.prog (codeOf Try.prog 68 [1, 0, 1, 0, 0]) (fun (s : Int) => (F68w45_h2 h l1 v1 s)) (F68w45_x2 h) (F68w45_h2 h l1 v1 a2) o := by
  unfold F68w45_s2
  refine dec_bif (fun c3 => ?_) (fun c3 => ?_)
  · refine bind_opt fun y4 e4 => ?_
    obtain ⟨id4, off4, g4, cs4, ix4, at4, rfl⟩ := SlE.at hv1 e4
    refine dec_bif (fun c6 => ?_) (fun c6 => ?_)
    · intro hr
      obtain rfl := Option.some.inj hr
      show AWp Try.prog _ (Ends1 ((F68w45_x2 h) ((0, a2) : Nat × Int)).1 ((F68w45_x2 h) ((0, a2) : Nat × Int)).2) _
      exact pEnd_sound good (L := F68w45_L) (D := F68w45_D) (its := [.g, (.b true), .g, .g, .g, .g, .g, (.ix id4 off4 g4), (.ld (.int .i64 y4)), (.c (.bool (F45 y4)) h), (.b true), .g, .g]) (ds := F68w45_m2_0) (ks := []) (e := ((F68w45_x2 h) ((0, a2) : Nat × Int)).1) (s2 := ((F68w45_x2 h) ((0, a2) : Nat × Int)).2) (hC := (ai c6 (ai (F45_spec y4 h _ rfl) (ai (At.one (P := Try.prog) (t := 3) (v := .int .i64 y4) at4 (by kernel_rfl) 0 rfl rfl) (ai ix4 (ai c3 trivial)))))) (hd := F68w45_d2) (h := by kernel_rfl)
    · intro hr
      obtain rfl := Option.some.inj hr
      show AWp Try.prog _ (Ends1 .normal (F68w45_h2 h l1 v1 (IntKind.i64.wrap (a2 + 1)))) _
      exact pEnd_sound good (L := F68w45_L) (D := F68w45_D) (its := [.g, (.b true), .g, .g, .g, .g, .g, (.ix id4 off4 g4), (.ld (.int .i64 y4)), (.c (.bool (F45 y4)) h), (.b false), .g, .g]) (ds := F68w45_m2_1) (ks := []) (e := .normal) (s2 := (F68w45_h2 h l1 v1 (IntKind.i64.wrap (a2 + 1)))) (hC := (ai c6 (ai (F45_spec y4 h _ rfl) (ai (At.one (P := Try.prog) (t := 3) (v := .int .i64 y4) at4 (by kernel_rfl) 0 rfl rfl) (ai ix4 (ai c3 trivial)))))) (hd := F68w45_d2) (h := by kernel_rfl)
  · intro hr
    obtain rfl := Option.some.inj hr
    show AWp Try.prog _ (Ends1 ((F68w45_x2 h) ((1, 0) : Nat × Int)).1 ((F68w45_x2 h) ((1, 0) : Nat × Int)).2) _
    exact pEnd_sound good (L := F68w45_L) (D := F68w45_D) (its := [.g, (.b false)]) (ds := F68w45_m2_2) (ks := []) (e := ((F68w45_x2 h) ((1, 0) : Nat × Int)).1) (s2 := ((F68w45_x2 h) ((1, 0) : Nat × Int)).2) (hC := (ai c3 trivial)) (hd := F68w45_d2) (h := by kernel_rfl)
theorem F68w45_l2_0 (h : AHeap) (l1 : List Int) (v1 : Hd) (hv1 : SlE E3 1 h (sv v1) l1) (x : Int) (r : Nat × Int) (hl : loopO (fun (s : Int) => F68w45_s2 l1 s) x = some r) (q0 : Nat.beq r.1 0 = true) : AWp Try.prog (.loop (codeOf Try.prog 68 [1, 0, 1, 0, 0])) (Ends1 .ret (F68w45_x2_0 h r)) ((fun (s : Int) => (F68w45_h2 h l1 v1 s)) x) := by
  have k := loop_fun (P := Try.prog) (c := (codeOf Try.prog 68 [1, 0, 1, 0, 0])) (step := (fun (s : Int) => F68w45_s2 l1 s)) (hd := (fun (s : Int) => (F68w45_h2 h l1 v1 s))) (X := (F68w45_x2 h)) (by intro t; unfold F68w45_x2; cases Nat.beq t.1 0 <;> (intro h; cases h)) (fun x => F68w45_r2 h l1 v1 hv1 x) hl
  simp only [F68w45_x2, q0, cond_true, cond_false] at k
  exact k
theorem F68w45_l2_1 (h : AHeap) (l1 : List Int) (v1 : Hd) (hv1 : SlE E3 1 h (sv v1) l1) (x : Int) (r : Nat × Int) (hl : loopO (fun (s : Int) => F68w45_s2 l1 s) x = some r) (q0 : Nat.beq r.1 0 = false) : AWp Try.prog (.loop (codeOf Try.prog 68 [1, 0, 1, 0, 0])) (Ends1 (.exit 0) (F68w45_x2_1 h r)) ((fun (s : Int) => (F68w45_h2 h l1 v1 s)) x) := by
  have k := loop_fun (P := Try.prog) (c := (codeOf Try.prog 68 [1, 0, 1, 0, 0])) (step := (fun (s : Int) => F68w45_s2 l1 s)) (hd := (fun (s : Int) => (F68w45_h2 h l1 v1 s))) (X := (F68w45_x2 h)) (by intro t; unfold F68w45_x2; cases Nat.beq t.1 0 <;> (intro h; cases h)) (fun x => F68w45_r2 h l1 v1 hv1 x) hl
  simp only [F68w45_x2, q0, cond_true, cond_false] at k
  exact k
def F68w45 (l1 : List Int) : Option (Int) :=
  (Option.bind (loopO (fun (s : Int) => F68w45_s2 l1 s) 0) fun y7 =>
  (bif (Nat.beq y7.1 0) then
   some (y7.2)
  else
   some (-1)))
set_option maxRecDepth 100000 in
theorem F68w45_spec (l1 : List Int) (v1 : Hd) (h : AHeap) (hv1 : SlE E3 1 h (sv v1) l1) (r : Int) : F68w45 l1 = some r → ACalls Try.prog 68 [(sv v1), .func (.func 45) #[] #[]] h (fun v' h'' => v' = (.int .i64 r : Value) ∧ h'' = h) := by
  unfold F68w45
  refine bind_opt fun y7 e7 => ?_
  refine dec_bif (fun c8 => ?_) (fun c8 => ?_)
  · intro hr
    obtain rfl := Option.some.inj hr
    exact pFun_sound good tab_ok (f := 68) (its := [.g, .g, (.ln l1.length), .g, (.l F68w45_m2_1 [] .ret (F68w45_x2_0 h y7))]) (args := [(sv v1), .func (.func 45) #[] #[]]) (h := h) (h' := h) (v := .int .i64 y7.2) (hC := (ai (F68w45_l2_0 h l1 v1 hv1 0 y7 e7 c8) (ai (SlE.len hv1) trivial))) (hr := by kernel_rfl)
  · intro hr
    obtain rfl := Option.some.inj hr
    exact pFun_sound good tab_ok (f := 68) (its := [.g, .g, (.ln l1.length), .g, (.l F68w45_m2_1 [] (.exit 0) (F68w45_x2_1 h y7)), .g]) (args := [(sv v1), .func (.func 45) #[] #[]]) (h := h) (h' := h) (v := .int .i64 (-1)) (hC := (ai (F68w45_l2_1 h l1 v1 hv1 0 y7 e7 c8) (ai (SlE.len hv1) trivial))) (hr := by kernel_rfl)
/-! 44 slices.ContainsFunc[[]int,int] -/
def F44w45 (l1 : List Int) : Option (Bool) :=
  (Option.bind (F68w45 l1) fun y2 =>
  some (decide (y2 ≥ 0)))
set_option maxRecDepth 100000 in
theorem F44w45_spec (l1 : List Int) (v1 : Hd) (h : AHeap) (hv1 : SlE E3 1 h (sv v1) l1) (r : Bool) : F44w45 l1 = some r → ACalls Try.prog 44 [(sv v1), .func (.func 45) #[] #[]] h (fun v' h'' => v' = (.bool r : Value) ∧ h'' = h) := by
  unfold F44w45
  refine bind_opt fun y2 e2 => ?_
  intro hr
  obtain rfl := Option.some.inj hr
  exact pFun_sound good tab_ok (f := 44) (its := [.g, .g, .g, (.c (.int .i64 y2) h), .g, .g]) (args := [(sv v1), .func (.func 45) #[] #[]]) (h := h) (h' := h) (v := .bool (decide (y2 ≥ 0))) (hC := (ai (F68w45_spec l1 v1 h hv1 _ e2) trivial)) (hr := by kernel_rfl)
/-! 21 jacquard/schedcheck.Check -/
def F21 (x1 : Int) (x2 : Int) (x3 : Bool) (l4 : List (Int × Int × Int × Int)) (l5 : List (Int × Int × Int × Int)) (l6 : List (Int × Int)) (x7 : Int) (x8 : Int) (l9 : List Int) (l10 : List Int) (l11 : List Int) : Option (Int) :=
  (Option.bind (F22 x1 x2 x3 l4 l5 l6 x7 x8 l9 l10 l11) fun y12 =>
  (bif (!y12) then
   some (3)
  else
   (bif (!x3) then
    (Option.bind (F44w45 l10) fun y16 =>
    (bif y16 then
     some (20)
    else
     (bif decide (x8 < x7) then
      some (20)
     else
      (Option.bind (F12 x1 x2 x3 l4 l5 l6 x7 x8 l9 l10 l11) fun y20 =>
      (bif decide ((y20.length : Int) > 0) then
       some (20)
      else
       (Option.bind (F23 x1 x2 x3 l4 l5 l6 x7 x8 l9 l10 l11) fun y24 =>
       (bif decide ((y24.length : Int) > 0) then
        some (20)
       else
        some (0))))))))
   else
    (bif decide (x8 < x7) then
     some (20)
    else
     (Option.bind (F12 x1 x2 x3 l4 l5 l6 x7 x8 l9 l10 l11) fun y29 =>
     (bif decide ((y29.length : Int) > 0) then
      some (20)
     else
      (Option.bind (F23 x1 x2 x3 l4 l5 l6 x7 x8 l9 l10 l11) fun y33 =>
      (bif decide ((y33.length : Int) > 0) then
       some (20)
      else
       some (0)))))))))
set_option maxRecDepth 100000 in
theorem F21_spec (x1 : Int) (x2 : Int) (x3 : Bool) (l4 : List (Int × Int × Int × Int)) (l5 : List (Int × Int × Int × Int)) (l6 : List (Int × Int)) (x7 : Int) (x8 : Int) (l9 : List Int) (l10 : List Int) (l11 : List Int) (v4 : Hd) (v5 : Hd) (v6 : Hd) (v9 : Hd) (v10 : Hd) (v11 : Hd) (h : AHeap) (hw : h.wf) (hv4 : SlE E37 4 h (sv v4) l4) (hv5 : SlE E79 4 h (sv v5) l5) (hv6 : SlE E77 2 h (sv v6) l6) (hv9 : SlE E3 1 h (sv v9) l9) (hv10 : SlE E3 1 h (sv v10) l10) (hv11 : SlE E3 1 h (sv v11) l11) (r : Int) : F21 x1 x2 x3 l4 l5 l6 x7 x8 l9 l10 l11 = some r → ∃ (h' : AHeap), Heapy h h' [] ∧ ACalls Try.prog 21 [.agg #[.int .i64 x1, .int .i64 x2, .bool x3, (sv v4), (sv v5), (sv v6)], .agg #[.int .i64 x7, .int .i64 x8, (sv v9), (sv v10), (sv v11)]] h (fun v' h'' => v' = (.int .i64 r : Value) ∧ h'' = h') := by
  unfold F21
  refine bind_opt fun y12 e12 => ?_
  refine dec_bif (fun c14 => ?_) (fun c14 => ?_)
  · intro hr
    obtain rfl := Option.some.inj hr
    exact ⟨h, Heapy.pick (Heapy.refl hw) [] (by decide), pFun_sound good tab_ok (f := 21) (its := [.g, .g, .g, .g, .g, (.c (.bool y12) h), .g, (.b true), .g]) (args := [.agg #[.int .i64 x1, .int .i64 x2, .bool x3, (sv v4), (sv v5), (sv v6)], .agg #[.int .i64 x7, .int .i64 x8, (sv v9), (sv v10), (sv v11)]]) (h := h) (h' := h) (v := .int .i64 3) (hC := (ai c14 (ai (F22_spec x1 x2 x3 l4 l5 l6 x7 x8 l9 l10 l11 v4 v5 v6 v9 v10 v11 h hv4 hv5 hv6 hv9 hv10 hv11 _ e12) trivial))) (hr := by kernel_rfl)⟩
  · refine dec_bif (fun c15 => ?_) (fun c15 => ?_)
    · refine bind_opt fun y16 e16 => ?_
      refine dec_bif (fun c18 => ?_) (fun c18 => ?_)
      · intro hr
        obtain rfl := Option.some.inj hr
        exact ⟨h, Heapy.pick (Heapy.refl hw) [] (by decide), pFun_sound good tab_ok (f := 21) (its := [.g, .g, .g, .g, .g, (.c (.bool y12) h), .g, (.b false), .g, .g, .g, .g, (.w .g), (.w .g), (.w (.c (.bool y16) h)), (.p true), .g, .g, .g, .n, .n, .n, .n, .n, (.p true), .g, .n, .n, .n, .n, .n, .g, .g, .n, .n, .n, .n, .n, .g, (.b true), .g]) (args := [.agg #[.int .i64 x1, .int .i64 x2, .bool x3, (sv v4), (sv v5), (sv v6)], .agg #[.int .i64 x7, .int .i64 x8, (sv v9), (sv v10), (sv v11)]]) (h := h) (h' := h) (v := .int .i64 20) (hC := (ai l_t (ai (g_tf l_t) (ai (g_tf l_t) (ai (g_tf l_t) (ai (g_tf l_t) (ai (g_tf l_t) (ai (g_tf l_t) (ai (g_tf l_t) (ai (g_tf l_t) (ai (g_tf l_t) (ai (g_tf l_t) (ai c18 (ai (g_tf c18) (ai (g_tf c18) (ai (g_tf c18) (ai (g_tf c18) (ai (g_tf c18) (ai c15 (ai (F44w45_spec l10 v10 h hv10 _ e16) (ai (g_tt c15) (ai (g_tt c15) (ai (g_tt c15) (ai c14 (ai (F22_spec x1 x2 x3 l4 l5 l6 x7 x8 l9 l10 l11 v4 v5 v6 v9 v10 v11 h hv4 hv5 hv6 hv9 hv10 hv11 _ e12) trivial))))))))))))))))))))))))) (hr := by kernel_rfl)⟩
      · refine dec_bif (fun c19 => ?_) (fun c19 => ?_)
        · intro hr
          obtain rfl := Option.some.inj hr
          exact ⟨h, Heapy.pick (Heapy.refl hw) [] (by decide), pFun_sound good tab_ok (f := 21) (its := [.g, .g, .g, .g, .g, (.c (.bool y12) h), .g, (.b false), .g, .g, .g, .g, (.w .g), (.w .g), (.w (.c (.bool y16) h)), (.p true), .g, .g, .g, (.w .g), (.w .g), (.w .g), (.w .g), (.w .g), (.p false), .g, .n, .n, .n, .n, .n, (.p true), .g, .n, .n, .n, .n, .n, .g, (.b true), .g]) (args := [.agg #[.int .i64 x1, .int .i64 x2, .bool x3, (sv v4), (sv v5), (sv v6)], .agg #[.int .i64 x7, .int .i64 x8, (sv v9), (sv v10), (sv v11)]]) (h := h) (h' := h) (v := .int .i64 20) (hC := (ai l_t (ai (g_tf l_t) (ai (g_tf l_t) (ai (g_tf l_t) (ai (g_tf l_t) (ai (g_tf l_t) (ai c19 (ai (g_tf c19) (ai (g_tf c19) (ai (g_tf c19) (ai (g_tf c19) (ai (g_tf c19) (ai c18 (ai (g_ff c18) (ai (g_ff c18) (ai (g_ff c18) (ai (g_ff c18) (ai (g_ff c18) (ai c15 (ai (F44w45_spec l10 v10 h hv10 _ e16) (ai (g_tt c15) (ai (g_tt c15) (ai (g_tt c15) (ai c14 (ai (F22_spec x1 x2 x3 l4 l5 l6 x7 x8 l9 l10 l11 v4 v5 v6 v9 v10 v11 h hv4 hv5 hv6 hv9 hv10 hv11 _ e12) trivial)))))))))))))))))))))))))) (hr := by kernel_rfl)⟩
        · refine bind_opt fun y20 e20 => ?_
          obtain ⟨u21_0, h21, q21, zu21_0, c21⟩ := F12_spec x1 x2 x3 l4 l5 l6 x7 x8 l9 l10 l11 v4 v5 v6 v9 v10 v11 h hw hv4 hv5 hv6 hv9 hv10 hv11 _ e20
          have hp21 : Heapy h h21 [⟨u21_0, 3, 1, List.flatMap enc3 y20⟩] := Heapy.call (Heapy.refl hw) q21
          refine dec_bif (fun c23 => ?_) (fun c23 => ?_)
          · intro hr
            obtain rfl := Option.some.inj hr
            exact ⟨h21, Heapy.pick hp21 [] (by decide), pFun_sound good tab_ok (f := 21) (its := [.g, .g, .g, .g, .g, (.c (.bool y12) h), .g, (.b false), .g, .g, .g, .g, (.w .g), (.w .g), (.w (.c (.bool y16) h)), (.p true), .g, .g, .g, (.w .g), (.w .g), (.w .g), (.w .g), (.w .g), (.p false), .g, (.w .g), (.w .g), (.w (.c ((sv u21_0)) h21)), (.w (.ln y20.length)), (.w .g), (.p false), .g, .n, .n, .n, .n, .n, (.p true), (.b true), .g]) (args := [.agg #[.int .i64 x1, .int .i64 x2, .bool x3, (sv v4), (sv v5), (sv v6)], .agg #[.int .i64 x7, .int .i64 x8, (sv v9), (sv v10), (sv v11)]]) (h := h) (h' := h21) (v := .int .i64 20) (hC := (ai l_t (ai c23 (ai (g_tf c23) (ai (g_tf c23) (ai (g_tf c23) (ai (g_tf c23) (ai (g_tf c23) (ai c19 (ai (g_ff c19) (ai (SlE.len (Heapy.sle (v := u21_0) (xs := y20) (enc := enc3) hp21 0 rfl (fun _ => rfl) (by decide))) (ai (g_ff c19) (ai c21 (ai (g_ff c19) (ai (g_ff c19) (ai (g_ff c19) (ai c18 (ai (g_ff c18) (ai (g_ff c18) (ai (g_ff c18) (ai (g_ff c18) (ai (g_ff c18) (ai c15 (ai (F44w45_spec l10 v10 h hv10 _ e16) (ai (g_tt c15) (ai (g_tt c15) (ai (g_tt c15) (ai c14 (ai (F22_spec x1 x2 x3 l4 l5 l6 x7 x8 l9 l10 l11 v4 v5 v6 v9 v10 v11 h hv4 hv5 hv6 hv9 hv10 hv11 _ e12) trivial))))))))))))))))))))))))))))) (hr := by kernel_rfl)⟩
          · refine bind_opt fun y24 e24 => ?_
            obtain ⟨u25_0, h25, q25, zu25_0, c25⟩ := F23_spec x1 x2 x3 l4 l5 l6 x7 x8 l9 l10 l11 v4 v5 v6 v9 v10 v11 h21 (Heapy.wf hp21) (SlE.mono hv4 (Heapy.sub hp21) (E37_mono (Heapy.sub hp21))) (SlE.mono hv5 (Heapy.sub hp21) (E79_mono (Heapy.sub hp21))) (SlE.mono hv6 (Heapy.sub hp21) (E77_mono (Heapy.sub hp21))) (SlE.mono hv9 (Heapy.sub hp21) (E3_mono (Heapy.sub hp21))) (SlE.mono hv10 (Heapy.sub hp21) (E3_mono (Heapy.sub hp21))) (SlE.mono hv11 (Heapy.sub hp21) (E3_mono (Heapy.sub hp21))) _ e24
            have hp25 : Heapy h h25 [⟨u25_0, 43, 2, List.flatMap enc43 y24⟩, ⟨u21_0, 3, 1, List.flatMap enc3 y20⟩] := Heapy.call hp21 q25
            refine dec_bif (fun c27 => ?_) (fun c27 => ?_)
            · intro hr
              obtain rfl := Option.some.inj hr
              exact ⟨h25, Heapy.pick hp25 [] (by decide), pFun_sound good tab_ok (f := 21) (its := [.g, .g, .g, .g, .g, (.c (.bool y12) h), .g, (.b false), .g, .g, .g, .g, (.w .g), (.w .g), (.w (.c (.bool y16) h)), (.p true), .g, .g, .g, (.w .g), (.w .g), (.w .g), (.w .g), (.w .g), (.p false), .g, (.w .g), (.w .g), (.w (.c ((sv u21_0)) h21)), (.w (.ln y20.length)), (.w .g), (.p false), .g, (.w .g), (.w .g), (.w (.c ((sv u25_0)) h25)), (.w (.ln y24.length)), (.w .g), (.p false), (.b true), .g]) (args := [.agg #[.int .i64 x1, .int .i64 x2, .bool x3, (sv v4), (sv v5), (sv v6)], .agg #[.int .i64 x7, .int .i64 x8, (sv v9), (sv v10), (sv v11)]]) (h := h) (h' := h25) (v := .int .i64 20) (hC := (ai c27 (ai c23 (ai (g_ff c23) (ai (SlE.len (Heapy.sle (v := u25_0) (xs := y24) (enc := enc43) hp25 0 rfl (fun _ => rfl) (by decide))) (ai (g_ff c23) (ai c25 (ai (g_ff c23) (ai (g_ff c23) (ai (g_ff c23) (ai c19 (ai (g_ff c19) (ai (SlE.len (Heapy.sle (v := u21_0) (xs := y20) (enc := enc3) hp21 0 rfl (fun _ => rfl) (by decide))) (ai (g_ff c19) (ai c21 (ai (g_ff c19) (ai (g_ff c19) (ai (g_ff c19) (ai c18 (ai (g_ff c18) (ai (g_ff c18) (ai (g_ff c18) (ai (g_ff c18) (ai (g_ff c18) (ai c15 (ai (F44w45_spec l10 v10 h hv10 _ e16) (ai (g_tt c15) (ai (g_tt c15) (ai (g_tt c15) (ai c14 (ai (F22_spec x1 x2 x3 l4 l5 l6 x7 x8 l9 l10 l11 v4 v5 v6 v9 v10 v11 h hv4 hv5 hv6 hv9 hv10 hv11 _ e12) trivial))))))))))))))))))))))))))))))) (hr := by kernel_rfl)⟩
            · intro hr
              obtain rfl := Option.some.inj hr
              exact ⟨h25, Heapy.pick hp25 [] (by decide), pFun_sound good tab_ok (f := 21) (its := [.g, .g, .g, .g, .g, (.c (.bool y12) h), .g, (.b false), .g, .g, .g, .g, (.w .g), (.w .g), (.w (.c (.bool y16) h)), (.p true), .g, .g, .g, (.w .g), (.w .g), (.w .g), (.w .g), (.w .g), (.p false), .g, (.w .g), (.w .g), (.w (.c ((sv u21_0)) h21)), (.w (.ln y20.length)), (.w .g), (.p false), .g, (.w .g), (.w .g), (.w (.c ((sv u25_0)) h25)), (.w (.ln y24.length)), (.w .g), (.p false), (.b false), .g]) (args := [.agg #[.int .i64 x1, .int .i64 x2, .bool x3, (sv v4), (sv v5), (sv v6)], .agg #[.int .i64 x7, .int .i64 x8, (sv v9), (sv v10), (sv v11)]]) (h := h) (h' := h25) (v := .int .i64 0) (hC := (ai c27 (ai c23 (ai (g_ff c23) (ai (SlE.len (Heapy.sle (v := u25_0) (xs := y24) (enc := enc43) hp25 0 rfl (fun _ => rfl) (by decide))) (ai (g_ff c23) (ai c25 (ai (g_ff c23) (ai (g_ff c23) (ai (g_ff c23) (ai c19 (ai (g_ff c19) (ai (SlE.len (Heapy.sle (v := u21_0) (xs := y20) (enc := enc3) hp21 0 rfl (fun _ => rfl) (by decide))) (ai (g_ff c19) (ai c21 (ai (g_ff c19) (ai (g_ff c19) (ai (g_ff c19) (ai c18 (ai (g_ff c18) (ai (g_ff c18) (ai (g_ff c18) (ai (g_ff c18) (ai (g_ff c18) (ai c15 (ai (F44w45_spec l10 v10 h hv10 _ e16) (ai (g_tt c15) (ai (g_tt c15) (ai (g_tt c15) (ai c14 (ai (F22_spec x1 x2 x3 l4 l5 l6 x7 x8 l9 l10 l11 v4 v5 v6 v9 v10 v11 h hv4 hv5 hv6 hv9 hv10 hv11 _ e12) trivial))))))))))))))))))))))))))))))) (hr := by kernel_rfl)⟩
    · refine dec_bif (fun c28 => ?_) (fun c28 => ?_)
      · intro hr
        obtain rfl := Option.some.inj hr
        exact ⟨h, Heapy.pick (Heapy.refl hw) [] (by decide), pFun_sound good tab_ok (f := 21) (its := [.g, .g, .g, .g, .g, (.c (.bool y12) h), .g, (.b false), .g, .g, .g, .g, .n, .n, .n, (.p false), .g, .g, .g, (.w .g), (.w .g), (.w .g), (.w .g), (.w .g), .g, .g, .n, .n, .n, .n, .n, (.p true), .g, .n, .n, .n, .n, .n, .g, (.b true), .g]) (args := [.agg #[.int .i64 x1, .int .i64 x2, .bool x3, (sv v4), (sv v5), (sv v6)], .agg #[.int .i64 x7, .int .i64 x8, (sv v9), (sv v10), (sv v11)]]) (h := h) (h' := h) (v := .int .i64 20) (hC := (ai l_t (ai (g_tf l_t) (ai (g_tf l_t) (ai (g_tf l_t) (ai (g_tf l_t) (ai (g_tf l_t) (ai c28 (ai (g_tf c28) (ai (g_tf c28) (ai (g_tf c28) (ai (g_tf c28) (ai (g_tf c28) (ai (g_ff l_f) (ai (g_ff l_f) (ai (g_ff l_f) (ai (g_ff l_f) (ai (g_ff l_f) (ai c15 (ai (g_ft c15) (ai (g_ft c15) (ai (g_ft c15) (ai c14 (ai (F22_spec x1 x2 x3 l4 l5 l6 x7 x8 l9 l10 l11 v4 v5 v6 v9 v10 v11 h hv4 hv5 hv6 hv9 hv10 hv11 _ e12) trivial)))))))))))))))))))))))) (hr := by kernel_rfl)⟩
      · refine bind_opt fun y29 e29 => ?_
        obtain ⟨u30_0, h30, q30, zu30_0, c30⟩ := F12_spec x1 x2 x3 l4 l5 l6 x7 x8 l9 l10 l11 v4 v5 v6 v9 v10 v11 h hw hv4 hv5 hv6 hv9 hv10 hv11 _ e29
        have hp30 : Heapy h h30 [⟨u30_0, 3, 1, List.flatMap enc3 y29⟩] := Heapy.call (Heapy.refl hw) q30
        refine dec_bif (fun c32 => ?_) (fun c32 => ?_)
        · intro hr
          obtain rfl := Option.some.inj hr
          exact ⟨h30, Heapy.pick hp30 [] (by decide), pFun_sound good tab_ok (f := 21) (its := [.g, .g, .g, .g, .g, (.c (.bool y12) h), .g, (.b false), .g, .g, .g, .g, .n, .n, .n, (.p false), .g, .g, .g, (.w .g), (.w .g), (.w .g), (.w .g), (.w .g), .g, .g, (.w .g), (.w .g), (.w (.c ((sv u30_0)) h30)), (.w (.ln y29.length)), (.w .g), (.p false), .g, .n, .n, .n, .n, .n, (.p true), (.b true), .g]) (args := [.agg #[.int .i64 x1, .int .i64 x2, .bool x3, (sv v4), (sv v5), (sv v6)], .agg #[.int .i64 x7, .int .i64 x8, (sv v9), (sv v10), (sv v11)]]) (h := h) (h' := h30) (v := .int .i64 20) (hC := (ai l_t (ai c32 (ai (g_tf c32) (ai (g_tf c32) (ai (g_tf c32) (ai (g_tf c32) (ai (g_tf c32) (ai c28 (ai (g_ff c28) (ai (SlE.len (Heapy.sle (v := u30_0) (xs := y29) (enc := enc3) hp30 0 rfl (fun _ => rfl) (by decide))) (ai (g_ff c28) (ai c30 (ai (g_ff c28) (ai (g_ff c28) (ai (g_ff c28) (ai (g_ff l_f) (ai (g_ff l_f) (ai (g_ff l_f) (ai (g_ff l_f) (ai (g_ff l_f) (ai c15 (ai (g_ft c15) (ai (g_ft c15) (ai (g_ft c15) (ai c14 (ai (F22_spec x1 x2 x3 l4 l5 l6 x7 x8 l9 l10 l11 v4 v5 v6 v9 v10 v11 h hv4 hv5 hv6 hv9 hv10 hv11 _ e12) trivial))))))))))))))))))))))))))) (hr := by kernel_rfl)⟩
        · refine bind_opt fun y33 e33 => ?_
          obtain ⟨u34_0, h34, q34, zu34_0, c34⟩ := F23_spec x1 x2 x3 l4 l5 l6 x7 x8 l9 l10 l11 v4 v5 v6 v9 v10 v11 h30 (Heapy.wf hp30) (SlE.mono hv4 (Heapy.sub hp30) (E37_mono (Heapy.sub hp30))) (SlE.mono hv5 (Heapy.sub hp30) (E79_mono (Heapy.sub hp30))) (SlE.mono hv6 (Heapy.sub hp30) (E77_mono (Heapy.sub hp30))) (SlE.mono hv9 (Heapy.sub hp30) (E3_mono (Heapy.sub hp30))) (SlE.mono hv10 (Heapy.sub hp30) (E3_mono (Heapy.sub hp30))) (SlE.mono hv11 (Heapy.sub hp30) (E3_mono (Heapy.sub hp30))) _ e33
          have hp34 : Heapy h h34 [⟨u34_0, 43, 2, List.flatMap enc43 y33⟩, ⟨u30_0, 3, 1, List.flatMap enc3 y29⟩] := Heapy.call hp30 q34
          refine dec_bif (fun c36 => ?_) (fun c36 => ?_)
          · intro hr
            obtain rfl := Option.some.inj hr
            exact ⟨h34, Heapy.pick hp34 [] (by decide), pFun_sound good tab_ok (f := 21) (its := [.g, .g, .g, .g, .g, (.c (.bool y12) h), .g, (.b false), .g, .g, .g, .g, .n, .n, .n, (.p false), .g, .g, .g, (.w .g), (.w .g), (.w .g), (.w .g), (.w .g), .g, .g, (.w .g), (.w .g), (.w (.c ((sv u30_0)) h30)), (.w (.ln y29.length)), (.w .g), (.p false), .g, (.w .g), (.w .g), (.w (.c ((sv u34_0)) h34)), (.w (.ln y33.length)), (.w .g), (.p false), (.b true), .g]) (args := [.agg #[.int .i64 x1, .int .i64 x2, .bool x3, (sv v4), (sv v5), (sv v6)], .agg #[.int .i64 x7, .int .i64 x8, (sv v9), (sv v10), (sv v11)]]) (h := h) (h' := h34) (v := .int .i64 20) (hC := (ai c36 (ai c32 (ai (g_ff c32) (ai (SlE.len (Heapy.sle (v := u34_0) (xs := y33) (enc := enc43) hp34 0 rfl (fun _ => rfl) (by decide))) (ai (g_ff c32) (ai c34 (ai (g_ff c32) (ai (g_ff c32) (ai (g_ff c32) (ai c28 (ai (g_ff c28) (ai (SlE.len (Heapy.sle (v := u30_0) (xs := y29) (enc := enc3) hp30 0 rfl (fun _ => rfl) (by decide))) (ai (g_ff c28) (ai c30 (ai (g_ff c28) (ai (g_ff c28) (ai (g_ff c28) (ai (g_ff l_f) (ai (g_ff l_f) (ai (g_ff l_f) (ai (g_ff l_f) (ai (g_ff l_f) (ai c15 (ai (g_ft c15) (ai (g_ft c15) (ai (g_ft c15) (ai c14 (ai (F22_spec x1 x2 x3 l4 l5 l6 x7 x8 l9 l10 l11 v4 v5 v6 v9 v10 v11 h hv4 hv5 hv6 hv9 hv10 hv11 _ e12) trivial))))))))))))))))))))))))))))) (hr := by kernel_rfl)⟩
          · intro hr
            obtain rfl := Option.some.inj hr
            exact ⟨h34, Heapy.pick hp34 [] (by decide), pFun_sound good tab_ok (f := 21) (its := [.g, .g, .g, .g, .g, (.c (.bool y12) h), .g, (.b false), .g, .g, .g, .g, .n, .n, .n, (.p false), .g, .g, .g, (.w .g), (.w .g), (.w .g), (.w .g), (.w .g), .g, .g, (.w .g), (.w .g), (.w (.c ((sv u30_0)) h30)), (.w (.ln y29.length)), (.w .g), (.p false), .g, (.w .g), (.w .g), (.w (.c ((sv u34_0)) h34)), (.w (.ln y33.length)), (.w .g), (.p false), (.b false), .g]) (args := [.agg #[.int .i64 x1, .int .i64 x2, .bool x3, (sv v4), (sv v5), (sv v6)], .agg #[.int .i64 x7, .int .i64 x8, (sv v9), (sv v10), (sv v11)]]) (h := h) (h' := h34) (v := .int .i64 0) (hC := (ai c36 (ai c32 (ai (g_ff c32) (ai (SlE.len (Heapy.sle (v := u34_0) (xs := y33) (enc := enc43) hp34 0 rfl (fun _ => rfl) (by decide))) (ai (g_ff c32) (ai c34 (ai (g_ff c32) (ai (g_ff c32) (ai (g_ff c32) (ai c28 (ai (g_ff c28) (ai (SlE.len (Heapy.sle (v := u30_0) (xs := y29) (enc := enc3) hp30 0 rfl (fun _ => rfl) (by decide))) (ai (g_ff c28) (ai c30 (ai (g_ff c28) (ai (g_ff c28) (ai (g_ff c28) (ai (g_ff l_f) (ai (g_ff l_f) (ai (g_ff l_f) (ai (g_ff l_f) (ai (g_ff l_f) (ai c15 (ai (g_ft c15) (ai (g_ft c15) (ai (g_ft c15) (ai c14 (ai (F22_spec x1 x2 x3 l4 l5 l6 x7 x8 l9 l10 l11 v4 v5 v6 v9 v10 v11 h hv4 hv5 hv6 hv9 hv10 hv11 _ e12) trivial))))))))))))))))))))))))))))) (hr := by kernel_rfl)⟩
/-! 4 jacquard/jacquardlaw35.SchedcheckLegal -/
def F4 (x1 : Int) (x2 : Int) (x3 : Bool) (l4 : List (Int × Int × Int × Int)) (l5 : List (Int × Int × Int × Int)) (l6 : List (Int × Int)) (x7 : Int) (x8 : Int) (l9 : List Int) (l10 : List Int) (l11 : List Int) : Option (Bool) :=
  (Option.bind (F10 x1 x2 x3 l4 l5 l6 x7 x8 l9 l10 l11) fun y13 =>
  (bif (!y13) then
   some (true)
  else
   (Option.bind (F14 x1 x2 x3 l4 l5 l6 x7 x8 l9 l10 l11) fun y17 =>
   (bif (!y17) then
    (Option.bind (F21 x1 x2 x3 l4 l5 l6 x7 x8 l9 l10 l11) fun y20 =>
    (bif (y20 == 3) then
     (Option.bind (F22 x1 x2 x3 l4 l5 l6 x7 x8 l9 l10 l11) fun y23 =>
     some (y23 == false))
    else
     some (false)))
   else
    (Option.bind (F20 x1 x2 x3 l4 l5 l6 x7 x8 l9 l10 l11) fun y25 =>
    (bif (!y25) then
     (Option.bind (F21 x1 x2 x3 l4 l5 l6 x7 x8 l9 l10 l11) fun y28 =>
     (bif (y28 == 20) then
      (Option.bind (F22 x1 x2 x3 l4 l5 l6 x7 x8 l9 l10 l11) fun y31 =>
      some (y31 == true))
     else
      some (false)))
    else
     (Option.bind (F21 x1 x2 x3 l4 l5 l6 x7 x8 l9 l10 l11) fun y33 =>
     (bif (y33 == 0) then
      (Option.bind (F22 x1 x2 x3 l4 l5 l6 x7 x8 l9 l10 l11) fun y36 =>
      some (y36 == true))
     else
      some (false)))))))))
set_option maxRecDepth 100000 in
theorem F4_spec (x1 : Int) (x2 : Int) (x3 : Bool) (l4 : List (Int × Int × Int × Int)) (l5 : List (Int × Int × Int × Int)) (l6 : List (Int × Int)) (x7 : Int) (x8 : Int) (l9 : List Int) (l10 : List Int) (l11 : List Int) (v4 : Hd) (v5 : Hd) (v6 : Hd) (v9 : Hd) (v10 : Hd) (v11 : Hd) (h : AHeap) (hw : h.wf) (hv4 : SlE E37 4 h (sv v4) l4) (hv5 : SlE E79 4 h (sv v5) l5) (hv6 : SlE E77 2 h (sv v6) l6) (hv9 : SlE E3 1 h (sv v9) l9) (hv10 : SlE E3 1 h (sv v10) l10) (hv11 : SlE E3 1 h (sv v11) l11) (r : Bool) : F4 x1 x2 x3 l4 l5 l6 x7 x8 l9 l10 l11 = some r → ∃ (h' : AHeap), Heapy h h' [] ∧ ACalls Try.prog 4 [.agg #[.int .i64 x1, .int .i64 x2, .bool x3, (sv v4), (sv v5), (sv v6)], .agg #[.int .i64 x7, .int .i64 x8, (sv v9), (sv v10), (sv v11)]] h (fun v' h'' => v' = (.bool r : Value) ∧ h'' = h') := by
  unfold F4
  refine bind_opt fun y13 e13 => ?_
  refine dec_bif (fun c15 => ?_) (fun c15 => ?_)
  · intro hr
    obtain rfl := Option.some.inj hr
    exact ⟨h, Heapy.pick (Heapy.refl hw) [] (by decide), pFun_sound good tab_ok (f := 4) (its := [.g, .g, .g, (.c (.bool true) h), .g, .g, (.w .g), (.w .g), (.w (.c (.bool y13) h)), (.w .g), .g, (.b true), (.c (.bool true) h), .g]) (args := [.agg #[.int .i64 x1, .int .i64 x2, .bool x3, (sv v4), (sv v5), (sv v6)], .agg #[.int .i64 x7, .int .i64 x8, (sv v9), (sv v10), (sv v11)]]) (h := h) (h' := h) (v := .bool true) (hC := (ai (F9_spec h _ rfl) (ai c15 (ai (g_ff l_f) (ai (F10_spec x1 x2 x3 l4 l5 l6 x7 x8 l9 l10 l11 v4 v5 v6 v9 v10 v11 h hv4 hv5 hv6 hv9 hv10 hv11 _ e13) (ai (g_ff l_f) (ai (g_ff l_f) (ai (g_ff l_f) (ai (F9_spec h _ rfl) trivial))))))))) (hr := by kernel_rfl)⟩
  · refine bind_opt fun y17 e17 => ?_
    refine dec_bif (fun c19 => ?_) (fun c19 => ?_)
    · refine bind_opt fun y20 e20 => ?_
      obtain ⟨h21, q21, c21⟩ := F21_spec x1 x2 x3 l4 l5 l6 x7 x8 l9 l10 l11 v4 v5 v6 v9 v10 v11 h hw hv4 hv5 hv6 hv9 hv10 hv11 _ e20
      have hp21 : Heapy h h21 [] := Heapy.call (Heapy.refl hw) q21
      refine dec_bif (fun c22 => ?_) (fun c22 => ?_)
      · refine bind_opt fun y23 e23 => ?_
        intro hr
        obtain rfl := Option.some.inj hr
        exact ⟨h21, Heapy.pick hp21 [] (by decide), pFun_sound good tab_ok (f := 4) (its := [.g, .g, .g, (.c (.bool true) h), .g, .g, (.w .g), (.w .g), (.w (.c (.bool y13) h)), (.w .g), .g, (.b false), .g, .g, .g, (.c (.bool y17) h), .g, .g, (.b true), .g, .g, .g, (.c (.int .i64 y20) h21), .g, .g, .g, (.w .g), (.w .g), (.w (.c (.bool y23) h21)), (.w .g), (.w .g), (.w .g), (.p true), .g]) (args := [.agg #[.int .i64 x1, .int .i64 x2, .bool x3, (sv v4), (sv v5), (sv v6)], .agg #[.int .i64 x7, .int .i64 x8, (sv v9), (sv v10), (sv v11)]]) (h := h) (h' := h21) (v := .bool (y23 == false)) (hC := (ai c22 (ai (g_tt c22) (ai (g_tt c22) (ai (g_tt c22) (ai (F22_spec x1 x2 x3 l4 l5 l6 x7 x8 l9 l10 l11 v4 v5 v6 v9 v10 v11 h21 (SlE.mono hv4 (Heapy.sub hp21) (E37_mono (Heapy.sub hp21))) (SlE.mono hv5 (Heapy.sub hp21) (E79_mono (Heapy.sub hp21))) (SlE.mono hv6 (Heapy.sub hp21) (E77_mono (Heapy.sub hp21))) (SlE.mono hv9 (Heapy.sub hp21) (E3_mono (Heapy.sub hp21))) (SlE.mono hv10 (Heapy.sub hp21) (E3_mono (Heapy.sub hp21))) (SlE.mono hv11 (Heapy.sub hp21) (E3_mono (Heapy.sub hp21))) _ e23) (ai (g_tt c22) (ai (g_tt c22) (ai (g_tt c22) (ai c21 (ai c19 (ai (F14_spec x1 x2 x3 l4 l5 l6 x7 x8 l9 l10 l11 v4 v5 v6 v9 v10 v11 h hv4 hv5 hv6 hv9 hv10 hv11 _ e17) (ai c15 (ai (g_ff l_f) (ai (F10_spec x1 x2 x3 l4 l5 l6 x7 x8 l9 l10 l11 v4 v5 v6 v9 v10 v11 h hv4 hv5 hv6 hv9 hv10 hv11 _ e13) (ai (g_ff l_f) (ai (g_ff l_f) (ai (g_ff l_f) (ai (F9_spec h _ rfl) trivial))))))))))))))))))) (hr := by kernel_rfl)⟩
      · intro hr
        obtain rfl := Option.some.inj hr
        exact ⟨h21, Heapy.pick hp21 [] (by decide), pFun_sound good tab_ok (f := 4) (its := [.g, .g, .g, (.c (.bool true) h), .g, .g, (.w .g), (.w .g), (.w (.c (.bool y13) h)), (.w .g), .g, (.b false), .g, .g, .g, (.c (.bool y17) h), .g, .g, (.b true), .g, .g, .g, (.c (.int .i64 y20) h21), .g, .g, .g, .n, .n, .n, .n, .n, .n, (.p false), .g]) (args := [.agg #[.int .i64 x1, .int .i64 x2, .bool x3, (sv v4), (sv v5), (sv v6)], .agg #[.int .i64 x7, .int .i64 x8, (sv v9), (sv v10), (sv v11)]]) (h := h) (h' := h21) (v := .bool false) (hC := (ai c22 (ai (g_ft c22) (ai (g_ft c22) (ai (g_ft c22) (ai (g_ft c22) (ai (g_ft c22) (ai (g_ft c22) (ai c21 (ai c19 (ai (F14_spec x1 x2 x3 l4 l5 l6 x7 x8 l9 l10 l11 v4 v5 v6 v9 v10 v11 h hv4 hv5 hv6 hv9 hv10 hv11 _ e17) (ai c15 (ai (g_ff l_f) (ai (F10_spec x1 x2 x3 l4 l5 l6 x7 x8 l9 l10 l11 v4 v5 v6 v9 v10 v11 h hv4 hv5 hv6 hv9 hv10 hv11 _ e13) (ai (g_ff l_f) (ai (g_ff l_f) (ai (g_ff l_f) (ai (F9_spec h _ rfl) trivial)))))))))))))))))) (hr := by kernel_rfl)⟩
    · refine bind_opt fun y25 e25 => ?_
      obtain ⟨h26, q26, c26⟩ := F20_spec x1 x2 x3 l4 l5 l6 x7 x8 l9 l10 l11 v4 v5 v6 v9 v10 v11 h hw hv4 hv5 hv6 hv9 hv10 hv11 _ e25
      have hp26 : Heapy h h26 [] := Heapy.call (Heapy.refl hw) q26
      refine dec_bif (fun c27 => ?_) (fun c27 => ?_)
      · refine bind_opt fun y28 e28 => ?_
        obtain ⟨h29, q29, c29⟩ := F21_spec x1 x2 x3 l4 l5 l6 x7 x8 l9 l10 l11 v4 v5 v6 v9 v10 v11 h26 (Heapy.wf hp26) (SlE.mono hv4 (Heapy.sub hp26) (E37_mono (Heapy.sub hp26))) (SlE.mono hv5 (Heapy.sub hp26) (E79_mono (Heapy.sub hp26))) (SlE.mono hv6 (Heapy.sub hp26) (E77_mono (Heapy.sub hp26))) (SlE.mono hv9 (Heapy.sub hp26) (E3_mono (Heapy.sub hp26))) (SlE.mono hv10 (Heapy.sub hp26) (E3_mono (Heapy.sub hp26))) (SlE.mono hv11 (Heapy.sub hp26) (E3_mono (Heapy.sub hp26))) _ e28
        have hp29 : Heapy h h29 [] := Heapy.call hp26 q29
        refine dec_bif (fun c30 => ?_) (fun c30 => ?_)
        · refine bind_opt fun y31 e31 => ?_
          intro hr
          obtain rfl := Option.some.inj hr
          exact ⟨h29, Heapy.pick hp29 [] (by decide), pFun_sound good tab_ok (f := 4) (its := [.g, .g, .g, (.c (.bool true) h), .g, .g, (.w .g), (.w .g), (.w (.c (.bool y13) h)), (.w .g), .g, (.b false), .g, .g, .g, (.c (.bool y17) h), .g, .g, (.b false), .g, .g, (.c (.bool y25) h26), .g, .g, (.b true), .g, .g, .g, (.c (.int .i64 y28) h29), .g, .g, .g, (.w .g), (.w .g), (.w (.c (.bool y31) h29)), (.w .g), (.w .g), (.w .g), (.p true), .g]) (args := [.agg #[.int .i64 x1, .int .i64 x2, .bool x3, (sv v4), (sv v5), (sv v6)], .agg #[.int .i64 x7, .int .i64 x8, (sv v9), (sv v10), (sv v11)]]) (h := h) (h' := h29) (v := .bool (y31 == true)) (hC := (ai c30 (ai (g_tt c30) (ai (g_tt c30) (ai (g_tt c30) (ai (F22_spec x1 x2 x3 l4 l5 l6 x7 x8 l9 l10 l11 v4 v5 v6 v9 v10 v11 h29 (SlE.mono hv4 (Heapy.sub hp29) (E37_mono (Heapy.sub hp29))) (SlE.mono hv5 (Heapy.sub hp29) (E79_mono (Heapy.sub hp29))) (SlE.mono hv6 (Heapy.sub hp29) (E77_mono (Heapy.sub hp29))) (SlE.mono hv9 (Heapy.sub hp29) (E3_mono (Heapy.sub hp29))) (SlE.mono hv10 (Heapy.sub hp29) (E3_mono (Heapy.sub hp29))) (SlE.mono hv11 (Heapy.sub hp29) (E3_mono (Heapy.sub hp29))) _ e31) (ai (g_tt c30) (ai (g_tt c30) (ai (g_tt c30) (ai c29 (ai c27 (ai c26 (ai c19 (ai (F14_spec x1 x2 x3 l4 l5 l6 x7 x8 l9 l10 l11 v4 v5 v6 v9 v10 v11 h hv4 hv5 hv6 hv9 hv10 hv11 _ e17) (ai c15 (ai (g_ff l_f) (ai (F10_spec x1 x2 x3 l4 l5 l6 x7 x8 l9 l10 l11 v4 v5 v6 v9 v10 v11 h hv4 hv5 hv6 hv9 hv10 hv11 _ e13) (ai (g_ff l_f) (ai (g_ff l_f) (ai (g_ff l_f) (ai (F9_spec h _ rfl) trivial))))))))))))))))))))) (hr := by kernel_rfl)⟩
        · intro hr
          obtain rfl := Option.some.inj hr
          exact ⟨h29, Heapy.pick hp29 [] (by decide), pFun_sound good tab_ok (f := 4) (its := [.g, .g, .g, (.c (.bool true) h), .g, .g, (.w .g), (.w .g), (.w (.c (.bool y13) h)), (.w .g), .g, (.b false), .g, .g, .g, (.c (.bool y17) h), .g, .g, (.b false), .g, .g, (.c (.bool y25) h26), .g, .g, (.b true), .g, .g, .g, (.c (.int .i64 y28) h29), .g, .g, .g, .n, .n, .n, .n, .n, .n, (.p false), .g]) (args := [.agg #[.int .i64 x1, .int .i64 x2, .bool x3, (sv v4), (sv v5), (sv v6)], .agg #[.int .i64 x7, .int .i64 x8, (sv v9), (sv v10), (sv v11)]]) (h := h) (h' := h29) (v := .bool false) (hC := (ai c30 (ai (g_ft c30) (ai (g_ft c30) (ai (g_ft c30) (ai (g_ft c30) (ai (g_ft c30) (ai (g_ft c30) (ai c29 (ai c27 (ai c26 (ai c19 (ai (F14_spec x1 x2 x3 l4 l5 l6 x7 x8 l9 l10 l11 v4 v5 v6 v9 v10 v11 h hv4 hv5 hv6 hv9 hv10 hv11 _ e17) (ai c15 (ai (g_ff l_f) (ai (F10_spec x1 x2 x3 l4 l5 l6 x7 x8 l9 l10 l11 v4 v5 v6 v9 v10 v11 h hv4 hv5 hv6 hv9 hv10 hv11 _ e13) (ai (g_ff l_f) (ai (g_ff l_f) (ai (g_ff l_f) (ai (F9_spec h _ rfl) trivial)))))))))))))))))))) (hr := by kernel_rfl)⟩
      · refine bind_opt fun y33 e33 => ?_
        obtain ⟨h34, q34, c34⟩ := F21_spec x1 x2 x3 l4 l5 l6 x7 x8 l9 l10 l11 v4 v5 v6 v9 v10 v11 h26 (Heapy.wf hp26) (SlE.mono hv4 (Heapy.sub hp26) (E37_mono (Heapy.sub hp26))) (SlE.mono hv5 (Heapy.sub hp26) (E79_mono (Heapy.sub hp26))) (SlE.mono hv6 (Heapy.sub hp26) (E77_mono (Heapy.sub hp26))) (SlE.mono hv9 (Heapy.sub hp26) (E3_mono (Heapy.sub hp26))) (SlE.mono hv10 (Heapy.sub hp26) (E3_mono (Heapy.sub hp26))) (SlE.mono hv11 (Heapy.sub hp26) (E3_mono (Heapy.sub hp26))) _ e33
        have hp34 : Heapy h h34 [] := Heapy.call hp26 q34
        refine dec_bif (fun c35 => ?_) (fun c35 => ?_)
        · refine bind_opt fun y36 e36 => ?_
          intro hr
          obtain rfl := Option.some.inj hr
          exact ⟨h34, Heapy.pick hp34 [] (by decide), pFun_sound good tab_ok (f := 4) (its := [.g, .g, .g, (.c (.bool true) h), .g, .g, (.w .g), (.w .g), (.w (.c (.bool y13) h)), (.w .g), .g, (.b false), .g, .g, .g, (.c (.bool y17) h), .g, .g, (.b false), .g, .g, (.c (.bool y25) h26), .g, .g, (.b false), .g, .g, (.c (.int .i64 y33) h34), .g, .g, .g, (.w .g), (.w .g), (.w (.c (.bool y36) h34)), (.w .g), (.w .g), (.w .g), (.p true), .g]) (args := [.agg #[.int .i64 x1, .int .i64 x2, .bool x3, (sv v4), (sv v5), (sv v6)], .agg #[.int .i64 x7, .int .i64 x8, (sv v9), (sv v10), (sv v11)]]) (h := h) (h' := h34) (v := .bool (y36 == true)) (hC := (ai c35 (ai (g_tt c35) (ai (g_tt c35) (ai (g_tt c35) (ai (F22_spec x1 x2 x3 l4 l5 l6 x7 x8 l9 l10 l11 v4 v5 v6 v9 v10 v11 h34 (SlE.mono hv4 (Heapy.sub hp34) (E37_mono (Heapy.sub hp34))) (SlE.mono hv5 (Heapy.sub hp34) (E79_mono (Heapy.sub hp34))) (SlE.mono hv6 (Heapy.sub hp34) (E77_mono (Heapy.sub hp34))) (SlE.mono hv9 (Heapy.sub hp34) (E3_mono (Heapy.sub hp34))) (SlE.mono hv10 (Heapy.sub hp34) (E3_mono (Heapy.sub hp34))) (SlE.mono hv11 (Heapy.sub hp34) (E3_mono (Heapy.sub hp34))) _ e36) (ai (g_tt c35) (ai (g_tt c35) (ai (g_tt c35) (ai c34 (ai c27 (ai c26 (ai c19 (ai (F14_spec x1 x2 x3 l4 l5 l6 x7 x8 l9 l10 l11 v4 v5 v6 v9 v10 v11 h hv4 hv5 hv6 hv9 hv10 hv11 _ e17) (ai c15 (ai (g_ff l_f) (ai (F10_spec x1 x2 x3 l4 l5 l6 x7 x8 l9 l10 l11 v4 v5 v6 v9 v10 v11 h hv4 hv5 hv6 hv9 hv10 hv11 _ e13) (ai (g_ff l_f) (ai (g_ff l_f) (ai (g_ff l_f) (ai (F9_spec h _ rfl) trivial))))))))))))))))))))) (hr := by kernel_rfl)⟩
        · intro hr
          obtain rfl := Option.some.inj hr
          exact ⟨h34, Heapy.pick hp34 [] (by decide), pFun_sound good tab_ok (f := 4) (its := [.g, .g, .g, (.c (.bool true) h), .g, .g, (.w .g), (.w .g), (.w (.c (.bool y13) h)), (.w .g), .g, (.b false), .g, .g, .g, (.c (.bool y17) h), .g, .g, (.b false), .g, .g, (.c (.bool y25) h26), .g, .g, (.b false), .g, .g, (.c (.int .i64 y33) h34), .g, .g, .g, .n, .n, .n, .n, .n, .n, (.p false), .g]) (args := [.agg #[.int .i64 x1, .int .i64 x2, .bool x3, (sv v4), (sv v5), (sv v6)], .agg #[.int .i64 x7, .int .i64 x8, (sv v9), (sv v10), (sv v11)]]) (h := h) (h' := h34) (v := .bool false) (hC := (ai c35 (ai (g_ft c35) (ai (g_ft c35) (ai (g_ft c35) (ai (g_ft c35) (ai (g_ft c35) (ai (g_ft c35) (ai c34 (ai c27 (ai c26 (ai c19 (ai (F14_spec x1 x2 x3 l4 l5 l6 x7 x8 l9 l10 l11 v4 v5 v6 v9 v10 v11 h hv4 hv5 hv6 hv9 hv10 hv11 _ e17) (ai c15 (ai (g_ff l_f) (ai (F10_spec x1 x2 x3 l4 l5 l6 x7 x8 l9 l10 l11 v4 v5 v6 v9 v10 v11 h hv4 hv5 hv6 hv9 hv10 hv11 _ e13) (ai (g_ff l_f) (ai (g_ff l_f) (ai (g_ff l_f) (ai (F9_spec h _ rfl) trivial)))))))))))))))))))) (hr := by kernel_rfl)⟩
set_option maxRecDepth 100000 in
theorem F4_law (H : ∀ (x1 : Int) (x2 : Int) (x3 : Bool) (l4 : List (Int × Int × Int × Int)) (l5 : List (Int × Int × Int × Int)) (l6 : List (Int × Int)) (x7 : Int) (x8 : Int) (l9 : List Int) (l10 : List Int) (l11 : List Int), (Lit.int .i64 x1).wf = true → (Lit.int .i64 x2).wf = true → (l4.length ≤ maxLen ∧ l4.length * 32 ≤ reachBytes) → (∀ y ∈ l4, W37 y) → (l5.length ≤ maxLen ∧ l5.length * 32 ≤ reachBytes) → (∀ y ∈ l5, W79 y) → (l6.length ≤ maxLen ∧ l6.length * 16 ≤ reachBytes) → (∀ y ∈ l6, W77 y) → (Lit.int .i64 x7).wf = true → (Lit.int .i64 x8).wf = true → (l9.length ≤ maxLen ∧ l9.length * 8 ≤ reachBytes) → (∀ y ∈ l9, W3 y) → (l10.length ≤ maxLen ∧ l10.length * 8 ≤ reachBytes) → (∀ y ∈ l10, W3 y) → (l11.length ≤ maxLen ∧ l11.length * 8 ≤ reachBytes) → (∀ y ∈ l11, W3 y) → F4 x1 x2 x3 l4 l5 l6 x7 x8 l9 l10 l11 = some true) : Law Try.prog 4 10 [26, 29] := by
  intro s us hwf hro hT0
  obtain ⟨u0, vs0, rfl, t0, hT1⟩ := wts_cons hT0
  obtain ⟨cs0, rfl, k0⟩ := wtv_aggS 4 (ks := [.int .i64, .int .i64, .bool, .slice 37, .slice 79, .slice 77]) (by kernel_rfl) (by kernel_rfl) t0
  obtain ⟨x1, r_x1, rfl, w_x1, k0_0⟩ := sq_int k0
  obtain ⟨x2, r_x2, rfl, w_x2, k0_1⟩ := sq_int k0_0
  obtain ⟨x3, r_x3, rfl, k0_2⟩ := sq_bool k0_1
  obtain ⟨v4, r_l4, rfl, q_l4, k0_3⟩ := sq_slice k0_2
  obtain ⟨l4, a_l4, m_l4, w_l4⟩ := q_l4 E37 W37 4 (by kernel_rfl) fun n cs H => E37_wt H
  obtain ⟨v5, r_l5, rfl, q_l5, k0_4⟩ := sq_slice k0_3
  obtain ⟨l5, a_l5, m_l5, w_l5⟩ := q_l5 E79 W79 4 (by kernel_rfl) fun n cs H => E79_wt H
  obtain ⟨v6, r_l6, rfl, q_l6, k0_5⟩ := sq_slice k0_4
  obtain ⟨l6, a_l6, m_l6, w_l6⟩ := q_l6 E77 W77 2 (by kernel_rfl) fun n cs H => E77_wt H
  obtain rfl := sq_nil k0_5
  obtain ⟨u1, vs1, rfl, t1, hT2⟩ := wts_cons hT1
  obtain ⟨cs1, rfl, k1⟩ := wtv_aggS 3 (ks := [.int .i64, .int .i64, .slice 3, .slice 3, .slice 3]) (by kernel_rfl) (by kernel_rfl) t1
  obtain ⟨x7, r_x7, rfl, w_x7, k1_0⟩ := sq_int k1
  obtain ⟨x8, r_x8, rfl, w_x8, k1_1⟩ := sq_int k1_0
  obtain ⟨v9, r_l9, rfl, q_l9, k1_2⟩ := sq_slice k1_1
  obtain ⟨l9, a_l9, m_l9, w_l9⟩ := q_l9 E3 W3 1 (by kernel_rfl) fun n cs H => E3_wt H
  obtain ⟨v10, r_l10, rfl, q_l10, k1_3⟩ := sq_slice k1_2
  obtain ⟨l10, a_l10, m_l10, w_l10⟩ := q_l10 E3 W3 1 (by kernel_rfl) fun n cs H => E3_wt H
  obtain ⟨v11, r_l11, rfl, q_l11, k1_4⟩ := sq_slice k1_3
  obtain ⟨l11, a_l11, m_l11, w_l11⟩ := q_l11 E3 W3 1 (by kernel_rfl) fun n cs H => E3_wt H
  obtain rfl := sq_nil k1_4
  obtain rfl := wts_nil hT2
  obtain ⟨h2, _, hc⟩ := F4_spec x1 x2 x3 l4 l5 l6 x7 x8 l9 l10 l11 v4 v5 v6 v9 v10 v11 s hwf a_l4 a_l5 a_l6 a_l9 a_l10 a_l11 _ (H x1 x2 x3 l4 l5 l6 x7 x8 l9 l10 l11 w_x1 w_x2 m_l4 w_l4 m_l5 w_l5 m_l6 w_l6 w_x7 w_x8 m_l9 w_l9 m_l10 w_l10 m_l11 w_l11)
  refine (hc).mono ?_
  rintro v h' ⟨rfl, rfl⟩
  rfl
/-! 5 jacquard/jacquardlaw35.SchedcheckClashes -/
def F5_L : List Nat := [2, 3]
def F5_D : List (Nat × List (Nat × Nat)) := [(12, [(0, 2), (1, 2), (2, 2), (3, 2), (4, 2), (5, 2), (6, 2), (7, 2), (8, 2)])]
def F5_m1_2 : List Bool := [true, true, true, true, true, true, true, true, true, true, true, true, true, true, true, true, true, true, true, true, true, true, true, true, true, true, true, true, true, true, true, true, true, true, true, true, true, true, true, true, true, true, true, true, true, true, true, true, true, true]
def F5_m1_1 : List Bool := [true, true, true, true, true, false, false, true, true, true, true, true, true, true, true, true, true, true, true, true, true, true, true, true, true, true, true, true, true, true, true, true, true, true, true, true, false, false, true, true, true, true, true, true, true, true, true, true, true, true]
def F5_m1_0 : List Bool := [true, true, true, true, false, true, true, true, true, true, true, true, true, true, true, true, true, true, true, true, true, true, true, true, true, true, true, true, true, true, true, true, true, true, true, true, true, true, true, true, true, true, true, true, true, true, true, true, true, true]
def F5_s1 (y17 : (List (Int × Int))) (y23 : (List (Int × Int))) (a27 : Int) : Option (Int ⊕ Nat) :=
  (bif decide (a27 < (y17.length : Int)) then
   (Option.bind (at? y17 a27) fun y29 =>
   (Option.bind (at? y23 a27) fun y30 =>
   (bif (!((y29.1 == y30.1) && ((y29.2 == y30.2) && true))) then
    some (.inr 0)
   else
    some (.inl (IntKind.i64.wrap (a27 + 1))))))
  else
   some (.inr 1))
def F5_h1 (y17 : (List (Int × Int))) (u18_0 : Hd) (u24_0 : Hd) (h24 : AHeap)  (a27 : Int) : AS := ⟨[junk, junk, junk, junk, junk, (sv u18_0), (sv u24_0), junk, junk, junk, junk, junk, junk, junk, junk, junk, junk, junk, junk, junk, junk, junk, junk, junk, junk, junk, junk, junk, junk, junk, junk, junk, junk, junk, junk, junk, .int .i64 (y17.length : Int), .int .i64 a27, junk, junk, junk, junk, junk, junk, junk, junk, junk, junk, junk, junk], [], h24⟩
theorem F5_d1 : drawsOk F5_D (codeOf Try.prog 5 [1, 1, 1, 1, 1, 1, 0, 1, 0, 0]) = true := by kernel_rfl
def F5_x1_0 (h24 : AHeap)  (r : Nat) : AS := ⟨[junk, junk, junk, junk, .bool false, junk, junk, junk, junk, junk, junk, junk, junk, junk, junk, junk, junk, junk, junk, junk, junk, junk, junk, junk, junk, junk, junk, junk, junk, junk, junk, junk, junk, junk, junk, junk, junk, junk, junk, junk, junk, junk, junk, junk, junk, junk, junk, junk, junk, junk], [], h24⟩
def F5_x1_1 (h24 : AHeap)  (r : Nat) : AS := ⟨[junk, junk, junk, junk, junk, junk, junk, junk, junk, junk, junk, junk, junk, junk, junk, junk, junk, junk, junk, junk, junk, junk, junk, junk, junk, junk, junk, junk, junk, junk, junk, junk, junk, junk, junk, junk, junk, junk, junk, junk, junk, junk, junk, junk, junk, junk, junk, junk, junk, junk], [], h24⟩
def F5_x1 (h24 : AHeap) (r : Nat) : Exit × AS := (bif Nat.beq r 0 then (.ret, (F5_x1_0 h24 r)) else ((.exit 0), (F5_x1_1 h24 r)))
set_option maxRecDepth 100000 in
theorem F5_r1 (h : AHeap) (y17 : (List (Int × Int))) (u18_0 : Hd) (y23 : (List (Int × Int))) (u24_0 : Hd) (h24 : AHeap) (hp24 : Heapy h h24 [⟨u24_0, 43, 2, List.flatMap enc43 y23⟩, ⟨u18_0, 43, 2, List.flatMap enc43 y17⟩]) (a27 : Int) (o : Int ⊕ Nat) : F5_s1 y17 y23 a27 = some o → RdF Try.prog (codeOf Try.prog 5 [1, 1, 1, 1, 1, 1, 0, 1, 0, 0]) (fun (s : Int) => (F5_h1 y17 u18_0 u24_0 h24 s)) (F5_x1 h24) (F5_h1 y17 u18_0 u24_0 h24 a27) o := by
  unfold F5_s1
  refine dec_bif (fun c28 => ?_) (fun c28 => ?_)
  · refine bind_opt fun y29 e29 => ?_
    obtain ⟨id29, off29, g29, cs29, ix29, at29, rfl⟩ := SlE.at (Heapy.sle (v := u18_0) (xs := y17) (enc := enc43) hp24 1 rfl (fun _ => rfl) (by decide)) e29
    refine bind_opt fun y30 e30 => ?_
    obtain ⟨id30, off30, g30, cs30, ix30, at30, rfl⟩ := SlE.at (Heapy.sle (v := u24_0) (xs := y23) (enc := enc43) hp24 0 rfl (fun _ => rfl) (by decide)) e30
    refine dec_bif (fun c31 => ?_) (fun c31 => ?_)
    · intro hr
      obtain rfl := Option.some.inj hr
      show AWp Try.prog _ (Ends1 ((F5_x1 h24) (0 : Nat)).1 ((F5_x1 h24) (0 : Nat)).2) _
      exact pEnd_sound good (L := F5_L) (D := F5_D) (its := [.g, (.b true), .g, .g, .g, .g, (.ix id29 off29 g29), (.ld (.agg #[.int .i64 y29.1, .int .i64 y29.2])), .g, .g, (.ix id30 off30 g30), (.ld (.agg #[.int .i64 y30.1, .int .i64 y30.2])), (.eq ((y29.1 == y30.1) && ((y29.2 == y30.2) && true))), (.b true), .g]) (ds := F5_m1_0) (ks := []) (e := ((F5_x1 h24) (0 : Nat)).1) (s2 := ((F5_x1 h24) (0 : Nat)).2) (hC := (ai c31 (ai (show aggEq Try.prog 43 #[.int .i64 y29.1, .int .i64 y29.2] #[.int .i64 y30.1, .int .i64 y30.2] = some ((y29.1 == y30.1) && ((y29.2 == y30.2) && true)) by kernel_rfl) (ai (At.agg (P := Try.prog) (t := 43) (v := .agg #[.int .i64 y30.1, .int .i64 y30.2]) (m := 2) at30 (by kernel_rfl) (by kernel_rfl) 0 (by kernel_rfl) rfl) (ai ix30 (ai (At.agg (P := Try.prog) (t := 43) (v := .agg #[.int .i64 y29.1, .int .i64 y29.2]) (m := 2) at29 (by kernel_rfl) (by kernel_rfl) 0 (by kernel_rfl) rfl) (ai ix29 (ai c28 trivial)))))))) (hd := F5_d1) (h := by kernel_rfl)
    · intro hr
      obtain rfl := Option.some.inj hr
      show AWp Try.prog _ (Ends1 .normal (F5_h1 y17 u18_0 u24_0 h24 (IntKind.i64.wrap (a27 + 1)))) _
      exact pEnd_sound good (L := F5_L) (D := F5_D) (its := [.g, (.b true), .g, .g, .g, .g, (.ix id29 off29 g29), (.ld (.agg #[.int .i64 y29.1, .int .i64 y29.2])), .g, .g, (.ix id30 off30 g30), (.ld (.agg #[.int .i64 y30.1, .int .i64 y30.2])), (.eq ((y29.1 == y30.1) && ((y29.2 == y30.2) && true))), (.b false), .g, .g]) (ds := F5_m1_1) (ks := []) (e := .normal) (s2 := (F5_h1 y17 u18_0 u24_0 h24 (IntKind.i64.wrap (a27 + 1)))) (hC := (ai c31 (ai (show aggEq Try.prog 43 #[.int .i64 y29.1, .int .i64 y29.2] #[.int .i64 y30.1, .int .i64 y30.2] = some ((y29.1 == y30.1) && ((y29.2 == y30.2) && true)) by kernel_rfl) (ai (At.agg (P := Try.prog) (t := 43) (v := .agg #[.int .i64 y30.1, .int .i64 y30.2]) (m := 2) at30 (by kernel_rfl) (by kernel_rfl) 0 (by kernel_rfl) rfl) (ai ix30 (ai (At.agg (P := Try.prog) (t := 43) (v := .agg #[.int .i64 y29.1, .int .i64 y29.2]) (m := 2) at29 (by kernel_rfl) (by kernel_rfl) 0 (by kernel_rfl) rfl) (ai ix29 (ai c28 trivial)))))))) (hd := F5_d1) (h := by kernel_rfl)
  · intro hr
    obtain rfl := Option.some.inj hr
    show AWp Try.prog _ (Ends1 ((F5_x1 h24) (1 : Nat)).1 ((F5_x1 h24) (1 : Nat)).2) _
    exact pEnd_sound good (L := F5_L) (D := F5_D) (its := [.g, (.b false)]) (ds := F5_m1_2) (ks := []) (e := ((F5_x1 h24) (1 : Nat)).1) (s2 := ((F5_x1 h24) (1 : Nat)).2) (hC := (ai c28 trivial)) (hd := F5_d1) (h := by kernel_rfl)
theorem F5_l1_0 (h : AHeap) (y17 : (List (Int × Int))) (u18_0 : Hd) (y23 : (List (Int × Int))) (u24_0 : Hd) (h24 : AHeap) (hp24 : Heapy h h24 [⟨u24_0, 43, 2, List.flatMap enc43 y23⟩, ⟨u18_0, 43, 2, List.flatMap enc43 y17⟩]) (x : Int) (r : Nat) (hl : loopO (fun (s : Int) => F5_s1 y17 y23 s) x = some r) (q0 : Nat.beq r 0 = true) : AWp Try.prog (.loop (codeOf Try.prog 5 [1, 1, 1, 1, 1, 1, 0, 1, 0, 0])) (Ends1 .ret (F5_x1_0 h24 r)) ((fun (s : Int) => (F5_h1 y17 u18_0 u24_0 h24 s)) x) := by
  have k := loop_fun (P := Try.prog) (c := (codeOf Try.prog 5 [1, 1, 1, 1, 1, 1, 0, 1, 0, 0])) (step := (fun (s : Int) => F5_s1 y17 y23 s)) (hd := (fun (s : Int) => (F5_h1 y17 u18_0 u24_0 h24 s))) (X := (F5_x1 h24)) (by intro t; unfold F5_x1; cases Nat.beq t 0 <;> (intro h; cases h)) (fun x => F5_r1 h y17 u18_0 y23 u24_0 h24 hp24 x) hl
  simp only [F5_x1, q0, cond_true, cond_false] at k
  exact k
theorem F5_l1_1 (h : AHeap) (y17 : (List (Int × Int))) (u18_0 : Hd) (y23 : (List (Int × Int))) (u24_0 : Hd) (h24 : AHeap) (hp24 : Heapy h h24 [⟨u24_0, 43, 2, List.flatMap enc43 y23⟩, ⟨u18_0, 43, 2, List.flatMap enc43 y17⟩]) (x : Int) (r : Nat) (hl : loopO (fun (s : Int) => F5_s1 y17 y23 s) x = some r) (q0 : Nat.beq r 0 = false) : AWp Try.prog (.loop (codeOf Try.prog 5 [1, 1, 1, 1, 1, 1, 0, 1, 0, 0])) (Ends1 (.exit 0) (F5_x1_1 h24 r)) ((fun (s : Int) => (F5_h1 y17 u18_0 u24_0 h24 s)) x) := by
  have k := loop_fun (P := Try.prog) (c := (codeOf Try.prog 5 [1, 1, 1, 1, 1, 1, 0, 1, 0, 0])) (step := (fun (s : Int) => F5_s1 y17 y23 s)) (hd := (fun (s : Int) => (F5_h1 y17 u18_0 u24_0 h24 s))) (X := (F5_x1 h24)) (by intro t; unfold F5_x1; cases Nat.beq t 0 <;> (intro h; cases h)) (fun x => F5_r1 h y17 u18_0 y23 u24_0 h24 hp24 x) hl
  simp only [F5_x1, q0, cond_true, cond_false] at k
  exact k
def F5 (x1 : Int) (x2 : Int) (x3 : Bool) (l4 : List (Int × Int × Int × Int)) (l5 : List (Int × Int × Int × Int)) (l6 : List (Int × Int)) (x7 : Int) (x8 : Int) (l9 : List Int) (l10 : List Int) (l11 : List Int) : Option (Bool) :=
  (Option.bind (F10 x1 x2 x3 l4 l5 l6 x7 x8 l9 l10 l11) fun y13 =>
  (bif (!y13) then
   some (true)
  else
   (Option.bind (F23 x1 x2 x3 l4 l5 l6 x7 x8 l9 l10 l11) fun y17 =>
   (Option.bind (F14 x1 x2 x3 l4 l5 l6 x7 x8 l9 l10 l11) fun y20 =>
   (bif (!y20) then
    some ((y17.length : Int) == 0)
   else
    (Option.bind (F24 x1 x2 x3 l4 l5 l6 x7 x8 l9 l10 l11) fun y23 =>
    (bif ((y17.length : Int) != (y23.length : Int)) then
     some (false)
    else
     (Option.bind (loopO (fun (s : Int) => F5_s1 y17 y23 s) 0) fun y32 =>
     (bif (Nat.beq y32 0) then
      some (false)
     else
      some (true))))))))))
set_option maxRecDepth 100000 in
theorem F5_spec (x1 : Int) (x2 : Int) (x3 : Bool) (l4 : List (Int × Int × Int × Int)) (l5 : List (Int × Int × Int × Int)) (l6 : List (Int × Int)) (x7 : Int) (x8 : Int) (l9 : List Int) (l10 : List Int) (l11 : List Int) (v4 : Hd) (v5 : Hd) (v6 : Hd) (v9 : Hd) (v10 : Hd) (v11 : Hd) (h : AHeap) (hw : h.wf) (hv4 : SlE E37 4 h (sv v4) l4) (hv5 : SlE E79 4 h (sv v5) l5) (hv6 : SlE E77 2 h (sv v6) l6) (hv9 : SlE E3 1 h (sv v9) l9) (hv10 : SlE E3 1 h (sv v10) l10) (hv11 : SlE E3 1 h (sv v11) l11) (r : Bool) : F5 x1 x2 x3 l4 l5 l6 x7 x8 l9 l10 l11 = some r → ∃ (h' : AHeap), Heapy h h' [] ∧ ACalls Try.prog 5 [.agg #[.int .i64 x1, .int .i64 x2, .bool x3, (sv v4), (sv v5), (sv v6)], .agg #[.int .i64 x7, .int .i64 x8, (sv v9), (sv v10), (sv v11)]] h (fun v' h'' => v' = (.bool r : Value) ∧ h'' = h') := by
  unfold F5
  refine bind_opt fun y13 e13 => ?_
  refine dec_bif (fun c15 => ?_) (fun c15 => ?_)
  · intro hr
    obtain rfl := Option.some.inj hr
    exact ⟨h, Heapy.pick (Heapy.refl hw) [] (by decide), pFun_sound good tab_ok (f := 5) (its := [.g, .g, .g, (.c (.bool true) h), .g, .g, (.w .g), (.w .g), (.w (.c (.bool y13) h)), (.w .g), .g, (.b true), (.c (.bool true) h), .g]) (args := [.agg #[.int .i64 x1, .int .i64 x2, .bool x3, (sv v4), (sv v5), (sv v6)], .agg #[.int .i64 x7, .int .i64 x8, (sv v9), (sv v10), (sv v11)]]) (h := h) (h' := h) (v := .bool true) (hC := (ai (F9_spec h _ rfl) (ai c15 (ai (g_ff l_f) (ai (F10_spec x1 x2 x3 l4 l5 l6 x7 x8 l9 l10 l11 v4 v5 v6 v9 v10 v11 h hv4 hv5 hv6 hv9 hv10 hv11 _ e13) (ai (g_ff l_f) (ai (g_ff l_f) (ai (g_ff l_f) (ai (F9_spec h _ rfl) trivial))))))))) (hr := by kernel_rfl)⟩
  · refine bind_opt fun y17 e17 => ?_
    obtain ⟨u18_0, h18, q18, zu18_0, c18⟩ := F23_spec x1 x2 x3 l4 l5 l6 x7 x8 l9 l10 l11 v4 v5 v6 v9 v10 v11 h hw hv4 hv5 hv6 hv9 hv10 hv11 _ e17
    have hp18 : Heapy h h18 [⟨u18_0, 43, 2, List.flatMap enc43 y17⟩] := Heapy.call (Heapy.refl hw) q18
    refine bind_opt fun y20 e20 => ?_
    refine dec_bif (fun c22 => ?_) (fun c22 => ?_)
    · intro hr
      obtain rfl := Option.some.inj hr
      exact ⟨h18, Heapy.pick hp18 [] (by decide), pFun_sound good tab_ok (f := 5) (its := [.g, .g, .g, (.c (.bool true) h), .g, .g, (.w .g), (.w .g), (.w (.c (.bool y13) h)), (.w .g), .g, (.b false), .g, .g, (.c ((sv u18_0)) h18), .g, .g, .g, (.c (.bool y20) h18), .g, (.b true), .g, (.ln y17.length), .g, .g]) (args := [.agg #[.int .i64 x1, .int .i64 x2, .bool x3, (sv v4), (sv v5), (sv v6)], .agg #[.int .i64 x7, .int .i64 x8, (sv v9), (sv v10), (sv v11)]]) (h := h) (h' := h18) (v := .bool ((y17.length : Int) == 0)) (hC := (ai (SlE.len (Heapy.sle (v := u18_0) (xs := y17) (enc := enc43) hp18 0 rfl (fun _ => rfl) (by decide))) (ai c22 (ai (F14_spec x1 x2 x3 l4 l5 l6 x7 x8 l9 l10 l11 v4 v5 v6 v9 v10 v11 h18 (SlE.mono hv4 (Heapy.sub hp18) (E37_mono (Heapy.sub hp18))) (SlE.mono hv5 (Heapy.sub hp18) (E79_mono (Heapy.sub hp18))) (SlE.mono hv6 (Heapy.sub hp18) (E77_mono (Heapy.sub hp18))) (SlE.mono hv9 (Heapy.sub hp18) (E3_mono (Heapy.sub hp18))) (SlE.mono hv10 (Heapy.sub hp18) (E3_mono (Heapy.sub hp18))) (SlE.mono hv11 (Heapy.sub hp18) (E3_mono (Heapy.sub hp18))) _ e20) (ai c18 (ai c15 (ai (g_ff l_f) (ai (F10_spec x1 x2 x3 l4 l5 l6 x7 x8 l9 l10 l11 v4 v5 v6 v9 v10 v11 h hv4 hv5 hv6 hv9 hv10 hv11 _ e13) (ai (g_ff l_f) (ai (g_ff l_f) (ai (g_ff l_f) (ai (F9_spec h _ rfl) trivial)))))))))))) (hr := by kernel_rfl)⟩
    · refine bind_opt fun y23 e23 => ?_
      obtain ⟨u24_0, h24, q24, zu24_0, c24⟩ := F24_spec x1 x2 x3 l4 l5 l6 x7 x8 l9 l10 l11 v4 v5 v6 v9 v10 v11 h18 (Heapy.wf hp18) (SlE.mono hv4 (Heapy.sub hp18) (E37_mono (Heapy.sub hp18))) (SlE.mono hv5 (Heapy.sub hp18) (E79_mono (Heapy.sub hp18))) (SlE.mono hv6 (Heapy.sub hp18) (E77_mono (Heapy.sub hp18))) (SlE.mono hv9 (Heapy.sub hp18) (E3_mono (Heapy.sub hp18))) (SlE.mono hv10 (Heapy.sub hp18) (E3_mono (Heapy.sub hp18))) (SlE.mono hv11 (Heapy.sub hp18) (E3_mono (Heapy.sub hp18))) _ e23
      have hp24 : Heapy h h24 [⟨u24_0, 43, 2, List.flatMap enc43 y23⟩, ⟨u18_0, 43, 2, List.flatMap enc43 y17⟩] := Heapy.call hp18 q24
      refine dec_bif (fun c26 => ?_) (fun c26 => ?_)
      · intro hr
        obtain rfl := Option.some.inj hr
        exact ⟨h24, Heapy.pick hp24 [] (by decide), pFun_sound good tab_ok (f := 5) (its := [.g, .g, .g, (.c (.bool true) h), .g, .g, (.w .g), (.w .g), (.w (.c (.bool y13) h)), (.w .g), .g, (.b false), .g, .g, (.c ((sv u18_0)) h18), .g, .g, .g, (.c (.bool y20) h18), .g, (.b false), .g, .g, (.c ((sv u24_0)) h24), .g, .g, (.ln y17.length), .g, (.ln y23.length), .g, (.b true), .g]) (args := [.agg #[.int .i64 x1, .int .i64 x2, .bool x3, (sv v4), (sv v5), (sv v6)], .agg #[.int .i64 x7, .int .i64 x8, (sv v9), (sv v10), (sv v11)]]) (h := h) (h' := h24) (v := .bool false) (hC := (ai c26 (ai (SlE.len (Heapy.sle (v := u24_0) (xs := y23) (enc := enc43) hp24 0 rfl (fun _ => rfl) (by decide))) (ai (SlE.len (Heapy.sle (v := u18_0) (xs := y17) (enc := enc43) hp24 1 rfl (fun _ => rfl) (by decide))) (ai c24 (ai c22 (ai (F14_spec x1 x2 x3 l4 l5 l6 x7 x8 l9 l10 l11 v4 v5 v6 v9 v10 v11 h18 (SlE.mono hv4 (Heapy.sub hp18) (E37_mono (Heapy.sub hp18))) (SlE.mono hv5 (Heapy.sub hp18) (E79_mono (Heapy.sub hp18))) (SlE.mono hv6 (Heapy.sub hp18) (E77_mono (Heapy.sub hp18))) (SlE.mono hv9 (Heapy.sub hp18) (E3_mono (Heapy.sub hp18))) (SlE.mono hv10 (Heapy.sub hp18) (E3_mono (Heapy.sub hp18))) (SlE.mono hv11 (Heapy.sub hp18) (E3_mono (Heapy.sub hp18))) _ e20) (ai c18 (ai c15 (ai (g_ff l_f) (ai (F10_spec x1 x2 x3 l4 l5 l6 x7 x8 l9 l10 l11 v4 v5 v6 v9 v10 v11 h hv4 hv5 hv6 hv9 hv10 hv11 _ e13) (ai (g_ff l_f) (ai (g_ff l_f) (ai (g_ff l_f) (ai (F9_spec h _ rfl) trivial))))))))))))))) (hr := by kernel_rfl)⟩
      · refine bind_opt fun y32 e32 => ?_
        refine dec_bif (fun c33 => ?_) (fun c33 => ?_)
        · intro hr
          obtain rfl := Option.some.inj hr
          exact ⟨h24, Heapy.pick hp24 [] (by decide), pFun_sound good tab_ok (f := 5) (its := [.g, .g, .g, (.c (.bool true) h), .g, .g, (.w .g), (.w .g), (.w (.c (.bool y13) h)), (.w .g), .g, (.b false), .g, .g, (.c ((sv u18_0)) h18), .g, .g, .g, (.c (.bool y20) h18), .g, (.b false), .g, .g, (.c ((sv u24_0)) h24), .g, .g, (.ln y17.length), .g, (.ln y23.length), .g, (.b false), .g, (.ln y17.length), .g, (.l F5_m1_1 [2, 3] .ret (F5_x1_0 h24 y32))]) (args := [.agg #[.int .i64 x1, .int .i64 x2, .bool x3, (sv v4), (sv v5), (sv v6)], .agg #[.int .i64 x7, .int .i64 x8, (sv v9), (sv v10), (sv v11)]]) (h := h) (h' := h24) (v := .bool false) (hC := (ai (F5_l1_0 h y17 u18_0 y23 u24_0 h24 hp24 0 y32 e32 c33) (ai (SlE.len (Heapy.sle (v := u18_0) (xs := y17) (enc := enc43) hp24 1 rfl (fun _ => rfl) (by decide))) (ai c26 (ai (SlE.len (Heapy.sle (v := u24_0) (xs := y23) (enc := enc43) hp24 0 rfl (fun _ => rfl) (by decide))) (ai (SlE.len (Heapy.sle (v := u18_0) (xs := y17) (enc := enc43) hp24 1 rfl (fun _ => rfl) (by decide))) (ai c24 (ai c22 (ai (F14_spec x1 x2 x3 l4 l5 l6 x7 x8 l9 l10 l11 v4 v5 v6 v9 v10 v11 h18 (SlE.mono hv4 (Heapy.sub hp18) (E37_mono (Heapy.sub hp18))) (SlE.mono hv5 (Heapy.sub hp18) (E79_mono (Heapy.sub hp18))) (SlE.mono hv6 (Heapy.sub hp18) (E77_mono (Heapy.sub hp18))) (SlE.mono hv9 (Heapy.sub hp18) (E3_mono (Heapy.sub hp18))) (SlE.mono hv10 (Heapy.sub hp18) (E3_mono (Heapy.sub hp18))) (SlE.mono hv11 (Heapy.sub hp18) (E3_mono (Heapy.sub hp18))) _ e20) (ai c18 (ai c15 (ai (g_ff l_f) (ai (F10_spec x1 x2 x3 l4 l5 l6 x7 x8 l9 l10 l11 v4 v5 v6 v9 v10 v11 h hv4 hv5 hv6 hv9 hv10 hv11 _ e13) (ai (g_ff l_f) (ai (g_ff l_f) (ai (g_ff l_f) (ai (F9_spec h _ rfl) trivial))))))))))))))))) (hr := by kernel_rfl)⟩
        · intro hr
          obtain rfl := Option.some.inj hr
          exact ⟨h24, Heapy.pick hp24 [] (by decide), pFun_sound good tab_ok (f := 5) (its := [.g, .g, .g, (.c (.bool true) h), .g, .g, (.w .g), (.w .g), (.w (.c (.bool y13) h)), (.w .g), .g, (.b false), .g, .g, (.c ((sv u18_0)) h18), .g, .g, .g, (.c (.bool y20) h18), .g, (.b false), .g, .g, (.c ((sv u24_0)) h24), .g, .g, (.ln y17.length), .g, (.ln y23.length), .g, (.b false), .g, (.ln y17.length), .g, (.l F5_m1_1 [2, 3] (.exit 0) (F5_x1_1 h24 y32)), .g]) (args := [.agg #[.int .i64 x1, .int .i64 x2, .bool x3, (sv v4), (sv v5), (sv v6)], .agg #[.int .i64 x7, .int .i64 x8, (sv v9), (sv v10), (sv v11)]]) (h := h) (h' := h24) (v := .bool true) (hC := (ai (F5_l1_1 h y17 u18_0 y23 u24_0 h24 hp24 0 y32 e32 c33) (ai (SlE.len (Heapy.sle (v := u18_0) (xs := y17) (enc := enc43) hp24 1 rfl (fun _ => rfl) (by decide))) (ai c26 (ai (SlE.len (Heapy.sle (v := u24_0) (xs := y23) (enc := enc43) hp24 0 rfl (fun _ => rfl) (by decide))) (ai (SlE.len (Heapy.sle (v := u18_0) (xs := y17) (enc := enc43) hp24 1 rfl (fun _ => rfl) (by decide))) (ai c24 (ai c22 (ai (F14_spec x1 x2 x3 l4 l5 l6 x7 x8 l9 l10 l11 v4 v5 v6 v9 v10 v11 h18 (SlE.mono hv4 (Heapy.sub hp18) (E37_mono (Heapy.sub hp18))) (SlE.mono hv5 (Heapy.sub hp18) (E79_mono (Heapy.sub hp18))) (SlE.mono hv6 (Heapy.sub hp18) (E77_mono (Heapy.sub hp18))) (SlE.mono hv9 (Heapy.sub hp18) (E3_mono (Heapy.sub hp18))) (SlE.mono hv10 (Heapy.sub hp18) (E3_mono (Heapy.sub hp18))) (SlE.mono hv11 (Heapy.sub hp18) (E3_mono (Heapy.sub hp18))) _ e20) (ai c18 (ai c15 (ai (g_ff l_f) (ai (F10_spec x1 x2 x3 l4 l5 l6 x7 x8 l9 l10 l11 v4 v5 v6 v9 v10 v11 h hv4 hv5 hv6 hv9 hv10 hv11 _ e13) (ai (g_ff l_f) (ai (g_ff l_f) (ai (g_ff l_f) (ai (F9_spec h _ rfl) trivial))))))))))))))))) (hr := by kernel_rfl)⟩
set_option maxRecDepth 100000 in
theorem F5_law (H : ∀ (x1 : Int) (x2 : Int) (x3 : Bool) (l4 : List (Int × Int × Int × Int)) (l5 : List (Int × Int × Int × Int)) (l6 : List (Int × Int)) (x7 : Int) (x8 : Int) (l9 : List Int) (l10 : List Int) (l11 : List Int), (Lit.int .i64 x1).wf = true → (Lit.int .i64 x2).wf = true → (l4.length ≤ maxLen ∧ l4.length * 32 ≤ reachBytes) → (∀ y ∈ l4, W37 y) → (l5.length ≤ maxLen ∧ l5.length * 32 ≤ reachBytes) → (∀ y ∈ l5, W79 y) → (l6.length ≤ maxLen ∧ l6.length * 16 ≤ reachBytes) → (∀ y ∈ l6, W77 y) → (Lit.int .i64 x7).wf = true → (Lit.int .i64 x8).wf = true → (l9.length ≤ maxLen ∧ l9.length * 8 ≤ reachBytes) → (∀ y ∈ l9, W3 y) → (l10.length ≤ maxLen ∧ l10.length * 8 ≤ reachBytes) → (∀ y ∈ l10, W3 y) → (l11.length ≤ maxLen ∧ l11.length * 8 ≤ reachBytes) → (∀ y ∈ l11, W3 y) → F5 x1 x2 x3 l4 l5 l6 x7 x8 l9 l10 l11 = some true) : Law Try.prog 5 10 [26, 29] := by
  intro s us hwf hro hT0
  obtain ⟨u0, vs0, rfl, t0, hT1⟩ := wts_cons hT0
  obtain ⟨cs0, rfl, k0⟩ := wtv_aggS 4 (ks := [.int .i64, .int .i64, .bool, .slice 37, .slice 79, .slice 77]) (by kernel_rfl) (by kernel_rfl) t0
  obtain ⟨x1, r_x1, rfl, w_x1, k0_0⟩ := sq_int k0
  obtain ⟨x2, r_x2, rfl, w_x2, k0_1⟩ := sq_int k0_0
  obtain ⟨x3, r_x3, rfl, k0_2⟩ := sq_bool k0_1
  obtain ⟨v4, r_l4, rfl, q_l4, k0_3⟩ := sq_slice k0_2
  obtain ⟨l4, a_l4, m_l4, w_l4⟩ := q_l4 E37 W37 4 (by kernel_rfl) fun n cs H => E37_wt H
  obtain ⟨v5, r_l5, rfl, q_l5, k0_4⟩ := sq_slice k0_3
  obtain ⟨l5, a_l5, m_l5, w_l5⟩ := q_l5 E79 W79 4 (by kernel_rfl) fun n cs H => E79_wt H
  obtain ⟨v6, r_l6, rfl, q_l6, k0_5⟩ := sq_slice k0_4
  obtain ⟨l6, a_l6, m_l6, w_l6⟩ := q_l6 E77 W77 2 (by kernel_rfl) fun n cs H => E77_wt H
  obtain rfl := sq_nil k0_5
  obtain ⟨u1, vs1, rfl, t1, hT2⟩ := wts_cons hT1
  obtain ⟨cs1, rfl, k1⟩ := wtv_aggS 3 (ks := [.int .i64, .int .i64, .slice 3, .slice 3, .slice 3]) (by kernel_rfl) (by kernel_rfl) t1
  obtain ⟨x7, r_x7, rfl, w_x7, k1_0⟩ := sq_int k1
  obtain ⟨x8, r_x8, rfl, w_x8, k1_1⟩ := sq_int k1_0
  obtain ⟨v9, r_l9, rfl, q_l9, k1_2⟩ := sq_slice k1_1
  obtain ⟨l9, a_l9, m_l9, w_l9⟩ := q_l9 E3 W3 1 (by kernel_rfl) fun n cs H => E3_wt H
  obtain ⟨v10, r_l10, rfl, q_l10, k1_3⟩ := sq_slice k1_2
  obtain ⟨l10, a_l10, m_l10, w_l10⟩ := q_l10 E3 W3 1 (by kernel_rfl) fun n cs H => E3_wt H
  obtain ⟨v11, r_l11, rfl, q_l11, k1_4⟩ := sq_slice k1_3
  obtain ⟨l11, a_l11, m_l11, w_l11⟩ := q_l11 E3 W3 1 (by kernel_rfl) fun n cs H => E3_wt H
  obtain rfl := sq_nil k1_4
  obtain rfl := wts_nil hT2
  obtain ⟨h2, _, hc⟩ := F5_spec x1 x2 x3 l4 l5 l6 x7 x8 l9 l10 l11 v4 v5 v6 v9 v10 v11 s hwf a_l4 a_l5 a_l6 a_l9 a_l10 a_l11 _ (H x1 x2 x3 l4 l5 l6 x7 x8 l9 l10 l11 w_x1 w_x2 m_l4 w_l4 m_l5 w_l5 m_l6 w_l6 w_x7 w_x8 m_l9 w_l9 m_l10 w_l10 m_l11 w_l11)
  refine (hc).mono ?_
  rintro v h' ⟨rfl, rfl⟩
  rfl
end
end Go.Proofs.Ytofnegejldgdbaa.Abs
