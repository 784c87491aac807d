/-
  Contracts, written by program: for each function what its call yields, and that it yields it.
-/
import Derived.Test.YtofnegejldgdbaaScb
namespace Go.Proofs.Ytofnegejldgdbaa.Abs
open Go
set_option linter.unusedVariables false
set_option linter.unusedSimpArgs false

noncomputable section
/-! 70 jacquard/dataflow.validFrame -/
def F70_L : List Nat := [1, 7]
def F70_D : List (Nat × List (Nat × Nat)) := [(10, [(0, 2), (2, 2), (5, 2), (7, 2), (1, 3), (3, 2), (4, 5), (6, 1), (8, 2), (9, 2)]), (17, [(0, 2), (1, 2), (2, 2), (3, 2), (4, 2), (5, 2), (7, 2), (6, 3), (8, 1), (9, 2), (10, 2), (11, 2), (12, 2), (13, 2), (14, 2), (15, 2), (16, 2), (17, 2), (18, 2), (19, 2), (20, 2), (21, 2), (22, 2), (23, 2), (24, 2), (25, 2), (26, 2), (27, 2), (28, 2), (29, 2), (30, 2), (31, 2), (32, 2), (33, 2)])]
def F70__1 (x1 : Int) (x2 : Int) (l4 : List (Int × Int × Int × Int)) : Bool := decide ((l4.length : Int) < (IntKind.i64.wrap ((IntKind.i64.wrap (2 * (IntKind.i64.wrap (x1 + x2)))) + 1)))
def F70__2 (x1 : Int) (x2 : Int) (x3 : Bool) (l4 : List (Int × Int × Int × Int)) (l5 : List (Int × Int × Int × Int)) (l6 : List (Int × Int)) (y12 : Int × Int × Int × Int) : Bool := (!((y12.1 == (F67 x1 x2 x3 l4 l5 l6)) && ((y12.2.1 == (F78 x1 x2 x3 l4 l5 l6)) && ((y12.2.2.1 == 0) && ((y12.2.2.2 == 0) && true)))))
def F70__3 (x1 : Int) (x2 : Int) (x3 : Bool) (l4 : List (Int × Int × Int × Int)) (l5 : List (Int × Int × Int × Int)) (l6 : List (Int × Int)) (a8 : Int) (y15 : Int × Int × Int × Int) : Bool := (!((y15.1 == (F67 x1 x2 x3 l4 l5 l6)) && ((y15.2.1 == a8) && ((y15.2.2.1 == 0) && ((y15.2.2.2 == 0) && true)))))
def F70_m1_2 : List Bool := [true, false, true, false, true, true, true, true, true, true, true, true, true, true, true, true, true, true, true, true, true, true, true, true, true, true, true, true, true, true, true, true, true, true, true, true, true, true, true, true, true, true, true, true, true, true, true, true, true, true, true, true, true, true, true, true, true, true, true, true, true, true, true, true, true, true, true, true, true, true, true, true, true, true, true, true, true, true, true, true, true, true, true, true, true, true, true, true, true]
def F70_m1_1 : List Bool := [true, false, true, false, true, true, true, true, true, true, true, true, true, true, true, true, true, true, true, true, true, false, false, true, true, true, true, true, true, true, true, true, true, true, true, true, true, true, true, true, true, true, true, true, true, true, true, true, true, true, true, true, true, true, true, true, true, true, true, true, true, true, true, true, true, true, true, true, true, true, true, true, true, true, true, true, true, true, true, true, true, true, true, true, true, true, true, true, true]
def F70_m1_0 : List Bool := [true, true, false, true, true, true, true, true, true, true, true, true, true, true, true, true, true, true, true, true, true, true, true, true, true, true, true, true, true, true, true, true, true, true, true, true, true, true, true, true, true, true, true, true, true, true, true, true, true, true, true, true, true, true, true, true, true, true, true, true, true, true, true, true, true, true, true, true, true, true, true, true, true, true, true, true, true, true, true, true, true, true, true, true, true, true, true, true, true]
def F70_s1 (x1 : Int) (x2 : Int) (x3 : Bool) (l4 : List (Int × Int × Int × Int)) (l5 : List (Int × Int × Int × Int)) (l6 : List (Int × Int)) (a8 : Int) : Option (Int ⊕ Nat) :=
  (bif decide (a8 < (IntKind.i64.wrap ((IntKind.i64.wrap (x1 + x2)) + 1))) then
   (bif (a8 == (IntKind.i64.wrap (x1 + x2))) then
    (Option.bind (at? l4 a8) fun y12 =>
    (bif (F70__2 x1 x2 x3 l4 l5 l6 y12) then
     some (.inr 0)
    else
     some (.inl (IntKind.i64.wrap (a8 + 1)))))
   else
    (Option.bind (at? l4 a8) fun y15 =>
    (bif (F70__3 x1 x2 x3 l4 l5 l6 a8 y15) then
     some (.inr 0)
    else
     some (.inl (IntKind.i64.wrap (a8 + 1))))))
  else
   some (.inr 1))
def F70_h1 (h : AHeap) (x1 : Int) (x2 : Int) (x3 : Bool) (v4 : Hd) (v5 : Hd) (v6 : Hd)  (a8 : Int) : AS := ⟨[junk, .pointer (some ⟨1, 0, none⟩), junk, .int .i64 (IntKind.i64.wrap (x1 + x2)), junk, junk, junk, junk, junk, junk, junk, junk, junk, junk, junk, junk, junk, junk, junk, junk, junk, .int .i64 (IntKind.i64.wrap ((IntKind.i64.wrap (x1 + x2)) + 1)), .int .i64 a8, junk, junk, junk, junk, junk, junk, junk, junk, junk, junk, junk, junk, junk, junk, junk, junk, junk, junk, junk, junk, junk, junk, junk, junk, junk, junk, junk, junk, junk, junk, junk, junk, junk, junk, junk, junk, junk, junk, junk, junk, junk, junk, junk, junk, junk, junk, junk, junk, junk, junk, junk, junk, junk, junk, junk, junk, junk, junk, junk, junk, junk, junk, junk, junk, junk, junk], [(1, [.int .i64 x1, .int .i64 x2, .bool x3, (sv v4), (sv v5), (sv v6)])], h⟩
theorem F70_d1 : drawsOk F70_D (codeOf Try.prog 70 [1, 1, 1, 0, 1, 0, 0]) = true := by kernel_rfl
def F70_x1_0 (h : AHeap) (x1 : Int) (x2 : Int) (x3 : Bool) (v4 : Hd) (v5 : Hd) (v6 : Hd)  (r : Nat) : AS := ⟨[junk, junk, .bool false, junk, junk, junk, junk, junk, junk, junk, junk, junk, junk, junk, junk, junk, junk, junk, junk, junk, junk, junk, junk, junk, junk, junk, junk, junk, junk, junk, junk, junk, junk, junk, junk, junk, junk, junk, junk, junk, junk, junk, junk, junk, junk, junk, junk, junk, junk, junk, junk, junk, junk, junk, junk, junk, junk, junk, junk, junk, junk, junk, junk, junk, junk, junk, junk, junk, junk, junk, junk, junk, junk, junk, junk, junk, junk, junk, junk, junk, junk, junk, junk, junk, junk, junk, junk, junk, junk], [], h⟩
def F70_x1_1 (h : AHeap) (x1 : Int) (x2 : Int) (x3 : Bool) (v4 : Hd) (v5 : Hd) (v6 : Hd)  (r : Nat) : AS := ⟨[junk, .pointer (some ⟨1, 0, none⟩), junk, .int .i64 (IntKind.i64.wrap (x1 + x2)), junk, junk, junk, junk, junk, junk, junk, junk, junk, junk, junk, junk, junk, junk, junk, junk, junk, junk, junk, junk, junk, junk, junk, junk, junk, junk, junk, junk, junk, junk, junk, junk, junk, junk, junk, junk, junk, junk, junk, junk, junk, junk, junk, junk, junk, junk, junk, junk, junk, junk, junk, junk, junk, junk, junk, junk, junk, junk, junk, junk, junk, junk, junk, junk, junk, junk, junk, junk, junk, junk, junk, junk, junk, junk, junk, junk, junk, junk, junk, junk, junk, junk, junk, junk, junk], [(1, [.int .i64 x1, .int .i64 x2, .bool x3, (sv v4), (sv v5), (sv v6)])], h⟩
def F70_x1 (h : AHeap) (x1 : Int) (x2 : Int) (x3 : Bool) (v4 : Hd) (v5 : Hd) (v6 : Hd) (r : Nat) : Exit × AS := (bif Nat.beq r 0 then (.ret, (F70_x1_0 h x1 x2 x3 v4 v5 v6 r)) else ((.exit 0), (F70_x1_1 h x1 x2 x3 v4 v5 v6 r)))
set_option maxRecDepth 100000 in
theorem F70_r1 (h : AHeap) (x1 : Int) (x2 : Int) (x3 : Bool) (l4 : List (Int × Int × Int × Int)) (v4 : Hd) (hv4 : SlE E37 4 h (sv v4) l4) (l5 : List (Int × Int × Int × Int)) (v5 : Hd) (hv5 : SlE E79 4 h (sv v5) l5) (l6 : List (Int × Int)) (v6 : Hd) (hv6 : SlE E77 2 h (sv v6) l6) (a8 : Int) (o : Int ⊕ Nat) : F70_s1 x1 x2 x3 l4 l5 l6 a8 = some o → RdF Try.prog (codeOf Try.prog 70 [1, 1, 1, 0, 1, 0, 0]) (fun (s : Int) => (F70_h1 h x1 x2 x3 v4 v5 v6 s)) (F70_x1 h x1 x2 x3 v4 v5 v6) (F70_h1 h x1 x2 x3 v4 v5 v6 a8) o := by
  unfold F70_s1
  refine dec_bif (fun c9 => ?_) (fun c9 => ?_)
  · refine dec_bif (fun c10 => ?_) (fun c10 => ?_)
    · refine bind_opt fun y12 e12 => ?_
      obtain ⟨id12, off12, g12, cs12, ix12, at12, rfl⟩ := SlE.at hv4 e12
      refine dec_bif (fun c14 => ?_) (fun c14 => ?_)
      · intro hr
        obtain rfl := Option.some.inj hr
        show AWp Try.prog _ (Ends1 ((F70_x1 h x1 x2 x3 v4 v5 v6) (0 : Nat)).1 ((F70_x1 h x1 x2 x3 v4 v5 v6) (0 : Nat)).2) _
        exact pEnd_sound good (L := F70_L) (D := F70_D) (its := [.g, (.b true), .g, .g, .g, .g, .g, .g, .g, (.b true), .g, (.c (.int .i64 (F78 x1 x2 x3 l4 l5 l6)) h), .g, .g, .g, .g, .g, .g, (.ix id12 off12 g12), (.ld (.agg #[.int .i64 y12.1, .int .i64 y12.2.1, .int .i64 y12.2.2.1, .int .i64 y12.2.2.2])), (.c (.int .i64 (F67 x1 x2 x3 l4 l5 l6)) h), .g, (.eq ((y12.1 == (F67 x1 x2 x3 l4 l5 l6)) && ((y12.2.1 == (F78 x1 x2 x3 l4 l5 l6)) && ((y12.2.2.1 == 0) && ((y12.2.2.2 == 0) && true))))), (.b true), .g]) (ds := F70_m1_0) (ks := [1]) (e := ((F70_x1 h x1 x2 x3 v4 v5 v6) (0 : Nat)).1) (s2 := ((F70_x1 h x1 x2 x3 v4 v5 v6) (0 : Nat)).2) (hC := (ai c14 (ai (show aggEq Try.prog 37 #[.int .i64 y12.1, .int .i64 y12.2.1, .int .i64 y12.2.2.1, .int .i64 y12.2.2.2] #[.int .i64 (F67 x1 x2 x3 l4 l5 l6), .int .i64 (F78 x1 x2 x3 l4 l5 l6), .int .i64 0, .int .i64 0] = some ((y12.1 == (F67 x1 x2 x3 l4 l5 l6)) && ((y12.2.1 == (F78 x1 x2 x3 l4 l5 l6)) && ((y12.2.2.1 == 0) && ((y12.2.2.2 == 0) && true)))) by kernel_rfl) (ai (show AKeep h h from (AHeap.sub_refl h)) (ai (F67_spec x1 x2 x3 l4 l5 l6 v4 v5 v6 h hv4 hv5 hv6 _ rfl) (ai (At.agg (P := Try.prog) (t := 37) (v := .agg #[.int .i64 y12.1, .int .i64 y12.2.1, .int .i64 y12.2.2.1, .int .i64 y12.2.2.2]) (m := 4) at12 (by kernel_rfl) (by kernel_rfl) 0 (by kernel_rfl) rfl) (ai ix12 (ai (F78_spec x1 x2 x3 l4 l5 l6 v4 v5 v6 h hv4 hv5 hv6 _ rfl) (ai c10 (ai c9 trivial)))))))))) (hd := F70_d1) (h := by kernel_rfl)
      · intro hr
        obtain rfl := Option.some.inj hr
        show AWp Try.prog _ (Ends1 .normal (F70_h1 h x1 x2 x3 v4 v5 v6 (IntKind.i64.wrap (a8 + 1)))) _
        exact pEnd_sound good (L := F70_L) (D := F70_D) (its := [.g, (.b true), .g, .g, .g, .g, .g, .g, .g, (.b true), .g, (.c (.int .i64 (F78 x1 x2 x3 l4 l5 l6)) h), .g, .g, .g, .g, .g, .g, (.ix id12 off12 g12), (.ld (.agg #[.int .i64 y12.1, .int .i64 y12.2.1, .int .i64 y12.2.2.1, .int .i64 y12.2.2.2])), (.c (.int .i64 (F67 x1 x2 x3 l4 l5 l6)) h), .g, (.eq ((y12.1 == (F67 x1 x2 x3 l4 l5 l6)) && ((y12.2.1 == (F78 x1 x2 x3 l4 l5 l6)) && ((y12.2.2.1 == 0) && ((y12.2.2.2 == 0) && true))))), (.b false), .g, .g]) (ds := F70_m1_1) (ks := []) (e := .normal) (s2 := (F70_h1 h x1 x2 x3 v4 v5 v6 (IntKind.i64.wrap (a8 + 1)))) (hC := (ai c14 (ai (show aggEq Try.prog 37 #[.int .i64 y12.1, .int .i64 y12.2.1, .int .i64 y12.2.2.1, .int .i64 y12.2.2.2] #[.int .i64 (F67 x1 x2 x3 l4 l5 l6), .int .i64 (F78 x1 x2 x3 l4 l5 l6), .int .i64 0, .int .i64 0] = some ((y12.1 == (F67 x1 x2 x3 l4 l5 l6)) && ((y12.2.1 == (F78 x1 x2 x3 l4 l5 l6)) && ((y12.2.2.1 == 0) && ((y12.2.2.2 == 0) && true)))) by kernel_rfl) (ai (show AKeep h h from (AHeap.sub_refl h)) (ai (F67_spec x1 x2 x3 l4 l5 l6 v4 v5 v6 h hv4 hv5 hv6 _ rfl) (ai (At.agg (P := Try.prog) (t := 37) (v := .agg #[.int .i64 y12.1, .int .i64 y12.2.1, .int .i64 y12.2.2.1, .int .i64 y12.2.2.2]) (m := 4) at12 (by kernel_rfl) (by kernel_rfl) 0 (by kernel_rfl) rfl) (ai ix12 (ai (F78_spec x1 x2 x3 l4 l5 l6 v4 v5 v6 h hv4 hv5 hv6 _ rfl) (ai c10 (ai c9 trivial)))))))))) (hd := F70_d1) (h := by kernel_rfl)
    · refine bind_opt fun y15 e15 => ?_
      obtain ⟨id15, off15, g15, cs15, ix15, at15, rfl⟩ := SlE.at hv4 e15
      refine dec_bif (fun c17 => ?_) (fun c17 => ?_)
      · intro hr
        obtain rfl := Option.some.inj hr
        show AWp Try.prog _ (Ends1 ((F70_x1 h x1 x2 x3 v4 v5 v6) (0 : Nat)).1 ((F70_x1 h x1 x2 x3 v4 v5 v6) (0 : Nat)).2) _
        exact pEnd_sound good (L := F70_L) (D := F70_D) (its := [.g, (.b true), .g, .g, .g, .g, .g, .g, .g, (.b false), .g, .g, .g, .g, .g, (.ix id15 off15 g15), (.ld (.agg #[.int .i64 y15.1, .int .i64 y15.2.1, .int .i64 y15.2.2.1, .int .i64 y15.2.2.2])), (.c (.int .i64 (F67 x1 x2 x3 l4 l5 l6)) h), .g, (.eq ((y15.1 == (F67 x1 x2 x3 l4 l5 l6)) && ((y15.2.1 == a8) && ((y15.2.2.1 == 0) && ((y15.2.2.2 == 0) && true))))), (.b true), .g]) (ds := F70_m1_0) (ks := [1]) (e := ((F70_x1 h x1 x2 x3 v4 v5 v6) (0 : Nat)).1) (s2 := ((F70_x1 h x1 x2 x3 v4 v5 v6) (0 : Nat)).2) (hC := (ai c17 (ai (show aggEq Try.prog 37 #[.int .i64 y15.1, .int .i64 y15.2.1, .int .i64 y15.2.2.1, .int .i64 y15.2.2.2] #[.int .i64 (F67 x1 x2 x3 l4 l5 l6), .int .i64 a8, .int .i64 0, .int .i64 0] = some ((y15.1 == (F67 x1 x2 x3 l4 l5 l6)) && ((y15.2.1 == a8) && ((y15.2.2.1 == 0) && ((y15.2.2.2 == 0) && true)))) by kernel_rfl) (ai (show AKeep h h from (AHeap.sub_refl h)) (ai (F67_spec x1 x2 x3 l4 l5 l6 v4 v5 v6 h hv4 hv5 hv6 _ rfl) (ai (At.agg (P := Try.prog) (t := 37) (v := .agg #[.int .i64 y15.1, .int .i64 y15.2.1, .int .i64 y15.2.2.1, .int .i64 y15.2.2.2]) (m := 4) at15 (by kernel_rfl) (by kernel_rfl) 0 (by kernel_rfl) rfl) (ai ix15 (ai c10 (ai c9 trivial))))))))) (hd := F70_d1) (h := by kernel_rfl)
      · intro hr
        obtain rfl := Option.some.inj hr
        show AWp Try.prog _ (Ends1 .normal (F70_h1 h x1 x2 x3 v4 v5 v6 (IntKind.i64.wrap (a8 + 1)))) _
        exact pEnd_sound good (L := F70_L) (D := F70_D) (its := [.g, (.b true), .g, .g, .g, .g, .g, .g, .g, (.b false), .g, .g, .g, .g, .g, (.ix id15 off15 g15), (.ld (.agg #[.int .i64 y15.1, .int .i64 y15.2.1, .int .i64 y15.2.2.1, .int .i64 y15.2.2.2])), (.c (.int .i64 (F67 x1 x2 x3 l4 l5 l6)) h), .g, (.eq ((y15.1 == (F67 x1 x2 x3 l4 l5 l6)) && ((y15.2.1 == a8) && ((y15.2.2.1 == 0) && ((y15.2.2.2 == 0) && true))))), (.b false), .g, .g]) (ds := F70_m1_1) (ks := []) (e := .normal) (s2 := (F70_h1 h x1 x2 x3 v4 v5 v6 (IntKind.i64.wrap (a8 + 1)))) (hC := (ai c17 (ai (show aggEq Try.prog 37 #[.int .i64 y15.1, .int .i64 y15.2.1, .int .i64 y15.2.2.1, .int .i64 y15.2.2.2] #[.int .i64 (F67 x1 x2 x3 l4 l5 l6), .int .i64 a8, .int .i64 0, .int .i64 0] = some ((y15.1 == (F67 x1 x2 x3 l4 l5 l6)) && ((y15.2.1 == a8) && ((y15.2.2.1 == 0) && ((y15.2.2.2 == 0) && true)))) by kernel_rfl) (ai (show AKeep h h from (AHeap.sub_refl h)) (ai (F67_spec x1 x2 x3 l4 l5 l6 v4 v5 v6 h hv4 hv5 hv6 _ rfl) (ai (At.agg (P := Try.prog) (t := 37) (v := .agg #[.int .i64 y15.1, .int .i64 y15.2.1, .int .i64 y15.2.2.1, .int .i64 y15.2.2.2]) (m := 4) at15 (by kernel_rfl) (by kernel_rfl) 0 (by kernel_rfl) rfl) (ai ix15 (ai c10 (ai c9 trivial))))))))) (hd := F70_d1) (h := by kernel_rfl)
  · intro hr
    obtain rfl := Option.some.inj hr
    show AWp Try.prog _ (Ends1 ((F70_x1 h x1 x2 x3 v4 v5 v6) (1 : Nat)).1 ((F70_x1 h x1 x2 x3 v4 v5 v6) (1 : Nat)).2) _
    exact pEnd_sound good (L := F70_L) (D := F70_D) (its := [.g, (.b false)]) (ds := F70_m1_2) (ks := []) (e := ((F70_x1 h x1 x2 x3 v4 v5 v6) (1 : Nat)).1) (s2 := ((F70_x1 h x1 x2 x3 v4 v5 v6) (1 : Nat)).2) (hC := (ai c9 trivial)) (hd := F70_d1) (h := by kernel_rfl)
theorem F70_l1_0 (h : AHeap) (x1 : Int) (x2 : Int) (x3 : Bool) (l4 : List (Int × Int × Int × Int)) (v4 : Hd) (hv4 : SlE E37 4 h (sv v4) l4) (l5 : List (Int × Int × Int × Int)) (v5 : Hd) (hv5 : SlE E79 4 h (sv v5) l5) (l6 : List (Int × Int)) (v6 : Hd) (hv6 : SlE E77 2 h (sv v6) l6) (x : Int) (r : Nat) (hl : loopO (fun (s : Int) => F70_s1 x1 x2 x3 l4 l5 l6 s) x = some r) (q0 : Nat.beq r 0 = true) : AWp Try.prog (.loop (codeOf Try.prog 70 [1, 1, 1, 0, 1, 0, 0])) (Ends1 .ret (F70_x1_0 h x1 x2 x3 v4 v5 v6 r)) ((fun (s : Int) => (F70_h1 h x1 x2 x3 v4 v5 v6 s)) x) := by
  have k := loop_fun (P := Try.prog) (c := (codeOf Try.prog 70 [1, 1, 1, 0, 1, 0, 0])) (step := (fun (s : Int) => F70_s1 x1 x2 x3 l4 l5 l6 s)) (hd := (fun (s : Int) => (F70_h1 h x1 x2 x3 v4 v5 v6 s))) (X := (F70_x1 h x1 x2 x3 v4 v5 v6)) (by intro t; unfold F70_x1; cases Nat.beq t 0 <;> (intro h; cases h)) (fun x => F70_r1 h x1 x2 x3 l4 v4 hv4 l5 v5 hv5 l6 v6 hv6 x) hl
  simp only [F70_x1, q0, cond_true, cond_false] at k
  exact k
theorem F70_l1_1 (h : AHeap) (x1 : Int) (x2 : Int) (x3 : Bool) (l4 : List (Int × Int × Int × Int)) (v4 : Hd) (hv4 : SlE E37 4 h (sv v4) l4) (l5 : List (Int × Int × Int × Int)) (v5 : Hd) (hv5 : SlE E79 4 h (sv v5) l5) (l6 : List (Int × Int)) (v6 : Hd) (hv6 : SlE E77 2 h (sv v6) l6) (x : Int) (r : Nat) (hl : loopO (fun (s : Int) => F70_s1 x1 x2 x3 l4 l5 l6 s) x = some r) (q0 : Nat.beq r 0 = false) : AWp Try.prog (.loop (codeOf Try.prog 70 [1, 1, 1, 0, 1, 0, 0])) (Ends1 (.exit 0) (F70_x1_1 h x1 x2 x3 v4 v5 v6 r)) ((fun (s : Int) => (F70_h1 h x1 x2 x3 v4 v5 v6 s)) x) := by
  have k := loop_fun (P := Try.prog) (c := (codeOf Try.prog 70 [1, 1, 1, 0, 1, 0, 0])) (step := (fun (s : Int) => F70_s1 x1 x2 x3 l4 l5 l6 s)) (hd := (fun (s : Int) => (F70_h1 h x1 x2 x3 v4 v5 v6 s))) (X := (F70_x1 h x1 x2 x3 v4 v5 v6)) (by intro t; unfold F70_x1; cases Nat.beq t 0 <;> (intro h; cases h)) (fun x => F70_r1 h x1 x2 x3 l4 v4 hv4 l5 v5 hv5 l6 v6 hv6 x) hl
  simp only [F70_x1, q0, cond_true, cond_false] at k
  exact k
def F70_m2_2 : List Bool := [true, true, true, true, true, true, true, true, true, true, true, true, true, true, true, true, true, true, true, true, true, true, true, true, true, true, true, true, true, true, true, true, true, true, true, true, true, true, true, true, true, true, true, true, true, true, true, true, true, true, true, true, true, true, true, true, true, true, true, true, true, true, true, true, true, true, true, true, true, true, true, true, true, true, true, true, true, true, true, true, true, true, true, true, true, true, true, true, true]
def F70_m2_1 : List Bool := [true, false, true, false, true, true, true, true, true, true, true, true, true, true, true, true, true, true, true, true, true, true, true, true, true, true, true, true, true, true, true, true, true, true, true, true, true, true, true, true, true, true, false, false, true, true, true, true, true, true, true, true, true, true, true, true, true, true, true, true, true, true, true, true, true, true, true, true, true, true, true, true, true, true, true, true, true, true, true, true, true, true, true, true, true, true, true, true, true]
def F70_m2_0 : List Bool := [true, true, false, true, true, true, true, true, true, true, true, true, true, true, true, true, true, true, true, true, true, true, true, true, true, true, true, true, true, true, true, true, true, true, true, true, true, true, true, true, true, true, true, true, true, true, true, true, true, true, true, true, true, true, true, true, true, true, true, true, true, true, true, true, true, true, true, true, true, true, true, true, true, true, true, true, true, true, true, true, true, true, true, true, true, true, true, true, true]
def F70_s2 (x1 : Int) (x2 : Int) (x3 : Bool) (l4 : List (Int × Int × Int × Int)) (l5 : List (Int × Int × Int × Int)) (l6 : List (Int × Int)) (a20 : Int) : Option (Int ⊕ Nat) :=
  (bif decide (a20 < (IntKind.i64.wrap (x1 + x2))) then
   (Option.bind (at? l4 (IntKind.i64.wrap ((IntKind.i64.wrap ((IntKind.i64.wrap (x1 + x2)) + 1)) + a20))) fun y22 =>
   (bif (y22.1 != a20) then
    some (.inr 0)
   else
    (bif (y22.2.1 != (F78 x1 x2 x3 l4 l5 l6)) then
     some (.inr 0)
    else
     (bif (y22.2.2.2 != 0) then
      some (.inr 0)
     else
      (bif decide (a20 < x1) then
       (Option.bind (at? l6 a20) fun y28 =>
       (bif decide (y22.2.2.1 < (if y28.2 > 1 then y28.2 else 1)) then
        some (.inr 0)
       else
        some (.inl (IntKind.i64.wrap (a20 + 1)))))
      else
       some (.inl (IntKind.i64.wrap (a20 + 1))))))))
  else
   some (.inr 1))
def F70_h2 (h : AHeap) (x1 : Int) (x2 : Int) (x3 : Bool) (v4 : Hd) (v5 : Hd) (v6 : Hd)  (a20 : Int) : AS := ⟨[junk, .pointer (some ⟨1, 0, none⟩), junk, .int .i64 (IntKind.i64.wrap (x1 + x2)), junk, junk, junk, junk, junk, junk, junk, junk, junk, junk, junk, junk, junk, junk, junk, junk, junk, junk, junk, junk, junk, junk, junk, junk, junk, junk, junk, junk, junk, junk, junk, junk, junk, junk, junk, junk, junk, junk, .int .i64 (IntKind.i64.wrap (x1 + x2)), .int .i64 a20, junk, junk, junk, junk, junk, junk, junk, junk, junk, junk, junk, junk, junk, junk, junk, junk, junk, junk, junk, junk, junk, junk, junk, junk, junk, junk, junk, junk, junk, junk, junk, junk, junk, junk, junk, junk, junk, junk, junk, junk, junk, junk, junk, junk, junk], [(1, [.int .i64 x1, .int .i64 x2, .bool x3, (sv v4), (sv v5), (sv v6)])], h⟩
theorem F70_d2 : drawsOk F70_D (codeOf Try.prog 70 [1, 1, 1, 1, 0, 1, 0, 0]) = true := by kernel_rfl
def F70_x2_0 (h : AHeap)  (r : Nat) : AS := ⟨[junk, junk, .bool false, junk, junk, junk, junk, junk, junk, junk, junk, junk, junk, junk, junk, junk, junk, junk, junk, junk, junk, junk, junk, junk, junk, junk, junk, junk, junk, junk, junk, junk, junk, junk, junk, junk, junk, junk, junk, junk, junk, junk, junk, junk, junk, junk, junk, junk, junk, junk, junk, junk, junk, junk, junk, junk, junk, junk, junk, junk, junk, junk, junk, junk, junk, junk, junk, junk, junk, junk, junk, junk, junk, junk, junk, junk, junk, junk, junk, junk, junk, junk, junk, junk, junk, junk, junk, junk, junk], [], h⟩
def F70_x2_1 (h : AHeap)  (r : Nat) : AS := ⟨[junk, junk, junk, junk, junk, junk, junk, junk, junk, junk, junk, junk, junk, junk, junk, junk, junk, junk, junk, junk, junk, junk, junk, junk, junk, junk, junk, junk, junk, junk, junk, junk, junk, junk, junk, junk, junk, junk, junk, junk, junk, junk, junk, junk, junk, junk, junk, junk, junk, junk, junk, junk, junk, junk, junk, junk, junk, junk, junk, junk, junk, junk, junk, junk, junk, junk, junk, junk, junk, junk, junk, junk, junk, junk, junk, junk, junk, junk, junk, junk, junk, junk, junk, junk, junk, junk, junk, junk, junk], [], h⟩
def F70_x2 (h : AHeap) (r : Nat) : Exit × AS := (bif Nat.beq r 0 then (.ret, (F70_x2_0 h r)) else ((.exit 2), (F70_x2_1 h r)))
set_option maxRecDepth 100000 in
theorem F70_r2 (h : AHeap) (x1 : Int) (x2 : Int) (x3 : Bool) (l4 : List (Int × Int × Int × Int)) (v4 : Hd) (hv4 : SlE E37 4 h (sv v4) l4) (l5 : List (Int × Int × Int × Int)) (v5 : Hd) (hv5 : SlE E79 4 h (sv v5) l5) (l6 : List (Int × Int)) (v6 : Hd) (hv6 : SlE E77 2 h (sv v6) l6) (a20 : Int) (o : Int ⊕ Nat) : F70_s2 x1 x2 x3 l4 l5 l6 a20 = some o → RdF Try.prog (codeOf Try.prog 70 [1, 1, 1, 1, 0, 1, 0, 0]) (fun (s : Int) => (F70_h2 h x1 x2 x3 v4 v5 v6 s)) (F70_x2 h) (F70_h2 h x1 x2 x3 v4 v5 v6 a20) o := by
  unfold F70_s2
  refine dec_bif (fun c21 => ?_) (fun c21 => ?_)
  · refine bind_opt fun y22 e22 => ?_
    obtain ⟨id22, off22, g22, cs22, ix22, at22, rfl⟩ := SlE.at hv4 e22
    refine dec_bif (fun c23 => ?_) (fun c23 => ?_)
    · intro hr
      obtain rfl := Option.some.inj hr
      show AWp Try.prog _ (Ends1 ((F70_x2 h) (0 : Nat)).1 ((F70_x2 h) (0 : Nat)).2) _
      exact pEnd_sound good (L := F70_L) (D := F70_D) (its := [.g, (.b true), .g, .g, .g, .g, .g, .g, .g, .g, (.ix id22 off22 g22), (.ld (.agg #[.int .i64 y22.1, .int .i64 y22.2.1, .int .i64 y22.2.2.1, .int .i64 y22.2.2.2])), .g, .g, .g, .g, .g, .g, .g, .n, .n, .n, .n, .n, (.p true), .g, .n, .n, .n, .g, .g, .n, .n, .n, .n, .n, .n, .n, .n, .n, .n, .n, .n, .n, .n, .n, .n, .g, (.b true), .g]) (ds := F70_m2_0) (ks := [1, 7]) (e := ((F70_x2 h) (0 : Nat)).1) (s2 := ((F70_x2 h) (0 : Nat)).2) (hC := (ai l_t (ai (g_tf l_t) (ai l_f (ai l_f (ai l_f (ai l_f (ai l_f (ai l_f (ai l_f (ai l_f (ai l_f (ai l_f (ai (g_tf l_t) (ai (g_tf l_t) (ai (g_tf l_t) (ai (g_tf l_t) (ai (g_tf l_t) (ai (g_tf l_t) (ai (g_tf l_t) (ai (g_tf l_t) (ai c23 (ai (g_tf c23) (ai (g_tf c23) (ai (g_tf c23) (ai (g_tf c23) (ai (g_tf c23) (ai (At.agg (P := Try.prog) (t := 37) (v := .agg #[.int .i64 y22.1, .int .i64 y22.2.1, .int .i64 y22.2.2.1, .int .i64 y22.2.2.2]) (m := 4) at22 (by kernel_rfl) (by kernel_rfl) 0 (by kernel_rfl) rfl) (ai ix22 (ai c21 trivial)))))))))))))))))))))))))))))) (hd := F70_d2) (h := by kernel_rfl)
    · refine dec_bif (fun c25 => ?_) (fun c25 => ?_)
      · intro hr
        obtain rfl := Option.some.inj hr
        show AWp Try.prog _ (Ends1 ((F70_x2 h) (0 : Nat)).1 ((F70_x2 h) (0 : Nat)).2) _
        exact pEnd_sound good (L := F70_L) (D := F70_D) (its := [.g, (.b true), .g, .g, .g, .g, .g, .g, .g, .g, (.ix id22 off22 g22), (.ld (.agg #[.int .i64 y22.1, .int .i64 y22.2.1, .int .i64 y22.2.2.1, .int .i64 y22.2.2.2])), .g, .g, .g, .g, .g, .g, .g, (.w .g), (.w .g), (.w .g), (.w (.c (.int .i64 (F78 x1 x2 x3 l4 l5 l6)) h)), (.w .g), (.p false), .g, .n, .n, .n, (.p true), .g, .n, .n, .n, .n, .n, .n, .n, .n, .n, .n, .n, .n, .n, .n, .n, .n, .g, (.b true), .g]) (ds := F70_m2_0) (ks := [1, 7]) (e := ((F70_x2 h) (0 : Nat)).1) (s2 := ((F70_x2 h) (0 : Nat)).2) (hC := (ai l_t (ai (g_tf l_t) (ai l_f (ai l_f (ai l_f (ai l_f (ai l_f (ai l_f (ai l_f (ai l_f (ai l_f (ai l_f (ai (g_tf l_t) (ai (g_tf l_t) (ai (g_tf l_t) (ai (g_tf l_t) (ai (g_tf l_t) (ai c25 (ai (g_tf c25) (ai (g_tf c25) (ai (g_tf c25) (ai c23 (ai (g_ff c23) (ai (show AKeep h h from (AHeap.sub_refl h)) (ai (F78_spec x1 x2 x3 l4 l5 l6 v4 v5 v6 h hv4 hv5 hv6 _ rfl) (ai (g_ff c23) (ai (g_ff c23) (ai (g_ff c23) (ai (g_ff c23) (ai (At.agg (P := Try.prog) (t := 37) (v := .agg #[.int .i64 y22.1, .int .i64 y22.2.1, .int .i64 y22.2.2.1, .int .i64 y22.2.2.2]) (m := 4) at22 (by kernel_rfl) (by kernel_rfl) 0 (by kernel_rfl) rfl) (ai ix22 (ai c21 trivial))))))))))))))))))))))))))))))))) (hd := F70_d2) (h := by kernel_rfl)
      · refine dec_bif (fun c26 => ?_) (fun c26 => ?_)
        · intro hr
          obtain rfl := Option.some.inj hr
          show AWp Try.prog _ (Ends1 ((F70_x2 h) (0 : Nat)).1 ((F70_x2 h) (0 : Nat)).2) _
          exact pEnd_sound good (L := F70_L) (D := F70_D) (its := [.g, (.b true), .g, .g, .g, .g, .g, .g, .g, .g, (.ix id22 off22 g22), (.ld (.agg #[.int .i64 y22.1, .int .i64 y22.2.1, .int .i64 y22.2.2.1, .int .i64 y22.2.2.2])), .g, .g, .g, .g, .g, .g, .g, (.w .g), (.w .g), (.w .g), (.w (.c (.int .i64 (F78 x1 x2 x3 l4 l5 l6)) h)), (.w .g), (.p false), .g, (.w .g), (.w .g), (.w .g), (.p false), .g, .n, .n, .n, .n, .n, .n, .n, .n, .n, .n, .n, .n, .n, .n, .n, .n, (.p true), (.b true), .g]) (ds := F70_m2_0) (ks := [1, 7]) (e := ((F70_x2 h) (0 : Nat)).1) (s2 := ((F70_x2 h) (0 : Nat)).2) (hC := (ai l_t (ai c26 (ai (g_tf c26) (ai l_f (ai l_f (ai l_f (ai l_f (ai l_f (ai l_f (ai l_f (ai l_f (ai l_f (ai l_f (ai (g_tf c26) (ai (g_tf c26) (ai (g_tf c26) (ai (g_tf c26) (ai (g_tf c26) (ai c25 (ai (g_ff c25) (ai (g_ff c25) (ai (g_ff c25) (ai c23 (ai (g_ff c23) (ai (show AKeep h h from (AHeap.sub_refl h)) (ai (F78_spec x1 x2 x3 l4 l5 l6 v4 v5 v6 h hv4 hv5 hv6 _ rfl) (ai (g_ff c23) (ai (g_ff c23) (ai (g_ff c23) (ai (g_ff c23) (ai (At.agg (P := Try.prog) (t := 37) (v := .agg #[.int .i64 y22.1, .int .i64 y22.2.1, .int .i64 y22.2.2.1, .int .i64 y22.2.2.2]) (m := 4) at22 (by kernel_rfl) (by kernel_rfl) 0 (by kernel_rfl) rfl) (ai ix22 (ai c21 trivial)))))))))))))))))))))))))))))))))) (hd := F70_d2) (h := by kernel_rfl)
        · refine dec_bif (fun c27 => ?_) (fun c27 => ?_)
          · refine bind_opt fun y28 e28 => ?_
            obtain ⟨id28, off28, g28, cs28, ix28, at28, rfl⟩ := SlE.at hv6 e28
            refine dec_bif (fun c29 => ?_) (fun c29 => ?_)
            · intro hr
              obtain rfl := Option.some.inj hr
              show AWp Try.prog _ (Ends1 ((F70_x2 h) (0 : Nat)).1 ((F70_x2 h) (0 : Nat)).2) _
              exact pEnd_sound good (L := F70_L) (D := F70_D) (its := [.g, (.b true), .g, .g, .g, .g, .g, .g, .g, .g, (.ix id22 off22 g22), (.ld (.agg #[.int .i64 y22.1, .int .i64 y22.2.1, .int .i64 y22.2.2.1, .int .i64 y22.2.2.2])), .g, .g, .g, .g, .g, .g, .g, (.w .g), (.w .g), (.w .g), (.w (.c (.int .i64 (F78 x1 x2 x3 l4 l5 l6)) h)), (.w .g), (.p false), .g, (.w .g), (.w .g), (.w .g), (.p false), .g, (.w .g), (.w .g), (.w .g), (.w .g), (.w .g), (.w .g), (.w .g), (.w .g), (.w .g), (.w .g), (.w (.ix id28 off28 g28)), (.w .g), (.w (.ld (.int .i64 y28.2))), (.w .g), (.w .g), (.w (.p true)), (.p false), (.b true), .g]) (ds := F70_m2_0) (ks := [1, 7]) (e := ((F70_x2 h) (0 : Nat)).1) (s2 := ((F70_x2 h) (0 : Nat)).2) (hC := (ai c29 (ai c26 (ai c27 (ai (g_ff c26) (ai (g_tt c27) (ai (g_tt c27) (ai (At.one (P := Try.prog) (t := 3) (v := .int .i64 y28.2) at28 (by kernel_rfl) 1 rfl rfl) (ai (g_tt c27) (ai (g_tt c27) (ai ix28 (ai (g_tt c27) (ai (g_tt c27) (ai (g_tt c27) (ai (g_tt c27) (ai (g_tt c27) (ai (g_tt c27) (ai (g_ff c26) (ai (g_ff c26) (ai (g_ff c26) (ai (g_ff c26) (ai (g_ff c26) (ai c25 (ai (g_ff c25) (ai (g_ff c25) (ai (g_ff c25) (ai c23 (ai (g_ff c23) (ai (show AKeep h h from (AHeap.sub_refl h)) (ai (F78_spec x1 x2 x3 l4 l5 l6 v4 v5 v6 h hv4 hv5 hv6 _ rfl) (ai (g_ff c23) (ai (g_ff c23) (ai (g_ff c23) (ai (g_ff c23) (ai (At.agg (P := Try.prog) (t := 37) (v := .agg #[.int .i64 y22.1, .int .i64 y22.2.1, .int .i64 y22.2.2.1, .int .i64 y22.2.2.2]) (m := 4) at22 (by kernel_rfl) (by kernel_rfl) 0 (by kernel_rfl) rfl) (ai ix22 (ai c21 trivial))))))))))))))))))))))))))))))))))))) (hd := F70_d2) (h := by kernel_rfl)
            · intro hr
              obtain rfl := Option.some.inj hr
              show AWp Try.prog _ (Ends1 .normal (F70_h2 h x1 x2 x3 v4 v5 v6 (IntKind.i64.wrap (a20 + 1)))) _
              exact pEnd_sound good (L := F70_L) (D := F70_D) (its := [.g, (.b true), .g, .g, .g, .g, .g, .g, .g, .g, (.ix id22 off22 g22), (.ld (.agg #[.int .i64 y22.1, .int .i64 y22.2.1, .int .i64 y22.2.2.1, .int .i64 y22.2.2.2])), .g, .g, .g, .g, .g, .g, .g, (.w .g), (.w .g), (.w .g), (.w (.c (.int .i64 (F78 x1 x2 x3 l4 l5 l6)) h)), (.w .g), (.p false), .g, (.w .g), (.w .g), (.w .g), (.p false), .g, (.w .g), (.w .g), (.w .g), (.w .g), (.w .g), (.w .g), (.w .g), (.w .g), (.w .g), (.w .g), (.w (.ix id28 off28 g28)), (.w .g), (.w (.ld (.int .i64 y28.2))), (.w .g), (.w .g), (.w (.p true)), (.p false), (.b false), .g, .g]) (ds := F70_m2_1) (ks := [7]) (e := .normal) (s2 := (F70_h2 h x1 x2 x3 v4 v5 v6 (IntKind.i64.wrap (a20 + 1)))) (hC := (ai c29 (ai c26 (ai c27 (ai (g_ff c26) (ai (g_tt c27) (ai (g_tt c27) (ai (At.one (P := Try.prog) (t := 3) (v := .int .i64 y28.2) at28 (by kernel_rfl) 1 rfl rfl) (ai (g_tt c27) (ai (g_tt c27) (ai ix28 (ai (g_tt c27) (ai (g_tt c27) (ai (g_tt c27) (ai (g_tt c27) (ai (g_tt c27) (ai (g_tt c27) (ai (g_ff c26) (ai (g_ff c26) (ai (g_ff c26) (ai (g_ff c26) (ai (g_ff c26) (ai c25 (ai (g_ff c25) (ai (g_ff c25) (ai (g_ff c25) (ai c23 (ai (g_ff c23) (ai (show AKeep h h from (AHeap.sub_refl h)) (ai (F78_spec x1 x2 x3 l4 l5 l6 v4 v5 v6 h hv4 hv5 hv6 _ rfl) (ai (g_ff c23) (ai (g_ff c23) (ai (g_ff c23) (ai (g_ff c23) (ai (At.agg (P := Try.prog) (t := 37) (v := .agg #[.int .i64 y22.1, .int .i64 y22.2.1, .int .i64 y22.2.2.1, .int .i64 y22.2.2.2]) (m := 4) at22 (by kernel_rfl) (by kernel_rfl) 0 (by kernel_rfl) rfl) (ai ix22 (ai c21 trivial))))))))))))))))))))))))))))))))))))) (hd := F70_d2) (h := by kernel_rfl)
          · intro hr
            obtain rfl := Option.some.inj hr
            show AWp Try.prog _ (Ends1 .normal (F70_h2 h x1 x2 x3 v4 v5 v6 (IntKind.i64.wrap (a20 + 1)))) _
            exact pEnd_sound good (L := F70_L) (D := F70_D) (its := [.g, (.b true), .g, .g, .g, .g, .g, .g, .g, .g, (.ix id22 off22 g22), (.ld (.agg #[.int .i64 y22.1, .int .i64 y22.2.1, .int .i64 y22.2.2.1, .int .i64 y22.2.2.2])), .g, .g, .g, .g, .g, .g, .g, (.w .g), (.w .g), (.w .g), (.w (.c (.int .i64 (F78 x1 x2 x3 l4 l5 l6)) h)), (.w .g), (.p false), .g, (.w .g), (.w .g), (.w .g), (.p false), .g, (.w .g), (.w .g), (.w .g), (.w .g), (.w .g), .n, .n, .n, .n, .n, .n, .n, .n, .n, .n, (.w (.p false)), (.p false), (.b false), .g, .g]) (ds := F70_m2_1) (ks := [7]) (e := .normal) (s2 := (F70_h2 h x1 x2 x3 v4 v5 v6 (IntKind.i64.wrap (a20 + 1)))) (hC := (ai l_f (ai c26 (ai c27 (ai (g_ff c26) (ai (g_ft c27) (ai (g_ft c27) (ai (g_ft c27) (ai (g_ft c27) (ai (g_ft c27) (ai (g_ft c27) (ai (g_ft c27) (ai (g_ft c27) (ai (g_ft c27) (ai (g_ft c27) (ai (g_ff c26) (ai (g_ff c26) (ai (g_ff c26) (ai (g_ff c26) (ai (g_ff c26) (ai c25 (ai (g_ff c25) (ai (g_ff c25) (ai (g_ff c25) (ai c23 (ai (g_ff c23) (ai (show AKeep h h from (AHeap.sub_refl h)) (ai (F78_spec x1 x2 x3 l4 l5 l6 v4 v5 v6 h hv4 hv5 hv6 _ rfl) (ai (g_ff c23) (ai (g_ff c23) (ai (g_ff c23) (ai (g_ff c23) (ai (At.agg (P := Try.prog) (t := 37) (v := .agg #[.int .i64 y22.1, .int .i64 y22.2.1, .int .i64 y22.2.2.1, .int .i64 y22.2.2.2]) (m := 4) at22 (by kernel_rfl) (by kernel_rfl) 0 (by kernel_rfl) rfl) (ai ix22 (ai c21 trivial))))))))))))))))))))))))))))))))))) (hd := F70_d2) (h := by kernel_rfl)
  · intro hr
    obtain rfl := Option.some.inj hr
    show AWp Try.prog _ (Ends1 ((F70_x2 h) (1 : Nat)).1 ((F70_x2 h) (1 : Nat)).2) _
    exact pEnd_sound good (L := F70_L) (D := F70_D) (its := [.g, (.b false)]) (ds := F70_m2_2) (ks := [1]) (e := ((F70_x2 h) (1 : Nat)).1) (s2 := ((F70_x2 h) (1 : Nat)).2) (hC := (ai c21 trivial)) (hd := F70_d2) (h := by kernel_rfl)
theorem F70_l2_0 (h : AHeap) (x1 : Int) (x2 : Int) (x3 : Bool) (l4 : List (Int × Int × Int × Int)) (v4 : Hd) (hv4 : SlE E37 4 h (sv v4) l4) (l5 : List (Int × Int × Int × Int)) (v5 : Hd) (hv5 : SlE E79 4 h (sv v5) l5) (l6 : List (Int × Int)) (v6 : Hd) (hv6 : SlE E77 2 h (sv v6) l6) (x : Int) (r : Nat) (hl : loopO (fun (s : Int) => F70_s2 x1 x2 x3 l4 l5 l6 s) x = some r) (q0 : Nat.beq r 0 = true) : AWp Try.prog (.loop (codeOf Try.prog 70 [1, 1, 1, 1, 0, 1, 0, 0])) (Ends1 .ret (F70_x2_0 h r)) ((fun (s : Int) => (F70_h2 h x1 x2 x3 v4 v5 v6 s)) x) := by
  have k := loop_fun (P := Try.prog) (c := (codeOf Try.prog 70 [1, 1, 1, 1, 0, 1, 0, 0])) (step := (fun (s : Int) => F70_s2 x1 x2 x3 l4 l5 l6 s)) (hd := (fun (s : Int) => (F70_h2 h x1 x2 x3 v4 v5 v6 s))) (X := (F70_x2 h)) (by intro t; unfold F70_x2; cases Nat.beq t 0 <;> (intro h; cases h)) (fun x => F70_r2 h x1 x2 x3 l4 v4 hv4 l5 v5 hv5 l6 v6 hv6 x) hl
  simp only [F70_x2, q0, cond_true, cond_false] at k
  exact k
theorem F70_l2_1 (h : AHeap) (x1 : Int) (x2 : Int) (x3 : Bool) (l4 : List (Int × Int × Int × Int)) (v4 : Hd) (hv4 : SlE E37 4 h (sv v4) l4) (l5 : List (Int × Int × Int × Int)) (v5 : Hd) (hv5 : SlE E79 4 h (sv v5) l5) (l6 : List (Int × Int)) (v6 : Hd) (hv6 : SlE E77 2 h (sv v6) l6) (x : Int) (r : Nat) (hl : loopO (fun (s : Int) => F70_s2 x1 x2 x3 l4 l5 l6 s) x = some r) (q0 : Nat.beq r 0 = false) : AWp Try.prog (.loop (codeOf Try.prog 70 [1, 1, 1, 1, 0, 1, 0, 0])) (Ends1 (.exit 2) (F70_x2_1 h r)) ((fun (s : Int) => (F70_h2 h x1 x2 x3 v4 v5 v6 s)) x) := by
  have k := loop_fun (P := Try.prog) (c := (codeOf Try.prog 70 [1, 1, 1, 1, 0, 1, 0, 0])) (step := (fun (s : Int) => F70_s2 x1 x2 x3 l4 l5 l6 s)) (hd := (fun (s : Int) => (F70_h2 h x1 x2 x3 v4 v5 v6 s))) (X := (F70_x2 h)) (by intro t; unfold F70_x2; cases Nat.beq t 0 <;> (intro h; cases h)) (fun x => F70_r2 h x1 x2 x3 l4 v4 hv4 l5 v5 hv5 l6 v6 hv6 x) hl
  simp only [F70_x2, q0, cond_true, cond_false] at k
  exact k
def F70 (x1 : Int) (x2 : Int) (x3 : Bool) (l4 : List (Int × Int × Int × Int)) (l5 : List (Int × Int × Int × Int)) (l6 : List (Int × Int)) : Option (Bool) :=
  (bif (F70__1 x1 x2 l4) then
   some (false)
  else
   (Option.bind (loopO (fun (s : Int) => F70_s1 x1 x2 x3 l4 l5 l6 s) 0) fun y18 =>
   (bif (Nat.beq y18 0) then
    some (false)
   else
    (Option.bind (loopO (fun (s : Int) => F70_s2 x1 x2 x3 l4 l5 l6 s) 0) fun y30 =>
    (bif (Nat.beq y30 0) then
     some (false)
    else
     some (true))))))
set_option maxRecDepth 100000 in
theorem F70_spec (x1 : Int) (x2 : Int) (x3 : Bool) (l4 : List (Int × Int × Int × Int)) (l5 : List (Int × Int × Int × Int)) (l6 : List (Int × Int)) (v4 : Hd) (v5 : Hd) (v6 : Hd) (h : AHeap) (hv4 : SlE E37 4 h (sv v4) l4) (hv5 : SlE E79 4 h (sv v5) l5) (hv6 : SlE E77 2 h (sv v6) l6) (r : Bool) : F70 x1 x2 x3 l4 l5 l6 = some r → ACalls Try.prog 70 [.agg #[.int .i64 x1, .int .i64 x2, .bool x3, (sv v4), (sv v5), (sv v6)]] h (fun v' h'' => v' = (.bool r : Value) ∧ h'' = h) := by
  unfold F70
  refine dec_bif (fun c7 => ?_) (fun c7 => ?_)
  · intro hr
    obtain rfl := Option.some.inj hr
    exact pFun_sound good tab_ok (f := 70) (its := [.g, .g, .g, .g, .g, .g, .g, .g, .g, .g, (.ln l4.length), .g, .g, .g, .g, (.b true), .g]) (args := [.agg #[.int .i64 x1, .int .i64 x2, .bool x3, (sv v4), (sv v5), (sv v6)]]) (h := h) (h' := h) (v := .bool false) (hC := (ai c7 (ai (SlE.len hv4) trivial))) (hr := by kernel_rfl)
  · refine bind_opt fun y18 e18 => ?_
    refine dec_bif (fun c19 => ?_) (fun c19 => ?_)
    · intro hr
      obtain rfl := Option.some.inj hr
      exact pFun_sound good tab_ok (f := 70) (its := [.g, .g, .g, .g, .g, .g, .g, .g, .g, .g, (.ln l4.length), .g, .g, .g, .g, (.b false), .g, .g, .g, (.l F70_m1_1 [] .ret (F70_x1_0 h x1 x2 x3 v4 v5 v6 y18))]) (args := [.agg #[.int .i64 x1, .int .i64 x2, .bool x3, (sv v4), (sv v5), (sv v6)]]) (h := h) (h' := h) (v := .bool false) (hC := (ai (F70_l1_0 h x1 x2 x3 l4 v4 hv4 l5 v5 hv5 l6 v6 hv6 0 y18 e18 c19) (ai c7 (ai (SlE.len hv4) trivial)))) (hr := by kernel_rfl)
    · refine bind_opt fun y30 e30 => ?_
      refine dec_bif (fun c31 => ?_) (fun c31 => ?_)
      · intro hr
        obtain rfl := Option.some.inj hr
        exact pFun_sound good tab_ok (f := 70) (its := [.g, .g, .g, .g, .g, .g, .g, .g, .g, .g, (.ln l4.length), .g, .g, .g, .g, (.b false), .g, .g, .g, (.l F70_m1_1 [] (.exit 0) (F70_x1_1 h x1 x2 x3 v4 v5 v6 y18)), .g, .g, (.l F70_m2_1 [] .ret (F70_x2_0 h y30))]) (args := [.agg #[.int .i64 x1, .int .i64 x2, .bool x3, (sv v4), (sv v5), (sv v6)]]) (h := h) (h' := h) (v := .bool false) (hC := (ai (F70_l2_0 h x1 x2 x3 l4 v4 hv4 l5 v5 hv5 l6 v6 hv6 0 y30 e30 c31) (ai (F70_l1_1 h x1 x2 x3 l4 v4 hv4 l5 v5 hv5 l6 v6 hv6 0 y18 e18 c19) (ai c7 (ai (SlE.len hv4) trivial))))) (hr := by kernel_rfl)
      · intro hr
        obtain rfl := Option.some.inj hr
        exact pFun_sound good tab_ok (f := 70) (its := [.g, .g, .g, .g, .g, .g, .g, .g, .g, .g, (.ln l4.length), .g, .g, .g, .g, (.b false), .g, .g, .g, (.l F70_m1_1 [] (.exit 0) (F70_x1_1 h x1 x2 x3 v4 v5 v6 y18)), .g, .g, (.l F70_m2_1 [] (.exit 2) (F70_x2_1 h y30)), .g]) (args := [.agg #[.int .i64 x1, .int .i64 x2, .bool x3, (sv v4), (sv v5), (sv v6)]]) (h := h) (h' := h) (v := .bool true) (hC := (ai (F70_l2_1 h x1 x2 x3 l4 v4 hv4 l5 v5 hv5 l6 v6 hv6 0 y30 e30 c31) (ai (F70_l1_1 h x1 x2 x3 l4 v4 hv4 l5 v5 hv5 l6 v6 hv6 0 y18 e18 c19) (ai c7 (ai (SlE.len hv4) trivial))))) (hr := by kernel_rfl)
/-! 46 jacquard/dataflow.Valid -/
def F46_L : List Nat := [1, 4, 6, 8]
def F46_D : List (Nat × List (Nat × Nat)) := []
def F46_m1_2 : List Bool := [true, false, true, true, true, true, true, true, true, true, true, true, true, true, true, true, true, true, true, true, true, true, true, true, true, true, true, true, true, true, true, true, true, true, true, true, true, true, true, true, true, true, true, true, true, true, true, true, true, true, true, true, true, true, true, true, true, true, true, true, true, true, true, true, true, true, true, true, true, true, true, true, true, true, true, true, true, true, true, true, true, true, true, true, true, true, true, true, true, true, true, true, true, true, true, true, true, true, true, true, true, true, true, true, true, true, true, true, true, true, true, true, true, true, true, true, true]
def F46_m1_1 : List Bool := [true, false, true, true, true, true, true, true, true, true, true, true, true, true, true, true, true, true, true, true, true, true, true, true, true, true, true, true, true, true, true, true, true, true, true, true, true, false, false, false, true, true, true, true, true, true, true, true, true, true, true, true, true, true, true, true, true, true, true, true, true, true, true, true, true, true, true, true, true, true, true, true, true, true, true, true, true, true, true, true, true, true, true, true, true, true, true, true, true, true, true, true, true, true, true, true, true, true, true, true, true, true, true, true, true, true, true, true, true, true, true, true, true, true, true, true, true]
def F46_m1_0 : List Bool := [true, true, false, true, true, true, true, true, true, true, true, true, true, true, true, true, true, true, true, true, true, true, true, true, true, true, true, true, true, true, true, true, true, true, true, true, true, true, true, true, true, true, true, true, true, true, true, true, true, true, true, true, true, true, true, true, true, true, true, true, true, true, true, true, true, true, true, true, true, true, true, true, true, true, true, true, true, true, true, true, true, true, true, true, true, true, true, true, true, true, true, true, true, true, true, true, true, true, true, true, true, true, true, true, true, true, true, true, true, true, true, true, true, true, true, true, true]
def F46_s1 (x1 : Int) (x2 : Int) (x3 : Bool) (l4 : List (Int × Int × Int × Int)) (l5 : List (Int × Int × Int × Int)) (l6 : List (Int × Int)) (a12 : Int) : Option (Int ⊕ Nat) :=
  (bif decide (a12 < (l4.length : Int)) then
   (Option.bind (at? l4 a12) fun y14 =>
   (bif (!(F69 x1 x2 x3 l4 l5 l6 y14.1 y14.2.1 y14.2.2.1 y14.2.2.2)) then
    some (.inr 0)
   else
    some (.inl (IntKind.i64.wrap (a12 + 1)))))
  else
   some (.inr 1))
def F46_h1 (h : AHeap) (x1 : Int) (x2 : Int) (x3 : Bool) (l4 : List (Int × Int × Int × Int)) (v4 : Hd) (v5 : Hd) (v6 : Hd)  (a12 : Int) : AS := ⟨[junk, .pointer (some ⟨1, 0, none⟩), junk, junk, junk, junk, junk, junk, junk, junk, junk, junk, junk, junk, junk, junk, junk, junk, junk, junk, junk, junk, junk, junk, junk, junk, junk, junk, junk, junk, junk, junk, junk, junk, junk, junk, junk, (sv v4), .int .i64 (l4.length : Int), .int .i64 a12, junk, junk, junk, junk, junk, junk, junk, junk, junk, junk, junk, junk, junk, junk, junk, junk, junk, junk, junk, junk, junk, junk, junk, junk, junk, junk, junk, junk, junk, junk, junk, junk, junk, junk, junk, junk, junk, junk, junk, junk, junk, junk, junk, junk, junk, junk, junk, junk, junk, junk, junk, junk, junk, junk, junk, junk, junk, junk, junk, junk, junk, junk, junk, junk, junk, junk, junk, junk, junk, junk, junk, junk, junk, junk, junk, junk, junk], [(1, [.int .i64 x1, .int .i64 x2, .bool x3, (sv v4), (sv v5), (sv v6)])], h⟩
theorem F46_d1 : drawsOk F46_D (codeOf Try.prog 46 [1, 1, 0, 1, 0, 0]) = true := by kernel_rfl
def F46_x1_0 (h : AHeap) (x1 : Int) (x2 : Int) (x3 : Bool) (v4 : Hd) (v5 : Hd) (v6 : Hd)  (r : Nat) : AS := ⟨[junk, junk, .bool false, junk, junk, junk, junk, junk, junk, junk, junk, junk, junk, junk, junk, junk, junk, junk, junk, junk, junk, junk, junk, junk, junk, junk, junk, junk, junk, junk, junk, junk, junk, junk, junk, junk, junk, junk, junk, junk, junk, junk, junk, junk, junk, junk, junk, junk, junk, junk, junk, junk, junk, junk, junk, junk, junk, junk, junk, junk, junk, junk, junk, junk, junk, junk, junk, junk, junk, junk, junk, junk, junk, junk, junk, junk, junk, junk, junk, junk, junk, junk, junk, junk, junk, junk, junk, junk, junk, junk, junk, junk, junk, junk, junk, junk, junk, junk, junk, junk, junk, junk, junk, junk, junk, junk, junk, junk, junk, junk, junk, junk, junk, junk, junk, junk, junk], [], h⟩
def F46_x1_1 (h : AHeap) (x1 : Int) (x2 : Int) (x3 : Bool) (v4 : Hd) (v5 : Hd) (v6 : Hd)  (r : Nat) : AS := ⟨[junk, .pointer (some ⟨1, 0, none⟩), junk, junk, junk, junk, junk, junk, junk, junk, junk, junk, junk, junk, junk, junk, junk, junk, junk, junk, junk, junk, junk, junk, junk, junk, junk, junk, junk, junk, junk, junk, junk, junk, junk, junk, junk, junk, junk, junk, junk, junk, junk, junk, junk, junk, junk, junk, junk, junk, junk, junk, junk, junk, junk, junk, junk, junk, junk, junk, junk, junk, junk, junk, junk, junk, junk, junk, junk, junk, junk, junk, junk, junk, junk, junk, junk, junk, junk, junk, junk, junk, junk, junk, junk, junk, junk, junk, junk, junk, junk, junk, junk, junk, junk, junk, junk, junk, junk, junk, junk, junk, junk, junk, junk, junk, junk, junk, junk, junk, junk, junk, junk, junk, junk, junk, junk], [(1, [.int .i64 x1, .int .i64 x2, .bool x3, (sv v4), (sv v5), (sv v6)])], h⟩
def F46_x1 (h : AHeap) (x1 : Int) (x2 : Int) (x3 : Bool) (v4 : Hd) (v5 : Hd) (v6 : Hd) (r : Nat) : Exit × AS := (bif Nat.beq r 0 then (.ret, (F46_x1_0 h x1 x2 x3 v4 v5 v6 r)) else ((.exit 0), (F46_x1_1 h x1 x2 x3 v4 v5 v6 r)))
set_option maxRecDepth 100000 in
theorem F46_r1 (h : AHeap) (x1 : Int) (x2 : Int) (x3 : Bool) (l4 : List (Int × Int × Int × Int)) (v4 : Hd) (hv4 : SlE E37 4 h (sv v4) l4) (l5 : List (Int × Int × Int × Int)) (v5 : Hd) (hv5 : SlE E79 4 h (sv v5) l5) (l6 : List (Int × Int)) (v6 : Hd) (hv6 : SlE E77 2 h (sv v6) l6) (a12 : Int) (o : Int ⊕ Nat) : F46_s1 x1 x2 x3 l4 l5 l6 a12 = some o → RdF Try.prog (codeOf Try.prog 46 [1, 1, 0, 1, 0, 0]) (fun (s : Int) => (F46_h1 h x1 x2 x3 l4 v4 v5 v6 s)) (F46_x1 h x1 x2 x3 v4 v5 v6) (F46_h1 h x1 x2 x3 l4 v4 v5 v6 a12) o := by
  unfold F46_s1
  refine dec_bif (fun c13 => ?_) (fun c13 => ?_)
  · refine bind_opt fun y14 e14 => ?_
    obtain ⟨id14, off14, g14, cs14, ix14, at14, rfl⟩ := SlE.at hv4 e14
    refine dec_bif (fun c16 => ?_) (fun c16 => ?_)
    · intro hr
      obtain rfl := Option.some.inj hr
      show AWp Try.prog _ (Ends1 ((F46_x1 h x1 x2 x3 v4 v5 v6) (0 : Nat)).1 ((F46_x1 h x1 x2 x3 v4 v5 v6) (0 : Nat)).2) _
      exact pEnd_sound good (L := F46_L) (D := F46_D) (its := [.g, (.b true), (.ix id14 off14 g14), (.ld (.agg #[.int .i64 y14.1, .int .i64 y14.2.1, .int .i64 y14.2.2.1, .int .i64 y14.2.2.2])), .g, .g, .g, .g, (.c (.bool (F69 x1 x2 x3 l4 l5 l6 y14.1 y14.2.1 y14.2.2.1 y14.2.2.2)) h), .g, (.b true), .g]) (ds := F46_m1_0) (ks := [1, 4]) (e := ((F46_x1 h x1 x2 x3 v4 v5 v6) (0 : Nat)).1) (s2 := ((F46_x1 h x1 x2 x3 v4 v5 v6) (0 : Nat)).2) (hC := (ai c16 (ai (F69_spec x1 x2 x3 l4 l5 l6 y14.1 y14.2.1 y14.2.2.1 y14.2.2.2 v4 v5 v6 h hv4 hv5 hv6 _ rfl) (ai (At.agg (P := Try.prog) (t := 37) (v := .agg #[.int .i64 y14.1, .int .i64 y14.2.1, .int .i64 y14.2.2.1, .int .i64 y14.2.2.2]) (m := 4) at14 (by kernel_rfl) (by kernel_rfl) 0 (by kernel_rfl) rfl) (ai ix14 (ai c13 trivial)))))) (hd := F46_d1) (h := by kernel_rfl)
    · intro hr
      obtain rfl := Option.some.inj hr
      show AWp Try.prog _ (Ends1 .normal (F46_h1 h x1 x2 x3 l4 v4 v5 v6 (IntKind.i64.wrap (a12 + 1)))) _
      exact pEnd_sound good (L := F46_L) (D := F46_D) (its := [.g, (.b true), (.ix id14 off14 g14), (.ld (.agg #[.int .i64 y14.1, .int .i64 y14.2.1, .int .i64 y14.2.2.1, .int .i64 y14.2.2.2])), .g, .g, .g, .g, (.c (.bool (F69 x1 x2 x3 l4 l5 l6 y14.1 y14.2.1 y14.2.2.1 y14.2.2.2)) h), .g, (.b false), .g, .g]) (ds := F46_m1_1) (ks := [4]) (e := .normal) (s2 := (F46_h1 h x1 x2 x3 l4 v4 v5 v6 (IntKind.i64.wrap (a12 + 1)))) (hC := (ai c16 (ai (F69_spec x1 x2 x3 l4 l5 l6 y14.1 y14.2.1 y14.2.2.1 y14.2.2.2 v4 v5 v6 h hv4 hv5 hv6 _ rfl) (ai (At.agg (P := Try.prog) (t := 37) (v := .agg #[.int .i64 y14.1, .int .i64 y14.2.1, .int .i64 y14.2.2.1, .int .i64 y14.2.2.2]) (m := 4) at14 (by kernel_rfl) (by kernel_rfl) 0 (by kernel_rfl) rfl) (ai ix14 (ai c13 trivial)))))) (hd := F46_d1) (h := by kernel_rfl)
  · intro hr
    obtain rfl := Option.some.inj hr
    show AWp Try.prog _ (Ends1 ((F46_x1 h x1 x2 x3 v4 v5 v6) (1 : Nat)).1 ((F46_x1 h x1 x2 x3 v4 v5 v6) (1 : Nat)).2) _
    exact pEnd_sound good (L := F46_L) (D := F46_D) (its := [.g, (.b false)]) (ds := F46_m1_2) (ks := []) (e := ((F46_x1 h x1 x2 x3 v4 v5 v6) (1 : Nat)).1) (s2 := ((F46_x1 h x1 x2 x3 v4 v5 v6) (1 : Nat)).2) (hC := (ai c13 trivial)) (hd := F46_d1) (h := by kernel_rfl)
theorem F46_l1_0 (h : AHeap) (x1 : Int) (x2 : Int) (x3 : Bool) (l4 : List (Int × Int × Int × Int)) (v4 : Hd) (hv4 : SlE E37 4 h (sv v4) l4) (l5 : List (Int × Int × Int × Int)) (v5 : Hd) (hv5 : SlE E79 4 h (sv v5) l5) (l6 : List (Int × Int)) (v6 : Hd) (hv6 : SlE E77 2 h (sv v6) l6) (x : Int) (r : Nat) (hl : loopO (fun (s : Int) => F46_s1 x1 x2 x3 l4 l5 l6 s) x = some r) (q0 : Nat.beq r 0 = true) : AWp Try.prog (.loop (codeOf Try.prog 46 [1, 1, 0, 1, 0, 0])) (Ends1 .ret (F46_x1_0 h x1 x2 x3 v4 v5 v6 r)) ((fun (s : Int) => (F46_h1 h x1 x2 x3 l4 v4 v5 v6 s)) x) := by
  have k := loop_fun (P := Try.prog) (c := (codeOf Try.prog 46 [1, 1, 0, 1, 0, 0])) (step := (fun (s : Int) => F46_s1 x1 x2 x3 l4 l5 l6 s)) (hd := (fun (s : Int) => (F46_h1 h x1 x2 x3 l4 v4 v5 v6 s))) (X := (F46_x1 h x1 x2 x3 v4 v5 v6)) (by intro t; unfold F46_x1; cases Nat.beq t 0 <;> (intro h; cases h)) (fun x => F46_r1 h x1 x2 x3 l4 v4 hv4 l5 v5 hv5 l6 v6 hv6 x) hl
  simp only [F46_x1, q0, cond_true, cond_false] at k
  exact k
theorem F46_l1_1 (h : AHeap) (x1 : Int) (x2 : Int) (x3 : Bool) (l4 : List (Int × Int × Int × Int)) (v4 : Hd) (hv4 : SlE E37 4 h (sv v4) l4) (l5 : List (Int × Int × Int × Int)) (v5 : Hd) (hv5 : SlE E79 4 h (sv v5) l5) (l6 : List (Int × Int)) (v6 : Hd) (hv6 : SlE E77 2 h (sv v6) l6) (x : Int) (r : Nat) (hl : loopO (fun (s : Int) => F46_s1 x1 x2 x3 l4 l5 l6 s) x = some r) (q0 : Nat.beq r 0 = false) : AWp Try.prog (.loop (codeOf Try.prog 46 [1, 1, 0, 1, 0, 0])) (Ends1 (.exit 0) (F46_x1_1 h x1 x2 x3 v4 v5 v6 r)) ((fun (s : Int) => (F46_h1 h x1 x2 x3 l4 v4 v5 v6 s)) x) := by
  have k := loop_fun (P := Try.prog) (c := (codeOf Try.prog 46 [1, 1, 0, 1, 0, 0])) (step := (fun (s : Int) => F46_s1 x1 x2 x3 l4 l5 l6 s)) (hd := (fun (s : Int) => (F46_h1 h x1 x2 x3 l4 v4 v5 v6 s))) (X := (F46_x1 h x1 x2 x3 v4 v5 v6)) (by intro t; unfold F46_x1; cases Nat.beq t 0 <;> (intro h; cases h)) (fun x => F46_r1 h x1 x2 x3 l4 v4 hv4 l5 v5 hv5 l6 v6 hv6 x) hl
  simp only [F46_x1, q0, cond_true, cond_false] at k
  exact k
def F46_m2_2 : List Bool := [true, false, true, true, true, true, true, true, true, true, true, true, true, true, true, true, true, true, true, true, true, true, true, true, true, true, true, true, true, true, true, true, true, true, true, true, true, true, true, true, true, true, true, true, true, true, true, true, true, true, true, true, true, true, true, true, true, true, true, true, true, true, true, true, true, true, true, true, true, true, true, true, true, true, true, true, true, true, true, true, true, true, true, true, true, true, true, true, true, true, true, true, true, true, true, true, true, true, true, true, true, true, true, true, true, true, true, true, true, true, true, true, true, true, true, true, true]
def F46_m2_1 : List Bool := [true, false, true, true, true, true, true, true, true, true, true, true, true, true, true, true, true, true, true, true, true, true, true, true, true, true, true, true, true, true, true, true, true, true, true, true, true, true, true, true, true, true, true, true, true, true, true, true, true, false, false, false, true, true, true, true, true, true, true, true, true, true, true, true, true, true, true, true, true, true, true, true, true, true, true, true, true, true, true, true, true, true, true, true, true, true, true, true, true, true, true, true, true, true, true, true, true, true, true, true, true, true, true, true, true, true, true, true, true, true, true, true, true, true, true, true, true]
def F46_m2_0 : List Bool := [true, true, false, true, true, true, true, true, true, true, true, true, true, true, true, true, true, true, true, true, true, true, true, true, true, true, true, true, true, true, true, true, true, true, true, true, true, true, true, true, true, true, true, true, true, true, true, true, true, true, true, true, true, true, true, true, true, true, true, true, true, true, true, true, true, true, true, true, true, true, true, true, true, true, true, true, true, true, true, true, true, true, true, true, true, true, true, true, true, true, true, true, true, true, true, true, true, true, true, true, true, true, true, true, true, true, true, true, true, true, true, true, true, true, true, true, true]
def F46_s2 (l5 : List (Int × Int × Int × Int)) (a19 : Int) : Option (Int ⊕ Nat) :=
  (bif decide (a19 < (l5.length : Int)) then
   (Option.bind (at? l5 a19) fun y21 =>
   (bif decide (y21.1 < 1) then
    some (.inr 0)
   else
    (bif decide (y21.1 > 4) then
     some (.inr 0)
    else
     (bif decide (y21.2.2.2 < 1) then
      some (.inr 0)
     else
      (bif decide (y21.2.2.2 > 1024) then
       some (.inr 0)
      else
       some (.inl (IntKind.i64.wrap (a19 + 1))))))))
  else
   some (.inr 1))
def F46_h2 (h : AHeap) (x1 : Int) (x2 : Int) (x3 : Bool) (v4 : Hd) (l5 : List (Int × Int × Int × Int)) (v5 : Hd) (v6 : Hd)  (a19 : Int) : AS := ⟨[junk, .pointer (some ⟨1, 0, none⟩), junk, junk, junk, junk, junk, junk, junk, junk, junk, junk, junk, junk, junk, junk, junk, junk, junk, junk, junk, junk, junk, junk, junk, junk, junk, junk, junk, junk, junk, junk, junk, junk, junk, junk, junk, junk, junk, junk, junk, junk, junk, junk, junk, junk, junk, junk, junk, (sv v5), .int .i64 (l5.length : Int), .int .i64 a19, junk, junk, junk, junk, junk, junk, junk, junk, junk, junk, junk, junk, junk, junk, junk, junk, junk, junk, junk, junk, junk, junk, junk, junk, junk, junk, junk, junk, junk, junk, junk, junk, junk, junk, junk, junk, junk, junk, junk, junk, junk, junk, junk, junk, junk, junk, junk, junk, junk, junk, junk, junk, junk, junk, junk, junk, junk, junk, junk, junk, junk, junk, junk, junk, junk], [(1, [.int .i64 x1, .int .i64 x2, .bool x3, (sv v4), (sv v5), (sv v6)])], h⟩
theorem F46_d2 : drawsOk F46_D (codeOf Try.prog 46 [1, 1, 1, 0, 1, 0, 0]) = true := by kernel_rfl
def F46_x2_0 (h : AHeap) (x1 : Int) (x2 : Int) (x3 : Bool) (v4 : Hd) (v5 : Hd) (v6 : Hd)  (r : Nat) : AS := ⟨[junk, junk, .bool false, junk, junk, junk, junk, junk, junk, junk, junk, junk, junk, junk, junk, junk, junk, junk, junk, junk, junk, junk, junk, junk, junk, junk, junk, junk, junk, junk, junk, junk, junk, junk, junk, junk, junk, junk, junk, junk, junk, junk, junk, junk, junk, junk, junk, junk, junk, junk, junk, junk, junk, junk, junk, junk, junk, junk, junk, junk, junk, junk, junk, junk, junk, junk, junk, junk, junk, junk, junk, junk, junk, junk, junk, junk, junk, junk, junk, junk, junk, junk, junk, junk, junk, junk, junk, junk, junk, junk, junk, junk, junk, junk, junk, junk, junk, junk, junk, junk, junk, junk, junk, junk, junk, junk, junk, junk, junk, junk, junk, junk, junk, junk, junk, junk, junk], [], h⟩
def F46_x2_1 (h : AHeap) (x1 : Int) (x2 : Int) (x3 : Bool) (v4 : Hd) (v5 : Hd) (v6 : Hd)  (r : Nat) : AS := ⟨[junk, .pointer (some ⟨1, 0, none⟩), junk, junk, junk, junk, junk, junk, junk, junk, junk, junk, junk, junk, junk, junk, junk, junk, junk, junk, junk, junk, junk, junk, junk, junk, junk, junk, junk, junk, junk, junk, junk, junk, junk, junk, junk, junk, junk, junk, junk, junk, junk, junk, junk, junk, junk, junk, junk, junk, junk, junk, junk, junk, junk, junk, junk, junk, junk, junk, junk, junk, junk, junk, junk, junk, junk, junk, junk, junk, junk, junk, junk, junk, junk, junk, junk, junk, junk, junk, junk, junk, junk, junk, junk, junk, junk, junk, junk, junk, junk, junk, junk, junk, junk, junk, junk, junk, junk, junk, junk, junk, junk, junk, junk, junk, junk, junk, junk, junk, junk, junk, junk, junk, junk, junk, junk], [(1, [.int .i64 x1, .int .i64 x2, .bool x3, (sv v4), (sv v5), (sv v6)])], h⟩
def F46_x2 (h : AHeap) (x1 : Int) (x2 : Int) (x3 : Bool) (v4 : Hd) (v5 : Hd) (v6 : Hd) (r : Nat) : Exit × AS := (bif Nat.beq r 0 then (.ret, (F46_x2_0 h x1 x2 x3 v4 v5 v6 r)) else ((.exit 2), (F46_x2_1 h x1 x2 x3 v4 v5 v6 r)))
set_option maxRecDepth 100000 in
theorem F46_r2 (h : AHeap) (x1 : Int) (x2 : Int) (x3 : Bool) (v4 : Hd) (l5 : List (Int × Int × Int × Int)) (v5 : Hd) (hv5 : SlE E79 4 h (sv v5) l5) (v6 : Hd) (a19 : Int) (o : Int ⊕ Nat) : F46_s2 l5 a19 = some o → RdF Try.prog (codeOf Try.prog 46 [1, 1, 1, 0, 1, 0, 0]) (fun (s : Int) => (F46_h2 h x1 x2 x3 v4 l5 v5 v6 s)) (F46_x2 h x1 x2 x3 v4 v5 v6) (F46_h2 h x1 x2 x3 v4 l5 v5 v6 a19) o := by
  unfold F46_s2
  refine dec_bif (fun c20 => ?_) (fun c20 => ?_)
  · refine bind_opt fun y21 e21 => ?_
    obtain ⟨id21, off21, g21, cs21, ix21, at21, rfl⟩ := SlE.at hv5 e21
    refine dec_bif (fun c22 => ?_) (fun c22 => ?_)
    · intro hr
      obtain rfl := Option.some.inj hr
      show AWp Try.prog _ (Ends1 ((F46_x2 h x1 x2 x3 v4 v5 v6) (0 : Nat)).1 ((F46_x2 h x1 x2 x3 v4 v5 v6) (0 : Nat)).2) _
      exact pEnd_sound good (L := F46_L) (D := F46_D) (its := [.g, (.b true), (.ix id21 off21 g21), (.ld (.agg #[.int .i64 y21.1, .int .i64 y21.2.1, .int .i64 y21.2.2.1, .int .i64 y21.2.2.2])), .g, .g, .g, .g, .g, .g, .n, .n, .n, (.p true), .g, .n, .n, .n, .g, .g, .n, .n, .n, .g, (.b true), .g]) (ds := F46_m2_0) (ks := [1, 6]) (e := ((F46_x2 h x1 x2 x3 v4 v5 v6) (0 : Nat)).1) (s2 := ((F46_x2 h x1 x2 x3 v4 v5 v6) (0 : Nat)).2) (hC := (ai l_t (ai (g_tf l_t) (ai (g_tf l_t) (ai (g_tf l_t) (ai (g_tf l_t) (ai (g_tf l_t) (ai (g_tf l_t) (ai c22 (ai (g_tf c22) (ai (g_tf c22) (ai (g_tf c22) (ai (At.agg (P := Try.prog) (t := 79) (v := .agg #[.int .i64 y21.1, .int .i64 y21.2.1, .int .i64 y21.2.2.1, .int .i64 y21.2.2.2]) (m := 4) at21 (by kernel_rfl) (by kernel_rfl) 0 (by kernel_rfl) rfl) (ai ix21 (ai c20 trivial))))))))))))))) (hd := F46_d2) (h := by kernel_rfl)
    · refine dec_bif (fun c23 => ?_) (fun c23 => ?_)
      · intro hr
        obtain rfl := Option.some.inj hr
        show AWp Try.prog _ (Ends1 ((F46_x2 h x1 x2 x3 v4 v5 v6) (0 : Nat)).1 ((F46_x2 h x1 x2 x3 v4 v5 v6) (0 : Nat)).2) _
        exact pEnd_sound good (L := F46_L) (D := F46_D) (its := [.g, (.b true), (.ix id21 off21 g21), (.ld (.agg #[.int .i64 y21.1, .int .i64 y21.2.1, .int .i64 y21.2.2.1, .int .i64 y21.2.2.2])), .g, .g, .g, .g, .g, .g, (.w .g), (.w .g), (.w .g), (.p false), .g, .n, .n, .n, (.p true), .g, .n, .n, .n, .g, (.b true), .g]) (ds := F46_m2_0) (ks := [1, 6]) (e := ((F46_x2 h x1 x2 x3 v4 v5 v6) (0 : Nat)).1) (s2 := ((F46_x2 h x1 x2 x3 v4 v5 v6) (0 : Nat)).2) (hC := (ai l_t (ai (g_tf l_t) (ai (g_tf l_t) (ai (g_tf l_t) (ai c23 (ai (g_tf c23) (ai (g_tf c23) (ai (g_tf c23) (ai c22 (ai (g_ff c22) (ai (g_ff c22) (ai (g_ff c22) (ai (At.agg (P := Try.prog) (t := 79) (v := .agg #[.int .i64 y21.1, .int .i64 y21.2.1, .int .i64 y21.2.2.1, .int .i64 y21.2.2.2]) (m := 4) at21 (by kernel_rfl) (by kernel_rfl) 0 (by kernel_rfl) rfl) (ai ix21 (ai c20 trivial)))))))))))))))) (hd := F46_d2) (h := by kernel_rfl)
      · refine dec_bif (fun c24 => ?_) (fun c24 => ?_)
        · intro hr
          obtain rfl := Option.some.inj hr
          show AWp Try.prog _ (Ends1 ((F46_x2 h x1 x2 x3 v4 v5 v6) (0 : Nat)).1 ((F46_x2 h x1 x2 x3 v4 v5 v6) (0 : Nat)).2) _
          exact pEnd_sound good (L := F46_L) (D := F46_D) (its := [.g, (.b true), (.ix id21 off21 g21), (.ld (.agg #[.int .i64 y21.1, .int .i64 y21.2.1, .int .i64 y21.2.2.1, .int .i64 y21.2.2.2])), .g, .g, .g, .g, .g, .g, (.w .g), (.w .g), (.w .g), (.p false), .g, (.w .g), (.w .g), (.w .g), (.p false), .g, .n, .n, .n, (.p true), (.b true), .g]) (ds := F46_m2_0) (ks := [1, 6]) (e := ((F46_x2 h x1 x2 x3 v4 v5 v6) (0 : Nat)).1) (s2 := ((F46_x2 h x1 x2 x3 v4 v5 v6) (0 : Nat)).2) (hC := (ai l_t (ai c24 (ai (g_tf c24) (ai (g_tf c24) (ai (g_tf c24) (ai c23 (ai (g_ff c23) (ai (g_ff c23) (ai (g_ff c23) (ai c22 (ai (g_ff c22) (ai (g_ff c22) (ai (g_ff c22) (ai (At.agg (P := Try.prog) (t := 79) (v := .agg #[.int .i64 y21.1, .int .i64 y21.2.1, .int .i64 y21.2.2.1, .int .i64 y21.2.2.2]) (m := 4) at21 (by kernel_rfl) (by kernel_rfl) 0 (by kernel_rfl) rfl) (ai ix21 (ai c20 trivial))))))))))))))))) (hd := F46_d2) (h := by kernel_rfl)
        · refine dec_bif (fun c25 => ?_) (fun c25 => ?_)
          · intro hr
            obtain rfl := Option.some.inj hr
            show AWp Try.prog _ (Ends1 ((F46_x2 h x1 x2 x3 v4 v5 v6) (0 : Nat)).1 ((F46_x2 h x1 x2 x3 v4 v5 v6) (0 : Nat)).2) _
            exact pEnd_sound good (L := F46_L) (D := F46_D) (its := [.g, (.b true), (.ix id21 off21 g21), (.ld (.agg #[.int .i64 y21.1, .int .i64 y21.2.1, .int .i64 y21.2.2.1, .int .i64 y21.2.2.2])), .g, .g, .g, .g, .g, .g, (.w .g), (.w .g), (.w .g), (.p false), .g, (.w .g), (.w .g), (.w .g), (.p false), .g, (.w .g), (.w .g), (.w .g), (.p false), (.b true), .g]) (ds := F46_m2_0) (ks := [1, 6]) (e := ((F46_x2 h x1 x2 x3 v4 v5 v6) (0 : Nat)).1) (s2 := ((F46_x2 h x1 x2 x3 v4 v5 v6) (0 : Nat)).2) (hC := (ai c25 (ai c24 (ai (g_ff c24) (ai (g_ff c24) (ai (g_ff c24) (ai c23 (ai (g_ff c23) (ai (g_ff c23) (ai (g_ff c23) (ai c22 (ai (g_ff c22) (ai (g_ff c22) (ai (g_ff c22) (ai (At.agg (P := Try.prog) (t := 79) (v := .agg #[.int .i64 y21.1, .int .i64 y21.2.1, .int .i64 y21.2.2.1, .int .i64 y21.2.2.2]) (m := 4) at21 (by kernel_rfl) (by kernel_rfl) 0 (by kernel_rfl) rfl) (ai ix21 (ai c20 trivial))))))))))))))))) (hd := F46_d2) (h := by kernel_rfl)
          · intro hr
            obtain rfl := Option.some.inj hr
            show AWp Try.prog _ (Ends1 .normal (F46_h2 h x1 x2 x3 v4 l5 v5 v6 (IntKind.i64.wrap (a19 + 1)))) _
            exact pEnd_sound good (L := F46_L) (D := F46_D) (its := [.g, (.b true), (.ix id21 off21 g21), (.ld (.agg #[.int .i64 y21.1, .int .i64 y21.2.1, .int .i64 y21.2.2.1, .int .i64 y21.2.2.2])), .g, .g, .g, .g, .g, .g, (.w .g), (.w .g), (.w .g), (.p false), .g, (.w .g), (.w .g), (.w .g), (.p false), .g, (.w .g), (.w .g), (.w .g), (.p false), (.b false), .g, .g]) (ds := F46_m2_1) (ks := [6]) (e := .normal) (s2 := (F46_h2 h x1 x2 x3 v4 l5 v5 v6 (IntKind.i64.wrap (a19 + 1)))) (hC := (ai c25 (ai c24 (ai (g_ff c24) (ai (g_ff c24) (ai (g_ff c24) (ai c23 (ai (g_ff c23) (ai (g_ff c23) (ai (g_ff c23) (ai c22 (ai (g_ff c22) (ai (g_ff c22) (ai (g_ff c22) (ai (At.agg (P := Try.prog) (t := 79) (v := .agg #[.int .i64 y21.1, .int .i64 y21.2.1, .int .i64 y21.2.2.1, .int .i64 y21.2.2.2]) (m := 4) at21 (by kernel_rfl) (by kernel_rfl) 0 (by kernel_rfl) rfl) (ai ix21 (ai c20 trivial))))))))))))))))) (hd := F46_d2) (h := by kernel_rfl)
  · intro hr
    obtain rfl := Option.some.inj hr
    show AWp Try.prog _ (Ends1 ((F46_x2 h x1 x2 x3 v4 v5 v6) (1 : Nat)).1 ((F46_x2 h x1 x2 x3 v4 v5 v6) (1 : Nat)).2) _
    exact pEnd_sound good (L := F46_L) (D := F46_D) (its := [.g, (.b false)]) (ds := F46_m2_2) (ks := []) (e := ((F46_x2 h x1 x2 x3 v4 v5 v6) (1 : Nat)).1) (s2 := ((F46_x2 h x1 x2 x3 v4 v5 v6) (1 : Nat)).2) (hC := (ai c20 trivial)) (hd := F46_d2) (h := by kernel_rfl)
theorem F46_l2_0 (h : AHeap) (x1 : Int) (x2 : Int) (x3 : Bool) (v4 : Hd) (l5 : List (Int × Int × Int × Int)) (v5 : Hd) (hv5 : SlE E79 4 h (sv v5) l5) (v6 : Hd) (x : Int) (r : Nat) (hl : loopO (fun (s : Int) => F46_s2 l5 s) x = some r) (q0 : Nat.beq r 0 = true) : AWp Try.prog (.loop (codeOf Try.prog 46 [1, 1, 1, 0, 1, 0, 0])) (Ends1 .ret (F46_x2_0 h x1 x2 x3 v4 v5 v6 r)) ((fun (s : Int) => (F46_h2 h x1 x2 x3 v4 l5 v5 v6 s)) x) := by
  have k := loop_fun (P := Try.prog) (c := (codeOf Try.prog 46 [1, 1, 1, 0, 1, 0, 0])) (step := (fun (s : Int) => F46_s2 l5 s)) (hd := (fun (s : Int) => (F46_h2 h x1 x2 x3 v4 l5 v5 v6 s))) (X := (F46_x2 h x1 x2 x3 v4 v5 v6)) (by intro t; unfold F46_x2; cases Nat.beq t 0 <;> (intro h; cases h)) (fun x => F46_r2 h x1 x2 x3 v4 l5 v5 hv5 v6 x) hl
  simp only [F46_x2, q0, cond_true, cond_false] at k
  exact k
theorem F46_l2_1 (h : AHeap) (x1 : Int) (x2 : Int) (x3 : Bool) (v4 : Hd) (l5 : List (Int × Int × Int × Int)) (v5 : Hd) (hv5 : SlE E79 4 h (sv v5) l5) (v6 : Hd) (x : Int) (r : Nat) (hl : loopO (fun (s : Int) => F46_s2 l5 s) x = some r) (q0 : Nat.beq r 0 = false) : AWp Try.prog (.loop (codeOf Try.prog 46 [1, 1, 1, 0, 1, 0, 0])) (Ends1 (.exit 2) (F46_x2_1 h x1 x2 x3 v4 v5 v6 r)) ((fun (s : Int) => (F46_h2 h x1 x2 x3 v4 l5 v5 v6 s)) x) := by
  have k := loop_fun (P := Try.prog) (c := (codeOf Try.prog 46 [1, 1, 1, 0, 1, 0, 0])) (step := (fun (s : Int) => F46_s2 l5 s)) (hd := (fun (s : Int) => (F46_h2 h x1 x2 x3 v4 l5 v5 v6 s))) (X := (F46_x2 h x1 x2 x3 v4 v5 v6)) (by intro t; unfold F46_x2; cases Nat.beq t 0 <;> (intro h; cases h)) (fun x => F46_r2 h x1 x2 x3 v4 l5 v5 hv5 v6 x) hl
  simp only [F46_x2, q0, cond_true, cond_false] at k
  exact k
def F46_m3_2 : List Bool := [true, false, true, true, true, true, true, true, true, true, true, true, true, true, true, true, true, true, true, true, true, true, true, true, true, true, true, true, true, true, true, true, true, true, true, true, true, true, true, true, true, true, true, true, true, true, true, true, true, true, true, true, true, true, true, true, true, true, true, true, true, true, true, true, true, true, true, true, true, true, true, true, true, true, true, true, true, true, true, true, true, true, true, true, true, true, true, true, true, true, true, true, true, true, true, true, true, true, true, true, true, true, true, true, true, true, true, true, true, true, true, true, true, true, true, true, true]
def F46_m3_1 : List Bool := [true, false, true, true, true, true, true, true, true, true, true, true, true, true, true, true, true, true, true, true, true, true, true, true, true, true, true, true, true, true, true, true, true, true, true, true, true, true, true, true, true, true, true, true, true, true, true, true, true, true, true, true, true, true, true, true, true, true, true, true, true, true, true, true, true, true, true, true, true, true, true, true, true, true, true, false, false, false, true, true, true, true, true, true, true, true, true, true, true, true, true, true, true, true, true, true, true, true, true, true, true, true, true, true, true, true, true, true, true, true, true, true, true, true, true, true, true]
def F46_m3_0 : List Bool := [true, true, false, true, true, true, true, true, true, true, true, true, true, true, true, true, true, true, true, true, true, true, true, true, true, true, true, true, true, true, true, true, true, true, true, true, true, true, true, true, true, true, true, true, true, true, true, true, true, true, true, true, true, true, true, true, true, true, true, true, true, true, true, true, true, true, true, true, true, true, true, true, true, true, true, true, true, true, true, true, true, true, true, true, true, true, true, true, true, true, true, true, true, true, true, true, true, true, true, true, true, true, true, true, true, true, true, true, true, true, true, true, true, true, true, true, true]
def F46_s3 (l5 : List (Int × Int × Int × Int)) (l6 : List (Int × Int)) (a28 : Int) : Option (Int ⊕ Nat) :=
  (bif decide (a28 < (l6.length : Int)) then
   (Option.bind (at? l6 a28) fun y30 =>
   (bif (y30.1 == (-1)) then
    (bif (!(y30.2 == 0)) then
     (bif decide (y30.1 < 0) then
      some (.inr 0)
     else
      (bif decide (y30.1 ≥ (l5.length : Int)) then
       some (.inr 0)
      else
       (bif decide (y30.2 < 1) then
        some (.inr 0)
       else
        (bif decide (y30.2 > 256) then
         some (.inr 0)
        else
         some (.inl (IntKind.i64.wrap (a28 + 1)))))))
    else
     some (.inl (IntKind.i64.wrap (a28 + 1))))
   else
    (bif decide (y30.1 < 0) then
     some (.inr 0)
    else
     (bif decide (y30.1 ≥ (l5.length : Int)) then
      some (.inr 0)
     else
      (bif decide (y30.2 < 1) then
       some (.inr 0)
      else
       (bif decide (y30.2 > 256) then
        some (.inr 0)
       else
        some (.inl (IntKind.i64.wrap (a28 + 1)))))))))
  else
   some (.inr 1))
def F46_h3 (h : AHeap) (x1 : Int) (x2 : Int) (x3 : Bool) (v4 : Hd) (v5 : Hd) (l6 : List (Int × Int)) (v6 : Hd)  (a28 : Int) : AS := ⟨[junk, .pointer (some ⟨1, 0, none⟩), junk, junk, junk, junk, junk, junk, junk, junk, junk, junk, junk, junk, junk, junk, junk, junk, junk, junk, junk, junk, junk, junk, junk, junk, junk, junk, junk, junk, junk, junk, junk, junk, junk, junk, junk, junk, junk, junk, junk, junk, junk, junk, junk, junk, junk, junk, junk, junk, junk, junk, junk, junk, junk, junk, junk, junk, junk, junk, junk, junk, junk, junk, junk, junk, junk, junk, junk, junk, junk, junk, junk, junk, junk, (sv v6), .int .i64 (l6.length : Int), .int .i64 a28, junk, junk, junk, junk, junk, junk, junk, junk, junk, junk, junk, junk, junk, junk, junk, junk, junk, junk, junk, junk, junk, junk, junk, junk, junk, junk, junk, junk, junk, junk, junk, junk, junk, junk, junk, junk, junk, junk, junk], [(1, [.int .i64 x1, .int .i64 x2, .bool x3, (sv v4), (sv v5), (sv v6)])], h⟩
theorem F46_d3 : drawsOk F46_D (codeOf Try.prog 46 [1, 1, 1, 1, 0, 1, 0, 0]) = true := by kernel_rfl
def F46_x3_0 (h : AHeap) (x1 : Int) (x2 : Int) (x3 : Bool) (v4 : Hd) (v5 : Hd) (v6 : Hd)  (r : Nat) : AS := ⟨[junk, junk, .bool false, junk, junk, junk, junk, junk, junk, junk, junk, junk, junk, junk, junk, junk, junk, junk, junk, junk, junk, junk, junk, junk, junk, junk, junk, junk, junk, junk, junk, junk, junk, junk, junk, junk, junk, junk, junk, junk, junk, junk, junk, junk, junk, junk, junk, junk, junk, junk, junk, junk, junk, junk, junk, junk, junk, junk, junk, junk, junk, junk, junk, junk, junk, junk, junk, junk, junk, junk, junk, junk, junk, junk, junk, junk, junk, junk, junk, junk, junk, junk, junk, junk, junk, junk, junk, junk, junk, junk, junk, junk, junk, junk, junk, junk, junk, junk, junk, junk, junk, junk, junk, junk, junk, junk, junk, junk, junk, junk, junk, junk, junk, junk, junk, junk, junk], [], h⟩
def F46_x3_1 (h : AHeap) (x1 : Int) (x2 : Int) (x3 : Bool) (v4 : Hd) (v5 : Hd) (v6 : Hd)  (r : Nat) : AS := ⟨[junk, .pointer (some ⟨1, 0, none⟩), junk, junk, junk, junk, junk, junk, junk, junk, junk, junk, junk, junk, junk, junk, junk, junk, junk, junk, junk, junk, junk, junk, junk, junk, junk, junk, junk, junk, junk, junk, junk, junk, junk, junk, junk, junk, junk, junk, junk, junk, junk, junk, junk, junk, junk, junk, junk, junk, junk, junk, junk, junk, junk, junk, junk, junk, junk, junk, junk, junk, junk, junk, junk, junk, junk, junk, junk, junk, junk, junk, junk, junk, junk, junk, junk, junk, junk, junk, junk, junk, junk, junk, junk, junk, junk, junk, junk, junk, junk, junk, junk, junk, junk, junk, junk, junk, junk, junk, junk, junk, junk, junk, junk, junk, junk, junk, junk, junk, junk, junk, junk, junk, junk, junk, junk], [(1, [.int .i64 x1, .int .i64 x2, .bool x3, (sv v4), (sv v5), (sv v6)])], h⟩
def F46_x3 (h : AHeap) (x1 : Int) (x2 : Int) (x3 : Bool) (v4 : Hd) (v5 : Hd) (v6 : Hd) (r : Nat) : Exit × AS := (bif Nat.beq r 0 then (.ret, (F46_x3_0 h x1 x2 x3 v4 v5 v6 r)) else ((.exit 4), (F46_x3_1 h x1 x2 x3 v4 v5 v6 r)))
set_option maxRecDepth 100000 in
theorem F46_r3 (h : AHeap) (x1 : Int) (x2 : Int) (x3 : Bool) (v4 : Hd) (l5 : List (Int × Int × Int × Int)) (v5 : Hd) (hv5 : SlE E79 4 h (sv v5) l5) (l6 : List (Int × Int)) (v6 : Hd) (hv6 : SlE E77 2 h (sv v6) l6) (a28 : Int) (o : Int ⊕ Nat) : F46_s3 l5 l6 a28 = some o → RdF Try.prog (codeOf Try.prog 46 [1, 1, 1, 1, 0, 1, 0, 0]) (fun (s : Int) => (F46_h3 h x1 x2 x3 v4 v5 l6 v6 s)) (F46_x3 h x1 x2 x3 v4 v5 v6) (F46_h3 h x1 x2 x3 v4 v5 l6 v6 a28) o := by
  unfold F46_s3
  refine dec_bif (fun c29 => ?_) (fun c29 => ?_)
  · refine bind_opt fun y30 e30 => ?_
    obtain ⟨id30, off30, g30, cs30, ix30, at30, rfl⟩ := SlE.at hv6 e30
    refine dec_bif (fun c31 => ?_) (fun c31 => ?_)
    · refine dec_bif (fun c32 => ?_) (fun c32 => ?_)
      · refine dec_bif (fun c33 => ?_) (fun c33 => ?_)
        · intro hr
          obtain rfl := Option.some.inj hr
          show AWp Try.prog _ (Ends1 ((F46_x3 h x1 x2 x3 v4 v5 v6) (0 : Nat)).1 ((F46_x3 h x1 x2 x3 v4 v5 v6) (0 : Nat)).2) _
          exact pEnd_sound good (L := F46_L) (D := F46_D) (its := [.g, (.b true), (.ix id30 off30 g30), (.ld (.agg #[.int .i64 y30.1, .int .i64 y30.2])), .g, .g, .g, .g, .g, .g, (.w .g), (.w .g), (.w .g), (.p true), .g, .g, .g, .g, (.w .g), (.w .g), (.w .g), (.w .g), .n, .n, .n, .n, .n, .n, (.w (.p true)), (.w .g), .n, .n, .n, (.w .g), (.w .g), .n, .n, .n, (.w .g), (.p true), (.b true), .g]) (ds := F46_m3_0) (ks := [1, 8]) (e := ((F46_x3 h x1 x2 x3 v4 v5 v6) (0 : Nat)).1) (s2 := ((F46_x3 h x1 x2 x3 v4 v5 v6) (0 : Nat)).2) (hC := (ai l_t (ai c32 (ai (g_tt c32) (ai (g_tf l_t) (ai (g_tf l_t) (ai (g_tf l_t) (ai (g_tt c32) (ai (g_tt c32) (ai (g_tf l_t) (ai (g_tf l_t) (ai (g_tf l_t) (ai (g_tt c32) (ai c33 (ai (g_tt c32) (ai (g_tf c33) (ai (g_tf c33) (ai (g_tf c33) (ai (g_tf c33) (ai (g_tf c33) (ai (g_tf c33) (ai (g_tt c32) (ai (g_tt c32) (ai (g_tt c32) (ai (g_tt c32) (ai c31 (ai (g_tt c31) (ai (g_tt c31) (ai (g_tt c31) (ai (At.agg (P := Try.prog) (t := 77) (v := .agg #[.int .i64 y30.1, .int .i64 y30.2]) (m := 2) at30 (by kernel_rfl) (by kernel_rfl) 0 (by kernel_rfl) rfl) (ai ix30 (ai c29 trivial)))))))))))))))))))))))))))))))) (hd := F46_d3) (h := by kernel_rfl)
        · refine dec_bif (fun c34 => ?_) (fun c34 => ?_)
          · intro hr
            obtain rfl := Option.some.inj hr
            show AWp Try.prog _ (Ends1 ((F46_x3 h x1 x2 x3 v4 v5 v6) (0 : Nat)).1 ((F46_x3 h x1 x2 x3 v4 v5 v6) (0 : Nat)).2) _
            exact pEnd_sound good (L := F46_L) (D := F46_D) (its := [.g, (.b true), (.ix id30 off30 g30), (.ld (.agg #[.int .i64 y30.1, .int .i64 y30.2])), .g, .g, .g, .g, .g, .g, (.w .g), (.w .g), (.w .g), (.p true), .g, .g, .g, .g, (.w .g), (.w .g), (.w .g), (.w .g), (.w .g), (.w .g), (.w .g), (.w .g), (.w (.ln l5.length)), (.w .g), (.w (.p false)), (.w .g), .n, .n, .n, (.w (.p true)), (.w .g), .n, .n, .n, (.w .g), (.p true), (.b true), .g]) (ds := F46_m3_0) (ks := [1, 8]) (e := ((F46_x3 h x1 x2 x3 v4 v5 v6) (0 : Nat)).1) (s2 := ((F46_x3 h x1 x2 x3 v4 v5 v6) (0 : Nat)).2) (hC := (ai l_t (ai c32 (ai (g_tt c32) (ai (g_tf l_t) (ai (g_tf l_t) (ai (g_tf l_t) (ai (g_tt c32) (ai c34 (ai (g_tt c32) (ai (g_tf c34) (ai (g_tf c34) (ai (g_tf c34) (ai (g_tt c32) (ai c33 (ai (g_tt c32) (ai (g_ff c33) (ai (SlE.len hv5) (ai (g_ff c33) (ai (g_ff c33) (ai (g_ff c33) (ai (g_ff c33) (ai (g_ff c33) (ai (g_tt c32) (ai (g_tt c32) (ai (g_tt c32) (ai (g_tt c32) (ai c31 (ai (g_tt c31) (ai (g_tt c31) (ai (g_tt c31) (ai (At.agg (P := Try.prog) (t := 77) (v := .agg #[.int .i64 y30.1, .int .i64 y30.2]) (m := 2) at30 (by kernel_rfl) (by kernel_rfl) 0 (by kernel_rfl) rfl) (ai ix30 (ai c29 trivial)))))))))))))))))))))))))))))))))) (hd := F46_d3) (h := by kernel_rfl)
          · refine dec_bif (fun c35 => ?_) (fun c35 => ?_)
            · intro hr
              obtain rfl := Option.some.inj hr
              show AWp Try.prog _ (Ends1 ((F46_x3 h x1 x2 x3 v4 v5 v6) (0 : Nat)).1 ((F46_x3 h x1 x2 x3 v4 v5 v6) (0 : Nat)).2) _
              exact pEnd_sound good (L := F46_L) (D := F46_D) (its := [.g, (.b true), (.ix id30 off30 g30), (.ld (.agg #[.int .i64 y30.1, .int .i64 y30.2])), .g, .g, .g, .g, .g, .g, (.w .g), (.w .g), (.w .g), (.p true), .g, .g, .g, .g, (.w .g), (.w .g), (.w .g), (.w .g), (.w .g), (.w .g), (.w .g), (.w .g), (.w (.ln l5.length)), (.w .g), (.w (.p false)), (.w .g), (.w .g), (.w .g), (.w .g), (.w (.p false)), (.w .g), .n, .n, .n, (.w (.p true)), (.p true), (.b true), .g]) (ds := F46_m3_0) (ks := [1, 8]) (e := ((F46_x3 h x1 x2 x3 v4 v5 v6) (0 : Nat)).1) (s2 := ((F46_x3 h x1 x2 x3 v4 v5 v6) (0 : Nat)).2) (hC := (ai l_t (ai c32 (ai c35 (ai (g_tt c32) (ai (g_tf c35) (ai (g_tf c35) (ai (g_tf c35) (ai (g_tt c32) (ai c34 (ai (g_tt c32) (ai (g_ff c34) (ai (g_ff c34) (ai (g_ff c34) (ai (g_tt c32) (ai c33 (ai (g_tt c32) (ai (g_ff c33) (ai (SlE.len hv5) (ai (g_ff c33) (ai (g_ff c33) (ai (g_ff c33) (ai (g_ff c33) (ai (g_ff c33) (ai (g_tt c32) (ai (g_tt c32) (ai (g_tt c32) (ai (g_tt c32) (ai c31 (ai (g_tt c31) (ai (g_tt c31) (ai (g_tt c31) (ai (At.agg (P := Try.prog) (t := 77) (v := .agg #[.int .i64 y30.1, .int .i64 y30.2]) (m := 2) at30 (by kernel_rfl) (by kernel_rfl) 0 (by kernel_rfl) rfl) (ai ix30 (ai c29 trivial))))))))))))))))))))))))))))))))))) (hd := F46_d3) (h := by kernel_rfl)
            · refine dec_bif (fun c36 => ?_) (fun c36 => ?_)
              · intro hr
                obtain rfl := Option.some.inj hr
                show AWp Try.prog _ (Ends1 ((F46_x3 h x1 x2 x3 v4 v5 v6) (0 : Nat)).1 ((F46_x3 h x1 x2 x3 v4 v5 v6) (0 : Nat)).2) _
                exact pEnd_sound good (L := F46_L) (D := F46_D) (its := [.g, (.b true), (.ix id30 off30 g30), (.ld (.agg #[.int .i64 y30.1, .int .i64 y30.2])), .g, .g, .g, .g, .g, .g, (.w .g), (.w .g), (.w .g), (.p true), .g, .g, .g, .g, (.w .g), (.w .g), (.w .g), (.w .g), (.w .g), (.w .g), (.w .g), (.w .g), (.w (.ln l5.length)), (.w .g), (.w (.p false)), (.w .g), (.w .g), (.w .g), (.w .g), (.w (.p false)), (.w .g), (.w .g), (.w .g), (.w .g), (.w (.p false)), (.p true), (.b true), .g]) (ds := F46_m3_0) (ks := [1, 8]) (e := ((F46_x3 h x1 x2 x3 v4 v5 v6) (0 : Nat)).1) (s2 := ((F46_x3 h x1 x2 x3 v4 v5 v6) (0 : Nat)).2) (hC := (ai c36 (ai c32 (ai c35 (ai (g_tt c32) (ai (g_ff c35) (ai (g_ff c35) (ai (g_ff c35) (ai (g_tt c32) (ai c34 (ai (g_tt c32) (ai (g_ff c34) (ai (g_ff c34) (ai (g_ff c34) (ai (g_tt c32) (ai c33 (ai (g_tt c32) (ai (g_ff c33) (ai (SlE.len hv5) (ai (g_ff c33) (ai (g_ff c33) (ai (g_ff c33) (ai (g_ff c33) (ai (g_ff c33) (ai (g_tt c32) (ai (g_tt c32) (ai (g_tt c32) (ai (g_tt c32) (ai c31 (ai (g_tt c31) (ai (g_tt c31) (ai (g_tt c31) (ai (At.agg (P := Try.prog) (t := 77) (v := .agg #[.int .i64 y30.1, .int .i64 y30.2]) (m := 2) at30 (by kernel_rfl) (by kernel_rfl) 0 (by kernel_rfl) rfl) (ai ix30 (ai c29 trivial))))))))))))))))))))))))))))))))))) (hd := F46_d3) (h := by kernel_rfl)
              · intro hr
                obtain rfl := Option.some.inj hr
                show AWp Try.prog _ (Ends1 .normal (F46_h3 h x1 x2 x3 v4 v5 l6 v6 (IntKind.i64.wrap (a28 + 1)))) _
                exact pEnd_sound good (L := F46_L) (D := F46_D) (its := [.g, (.b true), (.ix id30 off30 g30), (.ld (.agg #[.int .i64 y30.1, .int .i64 y30.2])), .g, .g, .g, .g, .g, .g, (.w .g), (.w .g), (.w .g), (.p true), .g, .g, .g, .g, (.w .g), (.w .g), (.w .g), (.w .g), (.w .g), (.w .g), (.w .g), (.w .g), (.w (.ln l5.length)), (.w .g), (.w (.p false)), (.w .g), (.w .g), (.w .g), (.w .g), (.w (.p false)), (.w .g), (.w .g), (.w .g), (.w .g), (.w (.p false)), (.p true), (.b false), .g, .g]) (ds := F46_m3_1) (ks := [8]) (e := .normal) (s2 := (F46_h3 h x1 x2 x3 v4 v5 l6 v6 (IntKind.i64.wrap (a28 + 1)))) (hC := (ai c36 (ai c32 (ai c35 (ai (g_tt c32) (ai (g_ff c35) (ai (g_ff c35) (ai (g_ff c35) (ai (g_tt c32) (ai c34 (ai (g_tt c32) (ai (g_ff c34) (ai (g_ff c34) (ai (g_ff c34) (ai (g_tt c32) (ai c33 (ai (g_tt c32) (ai (g_ff c33) (ai (SlE.len hv5) (ai (g_ff c33) (ai (g_ff c33) (ai (g_ff c33) (ai (g_ff c33) (ai (g_ff c33) (ai (g_tt c32) (ai (g_tt c32) (ai (g_tt c32) (ai (g_tt c32) (ai c31 (ai (g_tt c31) (ai (g_tt c31) (ai (g_tt c31) (ai (At.agg (P := Try.prog) (t := 77) (v := .agg #[.int .i64 y30.1, .int .i64 y30.2]) (m := 2) at30 (by kernel_rfl) (by kernel_rfl) 0 (by kernel_rfl) rfl) (ai ix30 (ai c29 trivial))))))))))))))))))))))))))))))))))) (hd := F46_d3) (h := by kernel_rfl)
      · intro hr
        obtain rfl := Option.some.inj hr
        show AWp Try.prog _ (Ends1 .normal (F46_h3 h x1 x2 x3 v4 v5 l6 v6 (IntKind.i64.wrap (a28 + 1)))) _
        exact pEnd_sound good (L := F46_L) (D := F46_D) (its := [.g, (.b true), (.ix id30 off30 g30), (.ld (.agg #[.int .i64 y30.1, .int .i64 y30.2])), .g, .g, .g, .g, .g, .g, (.w .g), (.w .g), (.w .g), (.p true), .g, .g, .g, .g, .n, .n, .n, .n, .n, .n, .n, .n, .n, .n, .n, .n, .n, .n, .n, .n, .n, .n, .n, .n, .n, (.p false), (.b false), .g, .g]) (ds := F46_m3_1) (ks := [8]) (e := .normal) (s2 := (F46_h3 h x1 x2 x3 v4 v5 l6 v6 (IntKind.i64.wrap (a28 + 1)))) (hC := (ai l_f (ai c32 (ai (g_ft c32) (ai l_f (ai l_f (ai l_f (ai (g_ft c32) (ai (g_ft c32) (ai l_f (ai l_f (ai l_f (ai (g_ft c32) (ai (g_ft c32) (ai l_f (ai l_f (ai l_f (ai l_f (ai l_f (ai l_f (ai (g_ft c32) (ai (g_ft c32) (ai (g_ft c32) (ai (g_ft c32) (ai c31 (ai (g_tt c31) (ai (g_tt c31) (ai (g_tt c31) (ai (At.agg (P := Try.prog) (t := 77) (v := .agg #[.int .i64 y30.1, .int .i64 y30.2]) (m := 2) at30 (by kernel_rfl) (by kernel_rfl) 0 (by kernel_rfl) rfl) (ai ix30 (ai c29 trivial))))))))))))))))))))))))))))))) (hd := F46_d3) (h := by kernel_rfl)
    · refine dec_bif (fun c37 => ?_) (fun c37 => ?_)
      · intro hr
        obtain rfl := Option.some.inj hr
        show AWp Try.prog _ (Ends1 ((F46_x3 h x1 x2 x3 v4 v5 v6) (0 : Nat)).1 ((F46_x3 h x1 x2 x3 v4 v5 v6) (0 : Nat)).2) _
        exact pEnd_sound good (L := F46_L) (D := F46_D) (its := [.g, (.b true), (.ix id30 off30 g30), (.ld (.agg #[.int .i64 y30.1, .int .i64 y30.2])), .g, .g, .g, .g, .g, .g, .n, .n, .n, (.p false), .g, .g, .g, .g, (.w .g), (.w .g), (.w .g), (.w .g), .n, .n, .n, .n, .n, .n, (.w (.p true)), (.w .g), .n, .n, .n, (.w .g), (.w .g), .n, .n, .n, (.w .g), .g, (.b true), .g]) (ds := F46_m3_0) (ks := [1, 8]) (e := ((F46_x3 h x1 x2 x3 v4 v5 v6) (0 : Nat)).1) (s2 := ((F46_x3 h x1 x2 x3 v4 v5 v6) (0 : Nat)).2) (hC := (ai l_t (ai (g_tt l_t) (ai (g_tf l_t) (ai (g_tf l_t) (ai (g_tf l_t) (ai (g_tt l_t) (ai (g_tt l_t) (ai (g_tf l_t) (ai (g_tf l_t) (ai (g_tf l_t) (ai (g_tt l_t) (ai c37 (ai (g_tt l_t) (ai (g_tf c37) (ai (g_tf c37) (ai (g_tf c37) (ai (g_tf c37) (ai (g_tf c37) (ai (g_tf c37) (ai (g_tt l_t) (ai (g_tt l_t) (ai (g_tt l_t) (ai (g_tt l_t) (ai c31 (ai (g_ft c31) (ai (g_ft c31) (ai (g_ft c31) (ai (At.agg (P := Try.prog) (t := 77) (v := .agg #[.int .i64 y30.1, .int .i64 y30.2]) (m := 2) at30 (by kernel_rfl) (by kernel_rfl) 0 (by kernel_rfl) rfl) (ai ix30 (ai c29 trivial))))))))))))))))))))))))))))))) (hd := F46_d3) (h := by kernel_rfl)
      · refine dec_bif (fun c38 => ?_) (fun c38 => ?_)
        · intro hr
          obtain rfl := Option.some.inj hr
          show AWp Try.prog _ (Ends1 ((F46_x3 h x1 x2 x3 v4 v5 v6) (0 : Nat)).1 ((F46_x3 h x1 x2 x3 v4 v5 v6) (0 : Nat)).2) _
          exact pEnd_sound good (L := F46_L) (D := F46_D) (its := [.g, (.b true), (.ix id30 off30 g30), (.ld (.agg #[.int .i64 y30.1, .int .i64 y30.2])), .g, .g, .g, .g, .g, .g, .n, .n, .n, (.p false), .g, .g, .g, .g, (.w .g), (.w .g), (.w .g), (.w .g), (.w .g), (.w .g), (.w .g), (.w .g), (.w (.ln l5.length)), (.w .g), (.w (.p false)), (.w .g), .n, .n, .n, (.w (.p true)), (.w .g), .n, .n, .n, (.w .g), .g, (.b true), .g]) (ds := F46_m3_0) (ks := [1, 8]) (e := ((F46_x3 h x1 x2 x3 v4 v5 v6) (0 : Nat)).1) (s2 := ((F46_x3 h x1 x2 x3 v4 v5 v6) (0 : Nat)).2) (hC := (ai l_t (ai (g_tt l_t) (ai (g_tf l_t) (ai (g_tf l_t) (ai (g_tf l_t) (ai (g_tt l_t) (ai c38 (ai (g_tt l_t) (ai (g_tf c38) (ai (g_tf c38) (ai (g_tf c38) (ai (g_tt l_t) (ai c37 (ai (g_tt l_t) (ai (g_ff c37) (ai (SlE.len hv5) (ai (g_ff c37) (ai (g_ff c37) (ai (g_ff c37) (ai (g_ff c37) (ai (g_ff c37) (ai (g_tt l_t) (ai (g_tt l_t) (ai (g_tt l_t) (ai (g_tt l_t) (ai c31 (ai (g_ft c31) (ai (g_ft c31) (ai (g_ft c31) (ai (At.agg (P := Try.prog) (t := 77) (v := .agg #[.int .i64 y30.1, .int .i64 y30.2]) (m := 2) at30 (by kernel_rfl) (by kernel_rfl) 0 (by kernel_rfl) rfl) (ai ix30 (ai c29 trivial))))))))))))))))))))))))))))))))) (hd := F46_d3) (h := by kernel_rfl)
        · refine dec_bif (fun c39 => ?_) (fun c39 => ?_)
          · intro hr
            obtain rfl := Option.some.inj hr
            show AWp Try.prog _ (Ends1 ((F46_x3 h x1 x2 x3 v4 v5 v6) (0 : Nat)).1 ((F46_x3 h x1 x2 x3 v4 v5 v6) (0 : Nat)).2) _
            exact pEnd_sound good (L := F46_L) (D := F46_D) (its := [.g, (.b true), (.ix id30 off30 g30), (.ld (.agg #[.int .i64 y30.1, .int .i64 y30.2])), .g, .g, .g, .g, .g, .g, .n, .n, .n, (.p false), .g, .g, .g, .g, (.w .g), (.w .g), (.w .g), (.w .g), (.w .g), (.w .g), (.w .g), (.w .g), (.w (.ln l5.length)), (.w .g), (.w (.p false)), (.w .g), (.w .g), (.w .g), (.w .g), (.w (.p false)), (.w .g), .n, .n, .n, (.w (.p true)), .g, (.b true), .g]) (ds := F46_m3_0) (ks := [1, 8]) (e := ((F46_x3 h x1 x2 x3 v4 v5 v6) (0 : Nat)).1) (s2 := ((F46_x3 h x1 x2 x3 v4 v5 v6) (0 : Nat)).2) (hC := (ai l_t (ai c39 (ai (g_tt l_t) (ai (g_tf c39) (ai (g_tf c39) (ai (g_tf c39) (ai (g_tt l_t) (ai c38 (ai (g_tt l_t) (ai (g_ff c38) (ai (g_ff c38) (ai (g_ff c38) (ai (g_tt l_t) (ai c37 (ai (g_tt l_t) (ai (g_ff c37) (ai (SlE.len hv5) (ai (g_ff c37) (ai (g_ff c37) (ai (g_ff c37) (ai (g_ff c37) (ai (g_ff c37) (ai (g_tt l_t) (ai (g_tt l_t) (ai (g_tt l_t) (ai (g_tt l_t) (ai c31 (ai (g_ft c31) (ai (g_ft c31) (ai (g_ft c31) (ai (At.agg (P := Try.prog) (t := 77) (v := .agg #[.int .i64 y30.1, .int .i64 y30.2]) (m := 2) at30 (by kernel_rfl) (by kernel_rfl) 0 (by kernel_rfl) rfl) (ai ix30 (ai c29 trivial)))))))))))))))))))))))))))))))))) (hd := F46_d3) (h := by kernel_rfl)
          · refine dec_bif (fun c40 => ?_) (fun c40 => ?_)
            · intro hr
              obtain rfl := Option.some.inj hr
              show AWp Try.prog _ (Ends1 ((F46_x3 h x1 x2 x3 v4 v5 v6) (0 : Nat)).1 ((F46_x3 h x1 x2 x3 v4 v5 v6) (0 : Nat)).2) _
              exact pEnd_sound good (L := F46_L) (D := F46_D) (its := [.g, (.b true), (.ix id30 off30 g30), (.ld (.agg #[.int .i64 y30.1, .int .i64 y30.2])), .g, .g, .g, .g, .g, .g, .n, .n, .n, (.p false), .g, .g, .g, .g, (.w .g), (.w .g), (.w .g), (.w .g), (.w .g), (.w .g), (.w .g), (.w .g), (.w (.ln l5.length)), (.w .g), (.w (.p false)), (.w .g), (.w .g), (.w .g), (.w .g), (.w (.p false)), (.w .g), (.w .g), (.w .g), (.w .g), (.w (.p false)), .g, (.b true), .g]) (ds := F46_m3_0) (ks := [1, 8]) (e := ((F46_x3 h x1 x2 x3 v4 v5 v6) (0 : Nat)).1) (s2 := ((F46_x3 h x1 x2 x3 v4 v5 v6) (0 : Nat)).2) (hC := (ai c40 (ai c39 (ai (g_tt l_t) (ai (g_ff c39) (ai (g_ff c39) (ai (g_ff c39) (ai (g_tt l_t) (ai c38 (ai (g_tt l_t) (ai (g_ff c38) (ai (g_ff c38) (ai (g_ff c38) (ai (g_tt l_t) (ai c37 (ai (g_tt l_t) (ai (g_ff c37) (ai (SlE.len hv5) (ai (g_ff c37) (ai (g_ff c37) (ai (g_ff c37) (ai (g_ff c37) (ai (g_ff c37) (ai (g_tt l_t) (ai (g_tt l_t) (ai (g_tt l_t) (ai (g_tt l_t) (ai c31 (ai (g_ft c31) (ai (g_ft c31) (ai (g_ft c31) (ai (At.agg (P := Try.prog) (t := 77) (v := .agg #[.int .i64 y30.1, .int .i64 y30.2]) (m := 2) at30 (by kernel_rfl) (by kernel_rfl) 0 (by kernel_rfl) rfl) (ai ix30 (ai c29 trivial)))))))))))))))))))))))))))))))))) (hd := F46_d3) (h := by kernel_rfl)
            · intro hr
              obtain rfl := Option.some.inj hr
              show AWp Try.prog _ (Ends1 .normal (F46_h3 h x1 x2 x3 v4 v5 l6 v6 (IntKind.i64.wrap (a28 + 1)))) _
              exact pEnd_sound good (L := F46_L) (D := F46_D) (its := [.g, (.b true), (.ix id30 off30 g30), (.ld (.agg #[.int .i64 y30.1, .int .i64 y30.2])), .g, .g, .g, .g, .g, .g, .n, .n, .n, (.p false), .g, .g, .g, .g, (.w .g), (.w .g), (.w .g), (.w .g), (.w .g), (.w .g), (.w .g), (.w .g), (.w (.ln l5.length)), (.w .g), (.w (.p false)), (.w .g), (.w .g), (.w .g), (.w .g), (.w (.p false)), (.w .g), (.w .g), (.w .g), (.w .g), (.w (.p false)), .g, (.b false), .g, .g]) (ds := F46_m3_1) (ks := [8]) (e := .normal) (s2 := (F46_h3 h x1 x2 x3 v4 v5 l6 v6 (IntKind.i64.wrap (a28 + 1)))) (hC := (ai c40 (ai c39 (ai (g_tt l_t) (ai (g_ff c39) (ai (g_ff c39) (ai (g_ff c39) (ai (g_tt l_t) (ai c38 (ai (g_tt l_t) (ai (g_ff c38) (ai (g_ff c38) (ai (g_ff c38) (ai (g_tt l_t) (ai c37 (ai (g_tt l_t) (ai (g_ff c37) (ai (SlE.len hv5) (ai (g_ff c37) (ai (g_ff c37) (ai (g_ff c37) (ai (g_ff c37) (ai (g_ff c37) (ai (g_tt l_t) (ai (g_tt l_t) (ai (g_tt l_t) (ai (g_tt l_t) (ai c31 (ai (g_ft c31) (ai (g_ft c31) (ai (g_ft c31) (ai (At.agg (P := Try.prog) (t := 77) (v := .agg #[.int .i64 y30.1, .int .i64 y30.2]) (m := 2) at30 (by kernel_rfl) (by kernel_rfl) 0 (by kernel_rfl) rfl) (ai ix30 (ai c29 trivial)))))))))))))))))))))))))))))))))) (hd := F46_d3) (h := by kernel_rfl)
  · intro hr
    obtain rfl := Option.some.inj hr
    show AWp Try.prog _ (Ends1 ((F46_x3 h x1 x2 x3 v4 v5 v6) (1 : Nat)).1 ((F46_x3 h x1 x2 x3 v4 v5 v6) (1 : Nat)).2) _
    exact pEnd_sound good (L := F46_L) (D := F46_D) (its := [.g, (.b false)]) (ds := F46_m3_2) (ks := []) (e := ((F46_x3 h x1 x2 x3 v4 v5 v6) (1 : Nat)).1) (s2 := ((F46_x3 h x1 x2 x3 v4 v5 v6) (1 : Nat)).2) (hC := (ai c29 trivial)) (hd := F46_d3) (h := by kernel_rfl)
theorem F46_l3_0 (h : AHeap) (x1 : Int) (x2 : Int) (x3 : Bool) (v4 : Hd) (l5 : List (Int × Int × Int × Int)) (v5 : Hd) (hv5 : SlE E79 4 h (sv v5) l5) (l6 : List (Int × Int)) (v6 : Hd) (hv6 : SlE E77 2 h (sv v6) l6) (x : Int) (r : Nat) (hl : loopO (fun (s : Int) => F46_s3 l5 l6 s) x = some r) (q0 : Nat.beq r 0 = true) : AWp Try.prog (.loop (codeOf Try.prog 46 [1, 1, 1, 1, 0, 1, 0, 0])) (Ends1 .ret (F46_x3_0 h x1 x2 x3 v4 v5 v6 r)) ((fun (s : Int) => (F46_h3 h x1 x2 x3 v4 v5 l6 v6 s)) x) := by
  have k := loop_fun (P := Try.prog) (c := (codeOf Try.prog 46 [1, 1, 1, 1, 0, 1, 0, 0])) (step := (fun (s : Int) => F46_s3 l5 l6 s)) (hd := (fun (s : Int) => (F46_h3 h x1 x2 x3 v4 v5 l6 v6 s))) (X := (F46_x3 h x1 x2 x3 v4 v5 v6)) (by intro t; unfold F46_x3; cases Nat.beq t 0 <;> (intro h; cases h)) (fun x => F46_r3 h x1 x2 x3 v4 l5 v5 hv5 l6 v6 hv6 x) hl
  simp only [F46_x3, q0, cond_true, cond_false] at k
  exact k
theorem F46_l3_1 (h : AHeap) (x1 : Int) (x2 : Int) (x3 : Bool) (v4 : Hd) (l5 : List (Int × Int × Int × Int)) (v5 : Hd) (hv5 : SlE E79 4 h (sv v5) l5) (l6 : List (Int × Int)) (v6 : Hd) (hv6 : SlE E77 2 h (sv v6) l6) (x : Int) (r : Nat) (hl : loopO (fun (s : Int) => F46_s3 l5 l6 s) x = some r) (q0 : Nat.beq r 0 = false) : AWp Try.prog (.loop (codeOf Try.prog 46 [1, 1, 1, 1, 0, 1, 0, 0])) (Ends1 (.exit 4) (F46_x3_1 h x1 x2 x3 v4 v5 v6 r)) ((fun (s : Int) => (F46_h3 h x1 x2 x3 v4 v5 l6 v6 s)) x) := by
  have k := loop_fun (P := Try.prog) (c := (codeOf Try.prog 46 [1, 1, 1, 1, 0, 1, 0, 0])) (step := (fun (s : Int) => F46_s3 l5 l6 s)) (hd := (fun (s : Int) => (F46_h3 h x1 x2 x3 v4 v5 l6 v6 s))) (X := (F46_x3 h x1 x2 x3 v4 v5 v6)) (by intro t; unfold F46_x3; cases Nat.beq t 0 <;> (intro h; cases h)) (fun x => F46_r3 h x1 x2 x3 v4 l5 v5 hv5 l6 v6 hv6 x) hl
  simp only [F46_x3, q0, cond_true, cond_false] at k
  exact k
def F46 (x1 : Int) (x2 : Int) (x3 : Bool) (l4 : List (Int × Int × Int × Int)) (l5 : List (Int × Int × Int × Int)) (l6 : List (Int × Int)) : Option (Bool) :=
  (bif decide (x1 < 0) then
   some (false)
  else
   (bif decide (x1 > 4096) then
    some (false)
   else
    (bif decide (x2 < 0) then
     some (false)
    else
     (bif decide (x2 > 4094) then
      some (false)
     else
      (bif ((l6.length : Int) != x1) then
       some (false)
      else
       (Option.bind (loopO (fun (s : Int) => F46_s1 x1 x2 x3 l4 l5 l6 s) 0) fun y17 =>
       (bif (Nat.beq y17 0) then
        some (false)
       else
        (Option.bind (loopO (fun (s : Int) => F46_s2 l5 s) 0) fun y26 =>
        (bif (Nat.beq y26 0) then
         some (false)
        else
         (Option.bind (loopO (fun (s : Int) => F46_s3 l5 l6 s) 0) fun y41 =>
         (bif (Nat.beq y41 0) then
          some (false)
         else
          (Option.bind (F70 x1 x2 x3 l4 l5 l6) fun y43 =>
          some (y43)))))))))))))
set_option maxRecDepth 100000 in
theorem F46_spec (x1 : Int) (x2 : Int) (x3 : Bool) (l4 : List (Int × Int × Int × Int)) (l5 : List (Int × Int × Int × Int)) (l6 : List (Int × Int)) (v4 : Hd) (v5 : Hd) (v6 : Hd) (h : AHeap) (hv4 : SlE E37 4 h (sv v4) l4) (hv5 : SlE E79 4 h (sv v5) l5) (hv6 : SlE E77 2 h (sv v6) l6) (r : Bool) : F46 x1 x2 x3 l4 l5 l6 = some r → ACalls Try.prog 46 [.agg #[.int .i64 x1, .int .i64 x2, .bool x3, (sv v4), (sv v5), (sv v6)]] h (fun v' h'' => v' = (.bool r : Value) ∧ h'' = h) := by
  unfold F46
  refine dec_bif (fun c7 => ?_) (fun c7 => ?_)
  · intro hr
    obtain rfl := Option.some.inj hr
    exact pFun_sound good tab_ok (f := 46) (its := [.g, .g, .g, .g, .g, .g, .n, .n, .n, (.p true), .g, .n, .n, .n, .g, .g, .n, .n, .n, .g, .g, .n, .n, .n, .n, .n, .n, .g, (.b true), .g]) (args := [.agg #[.int .i64 x1, .int .i64 x2, .bool x3, (sv v4), (sv v5), (sv v6)]]) (h := h) (h' := h) (v := .bool false) (hC := (ai l_t (ai (g_tf l_t) (ai (g_tf l_t) (ai (g_tf l_t) (ai (g_tf l_t) (ai (g_tf l_t) (ai (g_tf l_t) (ai (g_tf l_t) (ai (g_tf l_t) (ai (g_tf l_t) (ai (g_tf l_t) (ai (g_tf l_t) (ai (g_tf l_t) (ai c7 (ai (g_tf c7) (ai (g_tf c7) (ai (g_tf c7) trivial)))))))))))))))))) (hr := by kernel_rfl)
  · refine dec_bif (fun c8 => ?_) (fun c8 => ?_)
    · intro hr
      obtain rfl := Option.some.inj hr
      exact pFun_sound good tab_ok (f := 46) (its := [.g, .g, .g, .g, .g, .g, (.w .g), (.w .g), (.w .g), (.p false), .g, .n, .n, .n, (.p true), .g, .n, .n, .n, .g, .g, .n, .n, .n, .n, .n, .n, .g, (.b true), .g]) (args := [.agg #[.int .i64 x1, .int .i64 x2, .bool x3, (sv v4), (sv v5), (sv v6)]]) (h := h) (h' := h) (v := .bool false) (hC := (ai l_t (ai (g_tf l_t) (ai (g_tf l_t) (ai (g_tf l_t) (ai (g_tf l_t) (ai (g_tf l_t) (ai (g_tf l_t) (ai (g_tf l_t) (ai (g_tf l_t) (ai (g_tf l_t) (ai c8 (ai (g_tf c8) (ai (g_tf c8) (ai (g_tf c8) (ai c7 (ai (g_ff c7) (ai (g_ff c7) (ai (g_ff c7) trivial))))))))))))))))))) (hr := by kernel_rfl)
    · refine dec_bif (fun c9 => ?_) (fun c9 => ?_)
      · intro hr
        obtain rfl := Option.some.inj hr
        exact pFun_sound good tab_ok (f := 46) (its := [.g, .g, .g, .g, .g, .g, (.w .g), (.w .g), (.w .g), (.p false), .g, (.w .g), (.w .g), (.w .g), (.p false), .g, .n, .n, .n, (.p true), .g, .n, .n, .n, .n, .n, .n, .g, (.b true), .g]) (args := [.agg #[.int .i64 x1, .int .i64 x2, .bool x3, (sv v4), (sv v5), (sv v6)]]) (h := h) (h' := h) (v := .bool false) (hC := (ai l_t (ai (g_tf l_t) (ai (g_tf l_t) (ai (g_tf l_t) (ai (g_tf l_t) (ai (g_tf l_t) (ai (g_tf l_t) (ai c9 (ai (g_tf c9) (ai (g_tf c9) (ai (g_tf c9) (ai c8 (ai (g_ff c8) (ai (g_ff c8) (ai (g_ff c8) (ai c7 (ai (g_ff c7) (ai (g_ff c7) (ai (g_ff c7) trivial)))))))))))))))))))) (hr := by kernel_rfl)
      · refine dec_bif (fun c10 => ?_) (fun c10 => ?_)
        · intro hr
          obtain rfl := Option.some.inj hr
          exact pFun_sound good tab_ok (f := 46) (its := [.g, .g, .g, .g, .g, .g, (.w .g), (.w .g), (.w .g), (.p false), .g, (.w .g), (.w .g), (.w .g), (.p false), .g, (.w .g), (.w .g), (.w .g), (.p false), .g, .n, .n, .n, .n, .n, .n, (.p true), (.b true), .g]) (args := [.agg #[.int .i64 x1, .int .i64 x2, .bool x3, (sv v4), (sv v5), (sv v6)]]) (h := h) (h' := h) (v := .bool false) (hC := (ai l_t (ai c10 (ai (g_tf c10) (ai (g_tf c10) (ai (g_tf c10) (ai (g_tf c10) (ai (g_tf c10) (ai (g_tf c10) (ai c9 (ai (g_ff c9) (ai (g_ff c9) (ai (g_ff c9) (ai c8 (ai (g_ff c8) (ai (g_ff c8) (ai (g_ff c8) (ai c7 (ai (g_ff c7) (ai (g_ff c7) (ai (g_ff c7) trivial))))))))))))))))))))) (hr := by kernel_rfl)
        · refine dec_bif (fun c11 => ?_) (fun c11 => ?_)
          · intro hr
            obtain rfl := Option.some.inj hr
            exact pFun_sound good tab_ok (f := 46) (its := [.g, .g, .g, .g, .g, .g, (.w .g), (.w .g), (.w .g), (.p false), .g, (.w .g), (.w .g), (.w .g), (.p false), .g, (.w .g), (.w .g), (.w .g), (.p false), .g, (.w .g), (.w .g), (.w (.ln l6.length)), (.w .g), (.w .g), (.w .g), (.p false), (.b true), .g]) (args := [.agg #[.int .i64 x1, .int .i64 x2, .bool x3, (sv v4), (sv v5), (sv v6)]]) (h := h) (h' := h) (v := .bool false) (hC := (ai c11 (ai c10 (ai (g_ff c10) (ai (g_ff c10) (ai (g_ff c10) (ai (SlE.len hv6) (ai (g_ff c10) (ai (g_ff c10) (ai (g_ff c10) (ai c9 (ai (g_ff c9) (ai (g_ff c9) (ai (g_ff c9) (ai c8 (ai (g_ff c8) (ai (g_ff c8) (ai (g_ff c8) (ai c7 (ai (g_ff c7) (ai (g_ff c7) (ai (g_ff c7) trivial)))))))))))))))))))))) (hr := by kernel_rfl)
          · refine bind_opt fun y17 e17 => ?_
            refine dec_bif (fun c18 => ?_) (fun c18 => ?_)
            · intro hr
              obtain rfl := Option.some.inj hr
              exact pFun_sound good tab_ok (f := 46) (its := [.g, .g, .g, .g, .g, .g, (.w .g), (.w .g), (.w .g), (.p false), .g, (.w .g), (.w .g), (.w .g), (.p false), .g, (.w .g), (.w .g), (.w .g), (.p false), .g, (.w .g), (.w .g), (.w (.ln l6.length)), (.w .g), (.w .g), (.w .g), (.p false), (.b false), .g, .g, (.ln l4.length), .g, (.l F46_m1_1 [] .ret (F46_x1_0 h x1 x2 x3 v4 v5 v6 y17))]) (args := [.agg #[.int .i64 x1, .int .i64 x2, .bool x3, (sv v4), (sv v5), (sv v6)]]) (h := h) (h' := h) (v := .bool false) (hC := (ai (F46_l1_0 h x1 x2 x3 l4 v4 hv4 l5 v5 hv5 l6 v6 hv6 0 y17 e17 c18) (ai (SlE.len hv4) (ai c11 (ai c10 (ai (g_ff c10) (ai (g_ff c10) (ai (g_ff c10) (ai (SlE.len hv6) (ai (g_ff c10) (ai (g_ff c10) (ai (g_ff c10) (ai c9 (ai (g_ff c9) (ai (g_ff c9) (ai (g_ff c9) (ai c8 (ai (g_ff c8) (ai (g_ff c8) (ai (g_ff c8) (ai c7 (ai (g_ff c7) (ai (g_ff c7) (ai (g_ff c7) trivial)))))))))))))))))))))))) (hr := by kernel_rfl)
            · refine bind_opt fun y26 e26 => ?_
              refine dec_bif (fun c27 => ?_) (fun c27 => ?_)
              · intro hr
                obtain rfl := Option.some.inj hr
                exact pFun_sound good tab_ok (f := 46) (its := [.g, .g, .g, .g, .g, .g, (.w .g), (.w .g), (.w .g), (.p false), .g, (.w .g), (.w .g), (.w .g), (.p false), .g, (.w .g), (.w .g), (.w .g), (.p false), .g, (.w .g), (.w .g), (.w (.ln l6.length)), (.w .g), (.w .g), (.w .g), (.p false), (.b false), .g, .g, (.ln l4.length), .g, (.l F46_m1_1 [] (.exit 0) (F46_x1_1 h x1 x2 x3 v4 v5 v6 y17)), .g, .g, (.ln l5.length), .g, (.l F46_m2_1 [] .ret (F46_x2_0 h x1 x2 x3 v4 v5 v6 y26))]) (args := [.agg #[.int .i64 x1, .int .i64 x2, .bool x3, (sv v4), (sv v5), (sv v6)]]) (h := h) (h' := h) (v := .bool false) (hC := (ai (F46_l2_0 h x1 x2 x3 v4 l5 v5 hv5 v6 0 y26 e26 c27) (ai (SlE.len hv5) (ai (F46_l1_1 h x1 x2 x3 l4 v4 hv4 l5 v5 hv5 l6 v6 hv6 0 y17 e17 c18) (ai (SlE.len hv4) (ai c11 (ai c10 (ai (g_ff c10) (ai (g_ff c10) (ai (g_ff c10) (ai (SlE.len hv6) (ai (g_ff c10) (ai (g_ff c10) (ai (g_ff c10) (ai c9 (ai (g_ff c9) (ai (g_ff c9) (ai (g_ff c9) (ai c8 (ai (g_ff c8) (ai (g_ff c8) (ai (g_ff c8) (ai c7 (ai (g_ff c7) (ai (g_ff c7) (ai (g_ff c7) trivial)))))))))))))))))))))))))) (hr := by kernel_rfl)
              · refine bind_opt fun y41 e41 => ?_
                refine dec_bif (fun c42 => ?_) (fun c42 => ?_)
                · intro hr
                  obtain rfl := Option.some.inj hr
                  exact pFun_sound good tab_ok (f := 46) (its := [.g, .g, .g, .g, .g, .g, (.w .g), (.w .g), (.w .g), (.p false), .g, (.w .g), (.w .g), (.w .g), (.p false), .g, (.w .g), (.w .g), (.w .g), (.p false), .g, (.w .g), (.w .g), (.w (.ln l6.length)), (.w .g), (.w .g), (.w .g), (.p false), (.b false), .g, .g, (.ln l4.length), .g, (.l F46_m1_1 [] (.exit 0) (F46_x1_1 h x1 x2 x3 v4 v5 v6 y17)), .g, .g, (.ln l5.length), .g, (.l F46_m2_1 [] (.exit 2) (F46_x2_1 h x1 x2 x3 v4 v5 v6 y26)), .g, .g, (.ln l6.length), .g, (.l F46_m3_1 [] .ret (F46_x3_0 h x1 x2 x3 v4 v5 v6 y41))]) (args := [.agg #[.int .i64 x1, .int .i64 x2, .bool x3, (sv v4), (sv v5), (sv v6)]]) (h := h) (h' := h) (v := .bool false) (hC := (ai (F46_l3_0 h x1 x2 x3 v4 l5 v5 hv5 l6 v6 hv6 0 y41 e41 c42) (ai (SlE.len hv6) (ai (F46_l2_1 h x1 x2 x3 v4 l5 v5 hv5 v6 0 y26 e26 c27) (ai (SlE.len hv5) (ai (F46_l1_1 h x1 x2 x3 l4 v4 hv4 l5 v5 hv5 l6 v6 hv6 0 y17 e17 c18) (ai (SlE.len hv4) (ai c11 (ai c10 (ai (g_ff c10) (ai (g_ff c10) (ai (g_ff c10) (ai (SlE.len hv6) (ai (g_ff c10) (ai (g_ff c10) (ai (g_ff c10) (ai c9 (ai (g_ff c9) (ai (g_ff c9) (ai (g_ff c9) (ai c8 (ai (g_ff c8) (ai (g_ff c8) (ai (g_ff c8) (ai c7 (ai (g_ff c7) (ai (g_ff c7) (ai (g_ff c7) trivial)))))))))))))))))))))))))))) (hr := by kernel_rfl)
                · refine bind_opt fun y43 e43 => ?_
                  intro hr
                  obtain rfl := Option.some.inj hr
                  exact pFun_sound good tab_ok (f := 46) (its := [.g, .g, .g, .g, .g, .g, (.w .g), (.w .g), (.w .g), (.p false), .g, (.w .g), (.w .g), (.w .g), (.p false), .g, (.w .g), (.w .g), (.w .g), (.p false), .g, (.w .g), (.w .g), (.w (.ln l6.length)), (.w .g), (.w .g), (.w .g), (.p false), (.b false), .g, .g, (.ln l4.length), .g, (.l F46_m1_1 [] (.exit 0) (F46_x1_1 h x1 x2 x3 v4 v5 v6 y17)), .g, .g, (.ln l5.length), .g, (.l F46_m2_1 [] (.exit 2) (F46_x2_1 h x1 x2 x3 v4 v5 v6 y26)), .g, .g, (.ln l6.length), .g, (.l F46_m3_1 [] (.exit 4) (F46_x3_1 h x1 x2 x3 v4 v5 v6 y41)), .g, (.c (.bool y43) h), .g]) (args := [.agg #[.int .i64 x1, .int .i64 x2, .bool x3, (sv v4), (sv v5), (sv v6)]]) (h := h) (h' := h) (v := .bool y43) (hC := (ai (F70_spec x1 x2 x3 l4 l5 l6 v4 v5 v6 h hv4 hv5 hv6 _ e43) (ai (F46_l3_1 h x1 x2 x3 v4 l5 v5 hv5 l6 v6 hv6 0 y41 e41 c42) (ai (SlE.len hv6) (ai (F46_l2_1 h x1 x2 x3 v4 l5 v5 hv5 v6 0 y26 e26 c27) (ai (SlE.len hv5) (ai (F46_l1_1 h x1 x2 x3 l4 v4 hv4 l5 v5 hv5 l6 v6 hv6 0 y17 e17 c18) (ai (SlE.len hv4) (ai c11 (ai c10 (ai (g_ff c10) (ai (g_ff c10) (ai (g_ff c10) (ai (SlE.len hv6) (ai (g_ff c10) (ai (g_ff c10) (ai (g_ff c10) (ai c9 (ai (g_ff c9) (ai (g_ff c9) (ai (g_ff c9) (ai c8 (ai (g_ff c8) (ai (g_ff c8) (ai (g_ff c8) (ai c7 (ai (g_ff c7) (ai (g_ff c7) (ai (g_ff c7) trivial))))))))))))))))))))))))))))) (hr := by kernel_rfl)
/-! 47 jacquard/schedcheck.Fits$1 -/
def F47 (x1 : Int) : Bool :=
  (bif decide (x1 < 0) then
   true
  else
   (decide (x1 > 4096)))
set_option maxRecDepth 100000 in
theorem F47_spec (x1 : Int) (h : AHeap)  (r : Bool) : F47 x1 = r → ACalls Try.prog 47 [.int .i64 x1] h (fun v' h'' => v' = (.bool r : Value) ∧ h'' = h) := by
  unfold F47
  refine dec_bif (fun c2 => ?_) (fun c2 => ?_)
  · intro hr
    subst hr
    exact pFun_sound good tab_ok (f := 47) (its := [.g, .g, .g, .g, .n, .n, (.p true), .g]) (args := [.int .i64 x1]) (h := h) (h' := h) (v := .bool true) (hC := (ai c2 (ai (g_tf c2) (ai (g_tf c2) trivial)))) (hr := by kernel_rfl)
  · intro hr
    subst hr
    exact pFun_sound good tab_ok (f := 47) (its := [.g, .g, .g, .g, (.w .g), (.w .g), (.p false), .g]) (args := [.int .i64 x1]) (h := h) (h' := h) (v := .bool (decide (x1 > 4096))) (hC := (ai c2 (ai (g_ff c2) (ai (g_ff c2) trivial)))) (hr := by kernel_rfl)
/-! 68 slices.IndexFunc[[]int,int] -/
def F68w47_L : List Nat := []
def F68w47_D : List (Nat × List (Nat × Nat)) := []
def F68w47_m1_2 : List Bool := [true, true, true, true, true, true, true, true, true, true, true, true, true, true, true, true, true, true, true]
def F68w47_m1_1 : List Bool := [false, false, true, true, true, true, true, false, false, true, true, true, true, true, true, true, true, true, true]
def F68w47_m1_0 : List Bool := [true, true, true, true, false, true, true, true, true, true, true, true, true, true, true, true, true, true, true]
def F68w47_s1 (l1 : List Int) (a2 : Int) : Option (Int ⊕ (Nat × Int)) :=
  (bif decide (a2 < (l1.length : Int)) then
   (Option.bind (at? l1 a2) fun y4 =>
   (bif (F47 y4) then
    some (.inr (0, a2))
   else
    some (.inl (IntKind.i64.wrap (a2 + 1)))))
  else
   some (.inr (1, 0)))
def F68w47_h1 (h : AHeap) (l1 : List Int) (v1 : Hd)  (a2 : Int) : AS := ⟨[(sv v1), .func (.func 47) #[] #[], junk, junk, junk, junk, junk, .int .i64 (l1.length : Int), .int .i64 a2, junk, junk, junk, junk, junk, junk, junk, junk, junk, junk], [], h⟩
theorem F68w47_d1 : drawsOk F68w47_D (codeOf Try.prog 68 [1, 0, 1, 0, 0]) = true := by kernel_rfl
def F68w47_x1_0 (h : AHeap)  (r : Nat × Int) : AS := ⟨[junk, junk, junk, junk, .int .i64 r.2, junk, junk, junk, junk, junk, junk, junk, junk, junk, junk, junk, junk, junk, junk], [], h⟩
def F68w47_x1_1 (h : AHeap)  (r : Nat × Int) : AS := ⟨[junk, junk, junk, junk, junk, junk, junk, junk, junk, junk, junk, junk, junk, junk, junk, junk, junk, junk, junk], [], h⟩
def F68w47_x1 (h : AHeap) (r : Nat × Int) : Exit × AS := (bif Nat.beq r.1 0 then (.ret, (F68w47_x1_0 h r)) else ((.exit 0), (F68w47_x1_1 h r)))
set_option maxRecDepth 100000 in
theorem F68w47_r1 (h : AHeap) (l1 : List Int) (v1 : Hd) (hv1 : SlE E3 1 h (sv v1) l1) (a2 : Int) (o : Int ⊕ (Nat × Int)) : F68w47_s1 l1 a2 = some o → RdF Try.prog (codeOf Try.prog 68 [1, 0, 1, 0, 0]) (fun (s : Int) => (F68w47_h1 h l1 v1 s)) (F68w47_x1 h) (F68w47_h1 h l1 v1 a2) o := by
  unfold F68w47_s1
  refine dec_bif (fun c3 => ?_) (fun c3 => ?_)
  · refine bind_opt fun y4 e4 => ?_
    obtain ⟨id4, off4, g4, cs4, ix4, at4, rfl⟩ := SlE.at hv1 e4
    refine dec_bif (fun c6 => ?_) (fun c6 => ?_)
    · intro hr
      obtain rfl := Option.some.inj hr
      show AWp Try.prog _ (Ends1 ((F68w47_x1 h) ((0, a2) : Nat × Int)).1 ((F68w47_x1 h) ((0, a2) : Nat × Int)).2) _
      exact pEnd_sound good (L := F68w47_L) (D := F68w47_D) (its := [.g, (.b true), .g, .g, .g, .g, .g, (.ix id4 off4 g4), (.ld (.int .i64 y4)), (.c (.bool (F47 y4)) h), (.b true), .g, .g]) (ds := F68w47_m1_0) (ks := []) (e := ((F68w47_x1 h) ((0, a2) : Nat × Int)).1) (s2 := ((F68w47_x1 h) ((0, a2) : Nat × Int)).2) (hC := (ai c6 (ai (F47_spec y4 h _ rfl) (ai (At.one (P := Try.prog) (t := 3) (v := .int .i64 y4) at4 (by kernel_rfl) 0 rfl rfl) (ai ix4 (ai c3 trivial)))))) (hd := F68w47_d1) (h := by kernel_rfl)
    · intro hr
      obtain rfl := Option.some.inj hr
      show AWp Try.prog _ (Ends1 .normal (F68w47_h1 h l1 v1 (IntKind.i64.wrap (a2 + 1)))) _
      exact pEnd_sound good (L := F68w47_L) (D := F68w47_D) (its := [.g, (.b true), .g, .g, .g, .g, .g, (.ix id4 off4 g4), (.ld (.int .i64 y4)), (.c (.bool (F47 y4)) h), (.b false), .g, .g]) (ds := F68w47_m1_1) (ks := []) (e := .normal) (s2 := (F68w47_h1 h l1 v1 (IntKind.i64.wrap (a2 + 1)))) (hC := (ai c6 (ai (F47_spec y4 h _ rfl) (ai (At.one (P := Try.prog) (t := 3) (v := .int .i64 y4) at4 (by kernel_rfl) 0 rfl rfl) (ai ix4 (ai c3 trivial)))))) (hd := F68w47_d1) (h := by kernel_rfl)
  · intro hr
    obtain rfl := Option.some.inj hr
    show AWp Try.prog _ (Ends1 ((F68w47_x1 h) ((1, 0) : Nat × Int)).1 ((F68w47_x1 h) ((1, 0) : Nat × Int)).2) _
    exact pEnd_sound good (L := F68w47_L) (D := F68w47_D) (its := [.g, (.b false)]) (ds := F68w47_m1_2) (ks := []) (e := ((F68w47_x1 h) ((1, 0) : Nat × Int)).1) (s2 := ((F68w47_x1 h) ((1, 0) : Nat × Int)).2) (hC := (ai c3 trivial)) (hd := F68w47_d1) (h := by kernel_rfl)
theorem F68w47_l1_0 (h : AHeap) (l1 : List Int) (v1 : Hd) (hv1 : SlE E3 1 h (sv v1) l1) (x : Int) (r : Nat × Int) (hl : loopO (fun (s : Int) => F68w47_s1 l1 s) x = some r) (q0 : Nat.beq r.1 0 = true) : AWp Try.prog (.loop (codeOf Try.prog 68 [1, 0, 1, 0, 0])) (Ends1 .ret (F68w47_x1_0 h r)) ((fun (s : Int) => (F68w47_h1 h l1 v1 s)) x) := by
  have k := loop_fun (P := Try.prog) (c := (codeOf Try.prog 68 [1, 0, 1, 0, 0])) (step := (fun (s : Int) => F68w47_s1 l1 s)) (hd := (fun (s : Int) => (F68w47_h1 h l1 v1 s))) (X := (F68w47_x1 h)) (by intro t; unfold F68w47_x1; cases Nat.beq t.1 0 <;> (intro h; cases h)) (fun x => F68w47_r1 h l1 v1 hv1 x) hl
  simp only [F68w47_x1, q0, cond_true, cond_false] at k
  exact k
theorem F68w47_l1_1 (h : AHeap) (l1 : List Int) (v1 : Hd) (hv1 : SlE E3 1 h (sv v1) l1) (x : Int) (r : Nat × Int) (hl : loopO (fun (s : Int) => F68w47_s1 l1 s) x = some r) (q0 : Nat.beq r.1 0 = false) : AWp Try.prog (.loop (codeOf Try.prog 68 [1, 0, 1, 0, 0])) (Ends1 (.exit 0) (F68w47_x1_1 h r)) ((fun (s : Int) => (F68w47_h1 h l1 v1 s)) x) := by
  have k := loop_fun (P := Try.prog) (c := (codeOf Try.prog 68 [1, 0, 1, 0, 0])) (step := (fun (s : Int) => F68w47_s1 l1 s)) (hd := (fun (s : Int) => (F68w47_h1 h l1 v1 s))) (X := (F68w47_x1 h)) (by intro t; unfold F68w47_x1; cases Nat.beq t.1 0 <;> (intro h; cases h)) (fun x => F68w47_r1 h l1 v1 hv1 x) hl
  simp only [F68w47_x1, q0, cond_true, cond_false] at k
  exact k
def F68w47 (l1 : List Int) : Option (Int) :=
  (Option.bind (loopO (fun (s : Int) => F68w47_s1 l1 s) 0) fun y7 =>
  (bif (Nat.beq y7.1 0) then
   some (y7.2)
  else
   some (-1)))
set_option maxRecDepth 100000 in
theorem F68w47_spec (l1 : List Int) (v1 : Hd) (h : AHeap) (hv1 : SlE E3 1 h (sv v1) l1) (r : Int) : F68w47 l1 = some r → ACalls Try.prog 68 [(sv v1), .func (.func 47) #[] #[]] h (fun v' h'' => v' = (.int .i64 r : Value) ∧ h'' = h) := by
  unfold F68w47
  refine bind_opt fun y7 e7 => ?_
  refine dec_bif (fun c8 => ?_) (fun c8 => ?_)
  · intro hr
    obtain rfl := Option.some.inj hr
    exact pFun_sound good tab_ok (f := 68) (its := [.g, .g, (.ln l1.length), .g, (.l F68w47_m1_1 [] .ret (F68w47_x1_0 h y7))]) (args := [(sv v1), .func (.func 47) #[] #[]]) (h := h) (h' := h) (v := .int .i64 y7.2) (hC := (ai (F68w47_l1_0 h l1 v1 hv1 0 y7 e7 c8) (ai (SlE.len hv1) trivial))) (hr := by kernel_rfl)
  · intro hr
    obtain rfl := Option.some.inj hr
    exact pFun_sound good tab_ok (f := 68) (its := [.g, .g, (.ln l1.length), .g, (.l F68w47_m1_1 [] (.exit 0) (F68w47_x1_1 h y7)), .g]) (args := [(sv v1), .func (.func 47) #[] #[]]) (h := h) (h' := h) (v := .int .i64 (-1)) (hC := (ai (F68w47_l1_1 h l1 v1 hv1 0 y7 e7 c8) (ai (SlE.len hv1) trivial))) (hr := by kernel_rfl)
/-! 44 slices.ContainsFunc[[]int,int] -/
def F44w47 (l1 : List Int) : Option (Bool) :=
  (Option.bind (F68w47 l1) fun y2 =>
  some (decide (y2 ≥ 0)))
set_option maxRecDepth 100000 in
theorem F44w47_spec (l1 : List Int) (v1 : Hd) (h : AHeap) (hv1 : SlE E3 1 h (sv v1) l1) (r : Bool) : F44w47 l1 = some r → ACalls Try.prog 44 [(sv v1), .func (.func 47) #[] #[]] h (fun v' h'' => v' = (.bool r : Value) ∧ h'' = h) := by
  unfold F44w47
  refine bind_opt fun y2 e2 => ?_
  intro hr
  obtain rfl := Option.some.inj hr
  exact pFun_sound good tab_ok (f := 44) (its := [.g, .g, .g, (.c (.int .i64 y2) h), .g, .g]) (args := [(sv v1), .func (.func 47) #[] #[]]) (h := h) (h' := h) (v := .bool (decide (y2 ≥ 0))) (hC := (ai (F68w47_spec l1 v1 h hv1 _ e2) trivial)) (hr := by kernel_rfl)
/-! 22 jacquard/schedcheck.Fits -/
def F22_L : List Nat := [2, 3, 7]
def F22_D : List (Nat × List (Nat × Nat)) := [(11, [(0, 2), (1, 2), (2, 2), (3, 2), (4, 2), (5, 2), (6, 2), (7, 2), (8, 2), (9, 2), (10, 2), (11, 2), (12, 2), (13, 2), (14, 2), (15, 2), (16, 2), (17, 2), (18, 2), (19, 2), (20, 2), (21, 2), (22, 2), (23, 2), (24, 2), (25, 2), (26, 2), (27, 2), (28, 2), (29, 2), (30, 2), (31, 2), (32, 2), (33, 2), (34, 2), (35, 2), (36, 2), (37, 2), (38, 2)])]
def F22_m1_2 : List Bool := [true, true, true, true, true, true, true, true, true, true, true, true, true, true, true, true, true, true, true, true, true, true, true, true, true, true, true, true, true, true, true, true, true, true, true, true, true, true, true, true, true, true, true, true, true, true, true, true, true, true, true, true, true, true, true, true, true, true, true, true, true, true, true, true, true, true, true, true, true, true, true, true, true, true, true, true, true, true, true, true, true, true, true, true, true, true, true, true, true, true, true, true, true, true, true, true, true, true, true, true, true, true, true, true, true, true, true, true, true, true, true, true, true, true, true, true, true, true, true]
def F22_m1_1 : List Bool := [true, true, false, false, true, true, true, true, true, true, true, true, true, true, true, true, true, true, true, true, true, true, true, true, true, true, true, true, true, true, true, true, true, true, true, true, true, true, true, true, true, true, true, true, true, true, true, true, true, true, true, true, true, true, true, true, true, true, true, true, true, true, true, true, true, true, true, true, true, true, true, true, false, false, false, true, true, true, true, true, true, true, true, true, true, true, true, true, true, true, true, true, true, true, true, true, true, true, true, true, true, true, true, true, true, true, true, true, true, true, true, true, true, true, true, true, true, true, true]
def F22_m1_0 : List Bool := [true, true, true, true, false, true, true, true, true, true, true, true, true, true, true, true, true, true, true, true, true, true, true, true, true, true, true, true, true, true, true, true, true, true, true, true, true, true, true, true, true, true, true, true, true, true, true, true, true, true, true, true, true, true, true, true, true, true, true, true, true, true, true, true, true, true, true, true, true, true, true, true, true, true, true, true, true, true, true, true, true, true, true, true, true, true, true, true, true, true, true, true, true, true, true, true, true, true, true, true, true, true, true, true, true, true, true, true, true, true, true, true, true, true, true, true, true, true, true]
def F22_s1 (l5 : List (Int × Int × Int × Int)) (l6 : List (Int × Int)) (l11 : List Int) (a29 : Int) : Option (Int ⊕ Nat) :=
  (bif decide (a29 < (l6.length : Int)) then
   (Option.bind (at? l6 a29) fun y31 =>
   (bif decide (y31.1 < 0) then
    (Option.bind (at? l11 a29) fun y33 =>
    (bif (y33 != (-1)) then
     some (.inr 0)
    else
     (bif decide (y31.1 ≥ 0) then
      (bif decide (y33 < 0) then
       some (.inr 0)
      else
       (Option.bind (at? l5 y31.1) fun y37 =>
       (bif decide (y33 ≥ y37.2.2.2) then
        some (.inr 0)
       else
        some (.inl (IntKind.i64.wrap (a29 + 1))))))
     else
      some (.inl (IntKind.i64.wrap (a29 + 1))))))
   else
    (bif decide (y31.1 ≥ 0) then
     (Option.bind (at? l11 a29) fun y40 =>
     (bif decide (y40 < 0) then
      some (.inr 0)
     else
      (Option.bind (at? l5 y31.1) fun y42 =>
      (bif decide (y40 ≥ y42.2.2.2) then
       some (.inr 0)
      else
       some (.inl (IntKind.i64.wrap (a29 + 1)))))))
    else
     some (.inl (IntKind.i64.wrap (a29 + 1))))))
  else
   some (.inr 1))
def F22_h1 (h : AHeap) (x1 : Int) (x2 : Int) (x3 : Bool) (v4 : Hd) (v5 : Hd) (l6 : List (Int × Int)) (v6 : Hd) (x7 : Int) (x8 : Int) (v9 : Hd) (v10 : Hd) (v11 : Hd)  (a29 : Int) : AS := ⟨[junk, junk, .pointer (some ⟨2, 0, none⟩), .pointer (some ⟨3, 0, none⟩), junk, junk, junk, junk, junk, junk, junk, junk, junk, junk, junk, junk, junk, junk, junk, junk, junk, junk, junk, junk, junk, junk, junk, junk, junk, junk, junk, junk, junk, junk, junk, junk, junk, junk, junk, junk, junk, junk, junk, junk, junk, junk, junk, junk, junk, junk, junk, junk, junk, junk, junk, junk, junk, junk, junk, junk, junk, junk, junk, junk, junk, junk, junk, junk, junk, junk, junk, junk, (sv v6), .int .i64 (l6.length : Int), .int .i64 a29, junk, junk, junk, junk, junk, junk, junk, junk, junk, junk, junk, junk, junk, junk, junk, junk, junk, junk, junk, junk, junk, junk, junk, junk, junk, junk, junk, junk, junk, junk, junk, junk, junk, junk, junk, junk, junk, junk, junk, junk, junk, junk, junk, junk], [(2, [.int .i64 x1, .int .i64 x2, .bool x3, (sv v4), (sv v5), (sv v6)]), (3, [.int .i64 x7, .int .i64 x8, (sv v9), (sv v10), (sv v11)])], h⟩
theorem F22_d1 : drawsOk F22_D (codeOf Try.prog 22 [1, 1, 1, 1, 1, 0, 1, 0, 0]) = true := by kernel_rfl
def F22_x1_0 (h : AHeap)  (r : Nat) : AS := ⟨[junk, junk, junk, junk, .bool false, junk, junk, junk, junk, junk, junk, junk, junk, junk, junk, junk, junk, junk, junk, junk, junk, junk, junk, junk, junk, junk, junk, junk, junk, junk, junk, junk, junk, junk, junk, junk, junk, junk, junk, junk, junk, junk, junk, junk, junk, junk, junk, junk, junk, junk, junk, junk, junk, junk, junk, junk, junk, junk, junk, junk, junk, junk, junk, junk, junk, junk, junk, junk, junk, junk, junk, junk, junk, junk, junk, junk, junk, junk, junk, junk, junk, junk, junk, junk, junk, junk, junk, junk, junk, junk, junk, junk, junk, junk, junk, junk, junk, junk, junk, junk, junk, junk, junk, junk, junk, junk, junk, junk, junk, junk, junk, junk, junk, junk, junk, junk, junk, junk, junk], [], h⟩
def F22_x1_1 (h : AHeap)  (r : Nat) : AS := ⟨[junk, junk, junk, junk, junk, junk, junk, junk, junk, junk, junk, junk, junk, junk, junk, junk, junk, junk, junk, junk, junk, junk, junk, junk, junk, junk, junk, junk, junk, junk, junk, junk, junk, junk, junk, junk, junk, junk, junk, junk, junk, junk, junk, junk, junk, junk, junk, junk, junk, junk, junk, junk, junk, junk, junk, junk, junk, junk, junk, junk, junk, junk, junk, junk, junk, junk, junk, junk, junk, junk, junk, junk, junk, junk, junk, junk, junk, junk, junk, junk, junk, junk, junk, junk, junk, junk, junk, junk, junk, junk, junk, junk, junk, junk, junk, junk, junk, junk, junk, junk, junk, junk, junk, junk, junk, junk, junk, junk, junk, junk, junk, junk, junk, junk, junk, junk, junk, junk, junk], [], h⟩
def F22_x1 (h : AHeap) (r : Nat) : Exit × AS := (bif Nat.beq r 0 then (.ret, (F22_x1_0 h r)) else ((.exit 0), (F22_x1_1 h r)))
set_option maxRecDepth 100000 in
theorem F22_r1 (h : AHeap) (x1 : Int) (x2 : Int) (x3 : Bool) (v4 : Hd) (l5 : List (Int × Int × Int × Int)) (v5 : Hd) (hv5 : SlE E79 4 h (sv v5) l5) (l6 : List (Int × Int)) (v6 : Hd) (hv6 : SlE E77 2 h (sv v6) l6) (x7 : Int) (x8 : Int) (v9 : Hd) (v10 : Hd) (l11 : List Int) (v11 : Hd) (hv11 : SlE E3 1 h (sv v11) l11) (a29 : Int) (o : Int ⊕ Nat) : F22_s1 l5 l6 l11 a29 = some o → RdF Try.prog (codeOf Try.prog 22 [1, 1, 1, 1, 1, 0, 1, 0, 0]) (fun (s : Int) => (F22_h1 h x1 x2 x3 v4 v5 l6 v6 x7 x8 v9 v10 v11 s)) (F22_x1 h) (F22_h1 h x1 x2 x3 v4 v5 l6 v6 x7 x8 v9 v10 v11 a29) o := by
  unfold F22_s1
  refine dec_bif (fun c30 => ?_) (fun c30 => ?_)
  · refine bind_opt fun y31 e31 => ?_
    obtain ⟨id31, off31, g31, cs31, ix31, at31, rfl⟩ := SlE.at hv6 e31
    refine dec_bif (fun c32 => ?_) (fun c32 => ?_)
    · refine bind_opt fun y33 e33 => ?_
      obtain ⟨id33, off33, g33, cs33, ix33, at33, rfl⟩ := SlE.at hv11 e33
      refine dec_bif (fun c34 => ?_) (fun c34 => ?_)
      · intro hr
        obtain rfl := Option.some.inj hr
        show AWp Try.prog _ (Ends1 ((F22_x1 h) (0 : Nat)).1 ((F22_x1 h) (0 : Nat)).2) _
        exact pEnd_sound good (L := F22_L) (D := F22_D) (its := [.g, (.b true), .g, (.ix id31 off31 g31), (.ld (.agg #[.int .i64 y31.1, .int .i64 y31.2])), .g, .g, .g, .g, .g, .g, .g, (.w .g), (.w .g), (.w .g), (.w (.ix id33 off33 g33)), (.w (.ld (.int .i64 y33))), (.w .g), (.p true), .g, .n, .n, .n, .n, .n, .n, .n, .n, .n, .n, .n, .n, .n, .n, .n, .n, .n, .n, .n, .n, .n, .n, .n, .n, .n, .n, (.p true), (.b true), .g]) (ds := F22_m1_0) (ks := [2, 3, 7]) (e := ((F22_x1 h) (0 : Nat)).1) (s2 := ((F22_x1 h) (0 : Nat)).2) (hC := (ai l_t (ai c34 (ai (g_tf c34) (ai l_f (ai l_f (ai l_f (ai l_f (ai l_f (ai l_f (ai l_f (ai l_f (ai l_f (ai l_f (ai l_f (ai l_f (ai l_f (ai l_f (ai l_f (ai l_f (ai l_f (ai l_f (ai l_f (ai l_f (ai l_f (ai (g_tf c34) (ai (g_tf c34) (ai (g_tf c34) (ai (g_tf c34) (ai c32 (ai (g_tt c32) (ai (At.one (P := Try.prog) (t := 3) (v := .int .i64 y33) at33 (by kernel_rfl) 0 rfl rfl) (ai (g_tt c32) (ai ix33 (ai (g_tt c32) (ai (g_tt c32) (ai (g_tt c32) (ai (g_tt c32) (ai (At.agg (P := Try.prog) (t := 77) (v := .agg #[.int .i64 y31.1, .int .i64 y31.2]) (m := 2) at31 (by kernel_rfl) (by kernel_rfl) 0 (by kernel_rfl) rfl) (ai ix31 (ai c30 trivial))))))))))))))))))))))))))))))))))))))))) (hd := F22_d1) (h := by kernel_rfl)
      · refine dec_bif (fun c35 => ?_) (fun c35 => ?_)
        · refine dec_bif (fun c36 => ?_) (fun c36 => ?_)
          · intro hr
            obtain rfl := Option.some.inj hr
            show AWp Try.prog _ (Ends1 ((F22_x1 h) (0 : Nat)).1 ((F22_x1 h) (0 : Nat)).2) _
            exact pEnd_sound good (L := F22_L) (D := F22_D) (its := [.g, (.b true), .g, (.ix id31 off31 g31), (.ld (.agg #[.int .i64 y31.1, .int .i64 y31.2])), .g, .g, .g, .g, .g, .g, .g, (.w .g), (.w .g), (.w .g), (.w (.ix id33 off33 g33)), (.w (.ld (.int .i64 y33))), (.w .g), (.p true), .g, (.w .g), (.w .g), (.w .g), (.w .g), (.w .g), (.w .g), (.w .g), (.w (.ix id33 off33 g33)), (.w (.ld (.int .i64 y33))), (.w .g), (.w .g), .n, .n, .n, .n, .n, .n, .n, .n, .n, .n, .n, .n, .n, (.w (.p true)), (.w (.p true)), (.p false), (.b true), .g]) (ds := F22_m1_0) (ks := [2, 3, 7]) (e := ((F22_x1 h) (0 : Nat)).1) (s2 := ((F22_x1 h) (0 : Nat)).2) (hC := (ai l_t (ai c34 (ai c35 (ai (g_ff c34) (ai c36 (ai (g_tt c35) (ai (g_tf c36) (ai (g_tf c36) (ai (g_tf c36) (ai (g_tf c36) (ai (g_tf c36) (ai (g_tf c36) (ai (g_tf c36) (ai (g_tf c36) (ai (g_tf c36) (ai (g_tf c36) (ai (g_tf c36) (ai (g_tf c36) (ai (g_tf c36) (ai (g_tt c35) (ai (g_tt c35) (ai (At.one (P := Try.prog) (t := 3) (v := .int .i64 y33) at33 (by kernel_rfl) 0 rfl rfl) (ai (g_tt c35) (ai ix33 (ai (g_tt c35) (ai (g_tt c35) (ai (g_tt c35) (ai (g_tt c35) (ai (g_ff c34) (ai (g_ff c34) (ai (g_ff c34) (ai (g_ff c34) (ai c32 (ai (g_tt c32) (ai (At.one (P := Try.prog) (t := 3) (v := .int .i64 y33) at33 (by kernel_rfl) 0 rfl rfl) (ai (g_tt c32) (ai ix33 (ai (g_tt c32) (ai (g_tt c32) (ai (g_tt c32) (ai (g_tt c32) (ai (At.agg (P := Try.prog) (t := 77) (v := .agg #[.int .i64 y31.1, .int .i64 y31.2]) (m := 2) at31 (by kernel_rfl) (by kernel_rfl) 0 (by kernel_rfl) rfl) (ai ix31 (ai c30 trivial))))))))))))))))))))))))))))))))))))))))))))) (hd := F22_d1) (h := by kernel_rfl)
          · refine bind_opt fun y37 e37 => ?_
            obtain ⟨id37, off37, g37, cs37, ix37, at37, rfl⟩ := SlE.at hv5 e37
            refine dec_bif (fun c38 => ?_) (fun c38 => ?_)
            · intro hr
              obtain rfl := Option.some.inj hr
              show AWp Try.prog _ (Ends1 ((F22_x1 h) (0 : Nat)).1 ((F22_x1 h) (0 : Nat)).2) _
              exact pEnd_sound good (L := F22_L) (D := F22_D) (its := [.g, (.b true), .g, (.ix id31 off31 g31), (.ld (.agg #[.int .i64 y31.1, .int .i64 y31.2])), .g, .g, .g, .g, .g, .g, .g, (.w .g), (.w .g), (.w .g), (.w (.ix id33 off33 g33)), (.w (.ld (.int .i64 y33))), (.w .g), (.p true), .g, (.w .g), (.w .g), (.w .g), (.w .g), (.w .g), (.w .g), (.w .g), (.w (.ix id33 off33 g33)), (.w (.ld (.int .i64 y33))), (.w .g), (.w .g), (.w .g), (.w .g), (.w .g), (.w (.ix id33 off33 g33)), (.w (.ld (.int .i64 y33))), (.w .g), (.w .g), (.w .g), (.w .g), (.w (.ix id37 off37 g37)), (.w .g), (.w (.ld (.int .i64 y37.2.2.2))), (.w .g), (.w (.p false)), (.w (.p true)), (.p false), (.b true), .g]) (ds := F22_m1_0) (ks := [2, 3, 7]) (e := ((F22_x1 h) (0 : Nat)).1) (s2 := ((F22_x1 h) (0 : Nat)).2) (hC := (ai c38 (ai c34 (ai c35 (ai (g_ff c34) (ai c36 (ai (g_tt c35) (ai (g_ff c36) (ai (At.one (P := Try.prog) (t := 3) (v := .int .i64 y37.2.2.2) at37 (by kernel_rfl) 3 rfl rfl) (ai (g_ff c36) (ai (g_ff c36) (ai ix37 (ai (g_ff c36) (ai (g_ff c36) (ai (g_ff c36) (ai (g_ff c36) (ai (g_ff c36) (ai (At.one (P := Try.prog) (t := 3) (v := .int .i64 y33) at33 (by kernel_rfl) 0 rfl rfl) (ai (g_ff c36) (ai ix33 (ai (g_ff c36) (ai (g_ff c36) (ai (g_ff c36) (ai (g_ff c36) (ai (g_tt c35) (ai (g_tt c35) (ai (At.one (P := Try.prog) (t := 3) (v := .int .i64 y33) at33 (by kernel_rfl) 0 rfl rfl) (ai (g_tt c35) (ai ix33 (ai (g_tt c35) (ai (g_tt c35) (ai (g_tt c35) (ai (g_tt c35) (ai (g_ff c34) (ai (g_ff c34) (ai (g_ff c34) (ai (g_ff c34) (ai c32 (ai (g_tt c32) (ai (At.one (P := Try.prog) (t := 3) (v := .int .i64 y33) at33 (by kernel_rfl) 0 rfl rfl) (ai (g_tt c32) (ai ix33 (ai (g_tt c32) (ai (g_tt c32) (ai (g_tt c32) (ai (g_tt c32) (ai (At.agg (P := Try.prog) (t := 77) (v := .agg #[.int .i64 y31.1, .int .i64 y31.2]) (m := 2) at31 (by kernel_rfl) (by kernel_rfl) 0 (by kernel_rfl) rfl) (ai ix31 (ai c30 trivial))))))))))))))))))))))))))))))))))))))))))))))))) (hd := F22_d1) (h := by kernel_rfl)
            · intro hr
              obtain rfl := Option.some.inj hr
              show AWp Try.prog _ (Ends1 .normal (F22_h1 h x1 x2 x3 v4 v5 l6 v6 x7 x8 v9 v10 v11 (IntKind.i64.wrap (a29 + 1)))) _
              exact pEnd_sound good (L := F22_L) (D := F22_D) (its := [.g, (.b true), .g, (.ix id31 off31 g31), (.ld (.agg #[.int .i64 y31.1, .int .i64 y31.2])), .g, .g, .g, .g, .g, .g, .g, (.w .g), (.w .g), (.w .g), (.w (.ix id33 off33 g33)), (.w (.ld (.int .i64 y33))), (.w .g), (.p true), .g, (.w .g), (.w .g), (.w .g), (.w .g), (.w .g), (.w .g), (.w .g), (.w (.ix id33 off33 g33)), (.w (.ld (.int .i64 y33))), (.w .g), (.w .g), (.w .g), (.w .g), (.w .g), (.w (.ix id33 off33 g33)), (.w (.ld (.int .i64 y33))), (.w .g), (.w .g), (.w .g), (.w .g), (.w (.ix id37 off37 g37)), (.w .g), (.w (.ld (.int .i64 y37.2.2.2))), (.w .g), (.w (.p false)), (.w (.p true)), (.p false), (.b false), .g, .g]) (ds := F22_m1_1) (ks := [7]) (e := .normal) (s2 := (F22_h1 h x1 x2 x3 v4 v5 l6 v6 x7 x8 v9 v10 v11 (IntKind.i64.wrap (a29 + 1)))) (hC := (ai c38 (ai c34 (ai c35 (ai (g_ff c34) (ai c36 (ai (g_tt c35) (ai (g_ff c36) (ai (At.one (P := Try.prog) (t := 3) (v := .int .i64 y37.2.2.2) at37 (by kernel_rfl) 3 rfl rfl) (ai (g_ff c36) (ai (g_ff c36) (ai ix37 (ai (g_ff c36) (ai (g_ff c36) (ai (g_ff c36) (ai (g_ff c36) (ai (g_ff c36) (ai (At.one (P := Try.prog) (t := 3) (v := .int .i64 y33) at33 (by kernel_rfl) 0 rfl rfl) (ai (g_ff c36) (ai ix33 (ai (g_ff c36) (ai (g_ff c36) (ai (g_ff c36) (ai (g_ff c36) (ai (g_tt c35) (ai (g_tt c35) (ai (At.one (P := Try.prog) (t := 3) (v := .int .i64 y33) at33 (by kernel_rfl) 0 rfl rfl) (ai (g_tt c35) (ai ix33 (ai (g_tt c35) (ai (g_tt c35) (ai (g_tt c35) (ai (g_tt c35) (ai (g_ff c34) (ai (g_ff c34) (ai (g_ff c34) (ai (g_ff c34) (ai c32 (ai (g_tt c32) (ai (At.one (P := Try.prog) (t := 3) (v := .int .i64 y33) at33 (by kernel_rfl) 0 rfl rfl) (ai (g_tt c32) (ai ix33 (ai (g_tt c32) (ai (g_tt c32) (ai (g_tt c32) (ai (g_tt c32) (ai (At.agg (P := Try.prog) (t := 77) (v := .agg #[.int .i64 y31.1, .int .i64 y31.2]) (m := 2) at31 (by kernel_rfl) (by kernel_rfl) 0 (by kernel_rfl) rfl) (ai ix31 (ai c30 trivial))))))))))))))))))))))))))))))))))))))))))))))))) (hd := F22_d1) (h := by kernel_rfl)
        · intro hr
          obtain rfl := Option.some.inj hr
          show AWp Try.prog _ (Ends1 .normal (F22_h1 h x1 x2 x3 v4 v5 l6 v6 x7 x8 v9 v10 v11 (IntKind.i64.wrap (a29 + 1)))) _
          exact pEnd_sound good (L := F22_L) (D := F22_D) (its := [.g, (.b true), .g, (.ix id31 off31 g31), (.ld (.agg #[.int .i64 y31.1, .int .i64 y31.2])), .g, .g, .g, .g, .g, .g, .g, (.w .g), (.w .g), (.w .g), (.w (.ix id33 off33 g33)), (.w (.ld (.int .i64 y33))), (.w .g), (.p true), .g, (.w .g), (.w .g), (.w .g), (.w .g), .n, .n, .n, .n, .n, .n, .n, .n, .n, .n, .n, .n, .n, .n, .n, .n, .n, .n, .n, .n, .n, (.w (.p false)), (.p false), (.b false), .g, .g]) (ds := F22_m1_1) (ks := [7]) (e := .normal) (s2 := (F22_h1 h x1 x2 x3 v4 v5 l6 v6 x7 x8 v9 v10 v11 (IntKind.i64.wrap (a29 + 1)))) (hC := (ai l_f (ai c34 (ai c35 (ai (g_ff c34) (ai (g_ft c35) (ai l_f (ai l_f (ai l_f (ai l_f (ai l_f (ai l_f (ai l_f (ai l_f (ai l_f (ai l_f (ai l_f (ai l_f (ai l_f (ai (g_ft c35) (ai (g_ft c35) (ai (g_ft c35) (ai (g_ft c35) (ai (g_ft c35) (ai (g_ft c35) (ai (g_ft c35) (ai (g_ff c34) (ai (g_ff c34) (ai (g_ff c34) (ai (g_ff c34) (ai c32 (ai (g_tt c32) (ai (At.one (P := Try.prog) (t := 3) (v := .int .i64 y33) at33 (by kernel_rfl) 0 rfl rfl) (ai (g_tt c32) (ai ix33 (ai (g_tt c32) (ai (g_tt c32) (ai (g_tt c32) (ai (g_tt c32) (ai (At.agg (P := Try.prog) (t := 77) (v := .agg #[.int .i64 y31.1, .int .i64 y31.2]) (m := 2) at31 (by kernel_rfl) (by kernel_rfl) 0 (by kernel_rfl) rfl) (ai ix31 (ai c30 trivial)))))))))))))))))))))))))))))))))))))))))) (hd := F22_d1) (h := by kernel_rfl)
    · refine dec_bif (fun c39 => ?_) (fun c39 => ?_)
      · refine bind_opt fun y40 e40 => ?_
        obtain ⟨id40, off40, g40, cs40, ix40, at40, rfl⟩ := SlE.at hv11 e40
        refine dec_bif (fun c41 => ?_) (fun c41 => ?_)
        · intro hr
          obtain rfl := Option.some.inj hr
          show AWp Try.prog _ (Ends1 ((F22_x1 h) (0 : Nat)).1 ((F22_x1 h) (0 : Nat)).2) _
          exact pEnd_sound good (L := F22_L) (D := F22_D) (its := [.g, (.b true), .g, (.ix id31 off31 g31), (.ld (.agg #[.int .i64 y31.1, .int .i64 y31.2])), .g, .g, .g, .g, .g, .g, .g, .n, .n, .n, .n, .n, .n, (.p false), .g, (.w .g), (.w .g), (.w .g), (.w .g), (.w .g), (.w .g), (.w .g), (.w (.ix id40 off40 g40)), (.w (.ld (.int .i64 y40))), (.w .g), (.w .g), .n, .n, .n, .n, .n, .n, .n, .n, .n, .n, .n, .n, .n, (.w (.p true)), (.w (.p true)), .g, (.b true), .g]) (ds := F22_m1_0) (ks := [2, 3, 7]) (e := ((F22_x1 h) (0 : Nat)).1) (s2 := ((F22_x1 h) (0 : Nat)).2) (hC := (ai l_t (ai c39 (ai (g_ff l_f) (ai c41 (ai (g_tt c39) (ai (g_tf c41) (ai (g_tf c41) (ai (g_tf c41) (ai (g_tf c41) (ai (g_tf c41) (ai (g_tf c41) (ai (g_tf c41) (ai (g_tf c41) (ai (g_tf c41) (ai (g_tf c41) (ai (g_tf c41) (ai (g_tf c41) (ai (g_tf c41) (ai (g_tt c39) (ai (g_tt c39) (ai (At.one (P := Try.prog) (t := 3) (v := .int .i64 y40) at40 (by kernel_rfl) 0 rfl rfl) (ai (g_tt c39) (ai ix40 (ai (g_tt c39) (ai (g_tt c39) (ai (g_tt c39) (ai (g_tt c39) (ai (g_ff l_f) (ai (g_ff l_f) (ai (g_ff l_f) (ai (g_ff l_f) (ai c32 (ai (g_ft c32) (ai (g_ft c32) (ai (g_ft c32) (ai (g_ft c32) (ai (g_ft c32) (ai (g_ft c32) (ai (At.agg (P := Try.prog) (t := 77) (v := .agg #[.int .i64 y31.1, .int .i64 y31.2]) (m := 2) at31 (by kernel_rfl) (by kernel_rfl) 0 (by kernel_rfl) rfl) (ai ix31 (ai c30 trivial)))))))))))))))))))))))))))))))))))))))))) (hd := F22_d1) (h := by kernel_rfl)
        · refine bind_opt fun y42 e42 => ?_
          obtain ⟨id42, off42, g42, cs42, ix42, at42, rfl⟩ := SlE.at hv5 e42
          refine dec_bif (fun c43 => ?_) (fun c43 => ?_)
          · intro hr
            obtain rfl := Option.some.inj hr
            show AWp Try.prog _ (Ends1 ((F22_x1 h) (0 : Nat)).1 ((F22_x1 h) (0 : Nat)).2) _
            exact pEnd_sound good (L := F22_L) (D := F22_D) (its := [.g, (.b true), .g, (.ix id31 off31 g31), (.ld (.agg #[.int .i64 y31.1, .int .i64 y31.2])), .g, .g, .g, .g, .g, .g, .g, .n, .n, .n, .n, .n, .n, (.p false), .g, (.w .g), (.w .g), (.w .g), (.w .g), (.w .g), (.w .g), (.w .g), (.w (.ix id40 off40 g40)), (.w (.ld (.int .i64 y40))), (.w .g), (.w .g), (.w .g), (.w .g), (.w .g), (.w (.ix id40 off40 g40)), (.w (.ld (.int .i64 y40))), (.w .g), (.w .g), (.w .g), (.w .g), (.w (.ix id42 off42 g42)), (.w .g), (.w (.ld (.int .i64 y42.2.2.2))), (.w .g), (.w (.p false)), (.w (.p true)), .g, (.b true), .g]) (ds := F22_m1_0) (ks := [2, 3, 7]) (e := ((F22_x1 h) (0 : Nat)).1) (s2 := ((F22_x1 h) (0 : Nat)).2) (hC := (ai c43 (ai c39 (ai (g_ff l_f) (ai c41 (ai (g_tt c39) (ai (g_ff c41) (ai (At.one (P := Try.prog) (t := 3) (v := .int .i64 y42.2.2.2) at42 (by kernel_rfl) 3 rfl rfl) (ai (g_ff c41) (ai (g_ff c41) (ai ix42 (ai (g_ff c41) (ai (g_ff c41) (ai (g_ff c41) (ai (g_ff c41) (ai (g_ff c41) (ai (At.one (P := Try.prog) (t := 3) (v := .int .i64 y40) at40 (by kernel_rfl) 0 rfl rfl) (ai (g_ff c41) (ai ix40 (ai (g_ff c41) (ai (g_ff c41) (ai (g_ff c41) (ai (g_ff c41) (ai (g_tt c39) (ai (g_tt c39) (ai (At.one (P := Try.prog) (t := 3) (v := .int .i64 y40) at40 (by kernel_rfl) 0 rfl rfl) (ai (g_tt c39) (ai ix40 (ai (g_tt c39) (ai (g_tt c39) (ai (g_tt c39) (ai (g_tt c39) (ai (g_ff l_f) (ai (g_ff l_f) (ai (g_ff l_f) (ai (g_ff l_f) (ai c32 (ai (g_ft c32) (ai (g_ft c32) (ai (g_ft c32) (ai (g_ft c32) (ai (g_ft c32) (ai (g_ft c32) (ai (At.agg (P := Try.prog) (t := 77) (v := .agg #[.int .i64 y31.1, .int .i64 y31.2]) (m := 2) at31 (by kernel_rfl) (by kernel_rfl) 0 (by kernel_rfl) rfl) (ai ix31 (ai c30 trivial)))))))))))))))))))))))))))))))))))))))))))))) (hd := F22_d1) (h := by kernel_rfl)
          · intro hr
            obtain rfl := Option.some.inj hr
            show AWp Try.prog _ (Ends1 .normal (F22_h1 h x1 x2 x3 v4 v5 l6 v6 x7 x8 v9 v10 v11 (IntKind.i64.wrap (a29 + 1)))) _
            exact pEnd_sound good (L := F22_L) (D := F22_D) (its := [.g, (.b true), .g, (.ix id31 off31 g31), (.ld (.agg #[.int .i64 y31.1, .int .i64 y31.2])), .g, .g, .g, .g, .g, .g, .g, .n, .n, .n, .n, .n, .n, (.p false), .g, (.w .g), (.w .g), (.w .g), (.w .g), (.w .g), (.w .g), (.w .g), (.w (.ix id40 off40 g40)), (.w (.ld (.int .i64 y40))), (.w .g), (.w .g), (.w .g), (.w .g), (.w .g), (.w (.ix id40 off40 g40)), (.w (.ld (.int .i64 y40))), (.w .g), (.w .g), (.w .g), (.w .g), (.w (.ix id42 off42 g42)), (.w .g), (.w (.ld (.int .i64 y42.2.2.2))), (.w .g), (.w (.p false)), (.w (.p true)), .g, (.b false), .g, .g]) (ds := F22_m1_1) (ks := [7]) (e := .normal) (s2 := (F22_h1 h x1 x2 x3 v4 v5 l6 v6 x7 x8 v9 v10 v11 (IntKind.i64.wrap (a29 + 1)))) (hC := (ai c43 (ai c39 (ai (g_ff l_f) (ai c41 (ai (g_tt c39) (ai (g_ff c41) (ai (At.one (P := Try.prog) (t := 3) (v := .int .i64 y42.2.2.2) at42 (by kernel_rfl) 3 rfl rfl) (ai (g_ff c41) (ai (g_ff c41) (ai ix42 (ai (g_ff c41) (ai (g_ff c41) (ai (g_ff c41) (ai (g_ff c41) (ai (g_ff c41) (ai (At.one (P := Try.prog) (t := 3) (v := .int .i64 y40) at40 (by kernel_rfl) 0 rfl rfl) (ai (g_ff c41) (ai ix40 (ai (g_ff c41) (ai (g_ff c41) (ai (g_ff c41) (ai (g_ff c41) (ai (g_tt c39) (ai (g_tt c39) (ai (At.one (P := Try.prog) (t := 3) (v := .int .i64 y40) at40 (by kernel_rfl) 0 rfl rfl) (ai (g_tt c39) (ai ix40 (ai (g_tt c39) (ai (g_tt c39) (ai (g_tt c39) (ai (g_tt c39) (ai (g_ff l_f) (ai (g_ff l_f) (ai (g_ff l_f) (ai (g_ff l_f) (ai c32 (ai (g_ft c32) (ai (g_ft c32) (ai (g_ft c32) (ai (g_ft c32) (ai (g_ft c32) (ai (g_ft c32) (ai (At.agg (P := Try.prog) (t := 77) (v := .agg #[.int .i64 y31.1, .int .i64 y31.2]) (m := 2) at31 (by kernel_rfl) (by kernel_rfl) 0 (by kernel_rfl) rfl) (ai ix31 (ai c30 trivial)))))))))))))))))))))))))))))))))))))))))))))) (hd := F22_d1) (h := by kernel_rfl)
      · intro hr
        obtain rfl := Option.some.inj hr
        show AWp Try.prog _ (Ends1 .normal (F22_h1 h x1 x2 x3 v4 v5 l6 v6 x7 x8 v9 v10 v11 (IntKind.i64.wrap (a29 + 1)))) _
        exact pEnd_sound good (L := F22_L) (D := F22_D) (its := [.g, (.b true), .g, (.ix id31 off31 g31), (.ld (.agg #[.int .i64 y31.1, .int .i64 y31.2])), .g, .g, .g, .g, .g, .g, .g, .n, .n, .n, .n, .n, .n, (.p false), .g, (.w .g), (.w .g), (.w .g), (.w .g), .n, .n, .n, .n, .n, .n, .n, .n, .n, .n, .n, .n, .n, .n, .n, .n, .n, .n, .n, .n, .n, (.w (.p false)), .g, (.b false), .g, .g]) (ds := F22_m1_1) (ks := [7]) (e := .normal) (s2 := (F22_h1 h x1 x2 x3 v4 v5 l6 v6 x7 x8 v9 v10 v11 (IntKind.i64.wrap (a29 + 1)))) (hC := (ai l_f (ai c39 (ai (g_ff l_f) (ai (g_ft c39) (ai l_f (ai l_f (ai l_f (ai l_f (ai l_f (ai l_f (ai l_f (ai l_f (ai l_f (ai l_f (ai l_f (ai l_f (ai l_f (ai (g_ft c39) (ai (g_ft c39) (ai (g_ft c39) (ai (g_ft c39) (ai (g_ft c39) (ai (g_ft c39) (ai (g_ft c39) (ai (g_ff l_f) (ai (g_ff l_f) (ai (g_ff l_f) (ai (g_ff l_f) (ai c32 (ai (g_ft c32) (ai (g_ft c32) (ai (g_ft c32) (ai (g_ft c32) (ai (g_ft c32) (ai (g_ft c32) (ai (At.agg (P := Try.prog) (t := 77) (v := .agg #[.int .i64 y31.1, .int .i64 y31.2]) (m := 2) at31 (by kernel_rfl) (by kernel_rfl) 0 (by kernel_rfl) rfl) (ai ix31 (ai c30 trivial))))))))))))))))))))))))))))))))))))))) (hd := F22_d1) (h := by kernel_rfl)
  · intro hr
    obtain rfl := Option.some.inj hr
    show AWp Try.prog _ (Ends1 ((F22_x1 h) (1 : Nat)).1 ((F22_x1 h) (1 : Nat)).2) _
    exact pEnd_sound good (L := F22_L) (D := F22_D) (its := [.g, (.b false)]) (ds := F22_m1_2) (ks := [2, 3]) (e := ((F22_x1 h) (1 : Nat)).1) (s2 := ((F22_x1 h) (1 : Nat)).2) (hC := (ai c30 trivial)) (hd := F22_d1) (h := by kernel_rfl)
theorem F22_l1_0 (h : AHeap) (x1 : Int) (x2 : Int) (x3 : Bool) (v4 : Hd) (l5 : List (Int × Int × Int × Int)) (v5 : Hd) (hv5 : SlE E79 4 h (sv v5) l5) (l6 : List (Int × Int)) (v6 : Hd) (hv6 : SlE E77 2 h (sv v6) l6) (x7 : Int) (x8 : Int) (v9 : Hd) (v10 : Hd) (l11 : List Int) (v11 : Hd) (hv11 : SlE E3 1 h (sv v11) l11) (x : Int) (r : Nat) (hl : loopO (fun (s : Int) => F22_s1 l5 l6 l11 s) x = some r) (q0 : Nat.beq r 0 = true) : AWp Try.prog (.loop (codeOf Try.prog 22 [1, 1, 1, 1, 1, 0, 1, 0, 0])) (Ends1 .ret (F22_x1_0 h r)) ((fun (s : Int) => (F22_h1 h x1 x2 x3 v4 v5 l6 v6 x7 x8 v9 v10 v11 s)) x) := by
  have k := loop_fun (P := Try.prog) (c := (codeOf Try.prog 22 [1, 1, 1, 1, 1, 0, 1, 0, 0])) (step := (fun (s : Int) => F22_s1 l5 l6 l11 s)) (hd := (fun (s : Int) => (F22_h1 h x1 x2 x3 v4 v5 l6 v6 x7 x8 v9 v10 v11 s))) (X := (F22_x1 h)) (by intro t; unfold F22_x1; cases Nat.beq t 0 <;> (intro h; cases h)) (fun x => F22_r1 h x1 x2 x3 v4 l5 v5 hv5 l6 v6 hv6 x7 x8 v9 v10 l11 v11 hv11 x) hl
  simp only [F22_x1, q0, cond_true, cond_false] at k
  exact k
theorem F22_l1_1 (h : AHeap) (x1 : Int) (x2 : Int) (x3 : Bool) (v4 : Hd) (l5 : List (Int × Int × Int × Int)) (v5 : Hd) (hv5 : SlE E79 4 h (sv v5) l5) (l6 : List (Int × Int)) (v6 : Hd) (hv6 : SlE E77 2 h (sv v6) l6) (x7 : Int) (x8 : Int) (v9 : Hd) (v10 : Hd) (l11 : List Int) (v11 : Hd) (hv11 : SlE E3 1 h (sv v11) l11) (x : Int) (r : Nat) (hl : loopO (fun (s : Int) => F22_s1 l5 l6 l11 s) x = some r) (q0 : Nat.beq r 0 = false) : AWp Try.prog (.loop (codeOf Try.prog 22 [1, 1, 1, 1, 1, 0, 1, 0, 0])) (Ends1 (.exit 0) (F22_x1_1 h r)) ((fun (s : Int) => (F22_h1 h x1 x2 x3 v4 v5 l6 v6 x7 x8 v9 v10 v11 s)) x) := by
  have k := loop_fun (P := Try.prog) (c := (codeOf Try.prog 22 [1, 1, 1, 1, 1, 0, 1, 0, 0])) (step := (fun (s : Int) => F22_s1 l5 l6 l11 s)) (hd := (fun (s : Int) => (F22_h1 h x1 x2 x3 v4 v5 l6 v6 x7 x8 v9 v10 v11 s))) (X := (F22_x1 h)) (by intro t; unfold F22_x1; cases Nat.beq t 0 <;> (intro h; cases h)) (fun x => F22_r1 h x1 x2 x3 v4 l5 v5 hv5 l6 v6 hv6 x7 x8 v9 v10 l11 v11 hv11 x) hl
  simp only [F22_x1, q0, cond_true, cond_false] at k
  exact k
def F22 (x1 : Int) (x2 : Int) (x3 : Bool) (l4 : List (Int × Int × Int × Int)) (l5 : List (Int × Int × Int × Int)) (l6 : List (Int × Int)) (x7 : Int) (x8 : Int) (l9 : List Int) (l10 : List Int) (l11 : List Int) : Option (Bool) :=
  (Option.bind (F46 x1 x2 x3 l4 l5 l6) fun y12 =>
  (bif (!y12) then
   some (false)
  else
   (bif ((l9.length : Int) != x1) then
    some (false)
   else
    (bif ((l11.length : Int) != x1) then
     some (false)
    else
     (bif ((l10.length : Int) != x2) then
      some (false)
     else
      (bif decide (x7 < 0) then
       some (false)
      else
       (bif decide (x7 > 256) then
        some (false)
       else
        (bif (!(decide (x7 > 0) == x3)) then
         some (false)
        else
         (bif decide (x8 < 1) then
          some (false)
         else
          (bif decide (x8 > 4096) then
           some (false)
          else
           (Option.bind (F44w47 l9) fun y23 =>
           (bif y23 then
            some (false)
           else
            (Option.bind (F44w47 l10) fun y26 =>
            (bif y26 then
             some (false)
            else
             (Option.bind (loopO (fun (s : Int) => F22_s1 l5 l6 l11 s) 0) fun y44 =>
             (bif (Nat.beq y44 0) then
              some (false)
             else
              some (true)))))))))))))))))
set_option maxRecDepth 100000 in
theorem F22_spec (x1 : Int) (x2 : Int) (x3 : Bool) (l4 : List (Int × Int × Int × Int)) (l5 : List (Int × Int × Int × Int)) (l6 : List (Int × Int)) (x7 : Int) (x8 : Int) (l9 : List Int) (l10 : List Int) (l11 : List Int) (v4 : Hd) (v5 : Hd) (v6 : Hd) (v9 : Hd) (v10 : Hd) (v11 : Hd) (h : AHeap) (hv4 : SlE E37 4 h (sv v4) l4) (hv5 : SlE E79 4 h (sv v5) l5) (hv6 : SlE E77 2 h (sv v6) l6) (hv9 : SlE E3 1 h (sv v9) l9) (hv10 : SlE E3 1 h (sv v10) l10) (hv11 : SlE E3 1 h (sv v11) l11) (r : Bool) : F22 x1 x2 x3 l4 l5 l6 x7 x8 l9 l10 l11 = some r → ACalls Try.prog 22 [.agg #[.int .i64 x1, .int .i64 x2, .bool x3, (sv v4), (sv v5), (sv v6)], .agg #[.int .i64 x7, .int .i64 x8, (sv v9), (sv v10), (sv v11)]] h (fun v' h'' => v' = (.bool r : Value) ∧ h'' = h) := by
  unfold F22
  refine bind_opt fun y12 e12 => ?_
  refine dec_bif (fun c14 => ?_) (fun c14 => ?_)
  · intro hr
    obtain rfl := Option.some.inj hr
    exact pFun_sound good tab_ok (f := 22) (its := [.g, .g, .g, .g, (.c (.bool y12) h), .g, .g, .n, .n, .n, .n, .n, .n, (.p true), .g, .n, .n, .n, .n, .n, .n, .g, .g, .n, .n, .n, .n, .n, .n, .g, (.b true), .g]) (args := [.agg #[.int .i64 x1, .int .i64 x2, .bool x3, (sv v4), (sv v5), (sv v6)], .agg #[.int .i64 x7, .int .i64 x8, (sv v9), (sv v10), (sv v11)]]) (h := h) (h' := h) (v := .bool false) (hC := (ai l_t (ai (g_tf l_t) (ai (g_tf l_t) (ai (g_tf l_t) (ai (g_tf l_t) (ai (g_tf l_t) (ai (g_tf l_t) (ai (g_tf l_t) (ai (g_tf l_t) (ai (g_tf l_t) (ai (g_tf l_t) (ai (g_tf l_t) (ai (g_tf l_t) (ai c14 (ai (g_tf c14) (ai (g_tf c14) (ai (g_tf c14) (ai (g_tf c14) (ai (g_tf c14) (ai (g_tf c14) (ai (F46_spec x1 x2 x3 l4 l5 l6 v4 v5 v6 h hv4 hv5 hv6 _ e12) trivial)))))))))))))))))))))) (hr := by kernel_rfl)
  · refine dec_bif (fun c15 => ?_) (fun c15 => ?_)
    · intro hr
      obtain rfl := Option.some.inj hr
      exact pFun_sound good tab_ok (f := 22) (its := [.g, .g, .g, .g, (.c (.bool y12) h), .g, .g, (.w .g), (.w .g), (.w (.ln l9.length)), (.w .g), (.w .g), (.w .g), (.p false), .g, .n, .n, .n, .n, .n, .n, (.p true), .g, .n, .n, .n, .n, .n, .n, .g, (.b true), .g]) (args := [.agg #[.int .i64 x1, .int .i64 x2, .bool x3, (sv v4), (sv v5), (sv v6)], .agg #[.int .i64 x7, .int .i64 x8, (sv v9), (sv v10), (sv v11)]]) (h := h) (h' := h) (v := .bool false) (hC := (ai l_t (ai (g_tf l_t) (ai (g_tf l_t) (ai (g_tf l_t) (ai (g_tf l_t) (ai (g_tf l_t) (ai (g_tf l_t) (ai c15 (ai (g_tf c15) (ai (g_tf c15) (ai (g_tf c15) (ai (g_tf c15) (ai (g_tf c15) (ai (g_tf c15) (ai c14 (ai (g_ff c14) (ai (g_ff c14) (ai (g_ff c14) (ai (SlE.len hv9) (ai (g_ff c14) (ai (g_ff c14) (ai (g_ff c14) (ai (F46_spec x1 x2 x3 l4 l5 l6 v4 v5 v6 h hv4 hv5 hv6 _ e12) trivial)))))))))))))))))))))))) (hr := by kernel_rfl)
    · refine dec_bif (fun c16 => ?_) (fun c16 => ?_)
      · intro hr
        obtain rfl := Option.some.inj hr
        exact pFun_sound good tab_ok (f := 22) (its := [.g, .g, .g, .g, (.c (.bool y12) h), .g, .g, (.w .g), (.w .g), (.w (.ln l9.length)), (.w .g), (.w .g), (.w .g), (.p false), .g, (.w .g), (.w .g), (.w (.ln l11.length)), (.w .g), (.w .g), (.w .g), (.p false), .g, .n, .n, .n, .n, .n, .n, (.p true), (.b true), .g]) (args := [.agg #[.int .i64 x1, .int .i64 x2, .bool x3, (sv v4), (sv v5), (sv v6)], .agg #[.int .i64 x7, .int .i64 x8, (sv v9), (sv v10), (sv v11)]]) (h := h) (h' := h) (v := .bool false) (hC := (ai l_t (ai c16 (ai (g_tf c16) (ai (g_tf c16) (ai (g_tf c16) (ai (g_tf c16) (ai (g_tf c16) (ai (g_tf c16) (ai c15 (ai (g_ff c15) (ai (g_ff c15) (ai (g_ff c15) (ai (SlE.len hv11) (ai (g_ff c15) (ai (g_ff c15) (ai (g_ff c15) (ai c14 (ai (g_ff c14) (ai (g_ff c14) (ai (g_ff c14) (ai (SlE.len hv9) (ai (g_ff c14) (ai (g_ff c14) (ai (g_ff c14) (ai (F46_spec x1 x2 x3 l4 l5 l6 v4 v5 v6 h hv4 hv5 hv6 _ e12) trivial)))))))))))))))))))))))))) (hr := by kernel_rfl)
      · refine dec_bif (fun c17 => ?_) (fun c17 => ?_)
        · intro hr
          obtain rfl := Option.some.inj hr
          exact pFun_sound good tab_ok (f := 22) (its := [.g, .g, .g, .g, (.c (.bool y12) h), .g, .g, (.w .g), (.w .g), (.w (.ln l9.length)), (.w .g), (.w .g), (.w .g), (.p false), .g, (.w .g), (.w .g), (.w (.ln l11.length)), (.w .g), (.w .g), (.w .g), (.p false), .g, (.w .g), (.w .g), (.w (.ln l10.length)), (.w .g), (.w .g), (.w .g), (.p false), (.b true), .g]) (args := [.agg #[.int .i64 x1, .int .i64 x2, .bool x3, (sv v4), (sv v5), (sv v6)], .agg #[.int .i64 x7, .int .i64 x8, (sv v9), (sv v10), (sv v11)]]) (h := h) (h' := h) (v := .bool false) (hC := (ai c17 (ai c16 (ai (g_ff c16) (ai (g_ff c16) (ai (g_ff c16) (ai (SlE.len hv10) (ai (g_ff c16) (ai (g_ff c16) (ai (g_ff c16) (ai c15 (ai (g_ff c15) (ai (g_ff c15) (ai (g_ff c15) (ai (SlE.len hv11) (ai (g_ff c15) (ai (g_ff c15) (ai (g_ff c15) (ai c14 (ai (g_ff c14) (ai (g_ff c14) (ai (g_ff c14) (ai (SlE.len hv9) (ai (g_ff c14) (ai (g_ff c14) (ai (g_ff c14) (ai (F46_spec x1 x2 x3 l4 l5 l6 v4 v5 v6 h hv4 hv5 hv6 _ e12) trivial))))))))))))))))))))))))))) (hr := by kernel_rfl)
        · refine dec_bif (fun c18 => ?_) (fun c18 => ?_)
          · intro hr
            obtain rfl := Option.some.inj hr
            exact pFun_sound good tab_ok (f := 22) (its := [.g, .g, .g, .g, (.c (.bool y12) h), .g, .g, (.w .g), (.w .g), (.w (.ln l9.length)), (.w .g), (.w .g), (.w .g), (.p false), .g, (.w .g), (.w .g), (.w (.ln l11.length)), (.w .g), (.w .g), (.w .g), (.p false), .g, (.w .g), (.w .g), (.w (.ln l10.length)), (.w .g), (.w .g), (.w .g), (.p false), (.b false), .g, .g, .g, .g, .n, .n, .n, (.p true), .g, .n, .n, .n, .n, .n, .n, .g, .g, .n, .n, .n, .g, .g, .n, .n, .n, .g, (.b true), .g]) (args := [.agg #[.int .i64 x1, .int .i64 x2, .bool x3, (sv v4), (sv v5), (sv v6)], .agg #[.int .i64 x7, .int .i64 x8, (sv v9), (sv v10), (sv v11)]]) (h := h) (h' := h) (v := .bool false) (hC := (ai l_t (ai (g_tf l_t) (ai (g_tf l_t) (ai (g_tf l_t) (ai (g_tf l_t) (ai (g_tf l_t) (ai (g_tf l_t) (ai (g_tf l_t) (ai (g_tf l_t) (ai (g_tf l_t) (ai (g_tf l_t) (ai (g_tf l_t) (ai (g_tf l_t) (ai c18 (ai (g_tf c18) (ai (g_tf c18) (ai (g_tf c18) (ai c17 (ai c16 (ai (g_ff c16) (ai (g_ff c16) (ai (g_ff c16) (ai (SlE.len hv10) (ai (g_ff c16) (ai (g_ff c16) (ai (g_ff c16) (ai c15 (ai (g_ff c15) (ai (g_ff c15) (ai (g_ff c15) (ai (SlE.len hv11) (ai (g_ff c15) (ai (g_ff c15) (ai (g_ff c15) (ai c14 (ai (g_ff c14) (ai (g_ff c14) (ai (g_ff c14) (ai (SlE.len hv9) (ai (g_ff c14) (ai (g_ff c14) (ai (g_ff c14) (ai (F46_spec x1 x2 x3 l4 l5 l6 v4 v5 v6 h hv4 hv5 hv6 _ e12) trivial)))))))))))))))))))))))))))))))))))))))))))) (hr := by kernel_rfl)
          · refine dec_bif (fun c19 => ?_) (fun c19 => ?_)
            · intro hr
              obtain rfl := Option.some.inj hr
              exact pFun_sound good tab_ok (f := 22) (its := [.g, .g, .g, .g, (.c (.bool y12) h), .g, .g, (.w .g), (.w .g), (.w (.ln l9.length)), (.w .g), (.w .g), (.w .g), (.p false), .g, (.w .g), (.w .g), (.w (.ln l11.length)), (.w .g), (.w .g), (.w .g), (.p false), .g, (.w .g), (.w .g), (.w (.ln l10.length)), (.w .g), (.w .g), (.w .g), (.p false), (.b false), .g, .g, .g, .g, (.w .g), (.w .g), (.w .g), (.p false), .g, .n, .n, .n, .n, .n, .n, (.p true), .g, .n, .n, .n, .g, .g, .n, .n, .n, .g, (.b true), .g]) (args := [.agg #[.int .i64 x1, .int .i64 x2, .bool x3, (sv v4), (sv v5), (sv v6)], .agg #[.int .i64 x7, .int .i64 x8, (sv v9), (sv v10), (sv v11)]]) (h := h) (h' := h) (v := .bool false) (hC := (ai l_t (ai (g_tf l_t) (ai (g_tf l_t) (ai (g_tf l_t) (ai (g_tf l_t) (ai (g_tf l_t) (ai (g_tf l_t) (ai c19 (ai (g_tf c19) (ai (g_tf c19) (ai (g_tf c19) (ai (g_tf c19) (ai (g_tf c19) (ai (g_tf c19) (ai c18 (ai (g_ff c18) (ai (g_ff c18) (ai (g_ff c18) (ai c17 (ai c16 (ai (g_ff c16) (ai (g_ff c16) (ai (g_ff c16) (ai (SlE.len hv10) (ai (g_ff c16) (ai (g_ff c16) (ai (g_ff c16) (ai c15 (ai (g_ff c15) (ai (g_ff c15) (ai (g_ff c15) (ai (SlE.len hv11) (ai (g_ff c15) (ai (g_ff c15) (ai (g_ff c15) (ai c14 (ai (g_ff c14) (ai (g_ff c14) (ai (g_ff c14) (ai (SlE.len hv9) (ai (g_ff c14) (ai (g_ff c14) (ai (g_ff c14) (ai (F46_spec x1 x2 x3 l4 l5 l6 v4 v5 v6 h hv4 hv5 hv6 _ e12) trivial))))))))))))))))))))))))))))))))))))))))))))) (hr := by kernel_rfl)
            · refine dec_bif (fun c20 => ?_) (fun c20 => ?_)
              · intro hr
                obtain rfl := Option.some.inj hr
                exact pFun_sound good tab_ok (f := 22) (its := [.g, .g, .g, .g, (.c (.bool y12) h), .g, .g, (.w .g), (.w .g), (.w (.ln l9.length)), (.w .g), (.w .g), (.w .g), (.p false), .g, (.w .g), (.w .g), (.w (.ln l11.length)), (.w .g), (.w .g), (.w .g), (.p false), .g, (.w .g), (.w .g), (.w (.ln l10.length)), (.w .g), (.w .g), (.w .g), (.p false), (.b false), .g, .g, .g, .g, (.w .g), (.w .g), (.w .g), (.p false), .g, (.w .g), (.w .g), (.w .g), (.w .g), (.w .g), (.w .g), (.p false), .g, .n, .n, .n, (.p true), .g, .n, .n, .n, .g, (.b true), .g]) (args := [.agg #[.int .i64 x1, .int .i64 x2, .bool x3, (sv v4), (sv v5), (sv v6)], .agg #[.int .i64 x7, .int .i64 x8, (sv v9), (sv v10), (sv v11)]]) (h := h) (h' := h) (v := .bool false) (hC := (ai l_t (ai (g_tf l_t) (ai (g_tf l_t) (ai (g_tf l_t) (ai c20 (ai (g_tf c20) (ai (g_tf c20) (ai (g_tf c20) (ai c19 (ai (g_ff c19) (ai (g_ff c19) (ai (g_ff c19) (ai (g_ff c19) (ai (g_ff c19) (ai (g_ff c19) (ai c18 (ai (g_ff c18) (ai (g_ff c18) (ai (g_ff c18) (ai c17 (ai c16 (ai (g_ff c16) (ai (g_ff c16) (ai (g_ff c16) (ai (SlE.len hv10) (ai (g_ff c16) (ai (g_ff c16) (ai (g_ff c16) (ai c15 (ai (g_ff c15) (ai (g_ff c15) (ai (g_ff c15) (ai (SlE.len hv11) (ai (g_ff c15) (ai (g_ff c15) (ai (g_ff c15) (ai c14 (ai (g_ff c14) (ai (g_ff c14) (ai (g_ff c14) (ai (SlE.len hv9) (ai (g_ff c14) (ai (g_ff c14) (ai (g_ff c14) (ai (F46_spec x1 x2 x3 l4 l5 l6 v4 v5 v6 h hv4 hv5 hv6 _ e12) trivial)))))))))))))))))))))))))))))))))))))))))))))) (hr := by kernel_rfl)
              · refine dec_bif (fun c21 => ?_) (fun c21 => ?_)
                · intro hr
                  obtain rfl := Option.some.inj hr
                  exact pFun_sound good tab_ok (f := 22) (its := [.g, .g, .g, .g, (.c (.bool y12) h), .g, .g, (.w .g), (.w .g), (.w (.ln l9.length)), (.w .g), (.w .g), (.w .g), (.p false), .g, (.w .g), (.w .g), (.w (.ln l11.length)), (.w .g), (.w .g), (.w .g), (.p false), .g, (.w .g), (.w .g), (.w (.ln l10.length)), (.w .g), (.w .g), (.w .g), (.p false), (.b false), .g, .g, .g, .g, (.w .g), (.w .g), (.w .g), (.p false), .g, (.w .g), (.w .g), (.w .g), (.w .g), (.w .g), (.w .g), (.p false), .g, (.w .g), (.w .g), (.w .g), (.p false), .g, .n, .n, .n, (.p true), (.b true), .g]) (args := [.agg #[.int .i64 x1, .int .i64 x2, .bool x3, (sv v4), (sv v5), (sv v6)], .agg #[.int .i64 x7, .int .i64 x8, (sv v9), (sv v10), (sv v11)]]) (h := h) (h' := h) (v := .bool false) (hC := (ai l_t (ai c21 (ai (g_tf c21) (ai (g_tf c21) (ai (g_tf c21) (ai c20 (ai (g_ff c20) (ai (g_ff c20) (ai (g_ff c20) (ai c19 (ai (g_ff c19) (ai (g_ff c19) (ai (g_ff c19) (ai (g_ff c19) (ai (g_ff c19) (ai (g_ff c19) (ai c18 (ai (g_ff c18) (ai (g_ff c18) (ai (g_ff c18) (ai c17 (ai c16 (ai (g_ff c16) (ai (g_ff c16) (ai (g_ff c16) (ai (SlE.len hv10) (ai (g_ff c16) (ai (g_ff c16) (ai (g_ff c16) (ai c15 (ai (g_ff c15) (ai (g_ff c15) (ai (g_ff c15) (ai (SlE.len hv11) (ai (g_ff c15) (ai (g_ff c15) (ai (g_ff c15) (ai c14 (ai (g_ff c14) (ai (g_ff c14) (ai (g_ff c14) (ai (SlE.len hv9) (ai (g_ff c14) (ai (g_ff c14) (ai (g_ff c14) (ai (F46_spec x1 x2 x3 l4 l5 l6 v4 v5 v6 h hv4 hv5 hv6 _ e12) trivial))))))))))))))))))))))))))))))))))))))))))))))) (hr := by kernel_rfl)
                · refine dec_bif (fun c22 => ?_) (fun c22 => ?_)
                  · intro hr
                    obtain rfl := Option.some.inj hr
                    exact pFun_sound good tab_ok (f := 22) (its := [.g, .g, .g, .g, (.c (.bool y12) h), .g, .g, (.w .g), (.w .g), (.w (.ln l9.length)), (.w .g), (.w .g), (.w .g), (.p false), .g, (.w .g), (.w .g), (.w (.ln l11.length)), (.w .g), (.w .g), (.w .g), (.p false), .g, (.w .g), (.w .g), (.w (.ln l10.length)), (.w .g), (.w .g), (.w .g), (.p false), (.b false), .g, .g, .g, .g, (.w .g), (.w .g), (.w .g), (.p false), .g, (.w .g), (.w .g), (.w .g), (.w .g), (.w .g), (.w .g), (.p false), .g, (.w .g), (.w .g), (.w .g), (.p false), .g, (.w .g), (.w .g), (.w .g), (.p false), (.b true), .g]) (args := [.agg #[.int .i64 x1, .int .i64 x2, .bool x3, (sv v4), (sv v5), (sv v6)], .agg #[.int .i64 x7, .int .i64 x8, (sv v9), (sv v10), (sv v11)]]) (h := h) (h' := h) (v := .bool false) (hC := (ai c22 (ai c21 (ai (g_ff c21) (ai (g_ff c21) (ai (g_ff c21) (ai c20 (ai (g_ff c20) (ai (g_ff c20) (ai (g_ff c20) (ai c19 (ai (g_ff c19) (ai (g_ff c19) (ai (g_ff c19) (ai (g_ff c19) (ai (g_ff c19) (ai (g_ff c19) (ai c18 (ai (g_ff c18) (ai (g_ff c18) (ai (g_ff c18) (ai c17 (ai c16 (ai (g_ff c16) (ai (g_ff c16) (ai (g_ff c16) (ai (SlE.len hv10) (ai (g_ff c16) (ai (g_ff c16) (ai (g_ff c16) (ai c15 (ai (g_ff c15) (ai (g_ff c15) (ai (g_ff c15) (ai (SlE.len hv11) (ai (g_ff c15) (ai (g_ff c15) (ai (g_ff c15) (ai c14 (ai (g_ff c14) (ai (g_ff c14) (ai (g_ff c14) (ai (SlE.len hv9) (ai (g_ff c14) (ai (g_ff c14) (ai (g_ff c14) (ai (F46_spec x1 x2 x3 l4 l5 l6 v4 v5 v6 h hv4 hv5 hv6 _ e12) trivial))))))))))))))))))))))))))))))))))))))))))))))) (hr := by kernel_rfl)
                  · refine bind_opt fun y23 e23 => ?_
                    refine dec_bif (fun c25 => ?_) (fun c25 => ?_)
                    · intro hr
                      obtain rfl := Option.some.inj hr
                      exact pFun_sound good tab_ok (f := 22) (its := [.g, .g, .g, .g, (.c (.bool y12) h), .g, .g, (.w .g), (.w .g), (.w (.ln l9.length)), (.w .g), (.w .g), (.w .g), (.p false), .g, (.w .g), (.w .g), (.w (.ln l11.length)), (.w .g), (.w .g), (.w .g), (.p false), .g, (.w .g), (.w .g), (.w (.ln l10.length)), (.w .g), (.w .g), (.w .g), (.p false), (.b false), .g, .g, .g, .g, (.w .g), (.w .g), (.w .g), (.p false), .g, (.w .g), (.w .g), (.w .g), (.w .g), (.w .g), (.w .g), (.p false), .g, (.w .g), (.w .g), (.w .g), (.p false), .g, (.w .g), (.w .g), (.w .g), (.p false), (.b false), .g, .g, .g, .g, (.c (.bool y23) h), .g, .n, .n, .n, .n, (.p true), (.b true), .g]) (args := [.agg #[.int .i64 x1, .int .i64 x2, .bool x3, (sv v4), (sv v5), (sv v6)], .agg #[.int .i64 x7, .int .i64 x8, (sv v9), (sv v10), (sv v11)]]) (h := h) (h' := h) (v := .bool false) (hC := (ai l_t (ai c25 (ai (g_tf c25) (ai (g_tf c25) (ai (g_tf c25) (ai (g_tf c25) (ai (F44w47_spec l9 v9 h hv9 _ e23) (ai c22 (ai c21 (ai (g_ff c21) (ai (g_ff c21) (ai (g_ff c21) (ai c20 (ai (g_ff c20) (ai (g_ff c20) (ai (g_ff c20) (ai c19 (ai (g_ff c19) (ai (g_ff c19) (ai (g_ff c19) (ai (g_ff c19) (ai (g_ff c19) (ai (g_ff c19) (ai c18 (ai (g_ff c18) (ai (g_ff c18) (ai (g_ff c18) (ai c17 (ai c16 (ai (g_ff c16) (ai (g_ff c16) (ai (g_ff c16) (ai (SlE.len hv10) (ai (g_ff c16) (ai (g_ff c16) (ai (g_ff c16) (ai c15 (ai (g_ff c15) (ai (g_ff c15) (ai (g_ff c15) (ai (SlE.len hv11) (ai (g_ff c15) (ai (g_ff c15) (ai (g_ff c15) (ai c14 (ai (g_ff c14) (ai (g_ff c14) (ai (g_ff c14) (ai (SlE.len hv9) (ai (g_ff c14) (ai (g_ff c14) (ai (g_ff c14) (ai (F46_spec x1 x2 x3 l4 l5 l6 v4 v5 v6 h hv4 hv5 hv6 _ e12) trivial)))))))))))))))))))))))))))))))))))))))))))))))))))))) (hr := by kernel_rfl)
                    · refine bind_opt fun y26 e26 => ?_
                      refine dec_bif (fun c28 => ?_) (fun c28 => ?_)
                      · intro hr
                        obtain rfl := Option.some.inj hr
                        exact pFun_sound good tab_ok (f := 22) (its := [.g, .g, .g, .g, (.c (.bool y12) h), .g, .g, (.w .g), (.w .g), (.w (.ln l9.length)), (.w .g), (.w .g), (.w .g), (.p false), .g, (.w .g), (.w .g), (.w (.ln l11.length)), (.w .g), (.w .g), (.w .g), (.p false), .g, (.w .g), (.w .g), (.w (.ln l10.length)), (.w .g), (.w .g), (.w .g), (.p false), (.b false), .g, .g, .g, .g, (.w .g), (.w .g), (.w .g), (.p false), .g, (.w .g), (.w .g), (.w .g), (.w .g), (.w .g), (.w .g), (.p false), .g, (.w .g), (.w .g), (.w .g), (.p false), .g, (.w .g), (.w .g), (.w .g), (.p false), (.b false), .g, .g, .g, .g, (.c (.bool y23) h), .g, (.w .g), (.w .g), (.w .g), (.w (.c (.bool y26) h)), (.p false), (.b true), .g]) (args := [.agg #[.int .i64 x1, .int .i64 x2, .bool x3, (sv v4), (sv v5), (sv v6)], .agg #[.int .i64 x7, .int .i64 x8, (sv v9), (sv v10), (sv v11)]]) (h := h) (h' := h) (v := .bool false) (hC := (ai c28 (ai c25 (ai (F44w47_spec l10 v10 h hv10 _ e26) (ai (g_ff c25) (ai (g_ff c25) (ai (g_ff c25) (ai (g_ff c25) (ai (F44w47_spec l9 v9 h hv9 _ e23) (ai c22 (ai c21 (ai (g_ff c21) (ai (g_ff c21) (ai (g_ff c21) (ai c20 (ai (g_ff c20) (ai (g_ff c20) (ai (g_ff c20) (ai c19 (ai (g_ff c19) (ai (g_ff c19) (ai (g_ff c19) (ai (g_ff c19) (ai (g_ff c19) (ai (g_ff c19) (ai c18 (ai (g_ff c18) (ai (g_ff c18) (ai (g_ff c18) (ai c17 (ai c16 (ai (g_ff c16) (ai (g_ff c16) (ai (g_ff c16) (ai (SlE.len hv10) (ai (g_ff c16) (ai (g_ff c16) (ai (g_ff c16) (ai c15 (ai (g_ff c15) (ai (g_ff c15) (ai (g_ff c15) (ai (SlE.len hv11) (ai (g_ff c15) (ai (g_ff c15) (ai (g_ff c15) (ai c14 (ai (g_ff c14) (ai (g_ff c14) (ai (g_ff c14) (ai (SlE.len hv9) (ai (g_ff c14) (ai (g_ff c14) (ai (g_ff c14) (ai (F46_spec x1 x2 x3 l4 l5 l6 v4 v5 v6 h hv4 hv5 hv6 _ e12) trivial))))))))))))))))))))))))))))))))))))))))))))))))))))))) (hr := by kernel_rfl)
                      · refine bind_opt fun y44 e44 => ?_
                        refine dec_bif (fun c45 => ?_) (fun c45 => ?_)
                        · intro hr
                          obtain rfl := Option.some.inj hr
                          exact pFun_sound good tab_ok (f := 22) (its := [.g, .g, .g, .g, (.c (.bool y12) h), .g, .g, (.w .g), (.w .g), (.w (.ln l9.length)), (.w .g), (.w .g), (.w .g), (.p false), .g, (.w .g), (.w .g), (.w (.ln l11.length)), (.w .g), (.w .g), (.w .g), (.p false), .g, (.w .g), (.w .g), (.w (.ln l10.length)), (.w .g), (.w .g), (.w .g), (.p false), (.b false), .g, .g, .g, .g, (.w .g), (.w .g), (.w .g), (.p false), .g, (.w .g), (.w .g), (.w .g), (.w .g), (.w .g), (.w .g), (.p false), .g, (.w .g), (.w .g), (.w .g), (.p false), .g, (.w .g), (.w .g), (.w .g), (.p false), (.b false), .g, .g, .g, .g, (.c (.bool y23) h), .g, (.w .g), (.w .g), (.w .g), (.w (.c (.bool y26) h)), (.p false), (.b false), .g, .g, (.ln l6.length), .g, (.l F22_m1_1 [] .ret (F22_x1_0 h y44))]) (args := [.agg #[.int .i64 x1, .int .i64 x2, .bool x3, (sv v4), (sv v5), (sv v6)], .agg #[.int .i64 x7, .int .i64 x8, (sv v9), (sv v10), (sv v11)]]) (h := h) (h' := h) (v := .bool false) (hC := (ai (F22_l1_0 h x1 x2 x3 v4 l5 v5 hv5 l6 v6 hv6 x7 x8 v9 v10 l11 v11 hv11 0 y44 e44 c45) (ai (SlE.len hv6) (ai c28 (ai c25 (ai (F44w47_spec l10 v10 h hv10 _ e26) (ai (g_ff c25) (ai (g_ff c25) (ai (g_ff c25) (ai (g_ff c25) (ai (F44w47_spec l9 v9 h hv9 _ e23) (ai c22 (ai c21 (ai (g_ff c21) (ai (g_ff c21) (ai (g_ff c21) (ai c20 (ai (g_ff c20) (ai (g_ff c20) (ai (g_ff c20) (ai c19 (ai (g_ff c19) (ai (g_ff c19) (ai (g_ff c19) (ai (g_ff c19) (ai (g_ff c19) (ai (g_ff c19) (ai c18 (ai (g_ff c18) (ai (g_ff c18) (ai (g_ff c18) (ai c17 (ai c16 (ai (g_ff c16) (ai (g_ff c16) (ai (g_ff c16) (ai (SlE.len hv10) (ai (g_ff c16) (ai (g_ff c16) (ai (g_ff c16) (ai c15 (ai (g_ff c15) (ai (g_ff c15) (ai (g_ff c15) (ai (SlE.len hv11) (ai (g_ff c15) (ai (g_ff c15) (ai (g_ff c15) (ai c14 (ai (g_ff c14) (ai (g_ff c14) (ai (g_ff c14) (ai (SlE.len hv9) (ai (g_ff c14) (ai (g_ff c14) (ai (g_ff c14) (ai (F46_spec x1 x2 x3 l4 l5 l6 v4 v5 v6 h hv4 hv5 hv6 _ e12) trivial))))))))))))))))))))))))))))))))))))))))))))))))))))))))) (hr := by kernel_rfl)
                        · intro hr
                          obtain rfl := Option.some.inj hr
                          exact pFun_sound good tab_ok (f := 22) (its := [.g, .g, .g, .g, (.c (.bool y12) h), .g, .g, (.w .g), (.w .g), (.w (.ln l9.length)), (.w .g), (.w .g), (.w .g), (.p false), .g, (.w .g), (.w .g), (.w (.ln l11.length)), (.w .g), (.w .g), (.w .g), (.p false), .g, (.w .g), (.w .g), (.w (.ln l10.length)), (.w .g), (.w .g), (.w .g), (.p false), (.b false), .g, .g, .g, .g, (.w .g), (.w .g), (.w .g), (.p false), .g, (.w .g), (.w .g), (.w .g), (.w .g), (.w .g), (.w .g), (.p false), .g, (.w .g), (.w .g), (.w .g), (.p false), .g, (.w .g), (.w .g), (.w .g), (.p false), (.b false), .g, .g, .g, .g, (.c (.bool y23) h), .g, (.w .g), (.w .g), (.w .g), (.w (.c (.bool y26) h)), (.p false), (.b false), .g, .g, (.ln l6.length), .g, (.l F22_m1_1 [] (.exit 0) (F22_x1_1 h y44)), .g]) (args := [.agg #[.int .i64 x1, .int .i64 x2, .bool x3, (sv v4), (sv v5), (sv v6)], .agg #[.int .i64 x7, .int .i64 x8, (sv v9), (sv v10), (sv v11)]]) (h := h) (h' := h) (v := .bool true) (hC := (ai (F22_l1_1 h x1 x2 x3 v4 l5 v5 hv5 l6 v6 hv6 x7 x8 v9 v10 l11 v11 hv11 0 y44 e44 c45) (ai (SlE.len hv6) (ai c28 (ai c25 (ai (F44w47_spec l10 v10 h hv10 _ e26) (ai (g_ff c25) (ai (g_ff c25) (ai (g_ff c25) (ai (g_ff c25) (ai (F44w47_spec l9 v9 h hv9 _ e23) (ai c22 (ai c21 (ai (g_ff c21) (ai (g_ff c21) (ai (g_ff c21) (ai c20 (ai (g_ff c20) (ai (g_ff c20) (ai (g_ff c20) (ai c19 (ai (g_ff c19) (ai (g_ff c19) (ai (g_ff c19) (ai (g_ff c19) (ai (g_ff c19) (ai (g_ff c19) (ai c18 (ai (g_ff c18) (ai (g_ff c18) (ai (g_ff c18) (ai c17 (ai c16 (ai (g_ff c16) (ai (g_ff c16) (ai (g_ff c16) (ai (SlE.len hv10) (ai (g_ff c16) (ai (g_ff c16) (ai (g_ff c16) (ai c15 (ai (g_ff c15) (ai (g_ff c15) (ai (g_ff c15) (ai (SlE.len hv11) (ai (g_ff c15) (ai (g_ff c15) (ai (g_ff c15) (ai c14 (ai (g_ff c14) (ai (g_ff c14) (ai (g_ff c14) (ai (SlE.len hv9) (ai (g_ff c14) (ai (g_ff c14) (ai (g_ff c14) (ai (F46_spec x1 x2 x3 l4 l5 l6 v4 v5 v6 h hv4 hv5 hv6 _ e12) trivial))))))))))))))))))))))))))))))))))))))))))))))))))))))))) (hr := by kernel_rfl)
/-! 45 jacquard/schedcheck.Check$1 -/
def F45 (x1 : Int) : Bool :=
  (x1 != 0)
set_option maxRecDepth 100000 in
theorem F45_spec (x1 : Int) (h : AHeap)  (r : Bool) : F45 x1 = r → ACalls Try.prog 45 [.int .i64 x1] h (fun v' h'' => v' = (.bool r : Value) ∧ h'' = h) := by
  unfold F45
  intro hr
  subst hr
  exact pFun_sound good tab_ok (f := 45) (its := [.g, .g, .g, .g]) (args := [.int .i64 x1]) (h := h) (h' := h) (v := .bool (x1 != 0)) (hC := trivial) (hr := by kernel_rfl)
/-! 40 jacquard/schedcheck.start -/
def F40 (x1 : Int) (x2 : Int) (x3 : Bool) (l4 : List (Int × Int × Int × Int)) (l5 : List (Int × Int × Int × Int)) (l6 : List (Int × Int)) (x7 : Int) (x8 : Int) (l9 : List Int) (l10 : List Int) (l11 : List Int) (x12 : Int) : Option (Int) :=
  (bif decide (x12 < x1) then
   (Option.bind (at? l9 x12) fun y14 =>
   some (y14))
  else
   (bif decide (x12 < (F67 x1 x2 x3 l4 l5 l6)) then
    (Option.bind (at? l10 (IntKind.i64.wrap (x12 - x1))) fun y17 =>
    some (y17))
   else
    (bif (x12 == (F67 x1 x2 x3 l4 l5 l6)) then
     some (0)
    else
     some (x8))))
set_option maxRecDepth 100000 in
theorem F40_spec (x1 : Int) (x2 : Int) (x3 : Bool) (l4 : List (Int × Int × Int × Int)) (l5 : List (Int × Int × Int × Int)) (l6 : List (Int × Int)) (x7 : Int) (x8 : Int) (l9 : List Int) (l10 : List Int) (l11 : List Int) (x12 : Int) (v4 : Hd) (v5 : Hd) (v6 : Hd) (v9 : Hd) (v10 : Hd) (v11 : Hd) (h : AHeap) (hv4 : SlE E37 4 h (sv v4) l4) (hv5 : SlE E79 4 h (sv v5) l5) (hv6 : SlE E77 2 h (sv v6) l6) (hv9 : SlE E3 1 h (sv v9) l9) (hv10 : SlE E3 1 h (sv v10) l10) (hv11 : SlE E3 1 h (sv v11) l11) (r : Int) : F40 x1 x2 x3 l4 l5 l6 x7 x8 l9 l10 l11 x12 = some r → ACalls Try.prog 40 [.agg #[.int .i64 x1, .int .i64 x2, .bool x3, (sv v4), (sv v5), (sv v6)], .agg #[.int .i64 x7, .int .i64 x8, (sv v9), (sv v10), (sv v11)], .int .i64 x12] h (fun v' h'' => v' = (.int .i64 r : Value) ∧ h'' = h) := by
  unfold F40
  refine dec_bif (fun c13 => ?_) (fun c13 => ?_)
  · refine bind_opt fun y14 e14 => ?_
    obtain ⟨id14, off14, g14, cs14, ix14, at14, rfl⟩ := SlE.at hv9 e14
    intro hr
    obtain rfl := Option.some.inj hr
    exact pFun_sound good tab_ok (f := 40) (its := [.g, .g, .g, .g, .g, .g, .g, .g, (.b true), .g, .g, .g, (.ix id14 off14 g14), (.ld (.int .i64 y14)), .g]) (args := [.agg #[.int .i64 x1, .int .i64 x2, .bool x3, (sv v4), (sv v5), (sv v6)], .agg #[.int .i64 x7, .int .i64 x8, (sv v9), (sv v10), (sv v11)], .int .i64 x12]) (h := h) (h' := h) (v := .int .i64 y14) (hC := (ai (At.one (P := Try.prog) (t := 3) (v := .int .i64 y14) at14 (by kernel_rfl) 0 rfl rfl) (ai ix14 (ai c13 trivial)))) (hr := by kernel_rfl)
  · refine dec_bif (fun c16 => ?_) (fun c16 => ?_)
    · refine bind_opt fun y17 e17 => ?_
      obtain ⟨id17, off17, g17, cs17, ix17, at17, rfl⟩ := SlE.at hv10 e17
      intro hr
      obtain rfl := Option.some.inj hr
      exact pFun_sound good tab_ok (f := 40) (its := [.g, .g, .g, .g, .g, .g, .g, .g, (.b false), .g, .g, (.c (.int .i64 (F67 x1 x2 x3 l4 l5 l6)) h), .g, .g, (.b true), .g, .g, .g, .g, .g, .g, (.ix id17 off17 g17), (.ld (.int .i64 y17)), .g]) (args := [.agg #[.int .i64 x1, .int .i64 x2, .bool x3, (sv v4), (sv v5), (sv v6)], .agg #[.int .i64 x7, .int .i64 x8, (sv v9), (sv v10), (sv v11)], .int .i64 x12]) (h := h) (h' := h) (v := .int .i64 y17) (hC := (ai (At.one (P := Try.prog) (t := 3) (v := .int .i64 y17) at17 (by kernel_rfl) 0 rfl rfl) (ai ix17 (ai c16 (ai (F67_spec x1 x2 x3 l4 l5 l6 v4 v5 v6 h hv4 hv5 hv6 _ rfl) (ai c13 trivial)))))) (hr := by kernel_rfl)
    · refine dec_bif (fun c19 => ?_) (fun c19 => ?_)
      · intro hr
        obtain rfl := Option.some.inj hr
        exact pFun_sound good tab_ok (f := 40) (its := [.g, .g, .g, .g, .g, .g, .g, .g, (.b false), .g, .g, (.c (.int .i64 (F67 x1 x2 x3 l4 l5 l6)) h), .g, .g, (.b false), .g, .g, (.c (.int .i64 (F67 x1 x2 x3 l4 l5 l6)) h), .g, .g, (.b true), .g]) (args := [.agg #[.int .i64 x1, .int .i64 x2, .bool x3, (sv v4), (sv v5), (sv v6)], .agg #[.int .i64 x7, .int .i64 x8, (sv v9), (sv v10), (sv v11)], .int .i64 x12]) (h := h) (h' := h) (v := .int .i64 0) (hC := (ai c19 (ai (F67_spec x1 x2 x3 l4 l5 l6 v4 v5 v6 h hv4 hv5 hv6 _ rfl) (ai c16 (ai (F67_spec x1 x2 x3 l4 l5 l6 v4 v5 v6 h hv4 hv5 hv6 _ rfl) (ai c13 trivial)))))) (hr := by kernel_rfl)
      · intro hr
        obtain rfl := Option.some.inj hr
        exact pFun_sound good tab_ok (f := 40) (its := [.g, .g, .g, .g, .g, .g, .g, .g, (.b false), .g, .g, (.c (.int .i64 (F67 x1 x2 x3 l4 l5 l6)) h), .g, .g, (.b false), .g, .g, (.c (.int .i64 (F67 x1 x2 x3 l4 l5 l6)) h), .g, .g, (.b false), .g, .g, .g]) (args := [.agg #[.int .i64 x1, .int .i64 x2, .bool x3, (sv v4), (sv v5), (sv v6)], .agg #[.int .i64 x7, .int .i64 x8, (sv v9), (sv v10), (sv v11)], .int .i64 x12]) (h := h) (h' := h) (v := .int .i64 x8) (hC := (ai c19 (ai (F67_spec x1 x2 x3 l4 l5 l6 v4 v5 v6 h hv4 hv5 hv6 _ rfl) (ai c16 (ai (F67_spec x1 x2 x3 l4 l5 l6 v4 v5 v6 h hv4 hv5 hv6 _ rfl) (ai c13 trivial)))))) (hr := by kernel_rfl)
/-! 13 jacquard/schedcheck.Slack -/
def F13_L : List Nat := [2, 3, 7]
def F13_D : List (Nat × List (Nat × Nat)) := [(7, [(0, 2), (1, 2), (2, 2), (3, 2), (4, 2), (8, 2), (12, 2), (14, 2), (16, 2), (6, 3), (7, 3), (9, 3), (13, 3), (15, 3), (17, 3), (18, 2), (19, 2), (5, 1), (10, 1), (11, 2), (20, 2), (21, 0), (22, 0), (23, 2)])]
def F13__1 (x7 : Int) (y21 : Int × Int × Int × Int) (y22 : Int) (y24 : Int) : Int := (IntKind.i64.wrap ((IntKind.i64.wrap (y22 - y24)) - (IntKind.i64.wrap (y21.2.2.1 - (IntKind.i64.wrap (x7 * y21.2.2.2))))))
def F13_m1_1 : List Bool := [true, true, true, true, true, false, true, true, true, true, true, true, true, true, true, true, true, true, true, true, true, true, true, true, true, true, true, true, true, true, true, true, true, true, true, true, true, true, true, true, true, true, true, true]
def F13_m1_0 : List Bool := [true, true, false, false, true, false, true, true, true, true, true, true, true, false, false, false, true, true, true, true, true, true, true, true, true, true, true, true, true, true, true, true, true, true, true, true, true, true, true, true, true, true, true, true]
def F13_s1 (x1 : Int) (x2 : Int) (x3 : Bool) (l4 : List (Int × Int × Int × Int)) (l5 : List (Int × Int × Int × Int)) (l6 : List (Int × Int)) (x7 : Int) (x8 : Int) (l9 : List Int) (l10 : List Int) (l11 : List Int) (a17 : Int) (l18 : List Int) : Option ((Int × (List Int)) ⊕ (List Int)) :=
  (bif decide (a17 < (l4.length : Int)) then
   (Option.bind (at? l4 a17) fun y21 =>
   (Option.bind (F40 x1 x2 x3 l4 l5 l6 x7 x8 l9 l10 l11 y21.2.1) fun y22 =>
   (Option.bind (F40 x1 x2 x3 l4 l5 l6 x7 x8 l9 l10 l11 y21.1) fun y24 =>
   (bif (!(okApp (l18.length + ([(F13__1 x7 y21 y22 y24)] : List Int).length) 8)) then none else
   some (.inl ((IntKind.i64.wrap (a17 + 1)), (l18 ++ ([(F13__1 x7 y21 y22 y24)] : List Int))))))))
  else
   some (.inr l18))
def F13_h1 (x1 : Int) (x2 : Int) (x3 : Bool) (l4 : List (Int × Int × Int × Int)) (v4 : Hd) (v5 : Hd) (v6 : Hd) (x7 : Int) (x8 : Int) (v9 : Hd) (v10 : Hd) (v11 : Hd) (h19 : AHeap) (u18 : Hd) (a17 : Int) (l18 : List Int) : AS := ⟨[junk, junk, .pointer (some ⟨2, 0, none⟩), .pointer (some ⟨3, 0, none⟩), junk, (sv u18), junk, junk, junk, junk, junk, junk, junk, (sv v4), .int .i64 (l4.length : Int), .int .i64 a17, junk, junk, junk, junk, junk, junk, junk, junk, junk, junk, junk, junk, junk, junk, junk, junk, junk, junk, junk, junk, junk, junk, junk, junk, junk, junk, junk, junk], [(2, [.int .i64 x1, .int .i64 x2, .bool x3, (sv v4), (sv v5), (sv v6)]), (3, [.int .i64 x7, .int .i64 x8, (sv v9), (sv v10), (sv v11)])], h19⟩
theorem F13_d1 : drawsOk F13_D (codeOf Try.prog 13 [1, 1, 1, 0, 1, 0, 0]) = true := by kernel_rfl
def F13_x1_0 (h : AHeap) (hx : AHeap) (w0 : Hd) (r : (List Int)) : AS := ⟨[junk, junk, junk, junk, junk, (sv w0), junk, junk, junk, junk, junk, junk, junk, junk, junk, junk, junk, junk, junk, junk, junk, junk, junk, junk, junk, junk, junk, junk, junk, junk, junk, junk, junk, junk, junk, junk, junk, junk, junk, junk, junk, junk, junk, junk], [], hx⟩
def F13_i1 (h : AHeap) (x1 : Int) (x2 : Int) (x3 : Bool) (l4 : List (Int × Int × Int × Int)) (v4 : Hd) (v5 : Hd) (v6 : Hd) (x7 : Int) (x8 : Int) (v9 : Hd) (v10 : Hd) (v11 : Hd) (s : Int × (List Int)) (S : AS) : Prop := ∃ (h19 : AHeap) (u18 : Hd), Heapy h h19 [⟨u18, 3, 1, List.flatMap enc3 s.2⟩] ∧ Strict u18 ∧ S = (F13_h1 x1 x2 x3 l4 v4 v5 v6 x7 x8 v9 v10 v11 h19 u18 s.1 s.2)
def F13_x1 (h : AHeap) (r : (List Int)) (e : Exit) (S : AS) : Prop := e = (.exit 0) ∧ ∃ (hx : AHeap) (w0 : Hd), Heapy h hx [⟨w0, 3, 1, List.flatMap enc3 r⟩] ∧ Strict w0 ∧ S = (F13_x1_0 h hx w0 r)
set_option maxRecDepth 100000 in
theorem F13_r1 (h : AHeap) (x1 : Int) (x2 : Int) (x3 : Bool) (l4 : List (Int × Int × Int × Int)) (v4 : Hd) (hv4 : SlE E37 4 h (sv v4) l4) (l5 : List (Int × Int × Int × Int)) (v5 : Hd) (hv5 : SlE E79 4 h (sv v5) l5) (l6 : List (Int × Int)) (v6 : Hd) (hv6 : SlE E77 2 h (sv v6) l6) (x7 : Int) (x8 : Int) (l9 : List Int) (v9 : Hd) (hv9 : SlE E3 1 h (sv v9) l9) (l10 : List Int) (v10 : Hd) (hv10 : SlE E3 1 h (sv v10) l10) (l11 : List Int) (v11 : Hd) (hv11 : SlE E3 1 h (sv v11) l11) (a17 : Int) (l18 : List Int) (S : AS) (hI : (F13_i1 h x1 x2 x3 l4 v4 v5 v6 x7 x8 v9 v10 v11) (a17, l18) S) (o : (Int × (List Int)) ⊕ (List Int)) : F13_s1 x1 x2 x3 l4 l5 l6 x7 x8 l9 l10 l11 a17 l18 = some o → Rd Try.prog (codeOf Try.prog 13 [1, 1, 1, 0, 1, 0, 0]) (F13_i1 h x1 x2 x3 l4 v4 v5 v6 x7 x8 v9 v10 v11) (F13_x1 h) S o := by
  obtain ⟨h19, u18, hp19, z18, rfl⟩ := hI
  unfold F13_s1
  refine dec_bif (fun c20 => ?_) (fun c20 => ?_)
  · refine bind_opt fun y21 e21 => ?_
    obtain ⟨id21, off21, g21, cs21, ix21, at21, rfl⟩ := SlE.at hv4 e21
    refine bind_opt fun y22 e22 => ?_
    refine bind_opt fun y24 e24 => ?_
    obtain ⟨v26, h26, m26, hp26, _⟩ := Heapy.build (P := Try.prog) hp19 (t := 27) (e := 3) (len := 1) (n := 1) (parts := [(0, .int .i64 (F13__1 x7 y21 y22 y24))]) (cells := List.flatMap enc3 ([(F13__1 x7 y21 y22 y24)] : List Int)) (by kernel_rfl) rfl
    refine guard_ok fun g28 => ?_
    obtain ⟨v29, h29, m29, q29, _, w29⟩ := Heapy.append hp26 (show mkInfo Try.prog 27 = some (3, 1, 8, [.int .i64 0]) by kernel_rfl) 1 (v := u18) (cells := List.flatMap enc3 l18) rfl (Y := (sv v26)) (SlE.src (enc := enc3) (c := 1) (Heapy.sle (v := v26) (xs := ([(F13__1 x7 y21 y22 y24)] : List Int)) (enc := enc3) hp26 0 rfl (fun _ => rfl) (by decide)) (fun _ => rfl)) (flatMap_length (enc := enc3) (c := 1) (fun _ => rfl) _) (by rw [Heapy.vn (v := u18) (xs := l18) (enc := enc3) hp26 1 rfl (fun _ => rfl) (by decide)]; simpa using g28)
    have z29 : Strict v29 := w29 z18
    have hp29 : Heapy h h29 [⟨v26, 3, 1, List.flatMap enc3 ([(F13__1 x7 y21 y22 y24)] : List Int)⟩, ⟨v29, 3, 1, List.flatMap enc3 (l18 ++ ([(F13__1 x7 y21 y22 y24)] : List Int))⟩] := by rw [← List.flatMap_append] at q29; exact q29
    intro hr
    obtain rfl := Option.some.inj hr
    exact ⟨(F13_h1 x1 x2 x3 l4 v4 v5 v6 x7 x8 v9 v10 v11 h29 v29 (IntKind.i64.wrap (a17 + 1)) (l18 ++ ([(F13__1 x7 y21 y22 y24)] : List Int))), ⟨h29, v29, (Heapy.pick hp29 [1] (by decide)), z29, rfl⟩, pEnd_sound good (L := F13_L) (D := F13_D) (its := [.g, (.b true), (.ix id21 off21 g21), (.ld (.agg #[.int .i64 y21.1, .int .i64 y21.2.1, .int .i64 y21.2.2.1, .int .i64 y21.2.2.2])), .g, .g, .g, .g, .g, .g, .g, .g, .g, .g, .g, .g, .g, .g, .g, .g, .g, .g, .g, (.c (.int .i64 y22) h19), (.c (.int .i64 y24) h19), .g, .g, (.mm (sv v26) h26), (.mm (sv v29) h29), .g, .g, .g]) (ds := F13_m1_0) (ks := [7]) (e := .normal) (s2 := (F13_h1 x1 x2 x3 l4 v4 v5 v6 x7 x8 v9 v10 v11 h29 v29 (IntKind.i64.wrap (a17 + 1)) (l18 ++ ([(F13__1 x7 y21 y22 y24)] : List Int)))) (hC := (ai m29 (ai m26 (ai (show AKeep h19 h19 from (AHeap.sub_refl h19)) (ai (F40_spec x1 x2 x3 l4 l5 l6 x7 x8 l9 l10 l11 y21.1 v4 v5 v6 v9 v10 v11 h19 (SlE.mono hv4 (Heapy.sub hp19) (E37_mono (Heapy.sub hp19))) (SlE.mono hv5 (Heapy.sub hp19) (E79_mono (Heapy.sub hp19))) (SlE.mono hv6 (Heapy.sub hp19) (E77_mono (Heapy.sub hp19))) (SlE.mono hv9 (Heapy.sub hp19) (E3_mono (Heapy.sub hp19))) (SlE.mono hv10 (Heapy.sub hp19) (E3_mono (Heapy.sub hp19))) (SlE.mono hv11 (Heapy.sub hp19) (E3_mono (Heapy.sub hp19))) _ e24) (ai (show AKeep h19 h19 from (AHeap.sub_refl h19)) (ai (F40_spec x1 x2 x3 l4 l5 l6 x7 x8 l9 l10 l11 y21.2.1 v4 v5 v6 v9 v10 v11 h19 (SlE.mono hv4 (Heapy.sub hp19) (E37_mono (Heapy.sub hp19))) (SlE.mono hv5 (Heapy.sub hp19) (E79_mono (Heapy.sub hp19))) (SlE.mono hv6 (Heapy.sub hp19) (E77_mono (Heapy.sub hp19))) (SlE.mono hv9 (Heapy.sub hp19) (E3_mono (Heapy.sub hp19))) (SlE.mono hv10 (Heapy.sub hp19) (E3_mono (Heapy.sub hp19))) (SlE.mono hv11 (Heapy.sub hp19) (E3_mono (Heapy.sub hp19))) _ e22) (ai (At.agg (P := Try.prog) (t := 37) (v := .agg #[.int .i64 y21.1, .int .i64 y21.2.1, .int .i64 y21.2.2.1, .int .i64 y21.2.2.2]) (m := 4) (At.mono (Heapy.sub hp19) at21) (by kernel_rfl) (by kernel_rfl) 0 (by kernel_rfl) rfl) (ai ix21 (ai c20 trivial)))))))))) (hd := F13_d1) (h := by kernel_rfl)⟩
  · intro hr
    obtain rfl := Option.some.inj hr
    refine ⟨(.exit 0), (F13_x1_0 h h19 u18 (l18 : (List Int))), (by intro hh; cases hh), ?_, pEnd_sound good (L := F13_L) (D := F13_D) (its := [.g, (.b false)]) (ds := F13_m1_1) (ks := [2, 3]) (e := (.exit 0)) (s2 := (F13_x1_0 h h19 u18 (l18 : (List Int)))) (hC := (ai c20 trivial)) (hd := F13_d1) (h := by kernel_rfl)⟩
    exact ⟨rfl, h19, u18, (Heapy.pick hp19 [0] (by decide)), z18, rfl⟩
theorem F13_l1 (h : AHeap) (x1 : Int) (x2 : Int) (x3 : Bool) (l4 : List (Int × Int × Int × Int)) (v4 : Hd) (hv4 : SlE E37 4 h (sv v4) l4) (l5 : List (Int × Int × Int × Int)) (v5 : Hd) (hv5 : SlE E79 4 h (sv v5) l5) (l6 : List (Int × Int)) (v6 : Hd) (hv6 : SlE E77 2 h (sv v6) l6) (x7 : Int) (x8 : Int) (l9 : List Int) (v9 : Hd) (hv9 : SlE E3 1 h (sv v9) l9) (l10 : List Int) (v10 : Hd) (hv10 : SlE E3 1 h (sv v10) l10) (l11 : List Int) (v11 : Hd) (hv11 : SlE E3 1 h (sv v11) l11) (x : Int × (List Int)) (r : (List Int)) (hl : loopO (fun (s : Int × (List Int)) => F13_s1 x1 x2 x3 l4 l5 l6 x7 x8 l9 l10 l11 s.1 s.2) x = some r) (S : AS) (hI : (F13_i1 h x1 x2 x3 l4 v4 v5 v6 x7 x8 v9 v10 v11) x S) : ∃ e S', (F13_x1 h) r e S' ∧ AWp Try.prog (.loop (codeOf Try.prog 13 [1, 1, 1, 0, 1, 0, 0])) (Ends1 e S') S :=
  loop_rel (fun x S hI => F13_r1 h x1 x2 x3 l4 v4 hv4 l5 v5 hv5 l6 v6 hv6 x7 x8 l9 v9 hv9 l10 v10 hv10 l11 v11 hv11 x.1 x.2 S hI) hl hI
def F13 (x1 : Int) (x2 : Int) (x3 : Bool) (l4 : List (Int × Int × Int × Int)) (l5 : List (Int × Int × Int × Int)) (l6 : List (Int × Int)) (x7 : Int) (x8 : Int) (l9 : List Int) (l10 : List Int) (l11 : List Int) : Option ((List Int)) :=
  (Option.bind (F22 x1 x2 x3 l4 l5 l6 x7 x8 l9 l10 l11) fun y12 =>
  (bif (!y12) then
   some ([])
  else
   (Option.bind (loopO (fun (s : Int × (List Int)) => F13_s1 x1 x2 x3 l4 l5 l6 x7 x8 l9 l10 l11 s.1 s.2) (0, ([] : List Int))) fun y31 =>
   some (y31))))
set_option maxRecDepth 100000 in
theorem F13_spec (x1 : Int) (x2 : Int) (x3 : Bool) (l4 : List (Int × Int × Int × Int)) (l5 : List (Int × Int × Int × Int)) (l6 : List (Int × Int)) (x7 : Int) (x8 : Int) (l9 : List Int) (l10 : List Int) (l11 : List Int) (v4 : Hd) (v5 : Hd) (v6 : Hd) (v9 : Hd) (v10 : Hd) (v11 : Hd) (h : AHeap) (hw : h.wf) (hv4 : SlE E37 4 h (sv v4) l4) (hv5 : SlE E79 4 h (sv v5) l5) (hv6 : SlE E77 2 h (sv v6) l6) (hv9 : SlE E3 1 h (sv v9) l9) (hv10 : SlE E3 1 h (sv v10) l10) (hv11 : SlE E3 1 h (sv v11) l11) (r : (List Int)) : F13 x1 x2 x3 l4 l5 l6 x7 x8 l9 l10 l11 = some r → ∃ (ur0 : Hd) (h' : AHeap), Heapy h h' [⟨ur0, 3, 1, List.flatMap enc3 r⟩] ∧ Strict ur0 ∧ ACalls Try.prog 13 [.agg #[.int .i64 x1, .int .i64 x2, .bool x3, (sv v4), (sv v5), (sv v6)], .agg #[.int .i64 x7, .int .i64 x8, (sv v9), (sv v10), (sv v11)]] h (fun v' h'' => v' = ((sv ur0) : Value) ∧ h'' = h') := by
  unfold F13
  refine bind_opt fun y12 e12 => ?_
  refine dec_bif (fun c14 => ?_) (fun c14 => ?_)
  · intro hr
    obtain rfl := Option.some.inj hr
    exact ⟨⟨none, 0, 0⟩, h, Heapy.pick (Heapy.nil (Heapy.refl hw) 3 1) [0] (by decide), Strict.nil, pFun_sound good tab_ok (f := 13) (its := [.g, .g, .g, .g, .g, (.c (.bool y12) h), .g, (.b true), .g]) (args := [.agg #[.int .i64 x1, .int .i64 x2, .bool x3, (sv v4), (sv v5), (sv v6)], .agg #[.int .i64 x7, .int .i64 x8, (sv v9), (sv v10), (sv v11)]]) (h := h) (h' := h) (v := .slice none 0 0) (hC := (ai c14 (ai (F22_spec x1 x2 x3 l4 l5 l6 x7 x8 l9 l10 l11 v4 v5 v6 v9 v10 v11 h hv4 hv5 hv6 hv9 hv10 hv11 _ e12) trivial))) (hr := by kernel_rfl)⟩
  · refine bind_opt fun y31 e31 => ?_
    have hp15 : Heapy h h [⟨⟨none, 0, 0⟩, 3, 1, List.flatMap enc3 ([] : List Int)⟩] := Heapy.nil (Heapy.refl hw) 3 1
    obtain ⟨ee31, SS31, hX31, hA31⟩ := F13_l1 h x1 x2 x3 l4 v4 hv4 l5 v5 hv5 l6 v6 hv6 x7 x8 l9 v9 hv9 l10 v10 hv10 l11 v11 hv11 (0, ([] : List Int)) y31 e31 (F13_h1 x1 x2 x3 l4 v4 v5 v6 x7 x8 v9 v10 v11 h ⟨none, 0, 0⟩ 0 ([] : List Int)) ⟨h, ⟨none, 0, 0⟩, (Heapy.pick hp15 [0] (by decide)), Strict.nil, rfl⟩
    obtain ⟨rfl, h32, w0_32, hp32, zw0_32, rfl⟩ := hX31
    intro hr
    obtain rfl := Option.some.inj hr
    exact ⟨w0_32, h32, Heapy.pick hp32 [0] (by decide), zw0_32, pFun_sound good tab_ok (f := 13) (its := [.g, .g, .g, .g, .g, (.c (.bool y12) h), .g, (.b false), .g, .g, .g, (.ln l4.length), .g, (.l F13_m1_0 [] (.exit 0) (F13_x1_0 h h32 w0_32 y31)), .g, .g]) (args := [.agg #[.int .i64 x1, .int .i64 x2, .bool x3, (sv v4), (sv v5), (sv v6)], .agg #[.int .i64 x7, .int .i64 x8, (sv v9), (sv v10), (sv v11)]]) (h := h) (h' := h32) (v := (sv w0_32)) (hC := (ai hA31 (ai (SlE.len hv4) (ai c14 (ai (F22_spec x1 x2 x3 l4 l5 l6 x7 x8 l9 l10 l11 v4 v5 v6 v9 v10 v11 h hv4 hv5 hv6 hv9 hv10 hv11 _ e12) trivial))))) (hr := by kernel_rfl)⟩
/-! 12 jacquard/schedcheck.Late -/
def F12_L : List Nat := [2, 3]
def F12_D : List (Nat × List (Nat × Nat)) := []
def F12_m1_1 : List Bool := [true, true, true, true, true, false, true, true, true, true, true, true, true, true, true, true, true, true, true, true, true, true, true, true, true]
def F12_m1_0 : List Bool := [true, true, true, true, true, false, true, true, true, true, false, false, false, true, true, true, true, true, true, true, true, true, true, true, true]
def F12_s1 (y12 : (List Int)) (a17 : Int) (l18 : List Int) : Option ((Int × (List Int)) ⊕ (List Int)) :=
  (bif decide (a17 < (y12.length : Int)) then
   (Option.bind (at? y12 a17) fun y21 =>
   (bif decide (y21 < 0) then
    (bif (!(okApp (l18.length + ([a17] : List Int).length) 8)) then none else
    some (.inl ((IntKind.i64.wrap (a17 + 1)), (l18 ++ ([a17] : List Int)))))
   else
    some (.inl ((IntKind.i64.wrap (a17 + 1)), l18))))
  else
   some (.inr l18))
def F12_h1 (y12 : (List Int)) (u13_0 : Hd) (h19 : AHeap) (u18 : Hd) (a17 : Int) (l18 : List Int) : AS := ⟨[junk, junk, junk, junk, junk, (sv u18), junk, junk, junk, junk, (sv u13_0), .int .i64 (y12.length : Int), .int .i64 a17, junk, junk, junk, junk, junk, junk, junk, junk, junk, junk, junk, junk], [], h19⟩
theorem F12_d1 : drawsOk F12_D (codeOf Try.prog 12 [1, 1, 0, 1, 0, 0]) = true := by kernel_rfl
def F12_x1_0 (h : AHeap) (hx : AHeap) (w0 : Hd) (r : (List Int)) : AS := ⟨[junk, junk, junk, junk, junk, (sv w0), junk, junk, junk, junk, junk, junk, junk, junk, junk, junk, junk, junk, junk, junk, junk, junk, junk, junk, junk], [], hx⟩
def F12_i1 (h : AHeap) (y12 : (List Int)) (u13_0 : Hd) (s : Int × (List Int)) (S : AS) : Prop := ∃ (h19 : AHeap) (u18 : Hd), Heapy h h19 [⟨u18, 3, 1, List.flatMap enc3 s.2⟩, ⟨u13_0, 3, 1, List.flatMap enc3 y12⟩] ∧ Strict u18 ∧ S = (F12_h1 y12 u13_0 h19 u18 s.1 s.2)
def F12_x1 (h : AHeap) (r : (List Int)) (e : Exit) (S : AS) : Prop := e = (.exit 0) ∧ ∃ (hx : AHeap) (w0 : Hd), Heapy h hx [⟨w0, 3, 1, List.flatMap enc3 r⟩] ∧ Strict w0 ∧ S = (F12_x1_0 h hx w0 r)
set_option maxRecDepth 100000 in
theorem F12_r1 (h : AHeap) (y12 : (List Int)) (u13_0 : Hd) (a17 : Int) (l18 : List Int) (S : AS) (hI : (F12_i1 h y12 u13_0) (a17, l18) S) (o : (Int × (List Int)) ⊕ (List Int)) : F12_s1 y12 a17 l18 = some o → Rd Try.prog (codeOf Try.prog 12 [1, 1, 0, 1, 0, 0]) (F12_i1 h y12 u13_0) (F12_x1 h) S o := by
  obtain ⟨h19, u18, hp19, z18, rfl⟩ := hI
  unfold F12_s1
  refine dec_bif (fun c20 => ?_) (fun c20 => ?_)
  · refine bind_opt fun y21 e21 => ?_
    obtain ⟨id21, off21, g21, cs21, ix21, at21, rfl⟩ := SlE.at (Heapy.sle (v := u13_0) (xs := y12) (enc := enc3) hp19 1 rfl (fun _ => rfl) (by decide)) e21
    refine dec_bif (fun c22 => ?_) (fun c22 => ?_)
    · obtain ⟨v23, h23, m23, hp23, _⟩ := Heapy.build (P := Try.prog) hp19 (t := 27) (e := 3) (len := 1) (n := 1) (parts := [(0, .int .i64 a17)]) (cells := List.flatMap enc3 ([a17] : List Int)) (by kernel_rfl) rfl
      refine guard_ok fun g25 => ?_
      obtain ⟨v26, h26, m26, q26, _, w26⟩ := Heapy.append hp23 (show mkInfo Try.prog 27 = some (3, 1, 8, [.int .i64 0]) by kernel_rfl) 1 (v := u18) (cells := List.flatMap enc3 l18) rfl (Y := (sv v23)) (SlE.src (enc := enc3) (c := 1) (Heapy.sle (v := v23) (xs := ([a17] : List Int)) (enc := enc3) hp23 0 rfl (fun _ => rfl) (by decide)) (fun _ => rfl)) (flatMap_length (enc := enc3) (c := 1) (fun _ => rfl) _) (by rw [Heapy.vn (v := u18) (xs := l18) (enc := enc3) hp23 1 rfl (fun _ => rfl) (by decide)]; simpa using g25)
      have z26 : Strict v26 := w26 z18
      have hp26 : Heapy h h26 [⟨v23, 3, 1, List.flatMap enc3 ([a17] : List Int)⟩, ⟨v26, 3, 1, List.flatMap enc3 (l18 ++ ([a17] : List Int))⟩, ⟨u13_0, 3, 1, List.flatMap enc3 y12⟩] := by rw [← List.flatMap_append] at q26; exact q26
      intro hr
      obtain rfl := Option.some.inj hr
      exact ⟨(F12_h1 y12 u13_0 h26 v26 (IntKind.i64.wrap (a17 + 1)) (l18 ++ ([a17] : List Int))), ⟨h26, v26, (Heapy.pick hp26 [1, 2] (by decide)), z26, rfl⟩, pEnd_sound good (L := F12_L) (D := F12_D) (its := [.g, (.b true), .g, (.ix id21 off21 g21), (.ld (.int .i64 y21)), .g, .g, .g, .g, (.b true), .g, .g, (.mm (sv v23) h23), (.mm (sv v26) h26), .g, .g, .g]) (ds := F12_m1_0) (ks := []) (e := .normal) (s2 := (F12_h1 y12 u13_0 h26 v26 (IntKind.i64.wrap (a17 + 1)) (l18 ++ ([a17] : List Int)))) (hC := (ai m26 (ai m23 (ai c22 (ai (At.one (P := Try.prog) (t := 3) (v := .int .i64 y21) at21 (by kernel_rfl) 0 rfl rfl) (ai ix21 (ai c20 trivial))))))) (hd := F12_d1) (h := by kernel_rfl)⟩
    · intro hr
      obtain rfl := Option.some.inj hr
      exact ⟨(F12_h1 y12 u13_0 h19 u18 (IntKind.i64.wrap (a17 + 1)) l18), ⟨h19, u18, (Heapy.pick hp19 [0, 1] (by decide)), z18, rfl⟩, pEnd_sound good (L := F12_L) (D := F12_D) (its := [.g, (.b true), .g, (.ix id21 off21 g21), (.ld (.int .i64 y21)), .g, .g, .g, .g, (.b false), .g, .g]) (ds := F12_m1_0) (ks := []) (e := .normal) (s2 := (F12_h1 y12 u13_0 h19 u18 (IntKind.i64.wrap (a17 + 1)) l18)) (hC := (ai c22 (ai (At.one (P := Try.prog) (t := 3) (v := .int .i64 y21) at21 (by kernel_rfl) 0 rfl rfl) (ai ix21 (ai c20 trivial))))) (hd := F12_d1) (h := by kernel_rfl)⟩
  · intro hr
    obtain rfl := Option.some.inj hr
    refine ⟨(.exit 0), (F12_x1_0 h h19 u18 (l18 : (List Int))), (by intro hh; cases hh), ?_, pEnd_sound good (L := F12_L) (D := F12_D) (its := [.g, (.b false)]) (ds := F12_m1_1) (ks := []) (e := (.exit 0)) (s2 := (F12_x1_0 h h19 u18 (l18 : (List Int)))) (hC := (ai c20 trivial)) (hd := F12_d1) (h := by kernel_rfl)⟩
    exact ⟨rfl, h19, u18, (Heapy.pick hp19 [0] (by decide)), z18, rfl⟩
theorem F12_l1 (h : AHeap) (y12 : (List Int)) (u13_0 : Hd) (x : Int × (List Int)) (r : (List Int)) (hl : loopO (fun (s : Int × (List Int)) => F12_s1 y12 s.1 s.2) x = some r) (S : AS) (hI : (F12_i1 h y12 u13_0) x S) : ∃ e S', (F12_x1 h) r e S' ∧ AWp Try.prog (.loop (codeOf Try.prog 12 [1, 1, 0, 1, 0, 0])) (Ends1 e S') S :=
  loop_rel (fun x S hI => F12_r1 h y12 u13_0 x.1 x.2 S hI) hl hI
def F12 (x1 : Int) (x2 : Int) (x3 : Bool) (l4 : List (Int × Int × Int × Int)) (l5 : List (Int × Int × Int × Int)) (l6 : List (Int × Int)) (x7 : Int) (x8 : Int) (l9 : List Int) (l10 : List Int) (l11 : List Int) : Option ((List Int)) :=
  (Option.bind (F13 x1 x2 x3 l4 l5 l6 x7 x8 l9 l10 l11) fun y12 =>
  (Option.bind (loopO (fun (s : Int × (List Int)) => F12_s1 y12 s.1 s.2) (0, ([] : List Int))) fun y28 =>
  some (y28)))
set_option maxRecDepth 100000 in
theorem F12_spec (x1 : Int) (x2 : Int) (x3 : Bool) (l4 : List (Int × Int × Int × Int)) (l5 : List (Int × Int × Int × Int)) (l6 : List (Int × Int)) (x7 : Int) (x8 : Int) (l9 : List Int) (l10 : List Int) (l11 : List Int) (v4 : Hd) (v5 : Hd) (v6 : Hd) (v9 : Hd) (v10 : Hd) (v11 : Hd) (h : AHeap) (hw : h.wf) (hv4 : SlE E37 4 h (sv v4) l4) (hv5 : SlE E79 4 h (sv v5) l5) (hv6 : SlE E77 2 h (sv v6) l6) (hv9 : SlE E3 1 h (sv v9) l9) (hv10 : SlE E3 1 h (sv v10) l10) (hv11 : SlE E3 1 h (sv v11) l11) (r : (List Int)) : F12 x1 x2 x3 l4 l5 l6 x7 x8 l9 l10 l11 = some r → ∃ (ur0 : Hd) (h' : AHeap), Heapy h h' [⟨ur0, 3, 1, List.flatMap enc3 r⟩] ∧ Strict ur0 ∧ ACalls Try.prog 12 [.agg #[.int .i64 x1, .int .i64 x2, .bool x3, (sv v4), (sv v5), (sv v6)], .agg #[.int .i64 x7, .int .i64 x8, (sv v9), (sv v10), (sv v11)]] h (fun v' h'' => v' = ((sv ur0) : Value) ∧ h'' = h') := by
  unfold F12
  refine bind_opt fun y12 e12 => ?_
  obtain ⟨u13_0, h13, q13, zu13_0, c13⟩ := F13_spec x1 x2 x3 l4 l5 l6 x7 x8 l9 l10 l11 v4 v5 v6 v9 v10 v11 h hw hv4 hv5 hv6 hv9 hv10 hv11 _ e12
  have hp13 : Heapy h h13 [⟨u13_0, 3, 1, List.flatMap enc3 y12⟩] := Heapy.call (Heapy.refl hw) q13
  refine bind_opt fun y28 e28 => ?_
  have hp15 : Heapy h h13 [⟨⟨none, 0, 0⟩, 3, 1, List.flatMap enc3 ([] : List Int)⟩, ⟨u13_0, 3, 1, List.flatMap enc3 y12⟩] := Heapy.nil hp13 3 1
  obtain ⟨ee28, SS28, hX28, hA28⟩ := F12_l1 h y12 u13_0 (0, ([] : List Int)) y28 e28 (F12_h1 y12 u13_0 h13 ⟨none, 0, 0⟩ 0 ([] : List Int)) ⟨h13, ⟨none, 0, 0⟩, (Heapy.pick hp15 [0, 1] (by decide)), Strict.nil, rfl⟩
  obtain ⟨rfl, h29, w0_29, hp29, zw0_29, rfl⟩ := hX28
  intro hr
  obtain rfl := Option.some.inj hr
  exact ⟨w0_29, h29, Heapy.pick hp29 [0] (by decide), zw0_29, pFun_sound good tab_ok (f := 12) (its := [.g, .g, .g, .g, .g, .g, (.c ((sv u13_0)) h13), (.ln y12.length), .g, (.l F12_m1_0 [2, 3] (.exit 0) (F12_x1_0 h h29 w0_29 y28)), .g, .g]) (args := [.agg #[.int .i64 x1, .int .i64 x2, .bool x3, (sv v4), (sv v5), (sv v6)], .agg #[.int .i64 x7, .int .i64 x8, (sv v9), (sv v10), (sv v11)]]) (h := h) (h' := h29) (v := (sv w0_29)) (hC := (ai hA28 (ai (SlE.len (Heapy.sle (v := u13_0) (xs := y12) (enc := enc3) hp13 0 rfl (fun _ => rfl) (by decide))) (ai c13 trivial)))) (hr := by kernel_rfl)⟩
/-! 48 jacquard/schedcheck.overlap -/
def F48__1 (x1 : Int) (x2 : Int) (x4 : Int) (x5 : Int) : Bool := decide ((IntKind.i64.wrap (x1 - (IntKind.i64.wrap (((IntKind.i64.wrap (x4 - x2)).tmod x1) + x1)))) < x5)
def F48 (x1 : Int) (x2 : Int) (x3 : Int) (x4 : Int) (x5 : Int) : Bool :=
  (bif (x1 == 0) then
   (bif decide (x2 < (IntKind.i64.wrap (x4 + x5))) then
    (decide (x4 < (IntKind.i64.wrap (x2 + x3))))
   else
    false)
  else
   (bif decide (((IntKind.i64.wrap (x4 - x2)).tmod x1) < 0) then
    (bif decide ((IntKind.i64.wrap (((IntKind.i64.wrap (x4 - x2)).tmod x1) + x1)) < x3) then
     true
    else
     (F48__1 x1 x2 x4 x5))
   else
    (bif decide (((IntKind.i64.wrap (x4 - x2)).tmod x1) < x3) then
     true
    else
     (decide ((IntKind.i64.wrap (x1 - ((IntKind.i64.wrap (x4 - x2)).tmod x1))) < x5)))))
set_option maxRecDepth 100000 in
theorem F48_spec (x1 : Int) (x2 : Int) (x3 : Int) (x4 : Int) (x5 : Int) (h : AHeap)  (r : Bool) : F48 x1 x2 x3 x4 x5 = r → ACalls Try.prog 48 [.int .i64 x1, .int .i64 x2, .int .i64 x3, .int .i64 x4, .int .i64 x5] h (fun v' h'' => v' = (.bool r : Value) ∧ h'' = h) := by
  unfold F48
  refine dec_bif (fun c6 => ?_) (fun c6 => ?_)
  · refine dec_bif (fun c7 => ?_) (fun c7 => ?_)
    · intro hr
      subst hr
      exact pFun_sound good tab_ok (f := 48) (its := [.g, .g, .g, (.b true), .g, .g, .g, .g, .g, .g, (.w .g), (.w .g), (.w .g), (.w .g), (.w .g), (.p true), .g]) (args := [.int .i64 x1, .int .i64 x2, .int .i64 x3, .int .i64 x4, .int .i64 x5]) (h := h) (h' := h) (v := .bool (decide (x4 < (IntKind.i64.wrap (x2 + x3))))) (hC := (ai c7 (ai (g_tt c7) (ai (g_tt c7) (ai (g_tt c7) (ai (g_tt c7) (ai (g_tt c7) (ai c6 trivial)))))))) (hr := by kernel_rfl)
    · intro hr
      subst hr
      exact pFun_sound good tab_ok (f := 48) (its := [.g, .g, .g, (.b true), .g, .g, .g, .g, .g, .g, .n, .n, .n, .n, .n, (.p false), .g]) (args := [.int .i64 x1, .int .i64 x2, .int .i64 x3, .int .i64 x4, .int .i64 x5]) (h := h) (h' := h) (v := .bool false) (hC := (ai c7 (ai (g_ft c7) (ai (g_ft c7) (ai (g_ft c7) (ai (g_ft c7) (ai (g_ft c7) (ai c6 trivial)))))))) (hr := by kernel_rfl)
  · refine dec_bif (fun c8 => ?_) (fun c8 => ?_)
    · refine dec_bif (fun c9 => ?_) (fun c9 => ?_)
      · intro hr
        subst hr
        exact pFun_sound good tab_ok (f := 48) (its := [.g, .g, .g, (.b false), .g, .g, .g, .g, .d, .g, .g, .g, (.b true), .g, .g, .g, .g, .g, .g, .g, .g, .n, .n, .n, .n, .n, (.p true), .g]) (args := [.int .i64 x1, .int .i64 x2, .int .i64 x3, .int .i64 x4, .int .i64 x5]) (h := h) (h' := h) (v := .bool true) (hC := (ai c9 (ai (g_tf c9) (ai (g_tf c9) (ai (g_tf c9) (ai (g_tf c9) (ai (g_tf c9) (ai c8 (ai (nz c6) (ai c6 trivial)))))))))) (hr := by kernel_rfl)
      · intro hr
        subst hr
        exact pFun_sound good tab_ok (f := 48) (its := [.g, .g, .g, (.b false), .g, .g, .g, .g, .d, .g, .g, .g, (.b true), .g, .g, .g, .g, .g, .g, .g, .g, (.w .g), (.w .g), (.w .g), (.w .g), (.w .g), (.p false), .g]) (args := [.int .i64 x1, .int .i64 x2, .int .i64 x3, .int .i64 x4, .int .i64 x5]) (h := h) (h' := h) (v := .bool (F48__1 x1 x2 x4 x5)) (hC := (ai c9 (ai (g_ff c9) (ai (g_ff c9) (ai (g_ff c9) (ai (g_ff c9) (ai (g_ff c9) (ai c8 (ai (nz c6) (ai c6 trivial)))))))))) (hr := by kernel_rfl)
    · refine dec_bif (fun c10 => ?_) (fun c10 => ?_)
      · intro hr
        subst hr
        exact pFun_sound good tab_ok (f := 48) (its := [.g, .g, .g, (.b false), .g, .g, .g, .g, .d, .g, .g, .g, (.b false), .g, .g, .g, .g, .n, .n, .n, .n, .n, (.p true), .g]) (args := [.int .i64 x1, .int .i64 x2, .int .i64 x3, .int .i64 x4, .int .i64 x5]) (h := h) (h' := h) (v := .bool true) (hC := (ai c10 (ai (g_tf c10) (ai (g_tf c10) (ai (g_tf c10) (ai (g_tf c10) (ai (g_tf c10) (ai c8 (ai (nz c6) (ai c6 trivial)))))))))) (hr := by kernel_rfl)
      · intro hr
        subst hr
        exact pFun_sound good tab_ok (f := 48) (its := [.g, .g, .g, (.b false), .g, .g, .g, .g, .d, .g, .g, .g, (.b false), .g, .g, .g, .g, (.w .g), (.w .g), (.w .g), (.w .g), (.w .g), (.p false), .g]) (args := [.int .i64 x1, .int .i64 x2, .int .i64 x3, .int .i64 x4, .int .i64 x5]) (h := h) (h' := h) (v := .bool (decide ((IntKind.i64.wrap (x1 - ((IntKind.i64.wrap (x4 - x2)).tmod x1))) < x5))) (hC := (ai c10 (ai (g_ff c10) (ai (g_ff c10) (ai (g_ff c10) (ai (g_ff c10) (ai (g_ff c10) (ai c8 (ai (nz c6) (ai c6 trivial)))))))))) (hr := by kernel_rfl)
/-! 73 cmp.isNaN[int] -/
def F73 (x1 : Int) : Bool :=
  (x1 != x1)
set_option maxRecDepth 100000 in
theorem F73_spec (x1 : Int) (h : AHeap)  (r : Bool) : F73 x1 = r → ACalls Try.prog 73 [.int .i64 x1] h (fun v' h'' => v' = (.bool r : Value) ∧ h'' = h) := by
  unfold F73
  intro hr
  subst hr
  exact pFun_sound good tab_ok (f := 73) (its := [.g, .g, .g, .g, .g]) (args := [.int .i64 x1]) (h := h) (h' := h) (v := .bool (x1 != x1)) (hC := trivial) (hr := by kernel_rfl)
/-! 52 cmp.Compare[int] -/
def F52 (x1 : Int) (x2 : Int) : Int :=
  (bif (F73 x1) then
   (bif (F73 x2) then
    0
   else
    (-1))
  else
   (bif (F73 x2) then
    1
   else
    (bif decide (x1 < x2) then
     (-1)
    else
     (bif decide (x1 > x2) then
      1
     else
      0))))
set_option maxRecDepth 100000 in
theorem F52_spec (x1 : Int) (x2 : Int) (h : AHeap)  (r : Int) : F52 x1 x2 = r → ACalls Try.prog 52 [.int .i64 x1, .int .i64 x2] h (fun v' h'' => v' = (.int .i64 r : Value) ∧ h'' = h) := by
  unfold F52
  refine dec_bif (fun c5 => ?_) (fun c5 => ?_)
  · refine dec_bif (fun c6 => ?_) (fun c6 => ?_)
    · intro hr
      subst hr
      exact pFun_sound good tab_ok (f := 52) (its := [.g, .g, (.c (.bool (F73 x1)) h), .g, .g, (.c (.bool (F73 x2)) h), .g, .g, (.b true), .g, (.b true), .g]) (args := [.int .i64 x1, .int .i64 x2]) (h := h) (h' := h) (v := .int .i64 0) (hC := (ai c6 (ai c5 (ai (F73_spec x2 h _ rfl) (ai (F73_spec x1 h _ rfl) trivial))))) (hr := by kernel_rfl)
    · intro hr
      subst hr
      exact pFun_sound good tab_ok (f := 52) (its := [.g, .g, (.c (.bool (F73 x1)) h), .g, .g, (.c (.bool (F73 x2)) h), .g, .g, (.b true), .g, (.b false), .g]) (args := [.int .i64 x1, .int .i64 x2]) (h := h) (h' := h) (v := .int .i64 (-1)) (hC := (ai c6 (ai c5 (ai (F73_spec x2 h _ rfl) (ai (F73_spec x1 h _ rfl) trivial))))) (hr := by kernel_rfl)
  · refine dec_bif (fun c7 => ?_) (fun c7 => ?_)
    · intro hr
      subst hr
      exact pFun_sound good tab_ok (f := 52) (its := [.g, .g, (.c (.bool (F73 x1)) h), .g, .g, (.c (.bool (F73 x2)) h), .g, .g, (.b false), .g, (.b true), .g]) (args := [.int .i64 x1, .int .i64 x2]) (h := h) (h' := h) (v := .int .i64 1) (hC := (ai c7 (ai c5 (ai (F73_spec x2 h _ rfl) (ai (F73_spec x1 h _ rfl) trivial))))) (hr := by kernel_rfl)
    · refine dec_bif (fun c8 => ?_) (fun c8 => ?_)
      · intro hr
        subst hr
        exact pFun_sound good tab_ok (f := 52) (its := [.g, .g, (.c (.bool (F73 x1)) h), .g, .g, (.c (.bool (F73 x2)) h), .g, .g, (.b false), .g, (.b false), .g, .g, .g, (.b true), .g]) (args := [.int .i64 x1, .int .i64 x2]) (h := h) (h' := h) (v := .int .i64 (-1)) (hC := (ai c8 (ai c7 (ai c5 (ai (F73_spec x2 h _ rfl) (ai (F73_spec x1 h _ rfl) trivial)))))) (hr := by kernel_rfl)
      · refine dec_bif (fun c9 => ?_) (fun c9 => ?_)
        · intro hr
          subst hr
          exact pFun_sound good tab_ok (f := 52) (its := [.g, .g, (.c (.bool (F73 x1)) h), .g, .g, (.c (.bool (F73 x2)) h), .g, .g, (.b false), .g, (.b false), .g, .g, .g, (.b false), .g, .g, .g, (.b true), .g]) (args := [.int .i64 x1, .int .i64 x2]) (h := h) (h' := h) (v := .int .i64 1) (hC := (ai c9 (ai c8 (ai c7 (ai c5 (ai (F73_spec x2 h _ rfl) (ai (F73_spec x1 h _ rfl) trivial))))))) (hr := by kernel_rfl)
        · intro hr
          subst hr
          exact pFun_sound good tab_ok (f := 52) (its := [.g, .g, (.c (.bool (F73 x1)) h), .g, .g, (.c (.bool (F73 x2)) h), .g, .g, (.b false), .g, (.b false), .g, .g, .g, (.b false), .g, .g, .g, (.b false), .g]) (args := [.int .i64 x1, .int .i64 x2]) (h := h) (h' := h) (v := .int .i64 0) (hC := (ai c9 (ai c8 (ai c7 (ai c5 (ai (F73_spec x2 h _ rfl) (ai (F73_spec x1 h _ rfl) trivial))))))) (hr := by kernel_rfl)
/-! 51 cmp.Or[int] -/
def F51_L : List Nat := []
def F51_D : List (Nat × List (Nat × Nat)) := []
def F51_m1_2 : List Bool := [true, true, true, false, true, true, true, true, true, true, true, true, true, true, true, true, true, true]
def F51_m1_1 : List Bool := [true, true, true, false, true, true, false, false, false, true, true, true, true, true, true, true, true, true]
def F51_m1_0 : List Bool := [true, true, false, true, true, true, true, true, true, true, true, true, true, true, true, true, true, true]
def F51_s1 (l1 : List Int) (a2 : Int) : Option (Int ⊕ (Nat × Int)) :=
  (bif decide (a2 < (l1.length : Int)) then
   (Option.bind (at? l1 a2) fun y4 =>
   (bif (y4 != 0) then
    some (.inr (0, y4))
   else
    some (.inl (IntKind.i64.wrap (a2 + 1)))))
  else
   some (.inr (1, 0)))
def F51_h1 (h : AHeap) (l1 : List Int) (v1 : Hd)  (a2 : Int) : AS := ⟨[junk, junk, junk, .int .i64 0, junk, junk, (sv v1), .int .i64 (l1.length : Int), .int .i64 a2, junk, junk, junk, junk, junk, junk, junk, junk, junk], [], h⟩
theorem F51_d1 : drawsOk F51_D (codeOf Try.prog 51 [1, 1, 0, 1, 0, 0]) = true := by kernel_rfl
def F51_x1_0 (h : AHeap)  (r : Nat × Int) : AS := ⟨[junk, junk, .int .i64 r.2, junk, junk, junk, junk, junk, junk, junk, junk, junk, junk, junk, junk, junk, junk, junk], [], h⟩
def F51_x1_1 (h : AHeap)  (r : Nat × Int) : AS := ⟨[junk, junk, junk, .int .i64 0, junk, junk, junk, junk, junk, junk, junk, junk, junk, junk, junk, junk, junk, junk], [], h⟩
def F51_x1 (h : AHeap) (r : Nat × Int) : Exit × AS := (bif Nat.beq r.1 0 then (.ret, (F51_x1_0 h r)) else ((.exit 0), (F51_x1_1 h r)))
set_option maxRecDepth 100000 in
theorem F51_r1 (h : AHeap) (l1 : List Int) (v1 : Hd) (hv1 : SlE E3 1 h (sv v1) l1) (a2 : Int) (o : Int ⊕ (Nat × Int)) : F51_s1 l1 a2 = some o → RdF Try.prog (codeOf Try.prog 51 [1, 1, 0, 1, 0, 0]) (fun (s : Int) => (F51_h1 h l1 v1 s)) (F51_x1 h) (F51_h1 h l1 v1 a2) o := by
  unfold F51_s1
  refine dec_bif (fun c3 => ?_) (fun c3 => ?_)
  · refine bind_opt fun y4 e4 => ?_
    obtain ⟨id4, off4, g4, cs4, ix4, at4, rfl⟩ := SlE.at hv1 e4
    refine dec_bif (fun c5 => ?_) (fun c5 => ?_)
    · intro hr
      obtain rfl := Option.some.inj hr
      show AWp Try.prog _ (Ends1 ((F51_x1 h) ((0, y4) : Nat × Int)).1 ((F51_x1 h) ((0, y4) : Nat × Int)).2) _
      exact pEnd_sound good (L := F51_L) (D := F51_D) (its := [.g, (.b true), (.ix id4 off4 g4), (.ld (.int .i64 y4)), .g, .g, .g, .g, (.b true), .g, .g]) (ds := F51_m1_0) (ks := []) (e := ((F51_x1 h) ((0, y4) : Nat × Int)).1) (s2 := ((F51_x1 h) ((0, y4) : Nat × Int)).2) (hC := (ai c5 (ai (At.one (P := Try.prog) (t := 3) (v := .int .i64 y4) at4 (by kernel_rfl) 0 rfl rfl) (ai ix4 (ai c3 trivial))))) (hd := F51_d1) (h := by kernel_rfl)
    · intro hr
      obtain rfl := Option.some.inj hr
      show AWp Try.prog _ (Ends1 .normal (F51_h1 h l1 v1 (IntKind.i64.wrap (a2 + 1)))) _
      exact pEnd_sound good (L := F51_L) (D := F51_D) (its := [.g, (.b true), (.ix id4 off4 g4), (.ld (.int .i64 y4)), .g, .g, .g, .g, (.b false), .g, .g]) (ds := F51_m1_1) (ks := []) (e := .normal) (s2 := (F51_h1 h l1 v1 (IntKind.i64.wrap (a2 + 1)))) (hC := (ai c5 (ai (At.one (P := Try.prog) (t := 3) (v := .int .i64 y4) at4 (by kernel_rfl) 0 rfl rfl) (ai ix4 (ai c3 trivial))))) (hd := F51_d1) (h := by kernel_rfl)
  · intro hr
    obtain rfl := Option.some.inj hr
    show AWp Try.prog _ (Ends1 ((F51_x1 h) ((1, 0) : Nat × Int)).1 ((F51_x1 h) ((1, 0) : Nat × Int)).2) _
    exact pEnd_sound good (L := F51_L) (D := F51_D) (its := [.g, (.b false)]) (ds := F51_m1_2) (ks := []) (e := ((F51_x1 h) ((1, 0) : Nat × Int)).1) (s2 := ((F51_x1 h) ((1, 0) : Nat × Int)).2) (hC := (ai c3 trivial)) (hd := F51_d1) (h := by kernel_rfl)
theorem F51_l1_0 (h : AHeap) (l1 : List Int) (v1 : Hd) (hv1 : SlE E3 1 h (sv v1) l1) (x : Int) (r : Nat × Int) (hl : loopO (fun (s : Int) => F51_s1 l1 s) x = some r) (q0 : Nat.beq r.1 0 = true) : AWp Try.prog (.loop (codeOf Try.prog 51 [1, 1, 0, 1, 0, 0])) (Ends1 .ret (F51_x1_0 h r)) ((fun (s : Int) => (F51_h1 h l1 v1 s)) x) := by
  have k := loop_fun (P := Try.prog) (c := (codeOf Try.prog 51 [1, 1, 0, 1, 0, 0])) (step := (fun (s : Int) => F51_s1 l1 s)) (hd := (fun (s : Int) => (F51_h1 h l1 v1 s))) (X := (F51_x1 h)) (by intro t; unfold F51_x1; cases Nat.beq t.1 0 <;> (intro h; cases h)) (fun x => F51_r1 h l1 v1 hv1 x) hl
  simp only [F51_x1, q0, cond_true, cond_false] at k
  exact k
theorem F51_l1_1 (h : AHeap) (l1 : List Int) (v1 : Hd) (hv1 : SlE E3 1 h (sv v1) l1) (x : Int) (r : Nat × Int) (hl : loopO (fun (s : Int) => F51_s1 l1 s) x = some r) (q0 : Nat.beq r.1 0 = false) : AWp Try.prog (.loop (codeOf Try.prog 51 [1, 1, 0, 1, 0, 0])) (Ends1 (.exit 0) (F51_x1_1 h r)) ((fun (s : Int) => (F51_h1 h l1 v1 s)) x) := by
  have k := loop_fun (P := Try.prog) (c := (codeOf Try.prog 51 [1, 1, 0, 1, 0, 0])) (step := (fun (s : Int) => F51_s1 l1 s)) (hd := (fun (s : Int) => (F51_h1 h l1 v1 s))) (X := (F51_x1 h)) (by intro t; unfold F51_x1; cases Nat.beq t.1 0 <;> (intro h; cases h)) (fun x => F51_r1 h l1 v1 hv1 x) hl
  simp only [F51_x1, q0, cond_true, cond_false] at k
  exact k
def F51 (l1 : List Int) : Option (Int) :=
  (Option.bind (loopO (fun (s : Int) => F51_s1 l1 s) 0) fun y6 =>
  (bif (Nat.beq y6.1 0) then
   some (y6.2)
  else
   some (0)))
set_option maxRecDepth 100000 in
theorem F51_spec (l1 : List Int) (v1 : Hd) (h : AHeap) (hv1 : SlE E3 1 h (sv v1) l1) (r : Int) : F51 l1 = some r → ACalls Try.prog 51 [(sv v1)] h (fun v' h'' => v' = (.int .i64 r : Value) ∧ h'' = h) := by
  unfold F51
  refine bind_opt fun y6 e6 => ?_
  refine dec_bif (fun c7 => ?_) (fun c7 => ?_)
  · intro hr
    obtain rfl := Option.some.inj hr
    exact pFun_sound good tab_ok (f := 51) (its := [.g, .g, .g, (.ln l1.length), .g, (.l F51_m1_1 [] .ret (F51_x1_0 h y6))]) (args := [(sv v1)]) (h := h) (h' := h) (v := .int .i64 y6.2) (hC := (ai (F51_l1_0 h l1 v1 hv1 0 y6 e6 c7) (ai (SlE.len hv1) trivial))) (hr := by kernel_rfl)
  · intro hr
    obtain rfl := Option.some.inj hr
    exact pFun_sound good tab_ok (f := 51) (its := [.g, .g, .g, (.ln l1.length), .g, (.l F51_m1_1 [] (.exit 0) (F51_x1_1 h y6)), .g, .g]) (args := [(sv v1)]) (h := h) (h' := h) (v := .int .i64 0) (hC := (ai (F51_l1_1 h l1 v1 hv1 0 y6 e6 c7) (ai (SlE.len hv1) trivial))) (hr := by kernel_rfl)
/-! 50 jacquard/schedcheck.Clashes$1 -/
def F50 (x1 : Int) (x2 : Int) (x3 : Int) (x4 : Int) : Option (Int) :=
  (Option.bind (F51 ([(F52 x1 x3), (F52 x2 x4)] : List Int)) fun y9 =>
  some (y9))
set_option maxRecDepth 100000 in
theorem F50_spec (x1 : Int) (x2 : Int) (x3 : Int) (x4 : Int) (h : AHeap) (hw : h.wf)  (r : Int) : F50 x1 x2 x3 x4 = some r → ∃ (h' : AHeap), Heapy h h' [] ∧ ACalls Try.prog 50 [.agg #[.int .i64 x1, .int .i64 x2], .agg #[.int .i64 x3, .int .i64 x4]] h (fun v' h'' => v' = (.int .i64 r : Value) ∧ h'' = h') := by
  unfold F50
  obtain ⟨v7, h7, m7, hp7, _⟩ := Heapy.build (P := Try.prog) (Heapy.refl hw) (t := 27) (e := 3) (len := 2) (n := 1) (parts := [(0, .int .i64 (F52 x1 x3)), (1, .int .i64 (F52 x2 x4))]) (cells := List.flatMap enc3 ([(F52 x1 x3), (F52 x2 x4)] : List Int)) (by kernel_rfl) rfl
  refine bind_opt fun y9 e9 => ?_
  intro hr
  obtain rfl := Option.some.inj hr
  exact ⟨h7, Heapy.pick hp7 [] (by decide), pFun_sound good tab_ok (f := 50) (its := [.g, .g, .g, .g, .g, .g, .g, .g, .g, .g, .g, (.c (.int .i64 (F52 x1 x3)) h), (.c (.int .i64 (F52 x2 x4)) h), (.mm (sv v7) h7), (.c (.int .i64 y9) h7), .g]) (args := [.agg #[.int .i64 x1, .int .i64 x2], .agg #[.int .i64 x3, .int .i64 x4]]) (h := h) (h' := h7) (v := .int .i64 y9) (hC := (ai (show AKeep h7 h7 from (AHeap.sub_refl h7)) (ai (F51_spec ([(F52 x1 x3), (F52 x2 x4)] : List Int) v7 h7 (Heapy.sle (v := v7) (xs := ([(F52 x1 x3), (F52 x2 x4)] : List Int)) (enc := enc3) hp7 0 rfl (fun _ => rfl) (by decide)) _ e9) (ai m7 (ai (show AKeep h h from (AHeap.sub_refl h)) (ai (F52_spec x2 x4 h _ rfl) (ai (show AKeep h h from (AHeap.sub_refl h)) (ai (F52_spec x1 x3 h _ rfl) trivial)))))))) (hr := by kernel_rfl)⟩
/-! slices.SortFunc 49 at 50 -/
def sort49_ren : Go.Shelf.Ren := ⟨fun | 6 => 49 | 15 => 72 | 14 => 71 | 28 => 87 | 29 => 88 | 20 => 79 | 21 => 80 | 22 => 81 | 23 => 82 | 24 => 83 | 25 => 84 | 26 => 85 | 27 => 86 | 46 => 97 | 47 => 98 | 48 => 99 | 49 => 100 | 50 => 101 | 57 => 105 | n => n, fun | 22 => 41 | 24 => 43 | 25 => 85 | 3 => 3 | 39 => 98 | 0 => 0 | 53 => 111 | 55 => 113 | 4 => 4 | 46 => 104 | 45 => 103 | 50 => 108 | 5 => 5 | 9 => 9 | 66 => 119 | 70 => 123 | 76 => 127 | 77 => 128 | n => n, fun n => n⟩
theorem sort49_lay : Go.Proofs.SlLaysF0.n6 Try.prog sort49_ren := {
  mixed := by kernel_rfl
  f6 := ⟨"slices.SortFunc[[][2]int,[2]int]", by kernel_rfl, by kernel_rfl⟩
  f14 := ⟨"slices.pdqsortCmpFunc[[2]int]", by kernel_rfl, by kernel_rfl⟩
  f15 := by kernel_rfl
  f20 := ⟨"slices.insertionSortCmpFunc[[2]int]", by kernel_rfl, by kernel_rfl⟩
  f21 := ⟨"slices.heapSortCmpFunc[[2]int]", by kernel_rfl, by kernel_rfl⟩
  f22 := ⟨"slices.breakPatternsCmpFunc[[2]int]", by kernel_rfl, by kernel_rfl⟩
  f23 := ⟨"slices.choosePivotCmpFunc[[2]int]", by kernel_rfl, by kernel_rfl⟩
  f24 := ⟨"slices.reverseRangeCmpFunc[[2]int]", by kernel_rfl, by kernel_rfl⟩
  f25 := ⟨"slices.partialInsertionSortCmpFunc[[2]int]", by kernel_rfl, by kernel_rfl⟩
  f26 := ⟨"slices.partitionEqualCmpFunc[[2]int]", by kernel_rfl, by kernel_rfl⟩
  f27 := ⟨"slices.partitionCmpFunc[[2]int]", by kernel_rfl, by kernel_rfl⟩
  f28 := by kernel_rfl
  f29 := by kernel_rfl
  f46 := ⟨"slices.siftDownCmpFunc[[2]int]", by kernel_rfl, by kernel_rfl⟩
  f47 := by kernel_rfl
  f48 := by kernel_rfl
  f49 := ⟨"slices.medianAdjacentCmpFunc[[2]int]", by kernel_rfl, by kernel_rfl⟩
  f50 := ⟨"slices.medianCmpFunc[[2]int]", by kernel_rfl, by kernel_rfl⟩
  f57 := ⟨"slices.order2CmpFunc[[2]int]", by kernel_rfl, by kernel_rfl⟩
  t0 := by kernel_rfl
  a0 := Try.isAgg0
  z0 := Try.sizeOf0
  v0 := Try.zeroValue0
  t3 := by kernel_rfl
  a3 := Try.isAgg3
  z3 := Try.sizeOf3
  v3 := Try.zeroValue3
  t4 := by kernel_rfl
  a4 := Try.isAgg4
  z4 := Try.sizeOf4
  v4 := Try.zeroValue4
  t5 := by kernel_rfl
  a5 := Try.isAgg5
  z5 := Try.sizeOf5
  v5 := Try.zeroValue5
  t9 := by kernel_rfl
  a9 := Try.isAgg9
  z9 := Try.sizeOf9
  v9 := Try.zeroValue9
  t22 := by kernel_rfl
  a22 := Try.isAgg41
  z22 := Try.sizeOf41
  v22 := Try.zeroValue41
  t25 := by kernel_rfl
  a25 := Try.isAgg85
  z25 := Try.sizeOf85
  v25 := Try.zeroValue85
  t39 := by kernel_rfl
  a39 := Try.isAgg98
  z39 := Try.sizeOf98
  v39 := Try.zeroValue98
  t45 := by kernel_rfl
  a45 := Try.isAgg103
  z45 := Try.sizeOf103
  v45 := Try.zeroValue103
  t46 := by kernel_rfl
  a46 := Try.isAgg104
  z46 := Try.sizeOf104
  v46 := Try.zeroValue104
  t50 := by kernel_rfl
  a50 := Try.isAgg108
  z50 := Try.sizeOf108
  v50 := Try.zeroValue108
  t53 := by kernel_rfl
  a53 := Try.isAgg111
  z53 := Try.sizeOf111
  v53 := Try.zeroValue111
  t55 := by kernel_rfl
  a55 := Try.isAgg113
  z55 := Try.sizeOf113
  v55 := Try.zeroValue113
  t66 := by kernel_rfl
  a66 := Try.isAgg119
  z66 := Try.sizeOf119
  v66 := Try.zeroValue119
  t70 := by kernel_rfl
  a70 := Try.isAgg123
  z70 := Try.sizeOf123
  v70 := Try.zeroValue123
  t76 := by kernel_rfl
  a76 := Try.isAgg127
  z76 := Try.sizeOf127
  v76 := Try.zeroValue127
  t77 := by kernel_rfl
  a77 := Try.isAgg128
  z77 := Try.sizeOf128
  v77 := Try.zeroValue128 }
theorem cmp50_one (a b : Int) : F52 a b = cmpI a b := by
  unfold F52 F73
  rw [bne_self_eq_false, bne_self_eq_false]
  simp only [cond_false]
  rcases cmpI_cases a b with ⟨p, e⟩ | ⟨p, e⟩ | ⟨p, e⟩
  · rw [decide_eq_true p, e]; rfl
  · rw [decide_eq_false (by omega), decide_eq_true (show a > b from p), e]; rfl
  · rw [decide_eq_false (by omega), decide_eq_false (by omega), e]; rfl
theorem cmp50_or (l : List Int) (h : l.length ≤ 1000) : F51 l = some (orL l) := by
  apply Yields.eq
  unfold F51
  refine Yields.bind (P := fun t => (t.1 = 0 ∧ t.2 = orL l) ∨ (t.1 = 1 ∧ orL l = 0)) (Yields.loop l.length (fun (i : Nat) z => z = (i : Int) ∧ orL (l.drop i) = orL l) ⟨rfl, rfl⟩ ?_) ?_
  · rintro i z hi ⟨rfl, hd⟩
    unfold F51_s1
    refine Yields.bif (fun hc => ?_) fun hc => Yields.some (.inr ⟨rfl, ?_⟩)
    · have hc := of_decide_eq_true hc
      have hl : i < l.length := by omega
      have hy : l[i]? = some l[i] := List.getElem?_eq_getElem hl
      have dr : l.drop i = l[i] :: l.drop (i + 1) := List.drop_eq_getElem_cons hl
      have oc : ∀ (a : Int) (r : List Int), orL (a :: r) = if a = 0 then orL r else a := fun _ _ => rfl
      rw [dr, oc] at hd
      refine Yields.bindE (y := l[i]) (by unfold at?; rw [decide_eq_true (Int.natCast_nonneg i), cond_true, Int.toNat_natCast]; exact hy) (Yields.bif (fun q => Yields.some (.inl ⟨rfl, ?_⟩)) fun q => Yields.some ⟨by omega, by rw [wrap_i64] <;> omega, ?_⟩)
      · rw [if_neg (bne_iff_ne.1 q)] at hd; exact hd
      · rw [if_pos (by simpa using q)] at hd; exact hd
    · have hc := of_decide_eq_false hc
      rw [List.drop_eq_nil_of_le (by omega)] at hd
      exact hd.symm
  · rintro ⟨t, u⟩ (⟨rfl, rfl⟩ | ⟨rfl, h0⟩)
    · exact Yields.some rfl
    · exact Yields.some h0.symm
def key50 (x : Int × Int) : List Int := [x.1, x.2]
theorem cmp50_eq (x y : Int × Int) : F50 x.1 x.2 y.1 y.2 = some (cmpL (key50 x) (key50 y)) := by
  unfold F50
  rw [cmp50_or _ (by simp)]
  simp only [cmp50_one, Option.bind_some]
  congr 1
/-- slices.SortFunc by that order. -/
def F49w50 (xs : List (Int × Int)) : Option (List (Int × Int)) := bif decide (xs.length < 4611686018427387904) then some (xs.mergeSort fun x y => !(Go.Proofs.ltOf fun a b => cmpL (key50 a) (key50 b)) y x) else none
theorem F49w50_spec (l1 : List (Int × Int)) (v1 : Hd) (hi : AHeap) (h : AHeap) (hw : h.wf) (hio : Heapy h hi [⟨v1, 43, 2, List.flatMap enc43 l1⟩]) (r : List (Int × Int)) : F49w50 l1 = some r → ∃ (h' : AHeap), Heapy h h' [⟨v1, 43, 2, List.flatMap enc43 r⟩] ∧ ACalls Try.prog 49 [(sv v1), .func (.func 50) #[] #[]] hi (fun v' h'' => v' = (.tuple #[] : Value) ∧ h'' = h') := by
  unfold F49w50
  intro hr
  cases hd : decide (l1.length < 4611686018427387904) with
  | false => rw [hd] at hr; cases hr
  | true =>
    rw [hd] at hr
    obtain rfl := Option.some.inj hr
    refine sort_spec sort49_lay rfl (by decide) Try.isAgg43 Try.sizeOf43 (fun _ => rfl) (fun x v hv => ?_) (fun _ => rfl) _ (key_swo (n := 2) fun _ => rfl) (key_tot (n := 2) (fun _ => rfl) ?_) (Go.Proofs.enters_of Try.func50 (by kernel_rfl) rfl) ?_ hio (of_decide_eq_true hd)
    · unfold enc43 at hv
      simp only [List.mem_cons, List.not_mem_nil, or_false] at hv
      rcases hv with rfl | rfl <;> rfl
    · intro x y e
      unfold key50 at e
      simp only [List.cons.injEq, and_true] at e
      obtain ⟨a0, a1⟩ := x
      obtain ⟨b0, b1⟩ := y
      simp_all
    · intro x y
      obtain ⟨h2, _, c⟩ := F50_spec x.1 x.2 y.1 y.2 AHeap.none rfl _ (cmp50_eq x y)
      intro B ρ w args' H hA
      refine (c B ρ w args' H hA).mono ?_
      rintro e w' ⟨v, v', ρ', h', e1, ⟨e2, _⟩, e3, e4, e5⟩
      exact ⟨v, v', ρ', h', e1, e2, e3, e4, e5⟩

end
end Go.Proofs.Ytofnegejldgdbaa.Abs
