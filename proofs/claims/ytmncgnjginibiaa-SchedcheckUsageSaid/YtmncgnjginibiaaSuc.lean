/-
  Contracts, written by program: for each function what its call yields, and that it yields it.
-/
import Derived.Test.YtmncgnjginibiaaSub
namespace Go.Proofs.Ytmncgnjginibiaa.Abs
open Go
set_option linter.unusedVariables false
set_option linter.unusedSimpArgs false

noncomputable section
/-! 38 jacquard/jacquardref28.Fits -/
def F38_L : List Nat := [2, 3, 6]
def F38_D : List (Nat × List (Nat × Nat)) := [(7, [(0, 2), (1, 2), (2, 2), (3, 2), (4, 2), (5, 2), (6, 2), (7, 2), (8, 2), (9, 2), (10, 2), (11, 2), (12, 2), (13, 2), (14, 2), (15, 2), (16, 2), (17, 2), (18, 2), (19, 2), (20, 2), (21, 2), (22, 2), (23, 2), (24, 2), (25, 2), (26, 2), (27, 2), (28, 2), (29, 2), (30, 2), (31, 2), (32, 2), (33, 2), (34, 2), (35, 2), (36, 2), (37, 2), (38, 2), (39, 2), (40, 2), (41, 2), (42, 2), (43, 2), (44, 2), (45, 2), (46, 2), (47, 2), (48, 2), (49, 2), (50, 2), (51, 2), (52, 2), (53, 2), (54, 2)])]
def F38_m1_2 : List Bool := [true, true, true, false, true, true, true, true, true, true, true, true, true, true, true, true, true, true, true, true, true, true, true, true, true, true, true, true, true, true, true, true, true, true, true, true, true, true, true, true, true, true, true, true, true, true, true, true, true, true, true, true, true, true, true, true, true, true, true, true, true, true, true, true, true, true, true, true, true, true, true, true, true, true, true, true, true, true, true, true, true, true, true, true, true, true, true, true, true, true, true, true, true, true, true, true, true, true, true, true, true, true, true, true, true, true, true, true, true, true, true, true, true, true, true, true, true, true, true, true, true, true, true, true, true, true, true, true, true, true, true, true, true, true, true, true, true, true, true, true, true, true, true, true, true, true]
def F38_m1_1 : List Bool := [true, true, false, false, true, true, true, true, true, true, true, true, true, true, true, true, true, true, true, true, true, true, true, true, true, true, true, true, true, true, true, true, true, true, true, true, true, true, true, true, true, true, true, true, true, true, true, true, true, true, true, true, true, true, true, true, true, true, true, true, false, false, true, true, true, true, true, true, true, true, true, true, true, true, true, true, true, true, true, true, true, true, true, true, true, true, true, true, true, true, true, true, true, true, true, true, true, true, true, true, true, true, true, true, true, true, true, true, true, true, true, true, true, true, true, true, true, true, true, true, true, true, true, true, true, true, true, true, true, true, true, true, true, true, true, true, true, true, true, true, true, true, true, true, true, true]
def F38_m1_0 : List Bool := [true, true, true, true, false, true, true, true, true, true, true, true, true, true, true, true, true, true, true, true, true, true, true, true, true, true, true, true, true, true, true, true, true, true, true, true, true, true, true, true, true, true, true, true, true, true, true, true, true, true, true, true, true, true, true, true, true, true, true, true, true, true, true, true, true, true, true, true, true, true, true, true, true, true, true, true, true, true, true, true, true, true, true, true, true, true, true, true, true, true, true, true, true, true, true, true, true, true, true, true, true, true, true, true, true, true, true, true, true, true, true, true, true, true, true, true, true, true, true, true, true, true, true, true, true, true, true, true, true, true, true, true, true, true, true, true, true, true, true, true, true, true, true, true, true, true]
def F38_s1 (l5 : List (Int × Int × Int × Int)) (l6 : List (Int × Int)) (l9 : List Int) (l11 : List Int) (a20 : Int) : Option (Int ⊕ Nat) :=
  (bif decide (a20 < (l9.length : Int)) then
   (Option.bind (at? l6 a20) fun y22 =>
   (Option.bind (at? l9 a20) fun y23 =>
   (bif decide (y23 < 0) then
    some (.inr 0)
   else
    (bif decide (y23 > 4096) then
     some (.inr 0)
    else
     (bif decide (y22.1 < 0) then
      (Option.bind (at? l11 a20) fun y27 =>
      (bif (y27 != (-1)) then
       some (.inr 0)
      else
       (bif decide (y22.1 ≥ 0) then
        (bif decide (y27 < 0) then
         some (.inr 0)
        else
         (Option.bind (at? l5 y22.1) fun y31 =>
         (bif decide (y27 ≥ y31.2.2.2) then
          some (.inr 0)
         else
          some (.inl (IntKind.i64.wrap (a20 + 1))))))
       else
        some (.inl (IntKind.i64.wrap (a20 + 1))))))
     else
      (bif decide (y22.1 ≥ 0) then
       (Option.bind (at? l11 a20) fun y34 =>
       (bif decide (y34 < 0) then
        some (.inr 0)
       else
        (Option.bind (at? l5 y22.1) fun y36 =>
        (bif decide (y34 ≥ y36.2.2.2) then
         some (.inr 0)
        else
         some (.inl (IntKind.i64.wrap (a20 + 1)))))))
      else
       some (.inl (IntKind.i64.wrap (a20 + 1)))))))))
  else
   some (.inr 1))
def F38_h1 (h : AHeap) (x1 : Int) (x2 : Int) (x3 : Bool) (v4 : Hd) (v5 : Hd) (v6 : Hd) (x7 : Int) (x8 : Int) (l9 : List Int) (v9 : Hd) (v10 : Hd) (v11 : Hd)  (a20 : Int) : AS := ⟨[junk, junk, .pointer (some ⟨2, 0, none⟩), .pointer (some ⟨3, 0, none⟩), junk, junk, junk, junk, junk, junk, junk, junk, junk, junk, junk, junk, junk, junk, junk, junk, junk, junk, junk, junk, junk, junk, junk, junk, junk, junk, junk, junk, junk, junk, junk, junk, junk, junk, junk, junk, junk, junk, junk, junk, junk, junk, junk, junk, junk, junk, junk, junk, junk, junk, junk, junk, junk, junk, junk, junk, .int .i64 (l9.length : Int), .int .i64 a20, junk, junk, junk, junk, junk, junk, junk, junk, junk, junk, junk, junk, junk, junk, junk, junk, junk, junk, junk, junk, junk, junk, junk, junk, junk, junk, junk, junk, junk, junk, junk, junk, junk, junk, junk, junk, junk, junk, junk, junk, junk, junk, junk, junk, junk, junk, junk, junk, junk, junk, junk, junk, junk, junk, junk, junk, junk, junk, junk, junk, junk, junk, junk, junk, junk, junk, junk, junk, junk, junk, junk, junk, junk, junk, junk, junk, junk, junk, junk, junk, junk, junk, junk, junk], [(2, [.int .i64 x1, .int .i64 x2, .bool x3, (sv v4), (sv v5), (sv v6)]), (3, [.int .i64 x7, .int .i64 x8, (sv v9), (sv v10), (sv v11)])], h⟩
theorem F38_d1 : drawsOk F38_D (codeOf Try.prog 38 [1, 1, 0, 1, 0, 0]) = true := by kernel_rfl
def F38_x1_0 (h : AHeap) (x7 : Int) (x8 : Int) (v9 : Hd) (v10 : Hd) (v11 : Hd)  (r : Nat) : AS := ⟨[junk, junk, junk, junk, .bool false, junk, junk, junk, junk, junk, junk, junk, junk, junk, junk, junk, junk, junk, junk, junk, junk, junk, junk, junk, junk, junk, junk, junk, junk, junk, junk, junk, junk, junk, junk, junk, junk, junk, junk, junk, junk, junk, junk, junk, junk, junk, junk, junk, junk, junk, junk, junk, junk, junk, junk, junk, junk, junk, junk, junk, junk, junk, junk, junk, junk, junk, junk, junk, junk, junk, junk, junk, junk, junk, junk, junk, junk, junk, junk, junk, junk, junk, junk, junk, junk, junk, junk, junk, junk, junk, junk, junk, junk, junk, junk, junk, junk, junk, junk, junk, junk, junk, junk, junk, junk, junk, junk, junk, junk, junk, junk, junk, junk, junk, junk, junk, junk, junk, junk, junk, junk, junk, junk, junk, junk, junk, junk, junk, junk, junk, junk, junk, junk, junk, junk, junk, junk, junk, junk, junk, junk, junk, junk, junk, junk, junk], [], h⟩
def F38_x1_1 (h : AHeap) (x7 : Int) (x8 : Int) (v9 : Hd) (v10 : Hd) (v11 : Hd)  (r : Nat) : AS := ⟨[junk, junk, junk, .pointer (some ⟨3, 0, none⟩), junk, junk, junk, junk, junk, junk, junk, junk, junk, junk, junk, junk, junk, junk, junk, junk, junk, junk, junk, junk, junk, junk, junk, junk, junk, junk, junk, junk, junk, junk, junk, junk, junk, junk, junk, junk, junk, junk, junk, junk, junk, junk, junk, junk, junk, junk, junk, junk, junk, junk, junk, junk, junk, junk, junk, junk, junk, junk, junk, junk, junk, junk, junk, junk, junk, junk, junk, junk, junk, junk, junk, junk, junk, junk, junk, junk, junk, junk, junk, junk, junk, junk, junk, junk, junk, junk, junk, junk, junk, junk, junk, junk, junk, junk, junk, junk, junk, junk, junk, junk, junk, junk, junk, junk, junk, junk, junk, junk, junk, junk, junk, junk, junk, junk, junk, junk, junk, junk, junk, junk, junk, junk, junk, junk, junk, junk, junk, junk, junk, junk, junk, junk, junk, junk, junk, junk, junk, junk, junk, junk, junk, junk], [(3, [.int .i64 x7, .int .i64 x8, (sv v9), (sv v10), (sv v11)])], h⟩
def F38_x1 (h : AHeap) (x7 : Int) (x8 : Int) (v9 : Hd) (v10 : Hd) (v11 : Hd) (r : Nat) : Exit × AS := (bif Nat.beq r 0 then (.ret, (F38_x1_0 h x7 x8 v9 v10 v11 r)) else ((.exit 0), (F38_x1_1 h x7 x8 v9 v10 v11 r)))
set_option maxRecDepth 100000 in
theorem F38_r1 (h : AHeap) (x1 : Int) (x2 : Int) (x3 : Bool) (v4 : Hd) (l5 : List (Int × Int × Int × Int)) (v5 : Hd) (hv5 : SlE E38 4 h (sv v5) l5) (l6 : List (Int × Int)) (v6 : Hd) (hv6 : SlE E35 2 h (sv v6) l6) (x7 : Int) (x8 : Int) (l9 : List Int) (v9 : Hd) (hv9 : SlE E3 1 h (sv v9) l9) (v10 : Hd) (l11 : List Int) (v11 : Hd) (hv11 : SlE E3 1 h (sv v11) l11) (a20 : Int) (o : Int ⊕ Nat) : F38_s1 l5 l6 l9 l11 a20 = some o → RdF Try.prog (codeOf Try.prog 38 [1, 1, 0, 1, 0, 0]) (fun (s : Int) => (F38_h1 h x1 x2 x3 v4 v5 v6 x7 x8 l9 v9 v10 v11 s)) (F38_x1 h x7 x8 v9 v10 v11) (F38_h1 h x1 x2 x3 v4 v5 v6 x7 x8 l9 v9 v10 v11 a20) o := by
  unfold F38_s1
  refine dec_bif (fun c21 => ?_) (fun c21 => ?_)
  · refine bind_opt fun y22 e22 => ?_
    obtain ⟨id22, off22, g22, cs22, ix22, at22, rfl⟩ := SlE.at hv6 e22
    refine bind_opt fun y23 e23 => ?_
    obtain ⟨id23, off23, g23, cs23, ix23, at23, rfl⟩ := SlE.at hv9 e23
    refine dec_bif (fun c24 => ?_) (fun c24 => ?_)
    · intro hr
      obtain rfl := Option.some.inj hr
      show AWp Try.prog _ (Ends1 ((F38_x1 h x7 x8 v9 v10 v11) (0 : Nat)).1 ((F38_x1 h x7 x8 v9 v10 v11) (0 : Nat)).2) _
      exact pEnd_sound good (L := F38_L) (D := F38_D) (its := [.g, (.b true), .g, .g, .g, .g, .g, (.ix id22 off22 g22), (.ld (.agg #[.int .i64 y22.1, .int .i64 y22.2])), .g, .g, .g, .g, .g, (.ix id23 off23 g23), (.ld (.int .i64 y23)), .g, .g, .n, .n, .n, .n, .n, .n, (.p true), .g, .n, .n, .n, .n, .n, .n, .n, .n, .n, .n, .n, .g, .g, .n, .n, .n, .n, .n, .n, .n, .n, .n, .n, .n, .n, .n, .n, .n, .n, .n, .n, .n, .n, .n, .n, .n, .n, .n, .n, .g, (.b true), .g]) (ds := F38_m1_0) (ks := [2, 3, 6]) (e := ((F38_x1 h x7 x8 v9 v10 v11) (0 : Nat)).1) (s2 := ((F38_x1 h x7 x8 v9 v10 v11) (0 : Nat)).2) (hC := (ai l_t (ai (g_tf l_t) (ai l_f (ai l_f (ai l_f (ai l_f (ai l_f (ai l_f (ai l_f (ai l_f (ai l_f (ai l_f (ai l_f (ai l_f (ai l_f (ai l_f (ai l_f (ai l_f (ai l_f (ai l_f (ai l_f (ai l_f (ai l_f (ai (g_tf l_t) (ai (g_tf l_t) (ai (g_tf l_t) (ai (g_tf l_t) (ai (g_tf l_t) (ai l_f (ai l_f (ai l_f (ai l_f (ai l_f (ai l_f (ai (g_tf l_t) (ai (g_tf l_t) (ai (g_tf l_t) (ai (g_tf l_t) (ai c24 (ai (g_tf c24) (ai (g_tf c24) (ai (g_tf c24) (ai (g_tf c24) (ai (g_tf c24) (ai (g_tf c24) (ai (At.one (P := Try.prog) (t := 3) (v := .int .i64 y23) at23 (by kernel_rfl) 0 rfl rfl) (ai ix23 (ai (At.agg (P := Try.prog) (t := 35) (v := .agg #[.int .i64 y22.1, .int .i64 y22.2]) (m := 2) at22 (by kernel_rfl) (by kernel_rfl) 0 (by kernel_rfl) rfl) (ai ix22 (ai c21 trivial))))))))))))))))))))))))))))))))))))))))))))))))))) (hd := F38_d1) (h := by kernel_rfl)
    · refine dec_bif (fun c25 => ?_) (fun c25 => ?_)
      · intro hr
        obtain rfl := Option.some.inj hr
        show AWp Try.prog _ (Ends1 ((F38_x1 h x7 x8 v9 v10 v11) (0 : Nat)).1 ((F38_x1 h x7 x8 v9 v10 v11) (0 : Nat)).2) _
        exact pEnd_sound good (L := F38_L) (D := F38_D) (its := [.g, (.b true), .g, .g, .g, .g, .g, (.ix id22 off22 g22), (.ld (.agg #[.int .i64 y22.1, .int .i64 y22.2])), .g, .g, .g, .g, .g, (.ix id23 off23 g23), (.ld (.int .i64 y23)), .g, .g, (.w .g), (.w .g), (.w .g), (.w (.ix id23 off23 g23)), (.w (.ld (.int .i64 y23))), (.w .g), (.p false), .g, .n, .n, .n, .n, .n, .n, .n, .n, .n, .n, .n, (.p true), .g, .n, .n, .n, .n, .n, .n, .n, .n, .n, .n, .n, .n, .n, .n, .n, .n, .n, .n, .n, .n, .n, .n, .n, .n, .n, .n, .g, (.b true), .g]) (ds := F38_m1_0) (ks := [2, 3, 6]) (e := ((F38_x1 h x7 x8 v9 v10 v11) (0 : Nat)).1) (s2 := ((F38_x1 h x7 x8 v9 v10 v11) (0 : Nat)).2) (hC := (ai l_t (ai (g_tf l_t) (ai l_f (ai l_f (ai l_f (ai l_f (ai l_f (ai l_f (ai l_f (ai l_f (ai l_f (ai l_f (ai l_f (ai l_f (ai l_f (ai l_f (ai l_f (ai l_f (ai l_f (ai l_f (ai l_f (ai l_f (ai l_f (ai (g_tf l_t) (ai (g_tf l_t) (ai (g_tf l_t) (ai (g_tf l_t) (ai c25 (ai (g_tf c25) (ai l_f (ai l_f (ai l_f (ai l_f (ai l_f (ai l_f (ai (g_tf c25) (ai (g_tf c25) (ai (g_tf c25) (ai (g_tf c25) (ai c24 (ai (g_ff c24) (ai (At.one (P := Try.prog) (t := 3) (v := .int .i64 y23) at23 (by kernel_rfl) 0 rfl rfl) (ai (g_ff c24) (ai ix23 (ai (g_ff c24) (ai (g_ff c24) (ai (g_ff c24) (ai (g_ff c24) (ai (At.one (P := Try.prog) (t := 3) (v := .int .i64 y23) at23 (by kernel_rfl) 0 rfl rfl) (ai ix23 (ai (At.agg (P := Try.prog) (t := 35) (v := .agg #[.int .i64 y22.1, .int .i64 y22.2]) (m := 2) at22 (by kernel_rfl) (by kernel_rfl) 0 (by kernel_rfl) rfl) (ai ix22 (ai c21 trivial)))))))))))))))))))))))))))))))))))))))))))))))))))))) (hd := F38_d1) (h := by kernel_rfl)
      · refine dec_bif (fun c26 => ?_) (fun c26 => ?_)
        · refine bind_opt fun y27 e27 => ?_
          obtain ⟨id27, off27, g27, cs27, ix27, at27, rfl⟩ := SlE.at hv11 e27
          refine dec_bif (fun c28 => ?_) (fun c28 => ?_)
          · intro hr
            obtain rfl := Option.some.inj hr
            show AWp Try.prog _ (Ends1 ((F38_x1 h x7 x8 v9 v10 v11) (0 : Nat)).1 ((F38_x1 h x7 x8 v9 v10 v11) (0 : Nat)).2) _
            exact pEnd_sound good (L := F38_L) (D := F38_D) (its := [.g, (.b true), .g, .g, .g, .g, .g, (.ix id22 off22 g22), (.ld (.agg #[.int .i64 y22.1, .int .i64 y22.2])), .g, .g, .g, .g, .g, (.ix id23 off23 g23), (.ld (.int .i64 y23)), .g, .g, (.w .g), (.w .g), (.w .g), (.w (.ix id23 off23 g23)), (.w (.ld (.int .i64 y23))), (.w .g), (.p false), .g, (.w .g), (.w .g), (.w .g), (.w .g), (.w .g), (.w .g), (.w .g), (.w (.ix id27 off27 g27)), (.w (.ld (.int .i64 y27))), (.w .g), (.w (.p true)), (.p false), .g, .n, .n, .n, .n, .n, .n, .n, .n, .n, .n, .n, .n, .n, .n, .n, .n, .n, .n, .n, .n, .n, .n, .n, .n, .n, .n, (.p true), (.b true), .g]) (ds := F38_m1_0) (ks := [2, 3, 6]) (e := ((F38_x1 h x7 x8 v9 v10 v11) (0 : Nat)).1) (s2 := ((F38_x1 h x7 x8 v9 v10 v11) (0 : Nat)).2) (hC := (ai l_t (ai c28 (ai (g_tf c28) (ai l_f (ai l_f (ai l_f (ai l_f (ai l_f (ai l_f (ai l_f (ai l_f (ai l_f (ai l_f (ai l_f (ai l_f (ai l_f (ai l_f (ai l_f (ai l_f (ai l_f (ai l_f (ai l_f (ai l_f (ai l_f (ai (g_tf c28) (ai (g_tf c28) (ai (g_tf c28) (ai (g_tf c28) (ai c25 (ai c26 (ai (g_ff c25) (ai (g_tt c26) (ai (At.one (P := Try.prog) (t := 3) (v := .int .i64 y27) at27 (by kernel_rfl) 0 rfl rfl) (ai (g_tt c26) (ai ix27 (ai (g_tt c26) (ai (g_tt c26) (ai (g_tt c26) (ai (g_tt c26) (ai (g_ff c25) (ai (g_ff c25) (ai (g_ff c25) (ai (g_ff c25) (ai c24 (ai (g_ff c24) (ai (At.one (P := Try.prog) (t := 3) (v := .int .i64 y23) at23 (by kernel_rfl) 0 rfl rfl) (ai (g_ff c24) (ai ix23 (ai (g_ff c24) (ai (g_ff c24) (ai (g_ff c24) (ai (g_ff c24) (ai (At.one (P := Try.prog) (t := 3) (v := .int .i64 y23) at23 (by kernel_rfl) 0 rfl rfl) (ai ix23 (ai (At.agg (P := Try.prog) (t := 35) (v := .agg #[.int .i64 y22.1, .int .i64 y22.2]) (m := 2) at22 (by kernel_rfl) (by kernel_rfl) 0 (by kernel_rfl) rfl) (ai ix22 (ai c21 trivial)))))))))))))))))))))))))))))))))))))))))))))))))))))))))) (hd := F38_d1) (h := by kernel_rfl)
          · refine dec_bif (fun c29 => ?_) (fun c29 => ?_)
            · refine dec_bif (fun c30 => ?_) (fun c30 => ?_)
              · intro hr
                obtain rfl := Option.some.inj hr
                show AWp Try.prog _ (Ends1 ((F38_x1 h x7 x8 v9 v10 v11) (0 : Nat)).1 ((F38_x1 h x7 x8 v9 v10 v11) (0 : Nat)).2) _
                exact pEnd_sound good (L := F38_L) (D := F38_D) (its := [.g, (.b true), .g, .g, .g, .g, .g, (.ix id22 off22 g22), (.ld (.agg #[.int .i64 y22.1, .int .i64 y22.2])), .g, .g, .g, .g, .g, (.ix id23 off23 g23), (.ld (.int .i64 y23)), .g, .g, (.w .g), (.w .g), (.w .g), (.w (.ix id23 off23 g23)), (.w (.ld (.int .i64 y23))), (.w .g), (.p false), .g, (.w .g), (.w .g), (.w .g), (.w .g), (.w .g), (.w .g), (.w .g), (.w (.ix id27 off27 g27)), (.w (.ld (.int .i64 y27))), (.w .g), (.w (.p true)), (.p false), .g, (.w .g), (.w .g), (.w .g), (.w .g), (.w .g), (.w .g), (.w .g), (.w (.ix id27 off27 g27)), (.w (.ld (.int .i64 y27))), (.w .g), (.w .g), .n, .n, .n, .n, .n, .n, .n, .n, .n, .n, .n, .n, .n, (.w (.p true)), (.w (.p true)), (.p false), (.b true), .g]) (ds := F38_m1_0) (ks := [2, 3, 6]) (e := ((F38_x1 h x7 x8 v9 v10 v11) (0 : Nat)).1) (s2 := ((F38_x1 h x7 x8 v9 v10 v11) (0 : Nat)).2) (hC := (ai l_t (ai c28 (ai c29 (ai (g_ff c28) (ai c30 (ai (g_tt c29) (ai (g_tf c30) (ai (g_tf c30) (ai (g_tf c30) (ai (g_tf c30) (ai (g_tf c30) (ai (g_tf c30) (ai (g_tf c30) (ai (g_tf c30) (ai (g_tf c30) (ai (g_tf c30) (ai (g_tf c30) (ai (g_tf c30) (ai (g_tf c30) (ai (g_tt c29) (ai (g_tt c29) (ai (At.one (P := Try.prog) (t := 3) (v := .int .i64 y27) at27 (by kernel_rfl) 0 rfl rfl) (ai (g_tt c29) (ai ix27 (ai (g_tt c29) (ai (g_tt c29) (ai (g_tt c29) (ai (g_tt c29) (ai (g_ff c28) (ai (g_ff c28) (ai (g_ff c28) (ai (g_ff c28) (ai c25 (ai c26 (ai (g_ff c25) (ai (g_tt c26) (ai (At.one (P := Try.prog) (t := 3) (v := .int .i64 y27) at27 (by kernel_rfl) 0 rfl rfl) (ai (g_tt c26) (ai ix27 (ai (g_tt c26) (ai (g_tt c26) (ai (g_tt c26) (ai (g_tt c26) (ai (g_ff c25) (ai (g_ff c25) (ai (g_ff c25) (ai (g_ff c25) (ai c24 (ai (g_ff c24) (ai (At.one (P := Try.prog) (t := 3) (v := .int .i64 y23) at23 (by kernel_rfl) 0 rfl rfl) (ai (g_ff c24) (ai ix23 (ai (g_ff c24) (ai (g_ff c24) (ai (g_ff c24) (ai (g_ff c24) (ai (At.one (P := Try.prog) (t := 3) (v := .int .i64 y23) at23 (by kernel_rfl) 0 rfl rfl) (ai ix23 (ai (At.agg (P := Try.prog) (t := 35) (v := .agg #[.int .i64 y22.1, .int .i64 y22.2]) (m := 2) at22 (by kernel_rfl) (by kernel_rfl) 0 (by kernel_rfl) rfl) (ai ix22 (ai c21 trivial)))))))))))))))))))))))))))))))))))))))))))))))))))))))))))))) (hd := F38_d1) (h := by kernel_rfl)
              · refine bind_opt fun y31 e31 => ?_
                obtain ⟨id31, off31, g31, cs31, ix31, at31, rfl⟩ := SlE.at hv5 e31
                refine dec_bif (fun c32 => ?_) (fun c32 => ?_)
                · intro hr
                  obtain rfl := Option.some.inj hr
                  show AWp Try.prog _ (Ends1 ((F38_x1 h x7 x8 v9 v10 v11) (0 : Nat)).1 ((F38_x1 h x7 x8 v9 v10 v11) (0 : Nat)).2) _
                  exact pEnd_sound good (L := F38_L) (D := F38_D) (its := [.g, (.b true), .g, .g, .g, .g, .g, (.ix id22 off22 g22), (.ld (.agg #[.int .i64 y22.1, .int .i64 y22.2])), .g, .g, .g, .g, .g, (.ix id23 off23 g23), (.ld (.int .i64 y23)), .g, .g, (.w .g), (.w .g), (.w .g), (.w (.ix id23 off23 g23)), (.w (.ld (.int .i64 y23))), (.w .g), (.p false), .g, (.w .g), (.w .g), (.w .g), (.w .g), (.w .g), (.w .g), (.w .g), (.w (.ix id27 off27 g27)), (.w (.ld (.int .i64 y27))), (.w .g), (.w (.p true)), (.p false), .g, (.w .g), (.w .g), (.w .g), (.w .g), (.w .g), (.w .g), (.w .g), (.w (.ix id27 off27 g27)), (.w (.ld (.int .i64 y27))), (.w .g), (.w .g), (.w .g), (.w .g), (.w .g), (.w (.ix id27 off27 g27)), (.w (.ld (.int .i64 y27))), (.w .g), (.w .g), (.w .g), (.w .g), (.w (.ix id31 off31 g31)), (.w .g), (.w (.ld (.int .i64 y31.2.2.2))), (.w .g), (.w (.p false)), (.w (.p true)), (.p false), (.b true), .g]) (ds := F38_m1_0) (ks := [2, 3, 6]) (e := ((F38_x1 h x7 x8 v9 v10 v11) (0 : Nat)).1) (s2 := ((F38_x1 h x7 x8 v9 v10 v11) (0 : Nat)).2) (hC := (ai c32 (ai c28 (ai c29 (ai (g_ff c28) (ai c30 (ai (g_tt c29) (ai (g_ff c30) (ai (At.one (P := Try.prog) (t := 3) (v := .int .i64 y31.2.2.2) at31 (by kernel_rfl) 3 rfl rfl) (ai (g_ff c30) (ai (g_ff c30) (ai ix31 (ai (g_ff c30) (ai (g_ff c30) (ai (g_ff c30) (ai (g_ff c30) (ai (g_ff c30) (ai (At.one (P := Try.prog) (t := 3) (v := .int .i64 y27) at27 (by kernel_rfl) 0 rfl rfl) (ai (g_ff c30) (ai ix27 (ai (g_ff c30) (ai (g_ff c30) (ai (g_ff c30) (ai (g_ff c30) (ai (g_tt c29) (ai (g_tt c29) (ai (At.one (P := Try.prog) (t := 3) (v := .int .i64 y27) at27 (by kernel_rfl) 0 rfl rfl) (ai (g_tt c29) (ai ix27 (ai (g_tt c29) (ai (g_tt c29) (ai (g_tt c29) (ai (g_tt c29) (ai (g_ff c28) (ai (g_ff c28) (ai (g_ff c28) (ai (g_ff c28) (ai c25 (ai c26 (ai (g_ff c25) (ai (g_tt c26) (ai (At.one (P := Try.prog) (t := 3) (v := .int .i64 y27) at27 (by kernel_rfl) 0 rfl rfl) (ai (g_tt c26) (ai ix27 (ai (g_tt c26) (ai (g_tt c26) (ai (g_tt c26) (ai (g_tt c26) (ai (g_ff c25) (ai (g_ff c25) (ai (g_ff c25) (ai (g_ff c25) (ai c24 (ai (g_ff c24) (ai (At.one (P := Try.prog) (t := 3) (v := .int .i64 y23) at23 (by kernel_rfl) 0 rfl rfl) (ai (g_ff c24) (ai ix23 (ai (g_ff c24) (ai (g_ff c24) (ai (g_ff c24) (ai (g_ff c24) (ai (At.one (P := Try.prog) (t := 3) (v := .int .i64 y23) at23 (by kernel_rfl) 0 rfl rfl) (ai ix23 (ai (At.agg (P := Try.prog) (t := 35) (v := .agg #[.int .i64 y22.1, .int .i64 y22.2]) (m := 2) at22 (by kernel_rfl) (by kernel_rfl) 0 (by kernel_rfl) rfl) (ai ix22 (ai c21 trivial)))))))))))))))))))))))))))))))))))))))))))))))))))))))))))))))))) (hd := F38_d1) (h := by kernel_rfl)
                · intro hr
                  obtain rfl := Option.some.inj hr
                  show AWp Try.prog _ (Ends1 .normal (F38_h1 h x1 x2 x3 v4 v5 v6 x7 x8 l9 v9 v10 v11 (IntKind.i64.wrap (a20 + 1)))) _
                  exact pEnd_sound good (L := F38_L) (D := F38_D) (its := [.g, (.b true), .g, .g, .g, .g, .g, (.ix id22 off22 g22), (.ld (.agg #[.int .i64 y22.1, .int .i64 y22.2])), .g, .g, .g, .g, .g, (.ix id23 off23 g23), (.ld (.int .i64 y23)), .g, .g, (.w .g), (.w .g), (.w .g), (.w (.ix id23 off23 g23)), (.w (.ld (.int .i64 y23))), (.w .g), (.p false), .g, (.w .g), (.w .g), (.w .g), (.w .g), (.w .g), (.w .g), (.w .g), (.w (.ix id27 off27 g27)), (.w (.ld (.int .i64 y27))), (.w .g), (.w (.p true)), (.p false), .g, (.w .g), (.w .g), (.w .g), (.w .g), (.w .g), (.w .g), (.w .g), (.w (.ix id27 off27 g27)), (.w (.ld (.int .i64 y27))), (.w .g), (.w .g), (.w .g), (.w .g), (.w .g), (.w (.ix id27 off27 g27)), (.w (.ld (.int .i64 y27))), (.w .g), (.w .g), (.w .g), (.w .g), (.w (.ix id31 off31 g31)), (.w .g), (.w (.ld (.int .i64 y31.2.2.2))), (.w .g), (.w (.p false)), (.w (.p true)), (.p false), (.b false), .g, .g]) (ds := F38_m1_1) (ks := [6]) (e := .normal) (s2 := (F38_h1 h x1 x2 x3 v4 v5 v6 x7 x8 l9 v9 v10 v11 (IntKind.i64.wrap (a20 + 1)))) (hC := (ai c32 (ai c28 (ai c29 (ai (g_ff c28) (ai c30 (ai (g_tt c29) (ai (g_ff c30) (ai (At.one (P := Try.prog) (t := 3) (v := .int .i64 y31.2.2.2) at31 (by kernel_rfl) 3 rfl rfl) (ai (g_ff c30) (ai (g_ff c30) (ai ix31 (ai (g_ff c30) (ai (g_ff c30) (ai (g_ff c30) (ai (g_ff c30) (ai (g_ff c30) (ai (At.one (P := Try.prog) (t := 3) (v := .int .i64 y27) at27 (by kernel_rfl) 0 rfl rfl) (ai (g_ff c30) (ai ix27 (ai (g_ff c30) (ai (g_ff c30) (ai (g_ff c30) (ai (g_ff c30) (ai (g_tt c29) (ai (g_tt c29) (ai (At.one (P := Try.prog) (t := 3) (v := .int .i64 y27) at27 (by kernel_rfl) 0 rfl rfl) (ai (g_tt c29) (ai ix27 (ai (g_tt c29) (ai (g_tt c29) (ai (g_tt c29) (ai (g_tt c29) (ai (g_ff c28) (ai (g_ff c28) (ai (g_ff c28) (ai (g_ff c28) (ai c25 (ai c26 (ai (g_ff c25) (ai (g_tt c26) (ai (At.one (P := Try.prog) (t := 3) (v := .int .i64 y27) at27 (by kernel_rfl) 0 rfl rfl) (ai (g_tt c26) (ai ix27 (ai (g_tt c26) (ai (g_tt c26) (ai (g_tt c26) (ai (g_tt c26) (ai (g_ff c25) (ai (g_ff c25) (ai (g_ff c25) (ai (g_ff c25) (ai c24 (ai (g_ff c24) (ai (At.one (P := Try.prog) (t := 3) (v := .int .i64 y23) at23 (by kernel_rfl) 0 rfl rfl) (ai (g_ff c24) (ai ix23 (ai (g_ff c24) (ai (g_ff c24) (ai (g_ff c24) (ai (g_ff c24) (ai (At.one (P := Try.prog) (t := 3) (v := .int .i64 y23) at23 (by kernel_rfl) 0 rfl rfl) (ai ix23 (ai (At.agg (P := Try.prog) (t := 35) (v := .agg #[.int .i64 y22.1, .int .i64 y22.2]) (m := 2) at22 (by kernel_rfl) (by kernel_rfl) 0 (by kernel_rfl) rfl) (ai ix22 (ai c21 trivial)))))))))))))))))))))))))))))))))))))))))))))))))))))))))))))))))) (hd := F38_d1) (h := by kernel_rfl)
            · intro hr
              obtain rfl := Option.some.inj hr
              show AWp Try.prog _ (Ends1 .normal (F38_h1 h x1 x2 x3 v4 v5 v6 x7 x8 l9 v9 v10 v11 (IntKind.i64.wrap (a20 + 1)))) _
              exact pEnd_sound good (L := F38_L) (D := F38_D) (its := [.g, (.b true), .g, .g, .g, .g, .g, (.ix id22 off22 g22), (.ld (.agg #[.int .i64 y22.1, .int .i64 y22.2])), .g, .g, .g, .g, .g, (.ix id23 off23 g23), (.ld (.int .i64 y23)), .g, .g, (.w .g), (.w .g), (.w .g), (.w (.ix id23 off23 g23)), (.w (.ld (.int .i64 y23))), (.w .g), (.p false), .g, (.w .g), (.w .g), (.w .g), (.w .g), (.w .g), (.w .g), (.w .g), (.w (.ix id27 off27 g27)), (.w (.ld (.int .i64 y27))), (.w .g), (.w (.p true)), (.p false), .g, (.w .g), (.w .g), (.w .g), (.w .g), .n, .n, .n, .n, .n, .n, .n, .n, .n, .n, .n, .n, .n, .n, .n, .n, .n, .n, .n, .n, .n, (.w (.p false)), (.p false), (.b false), .g, .g]) (ds := F38_m1_1) (ks := [6]) (e := .normal) (s2 := (F38_h1 h x1 x2 x3 v4 v5 v6 x7 x8 l9 v9 v10 v11 (IntKind.i64.wrap (a20 + 1)))) (hC := (ai l_f (ai c28 (ai c29 (ai (g_ff c28) (ai (g_ft c29) (ai l_f (ai l_f (ai l_f (ai l_f (ai l_f (ai l_f (ai l_f (ai l_f (ai l_f (ai l_f (ai l_f (ai l_f (ai l_f (ai (g_ft c29) (ai (g_ft c29) (ai (g_ft c29) (ai (g_ft c29) (ai (g_ft c29) (ai (g_ft c29) (ai (g_ft c29) (ai (g_ff c28) (ai (g_ff c28) (ai (g_ff c28) (ai (g_ff c28) (ai c25 (ai c26 (ai (g_ff c25) (ai (g_tt c26) (ai (At.one (P := Try.prog) (t := 3) (v := .int .i64 y27) at27 (by kernel_rfl) 0 rfl rfl) (ai (g_tt c26) (ai ix27 (ai (g_tt c26) (ai (g_tt c26) (ai (g_tt c26) (ai (g_tt c26) (ai (g_ff c25) (ai (g_ff c25) (ai (g_ff c25) (ai (g_ff c25) (ai c24 (ai (g_ff c24) (ai (At.one (P := Try.prog) (t := 3) (v := .int .i64 y23) at23 (by kernel_rfl) 0 rfl rfl) (ai (g_ff c24) (ai ix23 (ai (g_ff c24) (ai (g_ff c24) (ai (g_ff c24) (ai (g_ff c24) (ai (At.one (P := Try.prog) (t := 3) (v := .int .i64 y23) at23 (by kernel_rfl) 0 rfl rfl) (ai ix23 (ai (At.agg (P := Try.prog) (t := 35) (v := .agg #[.int .i64 y22.1, .int .i64 y22.2]) (m := 2) at22 (by kernel_rfl) (by kernel_rfl) 0 (by kernel_rfl) rfl) (ai ix22 (ai c21 trivial))))))))))))))))))))))))))))))))))))))))))))))))))))))))))) (hd := F38_d1) (h := by kernel_rfl)
        · refine dec_bif (fun c33 => ?_) (fun c33 => ?_)
          · refine bind_opt fun y34 e34 => ?_
            obtain ⟨id34, off34, g34, cs34, ix34, at34, rfl⟩ := SlE.at hv11 e34
            refine dec_bif (fun c35 => ?_) (fun c35 => ?_)
            · intro hr
              obtain rfl := Option.some.inj hr
              show AWp Try.prog _ (Ends1 ((F38_x1 h x7 x8 v9 v10 v11) (0 : Nat)).1 ((F38_x1 h x7 x8 v9 v10 v11) (0 : Nat)).2) _
              exact pEnd_sound good (L := F38_L) (D := F38_D) (its := [.g, (.b true), .g, .g, .g, .g, .g, (.ix id22 off22 g22), (.ld (.agg #[.int .i64 y22.1, .int .i64 y22.2])), .g, .g, .g, .g, .g, (.ix id23 off23 g23), (.ld (.int .i64 y23)), .g, .g, (.w .g), (.w .g), (.w .g), (.w (.ix id23 off23 g23)), (.w (.ld (.int .i64 y23))), (.w .g), (.p false), .g, (.w .g), (.w .g), (.w .g), (.w .g), .n, .n, .n, .n, .n, .n, (.w (.p false)), (.p false), .g, (.w .g), (.w .g), (.w .g), (.w .g), (.w .g), (.w .g), (.w .g), (.w (.ix id34 off34 g34)), (.w (.ld (.int .i64 y34))), (.w .g), (.w .g), .n, .n, .n, .n, .n, .n, .n, .n, .n, .n, .n, .n, .n, (.w (.p true)), (.w (.p true)), .g, (.b true), .g]) (ds := F38_m1_0) (ks := [2, 3, 6]) (e := ((F38_x1 h x7 x8 v9 v10 v11) (0 : Nat)).1) (s2 := ((F38_x1 h x7 x8 v9 v10 v11) (0 : Nat)).2) (hC := (ai l_t (ai c33 (ai (g_ff l_f) (ai c35 (ai (g_tt c33) (ai (g_tf c35) (ai (g_tf c35) (ai (g_tf c35) (ai (g_tf c35) (ai (g_tf c35) (ai (g_tf c35) (ai (g_tf c35) (ai (g_tf c35) (ai (g_tf c35) (ai (g_tf c35) (ai (g_tf c35) (ai (g_tf c35) (ai (g_tf c35) (ai (g_tt c33) (ai (g_tt c33) (ai (At.one (P := Try.prog) (t := 3) (v := .int .i64 y34) at34 (by kernel_rfl) 0 rfl rfl) (ai (g_tt c33) (ai ix34 (ai (g_tt c33) (ai (g_tt c33) (ai (g_tt c33) (ai (g_tt c33) (ai (g_ff l_f) (ai (g_ff l_f) (ai (g_ff l_f) (ai (g_ff l_f) (ai c25 (ai c26 (ai (g_ff c25) (ai (g_ft c26) (ai (g_ft c26) (ai (g_ft c26) (ai (g_ft c26) (ai (g_ft c26) (ai (g_ft c26) (ai (g_ff c25) (ai (g_ff c25) (ai (g_ff c25) (ai (g_ff c25) (ai c24 (ai (g_ff c24) (ai (At.one (P := Try.prog) (t := 3) (v := .int .i64 y23) at23 (by kernel_rfl) 0 rfl rfl) (ai (g_ff c24) (ai ix23 (ai (g_ff c24) (ai (g_ff c24) (ai (g_ff c24) (ai (g_ff c24) (ai (At.one (P := Try.prog) (t := 3) (v := .int .i64 y23) at23 (by kernel_rfl) 0 rfl rfl) (ai ix23 (ai (At.agg (P := Try.prog) (t := 35) (v := .agg #[.int .i64 y22.1, .int .i64 y22.2]) (m := 2) at22 (by kernel_rfl) (by kernel_rfl) 0 (by kernel_rfl) rfl) (ai ix22 (ai c21 trivial))))))))))))))))))))))))))))))))))))))))))))))))))))))))))) (hd := F38_d1) (h := by kernel_rfl)
            · refine bind_opt fun y36 e36 => ?_
              obtain ⟨id36, off36, g36, cs36, ix36, at36, rfl⟩ := SlE.at hv5 e36
              refine dec_bif (fun c37 => ?_) (fun c37 => ?_)
              · intro hr
                obtain rfl := Option.some.inj hr
                show AWp Try.prog _ (Ends1 ((F38_x1 h x7 x8 v9 v10 v11) (0 : Nat)).1 ((F38_x1 h x7 x8 v9 v10 v11) (0 : Nat)).2) _
                exact pEnd_sound good (L := F38_L) (D := F38_D) (its := [.g, (.b true), .g, .g, .g, .g, .g, (.ix id22 off22 g22), (.ld (.agg #[.int .i64 y22.1, .int .i64 y22.2])), .g, .g, .g, .g, .g, (.ix id23 off23 g23), (.ld (.int .i64 y23)), .g, .g, (.w .g), (.w .g), (.w .g), (.w (.ix id23 off23 g23)), (.w (.ld (.int .i64 y23))), (.w .g), (.p false), .g, (.w .g), (.w .g), (.w .g), (.w .g), .n, .n, .n, .n, .n, .n, (.w (.p false)), (.p false), .g, (.w .g), (.w .g), (.w .g), (.w .g), (.w .g), (.w .g), (.w .g), (.w (.ix id34 off34 g34)), (.w (.ld (.int .i64 y34))), (.w .g), (.w .g), (.w .g), (.w .g), (.w .g), (.w (.ix id34 off34 g34)), (.w (.ld (.int .i64 y34))), (.w .g), (.w .g), (.w .g), (.w .g), (.w (.ix id36 off36 g36)), (.w .g), (.w (.ld (.int .i64 y36.2.2.2))), (.w .g), (.w (.p false)), (.w (.p true)), .g, (.b true), .g]) (ds := F38_m1_0) (ks := [2, 3, 6]) (e := ((F38_x1 h x7 x8 v9 v10 v11) (0 : Nat)).1) (s2 := ((F38_x1 h x7 x8 v9 v10 v11) (0 : Nat)).2) (hC := (ai c37 (ai c33 (ai (g_ff l_f) (ai c35 (ai (g_tt c33) (ai (g_ff c35) (ai (At.one (P := Try.prog) (t := 3) (v := .int .i64 y36.2.2.2) at36 (by kernel_rfl) 3 rfl rfl) (ai (g_ff c35) (ai (g_ff c35) (ai ix36 (ai (g_ff c35) (ai (g_ff c35) (ai (g_ff c35) (ai (g_ff c35) (ai (g_ff c35) (ai (At.one (P := Try.prog) (t := 3) (v := .int .i64 y34) at34 (by kernel_rfl) 0 rfl rfl) (ai (g_ff c35) (ai ix34 (ai (g_ff c35) (ai (g_ff c35) (ai (g_ff c35) (ai (g_ff c35) (ai (g_tt c33) (ai (g_tt c33) (ai (At.one (P := Try.prog) (t := 3) (v := .int .i64 y34) at34 (by kernel_rfl) 0 rfl rfl) (ai (g_tt c33) (ai ix34 (ai (g_tt c33) (ai (g_tt c33) (ai (g_tt c33) (ai (g_tt c33) (ai (g_ff l_f) (ai (g_ff l_f) (ai (g_ff l_f) (ai (g_ff l_f) (ai c25 (ai c26 (ai (g_ff c25) (ai (g_ft c26) (ai (g_ft c26) (ai (g_ft c26) (ai (g_ft c26) (ai (g_ft c26) (ai (g_ft c26) (ai (g_ff c25) (ai (g_ff c25) (ai (g_ff c25) (ai (g_ff c25) (ai c24 (ai (g_ff c24) (ai (At.one (P := Try.prog) (t := 3) (v := .int .i64 y23) at23 (by kernel_rfl) 0 rfl rfl) (ai (g_ff c24) (ai ix23 (ai (g_ff c24) (ai (g_ff c24) (ai (g_ff c24) (ai (g_ff c24) (ai (At.one (P := Try.prog) (t := 3) (v := .int .i64 y23) at23 (by kernel_rfl) 0 rfl rfl) (ai ix23 (ai (At.agg (P := Try.prog) (t := 35) (v := .agg #[.int .i64 y22.1, .int .i64 y22.2]) (m := 2) at22 (by kernel_rfl) (by kernel_rfl) 0 (by kernel_rfl) rfl) (ai ix22 (ai c21 trivial))))))))))))))))))))))))))))))))))))))))))))))))))))))))))))))) (hd := F38_d1) (h := by kernel_rfl)
              · intro hr
                obtain rfl := Option.some.inj hr
                show AWp Try.prog _ (Ends1 .normal (F38_h1 h x1 x2 x3 v4 v5 v6 x7 x8 l9 v9 v10 v11 (IntKind.i64.wrap (a20 + 1)))) _
                exact pEnd_sound good (L := F38_L) (D := F38_D) (its := [.g, (.b true), .g, .g, .g, .g, .g, (.ix id22 off22 g22), (.ld (.agg #[.int .i64 y22.1, .int .i64 y22.2])), .g, .g, .g, .g, .g, (.ix id23 off23 g23), (.ld (.int .i64 y23)), .g, .g, (.w .g), (.w .g), (.w .g), (.w (.ix id23 off23 g23)), (.w (.ld (.int .i64 y23))), (.w .g), (.p false), .g, (.w .g), (.w .g), (.w .g), (.w .g), .n, .n, .n, .n, .n, .n, (.w (.p false)), (.p false), .g, (.w .g), (.w .g), (.w .g), (.w .g), (.w .g), (.w .g), (.w .g), (.w (.ix id34 off34 g34)), (.w (.ld (.int .i64 y34))), (.w .g), (.w .g), (.w .g), (.w .g), (.w .g), (.w (.ix id34 off34 g34)), (.w (.ld (.int .i64 y34))), (.w .g), (.w .g), (.w .g), (.w .g), (.w (.ix id36 off36 g36)), (.w .g), (.w (.ld (.int .i64 y36.2.2.2))), (.w .g), (.w (.p false)), (.w (.p true)), .g, (.b false), .g, .g]) (ds := F38_m1_1) (ks := [6]) (e := .normal) (s2 := (F38_h1 h x1 x2 x3 v4 v5 v6 x7 x8 l9 v9 v10 v11 (IntKind.i64.wrap (a20 + 1)))) (hC := (ai c37 (ai c33 (ai (g_ff l_f) (ai c35 (ai (g_tt c33) (ai (g_ff c35) (ai (At.one (P := Try.prog) (t := 3) (v := .int .i64 y36.2.2.2) at36 (by kernel_rfl) 3 rfl rfl) (ai (g_ff c35) (ai (g_ff c35) (ai ix36 (ai (g_ff c35) (ai (g_ff c35) (ai (g_ff c35) (ai (g_ff c35) (ai (g_ff c35) (ai (At.one (P := Try.prog) (t := 3) (v := .int .i64 y34) at34 (by kernel_rfl) 0 rfl rfl) (ai (g_ff c35) (ai ix34 (ai (g_ff c35) (ai (g_ff c35) (ai (g_ff c35) (ai (g_ff c35) (ai (g_tt c33) (ai (g_tt c33) (ai (At.one (P := Try.prog) (t := 3) (v := .int .i64 y34) at34 (by kernel_rfl) 0 rfl rfl) (ai (g_tt c33) (ai ix34 (ai (g_tt c33) (ai (g_tt c33) (ai (g_tt c33) (ai (g_tt c33) (ai (g_ff l_f) (ai (g_ff l_f) (ai (g_ff l_f) (ai (g_ff l_f) (ai c25 (ai c26 (ai (g_ff c25) (ai (g_ft c26) (ai (g_ft c26) (ai (g_ft c26) (ai (g_ft c26) (ai (g_ft c26) (ai (g_ft c26) (ai (g_ff c25) (ai (g_ff c25) (ai (g_ff c25) (ai (g_ff c25) (ai c24 (ai (g_ff c24) (ai (At.one (P := Try.prog) (t := 3) (v := .int .i64 y23) at23 (by kernel_rfl) 0 rfl rfl) (ai (g_ff c24) (ai ix23 (ai (g_ff c24) (ai (g_ff c24) (ai (g_ff c24) (ai (g_ff c24) (ai (At.one (P := Try.prog) (t := 3) (v := .int .i64 y23) at23 (by kernel_rfl) 0 rfl rfl) (ai ix23 (ai (At.agg (P := Try.prog) (t := 35) (v := .agg #[.int .i64 y22.1, .int .i64 y22.2]) (m := 2) at22 (by kernel_rfl) (by kernel_rfl) 0 (by kernel_rfl) rfl) (ai ix22 (ai c21 trivial))))))))))))))))))))))))))))))))))))))))))))))))))))))))))))))) (hd := F38_d1) (h := by kernel_rfl)
          · intro hr
            obtain rfl := Option.some.inj hr
            show AWp Try.prog _ (Ends1 .normal (F38_h1 h x1 x2 x3 v4 v5 v6 x7 x8 l9 v9 v10 v11 (IntKind.i64.wrap (a20 + 1)))) _
            exact pEnd_sound good (L := F38_L) (D := F38_D) (its := [.g, (.b true), .g, .g, .g, .g, .g, (.ix id22 off22 g22), (.ld (.agg #[.int .i64 y22.1, .int .i64 y22.2])), .g, .g, .g, .g, .g, (.ix id23 off23 g23), (.ld (.int .i64 y23)), .g, .g, (.w .g), (.w .g), (.w .g), (.w (.ix id23 off23 g23)), (.w (.ld (.int .i64 y23))), (.w .g), (.p false), .g, (.w .g), (.w .g), (.w .g), (.w .g), .n, .n, .n, .n, .n, .n, (.w (.p false)), (.p false), .g, (.w .g), (.w .g), (.w .g), (.w .g), .n, .n, .n, .n, .n, .n, .n, .n, .n, .n, .n, .n, .n, .n, .n, .n, .n, .n, .n, .n, .n, (.w (.p false)), .g, (.b false), .g, .g]) (ds := F38_m1_1) (ks := [6]) (e := .normal) (s2 := (F38_h1 h x1 x2 x3 v4 v5 v6 x7 x8 l9 v9 v10 v11 (IntKind.i64.wrap (a20 + 1)))) (hC := (ai l_f (ai c33 (ai (g_ff l_f) (ai (g_ft c33) (ai l_f (ai l_f (ai l_f (ai l_f (ai l_f (ai l_f (ai l_f (ai l_f (ai l_f (ai l_f (ai l_f (ai l_f (ai l_f (ai (g_ft c33) (ai (g_ft c33) (ai (g_ft c33) (ai (g_ft c33) (ai (g_ft c33) (ai (g_ft c33) (ai (g_ft c33) (ai (g_ff l_f) (ai (g_ff l_f) (ai (g_ff l_f) (ai (g_ff l_f) (ai c25 (ai c26 (ai (g_ff c25) (ai (g_ft c26) (ai (g_ft c26) (ai (g_ft c26) (ai (g_ft c26) (ai (g_ft c26) (ai (g_ft c26) (ai (g_ff c25) (ai (g_ff c25) (ai (g_ff c25) (ai (g_ff c25) (ai c24 (ai (g_ff c24) (ai (At.one (P := Try.prog) (t := 3) (v := .int .i64 y23) at23 (by kernel_rfl) 0 rfl rfl) (ai (g_ff c24) (ai ix23 (ai (g_ff c24) (ai (g_ff c24) (ai (g_ff c24) (ai (g_ff c24) (ai (At.one (P := Try.prog) (t := 3) (v := .int .i64 y23) at23 (by kernel_rfl) 0 rfl rfl) (ai ix23 (ai (At.agg (P := Try.prog) (t := 35) (v := .agg #[.int .i64 y22.1, .int .i64 y22.2]) (m := 2) at22 (by kernel_rfl) (by kernel_rfl) 0 (by kernel_rfl) rfl) (ai ix22 (ai c21 trivial)))))))))))))))))))))))))))))))))))))))))))))))))))))))) (hd := F38_d1) (h := by kernel_rfl)
  · intro hr
    obtain rfl := Option.some.inj hr
    show AWp Try.prog _ (Ends1 ((F38_x1 h x7 x8 v9 v10 v11) (1 : Nat)).1 ((F38_x1 h x7 x8 v9 v10 v11) (1 : Nat)).2) _
    exact pEnd_sound good (L := F38_L) (D := F38_D) (its := [.g, (.b false)]) (ds := F38_m1_2) (ks := [2]) (e := ((F38_x1 h x7 x8 v9 v10 v11) (1 : Nat)).1) (s2 := ((F38_x1 h x7 x8 v9 v10 v11) (1 : Nat)).2) (hC := (ai c21 trivial)) (hd := F38_d1) (h := by kernel_rfl)
theorem F38_l1_0 (h : AHeap) (x1 : Int) (x2 : Int) (x3 : Bool) (v4 : Hd) (l5 : List (Int × Int × Int × Int)) (v5 : Hd) (hv5 : SlE E38 4 h (sv v5) l5) (l6 : List (Int × Int)) (v6 : Hd) (hv6 : SlE E35 2 h (sv v6) l6) (x7 : Int) (x8 : Int) (l9 : List Int) (v9 : Hd) (hv9 : SlE E3 1 h (sv v9) l9) (v10 : Hd) (l11 : List Int) (v11 : Hd) (hv11 : SlE E3 1 h (sv v11) l11) (x : Int) (r : Nat) (hl : loopO (fun (s : Int) => F38_s1 l5 l6 l9 l11 s) x = some r) (q0 : Nat.beq r 0 = true) : AWp Try.prog (.loop (codeOf Try.prog 38 [1, 1, 0, 1, 0, 0])) (Ends1 .ret (F38_x1_0 h x7 x8 v9 v10 v11 r)) ((fun (s : Int) => (F38_h1 h x1 x2 x3 v4 v5 v6 x7 x8 l9 v9 v10 v11 s)) x) := by
  have k := loop_fun (P := Try.prog) (c := (codeOf Try.prog 38 [1, 1, 0, 1, 0, 0])) (step := (fun (s : Int) => F38_s1 l5 l6 l9 l11 s)) (hd := (fun (s : Int) => (F38_h1 h x1 x2 x3 v4 v5 v6 x7 x8 l9 v9 v10 v11 s))) (X := (F38_x1 h x7 x8 v9 v10 v11)) (by intro t; unfold F38_x1; cases Nat.beq t 0 <;> (intro h; cases h)) (fun x => F38_r1 h x1 x2 x3 v4 l5 v5 hv5 l6 v6 hv6 x7 x8 l9 v9 hv9 v10 l11 v11 hv11 x) hl
  simp only [F38_x1, q0, cond_true, cond_false] at k
  exact k
theorem F38_l1_1 (h : AHeap) (x1 : Int) (x2 : Int) (x3 : Bool) (v4 : Hd) (l5 : List (Int × Int × Int × Int)) (v5 : Hd) (hv5 : SlE E38 4 h (sv v5) l5) (l6 : List (Int × Int)) (v6 : Hd) (hv6 : SlE E35 2 h (sv v6) l6) (x7 : Int) (x8 : Int) (l9 : List Int) (v9 : Hd) (hv9 : SlE E3 1 h (sv v9) l9) (v10 : Hd) (l11 : List Int) (v11 : Hd) (hv11 : SlE E3 1 h (sv v11) l11) (x : Int) (r : Nat) (hl : loopO (fun (s : Int) => F38_s1 l5 l6 l9 l11 s) x = some r) (q0 : Nat.beq r 0 = false) : AWp Try.prog (.loop (codeOf Try.prog 38 [1, 1, 0, 1, 0, 0])) (Ends1 (.exit 0) (F38_x1_1 h x7 x8 v9 v10 v11 r)) ((fun (s : Int) => (F38_h1 h x1 x2 x3 v4 v5 v6 x7 x8 l9 v9 v10 v11 s)) x) := by
  have k := loop_fun (P := Try.prog) (c := (codeOf Try.prog 38 [1, 1, 0, 1, 0, 0])) (step := (fun (s : Int) => F38_s1 l5 l6 l9 l11 s)) (hd := (fun (s : Int) => (F38_h1 h x1 x2 x3 v4 v5 v6 x7 x8 l9 v9 v10 v11 s))) (X := (F38_x1 h x7 x8 v9 v10 v11)) (by intro t; unfold F38_x1; cases Nat.beq t 0 <;> (intro h; cases h)) (fun x => F38_r1 h x1 x2 x3 v4 l5 v5 hv5 l6 v6 hv6 x7 x8 l9 v9 hv9 v10 l11 v11 hv11 x) hl
  simp only [F38_x1, q0, cond_true, cond_false] at k
  exact k
def F38_m2_2 : List Bool := [true, true, true, true, true, true, true, true, true, true, true, true, true, true, true, true, true, true, true, true, true, true, true, true, true, true, true, true, true, true, true, true, true, true, true, true, true, true, true, true, true, true, true, true, true, true, true, true, true, true, true, true, true, true, true, true, true, true, true, true, true, true, true, true, true, true, true, true, true, true, true, true, true, true, true, true, true, true, true, true, true, true, true, true, true, true, true, true, true, true, true, true, true, true, true, true, true, true, true, true, true, true, true, true, true, true, true, true, true, true, true, true, true, true, true, true, true, true, true, true, true, true, true, true, true, true, true, true, true, true, true, true, true, true, true, true, true, true, true, true, true, true, true, true, true, true]
def F38_m2_1 : List Bool := [true, true, true, false, true, true, true, true, true, true, true, true, true, true, true, true, true, true, true, true, true, true, true, true, true, true, true, true, true, true, true, true, true, true, true, true, true, true, true, true, true, true, true, true, true, true, true, true, true, true, true, true, true, true, true, true, true, true, true, true, true, true, true, true, true, true, true, true, true, true, true, true, true, true, true, true, true, true, true, true, true, true, true, true, true, true, true, true, true, true, true, true, true, true, true, true, true, true, true, true, true, true, true, true, true, true, true, true, true, true, true, true, true, true, true, true, true, true, true, true, true, true, true, true, true, true, true, false, false, true, true, true, true, true, true, true, true, true, true, true, true, true, true, true, true, true]
def F38_m2_0 : List Bool := [true, true, true, true, false, true, true, true, true, true, true, true, true, true, true, true, true, true, true, true, true, true, true, true, true, true, true, true, true, true, true, true, true, true, true, true, true, true, true, true, true, true, true, true, true, true, true, true, true, true, true, true, true, true, true, true, true, true, true, true, true, true, true, true, true, true, true, true, true, true, true, true, true, true, true, true, true, true, true, true, true, true, true, true, true, true, true, true, true, true, true, true, true, true, true, true, true, true, true, true, true, true, true, true, true, true, true, true, true, true, true, true, true, true, true, true, true, true, true, true, true, true, true, true, true, true, true, true, true, true, true, true, true, true, true, true, true, true, true, true, true, true, true, true, true, true]
def F38_s2 (l10 : List Int) (a40 : Int) : Option (Int ⊕ Nat) :=
  (bif decide (a40 < (l10.length : Int)) then
   (Option.bind (at? l10 a40) fun y42 =>
   (bif decide (y42 < 0) then
    some (.inr 0)
   else
    (bif decide (y42 > 4096) then
     some (.inr 0)
    else
     some (.inl (IntKind.i64.wrap (a40 + 1))))))
  else
   some (.inr 1))
def F38_h2 (h : AHeap) (x7 : Int) (x8 : Int) (v9 : Hd) (l10 : List Int) (v10 : Hd) (v11 : Hd)  (a40 : Int) : AS := ⟨[junk, junk, junk, .pointer (some ⟨3, 0, none⟩), junk, junk, junk, junk, junk, junk, junk, junk, junk, junk, junk, junk, junk, junk, junk, junk, junk, junk, junk, junk, junk, junk, junk, junk, junk, junk, junk, junk, junk, junk, junk, junk, junk, junk, junk, junk, junk, junk, junk, junk, junk, junk, junk, junk, junk, junk, junk, junk, junk, junk, junk, junk, junk, junk, junk, junk, junk, junk, junk, junk, junk, junk, junk, junk, junk, junk, junk, junk, junk, junk, junk, junk, junk, junk, junk, junk, junk, junk, junk, junk, junk, junk, junk, junk, junk, junk, junk, junk, junk, junk, junk, junk, junk, junk, junk, junk, junk, junk, junk, junk, junk, junk, junk, junk, junk, junk, junk, junk, junk, junk, junk, junk, junk, junk, junk, junk, junk, junk, junk, junk, junk, junk, junk, .int .i64 (l10.length : Int), .int .i64 a40, junk, junk, junk, junk, junk, junk, junk, junk, junk, junk, junk, junk, junk, junk, junk, junk, junk], [(3, [.int .i64 x7, .int .i64 x8, (sv v9), (sv v10), (sv v11)])], h⟩
theorem F38_d2 : drawsOk F38_D (codeOf Try.prog 38 [1, 1, 1, 0, 1, 0, 0]) = true := by kernel_rfl
def F38_x2_0 (h : AHeap)  (r : Nat) : AS := ⟨[junk, junk, junk, junk, .bool false, junk, junk, junk, junk, junk, junk, junk, junk, junk, junk, junk, junk, junk, junk, junk, junk, junk, junk, junk, junk, junk, junk, junk, junk, junk, junk, junk, junk, junk, junk, junk, junk, junk, junk, junk, junk, junk, junk, junk, junk, junk, junk, junk, junk, junk, junk, junk, junk, junk, junk, junk, junk, junk, junk, junk, junk, junk, junk, junk, junk, junk, junk, junk, junk, junk, junk, junk, junk, junk, junk, junk, junk, junk, junk, junk, junk, junk, junk, junk, junk, junk, junk, junk, junk, junk, junk, junk, junk, junk, junk, junk, junk, junk, junk, junk, junk, junk, junk, junk, junk, junk, junk, junk, junk, junk, junk, junk, junk, junk, junk, junk, junk, junk, junk, junk, junk, junk, junk, junk, junk, junk, junk, junk, junk, junk, junk, junk, junk, junk, junk, junk, junk, junk, junk, junk, junk, junk, junk, junk, junk, junk], [], h⟩
def F38_x2_1 (h : AHeap)  (r : Nat) : AS := ⟨[junk, junk, junk, junk, junk, junk, junk, junk, junk, junk, junk, junk, junk, junk, junk, junk, junk, junk, junk, junk, junk, junk, junk, junk, junk, junk, junk, junk, junk, junk, junk, junk, junk, junk, junk, junk, junk, junk, junk, junk, junk, junk, junk, junk, junk, junk, junk, junk, junk, junk, junk, junk, junk, junk, junk, junk, junk, junk, junk, junk, junk, junk, junk, junk, junk, junk, junk, junk, junk, junk, junk, junk, junk, junk, junk, junk, junk, junk, junk, junk, junk, junk, junk, junk, junk, junk, junk, junk, junk, junk, junk, junk, junk, junk, junk, junk, junk, junk, junk, junk, junk, junk, junk, junk, junk, junk, junk, junk, junk, junk, junk, junk, junk, junk, junk, junk, junk, junk, junk, junk, junk, junk, junk, junk, junk, junk, junk, junk, junk, junk, junk, junk, junk, junk, junk, junk, junk, junk, junk, junk, junk, junk, junk, junk, junk, junk], [], h⟩
def F38_x2 (h : AHeap) (r : Nat) : Exit × AS := (bif Nat.beq r 0 then (.ret, (F38_x2_0 h r)) else ((.exit 2), (F38_x2_1 h r)))
set_option maxRecDepth 100000 in
theorem F38_r2 (h : AHeap) (x7 : Int) (x8 : Int) (v9 : Hd) (l10 : List Int) (v10 : Hd) (hv10 : SlE E3 1 h (sv v10) l10) (v11 : Hd) (a40 : Int) (o : Int ⊕ Nat) : F38_s2 l10 a40 = some o → RdF Try.prog (codeOf Try.prog 38 [1, 1, 1, 0, 1, 0, 0]) (fun (s : Int) => (F38_h2 h x7 x8 v9 l10 v10 v11 s)) (F38_x2 h) (F38_h2 h x7 x8 v9 l10 v10 v11 a40) o := by
  unfold F38_s2
  refine dec_bif (fun c41 => ?_) (fun c41 => ?_)
  · refine bind_opt fun y42 e42 => ?_
    obtain ⟨id42, off42, g42, cs42, ix42, at42, rfl⟩ := SlE.at hv10 e42
    refine dec_bif (fun c43 => ?_) (fun c43 => ?_)
    · intro hr
      obtain rfl := Option.some.inj hr
      show AWp Try.prog _ (Ends1 ((F38_x2 h) (0 : Nat)).1 ((F38_x2 h) (0 : Nat)).2) _
      exact pEnd_sound good (L := F38_L) (D := F38_D) (its := [.g, (.b true), .g, .g, .g, .g, .g, (.ix id42 off42 g42), (.ld (.int .i64 y42)), .g, .g, .n, .n, .n, .n, .n, .n, (.p true), (.b true), .g]) (ds := F38_m2_0) (ks := [3]) (e := ((F38_x2 h) (0 : Nat)).1) (s2 := ((F38_x2 h) (0 : Nat)).2) (hC := (ai l_t (ai c43 (ai (g_tf c43) (ai (g_tf c43) (ai (g_tf c43) (ai (g_tf c43) (ai (g_tf c43) (ai (g_tf c43) (ai (At.one (P := Try.prog) (t := 3) (v := .int .i64 y42) at42 (by kernel_rfl) 0 rfl rfl) (ai ix42 (ai c41 trivial)))))))))))) (hd := F38_d2) (h := by kernel_rfl)
    · refine dec_bif (fun c44 => ?_) (fun c44 => ?_)
      · intro hr
        obtain rfl := Option.some.inj hr
        show AWp Try.prog _ (Ends1 ((F38_x2 h) (0 : Nat)).1 ((F38_x2 h) (0 : Nat)).2) _
        exact pEnd_sound good (L := F38_L) (D := F38_D) (its := [.g, (.b true), .g, .g, .g, .g, .g, (.ix id42 off42 g42), (.ld (.int .i64 y42)), .g, .g, (.w .g), (.w .g), (.w .g), (.w (.ix id42 off42 g42)), (.w (.ld (.int .i64 y42))), (.w .g), (.p false), (.b true), .g]) (ds := F38_m2_0) (ks := [3]) (e := ((F38_x2 h) (0 : Nat)).1) (s2 := ((F38_x2 h) (0 : Nat)).2) (hC := (ai c44 (ai c43 (ai (g_ff c43) (ai (At.one (P := Try.prog) (t := 3) (v := .int .i64 y42) at42 (by kernel_rfl) 0 rfl rfl) (ai (g_ff c43) (ai ix42 (ai (g_ff c43) (ai (g_ff c43) (ai (g_ff c43) (ai (g_ff c43) (ai (At.one (P := Try.prog) (t := 3) (v := .int .i64 y42) at42 (by kernel_rfl) 0 rfl rfl) (ai ix42 (ai c41 trivial)))))))))))))) (hd := F38_d2) (h := by kernel_rfl)
      · intro hr
        obtain rfl := Option.some.inj hr
        show AWp Try.prog _ (Ends1 .normal (F38_h2 h x7 x8 v9 l10 v10 v11 (IntKind.i64.wrap (a40 + 1)))) _
        exact pEnd_sound good (L := F38_L) (D := F38_D) (its := [.g, (.b true), .g, .g, .g, .g, .g, (.ix id42 off42 g42), (.ld (.int .i64 y42)), .g, .g, (.w .g), (.w .g), (.w .g), (.w (.ix id42 off42 g42)), (.w (.ld (.int .i64 y42))), (.w .g), (.p false), (.b false), .g, .g]) (ds := F38_m2_1) (ks := []) (e := .normal) (s2 := (F38_h2 h x7 x8 v9 l10 v10 v11 (IntKind.i64.wrap (a40 + 1)))) (hC := (ai c44 (ai c43 (ai (g_ff c43) (ai (At.one (P := Try.prog) (t := 3) (v := .int .i64 y42) at42 (by kernel_rfl) 0 rfl rfl) (ai (g_ff c43) (ai ix42 (ai (g_ff c43) (ai (g_ff c43) (ai (g_ff c43) (ai (g_ff c43) (ai (At.one (P := Try.prog) (t := 3) (v := .int .i64 y42) at42 (by kernel_rfl) 0 rfl rfl) (ai ix42 (ai c41 trivial)))))))))))))) (hd := F38_d2) (h := by kernel_rfl)
  · intro hr
    obtain rfl := Option.some.inj hr
    show AWp Try.prog _ (Ends1 ((F38_x2 h) (1 : Nat)).1 ((F38_x2 h) (1 : Nat)).2) _
    exact pEnd_sound good (L := F38_L) (D := F38_D) (its := [.g, (.b false)]) (ds := F38_m2_2) (ks := [3]) (e := ((F38_x2 h) (1 : Nat)).1) (s2 := ((F38_x2 h) (1 : Nat)).2) (hC := (ai c41 trivial)) (hd := F38_d2) (h := by kernel_rfl)
theorem F38_l2_0 (h : AHeap) (x7 : Int) (x8 : Int) (v9 : Hd) (l10 : List Int) (v10 : Hd) (hv10 : SlE E3 1 h (sv v10) l10) (v11 : Hd) (x : Int) (r : Nat) (hl : loopO (fun (s : Int) => F38_s2 l10 s) x = some r) (q0 : Nat.beq r 0 = true) : AWp Try.prog (.loop (codeOf Try.prog 38 [1, 1, 1, 0, 1, 0, 0])) (Ends1 .ret (F38_x2_0 h r)) ((fun (s : Int) => (F38_h2 h x7 x8 v9 l10 v10 v11 s)) x) := by
  have k := loop_fun (P := Try.prog) (c := (codeOf Try.prog 38 [1, 1, 1, 0, 1, 0, 0])) (step := (fun (s : Int) => F38_s2 l10 s)) (hd := (fun (s : Int) => (F38_h2 h x7 x8 v9 l10 v10 v11 s))) (X := (F38_x2 h)) (by intro t; unfold F38_x2; cases Nat.beq t 0 <;> (intro h; cases h)) (fun x => F38_r2 h x7 x8 v9 l10 v10 hv10 v11 x) hl
  simp only [F38_x2, q0, cond_true, cond_false] at k
  exact k
theorem F38_l2_1 (h : AHeap) (x7 : Int) (x8 : Int) (v9 : Hd) (l10 : List Int) (v10 : Hd) (hv10 : SlE E3 1 h (sv v10) l10) (v11 : Hd) (x : Int) (r : Nat) (hl : loopO (fun (s : Int) => F38_s2 l10 s) x = some r) (q0 : Nat.beq r 0 = false) : AWp Try.prog (.loop (codeOf Try.prog 38 [1, 1, 1, 0, 1, 0, 0])) (Ends1 (.exit 2) (F38_x2_1 h r)) ((fun (s : Int) => (F38_h2 h x7 x8 v9 l10 v10 v11 s)) x) := by
  have k := loop_fun (P := Try.prog) (c := (codeOf Try.prog 38 [1, 1, 1, 0, 1, 0, 0])) (step := (fun (s : Int) => F38_s2 l10 s)) (hd := (fun (s : Int) => (F38_h2 h x7 x8 v9 l10 v10 v11 s))) (X := (F38_x2 h)) (by intro t; unfold F38_x2; cases Nat.beq t 0 <;> (intro h; cases h)) (fun x => F38_r2 h x7 x8 v9 l10 v10 hv10 v11 x) hl
  simp only [F38_x2, q0, cond_true, cond_false] at k
  exact k
def F38 (x1 : Int) (x2 : Int) (x3 : Bool) (l4 : List (Int × Int × Int × Int)) (l5 : List (Int × Int × Int × Int)) (l6 : List (Int × Int)) (x7 : Int) (x8 : Int) (l9 : List Int) (l10 : List Int) (l11 : List Int) : Option (Bool) :=
  (bif ((l9.length : Int) != x1) then
   some (false)
  else
   (bif ((l11.length : Int) != x1) then
    some (false)
   else
    (bif ((l10.length : Int) != x2) then
     some (false)
    else
     (bif decide (x7 < 0) then
      some (false)
     else
      (bif decide (x7 > 256) then
       some (false)
      else
       (bif (!(decide (x7 > 0) == x3)) then
        some (false)
       else
        (bif decide (x8 < 1) then
         some (false)
        else
         (bif decide (x8 > 4096) then
          some (false)
         else
          (Option.bind (loopO (fun (s : Int) => F38_s1 l5 l6 l9 l11 s) 0) fun y38 =>
          (bif (Nat.beq y38 0) then
           some (false)
          else
           (Option.bind (loopO (fun (s : Int) => F38_s2 l10 s) 0) fun y45 =>
           (bif (Nat.beq y45 0) then
            some (false)
           else
            some (true)))))))))))))
set_option maxRecDepth 100000 in
theorem F38_spec (x1 : Int) (x2 : Int) (x3 : Bool) (l4 : List (Int × Int × Int × Int)) (l5 : List (Int × Int × Int × Int)) (l6 : List (Int × Int)) (x7 : Int) (x8 : Int) (l9 : List Int) (l10 : List Int) (l11 : List Int) (v4 : Hd) (v5 : Hd) (v6 : Hd) (v9 : Hd) (v10 : Hd) (v11 : Hd) (h : AHeap) (hv4 : SlE E81 4 h (sv v4) l4) (hv5 : SlE E38 4 h (sv v5) l5) (hv6 : SlE E35 2 h (sv v6) l6) (hv9 : SlE E3 1 h (sv v9) l9) (hv10 : SlE E3 1 h (sv v10) l10) (hv11 : SlE E3 1 h (sv v11) l11) (r : Bool) : F38 x1 x2 x3 l4 l5 l6 x7 x8 l9 l10 l11 = some r → ACalls Try.prog 38 [.agg #[.int .i64 x1, .int .i64 x2, .bool x3, (sv v4), (sv v5), (sv v6)], .agg #[.int .i64 x7, .int .i64 x8, (sv v9), (sv v10), (sv v11)]] h (fun v' h'' => v' = (.bool r : Value) ∧ h'' = h) := by
  unfold F38
  refine dec_bif (fun c12 => ?_) (fun c12 => ?_)
  · intro hr
    obtain rfl := Option.some.inj hr
    exact pFun_sound good tab_ok (f := 38) (its := [.g, .g, .g, .g, .g, (.ln l9.length), .g, .g, .g, .g, .n, .n, .n, .n, .n, .n, (.p true), .g, .n, .n, .n, .n, .n, .n, .g, .g, .n, .n, .n, .g, .g, .n, .n, .n, .g, .g, .n, .n, .n, .n, .n, .n, .g, .g, .n, .n, .n, .g, .g, .n, .n, .n, .g, (.b true), .g]) (args := [.agg #[.int .i64 x1, .int .i64 x2, .bool x3, (sv v4), (sv v5), (sv v6)], .agg #[.int .i64 x7, .int .i64 x8, (sv v9), (sv v10), (sv v11)]]) (h := h) (h' := h) (v := .bool false) (hC := (ai l_t (ai (g_tf l_t) (ai (g_tf l_t) (ai (g_tf l_t) (ai (g_tf l_t) (ai (g_tf l_t) (ai (g_tf l_t) (ai (g_tf l_t) (ai (g_tf l_t) (ai (g_tf l_t) (ai (g_tf l_t) (ai (g_tf l_t) (ai (g_tf l_t) (ai (g_tf l_t) (ai (g_tf l_t) (ai (g_tf l_t) (ai (g_tf l_t) (ai (g_tf l_t) (ai (g_tf l_t) (ai (g_tf l_t) (ai (g_tf l_t) (ai (g_tf l_t) (ai (g_tf l_t) (ai (g_tf l_t) (ai (g_tf l_t) (ai c12 (ai (g_tf c12) (ai (g_tf c12) (ai (g_tf c12) (ai (g_tf c12) (ai (g_tf c12) (ai (g_tf c12) (ai (SlE.len hv9) trivial)))))))))))))))))))))))))))))))))) (hr := by kernel_rfl)
  · refine dec_bif (fun c13 => ?_) (fun c13 => ?_)
    · intro hr
      obtain rfl := Option.some.inj hr
      exact pFun_sound good tab_ok (f := 38) (its := [.g, .g, .g, .g, .g, (.ln l9.length), .g, .g, .g, .g, (.w .g), (.w .g), (.w (.ln l11.length)), (.w .g), (.w .g), (.w .g), (.p false), .g, .n, .n, .n, .n, .n, .n, (.p true), .g, .n, .n, .n, .g, .g, .n, .n, .n, .g, .g, .n, .n, .n, .n, .n, .n, .g, .g, .n, .n, .n, .g, .g, .n, .n, .n, .g, (.b true), .g]) (args := [.agg #[.int .i64 x1, .int .i64 x2, .bool x3, (sv v4), (sv v5), (sv v6)], .agg #[.int .i64 x7, .int .i64 x8, (sv v9), (sv v10), (sv v11)]]) (h := h) (h' := h) (v := .bool false) (hC := (ai l_t (ai (g_tf l_t) (ai (g_tf l_t) (ai (g_tf l_t) (ai (g_tf l_t) (ai (g_tf l_t) (ai (g_tf l_t) (ai (g_tf l_t) (ai (g_tf l_t) (ai (g_tf l_t) (ai (g_tf l_t) (ai (g_tf l_t) (ai (g_tf l_t) (ai (g_tf l_t) (ai (g_tf l_t) (ai (g_tf l_t) (ai (g_tf l_t) (ai (g_tf l_t) (ai (g_tf l_t) (ai c13 (ai (g_tf c13) (ai (g_tf c13) (ai (g_tf c13) (ai (g_tf c13) (ai (g_tf c13) (ai (g_tf c13) (ai c12 (ai (g_ff c12) (ai (g_ff c12) (ai (g_ff c12) (ai (SlE.len hv11) (ai (g_ff c12) (ai (g_ff c12) (ai (g_ff c12) (ai (SlE.len hv9) trivial)))))))))))))))))))))))))))))))))))) (hr := by kernel_rfl)
    · refine dec_bif (fun c14 => ?_) (fun c14 => ?_)
      · intro hr
        obtain rfl := Option.some.inj hr
        exact pFun_sound good tab_ok (f := 38) (its := [.g, .g, .g, .g, .g, (.ln l9.length), .g, .g, .g, .g, (.w .g), (.w .g), (.w (.ln l11.length)), (.w .g), (.w .g), (.w .g), (.p false), .g, (.w .g), (.w .g), (.w (.ln l10.length)), (.w .g), (.w .g), (.w .g), (.p false), .g, .n, .n, .n, (.p true), .g, .n, .n, .n, .g, .g, .n, .n, .n, .n, .n, .n, .g, .g, .n, .n, .n, .g, .g, .n, .n, .n, .g, (.b true), .g]) (args := [.agg #[.int .i64 x1, .int .i64 x2, .bool x3, (sv v4), (sv v5), (sv v6)], .agg #[.int .i64 x7, .int .i64 x8, (sv v9), (sv v10), (sv v11)]]) (h := h) (h' := h) (v := .bool false) (hC := (ai l_t (ai (g_tf l_t) (ai (g_tf l_t) (ai (g_tf l_t) (ai (g_tf l_t) (ai (g_tf l_t) (ai (g_tf l_t) (ai (g_tf l_t) (ai (g_tf l_t) (ai (g_tf l_t) (ai (g_tf l_t) (ai (g_tf l_t) (ai (g_tf l_t) (ai (g_tf l_t) (ai (g_tf l_t) (ai (g_tf l_t) (ai c14 (ai (g_tf c14) (ai (g_tf c14) (ai (g_tf c14) (ai c13 (ai (g_ff c13) (ai (g_ff c13) (ai (g_ff c13) (ai (SlE.len hv10) (ai (g_ff c13) (ai (g_ff c13) (ai (g_ff c13) (ai c12 (ai (g_ff c12) (ai (g_ff c12) (ai (g_ff c12) (ai (SlE.len hv11) (ai (g_ff c12) (ai (g_ff c12) (ai (g_ff c12) (ai (SlE.len hv9) trivial)))))))))))))))))))))))))))))))))))))) (hr := by kernel_rfl)
      · refine dec_bif (fun c15 => ?_) (fun c15 => ?_)
        · intro hr
          obtain rfl := Option.some.inj hr
          exact pFun_sound good tab_ok (f := 38) (its := [.g, .g, .g, .g, .g, (.ln l9.length), .g, .g, .g, .g, (.w .g), (.w .g), (.w (.ln l11.length)), (.w .g), (.w .g), (.w .g), (.p false), .g, (.w .g), (.w .g), (.w (.ln l10.length)), (.w .g), (.w .g), (.w .g), (.p false), .g, (.w .g), (.w .g), (.w .g), (.p false), .g, .n, .n, .n, (.p true), .g, .n, .n, .n, .n, .n, .n, .g, .g, .n, .n, .n, .g, .g, .n, .n, .n, .g, (.b true), .g]) (args := [.agg #[.int .i64 x1, .int .i64 x2, .bool x3, (sv v4), (sv v5), (sv v6)], .agg #[.int .i64 x7, .int .i64 x8, (sv v9), (sv v10), (sv v11)]]) (h := h) (h' := h) (v := .bool false) (hC := (ai l_t (ai (g_tf l_t) (ai (g_tf l_t) (ai (g_tf l_t) (ai (g_tf l_t) (ai (g_tf l_t) (ai (g_tf l_t) (ai (g_tf l_t) (ai (g_tf l_t) (ai (g_tf l_t) (ai (g_tf l_t) (ai (g_tf l_t) (ai (g_tf l_t) (ai c15 (ai (g_tf c15) (ai (g_tf c15) (ai (g_tf c15) (ai c14 (ai (g_ff c14) (ai (g_ff c14) (ai (g_ff c14) (ai c13 (ai (g_ff c13) (ai (g_ff c13) (ai (g_ff c13) (ai (SlE.len hv10) (ai (g_ff c13) (ai (g_ff c13) (ai (g_ff c13) (ai c12 (ai (g_ff c12) (ai (g_ff c12) (ai (g_ff c12) (ai (SlE.len hv11) (ai (g_ff c12) (ai (g_ff c12) (ai (g_ff c12) (ai (SlE.len hv9) trivial))))))))))))))))))))))))))))))))))))))) (hr := by kernel_rfl)
        · refine dec_bif (fun c16 => ?_) (fun c16 => ?_)
          · intro hr
            obtain rfl := Option.some.inj hr
            exact pFun_sound good tab_ok (f := 38) (its := [.g, .g, .g, .g, .g, (.ln l9.length), .g, .g, .g, .g, (.w .g), (.w .g), (.w (.ln l11.length)), (.w .g), (.w .g), (.w .g), (.p false), .g, (.w .g), (.w .g), (.w (.ln l10.length)), (.w .g), (.w .g), (.w .g), (.p false), .g, (.w .g), (.w .g), (.w .g), (.p false), .g, (.w .g), (.w .g), (.w .g), (.p false), .g, .n, .n, .n, .n, .n, .n, (.p true), .g, .n, .n, .n, .g, .g, .n, .n, .n, .g, (.b true), .g]) (args := [.agg #[.int .i64 x1, .int .i64 x2, .bool x3, (sv v4), (sv v5), (sv v6)], .agg #[.int .i64 x7, .int .i64 x8, (sv v9), (sv v10), (sv v11)]]) (h := h) (h' := h) (v := .bool false) (hC := (ai l_t (ai (g_tf l_t) (ai (g_tf l_t) (ai (g_tf l_t) (ai (g_tf l_t) (ai (g_tf l_t) (ai (g_tf l_t) (ai c16 (ai (g_tf c16) (ai (g_tf c16) (ai (g_tf c16) (ai (g_tf c16) (ai (g_tf c16) (ai (g_tf c16) (ai c15 (ai (g_ff c15) (ai (g_ff c15) (ai (g_ff c15) (ai c14 (ai (g_ff c14) (ai (g_ff c14) (ai (g_ff c14) (ai c13 (ai (g_ff c13) (ai (g_ff c13) (ai (g_ff c13) (ai (SlE.len hv10) (ai (g_ff c13) (ai (g_ff c13) (ai (g_ff c13) (ai c12 (ai (g_ff c12) (ai (g_ff c12) (ai (g_ff c12) (ai (SlE.len hv11) (ai (g_ff c12) (ai (g_ff c12) (ai (g_ff c12) (ai (SlE.len hv9) trivial)))))))))))))))))))))))))))))))))))))))) (hr := by kernel_rfl)
          · refine dec_bif (fun c17 => ?_) (fun c17 => ?_)
            · intro hr
              obtain rfl := Option.some.inj hr
              exact pFun_sound good tab_ok (f := 38) (its := [.g, .g, .g, .g, .g, (.ln l9.length), .g, .g, .g, .g, (.w .g), (.w .g), (.w (.ln l11.length)), (.w .g), (.w .g), (.w .g), (.p false), .g, (.w .g), (.w .g), (.w (.ln l10.length)), (.w .g), (.w .g), (.w .g), (.p false), .g, (.w .g), (.w .g), (.w .g), (.p false), .g, (.w .g), (.w .g), (.w .g), (.p false), .g, (.w .g), (.w .g), (.w .g), (.w .g), (.w .g), (.w .g), (.p false), .g, .n, .n, .n, (.p true), .g, .n, .n, .n, .g, (.b true), .g]) (args := [.agg #[.int .i64 x1, .int .i64 x2, .bool x3, (sv v4), (sv v5), (sv v6)], .agg #[.int .i64 x7, .int .i64 x8, (sv v9), (sv v10), (sv v11)]]) (h := h) (h' := h) (v := .bool false) (hC := (ai l_t (ai (g_tf l_t) (ai (g_tf l_t) (ai (g_tf l_t) (ai c17 (ai (g_tf c17) (ai (g_tf c17) (ai (g_tf c17) (ai c16 (ai (g_ff c16) (ai (g_ff c16) (ai (g_ff c16) (ai (g_ff c16) (ai (g_ff c16) (ai (g_ff c16) (ai c15 (ai (g_ff c15) (ai (g_ff c15) (ai (g_ff c15) (ai c14 (ai (g_ff c14) (ai (g_ff c14) (ai (g_ff c14) (ai c13 (ai (g_ff c13) (ai (g_ff c13) (ai (g_ff c13) (ai (SlE.len hv10) (ai (g_ff c13) (ai (g_ff c13) (ai (g_ff c13) (ai c12 (ai (g_ff c12) (ai (g_ff c12) (ai (g_ff c12) (ai (SlE.len hv11) (ai (g_ff c12) (ai (g_ff c12) (ai (g_ff c12) (ai (SlE.len hv9) trivial))))))))))))))))))))))))))))))))))))))))) (hr := by kernel_rfl)
            · refine dec_bif (fun c18 => ?_) (fun c18 => ?_)
              · intro hr
                obtain rfl := Option.some.inj hr
                exact pFun_sound good tab_ok (f := 38) (its := [.g, .g, .g, .g, .g, (.ln l9.length), .g, .g, .g, .g, (.w .g), (.w .g), (.w (.ln l11.length)), (.w .g), (.w .g), (.w .g), (.p false), .g, (.w .g), (.w .g), (.w (.ln l10.length)), (.w .g), (.w .g), (.w .g), (.p false), .g, (.w .g), (.w .g), (.w .g), (.p false), .g, (.w .g), (.w .g), (.w .g), (.p false), .g, (.w .g), (.w .g), (.w .g), (.w .g), (.w .g), (.w .g), (.p false), .g, (.w .g), (.w .g), (.w .g), (.p false), .g, .n, .n, .n, (.p true), (.b true), .g]) (args := [.agg #[.int .i64 x1, .int .i64 x2, .bool x3, (sv v4), (sv v5), (sv v6)], .agg #[.int .i64 x7, .int .i64 x8, (sv v9), (sv v10), (sv v11)]]) (h := h) (h' := h) (v := .bool false) (hC := (ai l_t (ai c18 (ai (g_tf c18) (ai (g_tf c18) (ai (g_tf c18) (ai c17 (ai (g_ff c17) (ai (g_ff c17) (ai (g_ff c17) (ai c16 (ai (g_ff c16) (ai (g_ff c16) (ai (g_ff c16) (ai (g_ff c16) (ai (g_ff c16) (ai (g_ff c16) (ai c15 (ai (g_ff c15) (ai (g_ff c15) (ai (g_ff c15) (ai c14 (ai (g_ff c14) (ai (g_ff c14) (ai (g_ff c14) (ai c13 (ai (g_ff c13) (ai (g_ff c13) (ai (g_ff c13) (ai (SlE.len hv10) (ai (g_ff c13) (ai (g_ff c13) (ai (g_ff c13) (ai c12 (ai (g_ff c12) (ai (g_ff c12) (ai (g_ff c12) (ai (SlE.len hv11) (ai (g_ff c12) (ai (g_ff c12) (ai (g_ff c12) (ai (SlE.len hv9) trivial)))))))))))))))))))))))))))))))))))))))))) (hr := by kernel_rfl)
              · refine dec_bif (fun c19 => ?_) (fun c19 => ?_)
                · intro hr
                  obtain rfl := Option.some.inj hr
                  exact pFun_sound good tab_ok (f := 38) (its := [.g, .g, .g, .g, .g, (.ln l9.length), .g, .g, .g, .g, (.w .g), (.w .g), (.w (.ln l11.length)), (.w .g), (.w .g), (.w .g), (.p false), .g, (.w .g), (.w .g), (.w (.ln l10.length)), (.w .g), (.w .g), (.w .g), (.p false), .g, (.w .g), (.w .g), (.w .g), (.p false), .g, (.w .g), (.w .g), (.w .g), (.p false), .g, (.w .g), (.w .g), (.w .g), (.w .g), (.w .g), (.w .g), (.p false), .g, (.w .g), (.w .g), (.w .g), (.p false), .g, (.w .g), (.w .g), (.w .g), (.p false), (.b true), .g]) (args := [.agg #[.int .i64 x1, .int .i64 x2, .bool x3, (sv v4), (sv v5), (sv v6)], .agg #[.int .i64 x7, .int .i64 x8, (sv v9), (sv v10), (sv v11)]]) (h := h) (h' := h) (v := .bool false) (hC := (ai c19 (ai c18 (ai (g_ff c18) (ai (g_ff c18) (ai (g_ff c18) (ai c17 (ai (g_ff c17) (ai (g_ff c17) (ai (g_ff c17) (ai c16 (ai (g_ff c16) (ai (g_ff c16) (ai (g_ff c16) (ai (g_ff c16) (ai (g_ff c16) (ai (g_ff c16) (ai c15 (ai (g_ff c15) (ai (g_ff c15) (ai (g_ff c15) (ai c14 (ai (g_ff c14) (ai (g_ff c14) (ai (g_ff c14) (ai c13 (ai (g_ff c13) (ai (g_ff c13) (ai (g_ff c13) (ai (SlE.len hv10) (ai (g_ff c13) (ai (g_ff c13) (ai (g_ff c13) (ai c12 (ai (g_ff c12) (ai (g_ff c12) (ai (g_ff c12) (ai (SlE.len hv11) (ai (g_ff c12) (ai (g_ff c12) (ai (g_ff c12) (ai (SlE.len hv9) trivial)))))))))))))))))))))))))))))))))))))))))) (hr := by kernel_rfl)
                · refine bind_opt fun y38 e38 => ?_
                  refine dec_bif (fun c39 => ?_) (fun c39 => ?_)
                  · intro hr
                    obtain rfl := Option.some.inj hr
                    exact pFun_sound good tab_ok (f := 38) (its := [.g, .g, .g, .g, .g, (.ln l9.length), .g, .g, .g, .g, (.w .g), (.w .g), (.w (.ln l11.length)), (.w .g), (.w .g), (.w .g), (.p false), .g, (.w .g), (.w .g), (.w (.ln l10.length)), (.w .g), (.w .g), (.w .g), (.p false), .g, (.w .g), (.w .g), (.w .g), (.p false), .g, (.w .g), (.w .g), (.w .g), (.p false), .g, (.w .g), (.w .g), (.w .g), (.w .g), (.w .g), (.w .g), (.p false), .g, (.w .g), (.w .g), (.w .g), (.p false), .g, (.w .g), (.w .g), (.w .g), (.p false), (.b false), .g, .g, (.ln l9.length), .g, (.l F38_m1_1 [] .ret (F38_x1_0 h x7 x8 v9 v10 v11 y38))]) (args := [.agg #[.int .i64 x1, .int .i64 x2, .bool x3, (sv v4), (sv v5), (sv v6)], .agg #[.int .i64 x7, .int .i64 x8, (sv v9), (sv v10), (sv v11)]]) (h := h) (h' := h) (v := .bool false) (hC := (ai (F38_l1_0 h x1 x2 x3 v4 l5 v5 hv5 l6 v6 hv6 x7 x8 l9 v9 hv9 v10 l11 v11 hv11 0 y38 e38 c39) (ai (SlE.len hv9) (ai c19 (ai c18 (ai (g_ff c18) (ai (g_ff c18) (ai (g_ff c18) (ai c17 (ai (g_ff c17) (ai (g_ff c17) (ai (g_ff c17) (ai c16 (ai (g_ff c16) (ai (g_ff c16) (ai (g_ff c16) (ai (g_ff c16) (ai (g_ff c16) (ai (g_ff c16) (ai c15 (ai (g_ff c15) (ai (g_ff c15) (ai (g_ff c15) (ai c14 (ai (g_ff c14) (ai (g_ff c14) (ai (g_ff c14) (ai c13 (ai (g_ff c13) (ai (g_ff c13) (ai (g_ff c13) (ai (SlE.len hv10) (ai (g_ff c13) (ai (g_ff c13) (ai (g_ff c13) (ai c12 (ai (g_ff c12) (ai (g_ff c12) (ai (g_ff c12) (ai (SlE.len hv11) (ai (g_ff c12) (ai (g_ff c12) (ai (g_ff c12) (ai (SlE.len hv9) trivial)))))))))))))))))))))))))))))))))))))))))))) (hr := by kernel_rfl)
                  · refine bind_opt fun y45 e45 => ?_
                    refine dec_bif (fun c46 => ?_) (fun c46 => ?_)
                    · intro hr
                      obtain rfl := Option.some.inj hr
                      exact pFun_sound good tab_ok (f := 38) (its := [.g, .g, .g, .g, .g, (.ln l9.length), .g, .g, .g, .g, (.w .g), (.w .g), (.w (.ln l11.length)), (.w .g), (.w .g), (.w .g), (.p false), .g, (.w .g), (.w .g), (.w (.ln l10.length)), (.w .g), (.w .g), (.w .g), (.p false), .g, (.w .g), (.w .g), (.w .g), (.p false), .g, (.w .g), (.w .g), (.w .g), (.p false), .g, (.w .g), (.w .g), (.w .g), (.w .g), (.w .g), (.w .g), (.p false), .g, (.w .g), (.w .g), (.w .g), (.p false), .g, (.w .g), (.w .g), (.w .g), (.p false), (.b false), .g, .g, (.ln l9.length), .g, (.l F38_m1_1 [] (.exit 0) (F38_x1_1 h x7 x8 v9 v10 v11 y38)), .g, .g, (.ln l10.length), .g, (.l F38_m2_1 [] .ret (F38_x2_0 h y45))]) (args := [.agg #[.int .i64 x1, .int .i64 x2, .bool x3, (sv v4), (sv v5), (sv v6)], .agg #[.int .i64 x7, .int .i64 x8, (sv v9), (sv v10), (sv v11)]]) (h := h) (h' := h) (v := .bool false) (hC := (ai (F38_l2_0 h x7 x8 v9 l10 v10 hv10 v11 0 y45 e45 c46) (ai (SlE.len hv10) (ai (F38_l1_1 h x1 x2 x3 v4 l5 v5 hv5 l6 v6 hv6 x7 x8 l9 v9 hv9 v10 l11 v11 hv11 0 y38 e38 c39) (ai (SlE.len hv9) (ai c19 (ai c18 (ai (g_ff c18) (ai (g_ff c18) (ai (g_ff c18) (ai c17 (ai (g_ff c17) (ai (g_ff c17) (ai (g_ff c17) (ai c16 (ai (g_ff c16) (ai (g_ff c16) (ai (g_ff c16) (ai (g_ff c16) (ai (g_ff c16) (ai (g_ff c16) (ai c15 (ai (g_ff c15) (ai (g_ff c15) (ai (g_ff c15) (ai c14 (ai (g_ff c14) (ai (g_ff c14) (ai (g_ff c14) (ai c13 (ai (g_ff c13) (ai (g_ff c13) (ai (g_ff c13) (ai (SlE.len hv10) (ai (g_ff c13) (ai (g_ff c13) (ai (g_ff c13) (ai c12 (ai (g_ff c12) (ai (g_ff c12) (ai (g_ff c12) (ai (SlE.len hv11) (ai (g_ff c12) (ai (g_ff c12) (ai (g_ff c12) (ai (SlE.len hv9) trivial)))))))))))))))))))))))))))))))))))))))))))))) (hr := by kernel_rfl)
                    · intro hr
                      obtain rfl := Option.some.inj hr
                      exact pFun_sound good tab_ok (f := 38) (its := [.g, .g, .g, .g, .g, (.ln l9.length), .g, .g, .g, .g, (.w .g), (.w .g), (.w (.ln l11.length)), (.w .g), (.w .g), (.w .g), (.p false), .g, (.w .g), (.w .g), (.w (.ln l10.length)), (.w .g), (.w .g), (.w .g), (.p false), .g, (.w .g), (.w .g), (.w .g), (.p false), .g, (.w .g), (.w .g), (.w .g), (.p false), .g, (.w .g), (.w .g), (.w .g), (.w .g), (.w .g), (.w .g), (.p false), .g, (.w .g), (.w .g), (.w .g), (.p false), .g, (.w .g), (.w .g), (.w .g), (.p false), (.b false), .g, .g, (.ln l9.length), .g, (.l F38_m1_1 [] (.exit 0) (F38_x1_1 h x7 x8 v9 v10 v11 y38)), .g, .g, (.ln l10.length), .g, (.l F38_m2_1 [] (.exit 2) (F38_x2_1 h y45)), .g]) (args := [.agg #[.int .i64 x1, .int .i64 x2, .bool x3, (sv v4), (sv v5), (sv v6)], .agg #[.int .i64 x7, .int .i64 x8, (sv v9), (sv v10), (sv v11)]]) (h := h) (h' := h) (v := .bool true) (hC := (ai (F38_l2_1 h x7 x8 v9 l10 v10 hv10 v11 0 y45 e45 c46) (ai (SlE.len hv10) (ai (F38_l1_1 h x1 x2 x3 v4 l5 v5 hv5 l6 v6 hv6 x7 x8 l9 v9 hv9 v10 l11 v11 hv11 0 y38 e38 c39) (ai (SlE.len hv9) (ai c19 (ai c18 (ai (g_ff c18) (ai (g_ff c18) (ai (g_ff c18) (ai c17 (ai (g_ff c17) (ai (g_ff c17) (ai (g_ff c17) (ai c16 (ai (g_ff c16) (ai (g_ff c16) (ai (g_ff c16) (ai (g_ff c16) (ai (g_ff c16) (ai (g_ff c16) (ai c15 (ai (g_ff c15) (ai (g_ff c15) (ai (g_ff c15) (ai c14 (ai (g_ff c14) (ai (g_ff c14) (ai (g_ff c14) (ai c13 (ai (g_ff c13) (ai (g_ff c13) (ai (g_ff c13) (ai (SlE.len hv10) (ai (g_ff c13) (ai (g_ff c13) (ai (g_ff c13) (ai c12 (ai (g_ff c12) (ai (g_ff c12) (ai (g_ff c12) (ai (SlE.len hv11) (ai (g_ff c12) (ai (g_ff c12) (ai (g_ff c12) (ai (SlE.len hv9) trivial)))))))))))))))))))))))))))))))))))))))))))))) (hr := by kernel_rfl)
/-! 12 jacquard/jacquardlaw35.fits -/
def F12 (x1 : Int) (x2 : Int) (x3 : Bool) (l4 : List (Int × Int × Int × Int)) (l5 : List (Int × Int × Int × Int)) (l6 : List (Int × Int)) (x7 : Int) (x8 : Int) (l9 : List Int) (l10 : List Int) (l11 : List Int) : Option (Bool) :=
  (Option.bind (F37 x1 x2 x3 l4 l5 l6) fun y12 =>
  (bif y12 then
   (Option.bind (F38 x1 x2 x3 l4 l5 l6 x7 x8 l9 l10 l11) fun y15 =>
   some (y15))
  else
   some (false)))
set_option maxRecDepth 100000 in
theorem F12_spec (x1 : Int) (x2 : Int) (x3 : Bool) (l4 : List (Int × Int × Int × Int)) (l5 : List (Int × Int × Int × Int)) (l6 : List (Int × Int)) (x7 : Int) (x8 : Int) (l9 : List Int) (l10 : List Int) (l11 : List Int) (v4 : Hd) (v5 : Hd) (v6 : Hd) (v9 : Hd) (v10 : Hd) (v11 : Hd) (h : AHeap) (hv4 : SlE E81 4 h (sv v4) l4) (hv5 : SlE E38 4 h (sv v5) l5) (hv6 : SlE E35 2 h (sv v6) l6) (hv9 : SlE E3 1 h (sv v9) l9) (hv10 : SlE E3 1 h (sv v10) l10) (hv11 : SlE E3 1 h (sv v11) l11) (r : Bool) : F12 x1 x2 x3 l4 l5 l6 x7 x8 l9 l10 l11 = some r → ACalls Try.prog 12 [.agg #[.int .i64 x1, .int .i64 x2, .bool x3, (sv v4), (sv v5), (sv v6)], .agg #[.int .i64 x7, .int .i64 x8, (sv v9), (sv v10), (sv v11)]] h (fun v' h'' => v' = (.bool r : Value) ∧ h'' = h) := by
  unfold F12
  refine bind_opt fun y12 e12 => ?_
  refine dec_bif (fun c14 => ?_) (fun c14 => ?_)
  · refine bind_opt fun y15 e15 => ?_
    intro hr
    obtain rfl := Option.some.inj hr
    exact pFun_sound good tab_ok (f := 12) (its := [.g, .g, .g, .g, (.c (.bool y12) h), .g, (.w .g), (.w .g), (.w (.c (.bool y15) h)), (.p true), .g]) (args := [.agg #[.int .i64 x1, .int .i64 x2, .bool x3, (sv v4), (sv v5), (sv v6)], .agg #[.int .i64 x7, .int .i64 x8, (sv v9), (sv v10), (sv v11)]]) (h := h) (h' := h) (v := .bool y15) (hC := (ai c14 (ai (F38_spec x1 x2 x3 l4 l5 l6 x7 x8 l9 l10 l11 v4 v5 v6 v9 v10 v11 h hv4 hv5 hv6 hv9 hv10 hv11 _ e15) (ai (g_tt c14) (ai (g_tt c14) (ai (g_tt c14) (ai (F37_spec x1 x2 x3 l4 l5 l6 v4 v5 v6 h hv4 hv5 hv6 _ e12) trivial))))))) (hr := by kernel_rfl)
  · intro hr
    obtain rfl := Option.some.inj hr
    exact pFun_sound good tab_ok (f := 12) (its := [.g, .g, .g, .g, (.c (.bool y12) h), .g, .n, .n, .n, (.p false), .g]) (args := [.agg #[.int .i64 x1, .int .i64 x2, .bool x3, (sv v4), (sv v5), (sv v6)], .agg #[.int .i64 x7, .int .i64 x8, (sv v9), (sv v10), (sv v11)]]) (h := h) (h' := h) (v := .bool false) (hC := (ai c14 (ai (g_ft c14) (ai (g_ft c14) (ai (g_ft c14) (ai (F37_spec x1 x2 x3 l4 l5 l6 v4 v5 v6 h hv4 hv5 hv6 _ e12) trivial)))))) (hr := by kernel_rfl)
/-! 13 jacquard/jacquardlaw35.same -/
def F13_L : List Nat := []
def F13_D : List (Nat × List (Nat × Nat)) := [(6, [(0, 2), (1, 2), (2, 2), (3, 2), (4, 2), (5, 2), (6, 2), (7, 2), (8, 2)])]
def F13_m1_2 : List Bool := [true, true, true, true, true, true, true, true, true, true, true, true, true, true, true, true, true, true, true, true, true, true, true, true, true, true]
def F13_m1_1 : List Bool := [false, false, true, true, true, true, true, true, true, true, true, true, false, false, true, true, true, true, true, true, true, true, true, true, true, true]
def F13_m1_0 : List Bool := [true, true, true, true, false, true, true, true, true, true, true, true, true, true, true, true, true, true, true, true, true, true, true, true, true, true]
def F13_s1 (l1 : List Int) (l2 : List Int) (a4 : Int) : Option (Int ⊕ Nat) :=
  (bif decide (a4 < (l1.length : Int)) then
   (Option.bind (at? l1 a4) fun y6 =>
   (Option.bind (at? l2 a4) fun y7 =>
   (bif (y6 != y7) then
    some (.inr 0)
   else
    some (.inl (IntKind.i64.wrap (a4 + 1))))))
  else
   some (.inr 1))
def F13_h1 (h : AHeap) (l1 : List Int) (v1 : Hd) (v2 : Hd)  (a4 : Int) : AS := ⟨[(sv v1), (sv v2), junk, junk, junk, junk, junk, junk, junk, junk, junk, junk, .int .i64 (l1.length : Int), .int .i64 a4, junk, junk, junk, junk, junk, junk, junk, junk, junk, junk, junk, junk], [], h⟩
theorem F13_d1 : drawsOk F13_D (codeOf Try.prog 13 [1, 1, 0, 1, 0, 0]) = true := by kernel_rfl
def F13_x1_0 (h : AHeap)  (r : Nat) : AS := ⟨[junk, junk, junk, junk, .bool false, junk, junk, junk, junk, junk, junk, junk, junk, junk, junk, junk, junk, junk, junk, junk, junk, junk, junk, junk, junk, junk], [], h⟩
def F13_x1_1 (h : AHeap)  (r : Nat) : AS := ⟨[junk, junk, junk, junk, junk, junk, junk, junk, junk, junk, junk, junk, junk, junk, junk, junk, junk, junk, junk, junk, junk, junk, junk, junk, junk, junk], [], h⟩
def F13_x1 (h : AHeap) (r : Nat) : Exit × AS := (bif Nat.beq r 0 then (.ret, (F13_x1_0 h r)) else ((.exit 0), (F13_x1_1 h r)))
set_option maxRecDepth 100000 in
theorem F13_r1 (h : AHeap) (l1 : List Int) (v1 : Hd) (hv1 : SlE E3 1 h (sv v1) l1) (l2 : List Int) (v2 : Hd) (hv2 : SlE E3 1 h (sv v2) l2) (a4 : Int) (o : Int ⊕ Nat) : F13_s1 l1 l2 a4 = some o → RdF Try.prog (codeOf Try.prog 13 [1, 1, 0, 1, 0, 0]) (fun (s : Int) => (F13_h1 h l1 v1 v2 s)) (F13_x1 h) (F13_h1 h l1 v1 v2 a4) o := by
  unfold F13_s1
  refine dec_bif (fun c5 => ?_) (fun c5 => ?_)
  · refine bind_opt fun y6 e6 => ?_
    obtain ⟨id6, off6, g6, cs6, ix6, at6, rfl⟩ := SlE.at hv1 e6
    refine bind_opt fun y7 e7 => ?_
    obtain ⟨id7, off7, g7, cs7, ix7, at7, rfl⟩ := SlE.at hv2 e7
    refine dec_bif (fun c8 => ?_) (fun c8 => ?_)
    · intro hr
      obtain rfl := Option.some.inj hr
      show AWp Try.prog _ (Ends1 ((F13_x1 h) (0 : Nat)).1 ((F13_x1 h) (0 : Nat)).2) _
      exact pEnd_sound good (L := F13_L) (D := F13_D) (its := [.g, (.b true), .g, .g, .g, .g, (.ix id6 off6 g6), (.ld (.int .i64 y6)), .g, .g, (.ix id7 off7 g7), (.ld (.int .i64 y7)), .g, (.b true), .g]) (ds := F13_m1_0) (ks := []) (e := ((F13_x1 h) (0 : Nat)).1) (s2 := ((F13_x1 h) (0 : Nat)).2) (hC := (ai c8 (ai (At.one (P := Try.prog) (t := 3) (v := .int .i64 y7) at7 (by kernel_rfl) 0 rfl rfl) (ai ix7 (ai (At.one (P := Try.prog) (t := 3) (v := .int .i64 y6) at6 (by kernel_rfl) 0 rfl rfl) (ai ix6 (ai c5 trivial))))))) (hd := F13_d1) (h := by kernel_rfl)
    · intro hr
      obtain rfl := Option.some.inj hr
      show AWp Try.prog _ (Ends1 .normal (F13_h1 h l1 v1 v2 (IntKind.i64.wrap (a4 + 1)))) _
      exact pEnd_sound good (L := F13_L) (D := F13_D) (its := [.g, (.b true), .g, .g, .g, .g, (.ix id6 off6 g6), (.ld (.int .i64 y6)), .g, .g, (.ix id7 off7 g7), (.ld (.int .i64 y7)), .g, (.b false), .g, .g]) (ds := F13_m1_1) (ks := []) (e := .normal) (s2 := (F13_h1 h l1 v1 v2 (IntKind.i64.wrap (a4 + 1)))) (hC := (ai c8 (ai (At.one (P := Try.prog) (t := 3) (v := .int .i64 y7) at7 (by kernel_rfl) 0 rfl rfl) (ai ix7 (ai (At.one (P := Try.prog) (t := 3) (v := .int .i64 y6) at6 (by kernel_rfl) 0 rfl rfl) (ai ix6 (ai c5 trivial))))))) (hd := F13_d1) (h := by kernel_rfl)
  · intro hr
    obtain rfl := Option.some.inj hr
    show AWp Try.prog _ (Ends1 ((F13_x1 h) (1 : Nat)).1 ((F13_x1 h) (1 : Nat)).2) _
    exact pEnd_sound good (L := F13_L) (D := F13_D) (its := [.g, (.b false)]) (ds := F13_m1_2) (ks := []) (e := ((F13_x1 h) (1 : Nat)).1) (s2 := ((F13_x1 h) (1 : Nat)).2) (hC := (ai c5 trivial)) (hd := F13_d1) (h := by kernel_rfl)
theorem F13_l1_0 (h : AHeap) (l1 : List Int) (v1 : Hd) (hv1 : SlE E3 1 h (sv v1) l1) (l2 : List Int) (v2 : Hd) (hv2 : SlE E3 1 h (sv v2) l2) (x : Int) (r : Nat) (hl : loopO (fun (s : Int) => F13_s1 l1 l2 s) x = some r) (q0 : Nat.beq r 0 = true) : AWp Try.prog (.loop (codeOf Try.prog 13 [1, 1, 0, 1, 0, 0])) (Ends1 .ret (F13_x1_0 h r)) ((fun (s : Int) => (F13_h1 h l1 v1 v2 s)) x) := by
  have k := loop_fun (P := Try.prog) (c := (codeOf Try.prog 13 [1, 1, 0, 1, 0, 0])) (step := (fun (s : Int) => F13_s1 l1 l2 s)) (hd := (fun (s : Int) => (F13_h1 h l1 v1 v2 s))) (X := (F13_x1 h)) (by intro t; unfold F13_x1; cases Nat.beq t 0 <;> (intro h; cases h)) (fun x => F13_r1 h l1 v1 hv1 l2 v2 hv2 x) hl
  simp only [F13_x1, q0, cond_true, cond_false] at k
  exact k
theorem F13_l1_1 (h : AHeap) (l1 : List Int) (v1 : Hd) (hv1 : SlE E3 1 h (sv v1) l1) (l2 : List Int) (v2 : Hd) (hv2 : SlE E3 1 h (sv v2) l2) (x : Int) (r : Nat) (hl : loopO (fun (s : Int) => F13_s1 l1 l2 s) x = some r) (q0 : Nat.beq r 0 = false) : AWp Try.prog (.loop (codeOf Try.prog 13 [1, 1, 0, 1, 0, 0])) (Ends1 (.exit 0) (F13_x1_1 h r)) ((fun (s : Int) => (F13_h1 h l1 v1 v2 s)) x) := by
  have k := loop_fun (P := Try.prog) (c := (codeOf Try.prog 13 [1, 1, 0, 1, 0, 0])) (step := (fun (s : Int) => F13_s1 l1 l2 s)) (hd := (fun (s : Int) => (F13_h1 h l1 v1 v2 s))) (X := (F13_x1 h)) (by intro t; unfold F13_x1; cases Nat.beq t 0 <;> (intro h; cases h)) (fun x => F13_r1 h l1 v1 hv1 l2 v2 hv2 x) hl
  simp only [F13_x1, q0, cond_true, cond_false] at k
  exact k
def F13 (l1 : List Int) (l2 : List Int) : Option (Bool) :=
  (bif ((l1.length : Int) != (l2.length : Int)) then
   some (false)
  else
   (Option.bind (loopO (fun (s : Int) => F13_s1 l1 l2 s) 0) fun y9 =>
   (bif (Nat.beq y9 0) then
    some (false)
   else
    some (true))))
set_option maxRecDepth 100000 in
theorem F13_spec (l1 : List Int) (l2 : List Int) (v1 : Hd) (v2 : Hd) (h : AHeap) (hv1 : SlE E3 1 h (sv v1) l1) (hv2 : SlE E3 1 h (sv v2) l2) (r : Bool) : F13 l1 l2 = some r → ACalls Try.prog 13 [(sv v1), (sv v2)] h (fun v' h'' => v' = (.bool r : Value) ∧ h'' = h) := by
  unfold F13
  refine dec_bif (fun c3 => ?_) (fun c3 => ?_)
  · intro hr
    obtain rfl := Option.some.inj hr
    exact pFun_sound good tab_ok (f := 13) (its := [.g, .g, (.ln l1.length), .g, (.ln l2.length), .g, (.b true), .g]) (args := [(sv v1), (sv v2)]) (h := h) (h' := h) (v := .bool false) (hC := (ai c3 (ai (SlE.len hv2) (ai (SlE.len hv1) trivial)))) (hr := by kernel_rfl)
  · refine bind_opt fun y9 e9 => ?_
    refine dec_bif (fun c10 => ?_) (fun c10 => ?_)
    · intro hr
      obtain rfl := Option.some.inj hr
      exact pFun_sound good tab_ok (f := 13) (its := [.g, .g, (.ln l1.length), .g, (.ln l2.length), .g, (.b false), .g, (.ln l1.length), .g, (.l F13_m1_1 [] .ret (F13_x1_0 h y9))]) (args := [(sv v1), (sv v2)]) (h := h) (h' := h) (v := .bool false) (hC := (ai (F13_l1_0 h l1 v1 hv1 l2 v2 hv2 0 y9 e9 c10) (ai (SlE.len hv1) (ai c3 (ai (SlE.len hv2) (ai (SlE.len hv1) trivial)))))) (hr := by kernel_rfl)
    · intro hr
      obtain rfl := Option.some.inj hr
      exact pFun_sound good tab_ok (f := 13) (its := [.g, .g, (.ln l1.length), .g, (.ln l2.length), .g, (.b false), .g, (.ln l1.length), .g, (.l F13_m1_1 [] (.exit 0) (F13_x1_1 h y9)), .g]) (args := [(sv v1), (sv v2)]) (h := h) (h' := h) (v := .bool true) (hC := (ai (F13_l1_1 h l1 v1 hv1 l2 v2 hv2 0 y9 e9 c10) (ai (SlE.len hv1) (ai c3 (ai (SlE.len hv2) (ai (SlE.len hv1) trivial)))))) (hr := by kernel_rfl)
/-! 40 jacquard/schedcheck.Check$1 -/
def F40 (x1 : Int) : Bool :=
  (x1 != 0)
set_option maxRecDepth 100000 in
theorem F40_spec (x1 : Int) (h : AHeap)  (r : Bool) : F40 x1 = r → ACalls Try.prog 40 [.int .i64 x1] h (fun v' h'' => v' = (.bool r : Value) ∧ h'' = h) := by
  unfold F40
  intro hr
  subst hr
  exact pFun_sound good tab_ok (f := 40) (its := [.g, .g, .g, .g]) (args := [.int .i64 x1]) (h := h) (h' := h) (v := .bool (x1 != 0)) (hC := trivial) (hr := by kernel_rfl)
/-! 89 jacquard/schedcheck.start -/
def F89 (x1 : Int) (x2 : Int) (x3 : Bool) (l4 : List (Int × Int × Int × Int)) (l5 : List (Int × Int × Int × Int)) (l6 : List (Int × Int)) (x7 : Int) (x8 : Int) (l9 : List Int) (l10 : List Int) (l11 : List Int) (x12 : Int) : Option (Int) :=
  (bif decide (x12 < x1) then
   (Option.bind (at? l9 x12) fun y14 =>
   some (y14))
  else
   (bif decide (x12 < (F103 x1 x2 x3 l4 l5 l6)) then
    (Option.bind (at? l10 (IntKind.i64.wrap (x12 - x1))) fun y17 =>
    some (y17))
   else
    (bif (x12 == (F103 x1 x2 x3 l4 l5 l6)) then
     some (0)
    else
     some (x8))))
set_option maxRecDepth 100000 in
theorem F89_spec (x1 : Int) (x2 : Int) (x3 : Bool) (l4 : List (Int × Int × Int × Int)) (l5 : List (Int × Int × Int × Int)) (l6 : List (Int × Int)) (x7 : Int) (x8 : Int) (l9 : List Int) (l10 : List Int) (l11 : List Int) (x12 : Int) (v4 : Hd) (v5 : Hd) (v6 : Hd) (v9 : Hd) (v10 : Hd) (v11 : Hd) (h : AHeap) (hv4 : SlE E81 4 h (sv v4) l4) (hv5 : SlE E38 4 h (sv v5) l5) (hv6 : SlE E35 2 h (sv v6) l6) (hv9 : SlE E3 1 h (sv v9) l9) (hv10 : SlE E3 1 h (sv v10) l10) (hv11 : SlE E3 1 h (sv v11) l11) (r : Int) : F89 x1 x2 x3 l4 l5 l6 x7 x8 l9 l10 l11 x12 = some r → ACalls Try.prog 89 [.agg #[.int .i64 x1, .int .i64 x2, .bool x3, (sv v4), (sv v5), (sv v6)], .agg #[.int .i64 x7, .int .i64 x8, (sv v9), (sv v10), (sv v11)], .int .i64 x12] h (fun v' h'' => v' = (.int .i64 r : Value) ∧ h'' = h) := by
  unfold F89
  refine dec_bif (fun c13 => ?_) (fun c13 => ?_)
  · refine bind_opt fun y14 e14 => ?_
    obtain ⟨id14, off14, g14, cs14, ix14, at14, rfl⟩ := SlE.at hv9 e14
    intro hr
    obtain rfl := Option.some.inj hr
    exact pFun_sound good tab_ok (f := 89) (its := [.g, .g, .g, .g, .g, .g, .g, .g, (.b true), .g, .g, .g, (.ix id14 off14 g14), (.ld (.int .i64 y14)), .g]) (args := [.agg #[.int .i64 x1, .int .i64 x2, .bool x3, (sv v4), (sv v5), (sv v6)], .agg #[.int .i64 x7, .int .i64 x8, (sv v9), (sv v10), (sv v11)], .int .i64 x12]) (h := h) (h' := h) (v := .int .i64 y14) (hC := (ai (At.one (P := Try.prog) (t := 3) (v := .int .i64 y14) at14 (by kernel_rfl) 0 rfl rfl) (ai ix14 (ai c13 trivial)))) (hr := by kernel_rfl)
  · refine dec_bif (fun c16 => ?_) (fun c16 => ?_)
    · refine bind_opt fun y17 e17 => ?_
      obtain ⟨id17, off17, g17, cs17, ix17, at17, rfl⟩ := SlE.at hv10 e17
      intro hr
      obtain rfl := Option.some.inj hr
      exact pFun_sound good tab_ok (f := 89) (its := [.g, .g, .g, .g, .g, .g, .g, .g, (.b false), .g, .g, (.c (.int .i64 (F103 x1 x2 x3 l4 l5 l6)) h), .g, .g, (.b true), .g, .g, .g, .g, .g, .g, (.ix id17 off17 g17), (.ld (.int .i64 y17)), .g]) (args := [.agg #[.int .i64 x1, .int .i64 x2, .bool x3, (sv v4), (sv v5), (sv v6)], .agg #[.int .i64 x7, .int .i64 x8, (sv v9), (sv v10), (sv v11)], .int .i64 x12]) (h := h) (h' := h) (v := .int .i64 y17) (hC := (ai (At.one (P := Try.prog) (t := 3) (v := .int .i64 y17) at17 (by kernel_rfl) 0 rfl rfl) (ai ix17 (ai c16 (ai (F103_spec x1 x2 x3 l4 l5 l6 v4 v5 v6 h hv4 hv5 hv6 _ rfl) (ai c13 trivial)))))) (hr := by kernel_rfl)
    · refine dec_bif (fun c19 => ?_) (fun c19 => ?_)
      · intro hr
        obtain rfl := Option.some.inj hr
        exact pFun_sound good tab_ok (f := 89) (its := [.g, .g, .g, .g, .g, .g, .g, .g, (.b false), .g, .g, (.c (.int .i64 (F103 x1 x2 x3 l4 l5 l6)) h), .g, .g, (.b false), .g, .g, (.c (.int .i64 (F103 x1 x2 x3 l4 l5 l6)) h), .g, .g, (.b true), .g]) (args := [.agg #[.int .i64 x1, .int .i64 x2, .bool x3, (sv v4), (sv v5), (sv v6)], .agg #[.int .i64 x7, .int .i64 x8, (sv v9), (sv v10), (sv v11)], .int .i64 x12]) (h := h) (h' := h) (v := .int .i64 0) (hC := (ai c19 (ai (F103_spec x1 x2 x3 l4 l5 l6 v4 v5 v6 h hv4 hv5 hv6 _ rfl) (ai c16 (ai (F103_spec x1 x2 x3 l4 l5 l6 v4 v5 v6 h hv4 hv5 hv6 _ rfl) (ai c13 trivial)))))) (hr := by kernel_rfl)
      · intro hr
        obtain rfl := Option.some.inj hr
        exact pFun_sound good tab_ok (f := 89) (its := [.g, .g, .g, .g, .g, .g, .g, .g, (.b false), .g, .g, (.c (.int .i64 (F103 x1 x2 x3 l4 l5 l6)) h), .g, .g, (.b false), .g, .g, (.c (.int .i64 (F103 x1 x2 x3 l4 l5 l6)) h), .g, .g, (.b false), .g, .g, .g]) (args := [.agg #[.int .i64 x1, .int .i64 x2, .bool x3, (sv v4), (sv v5), (sv v6)], .agg #[.int .i64 x7, .int .i64 x8, (sv v9), (sv v10), (sv v11)], .int .i64 x12]) (h := h) (h' := h) (v := .int .i64 x8) (hC := (ai c19 (ai (F103_spec x1 x2 x3 l4 l5 l6 v4 v5 v6 h hv4 hv5 hv6 _ rfl) (ai c16 (ai (F103_spec x1 x2 x3 l4 l5 l6 v4 v5 v6 h hv4 hv5 hv6 _ rfl) (ai c13 trivial)))))) (hr := by kernel_rfl)
/-! 72 jacquard/schedcheck.Slack -/
def F72_L : List Nat := [2, 3, 7]
def F72_D : List (Nat × List (Nat × Nat)) := [(7, [(0, 2), (1, 2), (2, 2), (3, 2), (4, 2), (8, 2), (12, 2), (14, 2), (16, 2), (6, 3), (7, 3), (9, 3), (13, 3), (15, 3), (17, 3), (18, 2), (19, 2), (5, 1), (10, 1), (11, 2), (20, 2), (21, 0), (22, 0), (23, 2)])]
def F72__1 (x7 : Int) (y21 : Int × Int × Int × Int) (y22 : Int) (y24 : Int) : Int := (IntKind.i64.wrap ((IntKind.i64.wrap (y22 - y24)) - (IntKind.i64.wrap (y21.2.2.1 - (IntKind.i64.wrap (x7 * y21.2.2.2))))))
def F72_m1_1 : List Bool := [true, true, true, true, true, false, true, true, true, true, true, true, true, true, true, true, true, true, true, true, true, true, true, true, true, true, true, true, true, true, true, true, true, true, true, true, true, true, true, true, true, true, true, true]
def F72_m1_0 : List Bool := [true, true, false, false, true, false, true, true, true, true, true, true, true, false, false, false, true, true, true, true, true, true, true, true, true, true, true, true, true, true, true, true, true, true, true, true, true, true, true, true, true, true, true, true]
def F72_s1 (x1 : Int) (x2 : Int) (x3 : Bool) (l4 : List (Int × Int × Int × Int)) (l5 : List (Int × Int × Int × Int)) (l6 : List (Int × Int)) (x7 : Int) (x8 : Int) (l9 : List Int) (l10 : List Int) (l11 : List Int) (a17 : Int) (l18 : List Int) : Option ((Int × (List Int)) ⊕ (List Int)) :=
  (bif decide (a17 < (l4.length : Int)) then
   (Option.bind (at? l4 a17) fun y21 =>
   (Option.bind (F89 x1 x2 x3 l4 l5 l6 x7 x8 l9 l10 l11 y21.2.1) fun y22 =>
   (Option.bind (F89 x1 x2 x3 l4 l5 l6 x7 x8 l9 l10 l11 y21.1) fun y24 =>
   (bif (!(okApp (l18.length + ([(F72__1 x7 y21 y22 y24)] : List Int).length) 8)) then none else
   some (.inl ((IntKind.i64.wrap (a17 + 1)), (l18 ++ ([(F72__1 x7 y21 y22 y24)] : List Int))))))))
  else
   some (.inr l18))
def F72_h1 (x1 : Int) (x2 : Int) (x3 : Bool) (l4 : List (Int × Int × Int × Int)) (v4 : Hd) (v5 : Hd) (v6 : Hd) (x7 : Int) (x8 : Int) (v9 : Hd) (v10 : Hd) (v11 : Hd) (h19 : AHeap) (u18 : Hd) (a17 : Int) (l18 : List Int) : AS := ⟨[junk, junk, .pointer (some ⟨2, 0, none⟩), .pointer (some ⟨3, 0, none⟩), junk, (sv u18), junk, junk, junk, junk, junk, junk, junk, (sv v4), .int .i64 (l4.length : Int), .int .i64 a17, junk, junk, junk, junk, junk, junk, junk, junk, junk, junk, junk, junk, junk, junk, junk, junk, junk, junk, junk, junk, junk, junk, junk, junk, junk, junk, junk, junk], [(2, [.int .i64 x1, .int .i64 x2, .bool x3, (sv v4), (sv v5), (sv v6)]), (3, [.int .i64 x7, .int .i64 x8, (sv v9), (sv v10), (sv v11)])], h19⟩
theorem F72_d1 : drawsOk F72_D (codeOf Try.prog 72 [1, 1, 1, 0, 1, 0, 0]) = true := by kernel_rfl
def F72_x1_0 (h : AHeap) (hx : AHeap) (w0 : Hd) (r : (List Int)) : AS := ⟨[junk, junk, junk, junk, junk, (sv w0), junk, junk, junk, junk, junk, junk, junk, junk, junk, junk, junk, junk, junk, junk, junk, junk, junk, junk, junk, junk, junk, junk, junk, junk, junk, junk, junk, junk, junk, junk, junk, junk, junk, junk, junk, junk, junk, junk], [], hx⟩
def F72_i1 (h : AHeap) (x1 : Int) (x2 : Int) (x3 : Bool) (l4 : List (Int × Int × Int × Int)) (v4 : Hd) (v5 : Hd) (v6 : Hd) (x7 : Int) (x8 : Int) (v9 : Hd) (v10 : Hd) (v11 : Hd) (s : Int × (List Int)) (S : AS) : Prop := ∃ (h19 : AHeap) (u18 : Hd), Heapy h h19 [⟨u18, 3, 1, List.flatMap enc3 s.2⟩] ∧ Strict u18 ∧ S = (F72_h1 x1 x2 x3 l4 v4 v5 v6 x7 x8 v9 v10 v11 h19 u18 s.1 s.2)
def F72_x1 (h : AHeap) (r : (List Int)) (e : Exit) (S : AS) : Prop := e = (.exit 0) ∧ ∃ (hx : AHeap) (w0 : Hd), Heapy h hx [⟨w0, 3, 1, List.flatMap enc3 r⟩] ∧ Strict w0 ∧ S = (F72_x1_0 h hx w0 r)
set_option maxRecDepth 100000 in
theorem F72_r1 (h : AHeap) (x1 : Int) (x2 : Int) (x3 : Bool) (l4 : List (Int × Int × Int × Int)) (v4 : Hd) (hv4 : SlE E81 4 h (sv v4) l4) (l5 : List (Int × Int × Int × Int)) (v5 : Hd) (hv5 : SlE E38 4 h (sv v5) l5) (l6 : List (Int × Int)) (v6 : Hd) (hv6 : SlE E35 2 h (sv v6) l6) (x7 : Int) (x8 : Int) (l9 : List Int) (v9 : Hd) (hv9 : SlE E3 1 h (sv v9) l9) (l10 : List Int) (v10 : Hd) (hv10 : SlE E3 1 h (sv v10) l10) (l11 : List Int) (v11 : Hd) (hv11 : SlE E3 1 h (sv v11) l11) (a17 : Int) (l18 : List Int) (S : AS) (hI : (F72_i1 h x1 x2 x3 l4 v4 v5 v6 x7 x8 v9 v10 v11) (a17, l18) S) (o : (Int × (List Int)) ⊕ (List Int)) : F72_s1 x1 x2 x3 l4 l5 l6 x7 x8 l9 l10 l11 a17 l18 = some o → Rd Try.prog (codeOf Try.prog 72 [1, 1, 1, 0, 1, 0, 0]) (F72_i1 h x1 x2 x3 l4 v4 v5 v6 x7 x8 v9 v10 v11) (F72_x1 h) S o := by
  obtain ⟨h19, u18, hp19, z18, rfl⟩ := hI
  unfold F72_s1
  refine dec_bif (fun c20 => ?_) (fun c20 => ?_)
  · refine bind_opt fun y21 e21 => ?_
    obtain ⟨id21, off21, g21, cs21, ix21, at21, rfl⟩ := SlE.at hv4 e21
    refine bind_opt fun y22 e22 => ?_
    refine bind_opt fun y24 e24 => ?_
    obtain ⟨v26, h26, m26, hp26, _⟩ := Heapy.build (P := Try.prog) hp19 (t := 27) (e := 3) (len := 1) (n := 1) (parts := [(0, .int .i64 (F72__1 x7 y21 y22 y24))]) (cells := List.flatMap enc3 ([(F72__1 x7 y21 y22 y24)] : List Int)) (by kernel_rfl) rfl
    refine guard_ok fun g28 => ?_
    obtain ⟨v29, h29, m29, q29, _, w29⟩ := Heapy.append hp26 (show mkInfo Try.prog 27 = some (3, 1, 8, [.int .i64 0]) by kernel_rfl) 1 (v := u18) (cells := List.flatMap enc3 l18) rfl (Y := (sv v26)) (SlE.src (enc := enc3) (c := 1) (Heapy.sle (v := v26) (xs := ([(F72__1 x7 y21 y22 y24)] : List Int)) (enc := enc3) hp26 0 rfl (fun _ => rfl) (by decide)) (fun _ => rfl)) (flatMap_length (enc := enc3) (c := 1) (fun _ => rfl) _) (by rw [Heapy.vn (v := u18) (xs := l18) (enc := enc3) hp26 1 rfl (fun _ => rfl) (by decide)]; simpa using g28)
    have z29 : Strict v29 := w29 z18
    have hp29 : Heapy h h29 [⟨v26, 3, 1, List.flatMap enc3 ([(F72__1 x7 y21 y22 y24)] : List Int)⟩, ⟨v29, 3, 1, List.flatMap enc3 (l18 ++ ([(F72__1 x7 y21 y22 y24)] : List Int))⟩] := by rw [← List.flatMap_append] at q29; exact q29
    intro hr
    obtain rfl := Option.some.inj hr
    exact ⟨(F72_h1 x1 x2 x3 l4 v4 v5 v6 x7 x8 v9 v10 v11 h29 v29 (IntKind.i64.wrap (a17 + 1)) (l18 ++ ([(F72__1 x7 y21 y22 y24)] : List Int))), ⟨h29, v29, (Heapy.pick hp29 [1] (by decide)), z29, rfl⟩, pEnd_sound good (L := F72_L) (D := F72_D) (its := [.g, (.b true), (.ix id21 off21 g21), (.ld (.agg #[.int .i64 y21.1, .int .i64 y21.2.1, .int .i64 y21.2.2.1, .int .i64 y21.2.2.2])), .g, .g, .g, .g, .g, .g, .g, .g, .g, .g, .g, .g, .g, .g, .g, .g, .g, .g, .g, (.c (.int .i64 y22) h19), (.c (.int .i64 y24) h19), .g, .g, (.mm (sv v26) h26), (.mm (sv v29) h29), .g, .g, .g]) (ds := F72_m1_0) (ks := [7]) (e := .normal) (s2 := (F72_h1 x1 x2 x3 l4 v4 v5 v6 x7 x8 v9 v10 v11 h29 v29 (IntKind.i64.wrap (a17 + 1)) (l18 ++ ([(F72__1 x7 y21 y22 y24)] : List Int)))) (hC := (ai m29 (ai m26 (ai (show AKeep h19 h19 from (AHeap.sub_refl h19)) (ai (F89_spec x1 x2 x3 l4 l5 l6 x7 x8 l9 l10 l11 y21.1 v4 v5 v6 v9 v10 v11 h19 (SlE.mono hv4 (Heapy.sub hp19) (E81_mono (Heapy.sub hp19))) (SlE.mono hv5 (Heapy.sub hp19) (E38_mono (Heapy.sub hp19))) (SlE.mono hv6 (Heapy.sub hp19) (E35_mono (Heapy.sub hp19))) (SlE.mono hv9 (Heapy.sub hp19) (E3_mono (Heapy.sub hp19))) (SlE.mono hv10 (Heapy.sub hp19) (E3_mono (Heapy.sub hp19))) (SlE.mono hv11 (Heapy.sub hp19) (E3_mono (Heapy.sub hp19))) _ e24) (ai (show AKeep h19 h19 from (AHeap.sub_refl h19)) (ai (F89_spec x1 x2 x3 l4 l5 l6 x7 x8 l9 l10 l11 y21.2.1 v4 v5 v6 v9 v10 v11 h19 (SlE.mono hv4 (Heapy.sub hp19) (E81_mono (Heapy.sub hp19))) (SlE.mono hv5 (Heapy.sub hp19) (E38_mono (Heapy.sub hp19))) (SlE.mono hv6 (Heapy.sub hp19) (E35_mono (Heapy.sub hp19))) (SlE.mono hv9 (Heapy.sub hp19) (E3_mono (Heapy.sub hp19))) (SlE.mono hv10 (Heapy.sub hp19) (E3_mono (Heapy.sub hp19))) (SlE.mono hv11 (Heapy.sub hp19) (E3_mono (Heapy.sub hp19))) _ e22) (ai (At.agg (P := Try.prog) (t := 81) (v := .agg #[.int .i64 y21.1, .int .i64 y21.2.1, .int .i64 y21.2.2.1, .int .i64 y21.2.2.2]) (m := 4) (At.mono (Heapy.sub hp19) at21) (by kernel_rfl) (by kernel_rfl) 0 (by kernel_rfl) rfl) (ai ix21 (ai c20 trivial)))))))))) (hd := F72_d1) (h := by kernel_rfl)⟩
  · intro hr
    obtain rfl := Option.some.inj hr
    refine ⟨(.exit 0), (F72_x1_0 h h19 u18 (l18 : (List Int))), (by intro hh; cases hh), ?_, pEnd_sound good (L := F72_L) (D := F72_D) (its := [.g, (.b false)]) (ds := F72_m1_1) (ks := [2, 3]) (e := (.exit 0)) (s2 := (F72_x1_0 h h19 u18 (l18 : (List Int)))) (hC := (ai c20 trivial)) (hd := F72_d1) (h := by kernel_rfl)⟩
    exact ⟨rfl, h19, u18, (Heapy.pick hp19 [0] (by decide)), z18, rfl⟩
theorem F72_l1 (h : AHeap) (x1 : Int) (x2 : Int) (x3 : Bool) (l4 : List (Int × Int × Int × Int)) (v4 : Hd) (hv4 : SlE E81 4 h (sv v4) l4) (l5 : List (Int × Int × Int × Int)) (v5 : Hd) (hv5 : SlE E38 4 h (sv v5) l5) (l6 : List (Int × Int)) (v6 : Hd) (hv6 : SlE E35 2 h (sv v6) l6) (x7 : Int) (x8 : Int) (l9 : List Int) (v9 : Hd) (hv9 : SlE E3 1 h (sv v9) l9) (l10 : List Int) (v10 : Hd) (hv10 : SlE E3 1 h (sv v10) l10) (l11 : List Int) (v11 : Hd) (hv11 : SlE E3 1 h (sv v11) l11) (x : Int × (List Int)) (r : (List Int)) (hl : loopO (fun (s : Int × (List Int)) => F72_s1 x1 x2 x3 l4 l5 l6 x7 x8 l9 l10 l11 s.1 s.2) x = some r) (S : AS) (hI : (F72_i1 h x1 x2 x3 l4 v4 v5 v6 x7 x8 v9 v10 v11) x S) : ∃ e S', (F72_x1 h) r e S' ∧ AWp Try.prog (.loop (codeOf Try.prog 72 [1, 1, 1, 0, 1, 0, 0])) (Ends1 e S') S :=
  loop_rel (fun x S hI => F72_r1 h x1 x2 x3 l4 v4 hv4 l5 v5 hv5 l6 v6 hv6 x7 x8 l9 v9 hv9 l10 v10 hv10 l11 v11 hv11 x.1 x.2 S hI) hl hI
def F72 (x1 : Int) (x2 : Int) (x3 : Bool) (l4 : List (Int × Int × Int × Int)) (l5 : List (Int × Int × Int × Int)) (l6 : List (Int × Int)) (x7 : Int) (x8 : Int) (l9 : List Int) (l10 : List Int) (l11 : List Int) : Option ((List Int)) :=
  (Option.bind (F36 x1 x2 x3 l4 l5 l6 x7 x8 l9 l10 l11) fun y12 =>
  (bif (!y12) then
   some ([])
  else
   (Option.bind (loopO (fun (s : Int × (List Int)) => F72_s1 x1 x2 x3 l4 l5 l6 x7 x8 l9 l10 l11 s.1 s.2) (0, ([] : List Int))) fun y31 =>
   some (y31))))
set_option maxRecDepth 100000 in
theorem F72_spec (x1 : Int) (x2 : Int) (x3 : Bool) (l4 : List (Int × Int × Int × Int)) (l5 : List (Int × Int × Int × Int)) (l6 : List (Int × Int)) (x7 : Int) (x8 : Int) (l9 : List Int) (l10 : List Int) (l11 : List Int) (v4 : Hd) (v5 : Hd) (v6 : Hd) (v9 : Hd) (v10 : Hd) (v11 : Hd) (h : AHeap) (hw : h.wf) (hv4 : SlE E81 4 h (sv v4) l4) (hv5 : SlE E38 4 h (sv v5) l5) (hv6 : SlE E35 2 h (sv v6) l6) (hv9 : SlE E3 1 h (sv v9) l9) (hv10 : SlE E3 1 h (sv v10) l10) (hv11 : SlE E3 1 h (sv v11) l11) (r : (List Int)) : F72 x1 x2 x3 l4 l5 l6 x7 x8 l9 l10 l11 = some r → ∃ (ur0 : Hd) (h' : AHeap), Heapy h h' [⟨ur0, 3, 1, List.flatMap enc3 r⟩] ∧ Strict ur0 ∧ ACalls Try.prog 72 [.agg #[.int .i64 x1, .int .i64 x2, .bool x3, (sv v4), (sv v5), (sv v6)], .agg #[.int .i64 x7, .int .i64 x8, (sv v9), (sv v10), (sv v11)]] h (fun v' h'' => v' = ((sv ur0) : Value) ∧ h'' = h') := by
  unfold F72
  refine bind_opt fun y12 e12 => ?_
  refine dec_bif (fun c14 => ?_) (fun c14 => ?_)
  · intro hr
    obtain rfl := Option.some.inj hr
    exact ⟨⟨none, 0, 0⟩, h, Heapy.pick (Heapy.nil (Heapy.refl hw) 3 1) [0] (by decide), Strict.nil, pFun_sound good tab_ok (f := 72) (its := [.g, .g, .g, .g, .g, (.c (.bool y12) h), .g, (.b true), .g]) (args := [.agg #[.int .i64 x1, .int .i64 x2, .bool x3, (sv v4), (sv v5), (sv v6)], .agg #[.int .i64 x7, .int .i64 x8, (sv v9), (sv v10), (sv v11)]]) (h := h) (h' := h) (v := .slice none 0 0) (hC := (ai c14 (ai (F36_spec x1 x2 x3 l4 l5 l6 x7 x8 l9 l10 l11 v4 v5 v6 v9 v10 v11 h hv4 hv5 hv6 hv9 hv10 hv11 _ e12) trivial))) (hr := by kernel_rfl)⟩
  · refine bind_opt fun y31 e31 => ?_
    have hp15 : Heapy h h [⟨⟨none, 0, 0⟩, 3, 1, List.flatMap enc3 ([] : List Int)⟩] := Heapy.nil (Heapy.refl hw) 3 1
    obtain ⟨ee31, SS31, hX31, hA31⟩ := F72_l1 h x1 x2 x3 l4 v4 hv4 l5 v5 hv5 l6 v6 hv6 x7 x8 l9 v9 hv9 l10 v10 hv10 l11 v11 hv11 (0, ([] : List Int)) y31 e31 (F72_h1 x1 x2 x3 l4 v4 v5 v6 x7 x8 v9 v10 v11 h ⟨none, 0, 0⟩ 0 ([] : List Int)) ⟨h, ⟨none, 0, 0⟩, (Heapy.pick hp15 [0] (by decide)), Strict.nil, rfl⟩
    obtain ⟨rfl, h32, w0_32, hp32, zw0_32, rfl⟩ := hX31
    intro hr
    obtain rfl := Option.some.inj hr
    exact ⟨w0_32, h32, Heapy.pick hp32 [0] (by decide), zw0_32, pFun_sound good tab_ok (f := 72) (its := [.g, .g, .g, .g, .g, (.c (.bool y12) h), .g, (.b false), .g, .g, .g, (.ln l4.length), .g, (.l F72_m1_0 [] (.exit 0) (F72_x1_0 h h32 w0_32 y31)), .g, .g]) (args := [.agg #[.int .i64 x1, .int .i64 x2, .bool x3, (sv v4), (sv v5), (sv v6)], .agg #[.int .i64 x7, .int .i64 x8, (sv v9), (sv v10), (sv v11)]]) (h := h) (h' := h32) (v := (sv w0_32)) (hC := (ai hA31 (ai (SlE.len hv4) (ai c14 (ai (F36_spec x1 x2 x3 l4 l5 l6 x7 x8 l9 l10 l11 v4 v5 v6 v9 v10 v11 h hv4 hv5 hv6 hv9 hv10 hv11 _ e12) trivial))))) (hr := by kernel_rfl)⟩
/-! 41 jacquard/schedcheck.Late -/
def F41_L : List Nat := [2, 3]
def F41_D : List (Nat × List (Nat × Nat)) := []
def F41_m1_1 : List Bool := [true, true, true, true, true, false, true, true, true, true, true, true, true, true, true, true, true, true, true, true, true, true, true, true, true]
def F41_m1_0 : List Bool := [true, true, true, true, true, false, true, true, true, true, false, false, false, true, true, true, true, true, true, true, true, true, true, true, true]
def F41_s1 (y12 : (List Int)) (a17 : Int) (l18 : List Int) : Option ((Int × (List Int)) ⊕ (List Int)) :=
  (bif decide (a17 < (y12.length : Int)) then
   (Option.bind (at? y12 a17) fun y21 =>
   (bif decide (y21 < 0) then
    (bif (!(okApp (l18.length + ([a17] : List Int).length) 8)) then none else
    some (.inl ((IntKind.i64.wrap (a17 + 1)), (l18 ++ ([a17] : List Int)))))
   else
    some (.inl ((IntKind.i64.wrap (a17 + 1)), l18))))
  else
   some (.inr l18))
def F41_h1 (y12 : (List Int)) (u13_0 : Hd) (h19 : AHeap) (u18 : Hd) (a17 : Int) (l18 : List Int) : AS := ⟨[junk, junk, junk, junk, junk, (sv u18), junk, junk, junk, junk, (sv u13_0), .int .i64 (y12.length : Int), .int .i64 a17, junk, junk, junk, junk, junk, junk, junk, junk, junk, junk, junk, junk], [], h19⟩
theorem F41_d1 : drawsOk F41_D (codeOf Try.prog 41 [1, 1, 0, 1, 0, 0]) = true := by kernel_rfl
def F41_x1_0 (h : AHeap) (hx : AHeap) (w0 : Hd) (r : (List Int)) : AS := ⟨[junk, junk, junk, junk, junk, (sv w0), junk, junk, junk, junk, junk, junk, junk, junk, junk, junk, junk, junk, junk, junk, junk, junk, junk, junk, junk], [], hx⟩
def F41_i1 (h : AHeap) (y12 : (List Int)) (u13_0 : Hd) (s : Int × (List Int)) (S : AS) : Prop := ∃ (h19 : AHeap) (u18 : Hd), Heapy h h19 [⟨u18, 3, 1, List.flatMap enc3 s.2⟩, ⟨u13_0, 3, 1, List.flatMap enc3 y12⟩] ∧ Strict u18 ∧ S = (F41_h1 y12 u13_0 h19 u18 s.1 s.2)
def F41_x1 (h : AHeap) (r : (List Int)) (e : Exit) (S : AS) : Prop := e = (.exit 0) ∧ ∃ (hx : AHeap) (w0 : Hd), Heapy h hx [⟨w0, 3, 1, List.flatMap enc3 r⟩] ∧ Strict w0 ∧ S = (F41_x1_0 h hx w0 r)
set_option maxRecDepth 100000 in
theorem F41_r1 (h : AHeap) (y12 : (List Int)) (u13_0 : Hd) (a17 : Int) (l18 : List Int) (S : AS) (hI : (F41_i1 h y12 u13_0) (a17, l18) S) (o : (Int × (List Int)) ⊕ (List Int)) : F41_s1 y12 a17 l18 = some o → Rd Try.prog (codeOf Try.prog 41 [1, 1, 0, 1, 0, 0]) (F41_i1 h y12 u13_0) (F41_x1 h) S o := by
  obtain ⟨h19, u18, hp19, z18, rfl⟩ := hI
  unfold F41_s1
  refine dec_bif (fun c20 => ?_) (fun c20 => ?_)
  · refine bind_opt fun y21 e21 => ?_
    obtain ⟨id21, off21, g21, cs21, ix21, at21, rfl⟩ := SlE.at (Heapy.sle (v := u13_0) (xs := y12) (enc := enc3) hp19 1 rfl (fun _ => rfl) (by decide)) e21
    refine dec_bif (fun c22 => ?_) (fun c22 => ?_)
    · obtain ⟨v23, h23, m23, hp23, _⟩ := Heapy.build (P := Try.prog) hp19 (t := 27) (e := 3) (len := 1) (n := 1) (parts := [(0, .int .i64 a17)]) (cells := List.flatMap enc3 ([a17] : List Int)) (by kernel_rfl) rfl
      refine guard_ok fun g25 => ?_
      obtain ⟨v26, h26, m26, q26, _, w26⟩ := Heapy.append hp23 (show mkInfo Try.prog 27 = some (3, 1, 8, [.int .i64 0]) by kernel_rfl) 1 (v := u18) (cells := List.flatMap enc3 l18) rfl (Y := (sv v23)) (SlE.src (enc := enc3) (c := 1) (Heapy.sle (v := v23) (xs := ([a17] : List Int)) (enc := enc3) hp23 0 rfl (fun _ => rfl) (by decide)) (fun _ => rfl)) (flatMap_length (enc := enc3) (c := 1) (fun _ => rfl) _) (by rw [Heapy.vn (v := u18) (xs := l18) (enc := enc3) hp23 1 rfl (fun _ => rfl) (by decide)]; simpa using g25)
      have z26 : Strict v26 := w26 z18
      have hp26 : Heapy h h26 [⟨v23, 3, 1, List.flatMap enc3 ([a17] : List Int)⟩, ⟨v26, 3, 1, List.flatMap enc3 (l18 ++ ([a17] : List Int))⟩, ⟨u13_0, 3, 1, List.flatMap enc3 y12⟩] := by rw [← List.flatMap_append] at q26; exact q26
      intro hr
      obtain rfl := Option.some.inj hr
      exact ⟨(F41_h1 y12 u13_0 h26 v26 (IntKind.i64.wrap (a17 + 1)) (l18 ++ ([a17] : List Int))), ⟨h26, v26, (Heapy.pick hp26 [1, 2] (by decide)), z26, rfl⟩, pEnd_sound good (L := F41_L) (D := F41_D) (its := [.g, (.b true), .g, (.ix id21 off21 g21), (.ld (.int .i64 y21)), .g, .g, .g, .g, (.b true), .g, .g, (.mm (sv v23) h23), (.mm (sv v26) h26), .g, .g, .g]) (ds := F41_m1_0) (ks := []) (e := .normal) (s2 := (F41_h1 y12 u13_0 h26 v26 (IntKind.i64.wrap (a17 + 1)) (l18 ++ ([a17] : List Int)))) (hC := (ai m26 (ai m23 (ai c22 (ai (At.one (P := Try.prog) (t := 3) (v := .int .i64 y21) at21 (by kernel_rfl) 0 rfl rfl) (ai ix21 (ai c20 trivial))))))) (hd := F41_d1) (h := by kernel_rfl)⟩
    · intro hr
      obtain rfl := Option.some.inj hr
      exact ⟨(F41_h1 y12 u13_0 h19 u18 (IntKind.i64.wrap (a17 + 1)) l18), ⟨h19, u18, (Heapy.pick hp19 [0, 1] (by decide)), z18, rfl⟩, pEnd_sound good (L := F41_L) (D := F41_D) (its := [.g, (.b true), .g, (.ix id21 off21 g21), (.ld (.int .i64 y21)), .g, .g, .g, .g, (.b false), .g, .g]) (ds := F41_m1_0) (ks := []) (e := .normal) (s2 := (F41_h1 y12 u13_0 h19 u18 (IntKind.i64.wrap (a17 + 1)) l18)) (hC := (ai c22 (ai (At.one (P := Try.prog) (t := 3) (v := .int .i64 y21) at21 (by kernel_rfl) 0 rfl rfl) (ai ix21 (ai c20 trivial))))) (hd := F41_d1) (h := by kernel_rfl)⟩
  · intro hr
    obtain rfl := Option.some.inj hr
    refine ⟨(.exit 0), (F41_x1_0 h h19 u18 (l18 : (List Int))), (by intro hh; cases hh), ?_, pEnd_sound good (L := F41_L) (D := F41_D) (its := [.g, (.b false)]) (ds := F41_m1_1) (ks := []) (e := (.exit 0)) (s2 := (F41_x1_0 h h19 u18 (l18 : (List Int)))) (hC := (ai c20 trivial)) (hd := F41_d1) (h := by kernel_rfl)⟩
    exact ⟨rfl, h19, u18, (Heapy.pick hp19 [0] (by decide)), z18, rfl⟩
theorem F41_l1 (h : AHeap) (y12 : (List Int)) (u13_0 : Hd) (x : Int × (List Int)) (r : (List Int)) (hl : loopO (fun (s : Int × (List Int)) => F41_s1 y12 s.1 s.2) x = some r) (S : AS) (hI : (F41_i1 h y12 u13_0) x S) : ∃ e S', (F41_x1 h) r e S' ∧ AWp Try.prog (.loop (codeOf Try.prog 41 [1, 1, 0, 1, 0, 0])) (Ends1 e S') S :=
  loop_rel (fun x S hI => F41_r1 h y12 u13_0 x.1 x.2 S hI) hl hI
def F41 (x1 : Int) (x2 : Int) (x3 : Bool) (l4 : List (Int × Int × Int × Int)) (l5 : List (Int × Int × Int × Int)) (l6 : List (Int × Int)) (x7 : Int) (x8 : Int) (l9 : List Int) (l10 : List Int) (l11 : List Int) : Option ((List Int)) :=
  (Option.bind (F72 x1 x2 x3 l4 l5 l6 x7 x8 l9 l10 l11) fun y12 =>
  (Option.bind (loopO (fun (s : Int × (List Int)) => F41_s1 y12 s.1 s.2) (0, ([] : List Int))) fun y28 =>
  some (y28)))
set_option maxRecDepth 100000 in
theorem F41_spec (x1 : Int) (x2 : Int) (x3 : Bool) (l4 : List (Int × Int × Int × Int)) (l5 : List (Int × Int × Int × Int)) (l6 : List (Int × Int)) (x7 : Int) (x8 : Int) (l9 : List Int) (l10 : List Int) (l11 : List Int) (v4 : Hd) (v5 : Hd) (v6 : Hd) (v9 : Hd) (v10 : Hd) (v11 : Hd) (h : AHeap) (hw : h.wf) (hv4 : SlE E81 4 h (sv v4) l4) (hv5 : SlE E38 4 h (sv v5) l5) (hv6 : SlE E35 2 h (sv v6) l6) (hv9 : SlE E3 1 h (sv v9) l9) (hv10 : SlE E3 1 h (sv v10) l10) (hv11 : SlE E3 1 h (sv v11) l11) (r : (List Int)) : F41 x1 x2 x3 l4 l5 l6 x7 x8 l9 l10 l11 = some r → ∃ (ur0 : Hd) (h' : AHeap), Heapy h h' [⟨ur0, 3, 1, List.flatMap enc3 r⟩] ∧ Strict ur0 ∧ ACalls Try.prog 41 [.agg #[.int .i64 x1, .int .i64 x2, .bool x3, (sv v4), (sv v5), (sv v6)], .agg #[.int .i64 x7, .int .i64 x8, (sv v9), (sv v10), (sv v11)]] h (fun v' h'' => v' = ((sv ur0) : Value) ∧ h'' = h') := by
  unfold F41
  refine bind_opt fun y12 e12 => ?_
  obtain ⟨u13_0, h13, q13, zu13_0, c13⟩ := F72_spec x1 x2 x3 l4 l5 l6 x7 x8 l9 l10 l11 v4 v5 v6 v9 v10 v11 h hw hv4 hv5 hv6 hv9 hv10 hv11 _ e12
  have hp13 : Heapy h h13 [⟨u13_0, 3, 1, List.flatMap enc3 y12⟩] := Heapy.call (Heapy.refl hw) q13
  refine bind_opt fun y28 e28 => ?_
  have hp15 : Heapy h h13 [⟨⟨none, 0, 0⟩, 3, 1, List.flatMap enc3 ([] : List Int)⟩, ⟨u13_0, 3, 1, List.flatMap enc3 y12⟩] := Heapy.nil hp13 3 1
  obtain ⟨ee28, SS28, hX28, hA28⟩ := F41_l1 h y12 u13_0 (0, ([] : List Int)) y28 e28 (F41_h1 y12 u13_0 h13 ⟨none, 0, 0⟩ 0 ([] : List Int)) ⟨h13, ⟨none, 0, 0⟩, (Heapy.pick hp15 [0, 1] (by decide)), Strict.nil, rfl⟩
  obtain ⟨rfl, h29, w0_29, hp29, zw0_29, rfl⟩ := hX28
  intro hr
  obtain rfl := Option.some.inj hr
  exact ⟨w0_29, h29, Heapy.pick hp29 [0] (by decide), zw0_29, pFun_sound good tab_ok (f := 41) (its := [.g, .g, .g, .g, .g, .g, (.c ((sv u13_0)) h13), (.ln y12.length), .g, (.l F41_m1_0 [2, 3] (.exit 0) (F41_x1_0 h h29 w0_29 y28)), .g, .g]) (args := [.agg #[.int .i64 x1, .int .i64 x2, .bool x3, (sv v4), (sv v5), (sv v6)], .agg #[.int .i64 x7, .int .i64 x8, (sv v9), (sv v10), (sv v11)]]) (h := h) (h' := h29) (v := (sv w0_29)) (hC := (ai hA28 (ai (SlE.len (Heapy.sle (v := u13_0) (xs := y12) (enc := enc3) hp13 0 rfl (fun _ => rfl) (by decide))) (ai c13 trivial)))) (hr := by kernel_rfl)⟩
/-! 73 jacquard/schedcheck.overlap -/
def F73__1 (x1 : Int) (x2 : Int) (x4 : Int) (x5 : Int) : Bool := decide ((IntKind.i64.wrap (x1 - (IntKind.i64.wrap (((IntKind.i64.wrap (x4 - x2)).tmod x1) + x1)))) < x5)
def F73 (x1 : Int) (x2 : Int) (x3 : Int) (x4 : Int) (x5 : Int) : Bool :=
  (bif (x1 == 0) then
   (bif decide (x2 < (IntKind.i64.wrap (x4 + x5))) then
    (decide (x4 < (IntKind.i64.wrap (x2 + x3))))
   else
    false)
  else
   (bif decide (((IntKind.i64.wrap (x4 - x2)).tmod x1) < 0) then
    (bif decide ((IntKind.i64.wrap (((IntKind.i64.wrap (x4 - x2)).tmod x1) + x1)) < x3) then
     true
    else
     (F73__1 x1 x2 x4 x5))
   else
    (bif decide (((IntKind.i64.wrap (x4 - x2)).tmod x1) < x3) then
     true
    else
     (decide ((IntKind.i64.wrap (x1 - ((IntKind.i64.wrap (x4 - x2)).tmod x1))) < x5)))))
set_option maxRecDepth 100000 in
theorem F73_spec (x1 : Int) (x2 : Int) (x3 : Int) (x4 : Int) (x5 : Int) (h : AHeap)  (r : Bool) : F73 x1 x2 x3 x4 x5 = r → ACalls Try.prog 73 [.int .i64 x1, .int .i64 x2, .int .i64 x3, .int .i64 x4, .int .i64 x5] h (fun v' h'' => v' = (.bool r : Value) ∧ h'' = h) := by
  unfold F73
  refine dec_bif (fun c6 => ?_) (fun c6 => ?_)
  · refine dec_bif (fun c7 => ?_) (fun c7 => ?_)
    · intro hr
      subst hr
      exact pFun_sound good tab_ok (f := 73) (its := [.g, .g, .g, (.b true), .g, .g, .g, .g, .g, .g, (.w .g), (.w .g), (.w .g), (.w .g), (.w .g), (.p true), .g]) (args := [.int .i64 x1, .int .i64 x2, .int .i64 x3, .int .i64 x4, .int .i64 x5]) (h := h) (h' := h) (v := .bool (decide (x4 < (IntKind.i64.wrap (x2 + x3))))) (hC := (ai c7 (ai (g_tt c7) (ai (g_tt c7) (ai (g_tt c7) (ai (g_tt c7) (ai (g_tt c7) (ai c6 trivial)))))))) (hr := by kernel_rfl)
    · intro hr
      subst hr
      exact pFun_sound good tab_ok (f := 73) (its := [.g, .g, .g, (.b true), .g, .g, .g, .g, .g, .g, .n, .n, .n, .n, .n, (.p false), .g]) (args := [.int .i64 x1, .int .i64 x2, .int .i64 x3, .int .i64 x4, .int .i64 x5]) (h := h) (h' := h) (v := .bool false) (hC := (ai c7 (ai (g_ft c7) (ai (g_ft c7) (ai (g_ft c7) (ai (g_ft c7) (ai (g_ft c7) (ai c6 trivial)))))))) (hr := by kernel_rfl)
  · refine dec_bif (fun c8 => ?_) (fun c8 => ?_)
    · refine dec_bif (fun c9 => ?_) (fun c9 => ?_)
      · intro hr
        subst hr
        exact pFun_sound good tab_ok (f := 73) (its := [.g, .g, .g, (.b false), .g, .g, .g, .g, .d, .g, .g, .g, (.b true), .g, .g, .g, .g, .g, .g, .g, .g, .n, .n, .n, .n, .n, (.p true), .g]) (args := [.int .i64 x1, .int .i64 x2, .int .i64 x3, .int .i64 x4, .int .i64 x5]) (h := h) (h' := h) (v := .bool true) (hC := (ai c9 (ai (g_tf c9) (ai (g_tf c9) (ai (g_tf c9) (ai (g_tf c9) (ai (g_tf c9) (ai c8 (ai (nz c6) (ai c6 trivial)))))))))) (hr := by kernel_rfl)
      · intro hr
        subst hr
        exact pFun_sound good tab_ok (f := 73) (its := [.g, .g, .g, (.b false), .g, .g, .g, .g, .d, .g, .g, .g, (.b true), .g, .g, .g, .g, .g, .g, .g, .g, (.w .g), (.w .g), (.w .g), (.w .g), (.w .g), (.p false), .g]) (args := [.int .i64 x1, .int .i64 x2, .int .i64 x3, .int .i64 x4, .int .i64 x5]) (h := h) (h' := h) (v := .bool (F73__1 x1 x2 x4 x5)) (hC := (ai c9 (ai (g_ff c9) (ai (g_ff c9) (ai (g_ff c9) (ai (g_ff c9) (ai (g_ff c9) (ai c8 (ai (nz c6) (ai c6 trivial)))))))))) (hr := by kernel_rfl)
    · refine dec_bif (fun c10 => ?_) (fun c10 => ?_)
      · intro hr
        subst hr
        exact pFun_sound good tab_ok (f := 73) (its := [.g, .g, .g, (.b false), .g, .g, .g, .g, .d, .g, .g, .g, (.b false), .g, .g, .g, .g, .n, .n, .n, .n, .n, (.p true), .g]) (args := [.int .i64 x1, .int .i64 x2, .int .i64 x3, .int .i64 x4, .int .i64 x5]) (h := h) (h' := h) (v := .bool true) (hC := (ai c10 (ai (g_tf c10) (ai (g_tf c10) (ai (g_tf c10) (ai (g_tf c10) (ai (g_tf c10) (ai c8 (ai (nz c6) (ai c6 trivial)))))))))) (hr := by kernel_rfl)
      · intro hr
        subst hr
        exact pFun_sound good tab_ok (f := 73) (its := [.g, .g, .g, (.b false), .g, .g, .g, .g, .d, .g, .g, .g, (.b false), .g, .g, .g, .g, (.w .g), (.w .g), (.w .g), (.w .g), (.w .g), (.p false), .g]) (args := [.int .i64 x1, .int .i64 x2, .int .i64 x3, .int .i64 x4, .int .i64 x5]) (h := h) (h' := h) (v := .bool (decide ((IntKind.i64.wrap (x1 - ((IntKind.i64.wrap (x4 - x2)).tmod x1))) < x5))) (hC := (ai c10 (ai (g_ff c10) (ai (g_ff c10) (ai (g_ff c10) (ai (g_ff c10) (ai (g_ff c10) (ai c8 (ai (nz c6) (ai c6 trivial)))))))))) (hr := by kernel_rfl)
/-! 85 cmp.isNaN[int] -/
def F85 (x1 : Int) : Bool :=
  (x1 != x1)
set_option maxRecDepth 100000 in
theorem F85_spec (x1 : Int) (h : AHeap)  (r : Bool) : F85 x1 = r → ACalls Try.prog 85 [.int .i64 x1] h (fun v' h'' => v' = (.bool r : Value) ∧ h'' = h) := by
  unfold F85
  intro hr
  subst hr
  exact pFun_sound good tab_ok (f := 85) (its := [.g, .g, .g, .g, .g]) (args := [.int .i64 x1]) (h := h) (h' := h) (v := .bool (x1 != x1)) (hC := trivial) (hr := by kernel_rfl)
/-! 60 cmp.Compare[int] -/
def F60 (x1 : Int) (x2 : Int) : Int :=
  (bif (F85 x1) then
   (bif (F85 x2) then
    0
   else
    (-1))
  else
   (bif (F85 x2) then
    1
   else
    (bif decide (x1 < x2) then
     (-1)
    else
     (bif decide (x1 > x2) then
      1
     else
      0))))
set_option maxRecDepth 100000 in
theorem F60_spec (x1 : Int) (x2 : Int) (h : AHeap)  (r : Int) : F60 x1 x2 = r → ACalls Try.prog 60 [.int .i64 x1, .int .i64 x2] h (fun v' h'' => v' = (.int .i64 r : Value) ∧ h'' = h) := by
  unfold F60
  refine dec_bif (fun c5 => ?_) (fun c5 => ?_)
  · refine dec_bif (fun c6 => ?_) (fun c6 => ?_)
    · intro hr
      subst hr
      exact pFun_sound good tab_ok (f := 60) (its := [.g, .g, (.c (.bool (F85 x1)) h), .g, .g, (.c (.bool (F85 x2)) h), .g, .g, (.b true), .g, (.b true), .g]) (args := [.int .i64 x1, .int .i64 x2]) (h := h) (h' := h) (v := .int .i64 0) (hC := (ai c6 (ai c5 (ai (F85_spec x2 h _ rfl) (ai (F85_spec x1 h _ rfl) trivial))))) (hr := by kernel_rfl)
    · intro hr
      subst hr
      exact pFun_sound good tab_ok (f := 60) (its := [.g, .g, (.c (.bool (F85 x1)) h), .g, .g, (.c (.bool (F85 x2)) h), .g, .g, (.b true), .g, (.b false), .g]) (args := [.int .i64 x1, .int .i64 x2]) (h := h) (h' := h) (v := .int .i64 (-1)) (hC := (ai c6 (ai c5 (ai (F85_spec x2 h _ rfl) (ai (F85_spec x1 h _ rfl) trivial))))) (hr := by kernel_rfl)
  · refine dec_bif (fun c7 => ?_) (fun c7 => ?_)
    · intro hr
      subst hr
      exact pFun_sound good tab_ok (f := 60) (its := [.g, .g, (.c (.bool (F85 x1)) h), .g, .g, (.c (.bool (F85 x2)) h), .g, .g, (.b false), .g, (.b true), .g]) (args := [.int .i64 x1, .int .i64 x2]) (h := h) (h' := h) (v := .int .i64 1) (hC := (ai c7 (ai c5 (ai (F85_spec x2 h _ rfl) (ai (F85_spec x1 h _ rfl) trivial))))) (hr := by kernel_rfl)
    · refine dec_bif (fun c8 => ?_) (fun c8 => ?_)
      · intro hr
        subst hr
        exact pFun_sound good tab_ok (f := 60) (its := [.g, .g, (.c (.bool (F85 x1)) h), .g, .g, (.c (.bool (F85 x2)) h), .g, .g, (.b false), .g, (.b false), .g, .g, .g, (.b true), .g]) (args := [.int .i64 x1, .int .i64 x2]) (h := h) (h' := h) (v := .int .i64 (-1)) (hC := (ai c8 (ai c7 (ai c5 (ai (F85_spec x2 h _ rfl) (ai (F85_spec x1 h _ rfl) trivial)))))) (hr := by kernel_rfl)
      · refine dec_bif (fun c9 => ?_) (fun c9 => ?_)
        · intro hr
          subst hr
          exact pFun_sound good tab_ok (f := 60) (its := [.g, .g, (.c (.bool (F85 x1)) h), .g, .g, (.c (.bool (F85 x2)) h), .g, .g, (.b false), .g, (.b false), .g, .g, .g, (.b false), .g, .g, .g, (.b true), .g]) (args := [.int .i64 x1, .int .i64 x2]) (h := h) (h' := h) (v := .int .i64 1) (hC := (ai c9 (ai c8 (ai c7 (ai c5 (ai (F85_spec x2 h _ rfl) (ai (F85_spec x1 h _ rfl) trivial))))))) (hr := by kernel_rfl)
        · intro hr
          subst hr
          exact pFun_sound good tab_ok (f := 60) (its := [.g, .g, (.c (.bool (F85 x1)) h), .g, .g, (.c (.bool (F85 x2)) h), .g, .g, (.b false), .g, (.b false), .g, .g, .g, (.b false), .g, .g, .g, (.b false), .g]) (args := [.int .i64 x1, .int .i64 x2]) (h := h) (h' := h) (v := .int .i64 0) (hC := (ai c9 (ai c8 (ai c7 (ai c5 (ai (F85_spec x2 h _ rfl) (ai (F85_spec x1 h _ rfl) trivial))))))) (hr := by kernel_rfl)
/-! 59 cmp.Or[int] -/
def F59_L : List Nat := []
def F59_D : List (Nat × List (Nat × Nat)) := []
def F59_m1_2 : List Bool := [true, true, true, false, true, true, true, true, true, true, true, true, true, true, true, true, true, true]
def F59_m1_1 : List Bool := [true, true, true, false, true, true, false, false, false, true, true, true, true, true, true, true, true, true]
def F59_m1_0 : List Bool := [true, true, false, true, true, true, true, true, true, true, true, true, true, true, true, true, true, true]
def F59_s1 (l1 : List Int) (a2 : Int) : Option (Int ⊕ (Nat × Int)) :=
  (bif decide (a2 < (l1.length : Int)) then
   (Option.bind (at? l1 a2) fun y4 =>
   (bif (y4 != 0) then
    some (.inr (0, y4))
   else
    some (.inl (IntKind.i64.wrap (a2 + 1)))))
  else
   some (.inr (1, 0)))
def F59_h1 (h : AHeap) (l1 : List Int) (v1 : Hd)  (a2 : Int) : AS := ⟨[junk, junk, junk, .int .i64 0, junk, junk, (sv v1), .int .i64 (l1.length : Int), .int .i64 a2, junk, junk, junk, junk, junk, junk, junk, junk, junk], [], h⟩
theorem F59_d1 : drawsOk F59_D (codeOf Try.prog 59 [1, 1, 0, 1, 0, 0]) = true := by kernel_rfl
def F59_x1_0 (h : AHeap)  (r : Nat × Int) : AS := ⟨[junk, junk, .int .i64 r.2, junk, junk, junk, junk, junk, junk, junk, junk, junk, junk, junk, junk, junk, junk, junk], [], h⟩
def F59_x1_1 (h : AHeap)  (r : Nat × Int) : AS := ⟨[junk, junk, junk, .int .i64 0, junk, junk, junk, junk, junk, junk, junk, junk, junk, junk, junk, junk, junk, junk], [], h⟩
def F59_x1 (h : AHeap) (r : Nat × Int) : Exit × AS := (bif Nat.beq r.1 0 then (.ret, (F59_x1_0 h r)) else ((.exit 0), (F59_x1_1 h r)))
set_option maxRecDepth 100000 in
theorem F59_r1 (h : AHeap) (l1 : List Int) (v1 : Hd) (hv1 : SlE E3 1 h (sv v1) l1) (a2 : Int) (o : Int ⊕ (Nat × Int)) : F59_s1 l1 a2 = some o → RdF Try.prog (codeOf Try.prog 59 [1, 1, 0, 1, 0, 0]) (fun (s : Int) => (F59_h1 h l1 v1 s)) (F59_x1 h) (F59_h1 h l1 v1 a2) o := by
  unfold F59_s1
  refine dec_bif (fun c3 => ?_) (fun c3 => ?_)
  · refine bind_opt fun y4 e4 => ?_
    obtain ⟨id4, off4, g4, cs4, ix4, at4, rfl⟩ := SlE.at hv1 e4
    refine dec_bif (fun c5 => ?_) (fun c5 => ?_)
    · intro hr
      obtain rfl := Option.some.inj hr
      show AWp Try.prog _ (Ends1 ((F59_x1 h) ((0, y4) : Nat × Int)).1 ((F59_x1 h) ((0, y4) : Nat × Int)).2) _
      exact pEnd_sound good (L := F59_L) (D := F59_D) (its := [.g, (.b true), (.ix id4 off4 g4), (.ld (.int .i64 y4)), .g, .g, .g, .g, (.b true), .g, .g]) (ds := F59_m1_0) (ks := []) (e := ((F59_x1 h) ((0, y4) : Nat × Int)).1) (s2 := ((F59_x1 h) ((0, y4) : Nat × Int)).2) (hC := (ai c5 (ai (At.one (P := Try.prog) (t := 3) (v := .int .i64 y4) at4 (by kernel_rfl) 0 rfl rfl) (ai ix4 (ai c3 trivial))))) (hd := F59_d1) (h := by kernel_rfl)
    · intro hr
      obtain rfl := Option.some.inj hr
      show AWp Try.prog _ (Ends1 .normal (F59_h1 h l1 v1 (IntKind.i64.wrap (a2 + 1)))) _
      exact pEnd_sound good (L := F59_L) (D := F59_D) (its := [.g, (.b true), (.ix id4 off4 g4), (.ld (.int .i64 y4)), .g, .g, .g, .g, (.b false), .g, .g]) (ds := F59_m1_1) (ks := []) (e := .normal) (s2 := (F59_h1 h l1 v1 (IntKind.i64.wrap (a2 + 1)))) (hC := (ai c5 (ai (At.one (P := Try.prog) (t := 3) (v := .int .i64 y4) at4 (by kernel_rfl) 0 rfl rfl) (ai ix4 (ai c3 trivial))))) (hd := F59_d1) (h := by kernel_rfl)
  · intro hr
    obtain rfl := Option.some.inj hr
    show AWp Try.prog _ (Ends1 ((F59_x1 h) ((1, 0) : Nat × Int)).1 ((F59_x1 h) ((1, 0) : Nat × Int)).2) _
    exact pEnd_sound good (L := F59_L) (D := F59_D) (its := [.g, (.b false)]) (ds := F59_m1_2) (ks := []) (e := ((F59_x1 h) ((1, 0) : Nat × Int)).1) (s2 := ((F59_x1 h) ((1, 0) : Nat × Int)).2) (hC := (ai c3 trivial)) (hd := F59_d1) (h := by kernel_rfl)
theorem F59_l1_0 (h : AHeap) (l1 : List Int) (v1 : Hd) (hv1 : SlE E3 1 h (sv v1) l1) (x : Int) (r : Nat × Int) (hl : loopO (fun (s : Int) => F59_s1 l1 s) x = some r) (q0 : Nat.beq r.1 0 = true) : AWp Try.prog (.loop (codeOf Try.prog 59 [1, 1, 0, 1, 0, 0])) (Ends1 .ret (F59_x1_0 h r)) ((fun (s : Int) => (F59_h1 h l1 v1 s)) x) := by
  have k := loop_fun (P := Try.prog) (c := (codeOf Try.prog 59 [1, 1, 0, 1, 0, 0])) (step := (fun (s : Int) => F59_s1 l1 s)) (hd := (fun (s : Int) => (F59_h1 h l1 v1 s))) (X := (F59_x1 h)) (by intro t; unfold F59_x1; cases Nat.beq t.1 0 <;> (intro h; cases h)) (fun x => F59_r1 h l1 v1 hv1 x) hl
  simp only [F59_x1, q0, cond_true, cond_false] at k
  exact k
theorem F59_l1_1 (h : AHeap) (l1 : List Int) (v1 : Hd) (hv1 : SlE E3 1 h (sv v1) l1) (x : Int) (r : Nat × Int) (hl : loopO (fun (s : Int) => F59_s1 l1 s) x = some r) (q0 : Nat.beq r.1 0 = false) : AWp Try.prog (.loop (codeOf Try.prog 59 [1, 1, 0, 1, 0, 0])) (Ends1 (.exit 0) (F59_x1_1 h r)) ((fun (s : Int) => (F59_h1 h l1 v1 s)) x) := by
  have k := loop_fun (P := Try.prog) (c := (codeOf Try.prog 59 [1, 1, 0, 1, 0, 0])) (step := (fun (s : Int) => F59_s1 l1 s)) (hd := (fun (s : Int) => (F59_h1 h l1 v1 s))) (X := (F59_x1 h)) (by intro t; unfold F59_x1; cases Nat.beq t.1 0 <;> (intro h; cases h)) (fun x => F59_r1 h l1 v1 hv1 x) hl
  simp only [F59_x1, q0, cond_true, cond_false] at k
  exact k
def F59 (l1 : List Int) : Option (Int) :=
  (Option.bind (loopO (fun (s : Int) => F59_s1 l1 s) 0) fun y6 =>
  (bif (Nat.beq y6.1 0) then
   some (y6.2)
  else
   some (0)))
set_option maxRecDepth 100000 in
theorem F59_spec (l1 : List Int) (v1 : Hd) (h : AHeap) (hv1 : SlE E3 1 h (sv v1) l1) (r : Int) : F59 l1 = some r → ACalls Try.prog 59 [(sv v1)] h (fun v' h'' => v' = (.int .i64 r : Value) ∧ h'' = h) := by
  unfold F59
  refine bind_opt fun y6 e6 => ?_
  refine dec_bif (fun c7 => ?_) (fun c7 => ?_)
  · intro hr
    obtain rfl := Option.some.inj hr
    exact pFun_sound good tab_ok (f := 59) (its := [.g, .g, .g, (.ln l1.length), .g, (.l F59_m1_1 [] .ret (F59_x1_0 h y6))]) (args := [(sv v1)]) (h := h) (h' := h) (v := .int .i64 y6.2) (hC := (ai (F59_l1_0 h l1 v1 hv1 0 y6 e6 c7) (ai (SlE.len hv1) trivial))) (hr := by kernel_rfl)
  · intro hr
    obtain rfl := Option.some.inj hr
    exact pFun_sound good tab_ok (f := 59) (its := [.g, .g, .g, (.ln l1.length), .g, (.l F59_m1_1 [] (.exit 0) (F59_x1_1 h y6)), .g, .g]) (args := [(sv v1)]) (h := h) (h' := h) (v := .int .i64 0) (hC := (ai (F59_l1_1 h l1 v1 hv1 0 y6 e6 c7) (ai (SlE.len hv1) trivial))) (hr := by kernel_rfl)
/-! 75 jacquard/schedcheck.Clashes$1 -/
def F75 (x1 : Int) (x2 : Int) (x3 : Int) (x4 : Int) : Option (Int) :=
  (Option.bind (F59 ([(F60 x1 x3), (F60 x2 x4)] : List Int)) fun y9 =>
  some (y9))
set_option maxRecDepth 100000 in
theorem F75_spec (x1 : Int) (x2 : Int) (x3 : Int) (x4 : Int) (h : AHeap) (hw : h.wf)  (r : Int) : F75 x1 x2 x3 x4 = some r → ∃ (h' : AHeap), Heapy h h' [] ∧ ACalls Try.prog 75 [.agg #[.int .i64 x1, .int .i64 x2], .agg #[.int .i64 x3, .int .i64 x4]] h (fun v' h'' => v' = (.int .i64 r : Value) ∧ h'' = h') := by
  unfold F75
  obtain ⟨v7, h7, m7, hp7, _⟩ := Heapy.build (P := Try.prog) (Heapy.refl hw) (t := 27) (e := 3) (len := 2) (n := 1) (parts := [(0, .int .i64 (F60 x1 x3)), (1, .int .i64 (F60 x2 x4))]) (cells := List.flatMap enc3 ([(F60 x1 x3), (F60 x2 x4)] : List Int)) (by kernel_rfl) rfl
  refine bind_opt fun y9 e9 => ?_
  intro hr
  obtain rfl := Option.some.inj hr
  exact ⟨h7, Heapy.pick hp7 [] (by decide), pFun_sound good tab_ok (f := 75) (its := [.g, .g, .g, .g, .g, .g, .g, .g, .g, .g, .g, (.c (.int .i64 (F60 x1 x3)) h), (.c (.int .i64 (F60 x2 x4)) h), (.mm (sv v7) h7), (.c (.int .i64 y9) h7), .g]) (args := [.agg #[.int .i64 x1, .int .i64 x2], .agg #[.int .i64 x3, .int .i64 x4]]) (h := h) (h' := h7) (v := .int .i64 y9) (hC := (ai (show AKeep h7 h7 from (AHeap.sub_refl h7)) (ai (F59_spec ([(F60 x1 x3), (F60 x2 x4)] : List Int) v7 h7 (Heapy.sle (v := v7) (xs := ([(F60 x1 x3), (F60 x2 x4)] : List Int)) (enc := enc3) hp7 0 rfl (fun _ => rfl) (by decide)) _ e9) (ai m7 (ai (show AKeep h h from (AHeap.sub_refl h)) (ai (F60_spec x2 x4 h _ rfl) (ai (show AKeep h h from (AHeap.sub_refl h)) (ai (F60_spec x1 x3 h _ rfl) trivial)))))))) (hr := by kernel_rfl)⟩
def enc106 (x : Int × Int) : List Value := [.int .i64 x.1, .int .i64 x.2]
def E106 (h : AHeap) (cs : List Value) (x : Int × Int) : Prop := cs = enc106 x
theorem E106_mono {h h' : AHeap} (le : h.sub h') (cs : List Value) (x : Int × Int) (H : E106 h cs x) : E106 h' cs x := H
def W106 (x : Int × Int) : Prop := (Lit.int .i64 x.1).wf = true ∧ (Lit.int .i64 x.2).wf = true ∧ True
set_option maxRecDepth 100000 in
theorem E106_wt {h : AHeap} {n : Nat} {cs : List Value} (H : WT Try.prog h n 106 cs) : ∃ x, E106 h cs x ∧ W106 x := by
  have k : SQ Try.prog h [.int .i64, .int .i64] cs := wt_flatS 2 n (by kernel_rfl) H
  obtain ⟨x0, r0, rfl, w0, k0⟩ := sq_int k
  obtain ⟨x1, r1, rfl, w1, k1⟩ := sq_int k0
  obtain rfl := sq_nil k1
  exact ⟨(x0, x1), rfl, ⟨w0, w1, trivial⟩⟩
/-! slices.SortFunc 74 at 75 -/
def sort74_ren : Go.Shelf.Ren := ⟨fun | 6 => 74 | 15 => 84 | 14 => 90 | 28 => 99 | 29 => 100 | 20 => 104 | 21 => 105 | 22 => 106 | 23 => 107 | 24 => 108 | 25 => 109 | 26 => 110 | 27 => 111 | 46 => 117 | 47 => 113 | 48 => 114 | 49 => 118 | 50 => 119 | 57 => 121 | n => n, fun | 22 => 78 | 24 => 106 | 25 => 109 | 3 => 3 | 39 => 118 | 0 => 0 | 53 => 131 | 55 => 133 | 4 => 4 | 46 => 125 | 45 => 124 | 50 => 86 | 5 => 5 | 9 => 9 | 66 => 139 | 70 => 143 | 76 => 147 | 77 => 148 | n => n, fun n => n⟩
theorem sort74_lay : Go.Proofs.SlLaysF0.n6 Try.prog sort74_ren := {
  mixed := by kernel_rfl
  f6 := ⟨"slices.SortFunc[[][2]int,[2]int]", by kernel_rfl, by kernel_rfl⟩
  f14 := ⟨"slices.pdqsortCmpFunc[[2]int]", by kernel_rfl, by kernel_rfl⟩
  f15 := by kernel_rfl
  f20 := ⟨"slices.insertionSortCmpFunc[[2]int]", by kernel_rfl, by kernel_rfl⟩
  f21 := ⟨"slices.heapSortCmpFunc[[2]int]", by kernel_rfl, by kernel_rfl⟩
  f22 := ⟨"slices.breakPatternsCmpFunc[[2]int]", by kernel_rfl, by kernel_rfl⟩
  f23 := ⟨"slices.choosePivotCmpFunc[[2]int]", by kernel_rfl, by kernel_rfl⟩
  f24 := ⟨"slices.reverseRangeCmpFunc[[2]int]", by kernel_rfl, by kernel_rfl⟩
  f25 := ⟨"slices.partialInsertionSortCmpFunc[[2]int]", by kernel_rfl, by kernel_rfl⟩
  f26 := ⟨"slices.partitionEqualCmpFunc[[2]int]", by kernel_rfl, by kernel_rfl⟩
  f27 := ⟨"slices.partitionCmpFunc[[2]int]", by kernel_rfl, by kernel_rfl⟩
  f28 := by kernel_rfl
  f29 := by kernel_rfl
  f46 := ⟨"slices.siftDownCmpFunc[[2]int]", by kernel_rfl, by kernel_rfl⟩
  f47 := by kernel_rfl
  f48 := by kernel_rfl
  f49 := ⟨"slices.medianAdjacentCmpFunc[[2]int]", by kernel_rfl, by kernel_rfl⟩
  f50 := ⟨"slices.medianCmpFunc[[2]int]", by kernel_rfl, by kernel_rfl⟩
  f57 := ⟨"slices.order2CmpFunc[[2]int]", by kernel_rfl, by kernel_rfl⟩
  t0 := by kernel_rfl
  a0 := Try.isAgg0
  z0 := Try.sizeOf0
  v0 := Try.zeroValue0
  t3 := by kernel_rfl
  a3 := Try.isAgg3
  z3 := Try.sizeOf3
  v3 := Try.zeroValue3
  t4 := by kernel_rfl
  a4 := Try.isAgg4
  z4 := Try.sizeOf4
  v4 := Try.zeroValue4
  t5 := by kernel_rfl
  a5 := Try.isAgg5
  z5 := Try.sizeOf5
  v5 := Try.zeroValue5
  t9 := by kernel_rfl
  a9 := Try.isAgg9
  z9 := Try.sizeOf9
  v9 := Try.zeroValue9
  t22 := by kernel_rfl
  a22 := Try.isAgg78
  z22 := Try.sizeOf78
  v22 := Try.zeroValue78
  t25 := by kernel_rfl
  a25 := Try.isAgg109
  z25 := Try.sizeOf109
  v25 := Try.zeroValue109
  t39 := by kernel_rfl
  a39 := Try.isAgg118
  z39 := Try.sizeOf118
  v39 := Try.zeroValue118
  t45 := by kernel_rfl
  a45 := Try.isAgg124
  z45 := Try.sizeOf124
  v45 := Try.zeroValue124
  t46 := by kernel_rfl
  a46 := Try.isAgg125
  z46 := Try.sizeOf125
  v46 := Try.zeroValue125
  t50 := by kernel_rfl
  a50 := Try.isAgg86
  z50 := Try.sizeOf86
  v50 := Try.zeroValue86
  t53 := by kernel_rfl
  a53 := Try.isAgg131
  z53 := Try.sizeOf131
  v53 := Try.zeroValue131
  t55 := by kernel_rfl
  a55 := Try.isAgg133
  z55 := Try.sizeOf133
  v55 := Try.zeroValue133
  t66 := by kernel_rfl
  a66 := Try.isAgg139
  z66 := Try.sizeOf139
  v66 := Try.zeroValue139
  t70 := by kernel_rfl
  a70 := Try.isAgg143
  z70 := Try.sizeOf143
  v70 := Try.zeroValue143
  t76 := by kernel_rfl
  a76 := Try.isAgg147
  z76 := Try.sizeOf147
  v76 := Try.zeroValue147
  t77 := by kernel_rfl
  a77 := Try.isAgg148
  z77 := Try.sizeOf148
  v77 := Try.zeroValue148 }
theorem cmp75_one (a b : Int) : F60 a b = cmpI a b := by
  unfold F60 F85
  rw [bne_self_eq_false, bne_self_eq_false]
  simp only [cond_false]
  rcases cmpI_cases a b with ⟨p, e⟩ | ⟨p, e⟩ | ⟨p, e⟩
  · rw [decide_eq_true p, e]; rfl
  · rw [decide_eq_false (by omega), decide_eq_true (show a > b from p), e]; rfl
  · rw [decide_eq_false (by omega), decide_eq_false (by omega), e]; rfl
theorem cmp75_or (l : List Int) (h : l.length ≤ 1000) : F59 l = some (orL l) := by
  apply Yields.eq
  unfold F59
  refine Yields.bind (P := fun t => (t.1 = 0 ∧ t.2 = orL l) ∨ (t.1 = 1 ∧ orL l = 0)) (Yields.loop l.length (fun (i : Nat) z => z = (i : Int) ∧ orL (l.drop i) = orL l) ⟨rfl, rfl⟩ ?_) ?_
  · rintro i z hi ⟨rfl, hd⟩
    unfold F59_s1
    refine Yields.bif (fun hc => ?_) fun hc => Yields.some (.inr ⟨rfl, ?_⟩)
    · have hc := of_decide_eq_true hc
      have hl : i < l.length := by omega
      have hy : l[i]? = some l[i] := List.getElem?_eq_getElem hl
      have dr : l.drop i = l[i] :: l.drop (i + 1) := List.drop_eq_getElem_cons hl
      have oc : ∀ (a : Int) (r : List Int), orL (a :: r) = if a = 0 then orL r else a := fun _ _ => rfl
      rw [dr, oc] at hd
      refine Yields.bindE (y := l[i]) (by unfold at?; rw [decide_eq_true (Int.natCast_nonneg i), cond_true, Int.toNat_natCast]; exact hy) (Yields.bif (fun q => Yields.some (.inl ⟨rfl, ?_⟩)) fun q => Yields.some ⟨by omega, by rw [wrap_i64] <;> omega, ?_⟩)
      · rw [if_neg (bne_iff_ne.1 q)] at hd; exact hd
      · rw [if_pos (by simpa using q)] at hd; exact hd
    · have hc := of_decide_eq_false hc
      rw [List.drop_eq_nil_of_le (by omega)] at hd
      exact hd.symm
  · rintro ⟨t, u⟩ (⟨rfl, rfl⟩ | ⟨rfl, h0⟩)
    · exact Yields.some rfl
    · exact Yields.some h0.symm
def key75 (x : Int × Int) : List Int := [x.1, x.2]
theorem cmp75_eq (x y : Int × Int) : F75 x.1 x.2 y.1 y.2 = some (cmpL (key75 x) (key75 y)) := by
  unfold F75
  rw [cmp75_or _ (by simp)]
  simp only [cmp75_one, Option.bind_some]
  congr 1
/-- slices.SortFunc by that order. -/
def F74w75 (xs : List (Int × Int)) : Option (List (Int × Int)) := bif decide (xs.length < 4611686018427387904) then some (xs.mergeSort fun x y => !(Go.Proofs.ltOf fun a b => cmpL (key75 a) (key75 b)) y x) else none
theorem F74w75_spec (l1 : List (Int × Int)) (v1 : Hd) (hi : AHeap) (h : AHeap) (hw : h.wf) (hio : Heapy h hi [⟨v1, 106, 2, List.flatMap enc106 l1⟩]) (r : List (Int × Int)) : F74w75 l1 = some r → ∃ (h' : AHeap), Heapy h h' [⟨v1, 106, 2, List.flatMap enc106 r⟩] ∧ ACalls Try.prog 74 [(sv v1), .func (.func 75) #[] #[]] hi (fun v' h'' => v' = (.tuple #[] : Value) ∧ h'' = h') := by
  unfold F74w75
  intro hr
  cases hd : decide (l1.length < 4611686018427387904) with
  | false => rw [hd] at hr; cases hr
  | true =>
    rw [hd] at hr
    obtain rfl := Option.some.inj hr
    refine sort_spec sort74_lay rfl (by decide) Try.isAgg106 Try.sizeOf106 (fun _ => rfl) (fun x v hv => ?_) (fun _ => rfl) _ (key_swo (n := 2) fun _ => rfl) (key_tot (n := 2) (fun _ => rfl) ?_) (Go.Proofs.enters_of Try.func75 (by kernel_rfl) rfl) ?_ hio (of_decide_eq_true hd)
    · unfold enc106 at hv
      simp only [List.mem_cons, List.not_mem_nil, or_false] at hv
      rcases hv with rfl | rfl <;> rfl
    · intro x y e
      unfold key75 at e
      simp only [List.cons.injEq, and_true] at e
      obtain ⟨a0, a1⟩ := x
      obtain ⟨b0, b1⟩ := y
      simp_all
    · intro x y
      obtain ⟨h2, _, c⟩ := F75_spec x.1 x.2 y.1 y.2 AHeap.none rfl _ (cmp75_eq x y)
      intro B ρ w args' H hA
      refine (c B ρ w args' H hA).mono ?_
      rintro e w' ⟨v, v', ρ', h', e1, ⟨e2, _⟩, e3, e4, e5⟩
      exact ⟨v, v', ρ', h', e1, e2, e3, e4, e5⟩

/-! 42 jacquard/schedcheck.Clashes -/
def F42_L : List Nat := [2, 3, 8, 9]
def F42_D : List (Nat × List (Nat × Nat)) := [(11, [(0, 2), (1, 2), (2, 2), (3, 2), (4, 2), (5, 2), (6, 2), (7, 2), (8, 2), (9, 0)]), (15, [(0, 2), (1, 2), (2, 2), (3, 2), (4, 2), (5, 2), (6, 2), (7, 2), (8, 2), (9, 2), (10, 2), (11, 2), (12, 2), (13, 2), (14, 2), (15, 2), (16, 2), (17, 2), (18, 2), (19, 2), (20, 1)])]
def F42_m1_0 : List Bool := [true, true, false, false, true, false, false, false, false, true, true, true, true, true, true, true, true, true, false, false, false, true, true, true, true, true, true, true, true, true, true, true, true, true, true, true, true, true, true, true, true, true, true, true, true, true, true, true, true, true, true, true, true, true, true, true, true, true, true, true, true, true, true, true, true, true, true, true, true, true, true, true, true, true, true, true, true, true, true, true, true, true, true, true, true, true, true, true, true, true, true, true, true, true, true, true, true, true, true]
def F42_s1 (x3 : Bool) (x7 : Int) (a19 : Int) (l20 : List (Int × Int)) (y24 : Int × Int)  : Option (List (Int × Int)) :=
  (bif x3 then
   (bif decide (y24.2 > x7) then
    (bif (!(okApp (l20.length + ([(a19, a19)] : List (Int × Int)).length) 16)) then none else
    some (l20 ++ ([(a19, a19)] : List (Int × Int))))
   else
    some (l20))
  else
   some (l20))
def F42_h1 (x1 : Int) (x2 : Int) (x3 : Bool) (v4 : Hd) (v5 : Hd) (l6 : List (Int × Int)) (v6 : Hd) (x7 : Int) (x8 : Int) (v9 : Hd) (v10 : Hd) (v11 : Hd) (id15 : Nat) (a19 : Int) (u20 : Hd) (y24 : Int × Int) (h26 : AHeap)  : AS := ⟨[junk, junk, .pointer (some ⟨2, 0, none⟩), .pointer (some ⟨3, 0, none⟩), junk, (sv u20), .map (some id15), .int .i64 a19, .pointer (some ⟨8, 0, none⟩), junk, junk, junk, junk, junk, junk, junk, junk, junk, (sv v6), .int .i64 (l6.length : Int), .int .i64 a19, junk, junk, junk, junk, junk, junk, junk, junk, junk, junk, junk, junk, junk, junk, junk, junk, junk, junk, junk, junk, junk, junk, junk, junk, junk, junk, junk, junk, junk, junk, junk, junk, junk, junk, junk, junk, junk, junk, junk, junk, junk, junk, junk, junk, junk, junk, junk, junk, junk, junk, junk, junk, junk, junk, junk, junk, junk, junk, junk, junk, junk, junk, junk, junk, junk, junk, junk, junk, junk, junk, junk, junk, junk, junk, junk, junk, junk, junk], [(2, [.int .i64 x1, .int .i64 x2, .bool x3, (sv v4), (sv v5), (sv v6)]), (3, [.int .i64 x7, .int .i64 x8, (sv v9), (sv v10), (sv v11)]), (8, [.int .i64 y24.1, .int .i64 y24.2])], h26⟩
theorem F42_d1 : drawsOk F42_D (codeOf Try.prog 42 [1, 1, 1, 1, 0, 1, 0, 0, 1, 1, 0, 0, 1, 1, 0]) = true := by kernel_rfl
def F42_x1_0 (h : AHeap) (x1 : Int) (x2 : Int) (x3 : Bool) (v4 : Hd) (v5 : Hd) (l6 : List (Int × Int)) (v6 : Hd) (x7 : Int) (x8 : Int) (v9 : Hd) (v10 : Hd) (v11 : Hd) (id15 : Nat) (a19 : Int) (l21 : List ((Int × Int) × List Int)) (u21 : List Hd) (y24 : Int × Int) (hx : AHeap) (w0 : Hd) (r : (List (Int × Int))) : AS := ⟨[junk, junk, .pointer (some ⟨2, 0, none⟩), .pointer (some ⟨3, 0, none⟩), junk, (sv w0), .map (some id15), .int .i64 a19, .pointer (some ⟨8, 0, none⟩), junk, junk, junk, junk, junk, junk, junk, junk, junk, (sv v6), .int .i64 (l6.length : Int), .int .i64 a19, junk, junk, junk, junk, junk, junk, junk, junk, junk, junk, junk, junk, junk, junk, junk, junk, junk, junk, junk, junk, junk, junk, junk, junk, junk, junk, junk, junk, junk, junk, junk, junk, junk, junk, junk, junk, junk, junk, junk, junk, junk, junk, junk, junk, junk, junk, junk, junk, junk, junk, junk, junk, junk, junk, junk, junk, junk, junk, junk, junk, junk, junk, junk, junk, junk, junk, junk, junk, junk, junk, junk, junk, junk, junk, junk, junk, junk, junk], [(2, [.int .i64 x1, .int .i64 x2, .bool x3, (sv v4), (sv v5), (sv v6)]), (3, [.int .i64 x7, .int .i64 x8, (sv v9), (sv v10), (sv v11)]), (8, [.int .i64 y24.1, .int .i64 y24.2])], hx⟩
def F42_i1 (h : AHeap) (x1 : Int) (x2 : Int) (x3 : Bool) (v4 : Hd) (v5 : Hd) (l6 : List (Int × Int)) (v6 : Hd) (x7 : Int) (x8 : Int) (v9 : Hd) (v10 : Hd) (v11 : Hd) (id15 : Nat) (a19 : Int) (l20 : List (Int × Int)) (u20 : Hd) (l21 : List ((Int × Int) × List Int)) (u21 : List Hd) (y24 : Int × Int) (s : Unit) (S : AS) : Prop := ∃ (h26 : AHeap), Heapy h h26 ([⟨u20, 106, 2, List.flatMap enc106 l20⟩, mrow id15 (q2 .i64) u21 l21] ++ MIn 3 1 enc3 u21 l21) ∧ S = (F42_h1 x1 x2 x3 v4 v5 l6 v6 x7 x8 v9 v10 v11 id15 a19 u20 y24 h26)
def F42_x1 (h : AHeap) (x1 : Int) (x2 : Int) (x3 : Bool) (v4 : Hd) (v5 : Hd) (l6 : List (Int × Int)) (v6 : Hd) (x7 : Int) (x8 : Int) (v9 : Hd) (v10 : Hd) (v11 : Hd) (id15 : Nat) (a19 : Int) (l21 : List ((Int × Int) × List Int)) (u21 : List Hd) (y24 : Int × Int) (r : (List (Int × Int))) (e : Exit) (S : AS) : Prop := e = .normal ∧ ∃ (hx : AHeap) (w0 : Hd), Heapy h hx ([⟨w0, 106, 2, List.flatMap enc106 r⟩, mrow id15 (q2 .i64) u21 l21] ++ MIn 3 1 enc3 u21 l21) ∧ Strict w0 ∧ S = (F42_x1_0 h x1 x2 x3 v4 v5 l6 v6 x7 x8 v9 v10 v11 id15 a19 l21 u21 y24 hx w0 r)
set_option maxRecDepth 100000 in
theorem F42_l1 (h : AHeap) (x1 : Int) (x2 : Int) (x3 : Bool) (v4 : Hd) (v5 : Hd) (l6 : List (Int × Int)) (v6 : Hd) (x7 : Int) (x8 : Int) (v9 : Hd) (v10 : Hd) (v11 : Hd) (id15 : Nat) (a19 : Int) (l20 : List (Int × Int)) (u20 : Hd) (z20 : Strict u20) (l21 : List ((Int × Int) × List Int)) (u21 : List Hd) (y24 : Int × Int) (S : AS) (hI : (F42_i1 h x1 x2 x3 v4 v5 l6 v6 x7 x8 v9 v10 v11 id15 a19 l20 u20 l21 u21 y24) () S) (r : (List (Int × Int))) : F42_s1 x3 x7 a19 l20 y24 = some r → ∃ e S', (F42_x1 h x1 x2 x3 v4 v5 l6 v6 x7 x8 v9 v10 v11 id15 a19 l21 u21 y24) r e S' ∧ AWp Try.prog (codeOf Try.prog 42 [1, 1, 1, 1, 0, 1, 0, 0, 1, 1, 0, 0, 1, 1, 0]) (Ends1 e S') S := by
  obtain ⟨h26, hp26, rfl⟩ := hI
  unfold F42_s1
  refine dec_bif (fun c27 => ?_) (fun c27 => ?_)
  · refine dec_bif (fun c28 => ?_) (fun c28 => ?_)
    · obtain ⟨v29, h29, m29, hp29, _⟩ := Heapy.build (P := Try.prog) hp26 (t := 78) (e := 106) (len := 1) (n := 2) (parts := [(0, .agg #[.int .i64 a19, .int .i64 a19])]) (cells := List.flatMap enc106 ([(a19, a19)] : List (Int × Int))) (by kernel_rfl) rfl
      refine guard_ok fun g31 => ?_
      obtain ⟨v32, h32, m32, q32, _, w32⟩ := Heapy.append hp29 (show mkInfo Try.prog 78 = some (106, 2, 16, [.int .i64 0, .int .i64 0]) by kernel_rfl) 1 (v := u20) (cells := List.flatMap enc106 l20) rfl (Y := (sv v29)) (SlE.src (enc := enc106) (c := 2) (Heapy.sle (v := v29) (xs := ([(a19, a19)] : List (Int × Int))) (enc := enc106) hp29 0 rfl (fun _ => rfl) (by decide)) (fun _ => rfl)) (flatMap_length (enc := enc106) (c := 2) (fun _ => rfl) _) (by rw [Heapy.vn (v := u20) (xs := l20) (enc := enc106) hp29 1 rfl (fun _ => rfl) (by decide)]; simpa using g31)
      have z32 : Strict v32 := w32 z20
      have hp32 : Heapy h h32 ([⟨v29, 106, 2, List.flatMap enc106 ([(a19, a19)] : List (Int × Int))⟩, ⟨v32, 106, 2, List.flatMap enc106 (l20 ++ ([(a19, a19)] : List (Int × Int)))⟩, mrow id15 (q2 .i64) u21 l21] ++ MIn 3 1 enc3 u21 l21) := by rw [← List.flatMap_append] at q32; exact q32
      intro hr
      obtain rfl := Option.some.inj hr
      refine ⟨.normal, (F42_x1_0 h x1 x2 x3 v4 v5 l6 v6 x7 x8 v9 v10 v11 id15 a19 l21 u21 y24 h32 v32 ((l20 ++ ([(a19, a19)] : List (Int × Int))) : (List (Int × Int)))), ?_, pEnd_sound good (L := F42_L) (D := F42_D) (its := [.g, .g, .g, (.w .g), (.w .g), (.w .g), (.w .g), (.w .g), (.p true), (.b true), .g, .g, .g, .g, (.mm (sv v29) h29), (.mm (sv v32) h32), .g]) (ds := F42_m1_0) (ks := []) (e := .normal) (s2 := (F42_x1_0 h x1 x2 x3 v4 v5 l6 v6 x7 x8 v9 v10 v11 id15 a19 l21 u21 y24 h32 v32 ((l20 ++ ([(a19, a19)] : List (Int × Int))) : (List (Int × Int))))) (hC := (ai m32 (ai m29 (ai c28 (ai c27 (ai (g_tt c27) (ai (g_tt c27) (ai (g_tt c27) (ai (g_tt c27) (ai (g_tt c27) trivial)))))))))) (hd := F42_d1) (h := by kernel_rfl)⟩
      exact ⟨rfl, h32, v32, (Heapy.pickN2 (A := [⟨v29, 106, 2, List.flatMap enc106 ([(a19, a19)] : List (Int × Int))⟩, ⟨v32, 106, 2, List.flatMap enc106 (l20 ++ ([(a19, a19)] : List (Int × Int)))⟩, mrow id15 (q2 .i64) u21 l21]) (N := MIn 3 1 enc3 u21 l21) hp32 3 rfl [1, 2] (by decide) rfl), z32, rfl⟩
    · intro hr
      obtain rfl := Option.some.inj hr
      refine ⟨.normal, (F42_x1_0 h x1 x2 x3 v4 v5 l6 v6 x7 x8 v9 v10 v11 id15 a19 l21 u21 y24 h26 u20 (l20 : (List (Int × Int)))), ?_, pEnd_sound good (L := F42_L) (D := F42_D) (its := [.g, .g, .g, (.w .g), (.w .g), (.w .g), (.w .g), (.w .g), (.p true), (.b false)]) (ds := F42_m1_0) (ks := []) (e := .normal) (s2 := (F42_x1_0 h x1 x2 x3 v4 v5 l6 v6 x7 x8 v9 v10 v11 id15 a19 l21 u21 y24 h26 u20 (l20 : (List (Int × Int))))) (hC := (ai c28 (ai c27 (ai (g_tt c27) (ai (g_tt c27) (ai (g_tt c27) (ai (g_tt c27) (ai (g_tt c27) trivial)))))))) (hd := F42_d1) (h := by kernel_rfl)⟩
      exact ⟨rfl, h26, u20, (Heapy.pickN2 (A := [⟨u20, 106, 2, List.flatMap enc106 l20⟩, mrow id15 (q2 .i64) u21 l21]) (N := MIn 3 1 enc3 u21 l21) hp26 2 rfl [0, 1] (by decide) rfl), z20, rfl⟩
  · intro hr
    obtain rfl := Option.some.inj hr
    refine ⟨.normal, (F42_x1_0 h x1 x2 x3 v4 v5 l6 v6 x7 x8 v9 v10 v11 id15 a19 l21 u21 y24 h26 u20 (l20 : (List (Int × Int)))), ?_, pEnd_sound good (L := F42_L) (D := F42_D) (its := [.g, .g, .g, .n, .n, .n, .n, .n, (.p false), (.b false)]) (ds := F42_m1_0) (ks := []) (e := .normal) (s2 := (F42_x1_0 h x1 x2 x3 v4 v5 l6 v6 x7 x8 v9 v10 v11 id15 a19 l21 u21 y24 h26 u20 (l20 : (List (Int × Int))))) (hC := (ai l_f (ai c27 (ai (g_ft c27) (ai (g_ft c27) (ai (g_ft c27) (ai (g_ft c27) (ai (g_ft c27) trivial)))))))) (hd := F42_d1) (h := by kernel_rfl)⟩
    exact ⟨rfl, h26, u20, (Heapy.pickN2 (A := [⟨u20, 106, 2, List.flatMap enc106 l20⟩, mrow id15 (q2 .i64) u21 l21]) (N := MIn 3 1 enc3 u21 l21) hp26 2 rfl [0, 1] (by decide) rfl), z20, rfl⟩
def F42_m2_1 : List Bool := [true, true, false, false, true, false, false, false, true, false, true, true, true, true, true, true, true, true, false, false, false, true, true, true, true, true, true, true, true, true, true, true, true, true, true, true, true, true, true, true, true, true, true, true, true, true, true, true, true, true, true, true, true, true, true, true, true, true, true, true, true, true, true, true, true, true, true, true, true, true, true, true, true, true, true, true, true, true, true, true, true, true, true, true, true, true, true, true, true, true, true, true, true, true, true, true, true, true, true]
def F42_m2_0 : List Bool := [true, true, false, false, true, false, false, false, false, false, true, true, true, true, true, true, true, true, false, false, false, true, true, true, true, true, true, true, true, true, true, true, true, true, true, true, true, true, true, true, true, true, true, true, true, true, true, true, true, true, true, true, true, false, false, false, true, true, true, true, true, true, true, true, true, true, true, true, true, true, true, true, true, true, true, true, true, true, true, true, true, true, true, true, true, true, true, true, true, true, true, true, true, true, true, true, true, true, true]
def F42_s2 (l6 : List (Int × Int)) (x7 : Int) (l9 : List Int) (a19 : Int) (l21 : List ((Int × Int) × List Int)) (y24 : Int × Int) (y36 : Int) (a37 : Int) (l38 : List (Int × Int)) : Option ((Int × (List (Int × Int))) ⊕ (List (Int × Int))) :=
  (bif decide (a37 < ((mgetL (y24.1, y36) l21).length : Int)) then
   (Option.bind (at? (mgetL (y24.1, y36) l21) a37) fun y41 =>
   (Option.bind (at? l9 y41) fun y42 =>
   (Option.bind (at? l6 y41) fun y43 =>
   (Option.bind (at? l9 a19) fun y44 =>
   (bif (F73 x7 y42 y43.2 y44 y24.2) then
    (bif (!(okApp (l38.length + ([(y41, a19)] : List (Int × Int)).length) 16)) then none else
    some (.inl ((IntKind.i64.wrap (a37 + 1)), (l38 ++ ([(y41, a19)] : List (Int × Int))))))
   else
    some (.inl ((IntKind.i64.wrap (a37 + 1)), l38)))))))
  else
   some (.inr l38))
def F42_h2 (x1 : Int) (x2 : Int) (x3 : Bool) (v4 : Hd) (v5 : Hd) (l6 : List (Int × Int)) (v6 : Hd) (x7 : Int) (x8 : Int) (v9 : Hd) (v10 : Hd) (v11 : Hd) (id15 : Nat) (a19 : Int) (l21 : List ((Int × Int) × List Int)) (u21 : List Hd) (y24 : Int × Int) (y36 : Int) (h39 : AHeap) (u38 : Hd) (a37 : Int) (l38 : List (Int × Int)) : AS := ⟨[junk, junk, .pointer (some ⟨2, 0, none⟩), .pointer (some ⟨3, 0, none⟩), junk, (sv u38), .map (some id15), .int .i64 a19, .pointer (some ⟨8, 0, none⟩), .pointer (some ⟨9, 0, none⟩), junk, junk, junk, junk, junk, junk, junk, junk, (sv v6), .int .i64 (l6.length : Int), .int .i64 a19, junk, junk, junk, junk, junk, junk, junk, junk, junk, junk, junk, junk, junk, junk, junk, junk, junk, junk, junk, junk, junk, junk, junk, junk, junk, junk, junk, junk, junk, junk, junk, junk, (sv (hlook (y24.1, y36) u21 l21)), .int .i64 ((mgetL (y24.1, y36) l21).length : Int), .int .i64 a37, junk, junk, junk, junk, junk, junk, junk, junk, junk, junk, junk, junk, junk, junk, junk, junk, junk, junk, junk, junk, junk, junk, junk, junk, junk, junk, junk, junk, junk, junk, junk, junk, junk, junk, junk, junk, junk, junk, junk, junk, junk, junk, junk], [(2, [.int .i64 x1, .int .i64 x2, .bool x3, (sv v4), (sv v5), (sv v6)]), (3, [.int .i64 x7, .int .i64 x8, (sv v9), (sv v10), (sv v11)]), (8, [.int .i64 y24.1, .int .i64 y24.2]), (9, [.int .i64 y24.1, .int .i64 y36])], h39⟩
theorem F42_d2 : drawsOk F42_D (codeOf Try.prog 42 [1, 1, 1, 1, 0, 1, 0, 0, 1, 1, 0, 0, 1, 1, 1, 1, 0, 1, 0, 0]) = true := by kernel_rfl
def F42_x2_0 (h : AHeap) (x1 : Int) (x2 : Int) (x3 : Bool) (v4 : Hd) (v5 : Hd) (l6 : List (Int × Int)) (v6 : Hd) (x7 : Int) (x8 : Int) (v9 : Hd) (v10 : Hd) (v11 : Hd) (id15 : Nat) (a19 : Int) (l21 : List ((Int × Int) × List Int)) (u21 : List Hd) (y24 : Int × Int) (y36 : Int) (hx : AHeap) (w0 : Hd) (r : (List (Int × Int))) : AS := ⟨[junk, junk, .pointer (some ⟨2, 0, none⟩), .pointer (some ⟨3, 0, none⟩), junk, (sv w0), .map (some id15), .int .i64 a19, junk, .pointer (some ⟨9, 0, none⟩), junk, junk, junk, junk, junk, junk, junk, junk, (sv v6), .int .i64 (l6.length : Int), .int .i64 a19, junk, junk, junk, junk, junk, junk, junk, junk, junk, junk, junk, junk, junk, junk, junk, junk, junk, junk, junk, junk, junk, junk, junk, junk, junk, junk, junk, junk, junk, junk, junk, junk, junk, junk, junk, junk, junk, junk, junk, junk, junk, junk, junk, junk, junk, junk, junk, junk, junk, junk, junk, junk, junk, junk, junk, junk, junk, junk, junk, junk, junk, junk, junk, junk, junk, junk, junk, junk, junk, junk, junk, junk, junk, junk, junk, junk, junk, junk], [(2, [.int .i64 x1, .int .i64 x2, .bool x3, (sv v4), (sv v5), (sv v6)]), (3, [.int .i64 x7, .int .i64 x8, (sv v9), (sv v10), (sv v11)]), (9, [.int .i64 y24.1, .int .i64 y36])], hx⟩
def F42_i2 (h : AHeap) (x1 : Int) (x2 : Int) (x3 : Bool) (v4 : Hd) (v5 : Hd) (l6 : List (Int × Int)) (v6 : Hd) (x7 : Int) (x8 : Int) (v9 : Hd) (v10 : Hd) (v11 : Hd) (id15 : Nat) (a19 : Int) (l21 : List ((Int × Int) × List Int)) (u21 : List Hd) (y24 : Int × Int) (y36 : Int) (s : Int × (List (Int × Int))) (S : AS) : Prop := ∃ (h39 : AHeap) (u38 : Hd), Heapy h h39 ([⟨u38, 106, 2, List.flatMap enc106 s.2⟩, mrow id15 (q2 .i64) u21 l21] ++ MIn 3 1 enc3 u21 l21) ∧ Strict u38 ∧ S = (F42_h2 x1 x2 x3 v4 v5 l6 v6 x7 x8 v9 v10 v11 id15 a19 l21 u21 y24 y36 h39 u38 s.1 s.2)
def F42_x2 (h : AHeap) (x1 : Int) (x2 : Int) (x3 : Bool) (v4 : Hd) (v5 : Hd) (l6 : List (Int × Int)) (v6 : Hd) (x7 : Int) (x8 : Int) (v9 : Hd) (v10 : Hd) (v11 : Hd) (id15 : Nat) (a19 : Int) (l21 : List ((Int × Int) × List Int)) (u21 : List Hd) (y24 : Int × Int) (y36 : Int) (r : (List (Int × Int))) (e : Exit) (S : AS) : Prop := e = (.exit 2) ∧ ∃ (hx : AHeap) (w0 : Hd), Heapy h hx ([⟨w0, 106, 2, List.flatMap enc106 r⟩, mrow id15 (q2 .i64) u21 l21] ++ MIn 3 1 enc3 u21 l21) ∧ Strict w0 ∧ S = (F42_x2_0 h x1 x2 x3 v4 v5 l6 v6 x7 x8 v9 v10 v11 id15 a19 l21 u21 y24 y36 hx w0 r)
set_option maxRecDepth 100000 in
theorem F42_r2 (h : AHeap) (x1 : Int) (x2 : Int) (x3 : Bool) (v4 : Hd) (v5 : Hd) (l6 : List (Int × Int)) (v6 : Hd) (hv6 : SlE E35 2 h (sv v6) l6) (x7 : Int) (x8 : Int) (l9 : List Int) (v9 : Hd) (hv9 : SlE E3 1 h (sv v9) l9) (v10 : Hd) (v11 : Hd) (id15 : Nat) (a19 : Int) (l21 : List ((Int × Int) × List Int)) (u21 : List Hd) (y24 : Int × Int) (y36 : Int) (a37 : Int) (l38 : List (Int × Int)) (S : AS) (hI : (F42_i2 h x1 x2 x3 v4 v5 l6 v6 x7 x8 v9 v10 v11 id15 a19 l21 u21 y24 y36) (a37, l38) S) (o : (Int × (List (Int × Int))) ⊕ (List (Int × Int))) : F42_s2 l6 x7 l9 a19 l21 y24 y36 a37 l38 = some o → Rd Try.prog (codeOf Try.prog 42 [1, 1, 1, 1, 0, 1, 0, 0, 1, 1, 0, 0, 1, 1, 1, 1, 0, 1, 0, 0]) (F42_i2 h x1 x2 x3 v4 v5 l6 v6 x7 x8 v9 v10 v11 id15 a19 l21 u21 y24 y36) (F42_x2 h x1 x2 x3 v4 v5 l6 v6 x7 x8 v9 v10 v11 id15 a19 l21 u21 y24 y36) S o := by
  obtain ⟨h39, u38, hp39, z38, rfl⟩ := hI
  unfold F42_s2
  refine dec_bif (fun c40 => ?_) (fun c40 => ?_)
  · refine bind_opt fun y41 e41 => ?_
    obtain ⟨id41, off41, g41, cs41, ix41, at41, rfl⟩ := SlE.at (Heapy.mnsle (A := [⟨u38, 106, 2, List.flatMap enc106 l38⟩, mrow id15 (q2 .i64) u21 l21]) (el := 3) (c := 1) (enc := enc3) (hs := u21) (xs := l21) hp39 (y24.1, y36) (fun _ => rfl) (by decide)) e41
    refine bind_opt fun y42 e42 => ?_
    obtain ⟨id42, off42, g42, cs42, ix42, at42, rfl⟩ := SlE.at hv9 e42
    refine bind_opt fun y43 e43 => ?_
    obtain ⟨id43, off43, g43, cs43, ix43, at43, rfl⟩ := SlE.at hv6 e43
    refine bind_opt fun y44 e44 => ?_
    obtain ⟨id44, off44, g44, cs44, ix44, at44, rfl⟩ := SlE.at hv9 e44
    refine dec_bif (fun c46 => ?_) (fun c46 => ?_)
    · obtain ⟨v47, h47, m47, hp47, _⟩ := Heapy.build (P := Try.prog) hp39 (t := 78) (e := 106) (len := 1) (n := 2) (parts := [(0, .agg #[.int .i64 y41, .int .i64 a19])]) (cells := List.flatMap enc106 ([(y41, a19)] : List (Int × Int))) (by kernel_rfl) rfl
      refine guard_ok fun g49 => ?_
      obtain ⟨v50, h50, m50, q50, _, w50⟩ := Heapy.append hp47 (show mkInfo Try.prog 78 = some (106, 2, 16, [.int .i64 0, .int .i64 0]) by kernel_rfl) 1 (v := u38) (cells := List.flatMap enc106 l38) rfl (Y := (sv v47)) (SlE.src (enc := enc106) (c := 2) (Heapy.sle (v := v47) (xs := ([(y41, a19)] : List (Int × Int))) (enc := enc106) hp47 0 rfl (fun _ => rfl) (by decide)) (fun _ => rfl)) (flatMap_length (enc := enc106) (c := 2) (fun _ => rfl) _) (by rw [Heapy.vn (v := u38) (xs := l38) (enc := enc106) hp47 1 rfl (fun _ => rfl) (by decide)]; simpa using g49)
      have z50 : Strict v50 := w50 z38
      have hp50 : Heapy h h50 ([⟨v47, 106, 2, List.flatMap enc106 ([(y41, a19)] : List (Int × Int))⟩, ⟨v50, 106, 2, List.flatMap enc106 (l38 ++ ([(y41, a19)] : List (Int × Int)))⟩, mrow id15 (q2 .i64) u21 l21] ++ MIn 3 1 enc3 u21 l21) := by rw [← List.flatMap_append] at q50; exact q50
      intro hr
      obtain rfl := Option.some.inj hr
      exact ⟨(F42_h2 x1 x2 x3 v4 v5 l6 v6 x7 x8 v9 v10 v11 id15 a19 l21 u21 y24 y36 h50 v50 (IntKind.i64.wrap (a37 + 1)) (l38 ++ ([(y41, a19)] : List (Int × Int)))), ⟨h50, v50, (Heapy.pickN2 (A := [⟨v47, 106, 2, List.flatMap enc106 ([(y41, a19)] : List (Int × Int))⟩, ⟨v50, 106, 2, List.flatMap enc106 (l38 ++ ([(y41, a19)] : List (Int × Int)))⟩, mrow id15 (q2 .i64) u21 l21]) (N := MIn 3 1 enc3 u21 l21) hp50 3 rfl [1, 2] (by decide) rfl), z50, rfl⟩, pEnd_sound good (L := F42_L) (D := F42_D) (its := [.g, (.b true), (.ix id41 off41 g41), (.ld (.int .i64 y41)), .g, .g, .g, .g, .g, .g, (.ix id42 off42 g42), (.ld (.int .i64 y42)), .g, .g, .g, (.ix id43 off43 g43), .g, (.ld (.int .i64 y43.2)), .g, .g, .g, (.ix id44 off44 g44), (.ld (.int .i64 y44)), .g, .g, (.c (.bool (F73 x7 y42 y43.2 y44 y24.2)) h39), (.b true), .g, .g, .g, .g, (.mm (sv v47) h47), (.mm (sv v50) h50), .g, .g, .g]) (ds := F42_m2_0) (ks := []) (e := .normal) (s2 := (F42_h2 x1 x2 x3 v4 v5 l6 v6 x7 x8 v9 v10 v11 id15 a19 l21 u21 y24 y36 h50 v50 (IntKind.i64.wrap (a37 + 1)) (l38 ++ ([(y41, a19)] : List (Int × Int))))) (hC := (ai m50 (ai m47 (ai c46 (ai (show AKeep h39 h39 from (AHeap.sub_refl h39)) (ai (F73_spec x7 y42 y43.2 y44 y24.2 h39 _ rfl) (ai (At.one (P := Try.prog) (t := 3) (v := .int .i64 y44) (At.mono (Heapy.sub hp39) at44) (by kernel_rfl) 0 rfl rfl) (ai ix44 (ai (At.one (P := Try.prog) (t := 3) (v := .int .i64 y43.2) (At.mono (Heapy.sub hp39) at43) (by kernel_rfl) 1 rfl rfl) (ai ix43 (ai (At.one (P := Try.prog) (t := 3) (v := .int .i64 y42) (At.mono (Heapy.sub hp39) at42) (by kernel_rfl) 0 rfl rfl) (ai ix42 (ai (At.one (P := Try.prog) (t := 3) (v := .int .i64 y41) at41 (by kernel_rfl) 0 rfl rfl) (ai ix41 (ai c40 trivial))))))))))))))) (hd := F42_d2) (h := by kernel_rfl)⟩
    · intro hr
      obtain rfl := Option.some.inj hr
      exact ⟨(F42_h2 x1 x2 x3 v4 v5 l6 v6 x7 x8 v9 v10 v11 id15 a19 l21 u21 y24 y36 h39 u38 (IntKind.i64.wrap (a37 + 1)) l38), ⟨h39, u38, (Heapy.pickN2 (A := [⟨u38, 106, 2, List.flatMap enc106 l38⟩, mrow id15 (q2 .i64) u21 l21]) (N := MIn 3 1 enc3 u21 l21) hp39 2 rfl [0, 1] (by decide) rfl), z38, rfl⟩, pEnd_sound good (L := F42_L) (D := F42_D) (its := [.g, (.b true), (.ix id41 off41 g41), (.ld (.int .i64 y41)), .g, .g, .g, .g, .g, .g, (.ix id42 off42 g42), (.ld (.int .i64 y42)), .g, .g, .g, (.ix id43 off43 g43), .g, (.ld (.int .i64 y43.2)), .g, .g, .g, (.ix id44 off44 g44), (.ld (.int .i64 y44)), .g, .g, (.c (.bool (F73 x7 y42 y43.2 y44 y24.2)) h39), (.b false), .g, .g]) (ds := F42_m2_0) (ks := []) (e := .normal) (s2 := (F42_h2 x1 x2 x3 v4 v5 l6 v6 x7 x8 v9 v10 v11 id15 a19 l21 u21 y24 y36 h39 u38 (IntKind.i64.wrap (a37 + 1)) l38)) (hC := (ai c46 (ai (show AKeep h39 h39 from (AHeap.sub_refl h39)) (ai (F73_spec x7 y42 y43.2 y44 y24.2 h39 _ rfl) (ai (At.one (P := Try.prog) (t := 3) (v := .int .i64 y44) (At.mono (Heapy.sub hp39) at44) (by kernel_rfl) 0 rfl rfl) (ai ix44 (ai (At.one (P := Try.prog) (t := 3) (v := .int .i64 y43.2) (At.mono (Heapy.sub hp39) at43) (by kernel_rfl) 1 rfl rfl) (ai ix43 (ai (At.one (P := Try.prog) (t := 3) (v := .int .i64 y42) (At.mono (Heapy.sub hp39) at42) (by kernel_rfl) 0 rfl rfl) (ai ix42 (ai (At.one (P := Try.prog) (t := 3) (v := .int .i64 y41) at41 (by kernel_rfl) 0 rfl rfl) (ai ix41 (ai c40 trivial))))))))))))) (hd := F42_d2) (h := by kernel_rfl)⟩
  · intro hr
    obtain rfl := Option.some.inj hr
    refine ⟨(.exit 2), (F42_x2_0 h x1 x2 x3 v4 v5 l6 v6 x7 x8 v9 v10 v11 id15 a19 l21 u21 y24 y36 h39 u38 (l38 : (List (Int × Int)))), (by intro hh; cases hh), ?_, pEnd_sound good (L := F42_L) (D := F42_D) (its := [.g, (.b false)]) (ds := F42_m2_1) (ks := [8]) (e := (.exit 2)) (s2 := (F42_x2_0 h x1 x2 x3 v4 v5 l6 v6 x7 x8 v9 v10 v11 id15 a19 l21 u21 y24 y36 h39 u38 (l38 : (List (Int × Int))))) (hC := (ai c40 trivial)) (hd := F42_d2) (h := by kernel_rfl)⟩
    exact ⟨rfl, h39, u38, (Heapy.pickN2 (A := [⟨u38, 106, 2, List.flatMap enc106 l38⟩, mrow id15 (q2 .i64) u21 l21]) (N := MIn 3 1 enc3 u21 l21) hp39 2 rfl [0, 1] (by decide) rfl), z38, rfl⟩
theorem F42_l2 (h : AHeap) (x1 : Int) (x2 : Int) (x3 : Bool) (v4 : Hd) (v5 : Hd) (l6 : List (Int × Int)) (v6 : Hd) (hv6 : SlE E35 2 h (sv v6) l6) (x7 : Int) (x8 : Int) (l9 : List Int) (v9 : Hd) (hv9 : SlE E3 1 h (sv v9) l9) (v10 : Hd) (v11 : Hd) (id15 : Nat) (a19 : Int) (l21 : List ((Int × Int) × List Int)) (u21 : List Hd) (y24 : Int × Int) (y36 : Int) (x : Int × (List (Int × Int))) (r : (List (Int × Int))) (hl : loopO (fun (s : Int × (List (Int × Int))) => F42_s2 l6 x7 l9 a19 l21 y24 y36 s.1 s.2) x = some r) (S : AS) (hI : (F42_i2 h x1 x2 x3 v4 v5 l6 v6 x7 x8 v9 v10 v11 id15 a19 l21 u21 y24 y36) x S) : ∃ e S', (F42_x2 h x1 x2 x3 v4 v5 l6 v6 x7 x8 v9 v10 v11 id15 a19 l21 u21 y24 y36) r e S' ∧ AWp Try.prog (.loop (codeOf Try.prog 42 [1, 1, 1, 1, 0, 1, 0, 0, 1, 1, 0, 0, 1, 1, 1, 1, 0, 1, 0, 0])) (Ends1 e S') S :=
  loop_rel (fun x S hI => F42_r2 h x1 x2 x3 v4 v5 l6 v6 hv6 x7 x8 l9 v9 hv9 v10 v11 id15 a19 l21 u21 y24 y36 x.1 x.2 S hI) hl hI
def F42_m3_1 : List Bool := [true, true, true, true, true, false, true, true, true, true, true, true, true, true, true, true, true, true, true, true, true, true, true, true, true, true, true, true, true, true, true, true, true, true, true, true, true, true, true, true, true, true, true, true, true, true, true, true, true, true, true, true, true, true, true, true, true, true, true, true, true, true, true, true, true, true, true, true, true, true, true, true, true, true, true, true, true, true, true, true, true, true, true, true, true, true, true, true, true, true, true, true, true, true, true, true, true, true, true]
def F42_m3_0 : List Bool := [true, true, false, false, true, false, false, true, true, true, true, true, true, true, true, true, true, true, false, false, false, true, true, true, true, true, true, true, true, true, true, true, true, true, true, true, true, true, true, true, true, true, true, true, true, true, true, true, true, true, true, true, true, true, true, true, true, true, true, true, true, true, true, true, true, true, true, true, true, true, true, true, true, true, true, true, true, true, true, true, true, true, true, true, true, true, true, true, true, true, true, true, true, true, true, true, true, true, true]
def F42_s3 (x3 : Bool) (l6 : List (Int × Int)) (x7 : Int) (l9 : List Int) (l11 : List Int) (a19 : Int) (l20 : List (Int × Int)) (l21 : List ((Int × Int) × List Int)) : Option ((Int × (List (Int × Int)) × (List ((Int × Int) × List Int))) ⊕ (List (Int × Int))) :=
  (bif decide (a19 < (l6.length : Int)) then
   (Option.bind (at? l6 a19) fun y24 =>
   (bif decide (y24.1 < 0) then
    some (.inl ((IntKind.i64.wrap (a19 + 1)), l20, l21))
   else
    (Option.bind (F42_s1 x3 x7 a19 l20 y24) fun y34 =>
    (Option.bind (at? l11 a19) fun y36 =>
    (Option.bind (loopO (fun (s : Int × (List (Int × Int))) => F42_s2 l6 x7 l9 a19 l21 y24 y36 s.1 s.2) (0, y34)) fun y52 =>
    (bif (!(okApp ((mgetL (y24.1, y36) (mens (y24.1, y36) l21)).length + ([a19] : List Int).length) 8)) then none else
    some (.inl ((IntKind.i64.wrap (a19 + 1)), y52, (mappL (y24.1, y36) ([a19] : List Int) l21)))))))))
  else
   some (.inr l20))
def F42_h3 (x1 : Int) (x2 : Int) (x3 : Bool) (v4 : Hd) (v5 : Hd) (l6 : List (Int × Int)) (v6 : Hd) (x7 : Int) (x8 : Int) (v9 : Hd) (v10 : Hd) (v11 : Hd) (id15 : Nat) (h22 : AHeap) (u20 : Hd) (u21 : List Hd) (a19 : Int) (l20 : List (Int × Int)) (l21 : List ((Int × Int) × List Int)) : AS := ⟨[junk, junk, .pointer (some ⟨2, 0, none⟩), .pointer (some ⟨3, 0, none⟩), junk, (sv u20), .map (some id15), junk, junk, junk, junk, junk, junk, junk, junk, junk, junk, junk, (sv v6), .int .i64 (l6.length : Int), .int .i64 a19, junk, junk, junk, junk, junk, junk, junk, junk, junk, junk, junk, junk, junk, junk, junk, junk, junk, junk, junk, junk, junk, junk, junk, junk, junk, junk, junk, junk, junk, junk, junk, junk, junk, junk, junk, junk, junk, junk, junk, junk, junk, junk, junk, junk, junk, junk, junk, junk, junk, junk, junk, junk, junk, junk, junk, junk, junk, junk, junk, junk, junk, junk, junk, junk, junk, junk, junk, junk, junk, junk, junk, junk, junk, junk, junk, junk, junk, junk], [(2, [.int .i64 x1, .int .i64 x2, .bool x3, (sv v4), (sv v5), (sv v6)]), (3, [.int .i64 x7, .int .i64 x8, (sv v9), (sv v10), (sv v11)])], h22⟩
theorem F42_d3 : drawsOk F42_D (codeOf Try.prog 42 [1, 1, 1, 1, 0, 1, 0, 0]) = true := by kernel_rfl
def F42_x3_0 (h : AHeap) (hx : AHeap) (w0 : Hd) (r : (List (Int × Int))) : AS := ⟨[junk, junk, junk, junk, junk, (sv w0), junk, junk, junk, junk, junk, junk, junk, junk, junk, junk, junk, junk, junk, junk, junk, junk, junk, junk, junk, junk, junk, junk, junk, junk, junk, junk, junk, junk, junk, junk, junk, junk, junk, junk, junk, junk, junk, junk, junk, junk, junk, junk, junk, junk, junk, junk, junk, junk, junk, junk, junk, junk, junk, junk, junk, junk, junk, junk, junk, junk, junk, junk, junk, junk, junk, junk, junk, junk, junk, junk, junk, junk, junk, junk, junk, junk, junk, junk, junk, junk, junk, junk, junk, junk, junk, junk, junk, junk, junk, junk, junk, junk, junk], [], hx⟩
def F42_i3 (h : AHeap) (x1 : Int) (x2 : Int) (x3 : Bool) (v4 : Hd) (v5 : Hd) (l6 : List (Int × Int)) (v6 : Hd) (x7 : Int) (x8 : Int) (v9 : Hd) (v10 : Hd) (v11 : Hd) (id15 : Nat) (s : Int × (List (Int × Int)) × (List ((Int × Int) × List Int))) (S : AS) : Prop := ∃ (h22 : AHeap) (u20 : Hd) (u21 : List Hd), Heapy h h22 ([⟨u20, 106, 2, List.flatMap enc106 s.2.1⟩, mrow id15 (q2 .i64) u21 s.2.2] ++ MIn 3 1 enc3 u21 s.2.2) ∧ Strict u20 ∧ S = (F42_h3 x1 x2 x3 v4 v5 l6 v6 x7 x8 v9 v10 v11 id15 h22 u20 u21 s.1 s.2.1 s.2.2)
def F42_x3 (h : AHeap) (r : (List (Int × Int))) (e : Exit) (S : AS) : Prop := e = (.exit 0) ∧ ∃ (hx : AHeap) (w0 : Hd), Heapy h hx [⟨w0, 106, 2, List.flatMap enc106 r⟩] ∧ Strict w0 ∧ S = (F42_x3_0 h hx w0 r)
set_option maxRecDepth 100000 in
theorem F42_r3 (h : AHeap) (x1 : Int) (x2 : Int) (x3 : Bool) (v4 : Hd) (v5 : Hd) (l6 : List (Int × Int)) (v6 : Hd) (hv6 : SlE E35 2 h (sv v6) l6) (x7 : Int) (x8 : Int) (l9 : List Int) (v9 : Hd) (hv9 : SlE E3 1 h (sv v9) l9) (v10 : Hd) (l11 : List Int) (v11 : Hd) (hv11 : SlE E3 1 h (sv v11) l11) (id15 : Nat) (a19 : Int) (l20 : List (Int × Int)) (l21 : List ((Int × Int) × List Int)) (S : AS) (hI : (F42_i3 h x1 x2 x3 v4 v5 l6 v6 x7 x8 v9 v10 v11 id15) (a19, l20, l21) S) (o : (Int × (List (Int × Int)) × (List ((Int × Int) × List Int))) ⊕ (List (Int × Int))) : F42_s3 x3 l6 x7 l9 l11 a19 l20 l21 = some o → Rd Try.prog (codeOf Try.prog 42 [1, 1, 1, 1, 0, 1, 0, 0]) (F42_i3 h x1 x2 x3 v4 v5 l6 v6 x7 x8 v9 v10 v11 id15) (F42_x3 h) S o := by
  obtain ⟨h22, u20, u21, hp22, z20, rfl⟩ := hI
  unfold F42_s3
  refine dec_bif (fun c23 => ?_) (fun c23 => ?_)
  · refine bind_opt fun y24 e24 => ?_
    obtain ⟨id24, off24, g24, cs24, ix24, at24, rfl⟩ := SlE.at hv6 e24
    refine dec_bif (fun c25 => ?_) (fun c25 => ?_)
    · intro hr
      obtain rfl := Option.some.inj hr
      exact ⟨(F42_h3 x1 x2 x3 v4 v5 l6 v6 x7 x8 v9 v10 v11 id15 h22 u20 u21 (IntKind.i64.wrap (a19 + 1)) l20 l21), ⟨h22, u20, u21, (Heapy.pickN2 (A := [⟨u20, 106, 2, List.flatMap enc106 l20⟩, mrow id15 (q2 .i64) u21 l21]) (N := MIn 3 1 enc3 u21 l21) hp22 2 rfl [0, 1] (by decide) rfl), z20, rfl⟩, pEnd_sound good (L := F42_L) (D := F42_D) (its := [.g, (.b true), .g, (.ix id24 off24 g24), (.ld (.agg #[.int .i64 y24.1, .int .i64 y24.2])), .g, .g, .g, .g, .g, .g, (.b true), .g, .g]) (ds := F42_m3_0) (ks := [8]) (e := .normal) (s2 := (F42_h3 x1 x2 x3 v4 v5 l6 v6 x7 x8 v9 v10 v11 id15 h22 u20 u21 (IntKind.i64.wrap (a19 + 1)) l20 l21)) (hC := (ai c25 (ai (At.agg (P := Try.prog) (t := 35) (v := .agg #[.int .i64 y24.1, .int .i64 y24.2]) (m := 2) (At.mono (Heapy.sub hp22) at24) (by kernel_rfl) (by kernel_rfl) 0 (by kernel_rfl) rfl) (ai ix24 (ai c23 trivial))))) (hd := F42_d3) (h := by kernel_rfl)⟩
    · refine bind_opt fun y34 e34 => ?_
      obtain ⟨ee34, SS34, hX34, hA34⟩ := F42_l1 h x1 x2 x3 v4 v5 l6 v6 x7 x8 v9 v10 v11 id15 a19 l20 u20 z20 l21 u21 y24 (F42_h1 x1 x2 x3 v4 v5 l6 v6 x7 x8 v9 v10 v11 id15 a19 u20 y24 h22) ⟨h22, (Heapy.pickN2 (A := [⟨u20, 106, 2, List.flatMap enc106 l20⟩, mrow id15 (q2 .i64) u21 l21]) (N := MIn 3 1 enc3 u21 l21) hp22 2 rfl [0, 1] (by decide) rfl), rfl⟩ y34 e34
      obtain ⟨rfl, h35, w0_35, hp35, zw0_35, rfl⟩ := hX34
      refine bind_opt fun y36 e36 => ?_
      obtain ⟨id36, off36, g36, cs36, ix36, at36, rfl⟩ := SlE.at hv11 e36
      refine bind_opt fun y52 e52 => ?_
      obtain ⟨ee52, SS52, hX52, hA52⟩ := F42_l2 h x1 x2 x3 v4 v5 l6 v6 hv6 x7 x8 l9 v9 hv9 v10 v11 id15 a19 l21 u21 y24 y36 (0, y34) y52 e52 (F42_h2 x1 x2 x3 v4 v5 l6 v6 x7 x8 v9 v10 v11 id15 a19 l21 u21 y24 y36 h35 w0_35 0 y34) ⟨h35, w0_35, (Heapy.pickN2 (A := [⟨w0_35, 106, 2, List.flatMap enc106 y34⟩, mrow id15 (q2 .i64) u21 l21]) (N := MIn 3 1 enc3 u21 l21) hp35 2 rfl [0, 1] (by decide) rfl), zw0_35, rfl⟩
      obtain ⟨rfl, h53, w0_53, hp53, zw0_53, rfl⟩ := hX52
      obtain ⟨v54, h54, m54, hp54, _⟩ := Heapy.build (P := Try.prog) hp53 (t := 27) (e := 3) (len := 1) (n := 1) (parts := [(0, .int .i64 a19)]) (cells := List.flatMap enc3 ([a19] : List Int)) (by kernel_rfl) rfl
      obtain ⟨h56, m56, hp56⟩ := Heapy.mnent (P := Try.prog) (A := [⟨v54, 3, 1, List.flatMap enc3 ([a19] : List Int)⟩, ⟨w0_53, 106, 2, List.flatMap enc106 y52⟩, mrow id15 (q2 .i64) u21 l21]) (el := 3) (c := 1) (enc := enc3) (hs := u21) (xs := l21) (q := q2 .i64) hp54 2 (show 2 < 3 by decide) (id := id15) rfl (t := 105) (kt := 106) (et := 27) (kd := .array 2 3) (by kernel_rfl) (by kernel_rfl) (by kernel_rfl) (y24.1, y36) rfl (by kernel_rfl) (fun b => q2_eq (fun _ _ => by kernel_rfl) _ b) (q2_bits _)
      refine guard_ok fun g57 => ?_
      obtain ⟨v58, h58, h58b, m58, m58b, q58⟩ := Heapy.mnapp (P := Try.prog) (A := [⟨v54, 3, 1, List.flatMap enc3 ([a19] : List Int)⟩, ⟨w0_53, 106, 2, List.flatMap enc106 y52⟩, mrow id15 (q2 .i64) (hens (y24.1, y36) u21 l21) (mens (y24.1, y36) l21)]) (el := 3) (c := 1) (enc := enc3) (hs := (hens (y24.1, y36) u21 l21)) (xs := (mens (y24.1, y36) l21)) (q := q2 .i64) hp56 2 (show 2 < 3 by decide) (id := id15) rfl (y24.1, y36) (by rw [midx_mens]; exact mens_len _) (show mkInfo Try.prog 27 = some (3, 1, 8, [.int .i64 0]) by kernel_rfl) (Y := (sv v54)) (SlE.src (enc := enc3) (c := 1) (Heapy.sle (v := v54) (xs := ([a19] : List Int)) (enc := enc3) hp56 0 rfl (fun _ => rfl) (by decide)) (fun _ => rfl)) (fun _ => rfl) (by decide) (by simpa using g57)
      have hp58 : Heapy h h58b ([⟨v54, 3, 1, List.flatMap enc3 ([a19] : List Int)⟩, ⟨w0_53, 106, 2, List.flatMap enc106 y52⟩, mrow id15 (q2 .i64) ((hens (y24.1, y36) u21 l21).set (midx (y24.1, y36) (mens (y24.1, y36) l21)) v58) (mappL (y24.1, y36) ([a19] : List Int) l21)] ++ MIn 3 1 enc3 ((hens (y24.1, y36) u21 l21).set (midx (y24.1, y36) (mens (y24.1, y36) l21)) v58) (mappL (y24.1, y36) ([a19] : List Int) l21)) := by rw [mappL_mens] at q58; exact q58
      intro hr
      obtain rfl := Option.some.inj hr
      exact ⟨(F42_h3 x1 x2 x3 v4 v5 l6 v6 x7 x8 v9 v10 v11 id15 h58b w0_53 ((hens (y24.1, y36) u21 l21).set (midx (y24.1, y36) (mens (y24.1, y36) l21)) v58) (IntKind.i64.wrap (a19 + 1)) y52 (mappL (y24.1, y36) ([a19] : List Int) l21)), ⟨h58b, w0_53, ((hens (y24.1, y36) u21 l21).set (midx (y24.1, y36) (mens (y24.1, y36) l21)) v58), (Heapy.pickN2 (A := [⟨v54, 3, 1, List.flatMap enc3 ([a19] : List Int)⟩, ⟨w0_53, 106, 2, List.flatMap enc106 y52⟩, mrow id15 (q2 .i64) ((hens (y24.1, y36) u21 l21).set (midx (y24.1, y36) (mens (y24.1, y36) l21)) v58) (mappL (y24.1, y36) ([a19] : List Int) l21)]) (N := MIn 3 1 enc3 ((hens (y24.1, y36) u21 l21).set (midx (y24.1, y36) (mens (y24.1, y36) l21)) v58) (mappL (y24.1, y36) ([a19] : List Int) l21)) hp58 3 rfl [1, 2] (by decide) rfl), zw0_53, rfl⟩, pEnd_sound good (L := F42_L) (D := F42_D) (its := [.g, (.b true), .g, (.ix id24 off24 g24), (.ld (.agg #[.int .i64 y24.1, .int .i64 y24.2])), .g, .g, .g, .g, .g, .g, (.b false), (.j F42_m1_0 [] .normal (F42_x1_0 h x1 x2 x3 v4 v5 l6 v6 x7 x8 v9 v10 v11 id15 a19 l21 u21 y24 h35 w0_35 y34)), .g, .g, .g, .g, .g, (.ix id36 off36 g36), (.ld (.int .i64 y36)), .g, .g, .g, .g, .g, (.mm ((sv (hlook (y24.1, y36) u21 l21))) h35), (.ln (mgetL (y24.1, y36) l21).length), .g, (.l F42_m2_0 [] (.exit 2) (F42_x2_0 h x1 x2 x3 v4 v5 l6 v6 x7 x8 v9 v10 v11 id15 a19 l21 u21 y24 y36 h53 w0_53 y52)), .g, .g, .g, (.mm (sv v54) h54), (.mm (.tuple #[(sv (hlook (y24.1, y36) (hens (y24.1, y36) u21 l21) (mens (y24.1, y36) l21))), .int .i64 ((midx (y24.1, y36) (mens (y24.1, y36) l21) : Nat) : Int)]) h56), .g, (.mm (sv v58) h58), .g, (.mm undef h58b), .g, .g]) (ds := F42_m3_0) (ks := [9]) (e := .normal) (s2 := (F42_h3 x1 x2 x3 v4 v5 l6 v6 x7 x8 v9 v10 v11 id15 h58b w0_53 ((hens (y24.1, y36) u21 l21).set (midx (y24.1, y36) (mens (y24.1, y36) l21)) v58) (IntKind.i64.wrap (a19 + 1)) y52 (mappL (y24.1, y36) ([a19] : List Int) l21))) (hC := (ai m58b (ai m58 (ai m56 (ai m54 (ai hA52 (ai (SlE.len (Heapy.mnsle (A := [⟨w0_35, 106, 2, List.flatMap enc106 y34⟩, mrow id15 (q2 .i64) u21 l21]) (el := 3) (c := 1) (enc := enc3) (hs := u21) (xs := l21) hp35 (y24.1, y36) (fun _ => rfl) (by decide))) (ai (Heapy.mnlook (P := Try.prog) (A := [⟨w0_35, 106, 2, List.flatMap enc106 y34⟩, mrow id15 (q2 .i64) u21 l21]) (el := 3) (c := 1) (enc := enc3) (hs := u21) (xs := l21) (q := q2 .i64) hp35 1 (id := id15) rfl (t := 105) (kt := 106) (et := 27) (kd := .array 2 3) (by kernel_rfl) (by kernel_rfl) (by kernel_rfl) (y24.1, y36) rfl (by kernel_rfl) (fun b => q2_eq (fun _ _ => by kernel_rfl) _ b)) (ai (At.one (P := Try.prog) (t := 3) (v := .int .i64 y36) (At.mono (Heapy.sub hp35) at36) (by kernel_rfl) 0 rfl rfl) (ai ix36 (ai hA34 (ai c25 (ai (At.agg (P := Try.prog) (t := 35) (v := .agg #[.int .i64 y24.1, .int .i64 y24.2]) (m := 2) (At.mono (Heapy.sub hp22) at24) (by kernel_rfl) (by kernel_rfl) 0 (by kernel_rfl) rfl) (ai ix24 (ai c23 trivial))))))))))))))) (hd := F42_d3) (h := by kernel_rfl)⟩
  · intro hr
    obtain rfl := Option.some.inj hr
    refine ⟨(.exit 0), (F42_x3_0 h h22 u20 (l20 : (List (Int × Int)))), (by intro hh; cases hh), ?_, pEnd_sound good (L := F42_L) (D := F42_D) (its := [.g, (.b false)]) (ds := F42_m3_1) (ks := [2, 3]) (e := (.exit 0)) (s2 := (F42_x3_0 h h22 u20 (l20 : (List (Int × Int))))) (hC := (ai c23 trivial)) (hd := F42_d3) (h := by kernel_rfl)⟩
    exact ⟨rfl, h22, u20, (Heapy.pick (Heapy.head (A := [⟨u20, 106, 2, List.flatMap enc106 l20⟩, mrow id15 (q2 .i64) u21 l21]) (N := MIn 3 1 enc3 u21 l21) hp22) [0] (by decide)), z20, rfl⟩
theorem F42_l3 (h : AHeap) (x1 : Int) (x2 : Int) (x3 : Bool) (v4 : Hd) (v5 : Hd) (l6 : List (Int × Int)) (v6 : Hd) (hv6 : SlE E35 2 h (sv v6) l6) (x7 : Int) (x8 : Int) (l9 : List Int) (v9 : Hd) (hv9 : SlE E3 1 h (sv v9) l9) (v10 : Hd) (l11 : List Int) (v11 : Hd) (hv11 : SlE E3 1 h (sv v11) l11) (id15 : Nat) (x : Int × (List (Int × Int)) × (List ((Int × Int) × List Int))) (r : (List (Int × Int))) (hl : loopO (fun (s : Int × (List (Int × Int)) × (List ((Int × Int) × List Int))) => F42_s3 x3 l6 x7 l9 l11 s.1 s.2.1 s.2.2) x = some r) (S : AS) (hI : (F42_i3 h x1 x2 x3 v4 v5 l6 v6 x7 x8 v9 v10 v11 id15) x S) : ∃ e S', (F42_x3 h) r e S' ∧ AWp Try.prog (.loop (codeOf Try.prog 42 [1, 1, 1, 1, 0, 1, 0, 0])) (Ends1 e S') S :=
  loop_rel (fun x S hI => F42_r3 h x1 x2 x3 v4 v5 l6 v6 hv6 x7 x8 l9 v9 hv9 v10 l11 v11 hv11 id15 x.1 x.2.1 x.2.2 S hI) hl hI
def F42 (x1 : Int) (x2 : Int) (x3 : Bool) (l4 : List (Int × Int × Int × Int)) (l5 : List (Int × Int × Int × Int)) (l6 : List (Int × Int)) (x7 : Int) (x8 : Int) (l9 : List Int) (l10 : List Int) (l11 : List Int) : Option ((List (Int × Int))) :=
  (Option.bind (F36 x1 x2 x3 l4 l5 l6 x7 x8 l9 l10 l11) fun y12 =>
  (bif (!y12) then
   some ([])
  else
   (Option.bind (loopO (fun (s : Int × (List (Int × Int)) × (List ((Int × Int) × List Int))) => F42_s3 x3 l6 x7 l9 l11 s.1 s.2.1 s.2.2) (0, ([] : List (Int × Int)), ([] : List ((Int × Int) × List Int)))) fun y59 =>
   (Option.bind (F74w75 y59) fun y62 =>
   some (y62)))))
set_option maxRecDepth 100000 in
theorem F42_spec (x1 : Int) (x2 : Int) (x3 : Bool) (l4 : List (Int × Int × Int × Int)) (l5 : List (Int × Int × Int × Int)) (l6 : List (Int × Int)) (x7 : Int) (x8 : Int) (l9 : List Int) (l10 : List Int) (l11 : List Int) (v4 : Hd) (v5 : Hd) (v6 : Hd) (v9 : Hd) (v10 : Hd) (v11 : Hd) (h : AHeap) (hw : h.wf) (hv4 : SlE E81 4 h (sv v4) l4) (hv5 : SlE E38 4 h (sv v5) l5) (hv6 : SlE E35 2 h (sv v6) l6) (hv9 : SlE E3 1 h (sv v9) l9) (hv10 : SlE E3 1 h (sv v10) l10) (hv11 : SlE E3 1 h (sv v11) l11) (r : (List (Int × Int))) : F42 x1 x2 x3 l4 l5 l6 x7 x8 l9 l10 l11 = some r → ∃ (ur0 : Hd) (h' : AHeap), Heapy h h' [⟨ur0, 106, 2, List.flatMap enc106 r⟩] ∧ Strict ur0 ∧ ACalls Try.prog 42 [.agg #[.int .i64 x1, .int .i64 x2, .bool x3, (sv v4), (sv v5), (sv v6)], .agg #[.int .i64 x7, .int .i64 x8, (sv v9), (sv v10), (sv v11)]] h (fun v' h'' => v' = ((sv ur0) : Value) ∧ h'' = h') := by
  unfold F42
  refine bind_opt fun y12 e12 => ?_
  refine dec_bif (fun c14 => ?_) (fun c14 => ?_)
  · intro hr
    obtain rfl := Option.some.inj hr
    exact ⟨⟨none, 0, 0⟩, h, Heapy.pick (Heapy.nil (Heapy.refl hw) 106 2) [0] (by decide), Strict.nil, pFun_sound good tab_ok (f := 42) (its := [.g, .g, .g, .g, .g, (.c (.bool y12) h), .g, (.b true), .g]) (args := [.agg #[.int .i64 x1, .int .i64 x2, .bool x3, (sv v4), (sv v5), (sv v6)], .agg #[.int .i64 x7, .int .i64 x8, (sv v9), (sv v10), (sv v11)]]) (h := h) (h' := h) (v := .slice none 0 0) (hC := (ai c14 (ai (F36_spec x1 x2 x3 l4 l5 l6 x7 x8 l9 l10 l11 v4 v5 v6 v9 v10 v11 h hv4 hv5 hv6 hv9 hv10 hv11 _ e12) trivial))) (hr := by kernel_rfl)⟩
  · obtain ⟨id15, h15, m15, hq15⟩ := Heapy.mkmap (P := Try.prog) (Heapy.refl hw) (t := 105) (kt := 106) (et := 27) (by kernel_rfl)
    have hp15 : Heapy h h15 ([mrow id15 (q2 .i64) ([] : List Hd) ([] : List ((Int × Int) × List Int))] ++ MIn 3 1 enc3 ([] : List Hd) ([] : List ((Int × Int) × List Int))) := hq15
    refine bind_opt fun y59 e59 => ?_
    have hp17 : Heapy h h15 ([⟨⟨none, 0, 0⟩, 106, 2, List.flatMap enc106 ([] : List (Int × Int))⟩, mrow id15 (q2 .i64) ([] : List Hd) ([] : List ((Int × Int) × List Int))] ++ MIn 3 1 enc3 ([] : List Hd) ([] : List ((Int × Int) × List Int))) := Heapy.nil hp15 106 2
    obtain ⟨ee59, SS59, hX59, hA59⟩ := F42_l3 h x1 x2 x3 v4 v5 l6 v6 hv6 x7 x8 l9 v9 hv9 v10 l11 v11 hv11 id15 (0, ([] : List (Int × Int)), ([] : List ((Int × Int) × List Int))) y59 e59 (F42_h3 x1 x2 x3 v4 v5 l6 v6 x7 x8 v9 v10 v11 id15 h15 ⟨none, 0, 0⟩ ([] : List Hd) 0 ([] : List (Int × Int)) ([] : List ((Int × Int) × List Int))) ⟨h15, ⟨none, 0, 0⟩, ([] : List Hd), (Heapy.pickN2 (A := [⟨⟨none, 0, 0⟩, 106, 2, List.flatMap enc106 ([] : List (Int × Int))⟩, mrow id15 (q2 .i64) ([] : List Hd) ([] : List ((Int × Int) × List Int))]) (N := MIn 3 1 enc3 ([] : List Hd) ([] : List ((Int × Int) × List Int))) hp17 2 rfl [0, 1] (by decide) rfl), Strict.nil, rfl⟩
    obtain ⟨rfl, h60, w0_60, hp60, zw0_60, rfl⟩ := hX59
    refine bind_opt fun y62 e62 => ?_
    obtain ⟨b61, pb61, ob61, jb61⟩ := Heapy.io hp60 0 (s := ⟨w0_60, 106, 2, List.flatMap enc106 y59⟩) rfl
    obtain ⟨h63, q63, c63⟩ := F74w75_spec y59 w0_60 h60 b61 (Heapy.wf ob61) pb61 _ e62
    have hp63 : Heapy h h63 [⟨w0_60, 106, 2, List.flatMap enc106 y62⟩] := jb61 (r := []) (s' := ⟨w0_60, 106, 2, List.flatMap enc106 y62⟩) q63
    intro hr
    obtain rfl := Option.some.inj hr
    exact ⟨w0_60, h63, Heapy.pick hp63 [0] (by decide), zw0_60, pFun_sound good tab_ok (f := 42) (its := [.g, .g, .g, .g, .g, (.c (.bool y12) h), .g, (.b false), .g, (.mm (.map (some id15)) h15), .g, .g, .g, (.ln l6.length), .g, (.l F42_m3_0 [] (.exit 0) (F42_x3_0 h h60 w0_60 y59)), .g, (.c (.tuple #[]) h63), .g, .g]) (args := [.agg #[.int .i64 x1, .int .i64 x2, .bool x3, (sv v4), (sv v5), (sv v6)], .agg #[.int .i64 x7, .int .i64 x8, (sv v9), (sv v10), (sv v11)]]) (h := h) (h' := h63) (v := (sv w0_60)) (hC := (ai c63 (ai hA59 (ai (SlE.len hv6) (ai m15 (ai c14 (ai (F36_spec x1 x2 x3 l4 l5 l6 x7 x8 l9 l10 l11 v4 v5 v6 v9 v10 v11 h hv4 hv5 hv6 hv9 hv10 hv11 _ e12) trivial))))))) (hr := by kernel_rfl)⟩
/-! 71 slices.IndexFunc[[]int,int] -/
def F71w40_L : List Nat := []
def F71w40_D : List (Nat × List (Nat × Nat)) := []
def F71w40_m2_2 : List Bool := [true, true, true, true, true, true, true, true, true, true, true, true, true, true, true, true, true, true, true]
def F71w40_m2_1 : List Bool := [false, false, true, true, true, true, true, false, false, true, true, true, true, true, true, true, true, true, true]
def F71w40_m2_0 : List Bool := [true, true, true, true, false, true, true, true, true, true, true, true, true, true, true, true, true, true, true]
def F71w40_s2 (l1 : List Int) (a2 : Int) : Option (Int ⊕ (Nat × Int)) :=
  (bif decide (a2 < (l1.length : Int)) then
   (Option.bind (at? l1 a2) fun y4 =>
   (bif (F40 y4) then
    some (.inr (0, a2))
   else
    some (.inl (IntKind.i64.wrap (a2 + 1)))))
  else
   some (.inr (1, 0)))
def F71w40_h2 (h : AHeap) (l1 : List Int) (v1 : Hd)  (a2 : Int) : AS := ⟨[(sv v1), .func (.func 40) #[] #[], junk, junk, junk, junk, junk, .int .i64 (l1.length : Int), .int .i64 a2, junk, junk, junk, junk, junk, junk, junk, junk, junk, junk], [], h⟩
theorem F71w40_d2 : drawsOk F71w40_D (codeOf Try.prog 71 [1, 0, 1, 0, 0]) = true := by kernel_rfl
def F71w40_x2_0 (h : AHeap)  (r : Nat × Int) : AS := ⟨[junk, junk, junk, junk, .int .i64 r.2, junk, junk, junk, junk, junk, junk, junk, junk, junk, junk, junk, junk, junk, junk], [], h⟩
def F71w40_x2_1 (h : AHeap)  (r : Nat × Int) : AS := ⟨[junk, junk, junk, junk, junk, junk, junk, junk, junk, junk, junk, junk, junk, junk, junk, junk, junk, junk, junk], [], h⟩
def F71w40_x2 (h : AHeap) (r : Nat × Int) : Exit × AS := (bif Nat.beq r.1 0 then (.ret, (F71w40_x2_0 h r)) else ((.exit 0), (F71w40_x2_1 h r)))
set_option maxRecDepth 100000 in
theorem F71w40_r2 (h : AHeap) (l1 : List Int) (v1 : Hd) (hv1 : SlE E3 1 h (sv v1) l1) (a2 : Int) (o : Int ⊕ (Nat × Int)) : F71w40_s2 l1 a2 = some o → RdF Try.prog (codeOf Try.prog 71 [1, 0, 1, 0, 0]) (fun (s : Int) => (F71w40_h2 h l1 v1 s)) (F71w40_x2 h) (F71w40_h2 h l1 v1 a2) o := by
  unfold F71w40_s2
  refine dec_bif (fun c3 => ?_) (fun c3 => ?_)
  · refine bind_opt fun y4 e4 => ?_
    obtain ⟨id4, off4, g4, cs4, ix4, at4, rfl⟩ := SlE.at hv1 e4
    refine dec_bif (fun c6 => ?_) (fun c6 => ?_)
    · intro hr
      obtain rfl := Option.some.inj hr
      show AWp Try.prog _ (Ends1 ((F71w40_x2 h) ((0, a2) : Nat × Int)).1 ((F71w40_x2 h) ((0, a2) : Nat × Int)).2) _
      exact pEnd_sound good (L := F71w40_L) (D := F71w40_D) (its := [.g, (.b true), .g, .g, .g, .g, .g, (.ix id4 off4 g4), (.ld (.int .i64 y4)), (.c (.bool (F40 y4)) h), (.b true), .g, .g]) (ds := F71w40_m2_0) (ks := []) (e := ((F71w40_x2 h) ((0, a2) : Nat × Int)).1) (s2 := ((F71w40_x2 h) ((0, a2) : Nat × Int)).2) (hC := (ai c6 (ai (F40_spec y4 h _ rfl) (ai (At.one (P := Try.prog) (t := 3) (v := .int .i64 y4) at4 (by kernel_rfl) 0 rfl rfl) (ai ix4 (ai c3 trivial)))))) (hd := F71w40_d2) (h := by kernel_rfl)
    · intro hr
      obtain rfl := Option.some.inj hr
      show AWp Try.prog _ (Ends1 .normal (F71w40_h2 h l1 v1 (IntKind.i64.wrap (a2 + 1)))) _
      exact pEnd_sound good (L := F71w40_L) (D := F71w40_D) (its := [.g, (.b true), .g, .g, .g, .g, .g, (.ix id4 off4 g4), (.ld (.int .i64 y4)), (.c (.bool (F40 y4)) h), (.b false), .g, .g]) (ds := F71w40_m2_1) (ks := []) (e := .normal) (s2 := (F71w40_h2 h l1 v1 (IntKind.i64.wrap (a2 + 1)))) (hC := (ai c6 (ai (F40_spec y4 h _ rfl) (ai (At.one (P := Try.prog) (t := 3) (v := .int .i64 y4) at4 (by kernel_rfl) 0 rfl rfl) (ai ix4 (ai c3 trivial)))))) (hd := F71w40_d2) (h := by kernel_rfl)
  · intro hr
    obtain rfl := Option.some.inj hr
    show AWp Try.prog _ (Ends1 ((F71w40_x2 h) ((1, 0) : Nat × Int)).1 ((F71w40_x2 h) ((1, 0) : Nat × Int)).2) _
    exact pEnd_sound good (L := F71w40_L) (D := F71w40_D) (its := [.g, (.b false)]) (ds := F71w40_m2_2) (ks := []) (e := ((F71w40_x2 h) ((1, 0) : Nat × Int)).1) (s2 := ((F71w40_x2 h) ((1, 0) : Nat × Int)).2) (hC := (ai c3 trivial)) (hd := F71w40_d2) (h := by kernel_rfl)
theorem F71w40_l2_0 (h : AHeap) (l1 : List Int) (v1 : Hd) (hv1 : SlE E3 1 h (sv v1) l1) (x : Int) (r : Nat × Int) (hl : loopO (fun (s : Int) => F71w40_s2 l1 s) x = some r) (q0 : Nat.beq r.1 0 = true) : AWp Try.prog (.loop (codeOf Try.prog 71 [1, 0, 1, 0, 0])) (Ends1 .ret (F71w40_x2_0 h r)) ((fun (s : Int) => (F71w40_h2 h l1 v1 s)) x) := by
  have k := loop_fun (P := Try.prog) (c := (codeOf Try.prog 71 [1, 0, 1, 0, 0])) (step := (fun (s : Int) => F71w40_s2 l1 s)) (hd := (fun (s : Int) => (F71w40_h2 h l1 v1 s))) (X := (F71w40_x2 h)) (by intro t; unfold F71w40_x2; cases Nat.beq t.1 0 <;> (intro h; cases h)) (fun x => F71w40_r2 h l1 v1 hv1 x) hl
  simp only [F71w40_x2, q0, cond_true, cond_false] at k
  exact k
theorem F71w40_l2_1 (h : AHeap) (l1 : List Int) (v1 : Hd) (hv1 : SlE E3 1 h (sv v1) l1) (x : Int) (r : Nat × Int) (hl : loopO (fun (s : Int) => F71w40_s2 l1 s) x = some r) (q0 : Nat.beq r.1 0 = false) : AWp Try.prog (.loop (codeOf Try.prog 71 [1, 0, 1, 0, 0])) (Ends1 (.exit 0) (F71w40_x2_1 h r)) ((fun (s : Int) => (F71w40_h2 h l1 v1 s)) x) := by
  have k := loop_fun (P := Try.prog) (c := (codeOf Try.prog 71 [1, 0, 1, 0, 0])) (step := (fun (s : Int) => F71w40_s2 l1 s)) (hd := (fun (s : Int) => (F71w40_h2 h l1 v1 s))) (X := (F71w40_x2 h)) (by intro t; unfold F71w40_x2; cases Nat.beq t.1 0 <;> (intro h; cases h)) (fun x => F71w40_r2 h l1 v1 hv1 x) hl
  simp only [F71w40_x2, q0, cond_true, cond_false] at k
  exact k
def F71w40 (l1 : List Int) : Option (Int) :=
  (Option.bind (loopO (fun (s : Int) => F71w40_s2 l1 s) 0) fun y7 =>
  (bif (Nat.beq y7.1 0) then
   some (y7.2)
  else
   some (-1)))
set_option maxRecDepth 100000 in
theorem F71w40_spec (l1 : List Int) (v1 : Hd) (h : AHeap) (hv1 : SlE E3 1 h (sv v1) l1) (r : Int) : F71w40 l1 = some r → ACalls Try.prog 71 [(sv v1), .func (.func 40) #[] #[]] h (fun v' h'' => v' = (.int .i64 r : Value) ∧ h'' = h) := by
  unfold F71w40
  refine bind_opt fun y7 e7 => ?_
  refine dec_bif (fun c8 => ?_) (fun c8 => ?_)
  · intro hr
    obtain rfl := Option.some.inj hr
    exact pFun_sound good tab_ok (f := 71) (its := [.g, .g, (.ln l1.length), .g, (.l F71w40_m2_1 [] .ret (F71w40_x2_0 h y7))]) (args := [(sv v1), .func (.func 40) #[] #[]]) (h := h) (h' := h) (v := .int .i64 y7.2) (hC := (ai (F71w40_l2_0 h l1 v1 hv1 0 y7 e7 c8) (ai (SlE.len hv1) trivial))) (hr := by kernel_rfl)
  · intro hr
    obtain rfl := Option.some.inj hr
    exact pFun_sound good tab_ok (f := 71) (its := [.g, .g, (.ln l1.length), .g, (.l F71w40_m2_1 [] (.exit 0) (F71w40_x2_1 h y7)), .g]) (args := [(sv v1), .func (.func 40) #[] #[]]) (h := h) (h' := h) (v := .int .i64 (-1)) (hC := (ai (F71w40_l2_1 h l1 v1 hv1 0 y7 e7 c8) (ai (SlE.len hv1) trivial))) (hr := by kernel_rfl)
/-! 39 slices.ContainsFunc[[]int,int] -/
def F39w40 (l1 : List Int) : Option (Bool) :=
  (Option.bind (F71w40 l1) fun y2 =>
  some (decide (y2 ≥ 0)))
set_option maxRecDepth 100000 in
theorem F39w40_spec (l1 : List Int) (v1 : Hd) (h : AHeap) (hv1 : SlE E3 1 h (sv v1) l1) (r : Bool) : F39w40 l1 = some r → ACalls Try.prog 39 [(sv v1), .func (.func 40) #[] #[]] h (fun v' h'' => v' = (.bool r : Value) ∧ h'' = h) := by
  unfold F39w40
  refine bind_opt fun y2 e2 => ?_
  intro hr
  obtain rfl := Option.some.inj hr
  exact pFun_sound good tab_ok (f := 39) (its := [.g, .g, .g, (.c (.int .i64 y2) h), .g, .g]) (args := [(sv v1), .func (.func 40) #[] #[]]) (h := h) (h' := h) (v := .bool (decide (y2 ≥ 0))) (hC := (ai (F71w40_spec l1 v1 h hv1 _ e2) trivial)) (hr := by kernel_rfl)
/-! 14 jacquard/schedcheck.Check -/
def F14 (x1 : Int) (x2 : Int) (x3 : Bool) (l4 : List (Int × Int × Int × Int)) (l5 : List (Int × Int × Int × Int)) (l6 : List (Int × Int)) (x7 : Int) (x8 : Int) (l9 : List Int) (l10 : List Int) (l11 : List Int) : Option (Int) :=
  (Option.bind (F36 x1 x2 x3 l4 l5 l6 x7 x8 l9 l10 l11) fun y12 =>
  (bif (!y12) then
   some (3)
  else
   (bif (!x3) then
    (Option.bind (F39w40 l10) fun y16 =>
    (bif y16 then
     some (20)
    else
     (bif decide (x8 < x7) then
      some (20)
     else
      (Option.bind (F41 x1 x2 x3 l4 l5 l6 x7 x8 l9 l10 l11) fun y20 =>
      (bif decide ((y20.length : Int) > 0) then
       some (20)
      else
       (Option.bind (F42 x1 x2 x3 l4 l5 l6 x7 x8 l9 l10 l11) fun y24 =>
       (bif decide ((y24.length : Int) > 0) then
        some (20)
       else
        some (0))))))))
   else
    (bif decide (x8 < x7) then
     some (20)
    else
     (Option.bind (F41 x1 x2 x3 l4 l5 l6 x7 x8 l9 l10 l11) fun y29 =>
     (bif decide ((y29.length : Int) > 0) then
      some (20)
     else
      (Option.bind (F42 x1 x2 x3 l4 l5 l6 x7 x8 l9 l10 l11) fun y33 =>
      (bif decide ((y33.length : Int) > 0) then
       some (20)
      else
       some (0)))))))))
set_option maxRecDepth 100000 in
theorem F14_spec (x1 : Int) (x2 : Int) (x3 : Bool) (l4 : List (Int × Int × Int × Int)) (l5 : List (Int × Int × Int × Int)) (l6 : List (Int × Int)) (x7 : Int) (x8 : Int) (l9 : List Int) (l10 : List Int) (l11 : List Int) (v4 : Hd) (v5 : Hd) (v6 : Hd) (v9 : Hd) (v10 : Hd) (v11 : Hd) (h : AHeap) (hw : h.wf) (hv4 : SlE E81 4 h (sv v4) l4) (hv5 : SlE E38 4 h (sv v5) l5) (hv6 : SlE E35 2 h (sv v6) l6) (hv9 : SlE E3 1 h (sv v9) l9) (hv10 : SlE E3 1 h (sv v10) l10) (hv11 : SlE E3 1 h (sv v11) l11) (r : Int) : F14 x1 x2 x3 l4 l5 l6 x7 x8 l9 l10 l11 = some r → ∃ (h' : AHeap), Heapy h h' [] ∧ ACalls Try.prog 14 [.agg #[.int .i64 x1, .int .i64 x2, .bool x3, (sv v4), (sv v5), (sv v6)], .agg #[.int .i64 x7, .int .i64 x8, (sv v9), (sv v10), (sv v11)]] h (fun v' h'' => v' = (.int .i64 r : Value) ∧ h'' = h') := by
  unfold F14
  refine bind_opt fun y12 e12 => ?_
  refine dec_bif (fun c14 => ?_) (fun c14 => ?_)
  · intro hr
    obtain rfl := Option.some.inj hr
    exact ⟨h, Heapy.pick (Heapy.refl hw) [] (by decide), pFun_sound good tab_ok (f := 14) (its := [.g, .g, .g, .g, .g, (.c (.bool y12) h), .g, (.b true), .g]) (args := [.agg #[.int .i64 x1, .int .i64 x2, .bool x3, (sv v4), (sv v5), (sv v6)], .agg #[.int .i64 x7, .int .i64 x8, (sv v9), (sv v10), (sv v11)]]) (h := h) (h' := h) (v := .int .i64 3) (hC := (ai c14 (ai (F36_spec x1 x2 x3 l4 l5 l6 x7 x8 l9 l10 l11 v4 v5 v6 v9 v10 v11 h hv4 hv5 hv6 hv9 hv10 hv11 _ e12) trivial))) (hr := by kernel_rfl)⟩
  · refine dec_bif (fun c15 => ?_) (fun c15 => ?_)
    · refine bind_opt fun y16 e16 => ?_
      refine dec_bif (fun c18 => ?_) (fun c18 => ?_)
      · intro hr
        obtain rfl := Option.some.inj hr
        exact ⟨h, Heapy.pick (Heapy.refl hw) [] (by decide), pFun_sound good tab_ok (f := 14) (its := [.g, .g, .g, .g, .g, (.c (.bool y12) h), .g, (.b false), .g, .g, .g, .g, (.w .g), (.w .g), (.w (.c (.bool y16) h)), (.p true), .g, .g, .g, .n, .n, .n, .n, .n, (.p true), .g, .n, .n, .n, .n, .n, .g, .g, .n, .n, .n, .n, .n, .g, (.b true), .g]) (args := [.agg #[.int .i64 x1, .int .i64 x2, .bool x3, (sv v4), (sv v5), (sv v6)], .agg #[.int .i64 x7, .int .i64 x8, (sv v9), (sv v10), (sv v11)]]) (h := h) (h' := h) (v := .int .i64 20) (hC := (ai l_t (ai (g_tf l_t) (ai (g_tf l_t) (ai (g_tf l_t) (ai (g_tf l_t) (ai (g_tf l_t) (ai (g_tf l_t) (ai (g_tf l_t) (ai (g_tf l_t) (ai (g_tf l_t) (ai (g_tf l_t) (ai c18 (ai (g_tf c18) (ai (g_tf c18) (ai (g_tf c18) (ai (g_tf c18) (ai (g_tf c18) (ai c15 (ai (F39w40_spec l10 v10 h hv10 _ e16) (ai (g_tt c15) (ai (g_tt c15) (ai (g_tt c15) (ai c14 (ai (F36_spec x1 x2 x3 l4 l5 l6 x7 x8 l9 l10 l11 v4 v5 v6 v9 v10 v11 h hv4 hv5 hv6 hv9 hv10 hv11 _ e12) trivial))))))))))))))))))))))))) (hr := by kernel_rfl)⟩
      · refine dec_bif (fun c19 => ?_) (fun c19 => ?_)
        · intro hr
          obtain rfl := Option.some.inj hr
          exact ⟨h, Heapy.pick (Heapy.refl hw) [] (by decide), pFun_sound good tab_ok (f := 14) (its := [.g, .g, .g, .g, .g, (.c (.bool y12) h), .g, (.b false), .g, .g, .g, .g, (.w .g), (.w .g), (.w (.c (.bool y16) h)), (.p true), .g, .g, .g, (.w .g), (.w .g), (.w .g), (.w .g), (.w .g), (.p false), .g, .n, .n, .n, .n, .n, (.p true), .g, .n, .n, .n, .n, .n, .g, (.b true), .g]) (args := [.agg #[.int .i64 x1, .int .i64 x2, .bool x3, (sv v4), (sv v5), (sv v6)], .agg #[.int .i64 x7, .int .i64 x8, (sv v9), (sv v10), (sv v11)]]) (h := h) (h' := h) (v := .int .i64 20) (hC := (ai l_t (ai (g_tf l_t) (ai (g_tf l_t) (ai (g_tf l_t) (ai (g_tf l_t) (ai (g_tf l_t) (ai c19 (ai (g_tf c19) (ai (g_tf c19) (ai (g_tf c19) (ai (g_tf c19) (ai (g_tf c19) (ai c18 (ai (g_ff c18) (ai (g_ff c18) (ai (g_ff c18) (ai (g_ff c18) (ai (g_ff c18) (ai c15 (ai (F39w40_spec l10 v10 h hv10 _ e16) (ai (g_tt c15) (ai (g_tt c15) (ai (g_tt c15) (ai c14 (ai (F36_spec x1 x2 x3 l4 l5 l6 x7 x8 l9 l10 l11 v4 v5 v6 v9 v10 v11 h hv4 hv5 hv6 hv9 hv10 hv11 _ e12) trivial)))))))))))))))))))))))))) (hr := by kernel_rfl)⟩
        · refine bind_opt fun y20 e20 => ?_
          obtain ⟨u21_0, h21, q21, zu21_0, c21⟩ := F41_spec x1 x2 x3 l4 l5 l6 x7 x8 l9 l10 l11 v4 v5 v6 v9 v10 v11 h hw hv4 hv5 hv6 hv9 hv10 hv11 _ e20
          have hp21 : Heapy h h21 [⟨u21_0, 3, 1, List.flatMap enc3 y20⟩] := Heapy.call (Heapy.refl hw) q21
          refine dec_bif (fun c23 => ?_) (fun c23 => ?_)
          · intro hr
            obtain rfl := Option.some.inj hr
            exact ⟨h21, Heapy.pick hp21 [] (by decide), pFun_sound good tab_ok (f := 14) (its := [.g, .g, .g, .g, .g, (.c (.bool y12) h), .g, (.b false), .g, .g, .g, .g, (.w .g), (.w .g), (.w (.c (.bool y16) h)), (.p true), .g, .g, .g, (.w .g), (.w .g), (.w .g), (.w .g), (.w .g), (.p false), .g, (.w .g), (.w .g), (.w (.c ((sv u21_0)) h21)), (.w (.ln y20.length)), (.w .g), (.p false), .g, .n, .n, .n, .n, .n, (.p true), (.b true), .g]) (args := [.agg #[.int .i64 x1, .int .i64 x2, .bool x3, (sv v4), (sv v5), (sv v6)], .agg #[.int .i64 x7, .int .i64 x8, (sv v9), (sv v10), (sv v11)]]) (h := h) (h' := h21) (v := .int .i64 20) (hC := (ai l_t (ai c23 (ai (g_tf c23) (ai (g_tf c23) (ai (g_tf c23) (ai (g_tf c23) (ai (g_tf c23) (ai c19 (ai (g_ff c19) (ai (SlE.len (Heapy.sle (v := u21_0) (xs := y20) (enc := enc3) hp21 0 rfl (fun _ => rfl) (by decide))) (ai (g_ff c19) (ai c21 (ai (g_ff c19) (ai (g_ff c19) (ai (g_ff c19) (ai c18 (ai (g_ff c18) (ai (g_ff c18) (ai (g_ff c18) (ai (g_ff c18) (ai (g_ff c18) (ai c15 (ai (F39w40_spec l10 v10 h hv10 _ e16) (ai (g_tt c15) (ai (g_tt c15) (ai (g_tt c15) (ai c14 (ai (F36_spec x1 x2 x3 l4 l5 l6 x7 x8 l9 l10 l11 v4 v5 v6 v9 v10 v11 h hv4 hv5 hv6 hv9 hv10 hv11 _ e12) trivial))))))))))))))))))))))))))))) (hr := by kernel_rfl)⟩
          · refine bind_opt fun y24 e24 => ?_
            obtain ⟨u25_0, h25, q25, zu25_0, c25⟩ := F42_spec x1 x2 x3 l4 l5 l6 x7 x8 l9 l10 l11 v4 v5 v6 v9 v10 v11 h21 (Heapy.wf hp21) (SlE.mono hv4 (Heapy.sub hp21) (E81_mono (Heapy.sub hp21))) (SlE.mono hv5 (Heapy.sub hp21) (E38_mono (Heapy.sub hp21))) (SlE.mono hv6 (Heapy.sub hp21) (E35_mono (Heapy.sub hp21))) (SlE.mono hv9 (Heapy.sub hp21) (E3_mono (Heapy.sub hp21))) (SlE.mono hv10 (Heapy.sub hp21) (E3_mono (Heapy.sub hp21))) (SlE.mono hv11 (Heapy.sub hp21) (E3_mono (Heapy.sub hp21))) _ e24
            have hp25 : Heapy h h25 [⟨u25_0, 106, 2, List.flatMap enc106 y24⟩, ⟨u21_0, 3, 1, List.flatMap enc3 y20⟩] := Heapy.call hp21 q25
            refine dec_bif (fun c27 => ?_) (fun c27 => ?_)
            · intro hr
              obtain rfl := Option.some.inj hr
              exact ⟨h25, Heapy.pick hp25 [] (by decide), pFun_sound good tab_ok (f := 14) (its := [.g, .g, .g, .g, .g, (.c (.bool y12) h), .g, (.b false), .g, .g, .g, .g, (.w .g), (.w .g), (.w (.c (.bool y16) h)), (.p true), .g, .g, .g, (.w .g), (.w .g), (.w .g), (.w .g), (.w .g), (.p false), .g, (.w .g), (.w .g), (.w (.c ((sv u21_0)) h21)), (.w (.ln y20.length)), (.w .g), (.p false), .g, (.w .g), (.w .g), (.w (.c ((sv u25_0)) h25)), (.w (.ln y24.length)), (.w .g), (.p false), (.b true), .g]) (args := [.agg #[.int .i64 x1, .int .i64 x2, .bool x3, (sv v4), (sv v5), (sv v6)], .agg #[.int .i64 x7, .int .i64 x8, (sv v9), (sv v10), (sv v11)]]) (h := h) (h' := h25) (v := .int .i64 20) (hC := (ai c27 (ai c23 (ai (g_ff c23) (ai (SlE.len (Heapy.sle (v := u25_0) (xs := y24) (enc := enc106) hp25 0 rfl (fun _ => rfl) (by decide))) (ai (g_ff c23) (ai c25 (ai (g_ff c23) (ai (g_ff c23) (ai (g_ff c23) (ai c19 (ai (g_ff c19) (ai (SlE.len (Heapy.sle (v := u21_0) (xs := y20) (enc := enc3) hp21 0 rfl (fun _ => rfl) (by decide))) (ai (g_ff c19) (ai c21 (ai (g_ff c19) (ai (g_ff c19) (ai (g_ff c19) (ai c18 (ai (g_ff c18) (ai (g_ff c18) (ai (g_ff c18) (ai (g_ff c18) (ai (g_ff c18) (ai c15 (ai (F39w40_spec l10 v10 h hv10 _ e16) (ai (g_tt c15) (ai (g_tt c15) (ai (g_tt c15) (ai c14 (ai (F36_spec x1 x2 x3 l4 l5 l6 x7 x8 l9 l10 l11 v4 v5 v6 v9 v10 v11 h hv4 hv5 hv6 hv9 hv10 hv11 _ e12) trivial))))))))))))))))))))))))))))))) (hr := by kernel_rfl)⟩
            · intro hr
              obtain rfl := Option.some.inj hr
              exact ⟨h25, Heapy.pick hp25 [] (by decide), pFun_sound good tab_ok (f := 14) (its := [.g, .g, .g, .g, .g, (.c (.bool y12) h), .g, (.b false), .g, .g, .g, .g, (.w .g), (.w .g), (.w (.c (.bool y16) h)), (.p true), .g, .g, .g, (.w .g), (.w .g), (.w .g), (.w .g), (.w .g), (.p false), .g, (.w .g), (.w .g), (.w (.c ((sv u21_0)) h21)), (.w (.ln y20.length)), (.w .g), (.p false), .g, (.w .g), (.w .g), (.w (.c ((sv u25_0)) h25)), (.w (.ln y24.length)), (.w .g), (.p false), (.b false), .g]) (args := [.agg #[.int .i64 x1, .int .i64 x2, .bool x3, (sv v4), (sv v5), (sv v6)], .agg #[.int .i64 x7, .int .i64 x8, (sv v9), (sv v10), (sv v11)]]) (h := h) (h' := h25) (v := .int .i64 0) (hC := (ai c27 (ai c23 (ai (g_ff c23) (ai (SlE.len (Heapy.sle (v := u25_0) (xs := y24) (enc := enc106) hp25 0 rfl (fun _ => rfl) (by decide))) (ai (g_ff c23) (ai c25 (ai (g_ff c23) (ai (g_ff c23) (ai (g_ff c23) (ai c19 (ai (g_ff c19) (ai (SlE.len (Heapy.sle (v := u21_0) (xs := y20) (enc := enc3) hp21 0 rfl (fun _ => rfl) (by decide))) (ai (g_ff c19) (ai c21 (ai (g_ff c19) (ai (g_ff c19) (ai (g_ff c19) (ai c18 (ai (g_ff c18) (ai (g_ff c18) (ai (g_ff c18) (ai (g_ff c18) (ai (g_ff c18) (ai c15 (ai (F39w40_spec l10 v10 h hv10 _ e16) (ai (g_tt c15) (ai (g_tt c15) (ai (g_tt c15) (ai c14 (ai (F36_spec x1 x2 x3 l4 l5 l6 x7 x8 l9 l10 l11 v4 v5 v6 v9 v10 v11 h hv4 hv5 hv6 hv9 hv10 hv11 _ e12) trivial))))))))))))))))))))))))))))))) (hr := by kernel_rfl)⟩
    · refine dec_bif (fun c28 => ?_) (fun c28 => ?_)
      · intro hr
        obtain rfl := Option.some.inj hr
        exact ⟨h, Heapy.pick (Heapy.refl hw) [] (by decide), pFun_sound good tab_ok (f := 14) (its := [.g, .g, .g, .g, .g, (.c (.bool y12) h), .g, (.b false), .g, .g, .g, .g, .n, .n, .n, (.p false), .g, .g, .g, (.w .g), (.w .g), (.w .g), (.w .g), (.w .g), .g, .g, .n, .n, .n, .n, .n, (.p true), .g, .n, .n, .n, .n, .n, .g, (.b true), .g]) (args := [.agg #[.int .i64 x1, .int .i64 x2, .bool x3, (sv v4), (sv v5), (sv v6)], .agg #[.int .i64 x7, .int .i64 x8, (sv v9), (sv v10), (sv v11)]]) (h := h) (h' := h) (v := .int .i64 20) (hC := (ai l_t (ai (g_tf l_t) (ai (g_tf l_t) (ai (g_tf l_t) (ai (g_tf l_t) (ai (g_tf l_t) (ai c28 (ai (g_tf c28) (ai (g_tf c28) (ai (g_tf c28) (ai (g_tf c28) (ai (g_tf c28) (ai (g_ff l_f) (ai (g_ff l_f) (ai (g_ff l_f) (ai (g_ff l_f) (ai (g_ff l_f) (ai c15 (ai (g_ft c15) (ai (g_ft c15) (ai (g_ft c15) (ai c14 (ai (F36_spec x1 x2 x3 l4 l5 l6 x7 x8 l9 l10 l11 v4 v5 v6 v9 v10 v11 h hv4 hv5 hv6 hv9 hv10 hv11 _ e12) trivial)))))))))))))))))))))))) (hr := by kernel_rfl)⟩
      · refine bind_opt fun y29 e29 => ?_
        obtain ⟨u30_0, h30, q30, zu30_0, c30⟩ := F41_spec x1 x2 x3 l4 l5 l6 x7 x8 l9 l10 l11 v4 v5 v6 v9 v10 v11 h hw hv4 hv5 hv6 hv9 hv10 hv11 _ e29
        have hp30 : Heapy h h30 [⟨u30_0, 3, 1, List.flatMap enc3 y29⟩] := Heapy.call (Heapy.refl hw) q30
        refine dec_bif (fun c32 => ?_) (fun c32 => ?_)
        · intro hr
          obtain rfl := Option.some.inj hr
          exact ⟨h30, Heapy.pick hp30 [] (by decide), pFun_sound good tab_ok (f := 14) (its := [.g, .g, .g, .g, .g, (.c (.bool y12) h), .g, (.b false), .g, .g, .g, .g, .n, .n, .n, (.p false), .g, .g, .g, (.w .g), (.w .g), (.w .g), (.w .g), (.w .g), .g, .g, (.w .g), (.w .g), (.w (.c ((sv u30_0)) h30)), (.w (.ln y29.length)), (.w .g), (.p false), .g, .n, .n, .n, .n, .n, (.p true), (.b true), .g]) (args := [.agg #[.int .i64 x1, .int .i64 x2, .bool x3, (sv v4), (sv v5), (sv v6)], .agg #[.int .i64 x7, .int .i64 x8, (sv v9), (sv v10), (sv v11)]]) (h := h) (h' := h30) (v := .int .i64 20) (hC := (ai l_t (ai c32 (ai (g_tf c32) (ai (g_tf c32) (ai (g_tf c32) (ai (g_tf c32) (ai (g_tf c32) (ai c28 (ai (g_ff c28) (ai (SlE.len (Heapy.sle (v := u30_0) (xs := y29) (enc := enc3) hp30 0 rfl (fun _ => rfl) (by decide))) (ai (g_ff c28) (ai c30 (ai (g_ff c28) (ai (g_ff c28) (ai (g_ff c28) (ai (g_ff l_f) (ai (g_ff l_f) (ai (g_ff l_f) (ai (g_ff l_f) (ai (g_ff l_f) (ai c15 (ai (g_ft c15) (ai (g_ft c15) (ai (g_ft c15) (ai c14 (ai (F36_spec x1 x2 x3 l4 l5 l6 x7 x8 l9 l10 l11 v4 v5 v6 v9 v10 v11 h hv4 hv5 hv6 hv9 hv10 hv11 _ e12) trivial))))))))))))))))))))))))))) (hr := by kernel_rfl)⟩
        · refine bind_opt fun y33 e33 => ?_
          obtain ⟨u34_0, h34, q34, zu34_0, c34⟩ := F42_spec x1 x2 x3 l4 l5 l6 x7 x8 l9 l10 l11 v4 v5 v6 v9 v10 v11 h30 (Heapy.wf hp30) (SlE.mono hv4 (Heapy.sub hp30) (E81_mono (Heapy.sub hp30))) (SlE.mono hv5 (Heapy.sub hp30) (E38_mono (Heapy.sub hp30))) (SlE.mono hv6 (Heapy.sub hp30) (E35_mono (Heapy.sub hp30))) (SlE.mono hv9 (Heapy.sub hp30) (E3_mono (Heapy.sub hp30))) (SlE.mono hv10 (Heapy.sub hp30) (E3_mono (Heapy.sub hp30))) (SlE.mono hv11 (Heapy.sub hp30) (E3_mono (Heapy.sub hp30))) _ e33
          have hp34 : Heapy h h34 [⟨u34_0, 106, 2, List.flatMap enc106 y33⟩, ⟨u30_0, 3, 1, List.flatMap enc3 y29⟩] := Heapy.call hp30 q34
          refine dec_bif (fun c36 => ?_) (fun c36 => ?_)
          · intro hr
            obtain rfl := Option.some.inj hr
            exact ⟨h34, Heapy.pick hp34 [] (by decide), pFun_sound good tab_ok (f := 14) (its := [.g, .g, .g, .g, .g, (.c (.bool y12) h), .g, (.b false), .g, .g, .g, .g, .n, .n, .n, (.p false), .g, .g, .g, (.w .g), (.w .g), (.w .g), (.w .g), (.w .g), .g, .g, (.w .g), (.w .g), (.w (.c ((sv u30_0)) h30)), (.w (.ln y29.length)), (.w .g), (.p false), .g, (.w .g), (.w .g), (.w (.c ((sv u34_0)) h34)), (.w (.ln y33.length)), (.w .g), (.p false), (.b true), .g]) (args := [.agg #[.int .i64 x1, .int .i64 x2, .bool x3, (sv v4), (sv v5), (sv v6)], .agg #[.int .i64 x7, .int .i64 x8, (sv v9), (sv v10), (sv v11)]]) (h := h) (h' := h34) (v := .int .i64 20) (hC := (ai c36 (ai c32 (ai (g_ff c32) (ai (SlE.len (Heapy.sle (v := u34_0) (xs := y33) (enc := enc106) hp34 0 rfl (fun _ => rfl) (by decide))) (ai (g_ff c32) (ai c34 (ai (g_ff c32) (ai (g_ff c32) (ai (g_ff c32) (ai c28 (ai (g_ff c28) (ai (SlE.len (Heapy.sle (v := u30_0) (xs := y29) (enc := enc3) hp30 0 rfl (fun _ => rfl) (by decide))) (ai (g_ff c28) (ai c30 (ai (g_ff c28) (ai (g_ff c28) (ai (g_ff c28) (ai (g_ff l_f) (ai (g_ff l_f) (ai (g_ff l_f) (ai (g_ff l_f) (ai (g_ff l_f) (ai c15 (ai (g_ft c15) (ai (g_ft c15) (ai (g_ft c15) (ai c14 (ai (F36_spec x1 x2 x3 l4 l5 l6 x7 x8 l9 l10 l11 v4 v5 v6 v9 v10 v11 h hv4 hv5 hv6 hv9 hv10 hv11 _ e12) trivial))))))))))))))))))))))))))))) (hr := by kernel_rfl)⟩
          · intro hr
            obtain rfl := Option.some.inj hr
            exact ⟨h34, Heapy.pick hp34 [] (by decide), pFun_sound good tab_ok (f := 14) (its := [.g, .g, .g, .g, .g, (.c (.bool y12) h), .g, (.b false), .g, .g, .g, .g, .n, .n, .n, (.p false), .g, .g, .g, (.w .g), (.w .g), (.w .g), (.w .g), (.w .g), .g, .g, (.w .g), (.w .g), (.w (.c ((sv u30_0)) h30)), (.w (.ln y29.length)), (.w .g), (.p false), .g, (.w .g), (.w .g), (.w (.c ((sv u34_0)) h34)), (.w (.ln y33.length)), (.w .g), (.p false), (.b false), .g]) (args := [.agg #[.int .i64 x1, .int .i64 x2, .bool x3, (sv v4), (sv v5), (sv v6)], .agg #[.int .i64 x7, .int .i64 x8, (sv v9), (sv v10), (sv v11)]]) (h := h) (h' := h34) (v := .int .i64 0) (hC := (ai c36 (ai c32 (ai (g_ff c32) (ai (SlE.len (Heapy.sle (v := u34_0) (xs := y33) (enc := enc106) hp34 0 rfl (fun _ => rfl) (by decide))) (ai (g_ff c32) (ai c34 (ai (g_ff c32) (ai (g_ff c32) (ai (g_ff c32) (ai c28 (ai (g_ff c28) (ai (SlE.len (Heapy.sle (v := u30_0) (xs := y29) (enc := enc3) hp30 0 rfl (fun _ => rfl) (by decide))) (ai (g_ff c28) (ai c30 (ai (g_ff c28) (ai (g_ff c28) (ai (g_ff c28) (ai (g_ff l_f) (ai (g_ff l_f) (ai (g_ff l_f) (ai (g_ff l_f) (ai (g_ff l_f) (ai c15 (ai (g_ft c15) (ai (g_ft c15) (ai (g_ft c15) (ai c14 (ai (F36_spec x1 x2 x3 l4 l5 l6 x7 x8 l9 l10 l11 v4 v5 v6 v9 v10 v11 h hv4 hv5 hv6 hv9 hv10 hv11 _ e12) trivial))))))))))))))))))))))))))))) (hr := by kernel_rfl)⟩
end
end Go.Proofs.Ytmncgnjginibiaa.Abs
