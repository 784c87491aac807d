/-
  Contracts, written by program: for each function what its call yields, and that it yields it.
-/
import Derived.Test.YtimeninncpmaeaaBab
namespace Go.Proofs.Ytimeninncpmaeaa.Abs
open Go
set_option linter.unusedVariables false
set_option linter.unusedSimpArgs false

noncomputable section
/-! 38 jacquard/jacquardref30.Positive -/
def F38_L : List Nat := []
def F38_D : List (Nat × List (Nat × Nat)) := [(13, [(0, 2), (1, 2), (2, 2), (3, 2), (4, 2), (5, 2), (6, 2), (7, 2), (8, 2), (9, 2), (10, 2), (11, 2), (12, 2), (13, 2)]), (18, [(0, 2), (1, 2), (2, 2), (3, 2), (4, 2), (5, 2), (6, 2), (7, 2), (8, 2), (9, 2), (10, 2), (11, 2), (12, 2), (13, 2), (14, 2), (15, 2), (16, 2)])]
def F38_m1_2 : List Bool := (true :: false :: true :: false :: (rp 6 true (false :: (rp 100 true []))))
def F38_m1_1 : List Bool := (false :: false :: false :: false :: (rp 6 true (false :: (rp 5 true (false :: false :: (rp 93 true []))))))
def F38_m1_0 : List Bool := (rp 8 true (false :: false :: (rp 101 true [])))
def F38_s1 (x1 : Int) (l2 : List (Int × Int × Int × Int)) (x3 : Int) (l4 : List Int) (a5 : Int) (a6 : Int) : Option ((Int × Int) ⊕ (Nat × Int)) :=
  (bif decide (a6 < (l4.length : Int)) then
   (Option.bind (at? l4 a6) fun y8 =>
   (bif decide (y8 < 0) then
    some (.inr (0, 0))
   else
    (bif decide (y8 ≥ (l2.length : Int)) then
     some (.inr (0, 0))
    else
     (Option.bind (at? l2 y8) fun y11 =>
     (bif (!(F55 x1 y11.1 y11.2.1 y11.2.2.1 y11.2.2.2)) then
      some (.inr (0, 0))
     else
      some (.inl ((IntKind.i64.wrap (a5 + (F56 y11.1 y11.2.1 y11.2.2.1 y11.2.2.2 x3))), (IntKind.i64.wrap (a6 + 1)))))))))
  else
   some (.inr (1, a5)))
def F38_h1 (h : AHeap) (x1 : Int) (v2 : Hd) (x3 : Int) (l4 : List Int) (v4 : Hd)  (a5 : Int) (a6 : Int) : AS := ⟨((.int .i64 x1) :: (sv v2) :: (.int .i64 x3) :: (sv v4) :: (rp 6 junk ((.int .i64 a5) :: (rp 5 junk ((.int .i64 (l4.length : Int)) :: (.int .i64 a6) :: (rp 93 junk [])))))), [], h⟩
theorem F38_d1 : drawsOk F38_D (codeOf Try.prog 38 [1, 1, 0, 1, 0, 0]) = true := by kernel_rfl
def F38_x1_0 (h : AHeap) (v2 : Hd) (v4 : Hd)  (r : Nat × Int) : AS := ⟨(rp 8 junk ((.int .i64 0) :: (.bool false) :: (rp 101 junk []))), [], h⟩
def F38_x1_1 (h : AHeap) (v2 : Hd) (v4 : Hd)  (r : Nat × Int) : AS := ⟨(junk :: (sv v2) :: junk :: (sv v4) :: (rp 6 junk ((.int .i64 r.2) :: (rp 100 junk [])))), [], h⟩
def F38_x1 (h : AHeap) (v2 : Hd) (v4 : Hd) (r : Nat × Int) : Exit × AS := (bif Nat.beq r.1 0 then (.ret, (F38_x1_0 h v2 v4 r)) else ((.exit 0), (F38_x1_1 h v2 v4 r)))
set_option maxRecDepth 100000 in
theorem F38_r1 (h : AHeap) (x1 : Int) (l2 : List (Int × Int × Int × Int)) (v2 : Hd) (hv2 : SlE E57 4 h (sv v2) l2) (x3 : Int) (l4 : List Int) (v4 : Hd) (hv4 : SlE E3 1 h (sv v4) l4) (a5 : Int) (a6 : Int) (o : (Int × Int) ⊕ (Nat × Int)) : F38_s1 x1 l2 x3 l4 a5 a6 = some o → RdF Try.prog (codeOf Try.prog 38 [1, 1, 0, 1, 0, 0]) (fun (s : Int × Int) => (F38_h1 h x1 v2 x3 l4 v4 s.1 s.2)) (F38_x1 h v2 v4) (F38_h1 h x1 v2 x3 l4 v4 a5 a6) o := by
  unfold F38_s1
  refine dec_bif (fun c7 => ?_) (fun c7 => ?_)
  · refine bind_opt fun y8 e8 => ?_
    obtain ⟨id8, off8, g8, cs8, ix8, at8, rfl⟩ := SlE.at hv4 e8
    have kc9 := (ai (At.one (P := Try.prog) (t := 3) (v := .int .i64 y8) at8 (by kernel_rfl) 0 rfl rfl) (ai ix8 (ai c7 trivial)))
    refine dec_bif (fun c9 => ?_) (fun c9 => ?_)
    · intro hr
      obtain rfl := Option.some.inj hr
      show AWp Try.prog _ (Ends1 ((F38_x1 h v2 v4) ((0, 0) : Nat × Int)).1 ((F38_x1 h v2 v4) ((0, 0) : Nat × Int)).2) _
      exact pEnd_sound good (L := F38_L) (D := F38_D) (its := [.g, (.b true), .g, .g, .g, .g, (.ix id8 off8 g8), (.ld (.int .i64 y8)), .g, .g, .n, .n, .n, .n, .n, .n, .n, (.p true), .g, .n, .n, .n, .n, .n, .n, .n, .n, .n, .n, .g, (.b true), .g, .g]) (ds := F38_m1_0) (ks := []) (e := ((F38_x1 h v2 v4) ((0, 0) : Nat × Int)).1) (s2 := ((F38_x1 h v2 v4) ((0, 0) : Nat × Int)).2) (hC := (ai l_t (ai (g_tf l_t) (ai (g_tf l_t) (ai (g_tf l_t) (ai (g_tf l_t) (ai (g_tf l_t) (ai (g_tf l_t) (ai (g_tf l_t) (ai (g_tf l_t) (ai (g_tf l_t) (ai (g_tf l_t) (ai c9 (ai (g_tf c9) (ai (g_tf c9) (ai (g_tf c9) (ai (g_tf c9) (ai (g_tf c9) (ai (g_tf c9) (ai (g_tf c9) kc9)))))))))))))))))))) (hd := F38_d1) (h := by kernel_rfl)
    · have kc10 := (ai c9 (ai (g_ff c9) (ai (SlE.len hv2) (ai (g_ff c9) (ai (g_ff c9) (ai (At.one (P := Try.prog) (t := 3) (v := .int .i64 y8) at8 (by kernel_rfl) 0 rfl rfl) (ai (g_ff c9) (ai ix8 (ai (g_ff c9) (ai (g_ff c9) (ai (g_ff c9) kc9)))))))))))
      refine dec_bif (fun c10 => ?_) (fun c10 => ?_)
      · intro hr
        obtain rfl := Option.some.inj hr
        show AWp Try.prog _ (Ends1 ((F38_x1 h v2 v4) ((0, 0) : Nat × Int)).1 ((F38_x1 h v2 v4) ((0, 0) : Nat × Int)).2) _
        exact pEnd_sound good (L := F38_L) (D := F38_D) (its := [.g, (.b true), .g, .g, .g, .g, (.ix id8 off8 g8), (.ld (.int .i64 y8)), .g, .g, (.w .g), (.w .g), (.w (.ix id8 off8 g8)), (.w (.ld (.int .i64 y8))), (.w .g), (.w (.ln l2.length)), (.w .g), (.p false), .g, .n, .n, .n, .n, .n, .n, .n, .n, .n, .n, (.p true), (.b true), .g, .g]) (ds := F38_m1_0) (ks := []) (e := ((F38_x1 h v2 v4) ((0, 0) : Nat × Int)).1) (s2 := ((F38_x1 h v2 v4) ((0, 0) : Nat × Int)).2) (hC := (ai l_t (ai c10 (ai (g_tf c10) (ai (g_tf c10) (ai (g_tf c10) (ai (g_tf c10) (ai (g_tf c10) (ai (g_tf c10) (ai (g_tf c10) (ai (g_tf c10) (ai (g_tf c10) (ai (g_tf c10) kc10))))))))))))) (hd := F38_d1) (h := by kernel_rfl)
      · refine bind_opt fun y11 e11 => ?_
        obtain ⟨id11, off11, g11, cs11, ix11, at11, rfl⟩ := SlE.at hv2 e11
        have kc13 := (ai c10 (ai (g_ff c10) (ai (F55_spec x1 y11.1 y11.2.1 y11.2.2.1 y11.2.2.2 h _ rfl) (ai (g_ff c10) (ai (At.agg (P := Try.prog) (t := 57) (v := .agg #[.int .i64 y11.1, .int .i64 y11.2.1, .int .i64 y11.2.2.1, .int .i64 y11.2.2.2]) (m := 4) at11 (by kernel_rfl) (by kernel_rfl) 0 (by kernel_rfl) rfl) (ai (g_ff c10) (ai ix11 (ai (g_ff c10) (ai (At.one (P := Try.prog) (t := 3) (v := .int .i64 y8) at8 (by kernel_rfl) 0 rfl rfl) (ai (g_ff c10) (ai ix8 (ai (g_ff c10) (ai (g_ff c10) (ai (g_ff c10) (ai (g_ff c10) (ai (g_ff c10) kc10))))))))))))))))
        refine dec_bif (fun c13 => ?_) (fun c13 => ?_)
        · intro hr
          obtain rfl := Option.some.inj hr
          show AWp Try.prog _ (Ends1 ((F38_x1 h v2 v4) ((0, 0) : Nat × Int)).1 ((F38_x1 h v2 v4) ((0, 0) : Nat × Int)).2) _
          exact pEnd_sound good (L := F38_L) (D := F38_D) (its := [.g, (.b true), .g, .g, .g, .g, (.ix id8 off8 g8), (.ld (.int .i64 y8)), .g, .g, (.w .g), (.w .g), (.w (.ix id8 off8 g8)), (.w (.ld (.int .i64 y8))), (.w .g), (.w (.ln l2.length)), (.w .g), (.p false), .g, (.w .g), (.w .g), (.w .g), (.w .g), (.w (.ix id8 off8 g8)), (.w (.ld (.int .i64 y8))), (.w (.ix id11 off11 g11)), (.w (.ld (.agg #[.int .i64 y11.1, .int .i64 y11.2.1, .int .i64 y11.2.2.1, .int .i64 y11.2.2.2]))), (.w (.c (.bool (F55 x1 y11.1 y11.2.1 y11.2.2.1 y11.2.2.2)) h)), (.w .g), (.p false), (.b true), .g, .g]) (ds := F38_m1_0) (ks := []) (e := ((F38_x1 h v2 v4) ((0, 0) : Nat × Int)).1) (s2 := ((F38_x1 h v2 v4) ((0, 0) : Nat × Int)).2) (hC := (ai c13 kc13)) (hd := F38_d1) (h := by kernel_rfl)
        · intro hr
          obtain rfl := Option.some.inj hr
          show AWp Try.prog _ (Ends1 .normal (F38_h1 h x1 v2 x3 l4 v4 (IntKind.i64.wrap (a5 + (F56 y11.1 y11.2.1 y11.2.2.1 y11.2.2.2 x3))) (IntKind.i64.wrap (a6 + 1)))) _
          exact pEnd_sound good (L := F38_L) (D := F38_D) (its := [.g, (.b true), .g, .g, .g, .g, (.ix id8 off8 g8), (.ld (.int .i64 y8)), .g, .g, (.w .g), (.w .g), (.w (.ix id8 off8 g8)), (.w (.ld (.int .i64 y8))), (.w .g), (.w (.ln l2.length)), (.w .g), (.p false), .g, (.w .g), (.w .g), (.w .g), (.w .g), (.w (.ix id8 off8 g8)), (.w (.ld (.int .i64 y8))), (.w (.ix id11 off11 g11)), (.w (.ld (.agg #[.int .i64 y11.1, .int .i64 y11.2.1, .int .i64 y11.2.2.1, .int .i64 y11.2.2.2]))), (.w (.c (.bool (F55 x1 y11.1 y11.2.1 y11.2.2.1 y11.2.2.2)) h)), (.w .g), (.p false), (.b false), .g, .g, .g, .g, (.ix id8 off8 g8), (.ld (.int .i64 y8)), (.ix id11 off11 g11), (.ld (.agg #[.int .i64 y11.1, .int .i64 y11.2.1, .int .i64 y11.2.2.1, .int .i64 y11.2.2.2])), .g, (.c (.int .i64 (F56 y11.1 y11.2.1 y11.2.2.1 y11.2.2.2 x3)) h), .g, .g, .g, .g]) (ds := F38_m1_1) (ks := []) (e := .normal) (s2 := (F38_h1 h x1 v2 x3 l4 v4 (IntKind.i64.wrap (a5 + (F56 y11.1 y11.2.1 y11.2.2.1 y11.2.2.2 x3))) (IntKind.i64.wrap (a6 + 1)))) (hC := (ai (F56_spec y11.1 y11.2.1 y11.2.2.1 y11.2.2.2 x3 h _ rfl) (ai (At.agg (P := Try.prog) (t := 57) (v := .agg #[.int .i64 y11.1, .int .i64 y11.2.1, .int .i64 y11.2.2.1, .int .i64 y11.2.2.2]) (m := 4) at11 (by kernel_rfl) (by kernel_rfl) 0 (by kernel_rfl) rfl) (ai ix11 (ai (At.one (P := Try.prog) (t := 3) (v := .int .i64 y8) at8 (by kernel_rfl) 0 rfl rfl) (ai ix8 (ai c13 kc13))))))) (hd := F38_d1) (h := by kernel_rfl)
  · intro hr
    obtain rfl := Option.some.inj hr
    show AWp Try.prog _ (Ends1 ((F38_x1 h v2 v4) ((1, a5) : Nat × Int)).1 ((F38_x1 h v2 v4) ((1, a5) : Nat × Int)).2) _
    exact pEnd_sound good (L := F38_L) (D := F38_D) (its := [.g, (.b false)]) (ds := F38_m1_2) (ks := []) (e := ((F38_x1 h v2 v4) ((1, a5) : Nat × Int)).1) (s2 := ((F38_x1 h v2 v4) ((1, a5) : Nat × Int)).2) (hC := (ai c7 trivial)) (hd := F38_d1) (h := by kernel_rfl)
theorem F38_l1_0 (h : AHeap) (x1 : Int) (l2 : List (Int × Int × Int × Int)) (v2 : Hd) (hv2 : SlE E57 4 h (sv v2) l2) (x3 : Int) (l4 : List Int) (v4 : Hd) (hv4 : SlE E3 1 h (sv v4) l4) (x : Int × Int) (r : Nat × Int) (hl : loopO (fun (s : Int × Int) => F38_s1 x1 l2 x3 l4 s.1 s.2) x = some r) (q0 : Nat.beq r.1 0 = true) : AWp Try.prog (.loop (codeOf Try.prog 38 [1, 1, 0, 1, 0, 0])) (Ends1 .ret (F38_x1_0 h v2 v4 r)) ((fun (s : Int × Int) => (F38_h1 h x1 v2 x3 l4 v4 s.1 s.2)) x) := by
  have k := loop_fun (P := Try.prog) (c := (codeOf Try.prog 38 [1, 1, 0, 1, 0, 0])) (step := (fun (s : Int × Int) => F38_s1 x1 l2 x3 l4 s.1 s.2)) (hd := (fun (s : Int × Int) => (F38_h1 h x1 v2 x3 l4 v4 s.1 s.2))) (X := (F38_x1 h v2 v4)) (by intro t; unfold F38_x1; cases Nat.beq t.1 0 <;> (intro h; cases h)) (fun x => F38_r1 h x1 l2 v2 hv2 x3 l4 v4 hv4 x.1 x.2) hl
  simp only [F38_x1, q0, cond_true, cond_false] at k
  exact k
theorem F38_l1_1 (h : AHeap) (x1 : Int) (l2 : List (Int × Int × Int × Int)) (v2 : Hd) (hv2 : SlE E57 4 h (sv v2) l2) (x3 : Int) (l4 : List Int) (v4 : Hd) (hv4 : SlE E3 1 h (sv v4) l4) (x : Int × Int) (r : Nat × Int) (hl : loopO (fun (s : Int × Int) => F38_s1 x1 l2 x3 l4 s.1 s.2) x = some r) (q0 : Nat.beq r.1 0 = false) : AWp Try.prog (.loop (codeOf Try.prog 38 [1, 1, 0, 1, 0, 0])) (Ends1 (.exit 0) (F38_x1_1 h v2 v4 r)) ((fun (s : Int × Int) => (F38_h1 h x1 v2 x3 l4 v4 s.1 s.2)) x) := by
  have k := loop_fun (P := Try.prog) (c := (codeOf Try.prog 38 [1, 1, 0, 1, 0, 0])) (step := (fun (s : Int × Int) => F38_s1 x1 l2 x3 l4 s.1 s.2)) (hd := (fun (s : Int × Int) => (F38_h1 h x1 v2 x3 l4 v4 s.1 s.2))) (X := (F38_x1 h v2 v4)) (by intro t; unfold F38_x1; cases Nat.beq t.1 0 <;> (intro h; cases h)) (fun x => F38_r1 h x1 l2 v2 hv2 x3 l4 v4 hv4 x.1 x.2) hl
  simp only [F38_x1, q0, cond_true, cond_false] at k
  exact k
def F38_m2_2 : List Bool := (true :: false :: true :: false :: (rp 6 true (false :: (rp 48 true (false :: false :: (rp 50 true []))))))
def F38_m2_1 : List Bool := (true :: false :: true :: false :: (rp 6 true (false :: true :: false :: (rp 46 true (false :: false :: (rp 24 true (false :: false :: (rp 24 true []))))))))
def F38_m2_0 : List Bool := (rp 8 true (false :: false :: (rp 101 true [])))
def F38_s2 (l2 : List (Int × Int × Int × Int)) (l4 : List Int) (a17 : Int) (y22 : Int × Int × Int × Int) (a25 : Int) : Option (Int ⊕ Nat) :=
  (bif decide (a25 < a17) then
   (Option.bind (at? l4 a25) fun y27 =>
   (Option.bind (at? l2 y27) fun y28 =>
   (bif (y28.1 == y22.1) then
    some (.inr 0)
   else
    some (.inl (IntKind.i64.wrap (a25 + 1))))))
  else
   some (.inr 1))
def F38_h2 (h : AHeap) (v2 : Hd) (l4 : List Int) (v4 : Hd) (y15 : Nat × Int) (a17 : Int)  (a25 : Int) : AS := ⟨(junk :: (sv v2) :: junk :: (sv v4) :: (rp 6 junk ((.int .i64 y15.2) :: junk :: (.int .i64 a17) :: (rp 46 junk ((.int .i64 (l4.length : Int)) :: (.int .i64 a17) :: (rp 24 junk ((.int .i64 a17) :: (.int .i64 a25) :: (rp 24 junk [])))))))), [], h⟩
theorem F38_d2 : drawsOk F38_D (codeOf Try.prog 38 [1, 1, 1, 0, 1, 0, 0, 1, 1, 0, 0, 1, 1, 1, 1, 0, 0]) = true := by kernel_rfl
def F38_x2_0 (h : AHeap) (v2 : Hd) (l4 : List Int) (v4 : Hd) (y15 : Nat × Int) (a17 : Int)  (r : Nat) : AS := ⟨(rp 8 junk ((.int .i64 0) :: (.bool false) :: (rp 101 junk []))), [], h⟩
def F38_x2_1 (h : AHeap) (v2 : Hd) (l4 : List Int) (v4 : Hd) (y15 : Nat × Int) (a17 : Int)  (r : Nat) : AS := ⟨(junk :: (sv v2) :: junk :: (sv v4) :: (rp 6 junk ((.int .i64 y15.2) :: (rp 48 junk ((.int .i64 (l4.length : Int)) :: (.int .i64 a17) :: (rp 50 junk [])))))), [], h⟩
def F38_x2 (h : AHeap) (v2 : Hd) (l4 : List Int) (v4 : Hd) (y15 : Nat × Int) (a17 : Int) (r : Nat) : Exit × AS := (bif Nat.beq r 0 then (.ret, (F38_x2_0 h v2 l4 v4 y15 a17 r)) else ((.exit 4), (F38_x2_1 h v2 l4 v4 y15 a17 r)))
set_option maxRecDepth 100000 in
theorem F38_r2 (h : AHeap) (l2 : List (Int × Int × Int × Int)) (v2 : Hd) (hv2 : SlE E57 4 h (sv v2) l2) (l4 : List Int) (v4 : Hd) (hv4 : SlE E3 1 h (sv v4) l4) (y15 : Nat × Int) (a17 : Int) (y21 : Int) (id21 : Nat) (off21 : Nat) (g21 : Nat) (ix21 : ixv 1 (sv v4) a17 = some (id21, off21, g21)) (at21 : At h id21 off21 g21 (enc3 y21)) (y22 : Int × Int × Int × Int) (id22 : Nat) (off22 : Nat) (g22 : Nat) (ix22 : ixv 4 (sv v2) y21 = some (id22, off22, g22)) (at22 : At h id22 off22 g22 (enc57 y22)) (a25 : Int) (o : Int ⊕ Nat) : F38_s2 l2 l4 a17 y22 a25 = some o → RdF Try.prog (codeOf Try.prog 38 [1, 1, 1, 0, 1, 0, 0, 1, 1, 0, 0, 1, 1, 1, 1, 0, 0]) (fun (s : Int) => (F38_h2 h v2 l4 v4 y15 a17 s)) (F38_x2 h v2 l4 v4 y15 a17) (F38_h2 h v2 l4 v4 y15 a17 a25) o := by
  unfold F38_s2
  refine dec_bif (fun c26 => ?_) (fun c26 => ?_)
  · refine bind_opt fun y27 e27 => ?_
    obtain ⟨id27, off27, g27, cs27, ix27, at27, rfl⟩ := SlE.at hv4 e27
    refine bind_opt fun y28 e28 => ?_
    obtain ⟨id28, off28, g28, cs28, ix28, at28, rfl⟩ := SlE.at hv2 e28
    have kc29 := (ai (At.one (P := Try.prog) (t := 3) (v := .int .i64 y22.1) at22 (by kernel_rfl) 0 rfl rfl) (ai ix22 (ai (At.one (P := Try.prog) (t := 3) (v := .int .i64 y21) at21 (by kernel_rfl) 0 rfl rfl) (ai ix21 (ai (At.one (P := Try.prog) (t := 3) (v := .int .i64 y28.1) at28 (by kernel_rfl) 0 rfl rfl) (ai ix28 (ai (At.one (P := Try.prog) (t := 3) (v := .int .i64 y27) at27 (by kernel_rfl) 0 rfl rfl) (ai ix27 (ai c26 trivial)))))))))
    refine dec_bif (fun c29 => ?_) (fun c29 => ?_)
    · intro hr
      obtain rfl := Option.some.inj hr
      show AWp Try.prog _ (Ends1 ((F38_x2 h v2 l4 v4 y15 a17) (0 : Nat)).1 ((F38_x2 h v2 l4 v4 y15 a17) (0 : Nat)).2) _
      exact pEnd_sound good (L := F38_L) (D := F38_D) (its := [.g, (.b true), .g, .g, .g, .g, .g, (.ix id27 off27 g27), (.ld (.int .i64 y27)), (.ix id28 off28 g28), .g, (.ld (.int .i64 y28.1)), .g, .g, .g, (.ix id21 off21 g21), (.ld (.int .i64 y21)), (.ix id22 off22 g22), .g, (.ld (.int .i64 y22.1)), .g, (.b true), .g, .g]) (ds := F38_m2_0) (ks := []) (e := ((F38_x2 h v2 l4 v4 y15 a17) (0 : Nat)).1) (s2 := ((F38_x2 h v2 l4 v4 y15 a17) (0 : Nat)).2) (hC := (ai c29 kc29)) (hd := F38_d2) (h := by kernel_rfl)
    · intro hr
      obtain rfl := Option.some.inj hr
      show AWp Try.prog _ (Ends1 .normal (F38_h2 h v2 l4 v4 y15 a17 (IntKind.i64.wrap (a25 + 1)))) _
      exact pEnd_sound good (L := F38_L) (D := F38_D) (its := [.g, (.b true), .g, .g, .g, .g, .g, (.ix id27 off27 g27), (.ld (.int .i64 y27)), (.ix id28 off28 g28), .g, (.ld (.int .i64 y28.1)), .g, .g, .g, (.ix id21 off21 g21), (.ld (.int .i64 y21)), (.ix id22 off22 g22), .g, (.ld (.int .i64 y22.1)), .g, (.b false), .g, .g]) (ds := F38_m2_1) (ks := []) (e := .normal) (s2 := (F38_h2 h v2 l4 v4 y15 a17 (IntKind.i64.wrap (a25 + 1)))) (hC := (ai c29 kc29)) (hd := F38_d2) (h := by kernel_rfl)
  · intro hr
    obtain rfl := Option.some.inj hr
    show AWp Try.prog _ (Ends1 ((F38_x2 h v2 l4 v4 y15 a17) (1 : Nat)).1 ((F38_x2 h v2 l4 v4 y15 a17) (1 : Nat)).2) _
    exact pEnd_sound good (L := F38_L) (D := F38_D) (its := [.g, (.b false)]) (ds := F38_m2_2) (ks := []) (e := ((F38_x2 h v2 l4 v4 y15 a17) (1 : Nat)).1) (s2 := ((F38_x2 h v2 l4 v4 y15 a17) (1 : Nat)).2) (hC := (ai c26 trivial)) (hd := F38_d2) (h := by kernel_rfl)
theorem F38_l2_0 (h : AHeap) (l2 : List (Int × Int × Int × Int)) (v2 : Hd) (hv2 : SlE E57 4 h (sv v2) l2) (l4 : List Int) (v4 : Hd) (hv4 : SlE E3 1 h (sv v4) l4) (y15 : Nat × Int) (a17 : Int) (y21 : Int) (id21 : Nat) (off21 : Nat) (g21 : Nat) (ix21 : ixv 1 (sv v4) a17 = some (id21, off21, g21)) (at21 : At h id21 off21 g21 (enc3 y21)) (y22 : Int × Int × Int × Int) (id22 : Nat) (off22 : Nat) (g22 : Nat) (ix22 : ixv 4 (sv v2) y21 = some (id22, off22, g22)) (at22 : At h id22 off22 g22 (enc57 y22)) (x : Int) (r : Nat) (hl : loopO (fun (s : Int) => F38_s2 l2 l4 a17 y22 s) x = some r) (q0 : Nat.beq r 0 = true) : AWp Try.prog (.loop (codeOf Try.prog 38 [1, 1, 1, 0, 1, 0, 0, 1, 1, 0, 0, 1, 1, 1, 1, 0, 0])) (Ends1 .ret (F38_x2_0 h v2 l4 v4 y15 a17 r)) ((fun (s : Int) => (F38_h2 h v2 l4 v4 y15 a17 s)) x) := by
  have k := loop_fun (P := Try.prog) (c := (codeOf Try.prog 38 [1, 1, 1, 0, 1, 0, 0, 1, 1, 0, 0, 1, 1, 1, 1, 0, 0])) (step := (fun (s : Int) => F38_s2 l2 l4 a17 y22 s)) (hd := (fun (s : Int) => (F38_h2 h v2 l4 v4 y15 a17 s))) (X := (F38_x2 h v2 l4 v4 y15 a17)) (by intro t; unfold F38_x2; cases Nat.beq t 0 <;> (intro h; cases h)) (fun x => F38_r2 h l2 v2 hv2 l4 v4 hv4 y15 a17 y21 id21 off21 g21 ix21 at21 y22 id22 off22 g22 ix22 at22 x) hl
  simp only [F38_x2, q0, cond_true, cond_false] at k
  exact k
theorem F38_l2_1 (h : AHeap) (l2 : List (Int × Int × Int × Int)) (v2 : Hd) (hv2 : SlE E57 4 h (sv v2) l2) (l4 : List Int) (v4 : Hd) (hv4 : SlE E3 1 h (sv v4) l4) (y15 : Nat × Int) (a17 : Int) (y21 : Int) (id21 : Nat) (off21 : Nat) (g21 : Nat) (ix21 : ixv 1 (sv v4) a17 = some (id21, off21, g21)) (at21 : At h id21 off21 g21 (enc3 y21)) (y22 : Int × Int × Int × Int) (id22 : Nat) (off22 : Nat) (g22 : Nat) (ix22 : ixv 4 (sv v2) y21 = some (id22, off22, g22)) (at22 : At h id22 off22 g22 (enc57 y22)) (x : Int) (r : Nat) (hl : loopO (fun (s : Int) => F38_s2 l2 l4 a17 y22 s) x = some r) (q0 : Nat.beq r 0 = false) : AWp Try.prog (.loop (codeOf Try.prog 38 [1, 1, 1, 0, 1, 0, 0, 1, 1, 0, 0, 1, 1, 1, 1, 0, 0])) (Ends1 (.exit 4) (F38_x2_1 h v2 l4 v4 y15 a17 r)) ((fun (s : Int) => (F38_h2 h v2 l4 v4 y15 a17 s)) x) := by
  have k := loop_fun (P := Try.prog) (c := (codeOf Try.prog 38 [1, 1, 1, 0, 1, 0, 0, 1, 1, 0, 0, 1, 1, 1, 1, 0, 0])) (step := (fun (s : Int) => F38_s2 l2 l4 a17 y22 s)) (hd := (fun (s : Int) => (F38_h2 h v2 l4 v4 y15 a17 s))) (X := (F38_x2 h v2 l4 v4 y15 a17)) (by intro t; unfold F38_x2; cases Nat.beq t 0 <;> (intro h; cases h)) (fun x => F38_r2 h l2 v2 hv2 l4 v4 hv4 y15 a17 y21 id21 off21 g21 ix21 at21 y22 id22 off22 g22 ix22 at22 x) hl
  simp only [F38_x2, q0, cond_true, cond_false] at k
  exact k
def F38_m3_2 : List Bool := (rp 10 true (false :: (rp 100 true [])))
def F38_m3_1 : List Bool := (true :: false :: true :: false :: (rp 6 true (false :: (rp 48 true (false :: false :: (rp 50 true []))))))
def F38_m3_0 : List Bool := (rp 8 true (false :: false :: (rp 101 true [])))
def F38_s3 (l2 : List (Int × Int × Int × Int)) (l4 : List Int) (a17 : Int) : Option (Int ⊕ Nat) :=
  (bif decide (a17 < (l4.length : Int)) then
   (bif ((l4.length : Int) == 0) then none else
   (Option.bind (at? l4 ((IntKind.i64.wrap (a17 + 1)).tmod (l4.length : Int))) fun y20 =>
   (Option.bind (at? l4 a17) fun y21 =>
   (Option.bind (at? l2 y21) fun y22 =>
   (Option.bind (at? l2 y20) fun y23 =>
   (bif (y22.2.1 != y23.1) then
    some (.inr 0)
   else
    (Option.bind (loopO (fun (s : Int) => F38_s2 l2 l4 a17 y22 s) 0) fun y30 =>
    (bif (Nat.beq y30 0) then
     some (.inr 0)
    else
     some (.inl (IntKind.i64.wrap (a17 + 1)))))))))))
  else
   some (.inr 1))
def F38_h3 (h : AHeap) (v2 : Hd) (l4 : List Int) (v4 : Hd) (y15 : Nat × Int)  (a17 : Int) : AS := ⟨(junk :: (sv v2) :: junk :: (sv v4) :: (rp 6 junk ((.int .i64 y15.2) :: (rp 48 junk ((.int .i64 (l4.length : Int)) :: (.int .i64 a17) :: (rp 50 junk [])))))), [], h⟩
theorem F38_d3 : drawsOk F38_D (codeOf Try.prog 38 [1, 1, 1, 0, 1, 0, 0]) = true := by kernel_rfl
def F38_x3_0 (h : AHeap) (y15 : Nat × Int)  (r : Nat) : AS := ⟨(rp 8 junk ((.int .i64 0) :: (.bool false) :: (rp 101 junk []))), [], h⟩
def F38_x3_1 (h : AHeap) (y15 : Nat × Int)  (r : Nat) : AS := ⟨(rp 10 junk ((.int .i64 y15.2) :: (rp 100 junk []))), [], h⟩
def F38_x3 (h : AHeap) (y15 : Nat × Int) (r : Nat) : Exit × AS := (bif Nat.beq r 0 then (.ret, (F38_x3_0 h y15 r)) else ((.exit 2), (F38_x3_1 h y15 r)))
set_option maxRecDepth 100000 in
theorem F38_r3 (h : AHeap) (l2 : List (Int × Int × Int × Int)) (v2 : Hd) (hv2 : SlE E57 4 h (sv v2) l2) (l4 : List Int) (v4 : Hd) (hv4 : SlE E3 1 h (sv v4) l4) (y15 : Nat × Int) (a17 : Int) (o : Int ⊕ Nat) : F38_s3 l2 l4 a17 = some o → RdF Try.prog (codeOf Try.prog 38 [1, 1, 1, 0, 1, 0, 0]) (fun (s : Int) => (F38_h3 h v2 l4 v4 y15 s)) (F38_x3 h y15) (F38_h3 h v2 l4 v4 y15 a17) o := by
  unfold F38_s3
  refine dec_bif (fun c18 => ?_) (fun c18 => ?_)
  · refine guard_ok fun g19 => ?_
    refine bind_opt fun y20 e20 => ?_
    obtain ⟨id20, off20, g20, cs20, ix20, at20, rfl⟩ := SlE.at hv4 e20
    refine bind_opt fun y21 e21 => ?_
    obtain ⟨id21, off21, g21, cs21, ix21, at21, rfl⟩ := SlE.at hv4 e21
    refine bind_opt fun y22 e22 => ?_
    obtain ⟨id22, off22, g22, cs22, ix22, at22, rfl⟩ := SlE.at hv2 e22
    refine bind_opt fun y23 e23 => ?_
    obtain ⟨id23, off23, g23, cs23, ix23, at23, rfl⟩ := SlE.at hv2 e23
    have kc24 := (ai (At.one (P := Try.prog) (t := 3) (v := .int .i64 y23.1) at23 (by kernel_rfl) 0 rfl rfl) (ai ix23 (ai (At.one (P := Try.prog) (t := 3) (v := .int .i64 y22.2.1) at22 (by kernel_rfl) 1 rfl rfl) (ai ix22 (ai (At.one (P := Try.prog) (t := 3) (v := .int .i64 y21) at21 (by kernel_rfl) 0 rfl rfl) (ai ix21 (ai (At.one (P := Try.prog) (t := 3) (v := .int .i64 y20) at20 (by kernel_rfl) 0 rfl rfl) (ai ix20 (ai (nz g19) (ai (SlE.len hv4) (ai c18 trivial)))))))))))
    refine dec_bif (fun c24 => ?_) (fun c24 => ?_)
    · intro hr
      obtain rfl := Option.some.inj hr
      show AWp Try.prog _ (Ends1 ((F38_x3 h y15) (0 : Nat)).1 ((F38_x3 h y15) (0 : Nat)).2) _
      exact pEnd_sound good (L := F38_L) (D := F38_D) (its := [.g, (.b true), .g, .g, .g, .g, .g, .g, (.ln l4.length), .d, (.ix id20 off20 g20), (.ld (.int .i64 y20)), .g, .g, .g, .g, (.ix id21 off21 g21), (.ld (.int .i64 y21)), (.ix id22 off22 g22), .g, (.ld (.int .i64 y22.2.1)), .g, .g, (.ix id23 off23 g23), .g, (.ld (.int .i64 y23.1)), .g, (.b true), .g, .g]) (ds := F38_m3_0) (ks := []) (e := ((F38_x3 h y15) (0 : Nat)).1) (s2 := ((F38_x3 h y15) (0 : Nat)).2) (hC := (ai c24 kc24)) (hd := F38_d3) (h := by kernel_rfl)
    · refine bind_opt fun y30 e30 => ?_
      have kc31 := (ai c24 kc24)
      refine dec_bif (fun c31 => ?_) (fun c31 => ?_)
      · intro hr
        obtain rfl := Option.some.inj hr
        show AWp Try.prog _ (Ends1 ((F38_x3 h y15) (0 : Nat)).1 ((F38_x3 h y15) (0 : Nat)).2) _
        exact pEnd_sound good (L := F38_L) (D := F38_D) (its := [.g, (.b true), .g, .g, .g, .g, .g, .g, (.ln l4.length), .d, (.ix id20 off20 g20), (.ld (.int .i64 y20)), .g, .g, .g, .g, (.ix id21 off21 g21), (.ld (.int .i64 y21)), (.ix id22 off22 g22), .g, (.ld (.int .i64 y22.2.1)), .g, .g, (.ix id23 off23 g23), .g, (.ld (.int .i64 y23.1)), .g, (.b false), .g, .g, (.l F38_m2_1 [] .ret (F38_x2_0 h v2 l4 v4 y15 a17 y30))]) (ds := F38_m3_0) (ks := []) (e := ((F38_x3 h y15) (0 : Nat)).1) (s2 := ((F38_x3 h y15) (0 : Nat)).2) (hC := (ai (F38_l2_0 h l2 v2 hv2 l4 v4 hv4 y15 a17 y21 id21 off21 g21 ix21 at21 y22 id22 off22 g22 ix22 at22 0 y30 e30 c31) kc31)) (hd := F38_d3) (h := by kernel_rfl)
      · intro hr
        obtain rfl := Option.some.inj hr
        show AWp Try.prog _ (Ends1 .normal (F38_h3 h v2 l4 v4 y15 (IntKind.i64.wrap (a17 + 1)))) _
        exact pEnd_sound good (L := F38_L) (D := F38_D) (its := [.g, (.b true), .g, .g, .g, .g, .g, .g, (.ln l4.length), .d, (.ix id20 off20 g20), (.ld (.int .i64 y20)), .g, .g, .g, .g, (.ix id21 off21 g21), (.ld (.int .i64 y21)), (.ix id22 off22 g22), .g, (.ld (.int .i64 y22.2.1)), .g, .g, (.ix id23 off23 g23), .g, (.ld (.int .i64 y23.1)), .g, (.b false), .g, .g, (.l F38_m2_1 [] (.exit 4) (F38_x2_1 h v2 l4 v4 y15 a17 y30)), .g, .g]) (ds := F38_m3_1) (ks := []) (e := .normal) (s2 := (F38_h3 h v2 l4 v4 y15 (IntKind.i64.wrap (a17 + 1)))) (hC := (ai (F38_l2_1 h l2 v2 hv2 l4 v4 hv4 y15 a17 y21 id21 off21 g21 ix21 at21 y22 id22 off22 g22 ix22 at22 0 y30 e30 c31) kc31)) (hd := F38_d3) (h := by kernel_rfl)
  · intro hr
    obtain rfl := Option.some.inj hr
    show AWp Try.prog _ (Ends1 ((F38_x3 h y15) (1 : Nat)).1 ((F38_x3 h y15) (1 : Nat)).2) _
    exact pEnd_sound good (L := F38_L) (D := F38_D) (its := [.g, (.b false)]) (ds := F38_m3_2) (ks := []) (e := ((F38_x3 h y15) (1 : Nat)).1) (s2 := ((F38_x3 h y15) (1 : Nat)).2) (hC := (ai c18 trivial)) (hd := F38_d3) (h := by kernel_rfl)
theorem F38_l3_0 (h : AHeap) (l2 : List (Int × Int × Int × Int)) (v2 : Hd) (hv2 : SlE E57 4 h (sv v2) l2) (l4 : List Int) (v4 : Hd) (hv4 : SlE E3 1 h (sv v4) l4) (y15 : Nat × Int) (x : Int) (r : Nat) (hl : loopO (fun (s : Int) => F38_s3 l2 l4 s) x = some r) (q0 : Nat.beq r 0 = true) : AWp Try.prog (.loop (codeOf Try.prog 38 [1, 1, 1, 0, 1, 0, 0])) (Ends1 .ret (F38_x3_0 h y15 r)) ((fun (s : Int) => (F38_h3 h v2 l4 v4 y15 s)) x) := by
  have k := loop_fun (P := Try.prog) (c := (codeOf Try.prog 38 [1, 1, 1, 0, 1, 0, 0])) (step := (fun (s : Int) => F38_s3 l2 l4 s)) (hd := (fun (s : Int) => (F38_h3 h v2 l4 v4 y15 s))) (X := (F38_x3 h y15)) (by intro t; unfold F38_x3; cases Nat.beq t 0 <;> (intro h; cases h)) (fun x => F38_r3 h l2 v2 hv2 l4 v4 hv4 y15 x) hl
  simp only [F38_x3, q0, cond_true, cond_false] at k
  exact k
theorem F38_l3_1 (h : AHeap) (l2 : List (Int × Int × Int × Int)) (v2 : Hd) (hv2 : SlE E57 4 h (sv v2) l2) (l4 : List Int) (v4 : Hd) (hv4 : SlE E3 1 h (sv v4) l4) (y15 : Nat × Int) (x : Int) (r : Nat) (hl : loopO (fun (s : Int) => F38_s3 l2 l4 s) x = some r) (q0 : Nat.beq r 0 = false) : AWp Try.prog (.loop (codeOf Try.prog 38 [1, 1, 1, 0, 1, 0, 0])) (Ends1 (.exit 2) (F38_x3_1 h y15 r)) ((fun (s : Int) => (F38_h3 h v2 l4 v4 y15 s)) x) := by
  have k := loop_fun (P := Try.prog) (c := (codeOf Try.prog 38 [1, 1, 1, 0, 1, 0, 0])) (step := (fun (s : Int) => F38_s3 l2 l4 s)) (hd := (fun (s : Int) => (F38_h3 h v2 l4 v4 y15 s))) (X := (F38_x3 h y15)) (by intro t; unfold F38_x3; cases Nat.beq t 0 <;> (intro h; cases h)) (fun x => F38_r3 h l2 v2 hv2 l4 v4 hv4 y15 x) hl
  simp only [F38_x3, q0, cond_true, cond_false] at k
  exact k
def F38 (x1 : Int) (l2 : List (Int × Int × Int × Int)) (x3 : Int) (l4 : List Int) : Option (Int × Bool) :=
  (Option.bind (loopO (fun (s : Int × Int) => F38_s1 x1 l2 x3 l4 s.1 s.2) (0, 0)) fun y15 =>
  (bif (Nat.beq y15.1 0) then
   some (0, false)
  else
   (Option.bind (loopO (fun (s : Int) => F38_s3 l2 l4 s) 0) fun y32 =>
   (bif (Nat.beq y32 0) then
    some (0, false)
   else
    some (y15.2, (decide (y15.2 > 0)))))))
set_option maxRecDepth 100000 in
theorem F38_spec (x1 : Int) (l2 : List (Int × Int × Int × Int)) (x3 : Int) (l4 : List Int) (v2 : Hd) (v4 : Hd) (h : AHeap) (hv2 : SlE E57 4 h (sv v2) l2) (hv4 : SlE E3 1 h (sv v4) l4) (r : Int × Bool) : F38 x1 l2 x3 l4 = some r → ACalls Try.prog 38 [.int .i64 x1, (sv v2), .int .i64 x3, (sv v4)] h (fun v' h'' => v' = (.tuple #[.int .i64 r.1, .bool r.2] : Value) ∧ h'' = h) := by
  unfold F38
  refine bind_opt fun y15 e15 => ?_
  have kc16 := (ai (SlE.len hv4) trivial)
  refine dec_bif (fun c16 => ?_) (fun c16 => ?_)
  · intro hr
    obtain rfl := Option.some.inj hr
    exact pFun_sound good tab_ok (f := 38) (its := [.g, .g, .g, .g, (.ln l4.length), .g, (.l F38_m1_1 [] .ret (F38_x1_0 h v2 v4 y15))]) (args := [.int .i64 x1, (sv v2), .int .i64 x3, (sv v4)]) (h := h) (h' := h) (v := .tuple #[.int .i64 0, .bool false]) (hC := (ai (F38_l1_0 h x1 l2 v2 hv2 x3 l4 v4 hv4 (0, 0) y15 e15 c16) kc16)) (hr := by kernel_rfl)
  · refine bind_opt fun y32 e32 => ?_
    have kc33 := (ai (SlE.len hv4) (ai (F38_l1_1 h x1 l2 v2 hv2 x3 l4 v4 hv4 (0, 0) y15 e15 c16) kc16))
    refine dec_bif (fun c33 => ?_) (fun c33 => ?_)
    · intro hr
      obtain rfl := Option.some.inj hr
      exact pFun_sound good tab_ok (f := 38) (its := [.g, .g, .g, .g, (.ln l4.length), .g, (.l F38_m1_1 [] (.exit 0) (F38_x1_1 h v2 v4 y15)), .g, (.ln l4.length), .g, (.l F38_m3_1 [] .ret (F38_x3_0 h y15 y32))]) (args := [.int .i64 x1, (sv v2), .int .i64 x3, (sv v4)]) (h := h) (h' := h) (v := .tuple #[.int .i64 0, .bool false]) (hC := (ai (F38_l3_0 h l2 v2 hv2 l4 v4 hv4 y15 0 y32 e32 c33) kc33)) (hr := by kernel_rfl)
    · intro hr
      obtain rfl := Option.some.inj hr
      exact pFun_sound good tab_ok (f := 38) (its := [.g, .g, .g, .g, (.ln l4.length), .g, (.l F38_m1_1 [] (.exit 0) (F38_x1_1 h v2 v4 y15)), .g, (.ln l4.length), .g, (.l F38_m3_1 [] (.exit 2) (F38_x3_1 h y15 y32)), .g, .g, .g, .g, .g]) (args := [.int .i64 x1, (sv v2), .int .i64 x3, (sv v4)]) (h := h) (h' := h) (v := .tuple #[.int .i64 y15.2, .bool (decide (y15.2 > 0))]) (hC := (ai (F38_l3_1 h l2 v2 hv2 l4 v4 hv4 y15 0 y32 e32 c33) kc33)) (hr := by kernel_rfl)
/-! 16 jacquard/jacquardref31.Accepts -/
def F16 (x1 : Int) (x2 : Int) (x3 : Bool) (l4 : List (Int × Int × Int × Int)) (l5 : List (Int × Int × Int × Int)) (l6 : List (Int × Int)) (x7 : Int) (x8 : Int) (l9 : List Int) (x10 : Int) : Option (Bool) :=
  (bif decide (x8 < 1) then
   some (false)
  else
   (bif decide (x8 > 256) then
    some (false)
   else
    (bif (x7 == 1) then
     some (x8 == 1)
    else
     (bif (x7 == 2) then
      (Option.bind (F38 (IntKind.i64.wrap ((F26 x1 x2 x3 l4 l5 l6) + 1)) l4 (IntKind.i64.wrap (x8 - 1)) l9) fun y16 =>
      (bif decide (x8 ≥ 2) then
       some (y16.2)
      else
       some (false)))
     else
      (bif (x7 == 3) then
       (bif decide (x10 < 0) then
        some (false)
       else
        (bif decide (x10 ≥ (l5.length : Int)) then
         some (false)
        else
         (Option.bind (F39 x1 x2 x3 l4 l5 l6 x10) fun y22 =>
         (Option.bind (at? l5 x10) fun y24 =>
         some (decide (y22.1 > (IntKind.i64.wrap ((IntKind.i64.wrap (x8 - 1)) * y24.2.2.2))))))))
      else
       (bif (x7 == 4) then
        (bif decide (x10 < 0) then
         some (false)
        else
         (bif decide (x10 ≥ (l5.length : Int)) then
          some (false)
         else
          (Option.bind (F39 x1 x2 x3 l4 l5 l6 x10) fun y28 =>
          some (decide (y28.2 ≥ x8)))))
       else
        some (false)))))))
set_option maxRecDepth 100000 in
theorem F16_spec (x1 : Int) (x2 : Int) (x3 : Bool) (l4 : List (Int × Int × Int × Int)) (l5 : List (Int × Int × Int × Int)) (l6 : List (Int × Int)) (x7 : Int) (x8 : Int) (l9 : List Int) (x10 : Int) (v4 : Hd) (v5 : Hd) (v6 : Hd) (v9 : Hd) (h : AHeap) (hv4 : SlE E57 4 h (sv v4) l4) (hv5 : SlE E59 4 h (sv v5) l5) (hv6 : SlE E61 2 h (sv v6) l6) (hv9 : SlE E3 1 h (sv v9) l9) (r : Bool) : F16 x1 x2 x3 l4 l5 l6 x7 x8 l9 x10 = some r → ACalls Try.prog 16 [.agg #[.int .i64 x1, .int .i64 x2, .bool x3, (sv v4), (sv v5), (sv v6)], .agg #[.int .i64 x7, .int .i64 x8, (sv v9), .int .i64 x10]] h (fun v' h'' => v' = (.bool r : Value) ∧ h'' = h) := by
  unfold F16
  refine dec_bif (fun c11 => ?_) (fun c11 => ?_)
  · intro hr
    obtain rfl := Option.some.inj hr
    exact pFun_sound good tab_ok (f := 16) (its := [.g, .g, .g, .g, .g, .g, .g, .n, .n, .n, (.p true), (.b true), .g]) (args := [.agg #[.int .i64 x1, .int .i64 x2, .bool x3, (sv v4), (sv v5), (sv v6)], .agg #[.int .i64 x7, .int .i64 x8, (sv v9), .int .i64 x10]]) (h := h) (h' := h) (v := .bool false) (hC := (ai l_t (ai c11 (ai (g_tf c11) (ai (g_tf c11) (ai (g_tf c11) trivial)))))) (hr := by kernel_rfl)
  · have kc12 := (ai c11 (ai (g_ff c11) (ai (g_ff c11) (ai (g_ff c11) trivial))))
    refine dec_bif (fun c12 => ?_) (fun c12 => ?_)
    · intro hr
      obtain rfl := Option.some.inj hr
      exact pFun_sound good tab_ok (f := 16) (its := [.g, .g, .g, .g, .g, .g, .g, (.w .g), (.w .g), (.w .g), (.p false), (.b true), .g]) (args := [.agg #[.int .i64 x1, .int .i64 x2, .bool x3, (sv v4), (sv v5), (sv v6)], .agg #[.int .i64 x7, .int .i64 x8, (sv v9), .int .i64 x10]]) (h := h) (h' := h) (v := .bool false) (hC := (ai c12 kc12)) (hr := by kernel_rfl)
    · have kc13 := (ai c12 kc12)
      refine dec_bif (fun c13 => ?_) (fun c13 => ?_)
      · intro hr
        obtain rfl := Option.some.inj hr
        exact pFun_sound good tab_ok (f := 16) (its := [.g, .g, .g, .g, .g, .g, .g, (.w .g), (.w .g), (.w .g), (.p false), (.b false), .g, .g, .g, .g, (.b true), .g, .g, .g, .g]) (args := [.agg #[.int .i64 x1, .int .i64 x2, .bool x3, (sv v4), (sv v5), (sv v6)], .agg #[.int .i64 x7, .int .i64 x8, (sv v9), .int .i64 x10]]) (h := h) (h' := h) (v := .bool (x8 == 1)) (hC := (ai c13 kc13)) (hr := by kernel_rfl)
      · have kc14 := (ai c13 kc13)
        refine dec_bif (fun c14 => ?_) (fun c14 => ?_)
        · refine bind_opt fun y16 e16 => ?_
          have kc18 := (ai (show AKeep h h from (AHeap.sub_refl h)) (ai (F38_spec (IntKind.i64.wrap ((F26 x1 x2 x3 l4 l5 l6) + 1)) l4 (IntKind.i64.wrap (x8 - 1)) l9 v4 v9 h hv4 hv9 _ e16) (ai (show AKeep h h from (AHeap.sub_refl h)) (ai (F26_spec x1 x2 x3 l4 l5 l6 v4 v5 v6 h hv4 hv5 hv6 _ rfl) (ai c14 kc14)))))
          refine dec_bif (fun c18 => ?_) (fun c18 => ?_)
          · intro hr
            obtain rfl := Option.some.inj hr
            exact pFun_sound good tab_ok (f := 16) (its := [.g, .g, .g, .g, .g, .g, .g, (.w .g), (.w .g), (.w .g), (.p false), (.b false), .g, .g, .g, .g, (.b false), .g, .g, (.b true), .g, .g, .g, .g, .g, .g, .g, .g, (.c (.int .i64 (F26 x1 x2 x3 l4 l5 l6)) h), .g, (.c (.tuple #[.int .i64 y16.1, .bool y16.2]) h), .g, .g, .g, .g, .g, .g, .g, .g, .g, (.w .g), (.p true), .g]) (args := [.agg #[.int .i64 x1, .int .i64 x2, .bool x3, (sv v4), (sv v5), (sv v6)], .agg #[.int .i64 x7, .int .i64 x8, (sv v9), .int .i64 x10]]) (h := h) (h' := h) (v := .bool y16.2) (hC := (ai c18 (ai (g_tt c18) kc18))) (hr := by kernel_rfl)
          · intro hr
            obtain rfl := Option.some.inj hr
            exact pFun_sound good tab_ok (f := 16) (its := [.g, .g, .g, .g, .g, .g, .g, (.w .g), (.w .g), (.w .g), (.p false), (.b false), .g, .g, .g, .g, (.b false), .g, .g, (.b true), .g, .g, .g, .g, .g, .g, .g, .g, (.c (.int .i64 (F26 x1 x2 x3 l4 l5 l6)) h), .g, (.c (.tuple #[.int .i64 y16.1, .bool y16.2]) h), .g, .g, .g, .g, .g, .g, .g, .g, .g, .n, (.p false), .g]) (args := [.agg #[.int .i64 x1, .int .i64 x2, .bool x3, (sv v4), (sv v5), (sv v6)], .agg #[.int .i64 x7, .int .i64 x8, (sv v9), .int .i64 x10]]) (h := h) (h' := h) (v := .bool false) (hC := (ai c18 (ai (g_ft c18) kc18))) (hr := by kernel_rfl)
        · have kc19 := (ai c14 kc14)
          refine dec_bif (fun c19 => ?_) (fun c19 => ?_)
          · have kc20 := (ai c19 (ai c19 kc19))
            refine dec_bif (fun c20 => ?_) (fun c20 => ?_)
            · intro hr
              obtain rfl := Option.some.inj hr
              exact pFun_sound good tab_ok (f := 16) (its := [.g, .g, .g, .g, .g, .g, .g, (.w .g), (.w .g), (.w .g), (.p false), (.b false), .g, .g, .g, .g, (.b false), .g, .g, (.b false), .g, .g, (.b true), (.b true), .g, .g, .g, .g, .n, .n, .n, .n, .n, .n, (.p true), (.b true), .g]) (args := [.agg #[.int .i64 x1, .int .i64 x2, .bool x3, (sv v4), (sv v5), (sv v6)], .agg #[.int .i64 x7, .int .i64 x8, (sv v9), .int .i64 x10]]) (h := h) (h' := h) (v := .bool false) (hC := (ai l_t (ai c20 (ai (g_tf c20) (ai (g_tf c20) (ai (g_tf c20) (ai (g_tf c20) (ai (g_tf c20) (ai (g_tf c20) kc20))))))))) (hr := by kernel_rfl)
            · have kc21 := (ai c20 (ai (g_ff c20) (ai (SlE.len hv5) (ai (g_ff c20) (ai (g_ff c20) (ai (g_ff c20) (ai (g_ff c20) (ai (g_ff c20) kc20))))))))
              refine dec_bif (fun c21 => ?_) (fun c21 => ?_)
              · intro hr
                obtain rfl := Option.some.inj hr
                exact pFun_sound good tab_ok (f := 16) (its := [.g, .g, .g, .g, .g, .g, .g, (.w .g), (.w .g), (.w .g), (.p false), (.b false), .g, .g, .g, .g, (.b false), .g, .g, (.b false), .g, .g, (.b true), (.b true), .g, .g, .g, .g, (.w .g), (.w .g), (.w .g), (.w .g), (.w (.ln l5.length)), (.w .g), (.p false), (.b true), .g]) (args := [.agg #[.int .i64 x1, .int .i64 x2, .bool x3, (sv v4), (sv v5), (sv v6)], .agg #[.int .i64 x7, .int .i64 x8, (sv v9), .int .i64 x10]]) (h := h) (h' := h) (v := .bool false) (hC := (ai c21 kc21)) (hr := by kernel_rfl)
              · refine bind_opt fun y22 e22 => ?_
                refine bind_opt fun y24 e24 => ?_
                obtain ⟨id24, off24, g24, cs24, ix24, at24, rfl⟩ := SlE.at hv5 e24
                intro hr
                obtain rfl := Option.some.inj hr
                exact pFun_sound good tab_ok (f := 16) (its := [.g, .g, .g, .g, .g, .g, .g, (.w .g), (.w .g), (.w .g), (.p false), (.b false), .g, .g, .g, .g, (.b false), .g, .g, (.b false), .g, .g, (.b true), (.b true), .g, .g, .g, .g, (.w .g), (.w .g), (.w .g), (.w .g), (.w (.ln l5.length)), (.w .g), (.p false), (.b false), .g, .g, .g, (.c (.tuple #[.int .i64 y22.1, .int .i64 y22.2]) h), .g, .g, .g, .g, .g, .g, .g, .g, (.b true), .g, .g, .g, .g, .g, .g, .g, .g, (.ix id24 off24 g24), .g, (.ld (.int .i64 y24.2.2.2)), .g, .g, .g]) (args := [.agg #[.int .i64 x1, .int .i64 x2, .bool x3, (sv v4), (sv v5), (sv v6)], .agg #[.int .i64 x7, .int .i64 x8, (sv v9), .int .i64 x10]]) (h := h) (h' := h) (v := .bool (decide (y22.1 > (IntKind.i64.wrap ((IntKind.i64.wrap (x8 - 1)) * y24.2.2.2))))) (hC := (ai (At.one (P := Try.prog) (t := 3) (v := .int .i64 y24.2.2.2) at24 (by kernel_rfl) 3 rfl rfl) (ai ix24 (ai c19 (ai (F39_spec x1 x2 x3 l4 l5 l6 x10 v4 v5 v6 h hv4 hv5 hv6 _ e22) (ai c21 kc21)))))) (hr := by kernel_rfl)
          · have kc25 := (ai c19 kc19)
            refine dec_bif (fun c25 => ?_) (fun c25 => ?_)
            · have kc26 := (ai c25 kc25)
              refine dec_bif (fun c26 => ?_) (fun c26 => ?_)
              · intro hr
                obtain rfl := Option.some.inj hr
                exact pFun_sound good tab_ok (f := 16) (its := [.g, .g, .g, .g, .g, .g, .g, (.w .g), (.w .g), (.w .g), (.p false), (.b false), .g, .g, .g, .g, (.b false), .g, .g, (.b false), .g, .g, (.b false), .g, .g, (.b true), .g, .g, .g, .g, .n, .n, .n, .n, .n, .n, (.p true), (.b true), .g]) (args := [.agg #[.int .i64 x1, .int .i64 x2, .bool x3, (sv v4), (sv v5), (sv v6)], .agg #[.int .i64 x7, .int .i64 x8, (sv v9), .int .i64 x10]]) (h := h) (h' := h) (v := .bool false) (hC := (ai l_t (ai c26 (ai (g_tf c26) (ai (g_tf c26) (ai (g_tf c26) (ai (g_tf c26) (ai (g_tf c26) (ai (g_tf c26) kc26))))))))) (hr := by kernel_rfl)
              · have kc27 := (ai c26 (ai (g_ff c26) (ai (SlE.len hv5) (ai (g_ff c26) (ai (g_ff c26) (ai (g_ff c26) (ai (g_ff c26) (ai (g_ff c26) kc26))))))))
                refine dec_bif (fun c27 => ?_) (fun c27 => ?_)
                · intro hr
                  obtain rfl := Option.some.inj hr
                  exact pFun_sound good tab_ok (f := 16) (its := [.g, .g, .g, .g, .g, .g, .g, (.w .g), (.w .g), (.w .g), (.p false), (.b false), .g, .g, .g, .g, (.b false), .g, .g, (.b false), .g, .g, (.b false), .g, .g, (.b true), .g, .g, .g, .g, (.w .g), (.w .g), (.w .g), (.w .g), (.w (.ln l5.length)), (.w .g), (.p false), (.b true), .g]) (args := [.agg #[.int .i64 x1, .int .i64 x2, .bool x3, (sv v4), (sv v5), (sv v6)], .agg #[.int .i64 x7, .int .i64 x8, (sv v9), .int .i64 x10]]) (h := h) (h' := h) (v := .bool false) (hC := (ai c27 kc27)) (hr := by kernel_rfl)
                · refine bind_opt fun y28 e28 => ?_
                  intro hr
                  obtain rfl := Option.some.inj hr
                  exact pFun_sound good tab_ok (f := 16) (its := [.g, .g, .g, .g, .g, .g, .g, (.w .g), (.w .g), (.w .g), (.p false), (.b false), .g, .g, .g, .g, (.b false), .g, .g, (.b false), .g, .g, (.b false), .g, .g, (.b true), .g, .g, .g, .g, (.w .g), (.w .g), (.w .g), (.w .g), (.w (.ln l5.length)), (.w .g), (.p false), (.b false), .g, .g, .g, (.c (.tuple #[.int .i64 y28.1, .int .i64 y28.2]) h), .g, .g, .g, .g, .g, .g, .g, .g, (.b false), .g, .g, .g, .g, .g]) (args := [.agg #[.int .i64 x1, .int .i64 x2, .bool x3, (sv v4), (sv v5), (sv v6)], .agg #[.int .i64 x7, .int .i64 x8, (sv v9), .int .i64 x10]]) (h := h) (h' := h) (v := .bool (decide (y28.2 ≥ x8))) (hC := (ai c19 (ai (F39_spec x1 x2 x3 l4 l5 l6 x10 v4 v5 v6 h hv4 hv5 hv6 _ e28) (ai c27 kc27)))) (hr := by kernel_rfl)
            · intro hr
              obtain rfl := Option.some.inj hr
              exact pFun_sound good tab_ok (f := 16) (its := [.g, .g, .g, .g, .g, .g, .g, (.w .g), (.w .g), (.w .g), (.p false), (.b false), .g, .g, .g, .g, (.b false), .g, .g, (.b false), .g, .g, (.b false), .g, .g, (.b false), .g]) (args := [.agg #[.int .i64 x1, .int .i64 x2, .bool x3, (sv v4), (sv v5), (sv v6)], .agg #[.int .i64 x7, .int .i64 x8, (sv v9), .int .i64 x10]]) (h := h) (h' := h) (v := .bool false) (hC := (ai c25 kc25)) (hr := by kernel_rfl)
/-! 6 jacquard/jacquardlaw31.BoundsAccepts -/
def F6 (x1 : Int) (x2 : Int) (x3 : Bool) (l4 : List (Int × Int × Int × Int)) (l5 : List (Int × Int × Int × Int)) (l6 : List (Int × Int)) (x7 : Int) (x8 : Int) (l9 : List Int) (x10 : Int) : Option (Bool) :=
  (Option.bind F11 fun y11 =>
  (bif (!y11) then
   (Option.bind F11 fun y14 =>
   some (y14))
  else
   (Option.bind (F12 x1 x2 x3 l4 l5 l6) fun y16 =>
   (bif (!y16) then
    (Option.bind F11 fun y19 =>
    some (y19))
   else
    (bif decide ((l9.length : Int) > 30) then
     (Option.bind F11 fun y22 =>
     some (y22))
    else
     (Option.bind (F17 x1 x2 x3 l4 l5 l6 x7 x8 l9 x10) fun y24 =>
     (Option.bind (F19 x1 x2 x3 l4 l5 l6) fun y26 =>
     (bif y26 then
      (Option.bind (F16 x1 x2 x3 l4 l5 l6 x7 x8 l9 x10) fun y29 =>
      some (y24 == y29))
     else
      some (y24 == false)))))))))
set_option maxRecDepth 100000 in
theorem F6_spec (x1 : Int) (x2 : Int) (x3 : Bool) (l4 : List (Int × Int × Int × Int)) (l5 : List (Int × Int × Int × Int)) (l6 : List (Int × Int)) (x7 : Int) (x8 : Int) (l9 : List Int) (x10 : Int) (v4 : Hd) (v5 : Hd) (v6 : Hd) (v9 : Hd) (h : AHeap) (hw : h.wf) (hv4 : SlE E57 4 h (sv v4) l4) (hv5 : SlE E59 4 h (sv v5) l5) (hv6 : SlE E61 2 h (sv v6) l6) (hv9 : SlE E3 1 h (sv v9) l9) (r : Bool) : F6 x1 x2 x3 l4 l5 l6 x7 x8 l9 x10 = some r → ∃ (h' : AHeap), Heapy h h' [] ∧ ACalls Try.prog 6 [.agg #[.int .i64 x1, .int .i64 x2, .bool x3, (sv v4), (sv v5), (sv v6)], .agg #[.int .i64 x7, .int .i64 x8, (sv v9), .int .i64 x10]] h (fun v' h'' => v' = (.bool r : Value) ∧ h'' = h') := by
  unfold F6
  refine bind_opt fun y11 e11 => ?_
  obtain ⟨h12, q12, c12⟩ := F11_spec h hw _ e11
  have hp12 : Heapy h h12 [] := Heapy.call (Heapy.refl hw) q12
  have kc13 := (ai c12 trivial)
  refine dec_bif (fun c13 => ?_) (fun c13 => ?_)
  · refine bind_opt fun y14 e14 => ?_
    obtain ⟨h15, q15, c15⟩ := F11_spec h12 (Heapy.wf hp12) _ e14
    have hp15 : Heapy h h15 [] := Heapy.call hp12 q15
    intro hr
    obtain rfl := Option.some.inj hr
    exact ⟨h15, Heapy.pick hp15 [] (by decide), pFun_sound good tab_ok (f := 6) (its := [.g, .g, .g, (.c (.bool y11) h12), .g, .g, .n, .n, .n, (.p true), .g, .n, .n, .n, .n, .g, (.b true), (.c (.bool y14) h15), .g]) (args := [.agg #[.int .i64 x1, .int .i64 x2, .bool x3, (sv v4), (sv v5), (sv v6)], .agg #[.int .i64 x7, .int .i64 x8, (sv v9), .int .i64 x10]]) (h := h) (h' := h15) (v := .bool y14) (hC := (ai c15 (ai l_t (ai (g_tf l_t) (ai (g_tf l_t) (ai (g_tf l_t) (ai (g_tf l_t) (ai c13 (ai (g_tf c13) (ai (g_tf c13) (ai (g_tf c13) kc13))))))))))) (hr := by kernel_rfl)⟩
  · refine bind_opt fun y16 e16 => ?_
    have kc18 := (ai c13 (ai (g_ff c13) (ai (F12_spec x1 x2 x3 l4 l5 l6 v4 v5 v6 h12 (SlE.mono hv4 (Heapy.sub hp12) (E57_mono (Heapy.sub hp12))) (SlE.mono hv5 (Heapy.sub hp12) (E59_mono (Heapy.sub hp12))) (SlE.mono hv6 (Heapy.sub hp12) (E61_mono (Heapy.sub hp12))) _ e16) (ai (g_ff c13) (ai (g_ff c13) kc13)))))
    refine dec_bif (fun c18 => ?_) (fun c18 => ?_)
    · refine bind_opt fun y19 e19 => ?_
      obtain ⟨h20, q20, c20⟩ := F11_spec h12 (Heapy.wf hp12) _ e19
      have hp20 : Heapy h h20 [] := Heapy.call hp12 q20
      intro hr
      obtain rfl := Option.some.inj hr
      exact ⟨h20, Heapy.pick hp20 [] (by decide), pFun_sound good tab_ok (f := 6) (its := [.g, .g, .g, (.c (.bool y11) h12), .g, .g, (.w .g), (.w (.c (.bool y16) h12)), (.w .g), (.p false), .g, .n, .n, .n, .n, (.p true), (.b true), (.c (.bool y19) h20), .g]) (args := [.agg #[.int .i64 x1, .int .i64 x2, .bool x3, (sv v4), (sv v5), (sv v6)], .agg #[.int .i64 x7, .int .i64 x8, (sv v9), .int .i64 x10]]) (h := h) (h' := h20) (v := .bool y19) (hC := (ai c20 (ai l_t (ai c18 (ai (g_tf c18) (ai (g_tf c18) (ai (g_tf c18) (ai (g_tf c18) kc18)))))))) (hr := by kernel_rfl)⟩
    · have kc21 := (ai c18 (ai (g_ff c18) (ai (SlE.len hv9) (ai (g_ff c18) (ai (g_ff c18) (ai (g_ff c18) kc18))))))
      refine dec_bif (fun c21 => ?_) (fun c21 => ?_)
      · refine bind_opt fun y22 e22 => ?_
        obtain ⟨h23, q23, c23⟩ := F11_spec h12 (Heapy.wf hp12) _ e22
        have hp23 : Heapy h h23 [] := Heapy.call hp12 q23
        intro hr
        obtain rfl := Option.some.inj hr
        exact ⟨h23, Heapy.pick hp23 [] (by decide), pFun_sound good tab_ok (f := 6) (its := [.g, .g, .g, (.c (.bool y11) h12), .g, .g, (.w .g), (.w (.c (.bool y16) h12)), (.w .g), (.p false), .g, (.w .g), (.w .g), (.w (.ln l9.length)), (.w .g), (.p false), (.b true), (.c (.bool y22) h23), .g]) (args := [.agg #[.int .i64 x1, .int .i64 x2, .bool x3, (sv v4), (sv v5), (sv v6)], .agg #[.int .i64 x7, .int .i64 x8, (sv v9), .int .i64 x10]]) (h := h) (h' := h23) (v := .bool y22) (hC := (ai c23 (ai c21 kc21))) (hr := by kernel_rfl)⟩
      · refine bind_opt fun y24 e24 => ?_
        obtain ⟨h25, q25, c25⟩ := F17_spec x1 x2 x3 l4 l5 l6 x7 x8 l9 x10 v4 v5 v6 v9 h12 (Heapy.wf hp12) (SlE.mono hv4 (Heapy.sub hp12) (E57_mono (Heapy.sub hp12))) (SlE.mono hv5 (Heapy.sub hp12) (E59_mono (Heapy.sub hp12))) (SlE.mono hv6 (Heapy.sub hp12) (E61_mono (Heapy.sub hp12))) (SlE.mono hv9 (Heapy.sub hp12) (E3_mono (Heapy.sub hp12))) _ e24
        have hp25 : Heapy h h25 [] := Heapy.call hp12 q25
        refine bind_opt fun y26 e26 => ?_
        have kc28 := (ai (show AKeep h25 h25 from (AHeap.sub_refl h25)) (ai (F19_spec x1 x2 x3 l4 l5 l6 v4 v5 v6 h25 (SlE.mono hv4 (Heapy.sub hp25) (E57_mono (Heapy.sub hp25))) (SlE.mono hv5 (Heapy.sub hp25) (E59_mono (Heapy.sub hp25))) (SlE.mono hv6 (Heapy.sub hp25) (E61_mono (Heapy.sub hp25))) _ e26) (ai (show AKeep h12 h25 from (Heapy.sub q25)) (ai c25 (ai c21 kc21)))))
        refine dec_bif (fun c28 => ?_) (fun c28 => ?_)
        · refine bind_opt fun y29 e29 => ?_
          intro hr
          obtain rfl := Option.some.inj hr
          exact ⟨h25, Heapy.pick hp25 [] (by decide), pFun_sound good tab_ok (f := 6) (its := [.g, .g, .g, (.c (.bool y11) h12), .g, .g, (.w .g), (.w (.c (.bool y16) h12)), (.w .g), (.p false), .g, (.w .g), (.w .g), (.w (.ln l9.length)), (.w .g), (.p false), (.b false), .g, .g, .g, (.c (.bool y24) h25), (.c (.bool y26) h25), .g, (.w .g), (.w .g), (.w (.c (.bool y29) h25)), (.p true), .g, .g]) (args := [.agg #[.int .i64 x1, .int .i64 x2, .bool x3, (sv v4), (sv v5), (sv v6)], .agg #[.int .i64 x7, .int .i64 x8, (sv v9), .int .i64 x10]]) (h := h) (h' := h25) (v := .bool (y24 == y29)) (hC := (ai c28 (ai (show AKeep h25 h25 from (AHeap.sub_refl h25)) (ai (F16_spec x1 x2 x3 l4 l5 l6 x7 x8 l9 x10 v4 v5 v6 v9 h25 (SlE.mono hv4 (Heapy.sub hp25) (E57_mono (Heapy.sub hp25))) (SlE.mono hv5 (Heapy.sub hp25) (E59_mono (Heapy.sub hp25))) (SlE.mono hv6 (Heapy.sub hp25) (E61_mono (Heapy.sub hp25))) (SlE.mono hv9 (Heapy.sub hp25) (E3_mono (Heapy.sub hp25))) _ e29) (ai (g_tt c28) (ai (g_tt c28) (ai (g_tt c28) kc28))))))) (hr := by kernel_rfl)⟩
        · intro hr
          obtain rfl := Option.some.inj hr
          exact ⟨h25, Heapy.pick hp25 [] (by decide), pFun_sound good tab_ok (f := 6) (its := [.g, .g, .g, (.c (.bool y11) h12), .g, .g, (.w .g), (.w (.c (.bool y16) h12)), (.w .g), (.p false), .g, (.w .g), (.w .g), (.w (.ln l9.length)), (.w .g), (.p false), (.b false), .g, .g, .g, (.c (.bool y24) h25), (.c (.bool y26) h25), .g, .n, .n, .n, (.p false), .g, .g]) (args := [.agg #[.int .i64 x1, .int .i64 x2, .bool x3, (sv v4), (sv v5), (sv v6)], .agg #[.int .i64 x7, .int .i64 x8, (sv v9), .int .i64 x10]]) (h := h) (h' := h25) (v := .bool (y24 == false)) (hC := (ai c28 (ai (g_ft c28) (ai (g_ft c28) (ai (g_ft c28) kc28))))) (hr := by kernel_rfl)⟩
set_option maxRecDepth 100000 in
theorem F6_law (H : ∀ (x1 : Int) (x2 : Int) (x3 : Bool) (l4 : List (Int × Int × Int × Int)) (l5 : List (Int × Int × Int × Int)) (l6 : List (Int × Int)) (x7 : Int) (x8 : Int) (l9 : List Int) (x10 : Int), (Lit.int .i64 x1).wf = true → (Lit.int .i64 x2).wf = true → (l4.length ≤ maxLen ∧ l4.length * 32 ≤ reachBytes) → (∀ y ∈ l4, W57 y) → (l5.length ≤ maxLen ∧ l5.length * 32 ≤ reachBytes) → (∀ y ∈ l5, W59 y) → (l6.length ≤ maxLen ∧ l6.length * 16 ≤ reachBytes) → (∀ y ∈ l6, W61 y) → (Lit.int .i64 x7).wf = true → (Lit.int .i64 x8).wf = true → (l9.length ≤ maxLen ∧ l9.length * 8 ≤ reachBytes) → (∀ y ∈ l9, W3 y) → (Lit.int .i64 x10).wf = true → F6 x1 x2 x3 l4 l5 l6 x7 x8 l9 x10 = some true) : Law Try.prog 6 10 [26, 31] := by
  intro s us hwf hro hT0
  obtain ⟨u0, vs0, rfl, t0, hT1⟩ := wts_cons hT0
  obtain ⟨cs0, rfl, k0⟩ := wtv_aggS 4 (ks := [.int .i64, .int .i64, .bool, .slice 57, .slice 59, .slice 61]) (by kernel_rfl) (by kernel_rfl) t0
  obtain ⟨x1, r_x1, rfl, w_x1, k0_0⟩ := sq_int k0
  obtain ⟨x2, r_x2, rfl, w_x2, k0_1⟩ := sq_int k0_0
  obtain ⟨x3, r_x3, rfl, k0_2⟩ := sq_bool k0_1
  obtain ⟨v4, r_l4, rfl, q_l4, k0_3⟩ := sq_slice k0_2
  obtain ⟨l4, a_l4, m_l4, w_l4⟩ := q_l4 E57 W57 4 (by kernel_rfl) fun n cs H => E57_wt H
  obtain ⟨v5, r_l5, rfl, q_l5, k0_4⟩ := sq_slice k0_3
  obtain ⟨l5, a_l5, m_l5, w_l5⟩ := q_l5 E59 W59 4 (by kernel_rfl) fun n cs H => E59_wt H
  obtain ⟨v6, r_l6, rfl, q_l6, k0_5⟩ := sq_slice k0_4
  obtain ⟨l6, a_l6, m_l6, w_l6⟩ := q_l6 E61 W61 2 (by kernel_rfl) fun n cs H => E61_wt H
  obtain rfl := sq_nil k0_5
  obtain ⟨u1, vs1, rfl, t1, hT2⟩ := wts_cons hT1
  obtain ⟨cs1, rfl, k1⟩ := wtv_aggS 3 (ks := [.int .i64, .int .i64, .slice 3, .int .i64]) (by kernel_rfl) (by kernel_rfl) t1
  obtain ⟨x7, r_x7, rfl, w_x7, k1_0⟩ := sq_int k1
  obtain ⟨x8, r_x8, rfl, w_x8, k1_1⟩ := sq_int k1_0
  obtain ⟨v9, r_l9, rfl, q_l9, k1_2⟩ := sq_slice k1_1
  obtain ⟨l9, a_l9, m_l9, w_l9⟩ := q_l9 E3 W3 1 (by kernel_rfl) fun n cs H => E3_wt H
  obtain ⟨x10, r_x10, rfl, w_x10, k1_3⟩ := sq_int k1_2
  obtain rfl := sq_nil k1_3
  obtain rfl := wts_nil hT2
  obtain ⟨h2, _, hc⟩ := F6_spec x1 x2 x3 l4 l5 l6 x7 x8 l9 x10 v4 v5 v6 v9 s hwf a_l4 a_l5 a_l6 a_l9 _ (H x1 x2 x3 l4 l5 l6 x7 x8 l9 x10 w_x1 w_x2 m_l4 w_l4 m_l5 w_l5 m_l6 w_l6 w_x7 w_x8 m_l9 w_l9 w_x10)
  refine (hc).mono ?_
  rintro v h' ⟨rfl, rfl⟩
  rfl
end
end Go.Proofs.Ytimeninncpmaeaa.Abs
