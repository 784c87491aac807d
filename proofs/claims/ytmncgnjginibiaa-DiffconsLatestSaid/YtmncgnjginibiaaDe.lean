/-
  Contracts, written by program: for each function what its call yields, and that it yields it.
-/
import Derived.Test.YtmncgnjginibiaaDea
namespace Go.Proofs.Ytmncgnjginibiaa.Abs
open Go
set_option linter.unusedVariables false
set_option linter.unusedSimpArgs false

noncomputable section
/-! 46 jacquard/jacquardref30.Positive -/
def F46_L : List Nat := []
def F46_D : List (Nat × List (Nat × Nat)) := [(13, [(0, 2), (1, 2), (2, 2), (3, 2), (4, 2), (5, 2), (6, 2), (7, 2), (8, 2), (9, 2), (10, 2), (11, 2), (12, 2), (13, 2)]), (18, [(0, 2), (1, 2), (2, 2), (3, 2), (4, 2), (5, 2), (6, 2), (7, 2), (8, 2), (9, 2), (10, 2), (11, 2), (12, 2), (13, 2), (14, 2), (15, 2), (16, 2)])]
def F46_m1_2 : List Bool := [true, false, true, false, true, true, true, true, true, true, false, true, true, true, true, true, true, true, true, true, true, true, true, true, true, true, true, true, true, true, true, true, true, true, true, true, true, true, true, true, true, true, true, true, true, true, true, true, true, true, true, true, true, true, true, true, true, true, true, true, true, true, true, true, true, true, true, true, true, true, true, true, true, true, true, true, true, true, true, true, true, true, true, true, true, true, true, true, true, true, true, true, true, true, true, true, true, true, true, true, true, true, true, true, true, true, true, true, true, true, true]
def F46_m1_1 : List Bool := [false, false, false, false, true, true, true, true, true, true, false, true, true, true, true, true, false, false, true, true, true, true, true, true, true, true, true, true, true, true, true, true, true, true, true, true, true, true, true, true, true, true, true, true, true, true, true, true, true, true, true, true, true, true, true, true, true, true, true, true, true, true, true, true, true, true, true, true, true, true, true, true, true, true, true, true, true, true, true, true, true, true, true, true, true, true, true, true, true, true, true, true, true, true, true, true, true, true, true, true, true, true, true, true, true, true, true, true, true, true, true]
def F46_m1_0 : List Bool := [true, true, true, true, true, true, true, true, false, false, true, true, true, true, true, true, true, true, true, true, true, true, true, true, true, true, true, true, true, true, true, true, true, true, true, true, true, true, true, true, true, true, true, true, true, true, true, true, true, true, true, true, true, true, true, true, true, true, true, true, true, true, true, true, true, true, true, true, true, true, true, true, true, true, true, true, true, true, true, true, true, true, true, true, true, true, true, true, true, true, true, true, true, true, true, true, true, true, true, true, true, true, true, true, true, true, true, true, true, true, true]
def F46_s1 (x1 : Int) (l2 : List (Int × Int × Int × Int)) (x3 : Int) (l4 : List Int) (a5 : Int) (a6 : Int) : Option ((Int × Int) ⊕ (Nat × Int)) :=
  (bif decide (a6 < (l4.length : Int)) then
   (Option.bind (at? l4 a6) fun y8 =>
   (bif decide (y8 < 0) then
    some (.inr (0, 0))
   else
    (bif decide (y8 ≥ (l2.length : Int)) then
     some (.inr (0, 0))
    else
     (Option.bind (at? l2 y8) fun y11 =>
     (bif (!(F76 x1 y11.1 y11.2.1 y11.2.2.1 y11.2.2.2)) then
      some (.inr (0, 0))
     else
      some (.inl ((IntKind.i64.wrap (a5 + (F77 y11.1 y11.2.1 y11.2.2.1 y11.2.2.2 x3))), (IntKind.i64.wrap (a6 + 1)))))))))
  else
   some (.inr (1, a5)))
def F46_h1 (h : AHeap) (x1 : Int) (v2 : Hd) (x3 : Int) (l4 : List Int) (v4 : Hd)  (a5 : Int) (a6 : Int) : AS := ⟨[.int .i64 x1, (sv v2), .int .i64 x3, (sv v4), junk, junk, junk, junk, junk, junk, .int .i64 a5, junk, junk, junk, junk, junk, .int .i64 (l4.length : Int), .int .i64 a6, junk, junk, junk, junk, junk, junk, junk, junk, junk, junk, junk, junk, junk, junk, junk, junk, junk, junk, junk, junk, junk, junk, junk, junk, junk, junk, junk, junk, junk, junk, junk, junk, junk, junk, junk, junk, junk, junk, junk, junk, junk, junk, junk, junk, junk, junk, junk, junk, junk, junk, junk, junk, junk, junk, junk, junk, junk, junk, junk, junk, junk, junk, junk, junk, junk, junk, junk, junk, junk, junk, junk, junk, junk, junk, junk, junk, junk, junk, junk, junk, junk, junk, junk, junk, junk, junk, junk, junk, junk, junk, junk, junk, junk], [], h⟩
theorem F46_d1 : drawsOk F46_D (codeOf Try.prog 46 [1, 1, 0, 1, 0, 0]) = true := by kernel_rfl
def F46_x1_0 (h : AHeap) (v2 : Hd) (v4 : Hd)  (r : Nat × Int) : AS := ⟨[junk, junk, junk, junk, junk, junk, junk, junk, .int .i64 0, .bool false, junk, junk, junk, junk, junk, junk, junk, junk, junk, junk, junk, junk, junk, junk, junk, junk, junk, junk, junk, junk, junk, junk, junk, junk, junk, junk, junk, junk, junk, junk, junk, junk, junk, junk, junk, junk, junk, junk, junk, junk, junk, junk, junk, junk, junk, junk, junk, junk, junk, junk, junk, junk, junk, junk, junk, junk, junk, junk, junk, junk, junk, junk, junk, junk, junk, junk, junk, junk, junk, junk, junk, junk, junk, junk, junk, junk, junk, junk, junk, junk, junk, junk, junk, junk, junk, junk, junk, junk, junk, junk, junk, junk, junk, junk, junk, junk, junk, junk, junk, junk, junk], [], h⟩
def F46_x1_1 (h : AHeap) (v2 : Hd) (v4 : Hd)  (r : Nat × Int) : AS := ⟨[junk, (sv v2), junk, (sv v4), junk, junk, junk, junk, junk, junk, .int .i64 r.2, junk, junk, junk, junk, junk, junk, junk, junk, junk, junk, junk, junk, junk, junk, junk, junk, junk, junk, junk, junk, junk, junk, junk, junk, junk, junk, junk, junk, junk, junk, junk, junk, junk, junk, junk, junk, junk, junk, junk, junk, junk, junk, junk, junk, junk, junk, junk, junk, junk, junk, junk, junk, junk, junk, junk, junk, junk, junk, junk, junk, junk, junk, junk, junk, junk, junk, junk, junk, junk, junk, junk, junk, junk, junk, junk, junk, junk, junk, junk, junk, junk, junk, junk, junk, junk, junk, junk, junk, junk, junk, junk, junk, junk, junk, junk, junk, junk, junk, junk, junk], [], h⟩
def F46_x1 (h : AHeap) (v2 : Hd) (v4 : Hd) (r : Nat × Int) : Exit × AS := (bif Nat.beq r.1 0 then (.ret, (F46_x1_0 h v2 v4 r)) else ((.exit 0), (F46_x1_1 h v2 v4 r)))
set_option maxRecDepth 100000 in
theorem F46_r1 (h : AHeap) (x1 : Int) (l2 : List (Int × Int × Int × Int)) (v2 : Hd) (hv2 : SlE E81 4 h (sv v2) l2) (x3 : Int) (l4 : List Int) (v4 : Hd) (hv4 : SlE E3 1 h (sv v4) l4) (a5 : Int) (a6 : Int) (o : (Int × Int) ⊕ (Nat × Int)) : F46_s1 x1 l2 x3 l4 a5 a6 = some o → RdF Try.prog (codeOf Try.prog 46 [1, 1, 0, 1, 0, 0]) (fun (s : Int × Int) => (F46_h1 h x1 v2 x3 l4 v4 s.1 s.2)) (F46_x1 h v2 v4) (F46_h1 h x1 v2 x3 l4 v4 a5 a6) o := by
  unfold F46_s1
  refine dec_bif (fun c7 => ?_) (fun c7 => ?_)
  · refine bind_opt fun y8 e8 => ?_
    obtain ⟨id8, off8, g8, cs8, ix8, at8, rfl⟩ := SlE.at hv4 e8
    refine dec_bif (fun c9 => ?_) (fun c9 => ?_)
    · intro hr
      obtain rfl := Option.some.inj hr
      show AWp Try.prog _ (Ends1 ((F46_x1 h v2 v4) ((0, 0) : Nat × Int)).1 ((F46_x1 h v2 v4) ((0, 0) : Nat × Int)).2) _
      exact pEnd_sound good (L := F46_L) (D := F46_D) (its := [.g, (.b true), .g, .g, .g, .g, (.ix id8 off8 g8), (.ld (.int .i64 y8)), .g, .g, .n, .n, .n, .n, .n, .n, .n, (.p true), .g, .n, .n, .n, .n, .n, .n, .n, .n, .n, .n, .g, (.b true), .g, .g]) (ds := F46_m1_0) (ks := []) (e := ((F46_x1 h v2 v4) ((0, 0) : Nat × Int)).1) (s2 := ((F46_x1 h v2 v4) ((0, 0) : Nat × Int)).2) (hC := (ai l_t (ai (g_tf l_t) (ai (g_tf l_t) (ai (g_tf l_t) (ai (g_tf l_t) (ai (g_tf l_t) (ai (g_tf l_t) (ai (g_tf l_t) (ai (g_tf l_t) (ai (g_tf l_t) (ai (g_tf l_t) (ai c9 (ai (g_tf c9) (ai (g_tf c9) (ai (g_tf c9) (ai (g_tf c9) (ai (g_tf c9) (ai (g_tf c9) (ai (g_tf c9) (ai (At.one (P := Try.prog) (t := 3) (v := .int .i64 y8) at8 (by kernel_rfl) 0 rfl rfl) (ai ix8 (ai c7 trivial))))))))))))))))))))))) (hd := F46_d1) (h := by kernel_rfl)
    · refine dec_bif (fun c10 => ?_) (fun c10 => ?_)
      · intro hr
        obtain rfl := Option.some.inj hr
        show AWp Try.prog _ (Ends1 ((F46_x1 h v2 v4) ((0, 0) : Nat × Int)).1 ((F46_x1 h v2 v4) ((0, 0) : Nat × Int)).2) _
        exact pEnd_sound good (L := F46_L) (D := F46_D) (its := [.g, (.b true), .g, .g, .g, .g, (.ix id8 off8 g8), (.ld (.int .i64 y8)), .g, .g, (.w .g), (.w .g), (.w (.ix id8 off8 g8)), (.w (.ld (.int .i64 y8))), (.w .g), (.w (.ln l2.length)), (.w .g), (.p false), .g, .n, .n, .n, .n, .n, .n, .n, .n, .n, .n, (.p true), (.b true), .g, .g]) (ds := F46_m1_0) (ks := []) (e := ((F46_x1 h v2 v4) ((0, 0) : Nat × Int)).1) (s2 := ((F46_x1 h v2 v4) ((0, 0) : Nat × Int)).2) (hC := (ai l_t (ai c10 (ai (g_tf c10) (ai (g_tf c10) (ai (g_tf c10) (ai (g_tf c10) (ai (g_tf c10) (ai (g_tf c10) (ai (g_tf c10) (ai (g_tf c10) (ai (g_tf c10) (ai (g_tf c10) (ai c9 (ai (g_ff c9) (ai (SlE.len hv2) (ai (g_ff c9) (ai (g_ff c9) (ai (At.one (P := Try.prog) (t := 3) (v := .int .i64 y8) at8 (by kernel_rfl) 0 rfl rfl) (ai (g_ff c9) (ai ix8 (ai (g_ff c9) (ai (g_ff c9) (ai (g_ff c9) (ai (At.one (P := Try.prog) (t := 3) (v := .int .i64 y8) at8 (by kernel_rfl) 0 rfl rfl) (ai ix8 (ai c7 trivial))))))))))))))))))))))))))) (hd := F46_d1) (h := by kernel_rfl)
      · refine bind_opt fun y11 e11 => ?_
        obtain ⟨id11, off11, g11, cs11, ix11, at11, rfl⟩ := SlE.at hv2 e11
        refine dec_bif (fun c13 => ?_) (fun c13 => ?_)
        · intro hr
          obtain rfl := Option.some.inj hr
          show AWp Try.prog _ (Ends1 ((F46_x1 h v2 v4) ((0, 0) : Nat × Int)).1 ((F46_x1 h v2 v4) ((0, 0) : Nat × Int)).2) _
          exact pEnd_sound good (L := F46_L) (D := F46_D) (its := [.g, (.b true), .g, .g, .g, .g, (.ix id8 off8 g8), (.ld (.int .i64 y8)), .g, .g, (.w .g), (.w .g), (.w (.ix id8 off8 g8)), (.w (.ld (.int .i64 y8))), (.w .g), (.w (.ln l2.length)), (.w .g), (.p false), .g, (.w .g), (.w .g), (.w .g), (.w .g), (.w (.ix id8 off8 g8)), (.w (.ld (.int .i64 y8))), (.w (.ix id11 off11 g11)), (.w (.ld (.agg #[.int .i64 y11.1, .int .i64 y11.2.1, .int .i64 y11.2.2.1, .int .i64 y11.2.2.2]))), (.w (.c (.bool (F76 x1 y11.1 y11.2.1 y11.2.2.1 y11.2.2.2)) h)), (.w .g), (.p false), (.b true), .g, .g]) (ds := F46_m1_0) (ks := []) (e := ((F46_x1 h v2 v4) ((0, 0) : Nat × Int)).1) (s2 := ((F46_x1 h v2 v4) ((0, 0) : Nat × Int)).2) (hC := (ai c13 (ai c10 (ai (g_ff c10) (ai (F76_spec x1 y11.1 y11.2.1 y11.2.2.1 y11.2.2.2 h _ rfl) (ai (g_ff c10) (ai (At.agg (P := Try.prog) (t := 81) (v := .agg #[.int .i64 y11.1, .int .i64 y11.2.1, .int .i64 y11.2.2.1, .int .i64 y11.2.2.2]) (m := 4) at11 (by kernel_rfl) (by kernel_rfl) 0 (by kernel_rfl) rfl) (ai (g_ff c10) (ai ix11 (ai (g_ff c10) (ai (At.one (P := Try.prog) (t := 3) (v := .int .i64 y8) at8 (by kernel_rfl) 0 rfl rfl) (ai (g_ff c10) (ai ix8 (ai (g_ff c10) (ai (g_ff c10) (ai (g_ff c10) (ai (g_ff c10) (ai (g_ff c10) (ai c9 (ai (g_ff c9) (ai (SlE.len hv2) (ai (g_ff c9) (ai (g_ff c9) (ai (At.one (P := Try.prog) (t := 3) (v := .int .i64 y8) at8 (by kernel_rfl) 0 rfl rfl) (ai (g_ff c9) (ai ix8 (ai (g_ff c9) (ai (g_ff c9) (ai (g_ff c9) (ai (At.one (P := Try.prog) (t := 3) (v := .int .i64 y8) at8 (by kernel_rfl) 0 rfl rfl) (ai ix8 (ai c7 trivial)))))))))))))))))))))))))))))))) (hd := F46_d1) (h := by kernel_rfl)
        · intro hr
          obtain rfl := Option.some.inj hr
          show AWp Try.prog _ (Ends1 .normal (F46_h1 h x1 v2 x3 l4 v4 (IntKind.i64.wrap (a5 + (F77 y11.1 y11.2.1 y11.2.2.1 y11.2.2.2 x3))) (IntKind.i64.wrap (a6 + 1)))) _
          exact pEnd_sound good (L := F46_L) (D := F46_D) (its := [.g, (.b true), .g, .g, .g, .g, (.ix id8 off8 g8), (.ld (.int .i64 y8)), .g, .g, (.w .g), (.w .g), (.w (.ix id8 off8 g8)), (.w (.ld (.int .i64 y8))), (.w .g), (.w (.ln l2.length)), (.w .g), (.p false), .g, (.w .g), (.w .g), (.w .g), (.w .g), (.w (.ix id8 off8 g8)), (.w (.ld (.int .i64 y8))), (.w (.ix id11 off11 g11)), (.w (.ld (.agg #[.int .i64 y11.1, .int .i64 y11.2.1, .int .i64 y11.2.2.1, .int .i64 y11.2.2.2]))), (.w (.c (.bool (F76 x1 y11.1 y11.2.1 y11.2.2.1 y11.2.2.2)) h)), (.w .g), (.p false), (.b false), .g, .g, .g, .g, (.ix id8 off8 g8), (.ld (.int .i64 y8)), (.ix id11 off11 g11), (.ld (.agg #[.int .i64 y11.1, .int .i64 y11.2.1, .int .i64 y11.2.2.1, .int .i64 y11.2.2.2])), .g, (.c (.int .i64 (F77 y11.1 y11.2.1 y11.2.2.1 y11.2.2.2 x3)) h), .g, .g, .g, .g]) (ds := F46_m1_1) (ks := []) (e := .normal) (s2 := (F46_h1 h x1 v2 x3 l4 v4 (IntKind.i64.wrap (a5 + (F77 y11.1 y11.2.1 y11.2.2.1 y11.2.2.2 x3))) (IntKind.i64.wrap (a6 + 1)))) (hC := (ai (F77_spec y11.1 y11.2.1 y11.2.2.1 y11.2.2.2 x3 h _ rfl) (ai (At.agg (P := Try.prog) (t := 81) (v := .agg #[.int .i64 y11.1, .int .i64 y11.2.1, .int .i64 y11.2.2.1, .int .i64 y11.2.2.2]) (m := 4) at11 (by kernel_rfl) (by kernel_rfl) 0 (by kernel_rfl) rfl) (ai ix11 (ai (At.one (P := Try.prog) (t := 3) (v := .int .i64 y8) at8 (by kernel_rfl) 0 rfl rfl) (ai ix8 (ai c13 (ai c10 (ai (g_ff c10) (ai (F76_spec x1 y11.1 y11.2.1 y11.2.2.1 y11.2.2.2 h _ rfl) (ai (g_ff c10) (ai (At.agg (P := Try.prog) (t := 81) (v := .agg #[.int .i64 y11.1, .int .i64 y11.2.1, .int .i64 y11.2.2.1, .int .i64 y11.2.2.2]) (m := 4) at11 (by kernel_rfl) (by kernel_rfl) 0 (by kernel_rfl) rfl) (ai (g_ff c10) (ai ix11 (ai (g_ff c10) (ai (At.one (P := Try.prog) (t := 3) (v := .int .i64 y8) at8 (by kernel_rfl) 0 rfl rfl) (ai (g_ff c10) (ai ix8 (ai (g_ff c10) (ai (g_ff c10) (ai (g_ff c10) (ai (g_ff c10) (ai (g_ff c10) (ai c9 (ai (g_ff c9) (ai (SlE.len hv2) (ai (g_ff c9) (ai (g_ff c9) (ai (At.one (P := Try.prog) (t := 3) (v := .int .i64 y8) at8 (by kernel_rfl) 0 rfl rfl) (ai (g_ff c9) (ai ix8 (ai (g_ff c9) (ai (g_ff c9) (ai (g_ff c9) (ai (At.one (P := Try.prog) (t := 3) (v := .int .i64 y8) at8 (by kernel_rfl) 0 rfl rfl) (ai ix8 (ai c7 trivial))))))))))))))))))))))))))))))))))))) (hd := F46_d1) (h := by kernel_rfl)
  · intro hr
    obtain rfl := Option.some.inj hr
    show AWp Try.prog _ (Ends1 ((F46_x1 h v2 v4) ((1, a5) : Nat × Int)).1 ((F46_x1 h v2 v4) ((1, a5) : Nat × Int)).2) _
    exact pEnd_sound good (L := F46_L) (D := F46_D) (its := [.g, (.b false)]) (ds := F46_m1_2) (ks := []) (e := ((F46_x1 h v2 v4) ((1, a5) : Nat × Int)).1) (s2 := ((F46_x1 h v2 v4) ((1, a5) : Nat × Int)).2) (hC := (ai c7 trivial)) (hd := F46_d1) (h := by kernel_rfl)
theorem F46_l1_0 (h : AHeap) (x1 : Int) (l2 : List (Int × Int × Int × Int)) (v2 : Hd) (hv2 : SlE E81 4 h (sv v2) l2) (x3 : Int) (l4 : List Int) (v4 : Hd) (hv4 : SlE E3 1 h (sv v4) l4) (x : Int × Int) (r : Nat × Int) (hl : loopO (fun (s : Int × Int) => F46_s1 x1 l2 x3 l4 s.1 s.2) x = some r) (q0 : Nat.beq r.1 0 = true) : AWp Try.prog (.loop (codeOf Try.prog 46 [1, 1, 0, 1, 0, 0])) (Ends1 .ret (F46_x1_0 h v2 v4 r)) ((fun (s : Int × Int) => (F46_h1 h x1 v2 x3 l4 v4 s.1 s.2)) x) := by
  have k := loop_fun (P := Try.prog) (c := (codeOf Try.prog 46 [1, 1, 0, 1, 0, 0])) (step := (fun (s : Int × Int) => F46_s1 x1 l2 x3 l4 s.1 s.2)) (hd := (fun (s : Int × Int) => (F46_h1 h x1 v2 x3 l4 v4 s.1 s.2))) (X := (F46_x1 h v2 v4)) (by intro t; unfold F46_x1; cases Nat.beq t.1 0 <;> (intro h; cases h)) (fun x => F46_r1 h x1 l2 v2 hv2 x3 l4 v4 hv4 x.1 x.2) hl
  simp only [F46_x1, q0, cond_true, cond_false] at k
  exact k
theorem F46_l1_1 (h : AHeap) (x1 : Int) (l2 : List (Int × Int × Int × Int)) (v2 : Hd) (hv2 : SlE E81 4 h (sv v2) l2) (x3 : Int) (l4 : List Int) (v4 : Hd) (hv4 : SlE E3 1 h (sv v4) l4) (x : Int × Int) (r : Nat × Int) (hl : loopO (fun (s : Int × Int) => F46_s1 x1 l2 x3 l4 s.1 s.2) x = some r) (q0 : Nat.beq r.1 0 = false) : AWp Try.prog (.loop (codeOf Try.prog 46 [1, 1, 0, 1, 0, 0])) (Ends1 (.exit 0) (F46_x1_1 h v2 v4 r)) ((fun (s : Int × Int) => (F46_h1 h x1 v2 x3 l4 v4 s.1 s.2)) x) := by
  have k := loop_fun (P := Try.prog) (c := (codeOf Try.prog 46 [1, 1, 0, 1, 0, 0])) (step := (fun (s : Int × Int) => F46_s1 x1 l2 x3 l4 s.1 s.2)) (hd := (fun (s : Int × Int) => (F46_h1 h x1 v2 x3 l4 v4 s.1 s.2))) (X := (F46_x1 h v2 v4)) (by intro t; unfold F46_x1; cases Nat.beq t.1 0 <;> (intro h; cases h)) (fun x => F46_r1 h x1 l2 v2 hv2 x3 l4 v4 hv4 x.1 x.2) hl
  simp only [F46_x1, q0, cond_true, cond_false] at k
  exact k
def F46_m2_2 : List Bool := [true, false, true, false, true, true, true, true, true, true, false, true, true, true, true, true, true, true, true, true, true, true, true, true, true, true, true, true, true, true, true, true, true, true, true, true, true, true, true, true, true, true, true, true, true, true, true, true, true, true, true, true, true, true, true, true, true, true, true, false, false, true, true, true, true, true, true, true, true, true, true, true, true, true, true, true, true, true, true, true, true, true, true, true, true, true, true, true, true, true, true, true, true, true, true, true, true, true, true, true, true, true, true, true, true, true, true, true, true, true, true]
def F46_m2_1 : List Bool := [true, false, true, false, true, true, true, true, true, true, false, true, false, true, true, true, true, true, true, true, true, true, true, true, true, true, true, true, true, true, true, true, true, true, true, true, true, true, true, true, true, true, true, true, true, true, true, true, true, true, true, true, true, true, true, true, true, true, true, false, false, true, true, true, true, true, true, true, true, true, true, true, true, true, true, true, true, true, true, true, true, true, true, true, true, false, false, true, true, true, true, true, true, true, true, true, true, true, true, true, true, true, true, true, true, true, true, true, true, true, true]
def F46_m2_0 : List Bool := [true, true, true, true, true, true, true, true, false, false, true, true, true, true, true, true, true, true, true, true, true, true, true, true, true, true, true, true, true, true, true, true, true, true, true, true, true, true, true, true, true, true, true, true, true, true, true, true, true, true, true, true, true, true, true, true, true, true, true, true, true, true, true, true, true, true, true, true, true, true, true, true, true, true, true, true, true, true, true, true, true, true, true, true, true, true, true, true, true, true, true, true, true, true, true, true, true, true, true, true, true, true, true, true, true, true, true, true, true, true, true]
def F46_s2 (l2 : List (Int × Int × Int × Int)) (l4 : List Int) (a17 : Int) (y22 : Int × Int × Int × Int) (a25 : Int) : Option (Int ⊕ Nat) :=
  (bif decide (a25 < a17) then
   (Option.bind (at? l4 a25) fun y27 =>
   (Option.bind (at? l2 y27) fun y28 =>
   (bif (y28.1 == y22.1) then
    some (.inr 0)
   else
    some (.inl (IntKind.i64.wrap (a25 + 1))))))
  else
   some (.inr 1))
def F46_h2 (h : AHeap) (v2 : Hd) (l4 : List Int) (v4 : Hd) (y15 : Nat × Int) (a17 : Int)  (a25 : Int) : AS := ⟨[junk, (sv v2), junk, (sv v4), junk, junk, junk, junk, junk, junk, .int .i64 y15.2, junk, .int .i64 a17, junk, junk, junk, junk, junk, junk, junk, junk, junk, junk, junk, junk, junk, junk, junk, junk, junk, junk, junk, junk, junk, junk, junk, junk, junk, junk, junk, junk, junk, junk, junk, junk, junk, junk, junk, junk, junk, junk, junk, junk, junk, junk, junk, junk, junk, junk, .int .i64 (l4.length : Int), .int .i64 a17, junk, junk, junk, junk, junk, junk, junk, junk, junk, junk, junk, junk, junk, junk, junk, junk, junk, junk, junk, junk, junk, junk, junk, junk, .int .i64 a17, .int .i64 a25, junk, junk, junk, junk, junk, junk, junk, junk, junk, junk, junk, junk, junk, junk, junk, junk, junk, junk, junk, junk, junk, junk, junk, junk], [], h⟩
theorem F46_d2 : drawsOk F46_D (codeOf Try.prog 46 [1, 1, 1, 0, 1, 0, 0, 1, 1, 0, 0, 1, 1, 1, 1, 0, 0]) = true := by kernel_rfl
def F46_x2_0 (h : AHeap) (v2 : Hd) (l4 : List Int) (v4 : Hd) (y15 : Nat × Int) (a17 : Int)  (r : Nat) : AS := ⟨[junk, junk, junk, junk, junk, junk, junk, junk, .int .i64 0, .bool false, junk, junk, junk, junk, junk, junk, junk, junk, junk, junk, junk, junk, junk, junk, junk, junk, junk, junk, junk, junk, junk, junk, junk, junk, junk, junk, junk, junk, junk, junk, junk, junk, junk, junk, junk, junk, junk, junk, junk, junk, junk, junk, junk, junk, junk, junk, junk, junk, junk, junk, junk, junk, junk, junk, junk, junk, junk, junk, junk, junk, junk, junk, junk, junk, junk, junk, junk, junk, junk, junk, junk, junk, junk, junk, junk, junk, junk, junk, junk, junk, junk, junk, junk, junk, junk, junk, junk, junk, junk, junk, junk, junk, junk, junk, junk, junk, junk, junk, junk, junk, junk], [], h⟩
def F46_x2_1 (h : AHeap) (v2 : Hd) (l4 : List Int) (v4 : Hd) (y15 : Nat × Int) (a17 : Int)  (r : Nat) : AS := ⟨[junk, (sv v2), junk, (sv v4), junk, junk, junk, junk, junk, junk, .int .i64 y15.2, junk, junk, junk, junk, junk, junk, junk, junk, junk, junk, junk, junk, junk, junk, junk, junk, junk, junk, junk, junk, junk, junk, junk, junk, junk, junk, junk, junk, junk, junk, junk, junk, junk, junk, junk, junk, junk, junk, junk, junk, junk, junk, junk, junk, junk, junk, junk, junk, .int .i64 (l4.length : Int), .int .i64 a17, junk, junk, junk, junk, junk, junk, junk, junk, junk, junk, junk, junk, junk, junk, junk, junk, junk, junk, junk, junk, junk, junk, junk, junk, junk, junk, junk, junk, junk, junk, junk, junk, junk, junk, junk, junk, junk, junk, junk, junk, junk, junk, junk, junk, junk, junk, junk, junk, junk, junk], [], h⟩
def F46_x2 (h : AHeap) (v2 : Hd) (l4 : List Int) (v4 : Hd) (y15 : Nat × Int) (a17 : Int) (r : Nat) : Exit × AS := (bif Nat.beq r 0 then (.ret, (F46_x2_0 h v2 l4 v4 y15 a17 r)) else ((.exit 4), (F46_x2_1 h v2 l4 v4 y15 a17 r)))
set_option maxRecDepth 100000 in
theorem F46_r2 (h : AHeap) (l2 : List (Int × Int × Int × Int)) (v2 : Hd) (hv2 : SlE E81 4 h (sv v2) l2) (l4 : List Int) (v4 : Hd) (hv4 : SlE E3 1 h (sv v4) l4) (y15 : Nat × Int) (a17 : Int) (y21 : Int) (id21 : Nat) (off21 : Nat) (g21 : Nat) (ix21 : ixv 1 (sv v4) a17 = some (id21, off21, g21)) (at21 : At h id21 off21 g21 (enc3 y21)) (y22 : Int × Int × Int × Int) (id22 : Nat) (off22 : Nat) (g22 : Nat) (ix22 : ixv 4 (sv v2) y21 = some (id22, off22, g22)) (at22 : At h id22 off22 g22 (enc81 y22)) (a25 : Int) (o : Int ⊕ Nat) : F46_s2 l2 l4 a17 y22 a25 = some o → RdF Try.prog (codeOf Try.prog 46 [1, 1, 1, 0, 1, 0, 0, 1, 1, 0, 0, 1, 1, 1, 1, 0, 0]) (fun (s : Int) => (F46_h2 h v2 l4 v4 y15 a17 s)) (F46_x2 h v2 l4 v4 y15 a17) (F46_h2 h v2 l4 v4 y15 a17 a25) o := by
  unfold F46_s2
  refine dec_bif (fun c26 => ?_) (fun c26 => ?_)
  · refine bind_opt fun y27 e27 => ?_
    obtain ⟨id27, off27, g27, cs27, ix27, at27, rfl⟩ := SlE.at hv4 e27
    refine bind_opt fun y28 e28 => ?_
    obtain ⟨id28, off28, g28, cs28, ix28, at28, rfl⟩ := SlE.at hv2 e28
    refine dec_bif (fun c29 => ?_) (fun c29 => ?_)
    · intro hr
      obtain rfl := Option.some.inj hr
      show AWp Try.prog _ (Ends1 ((F46_x2 h v2 l4 v4 y15 a17) (0 : Nat)).1 ((F46_x2 h v2 l4 v4 y15 a17) (0 : Nat)).2) _
      exact pEnd_sound good (L := F46_L) (D := F46_D) (its := [.g, (.b true), .g, .g, .g, .g, .g, (.ix id27 off27 g27), (.ld (.int .i64 y27)), (.ix id28 off28 g28), .g, (.ld (.int .i64 y28.1)), .g, .g, .g, (.ix id21 off21 g21), (.ld (.int .i64 y21)), (.ix id22 off22 g22), .g, (.ld (.int .i64 y22.1)), .g, (.b true), .g, .g]) (ds := F46_m2_0) (ks := []) (e := ((F46_x2 h v2 l4 v4 y15 a17) (0 : Nat)).1) (s2 := ((F46_x2 h v2 l4 v4 y15 a17) (0 : Nat)).2) (hC := (ai c29 (ai (At.one (P := Try.prog) (t := 3) (v := .int .i64 y22.1) at22 (by kernel_rfl) 0 rfl rfl) (ai ix22 (ai (At.one (P := Try.prog) (t := 3) (v := .int .i64 y21) at21 (by kernel_rfl) 0 rfl rfl) (ai ix21 (ai (At.one (P := Try.prog) (t := 3) (v := .int .i64 y28.1) at28 (by kernel_rfl) 0 rfl rfl) (ai ix28 (ai (At.one (P := Try.prog) (t := 3) (v := .int .i64 y27) at27 (by kernel_rfl) 0 rfl rfl) (ai ix27 (ai c26 trivial))))))))))) (hd := F46_d2) (h := by kernel_rfl)
    · intro hr
      obtain rfl := Option.some.inj hr
      show AWp Try.prog _ (Ends1 .normal (F46_h2 h v2 l4 v4 y15 a17 (IntKind.i64.wrap (a25 + 1)))) _
      exact pEnd_sound good (L := F46_L) (D := F46_D) (its := [.g, (.b true), .g, .g, .g, .g, .g, (.ix id27 off27 g27), (.ld (.int .i64 y27)), (.ix id28 off28 g28), .g, (.ld (.int .i64 y28.1)), .g, .g, .g, (.ix id21 off21 g21), (.ld (.int .i64 y21)), (.ix id22 off22 g22), .g, (.ld (.int .i64 y22.1)), .g, (.b false), .g, .g]) (ds := F46_m2_1) (ks := []) (e := .normal) (s2 := (F46_h2 h v2 l4 v4 y15 a17 (IntKind.i64.wrap (a25 + 1)))) (hC := (ai c29 (ai (At.one (P := Try.prog) (t := 3) (v := .int .i64 y22.1) at22 (by kernel_rfl) 0 rfl rfl) (ai ix22 (ai (At.one (P := Try.prog) (t := 3) (v := .int .i64 y21) at21 (by kernel_rfl) 0 rfl rfl) (ai ix21 (ai (At.one (P := Try.prog) (t := 3) (v := .int .i64 y28.1) at28 (by kernel_rfl) 0 rfl rfl) (ai ix28 (ai (At.one (P := Try.prog) (t := 3) (v := .int .i64 y27) at27 (by kernel_rfl) 0 rfl rfl) (ai ix27 (ai c26 trivial))))))))))) (hd := F46_d2) (h := by kernel_rfl)
  · intro hr
    obtain rfl := Option.some.inj hr
    show AWp Try.prog _ (Ends1 ((F46_x2 h v2 l4 v4 y15 a17) (1 : Nat)).1 ((F46_x2 h v2 l4 v4 y15 a17) (1 : Nat)).2) _
    exact pEnd_sound good (L := F46_L) (D := F46_D) (its := [.g, (.b false)]) (ds := F46_m2_2) (ks := []) (e := ((F46_x2 h v2 l4 v4 y15 a17) (1 : Nat)).1) (s2 := ((F46_x2 h v2 l4 v4 y15 a17) (1 : Nat)).2) (hC := (ai c26 trivial)) (hd := F46_d2) (h := by kernel_rfl)
theorem F46_l2_0 (h : AHeap) (l2 : List (Int × Int × Int × Int)) (v2 : Hd) (hv2 : SlE E81 4 h (sv v2) l2) (l4 : List Int) (v4 : Hd) (hv4 : SlE E3 1 h (sv v4) l4) (y15 : Nat × Int) (a17 : Int) (y21 : Int) (id21 : Nat) (off21 : Nat) (g21 : Nat) (ix21 : ixv 1 (sv v4) a17 = some (id21, off21, g21)) (at21 : At h id21 off21 g21 (enc3 y21)) (y22 : Int × Int × Int × Int) (id22 : Nat) (off22 : Nat) (g22 : Nat) (ix22 : ixv 4 (sv v2) y21 = some (id22, off22, g22)) (at22 : At h id22 off22 g22 (enc81 y22)) (x : Int) (r : Nat) (hl : loopO (fun (s : Int) => F46_s2 l2 l4 a17 y22 s) x = some r) (q0 : Nat.beq r 0 = true) : AWp Try.prog (.loop (codeOf Try.prog 46 [1, 1, 1, 0, 1, 0, 0, 1, 1, 0, 0, 1, 1, 1, 1, 0, 0])) (Ends1 .ret (F46_x2_0 h v2 l4 v4 y15 a17 r)) ((fun (s : Int) => (F46_h2 h v2 l4 v4 y15 a17 s)) x) := by
  have k := loop_fun (P := Try.prog) (c := (codeOf Try.prog 46 [1, 1, 1, 0, 1, 0, 0, 1, 1, 0, 0, 1, 1, 1, 1, 0, 0])) (step := (fun (s : Int) => F46_s2 l2 l4 a17 y22 s)) (hd := (fun (s : Int) => (F46_h2 h v2 l4 v4 y15 a17 s))) (X := (F46_x2 h v2 l4 v4 y15 a17)) (by intro t; unfold F46_x2; cases Nat.beq t 0 <;> (intro h; cases h)) (fun x => F46_r2 h l2 v2 hv2 l4 v4 hv4 y15 a17 y21 id21 off21 g21 ix21 at21 y22 id22 off22 g22 ix22 at22 x) hl
  simp only [F46_x2, q0, cond_true, cond_false] at k
  exact k
theorem F46_l2_1 (h : AHeap) (l2 : List (Int × Int × Int × Int)) (v2 : Hd) (hv2 : SlE E81 4 h (sv v2) l2) (l4 : List Int) (v4 : Hd) (hv4 : SlE E3 1 h (sv v4) l4) (y15 : Nat × Int) (a17 : Int) (y21 : Int) (id21 : Nat) (off21 : Nat) (g21 : Nat) (ix21 : ixv 1 (sv v4) a17 = some (id21, off21, g21)) (at21 : At h id21 off21 g21 (enc3 y21)) (y22 : Int × Int × Int × Int) (id22 : Nat) (off22 : Nat) (g22 : Nat) (ix22 : ixv 4 (sv v2) y21 = some (id22, off22, g22)) (at22 : At h id22 off22 g22 (enc81 y22)) (x : Int) (r : Nat) (hl : loopO (fun (s : Int) => F46_s2 l2 l4 a17 y22 s) x = some r) (q0 : Nat.beq r 0 = false) : AWp Try.prog (.loop (codeOf Try.prog 46 [1, 1, 1, 0, 1, 0, 0, 1, 1, 0, 0, 1, 1, 1, 1, 0, 0])) (Ends1 (.exit 4) (F46_x2_1 h v2 l4 v4 y15 a17 r)) ((fun (s : Int) => (F46_h2 h v2 l4 v4 y15 a17 s)) x) := by
  have k := loop_fun (P := Try.prog) (c := (codeOf Try.prog 46 [1, 1, 1, 0, 1, 0, 0, 1, 1, 0, 0, 1, 1, 1, 1, 0, 0])) (step := (fun (s : Int) => F46_s2 l2 l4 a17 y22 s)) (hd := (fun (s : Int) => (F46_h2 h v2 l4 v4 y15 a17 s))) (X := (F46_x2 h v2 l4 v4 y15 a17)) (by intro t; unfold F46_x2; cases Nat.beq t 0 <;> (intro h; cases h)) (fun x => F46_r2 h l2 v2 hv2 l4 v4 hv4 y15 a17 y21 id21 off21 g21 ix21 at21 y22 id22 off22 g22 ix22 at22 x) hl
  simp only [F46_x2, q0, cond_true, cond_false] at k
  exact k
def F46_m3_2 : List Bool := [true, true, true, true, true, true, true, true, true, true, false, true, true, true, true, true, true, true, true, true, true, true, true, true, true, true, true, true, true, true, true, true, true, true, true, true, true, true, true, true, true, true, true, true, true, true, true, true, true, true, true, true, true, true, true, true, true, true, true, true, true, true, true, true, true, true, true, true, true, true, true, true, true, true, true, true, true, true, true, true, true, true, true, true, true, true, true, true, true, true, true, true, true, true, true, true, true, true, true, true, true, true, true, true, true, true, true, true, true, true, true]
def F46_m3_1 : List Bool := [true, false, true, false, true, true, true, true, true, true, false, true, true, true, true, true, true, true, true, true, true, true, true, true, true, true, true, true, true, true, true, true, true, true, true, true, true, true, true, true, true, true, true, true, true, true, true, true, true, true, true, true, true, true, true, true, true, true, true, false, false, true, true, true, true, true, true, true, true, true, true, true, true, true, true, true, true, true, true, true, true, true, true, true, true, true, true, true, true, true, true, true, true, true, true, true, true, true, true, true, true, true, true, true, true, true, true, true, true, true, true]
def F46_m3_0 : List Bool := [true, true, true, true, true, true, true, true, false, false, true, true, true, true, true, true, true, true, true, true, true, true, true, true, true, true, true, true, true, true, true, true, true, true, true, true, true, true, true, true, true, true, true, true, true, true, true, true, true, true, true, true, true, true, true, true, true, true, true, true, true, true, true, true, true, true, true, true, true, true, true, true, true, true, true, true, true, true, true, true, true, true, true, true, true, true, true, true, true, true, true, true, true, true, true, true, true, true, true, true, true, true, true, true, true, true, true, true, true, true, true]
def F46_s3 (l2 : List (Int × Int × Int × Int)) (l4 : List Int) (a17 : Int) : Option (Int ⊕ Nat) :=
  (bif decide (a17 < (l4.length : Int)) then
   (bif ((l4.length : Int) == 0) then none else
   (Option.bind (at? l4 ((IntKind.i64.wrap (a17 + 1)).tmod (l4.length : Int))) fun y20 =>
   (Option.bind (at? l4 a17) fun y21 =>
   (Option.bind (at? l2 y21) fun y22 =>
   (Option.bind (at? l2 y20) fun y23 =>
   (bif (y22.2.1 != y23.1) then
    some (.inr 0)
   else
    (Option.bind (loopO (fun (s : Int) => F46_s2 l2 l4 a17 y22 s) 0) fun y30 =>
    (bif (Nat.beq y30 0) then
     some (.inr 0)
    else
     some (.inl (IntKind.i64.wrap (a17 + 1)))))))))))
  else
   some (.inr 1))
def F46_h3 (h : AHeap) (v2 : Hd) (l4 : List Int) (v4 : Hd) (y15 : Nat × Int)  (a17 : Int) : AS := ⟨[junk, (sv v2), junk, (sv v4), junk, junk, junk, junk, junk, junk, .int .i64 y15.2, junk, junk, junk, junk, junk, junk, junk, junk, junk, junk, junk, junk, junk, junk, junk, junk, junk, junk, junk, junk, junk, junk, junk, junk, junk, junk, junk, junk, junk, junk, junk, junk, junk, junk, junk, junk, junk, junk, junk, junk, junk, junk, junk, junk, junk, junk, junk, junk, .int .i64 (l4.length : Int), .int .i64 a17, junk, junk, junk, junk, junk, junk, junk, junk, junk, junk, junk, junk, junk, junk, junk, junk, junk, junk, junk, junk, junk, junk, junk, junk, junk, junk, junk, junk, junk, junk, junk, junk, junk, junk, junk, junk, junk, junk, junk, junk, junk, junk, junk, junk, junk, junk, junk, junk, junk, junk], [], h⟩
theorem F46_d3 : drawsOk F46_D (codeOf Try.prog 46 [1, 1, 1, 0, 1, 0, 0]) = true := by kernel_rfl
def F46_x3_0 (h : AHeap) (y15 : Nat × Int)  (r : Nat) : AS := ⟨[junk, junk, junk, junk, junk, junk, junk, junk, .int .i64 0, .bool false, junk, junk, junk, junk, junk, junk, junk, junk, junk, junk, junk, junk, junk, junk, junk, junk, junk, junk, junk, junk, junk, junk, junk, junk, junk, junk, junk, junk, junk, junk, junk, junk, junk, junk, junk, junk, junk, junk, junk, junk, junk, junk, junk, junk, junk, junk, junk, junk, junk, junk, junk, junk, junk, junk, junk, junk, junk, junk, junk, junk, junk, junk, junk, junk, junk, junk, junk, junk, junk, junk, junk, junk, junk, junk, junk, junk, junk, junk, junk, junk, junk, junk, junk, junk, junk, junk, junk, junk, junk, junk, junk, junk, junk, junk, junk, junk, junk, junk, junk, junk, junk], [], h⟩
def F46_x3_1 (h : AHeap) (y15 : Nat × Int)  (r : Nat) : AS := ⟨[junk, junk, junk, junk, junk, junk, junk, junk, junk, junk, .int .i64 y15.2, junk, junk, junk, junk, junk, junk, junk, junk, junk, junk, junk, junk, junk, junk, junk, junk, junk, junk, junk, junk, junk, junk, junk, junk, junk, junk, junk, junk, junk, junk, junk, junk, junk, junk, junk, junk, junk, junk, junk, junk, junk, junk, junk, junk, junk, junk, junk, junk, junk, junk, junk, junk, junk, junk, junk, junk, junk, junk, junk, junk, junk, junk, junk, junk, junk, junk, junk, junk, junk, junk, junk, junk, junk, junk, junk, junk, junk, junk, junk, junk, junk, junk, junk, junk, junk, junk, junk, junk, junk, junk, junk, junk, junk, junk, junk, junk, junk, junk, junk, junk], [], h⟩
def F46_x3 (h : AHeap) (y15 : Nat × Int) (r : Nat) : Exit × AS := (bif Nat.beq r 0 then (.ret, (F46_x3_0 h y15 r)) else ((.exit 2), (F46_x3_1 h y15 r)))
set_option maxRecDepth 100000 in
theorem F46_r3 (h : AHeap) (l2 : List (Int × Int × Int × Int)) (v2 : Hd) (hv2 : SlE E81 4 h (sv v2) l2) (l4 : List Int) (v4 : Hd) (hv4 : SlE E3 1 h (sv v4) l4) (y15 : Nat × Int) (a17 : Int) (o : Int ⊕ Nat) : F46_s3 l2 l4 a17 = some o → RdF Try.prog (codeOf Try.prog 46 [1, 1, 1, 0, 1, 0, 0]) (fun (s : Int) => (F46_h3 h v2 l4 v4 y15 s)) (F46_x3 h y15) (F46_h3 h v2 l4 v4 y15 a17) o := by
  unfold F46_s3
  refine dec_bif (fun c18 => ?_) (fun c18 => ?_)
  · refine guard_ok fun g19 => ?_
    refine bind_opt fun y20 e20 => ?_
    obtain ⟨id20, off20, g20, cs20, ix20, at20, rfl⟩ := SlE.at hv4 e20
    refine bind_opt fun y21 e21 => ?_
    obtain ⟨id21, off21, g21, cs21, ix21, at21, rfl⟩ := SlE.at hv4 e21
    refine bind_opt fun y22 e22 => ?_
    obtain ⟨id22, off22, g22, cs22, ix22, at22, rfl⟩ := SlE.at hv2 e22
    refine bind_opt fun y23 e23 => ?_
    obtain ⟨id23, off23, g23, cs23, ix23, at23, rfl⟩ := SlE.at hv2 e23
    refine dec_bif (fun c24 => ?_) (fun c24 => ?_)
    · intro hr
      obtain rfl := Option.some.inj hr
      show AWp Try.prog _ (Ends1 ((F46_x3 h y15) (0 : Nat)).1 ((F46_x3 h y15) (0 : Nat)).2) _
      exact pEnd_sound good (L := F46_L) (D := F46_D) (its := [.g, (.b true), .g, .g, .g, .g, .g, .g, (.ln l4.length), .d, (.ix id20 off20 g20), (.ld (.int .i64 y20)), .g, .g, .g, .g, (.ix id21 off21 g21), (.ld (.int .i64 y21)), (.ix id22 off22 g22), .g, (.ld (.int .i64 y22.2.1)), .g, .g, (.ix id23 off23 g23), .g, (.ld (.int .i64 y23.1)), .g, (.b true), .g, .g]) (ds := F46_m3_0) (ks := []) (e := ((F46_x3 h y15) (0 : Nat)).1) (s2 := ((F46_x3 h y15) (0 : Nat)).2) (hC := (ai c24 (ai (At.one (P := Try.prog) (t := 3) (v := .int .i64 y23.1) at23 (by kernel_rfl) 0 rfl rfl) (ai ix23 (ai (At.one (P := Try.prog) (t := 3) (v := .int .i64 y22.2.1) at22 (by kernel_rfl) 1 rfl rfl) (ai ix22 (ai (At.one (P := Try.prog) (t := 3) (v := .int .i64 y21) at21 (by kernel_rfl) 0 rfl rfl) (ai ix21 (ai (At.one (P := Try.prog) (t := 3) (v := .int .i64 y20) at20 (by kernel_rfl) 0 rfl rfl) (ai ix20 (ai (nz g19) (ai (SlE.len hv4) (ai c18 trivial))))))))))))) (hd := F46_d3) (h := by kernel_rfl)
    · refine bind_opt fun y30 e30 => ?_
      refine dec_bif (fun c31 => ?_) (fun c31 => ?_)
      · intro hr
        obtain rfl := Option.some.inj hr
        show AWp Try.prog _ (Ends1 ((F46_x3 h y15) (0 : Nat)).1 ((F46_x3 h y15) (0 : Nat)).2) _
        exact pEnd_sound good (L := F46_L) (D := F46_D) (its := [.g, (.b true), .g, .g, .g, .g, .g, .g, (.ln l4.length), .d, (.ix id20 off20 g20), (.ld (.int .i64 y20)), .g, .g, .g, .g, (.ix id21 off21 g21), (.ld (.int .i64 y21)), (.ix id22 off22 g22), .g, (.ld (.int .i64 y22.2.1)), .g, .g, (.ix id23 off23 g23), .g, (.ld (.int .i64 y23.1)), .g, (.b false), .g, .g, (.l F46_m2_1 [] .ret (F46_x2_0 h v2 l4 v4 y15 a17 y30))]) (ds := F46_m3_0) (ks := []) (e := ((F46_x3 h y15) (0 : Nat)).1) (s2 := ((F46_x3 h y15) (0 : Nat)).2) (hC := (ai (F46_l2_0 h l2 v2 hv2 l4 v4 hv4 y15 a17 y21 id21 off21 g21 ix21 at21 y22 id22 off22 g22 ix22 at22 0 y30 e30 c31) (ai c24 (ai (At.one (P := Try.prog) (t := 3) (v := .int .i64 y23.1) at23 (by kernel_rfl) 0 rfl rfl) (ai ix23 (ai (At.one (P := Try.prog) (t := 3) (v := .int .i64 y22.2.1) at22 (by kernel_rfl) 1 rfl rfl) (ai ix22 (ai (At.one (P := Try.prog) (t := 3) (v := .int .i64 y21) at21 (by kernel_rfl) 0 rfl rfl) (ai ix21 (ai (At.one (P := Try.prog) (t := 3) (v := .int .i64 y20) at20 (by kernel_rfl) 0 rfl rfl) (ai ix20 (ai (nz g19) (ai (SlE.len hv4) (ai c18 trivial)))))))))))))) (hd := F46_d3) (h := by kernel_rfl)
      · intro hr
        obtain rfl := Option.some.inj hr
        show AWp Try.prog _ (Ends1 .normal (F46_h3 h v2 l4 v4 y15 (IntKind.i64.wrap (a17 + 1)))) _
        exact pEnd_sound good (L := F46_L) (D := F46_D) (its := [.g, (.b true), .g, .g, .g, .g, .g, .g, (.ln l4.length), .d, (.ix id20 off20 g20), (.ld (.int .i64 y20)), .g, .g, .g, .g, (.ix id21 off21 g21), (.ld (.int .i64 y21)), (.ix id22 off22 g22), .g, (.ld (.int .i64 y22.2.1)), .g, .g, (.ix id23 off23 g23), .g, (.ld (.int .i64 y23.1)), .g, (.b false), .g, .g, (.l F46_m2_1 [] (.exit 4) (F46_x2_1 h v2 l4 v4 y15 a17 y30)), .g, .g]) (ds := F46_m3_1) (ks := []) (e := .normal) (s2 := (F46_h3 h v2 l4 v4 y15 (IntKind.i64.wrap (a17 + 1)))) (hC := (ai (F46_l2_1 h l2 v2 hv2 l4 v4 hv4 y15 a17 y21 id21 off21 g21 ix21 at21 y22 id22 off22 g22 ix22 at22 0 y30 e30 c31) (ai c24 (ai (At.one (P := Try.prog) (t := 3) (v := .int .i64 y23.1) at23 (by kernel_rfl) 0 rfl rfl) (ai ix23 (ai (At.one (P := Try.prog) (t := 3) (v := .int .i64 y22.2.1) at22 (by kernel_rfl) 1 rfl rfl) (ai ix22 (ai (At.one (P := Try.prog) (t := 3) (v := .int .i64 y21) at21 (by kernel_rfl) 0 rfl rfl) (ai ix21 (ai (At.one (P := Try.prog) (t := 3) (v := .int .i64 y20) at20 (by kernel_rfl) 0 rfl rfl) (ai ix20 (ai (nz g19) (ai (SlE.len hv4) (ai c18 trivial)))))))))))))) (hd := F46_d3) (h := by kernel_rfl)
  · intro hr
    obtain rfl := Option.some.inj hr
    show AWp Try.prog _ (Ends1 ((F46_x3 h y15) (1 : Nat)).1 ((F46_x3 h y15) (1 : Nat)).2) _
    exact pEnd_sound good (L := F46_L) (D := F46_D) (its := [.g, (.b false)]) (ds := F46_m3_2) (ks := []) (e := ((F46_x3 h y15) (1 : Nat)).1) (s2 := ((F46_x3 h y15) (1 : Nat)).2) (hC := (ai c18 trivial)) (hd := F46_d3) (h := by kernel_rfl)
theorem F46_l3_0 (h : AHeap) (l2 : List (Int × Int × Int × Int)) (v2 : Hd) (hv2 : SlE E81 4 h (sv v2) l2) (l4 : List Int) (v4 : Hd) (hv4 : SlE E3 1 h (sv v4) l4) (y15 : Nat × Int) (x : Int) (r : Nat) (hl : loopO (fun (s : Int) => F46_s3 l2 l4 s) x = some r) (q0 : Nat.beq r 0 = true) : AWp Try.prog (.loop (codeOf Try.prog 46 [1, 1, 1, 0, 1, 0, 0])) (Ends1 .ret (F46_x3_0 h y15 r)) ((fun (s : Int) => (F46_h3 h v2 l4 v4 y15 s)) x) := by
  have k := loop_fun (P := Try.prog) (c := (codeOf Try.prog 46 [1, 1, 1, 0, 1, 0, 0])) (step := (fun (s : Int) => F46_s3 l2 l4 s)) (hd := (fun (s : Int) => (F46_h3 h v2 l4 v4 y15 s))) (X := (F46_x3 h y15)) (by intro t; unfold F46_x3; cases Nat.beq t 0 <;> (intro h; cases h)) (fun x => F46_r3 h l2 v2 hv2 l4 v4 hv4 y15 x) hl
  simp only [F46_x3, q0, cond_true, cond_false] at k
  exact k
theorem F46_l3_1 (h : AHeap) (l2 : List (Int × Int × Int × Int)) (v2 : Hd) (hv2 : SlE E81 4 h (sv v2) l2) (l4 : List Int) (v4 : Hd) (hv4 : SlE E3 1 h (sv v4) l4) (y15 : Nat × Int) (x : Int) (r : Nat) (hl : loopO (fun (s : Int) => F46_s3 l2 l4 s) x = some r) (q0 : Nat.beq r 0 = false) : AWp Try.prog (.loop (codeOf Try.prog 46 [1, 1, 1, 0, 1, 0, 0])) (Ends1 (.exit 2) (F46_x3_1 h y15 r)) ((fun (s : Int) => (F46_h3 h v2 l4 v4 y15 s)) x) := by
  have k := loop_fun (P := Try.prog) (c := (codeOf Try.prog 46 [1, 1, 1, 0, 1, 0, 0])) (step := (fun (s : Int) => F46_s3 l2 l4 s)) (hd := (fun (s : Int) => (F46_h3 h v2 l4 v4 y15 s))) (X := (F46_x3 h y15)) (by intro t; unfold F46_x3; cases Nat.beq t 0 <;> (intro h; cases h)) (fun x => F46_r3 h l2 v2 hv2 l4 v4 hv4 y15 x) hl
  simp only [F46_x3, q0, cond_true, cond_false] at k
  exact k
def F46 (x1 : Int) (l2 : List (Int × Int × Int × Int)) (x3 : Int) (l4 : List Int) : Option (Int × Bool) :=
  (Option.bind (loopO (fun (s : Int × Int) => F46_s1 x1 l2 x3 l4 s.1 s.2) (0, 0)) fun y15 =>
  (bif (Nat.beq y15.1 0) then
   some (0, false)
  else
   (Option.bind (loopO (fun (s : Int) => F46_s3 l2 l4 s) 0) fun y32 =>
   (bif (Nat.beq y32 0) then
    some (0, false)
   else
    some (y15.2, (decide (y15.2 > 0)))))))
set_option maxRecDepth 100000 in
theorem F46_spec (x1 : Int) (l2 : List (Int × Int × Int × Int)) (x3 : Int) (l4 : List Int) (v2 : Hd) (v4 : Hd) (h : AHeap) (hv2 : SlE E81 4 h (sv v2) l2) (hv4 : SlE E3 1 h (sv v4) l4) (r : Int × Bool) : F46 x1 l2 x3 l4 = some r → ACalls Try.prog 46 [.int .i64 x1, (sv v2), .int .i64 x3, (sv v4)] h (fun v' h'' => v' = (.tuple #[.int .i64 r.1, .bool r.2] : Value) ∧ h'' = h) := by
  unfold F46
  refine bind_opt fun y15 e15 => ?_
  refine dec_bif (fun c16 => ?_) (fun c16 => ?_)
  · intro hr
    obtain rfl := Option.some.inj hr
    exact pFun_sound good tab_ok (f := 46) (its := [.g, .g, .g, .g, (.ln l4.length), .g, (.l F46_m1_1 [] .ret (F46_x1_0 h v2 v4 y15))]) (args := [.int .i64 x1, (sv v2), .int .i64 x3, (sv v4)]) (h := h) (h' := h) (v := .tuple #[.int .i64 0, .bool false]) (hC := (ai (F46_l1_0 h x1 l2 v2 hv2 x3 l4 v4 hv4 (0, 0) y15 e15 c16) (ai (SlE.len hv4) trivial))) (hr := by kernel_rfl)
  · refine bind_opt fun y32 e32 => ?_
    refine dec_bif (fun c33 => ?_) (fun c33 => ?_)
    · intro hr
      obtain rfl := Option.some.inj hr
      exact pFun_sound good tab_ok (f := 46) (its := [.g, .g, .g, .g, (.ln l4.length), .g, (.l F46_m1_1 [] (.exit 0) (F46_x1_1 h v2 v4 y15)), .g, (.ln l4.length), .g, (.l F46_m3_1 [] .ret (F46_x3_0 h y15 y32))]) (args := [.int .i64 x1, (sv v2), .int .i64 x3, (sv v4)]) (h := h) (h' := h) (v := .tuple #[.int .i64 0, .bool false]) (hC := (ai (F46_l3_0 h l2 v2 hv2 l4 v4 hv4 y15 0 y32 e32 c33) (ai (SlE.len hv4) (ai (F46_l1_1 h x1 l2 v2 hv2 x3 l4 v4 hv4 (0, 0) y15 e15 c16) (ai (SlE.len hv4) trivial))))) (hr := by kernel_rfl)
    · intro hr
      obtain rfl := Option.some.inj hr
      exact pFun_sound good tab_ok (f := 46) (its := [.g, .g, .g, .g, (.ln l4.length), .g, (.l F46_m1_1 [] (.exit 0) (F46_x1_1 h v2 v4 y15)), .g, (.ln l4.length), .g, (.l F46_m3_1 [] (.exit 2) (F46_x3_1 h y15 y32)), .g, .g, .g, .g, .g]) (args := [.int .i64 x1, (sv v2), .int .i64 x3, (sv v4)]) (h := h) (h' := h) (v := .tuple #[.int .i64 y15.2, .bool (decide (y15.2 > 0))]) (hC := (ai (F46_l3_1 h l2 v2 hv2 l4 v4 hv4 y15 0 y32 e32 c33) (ai (SlE.len hv4) (ai (F46_l1_1 h x1 l2 v2 hv2 x3 l4 v4 hv4 (0, 0) y15 e15 c16) (ai (SlE.len hv4) trivial))))) (hr := by kernel_rfl)
/-! 47 jacquard/diffcons.Positive -/
def F47_L : List Nat := []
def F47_D : List (Nat × List (Nat × Nat)) := [(9, [(0, 2), (1, 2), (2, 2), (3, 2), (4, 2), (5, 2), (6, 2), (7, 2), (8, 2), (9, 2), (10, 2), (11, 2), (12, 2), (13, 2), (14, 2), (15, 2), (16, 2), (17, 2), (18, 2), (19, 2), (20, 2), (21, 2), (22, 2), (23, 2), (24, 1), (25, 2), (26, 2), (27, 2), (28, 2), (29, 2), (30, 2), (31, 2), (32, 2), (33, 2), (34, 2), (35, 2), (36, 2), (37, 2), (38, 2), (39, 2), (40, 2), (41, 2), (42, 2), (43, 2), (44, 2), (45, 2), (46, 2), (47, 0), (48, 2)])]
def F47_m1_2 : List Bool := [true, true, true, true, true, true, true, true, false, true, true, true, true, true, true, true, true, true, true, true, true, true, true, true, true, true, true, true, true, true, true, true, true, true, true, true, true, true, true, true, true, true, true, true, true, true, true, true, true, true, true, true, true, true, true, true, true, true, true, true, true, true, true, true, true, true, true, true, true, true, true, true, true, true, true, true, true, true, true, true, true, true, true, true, true, true, true, true, true, true, true, true, true, true, true, true, true, true, true, true, true, true]
def F47_m1_1 : List Bool := [false, false, false, false, true, true, true, true, false, true, false, true, true, true, true, true, true, true, true, true, false, false, false, true, true, true, true, true, true, true, true, true, true, true, true, true, true, true, true, true, true, true, true, true, true, true, true, true, true, true, true, true, true, true, true, true, true, true, true, true, true, true, true, true, true, true, true, true, true, true, true, true, true, true, true, true, true, true, true, true, true, true, true, true, true, true, true, true, true, true, true, true, true, true, true, true, true, true, true, true, true, true]
def F47_m1_0 : List Bool := [true, true, true, true, true, true, true, true, false, false, true, true, true, true, true, true, true, true, true, true, true, true, true, true, true, true, true, true, true, true, true, true, true, true, true, true, true, true, true, true, true, true, true, true, true, true, true, true, true, true, true, true, true, true, true, true, true, true, true, true, true, true, true, true, true, true, true, true, true, true, true, true, true, true, true, true, true, true, true, true, true, true, true, true, true, true, true, true, true, true, true, true, true, true, true, true, true, true, true, true, true, true]
def F47_s1 (x1 : Int) (l2 : List (Int × Int × Int × Int)) (x3 : Int) (l4 : List Int) (a9 : Int) (a10 : Int) (l11 : List (Int × Bool)) : Option ((Int × Int × (List (Int × Bool))) ⊕ (Nat × Int)) :=
  (bif decide (a10 < (l4.length : Int)) then
   (Option.bind (at? l4 a10) fun y14 =>
   (Option.bind (at? l4 ((IntKind.i64.wrap (a10 + 1)).tmod (l4.length : Int))) fun y15 =>
   (bif decide (y14 < 0) then
    some (.inr (0, 0))
   else
    (bif decide (y14 ≥ (l2.length : Int)) then
     some (.inr (0, 0))
    else
     (bif decide (y15 < 0) then
      some (.inr (0, 0))
     else
      (bif decide (y15 ≥ (l2.length : Int)) then
       some (.inr (0, 0))
      else
       (Option.bind (at? l2 y14) fun y20 =>
       (bif (!(F78 (F48 x1) y20.1 y20.2.1 y20.2.2.1 y20.2.2.2)) then
        some (.inr (0, 0))
       else
        (Option.bind (at? l2 y15) fun y23 =>
        (bif (y20.2.1 != y23.1) then
         some (.inr (0, 0))
        else
         (bif ((mget y20.1 l11).getD false) then
          some (.inr (0, 0))
         else
          some (.inl ((IntKind.i64.wrap (a9 + (F79 y20.1 y20.2.1 y20.2.2.1 y20.2.2.2 x3))), (IntKind.i64.wrap (a10 + 1)), (mput y20.1 true l11))))))))))))))
  else
   some (.inr (1, a9)))
def F47_h1 (x1 : Int) (v2 : Hd) (x3 : Int) (l4 : List Int) (v4 : Hd) (id7 : Nat) (h12 : AHeap) (a9 : Int) (a10 : Int) (l11 : List (Int × Bool)) : AS := ⟨[.int .i64 (F48 x1), (sv v2), .int .i64 x3, (sv v4), junk, junk, junk, junk, .int .i64 a9, junk, .map (some id7), junk, junk, junk, junk, junk, junk, junk, junk, junk, (sv v4), .int .i64 (l4.length : Int), .int .i64 a10, junk, junk, junk, junk, junk, junk, junk, junk, junk, junk, junk, junk, junk, junk, junk, junk, junk, junk, junk, junk, junk, junk, junk, junk, junk, junk, junk, junk, junk, junk, junk, junk, junk, junk, junk, junk, junk, junk, junk, junk, junk, junk, junk, junk, junk, junk, junk, junk, junk, junk, junk, junk, junk, junk, junk, junk, junk, junk, junk, junk, junk, junk, junk, junk, junk, junk, junk, junk, junk, junk, junk, junk, junk, junk, junk, junk, junk, junk, junk], [], h12⟩
theorem F47_d1 : drawsOk F47_D (codeOf Try.prog 47 [1, 1, 1, 1, 0, 1, 0, 0]) = true := by kernel_rfl
def F47_x1_0 (h : AHeap) (hx : AHeap) (r : Nat × Int) : AS := ⟨[junk, junk, junk, junk, junk, junk, junk, junk, .int .i64 0, .bool false, junk, junk, junk, junk, junk, junk, junk, junk, junk, junk, junk, junk, junk, junk, junk, junk, junk, junk, junk, junk, junk, junk, junk, junk, junk, junk, junk, junk, junk, junk, junk, junk, junk, junk, junk, junk, junk, junk, junk, junk, junk, junk, junk, junk, junk, junk, junk, junk, junk, junk, junk, junk, junk, junk, junk, junk, junk, junk, junk, junk, junk, junk, junk, junk, junk, junk, junk, junk, junk, junk, junk, junk, junk, junk, junk, junk, junk, junk, junk, junk, junk, junk, junk, junk, junk, junk, junk, junk, junk, junk, junk, junk], [], hx⟩
def F47_x1_1 (h : AHeap) (hx : AHeap) (r : Nat × Int) : AS := ⟨[junk, junk, junk, junk, junk, junk, junk, junk, .int .i64 r.2, junk, junk, junk, junk, junk, junk, junk, junk, junk, junk, junk, junk, junk, junk, junk, junk, junk, junk, junk, junk, junk, junk, junk, junk, junk, junk, junk, junk, junk, junk, junk, junk, junk, junk, junk, junk, junk, junk, junk, junk, junk, junk, junk, junk, junk, junk, junk, junk, junk, junk, junk, junk, junk, junk, junk, junk, junk, junk, junk, junk, junk, junk, junk, junk, junk, junk, junk, junk, junk, junk, junk, junk, junk, junk, junk, junk, junk, junk, junk, junk, junk, junk, junk, junk, junk, junk, junk, junk, junk, junk, junk, junk, junk], [], hx⟩
def F47_i1 (h : AHeap) (x1 : Int) (v2 : Hd) (x3 : Int) (l4 : List Int) (v4 : Hd) (id7 : Nat) (s : Int × Int × (List (Int × Bool))) (S : AS) : Prop := ∃ (h12 : AHeap), Heapy h h12 [⟨⟨some ⟨id7, 0, some 1⟩, 0, 0⟩, 0, 0, List.flatMap (fun (p : Int × Bool) => [.int .i64 p.1, .bool p.2]) s.2.2⟩] ∧ S = (F47_h1 x1 v2 x3 l4 v4 id7 h12 s.1 s.2.1 s.2.2)
def F47_x1 (h : AHeap) (r : Nat × Int) (e : Exit) (S : AS) : Prop := (bif Nat.beq r.1 0 then (e = .ret ∧ ∃ (hx : AHeap), Heapy h hx [] ∧ S = (F47_x1_0 h hx r)) else (e = (.exit 0) ∧ ∃ (hx : AHeap), Heapy h hx [] ∧ S = (F47_x1_1 h hx r)))
set_option maxRecDepth 100000 in
theorem F47_r1 (h : AHeap) (x1 : Int) (l2 : List (Int × Int × Int × Int)) (v2 : Hd) (hv2 : SlE E81 4 h (sv v2) l2) (x3 : Int) (l4 : List Int) (v4 : Hd) (hv4 : SlE E3 1 h (sv v4) l4) (c6 : ((l4.length : Int) == 0) = false) (id7 : Nat) (a9 : Int) (a10 : Int) (l11 : List (Int × Bool)) (S : AS) (hI : (F47_i1 h x1 v2 x3 l4 v4 id7) (a9, a10, l11) S) (o : (Int × Int × (List (Int × Bool))) ⊕ (Nat × Int)) : F47_s1 x1 l2 x3 l4 a9 a10 l11 = some o → Rd Try.prog (codeOf Try.prog 47 [1, 1, 1, 1, 0, 1, 0, 0]) (F47_i1 h x1 v2 x3 l4 v4 id7) (F47_x1 h) S o := by
  obtain ⟨h12, hp12, rfl⟩ := hI
  unfold F47_s1
  refine dec_bif (fun c13 => ?_) (fun c13 => ?_)
  · refine bind_opt fun y14 e14 => ?_
    obtain ⟨id14, off14, g14, cs14, ix14, at14, rfl⟩ := SlE.at hv4 e14
    refine bind_opt fun y15 e15 => ?_
    obtain ⟨id15, off15, g15, cs15, ix15, at15, rfl⟩ := SlE.at hv4 e15
    refine dec_bif (fun c16 => ?_) (fun c16 => ?_)
    · intro hr
      obtain rfl := Option.some.inj hr
      refine ⟨.ret, (F47_x1_0 h h12 ((0, 0) : Nat × Int)), (by intro hh; cases hh), ?_, pEnd_sound good (L := F47_L) (D := F47_D) (its := [.g, (.b true), .g, (.ix id14 off14 g14), (.ld (.int .i64 y14)), .g, .g, .g, .g, .g, .g, (.ln l4.length), .d, (.ix id15 off15 g15), (.ld (.int .i64 y15)), .g, .g, .g, .g, .n, .n, .n, .n, (.p true), .g, .n, .n, .g, .g, .n, .n, .n, .n, .g, .g, .n, .n, .n, .n, .n, .n, .n, .g, .g, .n, .n, .n, .n, .n, .n, .n, .n, .n, .n, .n, .g, .g, .n, .n, .n, .n, .n, .n, .n, .g, (.b true), .g, .g]) (ds := F47_m1_0) (ks := []) (e := .ret) (s2 := (F47_x1_0 h h12 ((0, 0) : Nat × Int))) (hC := (ai l_t (ai (g_tf l_t) (ai (g_tf l_t) (ai (g_tf l_t) (ai (g_tf l_t) (ai (g_tf l_t) (ai (g_tf l_t) (ai (g_tf l_t) (ai (g_tf l_t) (ai (g_tf l_t) (ai (g_tf l_t) (ai (g_tf l_t) (ai (g_tf l_t) (ai (g_tf l_t) (ai (g_tf l_t) (ai (g_tf l_t) (ai (g_tf l_t) (ai (g_tf l_t) (ai (g_tf l_t) (ai (g_tf l_t) (ai (g_tf l_t) (ai (g_tf l_t) (ai (g_tf l_t) (ai (g_tf l_t) (ai (g_tf l_t) (ai (g_tf l_t) (ai (g_tf l_t) (ai (g_tf l_t) (ai (g_tf l_t) (ai (g_tf l_t) (ai (g_tf l_t) (ai (g_tf l_t) (ai c16 (ai (g_tf c16) (ai (g_tf c16) (ai (g_tf c16) (ai (g_tf c16) (ai (At.one (P := Try.prog) (t := 3) (v := .int .i64 y15) (At.mono (Heapy.sub hp12) at15) (by kernel_rfl) 0 rfl rfl) (ai ix15 (ai (nz c6) (ai (SlE.len hv4) (ai (At.one (P := Try.prog) (t := 3) (v := .int .i64 y14) (At.mono (Heapy.sub hp12) at14) (by kernel_rfl) 0 rfl rfl) (ai ix14 (ai c13 trivial))))))))))))))))))))))))))))))))))))))))))))) (hd := F47_d1) (h := by kernel_rfl)⟩
      exact ⟨rfl, h12, (Heapy.pick hp12 [] (by decide)), rfl⟩
    · refine dec_bif (fun c17 => ?_) (fun c17 => ?_)
      · intro hr
        obtain rfl := Option.some.inj hr
        refine ⟨.ret, (F47_x1_0 h h12 ((0, 0) : Nat × Int)), (by intro hh; cases hh), ?_, pEnd_sound good (L := F47_L) (D := F47_D) (its := [.g, (.b true), .g, (.ix id14 off14 g14), (.ld (.int .i64 y14)), .g, .g, .g, .g, .g, .g, (.ln l4.length), .d, (.ix id15 off15 g15), (.ld (.int .i64 y15)), .g, .g, .g, .g, (.w .g), (.w .g), (.w (.ln l2.length)), (.w .g), (.p false), .g, .n, .n, (.p true), .g, .n, .n, .n, .n, .g, .g, .n, .n, .n, .n, .n, .n, .n, .g, .g, .n, .n, .n, .n, .n, .n, .n, .n, .n, .n, .n, .g, .g, .n, .n, .n, .n, .n, .n, .n, .g, (.b true), .g, .g]) (ds := F47_m1_0) (ks := []) (e := .ret) (s2 := (F47_x1_0 h h12 ((0, 0) : Nat × Int))) (hC := (ai l_t (ai (g_tf l_t) (ai (g_tf l_t) (ai (g_tf l_t) (ai (g_tf l_t) (ai (g_tf l_t) (ai (g_tf l_t) (ai (g_tf l_t) (ai (g_tf l_t) (ai (g_tf l_t) (ai (g_tf l_t) (ai (g_tf l_t) (ai (g_tf l_t) (ai (g_tf l_t) (ai (g_tf l_t) (ai (g_tf l_t) (ai (g_tf l_t) (ai (g_tf l_t) (ai (g_tf l_t) (ai (g_tf l_t) (ai (g_tf l_t) (ai (g_tf l_t) (ai (g_tf l_t) (ai (g_tf l_t) (ai (g_tf l_t) (ai (g_tf l_t) (ai (g_tf l_t) (ai (g_tf l_t) (ai (g_tf l_t) (ai (g_tf l_t) (ai c17 (ai (g_tf c17) (ai (g_tf c17) (ai c16 (ai (g_ff c16) (ai (SlE.len hv2) (ai (g_ff c16) (ai (g_ff c16) (ai (g_ff c16) (ai (At.one (P := Try.prog) (t := 3) (v := .int .i64 y15) (At.mono (Heapy.sub hp12) at15) (by kernel_rfl) 0 rfl rfl) (ai ix15 (ai (nz c6) (ai (SlE.len hv4) (ai (At.one (P := Try.prog) (t := 3) (v := .int .i64 y14) (At.mono (Heapy.sub hp12) at14) (by kernel_rfl) 0 rfl rfl) (ai ix14 (ai c13 trivial))))))))))))))))))))))))))))))))))))))))))))))) (hd := F47_d1) (h := by kernel_rfl)⟩
        exact ⟨rfl, h12, (Heapy.pick hp12 [] (by decide)), rfl⟩
      · refine dec_bif (fun c18 => ?_) (fun c18 => ?_)
        · intro hr
          obtain rfl := Option.some.inj hr
          refine ⟨.ret, (F47_x1_0 h h12 ((0, 0) : Nat × Int)), (by intro hh; cases hh), ?_, pEnd_sound good (L := F47_L) (D := F47_D) (its := [.g, (.b true), .g, (.ix id14 off14 g14), (.ld (.int .i64 y14)), .g, .g, .g, .g, .g, .g, (.ln l4.length), .d, (.ix id15 off15 g15), (.ld (.int .i64 y15)), .g, .g, .g, .g, (.w .g), (.w .g), (.w (.ln l2.length)), (.w .g), (.p false), .g, (.w .g), (.w .g), (.p false), .g, .n, .n, .n, .n, (.p true), .g, .n, .n, .n, .n, .n, .n, .n, .g, .g, .n, .n, .n, .n, .n, .n, .n, .n, .n, .n, .n, .g, .g, .n, .n, .n, .n, .n, .n, .n, .g, (.b true), .g, .g]) (ds := F47_m1_0) (ks := []) (e := .ret) (s2 := (F47_x1_0 h h12 ((0, 0) : Nat × Int))) (hC := (ai l_t (ai (g_tf l_t) (ai (g_tf l_t) (ai (g_tf l_t) (ai (g_tf l_t) (ai (g_tf l_t) (ai (g_tf l_t) (ai (g_tf l_t) (ai (g_tf l_t) (ai (g_tf l_t) (ai (g_tf l_t) (ai (g_tf l_t) (ai (g_tf l_t) (ai (g_tf l_t) (ai (g_tf l_t) (ai (g_tf l_t) (ai (g_tf l_t) (ai (g_tf l_t) (ai (g_tf l_t) (ai (g_tf l_t) (ai (g_tf l_t) (ai (g_tf l_t) (ai (g_tf l_t) (ai (g_tf l_t) (ai (g_tf l_t) (ai (g_tf l_t) (ai c18 (ai (g_tf c18) (ai (g_tf c18) (ai (g_tf c18) (ai (g_tf c18) (ai c17 (ai (g_ff c17) (ai (g_ff c17) (ai c16 (ai (g_ff c16) (ai (SlE.len hv2) (ai (g_ff c16) (ai (g_ff c16) (ai (g_ff c16) (ai (At.one (P := Try.prog) (t := 3) (v := .int .i64 y15) (At.mono (Heapy.sub hp12) at15) (by kernel_rfl) 0 rfl rfl) (ai ix15 (ai (nz c6) (ai (SlE.len hv4) (ai (At.one (P := Try.prog) (t := 3) (v := .int .i64 y14) (At.mono (Heapy.sub hp12) at14) (by kernel_rfl) 0 rfl rfl) (ai ix14 (ai c13 trivial)))))))))))))))))))))))))))))))))))))))))))))))) (hd := F47_d1) (h := by kernel_rfl)⟩
          exact ⟨rfl, h12, (Heapy.pick hp12 [] (by decide)), rfl⟩
        · refine dec_bif (fun c19 => ?_) (fun c19 => ?_)
          · intro hr
            obtain rfl := Option.some.inj hr
            refine ⟨.ret, (F47_x1_0 h h12 ((0, 0) : Nat × Int)), (by intro hh; cases hh), ?_, pEnd_sound good (L := F47_L) (D := F47_D) (its := [.g, (.b true), .g, (.ix id14 off14 g14), (.ld (.int .i64 y14)), .g, .g, .g, .g, .g, .g, (.ln l4.length), .d, (.ix id15 off15 g15), (.ld (.int .i64 y15)), .g, .g, .g, .g, (.w .g), (.w .g), (.w (.ln l2.length)), (.w .g), (.p false), .g, (.w .g), (.w .g), (.p false), .g, (.w .g), (.w .g), (.w (.ln l2.length)), (.w .g), (.p false), .g, .n, .n, .n, .n, .n, .n, .n, (.p true), .g, .n, .n, .n, .n, .n, .n, .n, .n, .n, .n, .n, .g, .g, .n, .n, .n, .n, .n, .n, .n, .g, (.b true), .g, .g]) (ds := F47_m1_0) (ks := []) (e := .ret) (s2 := (F47_x1_0 h h12 ((0, 0) : Nat × Int))) (hC := (ai l_t (ai (g_tf l_t) (ai (g_tf l_t) (ai (g_tf l_t) (ai (g_tf l_t) (ai (g_tf l_t) (ai (g_tf l_t) (ai (g_tf l_t) (ai (g_tf l_t) (ai (g_tf l_t) (ai (g_tf l_t) (ai (g_tf l_t) (ai (g_tf l_t) (ai (g_tf l_t) (ai (g_tf l_t) (ai (g_tf l_t) (ai (g_tf l_t) (ai (g_tf l_t) (ai (g_tf l_t) (ai c19 (ai (g_tf c19) (ai (g_tf c19) (ai (g_tf c19) (ai (g_tf c19) (ai (g_tf c19) (ai (g_tf c19) (ai (g_tf c19) (ai c18 (ai (g_ff c18) (ai (SlE.len hv2) (ai (g_ff c18) (ai (g_ff c18) (ai (g_ff c18) (ai c17 (ai (g_ff c17) (ai (g_ff c17) (ai c16 (ai (g_ff c16) (ai (SlE.len hv2) (ai (g_ff c16) (ai (g_ff c16) (ai (g_ff c16) (ai (At.one (P := Try.prog) (t := 3) (v := .int .i64 y15) (At.mono (Heapy.sub hp12) at15) (by kernel_rfl) 0 rfl rfl) (ai ix15 (ai (nz c6) (ai (SlE.len hv4) (ai (At.one (P := Try.prog) (t := 3) (v := .int .i64 y14) (At.mono (Heapy.sub hp12) at14) (by kernel_rfl) 0 rfl rfl) (ai ix14 (ai c13 trivial)))))))))))))))))))))))))))))))))))))))))))))))))) (hd := F47_d1) (h := by kernel_rfl)⟩
            exact ⟨rfl, h12, (Heapy.pick hp12 [] (by decide)), rfl⟩
          · refine bind_opt fun y20 e20 => ?_
            obtain ⟨id20, off20, g20, cs20, ix20, at20, rfl⟩ := SlE.at hv2 e20
            refine dec_bif (fun c22 => ?_) (fun c22 => ?_)
            · intro hr
              obtain rfl := Option.some.inj hr
              refine ⟨.ret, (F47_x1_0 h h12 ((0, 0) : Nat × Int)), (by intro hh; cases hh), ?_, pEnd_sound good (L := F47_L) (D := F47_D) (its := [.g, (.b true), .g, (.ix id14 off14 g14), (.ld (.int .i64 y14)), .g, .g, .g, .g, .g, .g, (.ln l4.length), .d, (.ix id15 off15 g15), (.ld (.int .i64 y15)), .g, .g, .g, .g, (.w .g), (.w .g), (.w (.ln l2.length)), (.w .g), (.p false), .g, (.w .g), (.w .g), (.p false), .g, (.w .g), (.w .g), (.w (.ln l2.length)), (.w .g), (.p false), .g, (.w .g), (.w .g), (.w .g), (.w (.ix id20 off20 g20)), (.w (.ld (.agg #[.int .i64 y20.1, .int .i64 y20.2.1, .int .i64 y20.2.2.1, .int .i64 y20.2.2.2]))), (.w (.c (.bool (F78 (F48 x1) y20.1 y20.2.1 y20.2.2.1 y20.2.2.2)) h12)), (.w .g), (.p false), .g, .n, .n, .n, .n, .n, .n, .n, .n, .n, .n, .n, (.p true), .g, .n, .n, .n, .n, .n, .n, .n, .g, (.b true), .g, .g]) (ds := F47_m1_0) (ks := []) (e := .ret) (s2 := (F47_x1_0 h h12 ((0, 0) : Nat × Int))) (hC := (ai l_t (ai (g_tf l_t) (ai (g_tf l_t) (ai (g_tf l_t) (ai (g_tf l_t) (ai (g_tf l_t) (ai (g_tf l_t) (ai (g_tf l_t) (ai c22 (ai (g_tf c22) (ai (g_tf c22) (ai (g_tf c22) (ai (g_tf c22) (ai (g_tf c22) (ai (g_tf c22) (ai (g_tf c22) (ai (g_tf c22) (ai (g_tf c22) (ai (g_tf c22) (ai (g_tf c22) (ai c19 (ai (g_ff c19) (ai (show AKeep h12 h12 from (AHeap.sub_refl h12)) (ai (F78_spec (F48 x1) y20.1 y20.2.1 y20.2.2.1 y20.2.2.2 h12 _ rfl) (ai (g_ff c19) (ai (At.agg (P := Try.prog) (t := 81) (v := .agg #[.int .i64 y20.1, .int .i64 y20.2.1, .int .i64 y20.2.2.1, .int .i64 y20.2.2.2]) (m := 4) (At.mono (Heapy.sub hp12) at20) (by kernel_rfl) (by kernel_rfl) 0 (by kernel_rfl) rfl) (ai (g_ff c19) (ai ix20 (ai (g_ff c19) (ai (g_ff c19) (ai (g_ff c19) (ai (g_ff c19) (ai c18 (ai (g_ff c18) (ai (SlE.len hv2) (ai (g_ff c18) (ai (g_ff c18) (ai (g_ff c18) (ai c17 (ai (g_ff c17) (ai (g_ff c17) (ai c16 (ai (g_ff c16) (ai (SlE.len hv2) (ai (g_ff c16) (ai (g_ff c16) (ai (g_ff c16) (ai (At.one (P := Try.prog) (t := 3) (v := .int .i64 y15) (At.mono (Heapy.sub hp12) at15) (by kernel_rfl) 0 rfl rfl) (ai ix15 (ai (nz c6) (ai (SlE.len hv4) (ai (At.one (P := Try.prog) (t := 3) (v := .int .i64 y14) (At.mono (Heapy.sub hp12) at14) (by kernel_rfl) 0 rfl rfl) (ai ix14 (ai c13 trivial))))))))))))))))))))))))))))))))))))))))))))))))))))))) (hd := F47_d1) (h := by kernel_rfl)⟩
              exact ⟨rfl, h12, (Heapy.pick hp12 [] (by decide)), rfl⟩
            · refine bind_opt fun y23 e23 => ?_
              obtain ⟨id23, off23, g23, cs23, ix23, at23, rfl⟩ := SlE.at hv2 e23
              refine dec_bif (fun c24 => ?_) (fun c24 => ?_)
              · intro hr
                obtain rfl := Option.some.inj hr
                refine ⟨.ret, (F47_x1_0 h h12 ((0, 0) : Nat × Int)), (by intro hh; cases hh), ?_, pEnd_sound good (L := F47_L) (D := F47_D) (its := [.g, (.b true), .g, (.ix id14 off14 g14), (.ld (.int .i64 y14)), .g, .g, .g, .g, .g, .g, (.ln l4.length), .d, (.ix id15 off15 g15), (.ld (.int .i64 y15)), .g, .g, .g, .g, (.w .g), (.w .g), (.w (.ln l2.length)), (.w .g), (.p false), .g, (.w .g), (.w .g), (.p false), .g, (.w .g), (.w .g), (.w (.ln l2.length)), (.w .g), (.p false), .g, (.w .g), (.w .g), (.w .g), (.w (.ix id20 off20 g20)), (.w (.ld (.agg #[.int .i64 y20.1, .int .i64 y20.2.1, .int .i64 y20.2.2.1, .int .i64 y20.2.2.2]))), (.w (.c (.bool (F78 (F48 x1) y20.1 y20.2.1 y20.2.2.1 y20.2.2.2)) h12)), (.w .g), (.p false), .g, (.w .g), (.w .g), (.w (.ix id20 off20 g20)), (.w .g), (.w (.ld (.int .i64 y20.2.1))), (.w .g), (.w .g), (.w (.ix id23 off23 g23)), (.w .g), (.w (.ld (.int .i64 y23.1))), (.w .g), (.p false), .g, .n, .n, .n, .n, .n, .n, .n, (.p true), (.b true), .g, .g]) (ds := F47_m1_0) (ks := []) (e := .ret) (s2 := (F47_x1_0 h h12 ((0, 0) : Nat × Int))) (hC := (ai l_t (ai c24 (ai (g_tf c24) (ai (g_tf c24) (ai (g_tf c24) (ai (g_tf c24) (ai (g_tf c24) (ai (g_tf c24) (ai (g_tf c24) (ai c22 (ai (g_ff c22) (ai (At.one (P := Try.prog) (t := 3) (v := .int .i64 y23.1) (At.mono (Heapy.sub hp12) at23) (by kernel_rfl) 0 rfl rfl) (ai (g_ff c22) (ai (g_ff c22) (ai ix23 (ai (g_ff c22) (ai (g_ff c22) (ai (g_ff c22) (ai (At.one (P := Try.prog) (t := 3) (v := .int .i64 y20.2.1) (At.mono (Heapy.sub hp12) at20) (by kernel_rfl) 1 rfl rfl) (ai (g_ff c22) (ai (g_ff c22) (ai ix20 (ai (g_ff c22) (ai (g_ff c22) (ai (g_ff c22) (ai c19 (ai (g_ff c19) (ai (show AKeep h12 h12 from (AHeap.sub_refl h12)) (ai (F78_spec (F48 x1) y20.1 y20.2.1 y20.2.2.1 y20.2.2.2 h12 _ rfl) (ai (g_ff c19) (ai (At.agg (P := Try.prog) (t := 81) (v := .agg #[.int .i64 y20.1, .int .i64 y20.2.1, .int .i64 y20.2.2.1, .int .i64 y20.2.2.2]) (m := 4) (At.mono (Heapy.sub hp12) at20) (by kernel_rfl) (by kernel_rfl) 0 (by kernel_rfl) rfl) (ai (g_ff c19) (ai ix20 (ai (g_ff c19) (ai (g_ff c19) (ai (g_ff c19) (ai (g_ff c19) (ai c18 (ai (g_ff c18) (ai (SlE.len hv2) (ai (g_ff c18) (ai (g_ff c18) (ai (g_ff c18) (ai c17 (ai (g_ff c17) (ai (g_ff c17) (ai c16 (ai (g_ff c16) (ai (SlE.len hv2) (ai (g_ff c16) (ai (g_ff c16) (ai (g_ff c16) (ai (At.one (P := Try.prog) (t := 3) (v := .int .i64 y15) (At.mono (Heapy.sub hp12) at15) (by kernel_rfl) 0 rfl rfl) (ai ix15 (ai (nz c6) (ai (SlE.len hv4) (ai (At.one (P := Try.prog) (t := 3) (v := .int .i64 y14) (At.mono (Heapy.sub hp12) at14) (by kernel_rfl) 0 rfl rfl) (ai ix14 (ai c13 trivial)))))))))))))))))))))))))))))))))))))))))))))))))))))))))))) (hd := F47_d1) (h := by kernel_rfl)⟩
                exact ⟨rfl, h12, (Heapy.pick hp12 [] (by decide)), rfl⟩
              · refine dec_bif (fun c25 => ?_) (fun c25 => ?_)
                · intro hr
                  obtain rfl := Option.some.inj hr
                  refine ⟨.ret, (F47_x1_0 h h12 ((0, 0) : Nat × Int)), (by intro hh; cases hh), ?_, pEnd_sound good (L := F47_L) (D := F47_D) (its := [.g, (.b true), .g, (.ix id14 off14 g14), (.ld (.int .i64 y14)), .g, .g, .g, .g, .g, .g, (.ln l4.length), .d, (.ix id15 off15 g15), (.ld (.int .i64 y15)), .g, .g, .g, .g, (.w .g), (.w .g), (.w (.ln l2.length)), (.w .g), (.p false), .g, (.w .g), (.w .g), (.p false), .g, (.w .g), (.w .g), (.w (.ln l2.length)), (.w .g), (.p false), .g, (.w .g), (.w .g), (.w .g), (.w (.ix id20 off20 g20)), (.w (.ld (.agg #[.int .i64 y20.1, .int .i64 y20.2.1, .int .i64 y20.2.2.1, .int .i64 y20.2.2.2]))), (.w (.c (.bool (F78 (F48 x1) y20.1 y20.2.1 y20.2.2.1 y20.2.2.2)) h12)), (.w .g), (.p false), .g, (.w .g), (.w .g), (.w (.ix id20 off20 g20)), (.w .g), (.w (.ld (.int .i64 y20.2.1))), (.w .g), (.w .g), (.w (.ix id23 off23 g23)), (.w .g), (.w (.ld (.int .i64 y23.1))), (.w .g), (.p false), .g, (.w .g), (.w .g), (.w .g), (.w (.ix id20 off20 g20)), (.w .g), (.w (.ld (.int .i64 y20.1))), (.w (.mm (.bool ((mget y20.1 l11).getD false)) h12)), (.p false), (.b true), .g, .g]) (ds := F47_m1_0) (ks := []) (e := .ret) (s2 := (F47_x1_0 h h12 ((0, 0) : Nat × Int))) (hC := (ai c25 (ai c24 (ai (Heapy.mlook (P := Try.prog) (id := id7) (q := .i64) (f := (fun b => .bool b)) (xs := l11) hp12 0 rfl (t := 112) (kt := 3) (et := 4) (by kernel_rfl) (by kernel_rfl) (z := false) (by kernel_rfl) y20.1 false) (ai (g_ff c24) (ai (At.one (P := Try.prog) (t := 3) (v := .int .i64 y20.1) (At.mono (Heapy.sub hp12) at20) (by kernel_rfl) 0 rfl rfl) (ai (g_ff c24) (ai (g_ff c24) (ai ix20 (ai (g_ff c24) (ai (g_ff c24) (ai (g_ff c24) (ai (g_ff c24) (ai c22 (ai (g_ff c22) (ai (At.one (P := Try.prog) (t := 3) (v := .int .i64 y23.1) (At.mono (Heapy.sub hp12) at23) (by kernel_rfl) 0 rfl rfl) (ai (g_ff c22) (ai (g_ff c22) (ai ix23 (ai (g_ff c22) (ai (g_ff c22) (ai (g_ff c22) (ai (At.one (P := Try.prog) (t := 3) (v := .int .i64 y20.2.1) (At.mono (Heapy.sub hp12) at20) (by kernel_rfl) 1 rfl rfl) (ai (g_ff c22) (ai (g_ff c22) (ai ix20 (ai (g_ff c22) (ai (g_ff c22) (ai (g_ff c22) (ai c19 (ai (g_ff c19) (ai (show AKeep h12 h12 from (AHeap.sub_refl h12)) (ai (F78_spec (F48 x1) y20.1 y20.2.1 y20.2.2.1 y20.2.2.2 h12 _ rfl) (ai (g_ff c19) (ai (At.agg (P := Try.prog) (t := 81) (v := .agg #[.int .i64 y20.1, .int .i64 y20.2.1, .int .i64 y20.2.2.1, .int .i64 y20.2.2.2]) (m := 4) (At.mono (Heapy.sub hp12) at20) (by kernel_rfl) (by kernel_rfl) 0 (by kernel_rfl) rfl) (ai (g_ff c19) (ai ix20 (ai (g_ff c19) (ai (g_ff c19) (ai (g_ff c19) (ai (g_ff c19) (ai c18 (ai (g_ff c18) (ai (SlE.len hv2) (ai (g_ff c18) (ai (g_ff c18) (ai (g_ff c18) (ai c17 (ai (g_ff c17) (ai (g_ff c17) (ai c16 (ai (g_ff c16) (ai (SlE.len hv2) (ai (g_ff c16) (ai (g_ff c16) (ai (g_ff c16) (ai (At.one (P := Try.prog) (t := 3) (v := .int .i64 y15) (At.mono (Heapy.sub hp12) at15) (by kernel_rfl) 0 rfl rfl) (ai ix15 (ai (nz c6) (ai (SlE.len hv4) (ai (At.one (P := Try.prog) (t := 3) (v := .int .i64 y14) (At.mono (Heapy.sub hp12) at14) (by kernel_rfl) 0 rfl rfl) (ai ix14 (ai c13 trivial))))))))))))))))))))))))))))))))))))))))))))))))))))))))))))))) (hd := F47_d1) (h := by kernel_rfl)⟩
                  exact ⟨rfl, h12, (Heapy.pick hp12 [] (by decide)), rfl⟩
                · obtain ⟨h26, m26, hp26⟩ := Heapy.mset (P := Try.prog) (id := id7) (q := .i64) (f := (fun b => .bool b)) (xs := l11) hp12 0 rfl (t := 112) (kt := 3) (et := 4) (by kernel_rfl) (by kernel_rfl) y20.1 true rfl rfl
                  intro hr
                  obtain rfl := Option.some.inj hr
                  exact ⟨(F47_h1 x1 v2 x3 l4 v4 id7 h26 (IntKind.i64.wrap (a9 + (F79 y20.1 y20.2.1 y20.2.2.1 y20.2.2.2 x3))) (IntKind.i64.wrap (a10 + 1)) (mput y20.1 true l11)), ⟨h26, (Heapy.pick hp26 [0] (by decide)), rfl⟩, pEnd_sound good (L := F47_L) (D := F47_D) (its := [.g, (.b true), .g, (.ix id14 off14 g14), (.ld (.int .i64 y14)), .g, .g, .g, .g, .g, .g, (.ln l4.length), .d, (.ix id15 off15 g15), (.ld (.int .i64 y15)), .g, .g, .g, .g, (.w .g), (.w .g), (.w (.ln l2.length)), (.w .g), (.p false), .g, (.w .g), (.w .g), (.p false), .g, (.w .g), (.w .g), (.w (.ln l2.length)), (.w .g), (.p false), .g, (.w .g), (.w .g), (.w .g), (.w (.ix id20 off20 g20)), (.w (.ld (.agg #[.int .i64 y20.1, .int .i64 y20.2.1, .int .i64 y20.2.2.1, .int .i64 y20.2.2.2]))), (.w (.c (.bool (F78 (F48 x1) y20.1 y20.2.1 y20.2.2.1 y20.2.2.2)) h12)), (.w .g), (.p false), .g, (.w .g), (.w .g), (.w (.ix id20 off20 g20)), (.w .g), (.w (.ld (.int .i64 y20.2.1))), (.w .g), (.w .g), (.w (.ix id23 off23 g23)), (.w .g), (.w (.ld (.int .i64 y23.1))), (.w .g), (.p false), .g, (.w .g), (.w .g), (.w .g), (.w (.ix id20 off20 g20)), (.w .g), (.w (.ld (.int .i64 y20.1))), (.w (.mm (.bool ((mget y20.1 l11).getD false)) h12)), (.p false), (.b false), .g, .g, .g, (.ix id20 off20 g20), .g, (.ld (.int .i64 y20.1)), (.mm undef h26), .g, .g, .g, (.ix id20 off20 g20), (.ld (.agg #[.int .i64 y20.1, .int .i64 y20.2.1, .int .i64 y20.2.2.1, .int .i64 y20.2.2.2])), .g, (.c (.int .i64 (F79 y20.1 y20.2.1 y20.2.2.1 y20.2.2.2 x3)) h26), .g, .g, .g, .g]) (ds := F47_m1_1) (ks := []) (e := .normal) (s2 := (F47_h1 x1 v2 x3 l4 v4 id7 h26 (IntKind.i64.wrap (a9 + (F79 y20.1 y20.2.1 y20.2.2.1 y20.2.2.2 x3))) (IntKind.i64.wrap (a10 + 1)) (mput y20.1 true l11))) (hC := (ai (F79_spec y20.1 y20.2.1 y20.2.2.1 y20.2.2.2 x3 h26 _ rfl) (ai (At.agg (P := Try.prog) (t := 81) (v := .agg #[.int .i64 y20.1, .int .i64 y20.2.1, .int .i64 y20.2.2.1, .int .i64 y20.2.2.2]) (m := 4) (At.mono (Heapy.sub hp26) at20) (by kernel_rfl) (by kernel_rfl) 0 (by kernel_rfl) rfl) (ai ix20 (ai m26 (ai (At.one (P := Try.prog) (t := 3) (v := .int .i64 y20.1) (At.mono (Heapy.sub hp12) at20) (by kernel_rfl) 0 rfl rfl) (ai ix20 (ai c25 (ai c24 (ai (Heapy.mlook (P := Try.prog) (id := id7) (q := .i64) (f := (fun b => .bool b)) (xs := l11) hp12 0 rfl (t := 112) (kt := 3) (et := 4) (by kernel_rfl) (by kernel_rfl) (z := false) (by kernel_rfl) y20.1 false) (ai (g_ff c24) (ai (At.one (P := Try.prog) (t := 3) (v := .int .i64 y20.1) (At.mono (Heapy.sub hp12) at20) (by kernel_rfl) 0 rfl rfl) (ai (g_ff c24) (ai (g_ff c24) (ai ix20 (ai (g_ff c24) (ai (g_ff c24) (ai (g_ff c24) (ai (g_ff c24) (ai c22 (ai (g_ff c22) (ai (At.one (P := Try.prog) (t := 3) (v := .int .i64 y23.1) (At.mono (Heapy.sub hp12) at23) (by kernel_rfl) 0 rfl rfl) (ai (g_ff c22) (ai (g_ff c22) (ai ix23 (ai (g_ff c22) (ai (g_ff c22) (ai (g_ff c22) (ai (At.one (P := Try.prog) (t := 3) (v := .int .i64 y20.2.1) (At.mono (Heapy.sub hp12) at20) (by kernel_rfl) 1 rfl rfl) (ai (g_ff c22) (ai (g_ff c22) (ai ix20 (ai (g_ff c22) (ai (g_ff c22) (ai (g_ff c22) (ai c19 (ai (g_ff c19) (ai (show AKeep h12 h12 from (AHeap.sub_refl h12)) (ai (F78_spec (F48 x1) y20.1 y20.2.1 y20.2.2.1 y20.2.2.2 h12 _ rfl) (ai (g_ff c19) (ai (At.agg (P := Try.prog) (t := 81) (v := .agg #[.int .i64 y20.1, .int .i64 y20.2.1, .int .i64 y20.2.2.1, .int .i64 y20.2.2.2]) (m := 4) (At.mono (Heapy.sub hp12) at20) (by kernel_rfl) (by kernel_rfl) 0 (by kernel_rfl) rfl) (ai (g_ff c19) (ai ix20 (ai (g_ff c19) (ai (g_ff c19) (ai (g_ff c19) (ai (g_ff c19) (ai c18 (ai (g_ff c18) (ai (SlE.len hv2) (ai (g_ff c18) (ai (g_ff c18) (ai (g_ff c18) (ai c17 (ai (g_ff c17) (ai (g_ff c17) (ai c16 (ai (g_ff c16) (ai (SlE.len hv2) (ai (g_ff c16) (ai (g_ff c16) (ai (g_ff c16) (ai (At.one (P := Try.prog) (t := 3) (v := .int .i64 y15) (At.mono (Heapy.sub hp12) at15) (by kernel_rfl) 0 rfl rfl) (ai ix15 (ai (nz c6) (ai (SlE.len hv4) (ai (At.one (P := Try.prog) (t := 3) (v := .int .i64 y14) (At.mono (Heapy.sub hp12) at14) (by kernel_rfl) 0 rfl rfl) (ai ix14 (ai c13 trivial))))))))))))))))))))))))))))))))))))))))))))))))))))))))))))))))))))) (hd := F47_d1) (h := by kernel_rfl)⟩
  · intro hr
    obtain rfl := Option.some.inj hr
    refine ⟨(.exit 0), (F47_x1_1 h h12 ((1, a9) : Nat × Int)), (by intro hh; cases hh), ?_, pEnd_sound good (L := F47_L) (D := F47_D) (its := [.g, (.b false)]) (ds := F47_m1_2) (ks := []) (e := (.exit 0)) (s2 := (F47_x1_1 h h12 ((1, a9) : Nat × Int))) (hC := (ai c13 trivial)) (hd := F47_d1) (h := by kernel_rfl)⟩
    exact ⟨rfl, h12, (Heapy.pick hp12 [] (by decide)), rfl⟩
theorem F47_l1 (h : AHeap) (x1 : Int) (l2 : List (Int × Int × Int × Int)) (v2 : Hd) (hv2 : SlE E81 4 h (sv v2) l2) (x3 : Int) (l4 : List Int) (v4 : Hd) (hv4 : SlE E3 1 h (sv v4) l4) (c6 : ((l4.length : Int) == 0) = false) (id7 : Nat) (x : Int × Int × (List (Int × Bool))) (r : Nat × Int) (hl : loopO (fun (s : Int × Int × (List (Int × Bool))) => F47_s1 x1 l2 x3 l4 s.1 s.2.1 s.2.2) x = some r) (S : AS) (hI : (F47_i1 h x1 v2 x3 l4 v4 id7) x S) : ∃ e S', (F47_x1 h) r e S' ∧ AWp Try.prog (.loop (codeOf Try.prog 47 [1, 1, 1, 1, 0, 1, 0, 0])) (Ends1 e S') S :=
  loop_rel (fun x S hI => F47_r1 h x1 l2 v2 hv2 x3 l4 v4 hv4 c6 id7 x.1 x.2.1 x.2.2 S hI) hl hI
def F47 (x1 : Int) (l2 : List (Int × Int × Int × Int)) (x3 : Int) (l4 : List Int) : Option (Int × Bool) :=
  (bif ((l4.length : Int) == 0) then
   some (0, false)
  else
   (Option.bind (loopO (fun (s : Int × Int × (List (Int × Bool))) => F47_s1 x1 l2 x3 l4 s.1 s.2.1 s.2.2) (0, 0, ([] : List (Int × Bool)))) fun y28 =>
   (bif (Nat.beq y28.1 0) then
    some (0, false)
   else
    some (y28.2, (decide (y28.2 > 0))))))
set_option maxRecDepth 100000 in
theorem F47_spec (x1 : Int) (l2 : List (Int × Int × Int × Int)) (x3 : Int) (l4 : List Int) (v2 : Hd) (v4 : Hd) (h : AHeap) (hw : h.wf) (hv2 : SlE E81 4 h (sv v2) l2) (hv4 : SlE E3 1 h (sv v4) l4) (r : Int × Bool) : F47 x1 l2 x3 l4 = some r → ∃ (h' : AHeap), Heapy h h' [] ∧ ACalls Try.prog 47 [.int .i64 x1, (sv v2), .int .i64 x3, (sv v4)] h (fun v' h'' => v' = (.tuple #[.int .i64 r.1, .bool r.2] : Value) ∧ h'' = h') := by
  unfold F47
  refine dec_bif (fun c6 => ?_) (fun c6 => ?_)
  · intro hr
    obtain rfl := Option.some.inj hr
    exact ⟨h, Heapy.pick (Heapy.refl hw) [] (by decide), pFun_sound good tab_ok (f := 47) (its := [.g, .g, .g, (.c (.int .i64 (F48 x1)) h), .g, .g, (.ln l4.length), .g, (.b true), .g, .g]) (args := [.int .i64 x1, (sv v2), .int .i64 x3, (sv v4)]) (h := h) (h' := h) (v := .tuple #[.int .i64 0, .bool false]) (hC := (ai c6 (ai (SlE.len hv4) (ai (F48_spec x1 h _ rfl) trivial)))) (hr := by kernel_rfl)⟩
  · obtain ⟨id7, h7, m7, hp7⟩ := Heapy.mkmap (P := Try.prog) (Heapy.refl hw) (t := 112) (kt := 3) (et := 4) (by kernel_rfl)
    refine bind_opt fun y28 e28 => ?_
    obtain ⟨ee28, SS28, hX28, hA28⟩ := F47_l1 h x1 l2 v2 hv2 x3 l4 v4 hv4 c6 id7 (0, 0, ([] : List (Int × Bool))) y28 e28 (F47_h1 x1 v2 x3 l4 v4 id7 h7 0 0 ([] : List (Int × Bool))) ⟨h7, (Heapy.pick hp7 [0] (by decide)), rfl⟩
    refine dec_bif (fun c29 => ?_) (fun c29 => ?_)
    · simp only [F47_x1, c29, cond_true, cond_false] at hX28
      obtain ⟨rfl, h30, hp30, rfl⟩ := hX28
      intro hr
      obtain rfl := Option.some.inj hr
      exact ⟨h30, Heapy.pick hp30 [] (by decide), pFun_sound good tab_ok (f := 47) (its := [.g, .g, .g, (.c (.int .i64 (F48 x1)) h), .g, .g, (.ln l4.length), .g, (.b false), (.mm (.map (some id7)) h7), .g, .g, (.ln l4.length), .g, (.l F47_m1_1 [] .ret (F47_x1_0 h h30 y28))]) (args := [.int .i64 x1, (sv v2), .int .i64 x3, (sv v4)]) (h := h) (h' := h30) (v := .tuple #[.int .i64 0, .bool false]) (hC := (ai hA28 (ai (SlE.len hv4) (ai m7 (ai c6 (ai (SlE.len hv4) (ai (F48_spec x1 h _ rfl) trivial))))))) (hr := by kernel_rfl)⟩
    · simp only [F47_x1, c29, cond_true, cond_false] at hX28
      obtain ⟨rfl, h31, hp31, rfl⟩ := hX28
      intro hr
      obtain rfl := Option.some.inj hr
      exact ⟨h31, Heapy.pick hp31 [] (by decide), pFun_sound good tab_ok (f := 47) (its := [.g, .g, .g, (.c (.int .i64 (F48 x1)) h), .g, .g, (.ln l4.length), .g, (.b false), (.mm (.map (some id7)) h7), .g, .g, (.ln l4.length), .g, (.l F47_m1_1 [] (.exit 0) (F47_x1_1 h h31 y28)), .g, .g, .g, .g, .g]) (args := [.int .i64 x1, (sv v2), .int .i64 x3, (sv v4)]) (h := h) (h' := h31) (v := .tuple #[.int .i64 y28.2, .bool (decide (y28.2 > 0))]) (hC := (ai hA28 (ai (SlE.len hv4) (ai m7 (ai c6 (ai (SlE.len hv4) (ai (F48_spec x1 h _ rfl) trivial))))))) (hr := by kernel_rfl)⟩
/-! 19 jacquard/jacquardlaw30.refused -/
def F19 (x1 : Int) (l2 : List (Int × Int × Int × Int)) (x3 : Int) (l4 : List Int) (l5 : List Int) : Option (Bool) :=
  (Option.bind (F46 x1 l2 x3 l5) fun y6 =>
  (Option.bind (F47 x1 l2 x3 l5) fun y8 =>
  (bif ((l4.length : Int) == 0) then
   (bif y6.2 then
    (bif y8.2 then
     some (decide (y8.1 > 0))
    else
     some (false))
   else
    some (false))
  else
   some (false))))
set_option maxRecDepth 100000 in
theorem F19_spec (x1 : Int) (l2 : List (Int × Int × Int × Int)) (x3 : Int) (l4 : List Int) (l5 : List Int) (v2 : Hd) (v4 : Hd) (v5 : Hd) (h : AHeap) (hw : h.wf) (hv2 : SlE E81 4 h (sv v2) l2) (hv4 : SlE E3 1 h (sv v4) l4) (hv5 : SlE E3 1 h (sv v5) l5) (r : Bool) : F19 x1 l2 x3 l4 l5 = some r → ∃ (h' : AHeap), Heapy h h' [] ∧ ACalls Try.prog 19 [.agg #[.int .i64 x1, (sv v2), .int .i64 x3], (sv v4), (sv v5)] h (fun v' h'' => v' = (.bool r : Value) ∧ h'' = h') := by
  unfold F19
  refine bind_opt fun y6 e6 => ?_
  refine bind_opt fun y8 e8 => ?_
  obtain ⟨h9, q9, c9⟩ := F47_spec x1 l2 x3 l5 v2 v5 h hw hv2 hv5 _ e8
  have hp9 : Heapy h h9 [] := Heapy.call (Heapy.refl hw) q9
  refine dec_bif (fun c10 => ?_) (fun c10 => ?_)
  · refine dec_bif (fun c11 => ?_) (fun c11 => ?_)
    · refine dec_bif (fun c12 => ?_) (fun c12 => ?_)
      · intro hr
        obtain rfl := Option.some.inj hr
        exact ⟨h9, Heapy.pick hp9 [] (by decide), pFun_sound good tab_ok (f := 19) (its := [.g, .g, .g, .g, .g, .g, .g, .g, .g, (.c (.tuple #[.int .i64 y6.1, .bool y6.2]) h), .g, .g, .g, .g, .g, .g, .g, .g, .g, .g, .g, .g, (.c (.tuple #[.int .i64 y8.1, .bool y8.2]) h9), .g, .g, .g, .g, .g, .g, (.ln l4.length), .g, .g, (.w .g), (.p true), .g, (.w .g), (.p true), .g, (.w .g), (.w .g), (.p true), .g]) (args := [.agg #[.int .i64 x1, (sv v2), .int .i64 x3], (sv v4), (sv v5)]) (h := h) (h' := h9) (v := .bool (decide (y8.1 > 0))) (hC := (ai c12 (ai (g_tt c12) (ai (g_tt c12) (ai c11 (ai (g_tt c11) (ai c10 (ai (g_tt c10) (ai (SlE.len hv4) (ai c9 (ai (F46_spec x1 l2 x3 l5 v2 v5 h hv2 hv5 _ e6) trivial))))))))))) (hr := by kernel_rfl)⟩
      · intro hr
        obtain rfl := Option.some.inj hr
        exact ⟨h9, Heapy.pick hp9 [] (by decide), pFun_sound good tab_ok (f := 19) (its := [.g, .g, .g, .g, .g, .g, .g, .g, .g, (.c (.tuple #[.int .i64 y6.1, .bool y6.2]) h), .g, .g, .g, .g, .g, .g, .g, .g, .g, .g, .g, .g, (.c (.tuple #[.int .i64 y8.1, .bool y8.2]) h9), .g, .g, .g, .g, .g, .g, (.ln l4.length), .g, .g, (.w .g), (.p true), .g, (.w .g), (.p true), .g, .n, .n, (.p false), .g]) (args := [.agg #[.int .i64 x1, (sv v2), .int .i64 x3], (sv v4), (sv v5)]) (h := h) (h' := h9) (v := .bool false) (hC := (ai c12 (ai (g_ft c12) (ai (g_ft c12) (ai c11 (ai (g_tt c11) (ai c10 (ai (g_tt c10) (ai (SlE.len hv4) (ai c9 (ai (F46_spec x1 l2 x3 l5 v2 v5 h hv2 hv5 _ e6) trivial))))))))))) (hr := by kernel_rfl)⟩
    · intro hr
      obtain rfl := Option.some.inj hr
      exact ⟨h9, Heapy.pick hp9 [] (by decide), pFun_sound good tab_ok (f := 19) (its := [.g, .g, .g, .g, .g, .g, .g, .g, .g, (.c (.tuple #[.int .i64 y6.1, .bool y6.2]) h), .g, .g, .g, .g, .g, .g, .g, .g, .g, .g, .g, .g, (.c (.tuple #[.int .i64 y8.1, .bool y8.2]) h9), .g, .g, .g, .g, .g, .g, (.ln l4.length), .g, .g, (.w .g), (.p true), .g, .n, (.p false), .g, .n, .n, .g, .g]) (args := [.agg #[.int .i64 x1, (sv v2), .int .i64 x3], (sv v4), (sv v5)]) (h := h) (h' := h9) (v := .bool false) (hC := (ai (g_ft l_f) (ai (g_ft l_f) (ai c11 (ai (g_ft c11) (ai c10 (ai (g_tt c10) (ai (SlE.len hv4) (ai c9 (ai (F46_spec x1 l2 x3 l5 v2 v5 h hv2 hv5 _ e6) trivial)))))))))) (hr := by kernel_rfl)⟩
  · intro hr
    obtain rfl := Option.some.inj hr
    exact ⟨h9, Heapy.pick hp9 [] (by decide), pFun_sound good tab_ok (f := 19) (its := [.g, .g, .g, .g, .g, .g, .g, .g, .g, (.c (.tuple #[.int .i64 y6.1, .bool y6.2]) h), .g, .g, .g, .g, .g, .g, .g, .g, .g, .g, .g, .g, (.c (.tuple #[.int .i64 y8.1, .bool y8.2]) h9), .g, .g, .g, .g, .g, .g, (.ln l4.length), .g, .g, .n, (.p false), .g, .n, .g, .g, .n, .n, .g, .g]) (args := [.agg #[.int .i64 x1, (sv v2), .int .i64 x3], (sv v4), (sv v5)]) (h := h) (h' := h9) (v := .bool false) (hC := (ai (g_ft l_f) (ai (g_ft l_f) (ai (g_ft l_f) (ai c10 (ai (g_ft c10) (ai (SlE.len hv4) (ai c9 (ai (F46_spec x1 l2 x3 l5 v2 v5 h hv2 hv5 _ e6) trivial))))))))) (hr := by kernel_rfl)⟩
/-! 20 jacquard/jacquardlaw30.same -/
def F20_L : List Nat := []
def F20_D : List (Nat × List (Nat × Nat)) := [(6, [(0, 2), (1, 2), (2, 2), (3, 2), (4, 2), (5, 2), (6, 2), (7, 2), (8, 2)])]
def F20_m1_2 : List Bool := [true, true, true, true, true, true, true, true, true, true, true, true, true, true, true, true, true, true, true, true, true, true, true, true, true, true]
def F20_m1_1 : List Bool := [false, false, true, true, true, true, true, true, true, true, true, true, false, false, true, true, true, true, true, true, true, true, true, true, true, true]
def F20_m1_0 : List Bool := [true, true, true, true, false, true, true, true, true, true, true, true, true, true, true, true, true, true, true, true, true, true, true, true, true, true]
def F20_s1 (l1 : List Int) (l2 : List Int) (a4 : Int) : Option (Int ⊕ Nat) :=
  (bif decide (a4 < (l1.length : Int)) then
   (Option.bind (at? l1 a4) fun y6 =>
   (Option.bind (at? l2 a4) fun y7 =>
   (bif (y6 != y7) then
    some (.inr 0)
   else
    some (.inl (IntKind.i64.wrap (a4 + 1))))))
  else
   some (.inr 1))
def F20_h1 (h : AHeap) (l1 : List Int) (v1 : Hd) (v2 : Hd)  (a4 : Int) : AS := ⟨[(sv v1), (sv v2), junk, junk, junk, junk, junk, junk, junk, junk, junk, junk, .int .i64 (l1.length : Int), .int .i64 a4, junk, junk, junk, junk, junk, junk, junk, junk, junk, junk, junk, junk], [], h⟩
theorem F20_d1 : drawsOk F20_D (codeOf Try.prog 20 [1, 1, 0, 1, 0, 0]) = true := by kernel_rfl
def F20_x1_0 (h : AHeap)  (r : Nat) : AS := ⟨[junk, junk, junk, junk, .bool false, junk, junk, junk, junk, junk, junk, junk, junk, junk, junk, junk, junk, junk, junk, junk, junk, junk, junk, junk, junk, junk], [], h⟩
def F20_x1_1 (h : AHeap)  (r : Nat) : AS := ⟨[junk, junk, junk, junk, junk, junk, junk, junk, junk, junk, junk, junk, junk, junk, junk, junk, junk, junk, junk, junk, junk, junk, junk, junk, junk, junk], [], h⟩
def F20_x1 (h : AHeap) (r : Nat) : Exit × AS := (bif Nat.beq r 0 then (.ret, (F20_x1_0 h r)) else ((.exit 0), (F20_x1_1 h r)))
set_option maxRecDepth 100000 in
theorem F20_r1 (h : AHeap) (l1 : List Int) (v1 : Hd) (hv1 : SlE E3 1 h (sv v1) l1) (l2 : List Int) (v2 : Hd) (hv2 : SlE E3 1 h (sv v2) l2) (a4 : Int) (o : Int ⊕ Nat) : F20_s1 l1 l2 a4 = some o → RdF Try.prog (codeOf Try.prog 20 [1, 1, 0, 1, 0, 0]) (fun (s : Int) => (F20_h1 h l1 v1 v2 s)) (F20_x1 h) (F20_h1 h l1 v1 v2 a4) o := by
  unfold F20_s1
  refine dec_bif (fun c5 => ?_) (fun c5 => ?_)
  · refine bind_opt fun y6 e6 => ?_
    obtain ⟨id6, off6, g6, cs6, ix6, at6, rfl⟩ := SlE.at hv1 e6
    refine bind_opt fun y7 e7 => ?_
    obtain ⟨id7, off7, g7, cs7, ix7, at7, rfl⟩ := SlE.at hv2 e7
    refine dec_bif (fun c8 => ?_) (fun c8 => ?_)
    · intro hr
      obtain rfl := Option.some.inj hr
      show AWp Try.prog _ (Ends1 ((F20_x1 h) (0 : Nat)).1 ((F20_x1 h) (0 : Nat)).2) _
      exact pEnd_sound good (L := F20_L) (D := F20_D) (its := [.g, (.b true), .g, .g, .g, .g, (.ix id6 off6 g6), (.ld (.int .i64 y6)), .g, .g, (.ix id7 off7 g7), (.ld (.int .i64 y7)), .g, (.b true), .g]) (ds := F20_m1_0) (ks := []) (e := ((F20_x1 h) (0 : Nat)).1) (s2 := ((F20_x1 h) (0 : Nat)).2) (hC := (ai c8 (ai (At.one (P := Try.prog) (t := 3) (v := .int .i64 y7) at7 (by kernel_rfl) 0 rfl rfl) (ai ix7 (ai (At.one (P := Try.prog) (t := 3) (v := .int .i64 y6) at6 (by kernel_rfl) 0 rfl rfl) (ai ix6 (ai c5 trivial))))))) (hd := F20_d1) (h := by kernel_rfl)
    · intro hr
      obtain rfl := Option.some.inj hr
      show AWp Try.prog _ (Ends1 .normal (F20_h1 h l1 v1 v2 (IntKind.i64.wrap (a4 + 1)))) _
      exact pEnd_sound good (L := F20_L) (D := F20_D) (its := [.g, (.b true), .g, .g, .g, .g, (.ix id6 off6 g6), (.ld (.int .i64 y6)), .g, .g, (.ix id7 off7 g7), (.ld (.int .i64 y7)), .g, (.b false), .g, .g]) (ds := F20_m1_1) (ks := []) (e := .normal) (s2 := (F20_h1 h l1 v1 v2 (IntKind.i64.wrap (a4 + 1)))) (hC := (ai c8 (ai (At.one (P := Try.prog) (t := 3) (v := .int .i64 y7) at7 (by kernel_rfl) 0 rfl rfl) (ai ix7 (ai (At.one (P := Try.prog) (t := 3) (v := .int .i64 y6) at6 (by kernel_rfl) 0 rfl rfl) (ai ix6 (ai c5 trivial))))))) (hd := F20_d1) (h := by kernel_rfl)
  · intro hr
    obtain rfl := Option.some.inj hr
    show AWp Try.prog _ (Ends1 ((F20_x1 h) (1 : Nat)).1 ((F20_x1 h) (1 : Nat)).2) _
    exact pEnd_sound good (L := F20_L) (D := F20_D) (its := [.g, (.b false)]) (ds := F20_m1_2) (ks := []) (e := ((F20_x1 h) (1 : Nat)).1) (s2 := ((F20_x1 h) (1 : Nat)).2) (hC := (ai c5 trivial)) (hd := F20_d1) (h := by kernel_rfl)
theorem F20_l1_0 (h : AHeap) (l1 : List Int) (v1 : Hd) (hv1 : SlE E3 1 h (sv v1) l1) (l2 : List Int) (v2 : Hd) (hv2 : SlE E3 1 h (sv v2) l2) (x : Int) (r : Nat) (hl : loopO (fun (s : Int) => F20_s1 l1 l2 s) x = some r) (q0 : Nat.beq r 0 = true) : AWp Try.prog (.loop (codeOf Try.prog 20 [1, 1, 0, 1, 0, 0])) (Ends1 .ret (F20_x1_0 h r)) ((fun (s : Int) => (F20_h1 h l1 v1 v2 s)) x) := by
  have k := loop_fun (P := Try.prog) (c := (codeOf Try.prog 20 [1, 1, 0, 1, 0, 0])) (step := (fun (s : Int) => F20_s1 l1 l2 s)) (hd := (fun (s : Int) => (F20_h1 h l1 v1 v2 s))) (X := (F20_x1 h)) (by intro t; unfold F20_x1; cases Nat.beq t 0 <;> (intro h; cases h)) (fun x => F20_r1 h l1 v1 hv1 l2 v2 hv2 x) hl
  simp only [F20_x1, q0, cond_true, cond_false] at k
  exact k
theorem F20_l1_1 (h : AHeap) (l1 : List Int) (v1 : Hd) (hv1 : SlE E3 1 h (sv v1) l1) (l2 : List Int) (v2 : Hd) (hv2 : SlE E3 1 h (sv v2) l2) (x : Int) (r : Nat) (hl : loopO (fun (s : Int) => F20_s1 l1 l2 s) x = some r) (q0 : Nat.beq r 0 = false) : AWp Try.prog (.loop (codeOf Try.prog 20 [1, 1, 0, 1, 0, 0])) (Ends1 (.exit 0) (F20_x1_1 h r)) ((fun (s : Int) => (F20_h1 h l1 v1 v2 s)) x) := by
  have k := loop_fun (P := Try.prog) (c := (codeOf Try.prog 20 [1, 1, 0, 1, 0, 0])) (step := (fun (s : Int) => F20_s1 l1 l2 s)) (hd := (fun (s : Int) => (F20_h1 h l1 v1 v2 s))) (X := (F20_x1 h)) (by intro t; unfold F20_x1; cases Nat.beq t 0 <;> (intro h; cases h)) (fun x => F20_r1 h l1 v1 hv1 l2 v2 hv2 x) hl
  simp only [F20_x1, q0, cond_true, cond_false] at k
  exact k
def F20 (l1 : List Int) (l2 : List Int) : Option (Bool) :=
  (bif ((l1.length : Int) != (l2.length : Int)) then
   some (false)
  else
   (Option.bind (loopO (fun (s : Int) => F20_s1 l1 l2 s) 0) fun y9 =>
   (bif (Nat.beq y9 0) then
    some (false)
   else
    some (true))))
set_option maxRecDepth 100000 in
theorem F20_spec (l1 : List Int) (l2 : List Int) (v1 : Hd) (v2 : Hd) (h : AHeap) (hv1 : SlE E3 1 h (sv v1) l1) (hv2 : SlE E3 1 h (sv v2) l2) (r : Bool) : F20 l1 l2 = some r → ACalls Try.prog 20 [(sv v1), (sv v2)] h (fun v' h'' => v' = (.bool r : Value) ∧ h'' = h) := by
  unfold F20
  refine dec_bif (fun c3 => ?_) (fun c3 => ?_)
  · intro hr
    obtain rfl := Option.some.inj hr
    exact pFun_sound good tab_ok (f := 20) (its := [.g, .g, (.ln l1.length), .g, (.ln l2.length), .g, (.b true), .g]) (args := [(sv v1), (sv v2)]) (h := h) (h' := h) (v := .bool false) (hC := (ai c3 (ai (SlE.len hv2) (ai (SlE.len hv1) trivial)))) (hr := by kernel_rfl)
  · refine bind_opt fun y9 e9 => ?_
    refine dec_bif (fun c10 => ?_) (fun c10 => ?_)
    · intro hr
      obtain rfl := Option.some.inj hr
      exact pFun_sound good tab_ok (f := 20) (its := [.g, .g, (.ln l1.length), .g, (.ln l2.length), .g, (.b false), .g, (.ln l1.length), .g, (.l F20_m1_1 [] .ret (F20_x1_0 h y9))]) (args := [(sv v1), (sv v2)]) (h := h) (h' := h) (v := .bool false) (hC := (ai (F20_l1_0 h l1 v1 hv1 l2 v2 hv2 0 y9 e9 c10) (ai (SlE.len hv1) (ai c3 (ai (SlE.len hv2) (ai (SlE.len hv1) trivial)))))) (hr := by kernel_rfl)
    · intro hr
      obtain rfl := Option.some.inj hr
      exact pFun_sound good tab_ok (f := 20) (its := [.g, .g, (.ln l1.length), .g, (.ln l2.length), .g, (.b false), .g, (.ln l1.length), .g, (.l F20_m1_1 [] (.exit 0) (F20_x1_1 h y9)), .g]) (args := [(sv v1), (sv v2)]) (h := h) (h' := h) (v := .bool true) (hC := (ai (F20_l1_1 h l1 v1 hv1 l2 v2 hv2 0 y9 e9 c10) (ai (SlE.len hv1) (ai c3 (ai (SlE.len hv2) (ai (SlE.len hv1) trivial)))))) (hr := by kernel_rfl)
/-! 4 jacquard/jacquardlaw30.DiffconsEarliest -/
def F4 (x1 : Int) (l2 : List (Int × Int × Int × Int)) (x3 : Int) : Option (Bool) :=
  (bif (!(F16 x1 l2 x3)) then
   some (true)
  else
   (Option.bind (F17 x1 l2 x3) fun y8 =>
   (Option.bind (F18 x1 l2 x3 []) fun y12 =>
   (bif (!y12.2) then
    (Option.bind (F19 x1 l2 x3 y8.1 y8.2) fun y16 =>
    some (y16))
   else
    (Option.bind (F20 y8.1 y12.1) fun y18 =>
    (bif y18 then
     some ((y8.2.length : Int) == 0)
    else
     some (false)))))))
set_option maxRecDepth 100000 in
theorem F4_spec (x1 : Int) (l2 : List (Int × Int × Int × Int)) (x3 : Int) (v2 : Hd) (h : AHeap) (hw : h.wf) (hv2 : SlE E81 4 h (sv v2) l2) (r : Bool) : F4 x1 l2 x3 = some r → ∃ (h' : AHeap), Heapy h h' [] ∧ ACalls Try.prog 4 [.agg #[.int .i64 x1, (sv v2), .int .i64 x3]] h (fun v' h'' => v' = (.bool r : Value) ∧ h'' = h') := by
  unfold F4
  refine dec_bif (fun c6 => ?_) (fun c6 => ?_)
  · intro hr
    obtain rfl := Option.some.inj hr
    exact ⟨h, Heapy.pick (Heapy.refl hw) [] (by decide), pFun_sound good tab_ok (f := 4) (its := [.g, .g, (.c (.bool true) h), .g, .g, (.w .g), (.w (.c (.bool (F16 x1 l2 x3)) h)), (.w .g), .g, (.b true), (.c (.bool true) h), .g]) (args := [.agg #[.int .i64 x1, (sv v2), .int .i64 x3]]) (h := h) (h' := h) (v := .bool true) (hC := (ai (F15_spec h _ rfl) (ai c6 (ai (g_ff l_f) (ai (F16_spec x1 l2 x3 v2 h hv2 _ rfl) (ai (g_ff l_f) (ai (g_ff l_f) (ai (F15_spec h _ rfl) trivial)))))))) (hr := by kernel_rfl)⟩
  · refine bind_opt fun y8 e8 => ?_
    obtain ⟨u9_0, u9_1, h9, q9, zu9_1, c9⟩ := F17_spec x1 l2 x3 v2 h hw hv2 _ e8
    have hp9 : Heapy h h9 [⟨u9_0, 3, 1, List.flatMap enc3 y8.1⟩, ⟨u9_1, 3, 1, List.flatMap enc3 y8.2⟩] := Heapy.call (Heapy.refl hw) q9
    refine bind_opt fun y12 e12 => ?_
    obtain ⟨u13_0, h13, q13, zu13_0, c13⟩ := F18_spec x1 l2 x3 [] v2 ⟨none, 0, 0⟩ h9 (Heapy.wf hp9) (SlE.mono hv2 (Heapy.sub hp9) (E81_mono (Heapy.sub hp9))) SlE.nil _ e12
    have hp13 : Heapy h h13 [⟨u13_0, 3, 1, List.flatMap enc3 y12.1⟩, ⟨u9_0, 3, 1, List.flatMap enc3 y8.1⟩, ⟨u9_1, 3, 1, List.flatMap enc3 y8.2⟩] := Heapy.call hp9 q13
    refine dec_bif (fun c15 => ?_) (fun c15 => ?_)
    · refine bind_opt fun y16 e16 => ?_
      obtain ⟨h17, q17, c17⟩ := F19_spec x1 l2 x3 y8.1 y8.2 v2 u9_0 u9_1 h13 (Heapy.wf hp13) (SlE.mono hv2 (Heapy.sub hp13) (E81_mono (Heapy.sub hp13))) (Heapy.sle (v := u9_0) (xs := y8.1) (enc := enc3) hp13 1 rfl (fun _ => rfl) (by decide)) (Heapy.sle (v := u9_1) (xs := y8.2) (enc := enc3) hp13 2 rfl (fun _ => rfl) (by decide)) _ e16
      have hp17 : Heapy h h17 [⟨u13_0, 3, 1, List.flatMap enc3 y12.1⟩, ⟨u9_0, 3, 1, List.flatMap enc3 y8.1⟩, ⟨u9_1, 3, 1, List.flatMap enc3 y8.2⟩] := Heapy.call hp13 q17
      intro hr
      obtain rfl := Option.some.inj hr
      exact ⟨h17, Heapy.pick hp17 [] (by decide), pFun_sound good tab_ok (f := 4) (its := [.g, .g, (.c (.bool true) h), .g, .g, (.w .g), (.w (.c (.bool (F16 x1 l2 x3)) h)), (.w .g), .g, (.b false), .g, .g, .g, .g, .g, .g, (.c (.tuple #[(sv u9_0), (sv u9_1)]) h9), .g, .g, .g, .g, .g, .g, .g, .g, .g, .g, .g, (.c (.tuple #[(sv u13_0), .bool y12.2]) h13), .g, .g, .g, .g, .g, .g, .g, (.b true), .g, .g, .g, (.c (.bool y16) h17), .g]) (args := [.agg #[.int .i64 x1, (sv v2), .int .i64 x3]]) (h := h) (h' := h17) (v := .bool y16) (hC := (ai c17 (ai c15 (ai c13 (ai c9 (ai c6 (ai (g_ff l_f) (ai (F16_spec x1 l2 x3 v2 h hv2 _ rfl) (ai (g_ff l_f) (ai (g_ff l_f) (ai (F15_spec h _ rfl) trivial))))))))))) (hr := by kernel_rfl)⟩
    · refine bind_opt fun y18 e18 => ?_
      refine dec_bif (fun c20 => ?_) (fun c20 => ?_)
      · intro hr
        obtain rfl := Option.some.inj hr
        exact ⟨h13, Heapy.pick hp13 [] (by decide), pFun_sound good tab_ok (f := 4) (its := [.g, .g, (.c (.bool true) h), .g, .g, (.w .g), (.w (.c (.bool (F16 x1 l2 x3)) h)), (.w .g), .g, (.b false), .g, .g, .g, .g, .g, .g, (.c (.tuple #[(sv u9_0), (sv u9_1)]) h9), .g, .g, .g, .g, .g, .g, .g, .g, .g, .g, .g, (.c (.tuple #[(sv u13_0), .bool y12.2]) h13), .g, .g, .g, .g, .g, .g, .g, (.b false), .g, .g, (.c (.bool y18) h13), .g, (.w .g), (.w (.ln y8.2.length)), (.w .g), (.p true), .g]) (args := [.agg #[.int .i64 x1, (sv v2), .int .i64 x3]]) (h := h) (h' := h13) (v := .bool ((y8.2.length : Int) == 0)) (hC := (ai c20 (ai (g_tt c20) (ai (SlE.len (Heapy.sle (v := u9_1) (xs := y8.2) (enc := enc3) hp13 2 rfl (fun _ => rfl) (by decide))) (ai (g_tt c20) (ai (g_tt c20) (ai (F20_spec y8.1 y12.1 u9_0 u13_0 h13 (Heapy.sle (v := u9_0) (xs := y8.1) (enc := enc3) hp13 1 rfl (fun _ => rfl) (by decide)) (Heapy.sle (v := u13_0) (xs := y12.1) (enc := enc3) hp13 0 rfl (fun _ => rfl) (by decide)) _ e18) (ai c15 (ai c13 (ai c9 (ai c6 (ai (g_ff l_f) (ai (F16_spec x1 l2 x3 v2 h hv2 _ rfl) (ai (g_ff l_f) (ai (g_ff l_f) (ai (F15_spec h _ rfl) trivial)))))))))))))))) (hr := by kernel_rfl)⟩
      · intro hr
        obtain rfl := Option.some.inj hr
        exact ⟨h13, Heapy.pick hp13 [] (by decide), pFun_sound good tab_ok (f := 4) (its := [.g, .g, (.c (.bool true) h), .g, .g, (.w .g), (.w (.c (.bool (F16 x1 l2 x3)) h)), (.w .g), .g, (.b false), .g, .g, .g, .g, .g, .g, (.c (.tuple #[(sv u9_0), (sv u9_1)]) h9), .g, .g, .g, .g, .g, .g, .g, .g, .g, .g, .g, (.c (.tuple #[(sv u13_0), .bool y12.2]) h13), .g, .g, .g, .g, .g, .g, .g, (.b false), .g, .g, (.c (.bool y18) h13), .g, .n, .n, .n, (.p false), .g]) (args := [.agg #[.int .i64 x1, (sv v2), .int .i64 x3]]) (h := h) (h' := h13) (v := .bool false) (hC := (ai c20 (ai (g_ft c20) (ai (g_ft c20) (ai (g_ft c20) (ai (F20_spec y8.1 y12.1 u9_0 u13_0 h13 (Heapy.sle (v := u9_0) (xs := y8.1) (enc := enc3) hp13 1 rfl (fun _ => rfl) (by decide)) (Heapy.sle (v := u13_0) (xs := y12.1) (enc := enc3) hp13 0 rfl (fun _ => rfl) (by decide)) _ e18) (ai c15 (ai c13 (ai c9 (ai c6 (ai (g_ff l_f) (ai (F16_spec x1 l2 x3 v2 h hv2 _ rfl) (ai (g_ff l_f) (ai (g_ff l_f) (ai (F15_spec h _ rfl) trivial))))))))))))))) (hr := by kernel_rfl)⟩
set_option maxRecDepth 100000 in
theorem F4_law (H : ∀ (x1 : Int) (l2 : List (Int × Int × Int × Int)) (x3 : Int), (Lit.int .i64 x1).wf = true → (l2.length ≤ maxLen ∧ l2.length * 32 ≤ reachBytes) → (∀ y ∈ l2, W81 y) → (Lit.int .i64 x3).wf = true → F4 x1 l2 x3 = some true) : Law Try.prog 4 10 [42] := by
  intro s us hwf hro hT0
  obtain ⟨u0, vs0, rfl, t0, hT1⟩ := wts_cons hT0
  obtain ⟨cs0, rfl, k0⟩ := wtv_aggS 4 (ks := [.int .i64, .slice 81, .int .i64]) (by kernel_rfl) (by kernel_rfl) t0
  obtain ⟨x1, r_x1, rfl, w_x1, k0_0⟩ := sq_int k0
  obtain ⟨v2, r_l2, rfl, q_l2, k0_1⟩ := sq_slice k0_0
  obtain ⟨l2, a_l2, m_l2, w_l2⟩ := q_l2 E81 W81 4 (by kernel_rfl) fun n cs H => E81_wt H
  obtain ⟨x3, r_x3, rfl, w_x3, k0_2⟩ := sq_int k0_1
  obtain rfl := sq_nil k0_2
  obtain rfl := wts_nil hT1
  obtain ⟨h2, _, hc⟩ := F4_spec x1 l2 x3 v2 s hwf a_l2 _ (H x1 l2 x3 w_x1 m_l2 w_l2 w_x3)
  refine (hc).mono ?_
  rintro v h' ⟨rfl, rfl⟩
  rfl
/-! 5 jacquard/jacquardlaw30.DiffconsAfter -/
def F5 (x1 : Int) (l2 : List (Int × Int × Int × Int)) (x3 : Int) (l4 : List Int) : Option (Bool) :=
  (bif (!(F16 x1 l2 x3)) then
   some (true)
  else
   (bif decide ((l4.length : Int) > 30) then
    some (true)
   else
    (Option.bind (F21 x1 l2 x3 l4) fun y11 =>
    (Option.bind (F18 x1 l2 x3 l4) fun y15 =>
    (bif (!y15.2) then
     (Option.bind (F19 x1 l2 x3 y11.1 y11.2) fun y19 =>
     some (y19))
    else
     (Option.bind (F20 y11.1 y15.1) fun y21 =>
     (bif y21 then
      some ((y11.2.length : Int) == 0)
     else
      some (false))))))))
set_option maxRecDepth 100000 in
theorem F5_spec (x1 : Int) (l2 : List (Int × Int × Int × Int)) (x3 : Int) (l4 : List Int) (v2 : Hd) (v4 : Hd) (h : AHeap) (hw : h.wf) (hv2 : SlE E81 4 h (sv v2) l2) (hv4 : SlE E3 1 h (sv v4) l4) (r : Bool) : F5 x1 l2 x3 l4 = some r → ∃ (h' : AHeap), Heapy h h' [] ∧ ACalls Try.prog 5 [.agg #[.int .i64 x1, (sv v2), .int .i64 x3], (sv v4)] h (fun v' h'' => v' = (.bool r : Value) ∧ h'' = h') := by
  unfold F5
  refine dec_bif (fun c7 => ?_) (fun c7 => ?_)
  · intro hr
    obtain rfl := Option.some.inj hr
    exact ⟨h, Heapy.pick (Heapy.refl hw) [] (by decide), pFun_sound good tab_ok (f := 5) (its := [.g, .g, (.c (.bool true) h), .g, .g, (.w .g), (.w (.c (.bool (F16 x1 l2 x3)) h)), (.w .g), .g, .g, .n, .n, .n, (.p true), (.b true), (.c (.bool true) h), .g]) (args := [.agg #[.int .i64 x1, (sv v2), .int .i64 x3], (sv v4)]) (h := h) (h' := h) (v := .bool true) (hC := (ai (F15_spec h _ rfl) (ai l_t (ai c7 (ai (g_tf c7) (ai (g_tf c7) (ai (g_tf c7) (ai (g_ff l_f) (ai (F16_spec x1 l2 x3 v2 h hv2 _ rfl) (ai (g_ff l_f) (ai (g_ff l_f) (ai (F15_spec h _ rfl) trivial)))))))))))) (hr := by kernel_rfl)⟩
  · refine dec_bif (fun c9 => ?_) (fun c9 => ?_)
    · intro hr
      obtain rfl := Option.some.inj hr
      exact ⟨h, Heapy.pick (Heapy.refl hw) [] (by decide), pFun_sound good tab_ok (f := 5) (its := [.g, .g, (.c (.bool true) h), .g, .g, (.w .g), (.w (.c (.bool (F16 x1 l2 x3)) h)), (.w .g), .g, .g, (.w .g), (.w (.ln l4.length)), (.w .g), (.p false), (.b true), (.c (.bool true) h), .g]) (args := [.agg #[.int .i64 x1, (sv v2), .int .i64 x3], (sv v4)]) (h := h) (h' := h) (v := .bool true) (hC := (ai (F15_spec h _ rfl) (ai c9 (ai c7 (ai (g_ff c7) (ai (SlE.len hv4) (ai (g_ff c7) (ai (g_ff c7) (ai (g_ff l_f) (ai (F16_spec x1 l2 x3 v2 h hv2 _ rfl) (ai (g_ff l_f) (ai (g_ff l_f) (ai (F15_spec h _ rfl) trivial))))))))))))) (hr := by kernel_rfl)⟩
    · refine bind_opt fun y11 e11 => ?_
      obtain ⟨u12_0, u12_1, h12, q12, zu12_1, c12⟩ := F21_spec x1 l2 x3 l4 v2 v4 h hw hv2 hv4 _ e11
      have hp12 : Heapy h h12 [⟨u12_0, 3, 1, List.flatMap enc3 y11.1⟩, ⟨u12_1, 3, 1, List.flatMap enc3 y11.2⟩] := Heapy.call (Heapy.refl hw) q12
      refine bind_opt fun y15 e15 => ?_
      obtain ⟨u16_0, h16, q16, zu16_0, c16⟩ := F18_spec x1 l2 x3 l4 v2 v4 h12 (Heapy.wf hp12) (SlE.mono hv2 (Heapy.sub hp12) (E81_mono (Heapy.sub hp12))) (SlE.mono hv4 (Heapy.sub hp12) (E3_mono (Heapy.sub hp12))) _ e15
      have hp16 : Heapy h h16 [⟨u16_0, 3, 1, List.flatMap enc3 y15.1⟩, ⟨u12_0, 3, 1, List.flatMap enc3 y11.1⟩, ⟨u12_1, 3, 1, List.flatMap enc3 y11.2⟩] := Heapy.call hp12 q16
      refine dec_bif (fun c18 => ?_) (fun c18 => ?_)
      · refine bind_opt fun y19 e19 => ?_
        obtain ⟨h20, q20, c20⟩ := F19_spec x1 l2 x3 y11.1 y11.2 v2 u12_0 u12_1 h16 (Heapy.wf hp16) (SlE.mono hv2 (Heapy.sub hp16) (E81_mono (Heapy.sub hp16))) (Heapy.sle (v := u12_0) (xs := y11.1) (enc := enc3) hp16 1 rfl (fun _ => rfl) (by decide)) (Heapy.sle (v := u12_1) (xs := y11.2) (enc := enc3) hp16 2 rfl (fun _ => rfl) (by decide)) _ e19
        have hp20 : Heapy h h20 [⟨u16_0, 3, 1, List.flatMap enc3 y15.1⟩, ⟨u12_0, 3, 1, List.flatMap enc3 y11.1⟩, ⟨u12_1, 3, 1, List.flatMap enc3 y11.2⟩] := Heapy.call hp16 q20
        intro hr
        obtain rfl := Option.some.inj hr
        exact ⟨h20, Heapy.pick hp20 [] (by decide), pFun_sound good tab_ok (f := 5) (its := [.g, .g, (.c (.bool true) h), .g, .g, (.w .g), (.w (.c (.bool (F16 x1 l2 x3)) h)), (.w .g), .g, .g, (.w .g), (.w (.ln l4.length)), (.w .g), (.p false), (.b false), .g, .g, .g, .g, .g, .g, .g, (.c (.tuple #[(sv u12_0), (sv u12_1)]) h12), .g, .g, .g, .g, .g, .g, .g, .g, .g, .g, .g, .g, (.c (.tuple #[(sv u16_0), .bool y15.2]) h16), .g, .g, .g, .g, .g, .g, .g, (.b true), .g, .g, .g, (.c (.bool y19) h20), .g]) (args := [.agg #[.int .i64 x1, (sv v2), .int .i64 x3], (sv v4)]) (h := h) (h' := h20) (v := .bool y19) (hC := (ai c20 (ai c18 (ai c16 (ai c12 (ai c9 (ai c7 (ai (g_ff c7) (ai (SlE.len hv4) (ai (g_ff c7) (ai (g_ff c7) (ai (g_ff l_f) (ai (F16_spec x1 l2 x3 v2 h hv2 _ rfl) (ai (g_ff l_f) (ai (g_ff l_f) (ai (F15_spec h _ rfl) trivial)))))))))))))))) (hr := by kernel_rfl)⟩
      · refine bind_opt fun y21 e21 => ?_
        refine dec_bif (fun c23 => ?_) (fun c23 => ?_)
        · intro hr
          obtain rfl := Option.some.inj hr
          exact ⟨h16, Heapy.pick hp16 [] (by decide), pFun_sound good tab_ok (f := 5) (its := [.g, .g, (.c (.bool true) h), .g, .g, (.w .g), (.w (.c (.bool (F16 x1 l2 x3)) h)), (.w .g), .g, .g, (.w .g), (.w (.ln l4.length)), (.w .g), (.p false), (.b false), .g, .g, .g, .g, .g, .g, .g, (.c (.tuple #[(sv u12_0), (sv u12_1)]) h12), .g, .g, .g, .g, .g, .g, .g, .g, .g, .g, .g, .g, (.c (.tuple #[(sv u16_0), .bool y15.2]) h16), .g, .g, .g, .g, .g, .g, .g, (.b false), .g, .g, (.c (.bool y21) h16), .g, (.w .g), (.w (.ln y11.2.length)), (.w .g), (.p true), .g]) (args := [.agg #[.int .i64 x1, (sv v2), .int .i64 x3], (sv v4)]) (h := h) (h' := h16) (v := .bool ((y11.2.length : Int) == 0)) (hC := (ai c23 (ai (g_tt c23) (ai (SlE.len (Heapy.sle (v := u12_1) (xs := y11.2) (enc := enc3) hp16 2 rfl (fun _ => rfl) (by decide))) (ai (g_tt c23) (ai (g_tt c23) (ai (F20_spec y11.1 y15.1 u12_0 u16_0 h16 (Heapy.sle (v := u12_0) (xs := y11.1) (enc := enc3) hp16 1 rfl (fun _ => rfl) (by decide)) (Heapy.sle (v := u16_0) (xs := y15.1) (enc := enc3) hp16 0 rfl (fun _ => rfl) (by decide)) _ e21) (ai c18 (ai c16 (ai c12 (ai c9 (ai c7 (ai (g_ff c7) (ai (SlE.len hv4) (ai (g_ff c7) (ai (g_ff c7) (ai (g_ff l_f) (ai (F16_spec x1 l2 x3 v2 h hv2 _ rfl) (ai (g_ff l_f) (ai (g_ff l_f) (ai (F15_spec h _ rfl) trivial))))))))))))))))))))) (hr := by kernel_rfl)⟩
        · intro hr
          obtain rfl := Option.some.inj hr
          exact ⟨h16, Heapy.pick hp16 [] (by decide), pFun_sound good tab_ok (f := 5) (its := [.g, .g, (.c (.bool true) h), .g, .g, (.w .g), (.w (.c (.bool (F16 x1 l2 x3)) h)), (.w .g), .g, .g, (.w .g), (.w (.ln l4.length)), (.w .g), (.p false), (.b false), .g, .g, .g, .g, .g, .g, .g, (.c (.tuple #[(sv u12_0), (sv u12_1)]) h12), .g, .g, .g, .g, .g, .g, .g, .g, .g, .g, .g, .g, (.c (.tuple #[(sv u16_0), .bool y15.2]) h16), .g, .g, .g, .g, .g, .g, .g, (.b false), .g, .g, (.c (.bool y21) h16), .g, .n, .n, .n, (.p false), .g]) (args := [.agg #[.int .i64 x1, (sv v2), .int .i64 x3], (sv v4)]) (h := h) (h' := h16) (v := .bool false) (hC := (ai c23 (ai (g_ft c23) (ai (g_ft c23) (ai (g_ft c23) (ai (F20_spec y11.1 y15.1 u12_0 u16_0 h16 (Heapy.sle (v := u12_0) (xs := y11.1) (enc := enc3) hp16 1 rfl (fun _ => rfl) (by decide)) (Heapy.sle (v := u16_0) (xs := y15.1) (enc := enc3) hp16 0 rfl (fun _ => rfl) (by decide)) _ e21) (ai c18 (ai c16 (ai c12 (ai c9 (ai c7 (ai (g_ff c7) (ai (SlE.len hv4) (ai (g_ff c7) (ai (g_ff c7) (ai (g_ff l_f) (ai (F16_spec x1 l2 x3 v2 h hv2 _ rfl) (ai (g_ff l_f) (ai (g_ff l_f) (ai (F15_spec h _ rfl) trivial)))))))))))))))))))) (hr := by kernel_rfl)⟩
set_option maxRecDepth 100000 in
theorem F5_law (H : ∀ (x1 : Int) (l2 : List (Int × Int × Int × Int)) (x3 : Int) (l4 : List Int), (Lit.int .i64 x1).wf = true → (l2.length ≤ maxLen ∧ l2.length * 32 ≤ reachBytes) → (∀ y ∈ l2, W81 y) → (Lit.int .i64 x3).wf = true → (l4.length ≤ maxLen ∧ l4.length * 8 ≤ reachBytes) → (∀ y ∈ l4, W3 y) → F5 x1 l2 x3 l4 = some true) : Law Try.prog 5 10 [42, 27] := by
  intro s us hwf hro hT0
  obtain ⟨u0, vs0, rfl, t0, hT1⟩ := wts_cons hT0
  obtain ⟨cs0, rfl, k0⟩ := wtv_aggS 4 (ks := [.int .i64, .slice 81, .int .i64]) (by kernel_rfl) (by kernel_rfl) t0
  obtain ⟨x1, r_x1, rfl, w_x1, k0_0⟩ := sq_int k0
  obtain ⟨v2, r_l2, rfl, q_l2, k0_1⟩ := sq_slice k0_0
  obtain ⟨l2, a_l2, m_l2, w_l2⟩ := q_l2 E81 W81 4 (by kernel_rfl) fun n cs H => E81_wt H
  obtain ⟨x3, r_x3, rfl, w_x3, k0_2⟩ := sq_int k0_1
  obtain rfl := sq_nil k0_2
  obtain ⟨u1, vs1, rfl, t1, hT2⟩ := wts_cons hT1
  have k1 := wtv_oneS 2 (ks := [.slice 3]) (by kernel_rfl) (by kernel_rfl) t1
  obtain ⟨v4, r_l4, e_l4, q_l4, k1_0⟩ := sq_slice k1
  obtain ⟨l4, a_l4, m_l4, w_l4⟩ := q_l4 E3 W3 1 (by kernel_rfl) fun n cs H => E3_wt H
  obtain ⟨rfl, rfl⟩ := List.cons.inj e_l4
  have k1_0' := sq_nil k1_0
  obtain rfl := wts_nil hT2
  obtain ⟨h2, _, hc⟩ := F5_spec x1 l2 x3 l4 v2 v4 s hwf a_l2 a_l4 _ (H x1 l2 x3 l4 w_x1 m_l2 w_l2 w_x3 m_l4 w_l4)
  refine (hc).mono ?_
  rintro v h' ⟨rfl, rfl⟩
  rfl
/-! 22 jacquard/diffcons.Latest -/
def F22_L : List Nat := []
def F22_D : List (Nat × List (Nat × Nat)) := []
def F22_m1_1 : List Bool := [true, true, true, true, true, true, true, true, false, true, false, true, true, true, true, true, true, true, true, true, true, true, true, true, true, true, true, true, true, true, true, true, true, true, true, true, true, true, true, true, true, true, true, true, true, true, true, true, true, true, true, true, true, true, true, true, true]
def F22_m1_0 : List Bool := [true, true, true, false, true, true, true, true, false, true, false, true, true, true, true, true, true, true, true, true, true, true, false, false, true, true, true, true, true, true, true, true, true, true, true, true, true, true, true, true, true, true, true, true, true, true, true, true, true, true, true, true, true, true, true, true, true]
def F22_s1 (x1 : Int) (l4 : List Int) (a12 : Int) (l13 : List Int) : Option ((Int × (List Int)) ⊕ (List Int)) :=
  (bif decide (a12 < ((List.replicate (F48 x1).toNat (0 : Int)).length : Int)) then
   (Option.bind (F50 l4 a12) fun y16 =>
   (Option.bind (at? l13 a12) fun y18 =>
   some (.inl ((IntKind.i64.wrap (a12 + 1)), (setI l13 a12 (IntKind.i64.wrap (0 - y16)))))))
  else
   some (.inr l13))
def F22_h1 (x1 : Int) (v4 : Hd) (u7_0 : Hd) (v10 : Hd) (h14 : AHeap) (a12 : Int) (l13 : List Int) : AS := ⟨[junk, junk, junk, (sv v4), junk, junk, junk, junk, (sv v10), junk, (sv u7_0), junk, junk, junk, junk, junk, junk, junk, junk, junk, junk, junk, .int .i64 ((List.replicate (F48 x1).toNat (0 : Int)).length : Int), .int .i64 a12, junk, junk, junk, junk, junk, junk, junk, junk, junk, junk, junk, junk, junk, junk, junk, junk, junk, junk, junk, junk, junk, junk, junk, junk, junk, junk, junk, junk, junk, junk, junk, junk, junk], [], h14⟩
theorem F22_d1 : drawsOk F22_D (codeOf Try.prog 22 [1, 1, 1, 1, 0, 1, 0, 0]) = true := by kernel_rfl
def F22_x1_0 (h : AHeap) (y6 : (List (Int × Int × Int × Int))) (u7_0 : Hd) (v10 : Hd) (hx : AHeap) (r : (List Int)) : AS := ⟨[junk, junk, junk, junk, junk, junk, junk, junk, (sv v10), junk, (sv u7_0), junk, junk, junk, junk, junk, junk, junk, junk, junk, junk, junk, junk, junk, junk, junk, junk, junk, junk, junk, junk, junk, junk, junk, junk, junk, junk, junk, junk, junk, junk, junk, junk, junk, junk, junk, junk, junk, junk, junk, junk, junk, junk, junk, junk, junk, junk], [], hx⟩
def F22_i1 (h : AHeap) (x1 : Int) (v4 : Hd) (y6 : (List (Int × Int × Int × Int))) (u7_0 : Hd) (v10 : Hd) (s : Int × (List Int)) (S : AS) : Prop := ∃ (h14 : AHeap), Heapy h h14 [⟨v10, 3, 1, List.flatMap enc3 s.2⟩, ⟨u7_0, 114, 4, List.flatMap enc114 y6⟩] ∧ S = (F22_h1 x1 v4 u7_0 v10 h14 s.1 s.2)
def F22_x1 (h : AHeap) (y6 : (List (Int × Int × Int × Int))) (u7_0 : Hd) (v10 : Hd) (r : (List Int)) (e : Exit) (S : AS) : Prop := e = (.exit 0) ∧ ∃ (hx : AHeap), Heapy h hx [⟨v10, 3, 1, List.flatMap enc3 r⟩, ⟨u7_0, 114, 4, List.flatMap enc114 y6⟩] ∧ S = (F22_x1_0 h y6 u7_0 v10 hx r)
set_option maxRecDepth 100000 in
theorem F22_r1 (h : AHeap) (x1 : Int) (l4 : List Int) (v4 : Hd) (hv4 : SlE E3 1 h (sv v4) l4) (y6 : (List (Int × Int × Int × Int))) (u7_0 : Hd) (v10 : Hd) (a12 : Int) (l13 : List Int) (S : AS) (hI : (F22_i1 h x1 v4 y6 u7_0 v10) (a12, l13) S) (o : (Int × (List Int)) ⊕ (List Int)) : F22_s1 x1 l4 a12 l13 = some o → Rd Try.prog (codeOf Try.prog 22 [1, 1, 1, 1, 0, 1, 0, 0]) (F22_i1 h x1 v4 y6 u7_0 v10) (F22_x1 h y6 u7_0 v10) S o := by
  obtain ⟨h14, hp14, rfl⟩ := hI
  unfold F22_s1
  refine dec_bif (fun c15 => ?_) (fun c15 => ?_)
  · refine bind_opt fun y16 e16 => ?_
    refine bind_opt fun y18 e18 => ?_
    obtain ⟨id18, off18, g18, cs18, ix18, at18, rfl⟩ := SlE.at (Heapy.sle (v := v10) (xs := l13) (enc := enc3) hp14 0 rfl (fun _ => rfl) (by decide)) e18
    obtain ⟨h19, m19, hp19⟩ := Heapy.store (P := Try.prog) hp14 0 (v := v10) (xs := l13) (enc := enc3) rfl (fun _ => rfl) e18 (y' := (IntKind.i64.wrap (0 - y16))) ix18 (t := 3) (x := .int .i64 (IntKind.i64.wrap (0 - y16))) 0 (vs := [.int .i64 (IntKind.i64.wrap (0 - y16))]) rfl (by kernel_rfl) rfl rfl rfl rfl
    intro hr
    obtain rfl := Option.some.inj hr
    exact ⟨(F22_h1 x1 v4 u7_0 v10 h19 (IntKind.i64.wrap (a12 + 1)) (setI l13 a12 (IntKind.i64.wrap (0 - y16)))), ⟨h19, (Heapy.pick hp19 [0, 1] (by decide)), rfl⟩, pEnd_sound good (L := F22_L) (D := F22_D) (its := [.g, (.b true), .g, .g, .g, .g, .g, .g, (.c (.int .i64 y16) h14), .g, (.ix id18 off18 g18), (.mm undef h19), .g, .g]) (ds := F22_m1_0) (ks := []) (e := .normal) (s2 := (F22_h1 x1 v4 u7_0 v10 h19 (IntKind.i64.wrap (a12 + 1)) (setI l13 a12 (IntKind.i64.wrap (0 - y16))))) (hC := (ai m19 (ai ix18 (ai (F50_spec l4 a12 v4 h14 (SlE.mono hv4 (Heapy.sub hp14) (E3_mono (Heapy.sub hp14))) _ e16) (ai c15 trivial))))) (hd := F22_d1) (h := by kernel_rfl)⟩
  · intro hr
    obtain rfl := Option.some.inj hr
    refine ⟨(.exit 0), (F22_x1_0 h y6 u7_0 v10 h14 (l13 : (List Int))), (by intro hh; cases hh), ?_, pEnd_sound good (L := F22_L) (D := F22_D) (its := [.g, (.b false)]) (ds := F22_m1_1) (ks := []) (e := (.exit 0)) (s2 := (F22_x1_0 h y6 u7_0 v10 h14 (l13 : (List Int)))) (hC := (ai c15 trivial)) (hd := F22_d1) (h := by kernel_rfl)⟩
    exact ⟨rfl, h14, (Heapy.pick hp14 [0, 1] (by decide)), rfl⟩
theorem F22_l1 (h : AHeap) (x1 : Int) (l4 : List Int) (v4 : Hd) (hv4 : SlE E3 1 h (sv v4) l4) (y6 : (List (Int × Int × Int × Int))) (u7_0 : Hd) (v10 : Hd) (x : Int × (List Int)) (r : (List Int)) (hl : loopO (fun (s : Int × (List Int)) => F22_s1 x1 l4 s.1 s.2) x = some r) (S : AS) (hI : (F22_i1 h x1 v4 y6 u7_0 v10) x S) : ∃ e S', (F22_x1 h y6 u7_0 v10) r e S' ∧ AWp Try.prog (.loop (codeOf Try.prog 22 [1, 1, 1, 1, 0, 1, 0, 0])) (Ends1 e S') S :=
  loop_rel (fun x S hI => F22_r1 h x1 l4 v4 hv4 y6 u7_0 v10 x.1 x.2 S hI) hl hI
def F22_m2_1 : List Bool := [true, true, true, true, true, true, true, true, false, true, true, true, true, true, true, true, true, true, true, true, true, true, true, true, true, true, true, true, true, true, true, true, true, true, true, true, true, true, true, true, true, true, true, true, true, true, true, true, true, true, true, true, true, true, true, true, true]
def F22_m2_0 : List Bool := [true, true, true, true, true, true, true, true, false, true, true, true, true, true, true, true, true, true, true, true, true, true, true, true, true, true, true, true, true, true, true, true, true, true, true, true, true, true, true, true, true, true, true, false, false, true, true, true, true, true, true, true, true, true, true, true, true]
def F22_s2 (y23 : (List Int) × (List Int)) (a30 : Int) (l31 : List Int) : Option ((Int × (List Int)) ⊕ (List Int)) :=
  (bif decide (a30 < (y23.2.length : Int)) then
   (Option.bind (at? l31 a30) fun y34 =>
   some (.inl ((IntKind.i64.wrap (a30 + 1)), (setI l31 a30 (IntKind.i64.wrap (0 - y34))))))
  else
   some (.inr l31))
def F22_h2 (v10 : Hd) (y23 : (List Int) × (List Int)) (h32 : AHeap) (a30 : Int) (l31 : List Int) : AS := ⟨[junk, junk, junk, junk, junk, junk, junk, junk, (sv v10), junk, junk, junk, junk, junk, junk, junk, junk, junk, junk, junk, junk, junk, junk, junk, junk, junk, junk, junk, junk, junk, junk, junk, junk, junk, junk, junk, junk, junk, junk, junk, junk, junk, junk, .int .i64 (y23.2.length : Int), .int .i64 a30, junk, junk, junk, junk, junk, junk, junk, junk, junk, junk, junk, junk], [], h32⟩
theorem F22_d2 : drawsOk F22_D (codeOf Try.prog 22 [1, 1, 1, 1, 1, 1, 0, 1, 0, 0]) = true := by kernel_rfl
def F22_x2_0 (h : AHeap) (v10 : Hd) (hx : AHeap) (r : (List Int)) : AS := ⟨[junk, junk, junk, junk, junk, junk, junk, junk, (sv v10), junk, junk, junk, junk, junk, junk, junk, junk, junk, junk, junk, junk, junk, junk, junk, junk, junk, junk, junk, junk, junk, junk, junk, junk, junk, junk, junk, junk, junk, junk, junk, junk, junk, junk, junk, junk, junk, junk, junk, junk, junk, junk, junk, junk, junk, junk, junk, junk], [], hx⟩
def F22_i2 (h : AHeap) (v10 : Hd) (y23 : (List Int) × (List Int)) (s : Int × (List Int)) (S : AS) : Prop := ∃ (h32 : AHeap), Heapy h h32 [⟨v10, 3, 1, List.flatMap enc3 s.2⟩] ∧ S = (F22_h2 v10 y23 h32 s.1 s.2)
def F22_x2 (h : AHeap) (v10 : Hd) (r : (List Int)) (e : Exit) (S : AS) : Prop := e = (.exit 2) ∧ ∃ (hx : AHeap), Heapy h hx [⟨v10, 3, 1, List.flatMap enc3 r⟩] ∧ S = (F22_x2_0 h v10 hx r)
set_option maxRecDepth 100000 in
theorem F22_r2 (h : AHeap) (v10 : Hd) (y23 : (List Int) × (List Int)) (a30 : Int) (l31 : List Int) (S : AS) (hI : (F22_i2 h v10 y23) (a30, l31) S) (o : (Int × (List Int)) ⊕ (List Int)) : F22_s2 y23 a30 l31 = some o → Rd Try.prog (codeOf Try.prog 22 [1, 1, 1, 1, 1, 1, 0, 1, 0, 0]) (F22_i2 h v10 y23) (F22_x2 h v10) S o := by
  obtain ⟨h32, hp32, rfl⟩ := hI
  unfold F22_s2
  refine dec_bif (fun c33 => ?_) (fun c33 => ?_)
  · refine bind_opt fun y34 e34 => ?_
    obtain ⟨id34, off34, g34, cs34, ix34, at34, rfl⟩ := SlE.at (Heapy.sle (v := v10) (xs := l31) (enc := enc3) hp32 0 rfl (fun _ => rfl) (by decide)) e34
    obtain ⟨h35, m35, hp35⟩ := Heapy.store (P := Try.prog) hp32 0 (v := v10) (xs := l31) (enc := enc3) rfl (fun _ => rfl) e34 (y' := (IntKind.i64.wrap (0 - y34))) ix34 (t := 3) (x := .int .i64 (IntKind.i64.wrap (0 - y34))) 0 (vs := [.int .i64 (IntKind.i64.wrap (0 - y34))]) rfl (by kernel_rfl) rfl rfl rfl rfl
    intro hr
    obtain rfl := Option.some.inj hr
    exact ⟨(F22_h2 v10 y23 h35 (IntKind.i64.wrap (a30 + 1)) (setI l31 a30 (IntKind.i64.wrap (0 - y34)))), ⟨h35, (Heapy.pick hp35 [0] (by decide)), rfl⟩, pEnd_sound good (L := F22_L) (D := F22_D) (its := [.g, (.b true), .g, .g, .g, .g, .g, .g, (.ix id34 off34 g34), (.ld (.int .i64 y34)), .g, (.ix id34 off34 g34), (.mm undef h35), .g, .g]) (ds := F22_m2_0) (ks := []) (e := .normal) (s2 := (F22_h2 v10 y23 h35 (IntKind.i64.wrap (a30 + 1)) (setI l31 a30 (IntKind.i64.wrap (0 - y34))))) (hC := (ai m35 (ai ix34 (ai (At.one (P := Try.prog) (t := 3) (v := .int .i64 y34) at34 (by kernel_rfl) 0 rfl rfl) (ai ix34 (ai c33 trivial)))))) (hd := F22_d2) (h := by kernel_rfl)⟩
  · intro hr
    obtain rfl := Option.some.inj hr
    refine ⟨(.exit 2), (F22_x2_0 h v10 h32 (l31 : (List Int))), (by intro hh; cases hh), ?_, pEnd_sound good (L := F22_L) (D := F22_D) (its := [.g, (.b false)]) (ds := F22_m2_1) (ks := []) (e := (.exit 2)) (s2 := (F22_x2_0 h v10 h32 (l31 : (List Int)))) (hC := (ai c33 trivial)) (hd := F22_d2) (h := by kernel_rfl)⟩
    exact ⟨rfl, h32, (Heapy.pick hp32 [0] (by decide)), rfl⟩
theorem F22_l2 (h : AHeap) (v10 : Hd) (y23 : (List Int) × (List Int)) (x : Int × (List Int)) (r : (List Int)) (hl : loopO (fun (s : Int × (List Int)) => F22_s2 y23 s.1 s.2) x = some r) (S : AS) (hI : (F22_i2 h v10 y23) x S) : ∃ e S', (F22_x2 h v10) r e S' ∧ AWp Try.prog (.loop (codeOf Try.prog 22 [1, 1, 1, 1, 1, 1, 0, 1, 0, 0])) (Ends1 e S') S :=
  loop_rel (fun x S hI => F22_r2 h v10 y23 x.1 x.2 S hI) hl hI
def F22 (x1 : Int) (l2 : List (Int × Int × Int × Int)) (x3 : Int) (l4 : List Int) : Option ((List Int) × (List Int)) :=
  (Option.bind (F49 (F48 x1) l2 x3 true) fun y6 =>
  (bif (!(okLen (F48 x1) (F48 x1) 8)) then none else
  (Option.bind (loopO (fun (s : Int × (List Int)) => F22_s1 x1 l4 s.1 s.2) (0, (List.replicate (F48 x1).toNat (0 : Int)))) fun y20 =>
  (Option.bind (F51 y20 y6) fun y23 =>
  (bif (!y23.1.isEmpty) then
   (Option.bind (F52 y23.1) fun y28 =>
   some ([], y28))
  else
   (Option.bind (loopO (fun (s : Int × (List Int)) => F22_s2 y23 s.1 s.2) (0, y23.2)) fun y36 =>
   some (y36, [])))))))
set_option maxRecDepth 100000 in
theorem F22_spec (x1 : Int) (l2 : List (Int × Int × Int × Int)) (x3 : Int) (l4 : List Int) (v2 : Hd) (v4 : Hd) (h : AHeap) (hw : h.wf) (hv2 : SlE E81 4 h (sv v2) l2) (hv4 : SlE E3 1 h (sv v4) l4) (r : (List Int) × (List Int)) : F22 x1 l2 x3 l4 = some r → ∃ (ur0 : Hd) (ur1 : Hd) (h' : AHeap), Heapy h h' [⟨ur0, 3, 1, List.flatMap enc3 r.1⟩, ⟨ur1, 3, 1, List.flatMap enc3 r.2⟩] ∧ Strict ur1 ∧ ACalls Try.prog 22 [.int .i64 x1, (sv v2), .int .i64 x3, (sv v4)] h (fun v' h'' => v' = (.tuple #[(sv ur0), (sv ur1)] : Value) ∧ h'' = h') := by
  unfold F22
  refine bind_opt fun y6 e6 => ?_
  obtain ⟨u7_0, h7, q7, zu7_0, c7⟩ := F49_spec (F48 x1) l2 x3 true v2 h hw hv2 _ e6
  have hp7 : Heapy h h7 [⟨u7_0, 114, 4, List.flatMap enc114 y6⟩] := Heapy.call (Heapy.refl hw) q7
  refine guard_ok fun g9 => ?_
  obtain ⟨v10, h10, m10, hp10, _⟩ := Heapy.make hp7 (show mkInfo Try.prog 27 = some (3, 1, 8, [.int .i64 0]) by kernel_rfl) (a := (F48 x1)) (b := (F48 x1)) (by simpa using g9) (enc := enc3) (x := 0) rfl rfl
  refine bind_opt fun y20 e20 => ?_
  obtain ⟨ee20, SS20, hX20, hA20⟩ := F22_l1 h x1 l4 v4 hv4 y6 u7_0 v10 (0, (List.replicate (F48 x1).toNat (0 : Int))) y20 e20 (F22_h1 x1 v4 u7_0 v10 h10 0 (List.replicate (F48 x1).toNat (0 : Int))) ⟨h10, (Heapy.pick hp10 [0, 1] (by decide)), rfl⟩
  obtain ⟨rfl, h21, hp21, rfl⟩ := hX20
  refine bind_opt fun y23 e23 => ?_
  obtain ⟨b22, pb22, ob22, jb22⟩ := Heapy.io hp21 0 (s := ⟨v10, 3, 1, List.flatMap enc3 y20⟩) rfl
  obtain ⟨u24_0, h24, q24, zu24_0, c24⟩ := F51_spec y20 y6 v10 u7_0 h21 b22 (Heapy.wf ob22) (Heapy.sle (v := u7_0) (xs := y6) (enc := enc114) ob22 0 rfl (fun _ => rfl) (by decide)) pb22 _ e23
  have hp24 : Heapy h h24 [⟨u24_0, 3, 1, List.flatMap enc3 y23.1⟩, ⟨v10, 3, 1, List.flatMap enc3 y23.2⟩, ⟨u7_0, 114, 4, List.flatMap enc114 y6⟩] := jb22 (r := [⟨u24_0, 3, 1, List.flatMap enc3 y23.1⟩]) (s' := ⟨v10, 3, 1, List.flatMap enc3 y23.2⟩) q24
  refine dec_bif (fun c26 => ?_) (fun c26 => ?_)
  · refine bind_opt fun y28 e28 => ?_
    obtain ⟨b27, pb27, ob27, jb27⟩ := Heapy.io hp24 0 (s := ⟨u24_0, 3, 1, List.flatMap enc3 y23.1⟩) rfl
    obtain ⟨h29, q29, c29⟩ := F52_spec y23.1 u24_0 h24 b27 (Heapy.wf ob27) pb27 _ e28
    have hp29 : Heapy h h29 [⟨u24_0, 3, 1, List.flatMap enc3 y28⟩, ⟨v10, 3, 1, List.flatMap enc3 y23.2⟩, ⟨u7_0, 114, 4, List.flatMap enc114 y6⟩] := jb27 (r := []) (s' := ⟨u24_0, 3, 1, List.flatMap enc3 y28⟩) q29
    intro hr
    obtain rfl := Option.some.inj hr
    exact ⟨⟨none, 0, 0⟩, u24_0, h29, Heapy.pick (Heapy.nil hp29 3 1) [0, 1] (by decide), zu24_0, pFun_sound good tab_ok (f := 22) (its := [.g, .g, .g, (.c (.int .i64 (F48 x1)) h), .g, .g, .g, .g, (.c ((sv u7_0)) h7), .g, .g, (.mm (sv v10) h10), .g, .g, (.ln (List.replicate (F48 x1).toNat (0 : Int)).length), .g, (.l F22_m1_0 [] (.exit 0) (F22_x1_0 h y6 u7_0 v10 h21 y20)), .g, .g, (.c ((sv u24_0)) h24), .g, .g, (.nl y23.1.isEmpty), (.b true), .g, (.c (.tuple #[]) h29), .g, .g, .g]) (args := [.int .i64 x1, (sv v2), .int .i64 x3, (sv v4)]) (h := h) (h' := h29) (v := .tuple #[.slice none 0 0, (sv u24_0)]) (hC := (ai c29 (ai c26 (ai (Heapy.nilE (v := u24_0) (xs := y23.1) (enc := enc3) hp24 0 rfl (fun _ => rfl) (by decide) zu24_0) (ai c24 (ai hA20 (ai (SlE.len (Heapy.sle (v := v10) (xs := (List.replicate (F48 x1).toNat (0 : Int))) (enc := enc3) hp10 0 rfl (fun _ => rfl) (by decide))) (ai m10 (ai c7 (ai (F48_spec x1 h _ rfl) trivial)))))))))) (hr := by kernel_rfl)⟩
  · refine bind_opt fun y36 e36 => ?_
    obtain ⟨ee36, SS36, hX36, hA36⟩ := F22_l2 h v10 y23 (0, y23.2) y36 e36 (F22_h2 v10 y23 h24 0 y23.2) ⟨h24, (Heapy.pick hp24 [1] (by decide)), rfl⟩
    obtain ⟨rfl, h37, hp37, rfl⟩ := hX36
    intro hr
    obtain rfl := Option.some.inj hr
    exact ⟨v10, ⟨none, 0, 0⟩, h37, Heapy.pick (Heapy.nil hp37 3 1) [1, 0] (by decide), Strict.nil, pFun_sound good tab_ok (f := 22) (its := [.g, .g, .g, (.c (.int .i64 (F48 x1)) h), .g, .g, .g, .g, (.c ((sv u7_0)) h7), .g, .g, (.mm (sv v10) h10), .g, .g, (.ln (List.replicate (F48 x1).toNat (0 : Int)).length), .g, (.l F22_m1_0 [] (.exit 0) (F22_x1_0 h y6 u7_0 v10 h21 y20)), .g, .g, (.c ((sv u24_0)) h24), .g, .g, (.nl y23.1.isEmpty), (.b false), .g, (.ln y23.2.length), .g, (.l F22_m2_0 [] (.exit 2) (F22_x2_0 h v10 h37 y36)), .g, .g, .g]) (args := [.int .i64 x1, (sv v2), .int .i64 x3, (sv v4)]) (h := h) (h' := h37) (v := .tuple #[(sv v10), .slice none 0 0]) (hC := (ai hA36 (ai (SlE.len (Heapy.sle (v := v10) (xs := y23.2) (enc := enc3) hp24 1 rfl (fun _ => rfl) (by decide))) (ai c26 (ai (Heapy.nilE (v := u24_0) (xs := y23.1) (enc := enc3) hp24 0 rfl (fun _ => rfl) (by decide) zu24_0) (ai c24 (ai hA20 (ai (SlE.len (Heapy.sle (v := v10) (xs := (List.replicate (F48 x1).toNat (0 : Int))) (enc := enc3) hp10 0 rfl (fun _ => rfl) (by decide))) (ai m10 (ai c7 (ai (F48_spec x1 h _ rfl) trivial))))))))))) (hr := by kernel_rfl)⟩
/-! 23 jacquard/jacquardref30.Latest -/
def F23_L : List Nat := []
def F23_D : List (Nat × List (Nat × Nat)) := [(13, [(0, 2), (1, 2), (2, 2), (4, 2), (5, 2), (6, 2), (8, 2), (7, 5), (9, 2), (10, 5), (3, 1), (11, 2), (12, 2), (13, 2)])]
def F23_m1_1 : List Bool := [true, true, true, false, true, true, true, true, true, true, false, true, false, true, false, true, true, true, true, true, true, true, true, true, true, true, false, false, true, true, true, true, true, true, true, true, true, true, true, true, true, true, true, true, true, true, true, true, true, true, true, true, true, true, true, true, true, true, true, true, true, true, true, true, true, true]
def F23_m1_0 : List Bool := [true, true, true, false, true, true, true, true, true, true, false, true, false, false, false, true, true, true, true, true, true, true, true, true, true, true, false, false, true, true, true, true, true, true, false, false, true, true, true, true, true, true, true, true, true, true, true, true, true, true, true, true, true, true, true, true, true, true, true, true, true, true, true, true, true, true]
def F23_s1 (l4 : List Int) (y5 : (List (List Int)) × Bool) (a11 : Int) (a17 : Int) (a18 : Int) : Option ((Int × Int) ⊕ Int) :=
  (bif decide (a18 < (y5.1.length : Int)) then
   (Option.bind (at? y5.1 a11) fun y20 =>
   (Option.bind (at? y20 a18) fun y22 =>
   (bif decide (y22 > (-1152921504606846976)) then
    (Option.bind (F45 l4 a18) fun y25 =>
    some (.inl ((if (IntKind.i64.wrap (y25 - y22)) < a17 then (IntKind.i64.wrap (y25 - y22)) else a17), (IntKind.i64.wrap (a18 + 1)))))
   else
    some (.inl (a17, (IntKind.i64.wrap (a18 + 1)))))))
  else
   some (.inr a17))
def F23_h1 (v4 : Hd) (y5 : (List (List Int)) × Bool) (u6_0 : Hd) (a11 : Int) (u12 : Hd) (h13 : AHeap)  (a17 : Int) (a18 : Int) : AS := ⟨[junk, junk, junk, (sv v4), junk, junk, junk, junk, junk, junk, (sv u6_0), junk, (sv u12), .int .i64 a11, .int .i64 a17, junk, junk, junk, junk, junk, junk, junk, junk, junk, junk, junk, .int .i64 (y5.1.length : Int), .int .i64 a11, junk, junk, junk, junk, junk, junk, .int .i64 (y5.1.length : Int), .int .i64 a18, junk, junk, junk, junk, junk, junk, junk, junk, junk, junk, junk, junk, junk, junk, junk, junk, junk, junk, junk, junk, junk, junk, junk, junk, junk, junk, junk, junk, junk, junk], [], h13⟩
theorem F23_d1 : drawsOk F23_D (codeOf Try.prog 23 [1, 1, 1, 1, 0, 1, 0, 0, 1, 1, 0, 0, 1, 1, 0, 1, 0, 0]) = true := by kernel_rfl
def F23_x1_0 (v4 : Hd) (y5 : (List (List Int)) × Bool) (u6_0 : Hd) (a11 : Int) (u12 : Hd) (h13 : AHeap)  (r : Int) : AS := ⟨[junk, junk, junk, (sv v4), junk, junk, junk, junk, junk, junk, (sv u6_0), junk, (sv u12), junk, .int .i64 r, junk, junk, junk, junk, junk, junk, junk, junk, junk, junk, junk, .int .i64 (y5.1.length : Int), .int .i64 a11, junk, junk, junk, junk, junk, junk, junk, junk, junk, junk, junk, junk, junk, junk, junk, junk, junk, junk, junk, junk, junk, junk, junk, junk, junk, junk, junk, junk, junk, junk, junk, junk, junk, junk, junk, junk, junk, junk], [], h13⟩
def F23_x1 (v4 : Hd) (y5 : (List (List Int)) × Bool) (u6_0 : Hd) (a11 : Int) (u12 : Hd) (h13 : AHeap) (r : Int) : Exit × AS := ((.exit 2), (F23_x1_0 v4 y5 u6_0 a11 u12 h13 r))
set_option maxRecDepth 100000 in
theorem F23_r1 (h : AHeap) (l4 : List Int) (v4 : Hd) (hv4 : SlE E3 1 h (sv v4) l4) (y5 : (List (List Int)) × Bool) (u6_0 : Hd) (u6_0h : List Hd) (a11 : Int) (l12 : List Int) (u12 : Hd) (h13 : AHeap) (hp13 : Heapy h h13 ([⟨u6_0, 27, 1, List.flatMap encH u6_0h⟩, ⟨u12, 3, 1, List.flatMap enc3 l12⟩] ++ NIn 3 1 enc3 u6_0h y5.1)) (a17 : Int) (a18 : Int) (o : (Int × Int) ⊕ Int) : F23_s1 l4 y5 a11 a17 a18 = some o → RdF Try.prog (codeOf Try.prog 23 [1, 1, 1, 1, 0, 1, 0, 0, 1, 1, 0, 0, 1, 1, 0, 1, 0, 0]) (fun (s : Int × Int) => (F23_h1 v4 y5 u6_0 a11 u12 h13 s.1 s.2)) (F23_x1 v4 y5 u6_0 a11 u12 h13) (F23_h1 v4 y5 u6_0 a11 u12 h13 a17 a18) o := by
  unfold F23_s1
  refine dec_bif (fun c19 => ?_) (fun c19 => ?_)
  · refine bind_opt fun y20 e20 => ?_
    obtain ⟨id20, off20, g20, cs20, ix20, _, _⟩ := SlE.at (Heapy.sle (v := u6_0) (xs := u6_0h) (enc := encH) hp13 0 rfl (fun _ => rfl) (by decide)) (Heapy.niat (A := [⟨u6_0, 27, 1, List.flatMap encH u6_0h⟩, ⟨u12, 3, 1, List.flatMap enc3 l12⟩]) (hs := u6_0h) (xss := y5.1) hp13 e20)
    have at21 : At h13 id20 off20 g20 (encH (hnth u6_0h a11)) := (SlE.atp (Heapy.sle (v := u6_0) (xs := u6_0h) (enc := encH) hp13 0 rfl (fun _ => rfl) (by decide)) ix20 (Heapy.niat (A := [⟨u6_0, 27, 1, List.flatMap encH u6_0h⟩, ⟨u12, 3, 1, List.flatMap enc3 l12⟩]) (hs := u6_0h) (xss := y5.1) hp13 e20)).elim fun cs k => by obtain ⟨k1, rfl⟩ := k; exact k1
    refine bind_opt fun y22 e22 => ?_
    obtain ⟨id22, off22, g22, cs22, ix22, at22, rfl⟩ := SlE.at (Heapy.nisle (A := [⟨u6_0, 27, 1, List.flatMap encH u6_0h⟩, ⟨u12, 3, 1, List.flatMap enc3 l12⟩]) (el := 3) (c := 1) (enc := enc3) (hs := u6_0h) (xss := y5.1) hp13 e20 (fun _ => rfl) (by decide)) e22
    refine dec_bif (fun c23 => ?_) (fun c23 => ?_)
    · have at24 : At h13 id20 off20 g20 (encH (hnth u6_0h a11)) := (SlE.atp (Heapy.sle (v := u6_0) (xs := u6_0h) (enc := encH) hp13 0 rfl (fun _ => rfl) (by decide)) ix20 (Heapy.niat (A := [⟨u6_0, 27, 1, List.flatMap encH u6_0h⟩, ⟨u12, 3, 1, List.flatMap enc3 l12⟩]) (hs := u6_0h) (xss := y5.1) hp13 e20)).elim fun cs k => by obtain ⟨k1, rfl⟩ := k; exact k1
      refine bind_opt fun y25 e25 => ?_
      intro hr
      obtain rfl := Option.some.inj hr
      show AWp Try.prog _ (Ends1 .normal (F23_h1 v4 y5 u6_0 a11 u12 h13 (if (IntKind.i64.wrap (y25 - y22)) < a17 then (IntKind.i64.wrap (y25 - y22)) else a17) (IntKind.i64.wrap (a18 + 1)))) _
      exact pEnd_sound good (L := F23_L) (D := F23_D) (its := [.g, (.b true), .g, .g, .g, .g, (.ix id20 off20 g20), (.ld ((sv (hnth u6_0h a11)))), .g, (.ix id22 off22 g22), (.ld (.int .i64 y22)), .g, (.b true), .g, .g, .g, .g, .g, (.ix id20 off20 g20), .g, (.ld ((sv (hnth u6_0h a11)))), (.ix id22 off22 g22), (.ld (.int .i64 y22)), (.c (.int .i64 y25) h13), .g, .g, .g, .g, .g]) (ds := F23_m1_0) (ks := []) (e := .normal) (s2 := (F23_h1 v4 y5 u6_0 a11 u12 h13 (if (IntKind.i64.wrap (y25 - y22)) < a17 then (IntKind.i64.wrap (y25 - y22)) else a17) (IntKind.i64.wrap (a18 + 1)))) (hC := (ai (show AKeep h13 h13 from (AHeap.sub_refl h13)) (ai (F45_spec l4 a18 v4 h13 (SlE.mono hv4 (Heapy.sub hp13) (E3_mono (Heapy.sub hp13))) _ e25) (ai (At.one (P := Try.prog) (t := 3) (v := .int .i64 y22) at22 (by kernel_rfl) 0 rfl rfl) (ai ix22 (ai (At.one (P := Try.prog) (t := 27) (v := (sv (hnth u6_0h a11))) at24 (by kernel_rfl) 0 rfl rfl) (ai ix20 (ai c23 (ai (At.one (P := Try.prog) (t := 3) (v := .int .i64 y22) at22 (by kernel_rfl) 0 rfl rfl) (ai ix22 (ai (At.one (P := Try.prog) (t := 27) (v := (sv (hnth u6_0h a11))) at21 (by kernel_rfl) 0 rfl rfl) (ai ix20 (ai c19 trivial))))))))))))) (hd := F23_d1) (h := by kernel_rfl)
    · intro hr
      obtain rfl := Option.some.inj hr
      show AWp Try.prog _ (Ends1 .normal (F23_h1 v4 y5 u6_0 a11 u12 h13 a17 (IntKind.i64.wrap (a18 + 1)))) _
      exact pEnd_sound good (L := F23_L) (D := F23_D) (its := [.g, (.b true), .g, .g, .g, .g, (.ix id20 off20 g20), (.ld ((sv (hnth u6_0h a11)))), .g, (.ix id22 off22 g22), (.ld (.int .i64 y22)), .g, (.b false), .g, .g]) (ds := F23_m1_0) (ks := []) (e := .normal) (s2 := (F23_h1 v4 y5 u6_0 a11 u12 h13 a17 (IntKind.i64.wrap (a18 + 1)))) (hC := (ai c23 (ai (At.one (P := Try.prog) (t := 3) (v := .int .i64 y22) at22 (by kernel_rfl) 0 rfl rfl) (ai ix22 (ai (At.one (P := Try.prog) (t := 27) (v := (sv (hnth u6_0h a11))) at21 (by kernel_rfl) 0 rfl rfl) (ai ix20 (ai c19 trivial))))))) (hd := F23_d1) (h := by kernel_rfl)
  · intro hr
    obtain rfl := Option.some.inj hr
    show AWp Try.prog _ (Ends1 ((F23_x1 v4 y5 u6_0 a11 u12 h13) (a17 : Int)).1 ((F23_x1 v4 y5 u6_0 a11 u12 h13) (a17 : Int)).2) _
    exact pEnd_sound good (L := F23_L) (D := F23_D) (its := [.g, (.b false)]) (ds := F23_m1_1) (ks := []) (e := ((F23_x1 v4 y5 u6_0 a11 u12 h13) (a17 : Int)).1) (s2 := ((F23_x1 v4 y5 u6_0 a11 u12 h13) (a17 : Int)).2) (hC := (ai c19 trivial)) (hd := F23_d1) (h := by kernel_rfl)
theorem F23_l1_0 (h : AHeap) (l4 : List Int) (v4 : Hd) (hv4 : SlE E3 1 h (sv v4) l4) (y5 : (List (List Int)) × Bool) (u6_0 : Hd) (u6_0h : List Hd) (a11 : Int) (l12 : List Int) (u12 : Hd) (h13 : AHeap) (hp13 : Heapy h h13 ([⟨u6_0, 27, 1, List.flatMap encH u6_0h⟩, ⟨u12, 3, 1, List.flatMap enc3 l12⟩] ++ NIn 3 1 enc3 u6_0h y5.1)) (x : Int × Int) (r : Int) (hl : loopO (fun (s : Int × Int) => F23_s1 l4 y5 a11 s.1 s.2) x = some r) : AWp Try.prog (.loop (codeOf Try.prog 23 [1, 1, 1, 1, 0, 1, 0, 0, 1, 1, 0, 0, 1, 1, 0, 1, 0, 0])) (Ends1 (.exit 2) (F23_x1_0 v4 y5 u6_0 a11 u12 h13 r)) ((fun (s : Int × Int) => (F23_h1 v4 y5 u6_0 a11 u12 h13 s.1 s.2)) x) := by
  have k := loop_fun (P := Try.prog) (c := (codeOf Try.prog 23 [1, 1, 1, 1, 0, 1, 0, 0, 1, 1, 0, 0, 1, 1, 0, 1, 0, 0])) (step := (fun (s : Int × Int) => F23_s1 l4 y5 a11 s.1 s.2)) (hd := (fun (s : Int × Int) => (F23_h1 v4 y5 u6_0 a11 u12 h13 s.1 s.2))) (X := (F23_x1 v4 y5 u6_0 a11 u12 h13)) (by intro t; unfold F23_x1; intro h; cases h) (fun x => F23_r1 h l4 v4 hv4 y5 u6_0 u6_0h a11 l12 u12 h13 hp13 x.1 x.2) hl
  exact k
def F23_m2_1 : List Bool := [true, true, true, true, true, true, true, true, true, true, true, true, false, true, true, true, true, true, true, true, true, true, true, true, true, true, true, true, true, true, true, true, true, true, true, true, true, true, true, true, true, true, true, true, true, true, true, true, true, true, true, true, true, true, true, true, true, true, true, true, true, true, true, true, true, true]
def F23_m2_0 : List Bool := [true, true, true, false, true, true, true, true, true, true, false, true, false, true, true, true, true, true, true, true, true, true, true, true, true, true, false, false, true, true, true, true, true, true, true, true, true, true, true, true, true, true, true, true, true, true, true, true, true, true, true, true, true, true, true, true, true, true, true, true, true, true, true, true, true, true]
def F23_s2 (l4 : List Int) (y5 : (List (List Int)) × Bool) (a11 : Int) (l12 : List Int) : Option ((Int × (List Int)) ⊕ (List Int)) :=
  (bif decide (a11 < (y5.1.length : Int)) then
   (Option.bind (F45 l4 a11) fun y15 =>
   (Option.bind (loopO (fun (s : Int × Int) => F23_s1 l4 y5 a11 s.1 s.2) (y15, 0)) fun y27 =>
   (bif (!(okApp (l12.length + ([y27] : List Int).length) 8)) then none else
   some (.inl ((IntKind.i64.wrap (a11 + 1)), (l12 ++ ([y27] : List Int)))))))
  else
   some (.inr l12))
def F23_h2 (v4 : Hd) (y5 : (List (List Int)) × Bool) (u6_0 : Hd) (h13 : AHeap) (u12 : Hd) (a11 : Int) (l12 : List Int) : AS := ⟨[junk, junk, junk, (sv v4), junk, junk, junk, junk, junk, junk, (sv u6_0), junk, (sv u12), junk, junk, junk, junk, junk, junk, junk, junk, junk, junk, junk, junk, junk, .int .i64 (y5.1.length : Int), .int .i64 a11, junk, junk, junk, junk, junk, junk, junk, junk, junk, junk, junk, junk, junk, junk, junk, junk, junk, junk, junk, junk, junk, junk, junk, junk, junk, junk, junk, junk, junk, junk, junk, junk, junk, junk, junk, junk, junk, junk], [], h13⟩
theorem F23_d2 : drawsOk F23_D (codeOf Try.prog 23 [1, 1, 1, 1, 0, 1, 0, 0]) = true := by kernel_rfl
def F23_x2_0 (h : AHeap) (hx : AHeap) (w0 : Hd) (r : (List Int)) : AS := ⟨[junk, junk, junk, junk, junk, junk, junk, junk, junk, junk, junk, junk, (sv w0), junk, junk, junk, junk, junk, junk, junk, junk, junk, junk, junk, junk, junk, junk, junk, junk, junk, junk, junk, junk, junk, junk, junk, junk, junk, junk, junk, junk, junk, junk, junk, junk, junk, junk, junk, junk, junk, junk, junk, junk, junk, junk, junk, junk, junk, junk, junk, junk, junk, junk, junk, junk, junk], [], hx⟩
def F23_i2 (h : AHeap) (v4 : Hd) (y5 : (List (List Int)) × Bool) (u6_0 : Hd) (u6_0h : List Hd) (s : Int × (List Int)) (S : AS) : Prop := ∃ (h13 : AHeap) (u12 : Hd), Heapy h h13 ([⟨u6_0, 27, 1, List.flatMap encH u6_0h⟩, ⟨u12, 3, 1, List.flatMap enc3 s.2⟩] ++ NIn 3 1 enc3 u6_0h y5.1) ∧ Strict u12 ∧ S = (F23_h2 v4 y5 u6_0 h13 u12 s.1 s.2)
def F23_x2 (h : AHeap) (r : (List Int)) (e : Exit) (S : AS) : Prop := e = (.exit 0) ∧ ∃ (hx : AHeap) (w0 : Hd), Heapy h hx [⟨w0, 3, 1, List.flatMap enc3 r⟩] ∧ Strict w0 ∧ S = (F23_x2_0 h hx w0 r)
set_option maxRecDepth 100000 in
theorem F23_r2 (h : AHeap) (l4 : List Int) (v4 : Hd) (hv4 : SlE E3 1 h (sv v4) l4) (y5 : (List (List Int)) × Bool) (u6_0 : Hd) (u6_0h : List Hd) (a11 : Int) (l12 : List Int) (S : AS) (hI : (F23_i2 h v4 y5 u6_0 u6_0h) (a11, l12) S) (o : (Int × (List Int)) ⊕ (List Int)) : F23_s2 l4 y5 a11 l12 = some o → Rd Try.prog (codeOf Try.prog 23 [1, 1, 1, 1, 0, 1, 0, 0]) (F23_i2 h v4 y5 u6_0 u6_0h) (F23_x2 h) S o := by
  obtain ⟨h13, u12, hp13, z12, rfl⟩ := hI
  unfold F23_s2
  refine dec_bif (fun c14 => ?_) (fun c14 => ?_)
  · refine bind_opt fun y15 e15 => ?_
    refine bind_opt fun y27 e27 => ?_
    obtain ⟨v28, h28, m28, hp28, _⟩ := Heapy.build (P := Try.prog) hp13 (t := 27) (e := 3) (len := 1) (n := 1) (parts := [(0, .int .i64 y27)]) (cells := List.flatMap enc3 ([y27] : List Int)) (by kernel_rfl) rfl
    refine guard_ok fun g30 => ?_
    obtain ⟨v31, h31, m31, q31, _, w31⟩ := Heapy.append hp28 (show mkInfo Try.prog 27 = some (3, 1, 8, [.int .i64 0]) by kernel_rfl) 2 (v := u12) (cells := List.flatMap enc3 l12) rfl (Y := (sv v28)) (SlE.src (enc := enc3) (c := 1) (Heapy.sle (v := v28) (xs := ([y27] : List Int)) (enc := enc3) hp28 0 rfl (fun _ => rfl) (by decide)) (fun _ => rfl)) (flatMap_length (enc := enc3) (c := 1) (fun _ => rfl) _) (by rw [Heapy.vn (v := u12) (xs := l12) (enc := enc3) hp28 2 rfl (fun _ => rfl) (by decide)]; simpa using g30)
    have z31 : Strict v31 := w31 z12
    have hp31 : Heapy h h31 ([⟨v28, 3, 1, List.flatMap enc3 ([y27] : List Int)⟩, ⟨u6_0, 27, 1, List.flatMap encH u6_0h⟩, ⟨v31, 3, 1, List.flatMap enc3 (l12 ++ ([y27] : List Int))⟩] ++ NIn 3 1 enc3 u6_0h y5.1) := by rw [← List.flatMap_append] at q31; exact q31
    intro hr
    obtain rfl := Option.some.inj hr
    exact ⟨(F23_h2 v4 y5 u6_0 h31 v31 (IntKind.i64.wrap (a11 + 1)) (l12 ++ ([y27] : List Int))), ⟨h31, v31, (Heapy.pickN2 (A := [⟨v28, 3, 1, List.flatMap enc3 ([y27] : List Int)⟩, ⟨u6_0, 27, 1, List.flatMap encH u6_0h⟩, ⟨v31, 3, 1, List.flatMap enc3 (l12 ++ ([y27] : List Int))⟩]) (N := NIn 3 1 enc3 u6_0h y5.1) hp31 3 rfl [1, 2] (by decide) rfl), z31, rfl⟩, pEnd_sound good (L := F23_L) (D := F23_D) (its := [.g, (.b true), .g, .g, .g, .g, (.c (.int .i64 y15) h13), .g, .g, (.ln y5.1.length), .g, (.l F23_m1_0 [] (.exit 2) (F23_x1_0 v4 y5 u6_0 a11 u12 h13 y27)), .g, .g, (.mm (sv v28) h28), (.mm (sv v31) h31), .g, .g, .g]) (ds := F23_m2_0) (ks := []) (e := .normal) (s2 := (F23_h2 v4 y5 u6_0 h31 v31 (IntKind.i64.wrap (a11 + 1)) (l12 ++ ([y27] : List Int)))) (hC := (ai m31 (ai m28 (ai (F23_l1_0 h l4 v4 hv4 y5 u6_0 u6_0h a11 l12 u12 h13 hp13 (y15, 0) y27 e27) (ai (Heapy.nivn (A := [⟨u6_0, 27, 1, List.flatMap encH u6_0h⟩, ⟨u12, 3, 1, List.flatMap enc3 l12⟩]) (hs := u6_0h) (xss := y5.1) (eo := 27) hp13 0 rfl) (ai (F45_spec l4 a11 v4 h13 (SlE.mono hv4 (Heapy.sub hp13) (E3_mono (Heapy.sub hp13))) _ e15) (ai c14 trivial))))))) (hd := F23_d2) (h := by kernel_rfl)⟩
  · intro hr
    obtain rfl := Option.some.inj hr
    refine ⟨(.exit 0), (F23_x2_0 h h13 u12 (l12 : (List Int))), (by intro hh; cases hh), ?_, pEnd_sound good (L := F23_L) (D := F23_D) (its := [.g, (.b false)]) (ds := F23_m2_1) (ks := []) (e := (.exit 0)) (s2 := (F23_x2_0 h h13 u12 (l12 : (List Int)))) (hC := (ai c14 trivial)) (hd := F23_d2) (h := by kernel_rfl)⟩
    exact ⟨rfl, h13, u12, (Heapy.pick (Heapy.head (A := [⟨u6_0, 27, 1, List.flatMap encH u6_0h⟩, ⟨u12, 3, 1, List.flatMap enc3 l12⟩]) (N := NIn 3 1 enc3 u6_0h y5.1) hp13) [1] (by decide)), z12, rfl⟩
theorem F23_l2 (h : AHeap) (l4 : List Int) (v4 : Hd) (hv4 : SlE E3 1 h (sv v4) l4) (y5 : (List (List Int)) × Bool) (u6_0 : Hd) (u6_0h : List Hd) (x : Int × (List Int)) (r : (List Int)) (hl : loopO (fun (s : Int × (List Int)) => F23_s2 l4 y5 s.1 s.2) x = some r) (S : AS) (hI : (F23_i2 h v4 y5 u6_0 u6_0h) x S) : ∃ e S', (F23_x2 h) r e S' ∧ AWp Try.prog (.loop (codeOf Try.prog 23 [1, 1, 1, 1, 0, 1, 0, 0])) (Ends1 e S') S :=
  loop_rel (fun x S hI => F23_r2 h l4 v4 hv4 y5 u6_0 u6_0h x.1 x.2 S hI) hl hI
def F23 (x1 : Int) (l2 : List (Int × Int × Int × Int)) (x3 : Int) (l4 : List Int) : Option ((List Int) × Bool) :=
  (Option.bind (F44 x1 l2 x3) fun y5 =>
  (bif (!y5.2) then
   some ([], false)
  else
   (Option.bind (loopO (fun (s : Int × (List Int)) => F23_s2 l4 y5 s.1 s.2) (0, ([] : List Int))) fun y33 =>
   some (y33, true))))
set_option maxRecDepth 100000 in
theorem F23_spec (x1 : Int) (l2 : List (Int × Int × Int × Int)) (x3 : Int) (l4 : List Int) (v2 : Hd) (v4 : Hd) (h : AHeap) (hw : h.wf) (hv2 : SlE E81 4 h (sv v2) l2) (hv4 : SlE E3 1 h (sv v4) l4) (r : (List Int) × Bool) : F23 x1 l2 x3 l4 = some r → ∃ (ur0 : Hd) (h' : AHeap), Heapy h h' [⟨ur0, 3, 1, List.flatMap enc3 r.1⟩] ∧ Strict ur0 ∧ ACalls Try.prog 23 [.int .i64 x1, (sv v2), .int .i64 x3, (sv v4)] h (fun v' h'' => v' = (.tuple #[(sv ur0), .bool r.2] : Value) ∧ h'' = h') := by
  unfold F23
  refine bind_opt fun y5 e5 => ?_
  obtain ⟨u6_0, u6_0h, h6, q6, c6⟩ := F44_spec x1 l2 x3 v2 h hw hv2 _ e5
  have hp6 : Heapy h h6 ([⟨u6_0, 27, 1, List.flatMap encH u6_0h⟩] ++ NIn 3 1 enc3 u6_0h y5.1) := Heapy.callN (Heapy.refl hw) q6
  refine dec_bif (fun c8 => ?_) (fun c8 => ?_)
  · intro hr
    obtain rfl := Option.some.inj hr
    exact ⟨⟨none, 0, 0⟩, h6, Heapy.pick (Heapy.nil (Heapy.head (A := [⟨u6_0, 27, 1, List.flatMap encH u6_0h⟩]) (N := NIn 3 1 enc3 u6_0h y5.1) hp6) 3 1) [0] (by decide), Strict.nil, pFun_sound good tab_ok (f := 23) (its := [.g, .g, .g, .g, .g, (.c (.tuple #[(sv u6_0), .bool y5.2]) h6), .g, .g, .g, .g, .g, .g, .g, (.b true), .g, .g]) (args := [.int .i64 x1, (sv v2), .int .i64 x3, (sv v4)]) (h := h) (h' := h6) (v := .tuple #[.slice none 0 0, .bool false]) (hC := (ai c8 (ai c6 trivial))) (hr := by kernel_rfl)⟩
  · refine bind_opt fun y33 e33 => ?_
    have hp9 : Heapy h h6 ([⟨⟨none, 0, 0⟩, 3, 1, List.flatMap enc3 ([] : List Int)⟩, ⟨u6_0, 27, 1, List.flatMap encH u6_0h⟩] ++ NIn 3 1 enc3 u6_0h y5.1) := Heapy.nil hp6 3 1
    obtain ⟨ee33, SS33, hX33, hA33⟩ := F23_l2 h l4 v4 hv4 y5 u6_0 u6_0h (0, ([] : List Int)) y33 e33 (F23_h2 v4 y5 u6_0 h6 ⟨none, 0, 0⟩ 0 ([] : List Int)) ⟨h6, ⟨none, 0, 0⟩, (Heapy.pickN2 (A := [⟨⟨none, 0, 0⟩, 3, 1, List.flatMap enc3 ([] : List Int)⟩, ⟨u6_0, 27, 1, List.flatMap encH u6_0h⟩]) (N := NIn 3 1 enc3 u6_0h y5.1) hp9 2 rfl [1, 0] (by decide) rfl), Strict.nil, rfl⟩
    obtain ⟨rfl, h34, w0_34, hp34, zw0_34, rfl⟩ := hX33
    intro hr
    obtain rfl := Option.some.inj hr
    exact ⟨w0_34, h34, Heapy.pick hp34 [0] (by decide), zw0_34, pFun_sound good tab_ok (f := 23) (its := [.g, .g, .g, .g, .g, (.c (.tuple #[(sv u6_0), .bool y5.2]) h6), .g, .g, .g, .g, .g, .g, .g, (.b false), .g, .g, (.ln y5.1.length), .g, (.l F23_m2_0 [] (.exit 0) (F23_x2_0 h h34 w0_34 y33)), .g, .g, .g]) (args := [.int .i64 x1, (sv v2), .int .i64 x3, (sv v4)]) (h := h) (h' := h34) (v := .tuple #[(sv w0_34), .bool true]) (hC := (ai hA33 (ai (Heapy.nivn (A := [⟨u6_0, 27, 1, List.flatMap encH u6_0h⟩]) (hs := u6_0h) (xss := y5.1) (eo := 27) hp6 0 rfl) (ai c8 (ai c6 trivial))))) (hr := by kernel_rfl)⟩
/-! 6 jacquard/jacquardlaw30.DiffconsLatest -/
def F6 (x1 : Int) (l2 : List (Int × Int × Int × Int)) (x3 : Int) (l4 : List Int) : Option (Bool) :=
  (bif (!(F16 x1 l2 x3)) then
   some (true)
  else
   (bif decide ((l4.length : Int) > 30) then
    some (true)
   else
    (Option.bind (F22 x1 l2 x3 l4) fun y11 =>
    (Option.bind (F23 x1 l2 x3 l4) fun y15 =>
    (bif (!y15.2) then
     (Option.bind (F19 x1 l2 x3 y11.1 y11.2) fun y19 =>
     some (y19))
    else
     (Option.bind (F20 y11.1 y15.1) fun y21 =>
     (bif y21 then
      some ((y11.2.length : Int) == 0)
     else
      some (false))))))))
set_option maxRecDepth 100000 in
theorem F6_spec (x1 : Int) (l2 : List (Int × Int × Int × Int)) (x3 : Int) (l4 : List Int) (v2 : Hd) (v4 : Hd) (h : AHeap) (hw : h.wf) (hv2 : SlE E81 4 h (sv v2) l2) (hv4 : SlE E3 1 h (sv v4) l4) (r : Bool) : F6 x1 l2 x3 l4 = some r → ∃ (h' : AHeap), Heapy h h' [] ∧ ACalls Try.prog 6 [.agg #[.int .i64 x1, (sv v2), .int .i64 x3], (sv v4)] h (fun v' h'' => v' = (.bool r : Value) ∧ h'' = h') := by
  unfold F6
  refine dec_bif (fun c7 => ?_) (fun c7 => ?_)
  · intro hr
    obtain rfl := Option.some.inj hr
    exact ⟨h, Heapy.pick (Heapy.refl hw) [] (by decide), pFun_sound good tab_ok (f := 6) (its := [.g, .g, (.c (.bool true) h), .g, .g, (.w .g), (.w (.c (.bool (F16 x1 l2 x3)) h)), (.w .g), .g, .g, .n, .n, .n, (.p true), (.b true), (.c (.bool true) h), .g]) (args := [.agg #[.int .i64 x1, (sv v2), .int .i64 x3], (sv v4)]) (h := h) (h' := h) (v := .bool true) (hC := (ai (F15_spec h _ rfl) (ai l_t (ai c7 (ai (g_tf c7) (ai (g_tf c7) (ai (g_tf c7) (ai (g_ff l_f) (ai (F16_spec x1 l2 x3 v2 h hv2 _ rfl) (ai (g_ff l_f) (ai (g_ff l_f) (ai (F15_spec h _ rfl) trivial)))))))))))) (hr := by kernel_rfl)⟩
  · refine dec_bif (fun c9 => ?_) (fun c9 => ?_)
    · intro hr
      obtain rfl := Option.some.inj hr
      exact ⟨h, Heapy.pick (Heapy.refl hw) [] (by decide), pFun_sound good tab_ok (f := 6) (its := [.g, .g, (.c (.bool true) h), .g, .g, (.w .g), (.w (.c (.bool (F16 x1 l2 x3)) h)), (.w .g), .g, .g, (.w .g), (.w (.ln l4.length)), (.w .g), (.p false), (.b true), (.c (.bool true) h), .g]) (args := [.agg #[.int .i64 x1, (sv v2), .int .i64 x3], (sv v4)]) (h := h) (h' := h) (v := .bool true) (hC := (ai (F15_spec h _ rfl) (ai c9 (ai c7 (ai (g_ff c7) (ai (SlE.len hv4) (ai (g_ff c7) (ai (g_ff c7) (ai (g_ff l_f) (ai (F16_spec x1 l2 x3 v2 h hv2 _ rfl) (ai (g_ff l_f) (ai (g_ff l_f) (ai (F15_spec h _ rfl) trivial))))))))))))) (hr := by kernel_rfl)⟩
    · refine bind_opt fun y11 e11 => ?_
      obtain ⟨u12_0, u12_1, h12, q12, zu12_1, c12⟩ := F22_spec x1 l2 x3 l4 v2 v4 h hw hv2 hv4 _ e11
      have hp12 : Heapy h h12 [⟨u12_0, 3, 1, List.flatMap enc3 y11.1⟩, ⟨u12_1, 3, 1, List.flatMap enc3 y11.2⟩] := Heapy.call (Heapy.refl hw) q12
      refine bind_opt fun y15 e15 => ?_
      obtain ⟨u16_0, h16, q16, zu16_0, c16⟩ := F23_spec x1 l2 x3 l4 v2 v4 h12 (Heapy.wf hp12) (SlE.mono hv2 (Heapy.sub hp12) (E81_mono (Heapy.sub hp12))) (SlE.mono hv4 (Heapy.sub hp12) (E3_mono (Heapy.sub hp12))) _ e15
      have hp16 : Heapy h h16 [⟨u16_0, 3, 1, List.flatMap enc3 y15.1⟩, ⟨u12_0, 3, 1, List.flatMap enc3 y11.1⟩, ⟨u12_1, 3, 1, List.flatMap enc3 y11.2⟩] := Heapy.call hp12 q16
      refine dec_bif (fun c18 => ?_) (fun c18 => ?_)
      · refine bind_opt fun y19 e19 => ?_
        obtain ⟨h20, q20, c20⟩ := F19_spec x1 l2 x3 y11.1 y11.2 v2 u12_0 u12_1 h16 (Heapy.wf hp16) (SlE.mono hv2 (Heapy.sub hp16) (E81_mono (Heapy.sub hp16))) (Heapy.sle (v := u12_0) (xs := y11.1) (enc := enc3) hp16 1 rfl (fun _ => rfl) (by decide)) (Heapy.sle (v := u12_1) (xs := y11.2) (enc := enc3) hp16 2 rfl (fun _ => rfl) (by decide)) _ e19
        have hp20 : Heapy h h20 [⟨u16_0, 3, 1, List.flatMap enc3 y15.1⟩, ⟨u12_0, 3, 1, List.flatMap enc3 y11.1⟩, ⟨u12_1, 3, 1, List.flatMap enc3 y11.2⟩] := Heapy.call hp16 q20
        intro hr
        obtain rfl := Option.some.inj hr
        exact ⟨h20, Heapy.pick hp20 [] (by decide), pFun_sound good tab_ok (f := 6) (its := [.g, .g, (.c (.bool true) h), .g, .g, (.w .g), (.w (.c (.bool (F16 x1 l2 x3)) h)), (.w .g), .g, .g, (.w .g), (.w (.ln l4.length)), (.w .g), (.p false), (.b false), .g, .g, .g, .g, .g, .g, .g, (.c (.tuple #[(sv u12_0), (sv u12_1)]) h12), .g, .g, .g, .g, .g, .g, .g, .g, .g, .g, .g, .g, (.c (.tuple #[(sv u16_0), .bool y15.2]) h16), .g, .g, .g, .g, .g, .g, .g, (.b true), .g, .g, .g, (.c (.bool y19) h20), .g]) (args := [.agg #[.int .i64 x1, (sv v2), .int .i64 x3], (sv v4)]) (h := h) (h' := h20) (v := .bool y19) (hC := (ai c20 (ai c18 (ai c16 (ai c12 (ai c9 (ai c7 (ai (g_ff c7) (ai (SlE.len hv4) (ai (g_ff c7) (ai (g_ff c7) (ai (g_ff l_f) (ai (F16_spec x1 l2 x3 v2 h hv2 _ rfl) (ai (g_ff l_f) (ai (g_ff l_f) (ai (F15_spec h _ rfl) trivial)))))))))))))))) (hr := by kernel_rfl)⟩
      · refine bind_opt fun y21 e21 => ?_
        refine dec_bif (fun c23 => ?_) (fun c23 => ?_)
        · intro hr
          obtain rfl := Option.some.inj hr
          exact ⟨h16, Heapy.pick hp16 [] (by decide), pFun_sound good tab_ok (f := 6) (its := [.g, .g, (.c (.bool true) h), .g, .g, (.w .g), (.w (.c (.bool (F16 x1 l2 x3)) h)), (.w .g), .g, .g, (.w .g), (.w (.ln l4.length)), (.w .g), (.p false), (.b false), .g, .g, .g, .g, .g, .g, .g, (.c (.tuple #[(sv u12_0), (sv u12_1)]) h12), .g, .g, .g, .g, .g, .g, .g, .g, .g, .g, .g, .g, (.c (.tuple #[(sv u16_0), .bool y15.2]) h16), .g, .g, .g, .g, .g, .g, .g, (.b false), .g, .g, (.c (.bool y21) h16), .g, (.w .g), (.w (.ln y11.2.length)), (.w .g), (.p true), .g]) (args := [.agg #[.int .i64 x1, (sv v2), .int .i64 x3], (sv v4)]) (h := h) (h' := h16) (v := .bool ((y11.2.length : Int) == 0)) (hC := (ai c23 (ai (g_tt c23) (ai (SlE.len (Heapy.sle (v := u12_1) (xs := y11.2) (enc := enc3) hp16 2 rfl (fun _ => rfl) (by decide))) (ai (g_tt c23) (ai (g_tt c23) (ai (F20_spec y11.1 y15.1 u12_0 u16_0 h16 (Heapy.sle (v := u12_0) (xs := y11.1) (enc := enc3) hp16 1 rfl (fun _ => rfl) (by decide)) (Heapy.sle (v := u16_0) (xs := y15.1) (enc := enc3) hp16 0 rfl (fun _ => rfl) (by decide)) _ e21) (ai c18 (ai c16 (ai c12 (ai c9 (ai c7 (ai (g_ff c7) (ai (SlE.len hv4) (ai (g_ff c7) (ai (g_ff c7) (ai (g_ff l_f) (ai (F16_spec x1 l2 x3 v2 h hv2 _ rfl) (ai (g_ff l_f) (ai (g_ff l_f) (ai (F15_spec h _ rfl) trivial))))))))))))))))))))) (hr := by kernel_rfl)⟩
        · intro hr
          obtain rfl := Option.some.inj hr
          exact ⟨h16, Heapy.pick hp16 [] (by decide), pFun_sound good tab_ok (f := 6) (its := [.g, .g, (.c (.bool true) h), .g, .g, (.w .g), (.w (.c (.bool (F16 x1 l2 x3)) h)), (.w .g), .g, .g, (.w .g), (.w (.ln l4.length)), (.w .g), (.p false), (.b false), .g, .g, .g, .g, .g, .g, .g, (.c (.tuple #[(sv u12_0), (sv u12_1)]) h12), .g, .g, .g, .g, .g, .g, .g, .g, .g, .g, .g, .g, (.c (.tuple #[(sv u16_0), .bool y15.2]) h16), .g, .g, .g, .g, .g, .g, .g, (.b false), .g, .g, (.c (.bool y21) h16), .g, .n, .n, .n, (.p false), .g]) (args := [.agg #[.int .i64 x1, (sv v2), .int .i64 x3], (sv v4)]) (h := h) (h' := h16) (v := .bool false) (hC := (ai c23 (ai (g_ft c23) (ai (g_ft c23) (ai (g_ft c23) (ai (F20_spec y11.1 y15.1 u12_0 u16_0 h16 (Heapy.sle (v := u12_0) (xs := y11.1) (enc := enc3) hp16 1 rfl (fun _ => rfl) (by decide)) (Heapy.sle (v := u16_0) (xs := y15.1) (enc := enc3) hp16 0 rfl (fun _ => rfl) (by decide)) _ e21) (ai c18 (ai c16 (ai c12 (ai c9 (ai c7 (ai (g_ff c7) (ai (SlE.len hv4) (ai (g_ff c7) (ai (g_ff c7) (ai (g_ff l_f) (ai (F16_spec x1 l2 x3 v2 h hv2 _ rfl) (ai (g_ff l_f) (ai (g_ff l_f) (ai (F15_spec h _ rfl) trivial)))))))))))))))))))) (hr := by kernel_rfl)⟩
set_option maxRecDepth 100000 in
theorem F6_law (H : ∀ (x1 : Int) (l2 : List (Int × Int × Int × Int)) (x3 : Int) (l4 : List Int), (Lit.int .i64 x1).wf = true → (l2.length ≤ maxLen ∧ l2.length * 32 ≤ reachBytes) → (∀ y ∈ l2, W81 y) → (Lit.int .i64 x3).wf = true → (l4.length ≤ maxLen ∧ l4.length * 8 ≤ reachBytes) → (∀ y ∈ l4, W3 y) → F6 x1 l2 x3 l4 = some true) : Law Try.prog 6 10 [42, 27] := by
  intro s us hwf hro hT0
  obtain ⟨u0, vs0, rfl, t0, hT1⟩ := wts_cons hT0
  obtain ⟨cs0, rfl, k0⟩ := wtv_aggS 4 (ks := [.int .i64, .slice 81, .int .i64]) (by kernel_rfl) (by kernel_rfl) t0
  obtain ⟨x1, r_x1, rfl, w_x1, k0_0⟩ := sq_int k0
  obtain ⟨v2, r_l2, rfl, q_l2, k0_1⟩ := sq_slice k0_0
  obtain ⟨l2, a_l2, m_l2, w_l2⟩ := q_l2 E81 W81 4 (by kernel_rfl) fun n cs H => E81_wt H
  obtain ⟨x3, r_x3, rfl, w_x3, k0_2⟩ := sq_int k0_1
  obtain rfl := sq_nil k0_2
  obtain ⟨u1, vs1, rfl, t1, hT2⟩ := wts_cons hT1
  have k1 := wtv_oneS 2 (ks := [.slice 3]) (by kernel_rfl) (by kernel_rfl) t1
  obtain ⟨v4, r_l4, e_l4, q_l4, k1_0⟩ := sq_slice k1
  obtain ⟨l4, a_l4, m_l4, w_l4⟩ := q_l4 E3 W3 1 (by kernel_rfl) fun n cs H => E3_wt H
  obtain ⟨rfl, rfl⟩ := List.cons.inj e_l4
  have k1_0' := sq_nil k1_0
  obtain rfl := wts_nil hT2
  obtain ⟨h2, _, hc⟩ := F6_spec x1 l2 x3 l4 v2 v4 s hwf a_l2 a_l4 _ (H x1 l2 x3 l4 w_x1 m_l2 w_l2 w_x3 m_l4 w_l4)
  refine (hc).mono ?_
  rintro v h' ⟨rfl, rfl⟩
  rfl
end
end Go.Proofs.Ytmncgnjginibiaa.Abs
