/-
  Contracts, written by program: for each function what its call yields, and that it yields it.
-/
import Derived.Test.YtmncgnjginibiaaSut
namespace Go.Proofs.Ytmncgnjginibiaa.Abs
open Go
set_option linter.unusedVariables false
set_option linter.unusedSimpArgs false

noncomputable section
def enc81 (x : Int × Int × Int × Int) : List Value := [.int .i64 x.1, .int .i64 x.2.1, .int .i64 x.2.2.1, .int .i64 x.2.2.2]
def E81 (h : AHeap) (cs : List Value) (x : Int × Int × Int × Int) : Prop := cs = enc81 x
theorem E81_mono {h h' : AHeap} (le : h.sub h') (cs : List Value) (x : Int × Int × Int × Int) (H : E81 h cs x) : E81 h' cs x := H
def W81 (x : Int × Int × Int × Int) : Prop := (Lit.int .i64 x.1).wf = true ∧ (Lit.int .i64 x.2.1).wf = true ∧ (Lit.int .i64 x.2.2.1).wf = true ∧ (Lit.int .i64 x.2.2.2).wf = true ∧ True
set_option maxRecDepth 100000 in
theorem E81_wt {h : AHeap} {n : Nat} {cs : List Value} (H : WT Try.prog h n 81 cs) : ∃ x, E81 h cs x ∧ W81 x := by
  have k : SQ Try.prog h [.int .i64, .int .i64, .int .i64, .int .i64] cs := wt_flatS 2 n (by kernel_rfl) H
  obtain ⟨x0, r0, rfl, w0, k0⟩ := sq_int k
  obtain ⟨x1, r1, rfl, w1, k1⟩ := sq_int k0
  obtain ⟨x2, r2, rfl, w2, k2⟩ := sq_int k1
  obtain ⟨x3, r3, rfl, w3, k3⟩ := sq_int k2
  obtain rfl := sq_nil k3
  exact ⟨(x0, x1, x2, x3), rfl, ⟨w0, w1, w2, w3, trivial⟩⟩
def enc38 (x : Int × Int × Int × Int) : List Value := [.int .i64 x.1, .int .i64 x.2.1, .int .i64 x.2.2.1, .int .i64 x.2.2.2]
def E38 (h : AHeap) (cs : List Value) (x : Int × Int × Int × Int) : Prop := cs = enc38 x
theorem E38_mono {h h' : AHeap} (le : h.sub h') (cs : List Value) (x : Int × Int × Int × Int) (H : E38 h cs x) : E38 h' cs x := H
def W38 (x : Int × Int × Int × Int) : Prop := (Lit.int .i64 x.1).wf = true ∧ (Lit.int .i64 x.2.1).wf = true ∧ (Lit.int .i64 x.2.2.1).wf = true ∧ (Lit.int .i64 x.2.2.2).wf = true ∧ True
set_option maxRecDepth 100000 in
theorem E38_wt {h : AHeap} {n : Nat} {cs : List Value} (H : WT Try.prog h n 38 cs) : ∃ x, E38 h cs x ∧ W38 x := by
  have k : SQ Try.prog h [.int .i64, .int .i64, .int .i64, .int .i64] cs := wt_flatS 2 n (by kernel_rfl) H
  obtain ⟨x0, r0, rfl, w0, k0⟩ := sq_int k
  obtain ⟨x1, r1, rfl, w1, k1⟩ := sq_int k0
  obtain ⟨x2, r2, rfl, w2, k2⟩ := sq_int k1
  obtain ⟨x3, r3, rfl, w3, k3⟩ := sq_int k2
  obtain rfl := sq_nil k3
  exact ⟨(x0, x1, x2, x3), rfl, ⟨w0, w1, w2, w3, trivial⟩⟩
def enc35 (x : Int × Int) : List Value := [.int .i64 x.1, .int .i64 x.2]
def E35 (h : AHeap) (cs : List Value) (x : Int × Int) : Prop := cs = enc35 x
theorem E35_mono {h h' : AHeap} (le : h.sub h') (cs : List Value) (x : Int × Int) (H : E35 h cs x) : E35 h' cs x := H
def W35 (x : Int × Int) : Prop := (Lit.int .i64 x.1).wf = true ∧ (Lit.int .i64 x.2).wf = true ∧ True
set_option maxRecDepth 100000 in
theorem E35_wt {h : AHeap} {n : Nat} {cs : List Value} (H : WT Try.prog h n 35 cs) : ∃ x, E35 h cs x ∧ W35 x := by
  have k : SQ Try.prog h [.int .i64, .int .i64] cs := wt_flatS 2 n (by kernel_rfl) H
  obtain ⟨x0, r0, rfl, w0, k0⟩ := sq_int k
  obtain ⟨x1, r1, rfl, w1, k1⟩ := sq_int k0
  obtain rfl := sq_nil k1
  exact ⟨(x0, x1), rfl, ⟨w0, w1, trivial⟩⟩
/-! 35 jacquard/jacquardref28.Small -/
def F35_L : List Nat := [3]
def F35_D : List (Nat × List (Nat × Nat)) := []
def F35_m1_2 : List Bool := [true, false, false, false, true, true, true, true, true, true, true, true, true, true, true, true, true, true, true, true, true, true, true, true, true, true, true, true, true, true, true, true, true, true, true, true, true, true, true, true, true, true, true, true, true, true, true, true, true, true, true, true, true, true, true, true, true, true, true, true, true, true, true, true, true, true, true, true]
def F35_m1_1 : List Bool := [true, false, false, false, true, true, true, true, true, true, true, false, false, true, true, true, true, true, true, true, true, true, true, true, true, true, true, true, true, true, true, true, true, true, true, true, true, true, true, true, true, true, true, true, true, true, true, true, true, true, true, true, true, true, true, true, true, true, true, true, true, true, true, true, true, true, true, true]
def F35_m1_0 : List Bool := [true, true, true, true, true, true, false, true, true, true, true, true, true, true, true, true, true, true, true, true, true, true, true, true, true, true, true, true, true, true, true, true, true, true, true, true, true, true, true, true, true, true, true, true, true, true, true, true, true, true, true, true, true, true, true, true, true, true, true, true, true, true, true, true, true, true, true, true]
def F35_s1 (l4 : List (Int × Int × Int × Int)) (a9 : Int) : Option (Int ⊕ Nat) :=
  (bif decide (a9 < (l4.length : Int)) then
   (Option.bind (at? l4 a9) fun y11 =>
   (bif decide (y11.2.2.1 > 60) then
    some (.inr 0)
   else
    (bif decide (y11.2.2.2 > 20) then
     some (.inr 0)
    else
     some (.inl (IntKind.i64.wrap (a9 + 1))))))
  else
   some (.inr 1))
def F35_h1 (h : AHeap) (x1 : Int) (x2 : Int) (x3 : Bool) (l4 : List (Int × Int × Int × Int)) (v4 : Hd) (v5 : Hd) (v6 : Hd) (x7 : Int) (x8 : Int)  (a9 : Int) : AS := ⟨[junk, .int .i64 x7, .int .i64 x8, .pointer (some ⟨3, 0, none⟩), junk, junk, junk, junk, junk, junk, junk, .int .i64 (l4.length : Int), .int .i64 a9, junk, junk, junk, junk, junk, junk, junk, junk, junk, junk, junk, junk, junk, junk, junk, junk, junk, junk, junk, junk, junk, junk, junk, junk, junk, junk, junk, junk, junk, junk, junk, junk, junk, junk, junk, junk, junk, junk, junk, junk, junk, junk, junk, junk, junk, junk, junk, junk, junk, junk, junk, junk, junk, junk, junk], [(3, [.int .i64 x1, .int .i64 x2, .bool x3, (sv v4), (sv v5), (sv v6)])], h⟩
theorem F35_d1 : drawsOk F35_D (codeOf Try.prog 35 [1, 0, 1, 0, 0]) = true := by kernel_rfl
def F35_x1_0 (h : AHeap) (x1 : Int) (x2 : Int) (x3 : Bool) (v4 : Hd) (v5 : Hd) (v6 : Hd) (x7 : Int) (x8 : Int)  (r : Nat) : AS := ⟨[junk, junk, junk, junk, junk, junk, .bool false, junk, junk, junk, junk, junk, junk, junk, junk, junk, junk, junk, junk, junk, junk, junk, junk, junk, junk, junk, junk, junk, junk, junk, junk, junk, junk, junk, junk, junk, junk, junk, junk, junk, junk, junk, junk, junk, junk, junk, junk, junk, junk, junk, junk, junk, junk, junk, junk, junk, junk, junk, junk, junk, junk, junk, junk, junk, junk, junk, junk, junk], [], h⟩
def F35_x1_1 (h : AHeap) (x1 : Int) (x2 : Int) (x3 : Bool) (v4 : Hd) (v5 : Hd) (v6 : Hd) (x7 : Int) (x8 : Int)  (r : Nat) : AS := ⟨[junk, .int .i64 x7, .int .i64 x8, .pointer (some ⟨3, 0, none⟩), junk, junk, junk, junk, junk, junk, junk, junk, junk, junk, junk, junk, junk, junk, junk, junk, junk, junk, junk, junk, junk, junk, junk, junk, junk, junk, junk, junk, junk, junk, junk, junk, junk, junk, junk, junk, junk, junk, junk, junk, junk, junk, junk, junk, junk, junk, junk, junk, junk, junk, junk, junk, junk, junk, junk, junk, junk, junk, junk, junk, junk, junk, junk, junk], [(3, [.int .i64 x1, .int .i64 x2, .bool x3, (sv v4), (sv v5), (sv v6)])], h⟩
def F35_x1 (h : AHeap) (x1 : Int) (x2 : Int) (x3 : Bool) (v4 : Hd) (v5 : Hd) (v6 : Hd) (x7 : Int) (x8 : Int) (r : Nat) : Exit × AS := (bif Nat.beq r 0 then (.ret, (F35_x1_0 h x1 x2 x3 v4 v5 v6 x7 x8 r)) else ((.exit 0), (F35_x1_1 h x1 x2 x3 v4 v5 v6 x7 x8 r)))
set_option maxRecDepth 100000 in
theorem F35_r1 (h : AHeap) (x1 : Int) (x2 : Int) (x3 : Bool) (l4 : List (Int × Int × Int × Int)) (v4 : Hd) (hv4 : SlE E81 4 h (sv v4) l4) (v5 : Hd) (v6 : Hd) (x7 : Int) (x8 : Int) (a9 : Int) (o : Int ⊕ Nat) : F35_s1 l4 a9 = some o → RdF Try.prog (codeOf Try.prog 35 [1, 0, 1, 0, 0]) (fun (s : Int) => (F35_h1 h x1 x2 x3 l4 v4 v5 v6 x7 x8 s)) (F35_x1 h x1 x2 x3 v4 v5 v6 x7 x8) (F35_h1 h x1 x2 x3 l4 v4 v5 v6 x7 x8 a9) o := by
  unfold F35_s1
  refine dec_bif (fun c10 => ?_) (fun c10 => ?_)
  · refine bind_opt fun y11 e11 => ?_
    obtain ⟨id11, off11, g11, cs11, ix11, at11, rfl⟩ := SlE.at hv4 e11
    refine dec_bif (fun c12 => ?_) (fun c12 => ?_)
    · intro hr
      obtain rfl := Option.some.inj hr
      show AWp Try.prog _ (Ends1 ((F35_x1 h x1 x2 x3 v4 v5 v6 x7 x8) (0 : Nat)).1 ((F35_x1 h x1 x2 x3 v4 v5 v6 x7 x8) (0 : Nat)).2) _
      exact pEnd_sound good (L := F35_L) (D := F35_D) (its := [.g, (.b true), .g, .g, .g, .g, .g, (.ix id11 off11 g11), .g, (.ld (.int .i64 y11.2.2.1)), .g, .g, .n, .n, .n, .n, .n, .n, .n, (.p true), (.b true), .g]) (ds := F35_m1_0) (ks := [3]) (e := ((F35_x1 h x1 x2 x3 v4 v5 v6 x7 x8) (0 : Nat)).1) (s2 := ((F35_x1 h x1 x2 x3 v4 v5 v6 x7 x8) (0 : Nat)).2) (hC := (ai l_t (ai c12 (ai (g_tf c12) (ai (g_tf c12) (ai (g_tf c12) (ai (g_tf c12) (ai (g_tf c12) (ai (g_tf c12) (ai (g_tf c12) (ai (At.one (P := Try.prog) (t := 3) (v := .int .i64 y11.2.2.1) at11 (by kernel_rfl) 2 rfl rfl) (ai ix11 (ai c10 trivial))))))))))))) (hd := F35_d1) (h := by kernel_rfl)
    · refine dec_bif (fun c13 => ?_) (fun c13 => ?_)
      · intro hr
        obtain rfl := Option.some.inj hr
        show AWp Try.prog _ (Ends1 ((F35_x1 h x1 x2 x3 v4 v5 v6 x7 x8) (0 : Nat)).1 ((F35_x1 h x1 x2 x3 v4 v5 v6 x7 x8) (0 : Nat)).2) _
        exact pEnd_sound good (L := F35_L) (D := F35_D) (its := [.g, (.b true), .g, .g, .g, .g, .g, (.ix id11 off11 g11), .g, (.ld (.int .i64 y11.2.2.1)), .g, .g, (.w .g), (.w .g), (.w .g), (.w (.ix id11 off11 g11)), (.w .g), (.w (.ld (.int .i64 y11.2.2.2))), (.w .g), (.p false), (.b true), .g]) (ds := F35_m1_0) (ks := [3]) (e := ((F35_x1 h x1 x2 x3 v4 v5 v6 x7 x8) (0 : Nat)).1) (s2 := ((F35_x1 h x1 x2 x3 v4 v5 v6 x7 x8) (0 : Nat)).2) (hC := (ai c13 (ai c12 (ai (g_ff c12) (ai (At.one (P := Try.prog) (t := 3) (v := .int .i64 y11.2.2.2) at11 (by kernel_rfl) 3 rfl rfl) (ai (g_ff c12) (ai (g_ff c12) (ai ix11 (ai (g_ff c12) (ai (g_ff c12) (ai (g_ff c12) (ai (g_ff c12) (ai (At.one (P := Try.prog) (t := 3) (v := .int .i64 y11.2.2.1) at11 (by kernel_rfl) 2 rfl rfl) (ai ix11 (ai c10 trivial))))))))))))))) (hd := F35_d1) (h := by kernel_rfl)
      · intro hr
        obtain rfl := Option.some.inj hr
        show AWp Try.prog _ (Ends1 .normal (F35_h1 h x1 x2 x3 l4 v4 v5 v6 x7 x8 (IntKind.i64.wrap (a9 + 1)))) _
        exact pEnd_sound good (L := F35_L) (D := F35_D) (its := [.g, (.b true), .g, .g, .g, .g, .g, (.ix id11 off11 g11), .g, (.ld (.int .i64 y11.2.2.1)), .g, .g, (.w .g), (.w .g), (.w .g), (.w (.ix id11 off11 g11)), (.w .g), (.w (.ld (.int .i64 y11.2.2.2))), (.w .g), (.p false), (.b false), .g, .g]) (ds := F35_m1_1) (ks := []) (e := .normal) (s2 := (F35_h1 h x1 x2 x3 l4 v4 v5 v6 x7 x8 (IntKind.i64.wrap (a9 + 1)))) (hC := (ai c13 (ai c12 (ai (g_ff c12) (ai (At.one (P := Try.prog) (t := 3) (v := .int .i64 y11.2.2.2) at11 (by kernel_rfl) 3 rfl rfl) (ai (g_ff c12) (ai (g_ff c12) (ai ix11 (ai (g_ff c12) (ai (g_ff c12) (ai (g_ff c12) (ai (g_ff c12) (ai (At.one (P := Try.prog) (t := 3) (v := .int .i64 y11.2.2.1) at11 (by kernel_rfl) 2 rfl rfl) (ai ix11 (ai c10 trivial))))))))))))))) (hd := F35_d1) (h := by kernel_rfl)
  · intro hr
    obtain rfl := Option.some.inj hr
    show AWp Try.prog _ (Ends1 ((F35_x1 h x1 x2 x3 v4 v5 v6 x7 x8) (1 : Nat)).1 ((F35_x1 h x1 x2 x3 v4 v5 v6 x7 x8) (1 : Nat)).2) _
    exact pEnd_sound good (L := F35_L) (D := F35_D) (its := [.g, (.b false)]) (ds := F35_m1_2) (ks := []) (e := ((F35_x1 h x1 x2 x3 v4 v5 v6 x7 x8) (1 : Nat)).1) (s2 := ((F35_x1 h x1 x2 x3 v4 v5 v6 x7 x8) (1 : Nat)).2) (hC := (ai c10 trivial)) (hd := F35_d1) (h := by kernel_rfl)
theorem F35_l1_0 (h : AHeap) (x1 : Int) (x2 : Int) (x3 : Bool) (l4 : List (Int × Int × Int × Int)) (v4 : Hd) (hv4 : SlE E81 4 h (sv v4) l4) (v5 : Hd) (v6 : Hd) (x7 : Int) (x8 : Int) (x : Int) (r : Nat) (hl : loopO (fun (s : Int) => F35_s1 l4 s) x = some r) (q0 : Nat.beq r 0 = true) : AWp Try.prog (.loop (codeOf Try.prog 35 [1, 0, 1, 0, 0])) (Ends1 .ret (F35_x1_0 h x1 x2 x3 v4 v5 v6 x7 x8 r)) ((fun (s : Int) => (F35_h1 h x1 x2 x3 l4 v4 v5 v6 x7 x8 s)) x) := by
  have k := loop_fun (P := Try.prog) (c := (codeOf Try.prog 35 [1, 0, 1, 0, 0])) (step := (fun (s : Int) => F35_s1 l4 s)) (hd := (fun (s : Int) => (F35_h1 h x1 x2 x3 l4 v4 v5 v6 x7 x8 s))) (X := (F35_x1 h x1 x2 x3 v4 v5 v6 x7 x8)) (by intro t; unfold F35_x1; cases Nat.beq t 0 <;> (intro h; cases h)) (fun x => F35_r1 h x1 x2 x3 l4 v4 hv4 v5 v6 x7 x8 x) hl
  simp only [F35_x1, q0, cond_true, cond_false] at k
  exact k
theorem F35_l1_1 (h : AHeap) (x1 : Int) (x2 : Int) (x3 : Bool) (l4 : List (Int × Int × Int × Int)) (v4 : Hd) (hv4 : SlE E81 4 h (sv v4) l4) (v5 : Hd) (v6 : Hd) (x7 : Int) (x8 : Int) (x : Int) (r : Nat) (hl : loopO (fun (s : Int) => F35_s1 l4 s) x = some r) (q0 : Nat.beq r 0 = false) : AWp Try.prog (.loop (codeOf Try.prog 35 [1, 0, 1, 0, 0])) (Ends1 (.exit 0) (F35_x1_1 h x1 x2 x3 v4 v5 v6 x7 x8 r)) ((fun (s : Int) => (F35_h1 h x1 x2 x3 l4 v4 v5 v6 x7 x8 s)) x) := by
  have k := loop_fun (P := Try.prog) (c := (codeOf Try.prog 35 [1, 0, 1, 0, 0])) (step := (fun (s : Int) => F35_s1 l4 s)) (hd := (fun (s : Int) => (F35_h1 h x1 x2 x3 l4 v4 v5 v6 x7 x8 s))) (X := (F35_x1 h x1 x2 x3 v4 v5 v6 x7 x8)) (by intro t; unfold F35_x1; cases Nat.beq t 0 <;> (intro h; cases h)) (fun x => F35_r1 h x1 x2 x3 l4 v4 hv4 v5 v6 x7 x8 x) hl
  simp only [F35_x1, q0, cond_true, cond_false] at k
  exact k
def F35_m2_2 : List Bool := [true, false, false, false, true, true, true, true, true, true, true, true, true, true, true, true, true, true, true, true, true, true, true, true, true, true, true, true, true, true, true, true, true, true, true, true, true, true, true, true, true, true, true, true, true, true, true, true, true, true, true, true, true, true, true, true, true, true, true, true, true, true, true, true, true, true, true, true]
def F35_m2_1 : List Bool := [true, false, false, false, true, true, true, true, true, true, true, true, true, true, true, true, true, true, true, true, true, true, true, true, true, true, true, true, true, true, true, true, true, true, false, false, true, true, true, true, true, true, true, true, true, true, true, true, true, true, true, true, true, true, true, true, true, true, true, true, true, true, true, true, true, true, true, true]
def F35_m2_0 : List Bool := [true, true, true, true, true, true, false, true, true, true, true, true, true, true, true, true, true, true, true, true, true, true, true, true, true, true, true, true, true, true, true, true, true, true, true, true, true, true, true, true, true, true, true, true, true, true, true, true, true, true, true, true, true, true, true, true, true, true, true, true, true, true, true, true, true, true, true, true]
def F35_s2 (l6 : List (Int × Int)) (a16 : Int) : Option (Int ⊕ Nat) :=
  (bif decide (a16 < (l6.length : Int)) then
   (Option.bind (at? l6 a16) fun y18 =>
   (bif decide (y18.2 > 20) then
    some (.inr 0)
   else
    some (.inl (IntKind.i64.wrap (a16 + 1)))))
  else
   some (.inr 1))
def F35_h2 (h : AHeap) (x1 : Int) (x2 : Int) (x3 : Bool) (v4 : Hd) (v5 : Hd) (l6 : List (Int × Int)) (v6 : Hd) (x7 : Int) (x8 : Int)  (a16 : Int) : AS := ⟨[junk, .int .i64 x7, .int .i64 x8, .pointer (some ⟨3, 0, none⟩), junk, junk, junk, junk, junk, junk, junk, junk, junk, junk, junk, junk, junk, junk, junk, junk, junk, junk, junk, junk, junk, junk, junk, junk, junk, junk, junk, junk, junk, junk, .int .i64 (l6.length : Int), .int .i64 a16, junk, junk, junk, junk, junk, junk, junk, junk, junk, junk, junk, junk, junk, junk, junk, junk, junk, junk, junk, junk, junk, junk, junk, junk, junk, junk, junk, junk, junk, junk, junk, junk], [(3, [.int .i64 x1, .int .i64 x2, .bool x3, (sv v4), (sv v5), (sv v6)])], h⟩
theorem F35_d2 : drawsOk F35_D (codeOf Try.prog 35 [1, 1, 0, 1, 0, 0]) = true := by kernel_rfl
def F35_x2_0 (h : AHeap) (x1 : Int) (x2 : Int) (x3 : Bool) (v4 : Hd) (v5 : Hd) (v6 : Hd) (x7 : Int) (x8 : Int)  (r : Nat) : AS := ⟨[junk, junk, junk, junk, junk, junk, .bool false, junk, junk, junk, junk, junk, junk, junk, junk, junk, junk, junk, junk, junk, junk, junk, junk, junk, junk, junk, junk, junk, junk, junk, junk, junk, junk, junk, junk, junk, junk, junk, junk, junk, junk, junk, junk, junk, junk, junk, junk, junk, junk, junk, junk, junk, junk, junk, junk, junk, junk, junk, junk, junk, junk, junk, junk, junk, junk, junk, junk, junk], [], h⟩
def F35_x2_1 (h : AHeap) (x1 : Int) (x2 : Int) (x3 : Bool) (v4 : Hd) (v5 : Hd) (v6 : Hd) (x7 : Int) (x8 : Int)  (r : Nat) : AS := ⟨[junk, .int .i64 x7, .int .i64 x8, .pointer (some ⟨3, 0, none⟩), junk, junk, junk, junk, junk, junk, junk, junk, junk, junk, junk, junk, junk, junk, junk, junk, junk, junk, junk, junk, junk, junk, junk, junk, junk, junk, junk, junk, junk, junk, junk, junk, junk, junk, junk, junk, junk, junk, junk, junk, junk, junk, junk, junk, junk, junk, junk, junk, junk, junk, junk, junk, junk, junk, junk, junk, junk, junk, junk, junk, junk, junk, junk, junk], [(3, [.int .i64 x1, .int .i64 x2, .bool x3, (sv v4), (sv v5), (sv v6)])], h⟩
def F35_x2 (h : AHeap) (x1 : Int) (x2 : Int) (x3 : Bool) (v4 : Hd) (v5 : Hd) (v6 : Hd) (x7 : Int) (x8 : Int) (r : Nat) : Exit × AS := (bif Nat.beq r 0 then (.ret, (F35_x2_0 h x1 x2 x3 v4 v5 v6 x7 x8 r)) else ((.exit 2), (F35_x2_1 h x1 x2 x3 v4 v5 v6 x7 x8 r)))
set_option maxRecDepth 100000 in
theorem F35_r2 (h : AHeap) (x1 : Int) (x2 : Int) (x3 : Bool) (v4 : Hd) (v5 : Hd) (l6 : List (Int × Int)) (v6 : Hd) (hv6 : SlE E35 2 h (sv v6) l6) (x7 : Int) (x8 : Int) (a16 : Int) (o : Int ⊕ Nat) : F35_s2 l6 a16 = some o → RdF Try.prog (codeOf Try.prog 35 [1, 1, 0, 1, 0, 0]) (fun (s : Int) => (F35_h2 h x1 x2 x3 v4 v5 l6 v6 x7 x8 s)) (F35_x2 h x1 x2 x3 v4 v5 v6 x7 x8) (F35_h2 h x1 x2 x3 v4 v5 l6 v6 x7 x8 a16) o := by
  unfold F35_s2
  refine dec_bif (fun c17 => ?_) (fun c17 => ?_)
  · refine bind_opt fun y18 e18 => ?_
    obtain ⟨id18, off18, g18, cs18, ix18, at18, rfl⟩ := SlE.at hv6 e18
    refine dec_bif (fun c19 => ?_) (fun c19 => ?_)
    · intro hr
      obtain rfl := Option.some.inj hr
      show AWp Try.prog _ (Ends1 ((F35_x2 h x1 x2 x3 v4 v5 v6 x7 x8) (0 : Nat)).1 ((F35_x2 h x1 x2 x3 v4 v5 v6 x7 x8) (0 : Nat)).2) _
      exact pEnd_sound good (L := F35_L) (D := F35_D) (its := [.g, (.b true), .g, .g, .g, .g, .g, (.ix id18 off18 g18), .g, (.ld (.int .i64 y18.2)), .g, (.b true), .g]) (ds := F35_m2_0) (ks := [3]) (e := ((F35_x2 h x1 x2 x3 v4 v5 v6 x7 x8) (0 : Nat)).1) (s2 := ((F35_x2 h x1 x2 x3 v4 v5 v6 x7 x8) (0 : Nat)).2) (hC := (ai c19 (ai (At.one (P := Try.prog) (t := 3) (v := .int .i64 y18.2) at18 (by kernel_rfl) 1 rfl rfl) (ai ix18 (ai c17 trivial))))) (hd := F35_d2) (h := by kernel_rfl)
    · intro hr
      obtain rfl := Option.some.inj hr
      show AWp Try.prog _ (Ends1 .normal (F35_h2 h x1 x2 x3 v4 v5 l6 v6 x7 x8 (IntKind.i64.wrap (a16 + 1)))) _
      exact pEnd_sound good (L := F35_L) (D := F35_D) (its := [.g, (.b true), .g, .g, .g, .g, .g, (.ix id18 off18 g18), .g, (.ld (.int .i64 y18.2)), .g, (.b false), .g, .g]) (ds := F35_m2_1) (ks := []) (e := .normal) (s2 := (F35_h2 h x1 x2 x3 v4 v5 l6 v6 x7 x8 (IntKind.i64.wrap (a16 + 1)))) (hC := (ai c19 (ai (At.one (P := Try.prog) (t := 3) (v := .int .i64 y18.2) at18 (by kernel_rfl) 1 rfl rfl) (ai ix18 (ai c17 trivial))))) (hd := F35_d2) (h := by kernel_rfl)
  · intro hr
    obtain rfl := Option.some.inj hr
    show AWp Try.prog _ (Ends1 ((F35_x2 h x1 x2 x3 v4 v5 v6 x7 x8) (1 : Nat)).1 ((F35_x2 h x1 x2 x3 v4 v5 v6 x7 x8) (1 : Nat)).2) _
    exact pEnd_sound good (L := F35_L) (D := F35_D) (its := [.g, (.b false)]) (ds := F35_m2_2) (ks := []) (e := ((F35_x2 h x1 x2 x3 v4 v5 v6 x7 x8) (1 : Nat)).1) (s2 := ((F35_x2 h x1 x2 x3 v4 v5 v6 x7 x8) (1 : Nat)).2) (hC := (ai c17 trivial)) (hd := F35_d2) (h := by kernel_rfl)
theorem F35_l2_0 (h : AHeap) (x1 : Int) (x2 : Int) (x3 : Bool) (v4 : Hd) (v5 : Hd) (l6 : List (Int × Int)) (v6 : Hd) (hv6 : SlE E35 2 h (sv v6) l6) (x7 : Int) (x8 : Int) (x : Int) (r : Nat) (hl : loopO (fun (s : Int) => F35_s2 l6 s) x = some r) (q0 : Nat.beq r 0 = true) : AWp Try.prog (.loop (codeOf Try.prog 35 [1, 1, 0, 1, 0, 0])) (Ends1 .ret (F35_x2_0 h x1 x2 x3 v4 v5 v6 x7 x8 r)) ((fun (s : Int) => (F35_h2 h x1 x2 x3 v4 v5 l6 v6 x7 x8 s)) x) := by
  have k := loop_fun (P := Try.prog) (c := (codeOf Try.prog 35 [1, 1, 0, 1, 0, 0])) (step := (fun (s : Int) => F35_s2 l6 s)) (hd := (fun (s : Int) => (F35_h2 h x1 x2 x3 v4 v5 l6 v6 x7 x8 s))) (X := (F35_x2 h x1 x2 x3 v4 v5 v6 x7 x8)) (by intro t; unfold F35_x2; cases Nat.beq t 0 <;> (intro h; cases h)) (fun x => F35_r2 h x1 x2 x3 v4 v5 l6 v6 hv6 x7 x8 x) hl
  simp only [F35_x2, q0, cond_true, cond_false] at k
  exact k
theorem F35_l2_1 (h : AHeap) (x1 : Int) (x2 : Int) (x3 : Bool) (v4 : Hd) (v5 : Hd) (l6 : List (Int × Int)) (v6 : Hd) (hv6 : SlE E35 2 h (sv v6) l6) (x7 : Int) (x8 : Int) (x : Int) (r : Nat) (hl : loopO (fun (s : Int) => F35_s2 l6 s) x = some r) (q0 : Nat.beq r 0 = false) : AWp Try.prog (.loop (codeOf Try.prog 35 [1, 1, 0, 1, 0, 0])) (Ends1 (.exit 2) (F35_x2_1 h x1 x2 x3 v4 v5 v6 x7 x8 r)) ((fun (s : Int) => (F35_h2 h x1 x2 x3 v4 v5 l6 v6 x7 x8 s)) x) := by
  have k := loop_fun (P := Try.prog) (c := (codeOf Try.prog 35 [1, 1, 0, 1, 0, 0])) (step := (fun (s : Int) => F35_s2 l6 s)) (hd := (fun (s : Int) => (F35_h2 h x1 x2 x3 v4 v5 l6 v6 x7 x8 s))) (X := (F35_x2 h x1 x2 x3 v4 v5 v6 x7 x8)) (by intro t; unfold F35_x2; cases Nat.beq t 0 <;> (intro h; cases h)) (fun x => F35_r2 h x1 x2 x3 v4 v5 l6 v6 hv6 x7 x8 x) hl
  simp only [F35_x2, q0, cond_true, cond_false] at k
  exact k
def F35 (x1 : Int) (x2 : Int) (x3 : Bool) (l4 : List (Int × Int × Int × Int)) (l5 : List (Int × Int × Int × Int)) (l6 : List (Int × Int)) (x7 : Int) (x8 : Int) : Option (Bool) :=
  (Option.bind (loopO (fun (s : Int) => F35_s1 l4 s) 0) fun y14 =>
  (bif (Nat.beq y14 0) then
   some (false)
  else
   (Option.bind (loopO (fun (s : Int) => F35_s2 l6 s) 0) fun y20 =>
   (bif (Nat.beq y20 0) then
    some (false)
   else
    (bif decide (x1 ≤ x7) then
     (bif decide (x2 ≤ x8) then
      (bif decide ((l4.length : Int) ≤ 90) then
       some (decide ((l5.length : Int) ≤ 6))
      else
       some (false))
     else
      some (false))
    else
     some (false))))))
set_option maxRecDepth 100000 in
theorem F35_spec (x1 : Int) (x2 : Int) (x3 : Bool) (l4 : List (Int × Int × Int × Int)) (l5 : List (Int × Int × Int × Int)) (l6 : List (Int × Int)) (x7 : Int) (x8 : Int) (v4 : Hd) (v5 : Hd) (v6 : Hd) (h : AHeap) (hv4 : SlE E81 4 h (sv v4) l4) (hv5 : SlE E38 4 h (sv v5) l5) (hv6 : SlE E35 2 h (sv v6) l6) (r : Bool) : F35 x1 x2 x3 l4 l5 l6 x7 x8 = some r → ACalls Try.prog 35 [.agg #[.int .i64 x1, .int .i64 x2, .bool x3, (sv v4), (sv v5), (sv v6)], .int .i64 x7, .int .i64 x8] h (fun v' h'' => v' = (.bool r : Value) ∧ h'' = h) := by
  unfold F35
  refine bind_opt fun y14 e14 => ?_
  refine dec_bif (fun c15 => ?_) (fun c15 => ?_)
  · intro hr
    obtain rfl := Option.some.inj hr
    exact pFun_sound good tab_ok (f := 35) (its := [.g, .g, .g, .g, (.ln l4.length), .g, (.l F35_m1_1 [] .ret (F35_x1_0 h x1 x2 x3 v4 v5 v6 x7 x8 y14))]) (args := [.agg #[.int .i64 x1, .int .i64 x2, .bool x3, (sv v4), (sv v5), (sv v6)], .int .i64 x7, .int .i64 x8]) (h := h) (h' := h) (v := .bool false) (hC := (ai (F35_l1_0 h x1 x2 x3 l4 v4 hv4 v5 v6 x7 x8 0 y14 e14 c15) (ai (SlE.len hv4) trivial))) (hr := by kernel_rfl)
  · refine bind_opt fun y20 e20 => ?_
    refine dec_bif (fun c21 => ?_) (fun c21 => ?_)
    · intro hr
      obtain rfl := Option.some.inj hr
      exact pFun_sound good tab_ok (f := 35) (its := [.g, .g, .g, .g, (.ln l4.length), .g, (.l F35_m1_1 [] (.exit 0) (F35_x1_1 h x1 x2 x3 v4 v5 v6 x7 x8 y14)), .g, .g, (.ln l6.length), .g, (.l F35_m2_1 [] .ret (F35_x2_0 h x1 x2 x3 v4 v5 v6 x7 x8 y20))]) (args := [.agg #[.int .i64 x1, .int .i64 x2, .bool x3, (sv v4), (sv v5), (sv v6)], .int .i64 x7, .int .i64 x8]) (h := h) (h' := h) (v := .bool false) (hC := (ai (F35_l2_0 h x1 x2 x3 v4 v5 l6 v6 hv6 x7 x8 0 y20 e20 c21) (ai (SlE.len hv6) (ai (F35_l1_1 h x1 x2 x3 l4 v4 hv4 v5 v6 x7 x8 0 y14 e14 c15) (ai (SlE.len hv4) trivial))))) (hr := by kernel_rfl)
    · refine dec_bif (fun c22 => ?_) (fun c22 => ?_)
      · refine dec_bif (fun c23 => ?_) (fun c23 => ?_)
        · refine dec_bif (fun c24 => ?_) (fun c24 => ?_)
          · intro hr
            obtain rfl := Option.some.inj hr
            exact pFun_sound good tab_ok (f := 35) (its := [.g, .g, .g, .g, (.ln l4.length), .g, (.l F35_m1_1 [] (.exit 0) (F35_x1_1 h x1 x2 x3 v4 v5 v6 x7 x8 y14)), .g, .g, (.ln l6.length), .g, (.l F35_m2_1 [] (.exit 2) (F35_x2_1 h x1 x2 x3 v4 v5 v6 x7 x8 y20)), .g, .g, .g, .g, .g, (.w .g), (.w .g), (.w .g), (.w .g), (.p true), .g, (.w .g), (.w .g), (.w (.ln l4.length)), (.w .g), (.p true), .g, (.w .g), (.w .g), (.w (.ln l5.length)), (.w .g), (.p true), .g]) (args := [.agg #[.int .i64 x1, .int .i64 x2, .bool x3, (sv v4), (sv v5), (sv v6)], .int .i64 x7, .int .i64 x8]) (h := h) (h' := h) (v := .bool (decide ((l5.length : Int) ≤ 6))) (hC := (ai c24 (ai (g_tt c24) (ai (SlE.len hv5) (ai (g_tt c24) (ai (g_tt c24) (ai (g_tt c24) (ai c23 (ai (g_tt c23) (ai (SlE.len hv4) (ai (g_tt c23) (ai (g_tt c23) (ai (g_tt c23) (ai c22 (ai (g_tt c22) (ai (g_tt c22) (ai (g_tt c22) (ai (g_tt c22) (ai (F35_l2_1 h x1 x2 x3 v4 v5 l6 v6 hv6 x7 x8 0 y20 e20 c21) (ai (SlE.len hv6) (ai (F35_l1_1 h x1 x2 x3 l4 v4 hv4 v5 v6 x7 x8 0 y14 e14 c15) (ai (SlE.len hv4) trivial)))))))))))))))))))))) (hr := by kernel_rfl)
          · intro hr
            obtain rfl := Option.some.inj hr
            exact pFun_sound good tab_ok (f := 35) (its := [.g, .g, .g, .g, (.ln l4.length), .g, (.l F35_m1_1 [] (.exit 0) (F35_x1_1 h x1 x2 x3 v4 v5 v6 x7 x8 y14)), .g, .g, (.ln l6.length), .g, (.l F35_m2_1 [] (.exit 2) (F35_x2_1 h x1 x2 x3 v4 v5 v6 x7 x8 y20)), .g, .g, .g, .g, .g, (.w .g), (.w .g), (.w .g), (.w .g), (.p true), .g, (.w .g), (.w .g), (.w (.ln l4.length)), (.w .g), (.p true), .g, .n, .n, .n, .n, (.p false), .g]) (args := [.agg #[.int .i64 x1, .int .i64 x2, .bool x3, (sv v4), (sv v5), (sv v6)], .int .i64 x7, .int .i64 x8]) (h := h) (h' := h) (v := .bool false) (hC := (ai c24 (ai (g_ft c24) (ai (g_ft c24) (ai (g_ft c24) (ai (g_ft c24) (ai c23 (ai (g_tt c23) (ai (SlE.len hv4) (ai (g_tt c23) (ai (g_tt c23) (ai (g_tt c23) (ai c22 (ai (g_tt c22) (ai (g_tt c22) (ai (g_tt c22) (ai (g_tt c22) (ai (F35_l2_1 h x1 x2 x3 v4 v5 l6 v6 hv6 x7 x8 0 y20 e20 c21) (ai (SlE.len hv6) (ai (F35_l1_1 h x1 x2 x3 l4 v4 hv4 v5 v6 x7 x8 0 y14 e14 c15) (ai (SlE.len hv4) trivial))))))))))))))))))))) (hr := by kernel_rfl)
        · intro hr
          obtain rfl := Option.some.inj hr
          exact pFun_sound good tab_ok (f := 35) (its := [.g, .g, .g, .g, (.ln l4.length), .g, (.l F35_m1_1 [] (.exit 0) (F35_x1_1 h x1 x2 x3 v4 v5 v6 x7 x8 y14)), .g, .g, (.ln l6.length), .g, (.l F35_m2_1 [] (.exit 2) (F35_x2_1 h x1 x2 x3 v4 v5 v6 x7 x8 y20)), .g, .g, .g, .g, .g, (.w .g), (.w .g), (.w .g), (.w .g), (.p true), .g, .n, .n, .n, .n, (.p false), .g, .n, .n, .n, .n, .g, .g]) (args := [.agg #[.int .i64 x1, .int .i64 x2, .bool x3, (sv v4), (sv v5), (sv v6)], .int .i64 x7, .int .i64 x8]) (h := h) (h' := h) (v := .bool false) (hC := (ai (g_ft l_f) (ai (g_ft l_f) (ai (g_ft l_f) (ai (g_ft l_f) (ai c23 (ai (g_ft c23) (ai (g_ft c23) (ai (g_ft c23) (ai (g_ft c23) (ai c22 (ai (g_tt c22) (ai (g_tt c22) (ai (g_tt c22) (ai (g_tt c22) (ai (F35_l2_1 h x1 x2 x3 v4 v5 l6 v6 hv6 x7 x8 0 y20 e20 c21) (ai (SlE.len hv6) (ai (F35_l1_1 h x1 x2 x3 l4 v4 hv4 v5 v6 x7 x8 0 y14 e14 c15) (ai (SlE.len hv4) trivial))))))))))))))))))) (hr := by kernel_rfl)
      · intro hr
        obtain rfl := Option.some.inj hr
        exact pFun_sound good tab_ok (f := 35) (its := [.g, .g, .g, .g, (.ln l4.length), .g, (.l F35_m1_1 [] (.exit 0) (F35_x1_1 h x1 x2 x3 v4 v5 v6 x7 x8 y14)), .g, .g, (.ln l6.length), .g, (.l F35_m2_1 [] (.exit 2) (F35_x2_1 h x1 x2 x3 v4 v5 v6 x7 x8 y20)), .g, .g, .g, .g, .g, .n, .n, .n, .n, (.p false), .g, .n, .n, .n, .n, .g, .g, .n, .n, .n, .n, .g, .g]) (args := [.agg #[.int .i64 x1, .int .i64 x2, .bool x3, (sv v4), (sv v5), (sv v6)], .int .i64 x7, .int .i64 x8]) (h := h) (h' := h) (v := .bool false) (hC := (ai (g_ft l_f) (ai (g_ft l_f) (ai (g_ft l_f) (ai (g_ft l_f) (ai (g_ft l_f) (ai (g_ft l_f) (ai (g_ft l_f) (ai (g_ft l_f) (ai c22 (ai (g_ft c22) (ai (g_ft c22) (ai (g_ft c22) (ai (g_ft c22) (ai (F35_l2_1 h x1 x2 x3 v4 v5 l6 v6 hv6 x7 x8 0 y20 e20 c21) (ai (SlE.len hv6) (ai (F35_l1_1 h x1 x2 x3 l4 v4 hv4 v5 v6 x7 x8 0 y14 e14 c15) (ai (SlE.len hv4) trivial)))))))))))))))))) (hr := by kernel_rfl)
def enc3 (x : Int) : List Value := [.int .i64 x]
def E3 (h : AHeap) (cs : List Value) (x : Int) : Prop := cs = enc3 x
theorem E3_mono {h h' : AHeap} (le : h.sub h') (cs : List Value) (x : Int) (H : E3 h cs x) : E3 h' cs x := H
def W3 (x : Int) : Prop := (Lit.int .i64 x).wf = true ∧ True
set_option maxRecDepth 100000 in
theorem E3_wt {h : AHeap} {n : Nat} {cs : List Value} (H : WT Try.prog h n 3 cs) : ∃ x, E3 h cs x ∧ W3 x := by
  have k : SQ Try.prog h [.int .i64] cs := wt_flatS 1 n (by kernel_rfl) H
  obtain ⟨x0, r0, rfl, w0, k0⟩ := sq_int k
  obtain rfl := sq_nil k0
  exact ⟨x0, rfl, ⟨w0, trivial⟩⟩
/-! 10 jacquard/jacquardlaw35.few -/
def F10 (x1 : Int) (x2 : Int) (x3 : Bool) (l4 : List (Int × Int × Int × Int)) (l5 : List (Int × Int × Int × Int)) (l6 : List (Int × Int)) (x7 : Int) (x8 : Int) (l9 : List Int) (l10 : List Int) (l11 : List Int) : Option (Bool) :=
  (Option.bind (F35 x1 x2 x3 l4 l5 l6 20 8) fun y12 =>
  (bif y12 then
   (bif decide ((l9.length : Int) ≤ 30) then
    (bif decide ((l11.length : Int) ≤ 30) then
     (bif decide ((l10.length : Int) ≤ 30) then
      some (decide ((l6.length : Int) ≤ 30))
     else
      some (false))
    else
     some (false))
   else
    some (false))
  else
   some (false)))
set_option maxRecDepth 100000 in
theorem F10_spec (x1 : Int) (x2 : Int) (x3 : Bool) (l4 : List (Int × Int × Int × Int)) (l5 : List (Int × Int × Int × Int)) (l6 : List (Int × Int)) (x7 : Int) (x8 : Int) (l9 : List Int) (l10 : List Int) (l11 : List Int) (v4 : Hd) (v5 : Hd) (v6 : Hd) (v9 : Hd) (v10 : Hd) (v11 : Hd) (h : AHeap) (hv4 : SlE E81 4 h (sv v4) l4) (hv5 : SlE E38 4 h (sv v5) l5) (hv6 : SlE E35 2 h (sv v6) l6) (hv9 : SlE E3 1 h (sv v9) l9) (hv10 : SlE E3 1 h (sv v10) l10) (hv11 : SlE E3 1 h (sv v11) l11) (r : Bool) : F10 x1 x2 x3 l4 l5 l6 x7 x8 l9 l10 l11 = some r → ACalls Try.prog 10 [.agg #[.int .i64 x1, .int .i64 x2, .bool x3, (sv v4), (sv v5), (sv v6)], .agg #[.int .i64 x7, .int .i64 x8, (sv v9), (sv v10), (sv v11)]] h (fun v' h'' => v' = (.bool r : Value) ∧ h'' = h) := by
  unfold F10
  refine bind_opt fun y12 e12 => ?_
  refine dec_bif (fun c14 => ?_) (fun c14 => ?_)
  · refine dec_bif (fun c15 => ?_) (fun c15 => ?_)
    · refine dec_bif (fun c16 => ?_) (fun c16 => ?_)
      · refine dec_bif (fun c17 => ?_) (fun c17 => ?_)
        · intro hr
          obtain rfl := Option.some.inj hr
          exact pFun_sound good tab_ok (f := 10) (its := [.g, .g, .g, .g, (.c (.bool y12) h), .g, (.w .g), (.w .g), (.w (.ln l9.length)), (.w .g), (.p true), .g, (.w .g), (.w .g), (.w (.ln l11.length)), (.w .g), (.p true), .g, (.w .g), (.w .g), (.w (.ln l10.length)), (.w .g), (.p true), .g, (.w .g), (.w .g), (.w (.ln l6.length)), (.w .g), (.p true), .g]) (args := [.agg #[.int .i64 x1, .int .i64 x2, .bool x3, (sv v4), (sv v5), (sv v6)], .agg #[.int .i64 x7, .int .i64 x8, (sv v9), (sv v10), (sv v11)]]) (h := h) (h' := h) (v := .bool (decide ((l6.length : Int) ≤ 30))) (hC := (ai c17 (ai (g_tt c17) (ai (SlE.len hv6) (ai (g_tt c17) (ai (g_tt c17) (ai (g_tt c17) (ai c16 (ai (g_tt c16) (ai (SlE.len hv10) (ai (g_tt c16) (ai (g_tt c16) (ai (g_tt c16) (ai c15 (ai (g_tt c15) (ai (SlE.len hv11) (ai (g_tt c15) (ai (g_tt c15) (ai (g_tt c15) (ai c14 (ai (g_tt c14) (ai (SlE.len hv9) (ai (g_tt c14) (ai (g_tt c14) (ai (g_tt c14) (ai (F35_spec x1 x2 x3 l4 l5 l6 20 8 v4 v5 v6 h hv4 hv5 hv6 _ e12) trivial)))))))))))))))))))))))))) (hr := by kernel_rfl)
        · intro hr
          obtain rfl := Option.some.inj hr
          exact pFun_sound good tab_ok (f := 10) (its := [.g, .g, .g, .g, (.c (.bool y12) h), .g, (.w .g), (.w .g), (.w (.ln l9.length)), (.w .g), (.p true), .g, (.w .g), (.w .g), (.w (.ln l11.length)), (.w .g), (.p true), .g, (.w .g), (.w .g), (.w (.ln l10.length)), (.w .g), (.p true), .g, .n, .n, .n, .n, (.p false), .g]) (args := [.agg #[.int .i64 x1, .int .i64 x2, .bool x3, (sv v4), (sv v5), (sv v6)], .agg #[.int .i64 x7, .int .i64 x8, (sv v9), (sv v10), (sv v11)]]) (h := h) (h' := h) (v := .bool false) (hC := (ai c17 (ai (g_ft c17) (ai (g_ft c17) (ai (g_ft c17) (ai (g_ft c17) (ai c16 (ai (g_tt c16) (ai (SlE.len hv10) (ai (g_tt c16) (ai (g_tt c16) (ai (g_tt c16) (ai c15 (ai (g_tt c15) (ai (SlE.len hv11) (ai (g_tt c15) (ai (g_tt c15) (ai (g_tt c15) (ai c14 (ai (g_tt c14) (ai (SlE.len hv9) (ai (g_tt c14) (ai (g_tt c14) (ai (g_tt c14) (ai (F35_spec x1 x2 x3 l4 l5 l6 20 8 v4 v5 v6 h hv4 hv5 hv6 _ e12) trivial))))))))))))))))))))))))) (hr := by kernel_rfl)
      · intro hr
        obtain rfl := Option.some.inj hr
        exact pFun_sound good tab_ok (f := 10) (its := [.g, .g, .g, .g, (.c (.bool y12) h), .g, (.w .g), (.w .g), (.w (.ln l9.length)), (.w .g), (.p true), .g, (.w .g), (.w .g), (.w (.ln l11.length)), (.w .g), (.p true), .g, .n, .n, .n, .n, (.p false), .g, .n, .n, .n, .n, .g, .g]) (args := [.agg #[.int .i64 x1, .int .i64 x2, .bool x3, (sv v4), (sv v5), (sv v6)], .agg #[.int .i64 x7, .int .i64 x8, (sv v9), (sv v10), (sv v11)]]) (h := h) (h' := h) (v := .bool false) (hC := (ai (g_ft l_f) (ai (g_ft l_f) (ai (g_ft l_f) (ai (g_ft l_f) (ai c16 (ai (g_ft c16) (ai (g_ft c16) (ai (g_ft c16) (ai (g_ft c16) (ai c15 (ai (g_tt c15) (ai (SlE.len hv11) (ai (g_tt c15) (ai (g_tt c15) (ai (g_tt c15) (ai c14 (ai (g_tt c14) (ai (SlE.len hv9) (ai (g_tt c14) (ai (g_tt c14) (ai (g_tt c14) (ai (F35_spec x1 x2 x3 l4 l5 l6 20 8 v4 v5 v6 h hv4 hv5 hv6 _ e12) trivial))))))))))))))))))))))) (hr := by kernel_rfl)
    · intro hr
      obtain rfl := Option.some.inj hr
      exact pFun_sound good tab_ok (f := 10) (its := [.g, .g, .g, .g, (.c (.bool y12) h), .g, (.w .g), (.w .g), (.w (.ln l9.length)), (.w .g), (.p true), .g, .n, .n, .n, .n, (.p false), .g, .n, .n, .n, .n, .g, .g, .n, .n, .n, .n, .g, .g]) (args := [.agg #[.int .i64 x1, .int .i64 x2, .bool x3, (sv v4), (sv v5), (sv v6)], .agg #[.int .i64 x7, .int .i64 x8, (sv v9), (sv v10), (sv v11)]]) (h := h) (h' := h) (v := .bool false) (hC := (ai (g_ft l_f) (ai (g_ft l_f) (ai (g_ft l_f) (ai (g_ft l_f) (ai (g_ft l_f) (ai (g_ft l_f) (ai (g_ft l_f) (ai (g_ft l_f) (ai c15 (ai (g_ft c15) (ai (g_ft c15) (ai (g_ft c15) (ai (g_ft c15) (ai c14 (ai (g_tt c14) (ai (SlE.len hv9) (ai (g_tt c14) (ai (g_tt c14) (ai (g_tt c14) (ai (F35_spec x1 x2 x3 l4 l5 l6 20 8 v4 v5 v6 h hv4 hv5 hv6 _ e12) trivial))))))))))))))))))))) (hr := by kernel_rfl)
  · intro hr
    obtain rfl := Option.some.inj hr
    exact pFun_sound good tab_ok (f := 10) (its := [.g, .g, .g, .g, (.c (.bool y12) h), .g, .n, .n, .n, .n, (.p false), .g, .n, .n, .n, .n, .g, .g, .n, .n, .n, .n, .g, .g, .n, .n, .n, .n, .g, .g]) (args := [.agg #[.int .i64 x1, .int .i64 x2, .bool x3, (sv v4), (sv v5), (sv v6)], .agg #[.int .i64 x7, .int .i64 x8, (sv v9), (sv v10), (sv v11)]]) (h := h) (h' := h) (v := .bool false) (hC := (ai (g_ft l_f) (ai (g_ft l_f) (ai (g_ft l_f) (ai (g_ft l_f) (ai (g_ft l_f) (ai (g_ft l_f) (ai (g_ft l_f) (ai (g_ft l_f) (ai (g_ft l_f) (ai (g_ft l_f) (ai (g_ft l_f) (ai (g_ft l_f) (ai c14 (ai (g_ft c14) (ai (g_ft c14) (ai (g_ft c14) (ai (g_ft c14) (ai (F35_spec x1 x2 x3 l4 l5 l6 20 8 v4 v5 v6 h hv4 hv5 hv6 _ e12) trivial))))))))))))))))))) (hr := by kernel_rfl)
/-! 101 jacquard/dataflow.Nodes -/
def F101 (x1 : Int) (x2 : Int) (x3 : Bool) (l4 : List (Int × Int × Int × Int)) (l5 : List (Int × Int × Int × Int)) (l6 : List (Int × Int)) : Int :=
  (IntKind.i64.wrap ((IntKind.i64.wrap (x1 + x2)) + 2))
set_option maxRecDepth 100000 in
theorem F101_spec (x1 : Int) (x2 : Int) (x3 : Bool) (l4 : List (Int × Int × Int × Int)) (l5 : List (Int × Int × Int × Int)) (l6 : List (Int × Int)) (v4 : Hd) (v5 : Hd) (v6 : Hd) (h : AHeap) (hv4 : SlE E81 4 h (sv v4) l4) (hv5 : SlE E38 4 h (sv v5) l5) (hv6 : SlE E35 2 h (sv v6) l6) (r : Int) : F101 x1 x2 x3 l4 l5 l6 = r → ACalls Try.prog 101 [.agg #[.int .i64 x1, .int .i64 x2, .bool x3, (sv v4), (sv v5), (sv v6)]] h (fun v' h'' => v' = (.int .i64 r : Value) ∧ h'' = h) := by
  unfold F101
  intro hr
  subst hr
  exact pFun_sound good tab_ok (f := 101) (its := [.g, .g, .g, .g, .g, .g, .g, .g, .g]) (args := [.agg #[.int .i64 x1, .int .i64 x2, .bool x3, (sv v4), (sv v5), (sv v6)]]) (h := h) (h' := h) (v := .int .i64 (IntKind.i64.wrap ((IntKind.i64.wrap (x1 + x2)) + 2))) (hC := trivial) (hr := by kernel_rfl)
/-! 102 jacquard/dataflow.End -/
def F102 (x1 : Int) (x2 : Int) (x3 : Bool) (l4 : List (Int × Int × Int × Int)) (l5 : List (Int × Int × Int × Int)) (l6 : List (Int × Int)) : Int :=
  (IntKind.i64.wrap ((IntKind.i64.wrap (x1 + x2)) + 1))
set_option maxRecDepth 100000 in
theorem F102_spec (x1 : Int) (x2 : Int) (x3 : Bool) (l4 : List (Int × Int × Int × Int)) (l5 : List (Int × Int × Int × Int)) (l6 : List (Int × Int)) (v4 : Hd) (v5 : Hd) (v6 : Hd) (h : AHeap) (hv4 : SlE E81 4 h (sv v4) l4) (hv5 : SlE E38 4 h (sv v5) l5) (hv6 : SlE E35 2 h (sv v6) l6) (r : Int) : F102 x1 x2 x3 l4 l5 l6 = r → ACalls Try.prog 102 [.agg #[.int .i64 x1, .int .i64 x2, .bool x3, (sv v4), (sv v5), (sv v6)]] h (fun v' h'' => v' = (.int .i64 r : Value) ∧ h'' = h) := by
  unfold F102
  intro hr
  subst hr
  exact pFun_sound good tab_ok (f := 102) (its := [.g, .g, .g, .g, .g, .g, .g, .g, .g]) (args := [.agg #[.int .i64 x1, .int .i64 x2, .bool x3, (sv v4), (sv v5), (sv v6)]]) (h := h) (h' := h) (v := .int .i64 (IntKind.i64.wrap ((IntKind.i64.wrap (x1 + x2)) + 1))) (hC := trivial) (hr := by kernel_rfl)
/-! 87 jacquard/dataflow.validArc -/
def F87 (x1 : Int) (x2 : Int) (x3 : Bool) (l4 : List (Int × Int × Int × Int)) (l5 : List (Int × Int × Int × Int)) (l6 : List (Int × Int)) (x7 : Int) (x8 : Int) (x9 : Int) (x10 : Int) : Bool :=
  (bif decide (x7 ≥ 0) then
   (bif decide (x7 < (F101 x1 x2 x3 l4 l5 l6)) then
    (bif (x7 != (F102 x1 x2 x3 l4 l5 l6)) then
     (bif decide (x8 ≥ 0) then
      (bif decide (x8 < (F101 x1 x2 x3 l4 l5 l6)) then
       (bif decide (x9 ≥ 0) then
        (bif decide (x9 ≤ 4096) then
         (bif decide (x10 ≥ 0) then
          (bif decide (x10 ≤ 256) then
           (bif (x10 == 0) then
            true
           else
            x3)
          else
           false)
         else
          false)
        else
         false)
       else
        false)
      else
       false)
     else
      false)
    else
     false)
   else
    false)
  else
   false)
set_option maxRecDepth 100000 in
theorem F87_spec (x1 : Int) (x2 : Int) (x3 : Bool) (l4 : List (Int × Int × Int × Int)) (l5 : List (Int × Int × Int × Int)) (l6 : List (Int × Int)) (x7 : Int) (x8 : Int) (x9 : Int) (x10 : Int) (v4 : Hd) (v5 : Hd) (v6 : Hd) (h : AHeap) (hv4 : SlE E81 4 h (sv v4) l4) (hv5 : SlE E38 4 h (sv v5) l5) (hv6 : SlE E35 2 h (sv v6) l6) (r : Bool) : F87 x1 x2 x3 l4 l5 l6 x7 x8 x9 x10 = r → ACalls Try.prog 87 [.agg #[.int .i64 x1, .int .i64 x2, .bool x3, (sv v4), (sv v5), (sv v6)], .agg #[.int .i64 x7, .int .i64 x8, .int .i64 x9, .int .i64 x10]] h (fun v' h'' => v' = (.bool r : Value) ∧ h'' = h) := by
  unfold F87
  refine dec_bif (fun c12 => ?_) (fun c12 => ?_)
  · refine dec_bif (fun c13 => ?_) (fun c13 => ?_)
    · refine dec_bif (fun c15 => ?_) (fun c15 => ?_)
      · refine dec_bif (fun c16 => ?_) (fun c16 => ?_)
        · refine dec_bif (fun c17 => ?_) (fun c17 => ?_)
          · refine dec_bif (fun c18 => ?_) (fun c18 => ?_)
            · refine dec_bif (fun c19 => ?_) (fun c19 => ?_)
              · refine dec_bif (fun c20 => ?_) (fun c20 => ?_)
                · refine dec_bif (fun c21 => ?_) (fun c21 => ?_)
                  · refine dec_bif (fun c22 => ?_) (fun c22 => ?_)
                    · intro hr
                      subst hr
                      exact pFun_sound good tab_ok (f := 87) (its := [.g, .g, .g, .g, (.c (.int .i64 (F101 x1 x2 x3 l4 l5 l6)) h), .g, .g, .g, .g, .g, (.w .g), (.w .g), (.w .g), (.w .g), (.p true), .g, (.w .g), (.w .g), (.w .g), (.w (.c (.int .i64 (F102 x1 x2 x3 l4 l5 l6)) h)), (.w .g), (.p true), .g, (.w .g), (.w .g), (.w .g), (.p true), .g, (.w .g), (.w .g), (.w .g), (.w .g), (.p true), .g, (.w .g), (.w .g), (.w .g), (.p true), .g, (.w .g), (.w .g), (.w .g), (.p true), .g, (.w .g), (.w .g), (.w .g), (.p true), .g, (.w .g), (.w .g), (.w .g), (.p true), .g, (.w .g), (.w .g), (.w .g), (.w .g), .n, .n, (.w (.p true)), (.p true), .g]) (args := [.agg #[.int .i64 x1, .int .i64 x2, .bool x3, (sv v4), (sv v5), (sv v6)], .agg #[.int .i64 x7, .int .i64 x8, .int .i64 x9, .int .i64 x10]]) (h := h) (h' := h) (v := .bool true) (hC := (ai c21 (ai c22 (ai (g_tt c21) (ai (g_tf c22) (ai (g_tf c22) (ai (g_tt c21) (ai (g_tt c21) (ai (g_tt c21) (ai (g_tt c21) (ai c20 (ai (g_tt c20) (ai (g_tt c20) (ai (g_tt c20) (ai c19 (ai (g_tt c19) (ai (g_tt c19) (ai (g_tt c19) (ai c18 (ai (g_tt c18) (ai (g_tt c18) (ai (g_tt c18) (ai c17 (ai (g_tt c17) (ai (g_tt c17) (ai (g_tt c17) (ai c16 (ai (g_tt c16) (ai (g_tt c16) (ai (g_tt c16) (ai (g_tt c16) (ai c15 (ai (g_tt c15) (ai (g_tt c15) (ai (g_tt c15) (ai c13 (ai (g_tt c13) (ai (show AKeep h h from (AHeap.sub_refl h)) (ai (F102_spec x1 x2 x3 l4 l5 l6 v4 v5 v6 h hv4 hv5 hv6 _ rfl) (ai (g_tt c13) (ai (g_tt c13) (ai (g_tt c13) (ai (g_tt c13) (ai c12 (ai (g_tt c12) (ai (g_tt c12) (ai (g_tt c12) (ai (g_tt c12) (ai (F101_spec x1 x2 x3 l4 l5 l6 v4 v5 v6 h hv4 hv5 hv6 _ rfl) trivial))))))))))))))))))))))))))))))))))))))))))))))))) (hr := by kernel_rfl)
                    · intro hr
                      subst hr
                      exact pFun_sound good tab_ok (f := 87) (its := [.g, .g, .g, .g, (.c (.int .i64 (F101 x1 x2 x3 l4 l5 l6)) h), .g, .g, .g, .g, .g, (.w .g), (.w .g), (.w .g), (.w .g), (.p true), .g, (.w .g), (.w .g), (.w .g), (.w (.c (.int .i64 (F102 x1 x2 x3 l4 l5 l6)) h)), (.w .g), (.p true), .g, (.w .g), (.w .g), (.w .g), (.p true), .g, (.w .g), (.w .g), (.w .g), (.w .g), (.p true), .g, (.w .g), (.w .g), (.w .g), (.p true), .g, (.w .g), (.w .g), (.w .g), (.p true), .g, (.w .g), (.w .g), (.w .g), (.p true), .g, (.w .g), (.w .g), (.w .g), (.p true), .g, (.w .g), (.w .g), (.w .g), (.w .g), (.w .g), (.w .g), (.w (.p false)), (.p true), .g]) (args := [.agg #[.int .i64 x1, .int .i64 x2, .bool x3, (sv v4), (sv v5), (sv v6)], .agg #[.int .i64 x7, .int .i64 x8, .int .i64 x9, .int .i64 x10]]) (h := h) (h' := h) (v := .bool x3) (hC := (ai c21 (ai c22 (ai (g_tt c21) (ai (g_ff c22) (ai (g_ff c22) (ai (g_tt c21) (ai (g_tt c21) (ai (g_tt c21) (ai (g_tt c21) (ai c20 (ai (g_tt c20) (ai (g_tt c20) (ai (g_tt c20) (ai c19 (ai (g_tt c19) (ai (g_tt c19) (ai (g_tt c19) (ai c18 (ai (g_tt c18) (ai (g_tt c18) (ai (g_tt c18) (ai c17 (ai (g_tt c17) (ai (g_tt c17) (ai (g_tt c17) (ai c16 (ai (g_tt c16) (ai (g_tt c16) (ai (g_tt c16) (ai (g_tt c16) (ai c15 (ai (g_tt c15) (ai (g_tt c15) (ai (g_tt c15) (ai c13 (ai (g_tt c13) (ai (show AKeep h h from (AHeap.sub_refl h)) (ai (F102_spec x1 x2 x3 l4 l5 l6 v4 v5 v6 h hv4 hv5 hv6 _ rfl) (ai (g_tt c13) (ai (g_tt c13) (ai (g_tt c13) (ai (g_tt c13) (ai c12 (ai (g_tt c12) (ai (g_tt c12) (ai (g_tt c12) (ai (g_tt c12) (ai (F101_spec x1 x2 x3 l4 l5 l6 v4 v5 v6 h hv4 hv5 hv6 _ rfl) trivial))))))))))))))))))))))))))))))))))))))))))))))))) (hr := by kernel_rfl)
                  · intro hr
                    subst hr
                    exact pFun_sound good tab_ok (f := 87) (its := [.g, .g, .g, .g, (.c (.int .i64 (F101 x1 x2 x3 l4 l5 l6)) h), .g, .g, .g, .g, .g, (.w .g), (.w .g), (.w .g), (.w .g), (.p true), .g, (.w .g), (.w .g), (.w .g), (.w (.c (.int .i64 (F102 x1 x2 x3 l4 l5 l6)) h)), (.w .g), (.p true), .g, (.w .g), (.w .g), (.w .g), (.p true), .g, (.w .g), (.w .g), (.w .g), (.w .g), (.p true), .g, (.w .g), (.w .g), (.w .g), (.p true), .g, (.w .g), (.w .g), (.w .g), (.p true), .g, (.w .g), (.w .g), (.w .g), (.p true), .g, (.w .g), (.w .g), (.w .g), (.p true), .g, .n, .n, .n, .n, .n, .n, .n, (.p false), .g]) (args := [.agg #[.int .i64 x1, .int .i64 x2, .bool x3, (sv v4), (sv v5), (sv v6)], .agg #[.int .i64 x7, .int .i64 x8, .int .i64 x9, .int .i64 x10]]) (h := h) (h' := h) (v := .bool false) (hC := (ai c21 (ai (g_ft c21) (ai l_f (ai l_f (ai (g_ft c21) (ai (g_ft c21) (ai (g_ft c21) (ai (g_ft c21) (ai c20 (ai (g_tt c20) (ai (g_tt c20) (ai (g_tt c20) (ai c19 (ai (g_tt c19) (ai (g_tt c19) (ai (g_tt c19) (ai c18 (ai (g_tt c18) (ai (g_tt c18) (ai (g_tt c18) (ai c17 (ai (g_tt c17) (ai (g_tt c17) (ai (g_tt c17) (ai c16 (ai (g_tt c16) (ai (g_tt c16) (ai (g_tt c16) (ai (g_tt c16) (ai c15 (ai (g_tt c15) (ai (g_tt c15) (ai (g_tt c15) (ai c13 (ai (g_tt c13) (ai (show AKeep h h from (AHeap.sub_refl h)) (ai (F102_spec x1 x2 x3 l4 l5 l6 v4 v5 v6 h hv4 hv5 hv6 _ rfl) (ai (g_tt c13) (ai (g_tt c13) (ai (g_tt c13) (ai (g_tt c13) (ai c12 (ai (g_tt c12) (ai (g_tt c12) (ai (g_tt c12) (ai (g_tt c12) (ai (F101_spec x1 x2 x3 l4 l5 l6 v4 v5 v6 h hv4 hv5 hv6 _ rfl) trivial)))))))))))))))))))))))))))))))))))))))))))))))) (hr := by kernel_rfl)
                · intro hr
                  subst hr
                  exact pFun_sound good tab_ok (f := 87) (its := [.g, .g, .g, .g, (.c (.int .i64 (F101 x1 x2 x3 l4 l5 l6)) h), .g, .g, .g, .g, .g, (.w .g), (.w .g), (.w .g), (.w .g), (.p true), .g, (.w .g), (.w .g), (.w .g), (.w (.c (.int .i64 (F102 x1 x2 x3 l4 l5 l6)) h)), (.w .g), (.p true), .g, (.w .g), (.w .g), (.w .g), (.p true), .g, (.w .g), (.w .g), (.w .g), (.w .g), (.p true), .g, (.w .g), (.w .g), (.w .g), (.p true), .g, (.w .g), (.w .g), (.w .g), (.p true), .g, (.w .g), (.w .g), (.w .g), (.p true), .g, .n, .n, .n, (.p false), .g, .n, .n, .n, .n, .n, .n, .n, .g, .g]) (args := [.agg #[.int .i64 x1, .int .i64 x2, .bool x3, (sv v4), (sv v5), (sv v6)], .agg #[.int .i64 x7, .int .i64 x8, .int .i64 x9, .int .i64 x10]]) (h := h) (h' := h) (v := .bool false) (hC := (ai (g_ft l_f) (ai l_f (ai l_f (ai (g_ft l_f) (ai (g_ft l_f) (ai (g_ft l_f) (ai (g_ft l_f) (ai c20 (ai (g_ft c20) (ai (g_ft c20) (ai (g_ft c20) (ai c19 (ai (g_tt c19) (ai (g_tt c19) (ai (g_tt c19) (ai c18 (ai (g_tt c18) (ai (g_tt c18) (ai (g_tt c18) (ai c17 (ai (g_tt c17) (ai (g_tt c17) (ai (g_tt c17) (ai c16 (ai (g_tt c16) (ai (g_tt c16) (ai (g_tt c16) (ai (g_tt c16) (ai c15 (ai (g_tt c15) (ai (g_tt c15) (ai (g_tt c15) (ai c13 (ai (g_tt c13) (ai (show AKeep h h from (AHeap.sub_refl h)) (ai (F102_spec x1 x2 x3 l4 l5 l6 v4 v5 v6 h hv4 hv5 hv6 _ rfl) (ai (g_tt c13) (ai (g_tt c13) (ai (g_tt c13) (ai (g_tt c13) (ai c12 (ai (g_tt c12) (ai (g_tt c12) (ai (g_tt c12) (ai (g_tt c12) (ai (F101_spec x1 x2 x3 l4 l5 l6 v4 v5 v6 h hv4 hv5 hv6 _ rfl) trivial))))))))))))))))))))))))))))))))))))))))))))))) (hr := by kernel_rfl)
              · intro hr
                subst hr
                exact pFun_sound good tab_ok (f := 87) (its := [.g, .g, .g, .g, (.c (.int .i64 (F101 x1 x2 x3 l4 l5 l6)) h), .g, .g, .g, .g, .g, (.w .g), (.w .g), (.w .g), (.w .g), (.p true), .g, (.w .g), (.w .g), (.w .g), (.w (.c (.int .i64 (F102 x1 x2 x3 l4 l5 l6)) h)), (.w .g), (.p true), .g, (.w .g), (.w .g), (.w .g), (.p true), .g, (.w .g), (.w .g), (.w .g), (.w .g), (.p true), .g, (.w .g), (.w .g), (.w .g), (.p true), .g, (.w .g), (.w .g), (.w .g), (.p true), .g, .n, .n, .n, (.p false), .g, .n, .n, .n, .g, .g, .n, .n, .n, .n, .n, .n, .n, .g, .g]) (args := [.agg #[.int .i64 x1, .int .i64 x2, .bool x3, (sv v4), (sv v5), (sv v6)], .agg #[.int .i64 x7, .int .i64 x8, .int .i64 x9, .int .i64 x10]]) (h := h) (h' := h) (v := .bool false) (hC := (ai (g_ft l_f) (ai l_f (ai l_f (ai (g_ft l_f) (ai (g_ft l_f) (ai (g_ft l_f) (ai (g_ft l_f) (ai (g_ft l_f) (ai (g_ft l_f) (ai (g_ft l_f) (ai c19 (ai (g_ft c19) (ai (g_ft c19) (ai (g_ft c19) (ai c18 (ai (g_tt c18) (ai (g_tt c18) (ai (g_tt c18) (ai c17 (ai (g_tt c17) (ai (g_tt c17) (ai (g_tt c17) (ai c16 (ai (g_tt c16) (ai (g_tt c16) (ai (g_tt c16) (ai (g_tt c16) (ai c15 (ai (g_tt c15) (ai (g_tt c15) (ai (g_tt c15) (ai c13 (ai (g_tt c13) (ai (show AKeep h h from (AHeap.sub_refl h)) (ai (F102_spec x1 x2 x3 l4 l5 l6 v4 v5 v6 h hv4 hv5 hv6 _ rfl) (ai (g_tt c13) (ai (g_tt c13) (ai (g_tt c13) (ai (g_tt c13) (ai c12 (ai (g_tt c12) (ai (g_tt c12) (ai (g_tt c12) (ai (g_tt c12) (ai (F101_spec x1 x2 x3 l4 l5 l6 v4 v5 v6 h hv4 hv5 hv6 _ rfl) trivial)))))))))))))))))))))))))))))))))))))))))))))) (hr := by kernel_rfl)
            · intro hr
              subst hr
              exact pFun_sound good tab_ok (f := 87) (its := [.g, .g, .g, .g, (.c (.int .i64 (F101 x1 x2 x3 l4 l5 l6)) h), .g, .g, .g, .g, .g, (.w .g), (.w .g), (.w .g), (.w .g), (.p true), .g, (.w .g), (.w .g), (.w .g), (.w (.c (.int .i64 (F102 x1 x2 x3 l4 l5 l6)) h)), (.w .g), (.p true), .g, (.w .g), (.w .g), (.w .g), (.p true), .g, (.w .g), (.w .g), (.w .g), (.w .g), (.p true), .g, (.w .g), (.w .g), (.w .g), (.p true), .g, .n, .n, .n, (.p false), .g, .n, .n, .n, .g, .g, .n, .n, .n, .g, .g, .n, .n, .n, .n, .n, .n, .n, .g, .g]) (args := [.agg #[.int .i64 x1, .int .i64 x2, .bool x3, (sv v4), (sv v5), (sv v6)], .agg #[.int .i64 x7, .int .i64 x8, .int .i64 x9, .int .i64 x10]]) (h := h) (h' := h) (v := .bool false) (hC := (ai (g_ft l_f) (ai l_f (ai l_f (ai (g_ft l_f) (ai (g_ft l_f) (ai (g_ft l_f) (ai (g_ft l_f) (ai (g_ft l_f) (ai (g_ft l_f) (ai (g_ft l_f) (ai (g_ft l_f) (ai (g_ft l_f) (ai (g_ft l_f) (ai c18 (ai (g_ft c18) (ai (g_ft c18) (ai (g_ft c18) (ai c17 (ai (g_tt c17) (ai (g_tt c17) (ai (g_tt c17) (ai c16 (ai (g_tt c16) (ai (g_tt c16) (ai (g_tt c16) (ai (g_tt c16) (ai c15 (ai (g_tt c15) (ai (g_tt c15) (ai (g_tt c15) (ai c13 (ai (g_tt c13) (ai (show AKeep h h from (AHeap.sub_refl h)) (ai (F102_spec x1 x2 x3 l4 l5 l6 v4 v5 v6 h hv4 hv5 hv6 _ rfl) (ai (g_tt c13) (ai (g_tt c13) (ai (g_tt c13) (ai (g_tt c13) (ai c12 (ai (g_tt c12) (ai (g_tt c12) (ai (g_tt c12) (ai (g_tt c12) (ai (F101_spec x1 x2 x3 l4 l5 l6 v4 v5 v6 h hv4 hv5 hv6 _ rfl) trivial))))))))))))))))))))))))))))))))))))))))))))) (hr := by kernel_rfl)
          · intro hr
            subst hr
            exact pFun_sound good tab_ok (f := 87) (its := [.g, .g, .g, .g, (.c (.int .i64 (F101 x1 x2 x3 l4 l5 l6)) h), .g, .g, .g, .g, .g, (.w .g), (.w .g), (.w .g), (.w .g), (.p true), .g, (.w .g), (.w .g), (.w .g), (.w (.c (.int .i64 (F102 x1 x2 x3 l4 l5 l6)) h)), (.w .g), (.p true), .g, (.w .g), (.w .g), (.w .g), (.p true), .g, (.w .g), (.w .g), (.w .g), (.w .g), (.p true), .g, .n, .n, .n, (.p false), .g, .n, .n, .n, .g, .g, .n, .n, .n, .g, .g, .n, .n, .n, .g, .g, .n, .n, .n, .n, .n, .n, .n, .g, .g]) (args := [.agg #[.int .i64 x1, .int .i64 x2, .bool x3, (sv v4), (sv v5), (sv v6)], .agg #[.int .i64 x7, .int .i64 x8, .int .i64 x9, .int .i64 x10]]) (h := h) (h' := h) (v := .bool false) (hC := (ai (g_ft l_f) (ai l_f (ai l_f (ai (g_ft l_f) (ai (g_ft l_f) (ai (g_ft l_f) (ai (g_ft l_f) (ai (g_ft l_f) (ai (g_ft l_f) (ai (g_ft l_f) (ai (g_ft l_f) (ai (g_ft l_f) (ai (g_ft l_f) (ai (g_ft l_f) (ai (g_ft l_f) (ai (g_ft l_f) (ai c17 (ai (g_ft c17) (ai (g_ft c17) (ai (g_ft c17) (ai c16 (ai (g_tt c16) (ai (g_tt c16) (ai (g_tt c16) (ai (g_tt c16) (ai c15 (ai (g_tt c15) (ai (g_tt c15) (ai (g_tt c15) (ai c13 (ai (g_tt c13) (ai (show AKeep h h from (AHeap.sub_refl h)) (ai (F102_spec x1 x2 x3 l4 l5 l6 v4 v5 v6 h hv4 hv5 hv6 _ rfl) (ai (g_tt c13) (ai (g_tt c13) (ai (g_tt c13) (ai (g_tt c13) (ai c12 (ai (g_tt c12) (ai (g_tt c12) (ai (g_tt c12) (ai (g_tt c12) (ai (F101_spec x1 x2 x3 l4 l5 l6 v4 v5 v6 h hv4 hv5 hv6 _ rfl) trivial)))))))))))))))))))))))))))))))))))))))))))) (hr := by kernel_rfl)
        · intro hr
          subst hr
          exact pFun_sound good tab_ok (f := 87) (its := [.g, .g, .g, .g, (.c (.int .i64 (F101 x1 x2 x3 l4 l5 l6)) h), .g, .g, .g, .g, .g, (.w .g), (.w .g), (.w .g), (.w .g), (.p true), .g, (.w .g), (.w .g), (.w .g), (.w (.c (.int .i64 (F102 x1 x2 x3 l4 l5 l6)) h)), (.w .g), (.p true), .g, (.w .g), (.w .g), (.w .g), (.p true), .g, .n, .n, .n, .n, (.p false), .g, .n, .n, .n, .g, .g, .n, .n, .n, .g, .g, .n, .n, .n, .g, .g, .n, .n, .n, .g, .g, .n, .n, .n, .n, .n, .n, .n, .g, .g]) (args := [.agg #[.int .i64 x1, .int .i64 x2, .bool x3, (sv v4), (sv v5), (sv v6)], .agg #[.int .i64 x7, .int .i64 x8, .int .i64 x9, .int .i64 x10]]) (h := h) (h' := h) (v := .bool false) (hC := (ai (g_ft l_f) (ai l_f (ai l_f (ai (g_ft l_f) (ai (g_ft l_f) (ai (g_ft l_f) (ai (g_ft l_f) (ai (g_ft l_f) (ai (g_ft l_f) (ai (g_ft l_f) (ai (g_ft l_f) (ai (g_ft l_f) (ai (g_ft l_f) (ai (g_ft l_f) (ai (g_ft l_f) (ai (g_ft l_f) (ai (g_ft l_f) (ai (g_ft l_f) (ai (g_ft l_f) (ai c16 (ai (g_ft c16) (ai (g_ft c16) (ai (g_ft c16) (ai (g_ft c16) (ai c15 (ai (g_tt c15) (ai (g_tt c15) (ai (g_tt c15) (ai c13 (ai (g_tt c13) (ai (show AKeep h h from (AHeap.sub_refl h)) (ai (F102_spec x1 x2 x3 l4 l5 l6 v4 v5 v6 h hv4 hv5 hv6 _ rfl) (ai (g_tt c13) (ai (g_tt c13) (ai (g_tt c13) (ai (g_tt c13) (ai c12 (ai (g_tt c12) (ai (g_tt c12) (ai (g_tt c12) (ai (g_tt c12) (ai (F101_spec x1 x2 x3 l4 l5 l6 v4 v5 v6 h hv4 hv5 hv6 _ rfl) trivial))))))))))))))))))))))))))))))))))))))))))) (hr := by kernel_rfl)
      · intro hr
        subst hr
        exact pFun_sound good tab_ok (f := 87) (its := [.g, .g, .g, .g, (.c (.int .i64 (F101 x1 x2 x3 l4 l5 l6)) h), .g, .g, .g, .g, .g, (.w .g), (.w .g), (.w .g), (.w .g), (.p true), .g, (.w .g), (.w .g), (.w .g), (.w (.c (.int .i64 (F102 x1 x2 x3 l4 l5 l6)) h)), (.w .g), (.p true), .g, .n, .n, .n, (.p false), .g, .n, .n, .n, .n, .g, .g, .n, .n, .n, .g, .g, .n, .n, .n, .g, .g, .n, .n, .n, .g, .g, .n, .n, .n, .g, .g, .n, .n, .n, .n, .n, .n, .n, .g, .g]) (args := [.agg #[.int .i64 x1, .int .i64 x2, .bool x3, (sv v4), (sv v5), (sv v6)], .agg #[.int .i64 x7, .int .i64 x8, .int .i64 x9, .int .i64 x10]]) (h := h) (h' := h) (v := .bool false) (hC := (ai (g_ft l_f) (ai l_f (ai l_f (ai (g_ft l_f) (ai (g_ft l_f) (ai (g_ft l_f) (ai (g_ft l_f) (ai (g_ft l_f) (ai (g_ft l_f) (ai (g_ft l_f) (ai (g_ft l_f) (ai (g_ft l_f) (ai (g_ft l_f) (ai (g_ft l_f) (ai (g_ft l_f) (ai (g_ft l_f) (ai (g_ft l_f) (ai (g_ft l_f) (ai (g_ft l_f) (ai (g_ft l_f) (ai (g_ft l_f) (ai (g_ft l_f) (ai (g_ft l_f) (ai c15 (ai (g_ft c15) (ai (g_ft c15) (ai (g_ft c15) (ai c13 (ai (g_tt c13) (ai (show AKeep h h from (AHeap.sub_refl h)) (ai (F102_spec x1 x2 x3 l4 l5 l6 v4 v5 v6 h hv4 hv5 hv6 _ rfl) (ai (g_tt c13) (ai (g_tt c13) (ai (g_tt c13) (ai (g_tt c13) (ai c12 (ai (g_tt c12) (ai (g_tt c12) (ai (g_tt c12) (ai (g_tt c12) (ai (F101_spec x1 x2 x3 l4 l5 l6 v4 v5 v6 h hv4 hv5 hv6 _ rfl) trivial)))))))))))))))))))))))))))))))))))))))))) (hr := by kernel_rfl)
    · intro hr
      subst hr
      exact pFun_sound good tab_ok (f := 87) (its := [.g, .g, .g, .g, (.c (.int .i64 (F101 x1 x2 x3 l4 l5 l6)) h), .g, .g, .g, .g, .g, (.w .g), (.w .g), (.w .g), (.w .g), (.p true), .g, .n, .n, .n, .n, .n, (.p false), .g, .n, .n, .n, .g, .g, .n, .n, .n, .n, .g, .g, .n, .n, .n, .g, .g, .n, .n, .n, .g, .g, .n, .n, .n, .g, .g, .n, .n, .n, .g, .g, .n, .n, .n, .n, .n, .n, .n, .g, .g]) (args := [.agg #[.int .i64 x1, .int .i64 x2, .bool x3, (sv v4), (sv v5), (sv v6)], .agg #[.int .i64 x7, .int .i64 x8, .int .i64 x9, .int .i64 x10]]) (h := h) (h' := h) (v := .bool false) (hC := (ai (g_ft l_f) (ai l_f (ai l_f (ai (g_ft l_f) (ai (g_ft l_f) (ai (g_ft l_f) (ai (g_ft l_f) (ai (g_ft l_f) (ai (g_ft l_f) (ai (g_ft l_f) (ai (g_ft l_f) (ai (g_ft l_f) (ai (g_ft l_f) (ai (g_ft l_f) (ai (g_ft l_f) (ai (g_ft l_f) (ai (g_ft l_f) (ai (g_ft l_f) (ai (g_ft l_f) (ai (g_ft l_f) (ai (g_ft l_f) (ai (g_ft l_f) (ai (g_ft l_f) (ai (g_ft l_f) (ai (g_ft l_f) (ai (g_ft l_f) (ai c13 (ai (g_ft c13) (ai (g_ft c13) (ai (g_ft c13) (ai (g_ft c13) (ai (g_ft c13) (ai c12 (ai (g_tt c12) (ai (g_tt c12) (ai (g_tt c12) (ai (g_tt c12) (ai (F101_spec x1 x2 x3 l4 l5 l6 v4 v5 v6 h hv4 hv5 hv6 _ rfl) trivial))))))))))))))))))))))))))))))))))))))) (hr := by kernel_rfl)
  · intro hr
    subst hr
    exact pFun_sound good tab_ok (f := 87) (its := [.g, .g, .g, .g, (.c (.int .i64 (F101 x1 x2 x3 l4 l5 l6)) h), .g, .g, .g, .g, .g, .n, .n, .n, .n, (.p false), .g, .n, .n, .n, .n, .n, .g, .g, .n, .n, .n, .g, .g, .n, .n, .n, .n, .g, .g, .n, .n, .n, .g, .g, .n, .n, .n, .g, .g, .n, .n, .n, .g, .g, .n, .n, .n, .g, .g, .n, .n, .n, .n, .n, .n, .n, .g, .g]) (args := [.agg #[.int .i64 x1, .int .i64 x2, .bool x3, (sv v4), (sv v5), (sv v6)], .agg #[.int .i64 x7, .int .i64 x8, .int .i64 x9, .int .i64 x10]]) (h := h) (h' := h) (v := .bool false) (hC := (ai (g_ft l_f) (ai l_f (ai l_f (ai (g_ft l_f) (ai (g_ft l_f) (ai (g_ft l_f) (ai (g_ft l_f) (ai (g_ft l_f) (ai (g_ft l_f) (ai (g_ft l_f) (ai (g_ft l_f) (ai (g_ft l_f) (ai (g_ft l_f) (ai (g_ft l_f) (ai (g_ft l_f) (ai (g_ft l_f) (ai (g_ft l_f) (ai (g_ft l_f) (ai (g_ft l_f) (ai (g_ft l_f) (ai (g_ft l_f) (ai (g_ft l_f) (ai (g_ft l_f) (ai (g_ft l_f) (ai (g_ft l_f) (ai (g_ft l_f) (ai (g_ft l_f) (ai (g_ft l_f) (ai (g_ft l_f) (ai (g_ft l_f) (ai (g_ft l_f) (ai c12 (ai (g_ft c12) (ai (g_ft c12) (ai (g_ft c12) (ai (g_ft c12) (ai (F101_spec x1 x2 x3 l4 l5 l6 v4 v5 v6 h hv4 hv5 hv6 _ rfl) trivial)))))))))))))))))))))))))))))))))))))) (hr := by kernel_rfl)
/-! 103 jacquard/dataflow.Source -/
def F103 (x1 : Int) (x2 : Int) (x3 : Bool) (l4 : List (Int × Int × Int × Int)) (l5 : List (Int × Int × Int × Int)) (l6 : List (Int × Int)) : Int :=
  (IntKind.i64.wrap (x1 + x2))
set_option maxRecDepth 100000 in
theorem F103_spec (x1 : Int) (x2 : Int) (x3 : Bool) (l4 : List (Int × Int × Int × Int)) (l5 : List (Int × Int × Int × Int)) (l6 : List (Int × Int)) (v4 : Hd) (v5 : Hd) (v6 : Hd) (h : AHeap) (hv4 : SlE E81 4 h (sv v4) l4) (hv5 : SlE E38 4 h (sv v5) l5) (hv6 : SlE E35 2 h (sv v6) l6) (r : Int) : F103 x1 x2 x3 l4 l5 l6 = r → ACalls Try.prog 103 [.agg #[.int .i64 x1, .int .i64 x2, .bool x3, (sv v4), (sv v5), (sv v6)]] h (fun v' h'' => v' = (.int .i64 r : Value) ∧ h'' = h) := by
  unfold F103
  intro hr
  subst hr
  exact pFun_sound good tab_ok (f := 103) (its := [.g, .g, .g, .g, .g, .g, .g, .g]) (args := [.agg #[.int .i64 x1, .int .i64 x2, .bool x3, (sv v4), (sv v5), (sv v6)]]) (h := h) (h' := h) (v := .int .i64 (IntKind.i64.wrap (x1 + x2))) (hC := trivial) (hr := by kernel_rfl)
/-! 88 jacquard/dataflow.validFrame -/
def F88_L : List Nat := [1, 7]
def F88_D : List (Nat × List (Nat × Nat)) := [(10, [(0, 2), (2, 2), (5, 2), (7, 2), (1, 3), (3, 2), (4, 5), (6, 1), (8, 2), (9, 2)]), (17, [(0, 2), (1, 2), (2, 2), (3, 2), (4, 2), (5, 2), (7, 2), (6, 3), (8, 1), (9, 2), (10, 2), (11, 2), (12, 2), (13, 2), (14, 2), (15, 2), (16, 2), (17, 2), (18, 2), (19, 2), (20, 2), (21, 2), (22, 2), (23, 2), (24, 2), (25, 2), (26, 2), (27, 2), (28, 2), (29, 2), (30, 2), (31, 2), (32, 2), (33, 2)])]
def F88__1 (x1 : Int) (x2 : Int) (l4 : List (Int × Int × Int × Int)) : Bool := decide ((l4.length : Int) < (IntKind.i64.wrap ((IntKind.i64.wrap (2 * (IntKind.i64.wrap (x1 + x2)))) + 1)))
def F88__2 (x1 : Int) (x2 : Int) (x3 : Bool) (l4 : List (Int × Int × Int × Int)) (l5 : List (Int × Int × Int × Int)) (l6 : List (Int × Int)) (y12 : Int × Int × Int × Int) : Bool := (!((y12.1 == (F103 x1 x2 x3 l4 l5 l6)) && ((y12.2.1 == (F102 x1 x2 x3 l4 l5 l6)) && ((y12.2.2.1 == 0) && ((y12.2.2.2 == 0) && true)))))
def F88__3 (x1 : Int) (x2 : Int) (x3 : Bool) (l4 : List (Int × Int × Int × Int)) (l5 : List (Int × Int × Int × Int)) (l6 : List (Int × Int)) (a8 : Int) (y15 : Int × Int × Int × Int) : Bool := (!((y15.1 == (F103 x1 x2 x3 l4 l5 l6)) && ((y15.2.1 == a8) && ((y15.2.2.1 == 0) && ((y15.2.2.2 == 0) && true)))))
def F88_m1_2 : List Bool := [true, false, true, false, true, true, true, true, true, true, true, true, true, true, true, true, true, true, true, true, true, true, true, true, true, true, true, true, true, true, true, true, true, true, true, true, true, true, true, true, true, true, true, true, true, true, true, true, true, true, true, true, true, true, true, true, true, true, true, true, true, true, true, true, true, true, true, true, true, true, true, true, true, true, true, true, true, true, true, true, true, true, true, true, true, true, true, true, true]
def F88_m1_1 : List Bool := [true, false, true, false, true, true, true, true, true, true, true, true, true, true, true, true, true, true, true, true, true, false, false, true, true, true, true, true, true, true, true, true, true, true, true, true, true, true, true, true, true, true, true, true, true, true, true, true, true, true, true, true, true, true, true, true, true, true, true, true, true, true, true, true, true, true, true, true, true, true, true, true, true, true, true, true, true, true, true, true, true, true, true, true, true, true, true, true, true]
def F88_m1_0 : List Bool := [true, true, false, true, true, true, true, true, true, true, true, true, true, true, true, true, true, true, true, true, true, true, true, true, true, true, true, true, true, true, true, true, true, true, true, true, true, true, true, true, true, true, true, true, true, true, true, true, true, true, true, true, true, true, true, true, true, true, true, true, true, true, true, true, true, true, true, true, true, true, true, true, true, true, true, true, true, true, true, true, true, true, true, true, true, true, true, true, true]
def F88_s1 (x1 : Int) (x2 : Int) (x3 : Bool) (l4 : List (Int × Int × Int × Int)) (l5 : List (Int × Int × Int × Int)) (l6 : List (Int × Int)) (a8 : Int) : Option (Int ⊕ Nat) :=
  (bif decide (a8 < (IntKind.i64.wrap ((IntKind.i64.wrap (x1 + x2)) + 1))) then
   (bif (a8 == (IntKind.i64.wrap (x1 + x2))) then
    (Option.bind (at? l4 a8) fun y12 =>
    (bif (F88__2 x1 x2 x3 l4 l5 l6 y12) then
     some (.inr 0)
    else
     some (.inl (IntKind.i64.wrap (a8 + 1)))))
   else
    (Option.bind (at? l4 a8) fun y15 =>
    (bif (F88__3 x1 x2 x3 l4 l5 l6 a8 y15) then
     some (.inr 0)
    else
     some (.inl (IntKind.i64.wrap (a8 + 1))))))
  else
   some (.inr 1))
def F88_h1 (h : AHeap) (x1 : Int) (x2 : Int) (x3 : Bool) (v4 : Hd) (v5 : Hd) (v6 : Hd)  (a8 : Int) : AS := ⟨[junk, .pointer (some ⟨1, 0, none⟩), junk, .int .i64 (IntKind.i64.wrap (x1 + x2)), junk, junk, junk, junk, junk, junk, junk, junk, junk, junk, junk, junk, junk, junk, junk, junk, junk, .int .i64 (IntKind.i64.wrap ((IntKind.i64.wrap (x1 + x2)) + 1)), .int .i64 a8, junk, junk, junk, junk, junk, junk, junk, junk, junk, junk, junk, junk, junk, junk, junk, junk, junk, junk, junk, junk, junk, junk, junk, junk, junk, junk, junk, junk, junk, junk, junk, junk, junk, junk, junk, junk, junk, junk, junk, junk, junk, junk, junk, junk, junk, junk, junk, junk, junk, junk, junk, junk, junk, junk, junk, junk, junk, junk, junk, junk, junk, junk, junk, junk, junk, junk], [(1, [.int .i64 x1, .int .i64 x2, .bool x3, (sv v4), (sv v5), (sv v6)])], h⟩
theorem F88_d1 : drawsOk F88_D (codeOf Try.prog 88 [1, 1, 1, 0, 1, 0, 0]) = true := by kernel_rfl
def F88_x1_0 (h : AHeap) (x1 : Int) (x2 : Int) (x3 : Bool) (v4 : Hd) (v5 : Hd) (v6 : Hd)  (r : Nat) : AS := ⟨[junk, junk, .bool false, junk, junk, junk, junk, junk, junk, junk, junk, junk, junk, junk, junk, junk, junk, junk, junk, junk, junk, junk, junk, junk, junk, junk, junk, junk, junk, junk, junk, junk, junk, junk, junk, junk, junk, junk, junk, junk, junk, junk, junk, junk, junk, junk, junk, junk, junk, junk, junk, junk, junk, junk, junk, junk, junk, junk, junk, junk, junk, junk, junk, junk, junk, junk, junk, junk, junk, junk, junk, junk, junk, junk, junk, junk, junk, junk, junk, junk, junk, junk, junk, junk, junk, junk, junk, junk, junk], [], h⟩
def F88_x1_1 (h : AHeap) (x1 : Int) (x2 : Int) (x3 : Bool) (v4 : Hd) (v5 : Hd) (v6 : Hd)  (r : Nat) : AS := ⟨[junk, .pointer (some ⟨1, 0, none⟩), junk, .int .i64 (IntKind.i64.wrap (x1 + x2)), junk, junk, junk, junk, junk, junk, junk, junk, junk, junk, junk, junk, junk, junk, junk, junk, junk, junk, junk, junk, junk, junk, junk, junk, junk, junk, junk, junk, junk, junk, junk, junk, junk, junk, junk, junk, junk, junk, junk, junk, junk, junk, junk, junk, junk, junk, junk, junk, junk, junk, junk, junk, junk, junk, junk, junk, junk, junk, junk, junk, junk, junk, junk, junk, junk, junk, junk, junk, junk, junk, junk, junk, junk, junk, junk, junk, junk, junk, junk, junk, junk, junk, junk, junk, junk], [(1, [.int .i64 x1, .int .i64 x2, .bool x3, (sv v4), (sv v5), (sv v6)])], h⟩
def F88_x1 (h : AHeap) (x1 : Int) (x2 : Int) (x3 : Bool) (v4 : Hd) (v5 : Hd) (v6 : Hd) (r : Nat) : Exit × AS := (bif Nat.beq r 0 then (.ret, (F88_x1_0 h x1 x2 x3 v4 v5 v6 r)) else ((.exit 0), (F88_x1_1 h x1 x2 x3 v4 v5 v6 r)))
set_option maxRecDepth 100000 in
theorem F88_r1 (h : AHeap) (x1 : Int) (x2 : Int) (x3 : Bool) (l4 : List (Int × Int × Int × Int)) (v4 : Hd) (hv4 : SlE E81 4 h (sv v4) l4) (l5 : List (Int × Int × Int × Int)) (v5 : Hd) (hv5 : SlE E38 4 h (sv v5) l5) (l6 : List (Int × Int)) (v6 : Hd) (hv6 : SlE E35 2 h (sv v6) l6) (a8 : Int) (o : Int ⊕ Nat) : F88_s1 x1 x2 x3 l4 l5 l6 a8 = some o → RdF Try.prog (codeOf Try.prog 88 [1, 1, 1, 0, 1, 0, 0]) (fun (s : Int) => (F88_h1 h x1 x2 x3 v4 v5 v6 s)) (F88_x1 h x1 x2 x3 v4 v5 v6) (F88_h1 h x1 x2 x3 v4 v5 v6 a8) o := by
  unfold F88_s1
  refine dec_bif (fun c9 => ?_) (fun c9 => ?_)
  · refine dec_bif (fun c10 => ?_) (fun c10 => ?_)
    · refine bind_opt fun y12 e12 => ?_
      obtain ⟨id12, off12, g12, cs12, ix12, at12, rfl⟩ := SlE.at hv4 e12
      refine dec_bif (fun c14 => ?_) (fun c14 => ?_)
      · intro hr
        obtain rfl := Option.some.inj hr
        show AWp Try.prog _ (Ends1 ((F88_x1 h x1 x2 x3 v4 v5 v6) (0 : Nat)).1 ((F88_x1 h x1 x2 x3 v4 v5 v6) (0 : Nat)).2) _
        exact pEnd_sound good (L := F88_L) (D := F88_D) (its := [.g, (.b true), .g, .g, .g, .g, .g, .g, .g, (.b true), .g, (.c (.int .i64 (F102 x1 x2 x3 l4 l5 l6)) h), .g, .g, .g, .g, .g, .g, (.ix id12 off12 g12), (.ld (.agg #[.int .i64 y12.1, .int .i64 y12.2.1, .int .i64 y12.2.2.1, .int .i64 y12.2.2.2])), (.c (.int .i64 (F103 x1 x2 x3 l4 l5 l6)) h), .g, (.eq ((y12.1 == (F103 x1 x2 x3 l4 l5 l6)) && ((y12.2.1 == (F102 x1 x2 x3 l4 l5 l6)) && ((y12.2.2.1 == 0) && ((y12.2.2.2 == 0) && true))))), (.b true), .g]) (ds := F88_m1_0) (ks := [1]) (e := ((F88_x1 h x1 x2 x3 v4 v5 v6) (0 : Nat)).1) (s2 := ((F88_x1 h x1 x2 x3 v4 v5 v6) (0 : Nat)).2) (hC := (ai c14 (ai (show aggEq Try.prog 81 #[.int .i64 y12.1, .int .i64 y12.2.1, .int .i64 y12.2.2.1, .int .i64 y12.2.2.2] #[.int .i64 (F103 x1 x2 x3 l4 l5 l6), .int .i64 (F102 x1 x2 x3 l4 l5 l6), .int .i64 0, .int .i64 0] = some ((y12.1 == (F103 x1 x2 x3 l4 l5 l6)) && ((y12.2.1 == (F102 x1 x2 x3 l4 l5 l6)) && ((y12.2.2.1 == 0) && ((y12.2.2.2 == 0) && true)))) by kernel_rfl) (ai (show AKeep h h from (AHeap.sub_refl h)) (ai (F103_spec x1 x2 x3 l4 l5 l6 v4 v5 v6 h hv4 hv5 hv6 _ rfl) (ai (At.agg (P := Try.prog) (t := 81) (v := .agg #[.int .i64 y12.1, .int .i64 y12.2.1, .int .i64 y12.2.2.1, .int .i64 y12.2.2.2]) (m := 4) at12 (by kernel_rfl) (by kernel_rfl) 0 (by kernel_rfl) rfl) (ai ix12 (ai (F102_spec x1 x2 x3 l4 l5 l6 v4 v5 v6 h hv4 hv5 hv6 _ rfl) (ai c10 (ai c9 trivial)))))))))) (hd := F88_d1) (h := by kernel_rfl)
      · intro hr
        obtain rfl := Option.some.inj hr
        show AWp Try.prog _ (Ends1 .normal (F88_h1 h x1 x2 x3 v4 v5 v6 (IntKind.i64.wrap (a8 + 1)))) _
        exact pEnd_sound good (L := F88_L) (D := F88_D) (its := [.g, (.b true), .g, .g, .g, .g, .g, .g, .g, (.b true), .g, (.c (.int .i64 (F102 x1 x2 x3 l4 l5 l6)) h), .g, .g, .g, .g, .g, .g, (.ix id12 off12 g12), (.ld (.agg #[.int .i64 y12.1, .int .i64 y12.2.1, .int .i64 y12.2.2.1, .int .i64 y12.2.2.2])), (.c (.int .i64 (F103 x1 x2 x3 l4 l5 l6)) h), .g, (.eq ((y12.1 == (F103 x1 x2 x3 l4 l5 l6)) && ((y12.2.1 == (F102 x1 x2 x3 l4 l5 l6)) && ((y12.2.2.1 == 0) && ((y12.2.2.2 == 0) && true))))), (.b false), .g, .g]) (ds := F88_m1_1) (ks := []) (e := .normal) (s2 := (F88_h1 h x1 x2 x3 v4 v5 v6 (IntKind.i64.wrap (a8 + 1)))) (hC := (ai c14 (ai (show aggEq Try.prog 81 #[.int .i64 y12.1, .int .i64 y12.2.1, .int .i64 y12.2.2.1, .int .i64 y12.2.2.2] #[.int .i64 (F103 x1 x2 x3 l4 l5 l6), .int .i64 (F102 x1 x2 x3 l4 l5 l6), .int .i64 0, .int .i64 0] = some ((y12.1 == (F103 x1 x2 x3 l4 l5 l6)) && ((y12.2.1 == (F102 x1 x2 x3 l4 l5 l6)) && ((y12.2.2.1 == 0) && ((y12.2.2.2 == 0) && true)))) by kernel_rfl) (ai (show AKeep h h from (AHeap.sub_refl h)) (ai (F103_spec x1 x2 x3 l4 l5 l6 v4 v5 v6 h hv4 hv5 hv6 _ rfl) (ai (At.agg (P := Try.prog) (t := 81) (v := .agg #[.int .i64 y12.1, .int .i64 y12.2.1, .int .i64 y12.2.2.1, .int .i64 y12.2.2.2]) (m := 4) at12 (by kernel_rfl) (by kernel_rfl) 0 (by kernel_rfl) rfl) (ai ix12 (ai (F102_spec x1 x2 x3 l4 l5 l6 v4 v5 v6 h hv4 hv5 hv6 _ rfl) (ai c10 (ai c9 trivial)))))))))) (hd := F88_d1) (h := by kernel_rfl)
    · refine bind_opt fun y15 e15 => ?_
      obtain ⟨id15, off15, g15, cs15, ix15, at15, rfl⟩ := SlE.at hv4 e15
      refine dec_bif (fun c17 => ?_) (fun c17 => ?_)
      · intro hr
        obtain rfl := Option.some.inj hr
        show AWp Try.prog _ (Ends1 ((F88_x1 h x1 x2 x3 v4 v5 v6) (0 : Nat)).1 ((F88_x1 h x1 x2 x3 v4 v5 v6) (0 : Nat)).2) _
        exact pEnd_sound good (L := F88_L) (D := F88_D) (its := [.g, (.b true), .g, .g, .g, .g, .g, .g, .g, (.b false), .g, .g, .g, .g, .g, (.ix id15 off15 g15), (.ld (.agg #[.int .i64 y15.1, .int .i64 y15.2.1, .int .i64 y15.2.2.1, .int .i64 y15.2.2.2])), (.c (.int .i64 (F103 x1 x2 x3 l4 l5 l6)) h), .g, (.eq ((y15.1 == (F103 x1 x2 x3 l4 l5 l6)) && ((y15.2.1 == a8) && ((y15.2.2.1 == 0) && ((y15.2.2.2 == 0) && true))))), (.b true), .g]) (ds := F88_m1_0) (ks := [1]) (e := ((F88_x1 h x1 x2 x3 v4 v5 v6) (0 : Nat)).1) (s2 := ((F88_x1 h x1 x2 x3 v4 v5 v6) (0 : Nat)).2) (hC := (ai c17 (ai (show aggEq Try.prog 81 #[.int .i64 y15.1, .int .i64 y15.2.1, .int .i64 y15.2.2.1, .int .i64 y15.2.2.2] #[.int .i64 (F103 x1 x2 x3 l4 l5 l6), .int .i64 a8, .int .i64 0, .int .i64 0] = some ((y15.1 == (F103 x1 x2 x3 l4 l5 l6)) && ((y15.2.1 == a8) && ((y15.2.2.1 == 0) && ((y15.2.2.2 == 0) && true)))) by kernel_rfl) (ai (show AKeep h h from (AHeap.sub_refl h)) (ai (F103_spec x1 x2 x3 l4 l5 l6 v4 v5 v6 h hv4 hv5 hv6 _ rfl) (ai (At.agg (P := Try.prog) (t := 81) (v := .agg #[.int .i64 y15.1, .int .i64 y15.2.1, .int .i64 y15.2.2.1, .int .i64 y15.2.2.2]) (m := 4) at15 (by kernel_rfl) (by kernel_rfl) 0 (by kernel_rfl) rfl) (ai ix15 (ai c10 (ai c9 trivial))))))))) (hd := F88_d1) (h := by kernel_rfl)
      · intro hr
        obtain rfl := Option.some.inj hr
        show AWp Try.prog _ (Ends1 .normal (F88_h1 h x1 x2 x3 v4 v5 v6 (IntKind.i64.wrap (a8 + 1)))) _
        exact pEnd_sound good (L := F88_L) (D := F88_D) (its := [.g, (.b true), .g, .g, .g, .g, .g, .g, .g, (.b false), .g, .g, .g, .g, .g, (.ix id15 off15 g15), (.ld (.agg #[.int .i64 y15.1, .int .i64 y15.2.1, .int .i64 y15.2.2.1, .int .i64 y15.2.2.2])), (.c (.int .i64 (F103 x1 x2 x3 l4 l5 l6)) h), .g, (.eq ((y15.1 == (F103 x1 x2 x3 l4 l5 l6)) && ((y15.2.1 == a8) && ((y15.2.2.1 == 0) && ((y15.2.2.2 == 0) && true))))), (.b false), .g, .g]) (ds := F88_m1_1) (ks := []) (e := .normal) (s2 := (F88_h1 h x1 x2 x3 v4 v5 v6 (IntKind.i64.wrap (a8 + 1)))) (hC := (ai c17 (ai (show aggEq Try.prog 81 #[.int .i64 y15.1, .int .i64 y15.2.1, .int .i64 y15.2.2.1, .int .i64 y15.2.2.2] #[.int .i64 (F103 x1 x2 x3 l4 l5 l6), .int .i64 a8, .int .i64 0, .int .i64 0] = some ((y15.1 == (F103 x1 x2 x3 l4 l5 l6)) && ((y15.2.1 == a8) && ((y15.2.2.1 == 0) && ((y15.2.2.2 == 0) && true)))) by kernel_rfl) (ai (show AKeep h h from (AHeap.sub_refl h)) (ai (F103_spec x1 x2 x3 l4 l5 l6 v4 v5 v6 h hv4 hv5 hv6 _ rfl) (ai (At.agg (P := Try.prog) (t := 81) (v := .agg #[.int .i64 y15.1, .int .i64 y15.2.1, .int .i64 y15.2.2.1, .int .i64 y15.2.2.2]) (m := 4) at15 (by kernel_rfl) (by kernel_rfl) 0 (by kernel_rfl) rfl) (ai ix15 (ai c10 (ai c9 trivial))))))))) (hd := F88_d1) (h := by kernel_rfl)
  · intro hr
    obtain rfl := Option.some.inj hr
    show AWp Try.prog _ (Ends1 ((F88_x1 h x1 x2 x3 v4 v5 v6) (1 : Nat)).1 ((F88_x1 h x1 x2 x3 v4 v5 v6) (1 : Nat)).2) _
    exact pEnd_sound good (L := F88_L) (D := F88_D) (its := [.g, (.b false)]) (ds := F88_m1_2) (ks := []) (e := ((F88_x1 h x1 x2 x3 v4 v5 v6) (1 : Nat)).1) (s2 := ((F88_x1 h x1 x2 x3 v4 v5 v6) (1 : Nat)).2) (hC := (ai c9 trivial)) (hd := F88_d1) (h := by kernel_rfl)
theorem F88_l1_0 (h : AHeap) (x1 : Int) (x2 : Int) (x3 : Bool) (l4 : List (Int × Int × Int × Int)) (v4 : Hd) (hv4 : SlE E81 4 h (sv v4) l4) (l5 : List (Int × Int × Int × Int)) (v5 : Hd) (hv5 : SlE E38 4 h (sv v5) l5) (l6 : List (Int × Int)) (v6 : Hd) (hv6 : SlE E35 2 h (sv v6) l6) (x : Int) (r : Nat) (hl : loopO (fun (s : Int) => F88_s1 x1 x2 x3 l4 l5 l6 s) x = some r) (q0 : Nat.beq r 0 = true) : AWp Try.prog (.loop (codeOf Try.prog 88 [1, 1, 1, 0, 1, 0, 0])) (Ends1 .ret (F88_x1_0 h x1 x2 x3 v4 v5 v6 r)) ((fun (s : Int) => (F88_h1 h x1 x2 x3 v4 v5 v6 s)) x) := by
  have k := loop_fun (P := Try.prog) (c := (codeOf Try.prog 88 [1, 1, 1, 0, 1, 0, 0])) (step := (fun (s : Int) => F88_s1 x1 x2 x3 l4 l5 l6 s)) (hd := (fun (s : Int) => (F88_h1 h x1 x2 x3 v4 v5 v6 s))) (X := (F88_x1 h x1 x2 x3 v4 v5 v6)) (by intro t; unfold F88_x1; cases Nat.beq t 0 <;> (intro h; cases h)) (fun x => F88_r1 h x1 x2 x3 l4 v4 hv4 l5 v5 hv5 l6 v6 hv6 x) hl
  simp only [F88_x1, q0, cond_true, cond_false] at k
  exact k
theorem F88_l1_1 (h : AHeap) (x1 : Int) (x2 : Int) (x3 : Bool) (l4 : List (Int × Int × Int × Int)) (v4 : Hd) (hv4 : SlE E81 4 h (sv v4) l4) (l5 : List (Int × Int × Int × Int)) (v5 : Hd) (hv5 : SlE E38 4 h (sv v5) l5) (l6 : List (Int × Int)) (v6 : Hd) (hv6 : SlE E35 2 h (sv v6) l6) (x : Int) (r : Nat) (hl : loopO (fun (s : Int) => F88_s1 x1 x2 x3 l4 l5 l6 s) x = some r) (q0 : Nat.beq r 0 = false) : AWp Try.prog (.loop (codeOf Try.prog 88 [1, 1, 1, 0, 1, 0, 0])) (Ends1 (.exit 0) (F88_x1_1 h x1 x2 x3 v4 v5 v6 r)) ((fun (s : Int) => (F88_h1 h x1 x2 x3 v4 v5 v6 s)) x) := by
  have k := loop_fun (P := Try.prog) (c := (codeOf Try.prog 88 [1, 1, 1, 0, 1, 0, 0])) (step := (fun (s : Int) => F88_s1 x1 x2 x3 l4 l5 l6 s)) (hd := (fun (s : Int) => (F88_h1 h x1 x2 x3 v4 v5 v6 s))) (X := (F88_x1 h x1 x2 x3 v4 v5 v6)) (by intro t; unfold F88_x1; cases Nat.beq t 0 <;> (intro h; cases h)) (fun x => F88_r1 h x1 x2 x3 l4 v4 hv4 l5 v5 hv5 l6 v6 hv6 x) hl
  simp only [F88_x1, q0, cond_true, cond_false] at k
  exact k
def F88_m2_2 : List Bool := [true, true, true, true, true, true, true, true, true, true, true, true, true, true, true, true, true, true, true, true, true, true, true, true, true, true, true, true, true, true, true, true, true, true, true, true, true, true, true, true, true, true, true, true, true, true, true, true, true, true, true, true, true, true, true, true, true, true, true, true, true, true, true, true, true, true, true, true, true, true, true, true, true, true, true, true, true, true, true, true, true, true, true, true, true, true, true, true, true]
def F88_m2_1 : List Bool := [true, false, true, false, true, true, true, true, true, true, true, true, true, true, true, true, true, true, true, true, true, true, true, true, true, true, true, true, true, true, true, true, true, true, true, true, true, true, true, true, true, true, false, false, true, true, true, true, true, true, true, true, true, true, true, true, true, true, true, true, true, true, true, true, true, true, true, true, true, true, true, true, true, true, true, true, true, true, true, true, true, true, true, true, true, true, true, true, true]
def F88_m2_0 : List Bool := [true, true, false, true, true, true, true, true, true, true, true, true, true, true, true, true, true, true, true, true, true, true, true, true, true, true, true, true, true, true, true, true, true, true, true, true, true, true, true, true, true, true, true, true, true, true, true, true, true, true, true, true, true, true, true, true, true, true, true, true, true, true, true, true, true, true, true, true, true, true, true, true, true, true, true, true, true, true, true, true, true, true, true, true, true, true, true, true, true]
def F88_s2 (x1 : Int) (x2 : Int) (x3 : Bool) (l4 : List (Int × Int × Int × Int)) (l5 : List (Int × Int × Int × Int)) (l6 : List (Int × Int)) (a20 : Int) : Option (Int ⊕ Nat) :=
  (bif decide (a20 < (IntKind.i64.wrap (x1 + x2))) then
   (Option.bind (at? l4 (IntKind.i64.wrap ((IntKind.i64.wrap ((IntKind.i64.wrap (x1 + x2)) + 1)) + a20))) fun y22 =>
   (bif (y22.1 != a20) then
    some (.inr 0)
   else
    (bif (y22.2.1 != (F102 x1 x2 x3 l4 l5 l6)) then
     some (.inr 0)
    else
     (bif (y22.2.2.2 != 0) then
      some (.inr 0)
     else
      (bif decide (a20 < x1) then
       (Option.bind (at? l6 a20) fun y28 =>
       (bif decide (y22.2.2.1 < (if y28.2 > 1 then y28.2 else 1)) then
        some (.inr 0)
       else
        some (.inl (IntKind.i64.wrap (a20 + 1)))))
      else
       some (.inl (IntKind.i64.wrap (a20 + 1))))))))
  else
   some (.inr 1))
def F88_h2 (h : AHeap) (x1 : Int) (x2 : Int) (x3 : Bool) (v4 : Hd) (v5 : Hd) (v6 : Hd)  (a20 : Int) : AS := ⟨[junk, .pointer (some ⟨1, 0, none⟩), junk, .int .i64 (IntKind.i64.wrap (x1 + x2)), junk, junk, junk, junk, junk, junk, junk, junk, junk, junk, junk, junk, junk, junk, junk, junk, junk, junk, junk, junk, junk, junk, junk, junk, junk, junk, junk, junk, junk, junk, junk, junk, junk, junk, junk, junk, junk, junk, .int .i64 (IntKind.i64.wrap (x1 + x2)), .int .i64 a20, junk, junk, junk, junk, junk, junk, junk, junk, junk, junk, junk, junk, junk, junk, junk, junk, junk, junk, junk, junk, junk, junk, junk, junk, junk, junk, junk, junk, junk, junk, junk, junk, junk, junk, junk, junk, junk, junk, junk, junk, junk, junk, junk, junk, junk], [(1, [.int .i64 x1, .int .i64 x2, .bool x3, (sv v4), (sv v5), (sv v6)])], h⟩
theorem F88_d2 : drawsOk F88_D (codeOf Try.prog 88 [1, 1, 1, 1, 0, 1, 0, 0]) = true := by kernel_rfl
def F88_x2_0 (h : AHeap)  (r : Nat) : AS := ⟨[junk, junk, .bool false, junk, junk, junk, junk, junk, junk, junk, junk, junk, junk, junk, junk, junk, junk, junk, junk, junk, junk, junk, junk, junk, junk, junk, junk, junk, junk, junk, junk, junk, junk, junk, junk, junk, junk, junk, junk, junk, junk, junk, junk, junk, junk, junk, junk, junk, junk, junk, junk, junk, junk, junk, junk, junk, junk, junk, junk, junk, junk, junk, junk, junk, junk, junk, junk, junk, junk, junk, junk, junk, junk, junk, junk, junk, junk, junk, junk, junk, junk, junk, junk, junk, junk, junk, junk, junk, junk], [], h⟩
def F88_x2_1 (h : AHeap)  (r : Nat) : AS := ⟨[junk, junk, junk, junk, junk, junk, junk, junk, junk, junk, junk, junk, junk, junk, junk, junk, junk, junk, junk, junk, junk, junk, junk, junk, junk, junk, junk, junk, junk, junk, junk, junk, junk, junk, junk, junk, junk, junk, junk, junk, junk, junk, junk, junk, junk, junk, junk, junk, junk, junk, junk, junk, junk, junk, junk, junk, junk, junk, junk, junk, junk, junk, junk, junk, junk, junk, junk, junk, junk, junk, junk, junk, junk, junk, junk, junk, junk, junk, junk, junk, junk, junk, junk, junk, junk, junk, junk, junk, junk], [], h⟩
def F88_x2 (h : AHeap) (r : Nat) : Exit × AS := (bif Nat.beq r 0 then (.ret, (F88_x2_0 h r)) else ((.exit 2), (F88_x2_1 h r)))
set_option maxRecDepth 100000 in
theorem F88_r2 (h : AHeap) (x1 : Int) (x2 : Int) (x3 : Bool) (l4 : List (Int × Int × Int × Int)) (v4 : Hd) (hv4 : SlE E81 4 h (sv v4) l4) (l5 : List (Int × Int × Int × Int)) (v5 : Hd) (hv5 : SlE E38 4 h (sv v5) l5) (l6 : List (Int × Int)) (v6 : Hd) (hv6 : SlE E35 2 h (sv v6) l6) (a20 : Int) (o : Int ⊕ Nat) : F88_s2 x1 x2 x3 l4 l5 l6 a20 = some o → RdF Try.prog (codeOf Try.prog 88 [1, 1, 1, 1, 0, 1, 0, 0]) (fun (s : Int) => (F88_h2 h x1 x2 x3 v4 v5 v6 s)) (F88_x2 h) (F88_h2 h x1 x2 x3 v4 v5 v6 a20) o := by
  unfold F88_s2
  refine dec_bif (fun c21 => ?_) (fun c21 => ?_)
  · refine bind_opt fun y22 e22 => ?_
    obtain ⟨id22, off22, g22, cs22, ix22, at22, rfl⟩ := SlE.at hv4 e22
    refine dec_bif (fun c23 => ?_) (fun c23 => ?_)
    · intro hr
      obtain rfl := Option.some.inj hr
      show AWp Try.prog _ (Ends1 ((F88_x2 h) (0 : Nat)).1 ((F88_x2 h) (0 : Nat)).2) _
      exact pEnd_sound good (L := F88_L) (D := F88_D) (its := [.g, (.b true), .g, .g, .g, .g, .g, .g, .g, .g, (.ix id22 off22 g22), (.ld (.agg #[.int .i64 y22.1, .int .i64 y22.2.1, .int .i64 y22.2.2.1, .int .i64 y22.2.2.2])), .g, .g, .g, .g, .g, .g, .g, .n, .n, .n, .n, .n, (.p true), .g, .n, .n, .n, .g, .g, .n, .n, .n, .n, .n, .n, .n, .n, .n, .n, .n, .n, .n, .n, .n, .n, .g, (.b true), .g]) (ds := F88_m2_0) (ks := [1, 7]) (e := ((F88_x2 h) (0 : Nat)).1) (s2 := ((F88_x2 h) (0 : Nat)).2) (hC := (ai l_t (ai (g_tf l_t) (ai l_f (ai l_f (ai l_f (ai l_f (ai l_f (ai l_f (ai l_f (ai l_f (ai l_f (ai l_f (ai (g_tf l_t) (ai (g_tf l_t) (ai (g_tf l_t) (ai (g_tf l_t) (ai (g_tf l_t) (ai (g_tf l_t) (ai (g_tf l_t) (ai (g_tf l_t) (ai c23 (ai (g_tf c23) (ai (g_tf c23) (ai (g_tf c23) (ai (g_tf c23) (ai (g_tf c23) (ai (At.agg (P := Try.prog) (t := 81) (v := .agg #[.int .i64 y22.1, .int .i64 y22.2.1, .int .i64 y22.2.2.1, .int .i64 y22.2.2.2]) (m := 4) at22 (by kernel_rfl) (by kernel_rfl) 0 (by kernel_rfl) rfl) (ai ix22 (ai c21 trivial)))))))))))))))))))))))))))))) (hd := F88_d2) (h := by kernel_rfl)
    · refine dec_bif (fun c25 => ?_) (fun c25 => ?_)
      · intro hr
        obtain rfl := Option.some.inj hr
        show AWp Try.prog _ (Ends1 ((F88_x2 h) (0 : Nat)).1 ((F88_x2 h) (0 : Nat)).2) _
        exact pEnd_sound good (L := F88_L) (D := F88_D) (its := [.g, (.b true), .g, .g, .g, .g, .g, .g, .g, .g, (.ix id22 off22 g22), (.ld (.agg #[.int .i64 y22.1, .int .i64 y22.2.1, .int .i64 y22.2.2.1, .int .i64 y22.2.2.2])), .g, .g, .g, .g, .g, .g, .g, (.w .g), (.w .g), (.w .g), (.w (.c (.int .i64 (F102 x1 x2 x3 l4 l5 l6)) h)), (.w .g), (.p false), .g, .n, .n, .n, (.p true), .g, .n, .n, .n, .n, .n, .n, .n, .n, .n, .n, .n, .n, .n, .n, .n, .n, .g, (.b true), .g]) (ds := F88_m2_0) (ks := [1, 7]) (e := ((F88_x2 h) (0 : Nat)).1) (s2 := ((F88_x2 h) (0 : Nat)).2) (hC := (ai l_t (ai (g_tf l_t) (ai l_f (ai l_f (ai l_f (ai l_f (ai l_f (ai l_f (ai l_f (ai l_f (ai l_f (ai l_f (ai (g_tf l_t) (ai (g_tf l_t) (ai (g_tf l_t) (ai (g_tf l_t) (ai (g_tf l_t) (ai c25 (ai (g_tf c25) (ai (g_tf c25) (ai (g_tf c25) (ai c23 (ai (g_ff c23) (ai (show AKeep h h from (AHeap.sub_refl h)) (ai (F102_spec x1 x2 x3 l4 l5 l6 v4 v5 v6 h hv4 hv5 hv6 _ rfl) (ai (g_ff c23) (ai (g_ff c23) (ai (g_ff c23) (ai (g_ff c23) (ai (At.agg (P := Try.prog) (t := 81) (v := .agg #[.int .i64 y22.1, .int .i64 y22.2.1, .int .i64 y22.2.2.1, .int .i64 y22.2.2.2]) (m := 4) at22 (by kernel_rfl) (by kernel_rfl) 0 (by kernel_rfl) rfl) (ai ix22 (ai c21 trivial))))))))))))))))))))))))))))))))) (hd := F88_d2) (h := by kernel_rfl)
      · refine dec_bif (fun c26 => ?_) (fun c26 => ?_)
        · intro hr
          obtain rfl := Option.some.inj hr
          show AWp Try.prog _ (Ends1 ((F88_x2 h) (0 : Nat)).1 ((F88_x2 h) (0 : Nat)).2) _
          exact pEnd_sound good (L := F88_L) (D := F88_D) (its := [.g, (.b true), .g, .g, .g, .g, .g, .g, .g, .g, (.ix id22 off22 g22), (.ld (.agg #[.int .i64 y22.1, .int .i64 y22.2.1, .int .i64 y22.2.2.1, .int .i64 y22.2.2.2])), .g, .g, .g, .g, .g, .g, .g, (.w .g), (.w .g), (.w .g), (.w (.c (.int .i64 (F102 x1 x2 x3 l4 l5 l6)) h)), (.w .g), (.p false), .g, (.w .g), (.w .g), (.w .g), (.p false), .g, .n, .n, .n, .n, .n, .n, .n, .n, .n, .n, .n, .n, .n, .n, .n, .n, (.p true), (.b true), .g]) (ds := F88_m2_0) (ks := [1, 7]) (e := ((F88_x2 h) (0 : Nat)).1) (s2 := ((F88_x2 h) (0 : Nat)).2) (hC := (ai l_t (ai c26 (ai (g_tf c26) (ai l_f (ai l_f (ai l_f (ai l_f (ai l_f (ai l_f (ai l_f (ai l_f (ai l_f (ai l_f (ai (g_tf c26) (ai (g_tf c26) (ai (g_tf c26) (ai (g_tf c26) (ai (g_tf c26) (ai c25 (ai (g_ff c25) (ai (g_ff c25) (ai (g_ff c25) (ai c23 (ai (g_ff c23) (ai (show AKeep h h from (AHeap.sub_refl h)) (ai (F102_spec x1 x2 x3 l4 l5 l6 v4 v5 v6 h hv4 hv5 hv6 _ rfl) (ai (g_ff c23) (ai (g_ff c23) (ai (g_ff c23) (ai (g_ff c23) (ai (At.agg (P := Try.prog) (t := 81) (v := .agg #[.int .i64 y22.1, .int .i64 y22.2.1, .int .i64 y22.2.2.1, .int .i64 y22.2.2.2]) (m := 4) at22 (by kernel_rfl) (by kernel_rfl) 0 (by kernel_rfl) rfl) (ai ix22 (ai c21 trivial)))))))))))))))))))))))))))))))))) (hd := F88_d2) (h := by kernel_rfl)
        · refine dec_bif (fun c27 => ?_) (fun c27 => ?_)
          · refine bind_opt fun y28 e28 => ?_
            obtain ⟨id28, off28, g28, cs28, ix28, at28, rfl⟩ := SlE.at hv6 e28
            refine dec_bif (fun c29 => ?_) (fun c29 => ?_)
            · intro hr
              obtain rfl := Option.some.inj hr
              show AWp Try.prog _ (Ends1 ((F88_x2 h) (0 : Nat)).1 ((F88_x2 h) (0 : Nat)).2) _
              exact pEnd_sound good (L := F88_L) (D := F88_D) (its := [.g, (.b true), .g, .g, .g, .g, .g, .g, .g, .g, (.ix id22 off22 g22), (.ld (.agg #[.int .i64 y22.1, .int .i64 y22.2.1, .int .i64 y22.2.2.1, .int .i64 y22.2.2.2])), .g, .g, .g, .g, .g, .g, .g, (.w .g), (.w .g), (.w .g), (.w (.c (.int .i64 (F102 x1 x2 x3 l4 l5 l6)) h)), (.w .g), (.p false), .g, (.w .g), (.w .g), (.w .g), (.p false), .g, (.w .g), (.w .g), (.w .g), (.w .g), (.w .g), (.w .g), (.w .g), (.w .g), (.w .g), (.w .g), (.w (.ix id28 off28 g28)), (.w .g), (.w (.ld (.int .i64 y28.2))), (.w .g), (.w .g), (.w (.p true)), (.p false), (.b true), .g]) (ds := F88_m2_0) (ks := [1, 7]) (e := ((F88_x2 h) (0 : Nat)).1) (s2 := ((F88_x2 h) (0 : Nat)).2) (hC := (ai c29 (ai c26 (ai c27 (ai (g_ff c26) (ai (g_tt c27) (ai (g_tt c27) (ai (At.one (P := Try.prog) (t := 3) (v := .int .i64 y28.2) at28 (by kernel_rfl) 1 rfl rfl) (ai (g_tt c27) (ai (g_tt c27) (ai ix28 (ai (g_tt c27) (ai (g_tt c27) (ai (g_tt c27) (ai (g_tt c27) (ai (g_tt c27) (ai (g_tt c27) (ai (g_ff c26) (ai (g_ff c26) (ai (g_ff c26) (ai (g_ff c26) (ai (g_ff c26) (ai c25 (ai (g_ff c25) (ai (g_ff c25) (ai (g_ff c25) (ai c23 (ai (g_ff c23) (ai (show AKeep h h from (AHeap.sub_refl h)) (ai (F102_spec x1 x2 x3 l4 l5 l6 v4 v5 v6 h hv4 hv5 hv6 _ rfl) (ai (g_ff c23) (ai (g_ff c23) (ai (g_ff c23) (ai (g_ff c23) (ai (At.agg (P := Try.prog) (t := 81) (v := .agg #[.int .i64 y22.1, .int .i64 y22.2.1, .int .i64 y22.2.2.1, .int .i64 y22.2.2.2]) (m := 4) at22 (by kernel_rfl) (by kernel_rfl) 0 (by kernel_rfl) rfl) (ai ix22 (ai c21 trivial))))))))))))))))))))))))))))))))))))) (hd := F88_d2) (h := by kernel_rfl)
            · intro hr
              obtain rfl := Option.some.inj hr
              show AWp Try.prog _ (Ends1 .normal (F88_h2 h x1 x2 x3 v4 v5 v6 (IntKind.i64.wrap (a20 + 1)))) _
              exact pEnd_sound good (L := F88_L) (D := F88_D) (its := [.g, (.b true), .g, .g, .g, .g, .g, .g, .g, .g, (.ix id22 off22 g22), (.ld (.agg #[.int .i64 y22.1, .int .i64 y22.2.1, .int .i64 y22.2.2.1, .int .i64 y22.2.2.2])), .g, .g, .g, .g, .g, .g, .g, (.w .g), (.w .g), (.w .g), (.w (.c (.int .i64 (F102 x1 x2 x3 l4 l5 l6)) h)), (.w .g), (.p false), .g, (.w .g), (.w .g), (.w .g), (.p false), .g, (.w .g), (.w .g), (.w .g), (.w .g), (.w .g), (.w .g), (.w .g), (.w .g), (.w .g), (.w .g), (.w (.ix id28 off28 g28)), (.w .g), (.w (.ld (.int .i64 y28.2))), (.w .g), (.w .g), (.w (.p true)), (.p false), (.b false), .g, .g]) (ds := F88_m2_1) (ks := [7]) (e := .normal) (s2 := (F88_h2 h x1 x2 x3 v4 v5 v6 (IntKind.i64.wrap (a20 + 1)))) (hC := (ai c29 (ai c26 (ai c27 (ai (g_ff c26) (ai (g_tt c27) (ai (g_tt c27) (ai (At.one (P := Try.prog) (t := 3) (v := .int .i64 y28.2) at28 (by kernel_rfl) 1 rfl rfl) (ai (g_tt c27) (ai (g_tt c27) (ai ix28 (ai (g_tt c27) (ai (g_tt c27) (ai (g_tt c27) (ai (g_tt c27) (ai (g_tt c27) (ai (g_tt c27) (ai (g_ff c26) (ai (g_ff c26) (ai (g_ff c26) (ai (g_ff c26) (ai (g_ff c26) (ai c25 (ai (g_ff c25) (ai (g_ff c25) (ai (g_ff c25) (ai c23 (ai (g_ff c23) (ai (show AKeep h h from (AHeap.sub_refl h)) (ai (F102_spec x1 x2 x3 l4 l5 l6 v4 v5 v6 h hv4 hv5 hv6 _ rfl) (ai (g_ff c23) (ai (g_ff c23) (ai (g_ff c23) (ai (g_ff c23) (ai (At.agg (P := Try.prog) (t := 81) (v := .agg #[.int .i64 y22.1, .int .i64 y22.2.1, .int .i64 y22.2.2.1, .int .i64 y22.2.2.2]) (m := 4) at22 (by kernel_rfl) (by kernel_rfl) 0 (by kernel_rfl) rfl) (ai ix22 (ai c21 trivial))))))))))))))))))))))))))))))))))))) (hd := F88_d2) (h := by kernel_rfl)
          · intro hr
            obtain rfl := Option.some.inj hr
            show AWp Try.prog _ (Ends1 .normal (F88_h2 h x1 x2 x3 v4 v5 v6 (IntKind.i64.wrap (a20 + 1)))) _
            exact pEnd_sound good (L := F88_L) (D := F88_D) (its := [.g, (.b true), .g, .g, .g, .g, .g, .g, .g, .g, (.ix id22 off22 g22), (.ld (.agg #[.int .i64 y22.1, .int .i64 y22.2.1, .int .i64 y22.2.2.1, .int .i64 y22.2.2.2])), .g, .g, .g, .g, .g, .g, .g, (.w .g), (.w .g), (.w .g), (.w (.c (.int .i64 (F102 x1 x2 x3 l4 l5 l6)) h)), (.w .g), (.p false), .g, (.w .g), (.w .g), (.w .g), (.p false), .g, (.w .g), (.w .g), (.w .g), (.w .g), (.w .g), .n, .n, .n, .n, .n, .n, .n, .n, .n, .n, (.w (.p false)), (.p false), (.b false), .g, .g]) (ds := F88_m2_1) (ks := [7]) (e := .normal) (s2 := (F88_h2 h x1 x2 x3 v4 v5 v6 (IntKind.i64.wrap (a20 + 1)))) (hC := (ai l_f (ai c26 (ai c27 (ai (g_ff c26) (ai (g_ft c27) (ai (g_ft c27) (ai (g_ft c27) (ai (g_ft c27) (ai (g_ft c27) (ai (g_ft c27) (ai (g_ft c27) (ai (g_ft c27) (ai (g_ft c27) (ai (g_ft c27) (ai (g_ff c26) (ai (g_ff c26) (ai (g_ff c26) (ai (g_ff c26) (ai (g_ff c26) (ai c25 (ai (g_ff c25) (ai (g_ff c25) (ai (g_ff c25) (ai c23 (ai (g_ff c23) (ai (show AKeep h h from (AHeap.sub_refl h)) (ai (F102_spec x1 x2 x3 l4 l5 l6 v4 v5 v6 h hv4 hv5 hv6 _ rfl) (ai (g_ff c23) (ai (g_ff c23) (ai (g_ff c23) (ai (g_ff c23) (ai (At.agg (P := Try.prog) (t := 81) (v := .agg #[.int .i64 y22.1, .int .i64 y22.2.1, .int .i64 y22.2.2.1, .int .i64 y22.2.2.2]) (m := 4) at22 (by kernel_rfl) (by kernel_rfl) 0 (by kernel_rfl) rfl) (ai ix22 (ai c21 trivial))))))))))))))))))))))))))))))))))) (hd := F88_d2) (h := by kernel_rfl)
  · intro hr
    obtain rfl := Option.some.inj hr
    show AWp Try.prog _ (Ends1 ((F88_x2 h) (1 : Nat)).1 ((F88_x2 h) (1 : Nat)).2) _
    exact pEnd_sound good (L := F88_L) (D := F88_D) (its := [.g, (.b false)]) (ds := F88_m2_2) (ks := [1]) (e := ((F88_x2 h) (1 : Nat)).1) (s2 := ((F88_x2 h) (1 : Nat)).2) (hC := (ai c21 trivial)) (hd := F88_d2) (h := by kernel_rfl)
theorem F88_l2_0 (h : AHeap) (x1 : Int) (x2 : Int) (x3 : Bool) (l4 : List (Int × Int × Int × Int)) (v4 : Hd) (hv4 : SlE E81 4 h (sv v4) l4) (l5 : List (Int × Int × Int × Int)) (v5 : Hd) (hv5 : SlE E38 4 h (sv v5) l5) (l6 : List (Int × Int)) (v6 : Hd) (hv6 : SlE E35 2 h (sv v6) l6) (x : Int) (r : Nat) (hl : loopO (fun (s : Int) => F88_s2 x1 x2 x3 l4 l5 l6 s) x = some r) (q0 : Nat.beq r 0 = true) : AWp Try.prog (.loop (codeOf Try.prog 88 [1, 1, 1, 1, 0, 1, 0, 0])) (Ends1 .ret (F88_x2_0 h r)) ((fun (s : Int) => (F88_h2 h x1 x2 x3 v4 v5 v6 s)) x) := by
  have k := loop_fun (P := Try.prog) (c := (codeOf Try.prog 88 [1, 1, 1, 1, 0, 1, 0, 0])) (step := (fun (s : Int) => F88_s2 x1 x2 x3 l4 l5 l6 s)) (hd := (fun (s : Int) => (F88_h2 h x1 x2 x3 v4 v5 v6 s))) (X := (F88_x2 h)) (by intro t; unfold F88_x2; cases Nat.beq t 0 <;> (intro h; cases h)) (fun x => F88_r2 h x1 x2 x3 l4 v4 hv4 l5 v5 hv5 l6 v6 hv6 x) hl
  simp only [F88_x2, q0, cond_true, cond_false] at k
  exact k
theorem F88_l2_1 (h : AHeap) (x1 : Int) (x2 : Int) (x3 : Bool) (l4 : List (Int × Int × Int × Int)) (v4 : Hd) (hv4 : SlE E81 4 h (sv v4) l4) (l5 : List (Int × Int × Int × Int)) (v5 : Hd) (hv5 : SlE E38 4 h (sv v5) l5) (l6 : List (Int × Int)) (v6 : Hd) (hv6 : SlE E35 2 h (sv v6) l6) (x : Int) (r : Nat) (hl : loopO (fun (s : Int) => F88_s2 x1 x2 x3 l4 l5 l6 s) x = some r) (q0 : Nat.beq r 0 = false) : AWp Try.prog (.loop (codeOf Try.prog 88 [1, 1, 1, 1, 0, 1, 0, 0])) (Ends1 (.exit 2) (F88_x2_1 h r)) ((fun (s : Int) => (F88_h2 h x1 x2 x3 v4 v5 v6 s)) x) := by
  have k := loop_fun (P := Try.prog) (c := (codeOf Try.prog 88 [1, 1, 1, 1, 0, 1, 0, 0])) (step := (fun (s : Int) => F88_s2 x1 x2 x3 l4 l5 l6 s)) (hd := (fun (s : Int) => (F88_h2 h x1 x2 x3 v4 v5 v6 s))) (X := (F88_x2 h)) (by intro t; unfold F88_x2; cases Nat.beq t 0 <;> (intro h; cases h)) (fun x => F88_r2 h x1 x2 x3 l4 v4 hv4 l5 v5 hv5 l6 v6 hv6 x) hl
  simp only [F88_x2, q0, cond_true, cond_false] at k
  exact k
def F88 (x1 : Int) (x2 : Int) (x3 : Bool) (l4 : List (Int × Int × Int × Int)) (l5 : List (Int × Int × Int × Int)) (l6 : List (Int × Int)) : Option (Bool) :=
  (bif (F88__1 x1 x2 l4) then
   some (false)
  else
   (Option.bind (loopO (fun (s : Int) => F88_s1 x1 x2 x3 l4 l5 l6 s) 0) fun y18 =>
   (bif (Nat.beq y18 0) then
    some (false)
   else
    (Option.bind (loopO (fun (s : Int) => F88_s2 x1 x2 x3 l4 l5 l6 s) 0) fun y30 =>
    (bif (Nat.beq y30 0) then
     some (false)
    else
     some (true))))))
set_option maxRecDepth 100000 in
theorem F88_spec (x1 : Int) (x2 : Int) (x3 : Bool) (l4 : List (Int × Int × Int × Int)) (l5 : List (Int × Int × Int × Int)) (l6 : List (Int × Int)) (v4 : Hd) (v5 : Hd) (v6 : Hd) (h : AHeap) (hv4 : SlE E81 4 h (sv v4) l4) (hv5 : SlE E38 4 h (sv v5) l5) (hv6 : SlE E35 2 h (sv v6) l6) (r : Bool) : F88 x1 x2 x3 l4 l5 l6 = some r → ACalls Try.prog 88 [.agg #[.int .i64 x1, .int .i64 x2, .bool x3, (sv v4), (sv v5), (sv v6)]] h (fun v' h'' => v' = (.bool r : Value) ∧ h'' = h) := by
  unfold F88
  refine dec_bif (fun c7 => ?_) (fun c7 => ?_)
  · intro hr
    obtain rfl := Option.some.inj hr
    exact pFun_sound good tab_ok (f := 88) (its := [.g, .g, .g, .g, .g, .g, .g, .g, .g, .g, (.ln l4.length), .g, .g, .g, .g, (.b true), .g]) (args := [.agg #[.int .i64 x1, .int .i64 x2, .bool x3, (sv v4), (sv v5), (sv v6)]]) (h := h) (h' := h) (v := .bool false) (hC := (ai c7 (ai (SlE.len hv4) trivial))) (hr := by kernel_rfl)
  · refine bind_opt fun y18 e18 => ?_
    refine dec_bif (fun c19 => ?_) (fun c19 => ?_)
    · intro hr
      obtain rfl := Option.some.inj hr
      exact pFun_sound good tab_ok (f := 88) (its := [.g, .g, .g, .g, .g, .g, .g, .g, .g, .g, (.ln l4.length), .g, .g, .g, .g, (.b false), .g, .g, .g, (.l F88_m1_1 [] .ret (F88_x1_0 h x1 x2 x3 v4 v5 v6 y18))]) (args := [.agg #[.int .i64 x1, .int .i64 x2, .bool x3, (sv v4), (sv v5), (sv v6)]]) (h := h) (h' := h) (v := .bool false) (hC := (ai (F88_l1_0 h x1 x2 x3 l4 v4 hv4 l5 v5 hv5 l6 v6 hv6 0 y18 e18 c19) (ai c7 (ai (SlE.len hv4) trivial)))) (hr := by kernel_rfl)
    · refine bind_opt fun y30 e30 => ?_
      refine dec_bif (fun c31 => ?_) (fun c31 => ?_)
      · intro hr
        obtain rfl := Option.some.inj hr
        exact pFun_sound good tab_ok (f := 88) (its := [.g, .g, .g, .g, .g, .g, .g, .g, .g, .g, (.ln l4.length), .g, .g, .g, .g, (.b false), .g, .g, .g, (.l F88_m1_1 [] (.exit 0) (F88_x1_1 h x1 x2 x3 v4 v5 v6 y18)), .g, .g, (.l F88_m2_1 [] .ret (F88_x2_0 h y30))]) (args := [.agg #[.int .i64 x1, .int .i64 x2, .bool x3, (sv v4), (sv v5), (sv v6)]]) (h := h) (h' := h) (v := .bool false) (hC := (ai (F88_l2_0 h x1 x2 x3 l4 v4 hv4 l5 v5 hv5 l6 v6 hv6 0 y30 e30 c31) (ai (F88_l1_1 h x1 x2 x3 l4 v4 hv4 l5 v5 hv5 l6 v6 hv6 0 y18 e18 c19) (ai c7 (ai (SlE.len hv4) trivial))))) (hr := by kernel_rfl)
      · intro hr
        obtain rfl := Option.some.inj hr
        exact pFun_sound good tab_ok (f := 88) (its := [.g, .g, .g, .g, .g, .g, .g, .g, .g, .g, (.ln l4.length), .g, .g, .g, .g, (.b false), .g, .g, .g, (.l F88_m1_1 [] (.exit 0) (F88_x1_1 h x1 x2 x3 v4 v5 v6 y18)), .g, .g, (.l F88_m2_1 [] (.exit 2) (F88_x2_1 h y30)), .g]) (args := [.agg #[.int .i64 x1, .int .i64 x2, .bool x3, (sv v4), (sv v5), (sv v6)]]) (h := h) (h' := h) (v := .bool true) (hC := (ai (F88_l2_1 h x1 x2 x3 l4 v4 hv4 l5 v5 hv5 l6 v6 hv6 0 y30 e30 c31) (ai (F88_l1_1 h x1 x2 x3 l4 v4 hv4 l5 v5 hv5 l6 v6 hv6 0 y18 e18 c19) (ai c7 (ai (SlE.len hv4) trivial))))) (hr := by kernel_rfl)
/-! 67 jacquard/dataflow.Valid -/
def F67_L : List Nat := [1, 4, 6, 8]
def F67_D : List (Nat × List (Nat × Nat)) := []
def F67_m1_2 : List Bool := [true, false, true, true, true, true, true, true, true, true, true, true, true, true, true, true, true, true, true, true, true, true, true, true, true, true, true, true, true, true, true, true, true, true, true, true, true, true, true, true, true, true, true, true, true, true, true, true, true, true, true, true, true, true, true, true, true, true, true, true, true, true, true, true, true, true, true, true, true, true, true, true, true, true, true, true, true, true, true, true, true, true, true, true, true, true, true, true, true, true, true, true, true, true, true, true, true, true, true, true, true, true, true, true, true, true, true, true, true, true, true, true, true, true, true, true, true]
def F67_m1_1 : List Bool := [true, false, true, true, true, true, true, true, true, true, true, true, true, true, true, true, true, true, true, true, true, true, true, true, true, true, true, true, true, true, true, true, true, true, true, true, true, false, false, false, true, true, true, true, true, true, true, true, true, true, true, true, true, true, true, true, true, true, true, true, true, true, true, true, true, true, true, true, true, true, true, true, true, true, true, true, true, true, true, true, true, true, true, true, true, true, true, true, true, true, true, true, true, true, true, true, true, true, true, true, true, true, true, true, true, true, true, true, true, true, true, true, true, true, true, true, true]
def F67_m1_0 : List Bool := [true, true, false, true, true, true, true, true, true, true, true, true, true, true, true, true, true, true, true, true, true, true, true, true, true, true, true, true, true, true, true, true, true, true, true, true, true, true, true, true, true, true, true, true, true, true, true, true, true, true, true, true, true, true, true, true, true, true, true, true, true, true, true, true, true, true, true, true, true, true, true, true, true, true, true, true, true, true, true, true, true, true, true, true, true, true, true, true, true, true, true, true, true, true, true, true, true, true, true, true, true, true, true, true, true, true, true, true, true, true, true, true, true, true, true, true, true]
def F67_s1 (x1 : Int) (x2 : Int) (x3 : Bool) (l4 : List (Int × Int × Int × Int)) (l5 : List (Int × Int × Int × Int)) (l6 : List (Int × Int)) (a12 : Int) : Option (Int ⊕ Nat) :=
  (bif decide (a12 < (l4.length : Int)) then
   (Option.bind (at? l4 a12) fun y14 =>
   (bif (!(F87 x1 x2 x3 l4 l5 l6 y14.1 y14.2.1 y14.2.2.1 y14.2.2.2)) then
    some (.inr 0)
   else
    some (.inl (IntKind.i64.wrap (a12 + 1)))))
  else
   some (.inr 1))
def F67_h1 (h : AHeap) (x1 : Int) (x2 : Int) (x3 : Bool) (l4 : List (Int × Int × Int × Int)) (v4 : Hd) (v5 : Hd) (v6 : Hd)  (a12 : Int) : AS := ⟨[junk, .pointer (some ⟨1, 0, none⟩), junk, junk, junk, junk, junk, junk, junk, junk, junk, junk, junk, junk, junk, junk, junk, junk, junk, junk, junk, junk, junk, junk, junk, junk, junk, junk, junk, junk, junk, junk, junk, junk, junk, junk, junk, (sv v4), .int .i64 (l4.length : Int), .int .i64 a12, junk, junk, junk, junk, junk, junk, junk, junk, junk, junk, junk, junk, junk, junk, junk, junk, junk, junk, junk, junk, junk, junk, junk, junk, junk, junk, junk, junk, junk, junk, junk, junk, junk, junk, junk, junk, junk, junk, junk, junk, junk, junk, junk, junk, junk, junk, junk, junk, junk, junk, junk, junk, junk, junk, junk, junk, junk, junk, junk, junk, junk, junk, junk, junk, junk, junk, junk, junk, junk, junk, junk, junk, junk, junk, junk, junk, junk], [(1, [.int .i64 x1, .int .i64 x2, .bool x3, (sv v4), (sv v5), (sv v6)])], h⟩
theorem F67_d1 : drawsOk F67_D (codeOf Try.prog 67 [1, 1, 0, 1, 0, 0]) = true := by kernel_rfl
def F67_x1_0 (h : AHeap) (x1 : Int) (x2 : Int) (x3 : Bool) (v4 : Hd) (v5 : Hd) (v6 : Hd)  (r : Nat) : AS := ⟨[junk, junk, .bool false, junk, junk, junk, junk, junk, junk, junk, junk, junk, junk, junk, junk, junk, junk, junk, junk, junk, junk, junk, junk, junk, junk, junk, junk, junk, junk, junk, junk, junk, junk, junk, junk, junk, junk, junk, junk, junk, junk, junk, junk, junk, junk, junk, junk, junk, junk, junk, junk, junk, junk, junk, junk, junk, junk, junk, junk, junk, junk, junk, junk, junk, junk, junk, junk, junk, junk, junk, junk, junk, junk, junk, junk, junk, junk, junk, junk, junk, junk, junk, junk, junk, junk, junk, junk, junk, junk, junk, junk, junk, junk, junk, junk, junk, junk, junk, junk, junk, junk, junk, junk, junk, junk, junk, junk, junk, junk, junk, junk, junk, junk, junk, junk, junk, junk], [], h⟩
def F67_x1_1 (h : AHeap) (x1 : Int) (x2 : Int) (x3 : Bool) (v4 : Hd) (v5 : Hd) (v6 : Hd)  (r : Nat) : AS := ⟨[junk, .pointer (some ⟨1, 0, none⟩), junk, junk, junk, junk, junk, junk, junk, junk, junk, junk, junk, junk, junk, junk, junk, junk, junk, junk, junk, junk, junk, junk, junk, junk, junk, junk, junk, junk, junk, junk, junk, junk, junk, junk, junk, junk, junk, junk, junk, junk, junk, junk, junk, junk, junk, junk, junk, junk, junk, junk, junk, junk, junk, junk, junk, junk, junk, junk, junk, junk, junk, junk, junk, junk, junk, junk, junk, junk, junk, junk, junk, junk, junk, junk, junk, junk, junk, junk, junk, junk, junk, junk, junk, junk, junk, junk, junk, junk, junk, junk, junk, junk, junk, junk, junk, junk, junk, junk, junk, junk, junk, junk, junk, junk, junk, junk, junk, junk, junk, junk, junk, junk, junk, junk, junk], [(1, [.int .i64 x1, .int .i64 x2, .bool x3, (sv v4), (sv v5), (sv v6)])], h⟩
def F67_x1 (h : AHeap) (x1 : Int) (x2 : Int) (x3 : Bool) (v4 : Hd) (v5 : Hd) (v6 : Hd) (r : Nat) : Exit × AS := (bif Nat.beq r 0 then (.ret, (F67_x1_0 h x1 x2 x3 v4 v5 v6 r)) else ((.exit 0), (F67_x1_1 h x1 x2 x3 v4 v5 v6 r)))
set_option maxRecDepth 100000 in
theorem F67_r1 (h : AHeap) (x1 : Int) (x2 : Int) (x3 : Bool) (l4 : List (Int × Int × Int × Int)) (v4 : Hd) (hv4 : SlE E81 4 h (sv v4) l4) (l5 : List (Int × Int × Int × Int)) (v5 : Hd) (hv5 : SlE E38 4 h (sv v5) l5) (l6 : List (Int × Int)) (v6 : Hd) (hv6 : SlE E35 2 h (sv v6) l6) (a12 : Int) (o : Int ⊕ Nat) : F67_s1 x1 x2 x3 l4 l5 l6 a12 = some o → RdF Try.prog (codeOf Try.prog 67 [1, 1, 0, 1, 0, 0]) (fun (s : Int) => (F67_h1 h x1 x2 x3 l4 v4 v5 v6 s)) (F67_x1 h x1 x2 x3 v4 v5 v6) (F67_h1 h x1 x2 x3 l4 v4 v5 v6 a12) o := by
  unfold F67_s1
  refine dec_bif (fun c13 => ?_) (fun c13 => ?_)
  · refine bind_opt fun y14 e14 => ?_
    obtain ⟨id14, off14, g14, cs14, ix14, at14, rfl⟩ := SlE.at hv4 e14
    refine dec_bif (fun c16 => ?_) (fun c16 => ?_)
    · intro hr
      obtain rfl := Option.some.inj hr
      show AWp Try.prog _ (Ends1 ((F67_x1 h x1 x2 x3 v4 v5 v6) (0 : Nat)).1 ((F67_x1 h x1 x2 x3 v4 v5 v6) (0 : Nat)).2) _
      exact pEnd_sound good (L := F67_L) (D := F67_D) (its := [.g, (.b true), (.ix id14 off14 g14), (.ld (.agg #[.int .i64 y14.1, .int .i64 y14.2.1, .int .i64 y14.2.2.1, .int .i64 y14.2.2.2])), .g, .g, .g, .g, (.c (.bool (F87 x1 x2 x3 l4 l5 l6 y14.1 y14.2.1 y14.2.2.1 y14.2.2.2)) h), .g, (.b true), .g]) (ds := F67_m1_0) (ks := [1, 4]) (e := ((F67_x1 h x1 x2 x3 v4 v5 v6) (0 : Nat)).1) (s2 := ((F67_x1 h x1 x2 x3 v4 v5 v6) (0 : Nat)).2) (hC := (ai c16 (ai (F87_spec x1 x2 x3 l4 l5 l6 y14.1 y14.2.1 y14.2.2.1 y14.2.2.2 v4 v5 v6 h hv4 hv5 hv6 _ rfl) (ai (At.agg (P := Try.prog) (t := 81) (v := .agg #[.int .i64 y14.1, .int .i64 y14.2.1, .int .i64 y14.2.2.1, .int .i64 y14.2.2.2]) (m := 4) at14 (by kernel_rfl) (by kernel_rfl) 0 (by kernel_rfl) rfl) (ai ix14 (ai c13 trivial)))))) (hd := F67_d1) (h := by kernel_rfl)
    · intro hr
      obtain rfl := Option.some.inj hr
      show AWp Try.prog _ (Ends1 .normal (F67_h1 h x1 x2 x3 l4 v4 v5 v6 (IntKind.i64.wrap (a12 + 1)))) _
      exact pEnd_sound good (L := F67_L) (D := F67_D) (its := [.g, (.b true), (.ix id14 off14 g14), (.ld (.agg #[.int .i64 y14.1, .int .i64 y14.2.1, .int .i64 y14.2.2.1, .int .i64 y14.2.2.2])), .g, .g, .g, .g, (.c (.bool (F87 x1 x2 x3 l4 l5 l6 y14.1 y14.2.1 y14.2.2.1 y14.2.2.2)) h), .g, (.b false), .g, .g]) (ds := F67_m1_1) (ks := [4]) (e := .normal) (s2 := (F67_h1 h x1 x2 x3 l4 v4 v5 v6 (IntKind.i64.wrap (a12 + 1)))) (hC := (ai c16 (ai (F87_spec x1 x2 x3 l4 l5 l6 y14.1 y14.2.1 y14.2.2.1 y14.2.2.2 v4 v5 v6 h hv4 hv5 hv6 _ rfl) (ai (At.agg (P := Try.prog) (t := 81) (v := .agg #[.int .i64 y14.1, .int .i64 y14.2.1, .int .i64 y14.2.2.1, .int .i64 y14.2.2.2]) (m := 4) at14 (by kernel_rfl) (by kernel_rfl) 0 (by kernel_rfl) rfl) (ai ix14 (ai c13 trivial)))))) (hd := F67_d1) (h := by kernel_rfl)
  · intro hr
    obtain rfl := Option.some.inj hr
    show AWp Try.prog _ (Ends1 ((F67_x1 h x1 x2 x3 v4 v5 v6) (1 : Nat)).1 ((F67_x1 h x1 x2 x3 v4 v5 v6) (1 : Nat)).2) _
    exact pEnd_sound good (L := F67_L) (D := F67_D) (its := [.g, (.b false)]) (ds := F67_m1_2) (ks := []) (e := ((F67_x1 h x1 x2 x3 v4 v5 v6) (1 : Nat)).1) (s2 := ((F67_x1 h x1 x2 x3 v4 v5 v6) (1 : Nat)).2) (hC := (ai c13 trivial)) (hd := F67_d1) (h := by kernel_rfl)
theorem F67_l1_0 (h : AHeap) (x1 : Int) (x2 : Int) (x3 : Bool) (l4 : List (Int × Int × Int × Int)) (v4 : Hd) (hv4 : SlE E81 4 h (sv v4) l4) (l5 : List (Int × Int × Int × Int)) (v5 : Hd) (hv5 : SlE E38 4 h (sv v5) l5) (l6 : List (Int × Int)) (v6 : Hd) (hv6 : SlE E35 2 h (sv v6) l6) (x : Int) (r : Nat) (hl : loopO (fun (s : Int) => F67_s1 x1 x2 x3 l4 l5 l6 s) x = some r) (q0 : Nat.beq r 0 = true) : AWp Try.prog (.loop (codeOf Try.prog 67 [1, 1, 0, 1, 0, 0])) (Ends1 .ret (F67_x1_0 h x1 x2 x3 v4 v5 v6 r)) ((fun (s : Int) => (F67_h1 h x1 x2 x3 l4 v4 v5 v6 s)) x) := by
  have k := loop_fun (P := Try.prog) (c := (codeOf Try.prog 67 [1, 1, 0, 1, 0, 0])) (step := (fun (s : Int) => F67_s1 x1 x2 x3 l4 l5 l6 s)) (hd := (fun (s : Int) => (F67_h1 h x1 x2 x3 l4 v4 v5 v6 s))) (X := (F67_x1 h x1 x2 x3 v4 v5 v6)) (by intro t; unfold F67_x1; cases Nat.beq t 0 <;> (intro h; cases h)) (fun x => F67_r1 h x1 x2 x3 l4 v4 hv4 l5 v5 hv5 l6 v6 hv6 x) hl
  simp only [F67_x1, q0, cond_true, cond_false] at k
  exact k
theorem F67_l1_1 (h : AHeap) (x1 : Int) (x2 : Int) (x3 : Bool) (l4 : List (Int × Int × Int × Int)) (v4 : Hd) (hv4 : SlE E81 4 h (sv v4) l4) (l5 : List (Int × Int × Int × Int)) (v5 : Hd) (hv5 : SlE E38 4 h (sv v5) l5) (l6 : List (Int × Int)) (v6 : Hd) (hv6 : SlE E35 2 h (sv v6) l6) (x : Int) (r : Nat) (hl : loopO (fun (s : Int) => F67_s1 x1 x2 x3 l4 l5 l6 s) x = some r) (q0 : Nat.beq r 0 = false) : AWp Try.prog (.loop (codeOf Try.prog 67 [1, 1, 0, 1, 0, 0])) (Ends1 (.exit 0) (F67_x1_1 h x1 x2 x3 v4 v5 v6 r)) ((fun (s : Int) => (F67_h1 h x1 x2 x3 l4 v4 v5 v6 s)) x) := by
  have k := loop_fun (P := Try.prog) (c := (codeOf Try.prog 67 [1, 1, 0, 1, 0, 0])) (step := (fun (s : Int) => F67_s1 x1 x2 x3 l4 l5 l6 s)) (hd := (fun (s : Int) => (F67_h1 h x1 x2 x3 l4 v4 v5 v6 s))) (X := (F67_x1 h x1 x2 x3 v4 v5 v6)) (by intro t; unfold F67_x1; cases Nat.beq t 0 <;> (intro h; cases h)) (fun x => F67_r1 h x1 x2 x3 l4 v4 hv4 l5 v5 hv5 l6 v6 hv6 x) hl
  simp only [F67_x1, q0, cond_true, cond_false] at k
  exact k
def F67_m2_2 : List Bool := [true, false, true, true, true, true, true, true, true, true, true, true, true, true, true, true, true, true, true, true, true, true, true, true, true, true, true, true, true, true, true, true, true, true, true, true, true, true, true, true, true, true, true, true, true, true, true, true, true, true, true, true, true, true, true, true, true, true, true, true, true, true, true, true, true, true, true, true, true, true, true, true, true, true, true, true, true, true, true, true, true, true, true, true, true, true, true, true, true, true, true, true, true, true, true, true, true, true, true, true, true, true, true, true, true, true, true, true, true, true, true, true, true, true, true, true, true]
def F67_m2_1 : List Bool := [true, false, true, true, true, true, true, true, true, true, true, true, true, true, true, true, true, true, true, true, true, true, true, true, true, true, true, true, true, true, true, true, true, true, true, true, true, true, true, true, true, true, true, true, true, true, true, true, true, false, false, false, true, true, true, true, true, true, true, true, true, true, true, true, true, true, true, true, true, true, true, true, true, true, true, true, true, true, true, true, true, true, true, true, true, true, true, true, true, true, true, true, true, true, true, true, true, true, true, true, true, true, true, true, true, true, true, true, true, true, true, true, true, true, true, true, true]
def F67_m2_0 : List Bool := [true, true, false, true, true, true, true, true, true, true, true, true, true, true, true, true, true, true, true, true, true, true, true, true, true, true, true, true, true, true, true, true, true, true, true, true, true, true, true, true, true, true, true, true, true, true, true, true, true, true, true, true, true, true, true, true, true, true, true, true, true, true, true, true, true, true, true, true, true, true, true, true, true, true, true, true, true, true, true, true, true, true, true, true, true, true, true, true, true, true, true, true, true, true, true, true, true, true, true, true, true, true, true, true, true, true, true, true, true, true, true, true, true, true, true, true, true]
def F67_s2 (l5 : List (Int × Int × Int × Int)) (a19 : Int) : Option (Int ⊕ Nat) :=
  (bif decide (a19 < (l5.length : Int)) then
   (Option.bind (at? l5 a19) fun y21 =>
   (bif decide (y21.1 < 1) then
    some (.inr 0)
   else
    (bif decide (y21.1 > 4) then
     some (.inr 0)
    else
     (bif decide (y21.2.2.2 < 1) then
      some (.inr 0)
     else
      (bif decide (y21.2.2.2 > 1024) then
       some (.inr 0)
      else
       some (.inl (IntKind.i64.wrap (a19 + 1))))))))
  else
   some (.inr 1))
def F67_h2 (h : AHeap) (x1 : Int) (x2 : Int) (x3 : Bool) (v4 : Hd) (l5 : List (Int × Int × Int × Int)) (v5 : Hd) (v6 : Hd)  (a19 : Int) : AS := ⟨[junk, .pointer (some ⟨1, 0, none⟩), junk, junk, junk, junk, junk, junk, junk, junk, junk, junk, junk, junk, junk, junk, junk, junk, junk, junk, junk, junk, junk, junk, junk, junk, junk, junk, junk, junk, junk, junk, junk, junk, junk, junk, junk, junk, junk, junk, junk, junk, junk, junk, junk, junk, junk, junk, junk, (sv v5), .int .i64 (l5.length : Int), .int .i64 a19, junk, junk, junk, junk, junk, junk, junk, junk, junk, junk, junk, junk, junk, junk, junk, junk, junk, junk, junk, junk, junk, junk, junk, junk, junk, junk, junk, junk, junk, junk, junk, junk, junk, junk, junk, junk, junk, junk, junk, junk, junk, junk, junk, junk, junk, junk, junk, junk, junk, junk, junk, junk, junk, junk, junk, junk, junk, junk, junk, junk, junk, junk, junk, junk, junk], [(1, [.int .i64 x1, .int .i64 x2, .bool x3, (sv v4), (sv v5), (sv v6)])], h⟩
theorem F67_d2 : drawsOk F67_D (codeOf Try.prog 67 [1, 1, 1, 0, 1, 0, 0]) = true := by kernel_rfl
def F67_x2_0 (h : AHeap) (x1 : Int) (x2 : Int) (x3 : Bool) (v4 : Hd) (v5 : Hd) (v6 : Hd)  (r : Nat) : AS := ⟨[junk, junk, .bool false, junk, junk, junk, junk, junk, junk, junk, junk, junk, junk, junk, junk, junk, junk, junk, junk, junk, junk, junk, junk, junk, junk, junk, junk, junk, junk, junk, junk, junk, junk, junk, junk, junk, junk, junk, junk, junk, junk, junk, junk, junk, junk, junk, junk, junk, junk, junk, junk, junk, junk, junk, junk, junk, junk, junk, junk, junk, junk, junk, junk, junk, junk, junk, junk, junk, junk, junk, junk, junk, junk, junk, junk, junk, junk, junk, junk, junk, junk, junk, junk, junk, junk, junk, junk, junk, junk, junk, junk, junk, junk, junk, junk, junk, junk, junk, junk, junk, junk, junk, junk, junk, junk, junk, junk, junk, junk, junk, junk, junk, junk, junk, junk, junk, junk], [], h⟩
def F67_x2_1 (h : AHeap) (x1 : Int) (x2 : Int) (x3 : Bool) (v4 : Hd) (v5 : Hd) (v6 : Hd)  (r : Nat) : AS := ⟨[junk, .pointer (some ⟨1, 0, none⟩), junk, junk, junk, junk, junk, junk, junk, junk, junk, junk, junk, junk, junk, junk, junk, junk, junk, junk, junk, junk, junk, junk, junk, junk, junk, junk, junk, junk, junk, junk, junk, junk, junk, junk, junk, junk, junk, junk, junk, junk, junk, junk, junk, junk, junk, junk, junk, junk, junk, junk, junk, junk, junk, junk, junk, junk, junk, junk, junk, junk, junk, junk, junk, junk, junk, junk, junk, junk, junk, junk, junk, junk, junk, junk, junk, junk, junk, junk, junk, junk, junk, junk, junk, junk, junk, junk, junk, junk, junk, junk, junk, junk, junk, junk, junk, junk, junk, junk, junk, junk, junk, junk, junk, junk, junk, junk, junk, junk, junk, junk, junk, junk, junk, junk, junk], [(1, [.int .i64 x1, .int .i64 x2, .bool x3, (sv v4), (sv v5), (sv v6)])], h⟩
def F67_x2 (h : AHeap) (x1 : Int) (x2 : Int) (x3 : Bool) (v4 : Hd) (v5 : Hd) (v6 : Hd) (r : Nat) : Exit × AS := (bif Nat.beq r 0 then (.ret, (F67_x2_0 h x1 x2 x3 v4 v5 v6 r)) else ((.exit 2), (F67_x2_1 h x1 x2 x3 v4 v5 v6 r)))
set_option maxRecDepth 100000 in
theorem F67_r2 (h : AHeap) (x1 : Int) (x2 : Int) (x3 : Bool) (v4 : Hd) (l5 : List (Int × Int × Int × Int)) (v5 : Hd) (hv5 : SlE E38 4 h (sv v5) l5) (v6 : Hd) (a19 : Int) (o : Int ⊕ Nat) : F67_s2 l5 a19 = some o → RdF Try.prog (codeOf Try.prog 67 [1, 1, 1, 0, 1, 0, 0]) (fun (s : Int) => (F67_h2 h x1 x2 x3 v4 l5 v5 v6 s)) (F67_x2 h x1 x2 x3 v4 v5 v6) (F67_h2 h x1 x2 x3 v4 l5 v5 v6 a19) o := by
  unfold F67_s2
  refine dec_bif (fun c20 => ?_) (fun c20 => ?_)
  · refine bind_opt fun y21 e21 => ?_
    obtain ⟨id21, off21, g21, cs21, ix21, at21, rfl⟩ := SlE.at hv5 e21
    refine dec_bif (fun c22 => ?_) (fun c22 => ?_)
    · intro hr
      obtain rfl := Option.some.inj hr
      show AWp Try.prog _ (Ends1 ((F67_x2 h x1 x2 x3 v4 v5 v6) (0 : Nat)).1 ((F67_x2 h x1 x2 x3 v4 v5 v6) (0 : Nat)).2) _
      exact pEnd_sound good (L := F67_L) (D := F67_D) (its := [.g, (.b true), (.ix id21 off21 g21), (.ld (.agg #[.int .i64 y21.1, .int .i64 y21.2.1, .int .i64 y21.2.2.1, .int .i64 y21.2.2.2])), .g, .g, .g, .g, .g, .g, .n, .n, .n, (.p true), .g, .n, .n, .n, .g, .g, .n, .n, .n, .g, (.b true), .g]) (ds := F67_m2_0) (ks := [1, 6]) (e := ((F67_x2 h x1 x2 x3 v4 v5 v6) (0 : Nat)).1) (s2 := ((F67_x2 h x1 x2 x3 v4 v5 v6) (0 : Nat)).2) (hC := (ai l_t (ai (g_tf l_t) (ai (g_tf l_t) (ai (g_tf l_t) (ai (g_tf l_t) (ai (g_tf l_t) (ai (g_tf l_t) (ai c22 (ai (g_tf c22) (ai (g_tf c22) (ai (g_tf c22) (ai (At.agg (P := Try.prog) (t := 38) (v := .agg #[.int .i64 y21.1, .int .i64 y21.2.1, .int .i64 y21.2.2.1, .int .i64 y21.2.2.2]) (m := 4) at21 (by kernel_rfl) (by kernel_rfl) 0 (by kernel_rfl) rfl) (ai ix21 (ai c20 trivial))))))))))))))) (hd := F67_d2) (h := by kernel_rfl)
    · refine dec_bif (fun c23 => ?_) (fun c23 => ?_)
      · intro hr
        obtain rfl := Option.some.inj hr
        show AWp Try.prog _ (Ends1 ((F67_x2 h x1 x2 x3 v4 v5 v6) (0 : Nat)).1 ((F67_x2 h x1 x2 x3 v4 v5 v6) (0 : Nat)).2) _
        exact pEnd_sound good (L := F67_L) (D := F67_D) (its := [.g, (.b true), (.ix id21 off21 g21), (.ld (.agg #[.int .i64 y21.1, .int .i64 y21.2.1, .int .i64 y21.2.2.1, .int .i64 y21.2.2.2])), .g, .g, .g, .g, .g, .g, (.w .g), (.w .g), (.w .g), (.p false), .g, .n, .n, .n, (.p true), .g, .n, .n, .n, .g, (.b true), .g]) (ds := F67_m2_0) (ks := [1, 6]) (e := ((F67_x2 h x1 x2 x3 v4 v5 v6) (0 : Nat)).1) (s2 := ((F67_x2 h x1 x2 x3 v4 v5 v6) (0 : Nat)).2) (hC := (ai l_t (ai (g_tf l_t) (ai (g_tf l_t) (ai (g_tf l_t) (ai c23 (ai (g_tf c23) (ai (g_tf c23) (ai (g_tf c23) (ai c22 (ai (g_ff c22) (ai (g_ff c22) (ai (g_ff c22) (ai (At.agg (P := Try.prog) (t := 38) (v := .agg #[.int .i64 y21.1, .int .i64 y21.2.1, .int .i64 y21.2.2.1, .int .i64 y21.2.2.2]) (m := 4) at21 (by kernel_rfl) (by kernel_rfl) 0 (by kernel_rfl) rfl) (ai ix21 (ai c20 trivial)))))))))))))))) (hd := F67_d2) (h := by kernel_rfl)
      · refine dec_bif (fun c24 => ?_) (fun c24 => ?_)
        · intro hr
          obtain rfl := Option.some.inj hr
          show AWp Try.prog _ (Ends1 ((F67_x2 h x1 x2 x3 v4 v5 v6) (0 : Nat)).1 ((F67_x2 h x1 x2 x3 v4 v5 v6) (0 : Nat)).2) _
          exact pEnd_sound good (L := F67_L) (D := F67_D) (its := [.g, (.b true), (.ix id21 off21 g21), (.ld (.agg #[.int .i64 y21.1, .int .i64 y21.2.1, .int .i64 y21.2.2.1, .int .i64 y21.2.2.2])), .g, .g, .g, .g, .g, .g, (.w .g), (.w .g), (.w .g), (.p false), .g, (.w .g), (.w .g), (.w .g), (.p false), .g, .n, .n, .n, (.p true), (.b true), .g]) (ds := F67_m2_0) (ks := [1, 6]) (e := ((F67_x2 h x1 x2 x3 v4 v5 v6) (0 : Nat)).1) (s2 := ((F67_x2 h x1 x2 x3 v4 v5 v6) (0 : Nat)).2) (hC := (ai l_t (ai c24 (ai (g_tf c24) (ai (g_tf c24) (ai (g_tf c24) (ai c23 (ai (g_ff c23) (ai (g_ff c23) (ai (g_ff c23) (ai c22 (ai (g_ff c22) (ai (g_ff c22) (ai (g_ff c22) (ai (At.agg (P := Try.prog) (t := 38) (v := .agg #[.int .i64 y21.1, .int .i64 y21.2.1, .int .i64 y21.2.2.1, .int .i64 y21.2.2.2]) (m := 4) at21 (by kernel_rfl) (by kernel_rfl) 0 (by kernel_rfl) rfl) (ai ix21 (ai c20 trivial))))))))))))))))) (hd := F67_d2) (h := by kernel_rfl)
        · refine dec_bif (fun c25 => ?_) (fun c25 => ?_)
          · intro hr
            obtain rfl := Option.some.inj hr
            show AWp Try.prog _ (Ends1 ((F67_x2 h x1 x2 x3 v4 v5 v6) (0 : Nat)).1 ((F67_x2 h x1 x2 x3 v4 v5 v6) (0 : Nat)).2) _
            exact pEnd_sound good (L := F67_L) (D := F67_D) (its := [.g, (.b true), (.ix id21 off21 g21), (.ld (.agg #[.int .i64 y21.1, .int .i64 y21.2.1, .int .i64 y21.2.2.1, .int .i64 y21.2.2.2])), .g, .g, .g, .g, .g, .g, (.w .g), (.w .g), (.w .g), (.p false), .g, (.w .g), (.w .g), (.w .g), (.p false), .g, (.w .g), (.w .g), (.w .g), (.p false), (.b true), .g]) (ds := F67_m2_0) (ks := [1, 6]) (e := ((F67_x2 h x1 x2 x3 v4 v5 v6) (0 : Nat)).1) (s2 := ((F67_x2 h x1 x2 x3 v4 v5 v6) (0 : Nat)).2) (hC := (ai c25 (ai c24 (ai (g_ff c24) (ai (g_ff c24) (ai (g_ff c24) (ai c23 (ai (g_ff c23) (ai (g_ff c23) (ai (g_ff c23) (ai c22 (ai (g_ff c22) (ai (g_ff c22) (ai (g_ff c22) (ai (At.agg (P := Try.prog) (t := 38) (v := .agg #[.int .i64 y21.1, .int .i64 y21.2.1, .int .i64 y21.2.2.1, .int .i64 y21.2.2.2]) (m := 4) at21 (by kernel_rfl) (by kernel_rfl) 0 (by kernel_rfl) rfl) (ai ix21 (ai c20 trivial))))))))))))))))) (hd := F67_d2) (h := by kernel_rfl)
          · intro hr
            obtain rfl := Option.some.inj hr
            show AWp Try.prog _ (Ends1 .normal (F67_h2 h x1 x2 x3 v4 l5 v5 v6 (IntKind.i64.wrap (a19 + 1)))) _
            exact pEnd_sound good (L := F67_L) (D := F67_D) (its := [.g, (.b true), (.ix id21 off21 g21), (.ld (.agg #[.int .i64 y21.1, .int .i64 y21.2.1, .int .i64 y21.2.2.1, .int .i64 y21.2.2.2])), .g, .g, .g, .g, .g, .g, (.w .g), (.w .g), (.w .g), (.p false), .g, (.w .g), (.w .g), (.w .g), (.p false), .g, (.w .g), (.w .g), (.w .g), (.p false), (.b false), .g, .g]) (ds := F67_m2_1) (ks := [6]) (e := .normal) (s2 := (F67_h2 h x1 x2 x3 v4 l5 v5 v6 (IntKind.i64.wrap (a19 + 1)))) (hC := (ai c25 (ai c24 (ai (g_ff c24) (ai (g_ff c24) (ai (g_ff c24) (ai c23 (ai (g_ff c23) (ai (g_ff c23) (ai (g_ff c23) (ai c22 (ai (g_ff c22) (ai (g_ff c22) (ai (g_ff c22) (ai (At.agg (P := Try.prog) (t := 38) (v := .agg #[.int .i64 y21.1, .int .i64 y21.2.1, .int .i64 y21.2.2.1, .int .i64 y21.2.2.2]) (m := 4) at21 (by kernel_rfl) (by kernel_rfl) 0 (by kernel_rfl) rfl) (ai ix21 (ai c20 trivial))))))))))))))))) (hd := F67_d2) (h := by kernel_rfl)
  · intro hr
    obtain rfl := Option.some.inj hr
    show AWp Try.prog _ (Ends1 ((F67_x2 h x1 x2 x3 v4 v5 v6) (1 : Nat)).1 ((F67_x2 h x1 x2 x3 v4 v5 v6) (1 : Nat)).2) _
    exact pEnd_sound good (L := F67_L) (D := F67_D) (its := [.g, (.b false)]) (ds := F67_m2_2) (ks := []) (e := ((F67_x2 h x1 x2 x3 v4 v5 v6) (1 : Nat)).1) (s2 := ((F67_x2 h x1 x2 x3 v4 v5 v6) (1 : Nat)).2) (hC := (ai c20 trivial)) (hd := F67_d2) (h := by kernel_rfl)
theorem F67_l2_0 (h : AHeap) (x1 : Int) (x2 : Int) (x3 : Bool) (v4 : Hd) (l5 : List (Int × Int × Int × Int)) (v5 : Hd) (hv5 : SlE E38 4 h (sv v5) l5) (v6 : Hd) (x : Int) (r : Nat) (hl : loopO (fun (s : Int) => F67_s2 l5 s) x = some r) (q0 : Nat.beq r 0 = true) : AWp Try.prog (.loop (codeOf Try.prog 67 [1, 1, 1, 0, 1, 0, 0])) (Ends1 .ret (F67_x2_0 h x1 x2 x3 v4 v5 v6 r)) ((fun (s : Int) => (F67_h2 h x1 x2 x3 v4 l5 v5 v6 s)) x) := by
  have k := loop_fun (P := Try.prog) (c := (codeOf Try.prog 67 [1, 1, 1, 0, 1, 0, 0])) (step := (fun (s : Int) => F67_s2 l5 s)) (hd := (fun (s : Int) => (F67_h2 h x1 x2 x3 v4 l5 v5 v6 s))) (X := (F67_x2 h x1 x2 x3 v4 v5 v6)) (by intro t; unfold F67_x2; cases Nat.beq t 0 <;> (intro h; cases h)) (fun x => F67_r2 h x1 x2 x3 v4 l5 v5 hv5 v6 x) hl
  simp only [F67_x2, q0, cond_true, cond_false] at k
  exact k
theorem F67_l2_1 (h : AHeap) (x1 : Int) (x2 : Int) (x3 : Bool) (v4 : Hd) (l5 : List (Int × Int × Int × Int)) (v5 : Hd) (hv5 : SlE E38 4 h (sv v5) l5) (v6 : Hd) (x : Int) (r : Nat) (hl : loopO (fun (s : Int) => F67_s2 l5 s) x = some r) (q0 : Nat.beq r 0 = false) : AWp Try.prog (.loop (codeOf Try.prog 67 [1, 1, 1, 0, 1, 0, 0])) (Ends1 (.exit 2) (F67_x2_1 h x1 x2 x3 v4 v5 v6 r)) ((fun (s : Int) => (F67_h2 h x1 x2 x3 v4 l5 v5 v6 s)) x) := by
  have k := loop_fun (P := Try.prog) (c := (codeOf Try.prog 67 [1, 1, 1, 0, 1, 0, 0])) (step := (fun (s : Int) => F67_s2 l5 s)) (hd := (fun (s : Int) => (F67_h2 h x1 x2 x3 v4 l5 v5 v6 s))) (X := (F67_x2 h x1 x2 x3 v4 v5 v6)) (by intro t; unfold F67_x2; cases Nat.beq t 0 <;> (intro h; cases h)) (fun x => F67_r2 h x1 x2 x3 v4 l5 v5 hv5 v6 x) hl
  simp only [F67_x2, q0, cond_true, cond_false] at k
  exact k
def F67_m3_2 : List Bool := [true, false, true, true, true, true, true, true, true, true, true, true, true, true, true, true, true, true, true, true, true, true, true, true, true, true, true, true, true, true, true, true, true, true, true, true, true, true, true, true, true, true, true, true, true, true, true, true, true, true, true, true, true, true, true, true, true, true, true, true, true, true, true, true, true, true, true, true, true, true, true, true, true, true, true, true, true, true, true, true, true, true, true, true, true, true, true, true, true, true, true, true, true, true, true, true, true, true, true, true, true, true, true, true, true, true, true, true, true, true, true, true, true, true, true, true, true]
def F67_m3_1 : List Bool := [true, false, true, true, true, true, true, true, true, true, true, true, true, true, true, true, true, true, true, true, true, true, true, true, true, true, true, true, true, true, true, true, true, true, true, true, true, true, true, true, true, true, true, true, true, true, true, true, true, true, true, true, true, true, true, true, true, true, true, true, true, true, true, true, true, true, true, true, true, true, true, true, true, true, true, false, false, false, true, true, true, true, true, true, true, true, true, true, true, true, true, true, true, true, true, true, true, true, true, true, true, true, true, true, true, true, true, true, true, true, true, true, true, true, true, true, true]
def F67_m3_0 : List Bool := [true, true, false, true, true, true, true, true, true, true, true, true, true, true, true, true, true, true, true, true, true, true, true, true, true, true, true, true, true, true, true, true, true, true, true, true, true, true, true, true, true, true, true, true, true, true, true, true, true, true, true, true, true, true, true, true, true, true, true, true, true, true, true, true, true, true, true, true, true, true, true, true, true, true, true, true, true, true, true, true, true, true, true, true, true, true, true, true, true, true, true, true, true, true, true, true, true, true, true, true, true, true, true, true, true, true, true, true, true, true, true, true, true, true, true, true, true]
def F67_s3 (l5 : List (Int × Int × Int × Int)) (l6 : List (Int × Int)) (a28 : Int) : Option (Int ⊕ Nat) :=
  (bif decide (a28 < (l6.length : Int)) then
   (Option.bind (at? l6 a28) fun y30 =>
   (bif (y30.1 == (-1)) then
    (bif (!(y30.2 == 0)) then
     (bif decide (y30.1 < 0) then
      some (.inr 0)
     else
      (bif decide (y30.1 ≥ (l5.length : Int)) then
       some (.inr 0)
      else
       (bif decide (y30.2 < 1) then
        some (.inr 0)
       else
        (bif decide (y30.2 > 256) then
         some (.inr 0)
        else
         some (.inl (IntKind.i64.wrap (a28 + 1)))))))
    else
     some (.inl (IntKind.i64.wrap (a28 + 1))))
   else
    (bif decide (y30.1 < 0) then
     some (.inr 0)
    else
     (bif decide (y30.1 ≥ (l5.length : Int)) then
      some (.inr 0)
     else
      (bif decide (y30.2 < 1) then
       some (.inr 0)
      else
       (bif decide (y30.2 > 256) then
        some (.inr 0)
       else
        some (.inl (IntKind.i64.wrap (a28 + 1)))))))))
  else
   some (.inr 1))
def F67_h3 (h : AHeap) (x1 : Int) (x2 : Int) (x3 : Bool) (v4 : Hd) (v5 : Hd) (l6 : List (Int × Int)) (v6 : Hd)  (a28 : Int) : AS := ⟨[junk, .pointer (some ⟨1, 0, none⟩), junk, junk, junk, junk, junk, junk, junk, junk, junk, junk, junk, junk, junk, junk, junk, junk, junk, junk, junk, junk, junk, junk, junk, junk, junk, junk, junk, junk, junk, junk, junk, junk, junk, junk, junk, junk, junk, junk, junk, junk, junk, junk, junk, junk, junk, junk, junk, junk, junk, junk, junk, junk, junk, junk, junk, junk, junk, junk, junk, junk, junk, junk, junk, junk, junk, junk, junk, junk, junk, junk, junk, junk, junk, (sv v6), .int .i64 (l6.length : Int), .int .i64 a28, junk, junk, junk, junk, junk, junk, junk, junk, junk, junk, junk, junk, junk, junk, junk, junk, junk, junk, junk, junk, junk, junk, junk, junk, junk, junk, junk, junk, junk, junk, junk, junk, junk, junk, junk, junk, junk, junk, junk], [(1, [.int .i64 x1, .int .i64 x2, .bool x3, (sv v4), (sv v5), (sv v6)])], h⟩
theorem F67_d3 : drawsOk F67_D (codeOf Try.prog 67 [1, 1, 1, 1, 0, 1, 0, 0]) = true := by kernel_rfl
def F67_x3_0 (h : AHeap) (x1 : Int) (x2 : Int) (x3 : Bool) (v4 : Hd) (v5 : Hd) (v6 : Hd)  (r : Nat) : AS := ⟨[junk, junk, .bool false, junk, junk, junk, junk, junk, junk, junk, junk, junk, junk, junk, junk, junk, junk, junk, junk, junk, junk, junk, junk, junk, junk, junk, junk, junk, junk, junk, junk, junk, junk, junk, junk, junk, junk, junk, junk, junk, junk, junk, junk, junk, junk, junk, junk, junk, junk, junk, junk, junk, junk, junk, junk, junk, junk, junk, junk, junk, junk, junk, junk, junk, junk, junk, junk, junk, junk, junk, junk, junk, junk, junk, junk, junk, junk, junk, junk, junk, junk, junk, junk, junk, junk, junk, junk, junk, junk, junk, junk, junk, junk, junk, junk, junk, junk, junk, junk, junk, junk, junk, junk, junk, junk, junk, junk, junk, junk, junk, junk, junk, junk, junk, junk, junk, junk], [], h⟩
def F67_x3_1 (h : AHeap) (x1 : Int) (x2 : Int) (x3 : Bool) (v4 : Hd) (v5 : Hd) (v6 : Hd)  (r : Nat) : AS := ⟨[junk, .pointer (some ⟨1, 0, none⟩), junk, junk, junk, junk, junk, junk, junk, junk, junk, junk, junk, junk, junk, junk, junk, junk, junk, junk, junk, junk, junk, junk, junk, junk, junk, junk, junk, junk, junk, junk, junk, junk, junk, junk, junk, junk, junk, junk, junk, junk, junk, junk, junk, junk, junk, junk, junk, junk, junk, junk, junk, junk, junk, junk, junk, junk, junk, junk, junk, junk, junk, junk, junk, junk, junk, junk, junk, junk, junk, junk, junk, junk, junk, junk, junk, junk, junk, junk, junk, junk, junk, junk, junk, junk, junk, junk, junk, junk, junk, junk, junk, junk, junk, junk, junk, junk, junk, junk, junk, junk, junk, junk, junk, junk, junk, junk, junk, junk, junk, junk, junk, junk, junk, junk, junk], [(1, [.int .i64 x1, .int .i64 x2, .bool x3, (sv v4), (sv v5), (sv v6)])], h⟩
def F67_x3 (h : AHeap) (x1 : Int) (x2 : Int) (x3 : Bool) (v4 : Hd) (v5 : Hd) (v6 : Hd) (r : Nat) : Exit × AS := (bif Nat.beq r 0 then (.ret, (F67_x3_0 h x1 x2 x3 v4 v5 v6 r)) else ((.exit 4), (F67_x3_1 h x1 x2 x3 v4 v5 v6 r)))
set_option maxRecDepth 100000 in
theorem F67_r3 (h : AHeap) (x1 : Int) (x2 : Int) (x3 : Bool) (v4 : Hd) (l5 : List (Int × Int × Int × Int)) (v5 : Hd) (hv5 : SlE E38 4 h (sv v5) l5) (l6 : List (Int × Int)) (v6 : Hd) (hv6 : SlE E35 2 h (sv v6) l6) (a28 : Int) (o : Int ⊕ Nat) : F67_s3 l5 l6 a28 = some o → RdF Try.prog (codeOf Try.prog 67 [1, 1, 1, 1, 0, 1, 0, 0]) (fun (s : Int) => (F67_h3 h x1 x2 x3 v4 v5 l6 v6 s)) (F67_x3 h x1 x2 x3 v4 v5 v6) (F67_h3 h x1 x2 x3 v4 v5 l6 v6 a28) o := by
  unfold F67_s3
  refine dec_bif (fun c29 => ?_) (fun c29 => ?_)
  · refine bind_opt fun y30 e30 => ?_
    obtain ⟨id30, off30, g30, cs30, ix30, at30, rfl⟩ := SlE.at hv6 e30
    refine dec_bif (fun c31 => ?_) (fun c31 => ?_)
    · refine dec_bif (fun c32 => ?_) (fun c32 => ?_)
      · refine dec_bif (fun c33 => ?_) (fun c33 => ?_)
        · intro hr
          obtain rfl := Option.some.inj hr
          show AWp Try.prog _ (Ends1 ((F67_x3 h x1 x2 x3 v4 v5 v6) (0 : Nat)).1 ((F67_x3 h x1 x2 x3 v4 v5 v6) (0 : Nat)).2) _
          exact pEnd_sound good (L := F67_L) (D := F67_D) (its := [.g, (.b true), (.ix id30 off30 g30), (.ld (.agg #[.int .i64 y30.1, .int .i64 y30.2])), .g, .g, .g, .g, .g, .g, (.w .g), (.w .g), (.w .g), (.p true), .g, .g, .g, .g, (.w .g), (.w .g), (.w .g), (.w .g), .n, .n, .n, .n, .n, .n, (.w (.p true)), (.w .g), .n, .n, .n, (.w .g), (.w .g), .n, .n, .n, (.w .g), (.p true), (.b true), .g]) (ds := F67_m3_0) (ks := [1, 8]) (e := ((F67_x3 h x1 x2 x3 v4 v5 v6) (0 : Nat)).1) (s2 := ((F67_x3 h x1 x2 x3 v4 v5 v6) (0 : Nat)).2) (hC := (ai l_t (ai c32 (ai (g_tt c32) (ai (g_tf l_t) (ai (g_tf l_t) (ai (g_tf l_t) (ai (g_tt c32) (ai (g_tt c32) (ai (g_tf l_t) (ai (g_tf l_t) (ai (g_tf l_t) (ai (g_tt c32) (ai c33 (ai (g_tt c32) (ai (g_tf c33) (ai (g_tf c33) (ai (g_tf c33) (ai (g_tf c33) (ai (g_tf c33) (ai (g_tf c33) (ai (g_tt c32) (ai (g_tt c32) (ai (g_tt c32) (ai (g_tt c32) (ai c31 (ai (g_tt c31) (ai (g_tt c31) (ai (g_tt c31) (ai (At.agg (P := Try.prog) (t := 35) (v := .agg #[.int .i64 y30.1, .int .i64 y30.2]) (m := 2) at30 (by kernel_rfl) (by kernel_rfl) 0 (by kernel_rfl) rfl) (ai ix30 (ai c29 trivial)))))))))))))))))))))))))))))))) (hd := F67_d3) (h := by kernel_rfl)
        · refine dec_bif (fun c34 => ?_) (fun c34 => ?_)
          · intro hr
            obtain rfl := Option.some.inj hr
            show AWp Try.prog _ (Ends1 ((F67_x3 h x1 x2 x3 v4 v5 v6) (0 : Nat)).1 ((F67_x3 h x1 x2 x3 v4 v5 v6) (0 : Nat)).2) _
            exact pEnd_sound good (L := F67_L) (D := F67_D) (its := [.g, (.b true), (.ix id30 off30 g30), (.ld (.agg #[.int .i64 y30.1, .int .i64 y30.2])), .g, .g, .g, .g, .g, .g, (.w .g), (.w .g), (.w .g), (.p true), .g, .g, .g, .g, (.w .g), (.w .g), (.w .g), (.w .g), (.w .g), (.w .g), (.w .g), (.w .g), (.w (.ln l5.length)), (.w .g), (.w (.p false)), (.w .g), .n, .n, .n, (.w (.p true)), (.w .g), .n, .n, .n, (.w .g), (.p true), (.b true), .g]) (ds := F67_m3_0) (ks := [1, 8]) (e := ((F67_x3 h x1 x2 x3 v4 v5 v6) (0 : Nat)).1) (s2 := ((F67_x3 h x1 x2 x3 v4 v5 v6) (0 : Nat)).2) (hC := (ai l_t (ai c32 (ai (g_tt c32) (ai (g_tf l_t) (ai (g_tf l_t) (ai (g_tf l_t) (ai (g_tt c32) (ai c34 (ai (g_tt c32) (ai (g_tf c34) (ai (g_tf c34) (ai (g_tf c34) (ai (g_tt c32) (ai c33 (ai (g_tt c32) (ai (g_ff c33) (ai (SlE.len hv5) (ai (g_ff c33) (ai (g_ff c33) (ai (g_ff c33) (ai (g_ff c33) (ai (g_ff c33) (ai (g_tt c32) (ai (g_tt c32) (ai (g_tt c32) (ai (g_tt c32) (ai c31 (ai (g_tt c31) (ai (g_tt c31) (ai (g_tt c31) (ai (At.agg (P := Try.prog) (t := 35) (v := .agg #[.int .i64 y30.1, .int .i64 y30.2]) (m := 2) at30 (by kernel_rfl) (by kernel_rfl) 0 (by kernel_rfl) rfl) (ai ix30 (ai c29 trivial)))))))))))))))))))))))))))))))))) (hd := F67_d3) (h := by kernel_rfl)
          · refine dec_bif (fun c35 => ?_) (fun c35 => ?_)
            · intro hr
              obtain rfl := Option.some.inj hr
              show AWp Try.prog _ (Ends1 ((F67_x3 h x1 x2 x3 v4 v5 v6) (0 : Nat)).1 ((F67_x3 h x1 x2 x3 v4 v5 v6) (0 : Nat)).2) _
              exact pEnd_sound good (L := F67_L) (D := F67_D) (its := [.g, (.b true), (.ix id30 off30 g30), (.ld (.agg #[.int .i64 y30.1, .int .i64 y30.2])), .g, .g, .g, .g, .g, .g, (.w .g), (.w .g), (.w .g), (.p true), .g, .g, .g, .g, (.w .g), (.w .g), (.w .g), (.w .g), (.w .g), (.w .g), (.w .g), (.w .g), (.w (.ln l5.length)), (.w .g), (.w (.p false)), (.w .g), (.w .g), (.w .g), (.w .g), (.w (.p false)), (.w .g), .n, .n, .n, (.w (.p true)), (.p true), (.b true), .g]) (ds := F67_m3_0) (ks := [1, 8]) (e := ((F67_x3 h x1 x2 x3 v4 v5 v6) (0 : Nat)).1) (s2 := ((F67_x3 h x1 x2 x3 v4 v5 v6) (0 : Nat)).2) (hC := (ai l_t (ai c32 (ai c35 (ai (g_tt c32) (ai (g_tf c35) (ai (g_tf c35) (ai (g_tf c35) (ai (g_tt c32) (ai c34 (ai (g_tt c32) (ai (g_ff c34) (ai (g_ff c34) (ai (g_ff c34) (ai (g_tt c32) (ai c33 (ai (g_tt c32) (ai (g_ff c33) (ai (SlE.len hv5) (ai (g_ff c33) (ai (g_ff c33) (ai (g_ff c33) (ai (g_ff c33) (ai (g_ff c33) (ai (g_tt c32) (ai (g_tt c32) (ai (g_tt c32) (ai (g_tt c32) (ai c31 (ai (g_tt c31) (ai (g_tt c31) (ai (g_tt c31) (ai (At.agg (P := Try.prog) (t := 35) (v := .agg #[.int .i64 y30.1, .int .i64 y30.2]) (m := 2) at30 (by kernel_rfl) (by kernel_rfl) 0 (by kernel_rfl) rfl) (ai ix30 (ai c29 trivial))))))))))))))))))))))))))))))))))) (hd := F67_d3) (h := by kernel_rfl)
            · refine dec_bif (fun c36 => ?_) (fun c36 => ?_)
              · intro hr
                obtain rfl := Option.some.inj hr
                show AWp Try.prog _ (Ends1 ((F67_x3 h x1 x2 x3 v4 v5 v6) (0 : Nat)).1 ((F67_x3 h x1 x2 x3 v4 v5 v6) (0 : Nat)).2) _
                exact pEnd_sound good (L := F67_L) (D := F67_D) (its := [.g, (.b true), (.ix id30 off30 g30), (.ld (.agg #[.int .i64 y30.1, .int .i64 y30.2])), .g, .g, .g, .g, .g, .g, (.w .g), (.w .g), (.w .g), (.p true), .g, .g, .g, .g, (.w .g), (.w .g), (.w .g), (.w .g), (.w .g), (.w .g), (.w .g), (.w .g), (.w (.ln l5.length)), (.w .g), (.w (.p false)), (.w .g), (.w .g), (.w .g), (.w .g), (.w (.p false)), (.w .g), (.w .g), (.w .g), (.w .g), (.w (.p false)), (.p true), (.b true), .g]) (ds := F67_m3_0) (ks := [1, 8]) (e := ((F67_x3 h x1 x2 x3 v4 v5 v6) (0 : Nat)).1) (s2 := ((F67_x3 h x1 x2 x3 v4 v5 v6) (0 : Nat)).2) (hC := (ai c36 (ai c32 (ai c35 (ai (g_tt c32) (ai (g_ff c35) (ai (g_ff c35) (ai (g_ff c35) (ai (g_tt c32) (ai c34 (ai (g_tt c32) (ai (g_ff c34) (ai (g_ff c34) (ai (g_ff c34) (ai (g_tt c32) (ai c33 (ai (g_tt c32) (ai (g_ff c33) (ai (SlE.len hv5) (ai (g_ff c33) (ai (g_ff c33) (ai (g_ff c33) (ai (g_ff c33) (ai (g_ff c33) (ai (g_tt c32) (ai (g_tt c32) (ai (g_tt c32) (ai (g_tt c32) (ai c31 (ai (g_tt c31) (ai (g_tt c31) (ai (g_tt c31) (ai (At.agg (P := Try.prog) (t := 35) (v := .agg #[.int .i64 y30.1, .int .i64 y30.2]) (m := 2) at30 (by kernel_rfl) (by kernel_rfl) 0 (by kernel_rfl) rfl) (ai ix30 (ai c29 trivial))))))))))))))))))))))))))))))))))) (hd := F67_d3) (h := by kernel_rfl)
              · intro hr
                obtain rfl := Option.some.inj hr
                show AWp Try.prog _ (Ends1 .normal (F67_h3 h x1 x2 x3 v4 v5 l6 v6 (IntKind.i64.wrap (a28 + 1)))) _
                exact pEnd_sound good (L := F67_L) (D := F67_D) (its := [.g, (.b true), (.ix id30 off30 g30), (.ld (.agg #[.int .i64 y30.1, .int .i64 y30.2])), .g, .g, .g, .g, .g, .g, (.w .g), (.w .g), (.w .g), (.p true), .g, .g, .g, .g, (.w .g), (.w .g), (.w .g), (.w .g), (.w .g), (.w .g), (.w .g), (.w .g), (.w (.ln l5.length)), (.w .g), (.w (.p false)), (.w .g), (.w .g), (.w .g), (.w .g), (.w (.p false)), (.w .g), (.w .g), (.w .g), (.w .g), (.w (.p false)), (.p true), (.b false), .g, .g]) (ds := F67_m3_1) (ks := [8]) (e := .normal) (s2 := (F67_h3 h x1 x2 x3 v4 v5 l6 v6 (IntKind.i64.wrap (a28 + 1)))) (hC := (ai c36 (ai c32 (ai c35 (ai (g_tt c32) (ai (g_ff c35) (ai (g_ff c35) (ai (g_ff c35) (ai (g_tt c32) (ai c34 (ai (g_tt c32) (ai (g_ff c34) (ai (g_ff c34) (ai (g_ff c34) (ai (g_tt c32) (ai c33 (ai (g_tt c32) (ai (g_ff c33) (ai (SlE.len hv5) (ai (g_ff c33) (ai (g_ff c33) (ai (g_ff c33) (ai (g_ff c33) (ai (g_ff c33) (ai (g_tt c32) (ai (g_tt c32) (ai (g_tt c32) (ai (g_tt c32) (ai c31 (ai (g_tt c31) (ai (g_tt c31) (ai (g_tt c31) (ai (At.agg (P := Try.prog) (t := 35) (v := .agg #[.int .i64 y30.1, .int .i64 y30.2]) (m := 2) at30 (by kernel_rfl) (by kernel_rfl) 0 (by kernel_rfl) rfl) (ai ix30 (ai c29 trivial))))))))))))))))))))))))))))))))))) (hd := F67_d3) (h := by kernel_rfl)
      · intro hr
        obtain rfl := Option.some.inj hr
        show AWp Try.prog _ (Ends1 .normal (F67_h3 h x1 x2 x3 v4 v5 l6 v6 (IntKind.i64.wrap (a28 + 1)))) _
        exact pEnd_sound good (L := F67_L) (D := F67_D) (its := [.g, (.b true), (.ix id30 off30 g30), (.ld (.agg #[.int .i64 y30.1, .int .i64 y30.2])), .g, .g, .g, .g, .g, .g, (.w .g), (.w .g), (.w .g), (.p true), .g, .g, .g, .g, .n, .n, .n, .n, .n, .n, .n, .n, .n, .n, .n, .n, .n, .n, .n, .n, .n, .n, .n, .n, .n, (.p false), (.b false), .g, .g]) (ds := F67_m3_1) (ks := [8]) (e := .normal) (s2 := (F67_h3 h x1 x2 x3 v4 v5 l6 v6 (IntKind.i64.wrap (a28 + 1)))) (hC := (ai l_f (ai c32 (ai (g_ft c32) (ai l_f (ai l_f (ai l_f (ai (g_ft c32) (ai (g_ft c32) (ai l_f (ai l_f (ai l_f (ai (g_ft c32) (ai (g_ft c32) (ai l_f (ai l_f (ai l_f (ai l_f (ai l_f (ai l_f (ai (g_ft c32) (ai (g_ft c32) (ai (g_ft c32) (ai (g_ft c32) (ai c31 (ai (g_tt c31) (ai (g_tt c31) (ai (g_tt c31) (ai (At.agg (P := Try.prog) (t := 35) (v := .agg #[.int .i64 y30.1, .int .i64 y30.2]) (m := 2) at30 (by kernel_rfl) (by kernel_rfl) 0 (by kernel_rfl) rfl) (ai ix30 (ai c29 trivial))))))))))))))))))))))))))))))) (hd := F67_d3) (h := by kernel_rfl)
    · refine dec_bif (fun c37 => ?_) (fun c37 => ?_)
      · intro hr
        obtain rfl := Option.some.inj hr
        show AWp Try.prog _ (Ends1 ((F67_x3 h x1 x2 x3 v4 v5 v6) (0 : Nat)).1 ((F67_x3 h x1 x2 x3 v4 v5 v6) (0 : Nat)).2) _
        exact pEnd_sound good (L := F67_L) (D := F67_D) (its := [.g, (.b true), (.ix id30 off30 g30), (.ld (.agg #[.int .i64 y30.1, .int .i64 y30.2])), .g, .g, .g, .g, .g, .g, .n, .n, .n, (.p false), .g, .g, .g, .g, (.w .g), (.w .g), (.w .g), (.w .g), .n, .n, .n, .n, .n, .n, (.w (.p true)), (.w .g), .n, .n, .n, (.w .g), (.w .g), .n, .n, .n, (.w .g), .g, (.b true), .g]) (ds := F67_m3_0) (ks := [1, 8]) (e := ((F67_x3 h x1 x2 x3 v4 v5 v6) (0 : Nat)).1) (s2 := ((F67_x3 h x1 x2 x3 v4 v5 v6) (0 : Nat)).2) (hC := (ai l_t (ai (g_tt l_t) (ai (g_tf l_t) (ai (g_tf l_t) (ai (g_tf l_t) (ai (g_tt l_t) (ai (g_tt l_t) (ai (g_tf l_t) (ai (g_tf l_t) (ai (g_tf l_t) (ai (g_tt l_t) (ai c37 (ai (g_tt l_t) (ai (g_tf c37) (ai (g_tf c37) (ai (g_tf c37) (ai (g_tf c37) (ai (g_tf c37) (ai (g_tf c37) (ai (g_tt l_t) (ai (g_tt l_t) (ai (g_tt l_t) (ai (g_tt l_t) (ai c31 (ai (g_ft c31) (ai (g_ft c31) (ai (g_ft c31) (ai (At.agg (P := Try.prog) (t := 35) (v := .agg #[.int .i64 y30.1, .int .i64 y30.2]) (m := 2) at30 (by kernel_rfl) (by kernel_rfl) 0 (by kernel_rfl) rfl) (ai ix30 (ai c29 trivial))))))))))))))))))))))))))))))) (hd := F67_d3) (h := by kernel_rfl)
      · refine dec_bif (fun c38 => ?_) (fun c38 => ?_)
        · intro hr
          obtain rfl := Option.some.inj hr
          show AWp Try.prog _ (Ends1 ((F67_x3 h x1 x2 x3 v4 v5 v6) (0 : Nat)).1 ((F67_x3 h x1 x2 x3 v4 v5 v6) (0 : Nat)).2) _
          exact pEnd_sound good (L := F67_L) (D := F67_D) (its := [.g, (.b true), (.ix id30 off30 g30), (.ld (.agg #[.int .i64 y30.1, .int .i64 y30.2])), .g, .g, .g, .g, .g, .g, .n, .n, .n, (.p false), .g, .g, .g, .g, (.w .g), (.w .g), (.w .g), (.w .g), (.w .g), (.w .g), (.w .g), (.w .g), (.w (.ln l5.length)), (.w .g), (.w (.p false)), (.w .g), .n, .n, .n, (.w (.p true)), (.w .g), .n, .n, .n, (.w .g), .g, (.b true), .g]) (ds := F67_m3_0) (ks := [1, 8]) (e := ((F67_x3 h x1 x2 x3 v4 v5 v6) (0 : Nat)).1) (s2 := ((F67_x3 h x1 x2 x3 v4 v5 v6) (0 : Nat)).2) (hC := (ai l_t (ai (g_tt l_t) (ai (g_tf l_t) (ai (g_tf l_t) (ai (g_tf l_t) (ai (g_tt l_t) (ai c38 (ai (g_tt l_t) (ai (g_tf c38) (ai (g_tf c38) (ai (g_tf c38) (ai (g_tt l_t) (ai c37 (ai (g_tt l_t) (ai (g_ff c37) (ai (SlE.len hv5) (ai (g_ff c37) (ai (g_ff c37) (ai (g_ff c37) (ai (g_ff c37) (ai (g_ff c37) (ai (g_tt l_t) (ai (g_tt l_t) (ai (g_tt l_t) (ai (g_tt l_t) (ai c31 (ai (g_ft c31) (ai (g_ft c31) (ai (g_ft c31) (ai (At.agg (P := Try.prog) (t := 35) (v := .agg #[.int .i64 y30.1, .int .i64 y30.2]) (m := 2) at30 (by kernel_rfl) (by kernel_rfl) 0 (by kernel_rfl) rfl) (ai ix30 (ai c29 trivial))))))))))))))))))))))))))))))))) (hd := F67_d3) (h := by kernel_rfl)
        · refine dec_bif (fun c39 => ?_) (fun c39 => ?_)
          · intro hr
            obtain rfl := Option.some.inj hr
            show AWp Try.prog _ (Ends1 ((F67_x3 h x1 x2 x3 v4 v5 v6) (0 : Nat)).1 ((F67_x3 h x1 x2 x3 v4 v5 v6) (0 : Nat)).2) _
            exact pEnd_sound good (L := F67_L) (D := F67_D) (its := [.g, (.b true), (.ix id30 off30 g30), (.ld (.agg #[.int .i64 y30.1, .int .i64 y30.2])), .g, .g, .g, .g, .g, .g, .n, .n, .n, (.p false), .g, .g, .g, .g, (.w .g), (.w .g), (.w .g), (.w .g), (.w .g), (.w .g), (.w .g), (.w .g), (.w (.ln l5.length)), (.w .g), (.w (.p false)), (.w .g), (.w .g), (.w .g), (.w .g), (.w (.p false)), (.w .g), .n, .n, .n, (.w (.p true)), .g, (.b true), .g]) (ds := F67_m3_0) (ks := [1, 8]) (e := ((F67_x3 h x1 x2 x3 v4 v5 v6) (0 : Nat)).1) (s2 := ((F67_x3 h x1 x2 x3 v4 v5 v6) (0 : Nat)).2) (hC := (ai l_t (ai c39 (ai (g_tt l_t) (ai (g_tf c39) (ai (g_tf c39) (ai (g_tf c39) (ai (g_tt l_t) (ai c38 (ai (g_tt l_t) (ai (g_ff c38) (ai (g_ff c38) (ai (g_ff c38) (ai (g_tt l_t) (ai c37 (ai (g_tt l_t) (ai (g_ff c37) (ai (SlE.len hv5) (ai (g_ff c37) (ai (g_ff c37) (ai (g_ff c37) (ai (g_ff c37) (ai (g_ff c37) (ai (g_tt l_t) (ai (g_tt l_t) (ai (g_tt l_t) (ai (g_tt l_t) (ai c31 (ai (g_ft c31) (ai (g_ft c31) (ai (g_ft c31) (ai (At.agg (P := Try.prog) (t := 35) (v := .agg #[.int .i64 y30.1, .int .i64 y30.2]) (m := 2) at30 (by kernel_rfl) (by kernel_rfl) 0 (by kernel_rfl) rfl) (ai ix30 (ai c29 trivial)))))))))))))))))))))))))))))))))) (hd := F67_d3) (h := by kernel_rfl)
          · refine dec_bif (fun c40 => ?_) (fun c40 => ?_)
            · intro hr
              obtain rfl := Option.some.inj hr
              show AWp Try.prog _ (Ends1 ((F67_x3 h x1 x2 x3 v4 v5 v6) (0 : Nat)).1 ((F67_x3 h x1 x2 x3 v4 v5 v6) (0 : Nat)).2) _
              exact pEnd_sound good (L := F67_L) (D := F67_D) (its := [.g, (.b true), (.ix id30 off30 g30), (.ld (.agg #[.int .i64 y30.1, .int .i64 y30.2])), .g, .g, .g, .g, .g, .g, .n, .n, .n, (.p false), .g, .g, .g, .g, (.w .g), (.w .g), (.w .g), (.w .g), (.w .g), (.w .g), (.w .g), (.w .g), (.w (.ln l5.length)), (.w .g), (.w (.p false)), (.w .g), (.w .g), (.w .g), (.w .g), (.w (.p false)), (.w .g), (.w .g), (.w .g), (.w .g), (.w (.p false)), .g, (.b true), .g]) (ds := F67_m3_0) (ks := [1, 8]) (e := ((F67_x3 h x1 x2 x3 v4 v5 v6) (0 : Nat)).1) (s2 := ((F67_x3 h x1 x2 x3 v4 v5 v6) (0 : Nat)).2) (hC := (ai c40 (ai c39 (ai (g_tt l_t) (ai (g_ff c39) (ai (g_ff c39) (ai (g_ff c39) (ai (g_tt l_t) (ai c38 (ai (g_tt l_t) (ai (g_ff c38) (ai (g_ff c38) (ai (g_ff c38) (ai (g_tt l_t) (ai c37 (ai (g_tt l_t) (ai (g_ff c37) (ai (SlE.len hv5) (ai (g_ff c37) (ai (g_ff c37) (ai (g_ff c37) (ai (g_ff c37) (ai (g_ff c37) (ai (g_tt l_t) (ai (g_tt l_t) (ai (g_tt l_t) (ai (g_tt l_t) (ai c31 (ai (g_ft c31) (ai (g_ft c31) (ai (g_ft c31) (ai (At.agg (P := Try.prog) (t := 35) (v := .agg #[.int .i64 y30.1, .int .i64 y30.2]) (m := 2) at30 (by kernel_rfl) (by kernel_rfl) 0 (by kernel_rfl) rfl) (ai ix30 (ai c29 trivial)))))))))))))))))))))))))))))))))) (hd := F67_d3) (h := by kernel_rfl)
            · intro hr
              obtain rfl := Option.some.inj hr
              show AWp Try.prog _ (Ends1 .normal (F67_h3 h x1 x2 x3 v4 v5 l6 v6 (IntKind.i64.wrap (a28 + 1)))) _
              exact pEnd_sound good (L := F67_L) (D := F67_D) (its := [.g, (.b true), (.ix id30 off30 g30), (.ld (.agg #[.int .i64 y30.1, .int .i64 y30.2])), .g, .g, .g, .g, .g, .g, .n, .n, .n, (.p false), .g, .g, .g, .g, (.w .g), (.w .g), (.w .g), (.w .g), (.w .g), (.w .g), (.w .g), (.w .g), (.w (.ln l5.length)), (.w .g), (.w (.p false)), (.w .g), (.w .g), (.w .g), (.w .g), (.w (.p false)), (.w .g), (.w .g), (.w .g), (.w .g), (.w (.p false)), .g, (.b false), .g, .g]) (ds := F67_m3_1) (ks := [8]) (e := .normal) (s2 := (F67_h3 h x1 x2 x3 v4 v5 l6 v6 (IntKind.i64.wrap (a28 + 1)))) (hC := (ai c40 (ai c39 (ai (g_tt l_t) (ai (g_ff c39) (ai (g_ff c39) (ai (g_ff c39) (ai (g_tt l_t) (ai c38 (ai (g_tt l_t) (ai (g_ff c38) (ai (g_ff c38) (ai (g_ff c38) (ai (g_tt l_t) (ai c37 (ai (g_tt l_t) (ai (g_ff c37) (ai (SlE.len hv5) (ai (g_ff c37) (ai (g_ff c37) (ai (g_ff c37) (ai (g_ff c37) (ai (g_ff c37) (ai (g_tt l_t) (ai (g_tt l_t) (ai (g_tt l_t) (ai (g_tt l_t) (ai c31 (ai (g_ft c31) (ai (g_ft c31) (ai (g_ft c31) (ai (At.agg (P := Try.prog) (t := 35) (v := .agg #[.int .i64 y30.1, .int .i64 y30.2]) (m := 2) at30 (by kernel_rfl) (by kernel_rfl) 0 (by kernel_rfl) rfl) (ai ix30 (ai c29 trivial)))))))))))))))))))))))))))))))))) (hd := F67_d3) (h := by kernel_rfl)
  · intro hr
    obtain rfl := Option.some.inj hr
    show AWp Try.prog _ (Ends1 ((F67_x3 h x1 x2 x3 v4 v5 v6) (1 : Nat)).1 ((F67_x3 h x1 x2 x3 v4 v5 v6) (1 : Nat)).2) _
    exact pEnd_sound good (L := F67_L) (D := F67_D) (its := [.g, (.b false)]) (ds := F67_m3_2) (ks := []) (e := ((F67_x3 h x1 x2 x3 v4 v5 v6) (1 : Nat)).1) (s2 := ((F67_x3 h x1 x2 x3 v4 v5 v6) (1 : Nat)).2) (hC := (ai c29 trivial)) (hd := F67_d3) (h := by kernel_rfl)
theorem F67_l3_0 (h : AHeap) (x1 : Int) (x2 : Int) (x3 : Bool) (v4 : Hd) (l5 : List (Int × Int × Int × Int)) (v5 : Hd) (hv5 : SlE E38 4 h (sv v5) l5) (l6 : List (Int × Int)) (v6 : Hd) (hv6 : SlE E35 2 h (sv v6) l6) (x : Int) (r : Nat) (hl : loopO (fun (s : Int) => F67_s3 l5 l6 s) x = some r) (q0 : Nat.beq r 0 = true) : AWp Try.prog (.loop (codeOf Try.prog 67 [1, 1, 1, 1, 0, 1, 0, 0])) (Ends1 .ret (F67_x3_0 h x1 x2 x3 v4 v5 v6 r)) ((fun (s : Int) => (F67_h3 h x1 x2 x3 v4 v5 l6 v6 s)) x) := by
  have k := loop_fun (P := Try.prog) (c := (codeOf Try.prog 67 [1, 1, 1, 1, 0, 1, 0, 0])) (step := (fun (s : Int) => F67_s3 l5 l6 s)) (hd := (fun (s : Int) => (F67_h3 h x1 x2 x3 v4 v5 l6 v6 s))) (X := (F67_x3 h x1 x2 x3 v4 v5 v6)) (by intro t; unfold F67_x3; cases Nat.beq t 0 <;> (intro h; cases h)) (fun x => F67_r3 h x1 x2 x3 v4 l5 v5 hv5 l6 v6 hv6 x) hl
  simp only [F67_x3, q0, cond_true, cond_false] at k
  exact k
theorem F67_l3_1 (h : AHeap) (x1 : Int) (x2 : Int) (x3 : Bool) (v4 : Hd) (l5 : List (Int × Int × Int × Int)) (v5 : Hd) (hv5 : SlE E38 4 h (sv v5) l5) (l6 : List (Int × Int)) (v6 : Hd) (hv6 : SlE E35 2 h (sv v6) l6) (x : Int) (r : Nat) (hl : loopO (fun (s : Int) => F67_s3 l5 l6 s) x = some r) (q0 : Nat.beq r 0 = false) : AWp Try.prog (.loop (codeOf Try.prog 67 [1, 1, 1, 1, 0, 1, 0, 0])) (Ends1 (.exit 4) (F67_x3_1 h x1 x2 x3 v4 v5 v6 r)) ((fun (s : Int) => (F67_h3 h x1 x2 x3 v4 v5 l6 v6 s)) x) := by
  have k := loop_fun (P := Try.prog) (c := (codeOf Try.prog 67 [1, 1, 1, 1, 0, 1, 0, 0])) (step := (fun (s : Int) => F67_s3 l5 l6 s)) (hd := (fun (s : Int) => (F67_h3 h x1 x2 x3 v4 v5 l6 v6 s))) (X := (F67_x3 h x1 x2 x3 v4 v5 v6)) (by intro t; unfold F67_x3; cases Nat.beq t 0 <;> (intro h; cases h)) (fun x => F67_r3 h x1 x2 x3 v4 l5 v5 hv5 l6 v6 hv6 x) hl
  simp only [F67_x3, q0, cond_true, cond_false] at k
  exact k
def F67 (x1 : Int) (x2 : Int) (x3 : Bool) (l4 : List (Int × Int × Int × Int)) (l5 : List (Int × Int × Int × Int)) (l6 : List (Int × Int)) : Option (Bool) :=
  (bif decide (x1 < 0) then
   some (false)
  else
   (bif decide (x1 > 4096) then
    some (false)
   else
    (bif decide (x2 < 0) then
     some (false)
    else
     (bif decide (x2 > 4094) then
      some (false)
     else
      (bif ((l6.length : Int) != x1) then
       some (false)
      else
       (Option.bind (loopO (fun (s : Int) => F67_s1 x1 x2 x3 l4 l5 l6 s) 0) fun y17 =>
       (bif (Nat.beq y17 0) then
        some (false)
       else
        (Option.bind (loopO (fun (s : Int) => F67_s2 l5 s) 0) fun y26 =>
        (bif (Nat.beq y26 0) then
         some (false)
        else
         (Option.bind (loopO (fun (s : Int) => F67_s3 l5 l6 s) 0) fun y41 =>
         (bif (Nat.beq y41 0) then
          some (false)
         else
          (Option.bind (F88 x1 x2 x3 l4 l5 l6) fun y43 =>
          some (y43)))))))))))))
set_option maxRecDepth 100000 in
theorem F67_spec (x1 : Int) (x2 : Int) (x3 : Bool) (l4 : List (Int × Int × Int × Int)) (l5 : List (Int × Int × Int × Int)) (l6 : List (Int × Int)) (v4 : Hd) (v5 : Hd) (v6 : Hd) (h : AHeap) (hv4 : SlE E81 4 h (sv v4) l4) (hv5 : SlE E38 4 h (sv v5) l5) (hv6 : SlE E35 2 h (sv v6) l6) (r : Bool) : F67 x1 x2 x3 l4 l5 l6 = some r → ACalls Try.prog 67 [.agg #[.int .i64 x1, .int .i64 x2, .bool x3, (sv v4), (sv v5), (sv v6)]] h (fun v' h'' => v' = (.bool r : Value) ∧ h'' = h) := by
  unfold F67
  refine dec_bif (fun c7 => ?_) (fun c7 => ?_)
  · intro hr
    obtain rfl := Option.some.inj hr
    exact pFun_sound good tab_ok (f := 67) (its := [.g, .g, .g, .g, .g, .g, .n, .n, .n, (.p true), .g, .n, .n, .n, .g, .g, .n, .n, .n, .g, .g, .n, .n, .n, .n, .n, .n, .g, (.b true), .g]) (args := [.agg #[.int .i64 x1, .int .i64 x2, .bool x3, (sv v4), (sv v5), (sv v6)]]) (h := h) (h' := h) (v := .bool false) (hC := (ai l_t (ai (g_tf l_t) (ai (g_tf l_t) (ai (g_tf l_t) (ai (g_tf l_t) (ai (g_tf l_t) (ai (g_tf l_t) (ai (g_tf l_t) (ai (g_tf l_t) (ai (g_tf l_t) (ai (g_tf l_t) (ai (g_tf l_t) (ai (g_tf l_t) (ai c7 (ai (g_tf c7) (ai (g_tf c7) (ai (g_tf c7) trivial)))))))))))))))))) (hr := by kernel_rfl)
  · refine dec_bif (fun c8 => ?_) (fun c8 => ?_)
    · intro hr
      obtain rfl := Option.some.inj hr
      exact pFun_sound good tab_ok (f := 67) (its := [.g, .g, .g, .g, .g, .g, (.w .g), (.w .g), (.w .g), (.p false), .g, .n, .n, .n, (.p true), .g, .n, .n, .n, .g, .g, .n, .n, .n, .n, .n, .n, .g, (.b true), .g]) (args := [.agg #[.int .i64 x1, .int .i64 x2, .bool x3, (sv v4), (sv v5), (sv v6)]]) (h := h) (h' := h) (v := .bool false) (hC := (ai l_t (ai (g_tf l_t) (ai (g_tf l_t) (ai (g_tf l_t) (ai (g_tf l_t) (ai (g_tf l_t) (ai (g_tf l_t) (ai (g_tf l_t) (ai (g_tf l_t) (ai (g_tf l_t) (ai c8 (ai (g_tf c8) (ai (g_tf c8) (ai (g_tf c8) (ai c7 (ai (g_ff c7) (ai (g_ff c7) (ai (g_ff c7) trivial))))))))))))))))))) (hr := by kernel_rfl)
    · refine dec_bif (fun c9 => ?_) (fun c9 => ?_)
      · intro hr
        obtain rfl := Option.some.inj hr
        exact pFun_sound good tab_ok (f := 67) (its := [.g, .g, .g, .g, .g, .g, (.w .g), (.w .g), (.w .g), (.p false), .g, (.w .g), (.w .g), (.w .g), (.p false), .g, .n, .n, .n, (.p true), .g, .n, .n, .n, .n, .n, .n, .g, (.b true), .g]) (args := [.agg #[.int .i64 x1, .int .i64 x2, .bool x3, (sv v4), (sv v5), (sv v6)]]) (h := h) (h' := h) (v := .bool false) (hC := (ai l_t (ai (g_tf l_t) (ai (g_tf l_t) (ai (g_tf l_t) (ai (g_tf l_t) (ai (g_tf l_t) (ai (g_tf l_t) (ai c9 (ai (g_tf c9) (ai (g_tf c9) (ai (g_tf c9) (ai c8 (ai (g_ff c8) (ai (g_ff c8) (ai (g_ff c8) (ai c7 (ai (g_ff c7) (ai (g_ff c7) (ai (g_ff c7) trivial)))))))))))))))))))) (hr := by kernel_rfl)
      · refine dec_bif (fun c10 => ?_) (fun c10 => ?_)
        · intro hr
          obtain rfl := Option.some.inj hr
          exact pFun_sound good tab_ok (f := 67) (its := [.g, .g, .g, .g, .g, .g, (.w .g), (.w .g), (.w .g), (.p false), .g, (.w .g), (.w .g), (.w .g), (.p false), .g, (.w .g), (.w .g), (.w .g), (.p false), .g, .n, .n, .n, .n, .n, .n, (.p true), (.b true), .g]) (args := [.agg #[.int .i64 x1, .int .i64 x2, .bool x3, (sv v4), (sv v5), (sv v6)]]) (h := h) (h' := h) (v := .bool false) (hC := (ai l_t (ai c10 (ai (g_tf c10) (ai (g_tf c10) (ai (g_tf c10) (ai (g_tf c10) (ai (g_tf c10) (ai (g_tf c10) (ai c9 (ai (g_ff c9) (ai (g_ff c9) (ai (g_ff c9) (ai c8 (ai (g_ff c8) (ai (g_ff c8) (ai (g_ff c8) (ai c7 (ai (g_ff c7) (ai (g_ff c7) (ai (g_ff c7) trivial))))))))))))))))))))) (hr := by kernel_rfl)
        · refine dec_bif (fun c11 => ?_) (fun c11 => ?_)
          · intro hr
            obtain rfl := Option.some.inj hr
            exact pFun_sound good tab_ok (f := 67) (its := [.g, .g, .g, .g, .g, .g, (.w .g), (.w .g), (.w .g), (.p false), .g, (.w .g), (.w .g), (.w .g), (.p false), .g, (.w .g), (.w .g), (.w .g), (.p false), .g, (.w .g), (.w .g), (.w (.ln l6.length)), (.w .g), (.w .g), (.w .g), (.p false), (.b true), .g]) (args := [.agg #[.int .i64 x1, .int .i64 x2, .bool x3, (sv v4), (sv v5), (sv v6)]]) (h := h) (h' := h) (v := .bool false) (hC := (ai c11 (ai c10 (ai (g_ff c10) (ai (g_ff c10) (ai (g_ff c10) (ai (SlE.len hv6) (ai (g_ff c10) (ai (g_ff c10) (ai (g_ff c10) (ai c9 (ai (g_ff c9) (ai (g_ff c9) (ai (g_ff c9) (ai c8 (ai (g_ff c8) (ai (g_ff c8) (ai (g_ff c8) (ai c7 (ai (g_ff c7) (ai (g_ff c7) (ai (g_ff c7) trivial)))))))))))))))))))))) (hr := by kernel_rfl)
          · refine bind_opt fun y17 e17 => ?_
            refine dec_bif (fun c18 => ?_) (fun c18 => ?_)
            · intro hr
              obtain rfl := Option.some.inj hr
              exact pFun_sound good tab_ok (f := 67) (its := [.g, .g, .g, .g, .g, .g, (.w .g), (.w .g), (.w .g), (.p false), .g, (.w .g), (.w .g), (.w .g), (.p false), .g, (.w .g), (.w .g), (.w .g), (.p false), .g, (.w .g), (.w .g), (.w (.ln l6.length)), (.w .g), (.w .g), (.w .g), (.p false), (.b false), .g, .g, (.ln l4.length), .g, (.l F67_m1_1 [] .ret (F67_x1_0 h x1 x2 x3 v4 v5 v6 y17))]) (args := [.agg #[.int .i64 x1, .int .i64 x2, .bool x3, (sv v4), (sv v5), (sv v6)]]) (h := h) (h' := h) (v := .bool false) (hC := (ai (F67_l1_0 h x1 x2 x3 l4 v4 hv4 l5 v5 hv5 l6 v6 hv6 0 y17 e17 c18) (ai (SlE.len hv4) (ai c11 (ai c10 (ai (g_ff c10) (ai (g_ff c10) (ai (g_ff c10) (ai (SlE.len hv6) (ai (g_ff c10) (ai (g_ff c10) (ai (g_ff c10) (ai c9 (ai (g_ff c9) (ai (g_ff c9) (ai (g_ff c9) (ai c8 (ai (g_ff c8) (ai (g_ff c8) (ai (g_ff c8) (ai c7 (ai (g_ff c7) (ai (g_ff c7) (ai (g_ff c7) trivial)))))))))))))))))))))))) (hr := by kernel_rfl)
            · refine bind_opt fun y26 e26 => ?_
              refine dec_bif (fun c27 => ?_) (fun c27 => ?_)
              · intro hr
                obtain rfl := Option.some.inj hr
                exact pFun_sound good tab_ok (f := 67) (its := [.g, .g, .g, .g, .g, .g, (.w .g), (.w .g), (.w .g), (.p false), .g, (.w .g), (.w .g), (.w .g), (.p false), .g, (.w .g), (.w .g), (.w .g), (.p false), .g, (.w .g), (.w .g), (.w (.ln l6.length)), (.w .g), (.w .g), (.w .g), (.p false), (.b false), .g, .g, (.ln l4.length), .g, (.l F67_m1_1 [] (.exit 0) (F67_x1_1 h x1 x2 x3 v4 v5 v6 y17)), .g, .g, (.ln l5.length), .g, (.l F67_m2_1 [] .ret (F67_x2_0 h x1 x2 x3 v4 v5 v6 y26))]) (args := [.agg #[.int .i64 x1, .int .i64 x2, .bool x3, (sv v4), (sv v5), (sv v6)]]) (h := h) (h' := h) (v := .bool false) (hC := (ai (F67_l2_0 h x1 x2 x3 v4 l5 v5 hv5 v6 0 y26 e26 c27) (ai (SlE.len hv5) (ai (F67_l1_1 h x1 x2 x3 l4 v4 hv4 l5 v5 hv5 l6 v6 hv6 0 y17 e17 c18) (ai (SlE.len hv4) (ai c11 (ai c10 (ai (g_ff c10) (ai (g_ff c10) (ai (g_ff c10) (ai (SlE.len hv6) (ai (g_ff c10) (ai (g_ff c10) (ai (g_ff c10) (ai c9 (ai (g_ff c9) (ai (g_ff c9) (ai (g_ff c9) (ai c8 (ai (g_ff c8) (ai (g_ff c8) (ai (g_ff c8) (ai c7 (ai (g_ff c7) (ai (g_ff c7) (ai (g_ff c7) trivial)))))))))))))))))))))))))) (hr := by kernel_rfl)
              · refine bind_opt fun y41 e41 => ?_
                refine dec_bif (fun c42 => ?_) (fun c42 => ?_)
                · intro hr
                  obtain rfl := Option.some.inj hr
                  exact pFun_sound good tab_ok (f := 67) (its := [.g, .g, .g, .g, .g, .g, (.w .g), (.w .g), (.w .g), (.p false), .g, (.w .g), (.w .g), (.w .g), (.p false), .g, (.w .g), (.w .g), (.w .g), (.p false), .g, (.w .g), (.w .g), (.w (.ln l6.length)), (.w .g), (.w .g), (.w .g), (.p false), (.b false), .g, .g, (.ln l4.length), .g, (.l F67_m1_1 [] (.exit 0) (F67_x1_1 h x1 x2 x3 v4 v5 v6 y17)), .g, .g, (.ln l5.length), .g, (.l F67_m2_1 [] (.exit 2) (F67_x2_1 h x1 x2 x3 v4 v5 v6 y26)), .g, .g, (.ln l6.length), .g, (.l F67_m3_1 [] .ret (F67_x3_0 h x1 x2 x3 v4 v5 v6 y41))]) (args := [.agg #[.int .i64 x1, .int .i64 x2, .bool x3, (sv v4), (sv v5), (sv v6)]]) (h := h) (h' := h) (v := .bool false) (hC := (ai (F67_l3_0 h x1 x2 x3 v4 l5 v5 hv5 l6 v6 hv6 0 y41 e41 c42) (ai (SlE.len hv6) (ai (F67_l2_1 h x1 x2 x3 v4 l5 v5 hv5 v6 0 y26 e26 c27) (ai (SlE.len hv5) (ai (F67_l1_1 h x1 x2 x3 l4 v4 hv4 l5 v5 hv5 l6 v6 hv6 0 y17 e17 c18) (ai (SlE.len hv4) (ai c11 (ai c10 (ai (g_ff c10) (ai (g_ff c10) (ai (g_ff c10) (ai (SlE.len hv6) (ai (g_ff c10) (ai (g_ff c10) (ai (g_ff c10) (ai c9 (ai (g_ff c9) (ai (g_ff c9) (ai (g_ff c9) (ai c8 (ai (g_ff c8) (ai (g_ff c8) (ai (g_ff c8) (ai c7 (ai (g_ff c7) (ai (g_ff c7) (ai (g_ff c7) trivial)))))))))))))))))))))))))))) (hr := by kernel_rfl)
                · refine bind_opt fun y43 e43 => ?_
                  intro hr
                  obtain rfl := Option.some.inj hr
                  exact pFun_sound good tab_ok (f := 67) (its := [.g, .g, .g, .g, .g, .g, (.w .g), (.w .g), (.w .g), (.p false), .g, (.w .g), (.w .g), (.w .g), (.p false), .g, (.w .g), (.w .g), (.w .g), (.p false), .g, (.w .g), (.w .g), (.w (.ln l6.length)), (.w .g), (.w .g), (.w .g), (.p false), (.b false), .g, .g, (.ln l4.length), .g, (.l F67_m1_1 [] (.exit 0) (F67_x1_1 h x1 x2 x3 v4 v5 v6 y17)), .g, .g, (.ln l5.length), .g, (.l F67_m2_1 [] (.exit 2) (F67_x2_1 h x1 x2 x3 v4 v5 v6 y26)), .g, .g, (.ln l6.length), .g, (.l F67_m3_1 [] (.exit 4) (F67_x3_1 h x1 x2 x3 v4 v5 v6 y41)), .g, (.c (.bool y43) h), .g]) (args := [.agg #[.int .i64 x1, .int .i64 x2, .bool x3, (sv v4), (sv v5), (sv v6)]]) (h := h) (h' := h) (v := .bool y43) (hC := (ai (F88_spec x1 x2 x3 l4 l5 l6 v4 v5 v6 h hv4 hv5 hv6 _ e43) (ai (F67_l3_1 h x1 x2 x3 v4 l5 v5 hv5 l6 v6 hv6 0 y41 e41 c42) (ai (SlE.len hv6) (ai (F67_l2_1 h x1 x2 x3 v4 l5 v5 hv5 v6 0 y26 e26 c27) (ai (SlE.len hv5) (ai (F67_l1_1 h x1 x2 x3 l4 v4 hv4 l5 v5 hv5 l6 v6 hv6 0 y17 e17 c18) (ai (SlE.len hv4) (ai c11 (ai c10 (ai (g_ff c10) (ai (g_ff c10) (ai (g_ff c10) (ai (SlE.len hv6) (ai (g_ff c10) (ai (g_ff c10) (ai (g_ff c10) (ai c9 (ai (g_ff c9) (ai (g_ff c9) (ai (g_ff c9) (ai c8 (ai (g_ff c8) (ai (g_ff c8) (ai (g_ff c8) (ai c7 (ai (g_ff c7) (ai (g_ff c7) (ai (g_ff c7) trivial))))))))))))))))))))))))))))) (hr := by kernel_rfl)
/-! 68 jacquard/schedcheck.Fits$1 -/
def F68 (x1 : Int) : Bool :=
  (bif decide (x1 < 0) then
   true
  else
   (decide (x1 > 4096)))
set_option maxRecDepth 100000 in
theorem F68_spec (x1 : Int) (h : AHeap)  (r : Bool) : F68 x1 = r → ACalls Try.prog 68 [.int .i64 x1] h (fun v' h'' => v' = (.bool r : Value) ∧ h'' = h) := by
  unfold F68
  refine dec_bif (fun c2 => ?_) (fun c2 => ?_)
  · intro hr
    subst hr
    exact pFun_sound good tab_ok (f := 68) (its := [.g, .g, .g, .g, .n, .n, (.p true), .g]) (args := [.int .i64 x1]) (h := h) (h' := h) (v := .bool true) (hC := (ai c2 (ai (g_tf c2) (ai (g_tf c2) trivial)))) (hr := by kernel_rfl)
  · intro hr
    subst hr
    exact pFun_sound good tab_ok (f := 68) (its := [.g, .g, .g, .g, (.w .g), (.w .g), (.p false), .g]) (args := [.int .i64 x1]) (h := h) (h' := h) (v := .bool (decide (x1 > 4096))) (hC := (ai c2 (ai (g_ff c2) (ai (g_ff c2) trivial)))) (hr := by kernel_rfl)
/-! 71 slices.IndexFunc[[]int,int] -/
def F71w68_L : List Nat := []
def F71w68_D : List (Nat × List (Nat × Nat)) := []
def F71w68_m1_2 : List Bool := [true, true, true, true, true, true, true, true, true, true, true, true, true, true, true, true, true, true, true]
def F71w68_m1_1 : List Bool := [false, false, true, true, true, true, true, false, false, true, true, true, true, true, true, true, true, true, true]
def F71w68_m1_0 : List Bool := [true, true, true, true, false, true, true, true, true, true, true, true, true, true, true, true, true, true, true]
def F71w68_s1 (l1 : List Int) (a2 : Int) : Option (Int ⊕ (Nat × Int)) :=
  (bif decide (a2 < (l1.length : Int)) then
   (Option.bind (at? l1 a2) fun y4 =>
   (bif (F68 y4) then
    some (.inr (0, a2))
   else
    some (.inl (IntKind.i64.wrap (a2 + 1)))))
  else
   some (.inr (1, 0)))
def F71w68_h1 (h : AHeap) (l1 : List Int) (v1 : Hd)  (a2 : Int) : AS := ⟨[(sv v1), .func (.func 68) #[] #[], junk, junk, junk, junk, junk, .int .i64 (l1.length : Int), .int .i64 a2, junk, junk, junk, junk, junk, junk, junk, junk, junk, junk], [], h⟩
theorem F71w68_d1 : drawsOk F71w68_D (codeOf Try.prog 71 [1, 0, 1, 0, 0]) = true := by kernel_rfl
def F71w68_x1_0 (h : AHeap)  (r : Nat × Int) : AS := ⟨[junk, junk, junk, junk, .int .i64 r.2, junk, junk, junk, junk, junk, junk, junk, junk, junk, junk, junk, junk, junk, junk], [], h⟩
def F71w68_x1_1 (h : AHeap)  (r : Nat × Int) : AS := ⟨[junk, junk, junk, junk, junk, junk, junk, junk, junk, junk, junk, junk, junk, junk, junk, junk, junk, junk, junk], [], h⟩
def F71w68_x1 (h : AHeap) (r : Nat × Int) : Exit × AS := (bif Nat.beq r.1 0 then (.ret, (F71w68_x1_0 h r)) else ((.exit 0), (F71w68_x1_1 h r)))
set_option maxRecDepth 100000 in
theorem F71w68_r1 (h : AHeap) (l1 : List Int) (v1 : Hd) (hv1 : SlE E3 1 h (sv v1) l1) (a2 : Int) (o : Int ⊕ (Nat × Int)) : F71w68_s1 l1 a2 = some o → RdF Try.prog (codeOf Try.prog 71 [1, 0, 1, 0, 0]) (fun (s : Int) => (F71w68_h1 h l1 v1 s)) (F71w68_x1 h) (F71w68_h1 h l1 v1 a2) o := by
  unfold F71w68_s1
  refine dec_bif (fun c3 => ?_) (fun c3 => ?_)
  · refine bind_opt fun y4 e4 => ?_
    obtain ⟨id4, off4, g4, cs4, ix4, at4, rfl⟩ := SlE.at hv1 e4
    refine dec_bif (fun c6 => ?_) (fun c6 => ?_)
    · intro hr
      obtain rfl := Option.some.inj hr
      show AWp Try.prog _ (Ends1 ((F71w68_x1 h) ((0, a2) : Nat × Int)).1 ((F71w68_x1 h) ((0, a2) : Nat × Int)).2) _
      exact pEnd_sound good (L := F71w68_L) (D := F71w68_D) (its := [.g, (.b true), .g, .g, .g, .g, .g, (.ix id4 off4 g4), (.ld (.int .i64 y4)), (.c (.bool (F68 y4)) h), (.b true), .g, .g]) (ds := F71w68_m1_0) (ks := []) (e := ((F71w68_x1 h) ((0, a2) : Nat × Int)).1) (s2 := ((F71w68_x1 h) ((0, a2) : Nat × Int)).2) (hC := (ai c6 (ai (F68_spec y4 h _ rfl) (ai (At.one (P := Try.prog) (t := 3) (v := .int .i64 y4) at4 (by kernel_rfl) 0 rfl rfl) (ai ix4 (ai c3 trivial)))))) (hd := F71w68_d1) (h := by kernel_rfl)
    · intro hr
      obtain rfl := Option.some.inj hr
      show AWp Try.prog _ (Ends1 .normal (F71w68_h1 h l1 v1 (IntKind.i64.wrap (a2 + 1)))) _
      exact pEnd_sound good (L := F71w68_L) (D := F71w68_D) (its := [.g, (.b true), .g, .g, .g, .g, .g, (.ix id4 off4 g4), (.ld (.int .i64 y4)), (.c (.bool (F68 y4)) h), (.b false), .g, .g]) (ds := F71w68_m1_1) (ks := []) (e := .normal) (s2 := (F71w68_h1 h l1 v1 (IntKind.i64.wrap (a2 + 1)))) (hC := (ai c6 (ai (F68_spec y4 h _ rfl) (ai (At.one (P := Try.prog) (t := 3) (v := .int .i64 y4) at4 (by kernel_rfl) 0 rfl rfl) (ai ix4 (ai c3 trivial)))))) (hd := F71w68_d1) (h := by kernel_rfl)
  · intro hr
    obtain rfl := Option.some.inj hr
    show AWp Try.prog _ (Ends1 ((F71w68_x1 h) ((1, 0) : Nat × Int)).1 ((F71w68_x1 h) ((1, 0) : Nat × Int)).2) _
    exact pEnd_sound good (L := F71w68_L) (D := F71w68_D) (its := [.g, (.b false)]) (ds := F71w68_m1_2) (ks := []) (e := ((F71w68_x1 h) ((1, 0) : Nat × Int)).1) (s2 := ((F71w68_x1 h) ((1, 0) : Nat × Int)).2) (hC := (ai c3 trivial)) (hd := F71w68_d1) (h := by kernel_rfl)
theorem F71w68_l1_0 (h : AHeap) (l1 : List Int) (v1 : Hd) (hv1 : SlE E3 1 h (sv v1) l1) (x : Int) (r : Nat × Int) (hl : loopO (fun (s : Int) => F71w68_s1 l1 s) x = some r) (q0 : Nat.beq r.1 0 = true) : AWp Try.prog (.loop (codeOf Try.prog 71 [1, 0, 1, 0, 0])) (Ends1 .ret (F71w68_x1_0 h r)) ((fun (s : Int) => (F71w68_h1 h l1 v1 s)) x) := by
  have k := loop_fun (P := Try.prog) (c := (codeOf Try.prog 71 [1, 0, 1, 0, 0])) (step := (fun (s : Int) => F71w68_s1 l1 s)) (hd := (fun (s : Int) => (F71w68_h1 h l1 v1 s))) (X := (F71w68_x1 h)) (by intro t; unfold F71w68_x1; cases Nat.beq t.1 0 <;> (intro h; cases h)) (fun x => F71w68_r1 h l1 v1 hv1 x) hl
  simp only [F71w68_x1, q0, cond_true, cond_false] at k
  exact k
theorem F71w68_l1_1 (h : AHeap) (l1 : List Int) (v1 : Hd) (hv1 : SlE E3 1 h (sv v1) l1) (x : Int) (r : Nat × Int) (hl : loopO (fun (s : Int) => F71w68_s1 l1 s) x = some r) (q0 : Nat.beq r.1 0 = false) : AWp Try.prog (.loop (codeOf Try.prog 71 [1, 0, 1, 0, 0])) (Ends1 (.exit 0) (F71w68_x1_1 h r)) ((fun (s : Int) => (F71w68_h1 h l1 v1 s)) x) := by
  have k := loop_fun (P := Try.prog) (c := (codeOf Try.prog 71 [1, 0, 1, 0, 0])) (step := (fun (s : Int) => F71w68_s1 l1 s)) (hd := (fun (s : Int) => (F71w68_h1 h l1 v1 s))) (X := (F71w68_x1 h)) (by intro t; unfold F71w68_x1; cases Nat.beq t.1 0 <;> (intro h; cases h)) (fun x => F71w68_r1 h l1 v1 hv1 x) hl
  simp only [F71w68_x1, q0, cond_true, cond_false] at k
  exact k
def F71w68 (l1 : List Int) : Option (Int) :=
  (Option.bind (loopO (fun (s : Int) => F71w68_s1 l1 s) 0) fun y7 =>
  (bif (Nat.beq y7.1 0) then
   some (y7.2)
  else
   some (-1)))
set_option maxRecDepth 100000 in
theorem F71w68_spec (l1 : List Int) (v1 : Hd) (h : AHeap) (hv1 : SlE E3 1 h (sv v1) l1) (r : Int) : F71w68 l1 = some r → ACalls Try.prog 71 [(sv v1), .func (.func 68) #[] #[]] h (fun v' h'' => v' = (.int .i64 r : Value) ∧ h'' = h) := by
  unfold F71w68
  refine bind_opt fun y7 e7 => ?_
  refine dec_bif (fun c8 => ?_) (fun c8 => ?_)
  · intro hr
    obtain rfl := Option.some.inj hr
    exact pFun_sound good tab_ok (f := 71) (its := [.g, .g, (.ln l1.length), .g, (.l F71w68_m1_1 [] .ret (F71w68_x1_0 h y7))]) (args := [(sv v1), .func (.func 68) #[] #[]]) (h := h) (h' := h) (v := .int .i64 y7.2) (hC := (ai (F71w68_l1_0 h l1 v1 hv1 0 y7 e7 c8) (ai (SlE.len hv1) trivial))) (hr := by kernel_rfl)
  · intro hr
    obtain rfl := Option.some.inj hr
    exact pFun_sound good tab_ok (f := 71) (its := [.g, .g, (.ln l1.length), .g, (.l F71w68_m1_1 [] (.exit 0) (F71w68_x1_1 h y7)), .g]) (args := [(sv v1), .func (.func 68) #[] #[]]) (h := h) (h' := h) (v := .int .i64 (-1)) (hC := (ai (F71w68_l1_1 h l1 v1 hv1 0 y7 e7 c8) (ai (SlE.len hv1) trivial))) (hr := by kernel_rfl)
/-! 39 slices.ContainsFunc[[]int,int] -/
def F39w68 (l1 : List Int) : Option (Bool) :=
  (Option.bind (F71w68 l1) fun y2 =>
  some (decide (y2 ≥ 0)))
set_option maxRecDepth 100000 in
theorem F39w68_spec (l1 : List Int) (v1 : Hd) (h : AHeap) (hv1 : SlE E3 1 h (sv v1) l1) (r : Bool) : F39w68 l1 = some r → ACalls Try.prog 39 [(sv v1), .func (.func 68) #[] #[]] h (fun v' h'' => v' = (.bool r : Value) ∧ h'' = h) := by
  unfold F39w68
  refine bind_opt fun y2 e2 => ?_
  intro hr
  obtain rfl := Option.some.inj hr
  exact pFun_sound good tab_ok (f := 39) (its := [.g, .g, .g, (.c (.int .i64 y2) h), .g, .g]) (args := [(sv v1), .func (.func 68) #[] #[]]) (h := h) (h' := h) (v := .bool (decide (y2 ≥ 0))) (hC := (ai (F71w68_spec l1 v1 h hv1 _ e2) trivial)) (hr := by kernel_rfl)
/-! 36 jacquard/schedcheck.Fits -/
def F36_L : List Nat := [2, 3, 7]
def F36_D : List (Nat × List (Nat × Nat)) := [(11, [(0, 2), (1, 2), (2, 2), (3, 2), (4, 2), (5, 2), (6, 2), (7, 2), (8, 2), (9, 2), (10, 2), (11, 2), (12, 2), (13, 2), (14, 2), (15, 2), (16, 2), (17, 2), (18, 2), (19, 2), (20, 2), (21, 2), (22, 2), (23, 2), (24, 2), (25, 2), (26, 2), (27, 2), (28, 2), (29, 2), (30, 2), (31, 2), (32, 2), (33, 2), (34, 2), (35, 2), (36, 2), (37, 2), (38, 2)])]
def F36_m1_2 : List Bool := [true, true, true, true, true, true, true, true, true, true, true, true, true, true, true, true, true, true, true, true, true, true, true, true, true, true, true, true, true, true, true, true, true, true, true, true, true, true, true, true, true, true, true, true, true, true, true, true, true, true, true, true, true, true, true, true, true, true, true, true, true, true, true, true, true, true, true, true, true, true, true, true, true, true, true, true, true, true, true, true, true, true, true, true, true, true, true, true, true, true, true, true, true, true, true, true, true, true, true, true, true, true, true, true, true, true, true, true, true, true, true, true, true, true, true, true, true, true, true]
def F36_m1_1 : List Bool := [true, true, false, false, true, true, true, true, true, true, true, true, true, true, true, true, true, true, true, true, true, true, true, true, true, true, true, true, true, true, true, true, true, true, true, true, true, true, true, true, true, true, true, true, true, true, true, true, true, true, true, true, true, true, true, true, true, true, true, true, true, true, true, true, true, true, true, true, true, true, true, true, false, false, false, true, true, true, true, true, true, true, true, true, true, true, true, true, true, true, true, true, true, true, true, true, true, true, true, true, true, true, true, true, true, true, true, true, true, true, true, true, true, true, true, true, true, true, true]
def F36_m1_0 : List Bool := [true, true, true, true, false, true, true, true, true, true, true, true, true, true, true, true, true, true, true, true, true, true, true, true, true, true, true, true, true, true, true, true, true, true, true, true, true, true, true, true, true, true, true, true, true, true, true, true, true, true, true, true, true, true, true, true, true, true, true, true, true, true, true, true, true, true, true, true, true, true, true, true, true, true, true, true, true, true, true, true, true, true, true, true, true, true, true, true, true, true, true, true, true, true, true, true, true, true, true, true, true, true, true, true, true, true, true, true, true, true, true, true, true, true, true, true, true, true, true]
def F36_s1 (l5 : List (Int × Int × Int × Int)) (l6 : List (Int × Int)) (l11 : List Int) (a29 : Int) : Option (Int ⊕ Nat) :=
  (bif decide (a29 < (l6.length : Int)) then
   (Option.bind (at? l6 a29) fun y31 =>
   (bif decide (y31.1 < 0) then
    (Option.bind (at? l11 a29) fun y33 =>
    (bif (y33 != (-1)) then
     some (.inr 0)
    else
     (bif decide (y31.1 ≥ 0) then
      (bif decide (y33 < 0) then
       some (.inr 0)
      else
       (Option.bind (at? l5 y31.1) fun y37 =>
       (bif decide (y33 ≥ y37.2.2.2) then
        some (.inr 0)
       else
        some (.inl (IntKind.i64.wrap (a29 + 1))))))
     else
      some (.inl (IntKind.i64.wrap (a29 + 1))))))
   else
    (bif decide (y31.1 ≥ 0) then
     (Option.bind (at? l11 a29) fun y40 =>
     (bif decide (y40 < 0) then
      some (.inr 0)
     else
      (Option.bind (at? l5 y31.1) fun y42 =>
      (bif decide (y40 ≥ y42.2.2.2) then
       some (.inr 0)
      else
       some (.inl (IntKind.i64.wrap (a29 + 1)))))))
    else
     some (.inl (IntKind.i64.wrap (a29 + 1))))))
  else
   some (.inr 1))
def F36_h1 (h : AHeap) (x1 : Int) (x2 : Int) (x3 : Bool) (v4 : Hd) (v5 : Hd) (l6 : List (Int × Int)) (v6 : Hd) (x7 : Int) (x8 : Int) (v9 : Hd) (v10 : Hd) (v11 : Hd)  (a29 : Int) : AS := ⟨[junk, junk, .pointer (some ⟨2, 0, none⟩), .pointer (some ⟨3, 0, none⟩), junk, junk, junk, junk, junk, junk, junk, junk, junk, junk, junk, junk, junk, junk, junk, junk, junk, junk, junk, junk, junk, junk, junk, junk, junk, junk, junk, junk, junk, junk, junk, junk, junk, junk, junk, junk, junk, junk, junk, junk, junk, junk, junk, junk, junk, junk, junk, junk, junk, junk, junk, junk, junk, junk, junk, junk, junk, junk, junk, junk, junk, junk, junk, junk, junk, junk, junk, junk, (sv v6), .int .i64 (l6.length : Int), .int .i64 a29, junk, junk, junk, junk, junk, junk, junk, junk, junk, junk, junk, junk, junk, junk, junk, junk, junk, junk, junk, junk, junk, junk, junk, junk, junk, junk, junk, junk, junk, junk, junk, junk, junk, junk, junk, junk, junk, junk, junk, junk, junk, junk, junk, junk], [(2, [.int .i64 x1, .int .i64 x2, .bool x3, (sv v4), (sv v5), (sv v6)]), (3, [.int .i64 x7, .int .i64 x8, (sv v9), (sv v10), (sv v11)])], h⟩
theorem F36_d1 : drawsOk F36_D (codeOf Try.prog 36 [1, 1, 1, 1, 1, 0, 1, 0, 0]) = true := by kernel_rfl
def F36_x1_0 (h : AHeap)  (r : Nat) : AS := ⟨[junk, junk, junk, junk, .bool false, junk, junk, junk, junk, junk, junk, junk, junk, junk, junk, junk, junk, junk, junk, junk, junk, junk, junk, junk, junk, junk, junk, junk, junk, junk, junk, junk, junk, junk, junk, junk, junk, junk, junk, junk, junk, junk, junk, junk, junk, junk, junk, junk, junk, junk, junk, junk, junk, junk, junk, junk, junk, junk, junk, junk, junk, junk, junk, junk, junk, junk, junk, junk, junk, junk, junk, junk, junk, junk, junk, junk, junk, junk, junk, junk, junk, junk, junk, junk, junk, junk, junk, junk, junk, junk, junk, junk, junk, junk, junk, junk, junk, junk, junk, junk, junk, junk, junk, junk, junk, junk, junk, junk, junk, junk, junk, junk, junk, junk, junk, junk, junk, junk, junk], [], h⟩
def F36_x1_1 (h : AHeap)  (r : Nat) : AS := ⟨[junk, junk, junk, junk, junk, junk, junk, junk, junk, junk, junk, junk, junk, junk, junk, junk, junk, junk, junk, junk, junk, junk, junk, junk, junk, junk, junk, junk, junk, junk, junk, junk, junk, junk, junk, junk, junk, junk, junk, junk, junk, junk, junk, junk, junk, junk, junk, junk, junk, junk, junk, junk, junk, junk, junk, junk, junk, junk, junk, junk, junk, junk, junk, junk, junk, junk, junk, junk, junk, junk, junk, junk, junk, junk, junk, junk, junk, junk, junk, junk, junk, junk, junk, junk, junk, junk, junk, junk, junk, junk, junk, junk, junk, junk, junk, junk, junk, junk, junk, junk, junk, junk, junk, junk, junk, junk, junk, junk, junk, junk, junk, junk, junk, junk, junk, junk, junk, junk, junk], [], h⟩
def F36_x1 (h : AHeap) (r : Nat) : Exit × AS := (bif Nat.beq r 0 then (.ret, (F36_x1_0 h r)) else ((.exit 0), (F36_x1_1 h r)))
set_option maxRecDepth 100000 in
theorem F36_r1 (h : AHeap) (x1 : Int) (x2 : Int) (x3 : Bool) (v4 : Hd) (l5 : List (Int × Int × Int × Int)) (v5 : Hd) (hv5 : SlE E38 4 h (sv v5) l5) (l6 : List (Int × Int)) (v6 : Hd) (hv6 : SlE E35 2 h (sv v6) l6) (x7 : Int) (x8 : Int) (v9 : Hd) (v10 : Hd) (l11 : List Int) (v11 : Hd) (hv11 : SlE E3 1 h (sv v11) l11) (a29 : Int) (o : Int ⊕ Nat) : F36_s1 l5 l6 l11 a29 = some o → RdF Try.prog (codeOf Try.prog 36 [1, 1, 1, 1, 1, 0, 1, 0, 0]) (fun (s : Int) => (F36_h1 h x1 x2 x3 v4 v5 l6 v6 x7 x8 v9 v10 v11 s)) (F36_x1 h) (F36_h1 h x1 x2 x3 v4 v5 l6 v6 x7 x8 v9 v10 v11 a29) o := by
  unfold F36_s1
  refine dec_bif (fun c30 => ?_) (fun c30 => ?_)
  · refine bind_opt fun y31 e31 => ?_
    obtain ⟨id31, off31, g31, cs31, ix31, at31, rfl⟩ := SlE.at hv6 e31
    refine dec_bif (fun c32 => ?_) (fun c32 => ?_)
    · refine bind_opt fun y33 e33 => ?_
      obtain ⟨id33, off33, g33, cs33, ix33, at33, rfl⟩ := SlE.at hv11 e33
      refine dec_bif (fun c34 => ?_) (fun c34 => ?_)
      · intro hr
        obtain rfl := Option.some.inj hr
        show AWp Try.prog _ (Ends1 ((F36_x1 h) (0 : Nat)).1 ((F36_x1 h) (0 : Nat)).2) _
        exact pEnd_sound good (L := F36_L) (D := F36_D) (its := [.g, (.b true), .g, (.ix id31 off31 g31), (.ld (.agg #[.int .i64 y31.1, .int .i64 y31.2])), .g, .g, .g, .g, .g, .g, .g, (.w .g), (.w .g), (.w .g), (.w (.ix id33 off33 g33)), (.w (.ld (.int .i64 y33))), (.w .g), (.p true), .g, .n, .n, .n, .n, .n, .n, .n, .n, .n, .n, .n, .n, .n, .n, .n, .n, .n, .n, .n, .n, .n, .n, .n, .n, .n, .n, (.p true), (.b true), .g]) (ds := F36_m1_0) (ks := [2, 3, 7]) (e := ((F36_x1 h) (0 : Nat)).1) (s2 := ((F36_x1 h) (0 : Nat)).2) (hC := (ai l_t (ai c34 (ai (g_tf c34) (ai l_f (ai l_f (ai l_f (ai l_f (ai l_f (ai l_f (ai l_f (ai l_f (ai l_f (ai l_f (ai l_f (ai l_f (ai l_f (ai l_f (ai l_f (ai l_f (ai l_f (ai l_f (ai l_f (ai l_f (ai l_f (ai (g_tf c34) (ai (g_tf c34) (ai (g_tf c34) (ai (g_tf c34) (ai c32 (ai (g_tt c32) (ai (At.one (P := Try.prog) (t := 3) (v := .int .i64 y33) at33 (by kernel_rfl) 0 rfl rfl) (ai (g_tt c32) (ai ix33 (ai (g_tt c32) (ai (g_tt c32) (ai (g_tt c32) (ai (g_tt c32) (ai (At.agg (P := Try.prog) (t := 35) (v := .agg #[.int .i64 y31.1, .int .i64 y31.2]) (m := 2) at31 (by kernel_rfl) (by kernel_rfl) 0 (by kernel_rfl) rfl) (ai ix31 (ai c30 trivial))))))))))))))))))))))))))))))))))))))))) (hd := F36_d1) (h := by kernel_rfl)
      · refine dec_bif (fun c35 => ?_) (fun c35 => ?_)
        · refine dec_bif (fun c36 => ?_) (fun c36 => ?_)
          · intro hr
            obtain rfl := Option.some.inj hr
            show AWp Try.prog _ (Ends1 ((F36_x1 h) (0 : Nat)).1 ((F36_x1 h) (0 : Nat)).2) _
            exact pEnd_sound good (L := F36_L) (D := F36_D) (its := [.g, (.b true), .g, (.ix id31 off31 g31), (.ld (.agg #[.int .i64 y31.1, .int .i64 y31.2])), .g, .g, .g, .g, .g, .g, .g, (.w .g), (.w .g), (.w .g), (.w (.ix id33 off33 g33)), (.w (.ld (.int .i64 y33))), (.w .g), (.p true), .g, (.w .g), (.w .g), (.w .g), (.w .g), (.w .g), (.w .g), (.w .g), (.w (.ix id33 off33 g33)), (.w (.ld (.int .i64 y33))), (.w .g), (.w .g), .n, .n, .n, .n, .n, .n, .n, .n, .n, .n, .n, .n, .n, (.w (.p true)), (.w (.p true)), (.p false), (.b true), .g]) (ds := F36_m1_0) (ks := [2, 3, 7]) (e := ((F36_x1 h) (0 : Nat)).1) (s2 := ((F36_x1 h) (0 : Nat)).2) (hC := (ai l_t (ai c34 (ai c35 (ai (g_ff c34) (ai c36 (ai (g_tt c35) (ai (g_tf c36) (ai (g_tf c36) (ai (g_tf c36) (ai (g_tf c36) (ai (g_tf c36) (ai (g_tf c36) (ai (g_tf c36) (ai (g_tf c36) (ai (g_tf c36) (ai (g_tf c36) (ai (g_tf c36) (ai (g_tf c36) (ai (g_tf c36) (ai (g_tt c35) (ai (g_tt c35) (ai (At.one (P := Try.prog) (t := 3) (v := .int .i64 y33) at33 (by kernel_rfl) 0 rfl rfl) (ai (g_tt c35) (ai ix33 (ai (g_tt c35) (ai (g_tt c35) (ai (g_tt c35) (ai (g_tt c35) (ai (g_ff c34) (ai (g_ff c34) (ai (g_ff c34) (ai (g_ff c34) (ai c32 (ai (g_tt c32) (ai (At.one (P := Try.prog) (t := 3) (v := .int .i64 y33) at33 (by kernel_rfl) 0 rfl rfl) (ai (g_tt c32) (ai ix33 (ai (g_tt c32) (ai (g_tt c32) (ai (g_tt c32) (ai (g_tt c32) (ai (At.agg (P := Try.prog) (t := 35) (v := .agg #[.int .i64 y31.1, .int .i64 y31.2]) (m := 2) at31 (by kernel_rfl) (by kernel_rfl) 0 (by kernel_rfl) rfl) (ai ix31 (ai c30 trivial))))))))))))))))))))))))))))))))))))))))))))) (hd := F36_d1) (h := by kernel_rfl)
          · refine bind_opt fun y37 e37 => ?_
            obtain ⟨id37, off37, g37, cs37, ix37, at37, rfl⟩ := SlE.at hv5 e37
            refine dec_bif (fun c38 => ?_) (fun c38 => ?_)
            · intro hr
              obtain rfl := Option.some.inj hr
              show AWp Try.prog _ (Ends1 ((F36_x1 h) (0 : Nat)).1 ((F36_x1 h) (0 : Nat)).2) _
              exact pEnd_sound good (L := F36_L) (D := F36_D) (its := [.g, (.b true), .g, (.ix id31 off31 g31), (.ld (.agg #[.int .i64 y31.1, .int .i64 y31.2])), .g, .g, .g, .g, .g, .g, .g, (.w .g), (.w .g), (.w .g), (.w (.ix id33 off33 g33)), (.w (.ld (.int .i64 y33))), (.w .g), (.p true), .g, (.w .g), (.w .g), (.w .g), (.w .g), (.w .g), (.w .g), (.w .g), (.w (.ix id33 off33 g33)), (.w (.ld (.int .i64 y33))), (.w .g), (.w .g), (.w .g), (.w .g), (.w .g), (.w (.ix id33 off33 g33)), (.w (.ld (.int .i64 y33))), (.w .g), (.w .g), (.w .g), (.w .g), (.w (.ix id37 off37 g37)), (.w .g), (.w (.ld (.int .i64 y37.2.2.2))), (.w .g), (.w (.p false)), (.w (.p true)), (.p false), (.b true), .g]) (ds := F36_m1_0) (ks := [2, 3, 7]) (e := ((F36_x1 h) (0 : Nat)).1) (s2 := ((F36_x1 h) (0 : Nat)).2) (hC := (ai c38 (ai c34 (ai c35 (ai (g_ff c34) (ai c36 (ai (g_tt c35) (ai (g_ff c36) (ai (At.one (P := Try.prog) (t := 3) (v := .int .i64 y37.2.2.2) at37 (by kernel_rfl) 3 rfl rfl) (ai (g_ff c36) (ai (g_ff c36) (ai ix37 (ai (g_ff c36) (ai (g_ff c36) (ai (g_ff c36) (ai (g_ff c36) (ai (g_ff c36) (ai (At.one (P := Try.prog) (t := 3) (v := .int .i64 y33) at33 (by kernel_rfl) 0 rfl rfl) (ai (g_ff c36) (ai ix33 (ai (g_ff c36) (ai (g_ff c36) (ai (g_ff c36) (ai (g_ff c36) (ai (g_tt c35) (ai (g_tt c35) (ai (At.one (P := Try.prog) (t := 3) (v := .int .i64 y33) at33 (by kernel_rfl) 0 rfl rfl) (ai (g_tt c35) (ai ix33 (ai (g_tt c35) (ai (g_tt c35) (ai (g_tt c35) (ai (g_tt c35) (ai (g_ff c34) (ai (g_ff c34) (ai (g_ff c34) (ai (g_ff c34) (ai c32 (ai (g_tt c32) (ai (At.one (P := Try.prog) (t := 3) (v := .int .i64 y33) at33 (by kernel_rfl) 0 rfl rfl) (ai (g_tt c32) (ai ix33 (ai (g_tt c32) (ai (g_tt c32) (ai (g_tt c32) (ai (g_tt c32) (ai (At.agg (P := Try.prog) (t := 35) (v := .agg #[.int .i64 y31.1, .int .i64 y31.2]) (m := 2) at31 (by kernel_rfl) (by kernel_rfl) 0 (by kernel_rfl) rfl) (ai ix31 (ai c30 trivial))))))))))))))))))))))))))))))))))))))))))))))))) (hd := F36_d1) (h := by kernel_rfl)
            · intro hr
              obtain rfl := Option.some.inj hr
              show AWp Try.prog _ (Ends1 .normal (F36_h1 h x1 x2 x3 v4 v5 l6 v6 x7 x8 v9 v10 v11 (IntKind.i64.wrap (a29 + 1)))) _
              exact pEnd_sound good (L := F36_L) (D := F36_D) (its := [.g, (.b true), .g, (.ix id31 off31 g31), (.ld (.agg #[.int .i64 y31.1, .int .i64 y31.2])), .g, .g, .g, .g, .g, .g, .g, (.w .g), (.w .g), (.w .g), (.w (.ix id33 off33 g33)), (.w (.ld (.int .i64 y33))), (.w .g), (.p true), .g, (.w .g), (.w .g), (.w .g), (.w .g), (.w .g), (.w .g), (.w .g), (.w (.ix id33 off33 g33)), (.w (.ld (.int .i64 y33))), (.w .g), (.w .g), (.w .g), (.w .g), (.w .g), (.w (.ix id33 off33 g33)), (.w (.ld (.int .i64 y33))), (.w .g), (.w .g), (.w .g), (.w .g), (.w (.ix id37 off37 g37)), (.w .g), (.w (.ld (.int .i64 y37.2.2.2))), (.w .g), (.w (.p false)), (.w (.p true)), (.p false), (.b false), .g, .g]) (ds := F36_m1_1) (ks := [7]) (e := .normal) (s2 := (F36_h1 h x1 x2 x3 v4 v5 l6 v6 x7 x8 v9 v10 v11 (IntKind.i64.wrap (a29 + 1)))) (hC := (ai c38 (ai c34 (ai c35 (ai (g_ff c34) (ai c36 (ai (g_tt c35) (ai (g_ff c36) (ai (At.one (P := Try.prog) (t := 3) (v := .int .i64 y37.2.2.2) at37 (by kernel_rfl) 3 rfl rfl) (ai (g_ff c36) (ai (g_ff c36) (ai ix37 (ai (g_ff c36) (ai (g_ff c36) (ai (g_ff c36) (ai (g_ff c36) (ai (g_ff c36) (ai (At.one (P := Try.prog) (t := 3) (v := .int .i64 y33) at33 (by kernel_rfl) 0 rfl rfl) (ai (g_ff c36) (ai ix33 (ai (g_ff c36) (ai (g_ff c36) (ai (g_ff c36) (ai (g_ff c36) (ai (g_tt c35) (ai (g_tt c35) (ai (At.one (P := Try.prog) (t := 3) (v := .int .i64 y33) at33 (by kernel_rfl) 0 rfl rfl) (ai (g_tt c35) (ai ix33 (ai (g_tt c35) (ai (g_tt c35) (ai (g_tt c35) (ai (g_tt c35) (ai (g_ff c34) (ai (g_ff c34) (ai (g_ff c34) (ai (g_ff c34) (ai c32 (ai (g_tt c32) (ai (At.one (P := Try.prog) (t := 3) (v := .int .i64 y33) at33 (by kernel_rfl) 0 rfl rfl) (ai (g_tt c32) (ai ix33 (ai (g_tt c32) (ai (g_tt c32) (ai (g_tt c32) (ai (g_tt c32) (ai (At.agg (P := Try.prog) (t := 35) (v := .agg #[.int .i64 y31.1, .int .i64 y31.2]) (m := 2) at31 (by kernel_rfl) (by kernel_rfl) 0 (by kernel_rfl) rfl) (ai ix31 (ai c30 trivial))))))))))))))))))))))))))))))))))))))))))))))))) (hd := F36_d1) (h := by kernel_rfl)
        · intro hr
          obtain rfl := Option.some.inj hr
          show AWp Try.prog _ (Ends1 .normal (F36_h1 h x1 x2 x3 v4 v5 l6 v6 x7 x8 v9 v10 v11 (IntKind.i64.wrap (a29 + 1)))) _
          exact pEnd_sound good (L := F36_L) (D := F36_D) (its := [.g, (.b true), .g, (.ix id31 off31 g31), (.ld (.agg #[.int .i64 y31.1, .int .i64 y31.2])), .g, .g, .g, .g, .g, .g, .g, (.w .g), (.w .g), (.w .g), (.w (.ix id33 off33 g33)), (.w (.ld (.int .i64 y33))), (.w .g), (.p true), .g, (.w .g), (.w .g), (.w .g), (.w .g), .n, .n, .n, .n, .n, .n, .n, .n, .n, .n, .n, .n, .n, .n, .n, .n, .n, .n, .n, .n, .n, (.w (.p false)), (.p false), (.b false), .g, .g]) (ds := F36_m1_1) (ks := [7]) (e := .normal) (s2 := (F36_h1 h x1 x2 x3 v4 v5 l6 v6 x7 x8 v9 v10 v11 (IntKind.i64.wrap (a29 + 1)))) (hC := (ai l_f (ai c34 (ai c35 (ai (g_ff c34) (ai (g_ft c35) (ai l_f (ai l_f (ai l_f (ai l_f (ai l_f (ai l_f (ai l_f (ai l_f (ai l_f (ai l_f (ai l_f (ai l_f (ai l_f (ai (g_ft c35) (ai (g_ft c35) (ai (g_ft c35) (ai (g_ft c35) (ai (g_ft c35) (ai (g_ft c35) (ai (g_ft c35) (ai (g_ff c34) (ai (g_ff c34) (ai (g_ff c34) (ai (g_ff c34) (ai c32 (ai (g_tt c32) (ai (At.one (P := Try.prog) (t := 3) (v := .int .i64 y33) at33 (by kernel_rfl) 0 rfl rfl) (ai (g_tt c32) (ai ix33 (ai (g_tt c32) (ai (g_tt c32) (ai (g_tt c32) (ai (g_tt c32) (ai (At.agg (P := Try.prog) (t := 35) (v := .agg #[.int .i64 y31.1, .int .i64 y31.2]) (m := 2) at31 (by kernel_rfl) (by kernel_rfl) 0 (by kernel_rfl) rfl) (ai ix31 (ai c30 trivial)))))))))))))))))))))))))))))))))))))))))) (hd := F36_d1) (h := by kernel_rfl)
    · refine dec_bif (fun c39 => ?_) (fun c39 => ?_)
      · refine bind_opt fun y40 e40 => ?_
        obtain ⟨id40, off40, g40, cs40, ix40, at40, rfl⟩ := SlE.at hv11 e40
        refine dec_bif (fun c41 => ?_) (fun c41 => ?_)
        · intro hr
          obtain rfl := Option.some.inj hr
          show AWp Try.prog _ (Ends1 ((F36_x1 h) (0 : Nat)).1 ((F36_x1 h) (0 : Nat)).2) _
          exact pEnd_sound good (L := F36_L) (D := F36_D) (its := [.g, (.b true), .g, (.ix id31 off31 g31), (.ld (.agg #[.int .i64 y31.1, .int .i64 y31.2])), .g, .g, .g, .g, .g, .g, .g, .n, .n, .n, .n, .n, .n, (.p false), .g, (.w .g), (.w .g), (.w .g), (.w .g), (.w .g), (.w .g), (.w .g), (.w (.ix id40 off40 g40)), (.w (.ld (.int .i64 y40))), (.w .g), (.w .g), .n, .n, .n, .n, .n, .n, .n, .n, .n, .n, .n, .n, .n, (.w (.p true)), (.w (.p true)), .g, (.b true), .g]) (ds := F36_m1_0) (ks := [2, 3, 7]) (e := ((F36_x1 h) (0 : Nat)).1) (s2 := ((F36_x1 h) (0 : Nat)).2) (hC := (ai l_t (ai c39 (ai (g_ff l_f) (ai c41 (ai (g_tt c39) (ai (g_tf c41) (ai (g_tf c41) (ai (g_tf c41) (ai (g_tf c41) (ai (g_tf c41) (ai (g_tf c41) (ai (g_tf c41) (ai (g_tf c41) (ai (g_tf c41) (ai (g_tf c41) (ai (g_tf c41) (ai (g_tf c41) (ai (g_tf c41) (ai (g_tt c39) (ai (g_tt c39) (ai (At.one (P := Try.prog) (t := 3) (v := .int .i64 y40) at40 (by kernel_rfl) 0 rfl rfl) (ai (g_tt c39) (ai ix40 (ai (g_tt c39) (ai (g_tt c39) (ai (g_tt c39) (ai (g_tt c39) (ai (g_ff l_f) (ai (g_ff l_f) (ai (g_ff l_f) (ai (g_ff l_f) (ai c32 (ai (g_ft c32) (ai (g_ft c32) (ai (g_ft c32) (ai (g_ft c32) (ai (g_ft c32) (ai (g_ft c32) (ai (At.agg (P := Try.prog) (t := 35) (v := .agg #[.int .i64 y31.1, .int .i64 y31.2]) (m := 2) at31 (by kernel_rfl) (by kernel_rfl) 0 (by kernel_rfl) rfl) (ai ix31 (ai c30 trivial)))))))))))))))))))))))))))))))))))))))))) (hd := F36_d1) (h := by kernel_rfl)
        · refine bind_opt fun y42 e42 => ?_
          obtain ⟨id42, off42, g42, cs42, ix42, at42, rfl⟩ := SlE.at hv5 e42
          refine dec_bif (fun c43 => ?_) (fun c43 => ?_)
          · intro hr
            obtain rfl := Option.some.inj hr
            show AWp Try.prog _ (Ends1 ((F36_x1 h) (0 : Nat)).1 ((F36_x1 h) (0 : Nat)).2) _
            exact pEnd_sound good (L := F36_L) (D := F36_D) (its := [.g, (.b true), .g, (.ix id31 off31 g31), (.ld (.agg #[.int .i64 y31.1, .int .i64 y31.2])), .g, .g, .g, .g, .g, .g, .g, .n, .n, .n, .n, .n, .n, (.p false), .g, (.w .g), (.w .g), (.w .g), (.w .g), (.w .g), (.w .g), (.w .g), (.w (.ix id40 off40 g40)), (.w (.ld (.int .i64 y40))), (.w .g), (.w .g), (.w .g), (.w .g), (.w .g), (.w (.ix id40 off40 g40)), (.w (.ld (.int .i64 y40))), (.w .g), (.w .g), (.w .g), (.w .g), (.w (.ix id42 off42 g42)), (.w .g), (.w (.ld (.int .i64 y42.2.2.2))), (.w .g), (.w (.p false)), (.w (.p true)), .g, (.b true), .g]) (ds := F36_m1_0) (ks := [2, 3, 7]) (e := ((F36_x1 h) (0 : Nat)).1) (s2 := ((F36_x1 h) (0 : Nat)).2) (hC := (ai c43 (ai c39 (ai (g_ff l_f) (ai c41 (ai (g_tt c39) (ai (g_ff c41) (ai (At.one (P := Try.prog) (t := 3) (v := .int .i64 y42.2.2.2) at42 (by kernel_rfl) 3 rfl rfl) (ai (g_ff c41) (ai (g_ff c41) (ai ix42 (ai (g_ff c41) (ai (g_ff c41) (ai (g_ff c41) (ai (g_ff c41) (ai (g_ff c41) (ai (At.one (P := Try.prog) (t := 3) (v := .int .i64 y40) at40 (by kernel_rfl) 0 rfl rfl) (ai (g_ff c41) (ai ix40 (ai (g_ff c41) (ai (g_ff c41) (ai (g_ff c41) (ai (g_ff c41) (ai (g_tt c39) (ai (g_tt c39) (ai (At.one (P := Try.prog) (t := 3) (v := .int .i64 y40) at40 (by kernel_rfl) 0 rfl rfl) (ai (g_tt c39) (ai ix40 (ai (g_tt c39) (ai (g_tt c39) (ai (g_tt c39) (ai (g_tt c39) (ai (g_ff l_f) (ai (g_ff l_f) (ai (g_ff l_f) (ai (g_ff l_f) (ai c32 (ai (g_ft c32) (ai (g_ft c32) (ai (g_ft c32) (ai (g_ft c32) (ai (g_ft c32) (ai (g_ft c32) (ai (At.agg (P := Try.prog) (t := 35) (v := .agg #[.int .i64 y31.1, .int .i64 y31.2]) (m := 2) at31 (by kernel_rfl) (by kernel_rfl) 0 (by kernel_rfl) rfl) (ai ix31 (ai c30 trivial)))))))))))))))))))))))))))))))))))))))))))))) (hd := F36_d1) (h := by kernel_rfl)
          · intro hr
            obtain rfl := Option.some.inj hr
            show AWp Try.prog _ (Ends1 .normal (F36_h1 h x1 x2 x3 v4 v5 l6 v6 x7 x8 v9 v10 v11 (IntKind.i64.wrap (a29 + 1)))) _
            exact pEnd_sound good (L := F36_L) (D := F36_D) (its := [.g, (.b true), .g, (.ix id31 off31 g31), (.ld (.agg #[.int .i64 y31.1, .int .i64 y31.2])), .g, .g, .g, .g, .g, .g, .g, .n, .n, .n, .n, .n, .n, (.p false), .g, (.w .g), (.w .g), (.w .g), (.w .g), (.w .g), (.w .g), (.w .g), (.w (.ix id40 off40 g40)), (.w (.ld (.int .i64 y40))), (.w .g), (.w .g), (.w .g), (.w .g), (.w .g), (.w (.ix id40 off40 g40)), (.w (.ld (.int .i64 y40))), (.w .g), (.w .g), (.w .g), (.w .g), (.w (.ix id42 off42 g42)), (.w .g), (.w (.ld (.int .i64 y42.2.2.2))), (.w .g), (.w (.p false)), (.w (.p true)), .g, (.b false), .g, .g]) (ds := F36_m1_1) (ks := [7]) (e := .normal) (s2 := (F36_h1 h x1 x2 x3 v4 v5 l6 v6 x7 x8 v9 v10 v11 (IntKind.i64.wrap (a29 + 1)))) (hC := (ai c43 (ai c39 (ai (g_ff l_f) (ai c41 (ai (g_tt c39) (ai (g_ff c41) (ai (At.one (P := Try.prog) (t := 3) (v := .int .i64 y42.2.2.2) at42 (by kernel_rfl) 3 rfl rfl) (ai (g_ff c41) (ai (g_ff c41) (ai ix42 (ai (g_ff c41) (ai (g_ff c41) (ai (g_ff c41) (ai (g_ff c41) (ai (g_ff c41) (ai (At.one (P := Try.prog) (t := 3) (v := .int .i64 y40) at40 (by kernel_rfl) 0 rfl rfl) (ai (g_ff c41) (ai ix40 (ai (g_ff c41) (ai (g_ff c41) (ai (g_ff c41) (ai (g_ff c41) (ai (g_tt c39) (ai (g_tt c39) (ai (At.one (P := Try.prog) (t := 3) (v := .int .i64 y40) at40 (by kernel_rfl) 0 rfl rfl) (ai (g_tt c39) (ai ix40 (ai (g_tt c39) (ai (g_tt c39) (ai (g_tt c39) (ai (g_tt c39) (ai (g_ff l_f) (ai (g_ff l_f) (ai (g_ff l_f) (ai (g_ff l_f) (ai c32 (ai (g_ft c32) (ai (g_ft c32) (ai (g_ft c32) (ai (g_ft c32) (ai (g_ft c32) (ai (g_ft c32) (ai (At.agg (P := Try.prog) (t := 35) (v := .agg #[.int .i64 y31.1, .int .i64 y31.2]) (m := 2) at31 (by kernel_rfl) (by kernel_rfl) 0 (by kernel_rfl) rfl) (ai ix31 (ai c30 trivial)))))))))))))))))))))))))))))))))))))))))))))) (hd := F36_d1) (h := by kernel_rfl)
      · intro hr
        obtain rfl := Option.some.inj hr
        show AWp Try.prog _ (Ends1 .normal (F36_h1 h x1 x2 x3 v4 v5 l6 v6 x7 x8 v9 v10 v11 (IntKind.i64.wrap (a29 + 1)))) _
        exact pEnd_sound good (L := F36_L) (D := F36_D) (its := [.g, (.b true), .g, (.ix id31 off31 g31), (.ld (.agg #[.int .i64 y31.1, .int .i64 y31.2])), .g, .g, .g, .g, .g, .g, .g, .n, .n, .n, .n, .n, .n, (.p false), .g, (.w .g), (.w .g), (.w .g), (.w .g), .n, .n, .n, .n, .n, .n, .n, .n, .n, .n, .n, .n, .n, .n, .n, .n, .n, .n, .n, .n, .n, (.w (.p false)), .g, (.b false), .g, .g]) (ds := F36_m1_1) (ks := [7]) (e := .normal) (s2 := (F36_h1 h x1 x2 x3 v4 v5 l6 v6 x7 x8 v9 v10 v11 (IntKind.i64.wrap (a29 + 1)))) (hC := (ai l_f (ai c39 (ai (g_ff l_f) (ai (g_ft c39) (ai l_f (ai l_f (ai l_f (ai l_f (ai l_f (ai l_f (ai l_f (ai l_f (ai l_f (ai l_f (ai l_f (ai l_f (ai l_f (ai (g_ft c39) (ai (g_ft c39) (ai (g_ft c39) (ai (g_ft c39) (ai (g_ft c39) (ai (g_ft c39) (ai (g_ft c39) (ai (g_ff l_f) (ai (g_ff l_f) (ai (g_ff l_f) (ai (g_ff l_f) (ai c32 (ai (g_ft c32) (ai (g_ft c32) (ai (g_ft c32) (ai (g_ft c32) (ai (g_ft c32) (ai (g_ft c32) (ai (At.agg (P := Try.prog) (t := 35) (v := .agg #[.int .i64 y31.1, .int .i64 y31.2]) (m := 2) at31 (by kernel_rfl) (by kernel_rfl) 0 (by kernel_rfl) rfl) (ai ix31 (ai c30 trivial))))))))))))))))))))))))))))))))))))))) (hd := F36_d1) (h := by kernel_rfl)
  · intro hr
    obtain rfl := Option.some.inj hr
    show AWp Try.prog _ (Ends1 ((F36_x1 h) (1 : Nat)).1 ((F36_x1 h) (1 : Nat)).2) _
    exact pEnd_sound good (L := F36_L) (D := F36_D) (its := [.g, (.b false)]) (ds := F36_m1_2) (ks := [2, 3]) (e := ((F36_x1 h) (1 : Nat)).1) (s2 := ((F36_x1 h) (1 : Nat)).2) (hC := (ai c30 trivial)) (hd := F36_d1) (h := by kernel_rfl)
theorem F36_l1_0 (h : AHeap) (x1 : Int) (x2 : Int) (x3 : Bool) (v4 : Hd) (l5 : List (Int × Int × Int × Int)) (v5 : Hd) (hv5 : SlE E38 4 h (sv v5) l5) (l6 : List (Int × Int)) (v6 : Hd) (hv6 : SlE E35 2 h (sv v6) l6) (x7 : Int) (x8 : Int) (v9 : Hd) (v10 : Hd) (l11 : List Int) (v11 : Hd) (hv11 : SlE E3 1 h (sv v11) l11) (x : Int) (r : Nat) (hl : loopO (fun (s : Int) => F36_s1 l5 l6 l11 s) x = some r) (q0 : Nat.beq r 0 = true) : AWp Try.prog (.loop (codeOf Try.prog 36 [1, 1, 1, 1, 1, 0, 1, 0, 0])) (Ends1 .ret (F36_x1_0 h r)) ((fun (s : Int) => (F36_h1 h x1 x2 x3 v4 v5 l6 v6 x7 x8 v9 v10 v11 s)) x) := by
  have k := loop_fun (P := Try.prog) (c := (codeOf Try.prog 36 [1, 1, 1, 1, 1, 0, 1, 0, 0])) (step := (fun (s : Int) => F36_s1 l5 l6 l11 s)) (hd := (fun (s : Int) => (F36_h1 h x1 x2 x3 v4 v5 l6 v6 x7 x8 v9 v10 v11 s))) (X := (F36_x1 h)) (by intro t; unfold F36_x1; cases Nat.beq t 0 <;> (intro h; cases h)) (fun x => F36_r1 h x1 x2 x3 v4 l5 v5 hv5 l6 v6 hv6 x7 x8 v9 v10 l11 v11 hv11 x) hl
  simp only [F36_x1, q0, cond_true, cond_false] at k
  exact k
theorem F36_l1_1 (h : AHeap) (x1 : Int) (x2 : Int) (x3 : Bool) (v4 : Hd) (l5 : List (Int × Int × Int × Int)) (v5 : Hd) (hv5 : SlE E38 4 h (sv v5) l5) (l6 : List (Int × Int)) (v6 : Hd) (hv6 : SlE E35 2 h (sv v6) l6) (x7 : Int) (x8 : Int) (v9 : Hd) (v10 : Hd) (l11 : List Int) (v11 : Hd) (hv11 : SlE E3 1 h (sv v11) l11) (x : Int) (r : Nat) (hl : loopO (fun (s : Int) => F36_s1 l5 l6 l11 s) x = some r) (q0 : Nat.beq r 0 = false) : AWp Try.prog (.loop (codeOf Try.prog 36 [1, 1, 1, 1, 1, 0, 1, 0, 0])) (Ends1 (.exit 0) (F36_x1_1 h r)) ((fun (s : Int) => (F36_h1 h x1 x2 x3 v4 v5 l6 v6 x7 x8 v9 v10 v11 s)) x) := by
  have k := loop_fun (P := Try.prog) (c := (codeOf Try.prog 36 [1, 1, 1, 1, 1, 0, 1, 0, 0])) (step := (fun (s : Int) => F36_s1 l5 l6 l11 s)) (hd := (fun (s : Int) => (F36_h1 h x1 x2 x3 v4 v5 l6 v6 x7 x8 v9 v10 v11 s))) (X := (F36_x1 h)) (by intro t; unfold F36_x1; cases Nat.beq t 0 <;> (intro h; cases h)) (fun x => F36_r1 h x1 x2 x3 v4 l5 v5 hv5 l6 v6 hv6 x7 x8 v9 v10 l11 v11 hv11 x) hl
  simp only [F36_x1, q0, cond_true, cond_false] at k
  exact k
def F36 (x1 : Int) (x2 : Int) (x3 : Bool) (l4 : List (Int × Int × Int × Int)) (l5 : List (Int × Int × Int × Int)) (l6 : List (Int × Int)) (x7 : Int) (x8 : Int) (l9 : List Int) (l10 : List Int) (l11 : List Int) : Option (Bool) :=
  (Option.bind (F67 x1 x2 x3 l4 l5 l6) fun y12 =>
  (bif (!y12) then
   some (false)
  else
   (bif ((l9.length : Int) != x1) then
    some (false)
   else
    (bif ((l11.length : Int) != x1) then
     some (false)
    else
     (bif ((l10.length : Int) != x2) then
      some (false)
     else
      (bif decide (x7 < 0) then
       some (false)
      else
       (bif decide (x7 > 256) then
        some (false)
       else
        (bif (!(decide (x7 > 0) == x3)) then
         some (false)
        else
         (bif decide (x8 < 1) then
          some (false)
         else
          (bif decide (x8 > 4096) then
           some (false)
          else
           (Option.bind (F39w68 l9) fun y23 =>
           (bif y23 then
            some (false)
           else
            (Option.bind (F39w68 l10) fun y26 =>
            (bif y26 then
             some (false)
            else
             (Option.bind (loopO (fun (s : Int) => F36_s1 l5 l6 l11 s) 0) fun y44 =>
             (bif (Nat.beq y44 0) then
              some (false)
             else
              some (true)))))))))))))))))
set_option maxRecDepth 100000 in
theorem F36_spec (x1 : Int) (x2 : Int) (x3 : Bool) (l4 : List (Int × Int × Int × Int)) (l5 : List (Int × Int × Int × Int)) (l6 : List (Int × Int)) (x7 : Int) (x8 : Int) (l9 : List Int) (l10 : List Int) (l11 : List Int) (v4 : Hd) (v5 : Hd) (v6 : Hd) (v9 : Hd) (v10 : Hd) (v11 : Hd) (h : AHeap) (hv4 : SlE E81 4 h (sv v4) l4) (hv5 : SlE E38 4 h (sv v5) l5) (hv6 : SlE E35 2 h (sv v6) l6) (hv9 : SlE E3 1 h (sv v9) l9) (hv10 : SlE E3 1 h (sv v10) l10) (hv11 : SlE E3 1 h (sv v11) l11) (r : Bool) : F36 x1 x2 x3 l4 l5 l6 x7 x8 l9 l10 l11 = some r → ACalls Try.prog 36 [.agg #[.int .i64 x1, .int .i64 x2, .bool x3, (sv v4), (sv v5), (sv v6)], .agg #[.int .i64 x7, .int .i64 x8, (sv v9), (sv v10), (sv v11)]] h (fun v' h'' => v' = (.bool r : Value) ∧ h'' = h) := by
  unfold F36
  refine bind_opt fun y12 e12 => ?_
  refine dec_bif (fun c14 => ?_) (fun c14 => ?_)
  · intro hr
    obtain rfl := Option.some.inj hr
    exact pFun_sound good tab_ok (f := 36) (its := [.g, .g, .g, .g, (.c (.bool y12) h), .g, .g, .n, .n, .n, .n, .n, .n, (.p true), .g, .n, .n, .n, .n, .n, .n, .g, .g, .n, .n, .n, .n, .n, .n, .g, (.b true), .g]) (args := [.agg #[.int .i64 x1, .int .i64 x2, .bool x3, (sv v4), (sv v5), (sv v6)], .agg #[.int .i64 x7, .int .i64 x8, (sv v9), (sv v10), (sv v11)]]) (h := h) (h' := h) (v := .bool false) (hC := (ai l_t (ai (g_tf l_t) (ai (g_tf l_t) (ai (g_tf l_t) (ai (g_tf l_t) (ai (g_tf l_t) (ai (g_tf l_t) (ai (g_tf l_t) (ai (g_tf l_t) (ai (g_tf l_t) (ai (g_tf l_t) (ai (g_tf l_t) (ai (g_tf l_t) (ai c14 (ai (g_tf c14) (ai (g_tf c14) (ai (g_tf c14) (ai (g_tf c14) (ai (g_tf c14) (ai (g_tf c14) (ai (F67_spec x1 x2 x3 l4 l5 l6 v4 v5 v6 h hv4 hv5 hv6 _ e12) trivial)))))))))))))))))))))) (hr := by kernel_rfl)
  · refine dec_bif (fun c15 => ?_) (fun c15 => ?_)
    · intro hr
      obtain rfl := Option.some.inj hr
      exact pFun_sound good tab_ok (f := 36) (its := [.g, .g, .g, .g, (.c (.bool y12) h), .g, .g, (.w .g), (.w .g), (.w (.ln l9.length)), (.w .g), (.w .g), (.w .g), (.p false), .g, .n, .n, .n, .n, .n, .n, (.p true), .g, .n, .n, .n, .n, .n, .n, .g, (.b true), .g]) (args := [.agg #[.int .i64 x1, .int .i64 x2, .bool x3, (sv v4), (sv v5), (sv v6)], .agg #[.int .i64 x7, .int .i64 x8, (sv v9), (sv v10), (sv v11)]]) (h := h) (h' := h) (v := .bool false) (hC := (ai l_t (ai (g_tf l_t) (ai (g_tf l_t) (ai (g_tf l_t) (ai (g_tf l_t) (ai (g_tf l_t) (ai (g_tf l_t) (ai c15 (ai (g_tf c15) (ai (g_tf c15) (ai (g_tf c15) (ai (g_tf c15) (ai (g_tf c15) (ai (g_tf c15) (ai c14 (ai (g_ff c14) (ai (g_ff c14) (ai (g_ff c14) (ai (SlE.len hv9) (ai (g_ff c14) (ai (g_ff c14) (ai (g_ff c14) (ai (F67_spec x1 x2 x3 l4 l5 l6 v4 v5 v6 h hv4 hv5 hv6 _ e12) trivial)))))))))))))))))))))))) (hr := by kernel_rfl)
    · refine dec_bif (fun c16 => ?_) (fun c16 => ?_)
      · intro hr
        obtain rfl := Option.some.inj hr
        exact pFun_sound good tab_ok (f := 36) (its := [.g, .g, .g, .g, (.c (.bool y12) h), .g, .g, (.w .g), (.w .g), (.w (.ln l9.length)), (.w .g), (.w .g), (.w .g), (.p false), .g, (.w .g), (.w .g), (.w (.ln l11.length)), (.w .g), (.w .g), (.w .g), (.p false), .g, .n, .n, .n, .n, .n, .n, (.p true), (.b true), .g]) (args := [.agg #[.int .i64 x1, .int .i64 x2, .bool x3, (sv v4), (sv v5), (sv v6)], .agg #[.int .i64 x7, .int .i64 x8, (sv v9), (sv v10), (sv v11)]]) (h := h) (h' := h) (v := .bool false) (hC := (ai l_t (ai c16 (ai (g_tf c16) (ai (g_tf c16) (ai (g_tf c16) (ai (g_tf c16) (ai (g_tf c16) (ai (g_tf c16) (ai c15 (ai (g_ff c15) (ai (g_ff c15) (ai (g_ff c15) (ai (SlE.len hv11) (ai (g_ff c15) (ai (g_ff c15) (ai (g_ff c15) (ai c14 (ai (g_ff c14) (ai (g_ff c14) (ai (g_ff c14) (ai (SlE.len hv9) (ai (g_ff c14) (ai (g_ff c14) (ai (g_ff c14) (ai (F67_spec x1 x2 x3 l4 l5 l6 v4 v5 v6 h hv4 hv5 hv6 _ e12) trivial)))))))))))))))))))))))))) (hr := by kernel_rfl)
      · refine dec_bif (fun c17 => ?_) (fun c17 => ?_)
        · intro hr
          obtain rfl := Option.some.inj hr
          exact pFun_sound good tab_ok (f := 36) (its := [.g, .g, .g, .g, (.c (.bool y12) h), .g, .g, (.w .g), (.w .g), (.w (.ln l9.length)), (.w .g), (.w .g), (.w .g), (.p false), .g, (.w .g), (.w .g), (.w (.ln l11.length)), (.w .g), (.w .g), (.w .g), (.p false), .g, (.w .g), (.w .g), (.w (.ln l10.length)), (.w .g), (.w .g), (.w .g), (.p false), (.b true), .g]) (args := [.agg #[.int .i64 x1, .int .i64 x2, .bool x3, (sv v4), (sv v5), (sv v6)], .agg #[.int .i64 x7, .int .i64 x8, (sv v9), (sv v10), (sv v11)]]) (h := h) (h' := h) (v := .bool false) (hC := (ai c17 (ai c16 (ai (g_ff c16) (ai (g_ff c16) (ai (g_ff c16) (ai (SlE.len hv10) (ai (g_ff c16) (ai (g_ff c16) (ai (g_ff c16) (ai c15 (ai (g_ff c15) (ai (g_ff c15) (ai (g_ff c15) (ai (SlE.len hv11) (ai (g_ff c15) (ai (g_ff c15) (ai (g_ff c15) (ai c14 (ai (g_ff c14) (ai (g_ff c14) (ai (g_ff c14) (ai (SlE.len hv9) (ai (g_ff c14) (ai (g_ff c14) (ai (g_ff c14) (ai (F67_spec x1 x2 x3 l4 l5 l6 v4 v5 v6 h hv4 hv5 hv6 _ e12) trivial))))))))))))))))))))))))))) (hr := by kernel_rfl)
        · refine dec_bif (fun c18 => ?_) (fun c18 => ?_)
          · intro hr
            obtain rfl := Option.some.inj hr
            exact pFun_sound good tab_ok (f := 36) (its := [.g, .g, .g, .g, (.c (.bool y12) h), .g, .g, (.w .g), (.w .g), (.w (.ln l9.length)), (.w .g), (.w .g), (.w .g), (.p false), .g, (.w .g), (.w .g), (.w (.ln l11.length)), (.w .g), (.w .g), (.w .g), (.p false), .g, (.w .g), (.w .g), (.w (.ln l10.length)), (.w .g), (.w .g), (.w .g), (.p false), (.b false), .g, .g, .g, .g, .n, .n, .n, (.p true), .g, .n, .n, .n, .n, .n, .n, .g, .g, .n, .n, .n, .g, .g, .n, .n, .n, .g, (.b true), .g]) (args := [.agg #[.int .i64 x1, .int .i64 x2, .bool x3, (sv v4), (sv v5), (sv v6)], .agg #[.int .i64 x7, .int .i64 x8, (sv v9), (sv v10), (sv v11)]]) (h := h) (h' := h) (v := .bool false) (hC := (ai l_t (ai (g_tf l_t) (ai (g_tf l_t) (ai (g_tf l_t) (ai (g_tf l_t) (ai (g_tf l_t) (ai (g_tf l_t) (ai (g_tf l_t) (ai (g_tf l_t) (ai (g_tf l_t) (ai (g_tf l_t) (ai (g_tf l_t) (ai (g_tf l_t) (ai c18 (ai (g_tf c18) (ai (g_tf c18) (ai (g_tf c18) (ai c17 (ai c16 (ai (g_ff c16) (ai (g_ff c16) (ai (g_ff c16) (ai (SlE.len hv10) (ai (g_ff c16) (ai (g_ff c16) (ai (g_ff c16) (ai c15 (ai (g_ff c15) (ai (g_ff c15) (ai (g_ff c15) (ai (SlE.len hv11) (ai (g_ff c15) (ai (g_ff c15) (ai (g_ff c15) (ai c14 (ai (g_ff c14) (ai (g_ff c14) (ai (g_ff c14) (ai (SlE.len hv9) (ai (g_ff c14) (ai (g_ff c14) (ai (g_ff c14) (ai (F67_spec x1 x2 x3 l4 l5 l6 v4 v5 v6 h hv4 hv5 hv6 _ e12) trivial)))))))))))))))))))))))))))))))))))))))))))) (hr := by kernel_rfl)
          · refine dec_bif (fun c19 => ?_) (fun c19 => ?_)
            · intro hr
              obtain rfl := Option.some.inj hr
              exact pFun_sound good tab_ok (f := 36) (its := [.g, .g, .g, .g, (.c (.bool y12) h), .g, .g, (.w .g), (.w .g), (.w (.ln l9.length)), (.w .g), (.w .g), (.w .g), (.p false), .g, (.w .g), (.w .g), (.w (.ln l11.length)), (.w .g), (.w .g), (.w .g), (.p false), .g, (.w .g), (.w .g), (.w (.ln l10.length)), (.w .g), (.w .g), (.w .g), (.p false), (.b false), .g, .g, .g, .g, (.w .g), (.w .g), (.w .g), (.p false), .g, .n, .n, .n, .n, .n, .n, (.p true), .g, .n, .n, .n, .g, .g, .n, .n, .n, .g, (.b true), .g]) (args := [.agg #[.int .i64 x1, .int .i64 x2, .bool x3, (sv v4), (sv v5), (sv v6)], .agg #[.int .i64 x7, .int .i64 x8, (sv v9), (sv v10), (sv v11)]]) (h := h) (h' := h) (v := .bool false) (hC := (ai l_t (ai (g_tf l_t) (ai (g_tf l_t) (ai (g_tf l_t) (ai (g_tf l_t) (ai (g_tf l_t) (ai (g_tf l_t) (ai c19 (ai (g_tf c19) (ai (g_tf c19) (ai (g_tf c19) (ai (g_tf c19) (ai (g_tf c19) (ai (g_tf c19) (ai c18 (ai (g_ff c18) (ai (g_ff c18) (ai (g_ff c18) (ai c17 (ai c16 (ai (g_ff c16) (ai (g_ff c16) (ai (g_ff c16) (ai (SlE.len hv10) (ai (g_ff c16) (ai (g_ff c16) (ai (g_ff c16) (ai c15 (ai (g_ff c15) (ai (g_ff c15) (ai (g_ff c15) (ai (SlE.len hv11) (ai (g_ff c15) (ai (g_ff c15) (ai (g_ff c15) (ai c14 (ai (g_ff c14) (ai (g_ff c14) (ai (g_ff c14) (ai (SlE.len hv9) (ai (g_ff c14) (ai (g_ff c14) (ai (g_ff c14) (ai (F67_spec x1 x2 x3 l4 l5 l6 v4 v5 v6 h hv4 hv5 hv6 _ e12) trivial))))))))))))))))))))))))))))))))))))))))))))) (hr := by kernel_rfl)
            · refine dec_bif (fun c20 => ?_) (fun c20 => ?_)
              · intro hr
                obtain rfl := Option.some.inj hr
                exact pFun_sound good tab_ok (f := 36) (its := [.g, .g, .g, .g, (.c (.bool y12) h), .g, .g, (.w .g), (.w .g), (.w (.ln l9.length)), (.w .g), (.w .g), (.w .g), (.p false), .g, (.w .g), (.w .g), (.w (.ln l11.length)), (.w .g), (.w .g), (.w .g), (.p false), .g, (.w .g), (.w .g), (.w (.ln l10.length)), (.w .g), (.w .g), (.w .g), (.p false), (.b false), .g, .g, .g, .g, (.w .g), (.w .g), (.w .g), (.p false), .g, (.w .g), (.w .g), (.w .g), (.w .g), (.w .g), (.w .g), (.p false), .g, .n, .n, .n, (.p true), .g, .n, .n, .n, .g, (.b true), .g]) (args := [.agg #[.int .i64 x1, .int .i64 x2, .bool x3, (sv v4), (sv v5), (sv v6)], .agg #[.int .i64 x7, .int .i64 x8, (sv v9), (sv v10), (sv v11)]]) (h := h) (h' := h) (v := .bool false) (hC := (ai l_t (ai (g_tf l_t) (ai (g_tf l_t) (ai (g_tf l_t) (ai c20 (ai (g_tf c20) (ai (g_tf c20) (ai (g_tf c20) (ai c19 (ai (g_ff c19) (ai (g_ff c19) (ai (g_ff c19) (ai (g_ff c19) (ai (g_ff c19) (ai (g_ff c19) (ai c18 (ai (g_ff c18) (ai (g_ff c18) (ai (g_ff c18) (ai c17 (ai c16 (ai (g_ff c16) (ai (g_ff c16) (ai (g_ff c16) (ai (SlE.len hv10) (ai (g_ff c16) (ai (g_ff c16) (ai (g_ff c16) (ai c15 (ai (g_ff c15) (ai (g_ff c15) (ai (g_ff c15) (ai (SlE.len hv11) (ai (g_ff c15) (ai (g_ff c15) (ai (g_ff c15) (ai c14 (ai (g_ff c14) (ai (g_ff c14) (ai (g_ff c14) (ai (SlE.len hv9) (ai (g_ff c14) (ai (g_ff c14) (ai (g_ff c14) (ai (F67_spec x1 x2 x3 l4 l5 l6 v4 v5 v6 h hv4 hv5 hv6 _ e12) trivial)))))))))))))))))))))))))))))))))))))))))))))) (hr := by kernel_rfl)
              · refine dec_bif (fun c21 => ?_) (fun c21 => ?_)
                · intro hr
                  obtain rfl := Option.some.inj hr
                  exact pFun_sound good tab_ok (f := 36) (its := [.g, .g, .g, .g, (.c (.bool y12) h), .g, .g, (.w .g), (.w .g), (.w (.ln l9.length)), (.w .g), (.w .g), (.w .g), (.p false), .g, (.w .g), (.w .g), (.w (.ln l11.length)), (.w .g), (.w .g), (.w .g), (.p false), .g, (.w .g), (.w .g), (.w (.ln l10.length)), (.w .g), (.w .g), (.w .g), (.p false), (.b false), .g, .g, .g, .g, (.w .g), (.w .g), (.w .g), (.p false), .g, (.w .g), (.w .g), (.w .g), (.w .g), (.w .g), (.w .g), (.p false), .g, (.w .g), (.w .g), (.w .g), (.p false), .g, .n, .n, .n, (.p true), (.b true), .g]) (args := [.agg #[.int .i64 x1, .int .i64 x2, .bool x3, (sv v4), (sv v5), (sv v6)], .agg #[.int .i64 x7, .int .i64 x8, (sv v9), (sv v10), (sv v11)]]) (h := h) (h' := h) (v := .bool false) (hC := (ai l_t (ai c21 (ai (g_tf c21) (ai (g_tf c21) (ai (g_tf c21) (ai c20 (ai (g_ff c20) (ai (g_ff c20) (ai (g_ff c20) (ai c19 (ai (g_ff c19) (ai (g_ff c19) (ai (g_ff c19) (ai (g_ff c19) (ai (g_ff c19) (ai (g_ff c19) (ai c18 (ai (g_ff c18) (ai (g_ff c18) (ai (g_ff c18) (ai c17 (ai c16 (ai (g_ff c16) (ai (g_ff c16) (ai (g_ff c16) (ai (SlE.len hv10) (ai (g_ff c16) (ai (g_ff c16) (ai (g_ff c16) (ai c15 (ai (g_ff c15) (ai (g_ff c15) (ai (g_ff c15) (ai (SlE.len hv11) (ai (g_ff c15) (ai (g_ff c15) (ai (g_ff c15) (ai c14 (ai (g_ff c14) (ai (g_ff c14) (ai (g_ff c14) (ai (SlE.len hv9) (ai (g_ff c14) (ai (g_ff c14) (ai (g_ff c14) (ai (F67_spec x1 x2 x3 l4 l5 l6 v4 v5 v6 h hv4 hv5 hv6 _ e12) trivial))))))))))))))))))))))))))))))))))))))))))))))) (hr := by kernel_rfl)
                · refine dec_bif (fun c22 => ?_) (fun c22 => ?_)
                  · intro hr
                    obtain rfl := Option.some.inj hr
                    exact pFun_sound good tab_ok (f := 36) (its := [.g, .g, .g, .g, (.c (.bool y12) h), .g, .g, (.w .g), (.w .g), (.w (.ln l9.length)), (.w .g), (.w .g), (.w .g), (.p false), .g, (.w .g), (.w .g), (.w (.ln l11.length)), (.w .g), (.w .g), (.w .g), (.p false), .g, (.w .g), (.w .g), (.w (.ln l10.length)), (.w .g), (.w .g), (.w .g), (.p false), (.b false), .g, .g, .g, .g, (.w .g), (.w .g), (.w .g), (.p false), .g, (.w .g), (.w .g), (.w .g), (.w .g), (.w .g), (.w .g), (.p false), .g, (.w .g), (.w .g), (.w .g), (.p false), .g, (.w .g), (.w .g), (.w .g), (.p false), (.b true), .g]) (args := [.agg #[.int .i64 x1, .int .i64 x2, .bool x3, (sv v4), (sv v5), (sv v6)], .agg #[.int .i64 x7, .int .i64 x8, (sv v9), (sv v10), (sv v11)]]) (h := h) (h' := h) (v := .bool false) (hC := (ai c22 (ai c21 (ai (g_ff c21) (ai (g_ff c21) (ai (g_ff c21) (ai c20 (ai (g_ff c20) (ai (g_ff c20) (ai (g_ff c20) (ai c19 (ai (g_ff c19) (ai (g_ff c19) (ai (g_ff c19) (ai (g_ff c19) (ai (g_ff c19) (ai (g_ff c19) (ai c18 (ai (g_ff c18) (ai (g_ff c18) (ai (g_ff c18) (ai c17 (ai c16 (ai (g_ff c16) (ai (g_ff c16) (ai (g_ff c16) (ai (SlE.len hv10) (ai (g_ff c16) (ai (g_ff c16) (ai (g_ff c16) (ai c15 (ai (g_ff c15) (ai (g_ff c15) (ai (g_ff c15) (ai (SlE.len hv11) (ai (g_ff c15) (ai (g_ff c15) (ai (g_ff c15) (ai c14 (ai (g_ff c14) (ai (g_ff c14) (ai (g_ff c14) (ai (SlE.len hv9) (ai (g_ff c14) (ai (g_ff c14) (ai (g_ff c14) (ai (F67_spec x1 x2 x3 l4 l5 l6 v4 v5 v6 h hv4 hv5 hv6 _ e12) trivial))))))))))))))))))))))))))))))))))))))))))))))) (hr := by kernel_rfl)
                  · refine bind_opt fun y23 e23 => ?_
                    refine dec_bif (fun c25 => ?_) (fun c25 => ?_)
                    · intro hr
                      obtain rfl := Option.some.inj hr
                      exact pFun_sound good tab_ok (f := 36) (its := [.g, .g, .g, .g, (.c (.bool y12) h), .g, .g, (.w .g), (.w .g), (.w (.ln l9.length)), (.w .g), (.w .g), (.w .g), (.p false), .g, (.w .g), (.w .g), (.w (.ln l11.length)), (.w .g), (.w .g), (.w .g), (.p false), .g, (.w .g), (.w .g), (.w (.ln l10.length)), (.w .g), (.w .g), (.w .g), (.p false), (.b false), .g, .g, .g, .g, (.w .g), (.w .g), (.w .g), (.p false), .g, (.w .g), (.w .g), (.w .g), (.w .g), (.w .g), (.w .g), (.p false), .g, (.w .g), (.w .g), (.w .g), (.p false), .g, (.w .g), (.w .g), (.w .g), (.p false), (.b false), .g, .g, .g, .g, (.c (.bool y23) h), .g, .n, .n, .n, .n, (.p true), (.b true), .g]) (args := [.agg #[.int .i64 x1, .int .i64 x2, .bool x3, (sv v4), (sv v5), (sv v6)], .agg #[.int .i64 x7, .int .i64 x8, (sv v9), (sv v10), (sv v11)]]) (h := h) (h' := h) (v := .bool false) (hC := (ai l_t (ai c25 (ai (g_tf c25) (ai (g_tf c25) (ai (g_tf c25) (ai (g_tf c25) (ai (F39w68_spec l9 v9 h hv9 _ e23) (ai c22 (ai c21 (ai (g_ff c21) (ai (g_ff c21) (ai (g_ff c21) (ai c20 (ai (g_ff c20) (ai (g_ff c20) (ai (g_ff c20) (ai c19 (ai (g_ff c19) (ai (g_ff c19) (ai (g_ff c19) (ai (g_ff c19) (ai (g_ff c19) (ai (g_ff c19) (ai c18 (ai (g_ff c18) (ai (g_ff c18) (ai (g_ff c18) (ai c17 (ai c16 (ai (g_ff c16) (ai (g_ff c16) (ai (g_ff c16) (ai (SlE.len hv10) (ai (g_ff c16) (ai (g_ff c16) (ai (g_ff c16) (ai c15 (ai (g_ff c15) (ai (g_ff c15) (ai (g_ff c15) (ai (SlE.len hv11) (ai (g_ff c15) (ai (g_ff c15) (ai (g_ff c15) (ai c14 (ai (g_ff c14) (ai (g_ff c14) (ai (g_ff c14) (ai (SlE.len hv9) (ai (g_ff c14) (ai (g_ff c14) (ai (g_ff c14) (ai (F67_spec x1 x2 x3 l4 l5 l6 v4 v5 v6 h hv4 hv5 hv6 _ e12) trivial)))))))))))))))))))))))))))))))))))))))))))))))))))))) (hr := by kernel_rfl)
                    · refine bind_opt fun y26 e26 => ?_
                      refine dec_bif (fun c28 => ?_) (fun c28 => ?_)
                      · intro hr
                        obtain rfl := Option.some.inj hr
                        exact pFun_sound good tab_ok (f := 36) (its := [.g, .g, .g, .g, (.c (.bool y12) h), .g, .g, (.w .g), (.w .g), (.w (.ln l9.length)), (.w .g), (.w .g), (.w .g), (.p false), .g, (.w .g), (.w .g), (.w (.ln l11.length)), (.w .g), (.w .g), (.w .g), (.p false), .g, (.w .g), (.w .g), (.w (.ln l10.length)), (.w .g), (.w .g), (.w .g), (.p false), (.b false), .g, .g, .g, .g, (.w .g), (.w .g), (.w .g), (.p false), .g, (.w .g), (.w .g), (.w .g), (.w .g), (.w .g), (.w .g), (.p false), .g, (.w .g), (.w .g), (.w .g), (.p false), .g, (.w .g), (.w .g), (.w .g), (.p false), (.b false), .g, .g, .g, .g, (.c (.bool y23) h), .g, (.w .g), (.w .g), (.w .g), (.w (.c (.bool y26) h)), (.p false), (.b true), .g]) (args := [.agg #[.int .i64 x1, .int .i64 x2, .bool x3, (sv v4), (sv v5), (sv v6)], .agg #[.int .i64 x7, .int .i64 x8, (sv v9), (sv v10), (sv v11)]]) (h := h) (h' := h) (v := .bool false) (hC := (ai c28 (ai c25 (ai (F39w68_spec l10 v10 h hv10 _ e26) (ai (g_ff c25) (ai (g_ff c25) (ai (g_ff c25) (ai (g_ff c25) (ai (F39w68_spec l9 v9 h hv9 _ e23) (ai c22 (ai c21 (ai (g_ff c21) (ai (g_ff c21) (ai (g_ff c21) (ai c20 (ai (g_ff c20) (ai (g_ff c20) (ai (g_ff c20) (ai c19 (ai (g_ff c19) (ai (g_ff c19) (ai (g_ff c19) (ai (g_ff c19) (ai (g_ff c19) (ai (g_ff c19) (ai c18 (ai (g_ff c18) (ai (g_ff c18) (ai (g_ff c18) (ai c17 (ai c16 (ai (g_ff c16) (ai (g_ff c16) (ai (g_ff c16) (ai (SlE.len hv10) (ai (g_ff c16) (ai (g_ff c16) (ai (g_ff c16) (ai c15 (ai (g_ff c15) (ai (g_ff c15) (ai (g_ff c15) (ai (SlE.len hv11) (ai (g_ff c15) (ai (g_ff c15) (ai (g_ff c15) (ai c14 (ai (g_ff c14) (ai (g_ff c14) (ai (g_ff c14) (ai (SlE.len hv9) (ai (g_ff c14) (ai (g_ff c14) (ai (g_ff c14) (ai (F67_spec x1 x2 x3 l4 l5 l6 v4 v5 v6 h hv4 hv5 hv6 _ e12) trivial))))))))))))))))))))))))))))))))))))))))))))))))))))))) (hr := by kernel_rfl)
                      · refine bind_opt fun y44 e44 => ?_
                        refine dec_bif (fun c45 => ?_) (fun c45 => ?_)
                        · intro hr
                          obtain rfl := Option.some.inj hr
                          exact pFun_sound good tab_ok (f := 36) (its := [.g, .g, .g, .g, (.c (.bool y12) h), .g, .g, (.w .g), (.w .g), (.w (.ln l9.length)), (.w .g), (.w .g), (.w .g), (.p false), .g, (.w .g), (.w .g), (.w (.ln l11.length)), (.w .g), (.w .g), (.w .g), (.p false), .g, (.w .g), (.w .g), (.w (.ln l10.length)), (.w .g), (.w .g), (.w .g), (.p false), (.b false), .g, .g, .g, .g, (.w .g), (.w .g), (.w .g), (.p false), .g, (.w .g), (.w .g), (.w .g), (.w .g), (.w .g), (.w .g), (.p false), .g, (.w .g), (.w .g), (.w .g), (.p false), .g, (.w .g), (.w .g), (.w .g), (.p false), (.b false), .g, .g, .g, .g, (.c (.bool y23) h), .g, (.w .g), (.w .g), (.w .g), (.w (.c (.bool y26) h)), (.p false), (.b false), .g, .g, (.ln l6.length), .g, (.l F36_m1_1 [] .ret (F36_x1_0 h y44))]) (args := [.agg #[.int .i64 x1, .int .i64 x2, .bool x3, (sv v4), (sv v5), (sv v6)], .agg #[.int .i64 x7, .int .i64 x8, (sv v9), (sv v10), (sv v11)]]) (h := h) (h' := h) (v := .bool false) (hC := (ai (F36_l1_0 h x1 x2 x3 v4 l5 v5 hv5 l6 v6 hv6 x7 x8 v9 v10 l11 v11 hv11 0 y44 e44 c45) (ai (SlE.len hv6) (ai c28 (ai c25 (ai (F39w68_spec l10 v10 h hv10 _ e26) (ai (g_ff c25) (ai (g_ff c25) (ai (g_ff c25) (ai (g_ff c25) (ai (F39w68_spec l9 v9 h hv9 _ e23) (ai c22 (ai c21 (ai (g_ff c21) (ai (g_ff c21) (ai (g_ff c21) (ai c20 (ai (g_ff c20) (ai (g_ff c20) (ai (g_ff c20) (ai c19 (ai (g_ff c19) (ai (g_ff c19) (ai (g_ff c19) (ai (g_ff c19) (ai (g_ff c19) (ai (g_ff c19) (ai c18 (ai (g_ff c18) (ai (g_ff c18) (ai (g_ff c18) (ai c17 (ai c16 (ai (g_ff c16) (ai (g_ff c16) (ai (g_ff c16) (ai (SlE.len hv10) (ai (g_ff c16) (ai (g_ff c16) (ai (g_ff c16) (ai c15 (ai (g_ff c15) (ai (g_ff c15) (ai (g_ff c15) (ai (SlE.len hv11) (ai (g_ff c15) (ai (g_ff c15) (ai (g_ff c15) (ai c14 (ai (g_ff c14) (ai (g_ff c14) (ai (g_ff c14) (ai (SlE.len hv9) (ai (g_ff c14) (ai (g_ff c14) (ai (g_ff c14) (ai (F67_spec x1 x2 x3 l4 l5 l6 v4 v5 v6 h hv4 hv5 hv6 _ e12) trivial))))))))))))))))))))))))))))))))))))))))))))))))))))))))) (hr := by kernel_rfl)
                        · intro hr
                          obtain rfl := Option.some.inj hr
                          exact pFun_sound good tab_ok (f := 36) (its := [.g, .g, .g, .g, (.c (.bool y12) h), .g, .g, (.w .g), (.w .g), (.w (.ln l9.length)), (.w .g), (.w .g), (.w .g), (.p false), .g, (.w .g), (.w .g), (.w (.ln l11.length)), (.w .g), (.w .g), (.w .g), (.p false), .g, (.w .g), (.w .g), (.w (.ln l10.length)), (.w .g), (.w .g), (.w .g), (.p false), (.b false), .g, .g, .g, .g, (.w .g), (.w .g), (.w .g), (.p false), .g, (.w .g), (.w .g), (.w .g), (.w .g), (.w .g), (.w .g), (.p false), .g, (.w .g), (.w .g), (.w .g), (.p false), .g, (.w .g), (.w .g), (.w .g), (.p false), (.b false), .g, .g, .g, .g, (.c (.bool y23) h), .g, (.w .g), (.w .g), (.w .g), (.w (.c (.bool y26) h)), (.p false), (.b false), .g, .g, (.ln l6.length), .g, (.l F36_m1_1 [] (.exit 0) (F36_x1_1 h y44)), .g]) (args := [.agg #[.int .i64 x1, .int .i64 x2, .bool x3, (sv v4), (sv v5), (sv v6)], .agg #[.int .i64 x7, .int .i64 x8, (sv v9), (sv v10), (sv v11)]]) (h := h) (h' := h) (v := .bool true) (hC := (ai (F36_l1_1 h x1 x2 x3 v4 l5 v5 hv5 l6 v6 hv6 x7 x8 v9 v10 l11 v11 hv11 0 y44 e44 c45) (ai (SlE.len hv6) (ai c28 (ai c25 (ai (F39w68_spec l10 v10 h hv10 _ e26) (ai (g_ff c25) (ai (g_ff c25) (ai (g_ff c25) (ai (g_ff c25) (ai (F39w68_spec l9 v9 h hv9 _ e23) (ai c22 (ai c21 (ai (g_ff c21) (ai (g_ff c21) (ai (g_ff c21) (ai c20 (ai (g_ff c20) (ai (g_ff c20) (ai (g_ff c20) (ai c19 (ai (g_ff c19) (ai (g_ff c19) (ai (g_ff c19) (ai (g_ff c19) (ai (g_ff c19) (ai (g_ff c19) (ai c18 (ai (g_ff c18) (ai (g_ff c18) (ai (g_ff c18) (ai c17 (ai c16 (ai (g_ff c16) (ai (g_ff c16) (ai (g_ff c16) (ai (SlE.len hv10) (ai (g_ff c16) (ai (g_ff c16) (ai (g_ff c16) (ai c15 (ai (g_ff c15) (ai (g_ff c15) (ai (g_ff c15) (ai (SlE.len hv11) (ai (g_ff c15) (ai (g_ff c15) (ai (g_ff c15) (ai c14 (ai (g_ff c14) (ai (g_ff c14) (ai (g_ff c14) (ai (SlE.len hv9) (ai (g_ff c14) (ai (g_ff c14) (ai (g_ff c14) (ai (F67_spec x1 x2 x3 l4 l5 l6 v4 v5 v6 h hv4 hv5 hv6 _ e12) trivial))))))))))))))))))))))))))))))))))))))))))))))))))))))))) (hr := by kernel_rfl)
end
end Go.Proofs.Ytmncgnjginibiaa.Abs
