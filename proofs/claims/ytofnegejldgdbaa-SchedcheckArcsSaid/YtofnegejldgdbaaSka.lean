/-
  Contracts, written by program: for each function what its call yields, and that it yields it.
-/
import Derived.Test.YtofnegejldgdbaaSkt
namespace Go.Proofs.Ytofnegejldgdbaa.Abs
open Go
set_option linter.unusedVariables false
set_option linter.unusedSimpArgs false

noncomputable section
def enc37 (x : Int × Int × Int × Int) : List Value := [.int .i64 x.1, .int .i64 x.2.1, .int .i64 x.2.2.1, .int .i64 x.2.2.2]
def E37 (h : AHeap) (cs : List Value) (x : Int × Int × Int × Int) : Prop := cs = enc37 x
theorem E37_mono {h h' : AHeap} (le : h.sub h') (cs : List Value) (x : Int × Int × Int × Int) (H : E37 h cs x) : E37 h' cs x := H
def W37 (x : Int × Int × Int × Int) : Prop := (Lit.int .i64 x.1).wf = true ∧ (Lit.int .i64 x.2.1).wf = true ∧ (Lit.int .i64 x.2.2.1).wf = true ∧ (Lit.int .i64 x.2.2.2).wf = true ∧ True
set_option maxRecDepth 100000 in
theorem E37_wt {h : AHeap} {n : Nat} {cs : List Value} (H : WT Try.prog h n 37 cs) : ∃ x, E37 h cs x ∧ W37 x := by
  have k : SQ Try.prog h [.int .i64, .int .i64, .int .i64, .int .i64] cs := wt_flatS 2 n (by kernel_rfl) H
  obtain ⟨x0, r0, rfl, w0, k0⟩ := sq_int k
  obtain ⟨x1, r1, rfl, w1, k1⟩ := sq_int k0
  obtain ⟨x2, r2, rfl, w2, k2⟩ := sq_int k1
  obtain ⟨x3, r3, rfl, w3, k3⟩ := sq_int k2
  obtain rfl := sq_nil k3
  exact ⟨(x0, x1, x2, x3), rfl, ⟨w0, w1, w2, w3, trivial⟩⟩
def enc79 (x : Int × Int × Int × Int) : List Value := [.int .i64 x.1, .int .i64 x.2.1, .int .i64 x.2.2.1, .int .i64 x.2.2.2]
def E79 (h : AHeap) (cs : List Value) (x : Int × Int × Int × Int) : Prop := cs = enc79 x
theorem E79_mono {h h' : AHeap} (le : h.sub h') (cs : List Value) (x : Int × Int × Int × Int) (H : E79 h cs x) : E79 h' cs x := H
def W79 (x : Int × Int × Int × Int) : Prop := (Lit.int .i64 x.1).wf = true ∧ (Lit.int .i64 x.2.1).wf = true ∧ (Lit.int .i64 x.2.2.1).wf = true ∧ (Lit.int .i64 x.2.2.2).wf = true ∧ True
set_option maxRecDepth 100000 in
theorem E79_wt {h : AHeap} {n : Nat} {cs : List Value} (H : WT Try.prog h n 79 cs) : ∃ x, E79 h cs x ∧ W79 x := by
  have k : SQ Try.prog h [.int .i64, .int .i64, .int .i64, .int .i64] cs := wt_flatS 2 n (by kernel_rfl) H
  obtain ⟨x0, r0, rfl, w0, k0⟩ := sq_int k
  obtain ⟨x1, r1, rfl, w1, k1⟩ := sq_int k0
  obtain ⟨x2, r2, rfl, w2, k2⟩ := sq_int k1
  obtain ⟨x3, r3, rfl, w3, k3⟩ := sq_int k2
  obtain rfl := sq_nil k3
  exact ⟨(x0, x1, x2, x3), rfl, ⟨w0, w1, w2, w3, trivial⟩⟩
def enc77 (x : Int × Int) : List Value := [.int .i64 x.1, .int .i64 x.2]
def E77 (h : AHeap) (cs : List Value) (x : Int × Int) : Prop := cs = enc77 x
theorem E77_mono {h h' : AHeap} (le : h.sub h') (cs : List Value) (x : Int × Int) (H : E77 h cs x) : E77 h' cs x := H
def W77 (x : Int × Int) : Prop := (Lit.int .i64 x.1).wf = true ∧ (Lit.int .i64 x.2).wf = true ∧ True
set_option maxRecDepth 100000 in
theorem E77_wt {h : AHeap} {n : Nat} {cs : List Value} (H : WT Try.prog h n 77 cs) : ∃ x, E77 h cs x ∧ W77 x := by
  have k : SQ Try.prog h [.int .i64, .int .i64] cs := wt_flatS 2 n (by kernel_rfl) H
  obtain ⟨x0, r0, rfl, w0, k0⟩ := sq_int k
  obtain ⟨x1, r1, rfl, w1, k1⟩ := sq_int k0
  obtain rfl := sq_nil k1
  exact ⟨(x0, x1), rfl, ⟨w0, w1, trivial⟩⟩
/-! 38 jacquard/jacquardref28.Small -/
def F38_L : List Nat := [3]
def F38_D : List (Nat × List (Nat × Nat)) := []
def F38_m1_2 : List Bool := [true, false, false, false, true, true, true, true, true, true, true, true, true, true, true, true, true, true, true, true, true, true, true, true, true, true, true, true, true, true, true, true, true, true, true, true, true, true, true, true, true, true, true, true, true, true, true, true, true, true, true, true, true, true, true, true, true, true, true, true, true, true, true, true, true, true, true, true]
def F38_m1_1 : List Bool := [true, false, false, false, true, true, true, true, true, true, true, false, false, true, true, true, true, true, true, true, true, true, true, true, true, true, true, true, true, true, true, true, true, true, true, true, true, true, true, true, true, true, true, true, true, true, true, true, true, true, true, true, true, true, true, true, true, true, true, true, true, true, true, true, true, true, true, true]
def F38_m1_0 : List Bool := [true, true, true, true, true, true, false, true, true, true, true, true, true, true, true, true, true, true, true, true, true, true, true, true, true, true, true, true, true, true, true, true, true, true, true, true, true, true, true, true, true, true, true, true, true, true, true, true, true, true, true, true, true, true, true, true, true, true, true, true, true, true, true, true, true, true, true, true]
def F38_s1 (l4 : List (Int × Int × Int × Int)) (a9 : Int) : Option (Int ⊕ Nat) :=
  (bif decide (a9 < (l4.length : Int)) then
   (Option.bind (at? l4 a9) fun y11 =>
   (bif decide (y11.2.2.1 > 60) then
    some (.inr 0)
   else
    (bif decide (y11.2.2.2 > 20) then
     some (.inr 0)
    else
     some (.inl (IntKind.i64.wrap (a9 + 1))))))
  else
   some (.inr 1))
def F38_h1 (h : AHeap) (x1 : Int) (x2 : Int) (x3 : Bool) (l4 : List (Int × Int × Int × Int)) (v4 : Hd) (v5 : Hd) (v6 : Hd) (x7 : Int) (x8 : Int)  (a9 : Int) : AS := ⟨[junk, .int .i64 x7, .int .i64 x8, .pointer (some ⟨3, 0, none⟩), junk, junk, junk, junk, junk, junk, junk, .int .i64 (l4.length : Int), .int .i64 a9, junk, junk, junk, junk, junk, junk, junk, junk, junk, junk, junk, junk, junk, junk, junk, junk, junk, junk, junk, junk, junk, junk, junk, junk, junk, junk, junk, junk, junk, junk, junk, junk, junk, junk, junk, junk, junk, junk, junk, junk, junk, junk, junk, junk, junk, junk, junk, junk, junk, junk, junk, junk, junk, junk, junk], [(3, [.int .i64 x1, .int .i64 x2, .bool x3, (sv v4), (sv v5), (sv v6)])], h⟩
theorem F38_d1 : drawsOk F38_D (codeOf Try.prog 38 [1, 0, 1, 0, 0]) = true := by kernel_rfl
def F38_x1_0 (h : AHeap) (x1 : Int) (x2 : Int) (x3 : Bool) (v4 : Hd) (v5 : Hd) (v6 : Hd) (x7 : Int) (x8 : Int)  (r : Nat) : AS := ⟨[junk, junk, junk, junk, junk, junk, .bool false, junk, junk, junk, junk, junk, junk, junk, junk, junk, junk, junk, junk, junk, junk, junk, junk, junk, junk, junk, junk, junk, junk, junk, junk, junk, junk, junk, junk, junk, junk, junk, junk, junk, junk, junk, junk, junk, junk, junk, junk, junk, junk, junk, junk, junk, junk, junk, junk, junk, junk, junk, junk, junk, junk, junk, junk, junk, junk, junk, junk, junk], [], h⟩
def F38_x1_1 (h : AHeap) (x1 : Int) (x2 : Int) (x3 : Bool) (v4 : Hd) (v5 : Hd) (v6 : Hd) (x7 : Int) (x8 : Int)  (r : Nat) : AS := ⟨[junk, .int .i64 x7, .int .i64 x8, .pointer (some ⟨3, 0, none⟩), junk, junk, junk, junk, junk, junk, junk, junk, junk, junk, junk, junk, junk, junk, junk, junk, junk, junk, junk, junk, junk, junk, junk, junk, junk, junk, junk, junk, junk, junk, junk, junk, junk, junk, junk, junk, junk, junk, junk, junk, junk, junk, junk, junk, junk, junk, junk, junk, junk, junk, junk, junk, junk, junk, junk, junk, junk, junk, junk, junk, junk, junk, junk, junk], [(3, [.int .i64 x1, .int .i64 x2, .bool x3, (sv v4), (sv v5), (sv v6)])], h⟩
def F38_x1 (h : AHeap) (x1 : Int) (x2 : Int) (x3 : Bool) (v4 : Hd) (v5 : Hd) (v6 : Hd) (x7 : Int) (x8 : Int) (r : Nat) : Exit × AS := (bif Nat.beq r 0 then (.ret, (F38_x1_0 h x1 x2 x3 v4 v5 v6 x7 x8 r)) else ((.exit 0), (F38_x1_1 h x1 x2 x3 v4 v5 v6 x7 x8 r)))
set_option maxRecDepth 100000 in
theorem F38_r1 (h : AHeap) (x1 : Int) (x2 : Int) (x3 : Bool) (l4 : List (Int × Int × Int × Int)) (v4 : Hd) (hv4 : SlE E37 4 h (sv v4) l4) (v5 : Hd) (v6 : Hd) (x7 : Int) (x8 : Int) (a9 : Int) (o : Int ⊕ Nat) : F38_s1 l4 a9 = some o → RdF Try.prog (codeOf Try.prog 38 [1, 0, 1, 0, 0]) (fun (s : Int) => (F38_h1 h x1 x2 x3 l4 v4 v5 v6 x7 x8 s)) (F38_x1 h x1 x2 x3 v4 v5 v6 x7 x8) (F38_h1 h x1 x2 x3 l4 v4 v5 v6 x7 x8 a9) o := by
  unfold F38_s1
  refine dec_bif (fun c10 => ?_) (fun c10 => ?_)
  · refine bind_opt fun y11 e11 => ?_
    obtain ⟨id11, off11, g11, cs11, ix11, at11, rfl⟩ := SlE.at hv4 e11
    refine dec_bif (fun c12 => ?_) (fun c12 => ?_)
    · intro hr
      obtain rfl := Option.some.inj hr
      show AWp Try.prog _ (Ends1 ((F38_x1 h x1 x2 x3 v4 v5 v6 x7 x8) (0 : Nat)).1 ((F38_x1 h x1 x2 x3 v4 v5 v6 x7 x8) (0 : Nat)).2) _
      exact pEnd_sound good (L := F38_L) (D := F38_D) (its := [.g, (.b true), .g, .g, .g, .g, .g, (.ix id11 off11 g11), .g, (.ld (.int .i64 y11.2.2.1)), .g, .g, .n, .n, .n, .n, .n, .n, .n, (.p true), (.b true), .g]) (ds := F38_m1_0) (ks := [3]) (e := ((F38_x1 h x1 x2 x3 v4 v5 v6 x7 x8) (0 : Nat)).1) (s2 := ((F38_x1 h x1 x2 x3 v4 v5 v6 x7 x8) (0 : Nat)).2) (hC := (And.intro l_t (And.intro c12 (And.intro (g_tf c12) (And.intro (g_tf c12) (And.intro (g_tf c12) (And.intro (g_tf c12) (And.intro (g_tf c12) (And.intro (g_tf c12) (And.intro (g_tf c12) (And.intro (At.one (P := Try.prog) (t := 3) (v := .int .i64 y11.2.2.1) at11 (by kernel_rfl) 2 rfl rfl) (And.intro ix11 (And.intro c10 trivial))))))))))))) (hd := F38_d1) (h := by kernel_rfl)
    · refine dec_bif (fun c13 => ?_) (fun c13 => ?_)
      · intro hr
        obtain rfl := Option.some.inj hr
        show AWp Try.prog _ (Ends1 ((F38_x1 h x1 x2 x3 v4 v5 v6 x7 x8) (0 : Nat)).1 ((F38_x1 h x1 x2 x3 v4 v5 v6 x7 x8) (0 : Nat)).2) _
        exact pEnd_sound good (L := F38_L) (D := F38_D) (its := [.g, (.b true), .g, .g, .g, .g, .g, (.ix id11 off11 g11), .g, (.ld (.int .i64 y11.2.2.1)), .g, .g, (.w .g), (.w .g), (.w .g), (.w (.ix id11 off11 g11)), (.w .g), (.w (.ld (.int .i64 y11.2.2.2))), (.w .g), (.p false), (.b true), .g]) (ds := F38_m1_0) (ks := [3]) (e := ((F38_x1 h x1 x2 x3 v4 v5 v6 x7 x8) (0 : Nat)).1) (s2 := ((F38_x1 h x1 x2 x3 v4 v5 v6 x7 x8) (0 : Nat)).2) (hC := (And.intro c13 (And.intro c12 (And.intro (g_ff c12) (And.intro (At.one (P := Try.prog) (t := 3) (v := .int .i64 y11.2.2.2) at11 (by kernel_rfl) 3 rfl rfl) (And.intro (g_ff c12) (And.intro (g_ff c12) (And.intro ix11 (And.intro (g_ff c12) (And.intro (g_ff c12) (And.intro (g_ff c12) (And.intro (g_ff c12) (And.intro (At.one (P := Try.prog) (t := 3) (v := .int .i64 y11.2.2.1) at11 (by kernel_rfl) 2 rfl rfl) (And.intro ix11 (And.intro c10 trivial))))))))))))))) (hd := F38_d1) (h := by kernel_rfl)
      · intro hr
        obtain rfl := Option.some.inj hr
        show AWp Try.prog _ (Ends1 .normal (F38_h1 h x1 x2 x3 l4 v4 v5 v6 x7 x8 (IntKind.i64.wrap (a9 + 1)))) _
        exact pEnd_sound good (L := F38_L) (D := F38_D) (its := [.g, (.b true), .g, .g, .g, .g, .g, (.ix id11 off11 g11), .g, (.ld (.int .i64 y11.2.2.1)), .g, .g, (.w .g), (.w .g), (.w .g), (.w (.ix id11 off11 g11)), (.w .g), (.w (.ld (.int .i64 y11.2.2.2))), (.w .g), (.p false), (.b false), .g, .g]) (ds := F38_m1_1) (ks := []) (e := .normal) (s2 := (F38_h1 h x1 x2 x3 l4 v4 v5 v6 x7 x8 (IntKind.i64.wrap (a9 + 1)))) (hC := (And.intro c13 (And.intro c12 (And.intro (g_ff c12) (And.intro (At.one (P := Try.prog) (t := 3) (v := .int .i64 y11.2.2.2) at11 (by kernel_rfl) 3 rfl rfl) (And.intro (g_ff c12) (And.intro (g_ff c12) (And.intro ix11 (And.intro (g_ff c12) (And.intro (g_ff c12) (And.intro (g_ff c12) (And.intro (g_ff c12) (And.intro (At.one (P := Try.prog) (t := 3) (v := .int .i64 y11.2.2.1) at11 (by kernel_rfl) 2 rfl rfl) (And.intro ix11 (And.intro c10 trivial))))))))))))))) (hd := F38_d1) (h := by kernel_rfl)
  · intro hr
    obtain rfl := Option.some.inj hr
    show AWp Try.prog _ (Ends1 ((F38_x1 h x1 x2 x3 v4 v5 v6 x7 x8) (1 : Nat)).1 ((F38_x1 h x1 x2 x3 v4 v5 v6 x7 x8) (1 : Nat)).2) _
    exact pEnd_sound good (L := F38_L) (D := F38_D) (its := [.g, (.b false)]) (ds := F38_m1_2) (ks := []) (e := ((F38_x1 h x1 x2 x3 v4 v5 v6 x7 x8) (1 : Nat)).1) (s2 := ((F38_x1 h x1 x2 x3 v4 v5 v6 x7 x8) (1 : Nat)).2) (hC := (And.intro c10 trivial)) (hd := F38_d1) (h := by kernel_rfl)
theorem F38_l1_0 (h : AHeap) (x1 : Int) (x2 : Int) (x3 : Bool) (l4 : List (Int × Int × Int × Int)) (v4 : Hd) (hv4 : SlE E37 4 h (sv v4) l4) (v5 : Hd) (v6 : Hd) (x7 : Int) (x8 : Int) (x : Int) (r : Nat) (hl : loopO (fun (s : Int) => F38_s1 l4 s) x = some r) (q0 : Nat.beq r 0 = true) : AWp Try.prog (.loop (codeOf Try.prog 38 [1, 0, 1, 0, 0])) (Ends1 .ret (F38_x1_0 h x1 x2 x3 v4 v5 v6 x7 x8 r)) ((fun (s : Int) => (F38_h1 h x1 x2 x3 l4 v4 v5 v6 x7 x8 s)) x) := by
  have k := loop_fun (P := Try.prog) (c := (codeOf Try.prog 38 [1, 0, 1, 0, 0])) (step := (fun (s : Int) => F38_s1 l4 s)) (hd := (fun (s : Int) => (F38_h1 h x1 x2 x3 l4 v4 v5 v6 x7 x8 s))) (X := (F38_x1 h x1 x2 x3 v4 v5 v6 x7 x8)) (by intro t; unfold F38_x1; cases Nat.beq t 0 <;> (intro h; cases h)) (fun x => F38_r1 h x1 x2 x3 l4 v4 hv4 v5 v6 x7 x8 x) hl
  simp only [F38_x1, q0, cond_true, cond_false] at k
  exact k
theorem F38_l1_1 (h : AHeap) (x1 : Int) (x2 : Int) (x3 : Bool) (l4 : List (Int × Int × Int × Int)) (v4 : Hd) (hv4 : SlE E37 4 h (sv v4) l4) (v5 : Hd) (v6 : Hd) (x7 : Int) (x8 : Int) (x : Int) (r : Nat) (hl : loopO (fun (s : Int) => F38_s1 l4 s) x = some r) (q0 : Nat.beq r 0 = false) : AWp Try.prog (.loop (codeOf Try.prog 38 [1, 0, 1, 0, 0])) (Ends1 (.exit 0) (F38_x1_1 h x1 x2 x3 v4 v5 v6 x7 x8 r)) ((fun (s : Int) => (F38_h1 h x1 x2 x3 l4 v4 v5 v6 x7 x8 s)) x) := by
  have k := loop_fun (P := Try.prog) (c := (codeOf Try.prog 38 [1, 0, 1, 0, 0])) (step := (fun (s : Int) => F38_s1 l4 s)) (hd := (fun (s : Int) => (F38_h1 h x1 x2 x3 l4 v4 v5 v6 x7 x8 s))) (X := (F38_x1 h x1 x2 x3 v4 v5 v6 x7 x8)) (by intro t; unfold F38_x1; cases Nat.beq t 0 <;> (intro h; cases h)) (fun x => F38_r1 h x1 x2 x3 l4 v4 hv4 v5 v6 x7 x8 x) hl
  simp only [F38_x1, q0, cond_true, cond_false] at k
  exact k
def F38_m2_2 : List Bool := [true, false, false, false, true, true, true, true, true, true, true, true, true, true, true, true, true, true, true, true, true, true, true, true, true, true, true, true, true, true, true, true, true, true, true, true, true, true, true, true, true, true, true, true, true, true, true, true, true, true, true, true, true, true, true, true, true, true, true, true, true, true, true, true, true, true, true, true]
def F38_m2_1 : List Bool := [true, false, false, false, true, true, true, true, true, true, true, true, true, true, true, true, true, true, true, true, true, true, true, true, true, true, true, true, true, true, true, true, true, true, false, false, true, true, true, true, true, true, true, true, true, true, true, true, true, true, true, true, true, true, true, true, true, true, true, true, true, true, true, true, true, true, true, true]
def F38_m2_0 : List Bool := [true, true, true, true, true, true, false, true, true, true, true, true, true, true, true, true, true, true, true, true, true, true, true, true, true, true, true, true, true, true, true, true, true, true, true, true, true, true, true, true, true, true, true, true, true, true, true, true, true, true, true, true, true, true, true, true, true, true, true, true, true, true, true, true, true, true, true, true]
def F38_s2 (l6 : List (Int × Int)) (a16 : Int) : Option (Int ⊕ Nat) :=
  (bif decide (a16 < (l6.length : Int)) then
   (Option.bind (at? l6 a16) fun y18 =>
   (bif decide (y18.2 > 20) then
    some (.inr 0)
   else
    some (.inl (IntKind.i64.wrap (a16 + 1)))))
  else
   some (.inr 1))
def F38_h2 (h : AHeap) (x1 : Int) (x2 : Int) (x3 : Bool) (v4 : Hd) (v5 : Hd) (l6 : List (Int × Int)) (v6 : Hd) (x7 : Int) (x8 : Int)  (a16 : Int) : AS := ⟨[junk, .int .i64 x7, .int .i64 x8, .pointer (some ⟨3, 0, none⟩), junk, junk, junk, junk, junk, junk, junk, junk, junk, junk, junk, junk, junk, junk, junk, junk, junk, junk, junk, junk, junk, junk, junk, junk, junk, junk, junk, junk, junk, junk, .int .i64 (l6.length : Int), .int .i64 a16, junk, junk, junk, junk, junk, junk, junk, junk, junk, junk, junk, junk, junk, junk, junk, junk, junk, junk, junk, junk, junk, junk, junk, junk, junk, junk, junk, junk, junk, junk, junk, junk], [(3, [.int .i64 x1, .int .i64 x2, .bool x3, (sv v4), (sv v5), (sv v6)])], h⟩
theorem F38_d2 : drawsOk F38_D (codeOf Try.prog 38 [1, 1, 0, 1, 0, 0]) = true := by kernel_rfl
def F38_x2_0 (h : AHeap) (x1 : Int) (x2 : Int) (x3 : Bool) (v4 : Hd) (v5 : Hd) (v6 : Hd) (x7 : Int) (x8 : Int)  (r : Nat) : AS := ⟨[junk, junk, junk, junk, junk, junk, .bool false, junk, junk, junk, junk, junk, junk, junk, junk, junk, junk, junk, junk, junk, junk, junk, junk, junk, junk, junk, junk, junk, junk, junk, junk, junk, junk, junk, junk, junk, junk, junk, junk, junk, junk, junk, junk, junk, junk, junk, junk, junk, junk, junk, junk, junk, junk, junk, junk, junk, junk, junk, junk, junk, junk, junk, junk, junk, junk, junk, junk, junk], [], h⟩
def F38_x2_1 (h : AHeap) (x1 : Int) (x2 : Int) (x3 : Bool) (v4 : Hd) (v5 : Hd) (v6 : Hd) (x7 : Int) (x8 : Int)  (r : Nat) : AS := ⟨[junk, .int .i64 x7, .int .i64 x8, .pointer (some ⟨3, 0, none⟩), junk, junk, junk, junk, junk, junk, junk, junk, junk, junk, junk, junk, junk, junk, junk, junk, junk, junk, junk, junk, junk, junk, junk, junk, junk, junk, junk, junk, junk, junk, junk, junk, junk, junk, junk, junk, junk, junk, junk, junk, junk, junk, junk, junk, junk, junk, junk, junk, junk, junk, junk, junk, junk, junk, junk, junk, junk, junk, junk, junk, junk, junk, junk, junk], [(3, [.int .i64 x1, .int .i64 x2, .bool x3, (sv v4), (sv v5), (sv v6)])], h⟩
def F38_x2 (h : AHeap) (x1 : Int) (x2 : Int) (x3 : Bool) (v4 : Hd) (v5 : Hd) (v6 : Hd) (x7 : Int) (x8 : Int) (r : Nat) : Exit × AS := (bif Nat.beq r 0 then (.ret, (F38_x2_0 h x1 x2 x3 v4 v5 v6 x7 x8 r)) else ((.exit 2), (F38_x2_1 h x1 x2 x3 v4 v5 v6 x7 x8 r)))
set_option maxRecDepth 100000 in
theorem F38_r2 (h : AHeap) (x1 : Int) (x2 : Int) (x3 : Bool) (v4 : Hd) (v5 : Hd) (l6 : List (Int × Int)) (v6 : Hd) (hv6 : SlE E77 2 h (sv v6) l6) (x7 : Int) (x8 : Int) (a16 : Int) (o : Int ⊕ Nat) : F38_s2 l6 a16 = some o → RdF Try.prog (codeOf Try.prog 38 [1, 1, 0, 1, 0, 0]) (fun (s : Int) => (F38_h2 h x1 x2 x3 v4 v5 l6 v6 x7 x8 s)) (F38_x2 h x1 x2 x3 v4 v5 v6 x7 x8) (F38_h2 h x1 x2 x3 v4 v5 l6 v6 x7 x8 a16) o := by
  unfold F38_s2
  refine dec_bif (fun c17 => ?_) (fun c17 => ?_)
  · refine bind_opt fun y18 e18 => ?_
    obtain ⟨id18, off18, g18, cs18, ix18, at18, rfl⟩ := SlE.at hv6 e18
    refine dec_bif (fun c19 => ?_) (fun c19 => ?_)
    · intro hr
      obtain rfl := Option.some.inj hr
      show AWp Try.prog _ (Ends1 ((F38_x2 h x1 x2 x3 v4 v5 v6 x7 x8) (0 : Nat)).1 ((F38_x2 h x1 x2 x3 v4 v5 v6 x7 x8) (0 : Nat)).2) _
      exact pEnd_sound good (L := F38_L) (D := F38_D) (its := [.g, (.b true), .g, .g, .g, .g, .g, (.ix id18 off18 g18), .g, (.ld (.int .i64 y18.2)), .g, (.b true), .g]) (ds := F38_m2_0) (ks := [3]) (e := ((F38_x2 h x1 x2 x3 v4 v5 v6 x7 x8) (0 : Nat)).1) (s2 := ((F38_x2 h x1 x2 x3 v4 v5 v6 x7 x8) (0 : Nat)).2) (hC := (And.intro c19 (And.intro (At.one (P := Try.prog) (t := 3) (v := .int .i64 y18.2) at18 (by kernel_rfl) 1 rfl rfl) (And.intro ix18 (And.intro c17 trivial))))) (hd := F38_d2) (h := by kernel_rfl)
    · intro hr
      obtain rfl := Option.some.inj hr
      show AWp Try.prog _ (Ends1 .normal (F38_h2 h x1 x2 x3 v4 v5 l6 v6 x7 x8 (IntKind.i64.wrap (a16 + 1)))) _
      exact pEnd_sound good (L := F38_L) (D := F38_D) (its := [.g, (.b true), .g, .g, .g, .g, .g, (.ix id18 off18 g18), .g, (.ld (.int .i64 y18.2)), .g, (.b false), .g, .g]) (ds := F38_m2_1) (ks := []) (e := .normal) (s2 := (F38_h2 h x1 x2 x3 v4 v5 l6 v6 x7 x8 (IntKind.i64.wrap (a16 + 1)))) (hC := (And.intro c19 (And.intro (At.one (P := Try.prog) (t := 3) (v := .int .i64 y18.2) at18 (by kernel_rfl) 1 rfl rfl) (And.intro ix18 (And.intro c17 trivial))))) (hd := F38_d2) (h := by kernel_rfl)
  · intro hr
    obtain rfl := Option.some.inj hr
    show AWp Try.prog _ (Ends1 ((F38_x2 h x1 x2 x3 v4 v5 v6 x7 x8) (1 : Nat)).1 ((F38_x2 h x1 x2 x3 v4 v5 v6 x7 x8) (1 : Nat)).2) _
    exact pEnd_sound good (L := F38_L) (D := F38_D) (its := [.g, (.b false)]) (ds := F38_m2_2) (ks := []) (e := ((F38_x2 h x1 x2 x3 v4 v5 v6 x7 x8) (1 : Nat)).1) (s2 := ((F38_x2 h x1 x2 x3 v4 v5 v6 x7 x8) (1 : Nat)).2) (hC := (And.intro c17 trivial)) (hd := F38_d2) (h := by kernel_rfl)
theorem F38_l2_0 (h : AHeap) (x1 : Int) (x2 : Int) (x3 : Bool) (v4 : Hd) (v5 : Hd) (l6 : List (Int × Int)) (v6 : Hd) (hv6 : SlE E77 2 h (sv v6) l6) (x7 : Int) (x8 : Int) (x : Int) (r : Nat) (hl : loopO (fun (s : Int) => F38_s2 l6 s) x = some r) (q0 : Nat.beq r 0 = true) : AWp Try.prog (.loop (codeOf Try.prog 38 [1, 1, 0, 1, 0, 0])) (Ends1 .ret (F38_x2_0 h x1 x2 x3 v4 v5 v6 x7 x8 r)) ((fun (s : Int) => (F38_h2 h x1 x2 x3 v4 v5 l6 v6 x7 x8 s)) x) := by
  have k := loop_fun (P := Try.prog) (c := (codeOf Try.prog 38 [1, 1, 0, 1, 0, 0])) (step := (fun (s : Int) => F38_s2 l6 s)) (hd := (fun (s : Int) => (F38_h2 h x1 x2 x3 v4 v5 l6 v6 x7 x8 s))) (X := (F38_x2 h x1 x2 x3 v4 v5 v6 x7 x8)) (by intro t; unfold F38_x2; cases Nat.beq t 0 <;> (intro h; cases h)) (fun x => F38_r2 h x1 x2 x3 v4 v5 l6 v6 hv6 x7 x8 x) hl
  simp only [F38_x2, q0, cond_true, cond_false] at k
  exact k
theorem F38_l2_1 (h : AHeap) (x1 : Int) (x2 : Int) (x3 : Bool) (v4 : Hd) (v5 : Hd) (l6 : List (Int × Int)) (v6 : Hd) (hv6 : SlE E77 2 h (sv v6) l6) (x7 : Int) (x8 : Int) (x : Int) (r : Nat) (hl : loopO (fun (s : Int) => F38_s2 l6 s) x = some r) (q0 : Nat.beq r 0 = false) : AWp Try.prog (.loop (codeOf Try.prog 38 [1, 1, 0, 1, 0, 0])) (Ends1 (.exit 2) (F38_x2_1 h x1 x2 x3 v4 v5 v6 x7 x8 r)) ((fun (s : Int) => (F38_h2 h x1 x2 x3 v4 v5 l6 v6 x7 x8 s)) x) := by
  have k := loop_fun (P := Try.prog) (c := (codeOf Try.prog 38 [1, 1, 0, 1, 0, 0])) (step := (fun (s : Int) => F38_s2 l6 s)) (hd := (fun (s : Int) => (F38_h2 h x1 x2 x3 v4 v5 l6 v6 x7 x8 s))) (X := (F38_x2 h x1 x2 x3 v4 v5 v6 x7 x8)) (by intro t; unfold F38_x2; cases Nat.beq t 0 <;> (intro h; cases h)) (fun x => F38_r2 h x1 x2 x3 v4 v5 l6 v6 hv6 x7 x8 x) hl
  simp only [F38_x2, q0, cond_true, cond_false] at k
  exact k
def F38 (x1 : Int) (x2 : Int) (x3 : Bool) (l4 : List (Int × Int × Int × Int)) (l5 : List (Int × Int × Int × Int)) (l6 : List (Int × Int)) (x7 : Int) (x8 : Int) : Option (Bool) :=
  (Option.bind (loopO (fun (s : Int) => F38_s1 l4 s) 0) fun y14 =>
  (bif (Nat.beq y14 0) then
   some (false)
  else
   (Option.bind (loopO (fun (s : Int) => F38_s2 l6 s) 0) fun y20 =>
   (bif (Nat.beq y20 0) then
    some (false)
   else
    (bif decide (x1 ≤ x7) then
     (bif decide (x2 ≤ x8) then
      (bif decide ((l4.length : Int) ≤ 90) then
       some (decide ((l5.length : Int) ≤ 6))
      else
       some (false))
     else
      some (false))
    else
     some (false))))))
set_option maxRecDepth 100000 in
theorem F38_spec (x1 : Int) (x2 : Int) (x3 : Bool) (l4 : List (Int × Int × Int × Int)) (l5 : List (Int × Int × Int × Int)) (l6 : List (Int × Int)) (x7 : Int) (x8 : Int) (v4 : Hd) (v5 : Hd) (v6 : Hd) (h : AHeap) (hv4 : SlE E37 4 h (sv v4) l4) (hv5 : SlE E79 4 h (sv v5) l5) (hv6 : SlE E77 2 h (sv v6) l6) (r : Bool) : F38 x1 x2 x3 l4 l5 l6 x7 x8 = some r → ACalls Try.prog 38 [.agg #[.int .i64 x1, .int .i64 x2, .bool x3, (sv v4), (sv v5), (sv v6)], .int .i64 x7, .int .i64 x8] h (fun v' h'' => v' = (.bool r : Value) ∧ h'' = h) := by
  unfold F38
  refine bind_opt fun y14 e14 => ?_
  refine dec_bif (fun c15 => ?_) (fun c15 => ?_)
  · intro hr
    obtain rfl := Option.some.inj hr
    exact pFun_sound good tab_ok (f := 38) (its := [.g, .g, .g, .g, (.ln l4.length), .g, (.l F38_m1_1 [] .ret (F38_x1_0 h x1 x2 x3 v4 v5 v6 x7 x8 y14))]) (args := [.agg #[.int .i64 x1, .int .i64 x2, .bool x3, (sv v4), (sv v5), (sv v6)], .int .i64 x7, .int .i64 x8]) (h := h) (h' := h) (v := .bool false) (hC := (And.intro (F38_l1_0 h x1 x2 x3 l4 v4 hv4 v5 v6 x7 x8 0 y14 e14 c15) (And.intro (SlE.len hv4) trivial))) (hr := by kernel_rfl)
  · refine bind_opt fun y20 e20 => ?_
    refine dec_bif (fun c21 => ?_) (fun c21 => ?_)
    · intro hr
      obtain rfl := Option.some.inj hr
      exact pFun_sound good tab_ok (f := 38) (its := [.g, .g, .g, .g, (.ln l4.length), .g, (.l F38_m1_1 [] (.exit 0) (F38_x1_1 h x1 x2 x3 v4 v5 v6 x7 x8 y14)), .g, .g, (.ln l6.length), .g, (.l F38_m2_1 [] .ret (F38_x2_0 h x1 x2 x3 v4 v5 v6 x7 x8 y20))]) (args := [.agg #[.int .i64 x1, .int .i64 x2, .bool x3, (sv v4), (sv v5), (sv v6)], .int .i64 x7, .int .i64 x8]) (h := h) (h' := h) (v := .bool false) (hC := (And.intro (F38_l2_0 h x1 x2 x3 v4 v5 l6 v6 hv6 x7 x8 0 y20 e20 c21) (And.intro (SlE.len hv6) (And.intro (F38_l1_1 h x1 x2 x3 l4 v4 hv4 v5 v6 x7 x8 0 y14 e14 c15) (And.intro (SlE.len hv4) trivial))))) (hr := by kernel_rfl)
    · refine dec_bif (fun c22 => ?_) (fun c22 => ?_)
      · refine dec_bif (fun c23 => ?_) (fun c23 => ?_)
        · refine dec_bif (fun c24 => ?_) (fun c24 => ?_)
          · intro hr
            obtain rfl := Option.some.inj hr
            exact pFun_sound good tab_ok (f := 38) (its := [.g, .g, .g, .g, (.ln l4.length), .g, (.l F38_m1_1 [] (.exit 0) (F38_x1_1 h x1 x2 x3 v4 v5 v6 x7 x8 y14)), .g, .g, (.ln l6.length), .g, (.l F38_m2_1 [] (.exit 2) (F38_x2_1 h x1 x2 x3 v4 v5 v6 x7 x8 y20)), .g, .g, .g, .g, .g, (.w .g), (.w .g), (.w .g), (.w .g), (.p true), .g, (.w .g), (.w .g), (.w (.ln l4.length)), (.w .g), (.p true), .g, (.w .g), (.w .g), (.w (.ln l5.length)), (.w .g), (.p true), .g]) (args := [.agg #[.int .i64 x1, .int .i64 x2, .bool x3, (sv v4), (sv v5), (sv v6)], .int .i64 x7, .int .i64 x8]) (h := h) (h' := h) (v := .bool (decide ((l5.length : Int) ≤ 6))) (hC := (And.intro c24 (And.intro (g_tt c24) (And.intro (SlE.len hv5) (And.intro (g_tt c24) (And.intro (g_tt c24) (And.intro (g_tt c24) (And.intro c23 (And.intro (g_tt c23) (And.intro (SlE.len hv4) (And.intro (g_tt c23) (And.intro (g_tt c23) (And.intro (g_tt c23) (And.intro c22 (And.intro (g_tt c22) (And.intro (g_tt c22) (And.intro (g_tt c22) (And.intro (g_tt c22) (And.intro (F38_l2_1 h x1 x2 x3 v4 v5 l6 v6 hv6 x7 x8 0 y20 e20 c21) (And.intro (SlE.len hv6) (And.intro (F38_l1_1 h x1 x2 x3 l4 v4 hv4 v5 v6 x7 x8 0 y14 e14 c15) (And.intro (SlE.len hv4) trivial)))))))))))))))))))))) (hr := by kernel_rfl)
          · intro hr
            obtain rfl := Option.some.inj hr
            exact pFun_sound good tab_ok (f := 38) (its := [.g, .g, .g, .g, (.ln l4.length), .g, (.l F38_m1_1 [] (.exit 0) (F38_x1_1 h x1 x2 x3 v4 v5 v6 x7 x8 y14)), .g, .g, (.ln l6.length), .g, (.l F38_m2_1 [] (.exit 2) (F38_x2_1 h x1 x2 x3 v4 v5 v6 x7 x8 y20)), .g, .g, .g, .g, .g, (.w .g), (.w .g), (.w .g), (.w .g), (.p true), .g, (.w .g), (.w .g), (.w (.ln l4.length)), (.w .g), (.p true), .g, .n, .n, .n, .n, (.p false), .g]) (args := [.agg #[.int .i64 x1, .int .i64 x2, .bool x3, (sv v4), (sv v5), (sv v6)], .int .i64 x7, .int .i64 x8]) (h := h) (h' := h) (v := .bool false) (hC := (And.intro c24 (And.intro (g_ft c24) (And.intro (g_ft c24) (And.intro (g_ft c24) (And.intro (g_ft c24) (And.intro c23 (And.intro (g_tt c23) (And.intro (SlE.len hv4) (And.intro (g_tt c23) (And.intro (g_tt c23) (And.intro (g_tt c23) (And.intro c22 (And.intro (g_tt c22) (And.intro (g_tt c22) (And.intro (g_tt c22) (And.intro (g_tt c22) (And.intro (F38_l2_1 h x1 x2 x3 v4 v5 l6 v6 hv6 x7 x8 0 y20 e20 c21) (And.intro (SlE.len hv6) (And.intro (F38_l1_1 h x1 x2 x3 l4 v4 hv4 v5 v6 x7 x8 0 y14 e14 c15) (And.intro (SlE.len hv4) trivial))))))))))))))))))))) (hr := by kernel_rfl)
        · intro hr
          obtain rfl := Option.some.inj hr
          exact pFun_sound good tab_ok (f := 38) (its := [.g, .g, .g, .g, (.ln l4.length), .g, (.l F38_m1_1 [] (.exit 0) (F38_x1_1 h x1 x2 x3 v4 v5 v6 x7 x8 y14)), .g, .g, (.ln l6.length), .g, (.l F38_m2_1 [] (.exit 2) (F38_x2_1 h x1 x2 x3 v4 v5 v6 x7 x8 y20)), .g, .g, .g, .g, .g, (.w .g), (.w .g), (.w .g), (.w .g), (.p true), .g, .n, .n, .n, .n, (.p false), .g, .n, .n, .n, .n, .g, .g]) (args := [.agg #[.int .i64 x1, .int .i64 x2, .bool x3, (sv v4), (sv v5), (sv v6)], .int .i64 x7, .int .i64 x8]) (h := h) (h' := h) (v := .bool false) (hC := (And.intro (g_ft l_f) (And.intro (g_ft l_f) (And.intro (g_ft l_f) (And.intro (g_ft l_f) (And.intro c23 (And.intro (g_ft c23) (And.intro (g_ft c23) (And.intro (g_ft c23) (And.intro (g_ft c23) (And.intro c22 (And.intro (g_tt c22) (And.intro (g_tt c22) (And.intro (g_tt c22) (And.intro (g_tt c22) (And.intro (F38_l2_1 h x1 x2 x3 v4 v5 l6 v6 hv6 x7 x8 0 y20 e20 c21) (And.intro (SlE.len hv6) (And.intro (F38_l1_1 h x1 x2 x3 l4 v4 hv4 v5 v6 x7 x8 0 y14 e14 c15) (And.intro (SlE.len hv4) trivial))))))))))))))))))) (hr := by kernel_rfl)
      · intro hr
        obtain rfl := Option.some.inj hr
        exact pFun_sound good tab_ok (f := 38) (its := [.g, .g, .g, .g, (.ln l4.length), .g, (.l F38_m1_1 [] (.exit 0) (F38_x1_1 h x1 x2 x3 v4 v5 v6 x7 x8 y14)), .g, .g, (.ln l6.length), .g, (.l F38_m2_1 [] (.exit 2) (F38_x2_1 h x1 x2 x3 v4 v5 v6 x7 x8 y20)), .g, .g, .g, .g, .g, .n, .n, .n, .n, (.p false), .g, .n, .n, .n, .n, .g, .g, .n, .n, .n, .n, .g, .g]) (args := [.agg #[.int .i64 x1, .int .i64 x2, .bool x3, (sv v4), (sv v5), (sv v6)], .int .i64 x7, .int .i64 x8]) (h := h) (h' := h) (v := .bool false) (hC := (And.intro (g_ft l_f) (And.intro (g_ft l_f) (And.intro (g_ft l_f) (And.intro (g_ft l_f) (And.intro (g_ft l_f) (And.intro (g_ft l_f) (And.intro (g_ft l_f) (And.intro (g_ft l_f) (And.intro c22 (And.intro (g_ft c22) (And.intro (g_ft c22) (And.intro (g_ft c22) (And.intro (g_ft c22) (And.intro (F38_l2_1 h x1 x2 x3 v4 v5 l6 v6 hv6 x7 x8 0 y20 e20 c21) (And.intro (SlE.len hv6) (And.intro (F38_l1_1 h x1 x2 x3 l4 v4 hv4 v5 v6 x7 x8 0 y14 e14 c15) (And.intro (SlE.len hv4) trivial)))))))))))))))))) (hr := by kernel_rfl)
def enc3 (x : Int) : List Value := [.int .i64 x]
def E3 (h : AHeap) (cs : List Value) (x : Int) : Prop := cs = enc3 x
theorem E3_mono {h h' : AHeap} (le : h.sub h') (cs : List Value) (x : Int) (H : E3 h cs x) : E3 h' cs x := H
def W3 (x : Int) : Prop := (Lit.int .i64 x).wf = true ∧ True
set_option maxRecDepth 100000 in
theorem E3_wt {h : AHeap} {n : Nat} {cs : List Value} (H : WT Try.prog h n 3 cs) : ∃ x, E3 h cs x ∧ W3 x := by
  have k : SQ Try.prog h [.int .i64] cs := wt_flatS 1 n (by kernel_rfl) H
  obtain ⟨x0, r0, rfl, w0, k0⟩ := sq_int k
  obtain rfl := sq_nil k0
  exact ⟨x0, rfl, ⟨w0, trivial⟩⟩
/-! 10 jacquard/jacquardlaw35.few -/
def F10 (x1 : Int) (x2 : Int) (x3 : Bool) (l4 : List (Int × Int × Int × Int)) (l5 : List (Int × Int × Int × Int)) (l6 : List (Int × Int)) (x7 : Int) (x8 : Int) (l9 : List Int) (l10 : List Int) (l11 : List Int) : Option (Bool) :=
  (Option.bind (F38 x1 x2 x3 l4 l5 l6 20 8) fun y12 =>
  (bif y12 then
   (bif decide ((l9.length : Int) ≤ 30) then
    (bif decide ((l11.length : Int) ≤ 30) then
     (bif decide ((l10.length : Int) ≤ 30) then
      some (decide ((l6.length : Int) ≤ 30))
     else
      some (false))
    else
     some (false))
   else
    some (false))
  else
   some (false)))
set_option maxRecDepth 100000 in
theorem F10_spec (x1 : Int) (x2 : Int) (x3 : Bool) (l4 : List (Int × Int × Int × Int)) (l5 : List (Int × Int × Int × Int)) (l6 : List (Int × Int)) (x7 : Int) (x8 : Int) (l9 : List Int) (l10 : List Int) (l11 : List Int) (v4 : Hd) (v5 : Hd) (v6 : Hd) (v9 : Hd) (v10 : Hd) (v11 : Hd) (h : AHeap) (hv4 : SlE E37 4 h (sv v4) l4) (hv5 : SlE E79 4 h (sv v5) l5) (hv6 : SlE E77 2 h (sv v6) l6) (hv9 : SlE E3 1 h (sv v9) l9) (hv10 : SlE E3 1 h (sv v10) l10) (hv11 : SlE E3 1 h (sv v11) l11) (r : Bool) : F10 x1 x2 x3 l4 l5 l6 x7 x8 l9 l10 l11 = some r → ACalls Try.prog 10 [.agg #[.int .i64 x1, .int .i64 x2, .bool x3, (sv v4), (sv v5), (sv v6)], .agg #[.int .i64 x7, .int .i64 x8, (sv v9), (sv v10), (sv v11)]] h (fun v' h'' => v' = (.bool r : Value) ∧ h'' = h) := by
  unfold F10
  refine bind_opt fun y12 e12 => ?_
  refine dec_bif (fun c14 => ?_) (fun c14 => ?_)
  · refine dec_bif (fun c15 => ?_) (fun c15 => ?_)
    · refine dec_bif (fun c16 => ?_) (fun c16 => ?_)
      · refine dec_bif (fun c17 => ?_) (fun c17 => ?_)
        · intro hr
          obtain rfl := Option.some.inj hr
          exact pFun_sound good tab_ok (f := 10) (its := [.g, .g, .g, .g, (.c (.bool y12) h), .g, (.w .g), (.w .g), (.w (.ln l9.length)), (.w .g), (.p true), .g, (.w .g), (.w .g), (.w (.ln l11.length)), (.w .g), (.p true), .g, (.w .g), (.w .g), (.w (.ln l10.length)), (.w .g), (.p true), .g, (.w .g), (.w .g), (.w (.ln l6.length)), (.w .g), (.p true), .g]) (args := [.agg #[.int .i64 x1, .int .i64 x2, .bool x3, (sv v4), (sv v5), (sv v6)], .agg #[.int .i64 x7, .int .i64 x8, (sv v9), (sv v10), (sv v11)]]) (h := h) (h' := h) (v := .bool (decide ((l6.length : Int) ≤ 30))) (hC := (And.intro c17 (And.intro (g_tt c17) (And.intro (SlE.len hv6) (And.intro (g_tt c17) (And.intro (g_tt c17) (And.intro (g_tt c17) (And.intro c16 (And.intro (g_tt c16) (And.intro (SlE.len hv10) (And.intro (g_tt c16) (And.intro (g_tt c16) (And.intro (g_tt c16) (And.intro c15 (And.intro (g_tt c15) (And.intro (SlE.len hv11) (And.intro (g_tt c15) (And.intro (g_tt c15) (And.intro (g_tt c15) (And.intro c14 (And.intro (g_tt c14) (And.intro (SlE.len hv9) (And.intro (g_tt c14) (And.intro (g_tt c14) (And.intro (g_tt c14) (And.intro (F38_spec x1 x2 x3 l4 l5 l6 20 8 v4 v5 v6 h hv4 hv5 hv6 _ e12) trivial)))))))))))))))))))))))))) (hr := by kernel_rfl)
        · intro hr
          obtain rfl := Option.some.inj hr
          exact pFun_sound good tab_ok (f := 10) (its := [.g, .g, .g, .g, (.c (.bool y12) h), .g, (.w .g), (.w .g), (.w (.ln l9.length)), (.w .g), (.p true), .g, (.w .g), (.w .g), (.w (.ln l11.length)), (.w .g), (.p true), .g, (.w .g), (.w .g), (.w (.ln l10.length)), (.w .g), (.p true), .g, .n, .n, .n, .n, (.p false), .g]) (args := [.agg #[.int .i64 x1, .int .i64 x2, .bool x3, (sv v4), (sv v5), (sv v6)], .agg #[.int .i64 x7, .int .i64 x8, (sv v9), (sv v10), (sv v11)]]) (h := h) (h' := h) (v := .bool false) (hC := (And.intro c17 (And.intro (g_ft c17) (And.intro (g_ft c17) (And.intro (g_ft c17) (And.intro (g_ft c17) (And.intro c16 (And.intro (g_tt c16) (And.intro (SlE.len hv10) (And.intro (g_tt c16) (And.intro (g_tt c16) (And.intro (g_tt c16) (And.intro c15 (And.intro (g_tt c15) (And.intro (SlE.len hv11) (And.intro (g_tt c15) (And.intro (g_tt c15) (And.intro (g_tt c15) (And.intro c14 (And.intro (g_tt c14) (And.intro (SlE.len hv9) (And.intro (g_tt c14) (And.intro (g_tt c14) (And.intro (g_tt c14) (And.intro (F38_spec x1 x2 x3 l4 l5 l6 20 8 v4 v5 v6 h hv4 hv5 hv6 _ e12) trivial))))))))))))))))))))))))) (hr := by kernel_rfl)
      · intro hr
        obtain rfl := Option.some.inj hr
        exact pFun_sound good tab_ok (f := 10) (its := [.g, .g, .g, .g, (.c (.bool y12) h), .g, (.w .g), (.w .g), (.w (.ln l9.length)), (.w .g), (.p true), .g, (.w .g), (.w .g), (.w (.ln l11.length)), (.w .g), (.p true), .g, .n, .n, .n, .n, (.p false), .g, .n, .n, .n, .n, .g, .g]) (args := [.agg #[.int .i64 x1, .int .i64 x2, .bool x3, (sv v4), (sv v5), (sv v6)], .agg #[.int .i64 x7, .int .i64 x8, (sv v9), (sv v10), (sv v11)]]) (h := h) (h' := h) (v := .bool false) (hC := (And.intro (g_ft l_f) (And.intro (g_ft l_f) (And.intro (g_ft l_f) (And.intro (g_ft l_f) (And.intro c16 (And.intro (g_ft c16) (And.intro (g_ft c16) (And.intro (g_ft c16) (And.intro (g_ft c16) (And.intro c15 (And.intro (g_tt c15) (And.intro (SlE.len hv11) (And.intro (g_tt c15) (And.intro (g_tt c15) (And.intro (g_tt c15) (And.intro c14 (And.intro (g_tt c14) (And.intro (SlE.len hv9) (And.intro (g_tt c14) (And.intro (g_tt c14) (And.intro (g_tt c14) (And.intro (F38_spec x1 x2 x3 l4 l5 l6 20 8 v4 v5 v6 h hv4 hv5 hv6 _ e12) trivial))))))))))))))))))))))) (hr := by kernel_rfl)
    · intro hr
      obtain rfl := Option.some.inj hr
      exact pFun_sound good tab_ok (f := 10) (its := [.g, .g, .g, .g, (.c (.bool y12) h), .g, (.w .g), (.w .g), (.w (.ln l9.length)), (.w .g), (.p true), .g, .n, .n, .n, .n, (.p false), .g, .n, .n, .n, .n, .g, .g, .n, .n, .n, .n, .g, .g]) (args := [.agg #[.int .i64 x1, .int .i64 x2, .bool x3, (sv v4), (sv v5), (sv v6)], .agg #[.int .i64 x7, .int .i64 x8, (sv v9), (sv v10), (sv v11)]]) (h := h) (h' := h) (v := .bool false) (hC := (And.intro (g_ft l_f) (And.intro (g_ft l_f) (And.intro (g_ft l_f) (And.intro (g_ft l_f) (And.intro (g_ft l_f) (And.intro (g_ft l_f) (And.intro (g_ft l_f) (And.intro (g_ft l_f) (And.intro c15 (And.intro (g_ft c15) (And.intro (g_ft c15) (And.intro (g_ft c15) (And.intro (g_ft c15) (And.intro c14 (And.intro (g_tt c14) (And.intro (SlE.len hv9) (And.intro (g_tt c14) (And.intro (g_tt c14) (And.intro (g_tt c14) (And.intro (F38_spec x1 x2 x3 l4 l5 l6 20 8 v4 v5 v6 h hv4 hv5 hv6 _ e12) trivial))))))))))))))))))))) (hr := by kernel_rfl)
  · intro hr
    obtain rfl := Option.some.inj hr
    exact pFun_sound good tab_ok (f := 10) (its := [.g, .g, .g, .g, (.c (.bool y12) h), .g, .n, .n, .n, .n, (.p false), .g, .n, .n, .n, .n, .g, .g, .n, .n, .n, .n, .g, .g, .n, .n, .n, .n, .g, .g]) (args := [.agg #[.int .i64 x1, .int .i64 x2, .bool x3, (sv v4), (sv v5), (sv v6)], .agg #[.int .i64 x7, .int .i64 x8, (sv v9), (sv v10), (sv v11)]]) (h := h) (h' := h) (v := .bool false) (hC := (And.intro (g_ft l_f) (And.intro (g_ft l_f) (And.intro (g_ft l_f) (And.intro (g_ft l_f) (And.intro (g_ft l_f) (And.intro (g_ft l_f) (And.intro (g_ft l_f) (And.intro (g_ft l_f) (And.intro (g_ft l_f) (And.intro (g_ft l_f) (And.intro (g_ft l_f) (And.intro (g_ft l_f) (And.intro c14 (And.intro (g_ft c14) (And.intro (g_ft c14) (And.intro (g_ft c14) (And.intro (g_ft c14) (And.intro (F38_spec x1 x2 x3 l4 l5 l6 20 8 v4 v5 v6 h hv4 hv5 hv6 _ e12) trivial))))))))))))))))))) (hr := by kernel_rfl)
/-! 39 jacquard/dataflow.Nodes -/
def F39 (x1 : Int) (x2 : Int) (x3 : Bool) (l4 : List (Int × Int × Int × Int)) (l5 : List (Int × Int × Int × Int)) (l6 : List (Int × Int)) : Int :=
  (IntKind.i64.wrap ((IntKind.i64.wrap (x1 + x2)) + 2))
set_option maxRecDepth 100000 in
theorem F39_spec (x1 : Int) (x2 : Int) (x3 : Bool) (l4 : List (Int × Int × Int × Int)) (l5 : List (Int × Int × Int × Int)) (l6 : List (Int × Int)) (v4 : Hd) (v5 : Hd) (v6 : Hd) (h : AHeap) (hv4 : SlE E37 4 h (sv v4) l4) (hv5 : SlE E79 4 h (sv v5) l5) (hv6 : SlE E77 2 h (sv v6) l6) (r : Int) : F39 x1 x2 x3 l4 l5 l6 = r → ACalls Try.prog 39 [.agg #[.int .i64 x1, .int .i64 x2, .bool x3, (sv v4), (sv v5), (sv v6)]] h (fun v' h'' => v' = (.int .i64 r : Value) ∧ h'' = h) := by
  unfold F39
  intro hr
  subst hr
  exact pFun_sound good tab_ok (f := 39) (its := [.g, .g, .g, .g, .g, .g, .g, .g, .g]) (args := [.agg #[.int .i64 x1, .int .i64 x2, .bool x3, (sv v4), (sv v5), (sv v6)]]) (h := h) (h' := h) (v := .int .i64 (IntKind.i64.wrap ((IntKind.i64.wrap (x1 + x2)) + 2))) (hC := trivial) (hr := by kernel_rfl)
/-! 78 jacquard/dataflow.End -/
def F78 (x1 : Int) (x2 : Int) (x3 : Bool) (l4 : List (Int × Int × Int × Int)) (l5 : List (Int × Int × Int × Int)) (l6 : List (Int × Int)) : Int :=
  (IntKind.i64.wrap ((IntKind.i64.wrap (x1 + x2)) + 1))
set_option maxRecDepth 100000 in
theorem F78_spec (x1 : Int) (x2 : Int) (x3 : Bool) (l4 : List (Int × Int × Int × Int)) (l5 : List (Int × Int × Int × Int)) (l6 : List (Int × Int)) (v4 : Hd) (v5 : Hd) (v6 : Hd) (h : AHeap) (hv4 : SlE E37 4 h (sv v4) l4) (hv5 : SlE E79 4 h (sv v5) l5) (hv6 : SlE E77 2 h (sv v6) l6) (r : Int) : F78 x1 x2 x3 l4 l5 l6 = r → ACalls Try.prog 78 [.agg #[.int .i64 x1, .int .i64 x2, .bool x3, (sv v4), (sv v5), (sv v6)]] h (fun v' h'' => v' = (.int .i64 r : Value) ∧ h'' = h) := by
  unfold F78
  intro hr
  subst hr
  exact pFun_sound good tab_ok (f := 78) (its := [.g, .g, .g, .g, .g, .g, .g, .g, .g]) (args := [.agg #[.int .i64 x1, .int .i64 x2, .bool x3, (sv v4), (sv v5), (sv v6)]]) (h := h) (h' := h) (v := .int .i64 (IntKind.i64.wrap ((IntKind.i64.wrap (x1 + x2)) + 1))) (hC := trivial) (hr := by kernel_rfl)
/-! 69 jacquard/dataflow.validArc -/
def F69 (x1 : Int) (x2 : Int) (x3 : Bool) (l4 : List (Int × Int × Int × Int)) (l5 : List (Int × Int × Int × Int)) (l6 : List (Int × Int)) (x7 : Int) (x8 : Int) (x9 : Int) (x10 : Int) : Bool :=
  (bif decide (x7 ≥ 0) then
   (bif decide (x7 < (F39 x1 x2 x3 l4 l5 l6)) then
    (bif (x7 != (F78 x1 x2 x3 l4 l5 l6)) then
     (bif decide (x8 ≥ 0) then
      (bif decide (x8 < (F39 x1 x2 x3 l4 l5 l6)) then
       (bif decide (x9 ≥ 0) then
        (bif decide (x9 ≤ 4096) then
         (bif decide (x10 ≥ 0) then
          (bif decide (x10 ≤ 256) then
           (bif (x10 == 0) then
            true
           else
            x3)
          else
           false)
         else
          false)
        else
         false)
       else
        false)
      else
       false)
     else
      false)
    else
     false)
   else
    false)
  else
   false)
set_option maxRecDepth 100000 in
theorem F69_spec (x1 : Int) (x2 : Int) (x3 : Bool) (l4 : List (Int × Int × Int × Int)) (l5 : List (Int × Int × Int × Int)) (l6 : List (Int × Int)) (x7 : Int) (x8 : Int) (x9 : Int) (x10 : Int) (v4 : Hd) (v5 : Hd) (v6 : Hd) (h : AHeap) (hv4 : SlE E37 4 h (sv v4) l4) (hv5 : SlE E79 4 h (sv v5) l5) (hv6 : SlE E77 2 h (sv v6) l6) (r : Bool) : F69 x1 x2 x3 l4 l5 l6 x7 x8 x9 x10 = r → ACalls Try.prog 69 [.agg #[.int .i64 x1, .int .i64 x2, .bool x3, (sv v4), (sv v5), (sv v6)], .agg #[.int .i64 x7, .int .i64 x8, .int .i64 x9, .int .i64 x10]] h (fun v' h'' => v' = (.bool r : Value) ∧ h'' = h) := by
  unfold F69
  refine dec_bif (fun c12 => ?_) (fun c12 => ?_)
  · refine dec_bif (fun c13 => ?_) (fun c13 => ?_)
    · refine dec_bif (fun c15 => ?_) (fun c15 => ?_)
      · refine dec_bif (fun c16 => ?_) (fun c16 => ?_)
        · refine dec_bif (fun c17 => ?_) (fun c17 => ?_)
          · refine dec_bif (fun c18 => ?_) (fun c18 => ?_)
            · refine dec_bif (fun c19 => ?_) (fun c19 => ?_)
              · refine dec_bif (fun c20 => ?_) (fun c20 => ?_)
                · refine dec_bif (fun c21 => ?_) (fun c21 => ?_)
                  · refine dec_bif (fun c22 => ?_) (fun c22 => ?_)
                    · intro hr
                      subst hr
                      exact pFun_sound good tab_ok (f := 69) (its := [.g, .g, .g, .g, (.c (.int .i64 (F39 x1 x2 x3 l4 l5 l6)) h), .g, .g, .g, .g, .g, (.w .g), (.w .g), (.w .g), (.w .g), (.p true), .g, (.w .g), (.w .g), (.w .g), (.w (.c (.int .i64 (F78 x1 x2 x3 l4 l5 l6)) h)), (.w .g), (.p true), .g, (.w .g), (.w .g), (.w .g), (.p true), .g, (.w .g), (.w .g), (.w .g), (.w .g), (.p true), .g, (.w .g), (.w .g), (.w .g), (.p true), .g, (.w .g), (.w .g), (.w .g), (.p true), .g, (.w .g), (.w .g), (.w .g), (.p true), .g, (.w .g), (.w .g), (.w .g), (.p true), .g, (.w .g), (.w .g), (.w .g), (.w .g), .n, .n, (.w (.p true)), (.p true), .g]) (args := [.agg #[.int .i64 x1, .int .i64 x2, .bool x3, (sv v4), (sv v5), (sv v6)], .agg #[.int .i64 x7, .int .i64 x8, .int .i64 x9, .int .i64 x10]]) (h := h) (h' := h) (v := .bool true) (hC := (And.intro c21 (And.intro c22 (And.intro (g_tt c21) (And.intro (g_tf c22) (And.intro (g_tf c22) (And.intro (g_tt c21) (And.intro (g_tt c21) (And.intro (g_tt c21) (And.intro (g_tt c21) (And.intro c20 (And.intro (g_tt c20) (And.intro (g_tt c20) (And.intro (g_tt c20) (And.intro c19 (And.intro (g_tt c19) (And.intro (g_tt c19) (And.intro (g_tt c19) (And.intro c18 (And.intro (g_tt c18) (And.intro (g_tt c18) (And.intro (g_tt c18) (And.intro c17 (And.intro (g_tt c17) (And.intro (g_tt c17) (And.intro (g_tt c17) (And.intro c16 (And.intro (g_tt c16) (And.intro (g_tt c16) (And.intro (g_tt c16) (And.intro (g_tt c16) (And.intro c15 (And.intro (g_tt c15) (And.intro (g_tt c15) (And.intro (g_tt c15) (And.intro c13 (And.intro (g_tt c13) (And.intro (show AKeep h h from (AHeap.sub_refl h)) (And.intro (F78_spec x1 x2 x3 l4 l5 l6 v4 v5 v6 h hv4 hv5 hv6 _ rfl) (And.intro (g_tt c13) (And.intro (g_tt c13) (And.intro (g_tt c13) (And.intro (g_tt c13) (And.intro c12 (And.intro (g_tt c12) (And.intro (g_tt c12) (And.intro (g_tt c12) (And.intro (g_tt c12) (And.intro (F39_spec x1 x2 x3 l4 l5 l6 v4 v5 v6 h hv4 hv5 hv6 _ rfl) trivial))))))))))))))))))))))))))))))))))))))))))))))))) (hr := by kernel_rfl)
                    · intro hr
                      subst hr
                      exact pFun_sound good tab_ok (f := 69) (its := [.g, .g, .g, .g, (.c (.int .i64 (F39 x1 x2 x3 l4 l5 l6)) h), .g, .g, .g, .g, .g, (.w .g), (.w .g), (.w .g), (.w .g), (.p true), .g, (.w .g), (.w .g), (.w .g), (.w (.c (.int .i64 (F78 x1 x2 x3 l4 l5 l6)) h)), (.w .g), (.p true), .g, (.w .g), (.w .g), (.w .g), (.p true), .g, (.w .g), (.w .g), (.w .g), (.w .g), (.p true), .g, (.w .g), (.w .g), (.w .g), (.p true), .g, (.w .g), (.w .g), (.w .g), (.p true), .g, (.w .g), (.w .g), (.w .g), (.p true), .g, (.w .g), (.w .g), (.w .g), (.p true), .g, (.w .g), (.w .g), (.w .g), (.w .g), (.w .g), (.w .g), (.w (.p false)), (.p true), .g]) (args := [.agg #[.int .i64 x1, .int .i64 x2, .bool x3, (sv v4), (sv v5), (sv v6)], .agg #[.int .i64 x7, .int .i64 x8, .int .i64 x9, .int .i64 x10]]) (h := h) (h' := h) (v := .bool x3) (hC := (And.intro c21 (And.intro c22 (And.intro (g_tt c21) (And.intro (g_ff c22) (And.intro (g_ff c22) (And.intro (g_tt c21) (And.intro (g_tt c21) (And.intro (g_tt c21) (And.intro (g_tt c21) (And.intro c20 (And.intro (g_tt c20) (And.intro (g_tt c20) (And.intro (g_tt c20) (And.intro c19 (And.intro (g_tt c19) (And.intro (g_tt c19) (And.intro (g_tt c19) (And.intro c18 (And.intro (g_tt c18) (And.intro (g_tt c18) (And.intro (g_tt c18) (And.intro c17 (And.intro (g_tt c17) (And.intro (g_tt c17) (And.intro (g_tt c17) (And.intro c16 (And.intro (g_tt c16) (And.intro (g_tt c16) (And.intro (g_tt c16) (And.intro (g_tt c16) (And.intro c15 (And.intro (g_tt c15) (And.intro (g_tt c15) (And.intro (g_tt c15) (And.intro c13 (And.intro (g_tt c13) (And.intro (show AKeep h h from (AHeap.sub_refl h)) (And.intro (F78_spec x1 x2 x3 l4 l5 l6 v4 v5 v6 h hv4 hv5 hv6 _ rfl) (And.intro (g_tt c13) (And.intro (g_tt c13) (And.intro (g_tt c13) (And.intro (g_tt c13) (And.intro c12 (And.intro (g_tt c12) (And.intro (g_tt c12) (And.intro (g_tt c12) (And.intro (g_tt c12) (And.intro (F39_spec x1 x2 x3 l4 l5 l6 v4 v5 v6 h hv4 hv5 hv6 _ rfl) trivial))))))))))))))))))))))))))))))))))))))))))))))))) (hr := by kernel_rfl)
                  · intro hr
                    subst hr
                    exact pFun_sound good tab_ok (f := 69) (its := [.g, .g, .g, .g, (.c (.int .i64 (F39 x1 x2 x3 l4 l5 l6)) h), .g, .g, .g, .g, .g, (.w .g), (.w .g), (.w .g), (.w .g), (.p true), .g, (.w .g), (.w .g), (.w .g), (.w (.c (.int .i64 (F78 x1 x2 x3 l4 l5 l6)) h)), (.w .g), (.p true), .g, (.w .g), (.w .g), (.w .g), (.p true), .g, (.w .g), (.w .g), (.w .g), (.w .g), (.p true), .g, (.w .g), (.w .g), (.w .g), (.p true), .g, (.w .g), (.w .g), (.w .g), (.p true), .g, (.w .g), (.w .g), (.w .g), (.p true), .g, (.w .g), (.w .g), (.w .g), (.p true), .g, .n, .n, .n, .n, .n, .n, .n, (.p false), .g]) (args := [.agg #[.int .i64 x1, .int .i64 x2, .bool x3, (sv v4), (sv v5), (sv v6)], .agg #[.int .i64 x7, .int .i64 x8, .int .i64 x9, .int .i64 x10]]) (h := h) (h' := h) (v := .bool false) (hC := (And.intro c21 (And.intro (g_ft c21) (And.intro l_f (And.intro l_f (And.intro (g_ft c21) (And.intro (g_ft c21) (And.intro (g_ft c21) (And.intro (g_ft c21) (And.intro c20 (And.intro (g_tt c20) (And.intro (g_tt c20) (And.intro (g_tt c20) (And.intro c19 (And.intro (g_tt c19) (And.intro (g_tt c19) (And.intro (g_tt c19) (And.intro c18 (And.intro (g_tt c18) (And.intro (g_tt c18) (And.intro (g_tt c18) (And.intro c17 (And.intro (g_tt c17) (And.intro (g_tt c17) (And.intro (g_tt c17) (And.intro c16 (And.intro (g_tt c16) (And.intro (g_tt c16) (And.intro (g_tt c16) (And.intro (g_tt c16) (And.intro c15 (And.intro (g_tt c15) (And.intro (g_tt c15) (And.intro (g_tt c15) (And.intro c13 (And.intro (g_tt c13) (And.intro (show AKeep h h from (AHeap.sub_refl h)) (And.intro (F78_spec x1 x2 x3 l4 l5 l6 v4 v5 v6 h hv4 hv5 hv6 _ rfl) (And.intro (g_tt c13) (And.intro (g_tt c13) (And.intro (g_tt c13) (And.intro (g_tt c13) (And.intro c12 (And.intro (g_tt c12) (And.intro (g_tt c12) (And.intro (g_tt c12) (And.intro (g_tt c12) (And.intro (F39_spec x1 x2 x3 l4 l5 l6 v4 v5 v6 h hv4 hv5 hv6 _ rfl) trivial)))))))))))))))))))))))))))))))))))))))))))))))) (hr := by kernel_rfl)
                · intro hr
                  subst hr
                  exact pFun_sound good tab_ok (f := 69) (its := [.g, .g, .g, .g, (.c (.int .i64 (F39 x1 x2 x3 l4 l5 l6)) h), .g, .g, .g, .g, .g, (.w .g), (.w .g), (.w .g), (.w .g), (.p true), .g, (.w .g), (.w .g), (.w .g), (.w (.c (.int .i64 (F78 x1 x2 x3 l4 l5 l6)) h)), (.w .g), (.p true), .g, (.w .g), (.w .g), (.w .g), (.p true), .g, (.w .g), (.w .g), (.w .g), (.w .g), (.p true), .g, (.w .g), (.w .g), (.w .g), (.p true), .g, (.w .g), (.w .g), (.w .g), (.p true), .g, (.w .g), (.w .g), (.w .g), (.p true), .g, .n, .n, .n, (.p false), .g, .n, .n, .n, .n, .n, .n, .n, .g, .g]) (args := [.agg #[.int .i64 x1, .int .i64 x2, .bool x3, (sv v4), (sv v5), (sv v6)], .agg #[.int .i64 x7, .int .i64 x8, .int .i64 x9, .int .i64 x10]]) (h := h) (h' := h) (v := .bool false) (hC := (And.intro (g_ft l_f) (And.intro l_f (And.intro l_f (And.intro (g_ft l_f) (And.intro (g_ft l_f) (And.intro (g_ft l_f) (And.intro (g_ft l_f) (And.intro c20 (And.intro (g_ft c20) (And.intro (g_ft c20) (And.intro (g_ft c20) (And.intro c19 (And.intro (g_tt c19) (And.intro (g_tt c19) (And.intro (g_tt c19) (And.intro c18 (And.intro (g_tt c18) (And.intro (g_tt c18) (And.intro (g_tt c18) (And.intro c17 (And.intro (g_tt c17) (And.intro (g_tt c17) (And.intro (g_tt c17) (And.intro c16 (And.intro (g_tt c16) (And.intro (g_tt c16) (And.intro (g_tt c16) (And.intro (g_tt c16) (And.intro c15 (And.intro (g_tt c15) (And.intro (g_tt c15) (And.intro (g_tt c15) (And.intro c13 (And.intro (g_tt c13) (And.intro (show AKeep h h from (AHeap.sub_refl h)) (And.intro (F78_spec x1 x2 x3 l4 l5 l6 v4 v5 v6 h hv4 hv5 hv6 _ rfl) (And.intro (g_tt c13) (And.intro (g_tt c13) (And.intro (g_tt c13) (And.intro (g_tt c13) (And.intro c12 (And.intro (g_tt c12) (And.intro (g_tt c12) (And.intro (g_tt c12) (And.intro (g_tt c12) (And.intro (F39_spec x1 x2 x3 l4 l5 l6 v4 v5 v6 h hv4 hv5 hv6 _ rfl) trivial))))))))))))))))))))))))))))))))))))))))))))))) (hr := by kernel_rfl)
              · intro hr
                subst hr
                exact pFun_sound good tab_ok (f := 69) (its := [.g, .g, .g, .g, (.c (.int .i64 (F39 x1 x2 x3 l4 l5 l6)) h), .g, .g, .g, .g, .g, (.w .g), (.w .g), (.w .g), (.w .g), (.p true), .g, (.w .g), (.w .g), (.w .g), (.w (.c (.int .i64 (F78 x1 x2 x3 l4 l5 l6)) h)), (.w .g), (.p true), .g, (.w .g), (.w .g), (.w .g), (.p true), .g, (.w .g), (.w .g), (.w .g), (.w .g), (.p true), .g, (.w .g), (.w .g), (.w .g), (.p true), .g, (.w .g), (.w .g), (.w .g), (.p true), .g, .n, .n, .n, (.p false), .g, .n, .n, .n, .g, .g, .n, .n, .n, .n, .n, .n, .n, .g, .g]) (args := [.agg #[.int .i64 x1, .int .i64 x2, .bool x3, (sv v4), (sv v5), (sv v6)], .agg #[.int .i64 x7, .int .i64 x8, .int .i64 x9, .int .i64 x10]]) (h := h) (h' := h) (v := .bool false) (hC := (And.intro (g_ft l_f) (And.intro l_f (And.intro l_f (And.intro (g_ft l_f) (And.intro (g_ft l_f) (And.intro (g_ft l_f) (And.intro (g_ft l_f) (And.intro (g_ft l_f) (And.intro (g_ft l_f) (And.intro (g_ft l_f) (And.intro c19 (And.intro (g_ft c19) (And.intro (g_ft c19) (And.intro (g_ft c19) (And.intro c18 (And.intro (g_tt c18) (And.intro (g_tt c18) (And.intro (g_tt c18) (And.intro c17 (And.intro (g_tt c17) (And.intro (g_tt c17) (And.intro (g_tt c17) (And.intro c16 (And.intro (g_tt c16) (And.intro (g_tt c16) (And.intro (g_tt c16) (And.intro (g_tt c16) (And.intro c15 (And.intro (g_tt c15) (And.intro (g_tt c15) (And.intro (g_tt c15) (And.intro c13 (And.intro (g_tt c13) (And.intro (show AKeep h h from (AHeap.sub_refl h)) (And.intro (F78_spec x1 x2 x3 l4 l5 l6 v4 v5 v6 h hv4 hv5 hv6 _ rfl) (And.intro (g_tt c13) (And.intro (g_tt c13) (And.intro (g_tt c13) (And.intro (g_tt c13) (And.intro c12 (And.intro (g_tt c12) (And.intro (g_tt c12) (And.intro (g_tt c12) (And.intro (g_tt c12) (And.intro (F39_spec x1 x2 x3 l4 l5 l6 v4 v5 v6 h hv4 hv5 hv6 _ rfl) trivial)))))))))))))))))))))))))))))))))))))))))))))) (hr := by kernel_rfl)
            · intro hr
              subst hr
              exact pFun_sound good tab_ok (f := 69) (its := [.g, .g, .g, .g, (.c (.int .i64 (F39 x1 x2 x3 l4 l5 l6)) h), .g, .g, .g, .g, .g, (.w .g), (.w .g), (.w .g), (.w .g), (.p true), .g, (.w .g), (.w .g), (.w .g), (.w (.c (.int .i64 (F78 x1 x2 x3 l4 l5 l6)) h)), (.w .g), (.p true), .g, (.w .g), (.w .g), (.w .g), (.p true), .g, (.w .g), (.w .g), (.w .g), (.w .g), (.p true), .g, (.w .g), (.w .g), (.w .g), (.p true), .g, .n, .n, .n, (.p false), .g, .n, .n, .n, .g, .g, .n, .n, .n, .g, .g, .n, .n, .n, .n, .n, .n, .n, .g, .g]) (args := [.agg #[.int .i64 x1, .int .i64 x2, .bool x3, (sv v4), (sv v5), (sv v6)], .agg #[.int .i64 x7, .int .i64 x8, .int .i64 x9, .int .i64 x10]]) (h := h) (h' := h) (v := .bool false) (hC := (And.intro (g_ft l_f) (And.intro l_f (And.intro l_f (And.intro (g_ft l_f) (And.intro (g_ft l_f) (And.intro (g_ft l_f) (And.intro (g_ft l_f) (And.intro (g_ft l_f) (And.intro (g_ft l_f) (And.intro (g_ft l_f) (And.intro (g_ft l_f) (And.intro (g_ft l_f) (And.intro (g_ft l_f) (And.intro c18 (And.intro (g_ft c18) (And.intro (g_ft c18) (And.intro (g_ft c18) (And.intro c17 (And.intro (g_tt c17) (And.intro (g_tt c17) (And.intro (g_tt c17) (And.intro c16 (And.intro (g_tt c16) (And.intro (g_tt c16) (And.intro (g_tt c16) (And.intro (g_tt c16) (And.intro c15 (And.intro (g_tt c15) (And.intro (g_tt c15) (And.intro (g_tt c15) (And.intro c13 (And.intro (g_tt c13) (And.intro (show AKeep h h from (AHeap.sub_refl h)) (And.intro (F78_spec x1 x2 x3 l4 l5 l6 v4 v5 v6 h hv4 hv5 hv6 _ rfl) (And.intro (g_tt c13) (And.intro (g_tt c13) (And.intro (g_tt c13) (And.intro (g_tt c13) (And.intro c12 (And.intro (g_tt c12) (And.intro (g_tt c12) (And.intro (g_tt c12) (And.intro (g_tt c12) (And.intro (F39_spec x1 x2 x3 l4 l5 l6 v4 v5 v6 h hv4 hv5 hv6 _ rfl) trivial))))))))))))))))))))))))))))))))))))))))))))) (hr := by kernel_rfl)
          · intro hr
            subst hr
            exact pFun_sound good tab_ok (f := 69) (its := [.g, .g, .g, .g, (.c (.int .i64 (F39 x1 x2 x3 l4 l5 l6)) h), .g, .g, .g, .g, .g, (.w .g), (.w .g), (.w .g), (.w .g), (.p true), .g, (.w .g), (.w .g), (.w .g), (.w (.c (.int .i64 (F78 x1 x2 x3 l4 l5 l6)) h)), (.w .g), (.p true), .g, (.w .g), (.w .g), (.w .g), (.p true), .g, (.w .g), (.w .g), (.w .g), (.w .g), (.p true), .g, .n, .n, .n, (.p false), .g, .n, .n, .n, .g, .g, .n, .n, .n, .g, .g, .n, .n, .n, .g, .g, .n, .n, .n, .n, .n, .n, .n, .g, .g]) (args := [.agg #[.int .i64 x1, .int .i64 x2, .bool x3, (sv v4), (sv v5), (sv v6)], .agg #[.int .i64 x7, .int .i64 x8, .int .i64 x9, .int .i64 x10]]) (h := h) (h' := h) (v := .bool false) (hC := (And.intro (g_ft l_f) (And.intro l_f (And.intro l_f (And.intro (g_ft l_f) (And.intro (g_ft l_f) (And.intro (g_ft l_f) (And.intro (g_ft l_f) (And.intro (g_ft l_f) (And.intro (g_ft l_f) (And.intro (g_ft l_f) (And.intro (g_ft l_f) (And.intro (g_ft l_f) (And.intro (g_ft l_f) (And.intro (g_ft l_f) (And.intro (g_ft l_f) (And.intro (g_ft l_f) (And.intro c17 (And.intro (g_ft c17) (And.intro (g_ft c17) (And.intro (g_ft c17) (And.intro c16 (And.intro (g_tt c16) (And.intro (g_tt c16) (And.intro (g_tt c16) (And.intro (g_tt c16) (And.intro c15 (And.intro (g_tt c15) (And.intro (g_tt c15) (And.intro (g_tt c15) (And.intro c13 (And.intro (g_tt c13) (And.intro (show AKeep h h from (AHeap.sub_refl h)) (And.intro (F78_spec x1 x2 x3 l4 l5 l6 v4 v5 v6 h hv4 hv5 hv6 _ rfl) (And.intro (g_tt c13) (And.intro (g_tt c13) (And.intro (g_tt c13) (And.intro (g_tt c13) (And.intro c12 (And.intro (g_tt c12) (And.intro (g_tt c12) (And.intro (g_tt c12) (And.intro (g_tt c12) (And.intro (F39_spec x1 x2 x3 l4 l5 l6 v4 v5 v6 h hv4 hv5 hv6 _ rfl) trivial)))))))))))))))))))))))))))))))))))))))))))) (hr := by kernel_rfl)
        · intro hr
          subst hr
          exact pFun_sound good tab_ok (f := 69) (its := [.g, .g, .g, .g, (.c (.int .i64 (F39 x1 x2 x3 l4 l5 l6)) h), .g, .g, .g, .g, .g, (.w .g), (.w .g), (.w .g), (.w .g), (.p true), .g, (.w .g), (.w .g), (.w .g), (.w (.c (.int .i64 (F78 x1 x2 x3 l4 l5 l6)) h)), (.w .g), (.p true), .g, (.w .g), (.w .g), (.w .g), (.p true), .g, .n, .n, .n, .n, (.p false), .g, .n, .n, .n, .g, .g, .n, .n, .n, .g, .g, .n, .n, .n, .g, .g, .n, .n, .n, .g, .g, .n, .n, .n, .n, .n, .n, .n, .g, .g]) (args := [.agg #[.int .i64 x1, .int .i64 x2, .bool x3, (sv v4), (sv v5), (sv v6)], .agg #[.int .i64 x7, .int .i64 x8, .int .i64 x9, .int .i64 x10]]) (h := h) (h' := h) (v := .bool false) (hC := (And.intro (g_ft l_f) (And.intro l_f (And.intro l_f (And.intro (g_ft l_f) (And.intro (g_ft l_f) (And.intro (g_ft l_f) (And.intro (g_ft l_f) (And.intro (g_ft l_f) (And.intro (g_ft l_f) (And.intro (g_ft l_f) (And.intro (g_ft l_f) (And.intro (g_ft l_f) (And.intro (g_ft l_f) (And.intro (g_ft l_f) (And.intro (g_ft l_f) (And.intro (g_ft l_f) (And.intro (g_ft l_f) (And.intro (g_ft l_f) (And.intro (g_ft l_f) (And.intro c16 (And.intro (g_ft c16) (And.intro (g_ft c16) (And.intro (g_ft c16) (And.intro (g_ft c16) (And.intro c15 (And.intro (g_tt c15) (And.intro (g_tt c15) (And.intro (g_tt c15) (And.intro c13 (And.intro (g_tt c13) (And.intro (show AKeep h h from (AHeap.sub_refl h)) (And.intro (F78_spec x1 x2 x3 l4 l5 l6 v4 v5 v6 h hv4 hv5 hv6 _ rfl) (And.intro (g_tt c13) (And.intro (g_tt c13) (And.intro (g_tt c13) (And.intro (g_tt c13) (And.intro c12 (And.intro (g_tt c12) (And.intro (g_tt c12) (And.intro (g_tt c12) (And.intro (g_tt c12) (And.intro (F39_spec x1 x2 x3 l4 l5 l6 v4 v5 v6 h hv4 hv5 hv6 _ rfl) trivial))))))))))))))))))))))))))))))))))))))))))) (hr := by kernel_rfl)
      · intro hr
        subst hr
        exact pFun_sound good tab_ok (f := 69) (its := [.g, .g, .g, .g, (.c (.int .i64 (F39 x1 x2 x3 l4 l5 l6)) h), .g, .g, .g, .g, .g, (.w .g), (.w .g), (.w .g), (.w .g), (.p true), .g, (.w .g), (.w .g), (.w .g), (.w (.c (.int .i64 (F78 x1 x2 x3 l4 l5 l6)) h)), (.w .g), (.p true), .g, .n, .n, .n, (.p false), .g, .n, .n, .n, .n, .g, .g, .n, .n, .n, .g, .g, .n, .n, .n, .g, .g, .n, .n, .n, .g, .g, .n, .n, .n, .g, .g, .n, .n, .n, .n, .n, .n, .n, .g, .g]) (args := [.agg #[.int .i64 x1, .int .i64 x2, .bool x3, (sv v4), (sv v5), (sv v6)], .agg #[.int .i64 x7, .int .i64 x8, .int .i64 x9, .int .i64 x10]]) (h := h) (h' := h) (v := .bool false) (hC := (And.intro (g_ft l_f) (And.intro l_f (And.intro l_f (And.intro (g_ft l_f) (And.intro (g_ft l_f) (And.intro (g_ft l_f) (And.intro (g_ft l_f) (And.intro (g_ft l_f) (And.intro (g_ft l_f) (And.intro (g_ft l_f) (And.intro (g_ft l_f) (And.intro (g_ft l_f) (And.intro (g_ft l_f) (And.intro (g_ft l_f) (And.intro (g_ft l_f) (And.intro (g_ft l_f) (And.intro (g_ft l_f) (And.intro (g_ft l_f) (And.intro (g_ft l_f) (And.intro (g_ft l_f) (And.intro (g_ft l_f) (And.intro (g_ft l_f) (And.intro (g_ft l_f) (And.intro c15 (And.intro (g_ft c15) (And.intro (g_ft c15) (And.intro (g_ft c15) (And.intro c13 (And.intro (g_tt c13) (And.intro (show AKeep h h from (AHeap.sub_refl h)) (And.intro (F78_spec x1 x2 x3 l4 l5 l6 v4 v5 v6 h hv4 hv5 hv6 _ rfl) (And.intro (g_tt c13) (And.intro (g_tt c13) (And.intro (g_tt c13) (And.intro (g_tt c13) (And.intro c12 (And.intro (g_tt c12) (And.intro (g_tt c12) (And.intro (g_tt c12) (And.intro (g_tt c12) (And.intro (F39_spec x1 x2 x3 l4 l5 l6 v4 v5 v6 h hv4 hv5 hv6 _ rfl) trivial)))))))))))))))))))))))))))))))))))))))))) (hr := by kernel_rfl)
    · intro hr
      subst hr
      exact pFun_sound good tab_ok (f := 69) (its := [.g, .g, .g, .g, (.c (.int .i64 (F39 x1 x2 x3 l4 l5 l6)) h), .g, .g, .g, .g, .g, (.w .g), (.w .g), (.w .g), (.w .g), (.p true), .g, .n, .n, .n, .n, .n, (.p false), .g, .n, .n, .n, .g, .g, .n, .n, .n, .n, .g, .g, .n, .n, .n, .g, .g, .n, .n, .n, .g, .g, .n, .n, .n, .g, .g, .n, .n, .n, .g, .g, .n, .n, .n, .n, .n, .n, .n, .g, .g]) (args := [.agg #[.int .i64 x1, .int .i64 x2, .bool x3, (sv v4), (sv v5), (sv v6)], .agg #[.int .i64 x7, .int .i64 x8, .int .i64 x9, .int .i64 x10]]) (h := h) (h' := h) (v := .bool false) (hC := (And.intro (g_ft l_f) (And.intro l_f (And.intro l_f (And.intro (g_ft l_f) (And.intro (g_ft l_f) (And.intro (g_ft l_f) (And.intro (g_ft l_f) (And.intro (g_ft l_f) (And.intro (g_ft l_f) (And.intro (g_ft l_f) (And.intro (g_ft l_f) (And.intro (g_ft l_f) (And.intro (g_ft l_f) (And.intro (g_ft l_f) (And.intro (g_ft l_f) (And.intro (g_ft l_f) (And.intro (g_ft l_f) (And.intro (g_ft l_f) (And.intro (g_ft l_f) (And.intro (g_ft l_f) (And.intro (g_ft l_f) (And.intro (g_ft l_f) (And.intro (g_ft l_f) (And.intro (g_ft l_f) (And.intro (g_ft l_f) (And.intro (g_ft l_f) (And.intro c13 (And.intro (g_ft c13) (And.intro (g_ft c13) (And.intro (g_ft c13) (And.intro (g_ft c13) (And.intro (g_ft c13) (And.intro c12 (And.intro (g_tt c12) (And.intro (g_tt c12) (And.intro (g_tt c12) (And.intro (g_tt c12) (And.intro (F39_spec x1 x2 x3 l4 l5 l6 v4 v5 v6 h hv4 hv5 hv6 _ rfl) trivial))))))))))))))))))))))))))))))))))))))) (hr := by kernel_rfl)
  · intro hr
    subst hr
    exact pFun_sound good tab_ok (f := 69) (its := [.g, .g, .g, .g, (.c (.int .i64 (F39 x1 x2 x3 l4 l5 l6)) h), .g, .g, .g, .g, .g, .n, .n, .n, .n, (.p false), .g, .n, .n, .n, .n, .n, .g, .g, .n, .n, .n, .g, .g, .n, .n, .n, .n, .g, .g, .n, .n, .n, .g, .g, .n, .n, .n, .g, .g, .n, .n, .n, .g, .g, .n, .n, .n, .g, .g, .n, .n, .n, .n, .n, .n, .n, .g, .g]) (args := [.agg #[.int .i64 x1, .int .i64 x2, .bool x3, (sv v4), (sv v5), (sv v6)], .agg #[.int .i64 x7, .int .i64 x8, .int .i64 x9, .int .i64 x10]]) (h := h) (h' := h) (v := .bool false) (hC := (And.intro (g_ft l_f) (And.intro l_f (And.intro l_f (And.intro (g_ft l_f) (And.intro (g_ft l_f) (And.intro (g_ft l_f) (And.intro (g_ft l_f) (And.intro (g_ft l_f) (And.intro (g_ft l_f) (And.intro (g_ft l_f) (And.intro (g_ft l_f) (And.intro (g_ft l_f) (And.intro (g_ft l_f) (And.intro (g_ft l_f) (And.intro (g_ft l_f) (And.intro (g_ft l_f) (And.intro (g_ft l_f) (And.intro (g_ft l_f) (And.intro (g_ft l_f) (And.intro (g_ft l_f) (And.intro (g_ft l_f) (And.intro (g_ft l_f) (And.intro (g_ft l_f) (And.intro (g_ft l_f) (And.intro (g_ft l_f) (And.intro (g_ft l_f) (And.intro (g_ft l_f) (And.intro (g_ft l_f) (And.intro (g_ft l_f) (And.intro (g_ft l_f) (And.intro (g_ft l_f) (And.intro c12 (And.intro (g_ft c12) (And.intro (g_ft c12) (And.intro (g_ft c12) (And.intro (g_ft c12) (And.intro (F39_spec x1 x2 x3 l4 l5 l6 v4 v5 v6 h hv4 hv5 hv6 _ rfl) trivial)))))))))))))))))))))))))))))))))))))) (hr := by kernel_rfl)
/-! 67 jacquard/dataflow.Source -/
def F67 (x1 : Int) (x2 : Int) (x3 : Bool) (l4 : List (Int × Int × Int × Int)) (l5 : List (Int × Int × Int × Int)) (l6 : List (Int × Int)) : Int :=
  (IntKind.i64.wrap (x1 + x2))
set_option maxRecDepth 100000 in
theorem F67_spec (x1 : Int) (x2 : Int) (x3 : Bool) (l4 : List (Int × Int × Int × Int)) (l5 : List (Int × Int × Int × Int)) (l6 : List (Int × Int)) (v4 : Hd) (v5 : Hd) (v6 : Hd) (h : AHeap) (hv4 : SlE E37 4 h (sv v4) l4) (hv5 : SlE E79 4 h (sv v5) l5) (hv6 : SlE E77 2 h (sv v6) l6) (r : Int) : F67 x1 x2 x3 l4 l5 l6 = r → ACalls Try.prog 67 [.agg #[.int .i64 x1, .int .i64 x2, .bool x3, (sv v4), (sv v5), (sv v6)]] h (fun v' h'' => v' = (.int .i64 r : Value) ∧ h'' = h) := by
  unfold F67
  intro hr
  subst hr
  exact pFun_sound good tab_ok (f := 67) (its := [.g, .g, .g, .g, .g, .g, .g, .g]) (args := [.agg #[.int .i64 x1, .int .i64 x2, .bool x3, (sv v4), (sv v5), (sv v6)]]) (h := h) (h' := h) (v := .int .i64 (IntKind.i64.wrap (x1 + x2))) (hC := trivial) (hr := by kernel_rfl)
/-! 70 jacquard/dataflow.validFrame -/
def F70_L : List Nat := [1, 7]
def F70_D : List (Nat × List (Nat × Nat)) := [(10, [(0, 2), (2, 2), (5, 2), (7, 2), (1, 3), (3, 2), (4, 5), (6, 1), (8, 2), (9, 2)]), (17, [(0, 2), (1, 2), (2, 2), (3, 2), (4, 2), (5, 2), (7, 2), (6, 3), (8, 1), (9, 2), (10, 2), (11, 2), (12, 2), (13, 2), (14, 2), (15, 2), (16, 2), (17, 2), (18, 2), (19, 2), (20, 2), (21, 2), (22, 2), (23, 2), (24, 2), (25, 2), (26, 2), (27, 2), (28, 2), (29, 2), (30, 2), (31, 2), (32, 2), (33, 2)])]
def F70__1 (x1 : Int) (x2 : Int) (l4 : List (Int × Int × Int × Int)) : Bool := decide ((l4.length : Int) < (IntKind.i64.wrap ((IntKind.i64.wrap (2 * (IntKind.i64.wrap (x1 + x2)))) + 1)))
def F70__2 (x1 : Int) (x2 : Int) (x3 : Bool) (l4 : List (Int × Int × Int × Int)) (l5 : List (Int × Int × Int × Int)) (l6 : List (Int × Int)) (y12 : Int × Int × Int × Int) : Bool := (!((y12.1 == (F67 x1 x2 x3 l4 l5 l6)) && ((y12.2.1 == (F78 x1 x2 x3 l4 l5 l6)) && ((y12.2.2.1 == 0) && ((y12.2.2.2 == 0) && true)))))
def F70__3 (x1 : Int) (x2 : Int) (x3 : Bool) (l4 : List (Int × Int × Int × Int)) (l5 : List (Int × Int × Int × Int)) (l6 : List (Int × Int)) (a8 : Int) (y15 : Int × Int × Int × Int) : Bool := (!((y15.1 == (F67 x1 x2 x3 l4 l5 l6)) && ((y15.2.1 == a8) && ((y15.2.2.1 == 0) && ((y15.2.2.2 == 0) && true)))))
def F70_m1_2 : List Bool := [true, false, true, false, true, true, true, true, true, true, true, true, true, true, true, true, true, true, true, true, true, true, true, true, true, true, true, true, true, true, true, true, true, true, true, true, true, true, true, true, true, true, true, true, true, true, true, true, true, true, true, true, true, true, true, true, true, true, true, true, true, true, true, true, true, true, true, true, true, true, true, true, true, true, true, true, true, true, true, true, true, true, true, true, true, true, true, true, true]
def F70_m1_1 : List Bool := [true, false, true, false, true, true, true, true, true, true, true, true, true, true, true, true, true, true, true, true, true, false, false, true, true, true, true, true, true, true, true, true, true, true, true, true, true, true, true, true, true, true, true, true, true, true, true, true, true, true, true, true, true, true, true, true, true, true, true, true, true, true, true, true, true, true, true, true, true, true, true, true, true, true, true, true, true, true, true, true, true, true, true, true, true, true, true, true, true]
def F70_m1_0 : List Bool := [true, true, false, true, true, true, true, true, true, true, true, true, true, true, true, true, true, true, true, true, true, true, true, true, true, true, true, true, true, true, true, true, true, true, true, true, true, true, true, true, true, true, true, true, true, true, true, true, true, true, true, true, true, true, true, true, true, true, true, true, true, true, true, true, true, true, true, true, true, true, true, true, true, true, true, true, true, true, true, true, true, true, true, true, true, true, true, true, true]
def F70_s1 (x1 : Int) (x2 : Int) (x3 : Bool) (l4 : List (Int × Int × Int × Int)) (l5 : List (Int × Int × Int × Int)) (l6 : List (Int × Int)) (a8 : Int) : Option (Int ⊕ Nat) :=
  (bif decide (a8 < (IntKind.i64.wrap ((IntKind.i64.wrap (x1 + x2)) + 1))) then
   (bif (a8 == (IntKind.i64.wrap (x1 + x2))) then
    (Option.bind (at? l4 a8) fun y12 =>
    (bif (F70__2 x1 x2 x3 l4 l5 l6 y12) then
     some (.inr 0)
    else
     some (.inl (IntKind.i64.wrap (a8 + 1)))))
   else
    (Option.bind (at? l4 a8) fun y15 =>
    (bif (F70__3 x1 x2 x3 l4 l5 l6 a8 y15) then
     some (.inr 0)
    else
     some (.inl (IntKind.i64.wrap (a8 + 1))))))
  else
   some (.inr 1))
def F70_h1 (h : AHeap) (x1 : Int) (x2 : Int) (x3 : Bool) (v4 : Hd) (v5 : Hd) (v6 : Hd)  (a8 : Int) : AS := ⟨[junk, .pointer (some ⟨1, 0, none⟩), junk, .int .i64 (IntKind.i64.wrap (x1 + x2)), junk, junk, junk, junk, junk, junk, junk, junk, junk, junk, junk, junk, junk, junk, junk, junk, junk, .int .i64 (IntKind.i64.wrap ((IntKind.i64.wrap (x1 + x2)) + 1)), .int .i64 a8, junk, junk, junk, junk, junk, junk, junk, junk, junk, junk, junk, junk, junk, junk, junk, junk, junk, junk, junk, junk, junk, junk, junk, junk, junk, junk, junk, junk, junk, junk, junk, junk, junk, junk, junk, junk, junk, junk, junk, junk, junk, junk, junk, junk, junk, junk, junk, junk, junk, junk, junk, junk, junk, junk, junk, junk, junk, junk, junk, junk, junk, junk, junk, junk, junk, junk], [(1, [.int .i64 x1, .int .i64 x2, .bool x3, (sv v4), (sv v5), (sv v6)])], h⟩
theorem F70_d1 : drawsOk F70_D (codeOf Try.prog 70 [1, 1, 1, 0, 1, 0, 0]) = true := by kernel_rfl
def F70_x1_0 (h : AHeap) (x1 : Int) (x2 : Int) (x3 : Bool) (v4 : Hd) (v5 : Hd) (v6 : Hd)  (r : Nat) : AS := ⟨[junk, junk, .bool false, junk, junk, junk, junk, junk, junk, junk, junk, junk, junk, junk, junk, junk, junk, junk, junk, junk, junk, junk, junk, junk, junk, junk, junk, junk, junk, junk, junk, junk, junk, junk, junk, junk, junk, junk, junk, junk, junk, junk, junk, junk, junk, junk, junk, junk, junk, junk, junk, junk, junk, junk, junk, junk, junk, junk, junk, junk, junk, junk, junk, junk, junk, junk, junk, junk, junk, junk, junk, junk, junk, junk, junk, junk, junk, junk, junk, junk, junk, junk, junk, junk, junk, junk, junk, junk, junk], [], h⟩
def F70_x1_1 (h : AHeap) (x1 : Int) (x2 : Int) (x3 : Bool) (v4 : Hd) (v5 : Hd) (v6 : Hd)  (r : Nat) : AS := ⟨[junk, .pointer (some ⟨1, 0, none⟩), junk, .int .i64 (IntKind.i64.wrap (x1 + x2)), junk, junk, junk, junk, junk, junk, junk, junk, junk, junk, junk, junk, junk, junk, junk, junk, junk, junk, junk, junk, junk, junk, junk, junk, junk, junk, junk, junk, junk, junk, junk, junk, junk, junk, junk, junk, junk, junk, junk, junk, junk, junk, junk, junk, junk, junk, junk, junk, junk, junk, junk, junk, junk, junk, junk, junk, junk, junk, junk, junk, junk, junk, junk, junk, junk, junk, junk, junk, junk, junk, junk, junk, junk, junk, junk, junk, junk, junk, junk, junk, junk, junk, junk, junk, junk], [(1, [.int .i64 x1, .int .i64 x2, .bool x3, (sv v4), (sv v5), (sv v6)])], h⟩
def F70_x1 (h : AHeap) (x1 : Int) (x2 : Int) (x3 : Bool) (v4 : Hd) (v5 : Hd) (v6 : Hd) (r : Nat) : Exit × AS := (bif Nat.beq r 0 then (.ret, (F70_x1_0 h x1 x2 x3 v4 v5 v6 r)) else ((.exit 0), (F70_x1_1 h x1 x2 x3 v4 v5 v6 r)))
set_option maxRecDepth 100000 in
theorem F70_r1 (h : AHeap) (x1 : Int) (x2 : Int) (x3 : Bool) (l4 : List (Int × Int × Int × Int)) (v4 : Hd) (hv4 : SlE E37 4 h (sv v4) l4) (l5 : List (Int × Int × Int × Int)) (v5 : Hd) (hv5 : SlE E79 4 h (sv v5) l5) (l6 : List (Int × Int)) (v6 : Hd) (hv6 : SlE E77 2 h (sv v6) l6) (a8 : Int) (o : Int ⊕ Nat) : F70_s1 x1 x2 x3 l4 l5 l6 a8 = some o → RdF Try.prog (codeOf Try.prog 70 [1, 1, 1, 0, 1, 0, 0]) (fun (s : Int) => (F70_h1 h x1 x2 x3 v4 v5 v6 s)) (F70_x1 h x1 x2 x3 v4 v5 v6) (F70_h1 h x1 x2 x3 v4 v5 v6 a8) o := by
  unfold F70_s1
  refine dec_bif (fun c9 => ?_) (fun c9 => ?_)
  · refine dec_bif (fun c10 => ?_) (fun c10 => ?_)
    · refine bind_opt fun y12 e12 => ?_
      obtain ⟨id12, off12, g12, cs12, ix12, at12, rfl⟩ := SlE.at hv4 e12
      refine dec_bif (fun c14 => ?_) (fun c14 => ?_)
      · intro hr
        obtain rfl := Option.some.inj hr
        show AWp Try.prog _ (Ends1 ((F70_x1 h x1 x2 x3 v4 v5 v6) (0 : Nat)).1 ((F70_x1 h x1 x2 x3 v4 v5 v6) (0 : Nat)).2) _
        exact pEnd_sound good (L := F70_L) (D := F70_D) (its := [.g, (.b true), .g, .g, .g, .g, .g, .g, .g, (.b true), .g, (.c (.int .i64 (F78 x1 x2 x3 l4 l5 l6)) h), .g, .g, .g, .g, .g, .g, (.ix id12 off12 g12), (.ld (.agg #[.int .i64 y12.1, .int .i64 y12.2.1, .int .i64 y12.2.2.1, .int .i64 y12.2.2.2])), (.c (.int .i64 (F67 x1 x2 x3 l4 l5 l6)) h), .g, (.eq ((y12.1 == (F67 x1 x2 x3 l4 l5 l6)) && ((y12.2.1 == (F78 x1 x2 x3 l4 l5 l6)) && ((y12.2.2.1 == 0) && ((y12.2.2.2 == 0) && true))))), (.b true), .g]) (ds := F70_m1_0) (ks := [1]) (e := ((F70_x1 h x1 x2 x3 v4 v5 v6) (0 : Nat)).1) (s2 := ((F70_x1 h x1 x2 x3 v4 v5 v6) (0 : Nat)).2) (hC := (And.intro c14 (And.intro (show aggEq Try.prog 37 #[.int .i64 y12.1, .int .i64 y12.2.1, .int .i64 y12.2.2.1, .int .i64 y12.2.2.2] #[.int .i64 (F67 x1 x2 x3 l4 l5 l6), .int .i64 (F78 x1 x2 x3 l4 l5 l6), .int .i64 0, .int .i64 0] = some ((y12.1 == (F67 x1 x2 x3 l4 l5 l6)) && ((y12.2.1 == (F78 x1 x2 x3 l4 l5 l6)) && ((y12.2.2.1 == 0) && ((y12.2.2.2 == 0) && true)))) by kernel_rfl) (And.intro (show AKeep h h from (AHeap.sub_refl h)) (And.intro (F67_spec x1 x2 x3 l4 l5 l6 v4 v5 v6 h hv4 hv5 hv6 _ rfl) (And.intro (At.agg (P := Try.prog) (t := 37) (v := .agg #[.int .i64 y12.1, .int .i64 y12.2.1, .int .i64 y12.2.2.1, .int .i64 y12.2.2.2]) (m := 4) at12 (by kernel_rfl) (by kernel_rfl) 0 (by kernel_rfl) rfl) (And.intro ix12 (And.intro (F78_spec x1 x2 x3 l4 l5 l6 v4 v5 v6 h hv4 hv5 hv6 _ rfl) (And.intro c10 (And.intro c9 trivial)))))))))) (hd := F70_d1) (h := by kernel_rfl)
      · intro hr
        obtain rfl := Option.some.inj hr
        show AWp Try.prog _ (Ends1 .normal (F70_h1 h x1 x2 x3 v4 v5 v6 (IntKind.i64.wrap (a8 + 1)))) _
        exact pEnd_sound good (L := F70_L) (D := F70_D) (its := [.g, (.b true), .g, .g, .g, .g, .g, .g, .g, (.b true), .g, (.c (.int .i64 (F78 x1 x2 x3 l4 l5 l6)) h), .g, .g, .g, .g, .g, .g, (.ix id12 off12 g12), (.ld (.agg #[.int .i64 y12.1, .int .i64 y12.2.1, .int .i64 y12.2.2.1, .int .i64 y12.2.2.2])), (.c (.int .i64 (F67 x1 x2 x3 l4 l5 l6)) h), .g, (.eq ((y12.1 == (F67 x1 x2 x3 l4 l5 l6)) && ((y12.2.1 == (F78 x1 x2 x3 l4 l5 l6)) && ((y12.2.2.1 == 0) && ((y12.2.2.2 == 0) && true))))), (.b false), .g, .g]) (ds := F70_m1_1) (ks := []) (e := .normal) (s2 := (F70_h1 h x1 x2 x3 v4 v5 v6 (IntKind.i64.wrap (a8 + 1)))) (hC := (And.intro c14 (And.intro (show aggEq Try.prog 37 #[.int .i64 y12.1, .int .i64 y12.2.1, .int .i64 y12.2.2.1, .int .i64 y12.2.2.2] #[.int .i64 (F67 x1 x2 x3 l4 l5 l6), .int .i64 (F78 x1 x2 x3 l4 l5 l6), .int .i64 0, .int .i64 0] = some ((y12.1 == (F67 x1 x2 x3 l4 l5 l6)) && ((y12.2.1 == (F78 x1 x2 x3 l4 l5 l6)) && ((y12.2.2.1 == 0) && ((y12.2.2.2 == 0) && true)))) by kernel_rfl) (And.intro (show AKeep h h from (AHeap.sub_refl h)) (And.intro (F67_spec x1 x2 x3 l4 l5 l6 v4 v5 v6 h hv4 hv5 hv6 _ rfl) (And.intro (At.agg (P := Try.prog) (t := 37) (v := .agg #[.int .i64 y12.1, .int .i64 y12.2.1, .int .i64 y12.2.2.1, .int .i64 y12.2.2.2]) (m := 4) at12 (by kernel_rfl) (by kernel_rfl) 0 (by kernel_rfl) rfl) (And.intro ix12 (And.intro (F78_spec x1 x2 x3 l4 l5 l6 v4 v5 v6 h hv4 hv5 hv6 _ rfl) (And.intro c10 (And.intro c9 trivial)))))))))) (hd := F70_d1) (h := by kernel_rfl)
    · refine bind_opt fun y15 e15 => ?_
      obtain ⟨id15, off15, g15, cs15, ix15, at15, rfl⟩ := SlE.at hv4 e15
      refine dec_bif (fun c17 => ?_) (fun c17 => ?_)
      · intro hr
        obtain rfl := Option.some.inj hr
        show AWp Try.prog _ (Ends1 ((F70_x1 h x1 x2 x3 v4 v5 v6) (0 : Nat)).1 ((F70_x1 h x1 x2 x3 v4 v5 v6) (0 : Nat)).2) _
        exact pEnd_sound good (L := F70_L) (D := F70_D) (its := [.g, (.b true), .g, .g, .g, .g, .g, .g, .g, (.b false), .g, .g, .g, .g, .g, (.ix id15 off15 g15), (.ld (.agg #[.int .i64 y15.1, .int .i64 y15.2.1, .int .i64 y15.2.2.1, .int .i64 y15.2.2.2])), (.c (.int .i64 (F67 x1 x2 x3 l4 l5 l6)) h), .g, (.eq ((y15.1 == (F67 x1 x2 x3 l4 l5 l6)) && ((y15.2.1 == a8) && ((y15.2.2.1 == 0) && ((y15.2.2.2 == 0) && true))))), (.b true), .g]) (ds := F70_m1_0) (ks := [1]) (e := ((F70_x1 h x1 x2 x3 v4 v5 v6) (0 : Nat)).1) (s2 := ((F70_x1 h x1 x2 x3 v4 v5 v6) (0 : Nat)).2) (hC := (And.intro c17 (And.intro (show aggEq Try.prog 37 #[.int .i64 y15.1, .int .i64 y15.2.1, .int .i64 y15.2.2.1, .int .i64 y15.2.2.2] #[.int .i64 (F67 x1 x2 x3 l4 l5 l6), .int .i64 a8, .int .i64 0, .int .i64 0] = some ((y15.1 == (F67 x1 x2 x3 l4 l5 l6)) && ((y15.2.1 == a8) && ((y15.2.2.1 == 0) && ((y15.2.2.2 == 0) && true)))) by kernel_rfl) (And.intro (show AKeep h h from (AHeap.sub_refl h)) (And.intro (F67_spec x1 x2 x3 l4 l5 l6 v4 v5 v6 h hv4 hv5 hv6 _ rfl) (And.intro (At.agg (P := Try.prog) (t := 37) (v := .agg #[.int .i64 y15.1, .int .i64 y15.2.1, .int .i64 y15.2.2.1, .int .i64 y15.2.2.2]) (m := 4) at15 (by kernel_rfl) (by kernel_rfl) 0 (by kernel_rfl) rfl) (And.intro ix15 (And.intro c10 (And.intro c9 trivial))))))))) (hd := F70_d1) (h := by kernel_rfl)
      · intro hr
        obtain rfl := Option.some.inj hr
        show AWp Try.prog _ (Ends1 .normal (F70_h1 h x1 x2 x3 v4 v5 v6 (IntKind.i64.wrap (a8 + 1)))) _
        exact pEnd_sound good (L := F70_L) (D := F70_D) (its := [.g, (.b true), .g, .g, .g, .g, .g, .g, .g, (.b false), .g, .g, .g, .g, .g, (.ix id15 off15 g15), (.ld (.agg #[.int .i64 y15.1, .int .i64 y15.2.1, .int .i64 y15.2.2.1, .int .i64 y15.2.2.2])), (.c (.int .i64 (F67 x1 x2 x3 l4 l5 l6)) h), .g, (.eq ((y15.1 == (F67 x1 x2 x3 l4 l5 l6)) && ((y15.2.1 == a8) && ((y15.2.2.1 == 0) && ((y15.2.2.2 == 0) && true))))), (.b false), .g, .g]) (ds := F70_m1_1) (ks := []) (e := .normal) (s2 := (F70_h1 h x1 x2 x3 v4 v5 v6 (IntKind.i64.wrap (a8 + 1)))) (hC := (And.intro c17 (And.intro (show aggEq Try.prog 37 #[.int .i64 y15.1, .int .i64 y15.2.1, .int .i64 y15.2.2.1, .int .i64 y15.2.2.2] #[.int .i64 (F67 x1 x2 x3 l4 l5 l6), .int .i64 a8, .int .i64 0, .int .i64 0] = some ((y15.1 == (F67 x1 x2 x3 l4 l5 l6)) && ((y15.2.1 == a8) && ((y15.2.2.1 == 0) && ((y15.2.2.2 == 0) && true)))) by kernel_rfl) (And.intro (show AKeep h h from (AHeap.sub_refl h)) (And.intro (F67_spec x1 x2 x3 l4 l5 l6 v4 v5 v6 h hv4 hv5 hv6 _ rfl) (And.intro (At.agg (P := Try.prog) (t := 37) (v := .agg #[.int .i64 y15.1, .int .i64 y15.2.1, .int .i64 y15.2.2.1, .int .i64 y15.2.2.2]) (m := 4) at15 (by kernel_rfl) (by kernel_rfl) 0 (by kernel_rfl) rfl) (And.intro ix15 (And.intro c10 (And.intro c9 trivial))))))))) (hd := F70_d1) (h := by kernel_rfl)
  · intro hr
    obtain rfl := Option.some.inj hr
    show AWp Try.prog _ (Ends1 ((F70_x1 h x1 x2 x3 v4 v5 v6) (1 : Nat)).1 ((F70_x1 h x1 x2 x3 v4 v5 v6) (1 : Nat)).2) _
    exact pEnd_sound good (L := F70_L) (D := F70_D) (its := [.g, (.b false)]) (ds := F70_m1_2) (ks := []) (e := ((F70_x1 h x1 x2 x3 v4 v5 v6) (1 : Nat)).1) (s2 := ((F70_x1 h x1 x2 x3 v4 v5 v6) (1 : Nat)).2) (hC := (And.intro c9 trivial)) (hd := F70_d1) (h := by kernel_rfl)
theorem F70_l1_0 (h : AHeap) (x1 : Int) (x2 : Int) (x3 : Bool) (l4 : List (Int × Int × Int × Int)) (v4 : Hd) (hv4 : SlE E37 4 h (sv v4) l4) (l5 : List (Int × Int × Int × Int)) (v5 : Hd) (hv5 : SlE E79 4 h (sv v5) l5) (l6 : List (Int × Int)) (v6 : Hd) (hv6 : SlE E77 2 h (sv v6) l6) (x : Int) (r : Nat) (hl : loopO (fun (s : Int) => F70_s1 x1 x2 x3 l4 l5 l6 s) x = some r) (q0 : Nat.beq r 0 = true) : AWp Try.prog (.loop (codeOf Try.prog 70 [1, 1, 1, 0, 1, 0, 0])) (Ends1 .ret (F70_x1_0 h x1 x2 x3 v4 v5 v6 r)) ((fun (s : Int) => (F70_h1 h x1 x2 x3 v4 v5 v6 s)) x) := by
  have k := loop_fun (P := Try.prog) (c := (codeOf Try.prog 70 [1, 1, 1, 0, 1, 0, 0])) (step := (fun (s : Int) => F70_s1 x1 x2 x3 l4 l5 l6 s)) (hd := (fun (s : Int) => (F70_h1 h x1 x2 x3 v4 v5 v6 s))) (X := (F70_x1 h x1 x2 x3 v4 v5 v6)) (by intro t; unfold F70_x1; cases Nat.beq t 0 <;> (intro h; cases h)) (fun x => F70_r1 h x1 x2 x3 l4 v4 hv4 l5 v5 hv5 l6 v6 hv6 x) hl
  simp only [F70_x1, q0, cond_true, cond_false] at k
  exact k
theorem F70_l1_1 (h : AHeap) (x1 : Int) (x2 : Int) (x3 : Bool) (l4 : List (Int × Int × Int × Int)) (v4 : Hd) (hv4 : SlE E37 4 h (sv v4) l4) (l5 : List (Int × Int × Int × Int)) (v5 : Hd) (hv5 : SlE E79 4 h (sv v5) l5) (l6 : List (Int × Int)) (v6 : Hd) (hv6 : SlE E77 2 h (sv v6) l6) (x : Int) (r : Nat) (hl : loopO (fun (s : Int) => F70_s1 x1 x2 x3 l4 l5 l6 s) x = some r) (q0 : Nat.beq r 0 = false) : AWp Try.prog (.loop (codeOf Try.prog 70 [1, 1, 1, 0, 1, 0, 0])) (Ends1 (.exit 0) (F70_x1_1 h x1 x2 x3 v4 v5 v6 r)) ((fun (s : Int) => (F70_h1 h x1 x2 x3 v4 v5 v6 s)) x) := by
  have k := loop_fun (P := Try.prog) (c := (codeOf Try.prog 70 [1, 1, 1, 0, 1, 0, 0])) (step := (fun (s : Int) => F70_s1 x1 x2 x3 l4 l5 l6 s)) (hd := (fun (s : Int) => (F70_h1 h x1 x2 x3 v4 v5 v6 s))) (X := (F70_x1 h x1 x2 x3 v4 v5 v6)) (by intro t; unfold F70_x1; cases Nat.beq t 0 <;> (intro h; cases h)) (fun x => F70_r1 h x1 x2 x3 l4 v4 hv4 l5 v5 hv5 l6 v6 hv6 x) hl
  simp only [F70_x1, q0, cond_true, cond_false] at k
  exact k
def F70_m2_2 : List Bool := [true, true, true, true, true, true, true, true, true, true, true, true, true, true, true, true, true, true, true, true, true, true, true, true, true, true, true, true, true, true, true, true, true, true, true, true, true, true, true, true, true, true, true, true, true, true, true, true, true, true, true, true, true, true, true, true, true, true, true, true, true, true, true, true, true, true, true, true, true, true, true, true, true, true, true, true, true, true, true, true, true, true, true, true, true, true, true, true, true]
def F70_m2_1 : List Bool := [true, false, true, false, true, true, true, true, true, true, true, true, true, true, true, true, true, true, true, true, true, true, true, true, true, true, true, true, true, true, true, true, true, true, true, true, true, true, true, true, true, true, false, false, true, true, true, true, true, true, true, true, true, true, true, true, true, true, true, true, true, true, true, true, true, true, true, true, true, true, true, true, true, true, true, true, true, true, true, true, true, true, true, true, true, true, true, true, true]
def F70_m2_0 : List Bool := [true, true, false, true, true, true, true, true, true, true, true, true, true, true, true, true, true, true, true, true, true, true, true, true, true, true, true, true, true, true, true, true, true, true, true, true, true, true, true, true, true, true, true, true, true, true, true, true, true, true, true, true, true, true, true, true, true, true, true, true, true, true, true, true, true, true, true, true, true, true, true, true, true, true, true, true, true, true, true, true, true, true, true, true, true, true, true, true, true]
def F70_s2 (x1 : Int) (x2 : Int) (x3 : Bool) (l4 : List (Int × Int × Int × Int)) (l5 : List (Int × Int × Int × Int)) (l6 : List (Int × Int)) (a20 : Int) : Option (Int ⊕ Nat) :=
  (bif decide (a20 < (IntKind.i64.wrap (x1 + x2))) then
   (Option.bind (at? l4 (IntKind.i64.wrap ((IntKind.i64.wrap ((IntKind.i64.wrap (x1 + x2)) + 1)) + a20))) fun y22 =>
   (bif (y22.1 != a20) then
    some (.inr 0)
   else
    (bif (y22.2.1 != (F78 x1 x2 x3 l4 l5 l6)) then
     some (.inr 0)
    else
     (bif (y22.2.2.2 != 0) then
      some (.inr 0)
     else
      (bif decide (a20 < x1) then
       (Option.bind (at? l6 a20) fun y28 =>
       (bif decide (y22.2.2.1 < (if y28.2 > 1 then y28.2 else 1)) then
        some (.inr 0)
       else
        some (.inl (IntKind.i64.wrap (a20 + 1)))))
      else
       some (.inl (IntKind.i64.wrap (a20 + 1))))))))
  else
   some (.inr 1))
def F70_h2 (h : AHeap) (x1 : Int) (x2 : Int) (x3 : Bool) (v4 : Hd) (v5 : Hd) (v6 : Hd)  (a20 : Int) : AS := ⟨[junk, .pointer (some ⟨1, 0, none⟩), junk, .int .i64 (IntKind.i64.wrap (x1 + x2)), junk, junk, junk, junk, junk, junk, junk, junk, junk, junk, junk, junk, junk, junk, junk, junk, junk, junk, junk, junk, junk, junk, junk, junk, junk, junk, junk, junk, junk, junk, junk, junk, junk, junk, junk, junk, junk, junk, .int .i64 (IntKind.i64.wrap (x1 + x2)), .int .i64 a20, junk, junk, junk, junk, junk, junk, junk, junk, junk, junk, junk, junk, junk, junk, junk, junk, junk, junk, junk, junk, junk, junk, junk, junk, junk, junk, junk, junk, junk, junk, junk, junk, junk, junk, junk, junk, junk, junk, junk, junk, junk, junk, junk, junk, junk], [(1, [.int .i64 x1, .int .i64 x2, .bool x3, (sv v4), (sv v5), (sv v6)])], h⟩
theorem F70_d2 : drawsOk F70_D (codeOf Try.prog 70 [1, 1, 1, 1, 0, 1, 0, 0]) = true := by kernel_rfl
def F70_x2_0 (h : AHeap)  (r : Nat) : AS := ⟨[junk, junk, .bool false, junk, junk, junk, junk, junk, junk, junk, junk, junk, junk, junk, junk, junk, junk, junk, junk, junk, junk, junk, junk, junk, junk, junk, junk, junk, junk, junk, junk, junk, junk, junk, junk, junk, junk, junk, junk, junk, junk, junk, junk, junk, junk, junk, junk, junk, junk, junk, junk, junk, junk, junk, junk, junk, junk, junk, junk, junk, junk, junk, junk, junk, junk, junk, junk, junk, junk, junk, junk, junk, junk, junk, junk, junk, junk, junk, junk, junk, junk, junk, junk, junk, junk, junk, junk, junk, junk], [], h⟩
def F70_x2_1 (h : AHeap)  (r : Nat) : AS := ⟨[junk, junk, junk, junk, junk, junk, junk, junk, junk, junk, junk, junk, junk, junk, junk, junk, junk, junk, junk, junk, junk, junk, junk, junk, junk, junk, junk, junk, junk, junk, junk, junk, junk, junk, junk, junk, junk, junk, junk, junk, junk, junk, junk, junk, junk, junk, junk, junk, junk, junk, junk, junk, junk, junk, junk, junk, junk, junk, junk, junk, junk, junk, junk, junk, junk, junk, junk, junk, junk, junk, junk, junk, junk, junk, junk, junk, junk, junk, junk, junk, junk, junk, junk, junk, junk, junk, junk, junk, junk], [], h⟩
def F70_x2 (h : AHeap) (r : Nat) : Exit × AS := (bif Nat.beq r 0 then (.ret, (F70_x2_0 h r)) else ((.exit 2), (F70_x2_1 h r)))
set_option maxRecDepth 100000 in
theorem F70_r2 (h : AHeap) (x1 : Int) (x2 : Int) (x3 : Bool) (l4 : List (Int × Int × Int × Int)) (v4 : Hd) (hv4 : SlE E37 4 h (sv v4) l4) (l5 : List (Int × Int × Int × Int)) (v5 : Hd) (hv5 : SlE E79 4 h (sv v5) l5) (l6 : List (Int × Int)) (v6 : Hd) (hv6 : SlE E77 2 h (sv v6) l6) (a20 : Int) (o : Int ⊕ Nat) : F70_s2 x1 x2 x3 l4 l5 l6 a20 = some o → RdF Try.prog (codeOf Try.prog 70 [1, 1, 1, 1, 0, 1, 0, 0]) (fun (s : Int) => (F70_h2 h x1 x2 x3 v4 v5 v6 s)) (F70_x2 h) (F70_h2 h x1 x2 x3 v4 v5 v6 a20) o := by
  unfold F70_s2
  refine dec_bif (fun c21 => ?_) (fun c21 => ?_)
  · refine bind_opt fun y22 e22 => ?_
    obtain ⟨id22, off22, g22, cs22, ix22, at22, rfl⟩ := SlE.at hv4 e22
    refine dec_bif (fun c23 => ?_) (fun c23 => ?_)
    · intro hr
      obtain rfl := Option.some.inj hr
      show AWp Try.prog _ (Ends1 ((F70_x2 h) (0 : Nat)).1 ((F70_x2 h) (0 : Nat)).2) _
      exact pEnd_sound good (L := F70_L) (D := F70_D) (its := [.g, (.b true), .g, .g, .g, .g, .g, .g, .g, .g, (.ix id22 off22 g22), (.ld (.agg #[.int .i64 y22.1, .int .i64 y22.2.1, .int .i64 y22.2.2.1, .int .i64 y22.2.2.2])), .g, .g, .g, .g, .g, .g, .g, .n, .n, .n, .n, .n, (.p true), .g, .n, .n, .n, .g, .g, .n, .n, .n, .n, .n, .n, .n, .n, .n, .n, .n, .n, .n, .n, .n, .n, .g, (.b true), .g]) (ds := F70_m2_0) (ks := [1, 7]) (e := ((F70_x2 h) (0 : Nat)).1) (s2 := ((F70_x2 h) (0 : Nat)).2) (hC := (And.intro l_t (And.intro (g_tf l_t) (And.intro l_f (And.intro l_f (And.intro l_f (And.intro l_f (And.intro l_f (And.intro l_f (And.intro l_f (And.intro l_f (And.intro l_f (And.intro l_f (And.intro (g_tf l_t) (And.intro (g_tf l_t) (And.intro (g_tf l_t) (And.intro (g_tf l_t) (And.intro (g_tf l_t) (And.intro (g_tf l_t) (And.intro (g_tf l_t) (And.intro (g_tf l_t) (And.intro c23 (And.intro (g_tf c23) (And.intro (g_tf c23) (And.intro (g_tf c23) (And.intro (g_tf c23) (And.intro (g_tf c23) (And.intro (At.agg (P := Try.prog) (t := 37) (v := .agg #[.int .i64 y22.1, .int .i64 y22.2.1, .int .i64 y22.2.2.1, .int .i64 y22.2.2.2]) (m := 4) at22 (by kernel_rfl) (by kernel_rfl) 0 (by kernel_rfl) rfl) (And.intro ix22 (And.intro c21 trivial)))))))))))))))))))))))))))))) (hd := F70_d2) (h := by kernel_rfl)
    · refine dec_bif (fun c25 => ?_) (fun c25 => ?_)
      · intro hr
        obtain rfl := Option.some.inj hr
        show AWp Try.prog _ (Ends1 ((F70_x2 h) (0 : Nat)).1 ((F70_x2 h) (0 : Nat)).2) _
        exact pEnd_sound good (L := F70_L) (D := F70_D) (its := [.g, (.b true), .g, .g, .g, .g, .g, .g, .g, .g, (.ix id22 off22 g22), (.ld (.agg #[.int .i64 y22.1, .int .i64 y22.2.1, .int .i64 y22.2.2.1, .int .i64 y22.2.2.2])), .g, .g, .g, .g, .g, .g, .g, (.w .g), (.w .g), (.w .g), (.w (.c (.int .i64 (F78 x1 x2 x3 l4 l5 l6)) h)), (.w .g), (.p false), .g, .n, .n, .n, (.p true), .g, .n, .n, .n, .n, .n, .n, .n, .n, .n, .n, .n, .n, .n, .n, .n, .n, .g, (.b true), .g]) (ds := F70_m2_0) (ks := [1, 7]) (e := ((F70_x2 h) (0 : Nat)).1) (s2 := ((F70_x2 h) (0 : Nat)).2) (hC := (And.intro l_t (And.intro (g_tf l_t) (And.intro l_f (And.intro l_f (And.intro l_f (And.intro l_f (And.intro l_f (And.intro l_f (And.intro l_f (And.intro l_f (And.intro l_f (And.intro l_f (And.intro (g_tf l_t) (And.intro (g_tf l_t) (And.intro (g_tf l_t) (And.intro (g_tf l_t) (And.intro (g_tf l_t) (And.intro c25 (And.intro (g_tf c25) (And.intro (g_tf c25) (And.intro (g_tf c25) (And.intro c23 (And.intro (g_ff c23) (And.intro (show AKeep h h from (AHeap.sub_refl h)) (And.intro (F78_spec x1 x2 x3 l4 l5 l6 v4 v5 v6 h hv4 hv5 hv6 _ rfl) (And.intro (g_ff c23) (And.intro (g_ff c23) (And.intro (g_ff c23) (And.intro (g_ff c23) (And.intro (At.agg (P := Try.prog) (t := 37) (v := .agg #[.int .i64 y22.1, .int .i64 y22.2.1, .int .i64 y22.2.2.1, .int .i64 y22.2.2.2]) (m := 4) at22 (by kernel_rfl) (by kernel_rfl) 0 (by kernel_rfl) rfl) (And.intro ix22 (And.intro c21 trivial))))))))))))))))))))))))))))))))) (hd := F70_d2) (h := by kernel_rfl)
      · refine dec_bif (fun c26 => ?_) (fun c26 => ?_)
        · intro hr
          obtain rfl := Option.some.inj hr
          show AWp Try.prog _ (Ends1 ((F70_x2 h) (0 : Nat)).1 ((F70_x2 h) (0 : Nat)).2) _
          exact pEnd_sound good (L := F70_L) (D := F70_D) (its := [.g, (.b true), .g, .g, .g, .g, .g, .g, .g, .g, (.ix id22 off22 g22), (.ld (.agg #[.int .i64 y22.1, .int .i64 y22.2.1, .int .i64 y22.2.2.1, .int .i64 y22.2.2.2])), .g, .g, .g, .g, .g, .g, .g, (.w .g), (.w .g), (.w .g), (.w (.c (.int .i64 (F78 x1 x2 x3 l4 l5 l6)) h)), (.w .g), (.p false), .g, (.w .g), (.w .g), (.w .g), (.p false), .g, .n, .n, .n, .n, .n, .n, .n, .n, .n, .n, .n, .n, .n, .n, .n, .n, (.p true), (.b true), .g]) (ds := F70_m2_0) (ks := [1, 7]) (e := ((F70_x2 h) (0 : Nat)).1) (s2 := ((F70_x2 h) (0 : Nat)).2) (hC := (And.intro l_t (And.intro c26 (And.intro (g_tf c26) (And.intro l_f (And.intro l_f (And.intro l_f (And.intro l_f (And.intro l_f (And.intro l_f (And.intro l_f (And.intro l_f (And.intro l_f (And.intro l_f (And.intro (g_tf c26) (And.intro (g_tf c26) (And.intro (g_tf c26) (And.intro (g_tf c26) (And.intro (g_tf c26) (And.intro c25 (And.intro (g_ff c25) (And.intro (g_ff c25) (And.intro (g_ff c25) (And.intro c23 (And.intro (g_ff c23) (And.intro (show AKeep h h from (AHeap.sub_refl h)) (And.intro (F78_spec x1 x2 x3 l4 l5 l6 v4 v5 v6 h hv4 hv5 hv6 _ rfl) (And.intro (g_ff c23) (And.intro (g_ff c23) (And.intro (g_ff c23) (And.intro (g_ff c23) (And.intro (At.agg (P := Try.prog) (t := 37) (v := .agg #[.int .i64 y22.1, .int .i64 y22.2.1, .int .i64 y22.2.2.1, .int .i64 y22.2.2.2]) (m := 4) at22 (by kernel_rfl) (by kernel_rfl) 0 (by kernel_rfl) rfl) (And.intro ix22 (And.intro c21 trivial)))))))))))))))))))))))))))))))))) (hd := F70_d2) (h := by kernel_rfl)
        · refine dec_bif (fun c27 => ?_) (fun c27 => ?_)
          · refine bind_opt fun y28 e28 => ?_
            obtain ⟨id28, off28, g28, cs28, ix28, at28, rfl⟩ := SlE.at hv6 e28
            refine dec_bif (fun c29 => ?_) (fun c29 => ?_)
            · intro hr
              obtain rfl := Option.some.inj hr
              show AWp Try.prog _ (Ends1 ((F70_x2 h) (0 : Nat)).1 ((F70_x2 h) (0 : Nat)).2) _
              exact pEnd_sound good (L := F70_L) (D := F70_D) (its := [.g, (.b true), .g, .g, .g, .g, .g, .g, .g, .g, (.ix id22 off22 g22), (.ld (.agg #[.int .i64 y22.1, .int .i64 y22.2.1, .int .i64 y22.2.2.1, .int .i64 y22.2.2.2])), .g, .g, .g, .g, .g, .g, .g, (.w .g), (.w .g), (.w .g), (.w (.c (.int .i64 (F78 x1 x2 x3 l4 l5 l6)) h)), (.w .g), (.p false), .g, (.w .g), (.w .g), (.w .g), (.p false), .g, (.w .g), (.w .g), (.w .g), (.w .g), (.w .g), (.w .g), (.w .g), (.w .g), (.w .g), (.w .g), (.w (.ix id28 off28 g28)), (.w .g), (.w (.ld (.int .i64 y28.2))), (.w .g), (.w .g), (.w (.p true)), (.p false), (.b true), .g]) (ds := F70_m2_0) (ks := [1, 7]) (e := ((F70_x2 h) (0 : Nat)).1) (s2 := ((F70_x2 h) (0 : Nat)).2) (hC := (And.intro c29 (And.intro c26 (And.intro c27 (And.intro (g_ff c26) (And.intro (g_tt c27) (And.intro (g_tt c27) (And.intro (At.one (P := Try.prog) (t := 3) (v := .int .i64 y28.2) at28 (by kernel_rfl) 1 rfl rfl) (And.intro (g_tt c27) (And.intro (g_tt c27) (And.intro ix28 (And.intro (g_tt c27) (And.intro (g_tt c27) (And.intro (g_tt c27) (And.intro (g_tt c27) (And.intro (g_tt c27) (And.intro (g_tt c27) (And.intro (g_ff c26) (And.intro (g_ff c26) (And.intro (g_ff c26) (And.intro (g_ff c26) (And.intro (g_ff c26) (And.intro c25 (And.intro (g_ff c25) (And.intro (g_ff c25) (And.intro (g_ff c25) (And.intro c23 (And.intro (g_ff c23) (And.intro (show AKeep h h from (AHeap.sub_refl h)) (And.intro (F78_spec x1 x2 x3 l4 l5 l6 v4 v5 v6 h hv4 hv5 hv6 _ rfl) (And.intro (g_ff c23) (And.intro (g_ff c23) (And.intro (g_ff c23) (And.intro (g_ff c23) (And.intro (At.agg (P := Try.prog) (t := 37) (v := .agg #[.int .i64 y22.1, .int .i64 y22.2.1, .int .i64 y22.2.2.1, .int .i64 y22.2.2.2]) (m := 4) at22 (by kernel_rfl) (by kernel_rfl) 0 (by kernel_rfl) rfl) (And.intro ix22 (And.intro c21 trivial))))))))))))))))))))))))))))))))))))) (hd := F70_d2) (h := by kernel_rfl)
            · intro hr
              obtain rfl := Option.some.inj hr
              show AWp Try.prog _ (Ends1 .normal (F70_h2 h x1 x2 x3 v4 v5 v6 (IntKind.i64.wrap (a20 + 1)))) _
              exact pEnd_sound good (L := F70_L) (D := F70_D) (its := [.g, (.b true), .g, .g, .g, .g, .g, .g, .g, .g, (.ix id22 off22 g22), (.ld (.agg #[.int .i64 y22.1, .int .i64 y22.2.1, .int .i64 y22.2.2.1, .int .i64 y22.2.2.2])), .g, .g, .g, .g, .g, .g, .g, (.w .g), (.w .g), (.w .g), (.w (.c (.int .i64 (F78 x1 x2 x3 l4 l5 l6)) h)), (.w .g), (.p false), .g, (.w .g), (.w .g), (.w .g), (.p false), .g, (.w .g), (.w .g), (.w .g), (.w .g), (.w .g), (.w .g), (.w .g), (.w .g), (.w .g), (.w .g), (.w (.ix id28 off28 g28)), (.w .g), (.w (.ld (.int .i64 y28.2))), (.w .g), (.w .g), (.w (.p true)), (.p false), (.b false), .g, .g]) (ds := F70_m2_1) (ks := [7]) (e := .normal) (s2 := (F70_h2 h x1 x2 x3 v4 v5 v6 (IntKind.i64.wrap (a20 + 1)))) (hC := (And.intro c29 (And.intro c26 (And.intro c27 (And.intro (g_ff c26) (And.intro (g_tt c27) (And.intro (g_tt c27) (And.intro (At.one (P := Try.prog) (t := 3) (v := .int .i64 y28.2) at28 (by kernel_rfl) 1 rfl rfl) (And.intro (g_tt c27) (And.intro (g_tt c27) (And.intro ix28 (And.intro (g_tt c27) (And.intro (g_tt c27) (And.intro (g_tt c27) (And.intro (g_tt c27) (And.intro (g_tt c27) (And.intro (g_tt c27) (And.intro (g_ff c26) (And.intro (g_ff c26) (And.intro (g_ff c26) (And.intro (g_ff c26) (And.intro (g_ff c26) (And.intro c25 (And.intro (g_ff c25) (And.intro (g_ff c25) (And.intro (g_ff c25) (And.intro c23 (And.intro (g_ff c23) (And.intro (show AKeep h h from (AHeap.sub_refl h)) (And.intro (F78_spec x1 x2 x3 l4 l5 l6 v4 v5 v6 h hv4 hv5 hv6 _ rfl) (And.intro (g_ff c23) (And.intro (g_ff c23) (And.intro (g_ff c23) (And.intro (g_ff c23) (And.intro (At.agg (P := Try.prog) (t := 37) (v := .agg #[.int .i64 y22.1, .int .i64 y22.2.1, .int .i64 y22.2.2.1, .int .i64 y22.2.2.2]) (m := 4) at22 (by kernel_rfl) (by kernel_rfl) 0 (by kernel_rfl) rfl) (And.intro ix22 (And.intro c21 trivial))))))))))))))))))))))))))))))))))))) (hd := F70_d2) (h := by kernel_rfl)
          · intro hr
            obtain rfl := Option.some.inj hr
            show AWp Try.prog _ (Ends1 .normal (F70_h2 h x1 x2 x3 v4 v5 v6 (IntKind.i64.wrap (a20 + 1)))) _
            exact pEnd_sound good (L := F70_L) (D := F70_D) (its := [.g, (.b true), .g, .g, .g, .g, .g, .g, .g, .g, (.ix id22 off22 g22), (.ld (.agg #[.int .i64 y22.1, .int .i64 y22.2.1, .int .i64 y22.2.2.1, .int .i64 y22.2.2.2])), .g, .g, .g, .g, .g, .g, .g, (.w .g), (.w .g), (.w .g), (.w (.c (.int .i64 (F78 x1 x2 x3 l4 l5 l6)) h)), (.w .g), (.p false), .g, (.w .g), (.w .g), (.w .g), (.p false), .g, (.w .g), (.w .g), (.w .g), (.w .g), (.w .g), .n, .n, .n, .n, .n, .n, .n, .n, .n, .n, (.w (.p false)), (.p false), (.b false), .g, .g]) (ds := F70_m2_1) (ks := [7]) (e := .normal) (s2 := (F70_h2 h x1 x2 x3 v4 v5 v6 (IntKind.i64.wrap (a20 + 1)))) (hC := (And.intro l_f (And.intro c26 (And.intro c27 (And.intro (g_ff c26) (And.intro (g_ft c27) (And.intro (g_ft c27) (And.intro (g_ft c27) (And.intro (g_ft c27) (And.intro (g_ft c27) (And.intro (g_ft c27) (And.intro (g_ft c27) (And.intro (g_ft c27) (And.intro (g_ft c27) (And.intro (g_ft c27) (And.intro (g_ff c26) (And.intro (g_ff c26) (And.intro (g_ff c26) (And.intro (g_ff c26) (And.intro (g_ff c26) (And.intro c25 (And.intro (g_ff c25) (And.intro (g_ff c25) (And.intro (g_ff c25) (And.intro c23 (And.intro (g_ff c23) (And.intro (show AKeep h h from (AHeap.sub_refl h)) (And.intro (F78_spec x1 x2 x3 l4 l5 l6 v4 v5 v6 h hv4 hv5 hv6 _ rfl) (And.intro (g_ff c23) (And.intro (g_ff c23) (And.intro (g_ff c23) (And.intro (g_ff c23) (And.intro (At.agg (P := Try.prog) (t := 37) (v := .agg #[.int .i64 y22.1, .int .i64 y22.2.1, .int .i64 y22.2.2.1, .int .i64 y22.2.2.2]) (m := 4) at22 (by kernel_rfl) (by kernel_rfl) 0 (by kernel_rfl) rfl) (And.intro ix22 (And.intro c21 trivial))))))))))))))))))))))))))))))))))) (hd := F70_d2) (h := by kernel_rfl)
  · intro hr
    obtain rfl := Option.some.inj hr
    show AWp Try.prog _ (Ends1 ((F70_x2 h) (1 : Nat)).1 ((F70_x2 h) (1 : Nat)).2) _
    exact pEnd_sound good (L := F70_L) (D := F70_D) (its := [.g, (.b false)]) (ds := F70_m2_2) (ks := [1]) (e := ((F70_x2 h) (1 : Nat)).1) (s2 := ((F70_x2 h) (1 : Nat)).2) (hC := (And.intro c21 trivial)) (hd := F70_d2) (h := by kernel_rfl)
theorem F70_l2_0 (h : AHeap) (x1 : Int) (x2 : Int) (x3 : Bool) (l4 : List (Int × Int × Int × Int)) (v4 : Hd) (hv4 : SlE E37 4 h (sv v4) l4) (l5 : List (Int × Int × Int × Int)) (v5 : Hd) (hv5 : SlE E79 4 h (sv v5) l5) (l6 : List (Int × Int)) (v6 : Hd) (hv6 : SlE E77 2 h (sv v6) l6) (x : Int) (r : Nat) (hl : loopO (fun (s : Int) => F70_s2 x1 x2 x3 l4 l5 l6 s) x = some r) (q0 : Nat.beq r 0 = true) : AWp Try.prog (.loop (codeOf Try.prog 70 [1, 1, 1, 1, 0, 1, 0, 0])) (Ends1 .ret (F70_x2_0 h r)) ((fun (s : Int) => (F70_h2 h x1 x2 x3 v4 v5 v6 s)) x) := by
  have k := loop_fun (P := Try.prog) (c := (codeOf Try.prog 70 [1, 1, 1, 1, 0, 1, 0, 0])) (step := (fun (s : Int) => F70_s2 x1 x2 x3 l4 l5 l6 s)) (hd := (fun (s : Int) => (F70_h2 h x1 x2 x3 v4 v5 v6 s))) (X := (F70_x2 h)) (by intro t; unfold F70_x2; cases Nat.beq t 0 <;> (intro h; cases h)) (fun x => F70_r2 h x1 x2 x3 l4 v4 hv4 l5 v5 hv5 l6 v6 hv6 x) hl
  simp only [F70_x2, q0, cond_true, cond_false] at k
  exact k
theorem F70_l2_1 (h : AHeap) (x1 : Int) (x2 : Int) (x3 : Bool) (l4 : List (Int × Int × Int × Int)) (v4 : Hd) (hv4 : SlE E37 4 h (sv v4) l4) (l5 : List (Int × Int × Int × Int)) (v5 : Hd) (hv5 : SlE E79 4 h (sv v5) l5) (l6 : List (Int × Int)) (v6 : Hd) (hv6 : SlE E77 2 h (sv v6) l6) (x : Int) (r : Nat) (hl : loopO (fun (s : Int) => F70_s2 x1 x2 x3 l4 l5 l6 s) x = some r) (q0 : Nat.beq r 0 = false) : AWp Try.prog (.loop (codeOf Try.prog 70 [1, 1, 1, 1, 0, 1, 0, 0])) (Ends1 (.exit 2) (F70_x2_1 h r)) ((fun (s : Int) => (F70_h2 h x1 x2 x3 v4 v5 v6 s)) x) := by
  have k := loop_fun (P := Try.prog) (c := (codeOf Try.prog 70 [1, 1, 1, 1, 0, 1, 0, 0])) (step := (fun (s : Int) => F70_s2 x1 x2 x3 l4 l5 l6 s)) (hd := (fun (s : Int) => (F70_h2 h x1 x2 x3 v4 v5 v6 s))) (X := (F70_x2 h)) (by intro t; unfold F70_x2; cases Nat.beq t 0 <;> (intro h; cases h)) (fun x => F70_r2 h x1 x2 x3 l4 v4 hv4 l5 v5 hv5 l6 v6 hv6 x) hl
  simp only [F70_x2, q0, cond_true, cond_false] at k
  exact k
def F70 (x1 : Int) (x2 : Int) (x3 : Bool) (l4 : List (Int × Int × Int × Int)) (l5 : List (Int × Int × Int × Int)) (l6 : List (Int × Int)) : Option (Bool) :=
  (bif (F70__1 x1 x2 l4) then
   some (false)
  else
   (Option.bind (loopO (fun (s : Int) => F70_s1 x1 x2 x3 l4 l5 l6 s) 0) fun y18 =>
   (bif (Nat.beq y18 0) then
    some (false)
   else
    (Option.bind (loopO (fun (s : Int) => F70_s2 x1 x2 x3 l4 l5 l6 s) 0) fun y30 =>
    (bif (Nat.beq y30 0) then
     some (false)
    else
     some (true))))))
set_option maxRecDepth 100000 in
theorem F70_spec (x1 : Int) (x2 : Int) (x3 : Bool) (l4 : List (Int × Int × Int × Int)) (l5 : List (Int × Int × Int × Int)) (l6 : List (Int × Int)) (v4 : Hd) (v5 : Hd) (v6 : Hd) (h : AHeap) (hv4 : SlE E37 4 h (sv v4) l4) (hv5 : SlE E79 4 h (sv v5) l5) (hv6 : SlE E77 2 h (sv v6) l6) (r : Bool) : F70 x1 x2 x3 l4 l5 l6 = some r → ACalls Try.prog 70 [.agg #[.int .i64 x1, .int .i64 x2, .bool x3, (sv v4), (sv v5), (sv v6)]] h (fun v' h'' => v' = (.bool r : Value) ∧ h'' = h) := by
  unfold F70
  refine dec_bif (fun c7 => ?_) (fun c7 => ?_)
  · intro hr
    obtain rfl := Option.some.inj hr
    exact pFun_sound good tab_ok (f := 70) (its := [.g, .g, .g, .g, .g, .g, .g, .g, .g, .g, (.ln l4.length), .g, .g, .g, .g, (.b true), .g]) (args := [.agg #[.int .i64 x1, .int .i64 x2, .bool x3, (sv v4), (sv v5), (sv v6)]]) (h := h) (h' := h) (v := .bool false) (hC := (And.intro c7 (And.intro (SlE.len hv4) trivial))) (hr := by kernel_rfl)
  · refine bind_opt fun y18 e18 => ?_
    refine dec_bif (fun c19 => ?_) (fun c19 => ?_)
    · intro hr
      obtain rfl := Option.some.inj hr
      exact pFun_sound good tab_ok (f := 70) (its := [.g, .g, .g, .g, .g, .g, .g, .g, .g, .g, (.ln l4.length), .g, .g, .g, .g, (.b false), .g, .g, .g, (.l F70_m1_1 [] .ret (F70_x1_0 h x1 x2 x3 v4 v5 v6 y18))]) (args := [.agg #[.int .i64 x1, .int .i64 x2, .bool x3, (sv v4), (sv v5), (sv v6)]]) (h := h) (h' := h) (v := .bool false) (hC := (And.intro (F70_l1_0 h x1 x2 x3 l4 v4 hv4 l5 v5 hv5 l6 v6 hv6 0 y18 e18 c19) (And.intro c7 (And.intro (SlE.len hv4) trivial)))) (hr := by kernel_rfl)
    · refine bind_opt fun y30 e30 => ?_
      refine dec_bif (fun c31 => ?_) (fun c31 => ?_)
      · intro hr
        obtain rfl := Option.some.inj hr
        exact pFun_sound good tab_ok (f := 70) (its := [.g, .g, .g, .g, .g, .g, .g, .g, .g, .g, (.ln l4.length), .g, .g, .g, .g, (.b false), .g, .g, .g, (.l F70_m1_1 [] (.exit 0) (F70_x1_1 h x1 x2 x3 v4 v5 v6 y18)), .g, .g, (.l F70_m2_1 [] .ret (F70_x2_0 h y30))]) (args := [.agg #[.int .i64 x1, .int .i64 x2, .bool x3, (sv v4), (sv v5), (sv v6)]]) (h := h) (h' := h) (v := .bool false) (hC := (And.intro (F70_l2_0 h x1 x2 x3 l4 v4 hv4 l5 v5 hv5 l6 v6 hv6 0 y30 e30 c31) (And.intro (F70_l1_1 h x1 x2 x3 l4 v4 hv4 l5 v5 hv5 l6 v6 hv6 0 y18 e18 c19) (And.intro c7 (And.intro (SlE.len hv4) trivial))))) (hr := by kernel_rfl)
      · intro hr
        obtain rfl := Option.some.inj hr
        exact pFun_sound good tab_ok (f := 70) (its := [.g, .g, .g, .g, .g, .g, .g, .g, .g, .g, (.ln l4.length), .g, .g, .g, .g, (.b false), .g, .g, .g, (.l F70_m1_1 [] (.exit 0) (F70_x1_1 h x1 x2 x3 v4 v5 v6 y18)), .g, .g, (.l F70_m2_1 [] (.exit 2) (F70_x2_1 h y30)), .g]) (args := [.agg #[.int .i64 x1, .int .i64 x2, .bool x3, (sv v4), (sv v5), (sv v6)]]) (h := h) (h' := h) (v := .bool true) (hC := (And.intro (F70_l2_1 h x1 x2 x3 l4 v4 hv4 l5 v5 hv5 l6 v6 hv6 0 y30 e30 c31) (And.intro (F70_l1_1 h x1 x2 x3 l4 v4 hv4 l5 v5 hv5 l6 v6 hv6 0 y18 e18 c19) (And.intro c7 (And.intro (SlE.len hv4) trivial))))) (hr := by kernel_rfl)
/-! 46 jacquard/dataflow.Valid -/
def F46_L : List Nat := [1, 4, 6, 8]
def F46_D : List (Nat × List (Nat × Nat)) := []
def F46_m1_2 : List Bool := [true, false, true, true, true, true, true, true, true, true, true, true, true, true, true, true, true, true, true, true, true, true, true, true, true, true, true, true, true, true, true, true, true, true, true, true, true, true, true, true, true, true, true, true, true, true, true, true, true, true, true, true, true, true, true, true, true, true, true, true, true, true, true, true, true, true, true, true, true, true, true, true, true, true, true, true, true, true, true, true, true, true, true, true, true, true, true, true, true, true, true, true, true, true, true, true, true, true, true, true, true, true, true, true, true, true, true, true, true, true, true, true, true, true, true, true, true]
def F46_m1_1 : List Bool := [true, false, true, true, true, true, true, true, true, true, true, true, true, true, true, true, true, true, true, true, true, true, true, true, true, true, true, true, true, true, true, true, true, true, true, true, true, false, false, false, true, true, true, true, true, true, true, true, true, true, true, true, true, true, true, true, true, true, true, true, true, true, true, true, true, true, true, true, true, true, true, true, true, true, true, true, true, true, true, true, true, true, true, true, true, true, true, true, true, true, true, true, true, true, true, true, true, true, true, true, true, true, true, true, true, true, true, true, true, true, true, true, true, true, true, true, true]
def F46_m1_0 : List Bool := [true, true, false, true, true, true, true, true, true, true, true, true, true, true, true, true, true, true, true, true, true, true, true, true, true, true, true, true, true, true, true, true, true, true, true, true, true, true, true, true, true, true, true, true, true, true, true, true, true, true, true, true, true, true, true, true, true, true, true, true, true, true, true, true, true, true, true, true, true, true, true, true, true, true, true, true, true, true, true, true, true, true, true, true, true, true, true, true, true, true, true, true, true, true, true, true, true, true, true, true, true, true, true, true, true, true, true, true, true, true, true, true, true, true, true, true, true]
def F46_s1 (x1 : Int) (x2 : Int) (x3 : Bool) (l4 : List (Int × Int × Int × Int)) (l5 : List (Int × Int × Int × Int)) (l6 : List (Int × Int)) (a12 : Int) : Option (Int ⊕ Nat) :=
  (bif decide (a12 < (l4.length : Int)) then
   (Option.bind (at? l4 a12) fun y14 =>
   (bif (!(F69 x1 x2 x3 l4 l5 l6 y14.1 y14.2.1 y14.2.2.1 y14.2.2.2)) then
    some (.inr 0)
   else
    some (.inl (IntKind.i64.wrap (a12 + 1)))))
  else
   some (.inr 1))
def F46_h1 (h : AHeap) (x1 : Int) (x2 : Int) (x3 : Bool) (l4 : List (Int × Int × Int × Int)) (v4 : Hd) (v5 : Hd) (v6 : Hd)  (a12 : Int) : AS := ⟨[junk, .pointer (some ⟨1, 0, none⟩), junk, junk, junk, junk, junk, junk, junk, junk, junk, junk, junk, junk, junk, junk, junk, junk, junk, junk, junk, junk, junk, junk, junk, junk, junk, junk, junk, junk, junk, junk, junk, junk, junk, junk, junk, (sv v4), .int .i64 (l4.length : Int), .int .i64 a12, junk, junk, junk, junk, junk, junk, junk, junk, junk, junk, junk, junk, junk, junk, junk, junk, junk, junk, junk, junk, junk, junk, junk, junk, junk, junk, junk, junk, junk, junk, junk, junk, junk, junk, junk, junk, junk, junk, junk, junk, junk, junk, junk, junk, junk, junk, junk, junk, junk, junk, junk, junk, junk, junk, junk, junk, junk, junk, junk, junk, junk, junk, junk, junk, junk, junk, junk, junk, junk, junk, junk, junk, junk, junk, junk, junk, junk], [(1, [.int .i64 x1, .int .i64 x2, .bool x3, (sv v4), (sv v5), (sv v6)])], h⟩
theorem F46_d1 : drawsOk F46_D (codeOf Try.prog 46 [1, 1, 0, 1, 0, 0]) = true := by kernel_rfl
def F46_x1_0 (h : AHeap) (x1 : Int) (x2 : Int) (x3 : Bool) (v4 : Hd) (v5 : Hd) (v6 : Hd)  (r : Nat) : AS := ⟨[junk, junk, .bool false, junk, junk, junk, junk, junk, junk, junk, junk, junk, junk, junk, junk, junk, junk, junk, junk, junk, junk, junk, junk, junk, junk, junk, junk, junk, junk, junk, junk, junk, junk, junk, junk, junk, junk, junk, junk, junk, junk, junk, junk, junk, junk, junk, junk, junk, junk, junk, junk, junk, junk, junk, junk, junk, junk, junk, junk, junk, junk, junk, junk, junk, junk, junk, junk, junk, junk, junk, junk, junk, junk, junk, junk, junk, junk, junk, junk, junk, junk, junk, junk, junk, junk, junk, junk, junk, junk, junk, junk, junk, junk, junk, junk, junk, junk, junk, junk, junk, junk, junk, junk, junk, junk, junk, junk, junk, junk, junk, junk, junk, junk, junk, junk, junk, junk], [], h⟩
def F46_x1_1 (h : AHeap) (x1 : Int) (x2 : Int) (x3 : Bool) (v4 : Hd) (v5 : Hd) (v6 : Hd)  (r : Nat) : AS := ⟨[junk, .pointer (some ⟨1, 0, none⟩), junk, junk, junk, junk, junk, junk, junk, junk, junk, junk, junk, junk, junk, junk, junk, junk, junk, junk, junk, junk, junk, junk, junk, junk, junk, junk, junk, junk, junk, junk, junk, junk, junk, junk, junk, junk, junk, junk, junk, junk, junk, junk, junk, junk, junk, junk, junk, junk, junk, junk, junk, junk, junk, junk, junk, junk, junk, junk, junk, junk, junk, junk, junk, junk, junk, junk, junk, junk, junk, junk, junk, junk, junk, junk, junk, junk, junk, junk, junk, junk, junk, junk, junk, junk, junk, junk, junk, junk, junk, junk, junk, junk, junk, junk, junk, junk, junk, junk, junk, junk, junk, junk, junk, junk, junk, junk, junk, junk, junk, junk, junk, junk, junk, junk, junk], [(1, [.int .i64 x1, .int .i64 x2, .bool x3, (sv v4), (sv v5), (sv v6)])], h⟩
def F46_x1 (h : AHeap) (x1 : Int) (x2 : Int) (x3 : Bool) (v4 : Hd) (v5 : Hd) (v6 : Hd) (r : Nat) : Exit × AS := (bif Nat.beq r 0 then (.ret, (F46_x1_0 h x1 x2 x3 v4 v5 v6 r)) else ((.exit 0), (F46_x1_1 h x1 x2 x3 v4 v5 v6 r)))
set_option maxRecDepth 100000 in
theorem F46_r1 (h : AHeap) (x1 : Int) (x2 : Int) (x3 : Bool) (l4 : List (Int × Int × Int × Int)) (v4 : Hd) (hv4 : SlE E37 4 h (sv v4) l4) (l5 : List (Int × Int × Int × Int)) (v5 : Hd) (hv5 : SlE E79 4 h (sv v5) l5) (l6 : List (Int × Int)) (v6 : Hd) (hv6 : SlE E77 2 h (sv v6) l6) (a12 : Int) (o : Int ⊕ Nat) : F46_s1 x1 x2 x3 l4 l5 l6 a12 = some o → RdF Try.prog (codeOf Try.prog 46 [1, 1, 0, 1, 0, 0]) (fun (s : Int) => (F46_h1 h x1 x2 x3 l4 v4 v5 v6 s)) (F46_x1 h x1 x2 x3 v4 v5 v6) (F46_h1 h x1 x2 x3 l4 v4 v5 v6 a12) o := by
  unfold F46_s1
  refine dec_bif (fun c13 => ?_) (fun c13 => ?_)
  · refine bind_opt fun y14 e14 => ?_
    obtain ⟨id14, off14, g14, cs14, ix14, at14, rfl⟩ := SlE.at hv4 e14
    refine dec_bif (fun c16 => ?_) (fun c16 => ?_)
    · intro hr
      obtain rfl := Option.some.inj hr
      show AWp Try.prog _ (Ends1 ((F46_x1 h x1 x2 x3 v4 v5 v6) (0 : Nat)).1 ((F46_x1 h x1 x2 x3 v4 v5 v6) (0 : Nat)).2) _
      exact pEnd_sound good (L := F46_L) (D := F46_D) (its := [.g, (.b true), (.ix id14 off14 g14), (.ld (.agg #[.int .i64 y14.1, .int .i64 y14.2.1, .int .i64 y14.2.2.1, .int .i64 y14.2.2.2])), .g, .g, .g, .g, (.c (.bool (F69 x1 x2 x3 l4 l5 l6 y14.1 y14.2.1 y14.2.2.1 y14.2.2.2)) h), .g, (.b true), .g]) (ds := F46_m1_0) (ks := [1, 4]) (e := ((F46_x1 h x1 x2 x3 v4 v5 v6) (0 : Nat)).1) (s2 := ((F46_x1 h x1 x2 x3 v4 v5 v6) (0 : Nat)).2) (hC := (And.intro c16 (And.intro (F69_spec x1 x2 x3 l4 l5 l6 y14.1 y14.2.1 y14.2.2.1 y14.2.2.2 v4 v5 v6 h hv4 hv5 hv6 _ rfl) (And.intro (At.agg (P := Try.prog) (t := 37) (v := .agg #[.int .i64 y14.1, .int .i64 y14.2.1, .int .i64 y14.2.2.1, .int .i64 y14.2.2.2]) (m := 4) at14 (by kernel_rfl) (by kernel_rfl) 0 (by kernel_rfl) rfl) (And.intro ix14 (And.intro c13 trivial)))))) (hd := F46_d1) (h := by kernel_rfl)
    · intro hr
      obtain rfl := Option.some.inj hr
      show AWp Try.prog _ (Ends1 .normal (F46_h1 h x1 x2 x3 l4 v4 v5 v6 (IntKind.i64.wrap (a12 + 1)))) _
      exact pEnd_sound good (L := F46_L) (D := F46_D) (its := [.g, (.b true), (.ix id14 off14 g14), (.ld (.agg #[.int .i64 y14.1, .int .i64 y14.2.1, .int .i64 y14.2.2.1, .int .i64 y14.2.2.2])), .g, .g, .g, .g, (.c (.bool (F69 x1 x2 x3 l4 l5 l6 y14.1 y14.2.1 y14.2.2.1 y14.2.2.2)) h), .g, (.b false), .g, .g]) (ds := F46_m1_1) (ks := [4]) (e := .normal) (s2 := (F46_h1 h x1 x2 x3 l4 v4 v5 v6 (IntKind.i64.wrap (a12 + 1)))) (hC := (And.intro c16 (And.intro (F69_spec x1 x2 x3 l4 l5 l6 y14.1 y14.2.1 y14.2.2.1 y14.2.2.2 v4 v5 v6 h hv4 hv5 hv6 _ rfl) (And.intro (At.agg (P := Try.prog) (t := 37) (v := .agg #[.int .i64 y14.1, .int .i64 y14.2.1, .int .i64 y14.2.2.1, .int .i64 y14.2.2.2]) (m := 4) at14 (by kernel_rfl) (by kernel_rfl) 0 (by kernel_rfl) rfl) (And.intro ix14 (And.intro c13 trivial)))))) (hd := F46_d1) (h := by kernel_rfl)
  · intro hr
    obtain rfl := Option.some.inj hr
    show AWp Try.prog _ (Ends1 ((F46_x1 h x1 x2 x3 v4 v5 v6) (1 : Nat)).1 ((F46_x1 h x1 x2 x3 v4 v5 v6) (1 : Nat)).2) _
    exact pEnd_sound good (L := F46_L) (D := F46_D) (its := [.g, (.b false)]) (ds := F46_m1_2) (ks := []) (e := ((F46_x1 h x1 x2 x3 v4 v5 v6) (1 : Nat)).1) (s2 := ((F46_x1 h x1 x2 x3 v4 v5 v6) (1 : Nat)).2) (hC := (And.intro c13 trivial)) (hd := F46_d1) (h := by kernel_rfl)
theorem F46_l1_0 (h : AHeap) (x1 : Int) (x2 : Int) (x3 : Bool) (l4 : List (Int × Int × Int × Int)) (v4 : Hd) (hv4 : SlE E37 4 h (sv v4) l4) (l5 : List (Int × Int × Int × Int)) (v5 : Hd) (hv5 : SlE E79 4 h (sv v5) l5) (l6 : List (Int × Int)) (v6 : Hd) (hv6 : SlE E77 2 h (sv v6) l6) (x : Int) (r : Nat) (hl : loopO (fun (s : Int) => F46_s1 x1 x2 x3 l4 l5 l6 s) x = some r) (q0 : Nat.beq r 0 = true) : AWp Try.prog (.loop (codeOf Try.prog 46 [1, 1, 0, 1, 0, 0])) (Ends1 .ret (F46_x1_0 h x1 x2 x3 v4 v5 v6 r)) ((fun (s : Int) => (F46_h1 h x1 x2 x3 l4 v4 v5 v6 s)) x) := by
  have k := loop_fun (P := Try.prog) (c := (codeOf Try.prog 46 [1, 1, 0, 1, 0, 0])) (step := (fun (s : Int) => F46_s1 x1 x2 x3 l4 l5 l6 s)) (hd := (fun (s : Int) => (F46_h1 h x1 x2 x3 l4 v4 v5 v6 s))) (X := (F46_x1 h x1 x2 x3 v4 v5 v6)) (by intro t; unfold F46_x1; cases Nat.beq t 0 <;> (intro h; cases h)) (fun x => F46_r1 h x1 x2 x3 l4 v4 hv4 l5 v5 hv5 l6 v6 hv6 x) hl
  simp only [F46_x1, q0, cond_true, cond_false] at k
  exact k
theorem F46_l1_1 (h : AHeap) (x1 : Int) (x2 : Int) (x3 : Bool) (l4 : List (Int × Int × Int × Int)) (v4 : Hd) (hv4 : SlE E37 4 h (sv v4) l4) (l5 : List (Int × Int × Int × Int)) (v5 : Hd) (hv5 : SlE E79 4 h (sv v5) l5) (l6 : List (Int × Int)) (v6 : Hd) (hv6 : SlE E77 2 h (sv v6) l6) (x : Int) (r : Nat) (hl : loopO (fun (s : Int) => F46_s1 x1 x2 x3 l4 l5 l6 s) x = some r) (q0 : Nat.beq r 0 = false) : AWp Try.prog (.loop (codeOf Try.prog 46 [1, 1, 0, 1, 0, 0])) (Ends1 (.exit 0) (F46_x1_1 h x1 x2 x3 v4 v5 v6 r)) ((fun (s : Int) => (F46_h1 h x1 x2 x3 l4 v4 v5 v6 s)) x) := by
  have k := loop_fun (P := Try.prog) (c := (codeOf Try.prog 46 [1, 1, 0, 1, 0, 0])) (step := (fun (s : Int) => F46_s1 x1 x2 x3 l4 l5 l6 s)) (hd := (fun (s : Int) => (F46_h1 h x1 x2 x3 l4 v4 v5 v6 s))) (X := (F46_x1 h x1 x2 x3 v4 v5 v6)) (by intro t; unfold F46_x1; cases Nat.beq t 0 <;> (intro h; cases h)) (fun x => F46_r1 h x1 x2 x3 l4 v4 hv4 l5 v5 hv5 l6 v6 hv6 x) hl
  simp only [F46_x1, q0, cond_true, cond_false] at k
  exact k
def F46_m2_2 : List Bool := [true, false, true, true, true, true, true, true, true, true, true, true, true, true, true, true, true, true, true, true, true, true, true, true, true, true, true, true, true, true, true, true, true, true, true, true, true, true, true, true, true, true, true, true, true, true, true, true, true, true, true, true, true, true, true, true, true, true, true, true, true, true, true, true, true, true, true, true, true, true, true, true, true, true, true, true, true, true, true, true, true, true, true, true, true, true, true, true, true, true, true, true, true, true, true, true, true, true, true, true, true, true, true, true, true, true, true, true, true, true, true, true, true, true, true, true, true]
def F46_m2_1 : List Bool := [true, false, true, true, true, true, true, true, true, true, true, true, true, true, true, true, true, true, true, true, true, true, true, true, true, true, true, true, true, true, true, true, true, true, true, true, true, true, true, true, true, true, true, true, true, true, true, true, true, false, false, false, true, true, true, true, true, true, true, true, true, true, true, true, true, true, true, true, true, true, true, true, true, true, true, true, true, true, true, true, true, true, true, true, true, true, true, true, true, true, true, true, true, true, true, true, true, true, true, true, true, true, true, true, true, true, true, true, true, true, true, true, true, true, true, true, true]
def F46_m2_0 : List Bool := [true, true, false, true, true, true, true, true, true, true, true, true, true, true, true, true, true, true, true, true, true, true, true, true, true, true, true, true, true, true, true, true, true, true, true, true, true, true, true, true, true, true, true, true, true, true, true, true, true, true, true, true, true, true, true, true, true, true, true, true, true, true, true, true, true, true, true, true, true, true, true, true, true, true, true, true, true, true, true, true, true, true, true, true, true, true, true, true, true, true, true, true, true, true, true, true, true, true, true, true, true, true, true, true, true, true, true, true, true, true, true, true, true, true, true, true, true]
def F46_s2 (l5 : List (Int × Int × Int × Int)) (a19 : Int) : Option (Int ⊕ Nat) :=
  (bif decide (a19 < (l5.length : Int)) then
   (Option.bind (at? l5 a19) fun y21 =>
   (bif decide (y21.1 < 1) then
    some (.inr 0)
   else
    (bif decide (y21.1 > 4) then
     some (.inr 0)
    else
     (bif decide (y21.2.2.2 < 1) then
      some (.inr 0)
     else
      (bif decide (y21.2.2.2 > 1024) then
       some (.inr 0)
      else
       some (.inl (IntKind.i64.wrap (a19 + 1))))))))
  else
   some (.inr 1))
def F46_h2 (h : AHeap) (x1 : Int) (x2 : Int) (x3 : Bool) (v4 : Hd) (l5 : List (Int × Int × Int × Int)) (v5 : Hd) (v6 : Hd)  (a19 : Int) : AS := ⟨[junk, .pointer (some ⟨1, 0, none⟩), junk, junk, junk, junk, junk, junk, junk, junk, junk, junk, junk, junk, junk, junk, junk, junk, junk, junk, junk, junk, junk, junk, junk, junk, junk, junk, junk, junk, junk, junk, junk, junk, junk, junk, junk, junk, junk, junk, junk, junk, junk, junk, junk, junk, junk, junk, junk, (sv v5), .int .i64 (l5.length : Int), .int .i64 a19, junk, junk, junk, junk, junk, junk, junk, junk, junk, junk, junk, junk, junk, junk, junk, junk, junk, junk, junk, junk, junk, junk, junk, junk, junk, junk, junk, junk, junk, junk, junk, junk, junk, junk, junk, junk, junk, junk, junk, junk, junk, junk, junk, junk, junk, junk, junk, junk, junk, junk, junk, junk, junk, junk, junk, junk, junk, junk, junk, junk, junk, junk, junk, junk, junk], [(1, [.int .i64 x1, .int .i64 x2, .bool x3, (sv v4), (sv v5), (sv v6)])], h⟩
theorem F46_d2 : drawsOk F46_D (codeOf Try.prog 46 [1, 1, 1, 0, 1, 0, 0]) = true := by kernel_rfl
def F46_x2_0 (h : AHeap) (x1 : Int) (x2 : Int) (x3 : Bool) (v4 : Hd) (v5 : Hd) (v6 : Hd)  (r : Nat) : AS := ⟨[junk, junk, .bool false, junk, junk, junk, junk, junk, junk, junk, junk, junk, junk, junk, junk, junk, junk, junk, junk, junk, junk, junk, junk, junk, junk, junk, junk, junk, junk, junk, junk, junk, junk, junk, junk, junk, junk, junk, junk, junk, junk, junk, junk, junk, junk, junk, junk, junk, junk, junk, junk, junk, junk, junk, junk, junk, junk, junk, junk, junk, junk, junk, junk, junk, junk, junk, junk, junk, junk, junk, junk, junk, junk, junk, junk, junk, junk, junk, junk, junk, junk, junk, junk, junk, junk, junk, junk, junk, junk, junk, junk, junk, junk, junk, junk, junk, junk, junk, junk, junk, junk, junk, junk, junk, junk, junk, junk, junk, junk, junk, junk, junk, junk, junk, junk, junk, junk], [], h⟩
def F46_x2_1 (h : AHeap) (x1 : Int) (x2 : Int) (x3 : Bool) (v4 : Hd) (v5 : Hd) (v6 : Hd)  (r : Nat) : AS := ⟨[junk, .pointer (some ⟨1, 0, none⟩), junk, junk, junk, junk, junk, junk, junk, junk, junk, junk, junk, junk, junk, junk, junk, junk, junk, junk, junk, junk, junk, junk, junk, junk, junk, junk, junk, junk, junk, junk, junk, junk, junk, junk, junk, junk, junk, junk, junk, junk, junk, junk, junk, junk, junk, junk, junk, junk, junk, junk, junk, junk, junk, junk, junk, junk, junk, junk, junk, junk, junk, junk, junk, junk, junk, junk, junk, junk, junk, junk, junk, junk, junk, junk, junk, junk, junk, junk, junk, junk, junk, junk, junk, junk, junk, junk, junk, junk, junk, junk, junk, junk, junk, junk, junk, junk, junk, junk, junk, junk, junk, junk, junk, junk, junk, junk, junk, junk, junk, junk, junk, junk, junk, junk, junk], [(1, [.int .i64 x1, .int .i64 x2, .bool x3, (sv v4), (sv v5), (sv v6)])], h⟩
def F46_x2 (h : AHeap) (x1 : Int) (x2 : Int) (x3 : Bool) (v4 : Hd) (v5 : Hd) (v6 : Hd) (r : Nat) : Exit × AS := (bif Nat.beq r 0 then (.ret, (F46_x2_0 h x1 x2 x3 v4 v5 v6 r)) else ((.exit 2), (F46_x2_1 h x1 x2 x3 v4 v5 v6 r)))
set_option maxRecDepth 100000 in
theorem F46_r2 (h : AHeap) (x1 : Int) (x2 : Int) (x3 : Bool) (v4 : Hd) (l5 : List (Int × Int × Int × Int)) (v5 : Hd) (hv5 : SlE E79 4 h (sv v5) l5) (v6 : Hd) (a19 : Int) (o : Int ⊕ Nat) : F46_s2 l5 a19 = some o → RdF Try.prog (codeOf Try.prog 46 [1, 1, 1, 0, 1, 0, 0]) (fun (s : Int) => (F46_h2 h x1 x2 x3 v4 l5 v5 v6 s)) (F46_x2 h x1 x2 x3 v4 v5 v6) (F46_h2 h x1 x2 x3 v4 l5 v5 v6 a19) o := by
  unfold F46_s2
  refine dec_bif (fun c20 => ?_) (fun c20 => ?_)
  · refine bind_opt fun y21 e21 => ?_
    obtain ⟨id21, off21, g21, cs21, ix21, at21, rfl⟩ := SlE.at hv5 e21
    refine dec_bif (fun c22 => ?_) (fun c22 => ?_)
    · intro hr
      obtain rfl := Option.some.inj hr
      show AWp Try.prog _ (Ends1 ((F46_x2 h x1 x2 x3 v4 v5 v6) (0 : Nat)).1 ((F46_x2 h x1 x2 x3 v4 v5 v6) (0 : Nat)).2) _
      exact pEnd_sound good (L := F46_L) (D := F46_D) (its := [.g, (.b true), (.ix id21 off21 g21), (.ld (.agg #[.int .i64 y21.1, .int .i64 y21.2.1, .int .i64 y21.2.2.1, .int .i64 y21.2.2.2])), .g, .g, .g, .g, .g, .g, .n, .n, .n, (.p true), .g, .n, .n, .n, .g, .g, .n, .n, .n, .g, (.b true), .g]) (ds := F46_m2_0) (ks := [1, 6]) (e := ((F46_x2 h x1 x2 x3 v4 v5 v6) (0 : Nat)).1) (s2 := ((F46_x2 h x1 x2 x3 v4 v5 v6) (0 : Nat)).2) (hC := (And.intro l_t (And.intro (g_tf l_t) (And.intro (g_tf l_t) (And.intro (g_tf l_t) (And.intro (g_tf l_t) (And.intro (g_tf l_t) (And.intro (g_tf l_t) (And.intro c22 (And.intro (g_tf c22) (And.intro (g_tf c22) (And.intro (g_tf c22) (And.intro (At.agg (P := Try.prog) (t := 79) (v := .agg #[.int .i64 y21.1, .int .i64 y21.2.1, .int .i64 y21.2.2.1, .int .i64 y21.2.2.2]) (m := 4) at21 (by kernel_rfl) (by kernel_rfl) 0 (by kernel_rfl) rfl) (And.intro ix21 (And.intro c20 trivial))))))))))))))) (hd := F46_d2) (h := by kernel_rfl)
    · refine dec_bif (fun c23 => ?_) (fun c23 => ?_)
      · intro hr
        obtain rfl := Option.some.inj hr
        show AWp Try.prog _ (Ends1 ((F46_x2 h x1 x2 x3 v4 v5 v6) (0 : Nat)).1 ((F46_x2 h x1 x2 x3 v4 v5 v6) (0 : Nat)).2) _
        exact pEnd_sound good (L := F46_L) (D := F46_D) (its := [.g, (.b true), (.ix id21 off21 g21), (.ld (.agg #[.int .i64 y21.1, .int .i64 y21.2.1, .int .i64 y21.2.2.1, .int .i64 y21.2.2.2])), .g, .g, .g, .g, .g, .g, (.w .g), (.w .g), (.w .g), (.p false), .g, .n, .n, .n, (.p true), .g, .n, .n, .n, .g, (.b true), .g]) (ds := F46_m2_0) (ks := [1, 6]) (e := ((F46_x2 h x1 x2 x3 v4 v5 v6) (0 : Nat)).1) (s2 := ((F46_x2 h x1 x2 x3 v4 v5 v6) (0 : Nat)).2) (hC := (And.intro l_t (And.intro (g_tf l_t) (And.intro (g_tf l_t) (And.intro (g_tf l_t) (And.intro c23 (And.intro (g_tf c23) (And.intro (g_tf c23) (And.intro (g_tf c23) (And.intro c22 (And.intro (g_ff c22) (And.intro (g_ff c22) (And.intro (g_ff c22) (And.intro (At.agg (P := Try.prog) (t := 79) (v := .agg #[.int .i64 y21.1, .int .i64 y21.2.1, .int .i64 y21.2.2.1, .int .i64 y21.2.2.2]) (m := 4) at21 (by kernel_rfl) (by kernel_rfl) 0 (by kernel_rfl) rfl) (And.intro ix21 (And.intro c20 trivial)))))))))))))))) (hd := F46_d2) (h := by kernel_rfl)
      · refine dec_bif (fun c24 => ?_) (fun c24 => ?_)
        · intro hr
          obtain rfl := Option.some.inj hr
          show AWp Try.prog _ (Ends1 ((F46_x2 h x1 x2 x3 v4 v5 v6) (0 : Nat)).1 ((F46_x2 h x1 x2 x3 v4 v5 v6) (0 : Nat)).2) _
          exact pEnd_sound good (L := F46_L) (D := F46_D) (its := [.g, (.b true), (.ix id21 off21 g21), (.ld (.agg #[.int .i64 y21.1, .int .i64 y21.2.1, .int .i64 y21.2.2.1, .int .i64 y21.2.2.2])), .g, .g, .g, .g, .g, .g, (.w .g), (.w .g), (.w .g), (.p false), .g, (.w .g), (.w .g), (.w .g), (.p false), .g, .n, .n, .n, (.p true), (.b true), .g]) (ds := F46_m2_0) (ks := [1, 6]) (e := ((F46_x2 h x1 x2 x3 v4 v5 v6) (0 : Nat)).1) (s2 := ((F46_x2 h x1 x2 x3 v4 v5 v6) (0 : Nat)).2) (hC := (And.intro l_t (And.intro c24 (And.intro (g_tf c24) (And.intro (g_tf c24) (And.intro (g_tf c24) (And.intro c23 (And.intro (g_ff c23) (And.intro (g_ff c23) (And.intro (g_ff c23) (And.intro c22 (And.intro (g_ff c22) (And.intro (g_ff c22) (And.intro (g_ff c22) (And.intro (At.agg (P := Try.prog) (t := 79) (v := .agg #[.int .i64 y21.1, .int .i64 y21.2.1, .int .i64 y21.2.2.1, .int .i64 y21.2.2.2]) (m := 4) at21 (by kernel_rfl) (by kernel_rfl) 0 (by kernel_rfl) rfl) (And.intro ix21 (And.intro c20 trivial))))))))))))))))) (hd := F46_d2) (h := by kernel_rfl)
        · refine dec_bif (fun c25 => ?_) (fun c25 => ?_)
          · intro hr
            obtain rfl := Option.some.inj hr
            show AWp Try.prog _ (Ends1 ((F46_x2 h x1 x2 x3 v4 v5 v6) (0 : Nat)).1 ((F46_x2 h x1 x2 x3 v4 v5 v6) (0 : Nat)).2) _
            exact pEnd_sound good (L := F46_L) (D := F46_D) (its := [.g, (.b true), (.ix id21 off21 g21), (.ld (.agg #[.int .i64 y21.1, .int .i64 y21.2.1, .int .i64 y21.2.2.1, .int .i64 y21.2.2.2])), .g, .g, .g, .g, .g, .g, (.w .g), (.w .g), (.w .g), (.p false), .g, (.w .g), (.w .g), (.w .g), (.p false), .g, (.w .g), (.w .g), (.w .g), (.p false), (.b true), .g]) (ds := F46_m2_0) (ks := [1, 6]) (e := ((F46_x2 h x1 x2 x3 v4 v5 v6) (0 : Nat)).1) (s2 := ((F46_x2 h x1 x2 x3 v4 v5 v6) (0 : Nat)).2) (hC := (And.intro c25 (And.intro c24 (And.intro (g_ff c24) (And.intro (g_ff c24) (And.intro (g_ff c24) (And.intro c23 (And.intro (g_ff c23) (And.intro (g_ff c23) (And.intro (g_ff c23) (And.intro c22 (And.intro (g_ff c22) (And.intro (g_ff c22) (And.intro (g_ff c22) (And.intro (At.agg (P := Try.prog) (t := 79) (v := .agg #[.int .i64 y21.1, .int .i64 y21.2.1, .int .i64 y21.2.2.1, .int .i64 y21.2.2.2]) (m := 4) at21 (by kernel_rfl) (by kernel_rfl) 0 (by kernel_rfl) rfl) (And.intro ix21 (And.intro c20 trivial))))))))))))))))) (hd := F46_d2) (h := by kernel_rfl)
          · intro hr
            obtain rfl := Option.some.inj hr
            show AWp Try.prog _ (Ends1 .normal (F46_h2 h x1 x2 x3 v4 l5 v5 v6 (IntKind.i64.wrap (a19 + 1)))) _
            exact pEnd_sound good (L := F46_L) (D := F46_D) (its := [.g, (.b true), (.ix id21 off21 g21), (.ld (.agg #[.int .i64 y21.1, .int .i64 y21.2.1, .int .i64 y21.2.2.1, .int .i64 y21.2.2.2])), .g, .g, .g, .g, .g, .g, (.w .g), (.w .g), (.w .g), (.p false), .g, (.w .g), (.w .g), (.w .g), (.p false), .g, (.w .g), (.w .g), (.w .g), (.p false), (.b false), .g, .g]) (ds := F46_m2_1) (ks := [6]) (e := .normal) (s2 := (F46_h2 h x1 x2 x3 v4 l5 v5 v6 (IntKind.i64.wrap (a19 + 1)))) (hC := (And.intro c25 (And.intro c24 (And.intro (g_ff c24) (And.intro (g_ff c24) (And.intro (g_ff c24) (And.intro c23 (And.intro (g_ff c23) (And.intro (g_ff c23) (And.intro (g_ff c23) (And.intro c22 (And.intro (g_ff c22) (And.intro (g_ff c22) (And.intro (g_ff c22) (And.intro (At.agg (P := Try.prog) (t := 79) (v := .agg #[.int .i64 y21.1, .int .i64 y21.2.1, .int .i64 y21.2.2.1, .int .i64 y21.2.2.2]) (m := 4) at21 (by kernel_rfl) (by kernel_rfl) 0 (by kernel_rfl) rfl) (And.intro ix21 (And.intro c20 trivial))))))))))))))))) (hd := F46_d2) (h := by kernel_rfl)
  · intro hr
    obtain rfl := Option.some.inj hr
    show AWp Try.prog _ (Ends1 ((F46_x2 h x1 x2 x3 v4 v5 v6) (1 : Nat)).1 ((F46_x2 h x1 x2 x3 v4 v5 v6) (1 : Nat)).2) _
    exact pEnd_sound good (L := F46_L) (D := F46_D) (its := [.g, (.b false)]) (ds := F46_m2_2) (ks := []) (e := ((F46_x2 h x1 x2 x3 v4 v5 v6) (1 : Nat)).1) (s2 := ((F46_x2 h x1 x2 x3 v4 v5 v6) (1 : Nat)).2) (hC := (And.intro c20 trivial)) (hd := F46_d2) (h := by kernel_rfl)
theorem F46_l2_0 (h : AHeap) (x1 : Int) (x2 : Int) (x3 : Bool) (v4 : Hd) (l5 : List (Int × Int × Int × Int)) (v5 : Hd) (hv5 : SlE E79 4 h (sv v5) l5) (v6 : Hd) (x : Int) (r : Nat) (hl : loopO (fun (s : Int) => F46_s2 l5 s) x = some r) (q0 : Nat.beq r 0 = true) : AWp Try.prog (.loop (codeOf Try.prog 46 [1, 1, 1, 0, 1, 0, 0])) (Ends1 .ret (F46_x2_0 h x1 x2 x3 v4 v5 v6 r)) ((fun (s : Int) => (F46_h2 h x1 x2 x3 v4 l5 v5 v6 s)) x) := by
  have k := loop_fun (P := Try.prog) (c := (codeOf Try.prog 46 [1, 1, 1, 0, 1, 0, 0])) (step := (fun (s : Int) => F46_s2 l5 s)) (hd := (fun (s : Int) => (F46_h2 h x1 x2 x3 v4 l5 v5 v6 s))) (X := (F46_x2 h x1 x2 x3 v4 v5 v6)) (by intro t; unfold F46_x2; cases Nat.beq t 0 <;> (intro h; cases h)) (fun x => F46_r2 h x1 x2 x3 v4 l5 v5 hv5 v6 x) hl
  simp only [F46_x2, q0, cond_true, cond_false] at k
  exact k
theorem F46_l2_1 (h : AHeap) (x1 : Int) (x2 : Int) (x3 : Bool) (v4 : Hd) (l5 : List (Int × Int × Int × Int)) (v5 : Hd) (hv5 : SlE E79 4 h (sv v5) l5) (v6 : Hd) (x : Int) (r : Nat) (hl : loopO (fun (s : Int) => F46_s2 l5 s) x = some r) (q0 : Nat.beq r 0 = false) : AWp Try.prog (.loop (codeOf Try.prog 46 [1, 1, 1, 0, 1, 0, 0])) (Ends1 (.exit 2) (F46_x2_1 h x1 x2 x3 v4 v5 v6 r)) ((fun (s : Int) => (F46_h2 h x1 x2 x3 v4 l5 v5 v6 s)) x) := by
  have k := loop_fun (P := Try.prog) (c := (codeOf Try.prog 46 [1, 1, 1, 0, 1, 0, 0])) (step := (fun (s : Int) => F46_s2 l5 s)) (hd := (fun (s : Int) => (F46_h2 h x1 x2 x3 v4 l5 v5 v6 s))) (X := (F46_x2 h x1 x2 x3 v4 v5 v6)) (by intro t; unfold F46_x2; cases Nat.beq t 0 <;> (intro h; cases h)) (fun x => F46_r2 h x1 x2 x3 v4 l5 v5 hv5 v6 x) hl
  simp only [F46_x2, q0, cond_true, cond_false] at k
  exact k
def F46_m3_2 : List Bool := [true, false, true, true, true, true, true, true, true, true, true, true, true, true, true, true, true, true, true, true, true, true, true, true, true, true, true, true, true, true, true, true, true, true, true, true, true, true, true, true, true, true, true, true, true, true, true, true, true, true, true, true, true, true, true, true, true, true, true, true, true, true, true, true, true, true, true, true, true, true, true, true, true, true, true, true, true, true, true, true, true, true, true, true, true, true, true, true, true, true, true, true, true, true, true, true, true, true, true, true, true, true, true, true, true, true, true, true, true, true, true, true, true, true, true, true, true]
def F46_m3_1 : List Bool := [true, false, true, true, true, true, true, true, true, true, true, true, true, true, true, true, true, true, true, true, true, true, true, true, true, true, true, true, true, true, true, true, true, true, true, true, true, true, true, true, true, true, true, true, true, true, true, true, true, true, true, true, true, true, true, true, true, true, true, true, true, true, true, true, true, true, true, true, true, true, true, true, true, true, true, false, false, false, true, true, true, true, true, true, true, true, true, true, true, true, true, true, true, true, true, true, true, true, true, true, true, true, true, true, true, true, true, true, true, true, true, true, true, true, true, true, true]
def F46_m3_0 : List Bool := [true, true, false, true, true, true, true, true, true, true, true, true, true, true, true, true, true, true, true, true, true, true, true, true, true, true, true, true, true, true, true, true, true, true, true, true, true, true, true, true, true, true, true, true, true, true, true, true, true, true, true, true, true, true, true, true, true, true, true, true, true, true, true, true, true, true, true, true, true, true, true, true, true, true, true, true, true, true, true, true, true, true, true, true, true, true, true, true, true, true, true, true, true, true, true, true, true, true, true, true, true, true, true, true, true, true, true, true, true, true, true, true, true, true, true, true, true]
def F46_s3 (l5 : List (Int × Int × Int × Int)) (l6 : List (Int × Int)) (a28 : Int) : Option (Int ⊕ Nat) :=
  (bif decide (a28 < (l6.length : Int)) then
   (Option.bind (at? l6 a28) fun y30 =>
   (bif (y30.1 == (-1)) then
    (bif (!(y30.2 == 0)) then
     (bif decide (y30.1 < 0) then
      some (.inr 0)
     else
      (bif decide (y30.1 ≥ (l5.length : Int)) then
       some (.inr 0)
      else
       (bif decide (y30.2 < 1) then
        some (.inr 0)
       else
        (bif decide (y30.2 > 256) then
         some (.inr 0)
        else
         some (.inl (IntKind.i64.wrap (a28 + 1)))))))
    else
     some (.inl (IntKind.i64.wrap (a28 + 1))))
   else
    (bif decide (y30.1 < 0) then
     some (.inr 0)
    else
     (bif decide (y30.1 ≥ (l5.length : Int)) then
      some (.inr 0)
     else
      (bif decide (y30.2 < 1) then
       some (.inr 0)
      else
       (bif decide (y30.2 > 256) then
        some (.inr 0)
       else
        some (.inl (IntKind.i64.wrap (a28 + 1)))))))))
  else
   some (.inr 1))
def F46_h3 (h : AHeap) (x1 : Int) (x2 : Int) (x3 : Bool) (v4 : Hd) (v5 : Hd) (l6 : List (Int × Int)) (v6 : Hd)  (a28 : Int) : AS := ⟨[junk, .pointer (some ⟨1, 0, none⟩), junk, junk, junk, junk, junk, junk, junk, junk, junk, junk, junk, junk, junk, junk, junk, junk, junk, junk, junk, junk, junk, junk, junk, junk, junk, junk, junk, junk, junk, junk, junk, junk, junk, junk, junk, junk, junk, junk, junk, junk, junk, junk, junk, junk, junk, junk, junk, junk, junk, junk, junk, junk, junk, junk, junk, junk, junk, junk, junk, junk, junk, junk, junk, junk, junk, junk, junk, junk, junk, junk, junk, junk, junk, (sv v6), .int .i64 (l6.length : Int), .int .i64 a28, junk, junk, junk, junk, junk, junk, junk, junk, junk, junk, junk, junk, junk, junk, junk, junk, junk, junk, junk, junk, junk, junk, junk, junk, junk, junk, junk, junk, junk, junk, junk, junk, junk, junk, junk, junk, junk, junk, junk], [(1, [.int .i64 x1, .int .i64 x2, .bool x3, (sv v4), (sv v5), (sv v6)])], h⟩
theorem F46_d3 : drawsOk F46_D (codeOf Try.prog 46 [1, 1, 1, 1, 0, 1, 0, 0]) = true := by kernel_rfl
def F46_x3_0 (h : AHeap) (x1 : Int) (x2 : Int) (x3 : Bool) (v4 : Hd) (v5 : Hd) (v6 : Hd)  (r : Nat) : AS := ⟨[junk, junk, .bool false, junk, junk, junk, junk, junk, junk, junk, junk, junk, junk, junk, junk, junk, junk, junk, junk, junk, junk, junk, junk, junk, junk, junk, junk, junk, junk, junk, junk, junk, junk, junk, junk, junk, junk, junk, junk, junk, junk, junk, junk, junk, junk, junk, junk, junk, junk, junk, junk, junk, junk, junk, junk, junk, junk, junk, junk, junk, junk, junk, junk, junk, junk, junk, junk, junk, junk, junk, junk, junk, junk, junk, junk, junk, junk, junk, junk, junk, junk, junk, junk, junk, junk, junk, junk, junk, junk, junk, junk, junk, junk, junk, junk, junk, junk, junk, junk, junk, junk, junk, junk, junk, junk, junk, junk, junk, junk, junk, junk, junk, junk, junk, junk, junk, junk], [], h⟩
def F46_x3_1 (h : AHeap) (x1 : Int) (x2 : Int) (x3 : Bool) (v4 : Hd) (v5 : Hd) (v6 : Hd)  (r : Nat) : AS := ⟨[junk, .pointer (some ⟨1, 0, none⟩), junk, junk, junk, junk, junk, junk, junk, junk, junk, junk, junk, junk, junk, junk, junk, junk, junk, junk, junk, junk, junk, junk, junk, junk, junk, junk, junk, junk, junk, junk, junk, junk, junk, junk, junk, junk, junk, junk, junk, junk, junk, junk, junk, junk, junk, junk, junk, junk, junk, junk, junk, junk, junk, junk, junk, junk, junk, junk, junk, junk, junk, junk, junk, junk, junk, junk, junk, junk, junk, junk, junk, junk, junk, junk, junk, junk, junk, junk, junk, junk, junk, junk, junk, junk, junk, junk, junk, junk, junk, junk, junk, junk, junk, junk, junk, junk, junk, junk, junk, junk, junk, junk, junk, junk, junk, junk, junk, junk, junk, junk, junk, junk, junk, junk, junk], [(1, [.int .i64 x1, .int .i64 x2, .bool x3, (sv v4), (sv v5), (sv v6)])], h⟩
def F46_x3 (h : AHeap) (x1 : Int) (x2 : Int) (x3 : Bool) (v4 : Hd) (v5 : Hd) (v6 : Hd) (r : Nat) : Exit × AS := (bif Nat.beq r 0 then (.ret, (F46_x3_0 h x1 x2 x3 v4 v5 v6 r)) else ((.exit 4), (F46_x3_1 h x1 x2 x3 v4 v5 v6 r)))
set_option maxRecDepth 100000 in
theorem F46_r3 (h : AHeap) (x1 : Int) (x2 : Int) (x3 : Bool) (v4 : Hd) (l5 : List (Int × Int × Int × Int)) (v5 : Hd) (hv5 : SlE E79 4 h (sv v5) l5) (l6 : List (Int × Int)) (v6 : Hd) (hv6 : SlE E77 2 h (sv v6) l6) (a28 : Int) (o : Int ⊕ Nat) : F46_s3 l5 l6 a28 = some o → RdF Try.prog (codeOf Try.prog 46 [1, 1, 1, 1, 0, 1, 0, 0]) (fun (s : Int) => (F46_h3 h x1 x2 x3 v4 v5 l6 v6 s)) (F46_x3 h x1 x2 x3 v4 v5 v6) (F46_h3 h x1 x2 x3 v4 v5 l6 v6 a28) o := by
  unfold F46_s3
  refine dec_bif (fun c29 => ?_) (fun c29 => ?_)
  · refine bind_opt fun y30 e30 => ?_
    obtain ⟨id30, off30, g30, cs30, ix30, at30, rfl⟩ := SlE.at hv6 e30
    refine dec_bif (fun c31 => ?_) (fun c31 => ?_)
    · refine dec_bif (fun c32 => ?_) (fun c32 => ?_)
      · refine dec_bif (fun c33 => ?_) (fun c33 => ?_)
        · intro hr
          obtain rfl := Option.some.inj hr
          show AWp Try.prog _ (Ends1 ((F46_x3 h x1 x2 x3 v4 v5 v6) (0 : Nat)).1 ((F46_x3 h x1 x2 x3 v4 v5 v6) (0 : Nat)).2) _
          exact pEnd_sound good (L := F46_L) (D := F46_D) (its := [.g, (.b true), (.ix id30 off30 g30), (.ld (.agg #[.int .i64 y30.1, .int .i64 y30.2])), .g, .g, .g, .g, .g, .g, (.w .g), (.w .g), (.w .g), (.p true), .g, .g, .g, .g, (.w .g), (.w .g), (.w .g), (.w .g), .n, .n, .n, .n, .n, .n, (.w (.p true)), (.w .g), .n, .n, .n, (.w .g), (.w .g), .n, .n, .n, (.w .g), (.p true), (.b true), .g]) (ds := F46_m3_0) (ks := [1, 8]) (e := ((F46_x3 h x1 x2 x3 v4 v5 v6) (0 : Nat)).1) (s2 := ((F46_x3 h x1 x2 x3 v4 v5 v6) (0 : Nat)).2) (hC := (And.intro l_t (And.intro c32 (And.intro (g_tt c32) (And.intro (g_tf l_t) (And.intro (g_tf l_t) (And.intro (g_tf l_t) (And.intro (g_tt c32) (And.intro (g_tt c32) (And.intro (g_tf l_t) (And.intro (g_tf l_t) (And.intro (g_tf l_t) (And.intro (g_tt c32) (And.intro c33 (And.intro (g_tt c32) (And.intro (g_tf c33) (And.intro (g_tf c33) (And.intro (g_tf c33) (And.intro (g_tf c33) (And.intro (g_tf c33) (And.intro (g_tf c33) (And.intro (g_tt c32) (And.intro (g_tt c32) (And.intro (g_tt c32) (And.intro (g_tt c32) (And.intro c31 (And.intro (g_tt c31) (And.intro (g_tt c31) (And.intro (g_tt c31) (And.intro (At.agg (P := Try.prog) (t := 77) (v := .agg #[.int .i64 y30.1, .int .i64 y30.2]) (m := 2) at30 (by kernel_rfl) (by kernel_rfl) 0 (by kernel_rfl) rfl) (And.intro ix30 (And.intro c29 trivial)))))))))))))))))))))))))))))))) (hd := F46_d3) (h := by kernel_rfl)
        · refine dec_bif (fun c34 => ?_) (fun c34 => ?_)
          · intro hr
            obtain rfl := Option.some.inj hr
            show AWp Try.prog _ (Ends1 ((F46_x3 h x1 x2 x3 v4 v5 v6) (0 : Nat)).1 ((F46_x3 h x1 x2 x3 v4 v5 v6) (0 : Nat)).2) _
            exact pEnd_sound good (L := F46_L) (D := F46_D) (its := [.g, (.b true), (.ix id30 off30 g30), (.ld (.agg #[.int .i64 y30.1, .int .i64 y30.2])), .g, .g, .g, .g, .g, .g, (.w .g), (.w .g), (.w .g), (.p true), .g, .g, .g, .g, (.w .g), (.w .g), (.w .g), (.w .g), (.w .g), (.w .g), (.w .g), (.w .g), (.w (.ln l5.length)), (.w .g), (.w (.p false)), (.w .g), .n, .n, .n, (.w (.p true)), (.w .g), .n, .n, .n, (.w .g), (.p true), (.b true), .g]) (ds := F46_m3_0) (ks := [1, 8]) (e := ((F46_x3 h x1 x2 x3 v4 v5 v6) (0 : Nat)).1) (s2 := ((F46_x3 h x1 x2 x3 v4 v5 v6) (0 : Nat)).2) (hC := (And.intro l_t (And.intro c32 (And.intro (g_tt c32) (And.intro (g_tf l_t) (And.intro (g_tf l_t) (And.intro (g_tf l_t) (And.intro (g_tt c32) (And.intro c34 (And.intro (g_tt c32) (And.intro (g_tf c34) (And.intro (g_tf c34) (And.intro (g_tf c34) (And.intro (g_tt c32) (And.intro c33 (And.intro (g_tt c32) (And.intro (g_ff c33) (And.intro (SlE.len hv5) (And.intro (g_ff c33) (And.intro (g_ff c33) (And.intro (g_ff c33) (And.intro (g_ff c33) (And.intro (g_ff c33) (And.intro (g_tt c32) (And.intro (g_tt c32) (And.intro (g_tt c32) (And.intro (g_tt c32) (And.intro c31 (And.intro (g_tt c31) (And.intro (g_tt c31) (And.intro (g_tt c31) (And.intro (At.agg (P := Try.prog) (t := 77) (v := .agg #[.int .i64 y30.1, .int .i64 y30.2]) (m := 2) at30 (by kernel_rfl) (by kernel_rfl) 0 (by kernel_rfl) rfl) (And.intro ix30 (And.intro c29 trivial)))))))))))))))))))))))))))))))))) (hd := F46_d3) (h := by kernel_rfl)
          · refine dec_bif (fun c35 => ?_) (fun c35 => ?_)
            · intro hr
              obtain rfl := Option.some.inj hr
              show AWp Try.prog _ (Ends1 ((F46_x3 h x1 x2 x3 v4 v5 v6) (0 : Nat)).1 ((F46_x3 h x1 x2 x3 v4 v5 v6) (0 : Nat)).2) _
              exact pEnd_sound good (L := F46_L) (D := F46_D) (its := [.g, (.b true), (.ix id30 off30 g30), (.ld (.agg #[.int .i64 y30.1, .int .i64 y30.2])), .g, .g, .g, .g, .g, .g, (.w .g), (.w .g), (.w .g), (.p true), .g, .g, .g, .g, (.w .g), (.w .g), (.w .g), (.w .g), (.w .g), (.w .g), (.w .g), (.w .g), (.w (.ln l5.length)), (.w .g), (.w (.p false)), (.w .g), (.w .g), (.w .g), (.w .g), (.w (.p false)), (.w .g), .n, .n, .n, (.w (.p true)), (.p true), (.b true), .g]) (ds := F46_m3_0) (ks := [1, 8]) (e := ((F46_x3 h x1 x2 x3 v4 v5 v6) (0 : Nat)).1) (s2 := ((F46_x3 h x1 x2 x3 v4 v5 v6) (0 : Nat)).2) (hC := (And.intro l_t (And.intro c32 (And.intro c35 (And.intro (g_tt c32) (And.intro (g_tf c35) (And.intro (g_tf c35) (And.intro (g_tf c35) (And.intro (g_tt c32) (And.intro c34 (And.intro (g_tt c32) (And.intro (g_ff c34) (And.intro (g_ff c34) (And.intro (g_ff c34) (And.intro (g_tt c32) (And.intro c33 (And.intro (g_tt c32) (And.intro (g_ff c33) (And.intro (SlE.len hv5) (And.intro (g_ff c33) (And.intro (g_ff c33) (And.intro (g_ff c33) (And.intro (g_ff c33) (And.intro (g_ff c33) (And.intro (g_tt c32) (And.intro (g_tt c32) (And.intro (g_tt c32) (And.intro (g_tt c32) (And.intro c31 (And.intro (g_tt c31) (And.intro (g_tt c31) (And.intro (g_tt c31) (And.intro (At.agg (P := Try.prog) (t := 77) (v := .agg #[.int .i64 y30.1, .int .i64 y30.2]) (m := 2) at30 (by kernel_rfl) (by kernel_rfl) 0 (by kernel_rfl) rfl) (And.intro ix30 (And.intro c29 trivial))))))))))))))))))))))))))))))))))) (hd := F46_d3) (h := by kernel_rfl)
            · refine dec_bif (fun c36 => ?_) (fun c36 => ?_)
              · intro hr
                obtain rfl := Option.some.inj hr
                show AWp Try.prog _ (Ends1 ((F46_x3 h x1 x2 x3 v4 v5 v6) (0 : Nat)).1 ((F46_x3 h x1 x2 x3 v4 v5 v6) (0 : Nat)).2) _
                exact pEnd_sound good (L := F46_L) (D := F46_D) (its := [.g, (.b true), (.ix id30 off30 g30), (.ld (.agg #[.int .i64 y30.1, .int .i64 y30.2])), .g, .g, .g, .g, .g, .g, (.w .g), (.w .g), (.w .g), (.p true), .g, .g, .g, .g, (.w .g), (.w .g), (.w .g), (.w .g), (.w .g), (.w .g), (.w .g), (.w .g), (.w (.ln l5.length)), (.w .g), (.w (.p false)), (.w .g), (.w .g), (.w .g), (.w .g), (.w (.p false)), (.w .g), (.w .g), (.w .g), (.w .g), (.w (.p false)), (.p true), (.b true), .g]) (ds := F46_m3_0) (ks := [1, 8]) (e := ((F46_x3 h x1 x2 x3 v4 v5 v6) (0 : Nat)).1) (s2 := ((F46_x3 h x1 x2 x3 v4 v5 v6) (0 : Nat)).2) (hC := (And.intro c36 (And.intro c32 (And.intro c35 (And.intro (g_tt c32) (And.intro (g_ff c35) (And.intro (g_ff c35) (And.intro (g_ff c35) (And.intro (g_tt c32) (And.intro c34 (And.intro (g_tt c32) (And.intro (g_ff c34) (And.intro (g_ff c34) (And.intro (g_ff c34) (And.intro (g_tt c32) (And.intro c33 (And.intro (g_tt c32) (And.intro (g_ff c33) (And.intro (SlE.len hv5) (And.intro (g_ff c33) (And.intro (g_ff c33) (And.intro (g_ff c33) (And.intro (g_ff c33) (And.intro (g_ff c33) (And.intro (g_tt c32) (And.intro (g_tt c32) (And.intro (g_tt c32) (And.intro (g_tt c32) (And.intro c31 (And.intro (g_tt c31) (And.intro (g_tt c31) (And.intro (g_tt c31) (And.intro (At.agg (P := Try.prog) (t := 77) (v := .agg #[.int .i64 y30.1, .int .i64 y30.2]) (m := 2) at30 (by kernel_rfl) (by kernel_rfl) 0 (by kernel_rfl) rfl) (And.intro ix30 (And.intro c29 trivial))))))))))))))))))))))))))))))))))) (hd := F46_d3) (h := by kernel_rfl)
              · intro hr
                obtain rfl := Option.some.inj hr
                show AWp Try.prog _ (Ends1 .normal (F46_h3 h x1 x2 x3 v4 v5 l6 v6 (IntKind.i64.wrap (a28 + 1)))) _
                exact pEnd_sound good (L := F46_L) (D := F46_D) (its := [.g, (.b true), (.ix id30 off30 g30), (.ld (.agg #[.int .i64 y30.1, .int .i64 y30.2])), .g, .g, .g, .g, .g, .g, (.w .g), (.w .g), (.w .g), (.p true), .g, .g, .g, .g, (.w .g), (.w .g), (.w .g), (.w .g), (.w .g), (.w .g), (.w .g), (.w .g), (.w (.ln l5.length)), (.w .g), (.w (.p false)), (.w .g), (.w .g), (.w .g), (.w .g), (.w (.p false)), (.w .g), (.w .g), (.w .g), (.w .g), (.w (.p false)), (.p true), (.b false), .g, .g]) (ds := F46_m3_1) (ks := [8]) (e := .normal) (s2 := (F46_h3 h x1 x2 x3 v4 v5 l6 v6 (IntKind.i64.wrap (a28 + 1)))) (hC := (And.intro c36 (And.intro c32 (And.intro c35 (And.intro (g_tt c32) (And.intro (g_ff c35) (And.intro (g_ff c35) (And.intro (g_ff c35) (And.intro (g_tt c32) (And.intro c34 (And.intro (g_tt c32) (And.intro (g_ff c34) (And.intro (g_ff c34) (And.intro (g_ff c34) (And.intro (g_tt c32) (And.intro c33 (And.intro (g_tt c32) (And.intro (g_ff c33) (And.intro (SlE.len hv5) (And.intro (g_ff c33) (And.intro (g_ff c33) (And.intro (g_ff c33) (And.intro (g_ff c33) (And.intro (g_ff c33) (And.intro (g_tt c32) (And.intro (g_tt c32) (And.intro (g_tt c32) (And.intro (g_tt c32) (And.intro c31 (And.intro (g_tt c31) (And.intro (g_tt c31) (And.intro (g_tt c31) (And.intro (At.agg (P := Try.prog) (t := 77) (v := .agg #[.int .i64 y30.1, .int .i64 y30.2]) (m := 2) at30 (by kernel_rfl) (by kernel_rfl) 0 (by kernel_rfl) rfl) (And.intro ix30 (And.intro c29 trivial))))))))))))))))))))))))))))))))))) (hd := F46_d3) (h := by kernel_rfl)
      · intro hr
        obtain rfl := Option.some.inj hr
        show AWp Try.prog _ (Ends1 .normal (F46_h3 h x1 x2 x3 v4 v5 l6 v6 (IntKind.i64.wrap (a28 + 1)))) _
        exact pEnd_sound good (L := F46_L) (D := F46_D) (its := [.g, (.b true), (.ix id30 off30 g30), (.ld (.agg #[.int .i64 y30.1, .int .i64 y30.2])), .g, .g, .g, .g, .g, .g, (.w .g), (.w .g), (.w .g), (.p true), .g, .g, .g, .g, .n, .n, .n, .n, .n, .n, .n, .n, .n, .n, .n, .n, .n, .n, .n, .n, .n, .n, .n, .n, .n, (.p false), (.b false), .g, .g]) (ds := F46_m3_1) (ks := [8]) (e := .normal) (s2 := (F46_h3 h x1 x2 x3 v4 v5 l6 v6 (IntKind.i64.wrap (a28 + 1)))) (hC := (And.intro l_f (And.intro c32 (And.intro (g_ft c32) (And.intro l_f (And.intro l_f (And.intro l_f (And.intro (g_ft c32) (And.intro (g_ft c32) (And.intro l_f (And.intro l_f (And.intro l_f (And.intro (g_ft c32) (And.intro (g_ft c32) (And.intro l_f (And.intro l_f (And.intro l_f (And.intro l_f (And.intro l_f (And.intro l_f (And.intro (g_ft c32) (And.intro (g_ft c32) (And.intro (g_ft c32) (And.intro (g_ft c32) (And.intro c31 (And.intro (g_tt c31) (And.intro (g_tt c31) (And.intro (g_tt c31) (And.intro (At.agg (P := Try.prog) (t := 77) (v := .agg #[.int .i64 y30.1, .int .i64 y30.2]) (m := 2) at30 (by kernel_rfl) (by kernel_rfl) 0 (by kernel_rfl) rfl) (And.intro ix30 (And.intro c29 trivial))))))))))))))))))))))))))))))) (hd := F46_d3) (h := by kernel_rfl)
    · refine dec_bif (fun c37 => ?_) (fun c37 => ?_)
      · intro hr
        obtain rfl := Option.some.inj hr
        show AWp Try.prog _ (Ends1 ((F46_x3 h x1 x2 x3 v4 v5 v6) (0 : Nat)).1 ((F46_x3 h x1 x2 x3 v4 v5 v6) (0 : Nat)).2) _
        exact pEnd_sound good (L := F46_L) (D := F46_D) (its := [.g, (.b true), (.ix id30 off30 g30), (.ld (.agg #[.int .i64 y30.1, .int .i64 y30.2])), .g, .g, .g, .g, .g, .g, .n, .n, .n, (.p false), .g, .g, .g, .g, (.w .g), (.w .g), (.w .g), (.w .g), .n, .n, .n, .n, .n, .n, (.w (.p true)), (.w .g), .n, .n, .n, (.w .g), (.w .g), .n, .n, .n, (.w .g), .g, (.b true), .g]) (ds := F46_m3_0) (ks := [1, 8]) (e := ((F46_x3 h x1 x2 x3 v4 v5 v6) (0 : Nat)).1) (s2 := ((F46_x3 h x1 x2 x3 v4 v5 v6) (0 : Nat)).2) (hC := (And.intro l_t (And.intro (g_tt l_t) (And.intro (g_tf l_t) (And.intro (g_tf l_t) (And.intro (g_tf l_t) (And.intro (g_tt l_t) (And.intro (g_tt l_t) (And.intro (g_tf l_t) (And.intro (g_tf l_t) (And.intro (g_tf l_t) (And.intro (g_tt l_t) (And.intro c37 (And.intro (g_tt l_t) (And.intro (g_tf c37) (And.intro (g_tf c37) (And.intro (g_tf c37) (And.intro (g_tf c37) (And.intro (g_tf c37) (And.intro (g_tf c37) (And.intro (g_tt l_t) (And.intro (g_tt l_t) (And.intro (g_tt l_t) (And.intro (g_tt l_t) (And.intro c31 (And.intro (g_ft c31) (And.intro (g_ft c31) (And.intro (g_ft c31) (And.intro (At.agg (P := Try.prog) (t := 77) (v := .agg #[.int .i64 y30.1, .int .i64 y30.2]) (m := 2) at30 (by kernel_rfl) (by kernel_rfl) 0 (by kernel_rfl) rfl) (And.intro ix30 (And.intro c29 trivial))))))))))))))))))))))))))))))) (hd := F46_d3) (h := by kernel_rfl)
      · refine dec_bif (fun c38 => ?_) (fun c38 => ?_)
        · intro hr
          obtain rfl := Option.some.inj hr
          show AWp Try.prog _ (Ends1 ((F46_x3 h x1 x2 x3 v4 v5 v6) (0 : Nat)).1 ((F46_x3 h x1 x2 x3 v4 v5 v6) (0 : Nat)).2) _
          exact pEnd_sound good (L := F46_L) (D := F46_D) (its := [.g, (.b true), (.ix id30 off30 g30), (.ld (.agg #[.int .i64 y30.1, .int .i64 y30.2])), .g, .g, .g, .g, .g, .g, .n, .n, .n, (.p false), .g, .g, .g, .g, (.w .g), (.w .g), (.w .g), (.w .g), (.w .g), (.w .g), (.w .g), (.w .g), (.w (.ln l5.length)), (.w .g), (.w (.p false)), (.w .g), .n, .n, .n, (.w (.p true)), (.w .g), .n, .n, .n, (.w .g), .g, (.b true), .g]) (ds := F46_m3_0) (ks := [1, 8]) (e := ((F46_x3 h x1 x2 x3 v4 v5 v6) (0 : Nat)).1) (s2 := ((F46_x3 h x1 x2 x3 v4 v5 v6) (0 : Nat)).2) (hC := (And.intro l_t (And.intro (g_tt l_t) (And.intro (g_tf l_t) (And.intro (g_tf l_t) (And.intro (g_tf l_t) (And.intro (g_tt l_t) (And.intro c38 (And.intro (g_tt l_t) (And.intro (g_tf c38) (And.intro (g_tf c38) (And.intro (g_tf c38) (And.intro (g_tt l_t) (And.intro c37 (And.intro (g_tt l_t) (And.intro (g_ff c37) (And.intro (SlE.len hv5) (And.intro (g_ff c37) (And.intro (g_ff c37) (And.intro (g_ff c37) (And.intro (g_ff c37) (And.intro (g_ff c37) (And.intro (g_tt l_t) (And.intro (g_tt l_t) (And.intro (g_tt l_t) (And.intro (g_tt l_t) (And.intro c31 (And.intro (g_ft c31) (And.intro (g_ft c31) (And.intro (g_ft c31) (And.intro (At.agg (P := Try.prog) (t := 77) (v := .agg #[.int .i64 y30.1, .int .i64 y30.2]) (m := 2) at30 (by kernel_rfl) (by kernel_rfl) 0 (by kernel_rfl) rfl) (And.intro ix30 (And.intro c29 trivial))))))))))))))))))))))))))))))))) (hd := F46_d3) (h := by kernel_rfl)
        · refine dec_bif (fun c39 => ?_) (fun c39 => ?_)
          · intro hr
            obtain rfl := Option.some.inj hr
            show AWp Try.prog _ (Ends1 ((F46_x3 h x1 x2 x3 v4 v5 v6) (0 : Nat)).1 ((F46_x3 h x1 x2 x3 v4 v5 v6) (0 : Nat)).2) _
            exact pEnd_sound good (L := F46_L) (D := F46_D) (its := [.g, (.b true), (.ix id30 off30 g30), (.ld (.agg #[.int .i64 y30.1, .int .i64 y30.2])), .g, .g, .g, .g, .g, .g, .n, .n, .n, (.p false), .g, .g, .g, .g, (.w .g), (.w .g), (.w .g), (.w .g), (.w .g), (.w .g), (.w .g), (.w .g), (.w (.ln l5.length)), (.w .g), (.w (.p false)), (.w .g), (.w .g), (.w .g), (.w .g), (.w (.p false)), (.w .g), .n, .n, .n, (.w (.p true)), .g, (.b true), .g]) (ds := F46_m3_0) (ks := [1, 8]) (e := ((F46_x3 h x1 x2 x3 v4 v5 v6) (0 : Nat)).1) (s2 := ((F46_x3 h x1 x2 x3 v4 v5 v6) (0 : Nat)).2) (hC := (And.intro l_t (And.intro c39 (And.intro (g_tt l_t) (And.intro (g_tf c39) (And.intro (g_tf c39) (And.intro (g_tf c39) (And.intro (g_tt l_t) (And.intro c38 (And.intro (g_tt l_t) (And.intro (g_ff c38) (And.intro (g_ff c38) (And.intro (g_ff c38) (And.intro (g_tt l_t) (And.intro c37 (And.intro (g_tt l_t) (And.intro (g_ff c37) (And.intro (SlE.len hv5) (And.intro (g_ff c37) (And.intro (g_ff c37) (And.intro (g_ff c37) (And.intro (g_ff c37) (And.intro (g_ff c37) (And.intro (g_tt l_t) (And.intro (g_tt l_t) (And.intro (g_tt l_t) (And.intro (g_tt l_t) (And.intro c31 (And.intro (g_ft c31) (And.intro (g_ft c31) (And.intro (g_ft c31) (And.intro (At.agg (P := Try.prog) (t := 77) (v := .agg #[.int .i64 y30.1, .int .i64 y30.2]) (m := 2) at30 (by kernel_rfl) (by kernel_rfl) 0 (by kernel_rfl) rfl) (And.intro ix30 (And.intro c29 trivial)))))))))))))))))))))))))))))))))) (hd := F46_d3) (h := by kernel_rfl)
          · refine dec_bif (fun c40 => ?_) (fun c40 => ?_)
            · intro hr
              obtain rfl := Option.some.inj hr
              show AWp Try.prog _ (Ends1 ((F46_x3 h x1 x2 x3 v4 v5 v6) (0 : Nat)).1 ((F46_x3 h x1 x2 x3 v4 v5 v6) (0 : Nat)).2) _
              exact pEnd_sound good (L := F46_L) (D := F46_D) (its := [.g, (.b true), (.ix id30 off30 g30), (.ld (.agg #[.int .i64 y30.1, .int .i64 y30.2])), .g, .g, .g, .g, .g, .g, .n, .n, .n, (.p false), .g, .g, .g, .g, (.w .g), (.w .g), (.w .g), (.w .g), (.w .g), (.w .g), (.w .g), (.w .g), (.w (.ln l5.length)), (.w .g), (.w (.p false)), (.w .g), (.w .g), (.w .g), (.w .g), (.w (.p false)), (.w .g), (.w .g), (.w .g), (.w .g), (.w (.p false)), .g, (.b true), .g]) (ds := F46_m3_0) (ks := [1, 8]) (e := ((F46_x3 h x1 x2 x3 v4 v5 v6) (0 : Nat)).1) (s2 := ((F46_x3 h x1 x2 x3 v4 v5 v6) (0 : Nat)).2) (hC := (And.intro c40 (And.intro c39 (And.intro (g_tt l_t) (And.intro (g_ff c39) (And.intro (g_ff c39) (And.intro (g_ff c39) (And.intro (g_tt l_t) (And.intro c38 (And.intro (g_tt l_t) (And.intro (g_ff c38) (And.intro (g_ff c38) (And.intro (g_ff c38) (And.intro (g_tt l_t) (And.intro c37 (And.intro (g_tt l_t) (And.intro (g_ff c37) (And.intro (SlE.len hv5) (And.intro (g_ff c37) (And.intro (g_ff c37) (And.intro (g_ff c37) (And.intro (g_ff c37) (And.intro (g_ff c37) (And.intro (g_tt l_t) (And.intro (g_tt l_t) (And.intro (g_tt l_t) (And.intro (g_tt l_t) (And.intro c31 (And.intro (g_ft c31) (And.intro (g_ft c31) (And.intro (g_ft c31) (And.intro (At.agg (P := Try.prog) (t := 77) (v := .agg #[.int .i64 y30.1, .int .i64 y30.2]) (m := 2) at30 (by kernel_rfl) (by kernel_rfl) 0 (by kernel_rfl) rfl) (And.intro ix30 (And.intro c29 trivial)))))))))))))))))))))))))))))))))) (hd := F46_d3) (h := by kernel_rfl)
            · intro hr
              obtain rfl := Option.some.inj hr
              show AWp Try.prog _ (Ends1 .normal (F46_h3 h x1 x2 x3 v4 v5 l6 v6 (IntKind.i64.wrap (a28 + 1)))) _
              exact pEnd_sound good (L := F46_L) (D := F46_D) (its := [.g, (.b true), (.ix id30 off30 g30), (.ld (.agg #[.int .i64 y30.1, .int .i64 y30.2])), .g, .g, .g, .g, .g, .g, .n, .n, .n, (.p false), .g, .g, .g, .g, (.w .g), (.w .g), (.w .g), (.w .g), (.w .g), (.w .g), (.w .g), (.w .g), (.w (.ln l5.length)), (.w .g), (.w (.p false)), (.w .g), (.w .g), (.w .g), (.w .g), (.w (.p false)), (.w .g), (.w .g), (.w .g), (.w .g), (.w (.p false)), .g, (.b false), .g, .g]) (ds := F46_m3_1) (ks := [8]) (e := .normal) (s2 := (F46_h3 h x1 x2 x3 v4 v5 l6 v6 (IntKind.i64.wrap (a28 + 1)))) (hC := (And.intro c40 (And.intro c39 (And.intro (g_tt l_t) (And.intro (g_ff c39) (And.intro (g_ff c39) (And.intro (g_ff c39) (And.intro (g_tt l_t) (And.intro c38 (And.intro (g_tt l_t) (And.intro (g_ff c38) (And.intro (g_ff c38) (And.intro (g_ff c38) (And.intro (g_tt l_t) (And.intro c37 (And.intro (g_tt l_t) (And.intro (g_ff c37) (And.intro (SlE.len hv5) (And.intro (g_ff c37) (And.intro (g_ff c37) (And.intro (g_ff c37) (And.intro (g_ff c37) (And.intro (g_ff c37) (And.intro (g_tt l_t) (And.intro (g_tt l_t) (And.intro (g_tt l_t) (And.intro (g_tt l_t) (And.intro c31 (And.intro (g_ft c31) (And.intro (g_ft c31) (And.intro (g_ft c31) (And.intro (At.agg (P := Try.prog) (t := 77) (v := .agg #[.int .i64 y30.1, .int .i64 y30.2]) (m := 2) at30 (by kernel_rfl) (by kernel_rfl) 0 (by kernel_rfl) rfl) (And.intro ix30 (And.intro c29 trivial)))))))))))))))))))))))))))))))))) (hd := F46_d3) (h := by kernel_rfl)
  · intro hr
    obtain rfl := Option.some.inj hr
    show AWp Try.prog _ (Ends1 ((F46_x3 h x1 x2 x3 v4 v5 v6) (1 : Nat)).1 ((F46_x3 h x1 x2 x3 v4 v5 v6) (1 : Nat)).2) _
    exact pEnd_sound good (L := F46_L) (D := F46_D) (its := [.g, (.b false)]) (ds := F46_m3_2) (ks := []) (e := ((F46_x3 h x1 x2 x3 v4 v5 v6) (1 : Nat)).1) (s2 := ((F46_x3 h x1 x2 x3 v4 v5 v6) (1 : Nat)).2) (hC := (And.intro c29 trivial)) (hd := F46_d3) (h := by kernel_rfl)
theorem F46_l3_0 (h : AHeap) (x1 : Int) (x2 : Int) (x3 : Bool) (v4 : Hd) (l5 : List (Int × Int × Int × Int)) (v5 : Hd) (hv5 : SlE E79 4 h (sv v5) l5) (l6 : List (Int × Int)) (v6 : Hd) (hv6 : SlE E77 2 h (sv v6) l6) (x : Int) (r : Nat) (hl : loopO (fun (s : Int) => F46_s3 l5 l6 s) x = some r) (q0 : Nat.beq r 0 = true) : AWp Try.prog (.loop (codeOf Try.prog 46 [1, 1, 1, 1, 0, 1, 0, 0])) (Ends1 .ret (F46_x3_0 h x1 x2 x3 v4 v5 v6 r)) ((fun (s : Int) => (F46_h3 h x1 x2 x3 v4 v5 l6 v6 s)) x) := by
  have k := loop_fun (P := Try.prog) (c := (codeOf Try.prog 46 [1, 1, 1, 1, 0, 1, 0, 0])) (step := (fun (s : Int) => F46_s3 l5 l6 s)) (hd := (fun (s : Int) => (F46_h3 h x1 x2 x3 v4 v5 l6 v6 s))) (X := (F46_x3 h x1 x2 x3 v4 v5 v6)) (by intro t; unfold F46_x3; cases Nat.beq t 0 <;> (intro h; cases h)) (fun x => F46_r3 h x1 x2 x3 v4 l5 v5 hv5 l6 v6 hv6 x) hl
  simp only [F46_x3, q0, cond_true, cond_false] at k
  exact k
theorem F46_l3_1 (h : AHeap) (x1 : Int) (x2 : Int) (x3 : Bool) (v4 : Hd) (l5 : List (Int × Int × Int × Int)) (v5 : Hd) (hv5 : SlE E79 4 h (sv v5) l5) (l6 : List (Int × Int)) (v6 : Hd) (hv6 : SlE E77 2 h (sv v6) l6) (x : Int) (r : Nat) (hl : loopO (fun (s : Int) => F46_s3 l5 l6 s) x = some r) (q0 : Nat.beq r 0 = false) : AWp Try.prog (.loop (codeOf Try.prog 46 [1, 1, 1, 1, 0, 1, 0, 0])) (Ends1 (.exit 4) (F46_x3_1 h x1 x2 x3 v4 v5 v6 r)) ((fun (s : Int) => (F46_h3 h x1 x2 x3 v4 v5 l6 v6 s)) x) := by
  have k := loop_fun (P := Try.prog) (c := (codeOf Try.prog 46 [1, 1, 1, 1, 0, 1, 0, 0])) (step := (fun (s : Int) => F46_s3 l5 l6 s)) (hd := (fun (s : Int) => (F46_h3 h x1 x2 x3 v4 v5 l6 v6 s))) (X := (F46_x3 h x1 x2 x3 v4 v5 v6)) (by intro t; unfold F46_x3; cases Nat.beq t 0 <;> (intro h; cases h)) (fun x => F46_r3 h x1 x2 x3 v4 l5 v5 hv5 l6 v6 hv6 x) hl
  simp only [F46_x3, q0, cond_true, cond_false] at k
  exact k
def F46 (x1 : Int) (x2 : Int) (x3 : Bool) (l4 : List (Int × Int × Int × Int)) (l5 : List (Int × Int × Int × Int)) (l6 : List (Int × Int)) : Option (Bool) :=
  (bif decide (x1 < 0) then
   some (false)
  else
   (bif decide (x1 > 4096) then
    some (false)
   else
    (bif decide (x2 < 0) then
     some (false)
    else
     (bif decide (x2 > 4094) then
      some (false)
     else
      (bif ((l6.length : Int) != x1) then
       some (false)
      else
       (Option.bind (loopO (fun (s : Int) => F46_s1 x1 x2 x3 l4 l5 l6 s) 0) fun y17 =>
       (bif (Nat.beq y17 0) then
        some (false)
       else
        (Option.bind (loopO (fun (s : Int) => F46_s2 l5 s) 0) fun y26 =>
        (bif (Nat.beq y26 0) then
         some (false)
        else
         (Option.bind (loopO (fun (s : Int) => F46_s3 l5 l6 s) 0) fun y41 =>
         (bif (Nat.beq y41 0) then
          some (false)
         else
          (Option.bind (F70 x1 x2 x3 l4 l5 l6) fun y43 =>
          some (y43)))))))))))))
set_option maxRecDepth 100000 in
theorem F46_spec (x1 : Int) (x2 : Int) (x3 : Bool) (l4 : List (Int × Int × Int × Int)) (l5 : List (Int × Int × Int × Int)) (l6 : List (Int × Int)) (v4 : Hd) (v5 : Hd) (v6 : Hd) (h : AHeap) (hv4 : SlE E37 4 h (sv v4) l4) (hv5 : SlE E79 4 h (sv v5) l5) (hv6 : SlE E77 2 h (sv v6) l6) (r : Bool) : F46 x1 x2 x3 l4 l5 l6 = some r → ACalls Try.prog 46 [.agg #[.int .i64 x1, .int .i64 x2, .bool x3, (sv v4), (sv v5), (sv v6)]] h (fun v' h'' => v' = (.bool r : Value) ∧ h'' = h) := by
  unfold F46
  refine dec_bif (fun c7 => ?_) (fun c7 => ?_)
  · intro hr
    obtain rfl := Option.some.inj hr
    exact pFun_sound good tab_ok (f := 46) (its := [.g, .g, .g, .g, .g, .g, .n, .n, .n, (.p true), .g, .n, .n, .n, .g, .g, .n, .n, .n, .g, .g, .n, .n, .n, .n, .n, .n, .g, (.b true), .g]) (args := [.agg #[.int .i64 x1, .int .i64 x2, .bool x3, (sv v4), (sv v5), (sv v6)]]) (h := h) (h' := h) (v := .bool false) (hC := (And.intro l_t (And.intro (g_tf l_t) (And.intro (g_tf l_t) (And.intro (g_tf l_t) (And.intro (g_tf l_t) (And.intro (g_tf l_t) (And.intro (g_tf l_t) (And.intro (g_tf l_t) (And.intro (g_tf l_t) (And.intro (g_tf l_t) (And.intro (g_tf l_t) (And.intro (g_tf l_t) (And.intro (g_tf l_t) (And.intro c7 (And.intro (g_tf c7) (And.intro (g_tf c7) (And.intro (g_tf c7) trivial)))))))))))))))))) (hr := by kernel_rfl)
  · refine dec_bif (fun c8 => ?_) (fun c8 => ?_)
    · intro hr
      obtain rfl := Option.some.inj hr
      exact pFun_sound good tab_ok (f := 46) (its := [.g, .g, .g, .g, .g, .g, (.w .g), (.w .g), (.w .g), (.p false), .g, .n, .n, .n, (.p true), .g, .n, .n, .n, .g, .g, .n, .n, .n, .n, .n, .n, .g, (.b true), .g]) (args := [.agg #[.int .i64 x1, .int .i64 x2, .bool x3, (sv v4), (sv v5), (sv v6)]]) (h := h) (h' := h) (v := .bool false) (hC := (And.intro l_t (And.intro (g_tf l_t) (And.intro (g_tf l_t) (And.intro (g_tf l_t) (And.intro (g_tf l_t) (And.intro (g_tf l_t) (And.intro (g_tf l_t) (And.intro (g_tf l_t) (And.intro (g_tf l_t) (And.intro (g_tf l_t) (And.intro c8 (And.intro (g_tf c8) (And.intro (g_tf c8) (And.intro (g_tf c8) (And.intro c7 (And.intro (g_ff c7) (And.intro (g_ff c7) (And.intro (g_ff c7) trivial))))))))))))))))))) (hr := by kernel_rfl)
    · refine dec_bif (fun c9 => ?_) (fun c9 => ?_)
      · intro hr
        obtain rfl := Option.some.inj hr
        exact pFun_sound good tab_ok (f := 46) (its := [.g, .g, .g, .g, .g, .g, (.w .g), (.w .g), (.w .g), (.p false), .g, (.w .g), (.w .g), (.w .g), (.p false), .g, .n, .n, .n, (.p true), .g, .n, .n, .n, .n, .n, .n, .g, (.b true), .g]) (args := [.agg #[.int .i64 x1, .int .i64 x2, .bool x3, (sv v4), (sv v5), (sv v6)]]) (h := h) (h' := h) (v := .bool false) (hC := (And.intro l_t (And.intro (g_tf l_t) (And.intro (g_tf l_t) (And.intro (g_tf l_t) (And.intro (g_tf l_t) (And.intro (g_tf l_t) (And.intro (g_tf l_t) (And.intro c9 (And.intro (g_tf c9) (And.intro (g_tf c9) (And.intro (g_tf c9) (And.intro c8 (And.intro (g_ff c8) (And.intro (g_ff c8) (And.intro (g_ff c8) (And.intro c7 (And.intro (g_ff c7) (And.intro (g_ff c7) (And.intro (g_ff c7) trivial)))))))))))))))))))) (hr := by kernel_rfl)
      · refine dec_bif (fun c10 => ?_) (fun c10 => ?_)
        · intro hr
          obtain rfl := Option.some.inj hr
          exact pFun_sound good tab_ok (f := 46) (its := [.g, .g, .g, .g, .g, .g, (.w .g), (.w .g), (.w .g), (.p false), .g, (.w .g), (.w .g), (.w .g), (.p false), .g, (.w .g), (.w .g), (.w .g), (.p false), .g, .n, .n, .n, .n, .n, .n, (.p true), (.b true), .g]) (args := [.agg #[.int .i64 x1, .int .i64 x2, .bool x3, (sv v4), (sv v5), (sv v6)]]) (h := h) (h' := h) (v := .bool false) (hC := (And.intro l_t (And.intro c10 (And.intro (g_tf c10) (And.intro (g_tf c10) (And.intro (g_tf c10) (And.intro (g_tf c10) (And.intro (g_tf c10) (And.intro (g_tf c10) (And.intro c9 (And.intro (g_ff c9) (And.intro (g_ff c9) (And.intro (g_ff c9) (And.intro c8 (And.intro (g_ff c8) (And.intro (g_ff c8) (And.intro (g_ff c8) (And.intro c7 (And.intro (g_ff c7) (And.intro (g_ff c7) (And.intro (g_ff c7) trivial))))))))))))))))))))) (hr := by kernel_rfl)
        · refine dec_bif (fun c11 => ?_) (fun c11 => ?_)
          · intro hr
            obtain rfl := Option.some.inj hr
            exact pFun_sound good tab_ok (f := 46) (its := [.g, .g, .g, .g, .g, .g, (.w .g), (.w .g), (.w .g), (.p false), .g, (.w .g), (.w .g), (.w .g), (.p false), .g, (.w .g), (.w .g), (.w .g), (.p false), .g, (.w .g), (.w .g), (.w (.ln l6.length)), (.w .g), (.w .g), (.w .g), (.p false), (.b true), .g]) (args := [.agg #[.int .i64 x1, .int .i64 x2, .bool x3, (sv v4), (sv v5), (sv v6)]]) (h := h) (h' := h) (v := .bool false) (hC := (And.intro c11 (And.intro c10 (And.intro (g_ff c10) (And.intro (g_ff c10) (And.intro (g_ff c10) (And.intro (SlE.len hv6) (And.intro (g_ff c10) (And.intro (g_ff c10) (And.intro (g_ff c10) (And.intro c9 (And.intro (g_ff c9) (And.intro (g_ff c9) (And.intro (g_ff c9) (And.intro c8 (And.intro (g_ff c8) (And.intro (g_ff c8) (And.intro (g_ff c8) (And.intro c7 (And.intro (g_ff c7) (And.intro (g_ff c7) (And.intro (g_ff c7) trivial)))))))))))))))))))))) (hr := by kernel_rfl)
          · refine bind_opt fun y17 e17 => ?_
            refine dec_bif (fun c18 => ?_) (fun c18 => ?_)
            · intro hr
              obtain rfl := Option.some.inj hr
              exact pFun_sound good tab_ok (f := 46) (its := [.g, .g, .g, .g, .g, .g, (.w .g), (.w .g), (.w .g), (.p false), .g, (.w .g), (.w .g), (.w .g), (.p false), .g, (.w .g), (.w .g), (.w .g), (.p false), .g, (.w .g), (.w .g), (.w (.ln l6.length)), (.w .g), (.w .g), (.w .g), (.p false), (.b false), .g, .g, (.ln l4.length), .g, (.l F46_m1_1 [] .ret (F46_x1_0 h x1 x2 x3 v4 v5 v6 y17))]) (args := [.agg #[.int .i64 x1, .int .i64 x2, .bool x3, (sv v4), (sv v5), (sv v6)]]) (h := h) (h' := h) (v := .bool false) (hC := (And.intro (F46_l1_0 h x1 x2 x3 l4 v4 hv4 l5 v5 hv5 l6 v6 hv6 0 y17 e17 c18) (And.intro (SlE.len hv4) (And.intro c11 (And.intro c10 (And.intro (g_ff c10) (And.intro (g_ff c10) (And.intro (g_ff c10) (And.intro (SlE.len hv6) (And.intro (g_ff c10) (And.intro (g_ff c10) (And.intro (g_ff c10) (And.intro c9 (And.intro (g_ff c9) (And.intro (g_ff c9) (And.intro (g_ff c9) (And.intro c8 (And.intro (g_ff c8) (And.intro (g_ff c8) (And.intro (g_ff c8) (And.intro c7 (And.intro (g_ff c7) (And.intro (g_ff c7) (And.intro (g_ff c7) trivial)))))))))))))))))))))))) (hr := by kernel_rfl)
            · refine bind_opt fun y26 e26 => ?_
              refine dec_bif (fun c27 => ?_) (fun c27 => ?_)
              · intro hr
                obtain rfl := Option.some.inj hr
                exact pFun_sound good tab_ok (f := 46) (its := [.g, .g, .g, .g, .g, .g, (.w .g), (.w .g), (.w .g), (.p false), .g, (.w .g), (.w .g), (.w .g), (.p false), .g, (.w .g), (.w .g), (.w .g), (.p false), .g, (.w .g), (.w .g), (.w (.ln l6.length)), (.w .g), (.w .g), (.w .g), (.p false), (.b false), .g, .g, (.ln l4.length), .g, (.l F46_m1_1 [] (.exit 0) (F46_x1_1 h x1 x2 x3 v4 v5 v6 y17)), .g, .g, (.ln l5.length), .g, (.l F46_m2_1 [] .ret (F46_x2_0 h x1 x2 x3 v4 v5 v6 y26))]) (args := [.agg #[.int .i64 x1, .int .i64 x2, .bool x3, (sv v4), (sv v5), (sv v6)]]) (h := h) (h' := h) (v := .bool false) (hC := (And.intro (F46_l2_0 h x1 x2 x3 v4 l5 v5 hv5 v6 0 y26 e26 c27) (And.intro (SlE.len hv5) (And.intro (F46_l1_1 h x1 x2 x3 l4 v4 hv4 l5 v5 hv5 l6 v6 hv6 0 y17 e17 c18) (And.intro (SlE.len hv4) (And.intro c11 (And.intro c10 (And.intro (g_ff c10) (And.intro (g_ff c10) (And.intro (g_ff c10) (And.intro (SlE.len hv6) (And.intro (g_ff c10) (And.intro (g_ff c10) (And.intro (g_ff c10) (And.intro c9 (And.intro (g_ff c9) (And.intro (g_ff c9) (And.intro (g_ff c9) (And.intro c8 (And.intro (g_ff c8) (And.intro (g_ff c8) (And.intro (g_ff c8) (And.intro c7 (And.intro (g_ff c7) (And.intro (g_ff c7) (And.intro (g_ff c7) trivial)))))))))))))))))))))))))) (hr := by kernel_rfl)
              · refine bind_opt fun y41 e41 => ?_
                refine dec_bif (fun c42 => ?_) (fun c42 => ?_)
                · intro hr
                  obtain rfl := Option.some.inj hr
                  exact pFun_sound good tab_ok (f := 46) (its := [.g, .g, .g, .g, .g, .g, (.w .g), (.w .g), (.w .g), (.p false), .g, (.w .g), (.w .g), (.w .g), (.p false), .g, (.w .g), (.w .g), (.w .g), (.p false), .g, (.w .g), (.w .g), (.w (.ln l6.length)), (.w .g), (.w .g), (.w .g), (.p false), (.b false), .g, .g, (.ln l4.length), .g, (.l F46_m1_1 [] (.exit 0) (F46_x1_1 h x1 x2 x3 v4 v5 v6 y17)), .g, .g, (.ln l5.length), .g, (.l F46_m2_1 [] (.exit 2) (F46_x2_1 h x1 x2 x3 v4 v5 v6 y26)), .g, .g, (.ln l6.length), .g, (.l F46_m3_1 [] .ret (F46_x3_0 h x1 x2 x3 v4 v5 v6 y41))]) (args := [.agg #[.int .i64 x1, .int .i64 x2, .bool x3, (sv v4), (sv v5), (sv v6)]]) (h := h) (h' := h) (v := .bool false) (hC := (And.intro (F46_l3_0 h x1 x2 x3 v4 l5 v5 hv5 l6 v6 hv6 0 y41 e41 c42) (And.intro (SlE.len hv6) (And.intro (F46_l2_1 h x1 x2 x3 v4 l5 v5 hv5 v6 0 y26 e26 c27) (And.intro (SlE.len hv5) (And.intro (F46_l1_1 h x1 x2 x3 l4 v4 hv4 l5 v5 hv5 l6 v6 hv6 0 y17 e17 c18) (And.intro (SlE.len hv4) (And.intro c11 (And.intro c10 (And.intro (g_ff c10) (And.intro (g_ff c10) (And.intro (g_ff c10) (And.intro (SlE.len hv6) (And.intro (g_ff c10) (And.intro (g_ff c10) (And.intro (g_ff c10) (And.intro c9 (And.intro (g_ff c9) (And.intro (g_ff c9) (And.intro (g_ff c9) (And.intro c8 (And.intro (g_ff c8) (And.intro (g_ff c8) (And.intro (g_ff c8) (And.intro c7 (And.intro (g_ff c7) (And.intro (g_ff c7) (And.intro (g_ff c7) trivial)))))))))))))))))))))))))))) (hr := by kernel_rfl)
                · refine bind_opt fun y43 e43 => ?_
                  intro hr
                  obtain rfl := Option.some.inj hr
                  exact pFun_sound good tab_ok (f := 46) (its := [.g, .g, .g, .g, .g, .g, (.w .g), (.w .g), (.w .g), (.p false), .g, (.w .g), (.w .g), (.w .g), (.p false), .g, (.w .g), (.w .g), (.w .g), (.p false), .g, (.w .g), (.w .g), (.w (.ln l6.length)), (.w .g), (.w .g), (.w .g), (.p false), (.b false), .g, .g, (.ln l4.length), .g, (.l F46_m1_1 [] (.exit 0) (F46_x1_1 h x1 x2 x3 v4 v5 v6 y17)), .g, .g, (.ln l5.length), .g, (.l F46_m2_1 [] (.exit 2) (F46_x2_1 h x1 x2 x3 v4 v5 v6 y26)), .g, .g, (.ln l6.length), .g, (.l F46_m3_1 [] (.exit 4) (F46_x3_1 h x1 x2 x3 v4 v5 v6 y41)), .g, (.c (.bool y43) h), .g]) (args := [.agg #[.int .i64 x1, .int .i64 x2, .bool x3, (sv v4), (sv v5), (sv v6)]]) (h := h) (h' := h) (v := .bool y43) (hC := (And.intro (F70_spec x1 x2 x3 l4 l5 l6 v4 v5 v6 h hv4 hv5 hv6 _ e43) (And.intro (F46_l3_1 h x1 x2 x3 v4 l5 v5 hv5 l6 v6 hv6 0 y41 e41 c42) (And.intro (SlE.len hv6) (And.intro (F46_l2_1 h x1 x2 x3 v4 l5 v5 hv5 v6 0 y26 e26 c27) (And.intro (SlE.len hv5) (And.intro (F46_l1_1 h x1 x2 x3 l4 v4 hv4 l5 v5 hv5 l6 v6 hv6 0 y17 e17 c18) (And.intro (SlE.len hv4) (And.intro c11 (And.intro c10 (And.intro (g_ff c10) (And.intro (g_ff c10) (And.intro (g_ff c10) (And.intro (SlE.len hv6) (And.intro (g_ff c10) (And.intro (g_ff c10) (And.intro (g_ff c10) (And.intro c9 (And.intro (g_ff c9) (And.intro (g_ff c9) (And.intro (g_ff c9) (And.intro c8 (And.intro (g_ff c8) (And.intro (g_ff c8) (And.intro (g_ff c8) (And.intro c7 (And.intro (g_ff c7) (And.intro (g_ff c7) (And.intro (g_ff c7) trivial))))))))))))))))))))))))))))) (hr := by kernel_rfl)
/-! 47 jacquard/schedcheck.Fits$1 -/
def F47 (x1 : Int) : Bool :=
  (bif decide (x1 < 0) then
   true
  else
   (decide (x1 > 4096)))
set_option maxRecDepth 100000 in
theorem F47_spec (x1 : Int) (h : AHeap)  (r : Bool) : F47 x1 = r → ACalls Try.prog 47 [.int .i64 x1] h (fun v' h'' => v' = (.bool r : Value) ∧ h'' = h) := by
  unfold F47
  refine dec_bif (fun c2 => ?_) (fun c2 => ?_)
  · intro hr
    subst hr
    exact pFun_sound good tab_ok (f := 47) (its := [.g, .g, .g, .g, .n, .n, (.p true), .g]) (args := [.int .i64 x1]) (h := h) (h' := h) (v := .bool true) (hC := (And.intro c2 (And.intro (g_tf c2) (And.intro (g_tf c2) trivial)))) (hr := by kernel_rfl)
  · intro hr
    subst hr
    exact pFun_sound good tab_ok (f := 47) (its := [.g, .g, .g, .g, (.w .g), (.w .g), (.p false), .g]) (args := [.int .i64 x1]) (h := h) (h' := h) (v := .bool (decide (x1 > 4096))) (hC := (And.intro c2 (And.intro (g_ff c2) (And.intro (g_ff c2) trivial)))) (hr := by kernel_rfl)
/-! 68 slices.IndexFunc[[]int,int] -/
def F68w47_L : List Nat := []
def F68w47_D : List (Nat × List (Nat × Nat)) := []
def F68w47_m1_2 : List Bool := [true, true, true, true, true, true, true, true, true, true, true, true, true, true, true, true, true, true, true]
def F68w47_m1_1 : List Bool := [false, false, true, true, true, true, true, false, false, true, true, true, true, true, true, true, true, true, true]
def F68w47_m1_0 : List Bool := [true, true, true, true, false, true, true, true, true, true, true, true, true, true, true, true, true, true, true]
def F68w47_s1 (l1 : List Int) (a2 : Int) : Option (Int ⊕ (Nat × Int)) :=
  (bif decide (a2 < (l1.length : Int)) then
   (Option.bind (at? l1 a2) fun y4 =>
   (bif (F47 y4) then
    some (.inr (0, a2))
   else
    some (.inl (IntKind.i64.wrap (a2 + 1)))))
  else
   some (.inr (1, 0)))
def F68w47_h1 (h : AHeap) (l1 : List Int) (v1 : Hd)  (a2 : Int) : AS := ⟨[(sv v1), .func (.func 47) #[] #[], junk, junk, junk, junk, junk, .int .i64 (l1.length : Int), .int .i64 a2, junk, junk, junk, junk, junk, junk, junk, junk, junk, junk], [], h⟩
theorem F68w47_d1 : drawsOk F68w47_D (codeOf Try.prog 68 [1, 0, 1, 0, 0]) = true := by kernel_rfl
def F68w47_x1_0 (h : AHeap)  (r : Nat × Int) : AS := ⟨[junk, junk, junk, junk, .int .i64 r.2, junk, junk, junk, junk, junk, junk, junk, junk, junk, junk, junk, junk, junk, junk], [], h⟩
def F68w47_x1_1 (h : AHeap)  (r : Nat × Int) : AS := ⟨[junk, junk, junk, junk, junk, junk, junk, junk, junk, junk, junk, junk, junk, junk, junk, junk, junk, junk, junk], [], h⟩
def F68w47_x1 (h : AHeap) (r : Nat × Int) : Exit × AS := (bif Nat.beq r.1 0 then (.ret, (F68w47_x1_0 h r)) else ((.exit 0), (F68w47_x1_1 h r)))
set_option maxRecDepth 100000 in
theorem F68w47_r1 (h : AHeap) (l1 : List Int) (v1 : Hd) (hv1 : SlE E3 1 h (sv v1) l1) (a2 : Int) (o : Int ⊕ (Nat × Int)) : F68w47_s1 l1 a2 = some o → RdF Try.prog (codeOf Try.prog 68 [1, 0, 1, 0, 0]) (fun (s : Int) => (F68w47_h1 h l1 v1 s)) (F68w47_x1 h) (F68w47_h1 h l1 v1 a2) o := by
  unfold F68w47_s1
  refine dec_bif (fun c3 => ?_) (fun c3 => ?_)
  · refine bind_opt fun y4 e4 => ?_
    obtain ⟨id4, off4, g4, cs4, ix4, at4, rfl⟩ := SlE.at hv1 e4
    refine dec_bif (fun c6 => ?_) (fun c6 => ?_)
    · intro hr
      obtain rfl := Option.some.inj hr
      show AWp Try.prog _ (Ends1 ((F68w47_x1 h) ((0, a2) : Nat × Int)).1 ((F68w47_x1 h) ((0, a2) : Nat × Int)).2) _
      exact pEnd_sound good (L := F68w47_L) (D := F68w47_D) (its := [.g, (.b true), .g, .g, .g, .g, .g, (.ix id4 off4 g4), (.ld (.int .i64 y4)), (.c (.bool (F47 y4)) h), (.b true), .g, .g]) (ds := F68w47_m1_0) (ks := []) (e := ((F68w47_x1 h) ((0, a2) : Nat × Int)).1) (s2 := ((F68w47_x1 h) ((0, a2) : Nat × Int)).2) (hC := (And.intro c6 (And.intro (F47_spec y4 h _ rfl) (And.intro (At.one (P := Try.prog) (t := 3) (v := .int .i64 y4) at4 (by kernel_rfl) 0 rfl rfl) (And.intro ix4 (And.intro c3 trivial)))))) (hd := F68w47_d1) (h := by kernel_rfl)
    · intro hr
      obtain rfl := Option.some.inj hr
      show AWp Try.prog _ (Ends1 .normal (F68w47_h1 h l1 v1 (IntKind.i64.wrap (a2 + 1)))) _
      exact pEnd_sound good (L := F68w47_L) (D := F68w47_D) (its := [.g, (.b true), .g, .g, .g, .g, .g, (.ix id4 off4 g4), (.ld (.int .i64 y4)), (.c (.bool (F47 y4)) h), (.b false), .g, .g]) (ds := F68w47_m1_1) (ks := []) (e := .normal) (s2 := (F68w47_h1 h l1 v1 (IntKind.i64.wrap (a2 + 1)))) (hC := (And.intro c6 (And.intro (F47_spec y4 h _ rfl) (And.intro (At.one (P := Try.prog) (t := 3) (v := .int .i64 y4) at4 (by kernel_rfl) 0 rfl rfl) (And.intro ix4 (And.intro c3 trivial)))))) (hd := F68w47_d1) (h := by kernel_rfl)
  · intro hr
    obtain rfl := Option.some.inj hr
    show AWp Try.prog _ (Ends1 ((F68w47_x1 h) ((1, 0) : Nat × Int)).1 ((F68w47_x1 h) ((1, 0) : Nat × Int)).2) _
    exact pEnd_sound good (L := F68w47_L) (D := F68w47_D) (its := [.g, (.b false)]) (ds := F68w47_m1_2) (ks := []) (e := ((F68w47_x1 h) ((1, 0) : Nat × Int)).1) (s2 := ((F68w47_x1 h) ((1, 0) : Nat × Int)).2) (hC := (And.intro c3 trivial)) (hd := F68w47_d1) (h := by kernel_rfl)
theorem F68w47_l1_0 (h : AHeap) (l1 : List Int) (v1 : Hd) (hv1 : SlE E3 1 h (sv v1) l1) (x : Int) (r : Nat × Int) (hl : loopO (fun (s : Int) => F68w47_s1 l1 s) x = some r) (q0 : Nat.beq r.1 0 = true) : AWp Try.prog (.loop (codeOf Try.prog 68 [1, 0, 1, 0, 0])) (Ends1 .ret (F68w47_x1_0 h r)) ((fun (s : Int) => (F68w47_h1 h l1 v1 s)) x) := by
  have k := loop_fun (P := Try.prog) (c := (codeOf Try.prog 68 [1, 0, 1, 0, 0])) (step := (fun (s : Int) => F68w47_s1 l1 s)) (hd := (fun (s : Int) => (F68w47_h1 h l1 v1 s))) (X := (F68w47_x1 h)) (by intro t; unfold F68w47_x1; cases Nat.beq t.1 0 <;> (intro h; cases h)) (fun x => F68w47_r1 h l1 v1 hv1 x) hl
  simp only [F68w47_x1, q0, cond_true, cond_false] at k
  exact k
theorem F68w47_l1_1 (h : AHeap) (l1 : List Int) (v1 : Hd) (hv1 : SlE E3 1 h (sv v1) l1) (x : Int) (r : Nat × Int) (hl : loopO (fun (s : Int) => F68w47_s1 l1 s) x = some r) (q0 : Nat.beq r.1 0 = false) : AWp Try.prog (.loop (codeOf Try.prog 68 [1, 0, 1, 0, 0])) (Ends1 (.exit 0) (F68w47_x1_1 h r)) ((fun (s : Int) => (F68w47_h1 h l1 v1 s)) x) := by
  have k := loop_fun (P := Try.prog) (c := (codeOf Try.prog 68 [1, 0, 1, 0, 0])) (step := (fun (s : Int) => F68w47_s1 l1 s)) (hd := (fun (s : Int) => (F68w47_h1 h l1 v1 s))) (X := (F68w47_x1 h)) (by intro t; unfold F68w47_x1; cases Nat.beq t.1 0 <;> (intro h; cases h)) (fun x => F68w47_r1 h l1 v1 hv1 x) hl
  simp only [F68w47_x1, q0, cond_true, cond_false] at k
  exact k
def F68w47 (l1 : List Int) : Option (Int) :=
  (Option.bind (loopO (fun (s : Int) => F68w47_s1 l1 s) 0) fun y7 =>
  (bif (Nat.beq y7.1 0) then
   some (y7.2)
  else
   some (-1)))
set_option maxRecDepth 100000 in
theorem F68w47_spec (l1 : List Int) (v1 : Hd) (h : AHeap) (hv1 : SlE E3 1 h (sv v1) l1) (r : Int) : F68w47 l1 = some r → ACalls Try.prog 68 [(sv v1), .func (.func 47) #[] #[]] h (fun v' h'' => v' = (.int .i64 r : Value) ∧ h'' = h) := by
  unfold F68w47
  refine bind_opt fun y7 e7 => ?_
  refine dec_bif (fun c8 => ?_) (fun c8 => ?_)
  · intro hr
    obtain rfl := Option.some.inj hr
    exact pFun_sound good tab_ok (f := 68) (its := [.g, .g, (.ln l1.length), .g, (.l F68w47_m1_1 [] .ret (F68w47_x1_0 h y7))]) (args := [(sv v1), .func (.func 47) #[] #[]]) (h := h) (h' := h) (v := .int .i64 y7.2) (hC := (And.intro (F68w47_l1_0 h l1 v1 hv1 0 y7 e7 c8) (And.intro (SlE.len hv1) trivial))) (hr := by kernel_rfl)
  · intro hr
    obtain rfl := Option.some.inj hr
    exact pFun_sound good tab_ok (f := 68) (its := [.g, .g, (.ln l1.length), .g, (.l F68w47_m1_1 [] (.exit 0) (F68w47_x1_1 h y7)), .g]) (args := [(sv v1), .func (.func 47) #[] #[]]) (h := h) (h' := h) (v := .int .i64 (-1)) (hC := (And.intro (F68w47_l1_1 h l1 v1 hv1 0 y7 e7 c8) (And.intro (SlE.len hv1) trivial))) (hr := by kernel_rfl)
/-! 44 slices.ContainsFunc[[]int,int] -/
def F44w47 (l1 : List Int) : Option (Bool) :=
  (Option.bind (F68w47 l1) fun y2 =>
  some (decide (y2 ≥ 0)))
set_option maxRecDepth 100000 in
theorem F44w47_spec (l1 : List Int) (v1 : Hd) (h : AHeap) (hv1 : SlE E3 1 h (sv v1) l1) (r : Bool) : F44w47 l1 = some r → ACalls Try.prog 44 [(sv v1), .func (.func 47) #[] #[]] h (fun v' h'' => v' = (.bool r : Value) ∧ h'' = h) := by
  unfold F44w47
  refine bind_opt fun y2 e2 => ?_
  intro hr
  obtain rfl := Option.some.inj hr
  exact pFun_sound good tab_ok (f := 44) (its := [.g, .g, .g, (.c (.int .i64 y2) h), .g, .g]) (args := [(sv v1), .func (.func 47) #[] #[]]) (h := h) (h' := h) (v := .bool (decide (y2 ≥ 0))) (hC := (And.intro (F68w47_spec l1 v1 h hv1 _ e2) trivial)) (hr := by kernel_rfl)
end
end Go.Proofs.Ytofnegejldgdbaa.Abs
