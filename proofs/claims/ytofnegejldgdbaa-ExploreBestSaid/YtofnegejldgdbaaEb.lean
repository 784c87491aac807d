/-
  Contracts, written by program: for each function what its call yields, and that it yields it.
-/
import Derived.Test.YtofnegejldgdbaaEbt
namespace Go.Proofs.Ytofnegejldgdbaa.Abs
open Go
set_option linter.unusedVariables false
set_option linter.unusedSimpArgs false

noncomputable section
/-! 73 cmp.isNaN[int] -/
def F73 (x1 : Int) : Bool :=
  (x1 != x1)
set_option maxRecDepth 100000 in
theorem F73_spec (x1 : Int) (h : AHeap)  (r : Bool) : F73 x1 = r → ACalls Try.prog 73 [.int .i64 x1] h (fun v' h'' => v' = (.bool r : Value) ∧ h'' = h) := by
  unfold F73
  intro hr
  subst hr
  exact pFun_sound good tab_ok (f := 73) (its := [.g, .g, .g, .g, .g]) (args := [.int .i64 x1]) (h := h) (h' := h) (v := .bool (x1 != x1)) (hC := trivial) (hr := by kernel_rfl)
/-! 52 cmp.Compare[int] -/
def F52 (x1 : Int) (x2 : Int) : Int :=
  (bif (F73 x1) then
   (bif (F73 x2) then
    0
   else
    (-1))
  else
   (bif (F73 x2) then
    1
   else
    (bif decide (x1 < x2) then
     (-1)
    else
     (bif decide (x1 > x2) then
      1
     else
      0))))
set_option maxRecDepth 100000 in
theorem F52_spec (x1 : Int) (x2 : Int) (h : AHeap)  (r : Int) : F52 x1 x2 = r → ACalls Try.prog 52 [.int .i64 x1, .int .i64 x2] h (fun v' h'' => v' = (.int .i64 r : Value) ∧ h'' = h) := by
  unfold F52
  refine dec_bif (fun c5 => ?_) (fun c5 => ?_)
  · refine dec_bif (fun c6 => ?_) (fun c6 => ?_)
    · intro hr
      subst hr
      exact pFun_sound good tab_ok (f := 52) (its := [.g, .g, (.c (.bool (F73 x1)) h), .g, .g, (.c (.bool (F73 x2)) h), .g, .g, (.b true), .g, (.b true), .g]) (args := [.int .i64 x1, .int .i64 x2]) (h := h) (h' := h) (v := .int .i64 0) (hC := (ai c6 (ai c5 (ai (F73_spec x2 h _ rfl) (ai (F73_spec x1 h _ rfl) trivial))))) (hr := by kernel_rfl)
    · intro hr
      subst hr
      exact pFun_sound good tab_ok (f := 52) (its := [.g, .g, (.c (.bool (F73 x1)) h), .g, .g, (.c (.bool (F73 x2)) h), .g, .g, (.b true), .g, (.b false), .g]) (args := [.int .i64 x1, .int .i64 x2]) (h := h) (h' := h) (v := .int .i64 (-1)) (hC := (ai c6 (ai c5 (ai (F73_spec x2 h _ rfl) (ai (F73_spec x1 h _ rfl) trivial))))) (hr := by kernel_rfl)
  · refine dec_bif (fun c7 => ?_) (fun c7 => ?_)
    · intro hr
      subst hr
      exact pFun_sound good tab_ok (f := 52) (its := [.g, .g, (.c (.bool (F73 x1)) h), .g, .g, (.c (.bool (F73 x2)) h), .g, .g, (.b false), .g, (.b true), .g]) (args := [.int .i64 x1, .int .i64 x2]) (h := h) (h' := h) (v := .int .i64 1) (hC := (ai c7 (ai c5 (ai (F73_spec x2 h _ rfl) (ai (F73_spec x1 h _ rfl) trivial))))) (hr := by kernel_rfl)
    · refine dec_bif (fun c8 => ?_) (fun c8 => ?_)
      · intro hr
        subst hr
        exact pFun_sound good tab_ok (f := 52) (its := [.g, .g, (.c (.bool (F73 x1)) h), .g, .g, (.c (.bool (F73 x2)) h), .g, .g, (.b false), .g, (.b false), .g, .g, .g, (.b true), .g]) (args := [.int .i64 x1, .int .i64 x2]) (h := h) (h' := h) (v := .int .i64 (-1)) (hC := (ai c8 (ai c7 (ai c5 (ai (F73_spec x2 h _ rfl) (ai (F73_spec x1 h _ rfl) trivial)))))) (hr := by kernel_rfl)
      · refine dec_bif (fun c9 => ?_) (fun c9 => ?_)
        · intro hr
          subst hr
          exact pFun_sound good tab_ok (f := 52) (its := [.g, .g, (.c (.bool (F73 x1)) h), .g, .g, (.c (.bool (F73 x2)) h), .g, .g, (.b false), .g, (.b false), .g, .g, .g, (.b false), .g, .g, .g, (.b true), .g]) (args := [.int .i64 x1, .int .i64 x2]) (h := h) (h' := h) (v := .int .i64 1) (hC := (ai c9 (ai c8 (ai c7 (ai c5 (ai (F73_spec x2 h _ rfl) (ai (F73_spec x1 h _ rfl) trivial))))))) (hr := by kernel_rfl)
        · intro hr
          subst hr
          exact pFun_sound good tab_ok (f := 52) (its := [.g, .g, (.c (.bool (F73 x1)) h), .g, .g, (.c (.bool (F73 x2)) h), .g, .g, (.b false), .g, (.b false), .g, .g, .g, (.b false), .g, .g, .g, (.b false), .g]) (args := [.int .i64 x1, .int .i64 x2]) (h := h) (h' := h) (v := .int .i64 0) (hC := (ai c9 (ai c8 (ai c7 (ai c5 (ai (F73_spec x2 h _ rfl) (ai (F73_spec x1 h _ rfl) trivial))))))) (hr := by kernel_rfl)
def enc3 (x : Int) : List Value := [.int .i64 x]
def E3 (h : AHeap) (cs : List Value) (x : Int) : Prop := cs = enc3 x
theorem E3_mono {h h' : AHeap} (le : h.sub h') (cs : List Value) (x : Int) (H : E3 h cs x) : E3 h' cs x := H
def W3 (x : Int) : Prop := (Lit.int .i64 x).wf = true ∧ True
set_option maxRecDepth 100000 in
theorem E3_wt {h : AHeap} {n : Nat} {cs : List Value} (H : WT Try.prog h n 3 cs) : ∃ x, E3 h cs x ∧ W3 x := by
  have k : SQ Try.prog h [.int .i64] cs := wt_flatS 1 n (by kernel_rfl) H
  obtain ⟨x0, r0, rfl, w0, k0⟩ := sq_int k
  obtain rfl := sq_nil k0
  exact ⟨x0, rfl, ⟨w0, trivial⟩⟩
/-! 51 cmp.Or[int] -/
def F51_L : List Nat := []
def F51_D : List (Nat × List (Nat × Nat)) := []
def F51_m1_2 : List Bool := [true, true, true, false, true, true, true, true, true, true, true, true, true, true, true, true, true, true]
def F51_m1_1 : List Bool := [true, true, true, false, true, true, false, false, false, true, true, true, true, true, true, true, true, true]
def F51_m1_0 : List Bool := [true, true, false, true, true, true, true, true, true, true, true, true, true, true, true, true, true, true]
def F51_s1 (l1 : List Int) (a2 : Int) : Option (Int ⊕ (Nat × Int)) :=
  (bif decide (a2 < (l1.length : Int)) then
   (Option.bind (at? l1 a2) fun y4 =>
   (bif (y4 != 0) then
    some (.inr (0, y4))
   else
    some (.inl (IntKind.i64.wrap (a2 + 1)))))
  else
   some (.inr (1, 0)))
def F51_h1 (h : AHeap) (l1 : List Int) (v1 : Hd)  (a2 : Int) : AS := ⟨[junk, junk, junk, .int .i64 0, junk, junk, (sv v1), .int .i64 (l1.length : Int), .int .i64 a2, junk, junk, junk, junk, junk, junk, junk, junk, junk], [], h⟩
theorem F51_d1 : drawsOk F51_D (codeOf Try.prog 51 [1, 1, 0, 1, 0, 0]) = true := by kernel_rfl
def F51_x1_0 (h : AHeap)  (r : Nat × Int) : AS := ⟨[junk, junk, .int .i64 r.2, junk, junk, junk, junk, junk, junk, junk, junk, junk, junk, junk, junk, junk, junk, junk], [], h⟩
def F51_x1_1 (h : AHeap)  (r : Nat × Int) : AS := ⟨[junk, junk, junk, .int .i64 0, junk, junk, junk, junk, junk, junk, junk, junk, junk, junk, junk, junk, junk, junk], [], h⟩
def F51_x1 (h : AHeap) (r : Nat × Int) : Exit × AS := (bif Nat.beq r.1 0 then (.ret, (F51_x1_0 h r)) else ((.exit 0), (F51_x1_1 h r)))
set_option maxRecDepth 100000 in
theorem F51_r1 (h : AHeap) (l1 : List Int) (v1 : Hd) (hv1 : SlE E3 1 h (sv v1) l1) (a2 : Int) (o : Int ⊕ (Nat × Int)) : F51_s1 l1 a2 = some o → RdF Try.prog (codeOf Try.prog 51 [1, 1, 0, 1, 0, 0]) (fun (s : Int) => (F51_h1 h l1 v1 s)) (F51_x1 h) (F51_h1 h l1 v1 a2) o := by
  unfold F51_s1
  refine dec_bif (fun c3 => ?_) (fun c3 => ?_)
  · refine bind_opt fun y4 e4 => ?_
    obtain ⟨id4, off4, g4, cs4, ix4, at4, rfl⟩ := SlE.at hv1 e4
    refine dec_bif (fun c5 => ?_) (fun c5 => ?_)
    · intro hr
      obtain rfl := Option.some.inj hr
      show AWp Try.prog _ (Ends1 ((F51_x1 h) ((0, y4) : Nat × Int)).1 ((F51_x1 h) ((0, y4) : Nat × Int)).2) _
      exact pEnd_sound good (L := F51_L) (D := F51_D) (its := [.g, (.b true), (.ix id4 off4 g4), (.ld (.int .i64 y4)), .g, .g, .g, .g, (.b true), .g, .g]) (ds := F51_m1_0) (ks := []) (e := ((F51_x1 h) ((0, y4) : Nat × Int)).1) (s2 := ((F51_x1 h) ((0, y4) : Nat × Int)).2) (hC := (ai c5 (ai (At.one (P := Try.prog) (t := 3) (v := .int .i64 y4) at4 (by kernel_rfl) 0 rfl rfl) (ai ix4 (ai c3 trivial))))) (hd := F51_d1) (h := by kernel_rfl)
    · intro hr
      obtain rfl := Option.some.inj hr
      show AWp Try.prog _ (Ends1 .normal (F51_h1 h l1 v1 (IntKind.i64.wrap (a2 + 1)))) _
      exact pEnd_sound good (L := F51_L) (D := F51_D) (its := [.g, (.b true), (.ix id4 off4 g4), (.ld (.int .i64 y4)), .g, .g, .g, .g, (.b false), .g, .g]) (ds := F51_m1_1) (ks := []) (e := .normal) (s2 := (F51_h1 h l1 v1 (IntKind.i64.wrap (a2 + 1)))) (hC := (ai c5 (ai (At.one (P := Try.prog) (t := 3) (v := .int .i64 y4) at4 (by kernel_rfl) 0 rfl rfl) (ai ix4 (ai c3 trivial))))) (hd := F51_d1) (h := by kernel_rfl)
  · intro hr
    obtain rfl := Option.some.inj hr
    show AWp Try.prog _ (Ends1 ((F51_x1 h) ((1, 0) : Nat × Int)).1 ((F51_x1 h) ((1, 0) : Nat × Int)).2) _
    exact pEnd_sound good (L := F51_L) (D := F51_D) (its := [.g, (.b false)]) (ds := F51_m1_2) (ks := []) (e := ((F51_x1 h) ((1, 0) : Nat × Int)).1) (s2 := ((F51_x1 h) ((1, 0) : Nat × Int)).2) (hC := (ai c3 trivial)) (hd := F51_d1) (h := by kernel_rfl)
theorem F51_l1_0 (h : AHeap) (l1 : List Int) (v1 : Hd) (hv1 : SlE E3 1 h (sv v1) l1) (x : Int) (r : Nat × Int) (hl : loopO (fun (s : Int) => F51_s1 l1 s) x = some r) (q0 : Nat.beq r.1 0 = true) : AWp Try.prog (.loop (codeOf Try.prog 51 [1, 1, 0, 1, 0, 0])) (Ends1 .ret (F51_x1_0 h r)) ((fun (s : Int) => (F51_h1 h l1 v1 s)) x) := by
  have k := loop_fun (P := Try.prog) (c := (codeOf Try.prog 51 [1, 1, 0, 1, 0, 0])) (step := (fun (s : Int) => F51_s1 l1 s)) (hd := (fun (s : Int) => (F51_h1 h l1 v1 s))) (X := (F51_x1 h)) (by intro t; unfold F51_x1; cases Nat.beq t.1 0 <;> (intro h; cases h)) (fun x => F51_r1 h l1 v1 hv1 x) hl
  simp only [F51_x1, q0, cond_true, cond_false] at k
  exact k
theorem F51_l1_1 (h : AHeap) (l1 : List Int) (v1 : Hd) (hv1 : SlE E3 1 h (sv v1) l1) (x : Int) (r : Nat × Int) (hl : loopO (fun (s : Int) => F51_s1 l1 s) x = some r) (q0 : Nat.beq r.1 0 = false) : AWp Try.prog (.loop (codeOf Try.prog 51 [1, 1, 0, 1, 0, 0])) (Ends1 (.exit 0) (F51_x1_1 h r)) ((fun (s : Int) => (F51_h1 h l1 v1 s)) x) := by
  have k := loop_fun (P := Try.prog) (c := (codeOf Try.prog 51 [1, 1, 0, 1, 0, 0])) (step := (fun (s : Int) => F51_s1 l1 s)) (hd := (fun (s : Int) => (F51_h1 h l1 v1 s))) (X := (F51_x1 h)) (by intro t; unfold F51_x1; cases Nat.beq t.1 0 <;> (intro h; cases h)) (fun x => F51_r1 h l1 v1 hv1 x) hl
  simp only [F51_x1, q0, cond_true, cond_false] at k
  exact k
def F51 (l1 : List Int) : Option (Int) :=
  (Option.bind (loopO (fun (s : Int) => F51_s1 l1 s) 0) fun y6 =>
  (bif (Nat.beq y6.1 0) then
   some (y6.2)
  else
   some (0)))
set_option maxRecDepth 100000 in
theorem F51_spec (l1 : List Int) (v1 : Hd) (h : AHeap) (hv1 : SlE E3 1 h (sv v1) l1) (r : Int) : F51 l1 = some r → ACalls Try.prog 51 [(sv v1)] h (fun v' h'' => v' = (.int .i64 r : Value) ∧ h'' = h) := by
  unfold F51
  refine bind_opt fun y6 e6 => ?_
  refine dec_bif (fun c7 => ?_) (fun c7 => ?_)
  · intro hr
    obtain rfl := Option.some.inj hr
    exact pFun_sound good tab_ok (f := 51) (its := [.g, .g, .g, (.ln l1.length), .g, (.l F51_m1_1 [] .ret (F51_x1_0 h y6))]) (args := [(sv v1)]) (h := h) (h' := h) (v := .int .i64 y6.2) (hC := (ai (F51_l1_0 h l1 v1 hv1 0 y6 e6 c7) (ai (SlE.len hv1) trivial))) (hr := by kernel_rfl)
  · intro hr
    obtain rfl := Option.some.inj hr
    exact pFun_sound good tab_ok (f := 51) (its := [.g, .g, .g, (.ln l1.length), .g, (.l F51_m1_1 [] (.exit 0) (F51_x1_1 h y6)), .g, .g]) (args := [(sv v1)]) (h := h) (h' := h) (v := .int .i64 0) (hC := (ai (F51_l1_1 h l1 v1 hv1 0 y6 e6 c7) (ai (SlE.len hv1) trivial))) (hr := by kernel_rfl)
def enc66 (x : Int × Int × Int × Int) : List Value := [.int .i64 x.1, .int .i64 x.2.1, .int .i64 x.2.2.1, .int .i64 x.2.2.2]
def E66 (h : AHeap) (cs : List Value) (x : Int × Int × Int × Int) : Prop := cs = enc66 x
theorem E66_mono {h h' : AHeap} (le : h.sub h') (cs : List Value) (x : Int × Int × Int × Int) (H : E66 h cs x) : E66 h' cs x := H
def W66 (x : Int × Int × Int × Int) : Prop := (Lit.int .i64 x.1).wf = true ∧ (Lit.int .i64 x.2.1).wf = true ∧ (Lit.int .i64 x.2.2.1).wf = true ∧ (Lit.int .i64 x.2.2.2).wf = true ∧ True
set_option maxRecDepth 100000 in
theorem E66_wt {h : AHeap} {n : Nat} {cs : List Value} (H : WT Try.prog h n 66 cs) : ∃ x, E66 h cs x ∧ W66 x := by
  have k : SQ Try.prog h [.int .i64, .int .i64, .int .i64, .int .i64] cs := wt_flatS 2 n (by kernel_rfl) H
  obtain ⟨x0, r0, rfl, w0, k0⟩ := sq_int k
  obtain ⟨x1, r1, rfl, w1, k1⟩ := sq_int k0
  obtain ⟨x2, r2, rfl, w2, k2⟩ := sq_int k1
  obtain ⟨x3, r3, rfl, w3, k3⟩ := sq_int k2
  obtain rfl := sq_nil k3
  exact ⟨(x0, x1, x2, x3), rfl, ⟨w0, w1, w2, w3, trivial⟩⟩
/-! 35 jacquard/explore.Best -/
def F35_L : List Nat := [6, 8, 11]
def F35_D : List (Nat × List (Nat × Nat)) := [(7, [(0, 2), (1, 2), (2, 2), (3, 2), (5, 2), (7, 2), (10, 2), (12, 2), (15, 2), (17, 2), (6, 3), (8, 3), (11, 3), (13, 3), (16, 3), (18, 3), (4, 1), (9, 1), (14, 1), (19, 1), (20, 0), (21, 1), (22, 2)])]
def F35_m1_1 : List Bool := [true, true, true, true, true, true, false, true, false, false, true, true, true, true, true, true, true, true, true, true, true, true, true, true, true, true, true, true, true, true, true, true, true, true, true, true, true, true, true, true, true, true, true, true, true, true, true, true, true, true, true, true, true, true, true, true, true, true, true, true, true]
def F35_m1_0 : List Bool := [true, false, false, true, true, true, false, true, false, false, true, true, true, false, false, false, true, true, true, true, true, true, true, true, true, true, true, true, true, true, true, true, true, true, true, true, true, true, true, true, true, true, true, true, true, true, true, true, true, true, true, true, true, true, true, true, true, true, true, true, true]
def F35_s1 (l1 : List (Int × Int × Int × Int)) (x2 : Int) (x3 : Int) (a4 : Bool) (a5 : Int) (a6 : Int) (a7 : Int) (a8 : Int) (a9 : Int) : Option ((Bool × Int × Int × Int × Int × Int) ⊕ (Bool × Int × Int × Int × Int)) :=
  (bif decide (a5 < (l1.length : Int)) then
   (Option.bind (at? l1 a5) fun y12 =>
   (bif decide (y12.2.2.2 > x2) then
    some (.inl (a4, (IntKind.i64.wrap (a5 + 1)), a6, a7, a8, a9))
   else
    (bif decide (y12.2.2.1 > x3) then
     some (.inl (a4, (IntKind.i64.wrap (a5 + 1)), a6, a7, a8, a9))
    else
     (Option.bind (F51 ([(F52 y12.2.1 a7), (F52 y12.2.2.2 a9), (F52 y12.2.2.1 a8), (F52 y12.1 a6)] : List Int)) fun y21 =>
     (bif (!a4) then
      some (.inl (true, (IntKind.i64.wrap (a5 + 1)), y12.1, y12.2.1, y12.2.2.1, y12.2.2.2))
     else
      (bif decide (y21 < 0) then
       some (.inl (true, (IntKind.i64.wrap (a5 + 1)), y12.1, y12.2.1, y12.2.2.1, y12.2.2.2))
      else
       some (.inl (a4, (IntKind.i64.wrap (a5 + 1)), a6, a7, a8, a9))))))))
  else
   some (.inr (a4, a6, a7, a8, a9)))
def F35_h1 (l1 : List (Int × Int × Int × Int)) (v1 : Hd) (x2 : Int) (x3 : Int) (h10 : AHeap) (a4 : Bool) (a5 : Int) (a6 : Int) (a7 : Int) (a8 : Int) (a9 : Int) : AS := ⟨[junk, .int .i64 x2, .int .i64 x3, junk, junk, junk, .pointer (some ⟨6, 0, none⟩), junk, .pointer (some ⟨8, 0, none⟩), .bool a4, junk, junk, junk, (sv v1), .int .i64 (l1.length : Int), .int .i64 a5, junk, junk, junk, junk, junk, junk, junk, junk, junk, junk, junk, junk, junk, junk, junk, junk, junk, junk, junk, junk, junk, junk, junk, junk, junk, junk, junk, junk, junk, junk, junk, junk, junk, junk, junk, junk, junk, junk, junk, junk, junk, junk, junk, junk, junk], [(6, [.int .i64 0, .int .i64 0, .int .i64 0, .int .i64 0]), (8, [.int .i64 a6, .int .i64 a7, .int .i64 a8, .int .i64 a9])], h10⟩
theorem F35_d1 : drawsOk F35_D (codeOf Try.prog 35 [1, 1, 1, 0, 1, 0, 0]) = true := by kernel_rfl
def F35_x1_0 (h : AHeap) (hx : AHeap) (r : Bool × Int × Int × Int × Int) : AS := ⟨[junk, junk, junk, junk, junk, junk, .pointer (some ⟨6, 0, none⟩), junk, .pointer (some ⟨8, 0, none⟩), .bool r.1, junk, junk, junk, junk, junk, junk, junk, junk, junk, junk, junk, junk, junk, junk, junk, junk, junk, junk, junk, junk, junk, junk, junk, junk, junk, junk, junk, junk, junk, junk, junk, junk, junk, junk, junk, junk, junk, junk, junk, junk, junk, junk, junk, junk, junk, junk, junk, junk, junk, junk, junk], [(6, [.int .i64 0, .int .i64 0, .int .i64 0, .int .i64 0]), (8, [.int .i64 r.2.1, .int .i64 r.2.2.1, .int .i64 r.2.2.2.1, .int .i64 r.2.2.2.2])], hx⟩
def F35_i1 (h : AHeap) (l1 : List (Int × Int × Int × Int)) (v1 : Hd) (x2 : Int) (x3 : Int) (s : Bool × Int × Int × Int × Int × Int) (S : AS) : Prop := ∃ (h10 : AHeap), Heapy h h10 [] ∧ S = (F35_h1 l1 v1 x2 x3 h10 s.1 s.2.1 s.2.2.1 s.2.2.2.1 s.2.2.2.2.1 s.2.2.2.2.2)
def F35_x1 (h : AHeap) (r : Bool × Int × Int × Int × Int) (e : Exit) (S : AS) : Prop := e = (.exit 0) ∧ ∃ (hx : AHeap), Heapy h hx [] ∧ S = (F35_x1_0 h hx r)
set_option maxRecDepth 100000 in
theorem F35_r1 (h : AHeap) (l1 : List (Int × Int × Int × Int)) (v1 : Hd) (hv1 : SlE E66 4 h (sv v1) l1) (x2 : Int) (x3 : Int) (a4 : Bool) (a5 : Int) (a6 : Int) (a7 : Int) (a8 : Int) (a9 : Int) (S : AS) (hI : (F35_i1 h l1 v1 x2 x3) (a4, a5, a6, a7, a8, a9) S) (o : (Bool × Int × Int × Int × Int × Int) ⊕ (Bool × Int × Int × Int × Int)) : F35_s1 l1 x2 x3 a4 a5 a6 a7 a8 a9 = some o → Rd Try.prog (codeOf Try.prog 35 [1, 1, 1, 0, 1, 0, 0]) (F35_i1 h l1 v1 x2 x3) (F35_x1 h) S o := by
  obtain ⟨h10, hp10, rfl⟩ := hI
  unfold F35_s1
  refine dec_bif (fun c11 => ?_) (fun c11 => ?_)
  · refine bind_opt fun y12 e12 => ?_
    obtain ⟨id12, off12, g12, cs12, ix12, at12, rfl⟩ := SlE.at hv1 e12
    refine dec_bif (fun c13 => ?_) (fun c13 => ?_)
    · intro hr
      obtain rfl := Option.some.inj hr
      exact ⟨(F35_h1 l1 v1 x2 x3 h10 a4 (IntKind.i64.wrap (a5 + 1)) a6 a7 a8 a9), ⟨h10, (Heapy.pick hp10 [] (by decide)), rfl⟩, pEnd_sound good (L := F35_L) (D := F35_D) (its := [.g, (.b true), (.ix id12 off12 g12), (.ld (.agg #[.int .i64 y12.1, .int .i64 y12.2.1, .int .i64 y12.2.2.1, .int .i64 y12.2.2.2])), .g, .g, .g, .g, .g, .g, .g, .n, .n, .n, .n, (.p true), (.b true), .g, .g]) (ds := F35_m1_0) (ks := [11]) (e := .normal) (s2 := (F35_h1 l1 v1 x2 x3 h10 a4 (IntKind.i64.wrap (a5 + 1)) a6 a7 a8 a9)) (hC := (ai l_t (ai c13 (ai (g_tf c13) (ai (g_tf c13) (ai (g_tf c13) (ai (g_tf c13) (ai (At.agg (P := Try.prog) (t := 66) (v := .agg #[.int .i64 y12.1, .int .i64 y12.2.1, .int .i64 y12.2.2.1, .int .i64 y12.2.2.2]) (m := 4) (At.mono (Heapy.sub hp10) at12) (by kernel_rfl) (by kernel_rfl) 0 (by kernel_rfl) rfl) (ai ix12 (ai c11 trivial)))))))))) (hd := F35_d1) (h := by kernel_rfl)⟩
    · refine dec_bif (fun c14 => ?_) (fun c14 => ?_)
      · intro hr
        obtain rfl := Option.some.inj hr
        exact ⟨(F35_h1 l1 v1 x2 x3 h10 a4 (IntKind.i64.wrap (a5 + 1)) a6 a7 a8 a9), ⟨h10, (Heapy.pick hp10 [] (by decide)), rfl⟩, pEnd_sound good (L := F35_L) (D := F35_D) (its := [.g, (.b true), (.ix id12 off12 g12), (.ld (.agg #[.int .i64 y12.1, .int .i64 y12.2.1, .int .i64 y12.2.2.1, .int .i64 y12.2.2.2])), .g, .g, .g, .g, .g, .g, .g, (.w .g), (.w .g), (.w .g), (.w .g), (.p false), (.b true), .g, .g]) (ds := F35_m1_0) (ks := [11]) (e := .normal) (s2 := (F35_h1 l1 v1 x2 x3 h10 a4 (IntKind.i64.wrap (a5 + 1)) a6 a7 a8 a9)) (hC := (ai c14 (ai c13 (ai (g_ff c13) (ai (g_ff c13) (ai (g_ff c13) (ai (g_ff c13) (ai (At.agg (P := Try.prog) (t := 66) (v := .agg #[.int .i64 y12.1, .int .i64 y12.2.1, .int .i64 y12.2.2.1, .int .i64 y12.2.2.2]) (m := 4) (At.mono (Heapy.sub hp10) at12) (by kernel_rfl) (by kernel_rfl) 0 (by kernel_rfl) rfl) (ai ix12 (ai c11 trivial)))))))))) (hd := F35_d1) (h := by kernel_rfl)⟩
      · obtain ⟨v19, h19, m19, hp19, _⟩ := Heapy.build (P := Try.prog) hp10 (t := 27) (e := 3) (len := 4) (n := 1) (parts := [(0, .int .i64 (F52 y12.2.1 a7)), (1, .int .i64 (F52 y12.2.2.2 a9)), (2, .int .i64 (F52 y12.2.2.1 a8)), (3, .int .i64 (F52 y12.1 a6))]) (cells := List.flatMap enc3 ([(F52 y12.2.1 a7), (F52 y12.2.2.2 a9), (F52 y12.2.2.1 a8), (F52 y12.1 a6)] : List Int)) (by kernel_rfl) rfl
        refine bind_opt fun y21 e21 => ?_
        refine dec_bif (fun c23 => ?_) (fun c23 => ?_)
        · intro hr
          obtain rfl := Option.some.inj hr
          exact ⟨(F35_h1 l1 v1 x2 x3 h19 true (IntKind.i64.wrap (a5 + 1)) y12.1 y12.2.1 y12.2.2.1 y12.2.2.2), ⟨h19, (Heapy.pick hp19 [] (by decide)), rfl⟩, pEnd_sound good (L := F35_L) (D := F35_D) (its := [.g, (.b true), (.ix id12 off12 g12), (.ld (.agg #[.int .i64 y12.1, .int .i64 y12.2.1, .int .i64 y12.2.2.1, .int .i64 y12.2.2.2])), .g, .g, .g, .g, .g, .g, .g, (.w .g), (.w .g), (.w .g), (.w .g), (.p false), (.b false), .g, .g, .g, .g, .g, .g, .g, .g, .g, .g, .g, .g, .g, .g, .g, .g, (.c (.int .i64 (F52 y12.2.1 a7)) h10), (.c (.int .i64 (F52 y12.2.2.2 a9)) h10), (.c (.int .i64 (F52 y12.2.2.1 a8)) h10), (.c (.int .i64 (F52 y12.1 a6)) h10), (.mm (sv v19) h19), (.c (.int .i64 y21) h19), .g, .g, .g, .g, .n, .n, (.p true), (.b true), .g, .g, .g, .g, .g]) (ds := F35_m1_0) (ks := [11]) (e := .normal) (s2 := (F35_h1 l1 v1 x2 x3 h19 true (IntKind.i64.wrap (a5 + 1)) y12.1 y12.2.1 y12.2.2.1 y12.2.2.2)) (hC := (ai l_t (ai c23 (ai (g_tf c23) (ai (g_tf c23) (ai (show AKeep h19 h19 from (AHeap.sub_refl h19)) (ai (F51_spec ([(F52 y12.2.1 a7), (F52 y12.2.2.2 a9), (F52 y12.2.2.1 a8), (F52 y12.1 a6)] : List Int) v19 h19 (Heapy.sle (v := v19) (xs := ([(F52 y12.2.1 a7), (F52 y12.2.2.2 a9), (F52 y12.2.2.1 a8), (F52 y12.1 a6)] : List Int)) (enc := enc3) hp19 0 rfl (fun _ => rfl) (by decide)) _ e21) (ai m19 (ai (show AKeep h10 h10 from (AHeap.sub_refl h10)) (ai (F52_spec y12.1 a6 h10 _ rfl) (ai (show AKeep h10 h10 from (AHeap.sub_refl h10)) (ai (F52_spec y12.2.2.1 a8 h10 _ rfl) (ai (show AKeep h10 h10 from (AHeap.sub_refl h10)) (ai (F52_spec y12.2.2.2 a9 h10 _ rfl) (ai (show AKeep h10 h10 from (AHeap.sub_refl h10)) (ai (F52_spec y12.2.1 a7 h10 _ rfl) (ai c14 (ai c13 (ai (g_ff c13) (ai (g_ff c13) (ai (g_ff c13) (ai (g_ff c13) (ai (At.agg (P := Try.prog) (t := 66) (v := .agg #[.int .i64 y12.1, .int .i64 y12.2.1, .int .i64 y12.2.2.1, .int .i64 y12.2.2.2]) (m := 4) (At.mono (Heapy.sub hp10) at12) (by kernel_rfl) (by kernel_rfl) 0 (by kernel_rfl) rfl) (ai ix12 (ai c11 trivial))))))))))))))))))))))))) (hd := F35_d1) (h := by kernel_rfl)⟩
        · refine dec_bif (fun c24 => ?_) (fun c24 => ?_)
          · intro hr
            obtain rfl := Option.some.inj hr
            exact ⟨(F35_h1 l1 v1 x2 x3 h19 true (IntKind.i64.wrap (a5 + 1)) y12.1 y12.2.1 y12.2.2.1 y12.2.2.2), ⟨h19, (Heapy.pick hp19 [] (by decide)), rfl⟩, pEnd_sound good (L := F35_L) (D := F35_D) (its := [.g, (.b true), (.ix id12 off12 g12), (.ld (.agg #[.int .i64 y12.1, .int .i64 y12.2.1, .int .i64 y12.2.2.1, .int .i64 y12.2.2.2])), .g, .g, .g, .g, .g, .g, .g, (.w .g), (.w .g), (.w .g), (.w .g), (.p false), (.b false), .g, .g, .g, .g, .g, .g, .g, .g, .g, .g, .g, .g, .g, .g, .g, .g, (.c (.int .i64 (F52 y12.2.1 a7)) h10), (.c (.int .i64 (F52 y12.2.2.2 a9)) h10), (.c (.int .i64 (F52 y12.2.2.1 a8)) h10), (.c (.int .i64 (F52 y12.1 a6)) h10), (.mm (sv v19) h19), (.c (.int .i64 y21) h19), .g, .g, .g, .g, (.w .g), (.w .g), (.p false), (.b true), .g, .g, .g, .g, .g]) (ds := F35_m1_0) (ks := [11]) (e := .normal) (s2 := (F35_h1 l1 v1 x2 x3 h19 true (IntKind.i64.wrap (a5 + 1)) y12.1 y12.2.1 y12.2.2.1 y12.2.2.2)) (hC := (ai c24 (ai c23 (ai (g_ff c23) (ai (g_ff c23) (ai (show AKeep h19 h19 from (AHeap.sub_refl h19)) (ai (F51_spec ([(F52 y12.2.1 a7), (F52 y12.2.2.2 a9), (F52 y12.2.2.1 a8), (F52 y12.1 a6)] : List Int) v19 h19 (Heapy.sle (v := v19) (xs := ([(F52 y12.2.1 a7), (F52 y12.2.2.2 a9), (F52 y12.2.2.1 a8), (F52 y12.1 a6)] : List Int)) (enc := enc3) hp19 0 rfl (fun _ => rfl) (by decide)) _ e21) (ai m19 (ai (show AKeep h10 h10 from (AHeap.sub_refl h10)) (ai (F52_spec y12.1 a6 h10 _ rfl) (ai (show AKeep h10 h10 from (AHeap.sub_refl h10)) (ai (F52_spec y12.2.2.1 a8 h10 _ rfl) (ai (show AKeep h10 h10 from (AHeap.sub_refl h10)) (ai (F52_spec y12.2.2.2 a9 h10 _ rfl) (ai (show AKeep h10 h10 from (AHeap.sub_refl h10)) (ai (F52_spec y12.2.1 a7 h10 _ rfl) (ai c14 (ai c13 (ai (g_ff c13) (ai (g_ff c13) (ai (g_ff c13) (ai (g_ff c13) (ai (At.agg (P := Try.prog) (t := 66) (v := .agg #[.int .i64 y12.1, .int .i64 y12.2.1, .int .i64 y12.2.2.1, .int .i64 y12.2.2.2]) (m := 4) (At.mono (Heapy.sub hp10) at12) (by kernel_rfl) (by kernel_rfl) 0 (by kernel_rfl) rfl) (ai ix12 (ai c11 trivial))))))))))))))))))))))))) (hd := F35_d1) (h := by kernel_rfl)⟩
          · intro hr
            obtain rfl := Option.some.inj hr
            exact ⟨(F35_h1 l1 v1 x2 x3 h19 a4 (IntKind.i64.wrap (a5 + 1)) a6 a7 a8 a9), ⟨h19, (Heapy.pick hp19 [] (by decide)), rfl⟩, pEnd_sound good (L := F35_L) (D := F35_D) (its := [.g, (.b true), (.ix id12 off12 g12), (.ld (.agg #[.int .i64 y12.1, .int .i64 y12.2.1, .int .i64 y12.2.2.1, .int .i64 y12.2.2.2])), .g, .g, .g, .g, .g, .g, .g, (.w .g), (.w .g), (.w .g), (.w .g), (.p false), (.b false), .g, .g, .g, .g, .g, .g, .g, .g, .g, .g, .g, .g, .g, .g, .g, .g, (.c (.int .i64 (F52 y12.2.1 a7)) h10), (.c (.int .i64 (F52 y12.2.2.2 a9)) h10), (.c (.int .i64 (F52 y12.2.2.1 a8)) h10), (.c (.int .i64 (F52 y12.1 a6)) h10), (.mm (sv v19) h19), (.c (.int .i64 y21) h19), .g, .g, .g, .g, (.w .g), (.w .g), (.p false), (.b false), .g, .g]) (ds := F35_m1_0) (ks := [11]) (e := .normal) (s2 := (F35_h1 l1 v1 x2 x3 h19 a4 (IntKind.i64.wrap (a5 + 1)) a6 a7 a8 a9)) (hC := (ai c24 (ai c23 (ai (g_ff c23) (ai (g_ff c23) (ai (show AKeep h19 h19 from (AHeap.sub_refl h19)) (ai (F51_spec ([(F52 y12.2.1 a7), (F52 y12.2.2.2 a9), (F52 y12.2.2.1 a8), (F52 y12.1 a6)] : List Int) v19 h19 (Heapy.sle (v := v19) (xs := ([(F52 y12.2.1 a7), (F52 y12.2.2.2 a9), (F52 y12.2.2.1 a8), (F52 y12.1 a6)] : List Int)) (enc := enc3) hp19 0 rfl (fun _ => rfl) (by decide)) _ e21) (ai m19 (ai (show AKeep h10 h10 from (AHeap.sub_refl h10)) (ai (F52_spec y12.1 a6 h10 _ rfl) (ai (show AKeep h10 h10 from (AHeap.sub_refl h10)) (ai (F52_spec y12.2.2.1 a8 h10 _ rfl) (ai (show AKeep h10 h10 from (AHeap.sub_refl h10)) (ai (F52_spec y12.2.2.2 a9 h10 _ rfl) (ai (show AKeep h10 h10 from (AHeap.sub_refl h10)) (ai (F52_spec y12.2.1 a7 h10 _ rfl) (ai c14 (ai c13 (ai (g_ff c13) (ai (g_ff c13) (ai (g_ff c13) (ai (g_ff c13) (ai (At.agg (P := Try.prog) (t := 66) (v := .agg #[.int .i64 y12.1, .int .i64 y12.2.1, .int .i64 y12.2.2.1, .int .i64 y12.2.2.2]) (m := 4) (At.mono (Heapy.sub hp10) at12) (by kernel_rfl) (by kernel_rfl) 0 (by kernel_rfl) rfl) (ai ix12 (ai c11 trivial))))))))))))))))))))))))) (hd := F35_d1) (h := by kernel_rfl)⟩
  · intro hr
    obtain rfl := Option.some.inj hr
    refine ⟨(.exit 0), (F35_x1_0 h h10 ((a4, a6, a7, a8, a9) : Bool × Int × Int × Int × Int)), (by intro hh; cases hh), ?_, pEnd_sound good (L := F35_L) (D := F35_D) (its := [.g, (.b false)]) (ds := F35_m1_1) (ks := []) (e := (.exit 0)) (s2 := (F35_x1_0 h h10 ((a4, a6, a7, a8, a9) : Bool × Int × Int × Int × Int))) (hC := (ai c11 trivial)) (hd := F35_d1) (h := by kernel_rfl)⟩
    exact ⟨rfl, h10, (Heapy.pick hp10 [] (by decide)), rfl⟩
theorem F35_l1 (h : AHeap) (l1 : List (Int × Int × Int × Int)) (v1 : Hd) (hv1 : SlE E66 4 h (sv v1) l1) (x2 : Int) (x3 : Int) (x : Bool × Int × Int × Int × Int × Int) (r : Bool × Int × Int × Int × Int) (hl : loopO (fun (s : Bool × Int × Int × Int × Int × Int) => F35_s1 l1 x2 x3 s.1 s.2.1 s.2.2.1 s.2.2.2.1 s.2.2.2.2.1 s.2.2.2.2.2) x = some r) (S : AS) (hI : (F35_i1 h l1 v1 x2 x3) x S) : ∃ e S', (F35_x1 h) r e S' ∧ AWp Try.prog (.loop (codeOf Try.prog 35 [1, 1, 1, 0, 1, 0, 0])) (Ends1 e S') S :=
  loop_rel (fun x S hI => F35_r1 h l1 v1 hv1 x2 x3 x.1 x.2.1 x.2.2.1 x.2.2.2.1 x.2.2.2.2.1 x.2.2.2.2.2 S hI) hl hI
def F35 (l1 : List (Int × Int × Int × Int)) (x2 : Int) (x3 : Int) : Option (Int × Int × Int × Int × Bool) :=
  (Option.bind (loopO (fun (s : Bool × Int × Int × Int × Int × Int) => F35_s1 l1 x2 x3 s.1 s.2.1 s.2.2.1 s.2.2.2.1 s.2.2.2.2.1 s.2.2.2.2.2) (false, 0, 0, 0, 0, 0)) fun y25 =>
  some (y25.2.1, y25.2.2.1, y25.2.2.2.1, y25.2.2.2.2, y25.1))
set_option maxRecDepth 100000 in
theorem F35_spec (l1 : List (Int × Int × Int × Int)) (x2 : Int) (x3 : Int) (v1 : Hd) (h : AHeap) (hw : h.wf) (hv1 : SlE E66 4 h (sv v1) l1) (r : Int × Int × Int × Int × Bool) : F35 l1 x2 x3 = some r → ∃ (h' : AHeap), Heapy h h' [] ∧ ACalls Try.prog 35 [(sv v1), .int .i64 x2, .int .i64 x3] h (fun v' h'' => v' = (.tuple #[.agg #[.int .i64 r.1, .int .i64 r.2.1, .int .i64 r.2.2.1, .int .i64 r.2.2.2.1], .bool r.2.2.2.2] : Value) ∧ h'' = h') := by
  unfold F35
  refine bind_opt fun y25 e25 => ?_
  obtain ⟨ee25, SS25, hX25, hA25⟩ := F35_l1 h l1 v1 hv1 x2 x3 (false, 0, 0, 0, 0, 0) y25 e25 (F35_h1 l1 v1 x2 x3 h false 0 0 0 0 0) ⟨h, (Heapy.pick (Heapy.refl hw) [] (by decide)), rfl⟩
  obtain ⟨rfl, h26, hp26, rfl⟩ := hX25
  intro hr
  obtain rfl := Option.some.inj hr
  exact ⟨h26, Heapy.pick hp26 [] (by decide), pFun_sound good tab_ok (f := 35) (its := [.g, .g, .g, .g, .g, (.ln l1.length), .g, (.l F35_m1_0 [] (.exit 0) (F35_x1_0 h h26 y25)), .g, .g, .g, .g]) (args := [(sv v1), .int .i64 x2, .int .i64 x3]) (h := h) (h' := h26) (v := .tuple #[.agg #[.int .i64 y25.2.1, .int .i64 y25.2.2.1, .int .i64 y25.2.2.2.1, .int .i64 y25.2.2.2.2], .bool y25.1]) (hC := (ai hA25 (ai (SlE.len hv1) trivial))) (hr := by kernel_rfl)⟩
/-! 66 jacquard/jacquardref55.better -/
def F66 (x1 : Int) (x2 : Int) (x3 : Int) (x4 : Int) (x5 : Int) (x6 : Int) (x7 : Int) (x8 : Int) : Bool :=
  (bif (x2 != x6) then
   (decide (x2 < x6))
  else
   (bif (x4 != x8) then
    (decide (x4 < x8))
   else
    (bif (x3 != x7) then
     (decide (x3 < x7))
    else
     (decide (x1 < x5)))))
set_option maxRecDepth 100000 in
theorem F66_spec (x1 : Int) (x2 : Int) (x3 : Int) (x4 : Int) (x5 : Int) (x6 : Int) (x7 : Int) (x8 : Int) (h : AHeap)  (r : Bool) : F66 x1 x2 x3 x4 x5 x6 x7 x8 = r → ACalls Try.prog 66 [.agg #[.int .i64 x1, .int .i64 x2, .int .i64 x3, .int .i64 x4], .agg #[.int .i64 x5, .int .i64 x6, .int .i64 x7, .int .i64 x8]] h (fun v' h'' => v' = (.bool r : Value) ∧ h'' = h) := by
  unfold F66
  refine dec_bif (fun c9 => ?_) (fun c9 => ?_)
  · intro hr
    subst hr
    exact pFun_sound good tab_ok (f := 66) (its := [.g, .g, .g, .g, .g, .g, .g, .g, (.b true), .g, .g, .g, .g, .g, .g]) (args := [.agg #[.int .i64 x1, .int .i64 x2, .int .i64 x3, .int .i64 x4], .agg #[.int .i64 x5, .int .i64 x6, .int .i64 x7, .int .i64 x8]]) (h := h) (h' := h) (v := .bool (decide (x2 < x6))) (hC := (ai c9 trivial)) (hr := by kernel_rfl)
  · refine dec_bif (fun c10 => ?_) (fun c10 => ?_)
    · intro hr
      subst hr
      exact pFun_sound good tab_ok (f := 66) (its := [.g, .g, .g, .g, .g, .g, .g, .g, (.b false), .g, .g, .g, .g, .g, (.b true), .g, .g, .g, .g, .g, .g]) (args := [.agg #[.int .i64 x1, .int .i64 x2, .int .i64 x3, .int .i64 x4], .agg #[.int .i64 x5, .int .i64 x6, .int .i64 x7, .int .i64 x8]]) (h := h) (h' := h) (v := .bool (decide (x4 < x8))) (hC := (ai c10 (ai c9 trivial))) (hr := by kernel_rfl)
    · refine dec_bif (fun c11 => ?_) (fun c11 => ?_)
      · intro hr
        subst hr
        exact pFun_sound good tab_ok (f := 66) (its := [.g, .g, .g, .g, .g, .g, .g, .g, (.b false), .g, .g, .g, .g, .g, (.b false), .g, .g, .g, .g, .g, (.b true), .g, .g, .g, .g, .g, .g]) (args := [.agg #[.int .i64 x1, .int .i64 x2, .int .i64 x3, .int .i64 x4], .agg #[.int .i64 x5, .int .i64 x6, .int .i64 x7, .int .i64 x8]]) (h := h) (h' := h) (v := .bool (decide (x3 < x7))) (hC := (ai c11 (ai c10 (ai c9 trivial)))) (hr := by kernel_rfl)
      · intro hr
        subst hr
        exact pFun_sound good tab_ok (f := 66) (its := [.g, .g, .g, .g, .g, .g, .g, .g, (.b false), .g, .g, .g, .g, .g, (.b false), .g, .g, .g, .g, .g, (.b false), .g, .g, .g, .g, .g, .g]) (args := [.agg #[.int .i64 x1, .int .i64 x2, .int .i64 x3, .int .i64 x4], .agg #[.int .i64 x5, .int .i64 x6, .int .i64 x7, .int .i64 x8]]) (h := h) (h' := h) (v := .bool (decide (x1 < x5))) (hC := (ai c11 (ai c10 (ai c9 trivial)))) (hr := by kernel_rfl)
/-! 36 jacquard/jacquardref55.Best -/
def F36_L : List Nat := [9]
def F36_D : List (Nat × List (Nat × Nat)) := [(7, [(0, 2), (1, 2), (2, 2), (3, 2), (4, 2), (5, 2), (6, 2), (7, 2), (8, 1), (9, 2)])]
def F36_m1_1 : List Bool := [true, true, true, true, true, true, true, false, true, true, true, true, true, true, true, true, true, true, true, true, true, true, true, true, true, true, true, true, true, true, true, true, true, true, true, true, true, true, true, true, true, true]
def F36_m1_0 : List Bool := [false, false, false, true, true, true, true, false, true, true, true, false, false, true, true, true, true, true, true, true, true, true, true, true, true, true, true, true, true, true, true, true, true, true, true, true, true, true, true, true, true, true]
def F36_s1 (l1 : List (Int × Int × Int × Int)) (x2 : Int) (x3 : Int) (a4 : Int) (a5 : Int) : Option ((Int × Int) ⊕ Int) :=
  (bif decide (a5 < (l1.length : Int)) then
   (Option.bind (at? l1 a5) fun y7 =>
   (bif decide (y7.2.2.2 > x2) then
    some (.inl (a4, (IntKind.i64.wrap (a5 + 1))))
   else
    (bif decide (y7.2.2.1 > x3) then
     some (.inl (a4, (IntKind.i64.wrap (a5 + 1))))
    else
     (bif decide (a4 < 0) then
      some (.inl (a5, (IntKind.i64.wrap (a5 + 1))))
     else
      (Option.bind (at? l1 a4) fun y11 =>
      (bif (F66 y7.1 y7.2.1 y7.2.2.1 y7.2.2.2 y11.1 y11.2.1 y11.2.2.1 y11.2.2.2) then
       some (.inl (a5, (IntKind.i64.wrap (a5 + 1))))
      else
       some (.inl (a4, (IntKind.i64.wrap (a5 + 1))))))))))
  else
   some (.inr a4))
def F36_h1 (h : AHeap) (l1 : List (Int × Int × Int × Int)) (v1 : Hd) (x2 : Int) (x3 : Int)  (a4 : Int) (a5 : Int) : AS := ⟨[(sv v1), .int .i64 x2, .int .i64 x3, junk, junk, junk, junk, .int .i64 a4, junk, junk, junk, .int .i64 (l1.length : Int), .int .i64 a5, junk, junk, junk, junk, junk, junk, junk, junk, junk, junk, junk, junk, junk, junk, junk, junk, junk, junk, junk, junk, junk, junk, junk, junk, junk, junk, junk, junk, junk], [], h⟩
theorem F36_d1 : drawsOk F36_D (codeOf Try.prog 36 [1, 1, 0, 1, 0, 0]) = true := by kernel_rfl
def F36_x1_0 (h : AHeap)  (r : Int) : AS := ⟨[junk, junk, junk, junk, junk, junk, junk, .int .i64 r, junk, junk, junk, junk, junk, junk, junk, junk, junk, junk, junk, junk, junk, junk, junk, junk, junk, junk, junk, junk, junk, junk, junk, junk, junk, junk, junk, junk, junk, junk, junk, junk, junk, junk], [], h⟩
def F36_x1 (h : AHeap) (r : Int) : Exit × AS := ((.exit 0), (F36_x1_0 h r))
set_option maxRecDepth 100000 in
theorem F36_r1 (h : AHeap) (l1 : List (Int × Int × Int × Int)) (v1 : Hd) (hv1 : SlE E66 4 h (sv v1) l1) (x2 : Int) (x3 : Int) (a4 : Int) (a5 : Int) (o : (Int × Int) ⊕ Int) : F36_s1 l1 x2 x3 a4 a5 = some o → RdF Try.prog (codeOf Try.prog 36 [1, 1, 0, 1, 0, 0]) (fun (s : Int × Int) => (F36_h1 h l1 v1 x2 x3 s.1 s.2)) (F36_x1 h) (F36_h1 h l1 v1 x2 x3 a4 a5) o := by
  unfold F36_s1
  refine dec_bif (fun c6 => ?_) (fun c6 => ?_)
  · refine bind_opt fun y7 e7 => ?_
    obtain ⟨id7, off7, g7, cs7, ix7, at7, rfl⟩ := SlE.at hv1 e7
    refine dec_bif (fun c8 => ?_) (fun c8 => ?_)
    · intro hr
      obtain rfl := Option.some.inj hr
      show AWp Try.prog _ (Ends1 .normal (F36_h1 h l1 v1 x2 x3 a4 (IntKind.i64.wrap (a5 + 1)))) _
      exact pEnd_sound good (L := F36_L) (D := F36_D) (its := [.g, (.b true), .g, .g, .g, .g, (.ix id7 off7 g7), (.ld (.agg #[.int .i64 y7.1, .int .i64 y7.2.1, .int .i64 y7.2.2.1, .int .i64 y7.2.2.2])), .g, .g, .g, .g, .g, .g, .g, .n, .n, .n, .n, (.p true), (.b true), .g, .g]) (ds := F36_m1_0) (ks := [9]) (e := .normal) (s2 := (F36_h1 h l1 v1 x2 x3 a4 (IntKind.i64.wrap (a5 + 1)))) (hC := (ai l_t (ai c8 (ai (g_tf c8) (ai (g_tf c8) (ai (g_tf c8) (ai (g_tf c8) (ai (At.agg (P := Try.prog) (t := 66) (v := .agg #[.int .i64 y7.1, .int .i64 y7.2.1, .int .i64 y7.2.2.1, .int .i64 y7.2.2.2]) (m := 4) at7 (by kernel_rfl) (by kernel_rfl) 0 (by kernel_rfl) rfl) (ai ix7 (ai c6 trivial)))))))))) (hd := F36_d1) (h := by kernel_rfl)
    · refine dec_bif (fun c9 => ?_) (fun c9 => ?_)
      · intro hr
        obtain rfl := Option.some.inj hr
        show AWp Try.prog _ (Ends1 .normal (F36_h1 h l1 v1 x2 x3 a4 (IntKind.i64.wrap (a5 + 1)))) _
        exact pEnd_sound good (L := F36_L) (D := F36_D) (its := [.g, (.b true), .g, .g, .g, .g, (.ix id7 off7 g7), (.ld (.agg #[.int .i64 y7.1, .int .i64 y7.2.1, .int .i64 y7.2.2.1, .int .i64 y7.2.2.2])), .g, .g, .g, .g, .g, .g, .g, (.w .g), (.w .g), (.w .g), (.w .g), (.p false), (.b true), .g, .g]) (ds := F36_m1_0) (ks := [9]) (e := .normal) (s2 := (F36_h1 h l1 v1 x2 x3 a4 (IntKind.i64.wrap (a5 + 1)))) (hC := (ai c9 (ai c8 (ai (g_ff c8) (ai (g_ff c8) (ai (g_ff c8) (ai (g_ff c8) (ai (At.agg (P := Try.prog) (t := 66) (v := .agg #[.int .i64 y7.1, .int .i64 y7.2.1, .int .i64 y7.2.2.1, .int .i64 y7.2.2.2]) (m := 4) at7 (by kernel_rfl) (by kernel_rfl) 0 (by kernel_rfl) rfl) (ai ix7 (ai c6 trivial)))))))))) (hd := F36_d1) (h := by kernel_rfl)
      · refine dec_bif (fun c10 => ?_) (fun c10 => ?_)
        · intro hr
          obtain rfl := Option.some.inj hr
          show AWp Try.prog _ (Ends1 .normal (F36_h1 h l1 v1 x2 x3 a5 (IntKind.i64.wrap (a5 + 1)))) _
          exact pEnd_sound good (L := F36_L) (D := F36_D) (its := [.g, (.b true), .g, .g, .g, .g, (.ix id7 off7 g7), (.ld (.agg #[.int .i64 y7.1, .int .i64 y7.2.1, .int .i64 y7.2.2.1, .int .i64 y7.2.2.2])), .g, .g, .g, .g, .g, .g, .g, (.w .g), (.w .g), (.w .g), (.w .g), (.p false), (.b false), .g, .g, .g, .n, .n, .n, .n, .n, .n, (.p true), (.b true), .g, .g, .g, .g]) (ds := F36_m1_0) (ks := [9]) (e := .normal) (s2 := (F36_h1 h l1 v1 x2 x3 a5 (IntKind.i64.wrap (a5 + 1)))) (hC := (ai l_t (ai c10 (ai (g_tf c10) (ai (g_tf c10) (ai (g_tf c10) (ai (g_tf c10) (ai (g_tf c10) (ai (g_tf c10) (ai c9 (ai c8 (ai (g_ff c8) (ai (g_ff c8) (ai (g_ff c8) (ai (g_ff c8) (ai (At.agg (P := Try.prog) (t := 66) (v := .agg #[.int .i64 y7.1, .int .i64 y7.2.1, .int .i64 y7.2.2.1, .int .i64 y7.2.2.2]) (m := 4) at7 (by kernel_rfl) (by kernel_rfl) 0 (by kernel_rfl) rfl) (ai ix7 (ai c6 trivial)))))))))))))))))) (hd := F36_d1) (h := by kernel_rfl)
        · refine bind_opt fun y11 e11 => ?_
          obtain ⟨id11, off11, g11, cs11, ix11, at11, rfl⟩ := SlE.at hv1 e11
          refine dec_bif (fun c13 => ?_) (fun c13 => ?_)
          · intro hr
            obtain rfl := Option.some.inj hr
            show AWp Try.prog _ (Ends1 .normal (F36_h1 h l1 v1 x2 x3 a5 (IntKind.i64.wrap (a5 + 1)))) _
            exact pEnd_sound good (L := F36_L) (D := F36_D) (its := [.g, (.b true), .g, .g, .g, .g, (.ix id7 off7 g7), (.ld (.agg #[.int .i64 y7.1, .int .i64 y7.2.1, .int .i64 y7.2.2.1, .int .i64 y7.2.2.2])), .g, .g, .g, .g, .g, .g, .g, (.w .g), (.w .g), (.w .g), (.w .g), (.p false), (.b false), .g, .g, .g, (.w .g), (.w .g), (.w .g), (.w (.ix id11 off11 g11)), (.w (.ld (.agg #[.int .i64 y11.1, .int .i64 y11.2.1, .int .i64 y11.2.2.1, .int .i64 y11.2.2.2]))), (.w (.c (.bool (F66 y7.1 y7.2.1 y7.2.2.1 y7.2.2.2 y11.1 y11.2.1 y11.2.2.1 y11.2.2.2)) h)), (.p false), (.b true), .g, .g, .g, .g]) (ds := F36_m1_0) (ks := [9]) (e := .normal) (s2 := (F36_h1 h l1 v1 x2 x3 a5 (IntKind.i64.wrap (a5 + 1)))) (hC := (ai c13 (ai c10 (ai (show AKeep h h from (AHeap.sub_refl h)) (ai (F66_spec y7.1 y7.2.1 y7.2.2.1 y7.2.2.2 y11.1 y11.2.1 y11.2.2.1 y11.2.2.2 h _ rfl) (ai (g_ff c10) (ai (At.agg (P := Try.prog) (t := 66) (v := .agg #[.int .i64 y11.1, .int .i64 y11.2.1, .int .i64 y11.2.2.1, .int .i64 y11.2.2.2]) (m := 4) at11 (by kernel_rfl) (by kernel_rfl) 0 (by kernel_rfl) rfl) (ai (g_ff c10) (ai ix11 (ai (g_ff c10) (ai (g_ff c10) (ai (g_ff c10) (ai (g_ff c10) (ai c9 (ai c8 (ai (g_ff c8) (ai (g_ff c8) (ai (g_ff c8) (ai (g_ff c8) (ai (At.agg (P := Try.prog) (t := 66) (v := .agg #[.int .i64 y7.1, .int .i64 y7.2.1, .int .i64 y7.2.2.1, .int .i64 y7.2.2.2]) (m := 4) at7 (by kernel_rfl) (by kernel_rfl) 0 (by kernel_rfl) rfl) (ai ix7 (ai c6 trivial)))))))))))))))))))))) (hd := F36_d1) (h := by kernel_rfl)
          · intro hr
            obtain rfl := Option.some.inj hr
            show AWp Try.prog _ (Ends1 .normal (F36_h1 h l1 v1 x2 x3 a4 (IntKind.i64.wrap (a5 + 1)))) _
            exact pEnd_sound good (L := F36_L) (D := F36_D) (its := [.g, (.b true), .g, .g, .g, .g, (.ix id7 off7 g7), (.ld (.agg #[.int .i64 y7.1, .int .i64 y7.2.1, .int .i64 y7.2.2.1, .int .i64 y7.2.2.2])), .g, .g, .g, .g, .g, .g, .g, (.w .g), (.w .g), (.w .g), (.w .g), (.p false), (.b false), .g, .g, .g, (.w .g), (.w .g), (.w .g), (.w (.ix id11 off11 g11)), (.w (.ld (.agg #[.int .i64 y11.1, .int .i64 y11.2.1, .int .i64 y11.2.2.1, .int .i64 y11.2.2.2]))), (.w (.c (.bool (F66 y7.1 y7.2.1 y7.2.2.1 y7.2.2.2 y11.1 y11.2.1 y11.2.2.1 y11.2.2.2)) h)), (.p false), (.b false), .g, .g]) (ds := F36_m1_0) (ks := [9]) (e := .normal) (s2 := (F36_h1 h l1 v1 x2 x3 a4 (IntKind.i64.wrap (a5 + 1)))) (hC := (ai c13 (ai c10 (ai (show AKeep h h from (AHeap.sub_refl h)) (ai (F66_spec y7.1 y7.2.1 y7.2.2.1 y7.2.2.2 y11.1 y11.2.1 y11.2.2.1 y11.2.2.2 h _ rfl) (ai (g_ff c10) (ai (At.agg (P := Try.prog) (t := 66) (v := .agg #[.int .i64 y11.1, .int .i64 y11.2.1, .int .i64 y11.2.2.1, .int .i64 y11.2.2.2]) (m := 4) at11 (by kernel_rfl) (by kernel_rfl) 0 (by kernel_rfl) rfl) (ai (g_ff c10) (ai ix11 (ai (g_ff c10) (ai (g_ff c10) (ai (g_ff c10) (ai (g_ff c10) (ai c9 (ai c8 (ai (g_ff c8) (ai (g_ff c8) (ai (g_ff c8) (ai (g_ff c8) (ai (At.agg (P := Try.prog) (t := 66) (v := .agg #[.int .i64 y7.1, .int .i64 y7.2.1, .int .i64 y7.2.2.1, .int .i64 y7.2.2.2]) (m := 4) at7 (by kernel_rfl) (by kernel_rfl) 0 (by kernel_rfl) rfl) (ai ix7 (ai c6 trivial)))))))))))))))))))))) (hd := F36_d1) (h := by kernel_rfl)
  · intro hr
    obtain rfl := Option.some.inj hr
    show AWp Try.prog _ (Ends1 ((F36_x1 h) (a4 : Int)).1 ((F36_x1 h) (a4 : Int)).2) _
    exact pEnd_sound good (L := F36_L) (D := F36_D) (its := [.g, (.b false)]) (ds := F36_m1_1) (ks := []) (e := ((F36_x1 h) (a4 : Int)).1) (s2 := ((F36_x1 h) (a4 : Int)).2) (hC := (ai c6 trivial)) (hd := F36_d1) (h := by kernel_rfl)
theorem F36_l1_0 (h : AHeap) (l1 : List (Int × Int × Int × Int)) (v1 : Hd) (hv1 : SlE E66 4 h (sv v1) l1) (x2 : Int) (x3 : Int) (x : Int × Int) (r : Int) (hl : loopO (fun (s : Int × Int) => F36_s1 l1 x2 x3 s.1 s.2) x = some r) : AWp Try.prog (.loop (codeOf Try.prog 36 [1, 1, 0, 1, 0, 0])) (Ends1 (.exit 0) (F36_x1_0 h r)) ((fun (s : Int × Int) => (F36_h1 h l1 v1 x2 x3 s.1 s.2)) x) := by
  have k := loop_fun (P := Try.prog) (c := (codeOf Try.prog 36 [1, 1, 0, 1, 0, 0])) (step := (fun (s : Int × Int) => F36_s1 l1 x2 x3 s.1 s.2)) (hd := (fun (s : Int × Int) => (F36_h1 h l1 v1 x2 x3 s.1 s.2))) (X := (F36_x1 h)) (by intro t; unfold F36_x1; intro h; cases h) (fun x => F36_r1 h l1 v1 hv1 x2 x3 x.1 x.2) hl
  exact k
def F36 (l1 : List (Int × Int × Int × Int)) (x2 : Int) (x3 : Int) : Option (Int) :=
  (Option.bind (loopO (fun (s : Int × Int) => F36_s1 l1 x2 x3 s.1 s.2) ((-1), 0)) fun y14 =>
  some (y14))
set_option maxRecDepth 100000 in
theorem F36_spec (l1 : List (Int × Int × Int × Int)) (x2 : Int) (x3 : Int) (v1 : Hd) (h : AHeap) (hv1 : SlE E66 4 h (sv v1) l1) (r : Int) : F36 l1 x2 x3 = some r → ACalls Try.prog 36 [(sv v1), .int .i64 x2, .int .i64 x3] h (fun v' h'' => v' = (.int .i64 r : Value) ∧ h'' = h) := by
  unfold F36
  refine bind_opt fun y14 e14 => ?_
  intro hr
  obtain rfl := Option.some.inj hr
  exact pFun_sound good tab_ok (f := 36) (its := [.g, .g, .g, (.ln l1.length), .g, (.l F36_m1_0 [] (.exit 0) (F36_x1_0 h y14)), .g, .g]) (args := [(sv v1), .int .i64 x2, .int .i64 x3]) (h := h) (h' := h) (v := .int .i64 y14) (hC := (ai (F36_l1_0 h l1 v1 hv1 x2 x3 ((-1), 0) y14 e14) (ai (SlE.len hv1) trivial))) (hr := by kernel_rfl)
/-! 57 slices.Clone[[]jacquard/api.Point,jacquard/api.Point] -/
def F57s (l1 : List (Int × Int × Int × Int)) : Option ((List (Int × Int × Int × Int))) :=
  (bif (!(okApp (([] : List (Int × Int × Int × Int)).length + l1.length) 32)) then none else
  some (([] : List (Int × Int × Int × Int)) ++ l1))
set_option maxRecDepth 100000 in
theorem F57s_spec (l1 : List (Int × Int × Int × Int)) (a1 : Addr) (n1 : Nat) (z1 : Nat) (h : AHeap) (hw : h.wf) (hv1 : SlE E66 4 h (sv ⟨some a1, n1, z1⟩) l1) (r : (List (Int × Int × Int × Int))) : F57s l1 = some r → ∃ (ur0 : Hd) (h' : AHeap), Heapy h h' [⟨ur0, 66, 4, List.flatMap enc66 r⟩] ∧ ACalls Try.prog 57 [(sv ⟨some a1, n1, z1⟩)] h (fun v' h'' => v' = ((sv ur0) : Value) ∧ h'' = h') := by
  unfold F57s
  obtain ⟨v2, h2, m2, hp2, _⟩ := Heapy.build (P := Try.prog) (Heapy.refl hw) (t := 61) (e := 66) (len := 0) (n := 4) (parts := []) (cells := List.flatMap enc66 ([] : List (Int × Int × Int × Int))) (by kernel_rfl) rfl
  refine guard_ok fun g4 => ?_
  obtain ⟨v5, h5, m5, q5, _, w5⟩ := Heapy.append hp2 (show mkInfo Try.prog 61 = some (66, 4, 32, [.int .i64 0, .int .i64 0, .int .i64 0, .int .i64 0]) by kernel_rfl) 0 (v := v2) (cells := List.flatMap enc66 ([] : List (Int × Int × Int × Int))) rfl (Y := (sv ⟨some a1, n1, z1⟩)) (SlE.src (enc := enc66) (c := 4) (SlE.mono hv1 (Heapy.sub hp2) (E66_mono (Heapy.sub hp2))) (fun _ => rfl)) (flatMap_length (enc := enc66) (c := 4) (fun _ => rfl) _) (by rw [Heapy.vn (v := v2) (xs := ([] : List (Int × Int × Int × Int))) (enc := enc66) hp2 0 rfl (fun _ => rfl) (by decide)]; simpa using g4)
  have hp5 : Heapy h h5 [⟨v5, 66, 4, List.flatMap enc66 (([] : List (Int × Int × Int × Int)) ++ l1)⟩] := by rw [← List.flatMap_append] at q5; exact q5
  intro hr
  obtain rfl := Option.some.inj hr
  exact ⟨v5, h5, Heapy.pick hp5 [0] (by decide), pFun_sound good tab_ok (f := 57) (its := [.g, .g, .g, (.b false), (.mm (sv v2) h2), .g, (.mm (sv v5) h5), .g]) (args := [(sv ⟨some a1, n1, z1⟩)]) (h := h) (h' := h5) (v := (sv v5)) (hC := (ai m5 (ai m2 (ai l_f trivial)))) (hr := by kernel_rfl)⟩
def F57n  : Unit :=
  ()
set_option maxRecDepth 100000 in
theorem F57n_spec  (h : AHeap)  (r : Unit) : F57n = r → ACalls Try.prog 57 [.slice none 0 0] h (fun v' h'' => v' = (.slice none 0 0 : Value) ∧ h'' = h) := by
  unfold F57n
  intro hr
  subst hr
  exact pFun_sound good tab_ok (f := 57) (its := [.g, .g, .g, (.b true), .g]) (args := [.slice none 0 0]) (h := h) (h' := h) (v := .slice none 0 0) (hC := (ai l_t trivial)) (hr := by kernel_rfl)
def F57 (l1 : List (Int × Int × Int × Int)) : Option (List (Int × Int × Int × Int)) := F57s l1
theorem F57_spec (l1 : List (Int × Int × Int × Int)) (v1 : Hd) (h : AHeap) (hw : h.wf) (hv1 : SlE E66 4 h (sv v1) l1) (r : (List (Int × Int × Int × Int))) : F57 l1 = some r → ∃ (ur0 : Hd) (h' : AHeap), Heapy h h' [⟨ur0, 66, 4, List.flatMap enc66 r⟩] ∧ ACalls Try.prog 57 [(sv v1)] h (fun v' h'' => v' = ((sv ur0) : Value) ∧ h'' = h') := by
  intro hr
  obtain ⟨a, n, z⟩ := v1
  cases a with
  | some a => exact F57s_spec l1 a n z h hw hv1 r hr
  | none =>
    obtain ⟨rfl, rfl, rfl⟩ := nil_form hv1.len
    have e : F57s ([] : List (Int × Int × Int × Int)) = some [] := by kernel_rfl
    obtain rfl := Option.some.inj (e.symm.trans hr)
    exact ⟨⟨none, 0, 0⟩, h, Heapy.nil (Heapy.refl hw) 66 4, F57n_spec h _ rfl⟩

/-! 59 jacquard/explore.Pareto$1 -/
def F59 (x1 : Int) (x2 : Int) (x3 : Int) (x4 : Int) (x5 : Int) (x6 : Int) (x7 : Int) (x8 : Int) : Option (Int) :=
  (Option.bind (F51 ([(F52 x2 x6), (F52 x3 x7), (F52 x4 x8), (F52 x1 x5)] : List Int)) fun y15 =>
  some (y15))
set_option maxRecDepth 100000 in
theorem F59_spec (x1 : Int) (x2 : Int) (x3 : Int) (x4 : Int) (x5 : Int) (x6 : Int) (x7 : Int) (x8 : Int) (h : AHeap) (hw : h.wf)  (r : Int) : F59 x1 x2 x3 x4 x5 x6 x7 x8 = some r → ∃ (h' : AHeap), Heapy h h' [] ∧ ACalls Try.prog 59 [.agg #[.int .i64 x1, .int .i64 x2, .int .i64 x3, .int .i64 x4], .agg #[.int .i64 x5, .int .i64 x6, .int .i64 x7, .int .i64 x8]] h (fun v' h'' => v' = (.int .i64 r : Value) ∧ h'' = h') := by
  unfold F59
  obtain ⟨v13, h13, m13, hp13, _⟩ := Heapy.build (P := Try.prog) (Heapy.refl hw) (t := 27) (e := 3) (len := 4) (n := 1) (parts := [(0, .int .i64 (F52 x2 x6)), (1, .int .i64 (F52 x3 x7)), (2, .int .i64 (F52 x4 x8)), (3, .int .i64 (F52 x1 x5))]) (cells := List.flatMap enc3 ([(F52 x2 x6), (F52 x3 x7), (F52 x4 x8), (F52 x1 x5)] : List Int)) (by kernel_rfl) rfl
  refine bind_opt fun y15 e15 => ?_
  intro hr
  obtain rfl := Option.some.inj hr
  exact ⟨h13, Heapy.pick hp13 [] (by decide), pFun_sound good tab_ok (f := 59) (its := [.g, .g, .g, .g, .g, .g, .g, .g, .g, .g, .g, .g, .g, .g, .g, .g, .g, .g, .g, (.c (.int .i64 (F52 x2 x6)) h), (.c (.int .i64 (F52 x3 x7)) h), (.c (.int .i64 (F52 x4 x8)) h), (.c (.int .i64 (F52 x1 x5)) h), (.mm (sv v13) h13), (.c (.int .i64 y15) h13), .g]) (args := [.agg #[.int .i64 x1, .int .i64 x2, .int .i64 x3, .int .i64 x4], .agg #[.int .i64 x5, .int .i64 x6, .int .i64 x7, .int .i64 x8]]) (h := h) (h' := h13) (v := .int .i64 y15) (hC := (ai (show AKeep h13 h13 from (AHeap.sub_refl h13)) (ai (F51_spec ([(F52 x2 x6), (F52 x3 x7), (F52 x4 x8), (F52 x1 x5)] : List Int) v13 h13 (Heapy.sle (v := v13) (xs := ([(F52 x2 x6), (F52 x3 x7), (F52 x4 x8), (F52 x1 x5)] : List Int)) (enc := enc3) hp13 0 rfl (fun _ => rfl) (by decide)) _ e15) (ai m13 (ai (show AKeep h h from (AHeap.sub_refl h)) (ai (F52_spec x1 x5 h _ rfl) (ai (show AKeep h h from (AHeap.sub_refl h)) (ai (F52_spec x4 x8 h _ rfl) (ai (show AKeep h h from (AHeap.sub_refl h)) (ai (F52_spec x3 x7 h _ rfl) (ai (show AKeep h h from (AHeap.sub_refl h)) (ai (F52_spec x2 x6 h _ rfl) trivial)))))))))))) (hr := by kernel_rfl)⟩
/-! 62 jacquard/explore.Dominates -/
def F62 (x1 : Int) (x2 : Int) (x3 : Int) (x4 : Int) (x5 : Int) (x6 : Int) (x7 : Int) (x8 : Int) : Bool :=
  (bif decide (x2 ≤ x6) then
   (bif decide (x3 ≤ x7) then
    (bif decide (x4 ≤ x8) then
     (bif decide (x2 < x6) then
      true
     else
      (bif decide (x3 < x7) then
       true
      else
       (decide (x4 < x8))))
    else
     false)
   else
    false)
  else
   false)
set_option maxRecDepth 100000 in
theorem F62_spec (x1 : Int) (x2 : Int) (x3 : Int) (x4 : Int) (x5 : Int) (x6 : Int) (x7 : Int) (x8 : Int) (h : AHeap)  (r : Bool) : F62 x1 x2 x3 x4 x5 x6 x7 x8 = r → ACalls Try.prog 62 [.agg #[.int .i64 x1, .int .i64 x2, .int .i64 x3, .int .i64 x4], .agg #[.int .i64 x5, .int .i64 x6, .int .i64 x7, .int .i64 x8]] h (fun v' h'' => v' = (.bool r : Value) ∧ h'' = h) := by
  unfold F62
  refine dec_bif (fun c9 => ?_) (fun c9 => ?_)
  · refine dec_bif (fun c10 => ?_) (fun c10 => ?_)
    · refine dec_bif (fun c11 => ?_) (fun c11 => ?_)
      · refine dec_bif (fun c12 => ?_) (fun c12 => ?_)
        · intro hr
          subst hr
          exact pFun_sound good tab_ok (f := 62) (its := [.g, .g, .g, .g, .g, .g, .g, .g, .g, (.w .g), (.w .g), (.w .g), (.w .g), (.w .g), (.p true), .g, (.w .g), (.w .g), (.w .g), (.w .g), (.w .g), (.p true), .g, (.w .g), (.w .g), (.w .g), (.w .g), (.w .g), (.w .g), .n, .n, .n, .n, .n, (.w (.p true)), (.w .g), .n, .n, .n, .n, .n, (.w .g), (.p true), .g]) (args := [.agg #[.int .i64 x1, .int .i64 x2, .int .i64 x3, .int .i64 x4], .agg #[.int .i64 x5, .int .i64 x6, .int .i64 x7, .int .i64 x8]]) (h := h) (h' := h) (v := .bool true) (hC := (ai c11 (ai (g_tt c11) (ai (g_tf l_t) (ai (g_tf l_t) (ai (g_tf l_t) (ai (g_tf l_t) (ai (g_tf l_t) (ai (g_tt c11) (ai c12 (ai (g_tt c11) (ai (g_tf c12) (ai (g_tf c12) (ai (g_tf c12) (ai (g_tf c12) (ai (g_tf c12) (ai (g_tt c11) (ai (g_tt c11) (ai (g_tt c11) (ai (g_tt c11) (ai (g_tt c11) (ai (g_tt c11) (ai c10 (ai (g_tt c10) (ai (g_tt c10) (ai (g_tt c10) (ai (g_tt c10) (ai (g_tt c10) (ai c9 (ai (g_tt c9) (ai (g_tt c9) (ai (g_tt c9) (ai (g_tt c9) (ai (g_tt c9) trivial)))))))))))))))))))))))))))))))))) (hr := by kernel_rfl)
        · refine dec_bif (fun c13 => ?_) (fun c13 => ?_)
          · intro hr
            subst hr
            exact pFun_sound good tab_ok (f := 62) (its := [.g, .g, .g, .g, .g, .g, .g, .g, .g, (.w .g), (.w .g), (.w .g), (.w .g), (.w .g), (.p true), .g, (.w .g), (.w .g), (.w .g), (.w .g), (.w .g), (.p true), .g, (.w .g), (.w .g), (.w .g), (.w .g), (.w .g), (.w .g), (.w .g), (.w .g), (.w .g), (.w .g), (.w .g), (.w (.p false)), (.w .g), .n, .n, .n, .n, .n, (.w (.p true)), (.p true), .g]) (args := [.agg #[.int .i64 x1, .int .i64 x2, .int .i64 x3, .int .i64 x4], .agg #[.int .i64 x5, .int .i64 x6, .int .i64 x7, .int .i64 x8]]) (h := h) (h' := h) (v := .bool true) (hC := (ai c11 (ai c13 (ai (g_tt c11) (ai (g_tf c13) (ai (g_tf c13) (ai (g_tf c13) (ai (g_tf c13) (ai (g_tf c13) (ai (g_tt c11) (ai c12 (ai (g_tt c11) (ai (g_ff c12) (ai (g_ff c12) (ai (g_ff c12) (ai (g_ff c12) (ai (g_ff c12) (ai (g_tt c11) (ai (g_tt c11) (ai (g_tt c11) (ai (g_tt c11) (ai (g_tt c11) (ai (g_tt c11) (ai c10 (ai (g_tt c10) (ai (g_tt c10) (ai (g_tt c10) (ai (g_tt c10) (ai (g_tt c10) (ai c9 (ai (g_tt c9) (ai (g_tt c9) (ai (g_tt c9) (ai (g_tt c9) (ai (g_tt c9) trivial))))))))))))))))))))))))))))))))))) (hr := by kernel_rfl)
          · intro hr
            subst hr
            exact pFun_sound good tab_ok (f := 62) (its := [.g, .g, .g, .g, .g, .g, .g, .g, .g, (.w .g), (.w .g), (.w .g), (.w .g), (.w .g), (.p true), .g, (.w .g), (.w .g), (.w .g), (.w .g), (.w .g), (.p true), .g, (.w .g), (.w .g), (.w .g), (.w .g), (.w .g), (.w .g), (.w .g), (.w .g), (.w .g), (.w .g), (.w .g), (.w (.p false)), (.w .g), (.w .g), (.w .g), (.w .g), (.w .g), (.w .g), (.w (.p false)), (.p true), .g]) (args := [.agg #[.int .i64 x1, .int .i64 x2, .int .i64 x3, .int .i64 x4], .agg #[.int .i64 x5, .int .i64 x6, .int .i64 x7, .int .i64 x8]]) (h := h) (h' := h) (v := .bool (decide (x4 < x8))) (hC := (ai c11 (ai c13 (ai (g_tt c11) (ai (g_ff c13) (ai (g_ff c13) (ai (g_ff c13) (ai (g_ff c13) (ai (g_ff c13) (ai (g_tt c11) (ai c12 (ai (g_tt c11) (ai (g_ff c12) (ai (g_ff c12) (ai (g_ff c12) (ai (g_ff c12) (ai (g_ff c12) (ai (g_tt c11) (ai (g_tt c11) (ai (g_tt c11) (ai (g_tt c11) (ai (g_tt c11) (ai (g_tt c11) (ai c10 (ai (g_tt c10) (ai (g_tt c10) (ai (g_tt c10) (ai (g_tt c10) (ai (g_tt c10) (ai c9 (ai (g_tt c9) (ai (g_tt c9) (ai (g_tt c9) (ai (g_tt c9) (ai (g_tt c9) trivial))))))))))))))))))))))))))))))))))) (hr := by kernel_rfl)
      · intro hr
        subst hr
        exact pFun_sound good tab_ok (f := 62) (its := [.g, .g, .g, .g, .g, .g, .g, .g, .g, (.w .g), (.w .g), (.w .g), (.w .g), (.w .g), (.p true), .g, (.w .g), (.w .g), (.w .g), (.w .g), (.w .g), (.p true), .g, .n, .n, .n, .n, .n, .n, .n, .n, .n, .n, .n, .n, .n, .n, .n, .n, .n, .n, .n, (.p false), .g]) (args := [.agg #[.int .i64 x1, .int .i64 x2, .int .i64 x3, .int .i64 x4], .agg #[.int .i64 x5, .int .i64 x6, .int .i64 x7, .int .i64 x8]]) (h := h) (h' := h) (v := .bool false) (hC := (ai c11 (ai (g_ft c11) (ai l_f (ai l_f (ai l_f (ai l_f (ai l_f (ai (g_ft c11) (ai (g_ft c11) (ai l_f (ai l_f (ai l_f (ai l_f (ai l_f (ai (g_ft c11) (ai (g_ft c11) (ai (g_ft c11) (ai (g_ft c11) (ai (g_ft c11) (ai (g_ft c11) (ai c10 (ai (g_tt c10) (ai (g_tt c10) (ai (g_tt c10) (ai (g_tt c10) (ai (g_tt c10) (ai c9 (ai (g_tt c9) (ai (g_tt c9) (ai (g_tt c9) (ai (g_tt c9) (ai (g_tt c9) trivial))))))))))))))))))))))))))))))))) (hr := by kernel_rfl)
    · intro hr
      subst hr
      exact pFun_sound good tab_ok (f := 62) (its := [.g, .g, .g, .g, .g, .g, .g, .g, .g, (.w .g), (.w .g), (.w .g), (.w .g), (.w .g), (.p true), .g, .n, .n, .n, .n, .n, (.p false), .g, .n, .n, .n, .n, .n, .n, .n, .n, .n, .n, .n, .n, .n, .n, .n, .n, .n, .n, .n, .g, .g]) (args := [.agg #[.int .i64 x1, .int .i64 x2, .int .i64 x3, .int .i64 x4], .agg #[.int .i64 x5, .int .i64 x6, .int .i64 x7, .int .i64 x8]]) (h := h) (h' := h) (v := .bool false) (hC := (ai (g_ft l_f) (ai l_f (ai l_f (ai l_f (ai l_f (ai l_f (ai (g_ft l_f) (ai (g_ft l_f) (ai l_f (ai l_f (ai l_f (ai l_f (ai l_f (ai (g_ft l_f) (ai (g_ft l_f) (ai (g_ft l_f) (ai (g_ft l_f) (ai (g_ft l_f) (ai (g_ft l_f) (ai c10 (ai (g_ft c10) (ai (g_ft c10) (ai (g_ft c10) (ai (g_ft c10) (ai (g_ft c10) (ai c9 (ai (g_tt c9) (ai (g_tt c9) (ai (g_tt c9) (ai (g_tt c9) (ai (g_tt c9) trivial)))))))))))))))))))))))))))))))) (hr := by kernel_rfl)
  · intro hr
    subst hr
    exact pFun_sound good tab_ok (f := 62) (its := [.g, .g, .g, .g, .g, .g, .g, .g, .g, .n, .n, .n, .n, .n, (.p false), .g, .n, .n, .n, .n, .n, .g, .g, .n, .n, .n, .n, .n, .n, .n, .n, .n, .n, .n, .n, .n, .n, .n, .n, .n, .n, .n, .g, .g]) (args := [.agg #[.int .i64 x1, .int .i64 x2, .int .i64 x3, .int .i64 x4], .agg #[.int .i64 x5, .int .i64 x6, .int .i64 x7, .int .i64 x8]]) (h := h) (h' := h) (v := .bool false) (hC := (ai (g_ft l_f) (ai l_f (ai l_f (ai l_f (ai l_f (ai l_f (ai (g_ft l_f) (ai (g_ft l_f) (ai l_f (ai l_f (ai l_f (ai l_f (ai l_f (ai (g_ft l_f) (ai (g_ft l_f) (ai (g_ft l_f) (ai (g_ft l_f) (ai (g_ft l_f) (ai (g_ft l_f) (ai (g_ft l_f) (ai (g_ft l_f) (ai (g_ft l_f) (ai (g_ft l_f) (ai (g_ft l_f) (ai c9 (ai (g_ft c9) (ai (g_ft c9) (ai (g_ft c9) (ai (g_ft c9) (ai (g_ft c9) trivial))))))))))))))))))))))))))))))) (hr := by kernel_rfl)
/-! 61 jacquard/explore.Pareto$2 -/
def F61 (x1 : Int) (x2 : Int) (x3 : Int) (x4 : Int) (x5 : Int) (x6 : Int) (x7 : Int) (x8 : Int) : Bool :=
  (bif (F62 x1 x2 x3 x4 x5 x6 x7 x8) then
   true
  else
   (bif (x2 == x6) then
    (bif (x3 == x7) then
     (x4 == x8)
    else
     false)
   else
    false))
set_option maxRecDepth 100000 in
theorem F61_spec (x1 : Int) (x2 : Int) (x3 : Int) (x4 : Int) (x5 : Int) (x6 : Int) (x7 : Int) (x8 : Int) (id9 : Nat) (off9 : Nat) (g9 : Nat) (h : AHeap) (at9 : At h id9 off9 g9 [.int .i64 x5, .int .i64 x6, .int .i64 x7, .int .i64 x8]) (r : Bool) : F61 x1 x2 x3 x4 x5 x6 x7 x8 = r → ACalls Try.prog 61 [.agg #[.int .i64 x1, .int .i64 x2, .int .i64 x3, .int .i64 x4], .pointer (some ⟨id9, off9 + 0, some g9⟩)] h (fun v' h'' => v' = (.bool r : Value) ∧ h'' = h) := by
  unfold F61
  refine dec_bif (fun c11 => ?_) (fun c11 => ?_)
  · intro hr
    subst hr
    exact pFun_sound good tab_ok (f := 61) (its := [.g, .g, .g, (.ld (.agg #[.int .i64 x5, .int .i64 x6, .int .i64 x7, .int .i64 x8])), (.c (.bool (F62 x1 x2 x3 x4 x5 x6 x7 x8)) h), .g, .n, .n, .n, .n, .n, .n, .n, .n, .n, .n, .n, .n, .n, .n, .n, .n, .n, .n, .n, (.p true), .g]) (args := [.agg #[.int .i64 x1, .int .i64 x2, .int .i64 x3, .int .i64 x4], .pointer (some ⟨id9, off9 + 0, some g9⟩)]) (h := h) (h' := h) (v := .bool true) (hC := (ai c11 (ai (g_tf c11) (ai l_f (ai l_f (ai l_f (ai l_f (ai l_f (ai (g_tf c11) (ai (g_tf c11) (ai l_f (ai l_f (ai l_f (ai l_f (ai l_f (ai (g_tf c11) (ai (g_tf c11) (ai (g_tf c11) (ai (g_tf c11) (ai (g_tf c11) (ai (g_tf c11) (ai (F62_spec x1 x2 x3 x4 x5 x6 x7 x8 h _ rfl) (ai (At.agg (P := Try.prog) (t := 66) (v := .agg #[.int .i64 x5, .int .i64 x6, .int .i64 x7, .int .i64 x8]) (m := 4) at9 (by kernel_rfl) (by kernel_rfl) 0 (by kernel_rfl) rfl) trivial))))))))))))))))))))))) (hr := by kernel_rfl)
  · refine dec_bif (fun c12 => ?_) (fun c12 => ?_)
    · refine dec_bif (fun c13 => ?_) (fun c13 => ?_)
      · intro hr
        subst hr
        exact pFun_sound good tab_ok (f := 61) (its := [.g, .g, .g, (.ld (.agg #[.int .i64 x5, .int .i64 x6, .int .i64 x7, .int .i64 x8])), (.c (.bool (F62 x1 x2 x3 x4 x5 x6 x7 x8)) h), .g, (.w .g), (.w .g), (.w .g), (.w (.ld (.int .i64 x6))), (.w .g), (.w .g), (.w .g), (.w .g), (.w .g), (.w (.ld (.int .i64 x7))), (.w .g), (.w (.p true)), (.w .g), (.w .g), (.w .g), (.w .g), (.w (.ld (.int .i64 x8))), (.w .g), (.w (.p true)), (.p false), .g]) (args := [.agg #[.int .i64 x1, .int .i64 x2, .int .i64 x3, .int .i64 x4], .pointer (some ⟨id9, off9 + 0, some g9⟩)]) (h := h) (h' := h) (v := .bool (x4 == x8)) (hC := (ai c11 (ai c13 (ai (g_ff c11) (ai (g_tt c13) (ai (At.one (P := Try.prog) (t := 3) (v := .int .i64 x8) at9 (by kernel_rfl) 3 rfl rfl) (ai (g_tt c13) (ai (g_tt c13) (ai (g_tt c13) (ai (g_tt c13) (ai (g_ff c11) (ai c12 (ai (g_ff c11) (ai (g_tt c12) (ai (At.one (P := Try.prog) (t := 3) (v := .int .i64 x7) at9 (by kernel_rfl) 2 rfl rfl) (ai (g_tt c12) (ai (g_tt c12) (ai (g_tt c12) (ai (g_tt c12) (ai (g_ff c11) (ai (g_ff c11) (ai (At.one (P := Try.prog) (t := 3) (v := .int .i64 x6) at9 (by kernel_rfl) 1 rfl rfl) (ai (g_ff c11) (ai (g_ff c11) (ai (g_ff c11) (ai (g_ff c11) (ai (F62_spec x1 x2 x3 x4 x5 x6 x7 x8 h _ rfl) (ai (At.agg (P := Try.prog) (t := 66) (v := .agg #[.int .i64 x5, .int .i64 x6, .int .i64 x7, .int .i64 x8]) (m := 4) at9 (by kernel_rfl) (by kernel_rfl) 0 (by kernel_rfl) rfl) trivial)))))))))))))))))))))))))))) (hr := by kernel_rfl)
      · intro hr
        subst hr
        exact pFun_sound good tab_ok (f := 61) (its := [.g, .g, .g, (.ld (.agg #[.int .i64 x5, .int .i64 x6, .int .i64 x7, .int .i64 x8])), (.c (.bool (F62 x1 x2 x3 x4 x5 x6 x7 x8)) h), .g, (.w .g), (.w .g), (.w .g), (.w (.ld (.int .i64 x6))), (.w .g), (.w .g), (.w .g), (.w .g), (.w .g), (.w (.ld (.int .i64 x7))), (.w .g), (.w (.p true)), (.w .g), .n, .n, .n, .n, .n, (.w (.p false)), (.p false), .g]) (args := [.agg #[.int .i64 x1, .int .i64 x2, .int .i64 x3, .int .i64 x4], .pointer (some ⟨id9, off9 + 0, some g9⟩)]) (h := h) (h' := h) (v := .bool false) (hC := (ai c11 (ai c13 (ai (g_ff c11) (ai (g_ft c13) (ai (g_ft c13) (ai (g_ft c13) (ai (g_ft c13) (ai (g_ft c13) (ai (g_ff c11) (ai c12 (ai (g_ff c11) (ai (g_tt c12) (ai (At.one (P := Try.prog) (t := 3) (v := .int .i64 x7) at9 (by kernel_rfl) 2 rfl rfl) (ai (g_tt c12) (ai (g_tt c12) (ai (g_tt c12) (ai (g_tt c12) (ai (g_ff c11) (ai (g_ff c11) (ai (At.one (P := Try.prog) (t := 3) (v := .int .i64 x6) at9 (by kernel_rfl) 1 rfl rfl) (ai (g_ff c11) (ai (g_ff c11) (ai (g_ff c11) (ai (g_ff c11) (ai (F62_spec x1 x2 x3 x4 x5 x6 x7 x8 h _ rfl) (ai (At.agg (P := Try.prog) (t := 66) (v := .agg #[.int .i64 x5, .int .i64 x6, .int .i64 x7, .int .i64 x8]) (m := 4) at9 (by kernel_rfl) (by kernel_rfl) 0 (by kernel_rfl) rfl) trivial))))))))))))))))))))))))))) (hr := by kernel_rfl)
    · intro hr
      subst hr
      exact pFun_sound good tab_ok (f := 61) (its := [.g, .g, .g, (.ld (.agg #[.int .i64 x5, .int .i64 x6, .int .i64 x7, .int .i64 x8])), (.c (.bool (F62 x1 x2 x3 x4 x5 x6 x7 x8)) h), .g, (.w .g), (.w .g), (.w .g), (.w (.ld (.int .i64 x6))), (.w .g), (.w .g), .n, .n, .n, .n, .n, (.w (.p false)), (.w .g), .n, .n, .n, .n, .n, (.w .g), (.p false), .g]) (args := [.agg #[.int .i64 x1, .int .i64 x2, .int .i64 x3, .int .i64 x4], .pointer (some ⟨id9, off9 + 0, some g9⟩)]) (h := h) (h' := h) (v := .bool false) (hC := (ai c11 (ai (g_ff c11) (ai (g_ft l_f) (ai (g_ft l_f) (ai (g_ft l_f) (ai (g_ft l_f) (ai (g_ft l_f) (ai (g_ff c11) (ai c12 (ai (g_ff c11) (ai (g_ft c12) (ai (g_ft c12) (ai (g_ft c12) (ai (g_ft c12) (ai (g_ft c12) (ai (g_ff c11) (ai (g_ff c11) (ai (At.one (P := Try.prog) (t := 3) (v := .int .i64 x6) at9 (by kernel_rfl) 1 rfl rfl) (ai (g_ff c11) (ai (g_ff c11) (ai (g_ff c11) (ai (g_ff c11) (ai (F62_spec x1 x2 x3 x4 x5 x6 x7 x8 h _ rfl) (ai (At.agg (P := Try.prog) (t := 66) (v := .agg #[.int .i64 x5, .int .i64 x6, .int .i64 x7, .int .i64 x8]) (m := 4) at9 (by kernel_rfl) (by kernel_rfl) 0 (by kernel_rfl) rfl) trivial))))))))))))))))))))))))) (hr := by kernel_rfl)
/-! slices.SortFunc 58 at 59 -/
def sort58_ren : Go.Shelf.Ren := ⟨fun | 6 => 58 | 15 => 72 | 14 => 76 | 28 => 87 | 29 => 88 | 20 => 89 | 21 => 90 | 22 => 91 | 23 => 92 | 24 => 93 | 25 => 94 | 26 => 95 | 27 => 96 | 46 => 102 | 47 => 98 | 48 => 99 | 49 => 103 | 50 => 104 | 57 => 106 | n => n, fun | 22 => 61 | 24 => 66 | 25 => 90 | 3 => 3 | 39 => 98 | 0 => 0 | 53 => 111 | 55 => 113 | 4 => 4 | 46 => 104 | 45 => 103 | 50 => 108 | 5 => 5 | 9 => 9 | 66 => 119 | 70 => 123 | 76 => 127 | 77 => 128 | n => n, fun n => n⟩
theorem sort58_lay : Go.Proofs.SlLaysF0.n6 Try.prog sort58_ren := {
  mixed := by kernel_rfl
  f6 := ⟨"slices.SortFunc[[]jacquard/api.Point,jacquard/api.Point]", by kernel_rfl, by kernel_rfl⟩
  f14 := ⟨"slices.pdqsortCmpFunc[jacquard/api.Point]", by kernel_rfl, by kernel_rfl⟩
  f15 := by kernel_rfl
  f20 := ⟨"slices.insertionSortCmpFunc[jacquard/api.Point]", by kernel_rfl, by kernel_rfl⟩
  f21 := ⟨"slices.heapSortCmpFunc[jacquard/api.Point]", by kernel_rfl, by kernel_rfl⟩
  f22 := ⟨"slices.breakPatternsCmpFunc[jacquard/api.Point]", by kernel_rfl, by kernel_rfl⟩
  f23 := ⟨"slices.choosePivotCmpFunc[jacquard/api.Point]", by kernel_rfl, by kernel_rfl⟩
  f24 := ⟨"slices.reverseRangeCmpFunc[jacquard/api.Point]", by kernel_rfl, by kernel_rfl⟩
  f25 := ⟨"slices.partialInsertionSortCmpFunc[jacquard/api.Point]", by kernel_rfl, by kernel_rfl⟩
  f26 := ⟨"slices.partitionEqualCmpFunc[jacquard/api.Point]", by kernel_rfl, by kernel_rfl⟩
  f27 := ⟨"slices.partitionCmpFunc[jacquard/api.Point]", by kernel_rfl, by kernel_rfl⟩
  f28 := by kernel_rfl
  f29 := by kernel_rfl
  f46 := ⟨"slices.siftDownCmpFunc[jacquard/api.Point]", by kernel_rfl, by kernel_rfl⟩
  f47 := by kernel_rfl
  f48 := by kernel_rfl
  f49 := ⟨"slices.medianAdjacentCmpFunc[jacquard/api.Point]", by kernel_rfl, by kernel_rfl⟩
  f50 := ⟨"slices.medianCmpFunc[jacquard/api.Point]", by kernel_rfl, by kernel_rfl⟩
  f57 := ⟨"slices.order2CmpFunc[jacquard/api.Point]", by kernel_rfl, by kernel_rfl⟩
  t0 := by kernel_rfl
  a0 := Try.isAgg0
  z0 := Try.sizeOf0
  v0 := Try.zeroValue0
  t3 := by kernel_rfl
  a3 := Try.isAgg3
  z3 := Try.sizeOf3
  v3 := Try.zeroValue3
  t4 := by kernel_rfl
  a4 := Try.isAgg4
  z4 := Try.sizeOf4
  v4 := Try.zeroValue4
  t5 := by kernel_rfl
  a5 := Try.isAgg5
  z5 := Try.sizeOf5
  v5 := Try.zeroValue5
  t9 := by kernel_rfl
  a9 := Try.isAgg9
  z9 := Try.sizeOf9
  v9 := Try.zeroValue9
  t22 := by kernel_rfl
  a22 := Try.isAgg61
  z22 := Try.sizeOf61
  v22 := Try.zeroValue61
  t25 := by kernel_rfl
  a25 := Try.isAgg90
  z25 := Try.sizeOf90
  v25 := Try.zeroValue90
  t39 := by kernel_rfl
  a39 := Try.isAgg98
  z39 := Try.sizeOf98
  v39 := Try.zeroValue98
  t45 := by kernel_rfl
  a45 := Try.isAgg103
  z45 := Try.sizeOf103
  v45 := Try.zeroValue103
  t46 := by kernel_rfl
  a46 := Try.isAgg104
  z46 := Try.sizeOf104
  v46 := Try.zeroValue104
  t50 := by kernel_rfl
  a50 := Try.isAgg108
  z50 := Try.sizeOf108
  v50 := Try.zeroValue108
  t53 := by kernel_rfl
  a53 := Try.isAgg111
  z53 := Try.sizeOf111
  v53 := Try.zeroValue111
  t55 := by kernel_rfl
  a55 := Try.isAgg113
  z55 := Try.sizeOf113
  v55 := Try.zeroValue113
  t66 := by kernel_rfl
  a66 := Try.isAgg119
  z66 := Try.sizeOf119
  v66 := Try.zeroValue119
  t70 := by kernel_rfl
  a70 := Try.isAgg123
  z70 := Try.sizeOf123
  v70 := Try.zeroValue123
  t76 := by kernel_rfl
  a76 := Try.isAgg127
  z76 := Try.sizeOf127
  v76 := Try.zeroValue127
  t77 := by kernel_rfl
  a77 := Try.isAgg128
  z77 := Try.sizeOf128
  v77 := Try.zeroValue128 }
theorem cmp59_one (a b : Int) : F52 a b = cmpI a b := by
  unfold F52 F73
  rw [bne_self_eq_false, bne_self_eq_false]
  simp only [cond_false]
  rcases cmpI_cases a b with ⟨p, e⟩ | ⟨p, e⟩ | ⟨p, e⟩
  · rw [decide_eq_true p, e]; rfl
  · rw [decide_eq_false (by omega), decide_eq_true (show a > b from p), e]; rfl
  · rw [decide_eq_false (by omega), decide_eq_false (by omega), e]; rfl
theorem cmp59_or (l : List Int) (h : l.length ≤ 1000) : F51 l = some (orL l) := by
  apply Yields.eq
  unfold F51
  refine Yields.bind (P := fun t => (t.1 = 0 ∧ t.2 = orL l) ∨ (t.1 = 1 ∧ orL l = 0)) (Yields.loop l.length (fun (i : Nat) z => z = (i : Int) ∧ orL (l.drop i) = orL l) ⟨rfl, rfl⟩ ?_) ?_
  · rintro i z hi ⟨rfl, hd⟩
    unfold F51_s1
    refine Yields.bif (fun hc => ?_) fun hc => Yields.some (.inr ⟨rfl, ?_⟩)
    · have hc := of_decide_eq_true hc
      have hl : i < l.length := by omega
      have hy : l[i]? = some l[i] := List.getElem?_eq_getElem hl
      have dr : l.drop i = l[i] :: l.drop (i + 1) := List.drop_eq_getElem_cons hl
      have oc : ∀ (a : Int) (r : List Int), orL (a :: r) = if a = 0 then orL r else a := fun _ _ => rfl
      rw [dr, oc] at hd
      refine Yields.bindE (y := l[i]) (by unfold at?; rw [decide_eq_true (Int.natCast_nonneg i), cond_true, Int.toNat_natCast]; exact hy) (Yields.bif (fun q => Yields.some (.inl ⟨rfl, ?_⟩)) fun q => Yields.some ⟨by omega, by rw [wrap_i64] <;> omega, ?_⟩)
      · rw [if_neg (bne_iff_ne.1 q)] at hd; exact hd
      · rw [if_pos (by simpa using q)] at hd; exact hd
    · have hc := of_decide_eq_false hc
      rw [List.drop_eq_nil_of_le (by omega)] at hd
      exact hd.symm
  · rintro ⟨t, u⟩ (⟨rfl, rfl⟩ | ⟨rfl, h0⟩)
    · exact Yields.some rfl
    · exact Yields.some h0.symm
def key59 (x : Int × Int × Int × Int) : List Int := [x.2.1, x.2.2.1, x.2.2.2, x.1]
theorem cmp59_eq (x y : Int × Int × Int × Int) : F59 x.1 x.2.1 x.2.2.1 x.2.2.2 y.1 y.2.1 y.2.2.1 y.2.2.2 = some (cmpL (key59 x) (key59 y)) := by
  unfold F59
  rw [cmp59_or _ (by simp)]
  simp only [cmp59_one, Option.bind_some]
  congr 1
/-- slices.SortFunc by that order. -/
def F58w59 (xs : List (Int × Int × Int × Int)) : Option (List (Int × Int × Int × Int)) := bif decide (xs.length < 4611686018427387904) then some (xs.mergeSort fun x y => !(Go.Proofs.ltOf fun a b => cmpL (key59 a) (key59 b)) y x) else none
theorem F58w59_spec (l1 : List (Int × Int × Int × Int)) (v1 : Hd) (hi : AHeap) (h : AHeap) (hw : h.wf) (hio : Heapy h hi [⟨v1, 66, 4, List.flatMap enc66 l1⟩]) (r : List (Int × Int × Int × Int)) : F58w59 l1 = some r → ∃ (h' : AHeap), Heapy h h' [⟨v1, 66, 4, List.flatMap enc66 r⟩] ∧ ACalls Try.prog 58 [(sv v1), .func (.func 59) #[] #[]] hi (fun v' h'' => v' = (.tuple #[] : Value) ∧ h'' = h') := by
  unfold F58w59
  intro hr
  cases hd : decide (l1.length < 4611686018427387904) with
  | false => rw [hd] at hr; cases hr
  | true =>
    rw [hd] at hr
    obtain rfl := Option.some.inj hr
    refine sort_spec sort58_lay rfl (by decide) Try.isAgg66 Try.sizeOf66 (fun _ => rfl) (fun x v hv => ?_) (fun _ => rfl) _ (key_swo (n := 4) fun _ => rfl) (key_tot (n := 4) (fun _ => rfl) ?_) (Go.Proofs.enters_of Try.func59 (by kernel_rfl) rfl) ?_ hio (of_decide_eq_true hd)
    · unfold enc66 at hv
      simp only [List.mem_cons, List.not_mem_nil, or_false] at hv
      rcases hv with rfl | rfl | rfl | rfl <;> rfl
    · intro x y e
      unfold key59 at e
      simp only [List.cons.injEq, and_true] at e
      obtain ⟨a0, a1, a2, a3⟩ := x
      obtain ⟨b0, b1, b2, b3⟩ := y
      simp_all
    · intro x y
      obtain ⟨h2, _, c⟩ := F59_spec x.1 x.2.1 x.2.2.1 x.2.2.2 y.1 y.2.1 y.2.2.1 y.2.2.2 AHeap.none rfl _ (cmp59_eq x y)
      intro B ρ w args' H hA
      refine (c B ρ w args' H hA).mono ?_
      rintro e w' ⟨v, v', ρ', h', e1, ⟨e2, _⟩, e3, e4, e5⟩
      exact ⟨v, v', ρ', h', e1, e2, e3, e4, e5⟩

/-! 77 slices.IndexFunc[[]jacquard/api.Point,jacquard/api.Point] -/
def F77w61_L : List Nat := []
def F77w61_D : List (Nat × List (Nat × Nat)) := []
def F77w61_m1_2 : List Bool := [true, true, true, true, true, true, true, true, true, true, true, true, true, true, true, true, true, true, true]
def F77w61_m1_1 : List Bool := [false, false, true, true, true, true, true, false, false, true, true, true, true, true, true, true, true, true, true]
def F77w61_m1_0 : List Bool := [true, true, true, true, false, true, true, true, true, true, true, true, true, true, true, true, true, true, true]
def F77w61_s1 (l1 : List (Int × Int × Int × Int)) (x2 : Int) (x3 : Int) (x4 : Int) (x5 : Int) (a7 : Int) : Option (Int ⊕ (Nat × Int)) :=
  (bif decide (a7 < (l1.length : Int)) then
   (Option.bind (at? l1 a7) fun y9 =>
   (bif (F61 y9.1 y9.2.1 y9.2.2.1 y9.2.2.2 x2 x3 x4 x5) then
    some (.inr (0, a7))
   else
    some (.inl (IntKind.i64.wrap (a7 + 1)))))
  else
   some (.inr (1, 0)))
def F77w61_h1 (h : AHeap) (l1 : List (Int × Int × Int × Int)) (v1 : Hd) (id6 : Nat) (off6 : Nat) (g6 : Nat)  (a7 : Int) : AS := ⟨[(sv v1), .func (.func 61) #[] #[.pointer (some ⟨id6, off6 + 0, some g6⟩)], junk, junk, junk, junk, junk, .int .i64 (l1.length : Int), .int .i64 a7, junk, junk, junk, junk, junk, junk, junk, junk, junk, junk], [], h⟩
theorem F77w61_d1 : drawsOk F77w61_D (codeOf Try.prog 77 [1, 0, 1, 0, 0]) = true := by kernel_rfl
def F77w61_x1_0 (h : AHeap)  (r : Nat × Int) : AS := ⟨[junk, junk, junk, junk, .int .i64 r.2, junk, junk, junk, junk, junk, junk, junk, junk, junk, junk, junk, junk, junk, junk], [], h⟩
def F77w61_x1_1 (h : AHeap)  (r : Nat × Int) : AS := ⟨[junk, junk, junk, junk, junk, junk, junk, junk, junk, junk, junk, junk, junk, junk, junk, junk, junk, junk, junk], [], h⟩
def F77w61_x1 (h : AHeap) (r : Nat × Int) : Exit × AS := (bif Nat.beq r.1 0 then (.ret, (F77w61_x1_0 h r)) else ((.exit 0), (F77w61_x1_1 h r)))
set_option maxRecDepth 100000 in
theorem F77w61_r1 (h : AHeap) (l1 : List (Int × Int × Int × Int)) (v1 : Hd) (hv1 : SlE E66 4 h (sv v1) l1) (x2 : Int) (x3 : Int) (x4 : Int) (x5 : Int) (id6 : Nat) (off6 : Nat) (g6 : Nat) (at6 : At h id6 off6 g6 [.int .i64 x2, .int .i64 x3, .int .i64 x4, .int .i64 x5]) (a7 : Int) (o : Int ⊕ (Nat × Int)) : F77w61_s1 l1 x2 x3 x4 x5 a7 = some o → RdF Try.prog (codeOf Try.prog 77 [1, 0, 1, 0, 0]) (fun (s : Int) => (F77w61_h1 h l1 v1 id6 off6 g6 s)) (F77w61_x1 h) (F77w61_h1 h l1 v1 id6 off6 g6 a7) o := by
  unfold F77w61_s1
  refine dec_bif (fun c8 => ?_) (fun c8 => ?_)
  · refine bind_opt fun y9 e9 => ?_
    obtain ⟨id9, off9, g9, cs9, ix9, at9, rfl⟩ := SlE.at hv1 e9
    refine dec_bif (fun c11 => ?_) (fun c11 => ?_)
    · intro hr
      obtain rfl := Option.some.inj hr
      show AWp Try.prog _ (Ends1 ((F77w61_x1 h) ((0, a7) : Nat × Int)).1 ((F77w61_x1 h) ((0, a7) : Nat × Int)).2) _
      exact pEnd_sound good (L := F77w61_L) (D := F77w61_D) (its := [.g, (.b true), .g, .g, .g, .g, .g, (.ix id9 off9 g9), (.ld (.agg #[.int .i64 y9.1, .int .i64 y9.2.1, .int .i64 y9.2.2.1, .int .i64 y9.2.2.2])), (.c (.bool (F61 y9.1 y9.2.1 y9.2.2.1 y9.2.2.2 x2 x3 x4 x5)) h), (.b true), .g, .g]) (ds := F77w61_m1_0) (ks := []) (e := ((F77w61_x1 h) ((0, a7) : Nat × Int)).1) (s2 := ((F77w61_x1 h) ((0, a7) : Nat × Int)).2) (hC := (ai c11 (ai (F61_spec y9.1 y9.2.1 y9.2.2.1 y9.2.2.2 x2 x3 x4 x5 id6 off6 g6 h at6 _ rfl) (ai (At.agg (P := Try.prog) (t := 66) (v := .agg #[.int .i64 y9.1, .int .i64 y9.2.1, .int .i64 y9.2.2.1, .int .i64 y9.2.2.2]) (m := 4) at9 (by kernel_rfl) (by kernel_rfl) 0 (by kernel_rfl) rfl) (ai ix9 (ai c8 trivial)))))) (hd := F77w61_d1) (h := by kernel_rfl)
    · intro hr
      obtain rfl := Option.some.inj hr
      show AWp Try.prog _ (Ends1 .normal (F77w61_h1 h l1 v1 id6 off6 g6 (IntKind.i64.wrap (a7 + 1)))) _
      exact pEnd_sound good (L := F77w61_L) (D := F77w61_D) (its := [.g, (.b true), .g, .g, .g, .g, .g, (.ix id9 off9 g9), (.ld (.agg #[.int .i64 y9.1, .int .i64 y9.2.1, .int .i64 y9.2.2.1, .int .i64 y9.2.2.2])), (.c (.bool (F61 y9.1 y9.2.1 y9.2.2.1 y9.2.2.2 x2 x3 x4 x5)) h), (.b false), .g, .g]) (ds := F77w61_m1_1) (ks := []) (e := .normal) (s2 := (F77w61_h1 h l1 v1 id6 off6 g6 (IntKind.i64.wrap (a7 + 1)))) (hC := (ai c11 (ai (F61_spec y9.1 y9.2.1 y9.2.2.1 y9.2.2.2 x2 x3 x4 x5 id6 off6 g6 h at6 _ rfl) (ai (At.agg (P := Try.prog) (t := 66) (v := .agg #[.int .i64 y9.1, .int .i64 y9.2.1, .int .i64 y9.2.2.1, .int .i64 y9.2.2.2]) (m := 4) at9 (by kernel_rfl) (by kernel_rfl) 0 (by kernel_rfl) rfl) (ai ix9 (ai c8 trivial)))))) (hd := F77w61_d1) (h := by kernel_rfl)
  · intro hr
    obtain rfl := Option.some.inj hr
    show AWp Try.prog _ (Ends1 ((F77w61_x1 h) ((1, 0) : Nat × Int)).1 ((F77w61_x1 h) ((1, 0) : Nat × Int)).2) _
    exact pEnd_sound good (L := F77w61_L) (D := F77w61_D) (its := [.g, (.b false)]) (ds := F77w61_m1_2) (ks := []) (e := ((F77w61_x1 h) ((1, 0) : Nat × Int)).1) (s2 := ((F77w61_x1 h) ((1, 0) : Nat × Int)).2) (hC := (ai c8 trivial)) (hd := F77w61_d1) (h := by kernel_rfl)
theorem F77w61_l1_0 (h : AHeap) (l1 : List (Int × Int × Int × Int)) (v1 : Hd) (hv1 : SlE E66 4 h (sv v1) l1) (x2 : Int) (x3 : Int) (x4 : Int) (x5 : Int) (id6 : Nat) (off6 : Nat) (g6 : Nat) (at6 : At h id6 off6 g6 [.int .i64 x2, .int .i64 x3, .int .i64 x4, .int .i64 x5]) (x : Int) (r : Nat × Int) (hl : loopO (fun (s : Int) => F77w61_s1 l1 x2 x3 x4 x5 s) x = some r) (q0 : Nat.beq r.1 0 = true) : AWp Try.prog (.loop (codeOf Try.prog 77 [1, 0, 1, 0, 0])) (Ends1 .ret (F77w61_x1_0 h r)) ((fun (s : Int) => (F77w61_h1 h l1 v1 id6 off6 g6 s)) x) := by
  have k := loop_fun (P := Try.prog) (c := (codeOf Try.prog 77 [1, 0, 1, 0, 0])) (step := (fun (s : Int) => F77w61_s1 l1 x2 x3 x4 x5 s)) (hd := (fun (s : Int) => (F77w61_h1 h l1 v1 id6 off6 g6 s))) (X := (F77w61_x1 h)) (by intro t; unfold F77w61_x1; cases Nat.beq t.1 0 <;> (intro h; cases h)) (fun x => F77w61_r1 h l1 v1 hv1 x2 x3 x4 x5 id6 off6 g6 at6 x) hl
  simp only [F77w61_x1, q0, cond_true, cond_false] at k
  exact k
theorem F77w61_l1_1 (h : AHeap) (l1 : List (Int × Int × Int × Int)) (v1 : Hd) (hv1 : SlE E66 4 h (sv v1) l1) (x2 : Int) (x3 : Int) (x4 : Int) (x5 : Int) (id6 : Nat) (off6 : Nat) (g6 : Nat) (at6 : At h id6 off6 g6 [.int .i64 x2, .int .i64 x3, .int .i64 x4, .int .i64 x5]) (x : Int) (r : Nat × Int) (hl : loopO (fun (s : Int) => F77w61_s1 l1 x2 x3 x4 x5 s) x = some r) (q0 : Nat.beq r.1 0 = false) : AWp Try.prog (.loop (codeOf Try.prog 77 [1, 0, 1, 0, 0])) (Ends1 (.exit 0) (F77w61_x1_1 h r)) ((fun (s : Int) => (F77w61_h1 h l1 v1 id6 off6 g6 s)) x) := by
  have k := loop_fun (P := Try.prog) (c := (codeOf Try.prog 77 [1, 0, 1, 0, 0])) (step := (fun (s : Int) => F77w61_s1 l1 x2 x3 x4 x5 s)) (hd := (fun (s : Int) => (F77w61_h1 h l1 v1 id6 off6 g6 s))) (X := (F77w61_x1 h)) (by intro t; unfold F77w61_x1; cases Nat.beq t.1 0 <;> (intro h; cases h)) (fun x => F77w61_r1 h l1 v1 hv1 x2 x3 x4 x5 id6 off6 g6 at6 x) hl
  simp only [F77w61_x1, q0, cond_true, cond_false] at k
  exact k
def F77w61 (l1 : List (Int × Int × Int × Int)) (x2 : Int) (x3 : Int) (x4 : Int) (x5 : Int) : Option (Int) :=
  (Option.bind (loopO (fun (s : Int) => F77w61_s1 l1 x2 x3 x4 x5 s) 0) fun y12 =>
  (bif (Nat.beq y12.1 0) then
   some (y12.2)
  else
   some (-1)))
set_option maxRecDepth 100000 in
theorem F77w61_spec (l1 : List (Int × Int × Int × Int)) (x2 : Int) (x3 : Int) (x4 : Int) (x5 : Int) (v1 : Hd) (id6 : Nat) (off6 : Nat) (g6 : Nat) (h : AHeap) (hv1 : SlE E66 4 h (sv v1) l1) (at6 : At h id6 off6 g6 [.int .i64 x2, .int .i64 x3, .int .i64 x4, .int .i64 x5]) (r : Int) : F77w61 l1 x2 x3 x4 x5 = some r → ACalls Try.prog 77 [(sv v1), .func (.func 61) #[] #[.pointer (some ⟨id6, off6 + 0, some g6⟩)]] h (fun v' h'' => v' = (.int .i64 r : Value) ∧ h'' = h) := by
  unfold F77w61
  refine bind_opt fun y12 e12 => ?_
  refine dec_bif (fun c13 => ?_) (fun c13 => ?_)
  · intro hr
    obtain rfl := Option.some.inj hr
    exact pFun_sound good tab_ok (f := 77) (its := [.g, .g, (.ln l1.length), .g, (.l F77w61_m1_1 [] .ret (F77w61_x1_0 h y12))]) (args := [(sv v1), .func (.func 61) #[] #[.pointer (some ⟨id6, off6 + 0, some g6⟩)]]) (h := h) (h' := h) (v := .int .i64 y12.2) (hC := (ai (F77w61_l1_0 h l1 v1 hv1 x2 x3 x4 x5 id6 off6 g6 at6 0 y12 e12 c13) (ai (SlE.len hv1) trivial))) (hr := by kernel_rfl)
  · intro hr
    obtain rfl := Option.some.inj hr
    exact pFun_sound good tab_ok (f := 77) (its := [.g, .g, (.ln l1.length), .g, (.l F77w61_m1_1 [] (.exit 0) (F77w61_x1_1 h y12)), .g]) (args := [(sv v1), .func (.func 61) #[] #[.pointer (some ⟨id6, off6 + 0, some g6⟩)]]) (h := h) (h' := h) (v := .int .i64 (-1)) (hC := (ai (F77w61_l1_1 h l1 v1 hv1 x2 x3 x4 x5 id6 off6 g6 at6 0 y12 e12 c13) (ai (SlE.len hv1) trivial))) (hr := by kernel_rfl)
/-! 60 slices.ContainsFunc[[]jacquard/api.Point,jacquard/api.Point] -/
def F60w61 (l1 : List (Int × Int × Int × Int)) (x2 : Int) (x3 : Int) (x4 : Int) (x5 : Int) : Option (Bool) :=
  (Option.bind (F77w61 l1 x2 x3 x4 x5) fun y7 =>
  some (decide (y7 ≥ 0)))
set_option maxRecDepth 100000 in
theorem F60w61_spec (l1 : List (Int × Int × Int × Int)) (x2 : Int) (x3 : Int) (x4 : Int) (x5 : Int) (v1 : Hd) (id6 : Nat) (off6 : Nat) (g6 : Nat) (h : AHeap) (hv1 : SlE E66 4 h (sv v1) l1) (at6 : At h id6 off6 g6 [.int .i64 x2, .int .i64 x3, .int .i64 x4, .int .i64 x5]) (r : Bool) : F60w61 l1 x2 x3 x4 x5 = some r → ACalls Try.prog 60 [(sv v1), .func (.func 61) #[] #[.pointer (some ⟨id6, off6 + 0, some g6⟩)]] h (fun v' h'' => v' = (.bool r : Value) ∧ h'' = h) := by
  unfold F60w61
  refine bind_opt fun y7 e7 => ?_
  intro hr
  obtain rfl := Option.some.inj hr
  exact pFun_sound good tab_ok (f := 60) (its := [.g, .g, .g, (.c (.int .i64 y7) h), .g, .g]) (args := [(sv v1), .func (.func 61) #[] #[.pointer (some ⟨id6, off6 + 0, some g6⟩)]]) (h := h) (h' := h) (v := .bool (decide (y7 ≥ 0))) (hC := (ai (F77w61_spec l1 x2 x3 x4 x5 v1 id6 off6 g6 h hv1 at6 _ e7) trivial)) (hr := by kernel_rfl)
/-! 33 jacquard/explore.Pareto -/
def F33_L : List Nat := []
def F33_D : List (Nat × List (Nat × Nat)) := []
def F33_m1_1 : List Bool := [true, true, true, true, false, true, true, true, true, true, true, true, true, true, true, true, true, true, true, true, true, true, true, true, true, true, true, true, true]
def F33_m1_0 : List Bool := [true, true, true, true, false, true, true, true, true, true, true, true, false, false, false, true, true, true, true, true, true, true, true, true, true, true, true, true, true]
def F33_s1 (y6 : List (Int × Int × Int × Int)) (a10 : Int) (l11 : List (Int × Int × Int × Int)) : Option ((Int × (List (Int × Int × Int × Int))) ⊕ (List (Int × Int × Int × Int))) :=
  (bif decide (a10 < (y6.length : Int)) then
   (Option.bind (at? y6 a10) fun y14 =>
   (Option.bind (F60w61 l11 y14.1 y14.2.1 y14.2.2.1 y14.2.2.2) fun y18 =>
   (bif (!y18) then
    (bif (!(okApp (l11.length + ([(y14.1, y14.2.1, y14.2.2.1, y14.2.2.2)] : List (Int × Int × Int × Int)).length) 32)) then none else
    some (.inl ((IntKind.i64.wrap (a10 + 1)), (l11 ++ ([(y14.1, y14.2.1, y14.2.2.1, y14.2.2.2)] : List (Int × Int × Int × Int))))))
   else
    some (.inl ((IntKind.i64.wrap (a10 + 1)), l11)))))
  else
   some (.inr l11))
def F33_h1 (u3_0 : Hd) (y6 : List (Int × Int × Int × Int)) (h12 : AHeap) (u11 : Hd) (a10 : Int) (l11 : List (Int × Int × Int × Int)) : AS := ⟨[junk, junk, junk, junk, (sv u11), junk, junk, junk, junk, junk, junk, junk, (sv u3_0), .int .i64 (y6.length : Int), .int .i64 a10, junk, junk, junk, junk, junk, junk, junk, junk, junk, junk, junk, junk, junk, junk], [], h12⟩
theorem F33_d1 : drawsOk F33_D (codeOf Try.prog 33 [1, 1, 1, 1, 0, 1, 0, 0]) = true := by kernel_rfl
def F33_x1_0 (h : AHeap) (hx : AHeap) (w0 : Hd) (r : (List (Int × Int × Int × Int))) : AS := ⟨[junk, junk, junk, junk, (sv w0), junk, junk, junk, junk, junk, junk, junk, junk, junk, junk, junk, junk, junk, junk, junk, junk, junk, junk, junk, junk, junk, junk, junk, junk], [], hx⟩
def F33_i1 (h : AHeap) (u3_0 : Hd) (y6 : List (Int × Int × Int × Int)) (s : Int × (List (Int × Int × Int × Int))) (S : AS) : Prop := ∃ (h12 : AHeap) (u11 : Hd), Heapy h h12 [⟨u11, 66, 4, List.flatMap enc66 s.2⟩, ⟨u3_0, 66, 4, List.flatMap enc66 y6⟩] ∧ Strict u11 ∧ S = (F33_h1 u3_0 y6 h12 u11 s.1 s.2)
def F33_x1 (h : AHeap) (r : (List (Int × Int × Int × Int))) (e : Exit) (S : AS) : Prop := e = (.exit 0) ∧ ∃ (hx : AHeap) (w0 : Hd), Heapy h hx [⟨w0, 66, 4, List.flatMap enc66 r⟩] ∧ Strict w0 ∧ S = (F33_x1_0 h hx w0 r)
set_option maxRecDepth 100000 in
theorem F33_r1 (h : AHeap) (u3_0 : Hd) (y6 : List (Int × Int × Int × Int)) (a10 : Int) (l11 : List (Int × Int × Int × Int)) (S : AS) (hI : (F33_i1 h u3_0 y6) (a10, l11) S) (o : (Int × (List (Int × Int × Int × Int))) ⊕ (List (Int × Int × Int × Int))) : F33_s1 y6 a10 l11 = some o → Rd Try.prog (codeOf Try.prog 33 [1, 1, 1, 1, 0, 1, 0, 0]) (F33_i1 h u3_0 y6) (F33_x1 h) S o := by
  obtain ⟨h12, u11, hp12, z11, rfl⟩ := hI
  unfold F33_s1
  refine dec_bif (fun c13 => ?_) (fun c13 => ?_)
  · refine bind_opt fun y14 e14 => ?_
    obtain ⟨id14, off14, g14, cs14, ix14, at14, rfl⟩ := SlE.at (Heapy.sle (v := u3_0) (xs := y6) (enc := enc66) hp12 1 rfl (fun _ => rfl) (by decide)) e14
    obtain ⟨id15, g15, h15, m15, hp15⟩ := Heapy.box (P := Try.prog) hp12 66 [.int .i64 0, .int .i64 0, .int .i64 0, .int .i64 0] (c := 4) rfl
    obtain ⟨h17, m17, hp17⟩ := Heapy.bstore (P := Try.prog) (id := id15) (g := g15) (n := 1) (c := 4) (el := 66) (cells := [.int .i64 0, .int .i64 0, .int .i64 0, .int .i64 0]) hp15 0 rfl (t := 66) (x := .agg #[.int .i64 y14.1, .int .i64 y14.2.1, .int .i64 y14.2.2.1, .int .i64 y14.2.2.2]) 0 (vs := [.int .i64 y14.1, .int .i64 y14.2.1, .int .i64 y14.2.2.1, .int .i64 y14.2.2.2]) rfl (by kernel_rfl) rfl rfl rfl (cells' := [.int .i64 y14.1, .int .i64 y14.2.1, .int .i64 y14.2.2.1, .int .i64 y14.2.2.2]) rfl
    refine bind_opt fun y18 e18 => ?_
    refine dec_bif (fun c20 => ?_) (fun c20 => ?_)
    · obtain ⟨v21, h21, m21, hp21, _⟩ := Heapy.build (P := Try.prog) hp17 (t := 61) (e := 66) (len := 1) (n := 4) (parts := [(0, .agg #[.int .i64 y14.1, .int .i64 y14.2.1, .int .i64 y14.2.2.1, .int .i64 y14.2.2.2])]) (cells := List.flatMap enc66 ([(y14.1, y14.2.1, y14.2.2.1, y14.2.2.2)] : List (Int × Int × Int × Int))) (by kernel_rfl) rfl
      refine guard_ok fun g23 => ?_
      obtain ⟨v24, h24, m24, q24, _, w24⟩ := Heapy.append hp21 (show mkInfo Try.prog 61 = some (66, 4, 32, [.int .i64 0, .int .i64 0, .int .i64 0, .int .i64 0]) by kernel_rfl) 2 (v := u11) (cells := List.flatMap enc66 l11) rfl (Y := (sv v21)) (SlE.src (enc := enc66) (c := 4) (Heapy.sle (v := v21) (xs := ([(y14.1, y14.2.1, y14.2.2.1, y14.2.2.2)] : List (Int × Int × Int × Int))) (enc := enc66) hp21 0 rfl (fun _ => rfl) (by decide)) (fun _ => rfl)) (flatMap_length (enc := enc66) (c := 4) (fun _ => rfl) _) (by rw [Heapy.vn (v := u11) (xs := l11) (enc := enc66) hp21 2 rfl (fun _ => rfl) (by decide)]; simpa using g23)
      have z24 : Strict v24 := w24 z11
      have hp24 : Heapy h h24 [⟨v21, 66, 4, List.flatMap enc66 ([(y14.1, y14.2.1, y14.2.2.1, y14.2.2.2)] : List (Int × Int × Int × Int))⟩, ⟨⟨some ⟨id15, 0, some g15⟩, 1, 4⟩, 66, 4, [.int .i64 y14.1, .int .i64 y14.2.1, .int .i64 y14.2.2.1, .int .i64 y14.2.2.2]⟩, ⟨v24, 66, 4, List.flatMap enc66 (l11 ++ ([(y14.1, y14.2.1, y14.2.2.1, y14.2.2.2)] : List (Int × Int × Int × Int)))⟩, ⟨u3_0, 66, 4, List.flatMap enc66 y6⟩] := by rw [← List.flatMap_append] at q24; exact q24
      intro hr
      obtain rfl := Option.some.inj hr
      exact ⟨(F33_h1 u3_0 y6 h24 v24 (IntKind.i64.wrap (a10 + 1)) (l11 ++ ([(y14.1, y14.2.1, y14.2.2.1, y14.2.2.2)] : List (Int × Int × Int × Int)))), ⟨h24, v24, (Heapy.pick hp24 [2, 3] (by decide)), z24, rfl⟩, pEnd_sound good (L := F33_L) (D := F33_D) (its := [.g, (.b true), (.ix id14 off14 g14), (.ld (.agg #[.int .i64 y14.1, .int .i64 y14.2.1, .int .i64 y14.2.2.1, .int .i64 y14.2.2.2])), (.mm (.pointer (some ⟨id15, 0, some g15⟩)) h15), (.mm undef h17), .g, .g, (.c (.bool y18) h17), .g, .g, .g, (.b true), .g, (.ld (.agg #[.int .i64 y14.1, .int .i64 y14.2.1, .int .i64 y14.2.2.1, .int .i64 y14.2.2.2])), (.mm (sv v21) h21), (.mm (sv v24) h24), .g, .g, .g]) (ds := F33_m1_0) (ks := []) (e := .normal) (s2 := (F33_h1 u3_0 y6 h24 v24 (IntKind.i64.wrap (a10 + 1)) (l11 ++ ([(y14.1, y14.2.1, y14.2.2.1, y14.2.2.2)] : List (Int × Int × Int × Int))))) (hC := (ai m24 (ai m21 (ai (At.agg (P := Try.prog) (t := 66) (v := .agg #[.int .i64 y14.1, .int .i64 y14.2.1, .int .i64 y14.2.2.1, .int .i64 y14.2.2.2]) (m := 4) (Heapy.boxat (id := id15) (g := g15) (n := 1) (c := 4) (el := 66) (cells := [.int .i64 y14.1, .int .i64 y14.2.1, .int .i64 y14.2.2.1, .int .i64 y14.2.2.2]) hp17 0 rfl) (by kernel_rfl) (by kernel_rfl) 0 (by kernel_rfl) rfl) (ai c20 (ai (F60w61_spec l11 y14.1 y14.2.1 y14.2.2.1 y14.2.2.2 u11 id15 0 g15 h17 (Heapy.sle (v := u11) (xs := l11) (enc := enc66) hp17 1 rfl (fun _ => rfl) (by decide)) (Heapy.boxat (id := id15) (g := g15) (n := 1) (c := 4) (el := 66) (cells := [.int .i64 y14.1, .int .i64 y14.2.1, .int .i64 y14.2.2.1, .int .i64 y14.2.2.2]) hp17 0 rfl) _ e18) (ai m17 (ai m15 (ai (At.agg (P := Try.prog) (t := 66) (v := .agg #[.int .i64 y14.1, .int .i64 y14.2.1, .int .i64 y14.2.2.1, .int .i64 y14.2.2.2]) (m := 4) at14 (by kernel_rfl) (by kernel_rfl) 0 (by kernel_rfl) rfl) (ai ix14 (ai c13 trivial))))))))))) (hd := F33_d1) (h := by kernel_rfl)⟩
    · intro hr
      obtain rfl := Option.some.inj hr
      exact ⟨(F33_h1 u3_0 y6 h17 u11 (IntKind.i64.wrap (a10 + 1)) l11), ⟨h17, u11, (Heapy.pick hp17 [1, 2] (by decide)), z11, rfl⟩, pEnd_sound good (L := F33_L) (D := F33_D) (its := [.g, (.b true), (.ix id14 off14 g14), (.ld (.agg #[.int .i64 y14.1, .int .i64 y14.2.1, .int .i64 y14.2.2.1, .int .i64 y14.2.2.2])), (.mm (.pointer (some ⟨id15, 0, some g15⟩)) h15), (.mm undef h17), .g, .g, (.c (.bool y18) h17), .g, .g, .g, (.b false), .g, .g]) (ds := F33_m1_0) (ks := []) (e := .normal) (s2 := (F33_h1 u3_0 y6 h17 u11 (IntKind.i64.wrap (a10 + 1)) l11)) (hC := (ai c20 (ai (F60w61_spec l11 y14.1 y14.2.1 y14.2.2.1 y14.2.2.2 u11 id15 0 g15 h17 (Heapy.sle (v := u11) (xs := l11) (enc := enc66) hp17 1 rfl (fun _ => rfl) (by decide)) (Heapy.boxat (id := id15) (g := g15) (n := 1) (c := 4) (el := 66) (cells := [.int .i64 y14.1, .int .i64 y14.2.1, .int .i64 y14.2.2.1, .int .i64 y14.2.2.2]) hp17 0 rfl) _ e18) (ai m17 (ai m15 (ai (At.agg (P := Try.prog) (t := 66) (v := .agg #[.int .i64 y14.1, .int .i64 y14.2.1, .int .i64 y14.2.2.1, .int .i64 y14.2.2.2]) (m := 4) at14 (by kernel_rfl) (by kernel_rfl) 0 (by kernel_rfl) rfl) (ai ix14 (ai c13 trivial)))))))) (hd := F33_d1) (h := by kernel_rfl)⟩
  · intro hr
    obtain rfl := Option.some.inj hr
    refine ⟨(.exit 0), (F33_x1_0 h h12 u11 (l11 : (List (Int × Int × Int × Int)))), (by intro hh; cases hh), ?_, pEnd_sound good (L := F33_L) (D := F33_D) (its := [.g, (.b false)]) (ds := F33_m1_1) (ks := []) (e := (.exit 0)) (s2 := (F33_x1_0 h h12 u11 (l11 : (List (Int × Int × Int × Int))))) (hC := (ai c13 trivial)) (hd := F33_d1) (h := by kernel_rfl)⟩
    exact ⟨rfl, h12, u11, (Heapy.pick hp12 [0] (by decide)), z11, rfl⟩
theorem F33_l1 (h : AHeap) (u3_0 : Hd) (y6 : List (Int × Int × Int × Int)) (x : Int × (List (Int × Int × Int × Int))) (r : (List (Int × Int × Int × Int))) (hl : loopO (fun (s : Int × (List (Int × Int × Int × Int))) => F33_s1 y6 s.1 s.2) x = some r) (S : AS) (hI : (F33_i1 h u3_0 y6) x S) : ∃ e S', (F33_x1 h) r e S' ∧ AWp Try.prog (.loop (codeOf Try.prog 33 [1, 1, 1, 1, 0, 1, 0, 0])) (Ends1 e S') S :=
  loop_rel (fun x S hI => F33_r1 h u3_0 y6 x.1 x.2 S hI) hl hI
def F33 (l1 : List (Int × Int × Int × Int)) : Option ((List (Int × Int × Int × Int))) :=
  (Option.bind (F57 l1) fun y2 =>
  (Option.bind (F58w59 y2) fun y6 =>
  (Option.bind (loopO (fun (s : Int × (List (Int × Int × Int × Int))) => F33_s1 y6 s.1 s.2) (0, ([] : List (Int × Int × Int × Int)))) fun y26 =>
  some (y26))))
set_option maxRecDepth 100000 in
theorem F33_spec (l1 : List (Int × Int × Int × Int)) (v1 : Hd) (h : AHeap) (hw : h.wf) (hv1 : SlE E66 4 h (sv v1) l1) (r : (List (Int × Int × Int × Int))) : F33 l1 = some r → ∃ (ur0 : Hd) (h' : AHeap), Heapy h h' [⟨ur0, 66, 4, List.flatMap enc66 r⟩] ∧ Strict ur0 ∧ ACalls Try.prog 33 [(sv v1)] h (fun v' h'' => v' = ((sv ur0) : Value) ∧ h'' = h') := by
  unfold F33
  refine bind_opt fun y2 e2 => ?_
  obtain ⟨u3_0, h3, q3, c3⟩ := F57_spec l1 v1 h hw hv1 _ e2
  have hp3 : Heapy h h3 [⟨u3_0, 66, 4, List.flatMap enc66 y2⟩] := Heapy.call (Heapy.refl hw) q3
  refine bind_opt fun y6 e6 => ?_
  obtain ⟨b5, pb5, ob5, jb5⟩ := Heapy.io hp3 0 (s := ⟨u3_0, 66, 4, List.flatMap enc66 y2⟩) rfl
  obtain ⟨h7, q7, c7⟩ := F58w59_spec y2 u3_0 h3 b5 (Heapy.wf ob5) pb5 _ e6
  have hp7 : Heapy h h7 [⟨u3_0, 66, 4, List.flatMap enc66 y6⟩] := jb5 (r := []) (s' := ⟨u3_0, 66, 4, List.flatMap enc66 y6⟩) q7
  refine bind_opt fun y26 e26 => ?_
  have hp8 : Heapy h h7 [⟨⟨none, 0, 0⟩, 66, 4, List.flatMap enc66 ([] : List (Int × Int × Int × Int))⟩, ⟨u3_0, 66, 4, List.flatMap enc66 y6⟩] := Heapy.nil hp7 66 4
  obtain ⟨ee26, SS26, hX26, hA26⟩ := F33_l1 h u3_0 y6 (0, ([] : List (Int × Int × Int × Int))) y26 e26 (F33_h1 u3_0 y6 h7 ⟨none, 0, 0⟩ 0 ([] : List (Int × Int × Int × Int))) ⟨h7, ⟨none, 0, 0⟩, (Heapy.pick hp8 [0, 1] (by decide)), Strict.nil, rfl⟩
  obtain ⟨rfl, h27, w0_27, hp27, zw0_27, rfl⟩ := hX26
  intro hr
  obtain rfl := Option.some.inj hr
  exact ⟨w0_27, h27, Heapy.pick hp27 [0] (by decide), zw0_27, pFun_sound good tab_ok (f := 33) (its := [.g, .g, (.c ((sv u3_0)) h3), .g, .g, (.c (.tuple #[]) h7), .g, .g, (.ln y6.length), .g, (.l F33_m1_0 [] (.exit 0) (F33_x1_0 h h27 w0_27 y26)), .g, .g]) (args := [(sv v1)]) (h := h) (h' := h27) (v := (sv w0_27)) (hC := (ai hA26 (ai (SlE.len (Heapy.sle (v := u3_0) (xs := y6) (enc := enc66) hp7 0 rfl (fun _ => rfl) (by decide))) (ai c7 (ai c3 trivial))))) (hr := by kernel_rfl)⟩
/-! 8 jacquard/jacquardlaw55.ExploreBest -/
def F8__1 (y7 : Int × Int × Int × Int × Bool) (y19 : Int × Int × Int × Int) : Bool := ((y7.1 == y19.1) && ((y7.2.1 == y19.2.1) && ((y7.2.2.1 == y19.2.2.1) && ((y7.2.2.2.1 == y19.2.2.2) && true))))
def F8 (l1 : List (Int × Int × Int × Int)) (x2 : Int) (x3 : Int) : Option (Bool) :=
  (bif decide ((l1.length : Int) > 60) then
   some (true)
  else
   (Option.bind (F35 l1 x2 x3) fun y7 =>
   (Option.bind (F36 l1 x2 x3) fun y9 =>
   (bif decide (y9 < 0) then
    (bif (!y7.2.2.2.2) then
     some ((y7.1 == 0) && ((y7.2.1 == 0) && ((y7.2.2.1 == 0) && ((y7.2.2.2.1 == 0) && true))))
    else
     some (false))
   else
    (Option.bind (F33 l1) fun y13 =>
    (Option.bind (F35 y13 x2 x3) fun y16 =>
    (bif y7.2.2.2.2 then
     (Option.bind (at? l1 y9) fun y19 =>
     (bif (F8__1 y7 y19) then
      (bif y16.2.2.2.2 then
       (bif (y16.2.1 == y7.2.1) then
        some (y16.2.2.2.1 == y7.2.2.2.1)
       else
        some (false))
      else
       some (false))
     else
      some (false)))
    else
     some (false))))))))
set_option maxRecDepth 100000 in
theorem F8_spec (l1 : List (Int × Int × Int × Int)) (x2 : Int) (x3 : Int) (v1 : Hd) (h : AHeap) (hw : h.wf) (hv1 : SlE E66 4 h (sv v1) l1) (r : Bool) : F8 l1 x2 x3 = some r → ∃ (h' : AHeap), Heapy h h' [] ∧ ACalls Try.prog 8 [(sv v1), .int .i64 x2, .int .i64 x3] h (fun v' h'' => v' = (.bool r : Value) ∧ h'' = h') := by
  unfold F8
  refine dec_bif (fun c5 => ?_) (fun c5 => ?_)
  · intro hr
    obtain rfl := Option.some.inj hr
    exact ⟨h, Heapy.pick (Heapy.refl hw) [] (by decide), pFun_sound good tab_ok (f := 8) (its := [.g, (.c (.bool true) h), .g, .g, (.w .g), (.w (.ln l1.length)), (.w .g), .g, (.b true), (.c (.bool true) h), .g]) (args := [(sv v1), .int .i64 x2, .int .i64 x3]) (h := h) (h' := h) (v := .bool true) (hC := (ai (F25_spec h _ rfl) (ai c5 (ai (g_ff l_f) (ai (SlE.len hv1) (ai (g_ff l_f) (ai (g_ff l_f) (ai (F25_spec h _ rfl) trivial)))))))) (hr := by kernel_rfl)⟩
  · refine bind_opt fun y7 e7 => ?_
    obtain ⟨h8, q8, c8⟩ := F35_spec l1 x2 x3 v1 h hw hv1 _ e7
    have hp8 : Heapy h h8 [] := Heapy.call (Heapy.refl hw) q8
    refine bind_opt fun y9 e9 => ?_
    refine dec_bif (fun c11 => ?_) (fun c11 => ?_)
    · refine dec_bif (fun c12 => ?_) (fun c12 => ?_)
      · intro hr
        obtain rfl := Option.some.inj hr
        exact ⟨h8, Heapy.pick hp8 [] (by decide), pFun_sound good tab_ok (f := 8) (its := [.g, (.c (.bool true) h), .g, .g, (.w .g), (.w (.ln l1.length)), (.w .g), .g, (.b false), .g, .g, .g, (.c (.tuple #[.agg #[.int .i64 y7.1, .int .i64 y7.2.1, .int .i64 y7.2.2.1, .int .i64 y7.2.2.2.1], .bool y7.2.2.2.2]) h8), .g, .g, .g, .g, .g, .g, .g, .g, .g, (.c (.int .i64 y9) h8), .g, .g, .g, (.b true), .g, .g, .g, (.w .g), (.w .g), (.w (.eq ((y7.1 == 0) && ((y7.2.1 == 0) && ((y7.2.2.1 == 0) && ((y7.2.2.2.1 == 0) && true)))))), (.p true), .g]) (args := [(sv v1), .int .i64 x2, .int .i64 x3]) (h := h) (h' := h8) (v := .bool ((y7.1 == 0) && ((y7.2.1 == 0) && ((y7.2.2.1 == 0) && ((y7.2.2.2.1 == 0) && true))))) (hC := (ai c12 (ai (show aggEq Try.prog 66 #[.int .i64 y7.1, .int .i64 y7.2.1, .int .i64 y7.2.2.1, .int .i64 y7.2.2.2.1] #[.int .i64 0, .int .i64 0, .int .i64 0, .int .i64 0] = some ((y7.1 == 0) && ((y7.2.1 == 0) && ((y7.2.2.1 == 0) && ((y7.2.2.2.1 == 0) && true)))) by kernel_rfl) (ai (g_tt c12) (ai (g_tt c12) (ai (g_tt c12) (ai c11 (ai (F36_spec l1 x2 x3 v1 h8 (SlE.mono hv1 (Heapy.sub hp8) (E66_mono (Heapy.sub hp8))) _ e9) (ai c8 (ai c5 (ai (g_ff l_f) (ai (SlE.len hv1) (ai (g_ff l_f) (ai (g_ff l_f) (ai (F25_spec h _ rfl) trivial))))))))))))))) (hr := by kernel_rfl)⟩
      · intro hr
        obtain rfl := Option.some.inj hr
        exact ⟨h8, Heapy.pick hp8 [] (by decide), pFun_sound good tab_ok (f := 8) (its := [.g, (.c (.bool true) h), .g, .g, (.w .g), (.w (.ln l1.length)), (.w .g), .g, (.b false), .g, .g, .g, (.c (.tuple #[.agg #[.int .i64 y7.1, .int .i64 y7.2.1, .int .i64 y7.2.2.1, .int .i64 y7.2.2.2.1], .bool y7.2.2.2.2]) h8), .g, .g, .g, .g, .g, .g, .g, .g, .g, (.c (.int .i64 y9) h8), .g, .g, .g, (.b true), .g, .g, .g, .n, .n, .n, (.p false), .g]) (args := [(sv v1), .int .i64 x2, .int .i64 x3]) (h := h) (h' := h8) (v := .bool false) (hC := (ai c12 (ai (g_ft c12) (ai (g_ft c12) (ai (g_ft c12) (ai c11 (ai (F36_spec l1 x2 x3 v1 h8 (SlE.mono hv1 (Heapy.sub hp8) (E66_mono (Heapy.sub hp8))) _ e9) (ai c8 (ai c5 (ai (g_ff l_f) (ai (SlE.len hv1) (ai (g_ff l_f) (ai (g_ff l_f) (ai (F25_spec h _ rfl) trivial)))))))))))))) (hr := by kernel_rfl)⟩
    · refine bind_opt fun y13 e13 => ?_
      obtain ⟨u14_0, h14, q14, zu14_0, c14⟩ := F33_spec l1 v1 h8 (Heapy.wf hp8) (SlE.mono hv1 (Heapy.sub hp8) (E66_mono (Heapy.sub hp8))) _ e13
      have hp14 : Heapy h h14 [⟨u14_0, 66, 4, List.flatMap enc66 y13⟩] := Heapy.call hp8 q14
      refine bind_opt fun y16 e16 => ?_
      obtain ⟨h17, q17, c17⟩ := F35_spec y13 x2 x3 u14_0 h14 (Heapy.wf hp14) (Heapy.sle (v := u14_0) (xs := y13) (enc := enc66) hp14 0 rfl (fun _ => rfl) (by decide)) _ e16
      have hp17 : Heapy h h17 [⟨u14_0, 66, 4, List.flatMap enc66 y13⟩] := Heapy.call hp14 q17
      refine dec_bif (fun c18 => ?_) (fun c18 => ?_)
      · refine bind_opt fun y19 e19 => ?_
        obtain ⟨id19, off19, g19, cs19, ix19, at19, rfl⟩ := SlE.at hv1 e19
        refine dec_bif (fun c20 => ?_) (fun c20 => ?_)
        · refine dec_bif (fun c21 => ?_) (fun c21 => ?_)
          · refine dec_bif (fun c22 => ?_) (fun c22 => ?_)
            · intro hr
              obtain rfl := Option.some.inj hr
              exact ⟨h17, Heapy.pick hp17 [] (by decide), pFun_sound good tab_ok (f := 8) (its := [.g, (.c (.bool true) h), .g, .g, (.w .g), (.w (.ln l1.length)), (.w .g), .g, (.b false), .g, .g, .g, (.c (.tuple #[.agg #[.int .i64 y7.1, .int .i64 y7.2.1, .int .i64 y7.2.2.1, .int .i64 y7.2.2.2.1], .bool y7.2.2.2.2]) h8), .g, .g, .g, .g, .g, .g, .g, .g, .g, (.c (.int .i64 y9) h8), .g, .g, .g, (.b false), .g, (.c ((sv u14_0)) h14), .g, .g, (.c (.tuple #[.agg #[.int .i64 y16.1, .int .i64 y16.2.1, .int .i64 y16.2.2.1, .int .i64 y16.2.2.2.1], .bool y16.2.2.2.2]) h17), .g, .g, .g, .g, .g, .g, .g, .g, (.w .g), (.w .g), (.w .g), (.w (.ix id19 off19 g19)), (.w (.ld (.agg #[.int .i64 y19.1, .int .i64 y19.2.1, .int .i64 y19.2.2.1, .int .i64 y19.2.2.2]))), (.w (.eq ((y7.1 == y19.1) && ((y7.2.1 == y19.2.1) && ((y7.2.2.1 == y19.2.2.1) && ((y7.2.2.2.1 == y19.2.2.2) && true)))))), (.p true), .g, (.w .g), (.p true), .g, (.w .g), (.w .g), (.w .g), (.w .g), (.w .g), (.p true), .g, (.w .g), (.w .g), (.w .g), (.w .g), (.w .g), (.p true), .g]) (args := [(sv v1), .int .i64 x2, .int .i64 x3]) (h := h) (h' := h17) (v := .bool (y16.2.2.2.1 == y7.2.2.2.1)) (hC := (ai c22 (ai (g_tt c22) (ai (g_tt c22) (ai (g_tt c22) (ai (g_tt c22) (ai (g_tt c22) (ai c21 (ai (g_tt c21) (ai (g_tt c21) (ai (g_tt c21) (ai (g_tt c21) (ai (g_tt c21) (ai c20 (ai (g_tt c20) (ai c18 (ai (show aggEq Try.prog 66 #[.int .i64 y7.1, .int .i64 y7.2.1, .int .i64 y7.2.2.1, .int .i64 y7.2.2.2.1] #[.int .i64 y19.1, .int .i64 y19.2.1, .int .i64 y19.2.2.1, .int .i64 y19.2.2.2] = some ((y7.1 == y19.1) && ((y7.2.1 == y19.2.1) && ((y7.2.2.1 == y19.2.2.1) && ((y7.2.2.2.1 == y19.2.2.2) && true)))) by kernel_rfl) (ai (g_tt c18) (ai (At.agg (P := Try.prog) (t := 66) (v := .agg #[.int .i64 y19.1, .int .i64 y19.2.1, .int .i64 y19.2.2.1, .int .i64 y19.2.2.2]) (m := 4) (At.mono (Heapy.sub hp17) at19) (by kernel_rfl) (by kernel_rfl) 0 (by kernel_rfl) rfl) (ai (g_tt c18) (ai ix19 (ai (g_tt c18) (ai (g_tt c18) (ai (g_tt c18) (ai (g_tt c18) (ai c17 (ai c14 (ai c11 (ai (F36_spec l1 x2 x3 v1 h8 (SlE.mono hv1 (Heapy.sub hp8) (E66_mono (Heapy.sub hp8))) _ e9) (ai c8 (ai c5 (ai (g_ff l_f) (ai (SlE.len hv1) (ai (g_ff l_f) (ai (g_ff l_f) (ai (F25_spec h _ rfl) trivial)))))))))))))))))))))))))))))))))))) (hr := by kernel_rfl)⟩
            · intro hr
              obtain rfl := Option.some.inj hr
              exact ⟨h17, Heapy.pick hp17 [] (by decide), pFun_sound good tab_ok (f := 8) (its := [.g, (.c (.bool true) h), .g, .g, (.w .g), (.w (.ln l1.length)), (.w .g), .g, (.b false), .g, .g, .g, (.c (.tuple #[.agg #[.int .i64 y7.1, .int .i64 y7.2.1, .int .i64 y7.2.2.1, .int .i64 y7.2.2.2.1], .bool y7.2.2.2.2]) h8), .g, .g, .g, .g, .g, .g, .g, .g, .g, (.c (.int .i64 y9) h8), .g, .g, .g, (.b false), .g, (.c ((sv u14_0)) h14), .g, .g, (.c (.tuple #[.agg #[.int .i64 y16.1, .int .i64 y16.2.1, .int .i64 y16.2.2.1, .int .i64 y16.2.2.2.1], .bool y16.2.2.2.2]) h17), .g, .g, .g, .g, .g, .g, .g, .g, (.w .g), (.w .g), (.w .g), (.w (.ix id19 off19 g19)), (.w (.ld (.agg #[.int .i64 y19.1, .int .i64 y19.2.1, .int .i64 y19.2.2.1, .int .i64 y19.2.2.2]))), (.w (.eq ((y7.1 == y19.1) && ((y7.2.1 == y19.2.1) && ((y7.2.2.1 == y19.2.2.1) && ((y7.2.2.2.1 == y19.2.2.2) && true)))))), (.p true), .g, (.w .g), (.p true), .g, (.w .g), (.w .g), (.w .g), (.w .g), (.w .g), (.p true), .g, .n, .n, .n, .n, .n, (.p false), .g]) (args := [(sv v1), .int .i64 x2, .int .i64 x3]) (h := h) (h' := h17) (v := .bool false) (hC := (ai c22 (ai (g_ft c22) (ai (g_ft c22) (ai (g_ft c22) (ai (g_ft c22) (ai (g_ft c22) (ai c21 (ai (g_tt c21) (ai (g_tt c21) (ai (g_tt c21) (ai (g_tt c21) (ai (g_tt c21) (ai c20 (ai (g_tt c20) (ai c18 (ai (show aggEq Try.prog 66 #[.int .i64 y7.1, .int .i64 y7.2.1, .int .i64 y7.2.2.1, .int .i64 y7.2.2.2.1] #[.int .i64 y19.1, .int .i64 y19.2.1, .int .i64 y19.2.2.1, .int .i64 y19.2.2.2] = some ((y7.1 == y19.1) && ((y7.2.1 == y19.2.1) && ((y7.2.2.1 == y19.2.2.1) && ((y7.2.2.2.1 == y19.2.2.2) && true)))) by kernel_rfl) (ai (g_tt c18) (ai (At.agg (P := Try.prog) (t := 66) (v := .agg #[.int .i64 y19.1, .int .i64 y19.2.1, .int .i64 y19.2.2.1, .int .i64 y19.2.2.2]) (m := 4) (At.mono (Heapy.sub hp17) at19) (by kernel_rfl) (by kernel_rfl) 0 (by kernel_rfl) rfl) (ai (g_tt c18) (ai ix19 (ai (g_tt c18) (ai (g_tt c18) (ai (g_tt c18) (ai (g_tt c18) (ai c17 (ai c14 (ai c11 (ai (F36_spec l1 x2 x3 v1 h8 (SlE.mono hv1 (Heapy.sub hp8) (E66_mono (Heapy.sub hp8))) _ e9) (ai c8 (ai c5 (ai (g_ff l_f) (ai (SlE.len hv1) (ai (g_ff l_f) (ai (g_ff l_f) (ai (F25_spec h _ rfl) trivial)))))))))))))))))))))))))))))))))))) (hr := by kernel_rfl)⟩
          · intro hr
            obtain rfl := Option.some.inj hr
            exact ⟨h17, Heapy.pick hp17 [] (by decide), pFun_sound good tab_ok (f := 8) (its := [.g, (.c (.bool true) h), .g, .g, (.w .g), (.w (.ln l1.length)), (.w .g), .g, (.b false), .g, .g, .g, (.c (.tuple #[.agg #[.int .i64 y7.1, .int .i64 y7.2.1, .int .i64 y7.2.2.1, .int .i64 y7.2.2.2.1], .bool y7.2.2.2.2]) h8), .g, .g, .g, .g, .g, .g, .g, .g, .g, (.c (.int .i64 y9) h8), .g, .g, .g, (.b false), .g, (.c ((sv u14_0)) h14), .g, .g, (.c (.tuple #[.agg #[.int .i64 y16.1, .int .i64 y16.2.1, .int .i64 y16.2.2.1, .int .i64 y16.2.2.2.1], .bool y16.2.2.2.2]) h17), .g, .g, .g, .g, .g, .g, .g, .g, (.w .g), (.w .g), (.w .g), (.w (.ix id19 off19 g19)), (.w (.ld (.agg #[.int .i64 y19.1, .int .i64 y19.2.1, .int .i64 y19.2.2.1, .int .i64 y19.2.2.2]))), (.w (.eq ((y7.1 == y19.1) && ((y7.2.1 == y19.2.1) && ((y7.2.2.1 == y19.2.2.1) && ((y7.2.2.2.1 == y19.2.2.2) && true)))))), (.p true), .g, (.w .g), (.p true), .g, .n, .n, .n, .n, .n, (.p false), .g, .n, .n, .n, .n, .n, .g, .g]) (args := [(sv v1), .int .i64 x2, .int .i64 x3]) (h := h) (h' := h17) (v := .bool false) (hC := (ai (g_ft l_f) (ai (g_ft l_f) (ai (g_ft l_f) (ai (g_ft l_f) (ai (g_ft l_f) (ai c21 (ai (g_ft c21) (ai (g_ft c21) (ai (g_ft c21) (ai (g_ft c21) (ai (g_ft c21) (ai c20 (ai (g_tt c20) (ai c18 (ai (show aggEq Try.prog 66 #[.int .i64 y7.1, .int .i64 y7.2.1, .int .i64 y7.2.2.1, .int .i64 y7.2.2.2.1] #[.int .i64 y19.1, .int .i64 y19.2.1, .int .i64 y19.2.2.1, .int .i64 y19.2.2.2] = some ((y7.1 == y19.1) && ((y7.2.1 == y19.2.1) && ((y7.2.2.1 == y19.2.2.1) && ((y7.2.2.2.1 == y19.2.2.2) && true)))) by kernel_rfl) (ai (g_tt c18) (ai (At.agg (P := Try.prog) (t := 66) (v := .agg #[.int .i64 y19.1, .int .i64 y19.2.1, .int .i64 y19.2.2.1, .int .i64 y19.2.2.2]) (m := 4) (At.mono (Heapy.sub hp17) at19) (by kernel_rfl) (by kernel_rfl) 0 (by kernel_rfl) rfl) (ai (g_tt c18) (ai ix19 (ai (g_tt c18) (ai (g_tt c18) (ai (g_tt c18) (ai (g_tt c18) (ai c17 (ai c14 (ai c11 (ai (F36_spec l1 x2 x3 v1 h8 (SlE.mono hv1 (Heapy.sub hp8) (E66_mono (Heapy.sub hp8))) _ e9) (ai c8 (ai c5 (ai (g_ff l_f) (ai (SlE.len hv1) (ai (g_ff l_f) (ai (g_ff l_f) (ai (F25_spec h _ rfl) trivial))))))))))))))))))))))))))))))))))) (hr := by kernel_rfl)⟩
        · intro hr
          obtain rfl := Option.some.inj hr
          exact ⟨h17, Heapy.pick hp17 [] (by decide), pFun_sound good tab_ok (f := 8) (its := [.g, (.c (.bool true) h), .g, .g, (.w .g), (.w (.ln l1.length)), (.w .g), .g, (.b false), .g, .g, .g, (.c (.tuple #[.agg #[.int .i64 y7.1, .int .i64 y7.2.1, .int .i64 y7.2.2.1, .int .i64 y7.2.2.2.1], .bool y7.2.2.2.2]) h8), .g, .g, .g, .g, .g, .g, .g, .g, .g, (.c (.int .i64 y9) h8), .g, .g, .g, (.b false), .g, (.c ((sv u14_0)) h14), .g, .g, (.c (.tuple #[.agg #[.int .i64 y16.1, .int .i64 y16.2.1, .int .i64 y16.2.2.1, .int .i64 y16.2.2.2.1], .bool y16.2.2.2.2]) h17), .g, .g, .g, .g, .g, .g, .g, .g, (.w .g), (.w .g), (.w .g), (.w (.ix id19 off19 g19)), (.w (.ld (.agg #[.int .i64 y19.1, .int .i64 y19.2.1, .int .i64 y19.2.2.1, .int .i64 y19.2.2.2]))), (.w (.eq ((y7.1 == y19.1) && ((y7.2.1 == y19.2.1) && ((y7.2.2.1 == y19.2.2.1) && ((y7.2.2.2.1 == y19.2.2.2) && true)))))), (.p true), .g, .n, (.p false), .g, .n, .n, .n, .n, .n, .g, .g, .n, .n, .n, .n, .n, .g, .g]) (args := [(sv v1), .int .i64 x2, .int .i64 x3]) (h := h) (h' := h17) (v := .bool false) (hC := (ai (g_ft l_f) (ai (g_ft l_f) (ai (g_ft l_f) (ai (g_ft l_f) (ai (g_ft l_f) (ai (g_ft l_f) (ai (g_ft l_f) (ai (g_ft l_f) (ai (g_ft l_f) (ai (g_ft l_f) (ai c20 (ai (g_ft c20) (ai c18 (ai (show aggEq Try.prog 66 #[.int .i64 y7.1, .int .i64 y7.2.1, .int .i64 y7.2.2.1, .int .i64 y7.2.2.2.1] #[.int .i64 y19.1, .int .i64 y19.2.1, .int .i64 y19.2.2.1, .int .i64 y19.2.2.2] = some ((y7.1 == y19.1) && ((y7.2.1 == y19.2.1) && ((y7.2.2.1 == y19.2.2.1) && ((y7.2.2.2.1 == y19.2.2.2) && true)))) by kernel_rfl) (ai (g_tt c18) (ai (At.agg (P := Try.prog) (t := 66) (v := .agg #[.int .i64 y19.1, .int .i64 y19.2.1, .int .i64 y19.2.2.1, .int .i64 y19.2.2.2]) (m := 4) (At.mono (Heapy.sub hp17) at19) (by kernel_rfl) (by kernel_rfl) 0 (by kernel_rfl) rfl) (ai (g_tt c18) (ai ix19 (ai (g_tt c18) (ai (g_tt c18) (ai (g_tt c18) (ai (g_tt c18) (ai c17 (ai c14 (ai c11 (ai (F36_spec l1 x2 x3 v1 h8 (SlE.mono hv1 (Heapy.sub hp8) (E66_mono (Heapy.sub hp8))) _ e9) (ai c8 (ai c5 (ai (g_ff l_f) (ai (SlE.len hv1) (ai (g_ff l_f) (ai (g_ff l_f) (ai (F25_spec h _ rfl) trivial)))))))))))))))))))))))))))))))))) (hr := by kernel_rfl)⟩
      · intro hr
        obtain rfl := Option.some.inj hr
        exact ⟨h17, Heapy.pick hp17 [] (by decide), pFun_sound good tab_ok (f := 8) (its := [.g, (.c (.bool true) h), .g, .g, (.w .g), (.w (.ln l1.length)), (.w .g), .g, (.b false), .g, .g, .g, (.c (.tuple #[.agg #[.int .i64 y7.1, .int .i64 y7.2.1, .int .i64 y7.2.2.1, .int .i64 y7.2.2.2.1], .bool y7.2.2.2.2]) h8), .g, .g, .g, .g, .g, .g, .g, .g, .g, (.c (.int .i64 y9) h8), .g, .g, .g, (.b false), .g, (.c ((sv u14_0)) h14), .g, .g, (.c (.tuple #[.agg #[.int .i64 y16.1, .int .i64 y16.2.1, .int .i64 y16.2.2.1, .int .i64 y16.2.2.2.1], .bool y16.2.2.2.2]) h17), .g, .g, .g, .g, .g, .g, .g, .g, .n, .n, .n, .n, .n, .n, (.p false), .g, .n, .g, .g, .n, .n, .n, .n, .n, .g, .g, .n, .n, .n, .n, .n, .g, .g]) (args := [(sv v1), .int .i64 x2, .int .i64 x3]) (h := h) (h' := h17) (v := .bool false) (hC := (ai (g_ft l_f) (ai (g_ft l_f) (ai (g_ft l_f) (ai (g_ft l_f) (ai (g_ft l_f) (ai (g_ft l_f) (ai (g_ft l_f) (ai (g_ft l_f) (ai (g_ft l_f) (ai (g_ft l_f) (ai (g_ft l_f) (ai c18 (ai (g_ft c18) (ai (g_ft c18) (ai (g_ft c18) (ai (g_ft c18) (ai (g_ft c18) (ai (g_ft c18) (ai c17 (ai c14 (ai c11 (ai (F36_spec l1 x2 x3 v1 h8 (SlE.mono hv1 (Heapy.sub hp8) (E66_mono (Heapy.sub hp8))) _ e9) (ai c8 (ai c5 (ai (g_ff l_f) (ai (SlE.len hv1) (ai (g_ff l_f) (ai (g_ff l_f) (ai (F25_spec h _ rfl) trivial)))))))))))))))))))))))))))))) (hr := by kernel_rfl)⟩
set_option maxRecDepth 100000 in
theorem F8_law (H : ∀ (l1 : List (Int × Int × Int × Int)) (x2 : Int) (x3 : Int), (l1.length ≤ maxLen ∧ l1.length * 32 ≤ reachBytes) → (∀ y ∈ l1, W66 y) → (Lit.int .i64 x2).wf = true → (Lit.int .i64 x3).wf = true → F8 l1 x2 x3 = some true) : Law Try.prog 8 10 [61, 3, 3] := by
  intro s us hwf hro hT0
  obtain ⟨u0, vs0, rfl, t0, hT1⟩ := wts_cons hT0
  have k0 := wtv_oneS 3 (ks := [.slice 66]) (by kernel_rfl) (by kernel_rfl) t0
  obtain ⟨v1, r_l1, e_l1, q_l1, k0_0⟩ := sq_slice k0
  obtain ⟨l1, a_l1, m_l1, w_l1⟩ := q_l1 E66 W66 4 (by kernel_rfl) fun n cs H => E66_wt H
  obtain ⟨rfl, rfl⟩ := List.cons.inj e_l1
  have k0_0' := sq_nil k0_0
  obtain ⟨u1, vs1, rfl, t1, hT2⟩ := wts_cons hT1
  have k1 := wtv_oneS 1 (ks := [.int .i64]) (by kernel_rfl) (by kernel_rfl) t1
  obtain ⟨x2, r_x2, e_x2, w_x2, k1_0⟩ := sq_int k1
  obtain ⟨rfl, rfl⟩ := List.cons.inj e_x2
  have k1_0' := sq_nil k1_0
  obtain ⟨u2, vs2, rfl, t2, hT3⟩ := wts_cons hT2
  have k2 := wtv_oneS 1 (ks := [.int .i64]) (by kernel_rfl) (by kernel_rfl) t2
  obtain ⟨x3, r_x3, e_x3, w_x3, k2_0⟩ := sq_int k2
  obtain ⟨rfl, rfl⟩ := List.cons.inj e_x3
  have k2_0' := sq_nil k2_0
  obtain rfl := wts_nil hT3
  obtain ⟨h2, _, hc⟩ := F8_spec l1 x2 x3 v1 s hwf a_l1 _ (H l1 x2 x3 m_l1 w_l1 w_x2 w_x3)
  refine (hc).mono ?_
  rintro v h' ⟨rfl, rfl⟩
  rfl
end
end Go.Proofs.Ytofnegejldgdbaa.Abs
