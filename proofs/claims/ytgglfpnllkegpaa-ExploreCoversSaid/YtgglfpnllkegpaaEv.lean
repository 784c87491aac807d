/-
  Contracts, written by program: for each function what its call yields, and that it yields it.
-/
import Derived.Test.YtgglfpnllkegpaaEvt
namespace Go.Proofs.Ytgglfpnllkegpaa.Abs
open Go
set_option linter.unusedVariables false
set_option linter.unusedSimpArgs false

noncomputable section
def enc49 (x : Int × Int × Int × Int) : List Value := [.int .i64 x.1, .int .i64 x.2.1, .int .i64 x.2.2.1, .int .i64 x.2.2.2]
def E49 (h : AHeap) (cs : List Value) (x : Int × Int × Int × Int) : Prop := cs = enc49 x
theorem E49_mono {h h' : AHeap} (le : h.sub h') (cs : List Value) (x : Int × Int × Int × Int) (H : E49 h cs x) : E49 h' cs x := H
def W49 (x : Int × Int × Int × Int) : Prop := (Lit.int .i64 x.1).wf = true ∧ (Lit.int .i64 x.2.1).wf = true ∧ (Lit.int .i64 x.2.2.1).wf = true ∧ (Lit.int .i64 x.2.2.2).wf = true ∧ True
set_option maxRecDepth 100000 in
theorem E49_wt {h : AHeap} {n : Nat} {cs : List Value} (H : WT Try.prog h n 49 cs) : ∃ x, E49 h cs x ∧ W49 x := by
  have k : SQ Try.prog h [.int .i64, .int .i64, .int .i64, .int .i64] cs := wt_flatS 2 n (by kernel_rfl) H
  obtain ⟨x0, r0, rfl, w0, k0⟩ := sq_int k
  obtain ⟨x1, r1, rfl, w1, k1⟩ := sq_int k0
  obtain ⟨x2, r2, rfl, w2, k2⟩ := sq_int k1
  obtain ⟨x3, r3, rfl, w3, k3⟩ := sq_int k2
  obtain rfl := sq_nil k3
  exact ⟨(x0, x1, x2, x3), rfl, ⟨w0, w1, w2, w3, trivial⟩⟩
/-! 35 slices.Clone[[]jacquard/api.Point,jacquard/api.Point] -/
def F35s (l1 : List (Int × Int × Int × Int)) : Option ((List (Int × Int × Int × Int))) :=
  (bif (!(okApp (([] : List (Int × Int × Int × Int)).length + l1.length) 32)) then none else
  some (([] : List (Int × Int × Int × Int)) ++ l1))
set_option maxRecDepth 100000 in
theorem F35s_spec (l1 : List (Int × Int × Int × Int)) (a1 : Addr) (n1 : Nat) (z1 : Nat) (h : AHeap) (hw : h.wf) (hv1 : SlE E49 4 h (sv ⟨some a1, n1, z1⟩) l1) (r : (List (Int × Int × Int × Int))) : F35s l1 = some r → ∃ (ur0 : Hd) (h' : AHeap), Heapy h h' [⟨ur0, 49, 4, List.flatMap enc49 r⟩] ∧ ACalls Try.prog 35 [(sv ⟨some a1, n1, z1⟩)] h (fun v' h'' => v' = ((sv ur0) : Value) ∧ h'' = h') := by
  unfold F35s
  obtain ⟨v2, h2, m2, hp2, _⟩ := Heapy.build (P := Try.prog) (Heapy.refl hw) (t := 45) (e := 49) (len := 0) (n := 4) (parts := []) (cells := List.flatMap enc49 ([] : List (Int × Int × Int × Int))) (by kernel_rfl) rfl
  refine guard_ok fun g4 => ?_
  obtain ⟨v5, h5, m5, q5, _, w5⟩ := Heapy.append hp2 (show mkInfo Try.prog 45 = some (49, 4, 32, [.int .i64 0, .int .i64 0, .int .i64 0, .int .i64 0]) by kernel_rfl) 0 (v := v2) (cells := List.flatMap enc49 ([] : List (Int × Int × Int × Int))) rfl (Y := (sv ⟨some a1, n1, z1⟩)) (SlE.src (enc := enc49) (c := 4) (SlE.mono hv1 (Heapy.sub hp2) (E49_mono (Heapy.sub hp2))) (fun _ => rfl)) (flatMap_length (enc := enc49) (c := 4) (fun _ => rfl) _) (by rw [Heapy.vn (v := v2) (xs := ([] : List (Int × Int × Int × Int))) (enc := enc49) hp2 0 rfl (fun _ => rfl) (by decide)]; simpa using g4)
  have hp5 : Heapy h h5 [⟨v5, 49, 4, List.flatMap enc49 (([] : List (Int × Int × Int × Int)) ++ l1)⟩] := by rw [← List.flatMap_append] at q5; exact q5
  intro hr
  obtain rfl := Option.some.inj hr
  exact ⟨v5, h5, Heapy.pick hp5 [0] (by decide), pFun_sound good tab_ok (f := 35) (its := [.g, .g, .g, (.b false), (.mm (sv v2) h2), .g, (.mm (sv v5) h5), .g]) (args := [(sv ⟨some a1, n1, z1⟩)]) (h := h) (h' := h5) (v := (sv v5)) (hC := (ai m5 (ai m2 (ai l_f trivial)))) (hr := by kernel_rfl)⟩
def F35n  : Unit :=
  ()
set_option maxRecDepth 100000 in
theorem F35n_spec  (h : AHeap)  (r : Unit) : F35n = r → ACalls Try.prog 35 [.slice none 0 0] h (fun v' h'' => v' = (.slice none 0 0 : Value) ∧ h'' = h) := by
  unfold F35n
  intro hr
  subst hr
  exact pFun_sound good tab_ok (f := 35) (its := [.g, .g, .g, (.b true), .g]) (args := [.slice none 0 0]) (h := h) (h' := h) (v := .slice none 0 0) (hC := (ai l_t trivial)) (hr := by kernel_rfl)
def F35 (l1 : List (Int × Int × Int × Int)) : Option (List (Int × Int × Int × Int)) := F35s l1
theorem F35_spec (l1 : List (Int × Int × Int × Int)) (v1 : Hd) (h : AHeap) (hw : h.wf) (hv1 : SlE E49 4 h (sv v1) l1) (r : (List (Int × Int × Int × Int))) : F35 l1 = some r → ∃ (ur0 : Hd) (h' : AHeap), Heapy h h' [⟨ur0, 49, 4, List.flatMap enc49 r⟩] ∧ ACalls Try.prog 35 [(sv v1)] h (fun v' h'' => v' = ((sv ur0) : Value) ∧ h'' = h') := by
  intro hr
  obtain ⟨a, n, z⟩ := v1
  cases a with
  | some a => exact F35s_spec l1 a n z h hw hv1 r hr
  | none =>
    obtain ⟨rfl, rfl, rfl⟩ := nil_form hv1.len
    have e : F35s ([] : List (Int × Int × Int × Int)) = some [] := by kernel_rfl
    obtain rfl := Option.some.inj (e.symm.trans hr)
    exact ⟨⟨none, 0, 0⟩, h, Heapy.nil (Heapy.refl hw) 49 4, F35n_spec h _ rfl⟩

/-! 48 cmp.isNaN[int] -/
def F48 (x1 : Int) : Bool :=
  (x1 != x1)
set_option maxRecDepth 100000 in
theorem F48_spec (x1 : Int) (h : AHeap)  (r : Bool) : F48 x1 = r → ACalls Try.prog 48 [.int .i64 x1] h (fun v' h'' => v' = (.bool r : Value) ∧ h'' = h) := by
  unfold F48
  intro hr
  subst hr
  exact pFun_sound good tab_ok (f := 48) (its := [.g, .g, .g, .g, .g]) (args := [.int .i64 x1]) (h := h) (h' := h) (v := .bool (x1 != x1)) (hC := trivial) (hr := by kernel_rfl)
/-! 32 cmp.Compare[int] -/
def F32 (x1 : Int) (x2 : Int) : Int :=
  (bif (F48 x1) then
   (bif (F48 x2) then
    0
   else
    (-1))
  else
   (bif (F48 x2) then
    1
   else
    (bif decide (x1 < x2) then
     (-1)
    else
     (bif decide (x1 > x2) then
      1
     else
      0))))
set_option maxRecDepth 100000 in
theorem F32_spec (x1 : Int) (x2 : Int) (h : AHeap)  (r : Int) : F32 x1 x2 = r → ACalls Try.prog 32 [.int .i64 x1, .int .i64 x2] h (fun v' h'' => v' = (.int .i64 r : Value) ∧ h'' = h) := by
  unfold F32
  refine dec_bif (fun c5 => ?_) (fun c5 => ?_)
  · refine dec_bif (fun c6 => ?_) (fun c6 => ?_)
    · intro hr
      subst hr
      exact pFun_sound good tab_ok (f := 32) (its := [.g, .g, (.c (.bool (F48 x1)) h), .g, .g, (.c (.bool (F48 x2)) h), .g, .g, (.b true), .g, (.b true), .g]) (args := [.int .i64 x1, .int .i64 x2]) (h := h) (h' := h) (v := .int .i64 0) (hC := (ai c6 (ai c5 (ai (F48_spec x2 h _ rfl) (ai (F48_spec x1 h _ rfl) trivial))))) (hr := by kernel_rfl)
    · intro hr
      subst hr
      exact pFun_sound good tab_ok (f := 32) (its := [.g, .g, (.c (.bool (F48 x1)) h), .g, .g, (.c (.bool (F48 x2)) h), .g, .g, (.b true), .g, (.b false), .g]) (args := [.int .i64 x1, .int .i64 x2]) (h := h) (h' := h) (v := .int .i64 (-1)) (hC := (ai c6 (ai c5 (ai (F48_spec x2 h _ rfl) (ai (F48_spec x1 h _ rfl) trivial))))) (hr := by kernel_rfl)
  · refine dec_bif (fun c7 => ?_) (fun c7 => ?_)
    · intro hr
      subst hr
      exact pFun_sound good tab_ok (f := 32) (its := [.g, .g, (.c (.bool (F48 x1)) h), .g, .g, (.c (.bool (F48 x2)) h), .g, .g, (.b false), .g, (.b true), .g]) (args := [.int .i64 x1, .int .i64 x2]) (h := h) (h' := h) (v := .int .i64 1) (hC := (ai c7 (ai c5 (ai (F48_spec x2 h _ rfl) (ai (F48_spec x1 h _ rfl) trivial))))) (hr := by kernel_rfl)
    · refine dec_bif (fun c8 => ?_) (fun c8 => ?_)
      · intro hr
        subst hr
        exact pFun_sound good tab_ok (f := 32) (its := [.g, .g, (.c (.bool (F48 x1)) h), .g, .g, (.c (.bool (F48 x2)) h), .g, .g, (.b false), .g, (.b false), .g, .g, .g, (.b true), .g]) (args := [.int .i64 x1, .int .i64 x2]) (h := h) (h' := h) (v := .int .i64 (-1)) (hC := (ai c8 (ai c7 (ai c5 (ai (F48_spec x2 h _ rfl) (ai (F48_spec x1 h _ rfl) trivial)))))) (hr := by kernel_rfl)
      · refine dec_bif (fun c9 => ?_) (fun c9 => ?_)
        · intro hr
          subst hr
          exact pFun_sound good tab_ok (f := 32) (its := [.g, .g, (.c (.bool (F48 x1)) h), .g, .g, (.c (.bool (F48 x2)) h), .g, .g, (.b false), .g, (.b false), .g, .g, .g, (.b false), .g, .g, .g, (.b true), .g]) (args := [.int .i64 x1, .int .i64 x2]) (h := h) (h' := h) (v := .int .i64 1) (hC := (ai c9 (ai c8 (ai c7 (ai c5 (ai (F48_spec x2 h _ rfl) (ai (F48_spec x1 h _ rfl) trivial))))))) (hr := by kernel_rfl)
        · intro hr
          subst hr
          exact pFun_sound good tab_ok (f := 32) (its := [.g, .g, (.c (.bool (F48 x1)) h), .g, .g, (.c (.bool (F48 x2)) h), .g, .g, (.b false), .g, (.b false), .g, .g, .g, (.b false), .g, .g, .g, (.b false), .g]) (args := [.int .i64 x1, .int .i64 x2]) (h := h) (h' := h) (v := .int .i64 0) (hC := (ai c9 (ai c8 (ai c7 (ai c5 (ai (F48_spec x2 h _ rfl) (ai (F48_spec x1 h _ rfl) trivial))))))) (hr := by kernel_rfl)
def enc3 (x : Int) : List Value := [.int .i64 x]
def E3 (h : AHeap) (cs : List Value) (x : Int) : Prop := cs = enc3 x
theorem E3_mono {h h' : AHeap} (le : h.sub h') (cs : List Value) (x : Int) (H : E3 h cs x) : E3 h' cs x := H
def W3 (x : Int) : Prop := (Lit.int .i64 x).wf = true ∧ True
set_option maxRecDepth 100000 in
theorem E3_wt {h : AHeap} {n : Nat} {cs : List Value} (H : WT Try.prog h n 3 cs) : ∃ x, E3 h cs x ∧ W3 x := by
  have k : SQ Try.prog h [.int .i64] cs := wt_flatS 1 n (by kernel_rfl) H
  obtain ⟨x0, r0, rfl, w0, k0⟩ := sq_int k
  obtain rfl := sq_nil k0
  exact ⟨x0, rfl, ⟨w0, trivial⟩⟩
/-! 31 cmp.Or[int] -/
def F31_L : List Nat := []
def F31_D : List (Nat × List (Nat × Nat)) := []
def F31_m1_2 : List Bool := [true, true, true, false, true, true, true, true, true, true, true, true, true, true, true, true, true, true]
def F31_m1_1 : List Bool := [true, true, true, false, true, true, false, false, false, true, true, true, true, true, true, true, true, true]
def F31_m1_0 : List Bool := [true, true, false, true, true, true, true, true, true, true, true, true, true, true, true, true, true, true]
def F31_s1 (l1 : List Int) (a2 : Int) : Option (Int ⊕ (Nat × Int)) :=
  (bif decide (a2 < (l1.length : Int)) then
   (Option.bind (at? l1 a2) fun y4 =>
   (bif (y4 != 0) then
    some (.inr (0, y4))
   else
    some (.inl (IntKind.i64.wrap (a2 + 1)))))
  else
   some (.inr (1, 0)))
def F31_h1 (h : AHeap) (l1 : List Int) (v1 : Hd)  (a2 : Int) : AS := ⟨[junk, junk, junk, .int .i64 0, junk, junk, (sv v1), .int .i64 (l1.length : Int), .int .i64 a2, junk, junk, junk, junk, junk, junk, junk, junk, junk], [], h⟩
theorem F31_d1 : drawsOk F31_D (codeOf Try.prog 31 [1, 1, 0, 1, 0, 0]) = true := by kernel_rfl
def F31_x1_0 (h : AHeap)  (r : Nat × Int) : AS := ⟨[junk, junk, .int .i64 r.2, junk, junk, junk, junk, junk, junk, junk, junk, junk, junk, junk, junk, junk, junk, junk], [], h⟩
def F31_x1_1 (h : AHeap)  (r : Nat × Int) : AS := ⟨[junk, junk, junk, .int .i64 0, junk, junk, junk, junk, junk, junk, junk, junk, junk, junk, junk, junk, junk, junk], [], h⟩
def F31_x1 (h : AHeap) (r : Nat × Int) : Exit × AS := (bif Nat.beq r.1 0 then (.ret, (F31_x1_0 h r)) else ((.exit 0), (F31_x1_1 h r)))
set_option maxRecDepth 100000 in
theorem F31_r1 (h : AHeap) (l1 : List Int) (v1 : Hd) (hv1 : SlE E3 1 h (sv v1) l1) (a2 : Int) (o : Int ⊕ (Nat × Int)) : F31_s1 l1 a2 = some o → RdF Try.prog (codeOf Try.prog 31 [1, 1, 0, 1, 0, 0]) (fun (s : Int) => (F31_h1 h l1 v1 s)) (F31_x1 h) (F31_h1 h l1 v1 a2) o := by
  unfold F31_s1
  refine dec_bif (fun c3 => ?_) (fun c3 => ?_)
  · refine bind_opt fun y4 e4 => ?_
    obtain ⟨id4, off4, g4, cs4, ix4, at4, rfl⟩ := SlE.at hv1 e4
    refine dec_bif (fun c5 => ?_) (fun c5 => ?_)
    · intro hr
      obtain rfl := Option.some.inj hr
      show AWp Try.prog _ (Ends1 ((F31_x1 h) ((0, y4) : Nat × Int)).1 ((F31_x1 h) ((0, y4) : Nat × Int)).2) _
      exact pEnd_sound good (L := F31_L) (D := F31_D) (its := [.g, (.b true), (.ix id4 off4 g4), (.ld (.int .i64 y4)), .g, .g, .g, .g, (.b true), .g, .g]) (ds := F31_m1_0) (ks := []) (e := ((F31_x1 h) ((0, y4) : Nat × Int)).1) (s2 := ((F31_x1 h) ((0, y4) : Nat × Int)).2) (hC := (ai c5 (ai (At.one (P := Try.prog) (t := 3) (v := .int .i64 y4) at4 (by kernel_rfl) 0 rfl rfl) (ai ix4 (ai c3 trivial))))) (hd := F31_d1) (h := by kernel_rfl)
    · intro hr
      obtain rfl := Option.some.inj hr
      show AWp Try.prog _ (Ends1 .normal (F31_h1 h l1 v1 (IntKind.i64.wrap (a2 + 1)))) _
      exact pEnd_sound good (L := F31_L) (D := F31_D) (its := [.g, (.b true), (.ix id4 off4 g4), (.ld (.int .i64 y4)), .g, .g, .g, .g, (.b false), .g, .g]) (ds := F31_m1_1) (ks := []) (e := .normal) (s2 := (F31_h1 h l1 v1 (IntKind.i64.wrap (a2 + 1)))) (hC := (ai c5 (ai (At.one (P := Try.prog) (t := 3) (v := .int .i64 y4) at4 (by kernel_rfl) 0 rfl rfl) (ai ix4 (ai c3 trivial))))) (hd := F31_d1) (h := by kernel_rfl)
  · intro hr
    obtain rfl := Option.some.inj hr
    show AWp Try.prog _ (Ends1 ((F31_x1 h) ((1, 0) : Nat × Int)).1 ((F31_x1 h) ((1, 0) : Nat × Int)).2) _
    exact pEnd_sound good (L := F31_L) (D := F31_D) (its := [.g, (.b false)]) (ds := F31_m1_2) (ks := []) (e := ((F31_x1 h) ((1, 0) : Nat × Int)).1) (s2 := ((F31_x1 h) ((1, 0) : Nat × Int)).2) (hC := (ai c3 trivial)) (hd := F31_d1) (h := by kernel_rfl)
theorem F31_l1_0 (h : AHeap) (l1 : List Int) (v1 : Hd) (hv1 : SlE E3 1 h (sv v1) l1) (x : Int) (r : Nat × Int) (hl : loopO (fun (s : Int) => F31_s1 l1 s) x = some r) (q0 : Nat.beq r.1 0 = true) : AWp Try.prog (.loop (codeOf Try.prog 31 [1, 1, 0, 1, 0, 0])) (Ends1 .ret (F31_x1_0 h r)) ((fun (s : Int) => (F31_h1 h l1 v1 s)) x) := by
  have k := loop_fun (P := Try.prog) (c := (codeOf Try.prog 31 [1, 1, 0, 1, 0, 0])) (step := (fun (s : Int) => F31_s1 l1 s)) (hd := (fun (s : Int) => (F31_h1 h l1 v1 s))) (X := (F31_x1 h)) (by intro t; unfold F31_x1; cases Nat.beq t.1 0 <;> (intro h; cases h)) (fun x => F31_r1 h l1 v1 hv1 x) hl
  simp only [F31_x1, q0, cond_true, cond_false] at k
  exact k
theorem F31_l1_1 (h : AHeap) (l1 : List Int) (v1 : Hd) (hv1 : SlE E3 1 h (sv v1) l1) (x : Int) (r : Nat × Int) (hl : loopO (fun (s : Int) => F31_s1 l1 s) x = some r) (q0 : Nat.beq r.1 0 = false) : AWp Try.prog (.loop (codeOf Try.prog 31 [1, 1, 0, 1, 0, 0])) (Ends1 (.exit 0) (F31_x1_1 h r)) ((fun (s : Int) => (F31_h1 h l1 v1 s)) x) := by
  have k := loop_fun (P := Try.prog) (c := (codeOf Try.prog 31 [1, 1, 0, 1, 0, 0])) (step := (fun (s : Int) => F31_s1 l1 s)) (hd := (fun (s : Int) => (F31_h1 h l1 v1 s))) (X := (F31_x1 h)) (by intro t; unfold F31_x1; cases Nat.beq t.1 0 <;> (intro h; cases h)) (fun x => F31_r1 h l1 v1 hv1 x) hl
  simp only [F31_x1, q0, cond_true, cond_false] at k
  exact k
def F31 (l1 : List Int) : Option (Int) :=
  (Option.bind (loopO (fun (s : Int) => F31_s1 l1 s) 0) fun y6 =>
  (bif (Nat.beq y6.1 0) then
   some (y6.2)
  else
   some (0)))
set_option maxRecDepth 100000 in
theorem F31_spec (l1 : List Int) (v1 : Hd) (h : AHeap) (hv1 : SlE E3 1 h (sv v1) l1) (r : Int) : F31 l1 = some r → ACalls Try.prog 31 [(sv v1)] h (fun v' h'' => v' = (.int .i64 r : Value) ∧ h'' = h) := by
  unfold F31
  refine bind_opt fun y6 e6 => ?_
  refine dec_bif (fun c7 => ?_) (fun c7 => ?_)
  · intro hr
    obtain rfl := Option.some.inj hr
    exact pFun_sound good tab_ok (f := 31) (its := [.g, .g, .g, (.ln l1.length), .g, (.l F31_m1_1 [] .ret (F31_x1_0 h y6))]) (args := [(sv v1)]) (h := h) (h' := h) (v := .int .i64 y6.2) (hC := (ai (F31_l1_0 h l1 v1 hv1 0 y6 e6 c7) (ai (SlE.len hv1) trivial))) (hr := by kernel_rfl)
  · intro hr
    obtain rfl := Option.some.inj hr
    exact pFun_sound good tab_ok (f := 31) (its := [.g, .g, .g, (.ln l1.length), .g, (.l F31_m1_1 [] (.exit 0) (F31_x1_1 h y6)), .g, .g]) (args := [(sv v1)]) (h := h) (h' := h) (v := .int .i64 0) (hC := (ai (F31_l1_1 h l1 v1 hv1 0 y6 e6 c7) (ai (SlE.len hv1) trivial))) (hr := by kernel_rfl)
/-! 37 jacquard/explore.Pareto$1 -/
def F37 (x1 : Int) (x2 : Int) (x3 : Int) (x4 : Int) (x5 : Int) (x6 : Int) (x7 : Int) (x8 : Int) : Option (Int) :=
  (Option.bind (F31 ([(F32 x2 x6), (F32 x3 x7), (F32 x4 x8), (F32 x1 x5)] : List Int)) fun y15 =>
  some (y15))
set_option maxRecDepth 100000 in
theorem F37_spec (x1 : Int) (x2 : Int) (x3 : Int) (x4 : Int) (x5 : Int) (x6 : Int) (x7 : Int) (x8 : Int) (h : AHeap) (hw : h.wf)  (r : Int) : F37 x1 x2 x3 x4 x5 x6 x7 x8 = some r → ∃ (h' : AHeap), Heapy h h' [] ∧ ACalls Try.prog 37 [.agg #[.int .i64 x1, .int .i64 x2, .int .i64 x3, .int .i64 x4], .agg #[.int .i64 x5, .int .i64 x6, .int .i64 x7, .int .i64 x8]] h (fun v' h'' => v' = (.int .i64 r : Value) ∧ h'' = h') := by
  unfold F37
  obtain ⟨v13, h13, m13, hp13, _⟩ := Heapy.build (P := Try.prog) (Heapy.refl hw) (t := 27) (e := 3) (len := 4) (n := 1) (parts := [(0, .int .i64 (F32 x2 x6)), (1, .int .i64 (F32 x3 x7)), (2, .int .i64 (F32 x4 x8)), (3, .int .i64 (F32 x1 x5))]) (cells := List.flatMap enc3 ([(F32 x2 x6), (F32 x3 x7), (F32 x4 x8), (F32 x1 x5)] : List Int)) (by kernel_rfl) rfl
  refine bind_opt fun y15 e15 => ?_
  intro hr
  obtain rfl := Option.some.inj hr
  exact ⟨h13, Heapy.pick hp13 [] (by decide), pFun_sound good tab_ok (f := 37) (its := [.g, .g, .g, .g, .g, .g, .g, .g, .g, .g, .g, .g, .g, .g, .g, .g, .g, .g, .g, (.c (.int .i64 (F32 x2 x6)) h), (.c (.int .i64 (F32 x3 x7)) h), (.c (.int .i64 (F32 x4 x8)) h), (.c (.int .i64 (F32 x1 x5)) h), (.mm (sv v13) h13), (.c (.int .i64 y15) h13), .g]) (args := [.agg #[.int .i64 x1, .int .i64 x2, .int .i64 x3, .int .i64 x4], .agg #[.int .i64 x5, .int .i64 x6, .int .i64 x7, .int .i64 x8]]) (h := h) (h' := h13) (v := .int .i64 y15) (hC := (ai (show AKeep h13 h13 from (AHeap.sub_refl h13)) (ai (F31_spec ([(F32 x2 x6), (F32 x3 x7), (F32 x4 x8), (F32 x1 x5)] : List Int) v13 h13 (Heapy.sle (v := v13) (xs := ([(F32 x2 x6), (F32 x3 x7), (F32 x4 x8), (F32 x1 x5)] : List Int)) (enc := enc3) hp13 0 rfl (fun _ => rfl) (by decide)) _ e15) (ai m13 (ai (show AKeep h h from (AHeap.sub_refl h)) (ai (F32_spec x1 x5 h _ rfl) (ai (show AKeep h h from (AHeap.sub_refl h)) (ai (F32_spec x4 x8 h _ rfl) (ai (show AKeep h h from (AHeap.sub_refl h)) (ai (F32_spec x3 x7 h _ rfl) (ai (show AKeep h h from (AHeap.sub_refl h)) (ai (F32_spec x2 x6 h _ rfl) trivial)))))))))))) (hr := by kernel_rfl)⟩
/-! 40 jacquard/explore.Dominates -/
def F40 (x1 : Int) (x2 : Int) (x3 : Int) (x4 : Int) (x5 : Int) (x6 : Int) (x7 : Int) (x8 : Int) : Bool :=
  (bif decide (x2 ≤ x6) then
   (bif decide (x3 ≤ x7) then
    (bif decide (x4 ≤ x8) then
     (bif decide (x2 < x6) then
      true
     else
      (bif decide (x3 < x7) then
       true
      else
       (decide (x4 < x8))))
    else
     false)
   else
    false)
  else
   false)
set_option maxRecDepth 100000 in
theorem F40_spec (x1 : Int) (x2 : Int) (x3 : Int) (x4 : Int) (x5 : Int) (x6 : Int) (x7 : Int) (x8 : Int) (h : AHeap)  (r : Bool) : F40 x1 x2 x3 x4 x5 x6 x7 x8 = r → ACalls Try.prog 40 [.agg #[.int .i64 x1, .int .i64 x2, .int .i64 x3, .int .i64 x4], .agg #[.int .i64 x5, .int .i64 x6, .int .i64 x7, .int .i64 x8]] h (fun v' h'' => v' = (.bool r : Value) ∧ h'' = h) := by
  unfold F40
  refine dec_bif (fun c9 => ?_) (fun c9 => ?_)
  · refine dec_bif (fun c10 => ?_) (fun c10 => ?_)
    · refine dec_bif (fun c11 => ?_) (fun c11 => ?_)
      · refine dec_bif (fun c12 => ?_) (fun c12 => ?_)
        · intro hr
          subst hr
          exact pFun_sound good tab_ok (f := 40) (its := [.g, .g, .g, .g, .g, .g, .g, .g, .g, (.w .g), (.w .g), (.w .g), (.w .g), (.w .g), (.p true), .g, (.w .g), (.w .g), (.w .g), (.w .g), (.w .g), (.p true), .g, (.w .g), (.w .g), (.w .g), (.w .g), (.w .g), (.w .g), .n, .n, .n, .n, .n, (.w (.p true)), (.w .g), .n, .n, .n, .n, .n, (.w .g), (.p true), .g]) (args := [.agg #[.int .i64 x1, .int .i64 x2, .int .i64 x3, .int .i64 x4], .agg #[.int .i64 x5, .int .i64 x6, .int .i64 x7, .int .i64 x8]]) (h := h) (h' := h) (v := .bool true) (hC := (ai c11 (ai (g_tt c11) (ai (g_tf l_t) (ai (g_tf l_t) (ai (g_tf l_t) (ai (g_tf l_t) (ai (g_tf l_t) (ai (g_tt c11) (ai c12 (ai (g_tt c11) (ai (g_tf c12) (ai (g_tf c12) (ai (g_tf c12) (ai (g_tf c12) (ai (g_tf c12) (ai (g_tt c11) (ai (g_tt c11) (ai (g_tt c11) (ai (g_tt c11) (ai (g_tt c11) (ai (g_tt c11) (ai c10 (ai (g_tt c10) (ai (g_tt c10) (ai (g_tt c10) (ai (g_tt c10) (ai (g_tt c10) (ai c9 (ai (g_tt c9) (ai (g_tt c9) (ai (g_tt c9) (ai (g_tt c9) (ai (g_tt c9) trivial)))))))))))))))))))))))))))))))))) (hr := by kernel_rfl)
        · refine dec_bif (fun c13 => ?_) (fun c13 => ?_)
          · intro hr
            subst hr
            exact pFun_sound good tab_ok (f := 40) (its := [.g, .g, .g, .g, .g, .g, .g, .g, .g, (.w .g), (.w .g), (.w .g), (.w .g), (.w .g), (.p true), .g, (.w .g), (.w .g), (.w .g), (.w .g), (.w .g), (.p true), .g, (.w .g), (.w .g), (.w .g), (.w .g), (.w .g), (.w .g), (.w .g), (.w .g), (.w .g), (.w .g), (.w .g), (.w (.p false)), (.w .g), .n, .n, .n, .n, .n, (.w (.p true)), (.p true), .g]) (args := [.agg #[.int .i64 x1, .int .i64 x2, .int .i64 x3, .int .i64 x4], .agg #[.int .i64 x5, .int .i64 x6, .int .i64 x7, .int .i64 x8]]) (h := h) (h' := h) (v := .bool true) (hC := (ai c11 (ai c13 (ai (g_tt c11) (ai (g_tf c13) (ai (g_tf c13) (ai (g_tf c13) (ai (g_tf c13) (ai (g_tf c13) (ai (g_tt c11) (ai c12 (ai (g_tt c11) (ai (g_ff c12) (ai (g_ff c12) (ai (g_ff c12) (ai (g_ff c12) (ai (g_ff c12) (ai (g_tt c11) (ai (g_tt c11) (ai (g_tt c11) (ai (g_tt c11) (ai (g_tt c11) (ai (g_tt c11) (ai c10 (ai (g_tt c10) (ai (g_tt c10) (ai (g_tt c10) (ai (g_tt c10) (ai (g_tt c10) (ai c9 (ai (g_tt c9) (ai (g_tt c9) (ai (g_tt c9) (ai (g_tt c9) (ai (g_tt c9) trivial))))))))))))))))))))))))))))))))))) (hr := by kernel_rfl)
          · intro hr
            subst hr
            exact pFun_sound good tab_ok (f := 40) (its := [.g, .g, .g, .g, .g, .g, .g, .g, .g, (.w .g), (.w .g), (.w .g), (.w .g), (.w .g), (.p true), .g, (.w .g), (.w .g), (.w .g), (.w .g), (.w .g), (.p true), .g, (.w .g), (.w .g), (.w .g), (.w .g), (.w .g), (.w .g), (.w .g), (.w .g), (.w .g), (.w .g), (.w .g), (.w (.p false)), (.w .g), (.w .g), (.w .g), (.w .g), (.w .g), (.w .g), (.w (.p false)), (.p true), .g]) (args := [.agg #[.int .i64 x1, .int .i64 x2, .int .i64 x3, .int .i64 x4], .agg #[.int .i64 x5, .int .i64 x6, .int .i64 x7, .int .i64 x8]]) (h := h) (h' := h) (v := .bool (decide (x4 < x8))) (hC := (ai c11 (ai c13 (ai (g_tt c11) (ai (g_ff c13) (ai (g_ff c13) (ai (g_ff c13) (ai (g_ff c13) (ai (g_ff c13) (ai (g_tt c11) (ai c12 (ai (g_tt c11) (ai (g_ff c12) (ai (g_ff c12) (ai (g_ff c12) (ai (g_ff c12) (ai (g_ff c12) (ai (g_tt c11) (ai (g_tt c11) (ai (g_tt c11) (ai (g_tt c11) (ai (g_tt c11) (ai (g_tt c11) (ai c10 (ai (g_tt c10) (ai (g_tt c10) (ai (g_tt c10) (ai (g_tt c10) (ai (g_tt c10) (ai c9 (ai (g_tt c9) (ai (g_tt c9) (ai (g_tt c9) (ai (g_tt c9) (ai (g_tt c9) trivial))))))))))))))))))))))))))))))))))) (hr := by kernel_rfl)
      · intro hr
        subst hr
        exact pFun_sound good tab_ok (f := 40) (its := [.g, .g, .g, .g, .g, .g, .g, .g, .g, (.w .g), (.w .g), (.w .g), (.w .g), (.w .g), (.p true), .g, (.w .g), (.w .g), (.w .g), (.w .g), (.w .g), (.p true), .g, .n, .n, .n, .n, .n, .n, .n, .n, .n, .n, .n, .n, .n, .n, .n, .n, .n, .n, .n, (.p false), .g]) (args := [.agg #[.int .i64 x1, .int .i64 x2, .int .i64 x3, .int .i64 x4], .agg #[.int .i64 x5, .int .i64 x6, .int .i64 x7, .int .i64 x8]]) (h := h) (h' := h) (v := .bool false) (hC := (ai c11 (ai (g_ft c11) (ai l_f (ai l_f (ai l_f (ai l_f (ai l_f (ai (g_ft c11) (ai (g_ft c11) (ai l_f (ai l_f (ai l_f (ai l_f (ai l_f (ai (g_ft c11) (ai (g_ft c11) (ai (g_ft c11) (ai (g_ft c11) (ai (g_ft c11) (ai (g_ft c11) (ai c10 (ai (g_tt c10) (ai (g_tt c10) (ai (g_tt c10) (ai (g_tt c10) (ai (g_tt c10) (ai c9 (ai (g_tt c9) (ai (g_tt c9) (ai (g_tt c9) (ai (g_tt c9) (ai (g_tt c9) trivial))))))))))))))))))))))))))))))))) (hr := by kernel_rfl)
    · intro hr
      subst hr
      exact pFun_sound good tab_ok (f := 40) (its := [.g, .g, .g, .g, .g, .g, .g, .g, .g, (.w .g), (.w .g), (.w .g), (.w .g), (.w .g), (.p true), .g, .n, .n, .n, .n, .n, (.p false), .g, .n, .n, .n, .n, .n, .n, .n, .n, .n, .n, .n, .n, .n, .n, .n, .n, .n, .n, .n, .g, .g]) (args := [.agg #[.int .i64 x1, .int .i64 x2, .int .i64 x3, .int .i64 x4], .agg #[.int .i64 x5, .int .i64 x6, .int .i64 x7, .int .i64 x8]]) (h := h) (h' := h) (v := .bool false) (hC := (ai (g_ft l_f) (ai l_f (ai l_f (ai l_f (ai l_f (ai l_f (ai (g_ft l_f) (ai (g_ft l_f) (ai l_f (ai l_f (ai l_f (ai l_f (ai l_f (ai (g_ft l_f) (ai (g_ft l_f) (ai (g_ft l_f) (ai (g_ft l_f) (ai (g_ft l_f) (ai (g_ft l_f) (ai c10 (ai (g_ft c10) (ai (g_ft c10) (ai (g_ft c10) (ai (g_ft c10) (ai (g_ft c10) (ai c9 (ai (g_tt c9) (ai (g_tt c9) (ai (g_tt c9) (ai (g_tt c9) (ai (g_tt c9) trivial)))))))))))))))))))))))))))))))) (hr := by kernel_rfl)
  · intro hr
    subst hr
    exact pFun_sound good tab_ok (f := 40) (its := [.g, .g, .g, .g, .g, .g, .g, .g, .g, .n, .n, .n, .n, .n, (.p false), .g, .n, .n, .n, .n, .n, .g, .g, .n, .n, .n, .n, .n, .n, .n, .n, .n, .n, .n, .n, .n, .n, .n, .n, .n, .n, .n, .g, .g]) (args := [.agg #[.int .i64 x1, .int .i64 x2, .int .i64 x3, .int .i64 x4], .agg #[.int .i64 x5, .int .i64 x6, .int .i64 x7, .int .i64 x8]]) (h := h) (h' := h) (v := .bool false) (hC := (ai (g_ft l_f) (ai l_f (ai l_f (ai l_f (ai l_f (ai l_f (ai (g_ft l_f) (ai (g_ft l_f) (ai l_f (ai l_f (ai l_f (ai l_f (ai l_f (ai (g_ft l_f) (ai (g_ft l_f) (ai (g_ft l_f) (ai (g_ft l_f) (ai (g_ft l_f) (ai (g_ft l_f) (ai (g_ft l_f) (ai (g_ft l_f) (ai (g_ft l_f) (ai (g_ft l_f) (ai (g_ft l_f) (ai c9 (ai (g_ft c9) (ai (g_ft c9) (ai (g_ft c9) (ai (g_ft c9) (ai (g_ft c9) trivial))))))))))))))))))))))))))))))) (hr := by kernel_rfl)
/-! 39 jacquard/explore.Pareto$2 -/
def F39 (x1 : Int) (x2 : Int) (x3 : Int) (x4 : Int) (x5 : Int) (x6 : Int) (x7 : Int) (x8 : Int) : Bool :=
  (bif (F40 x1 x2 x3 x4 x5 x6 x7 x8) then
   true
  else
   (bif (x2 == x6) then
    (bif (x3 == x7) then
     (x4 == x8)
    else
     false)
   else
    false))
set_option maxRecDepth 100000 in
theorem F39_spec (x1 : Int) (x2 : Int) (x3 : Int) (x4 : Int) (x5 : Int) (x6 : Int) (x7 : Int) (x8 : Int) (id9 : Nat) (off9 : Nat) (g9 : Nat) (h : AHeap) (at9 : At h id9 off9 g9 [.int .i64 x5, .int .i64 x6, .int .i64 x7, .int .i64 x8]) (r : Bool) : F39 x1 x2 x3 x4 x5 x6 x7 x8 = r → ACalls Try.prog 39 [.agg #[.int .i64 x1, .int .i64 x2, .int .i64 x3, .int .i64 x4], .pointer (some ⟨id9, off9 + 0, some g9⟩)] h (fun v' h'' => v' = (.bool r : Value) ∧ h'' = h) := by
  unfold F39
  refine dec_bif (fun c11 => ?_) (fun c11 => ?_)
  · intro hr
    subst hr
    exact pFun_sound good tab_ok (f := 39) (its := [.g, .g, .g, (.ld (.agg #[.int .i64 x5, .int .i64 x6, .int .i64 x7, .int .i64 x8])), (.c (.bool (F40 x1 x2 x3 x4 x5 x6 x7 x8)) h), .g, .n, .n, .n, .n, .n, .n, .n, .n, .n, .n, .n, .n, .n, .n, .n, .n, .n, .n, .n, (.p true), .g]) (args := [.agg #[.int .i64 x1, .int .i64 x2, .int .i64 x3, .int .i64 x4], .pointer (some ⟨id9, off9 + 0, some g9⟩)]) (h := h) (h' := h) (v := .bool true) (hC := (ai c11 (ai (g_tf c11) (ai l_f (ai l_f (ai l_f (ai l_f (ai l_f (ai (g_tf c11) (ai (g_tf c11) (ai l_f (ai l_f (ai l_f (ai l_f (ai l_f (ai (g_tf c11) (ai (g_tf c11) (ai (g_tf c11) (ai (g_tf c11) (ai (g_tf c11) (ai (g_tf c11) (ai (F40_spec x1 x2 x3 x4 x5 x6 x7 x8 h _ rfl) (ai (At.agg (P := Try.prog) (t := 49) (v := .agg #[.int .i64 x5, .int .i64 x6, .int .i64 x7, .int .i64 x8]) (m := 4) at9 (by kernel_rfl) (by kernel_rfl) 0 (by kernel_rfl) rfl) trivial))))))))))))))))))))))) (hr := by kernel_rfl)
  · refine dec_bif (fun c12 => ?_) (fun c12 => ?_)
    · refine dec_bif (fun c13 => ?_) (fun c13 => ?_)
      · intro hr
        subst hr
        exact pFun_sound good tab_ok (f := 39) (its := [.g, .g, .g, (.ld (.agg #[.int .i64 x5, .int .i64 x6, .int .i64 x7, .int .i64 x8])), (.c (.bool (F40 x1 x2 x3 x4 x5 x6 x7 x8)) h), .g, (.w .g), (.w .g), (.w .g), (.w (.ld (.int .i64 x6))), (.w .g), (.w .g), (.w .g), (.w .g), (.w .g), (.w (.ld (.int .i64 x7))), (.w .g), (.w (.p true)), (.w .g), (.w .g), (.w .g), (.w .g), (.w (.ld (.int .i64 x8))), (.w .g), (.w (.p true)), (.p false), .g]) (args := [.agg #[.int .i64 x1, .int .i64 x2, .int .i64 x3, .int .i64 x4], .pointer (some ⟨id9, off9 + 0, some g9⟩)]) (h := h) (h' := h) (v := .bool (x4 == x8)) (hC := (ai c11 (ai c13 (ai (g_ff c11) (ai (g_tt c13) (ai (At.one (P := Try.prog) (t := 3) (v := .int .i64 x8) at9 (by kernel_rfl) 3 rfl rfl) (ai (g_tt c13) (ai (g_tt c13) (ai (g_tt c13) (ai (g_tt c13) (ai (g_ff c11) (ai c12 (ai (g_ff c11) (ai (g_tt c12) (ai (At.one (P := Try.prog) (t := 3) (v := .int .i64 x7) at9 (by kernel_rfl) 2 rfl rfl) (ai (g_tt c12) (ai (g_tt c12) (ai (g_tt c12) (ai (g_tt c12) (ai (g_ff c11) (ai (g_ff c11) (ai (At.one (P := Try.prog) (t := 3) (v := .int .i64 x6) at9 (by kernel_rfl) 1 rfl rfl) (ai (g_ff c11) (ai (g_ff c11) (ai (g_ff c11) (ai (g_ff c11) (ai (F40_spec x1 x2 x3 x4 x5 x6 x7 x8 h _ rfl) (ai (At.agg (P := Try.prog) (t := 49) (v := .agg #[.int .i64 x5, .int .i64 x6, .int .i64 x7, .int .i64 x8]) (m := 4) at9 (by kernel_rfl) (by kernel_rfl) 0 (by kernel_rfl) rfl) trivial)))))))))))))))))))))))))))) (hr := by kernel_rfl)
      · intro hr
        subst hr
        exact pFun_sound good tab_ok (f := 39) (its := [.g, .g, .g, (.ld (.agg #[.int .i64 x5, .int .i64 x6, .int .i64 x7, .int .i64 x8])), (.c (.bool (F40 x1 x2 x3 x4 x5 x6 x7 x8)) h), .g, (.w .g), (.w .g), (.w .g), (.w (.ld (.int .i64 x6))), (.w .g), (.w .g), (.w .g), (.w .g), (.w .g), (.w (.ld (.int .i64 x7))), (.w .g), (.w (.p true)), (.w .g), .n, .n, .n, .n, .n, (.w (.p false)), (.p false), .g]) (args := [.agg #[.int .i64 x1, .int .i64 x2, .int .i64 x3, .int .i64 x4], .pointer (some ⟨id9, off9 + 0, some g9⟩)]) (h := h) (h' := h) (v := .bool false) (hC := (ai c11 (ai c13 (ai (g_ff c11) (ai (g_ft c13) (ai (g_ft c13) (ai (g_ft c13) (ai (g_ft c13) (ai (g_ft c13) (ai (g_ff c11) (ai c12 (ai (g_ff c11) (ai (g_tt c12) (ai (At.one (P := Try.prog) (t := 3) (v := .int .i64 x7) at9 (by kernel_rfl) 2 rfl rfl) (ai (g_tt c12) (ai (g_tt c12) (ai (g_tt c12) (ai (g_tt c12) (ai (g_ff c11) (ai (g_ff c11) (ai (At.one (P := Try.prog) (t := 3) (v := .int .i64 x6) at9 (by kernel_rfl) 1 rfl rfl) (ai (g_ff c11) (ai (g_ff c11) (ai (g_ff c11) (ai (g_ff c11) (ai (F40_spec x1 x2 x3 x4 x5 x6 x7 x8 h _ rfl) (ai (At.agg (P := Try.prog) (t := 49) (v := .agg #[.int .i64 x5, .int .i64 x6, .int .i64 x7, .int .i64 x8]) (m := 4) at9 (by kernel_rfl) (by kernel_rfl) 0 (by kernel_rfl) rfl) trivial))))))))))))))))))))))))))) (hr := by kernel_rfl)
    · intro hr
      subst hr
      exact pFun_sound good tab_ok (f := 39) (its := [.g, .g, .g, (.ld (.agg #[.int .i64 x5, .int .i64 x6, .int .i64 x7, .int .i64 x8])), (.c (.bool (F40 x1 x2 x3 x4 x5 x6 x7 x8)) h), .g, (.w .g), (.w .g), (.w .g), (.w (.ld (.int .i64 x6))), (.w .g), (.w .g), .n, .n, .n, .n, .n, (.w (.p false)), (.w .g), .n, .n, .n, .n, .n, (.w .g), (.p false), .g]) (args := [.agg #[.int .i64 x1, .int .i64 x2, .int .i64 x3, .int .i64 x4], .pointer (some ⟨id9, off9 + 0, some g9⟩)]) (h := h) (h' := h) (v := .bool false) (hC := (ai c11 (ai (g_ff c11) (ai (g_ft l_f) (ai (g_ft l_f) (ai (g_ft l_f) (ai (g_ft l_f) (ai (g_ft l_f) (ai (g_ff c11) (ai c12 (ai (g_ff c11) (ai (g_ft c12) (ai (g_ft c12) (ai (g_ft c12) (ai (g_ft c12) (ai (g_ft c12) (ai (g_ff c11) (ai (g_ff c11) (ai (At.one (P := Try.prog) (t := 3) (v := .int .i64 x6) at9 (by kernel_rfl) 1 rfl rfl) (ai (g_ff c11) (ai (g_ff c11) (ai (g_ff c11) (ai (g_ff c11) (ai (F40_spec x1 x2 x3 x4 x5 x6 x7 x8 h _ rfl) (ai (At.agg (P := Try.prog) (t := 49) (v := .agg #[.int .i64 x5, .int .i64 x6, .int .i64 x7, .int .i64 x8]) (m := 4) at9 (by kernel_rfl) (by kernel_rfl) 0 (by kernel_rfl) rfl) trivial))))))))))))))))))))))))) (hr := by kernel_rfl)
/-! slices.SortFunc 36 at 37 -/
def sort36_ren : Go.Shelf.Ren := ⟨fun | 6 => 36 | 15 => 47 | 14 => 50 | 28 => 62 | 29 => 63 | 20 => 64 | 21 => 65 | 22 => 66 | 23 => 67 | 24 => 68 | 25 => 69 | 26 => 70 | 27 => 71 | 46 => 77 | 47 => 73 | 48 => 74 | 49 => 78 | 50 => 79 | 57 => 81 | n => n, fun | 22 => 45 | 24 => 49 | 25 => 69 | 3 => 3 | 39 => 76 | 0 => 0 | 53 => 89 | 55 => 91 | 4 => 4 | 46 => 82 | 45 => 81 | 50 => 86 | 5 => 5 | 9 => 9 | 66 => 97 | 70 => 101 | 76 => 105 | 77 => 106 | n => n, fun n => n⟩
theorem sort36_lay : Go.Proofs.SlLaysF0.n6 Try.prog sort36_ren := {
  mixed := by kernel_rfl
  f6 := ⟨"slices.SortFunc[[]jacquard/api.Point,jacquard/api.Point]", by kernel_rfl, by kernel_rfl⟩
  f14 := ⟨"slices.pdqsortCmpFunc[jacquard/api.Point]", by kernel_rfl, by kernel_rfl⟩
  f15 := by kernel_rfl
  f20 := ⟨"slices.insertionSortCmpFunc[jacquard/api.Point]", by kernel_rfl, by kernel_rfl⟩
  f21 := ⟨"slices.heapSortCmpFunc[jacquard/api.Point]", by kernel_rfl, by kernel_rfl⟩
  f22 := ⟨"slices.breakPatternsCmpFunc[jacquard/api.Point]", by kernel_rfl, by kernel_rfl⟩
  f23 := ⟨"slices.choosePivotCmpFunc[jacquard/api.Point]", by kernel_rfl, by kernel_rfl⟩
  f24 := ⟨"slices.reverseRangeCmpFunc[jacquard/api.Point]", by kernel_rfl, by kernel_rfl⟩
  f25 := ⟨"slices.partialInsertionSortCmpFunc[jacquard/api.Point]", by kernel_rfl, by kernel_rfl⟩
  f26 := ⟨"slices.partitionEqualCmpFunc[jacquard/api.Point]", by kernel_rfl, by kernel_rfl⟩
  f27 := ⟨"slices.partitionCmpFunc[jacquard/api.Point]", by kernel_rfl, by kernel_rfl⟩
  f28 := by kernel_rfl
  f29 := by kernel_rfl
  f46 := ⟨"slices.siftDownCmpFunc[jacquard/api.Point]", by kernel_rfl, by kernel_rfl⟩
  f47 := by kernel_rfl
  f48 := by kernel_rfl
  f49 := ⟨"slices.medianAdjacentCmpFunc[jacquard/api.Point]", by kernel_rfl, by kernel_rfl⟩
  f50 := ⟨"slices.medianCmpFunc[jacquard/api.Point]", by kernel_rfl, by kernel_rfl⟩
  f57 := ⟨"slices.order2CmpFunc[jacquard/api.Point]", by kernel_rfl, by kernel_rfl⟩
  t0 := by kernel_rfl
  a0 := Try.isAgg0
  z0 := Try.sizeOf0
  v0 := Try.zeroValue0
  t3 := by kernel_rfl
  a3 := Try.isAgg3
  z3 := Try.sizeOf3
  v3 := Try.zeroValue3
  t4 := by kernel_rfl
  a4 := Try.isAgg4
  z4 := Try.sizeOf4
  v4 := Try.zeroValue4
  t5 := by kernel_rfl
  a5 := Try.isAgg5
  z5 := Try.sizeOf5
  v5 := Try.zeroValue5
  t9 := by kernel_rfl
  a9 := Try.isAgg9
  z9 := Try.sizeOf9
  v9 := Try.zeroValue9
  t22 := by kernel_rfl
  a22 := Try.isAgg45
  z22 := Try.sizeOf45
  v22 := Try.zeroValue45
  t25 := by kernel_rfl
  a25 := Try.isAgg69
  z25 := Try.sizeOf69
  v25 := Try.zeroValue69
  t39 := by kernel_rfl
  a39 := Try.isAgg76
  z39 := Try.sizeOf76
  v39 := Try.zeroValue76
  t45 := by kernel_rfl
  a45 := Try.isAgg81
  z45 := Try.sizeOf81
  v45 := Try.zeroValue81
  t46 := by kernel_rfl
  a46 := Try.isAgg82
  z46 := Try.sizeOf82
  v46 := Try.zeroValue82
  t50 := by kernel_rfl
  a50 := Try.isAgg86
  z50 := Try.sizeOf86
  v50 := Try.zeroValue86
  t53 := by kernel_rfl
  a53 := Try.isAgg89
  z53 := Try.sizeOf89
  v53 := Try.zeroValue89
  t55 := by kernel_rfl
  a55 := Try.isAgg91
  z55 := Try.sizeOf91
  v55 := Try.zeroValue91
  t66 := by kernel_rfl
  a66 := Try.isAgg97
  z66 := Try.sizeOf97
  v66 := Try.zeroValue97
  t70 := by kernel_rfl
  a70 := Try.isAgg101
  z70 := Try.sizeOf101
  v70 := Try.zeroValue101
  t76 := by kernel_rfl
  a76 := Try.isAgg105
  z76 := Try.sizeOf105
  v76 := Try.zeroValue105
  t77 := by kernel_rfl
  a77 := Try.isAgg106
  z77 := Try.sizeOf106
  v77 := Try.zeroValue106 }
theorem cmp37_one (a b : Int) : F32 a b = cmpI a b := by
  unfold F32 F48
  rw [bne_self_eq_false, bne_self_eq_false]
  simp only [cond_false]
  rcases cmpI_cases a b with ⟨p, e⟩ | ⟨p, e⟩ | ⟨p, e⟩
  · rw [decide_eq_true p, e]; rfl
  · rw [decide_eq_false (by omega), decide_eq_true (show a > b from p), e]; rfl
  · rw [decide_eq_false (by omega), decide_eq_false (by omega), e]; rfl
theorem cmp37_or (l : List Int) (h : l.length ≤ 1000) : F31 l = some (orL l) := by
  apply Yields.eq
  unfold F31
  refine Yields.bind (P := fun t => (t.1 = 0 ∧ t.2 = orL l) ∨ (t.1 = 1 ∧ orL l = 0)) (Yields.loop l.length (fun (i : Nat) z => z = (i : Int) ∧ orL (l.drop i) = orL l) ⟨rfl, rfl⟩ ?_) ?_
  · rintro i z hi ⟨rfl, hd⟩
    unfold F31_s1
    refine Yields.bif (fun hc => ?_) fun hc => Yields.some (.inr ⟨rfl, ?_⟩)
    · have hc := of_decide_eq_true hc
      have hl : i < l.length := by omega
      have hy : l[i]? = some l[i] := List.getElem?_eq_getElem hl
      have dr : l.drop i = l[i] :: l.drop (i + 1) := List.drop_eq_getElem_cons hl
      have oc : ∀ (a : Int) (r : List Int), orL (a :: r) = if a = 0 then orL r else a := fun _ _ => rfl
      rw [dr, oc] at hd
      refine Yields.bindE (y := l[i]) (by unfold at?; rw [decide_eq_true (Int.natCast_nonneg i), cond_true, Int.toNat_natCast]; exact hy) (Yields.bif (fun q => Yields.some (.inl ⟨rfl, ?_⟩)) fun q => Yields.some ⟨by omega, by rw [wrap_i64] <;> omega, ?_⟩)
      · rw [if_neg (bne_iff_ne.1 q)] at hd; exact hd
      · rw [if_pos (by simpa using q)] at hd; exact hd
    · have hc := of_decide_eq_false hc
      rw [List.drop_eq_nil_of_le (by omega)] at hd
      exact hd.symm
  · rintro ⟨t, u⟩ (⟨rfl, rfl⟩ | ⟨rfl, h0⟩)
    · exact Yields.some rfl
    · exact Yields.some h0.symm
def key37 (x : Int × Int × Int × Int) : List Int := [x.2.1, x.2.2.1, x.2.2.2, x.1]
theorem cmp37_eq (x y : Int × Int × Int × Int) : F37 x.1 x.2.1 x.2.2.1 x.2.2.2 y.1 y.2.1 y.2.2.1 y.2.2.2 = some (cmpL (key37 x) (key37 y)) := by
  unfold F37
  rw [cmp37_or _ (by simp)]
  simp only [cmp37_one, Option.bind_some]
  congr 1
/-- slices.SortFunc by that order. -/
def F36w37 (xs : List (Int × Int × Int × Int)) : Option (List (Int × Int × Int × Int)) := bif decide (xs.length < 4611686018427387904) then some (xs.mergeSort fun x y => !(Go.Proofs.ltOf fun a b => cmpL (key37 a) (key37 b)) y x) else none
theorem F36w37_spec (l1 : List (Int × Int × Int × Int)) (v1 : Hd) (hi : AHeap) (h : AHeap) (hw : h.wf) (hio : Heapy h hi [⟨v1, 49, 4, List.flatMap enc49 l1⟩]) (r : List (Int × Int × Int × Int)) : F36w37 l1 = some r → ∃ (h' : AHeap), Heapy h h' [⟨v1, 49, 4, List.flatMap enc49 r⟩] ∧ ACalls Try.prog 36 [(sv v1), .func (.func 37) #[] #[]] hi (fun v' h'' => v' = (.tuple #[] : Value) ∧ h'' = h') := by
  unfold F36w37
  intro hr
  cases hd : decide (l1.length < 4611686018427387904) with
  | false => rw [hd] at hr; cases hr
  | true =>
    rw [hd] at hr
    obtain rfl := Option.some.inj hr
    refine sort_spec sort36_lay rfl (by decide) Try.isAgg49 Try.sizeOf49 (fun _ => rfl) (fun x v hv => ?_) (fun _ => rfl) _ (key_swo (n := 4) fun _ => rfl) (key_tot (n := 4) (fun _ => rfl) ?_) (Go.Proofs.enters_of Try.func37 (by kernel_rfl) rfl) ?_ hio (of_decide_eq_true hd)
    · unfold enc49 at hv
      simp only [List.mem_cons, List.not_mem_nil, or_false] at hv
      rcases hv with rfl | rfl | rfl | rfl <;> rfl
    · intro x y e
      unfold key37 at e
      simp only [List.cons.injEq, and_true] at e
      obtain ⟨a0, a1, a2, a3⟩ := x
      obtain ⟨b0, b1, b2, b3⟩ := y
      simp_all
    · intro x y
      obtain ⟨h2, _, c⟩ := F37_spec x.1 x.2.1 x.2.2.1 x.2.2.2 y.1 y.2.1 y.2.2.1 y.2.2.2 AHeap.none rfl _ (cmp37_eq x y)
      intro B ρ w args' H hA
      refine (c B ρ w args' H hA).mono ?_
      rintro e w' ⟨v, v', ρ', h', e1, ⟨e2, _⟩, e3, e4, e5⟩
      exact ⟨v, v', ρ', h', e1, e2, e3, e4, e5⟩

/-! 51 slices.IndexFunc[[]jacquard/api.Point,jacquard/api.Point] -/
def F51w39_L : List Nat := []
def F51w39_D : List (Nat × List (Nat × Nat)) := []
def F51w39_m1_2 : List Bool := [true, true, true, true, true, true, true, true, true, true, true, true, true, true, true, true, true, true, true]
def F51w39_m1_1 : List Bool := [false, false, true, true, true, true, true, false, false, true, true, true, true, true, true, true, true, true, true]
def F51w39_m1_0 : List Bool := [true, true, true, true, false, true, true, true, true, true, true, true, true, true, true, true, true, true, true]
def F51w39_s1 (l1 : List (Int × Int × Int × Int)) (x2 : Int) (x3 : Int) (x4 : Int) (x5 : Int) (a7 : Int) : Option (Int ⊕ (Nat × Int)) :=
  (bif decide (a7 < (l1.length : Int)) then
   (Option.bind (at? l1 a7) fun y9 =>
   (bif (F39 y9.1 y9.2.1 y9.2.2.1 y9.2.2.2 x2 x3 x4 x5) then
    some (.inr (0, a7))
   else
    some (.inl (IntKind.i64.wrap (a7 + 1)))))
  else
   some (.inr (1, 0)))
def F51w39_h1 (h : AHeap) (l1 : List (Int × Int × Int × Int)) (v1 : Hd) (id6 : Nat) (off6 : Nat) (g6 : Nat)  (a7 : Int) : AS := ⟨[(sv v1), .func (.func 39) #[] #[.pointer (some ⟨id6, off6 + 0, some g6⟩)], junk, junk, junk, junk, junk, .int .i64 (l1.length : Int), .int .i64 a7, junk, junk, junk, junk, junk, junk, junk, junk, junk, junk], [], h⟩
theorem F51w39_d1 : drawsOk F51w39_D (codeOf Try.prog 51 [1, 0, 1, 0, 0]) = true := by kernel_rfl
def F51w39_x1_0 (h : AHeap)  (r : Nat × Int) : AS := ⟨[junk, junk, junk, junk, .int .i64 r.2, junk, junk, junk, junk, junk, junk, junk, junk, junk, junk, junk, junk, junk, junk], [], h⟩
def F51w39_x1_1 (h : AHeap)  (r : Nat × Int) : AS := ⟨[junk, junk, junk, junk, junk, junk, junk, junk, junk, junk, junk, junk, junk, junk, junk, junk, junk, junk, junk], [], h⟩
def F51w39_x1 (h : AHeap) (r : Nat × Int) : Exit × AS := (bif Nat.beq r.1 0 then (.ret, (F51w39_x1_0 h r)) else ((.exit 0), (F51w39_x1_1 h r)))
set_option maxRecDepth 100000 in
theorem F51w39_r1 (h : AHeap) (l1 : List (Int × Int × Int × Int)) (v1 : Hd) (hv1 : SlE E49 4 h (sv v1) l1) (x2 : Int) (x3 : Int) (x4 : Int) (x5 : Int) (id6 : Nat) (off6 : Nat) (g6 : Nat) (at6 : At h id6 off6 g6 [.int .i64 x2, .int .i64 x3, .int .i64 x4, .int .i64 x5]) (a7 : Int) (o : Int ⊕ (Nat × Int)) : F51w39_s1 l1 x2 x3 x4 x5 a7 = some o → RdF Try.prog (codeOf Try.prog 51 [1, 0, 1, 0, 0]) (fun (s : Int) => (F51w39_h1 h l1 v1 id6 off6 g6 s)) (F51w39_x1 h) (F51w39_h1 h l1 v1 id6 off6 g6 a7) o := by
  unfold F51w39_s1
  refine dec_bif (fun c8 => ?_) (fun c8 => ?_)
  · refine bind_opt fun y9 e9 => ?_
    obtain ⟨id9, off9, g9, cs9, ix9, at9, rfl⟩ := SlE.at hv1 e9
    refine dec_bif (fun c11 => ?_) (fun c11 => ?_)
    · intro hr
      obtain rfl := Option.some.inj hr
      show AWp Try.prog _ (Ends1 ((F51w39_x1 h) ((0, a7) : Nat × Int)).1 ((F51w39_x1 h) ((0, a7) : Nat × Int)).2) _
      exact pEnd_sound good (L := F51w39_L) (D := F51w39_D) (its := [.g, (.b true), .g, .g, .g, .g, .g, (.ix id9 off9 g9), (.ld (.agg #[.int .i64 y9.1, .int .i64 y9.2.1, .int .i64 y9.2.2.1, .int .i64 y9.2.2.2])), (.c (.bool (F39 y9.1 y9.2.1 y9.2.2.1 y9.2.2.2 x2 x3 x4 x5)) h), (.b true), .g, .g]) (ds := F51w39_m1_0) (ks := []) (e := ((F51w39_x1 h) ((0, a7) : Nat × Int)).1) (s2 := ((F51w39_x1 h) ((0, a7) : Nat × Int)).2) (hC := (ai c11 (ai (F39_spec y9.1 y9.2.1 y9.2.2.1 y9.2.2.2 x2 x3 x4 x5 id6 off6 g6 h at6 _ rfl) (ai (At.agg (P := Try.prog) (t := 49) (v := .agg #[.int .i64 y9.1, .int .i64 y9.2.1, .int .i64 y9.2.2.1, .int .i64 y9.2.2.2]) (m := 4) at9 (by kernel_rfl) (by kernel_rfl) 0 (by kernel_rfl) rfl) (ai ix9 (ai c8 trivial)))))) (hd := F51w39_d1) (h := by kernel_rfl)
    · intro hr
      obtain rfl := Option.some.inj hr
      show AWp Try.prog _ (Ends1 .normal (F51w39_h1 h l1 v1 id6 off6 g6 (IntKind.i64.wrap (a7 + 1)))) _
      exact pEnd_sound good (L := F51w39_L) (D := F51w39_D) (its := [.g, (.b true), .g, .g, .g, .g, .g, (.ix id9 off9 g9), (.ld (.agg #[.int .i64 y9.1, .int .i64 y9.2.1, .int .i64 y9.2.2.1, .int .i64 y9.2.2.2])), (.c (.bool (F39 y9.1 y9.2.1 y9.2.2.1 y9.2.2.2 x2 x3 x4 x5)) h), (.b false), .g, .g]) (ds := F51w39_m1_1) (ks := []) (e := .normal) (s2 := (F51w39_h1 h l1 v1 id6 off6 g6 (IntKind.i64.wrap (a7 + 1)))) (hC := (ai c11 (ai (F39_spec y9.1 y9.2.1 y9.2.2.1 y9.2.2.2 x2 x3 x4 x5 id6 off6 g6 h at6 _ rfl) (ai (At.agg (P := Try.prog) (t := 49) (v := .agg #[.int .i64 y9.1, .int .i64 y9.2.1, .int .i64 y9.2.2.1, .int .i64 y9.2.2.2]) (m := 4) at9 (by kernel_rfl) (by kernel_rfl) 0 (by kernel_rfl) rfl) (ai ix9 (ai c8 trivial)))))) (hd := F51w39_d1) (h := by kernel_rfl)
  · intro hr
    obtain rfl := Option.some.inj hr
    show AWp Try.prog _ (Ends1 ((F51w39_x1 h) ((1, 0) : Nat × Int)).1 ((F51w39_x1 h) ((1, 0) : Nat × Int)).2) _
    exact pEnd_sound good (L := F51w39_L) (D := F51w39_D) (its := [.g, (.b false)]) (ds := F51w39_m1_2) (ks := []) (e := ((F51w39_x1 h) ((1, 0) : Nat × Int)).1) (s2 := ((F51w39_x1 h) ((1, 0) : Nat × Int)).2) (hC := (ai c8 trivial)) (hd := F51w39_d1) (h := by kernel_rfl)
theorem F51w39_l1_0 (h : AHeap) (l1 : List (Int × Int × Int × Int)) (v1 : Hd) (hv1 : SlE E49 4 h (sv v1) l1) (x2 : Int) (x3 : Int) (x4 : Int) (x5 : Int) (id6 : Nat) (off6 : Nat) (g6 : Nat) (at6 : At h id6 off6 g6 [.int .i64 x2, .int .i64 x3, .int .i64 x4, .int .i64 x5]) (x : Int) (r : Nat × Int) (hl : loopO (fun (s : Int) => F51w39_s1 l1 x2 x3 x4 x5 s) x = some r) (q0 : Nat.beq r.1 0 = true) : AWp Try.prog (.loop (codeOf Try.prog 51 [1, 0, 1, 0, 0])) (Ends1 .ret (F51w39_x1_0 h r)) ((fun (s : Int) => (F51w39_h1 h l1 v1 id6 off6 g6 s)) x) := by
  have k := loop_fun (P := Try.prog) (c := (codeOf Try.prog 51 [1, 0, 1, 0, 0])) (step := (fun (s : Int) => F51w39_s1 l1 x2 x3 x4 x5 s)) (hd := (fun (s : Int) => (F51w39_h1 h l1 v1 id6 off6 g6 s))) (X := (F51w39_x1 h)) (by intro t; unfold F51w39_x1; cases Nat.beq t.1 0 <;> (intro h; cases h)) (fun x => F51w39_r1 h l1 v1 hv1 x2 x3 x4 x5 id6 off6 g6 at6 x) hl
  simp only [F51w39_x1, q0, cond_true, cond_false] at k
  exact k
theorem F51w39_l1_1 (h : AHeap) (l1 : List (Int × Int × Int × Int)) (v1 : Hd) (hv1 : SlE E49 4 h (sv v1) l1) (x2 : Int) (x3 : Int) (x4 : Int) (x5 : Int) (id6 : Nat) (off6 : Nat) (g6 : Nat) (at6 : At h id6 off6 g6 [.int .i64 x2, .int .i64 x3, .int .i64 x4, .int .i64 x5]) (x : Int) (r : Nat × Int) (hl : loopO (fun (s : Int) => F51w39_s1 l1 x2 x3 x4 x5 s) x = some r) (q0 : Nat.beq r.1 0 = false) : AWp Try.prog (.loop (codeOf Try.prog 51 [1, 0, 1, 0, 0])) (Ends1 (.exit 0) (F51w39_x1_1 h r)) ((fun (s : Int) => (F51w39_h1 h l1 v1 id6 off6 g6 s)) x) := by
  have k := loop_fun (P := Try.prog) (c := (codeOf Try.prog 51 [1, 0, 1, 0, 0])) (step := (fun (s : Int) => F51w39_s1 l1 x2 x3 x4 x5 s)) (hd := (fun (s : Int) => (F51w39_h1 h l1 v1 id6 off6 g6 s))) (X := (F51w39_x1 h)) (by intro t; unfold F51w39_x1; cases Nat.beq t.1 0 <;> (intro h; cases h)) (fun x => F51w39_r1 h l1 v1 hv1 x2 x3 x4 x5 id6 off6 g6 at6 x) hl
  simp only [F51w39_x1, q0, cond_true, cond_false] at k
  exact k
def F51w39 (l1 : List (Int × Int × Int × Int)) (x2 : Int) (x3 : Int) (x4 : Int) (x5 : Int) : Option (Int) :=
  (Option.bind (loopO (fun (s : Int) => F51w39_s1 l1 x2 x3 x4 x5 s) 0) fun y12 =>
  (bif (Nat.beq y12.1 0) then
   some (y12.2)
  else
   some (-1)))
set_option maxRecDepth 100000 in
theorem F51w39_spec (l1 : List (Int × Int × Int × Int)) (x2 : Int) (x3 : Int) (x4 : Int) (x5 : Int) (v1 : Hd) (id6 : Nat) (off6 : Nat) (g6 : Nat) (h : AHeap) (hv1 : SlE E49 4 h (sv v1) l1) (at6 : At h id6 off6 g6 [.int .i64 x2, .int .i64 x3, .int .i64 x4, .int .i64 x5]) (r : Int) : F51w39 l1 x2 x3 x4 x5 = some r → ACalls Try.prog 51 [(sv v1), .func (.func 39) #[] #[.pointer (some ⟨id6, off6 + 0, some g6⟩)]] h (fun v' h'' => v' = (.int .i64 r : Value) ∧ h'' = h) := by
  unfold F51w39
  refine bind_opt fun y12 e12 => ?_
  refine dec_bif (fun c13 => ?_) (fun c13 => ?_)
  · intro hr
    obtain rfl := Option.some.inj hr
    exact pFun_sound good tab_ok (f := 51) (its := [.g, .g, (.ln l1.length), .g, (.l F51w39_m1_1 [] .ret (F51w39_x1_0 h y12))]) (args := [(sv v1), .func (.func 39) #[] #[.pointer (some ⟨id6, off6 + 0, some g6⟩)]]) (h := h) (h' := h) (v := .int .i64 y12.2) (hC := (ai (F51w39_l1_0 h l1 v1 hv1 x2 x3 x4 x5 id6 off6 g6 at6 0 y12 e12 c13) (ai (SlE.len hv1) trivial))) (hr := by kernel_rfl)
  · intro hr
    obtain rfl := Option.some.inj hr
    exact pFun_sound good tab_ok (f := 51) (its := [.g, .g, (.ln l1.length), .g, (.l F51w39_m1_1 [] (.exit 0) (F51w39_x1_1 h y12)), .g]) (args := [(sv v1), .func (.func 39) #[] #[.pointer (some ⟨id6, off6 + 0, some g6⟩)]]) (h := h) (h' := h) (v := .int .i64 (-1)) (hC := (ai (F51w39_l1_1 h l1 v1 hv1 x2 x3 x4 x5 id6 off6 g6 at6 0 y12 e12 c13) (ai (SlE.len hv1) trivial))) (hr := by kernel_rfl)
/-! 38 slices.ContainsFunc[[]jacquard/api.Point,jacquard/api.Point] -/
def F38w39 (l1 : List (Int × Int × Int × Int)) (x2 : Int) (x3 : Int) (x4 : Int) (x5 : Int) : Option (Bool) :=
  (Option.bind (F51w39 l1 x2 x3 x4 x5) fun y7 =>
  some (decide (y7 ≥ 0)))
set_option maxRecDepth 100000 in
theorem F38w39_spec (l1 : List (Int × Int × Int × Int)) (x2 : Int) (x3 : Int) (x4 : Int) (x5 : Int) (v1 : Hd) (id6 : Nat) (off6 : Nat) (g6 : Nat) (h : AHeap) (hv1 : SlE E49 4 h (sv v1) l1) (at6 : At h id6 off6 g6 [.int .i64 x2, .int .i64 x3, .int .i64 x4, .int .i64 x5]) (r : Bool) : F38w39 l1 x2 x3 x4 x5 = some r → ACalls Try.prog 38 [(sv v1), .func (.func 39) #[] #[.pointer (some ⟨id6, off6 + 0, some g6⟩)]] h (fun v' h'' => v' = (.bool r : Value) ∧ h'' = h) := by
  unfold F38w39
  refine bind_opt fun y7 e7 => ?_
  intro hr
  obtain rfl := Option.some.inj hr
  exact pFun_sound good tab_ok (f := 38) (its := [.g, .g, .g, (.c (.int .i64 y7) h), .g, .g]) (args := [(sv v1), .func (.func 39) #[] #[.pointer (some ⟨id6, off6 + 0, some g6⟩)]]) (h := h) (h' := h) (v := .bool (decide (y7 ≥ 0))) (hC := (ai (F51w39_spec l1 x2 x3 x4 x5 v1 id6 off6 g6 h hv1 at6 _ e7) trivial)) (hr := by kernel_rfl)
/-! 17 jacquard/explore.Pareto -/
def F17_L : List Nat := []
def F17_D : List (Nat × List (Nat × Nat)) := []
def F17_m1_1 : List Bool := [true, true, true, true, false, true, true, true, true, true, true, true, true, true, true, true, true, true, true, true, true, true, true, true, true, true, true, true, true]
def F17_m1_0 : List Bool := [true, true, true, true, false, true, true, true, true, true, true, true, false, false, false, true, true, true, true, true, true, true, true, true, true, true, true, true, true]
def F17_s1 (y6 : List (Int × Int × Int × Int)) (a10 : Int) (l11 : List (Int × Int × Int × Int)) : Option ((Int × (List (Int × Int × Int × Int))) ⊕ (List (Int × Int × Int × Int))) :=
  (bif decide (a10 < (y6.length : Int)) then
   (Option.bind (at? y6 a10) fun y14 =>
   (Option.bind (F38w39 l11 y14.1 y14.2.1 y14.2.2.1 y14.2.2.2) fun y18 =>
   (bif (!y18) then
    (bif (!(okApp (l11.length + ([(y14.1, y14.2.1, y14.2.2.1, y14.2.2.2)] : List (Int × Int × Int × Int)).length) 32)) then none else
    some (.inl ((IntKind.i64.wrap (a10 + 1)), (l11 ++ ([(y14.1, y14.2.1, y14.2.2.1, y14.2.2.2)] : List (Int × Int × Int × Int))))))
   else
    some (.inl ((IntKind.i64.wrap (a10 + 1)), l11)))))
  else
   some (.inr l11))
def F17_h1 (u3_0 : Hd) (y6 : List (Int × Int × Int × Int)) (h12 : AHeap) (u11 : Hd) (a10 : Int) (l11 : List (Int × Int × Int × Int)) : AS := ⟨[junk, junk, junk, junk, (sv u11), junk, junk, junk, junk, junk, junk, junk, (sv u3_0), .int .i64 (y6.length : Int), .int .i64 a10, junk, junk, junk, junk, junk, junk, junk, junk, junk, junk, junk, junk, junk, junk], [], h12⟩
theorem F17_d1 : drawsOk F17_D (codeOf Try.prog 17 [1, 1, 1, 1, 0, 1, 0, 0]) = true := by kernel_rfl
def F17_x1_0 (h : AHeap) (hx : AHeap) (w0 : Hd) (r : (List (Int × Int × Int × Int))) : AS := ⟨[junk, junk, junk, junk, (sv w0), junk, junk, junk, junk, junk, junk, junk, junk, junk, junk, junk, junk, junk, junk, junk, junk, junk, junk, junk, junk, junk, junk, junk, junk], [], hx⟩
def F17_i1 (h : AHeap) (u3_0 : Hd) (y6 : List (Int × Int × Int × Int)) (s : Int × (List (Int × Int × Int × Int))) (S : AS) : Prop := ∃ (h12 : AHeap) (u11 : Hd), Heapy h h12 [⟨u11, 49, 4, List.flatMap enc49 s.2⟩, ⟨u3_0, 49, 4, List.flatMap enc49 y6⟩] ∧ Strict u11 ∧ S = (F17_h1 u3_0 y6 h12 u11 s.1 s.2)
def F17_x1 (h : AHeap) (r : (List (Int × Int × Int × Int))) (e : Exit) (S : AS) : Prop := e = (.exit 0) ∧ ∃ (hx : AHeap) (w0 : Hd), Heapy h hx [⟨w0, 49, 4, List.flatMap enc49 r⟩] ∧ Strict w0 ∧ S = (F17_x1_0 h hx w0 r)
set_option maxRecDepth 100000 in
theorem F17_r1 (h : AHeap) (u3_0 : Hd) (y6 : List (Int × Int × Int × Int)) (a10 : Int) (l11 : List (Int × Int × Int × Int)) (S : AS) (hI : (F17_i1 h u3_0 y6) (a10, l11) S) (o : (Int × (List (Int × Int × Int × Int))) ⊕ (List (Int × Int × Int × Int))) : F17_s1 y6 a10 l11 = some o → Rd Try.prog (codeOf Try.prog 17 [1, 1, 1, 1, 0, 1, 0, 0]) (F17_i1 h u3_0 y6) (F17_x1 h) S o := by
  obtain ⟨h12, u11, hp12, z11, rfl⟩ := hI
  unfold F17_s1
  refine dec_bif (fun c13 => ?_) (fun c13 => ?_)
  · refine bind_opt fun y14 e14 => ?_
    obtain ⟨id14, off14, g14, cs14, ix14, at14, rfl⟩ := SlE.at (Heapy.sle (v := u3_0) (xs := y6) (enc := enc49) hp12 1 rfl (fun _ => rfl) (by decide)) e14
    obtain ⟨id15, g15, h15, m15, hp15⟩ := Heapy.box (P := Try.prog) hp12 49 [.int .i64 0, .int .i64 0, .int .i64 0, .int .i64 0] (c := 4) rfl
    obtain ⟨h17, m17, hp17⟩ := Heapy.bstore (P := Try.prog) (id := id15) (g := g15) (n := 1) (c := 4) (el := 49) (cells := [.int .i64 0, .int .i64 0, .int .i64 0, .int .i64 0]) hp15 0 rfl (t := 49) (x := .agg #[.int .i64 y14.1, .int .i64 y14.2.1, .int .i64 y14.2.2.1, .int .i64 y14.2.2.2]) 0 (vs := [.int .i64 y14.1, .int .i64 y14.2.1, .int .i64 y14.2.2.1, .int .i64 y14.2.2.2]) rfl (by kernel_rfl) rfl rfl rfl (cells' := [.int .i64 y14.1, .int .i64 y14.2.1, .int .i64 y14.2.2.1, .int .i64 y14.2.2.2]) rfl
    refine bind_opt fun y18 e18 => ?_
    refine dec_bif (fun c20 => ?_) (fun c20 => ?_)
    · obtain ⟨v21, h21, m21, hp21, _⟩ := Heapy.build (P := Try.prog) hp17 (t := 45) (e := 49) (len := 1) (n := 4) (parts := [(0, .agg #[.int .i64 y14.1, .int .i64 y14.2.1, .int .i64 y14.2.2.1, .int .i64 y14.2.2.2])]) (cells := List.flatMap enc49 ([(y14.1, y14.2.1, y14.2.2.1, y14.2.2.2)] : List (Int × Int × Int × Int))) (by kernel_rfl) rfl
      refine guard_ok fun g23 => ?_
      obtain ⟨v24, h24, m24, q24, _, w24⟩ := Heapy.append hp21 (show mkInfo Try.prog 45 = some (49, 4, 32, [.int .i64 0, .int .i64 0, .int .i64 0, .int .i64 0]) by kernel_rfl) 2 (v := u11) (cells := List.flatMap enc49 l11) rfl (Y := (sv v21)) (SlE.src (enc := enc49) (c := 4) (Heapy.sle (v := v21) (xs := ([(y14.1, y14.2.1, y14.2.2.1, y14.2.2.2)] : List (Int × Int × Int × Int))) (enc := enc49) hp21 0 rfl (fun _ => rfl) (by decide)) (fun _ => rfl)) (flatMap_length (enc := enc49) (c := 4) (fun _ => rfl) _) (by rw [Heapy.vn (v := u11) (xs := l11) (enc := enc49) hp21 2 rfl (fun _ => rfl) (by decide)]; simpa using g23)
      have z24 : Strict v24 := w24 z11
      have hp24 : Heapy h h24 [⟨v21, 49, 4, List.flatMap enc49 ([(y14.1, y14.2.1, y14.2.2.1, y14.2.2.2)] : List (Int × Int × Int × Int))⟩, ⟨⟨some ⟨id15, 0, some g15⟩, 1, 4⟩, 49, 4, [.int .i64 y14.1, .int .i64 y14.2.1, .int .i64 y14.2.2.1, .int .i64 y14.2.2.2]⟩, ⟨v24, 49, 4, List.flatMap enc49 (l11 ++ ([(y14.1, y14.2.1, y14.2.2.1, y14.2.2.2)] : List (Int × Int × Int × Int)))⟩, ⟨u3_0, 49, 4, List.flatMap enc49 y6⟩] := by rw [← List.flatMap_append] at q24; exact q24
      intro hr
      obtain rfl := Option.some.inj hr
      exact ⟨(F17_h1 u3_0 y6 h24 v24 (IntKind.i64.wrap (a10 + 1)) (l11 ++ ([(y14.1, y14.2.1, y14.2.2.1, y14.2.2.2)] : List (Int × Int × Int × Int)))), ⟨h24, v24, (Heapy.pick hp24 [2, 3] (by decide)), z24, rfl⟩, pEnd_sound good (L := F17_L) (D := F17_D) (its := [.g, (.b true), (.ix id14 off14 g14), (.ld (.agg #[.int .i64 y14.1, .int .i64 y14.2.1, .int .i64 y14.2.2.1, .int .i64 y14.2.2.2])), (.mm (.pointer (some ⟨id15, 0, some g15⟩)) h15), (.mm undef h17), .g, .g, (.c (.bool y18) h17), .g, .g, .g, (.b true), .g, (.ld (.agg #[.int .i64 y14.1, .int .i64 y14.2.1, .int .i64 y14.2.2.1, .int .i64 y14.2.2.2])), (.mm (sv v21) h21), (.mm (sv v24) h24), .g, .g, .g]) (ds := F17_m1_0) (ks := []) (e := .normal) (s2 := (F17_h1 u3_0 y6 h24 v24 (IntKind.i64.wrap (a10 + 1)) (l11 ++ ([(y14.1, y14.2.1, y14.2.2.1, y14.2.2.2)] : List (Int × Int × Int × Int))))) (hC := (ai m24 (ai m21 (ai (At.agg (P := Try.prog) (t := 49) (v := .agg #[.int .i64 y14.1, .int .i64 y14.2.1, .int .i64 y14.2.2.1, .int .i64 y14.2.2.2]) (m := 4) (Heapy.boxat (id := id15) (g := g15) (n := 1) (c := 4) (el := 49) (cells := [.int .i64 y14.1, .int .i64 y14.2.1, .int .i64 y14.2.2.1, .int .i64 y14.2.2.2]) hp17 0 rfl) (by kernel_rfl) (by kernel_rfl) 0 (by kernel_rfl) rfl) (ai c20 (ai (F38w39_spec l11 y14.1 y14.2.1 y14.2.2.1 y14.2.2.2 u11 id15 0 g15 h17 (Heapy.sle (v := u11) (xs := l11) (enc := enc49) hp17 1 rfl (fun _ => rfl) (by decide)) (Heapy.boxat (id := id15) (g := g15) (n := 1) (c := 4) (el := 49) (cells := [.int .i64 y14.1, .int .i64 y14.2.1, .int .i64 y14.2.2.1, .int .i64 y14.2.2.2]) hp17 0 rfl) _ e18) (ai m17 (ai m15 (ai (At.agg (P := Try.prog) (t := 49) (v := .agg #[.int .i64 y14.1, .int .i64 y14.2.1, .int .i64 y14.2.2.1, .int .i64 y14.2.2.2]) (m := 4) at14 (by kernel_rfl) (by kernel_rfl) 0 (by kernel_rfl) rfl) (ai ix14 (ai c13 trivial))))))))))) (hd := F17_d1) (h := by kernel_rfl)⟩
    · intro hr
      obtain rfl := Option.some.inj hr
      exact ⟨(F17_h1 u3_0 y6 h17 u11 (IntKind.i64.wrap (a10 + 1)) l11), ⟨h17, u11, (Heapy.pick hp17 [1, 2] (by decide)), z11, rfl⟩, pEnd_sound good (L := F17_L) (D := F17_D) (its := [.g, (.b true), (.ix id14 off14 g14), (.ld (.agg #[.int .i64 y14.1, .int .i64 y14.2.1, .int .i64 y14.2.2.1, .int .i64 y14.2.2.2])), (.mm (.pointer (some ⟨id15, 0, some g15⟩)) h15), (.mm undef h17), .g, .g, (.c (.bool y18) h17), .g, .g, .g, (.b false), .g, .g]) (ds := F17_m1_0) (ks := []) (e := .normal) (s2 := (F17_h1 u3_0 y6 h17 u11 (IntKind.i64.wrap (a10 + 1)) l11)) (hC := (ai c20 (ai (F38w39_spec l11 y14.1 y14.2.1 y14.2.2.1 y14.2.2.2 u11 id15 0 g15 h17 (Heapy.sle (v := u11) (xs := l11) (enc := enc49) hp17 1 rfl (fun _ => rfl) (by decide)) (Heapy.boxat (id := id15) (g := g15) (n := 1) (c := 4) (el := 49) (cells := [.int .i64 y14.1, .int .i64 y14.2.1, .int .i64 y14.2.2.1, .int .i64 y14.2.2.2]) hp17 0 rfl) _ e18) (ai m17 (ai m15 (ai (At.agg (P := Try.prog) (t := 49) (v := .agg #[.int .i64 y14.1, .int .i64 y14.2.1, .int .i64 y14.2.2.1, .int .i64 y14.2.2.2]) (m := 4) at14 (by kernel_rfl) (by kernel_rfl) 0 (by kernel_rfl) rfl) (ai ix14 (ai c13 trivial)))))))) (hd := F17_d1) (h := by kernel_rfl)⟩
  · intro hr
    obtain rfl := Option.some.inj hr
    refine ⟨(.exit 0), (F17_x1_0 h h12 u11 (l11 : (List (Int × Int × Int × Int)))), (by intro hh; cases hh), ?_, pEnd_sound good (L := F17_L) (D := F17_D) (its := [.g, (.b false)]) (ds := F17_m1_1) (ks := []) (e := (.exit 0)) (s2 := (F17_x1_0 h h12 u11 (l11 : (List (Int × Int × Int × Int))))) (hC := (ai c13 trivial)) (hd := F17_d1) (h := by kernel_rfl)⟩
    exact ⟨rfl, h12, u11, (Heapy.pick hp12 [0] (by decide)), z11, rfl⟩
theorem F17_l1 (h : AHeap) (u3_0 : Hd) (y6 : List (Int × Int × Int × Int)) (x : Int × (List (Int × Int × Int × Int))) (r : (List (Int × Int × Int × Int))) (hl : loopO (fun (s : Int × (List (Int × Int × Int × Int))) => F17_s1 y6 s.1 s.2) x = some r) (S : AS) (hI : (F17_i1 h u3_0 y6) x S) : ∃ e S', (F17_x1 h) r e S' ∧ AWp Try.prog (.loop (codeOf Try.prog 17 [1, 1, 1, 1, 0, 1, 0, 0])) (Ends1 e S') S :=
  loop_rel (fun x S hI => F17_r1 h u3_0 y6 x.1 x.2 S hI) hl hI
def F17 (l1 : List (Int × Int × Int × Int)) : Option ((List (Int × Int × Int × Int))) :=
  (Option.bind (F35 l1) fun y2 =>
  (Option.bind (F36w37 y2) fun y6 =>
  (Option.bind (loopO (fun (s : Int × (List (Int × Int × Int × Int))) => F17_s1 y6 s.1 s.2) (0, ([] : List (Int × Int × Int × Int)))) fun y26 =>
  some (y26))))
set_option maxRecDepth 100000 in
theorem F17_spec (l1 : List (Int × Int × Int × Int)) (v1 : Hd) (h : AHeap) (hw : h.wf) (hv1 : SlE E49 4 h (sv v1) l1) (r : (List (Int × Int × Int × Int))) : F17 l1 = some r → ∃ (ur0 : Hd) (h' : AHeap), Heapy h h' [⟨ur0, 49, 4, List.flatMap enc49 r⟩] ∧ Strict ur0 ∧ ACalls Try.prog 17 [(sv v1)] h (fun v' h'' => v' = ((sv ur0) : Value) ∧ h'' = h') := by
  unfold F17
  refine bind_opt fun y2 e2 => ?_
  obtain ⟨u3_0, h3, q3, c3⟩ := F35_spec l1 v1 h hw hv1 _ e2
  have hp3 : Heapy h h3 [⟨u3_0, 49, 4, List.flatMap enc49 y2⟩] := Heapy.call (Heapy.refl hw) q3
  refine bind_opt fun y6 e6 => ?_
  obtain ⟨b5, pb5, ob5, jb5⟩ := Heapy.io hp3 0 (s := ⟨u3_0, 49, 4, List.flatMap enc49 y2⟩) rfl
  obtain ⟨h7, q7, c7⟩ := F36w37_spec y2 u3_0 h3 b5 (Heapy.wf ob5) pb5 _ e6
  have hp7 : Heapy h h7 [⟨u3_0, 49, 4, List.flatMap enc49 y6⟩] := jb5 (r := []) (s' := ⟨u3_0, 49, 4, List.flatMap enc49 y6⟩) q7
  refine bind_opt fun y26 e26 => ?_
  have hp8 : Heapy h h7 [⟨⟨none, 0, 0⟩, 49, 4, List.flatMap enc49 ([] : List (Int × Int × Int × Int))⟩, ⟨u3_0, 49, 4, List.flatMap enc49 y6⟩] := Heapy.nil hp7 49 4
  obtain ⟨ee26, SS26, hX26, hA26⟩ := F17_l1 h u3_0 y6 (0, ([] : List (Int × Int × Int × Int))) y26 e26 (F17_h1 u3_0 y6 h7 ⟨none, 0, 0⟩ 0 ([] : List (Int × Int × Int × Int))) ⟨h7, ⟨none, 0, 0⟩, (Heapy.pick hp8 [0, 1] (by decide)), Strict.nil, rfl⟩
  obtain ⟨rfl, h27, w0_27, hp27, zw0_27, rfl⟩ := hX26
  intro hr
  obtain rfl := Option.some.inj hr
  exact ⟨w0_27, h27, Heapy.pick hp27 [0] (by decide), zw0_27, pFun_sound good tab_ok (f := 17) (its := [.g, .g, (.c ((sv u3_0)) h3), .g, .g, (.c (.tuple #[]) h7), .g, .g, (.ln y6.length), .g, (.l F17_m1_0 [] (.exit 0) (F17_x1_0 h h27 w0_27 y26)), .g, .g]) (args := [(sv v1)]) (h := h) (h' := h27) (v := (sv w0_27)) (hC := (ai hA26 (ai (SlE.len (Heapy.sle (v := u3_0) (xs := y6) (enc := enc49) hp7 0 rfl (fun _ => rfl) (by decide))) (ai c7 (ai c3 trivial))))) (hr := by kernel_rfl)⟩
/-! 18 jacquard/jacquardref55.Equal -/
def F18 (x1 : Int) (x2 : Int) (x3 : Int) (x4 : Int) (x5 : Int) (x6 : Int) (x7 : Int) (x8 : Int) : Bool :=
  (bif (x2 == x6) then
   (bif (x3 == x7) then
    (x4 == x8)
   else
    false)
  else
   false)
set_option maxRecDepth 100000 in
theorem F18_spec (x1 : Int) (x2 : Int) (x3 : Int) (x4 : Int) (x5 : Int) (x6 : Int) (x7 : Int) (x8 : Int) (h : AHeap)  (r : Bool) : F18 x1 x2 x3 x4 x5 x6 x7 x8 = r → ACalls Try.prog 18 [.agg #[.int .i64 x1, .int .i64 x2, .int .i64 x3, .int .i64 x4], .agg #[.int .i64 x5, .int .i64 x6, .int .i64 x7, .int .i64 x8]] h (fun v' h'' => v' = (.bool r : Value) ∧ h'' = h) := by
  unfold F18
  refine dec_bif (fun c9 => ?_) (fun c9 => ?_)
  · refine dec_bif (fun c10 => ?_) (fun c10 => ?_)
    · intro hr
      subst hr
      exact pFun_sound good tab_ok (f := 18) (its := [.g, .g, .g, .g, .g, .g, .g, .g, .g, (.w .g), (.w .g), (.w .g), (.w .g), (.w .g), (.p true), .g, (.w .g), (.w .g), (.w .g), (.w .g), (.w .g), (.p true), .g]) (args := [.agg #[.int .i64 x1, .int .i64 x2, .int .i64 x3, .int .i64 x4], .agg #[.int .i64 x5, .int .i64 x6, .int .i64 x7, .int .i64 x8]]) (h := h) (h' := h) (v := .bool (x4 == x8)) (hC := (ai c10 (ai (g_tt c10) (ai (g_tt c10) (ai (g_tt c10) (ai (g_tt c10) (ai (g_tt c10) (ai c9 (ai (g_tt c9) (ai (g_tt c9) (ai (g_tt c9) (ai (g_tt c9) (ai (g_tt c9) trivial))))))))))))) (hr := by kernel_rfl)
    · intro hr
      subst hr
      exact pFun_sound good tab_ok (f := 18) (its := [.g, .g, .g, .g, .g, .g, .g, .g, .g, (.w .g), (.w .g), (.w .g), (.w .g), (.w .g), (.p true), .g, .n, .n, .n, .n, .n, (.p false), .g]) (args := [.agg #[.int .i64 x1, .int .i64 x2, .int .i64 x3, .int .i64 x4], .agg #[.int .i64 x5, .int .i64 x6, .int .i64 x7, .int .i64 x8]]) (h := h) (h' := h) (v := .bool false) (hC := (ai c10 (ai (g_ft c10) (ai (g_ft c10) (ai (g_ft c10) (ai (g_ft c10) (ai (g_ft c10) (ai c9 (ai (g_tt c9) (ai (g_tt c9) (ai (g_tt c9) (ai (g_tt c9) (ai (g_tt c9) trivial))))))))))))) (hr := by kernel_rfl)
  · intro hr
    subst hr
    exact pFun_sound good tab_ok (f := 18) (its := [.g, .g, .g, .g, .g, .g, .g, .g, .g, .n, .n, .n, .n, .n, (.p false), .g, .n, .n, .n, .n, .n, .g, .g]) (args := [.agg #[.int .i64 x1, .int .i64 x2, .int .i64 x3, .int .i64 x4], .agg #[.int .i64 x5, .int .i64 x6, .int .i64 x7, .int .i64 x8]]) (h := h) (h' := h) (v := .bool false) (hC := (ai (g_ft l_f) (ai (g_ft l_f) (ai (g_ft l_f) (ai (g_ft l_f) (ai (g_ft l_f) (ai c9 (ai (g_ft c9) (ai (g_ft c9) (ai (g_ft c9) (ai (g_ft c9) (ai (g_ft c9) trivial)))))))))))) (hr := by kernel_rfl)
/-! 41 jacquard/jacquardref55.Less -/
def F41 (x1 : Int) (x2 : Int) (x3 : Int) (x4 : Int) (x5 : Int) (x6 : Int) (x7 : Int) (x8 : Int) : Bool :=
  (bif (x2 != x6) then
   (decide (x2 < x6))
  else
   (bif (x3 != x7) then
    (decide (x3 < x7))
   else
    (decide (x4 < x8))))
set_option maxRecDepth 100000 in
theorem F41_spec (x1 : Int) (x2 : Int) (x3 : Int) (x4 : Int) (x5 : Int) (x6 : Int) (x7 : Int) (x8 : Int) (h : AHeap)  (r : Bool) : F41 x1 x2 x3 x4 x5 x6 x7 x8 = r → ACalls Try.prog 41 [.agg #[.int .i64 x1, .int .i64 x2, .int .i64 x3, .int .i64 x4], .agg #[.int .i64 x5, .int .i64 x6, .int .i64 x7, .int .i64 x8]] h (fun v' h'' => v' = (.bool r : Value) ∧ h'' = h) := by
  unfold F41
  refine dec_bif (fun c9 => ?_) (fun c9 => ?_)
  · intro hr
    subst hr
    exact pFun_sound good tab_ok (f := 41) (its := [.g, .g, .g, .g, .g, .g, .g, .g, (.b true), .g, .g, .g, .g, .g, .g]) (args := [.agg #[.int .i64 x1, .int .i64 x2, .int .i64 x3, .int .i64 x4], .agg #[.int .i64 x5, .int .i64 x6, .int .i64 x7, .int .i64 x8]]) (h := h) (h' := h) (v := .bool (decide (x2 < x6))) (hC := (ai c9 trivial)) (hr := by kernel_rfl)
  · refine dec_bif (fun c10 => ?_) (fun c10 => ?_)
    · intro hr
      subst hr
      exact pFun_sound good tab_ok (f := 41) (its := [.g, .g, .g, .g, .g, .g, .g, .g, (.b false), .g, .g, .g, .g, .g, (.b true), .g, .g, .g, .g, .g, .g]) (args := [.agg #[.int .i64 x1, .int .i64 x2, .int .i64 x3, .int .i64 x4], .agg #[.int .i64 x5, .int .i64 x6, .int .i64 x7, .int .i64 x8]]) (h := h) (h' := h) (v := .bool (decide (x3 < x7))) (hC := (ai c10 (ai c9 trivial))) (hr := by kernel_rfl)
    · intro hr
      subst hr
      exact pFun_sound good tab_ok (f := 41) (its := [.g, .g, .g, .g, .g, .g, .g, .g, (.b false), .g, .g, .g, .g, .g, (.b false), .g, .g, .g, .g, .g, .g]) (args := [.agg #[.int .i64 x1, .int .i64 x2, .int .i64 x3, .int .i64 x4], .agg #[.int .i64 x5, .int .i64 x6, .int .i64 x7, .int .i64 x8]]) (h := h) (h' := h) (v := .bool (decide (x4 < x8))) (hC := (ai c10 (ai c9 trivial))) (hr := by kernel_rfl)
/-! 19 jacquard/jacquardref55.Dominates -/
def F19 (x1 : Int) (x2 : Int) (x3 : Int) (x4 : Int) (x5 : Int) (x6 : Int) (x7 : Int) (x8 : Int) : Bool :=
  (bif decide (x2 ≤ x6) then
   (bif decide (x3 ≤ x7) then
    (bif decide (x4 ≤ x8) then
     (bif (F41 x1 x2 x3 x4 x5 x6 x7 x8) then
      (!(F18 x1 x2 x3 x4 x5 x6 x7 x8))
     else
      false)
    else
     false)
   else
    false)
  else
   false)
set_option maxRecDepth 100000 in
theorem F19_spec (x1 : Int) (x2 : Int) (x3 : Int) (x4 : Int) (x5 : Int) (x6 : Int) (x7 : Int) (x8 : Int) (h : AHeap)  (r : Bool) : F19 x1 x2 x3 x4 x5 x6 x7 x8 = r → ACalls Try.prog 19 [.agg #[.int .i64 x1, .int .i64 x2, .int .i64 x3, .int .i64 x4], .agg #[.int .i64 x5, .int .i64 x6, .int .i64 x7, .int .i64 x8]] h (fun v' h'' => v' = (.bool r : Value) ∧ h'' = h) := by
  unfold F19
  refine dec_bif (fun c9 => ?_) (fun c9 => ?_)
  · refine dec_bif (fun c10 => ?_) (fun c10 => ?_)
    · refine dec_bif (fun c11 => ?_) (fun c11 => ?_)
      · refine dec_bif (fun c13 => ?_) (fun c13 => ?_)
        · intro hr
          subst hr
          exact pFun_sound good tab_ok (f := 19) (its := [.g, .g, .g, .g, .g, .g, .g, .g, .g, (.w .g), (.w .g), (.w .g), (.w .g), (.w .g), (.p true), .g, (.w .g), (.w .g), (.w .g), (.w .g), (.w .g), (.p true), .g, (.w .g), (.w .g), (.w (.c (.bool (F41 x1 x2 x3 x4 x5 x6 x7 x8)) h)), (.p true), .g, (.w .g), (.w .g), (.w (.c (.bool (F18 x1 x2 x3 x4 x5 x6 x7 x8)) h)), (.w .g), (.p true), .g]) (args := [.agg #[.int .i64 x1, .int .i64 x2, .int .i64 x3, .int .i64 x4], .agg #[.int .i64 x5, .int .i64 x6, .int .i64 x7, .int .i64 x8]]) (h := h) (h' := h) (v := .bool (!(F18 x1 x2 x3 x4 x5 x6 x7 x8))) (hC := (ai c13 (ai (g_tt c13) (ai (F18_spec x1 x2 x3 x4 x5 x6 x7 x8 h _ rfl) (ai (g_tt c13) (ai (g_tt c13) (ai (g_tt c13) (ai c11 (ai (F41_spec x1 x2 x3 x4 x5 x6 x7 x8 h _ rfl) (ai (g_tt c11) (ai (g_tt c11) (ai (g_tt c11) (ai c10 (ai (g_tt c10) (ai (g_tt c10) (ai (g_tt c10) (ai (g_tt c10) (ai (g_tt c10) (ai c9 (ai (g_tt c9) (ai (g_tt c9) (ai (g_tt c9) (ai (g_tt c9) (ai (g_tt c9) trivial)))))))))))))))))))))))) (hr := by kernel_rfl)
        · intro hr
          subst hr
          exact pFun_sound good tab_ok (f := 19) (its := [.g, .g, .g, .g, .g, .g, .g, .g, .g, (.w .g), (.w .g), (.w .g), (.w .g), (.w .g), (.p true), .g, (.w .g), (.w .g), (.w .g), (.w .g), (.w .g), (.p true), .g, (.w .g), (.w .g), (.w (.c (.bool (F41 x1 x2 x3 x4 x5 x6 x7 x8)) h)), (.p true), .g, .n, .n, .n, .n, (.p false), .g]) (args := [.agg #[.int .i64 x1, .int .i64 x2, .int .i64 x3, .int .i64 x4], .agg #[.int .i64 x5, .int .i64 x6, .int .i64 x7, .int .i64 x8]]) (h := h) (h' := h) (v := .bool false) (hC := (ai c13 (ai (g_ft c13) (ai (g_ft c13) (ai (g_ft c13) (ai (g_ft c13) (ai c11 (ai (F41_spec x1 x2 x3 x4 x5 x6 x7 x8 h _ rfl) (ai (g_tt c11) (ai (g_tt c11) (ai (g_tt c11) (ai c10 (ai (g_tt c10) (ai (g_tt c10) (ai (g_tt c10) (ai (g_tt c10) (ai (g_tt c10) (ai c9 (ai (g_tt c9) (ai (g_tt c9) (ai (g_tt c9) (ai (g_tt c9) (ai (g_tt c9) trivial))))))))))))))))))))))) (hr := by kernel_rfl)
      · intro hr
        subst hr
        exact pFun_sound good tab_ok (f := 19) (its := [.g, .g, .g, .g, .g, .g, .g, .g, .g, (.w .g), (.w .g), (.w .g), (.w .g), (.w .g), (.p true), .g, (.w .g), (.w .g), (.w .g), (.w .g), (.w .g), (.p true), .g, .n, .n, .n, (.p false), .g, .n, .n, .n, .n, .g, .g]) (args := [.agg #[.int .i64 x1, .int .i64 x2, .int .i64 x3, .int .i64 x4], .agg #[.int .i64 x5, .int .i64 x6, .int .i64 x7, .int .i64 x8]]) (h := h) (h' := h) (v := .bool false) (hC := (ai (g_ft l_f) (ai (g_ft l_f) (ai (g_ft l_f) (ai (g_ft l_f) (ai c11 (ai (g_ft c11) (ai (g_ft c11) (ai (g_ft c11) (ai c10 (ai (g_tt c10) (ai (g_tt c10) (ai (g_tt c10) (ai (g_tt c10) (ai (g_tt c10) (ai c9 (ai (g_tt c9) (ai (g_tt c9) (ai (g_tt c9) (ai (g_tt c9) (ai (g_tt c9) trivial))))))))))))))))))))) (hr := by kernel_rfl)
    · intro hr
      subst hr
      exact pFun_sound good tab_ok (f := 19) (its := [.g, .g, .g, .g, .g, .g, .g, .g, .g, (.w .g), (.w .g), (.w .g), (.w .g), (.w .g), (.p true), .g, .n, .n, .n, .n, .n, (.p false), .g, .n, .n, .n, .g, .g, .n, .n, .n, .n, .g, .g]) (args := [.agg #[.int .i64 x1, .int .i64 x2, .int .i64 x3, .int .i64 x4], .agg #[.int .i64 x5, .int .i64 x6, .int .i64 x7, .int .i64 x8]]) (h := h) (h' := h) (v := .bool false) (hC := (ai (g_ft l_f) (ai (g_ft l_f) (ai (g_ft l_f) (ai (g_ft l_f) (ai (g_ft l_f) (ai (g_ft l_f) (ai (g_ft l_f) (ai c10 (ai (g_ft c10) (ai (g_ft c10) (ai (g_ft c10) (ai (g_ft c10) (ai (g_ft c10) (ai c9 (ai (g_tt c9) (ai (g_tt c9) (ai (g_tt c9) (ai (g_tt c9) (ai (g_tt c9) trivial)))))))))))))))))))) (hr := by kernel_rfl)
  · intro hr
    subst hr
    exact pFun_sound good tab_ok (f := 19) (its := [.g, .g, .g, .g, .g, .g, .g, .g, .g, .n, .n, .n, .n, .n, (.p false), .g, .n, .n, .n, .n, .n, .g, .g, .n, .n, .n, .g, .g, .n, .n, .n, .n, .g, .g]) (args := [.agg #[.int .i64 x1, .int .i64 x2, .int .i64 x3, .int .i64 x4], .agg #[.int .i64 x5, .int .i64 x6, .int .i64 x7, .int .i64 x8]]) (h := h) (h' := h) (v := .bool false) (hC := (ai (g_ft l_f) (ai (g_ft l_f) (ai (g_ft l_f) (ai (g_ft l_f) (ai (g_ft l_f) (ai (g_ft l_f) (ai (g_ft l_f) (ai (g_ft l_f) (ai (g_ft l_f) (ai (g_ft l_f) (ai (g_ft l_f) (ai (g_ft l_f) (ai c9 (ai (g_ft c9) (ai (g_ft c9) (ai (g_ft c9) (ai (g_ft c9) (ai (g_ft c9) trivial))))))))))))))))))) (hr := by kernel_rfl)
/-! 20 jacquard/jacquardlaw55.same -/
def F20_L : List Nat := []
def F20_D : List (Nat × List (Nat × Nat)) := [(6, [(0, 2), (1, 2), (2, 2), (3, 2), (4, 2), (5, 2), (6, 2), (7, 2), (8, 2)])]
def F20__1 (y6 : Int × Int × Int × Int) (y7 : Int × Int × Int × Int) : Bool := (!((y6.1 == y7.1) && ((y6.2.1 == y7.2.1) && ((y6.2.2.1 == y7.2.2.1) && ((y6.2.2.2 == y7.2.2.2) && true)))))
def F20_m1_2 : List Bool := [true, true, true, true, true, true, true, true, true, true, true, true, true, true, true, true, true, true, true, true, true, true, true, true, true, true]
def F20_m1_1 : List Bool := [false, false, true, true, true, true, true, true, true, true, true, true, false, false, true, true, true, true, true, true, true, true, true, true, true, true]
def F20_m1_0 : List Bool := [true, true, true, true, false, true, true, true, true, true, true, true, true, true, true, true, true, true, true, true, true, true, true, true, true, true]
def F20_s1 (l1 : List (Int × Int × Int × Int)) (l2 : List (Int × Int × Int × Int)) (a4 : Int) : Option (Int ⊕ Nat) :=
  (bif decide (a4 < (l1.length : Int)) then
   (Option.bind (at? l1 a4) fun y6 =>
   (Option.bind (at? l2 a4) fun y7 =>
   (bif (F20__1 y6 y7) then
    some (.inr 0)
   else
    some (.inl (IntKind.i64.wrap (a4 + 1))))))
  else
   some (.inr 1))
def F20_h1 (h : AHeap) (l1 : List (Int × Int × Int × Int)) (v1 : Hd) (v2 : Hd)  (a4 : Int) : AS := ⟨[(sv v1), (sv v2), junk, junk, junk, junk, junk, junk, junk, junk, junk, junk, .int .i64 (l1.length : Int), .int .i64 a4, junk, junk, junk, junk, junk, junk, junk, junk, junk, junk, junk, junk], [], h⟩
theorem F20_d1 : drawsOk F20_D (codeOf Try.prog 20 [1, 1, 0, 1, 0, 0]) = true := by kernel_rfl
def F20_x1_0 (h : AHeap)  (r : Nat) : AS := ⟨[junk, junk, junk, junk, .bool false, junk, junk, junk, junk, junk, junk, junk, junk, junk, junk, junk, junk, junk, junk, junk, junk, junk, junk, junk, junk, junk], [], h⟩
def F20_x1_1 (h : AHeap)  (r : Nat) : AS := ⟨[junk, junk, junk, junk, junk, junk, junk, junk, junk, junk, junk, junk, junk, junk, junk, junk, junk, junk, junk, junk, junk, junk, junk, junk, junk, junk], [], h⟩
def F20_x1 (h : AHeap) (r : Nat) : Exit × AS := (bif Nat.beq r 0 then (.ret, (F20_x1_0 h r)) else ((.exit 0), (F20_x1_1 h r)))
set_option maxRecDepth 100000 in
theorem F20_r1 (h : AHeap) (l1 : List (Int × Int × Int × Int)) (v1 : Hd) (hv1 : SlE E49 4 h (sv v1) l1) (l2 : List (Int × Int × Int × Int)) (v2 : Hd) (hv2 : SlE E49 4 h (sv v2) l2) (a4 : Int) (o : Int ⊕ Nat) : F20_s1 l1 l2 a4 = some o → RdF Try.prog (codeOf Try.prog 20 [1, 1, 0, 1, 0, 0]) (fun (s : Int) => (F20_h1 h l1 v1 v2 s)) (F20_x1 h) (F20_h1 h l1 v1 v2 a4) o := by
  unfold F20_s1
  refine dec_bif (fun c5 => ?_) (fun c5 => ?_)
  · refine bind_opt fun y6 e6 => ?_
    obtain ⟨id6, off6, g6, cs6, ix6, at6, rfl⟩ := SlE.at hv1 e6
    refine bind_opt fun y7 e7 => ?_
    obtain ⟨id7, off7, g7, cs7, ix7, at7, rfl⟩ := SlE.at hv2 e7
    refine dec_bif (fun c8 => ?_) (fun c8 => ?_)
    · intro hr
      obtain rfl := Option.some.inj hr
      show AWp Try.prog _ (Ends1 ((F20_x1 h) (0 : Nat)).1 ((F20_x1 h) (0 : Nat)).2) _
      exact pEnd_sound good (L := F20_L) (D := F20_D) (its := [.g, (.b true), .g, .g, .g, .g, (.ix id6 off6 g6), (.ld (.agg #[.int .i64 y6.1, .int .i64 y6.2.1, .int .i64 y6.2.2.1, .int .i64 y6.2.2.2])), .g, .g, (.ix id7 off7 g7), (.ld (.agg #[.int .i64 y7.1, .int .i64 y7.2.1, .int .i64 y7.2.2.1, .int .i64 y7.2.2.2])), (.eq ((y6.1 == y7.1) && ((y6.2.1 == y7.2.1) && ((y6.2.2.1 == y7.2.2.1) && ((y6.2.2.2 == y7.2.2.2) && true))))), (.b true), .g]) (ds := F20_m1_0) (ks := []) (e := ((F20_x1 h) (0 : Nat)).1) (s2 := ((F20_x1 h) (0 : Nat)).2) (hC := (ai c8 (ai (show aggEq Try.prog 49 #[.int .i64 y6.1, .int .i64 y6.2.1, .int .i64 y6.2.2.1, .int .i64 y6.2.2.2] #[.int .i64 y7.1, .int .i64 y7.2.1, .int .i64 y7.2.2.1, .int .i64 y7.2.2.2] = some ((y6.1 == y7.1) && ((y6.2.1 == y7.2.1) && ((y6.2.2.1 == y7.2.2.1) && ((y6.2.2.2 == y7.2.2.2) && true)))) by kernel_rfl) (ai (At.agg (P := Try.prog) (t := 49) (v := .agg #[.int .i64 y7.1, .int .i64 y7.2.1, .int .i64 y7.2.2.1, .int .i64 y7.2.2.2]) (m := 4) at7 (by kernel_rfl) (by kernel_rfl) 0 (by kernel_rfl) rfl) (ai ix7 (ai (At.agg (P := Try.prog) (t := 49) (v := .agg #[.int .i64 y6.1, .int .i64 y6.2.1, .int .i64 y6.2.2.1, .int .i64 y6.2.2.2]) (m := 4) at6 (by kernel_rfl) (by kernel_rfl) 0 (by kernel_rfl) rfl) (ai ix6 (ai c5 trivial)))))))) (hd := F20_d1) (h := by kernel_rfl)
    · intro hr
      obtain rfl := Option.some.inj hr
      show AWp Try.prog _ (Ends1 .normal (F20_h1 h l1 v1 v2 (IntKind.i64.wrap (a4 + 1)))) _
      exact pEnd_sound good (L := F20_L) (D := F20_D) (its := [.g, (.b true), .g, .g, .g, .g, (.ix id6 off6 g6), (.ld (.agg #[.int .i64 y6.1, .int .i64 y6.2.1, .int .i64 y6.2.2.1, .int .i64 y6.2.2.2])), .g, .g, (.ix id7 off7 g7), (.ld (.agg #[.int .i64 y7.1, .int .i64 y7.2.1, .int .i64 y7.2.2.1, .int .i64 y7.2.2.2])), (.eq ((y6.1 == y7.1) && ((y6.2.1 == y7.2.1) && ((y6.2.2.1 == y7.2.2.1) && ((y6.2.2.2 == y7.2.2.2) && true))))), (.b false), .g, .g]) (ds := F20_m1_1) (ks := []) (e := .normal) (s2 := (F20_h1 h l1 v1 v2 (IntKind.i64.wrap (a4 + 1)))) (hC := (ai c8 (ai (show aggEq Try.prog 49 #[.int .i64 y6.1, .int .i64 y6.2.1, .int .i64 y6.2.2.1, .int .i64 y6.2.2.2] #[.int .i64 y7.1, .int .i64 y7.2.1, .int .i64 y7.2.2.1, .int .i64 y7.2.2.2] = some ((y6.1 == y7.1) && ((y6.2.1 == y7.2.1) && ((y6.2.2.1 == y7.2.2.1) && ((y6.2.2.2 == y7.2.2.2) && true)))) by kernel_rfl) (ai (At.agg (P := Try.prog) (t := 49) (v := .agg #[.int .i64 y7.1, .int .i64 y7.2.1, .int .i64 y7.2.2.1, .int .i64 y7.2.2.2]) (m := 4) at7 (by kernel_rfl) (by kernel_rfl) 0 (by kernel_rfl) rfl) (ai ix7 (ai (At.agg (P := Try.prog) (t := 49) (v := .agg #[.int .i64 y6.1, .int .i64 y6.2.1, .int .i64 y6.2.2.1, .int .i64 y6.2.2.2]) (m := 4) at6 (by kernel_rfl) (by kernel_rfl) 0 (by kernel_rfl) rfl) (ai ix6 (ai c5 trivial)))))))) (hd := F20_d1) (h := by kernel_rfl)
  · intro hr
    obtain rfl := Option.some.inj hr
    show AWp Try.prog _ (Ends1 ((F20_x1 h) (1 : Nat)).1 ((F20_x1 h) (1 : Nat)).2) _
    exact pEnd_sound good (L := F20_L) (D := F20_D) (its := [.g, (.b false)]) (ds := F20_m1_2) (ks := []) (e := ((F20_x1 h) (1 : Nat)).1) (s2 := ((F20_x1 h) (1 : Nat)).2) (hC := (ai c5 trivial)) (hd := F20_d1) (h := by kernel_rfl)
theorem F20_l1_0 (h : AHeap) (l1 : List (Int × Int × Int × Int)) (v1 : Hd) (hv1 : SlE E49 4 h (sv v1) l1) (l2 : List (Int × Int × Int × Int)) (v2 : Hd) (hv2 : SlE E49 4 h (sv v2) l2) (x : Int) (r : Nat) (hl : loopO (fun (s : Int) => F20_s1 l1 l2 s) x = some r) (q0 : Nat.beq r 0 = true) : AWp Try.prog (.loop (codeOf Try.prog 20 [1, 1, 0, 1, 0, 0])) (Ends1 .ret (F20_x1_0 h r)) ((fun (s : Int) => (F20_h1 h l1 v1 v2 s)) x) := by
  have k := loop_fun (P := Try.prog) (c := (codeOf Try.prog 20 [1, 1, 0, 1, 0, 0])) (step := (fun (s : Int) => F20_s1 l1 l2 s)) (hd := (fun (s : Int) => (F20_h1 h l1 v1 v2 s))) (X := (F20_x1 h)) (by intro t; unfold F20_x1; cases Nat.beq t 0 <;> (intro h; cases h)) (fun x => F20_r1 h l1 v1 hv1 l2 v2 hv2 x) hl
  simp only [F20_x1, q0, cond_true, cond_false] at k
  exact k
theorem F20_l1_1 (h : AHeap) (l1 : List (Int × Int × Int × Int)) (v1 : Hd) (hv1 : SlE E49 4 h (sv v1) l1) (l2 : List (Int × Int × Int × Int)) (v2 : Hd) (hv2 : SlE E49 4 h (sv v2) l2) (x : Int) (r : Nat) (hl : loopO (fun (s : Int) => F20_s1 l1 l2 s) x = some r) (q0 : Nat.beq r 0 = false) : AWp Try.prog (.loop (codeOf Try.prog 20 [1, 1, 0, 1, 0, 0])) (Ends1 (.exit 0) (F20_x1_1 h r)) ((fun (s : Int) => (F20_h1 h l1 v1 v2 s)) x) := by
  have k := loop_fun (P := Try.prog) (c := (codeOf Try.prog 20 [1, 1, 0, 1, 0, 0])) (step := (fun (s : Int) => F20_s1 l1 l2 s)) (hd := (fun (s : Int) => (F20_h1 h l1 v1 v2 s))) (X := (F20_x1 h)) (by intro t; unfold F20_x1; cases Nat.beq t 0 <;> (intro h; cases h)) (fun x => F20_r1 h l1 v1 hv1 l2 v2 hv2 x) hl
  simp only [F20_x1, q0, cond_true, cond_false] at k
  exact k
def F20 (l1 : List (Int × Int × Int × Int)) (l2 : List (Int × Int × Int × Int)) : Option (Bool) :=
  (bif ((l1.length : Int) != (l2.length : Int)) then
   some (false)
  else
   (Option.bind (loopO (fun (s : Int) => F20_s1 l1 l2 s) 0) fun y9 =>
   (bif (Nat.beq y9 0) then
    some (false)
   else
    some (true))))
set_option maxRecDepth 100000 in
theorem F20_spec (l1 : List (Int × Int × Int × Int)) (l2 : List (Int × Int × Int × Int)) (v1 : Hd) (v2 : Hd) (h : AHeap) (hv1 : SlE E49 4 h (sv v1) l1) (hv2 : SlE E49 4 h (sv v2) l2) (r : Bool) : F20 l1 l2 = some r → ACalls Try.prog 20 [(sv v1), (sv v2)] h (fun v' h'' => v' = (.bool r : Value) ∧ h'' = h) := by
  unfold F20
  refine dec_bif (fun c3 => ?_) (fun c3 => ?_)
  · intro hr
    obtain rfl := Option.some.inj hr
    exact pFun_sound good tab_ok (f := 20) (its := [.g, .g, (.ln l1.length), .g, (.ln l2.length), .g, (.b true), .g]) (args := [(sv v1), (sv v2)]) (h := h) (h' := h) (v := .bool false) (hC := (ai c3 (ai (SlE.len hv2) (ai (SlE.len hv1) trivial)))) (hr := by kernel_rfl)
  · refine bind_opt fun y9 e9 => ?_
    refine dec_bif (fun c10 => ?_) (fun c10 => ?_)
    · intro hr
      obtain rfl := Option.some.inj hr
      exact pFun_sound good tab_ok (f := 20) (its := [.g, .g, (.ln l1.length), .g, (.ln l2.length), .g, (.b false), .g, (.ln l1.length), .g, (.l F20_m1_1 [] .ret (F20_x1_0 h y9))]) (args := [(sv v1), (sv v2)]) (h := h) (h' := h) (v := .bool false) (hC := (ai (F20_l1_0 h l1 v1 hv1 l2 v2 hv2 0 y9 e9 c10) (ai (SlE.len hv1) (ai c3 (ai (SlE.len hv2) (ai (SlE.len hv1) trivial)))))) (hr := by kernel_rfl)
    · intro hr
      obtain rfl := Option.some.inj hr
      exact pFun_sound good tab_ok (f := 20) (its := [.g, .g, (.ln l1.length), .g, (.ln l2.length), .g, (.b false), .g, (.ln l1.length), .g, (.l F20_m1_1 [] (.exit 0) (F20_x1_1 h y9)), .g]) (args := [(sv v1), (sv v2)]) (h := h) (h' := h) (v := .bool true) (hC := (ai (F20_l1_1 h l1 v1 hv1 l2 v2 hv2 0 y9 e9 c10) (ai (SlE.len hv1) (ai c3 (ai (SlE.len hv2) (ai (SlE.len hv1) trivial)))))) (hr := by kernel_rfl)
/-! 7 jacquard/jacquardlaw55.ExploreCovers -/
def F7_L : List Nat := []
def F7_D : List (Nat × List (Nat × Nat)) := [(11, [(0, 2), (1, 2), (2, 2), (3, 2), (4, 2), (5, 2), (6, 2), (7, 2), (8, 2), (9, 2), (10, 1), (11, 2), (12, 2), (13, 2), (14, 2), (15, 2), (16, 2), (17, 2), (18, 2), (19, 2), (20, 2), (21, 1), (22, 2), (23, 2)]), (22, [(0, 2), (1, 2), (2, 2), (3, 2), (4, 2), (5, 2), (6, 2), (7, 2), (8, 2), (9, 2), (10, 2), (11, 2), (12, 1), (13, 2), (14, 2), (15, 2), (16, 2), (17, 2), (18, 2), (19, 2), (20, 2), (21, 2), (22, 1), (23, 2), (24, 2)])]
def F7_m1_1 : List Bool := [false, true, true, false, true, false, true, true, true, true, true, true, true, true, true, true, true, true, true, true, false, false, true, true, true, true, true, true, true, true, true, true, true, true, true, true, true, true, true, true, true, true, true, true, true, true, true, true, true, true, true, true, true, true, true, true, true, true, true, true, true, true, true, true, true, true, true, true, true, true, true, true, true, true, true, true, true, true, true, true, true, true, true, true, true, true, true, true, true, true, true, true, true, true, true, true, true]
def F7_m1_0 : List Bool := [false, true, true, false, false, false, true, true, true, true, true, true, true, true, true, true, true, true, true, true, false, false, true, true, true, false, false, true, true, true, true, true, true, true, true, true, true, true, true, true, true, true, true, true, true, true, true, true, true, true, true, true, true, true, true, true, true, true, true, true, true, true, true, true, true, true, true, true, true, true, true, true, true, true, true, true, true, true, true, true, true, true, true, true, true, true, true, true, true, true, true, true, true, true, true, true, true]
def F7_s1 (l1 : List (Int × Int × Int × Int)) (y5 : (List (Int × Int × Int × Int))) (a8 : Int) (a10 : Bool) (a11 : Int) : Option ((Bool × Int) ⊕ Bool) :=
  (bif decide (a11 < (y5.length : Int)) then
   (bif a10 then
    some (.inl (true, (IntKind.i64.wrap (a11 + 1))))
   else
    (Option.bind (at? y5 a11) fun y14 =>
    (Option.bind (at? l1 a8) fun y15 =>
    (bif (F18 y14.1 y14.2.1 y14.2.2.1 y14.2.2.2 y15.1 y15.2.1 y15.2.2.1 y15.2.2.2) then
     some (.inl (true, (IntKind.i64.wrap (a11 + 1))))
    else
     some (.inl ((F19 y14.1 y14.2.1 y14.2.2.1 y14.2.2.2 y15.1 y15.2.1 y15.2.2.1 y15.2.2.2), (IntKind.i64.wrap (a11 + 1))))))))
  else
   some (.inr a10))
def F7_h1 (l1 : List (Int × Int × Int × Int)) (v1 : Hd) (y5 : (List (Int × Int × Int × Int))) (u6_0 : Hd) (h6 : AHeap) (a8 : Int)  (a10 : Bool) (a11 : Int) : AS := ⟨[(sv v1), junk, junk, (sv u6_0), .int .i64 a8, .bool a10, junk, junk, junk, junk, junk, junk, junk, junk, junk, junk, junk, junk, junk, junk, .int .i64 (l1.length : Int), .int .i64 a8, junk, junk, junk, .int .i64 (y5.length : Int), .int .i64 a11, junk, junk, junk, junk, junk, junk, junk, junk, junk, junk, junk, junk, junk, junk, junk, junk, junk, junk, junk, junk, junk, junk, junk, junk, junk, junk, junk, junk, junk, junk, junk, junk, junk, junk, junk, junk, junk, junk, junk, junk, junk, junk, junk, junk, junk, junk, junk, junk, junk, junk, junk, junk, junk, junk, junk, junk, junk, junk, junk, junk, junk, junk, junk, junk, junk, junk, junk, junk, junk, junk], [], h6⟩
theorem F7_d1 : drawsOk F7_D (codeOf Try.prog 7 [1, 1, 1, 0, 1, 0, 0, 1, 1, 0, 0, 1, 1, 0, 1, 0, 0]) = true := by kernel_rfl
def F7_x1_0 (l1 : List (Int × Int × Int × Int)) (v1 : Hd) (u6_0 : Hd) (h6 : AHeap) (a8 : Int)  (r : Bool) : AS := ⟨[(sv v1), junk, junk, (sv u6_0), junk, .bool r, junk, junk, junk, junk, junk, junk, junk, junk, junk, junk, junk, junk, junk, junk, .int .i64 (l1.length : Int), .int .i64 a8, junk, junk, junk, junk, junk, junk, junk, junk, junk, junk, junk, junk, junk, junk, junk, junk, junk, junk, junk, junk, junk, junk, junk, junk, junk, junk, junk, junk, junk, junk, junk, junk, junk, junk, junk, junk, junk, junk, junk, junk, junk, junk, junk, junk, junk, junk, junk, junk, junk, junk, junk, junk, junk, junk, junk, junk, junk, junk, junk, junk, junk, junk, junk, junk, junk, junk, junk, junk, junk, junk, junk, junk, junk, junk, junk], [], h6⟩
def F7_x1 (l1 : List (Int × Int × Int × Int)) (v1 : Hd) (u6_0 : Hd) (h6 : AHeap) (a8 : Int) (r : Bool) : Exit × AS := ((.exit 2), (F7_x1_0 l1 v1 u6_0 h6 a8 r))
set_option maxRecDepth 100000 in
theorem F7_r1 (h : AHeap) (l1 : List (Int × Int × Int × Int)) (v1 : Hd) (hv1 : SlE E49 4 h (sv v1) l1) (y5 : (List (Int × Int × Int × Int))) (u6_0 : Hd) (h6 : AHeap) (hp6 : Heapy h h6 [⟨u6_0, 49, 4, List.flatMap enc49 y5⟩]) (a8 : Int) (a10 : Bool) (a11 : Int) (o : (Bool × Int) ⊕ Bool) : F7_s1 l1 y5 a8 a10 a11 = some o → RdF Try.prog (codeOf Try.prog 7 [1, 1, 1, 0, 1, 0, 0, 1, 1, 0, 0, 1, 1, 0, 1, 0, 0]) (fun (s : Bool × Int) => (F7_h1 l1 v1 y5 u6_0 h6 a8 s.1 s.2)) (F7_x1 l1 v1 u6_0 h6 a8) (F7_h1 l1 v1 y5 u6_0 h6 a8 a10 a11) o := by
  unfold F7_s1
  refine dec_bif (fun c12 => ?_) (fun c12 => ?_)
  · refine dec_bif (fun c13 => ?_) (fun c13 => ?_)
    · intro hr
      obtain rfl := Option.some.inj hr
      show AWp Try.prog _ (Ends1 .normal (F7_h1 l1 v1 y5 u6_0 h6 a8 true (IntKind.i64.wrap (a11 + 1)))) _
      exact pEnd_sound good (L := F7_L) (D := F7_D) (its := [.g, (.b true), .g, .g, .g, .g, .n, .n, .n, .n, .n, .n, .n, .n, .n, (.p true), .g, .n, .n, .n, .n, .n, .n, .n, .n, .n, .g, .g, .g, .g]) (ds := F7_m1_0) (ks := []) (e := .normal) (s2 := (F7_h1 l1 v1 y5 u6_0 h6 a8 true (IntKind.i64.wrap (a11 + 1)))) (hC := (ai (g_tf l_t) (ai (g_tf l_t) (ai (g_tf l_t) (ai (g_tf l_t) (ai (g_tf l_t) (ai (g_tf l_t) (ai (g_tf l_t) (ai (g_tf l_t) (ai (g_tf l_t) (ai c13 (ai (g_tf c13) (ai (g_tf c13) (ai (g_tf c13) (ai (g_tf c13) (ai (g_tf c13) (ai (g_tf c13) (ai (g_tf c13) (ai (g_tf c13) (ai (g_tf c13) (ai c12 trivial))))))))))))))))))))) (hd := F7_d1) (h := by kernel_rfl)
    · refine bind_opt fun y14 e14 => ?_
      obtain ⟨id14, off14, g14, cs14, ix14, at14, rfl⟩ := SlE.at (Heapy.sle (v := u6_0) (xs := y5) (enc := enc49) hp6 0 rfl (fun _ => rfl) (by decide)) e14
      refine bind_opt fun y15 e15 => ?_
      obtain ⟨id15, off15, g15, cs15, ix15, at15, rfl⟩ := SlE.at hv1 e15
      refine dec_bif (fun c17 => ?_) (fun c17 => ?_)
      · intro hr
        obtain rfl := Option.some.inj hr
        show AWp Try.prog _ (Ends1 .normal (F7_h1 l1 v1 y5 u6_0 h6 a8 true (IntKind.i64.wrap (a11 + 1)))) _
        exact pEnd_sound good (L := F7_L) (D := F7_D) (its := [.g, (.b true), .g, .g, .g, .g, (.w .g), (.w .g), (.w (.ix id14 off14 g14)), (.w (.ld (.agg #[.int .i64 y14.1, .int .i64 y14.2.1, .int .i64 y14.2.2.1, .int .i64 y14.2.2.2]))), (.w .g), (.w .g), (.w (.ix id15 off15 g15)), (.w (.ld (.agg #[.int .i64 y15.1, .int .i64 y15.2.1, .int .i64 y15.2.2.1, .int .i64 y15.2.2.2]))), (.w (.c (.bool (F18 y14.1 y14.2.1 y14.2.2.1 y14.2.2.2 y15.1 y15.2.1 y15.2.2.1 y15.2.2.2)) h6)), (.p false), .g, .n, .n, .n, .n, .n, .n, .n, .n, .n, (.p true), .g, .g, .g]) (ds := F7_m1_0) (ks := []) (e := .normal) (s2 := (F7_h1 l1 v1 y5 u6_0 h6 a8 true (IntKind.i64.wrap (a11 + 1)))) (hC := (ai c17 (ai (g_tf c17) (ai (g_tf c17) (ai (g_tf c17) (ai (g_tf c17) (ai (g_tf c17) (ai (g_tf c17) (ai (g_tf c17) (ai (g_tf c17) (ai (g_tf c17) (ai c13 (ai (show AKeep h6 h6 from (AHeap.sub_refl h6)) (ai (F18_spec y14.1 y14.2.1 y14.2.2.1 y14.2.2.2 y15.1 y15.2.1 y15.2.2.1 y15.2.2.2 h6 _ rfl) (ai (g_ff c13) (ai (At.agg (P := Try.prog) (t := 49) (v := .agg #[.int .i64 y15.1, .int .i64 y15.2.1, .int .i64 y15.2.2.1, .int .i64 y15.2.2.2]) (m := 4) (At.mono (Heapy.sub hp6) at15) (by kernel_rfl) (by kernel_rfl) 0 (by kernel_rfl) rfl) (ai (g_ff c13) (ai ix15 (ai (g_ff c13) (ai (g_ff c13) (ai (g_ff c13) (ai (At.agg (P := Try.prog) (t := 49) (v := .agg #[.int .i64 y14.1, .int .i64 y14.2.1, .int .i64 y14.2.2.1, .int .i64 y14.2.2.2]) (m := 4) at14 (by kernel_rfl) (by kernel_rfl) 0 (by kernel_rfl) rfl) (ai (g_ff c13) (ai ix14 (ai (g_ff c13) (ai (g_ff c13) (ai (g_ff c13) (ai c12 trivial)))))))))))))))))))))))))))) (hd := F7_d1) (h := by kernel_rfl)
      · intro hr
        obtain rfl := Option.some.inj hr
        show AWp Try.prog _ (Ends1 .normal (F7_h1 l1 v1 y5 u6_0 h6 a8 (F19 y14.1 y14.2.1 y14.2.2.1 y14.2.2.2 y15.1 y15.2.1 y15.2.2.1 y15.2.2.2) (IntKind.i64.wrap (a11 + 1)))) _
        exact pEnd_sound good (L := F7_L) (D := F7_D) (its := [.g, (.b true), .g, .g, .g, .g, (.w .g), (.w .g), (.w (.ix id14 off14 g14)), (.w (.ld (.agg #[.int .i64 y14.1, .int .i64 y14.2.1, .int .i64 y14.2.2.1, .int .i64 y14.2.2.2]))), (.w .g), (.w .g), (.w (.ix id15 off15 g15)), (.w (.ld (.agg #[.int .i64 y15.1, .int .i64 y15.2.1, .int .i64 y15.2.2.1, .int .i64 y15.2.2.2]))), (.w (.c (.bool (F18 y14.1 y14.2.1 y14.2.2.1 y14.2.2.2 y15.1 y15.2.1 y15.2.2.1 y15.2.2.2)) h6)), (.p false), .g, (.w .g), (.w .g), (.w (.ix id14 off14 g14)), (.w (.ld (.agg #[.int .i64 y14.1, .int .i64 y14.2.1, .int .i64 y14.2.2.1, .int .i64 y14.2.2.2]))), (.w .g), (.w .g), (.w (.ix id15 off15 g15)), (.w (.ld (.agg #[.int .i64 y15.1, .int .i64 y15.2.1, .int .i64 y15.2.2.1, .int .i64 y15.2.2.2]))), (.w (.c (.bool (F19 y14.1 y14.2.1 y14.2.2.1 y14.2.2.2 y15.1 y15.2.1 y15.2.2.1 y15.2.2.2)) h6)), (.p false), .g, .g, .g]) (ds := F7_m1_0) (ks := []) (e := .normal) (s2 := (F7_h1 l1 v1 y5 u6_0 h6 a8 (F19 y14.1 y14.2.1 y14.2.2.1 y14.2.2.2 y15.1 y15.2.1 y15.2.2.1 y15.2.2.2) (IntKind.i64.wrap (a11 + 1)))) (hC := (ai c17 (ai (show AKeep h6 h6 from (AHeap.sub_refl h6)) (ai (F19_spec y14.1 y14.2.1 y14.2.2.1 y14.2.2.2 y15.1 y15.2.1 y15.2.2.1 y15.2.2.2 h6 _ rfl) (ai (g_ff c17) (ai (At.agg (P := Try.prog) (t := 49) (v := .agg #[.int .i64 y15.1, .int .i64 y15.2.1, .int .i64 y15.2.2.1, .int .i64 y15.2.2.2]) (m := 4) (At.mono (Heapy.sub hp6) at15) (by kernel_rfl) (by kernel_rfl) 0 (by kernel_rfl) rfl) (ai (g_ff c17) (ai ix15 (ai (g_ff c17) (ai (g_ff c17) (ai (g_ff c17) (ai (At.agg (P := Try.prog) (t := 49) (v := .agg #[.int .i64 y14.1, .int .i64 y14.2.1, .int .i64 y14.2.2.1, .int .i64 y14.2.2.2]) (m := 4) at14 (by kernel_rfl) (by kernel_rfl) 0 (by kernel_rfl) rfl) (ai (g_ff c17) (ai ix14 (ai (g_ff c17) (ai (g_ff c17) (ai (g_ff c17) (ai c13 (ai (show AKeep h6 h6 from (AHeap.sub_refl h6)) (ai (F18_spec y14.1 y14.2.1 y14.2.2.1 y14.2.2.2 y15.1 y15.2.1 y15.2.2.1 y15.2.2.2 h6 _ rfl) (ai (g_ff c13) (ai (At.agg (P := Try.prog) (t := 49) (v := .agg #[.int .i64 y15.1, .int .i64 y15.2.1, .int .i64 y15.2.2.1, .int .i64 y15.2.2.2]) (m := 4) (At.mono (Heapy.sub hp6) at15) (by kernel_rfl) (by kernel_rfl) 0 (by kernel_rfl) rfl) (ai (g_ff c13) (ai ix15 (ai (g_ff c13) (ai (g_ff c13) (ai (g_ff c13) (ai (At.agg (P := Try.prog) (t := 49) (v := .agg #[.int .i64 y14.1, .int .i64 y14.2.1, .int .i64 y14.2.2.1, .int .i64 y14.2.2.2]) (m := 4) at14 (by kernel_rfl) (by kernel_rfl) 0 (by kernel_rfl) rfl) (ai (g_ff c13) (ai ix14 (ai (g_ff c13) (ai (g_ff c13) (ai (g_ff c13) (ai c12 trivial)))))))))))))))))))))))))))))))))) (hd := F7_d1) (h := by kernel_rfl)
  · intro hr
    obtain rfl := Option.some.inj hr
    show AWp Try.prog _ (Ends1 ((F7_x1 l1 v1 u6_0 h6 a8) (a10 : Bool)).1 ((F7_x1 l1 v1 u6_0 h6 a8) (a10 : Bool)).2) _
    exact pEnd_sound good (L := F7_L) (D := F7_D) (its := [.g, (.b false)]) (ds := F7_m1_1) (ks := []) (e := ((F7_x1 l1 v1 u6_0 h6 a8) (a10 : Bool)).1) (s2 := ((F7_x1 l1 v1 u6_0 h6 a8) (a10 : Bool)).2) (hC := (ai c12 trivial)) (hd := F7_d1) (h := by kernel_rfl)
theorem F7_l1_0 (h : AHeap) (l1 : List (Int × Int × Int × Int)) (v1 : Hd) (hv1 : SlE E49 4 h (sv v1) l1) (y5 : (List (Int × Int × Int × Int))) (u6_0 : Hd) (h6 : AHeap) (hp6 : Heapy h h6 [⟨u6_0, 49, 4, List.flatMap enc49 y5⟩]) (a8 : Int) (x : Bool × Int) (r : Bool) (hl : loopO (fun (s : Bool × Int) => F7_s1 l1 y5 a8 s.1 s.2) x = some r) : AWp Try.prog (.loop (codeOf Try.prog 7 [1, 1, 1, 0, 1, 0, 0, 1, 1, 0, 0, 1, 1, 0, 1, 0, 0])) (Ends1 (.exit 2) (F7_x1_0 l1 v1 u6_0 h6 a8 r)) ((fun (s : Bool × Int) => (F7_h1 l1 v1 y5 u6_0 h6 a8 s.1 s.2)) x) := by
  have k := loop_fun (P := Try.prog) (c := (codeOf Try.prog 7 [1, 1, 1, 0, 1, 0, 0, 1, 1, 0, 0, 1, 1, 0, 1, 0, 0])) (step := (fun (s : Bool × Int) => F7_s1 l1 y5 a8 s.1 s.2)) (hd := (fun (s : Bool × Int) => (F7_h1 l1 v1 y5 u6_0 h6 a8 s.1 s.2))) (X := (F7_x1 l1 v1 u6_0 h6 a8)) (by intro t; unfold F7_x1; intro h; cases h) (fun x => F7_r1 h l1 v1 hv1 y5 u6_0 h6 hp6 a8 x.1 x.2) hl
  exact k
def F7_m2_2 : List Bool := [true, true, true, false, true, true, true, true, true, true, true, true, true, true, true, true, true, true, true, true, true, true, true, true, true, true, true, true, true, true, true, true, true, true, true, true, true, true, true, true, true, true, true, true, true, true, true, true, true, true, true, true, true, true, true, true, true, true, true, true, true, true, true, true, true, true, true, true, true, true, true, true, true, true, true, true, true, true, true, true, true, true, true, true, true, true, true, true, true, true, true, true, true, true, true, true, true]
def F7_m2_1 : List Bool := [false, true, true, false, true, true, true, true, true, true, true, true, true, true, true, true, true, true, true, true, false, false, true, true, true, true, true, true, true, true, true, true, true, true, true, true, true, true, true, true, true, true, true, true, true, true, true, true, true, true, true, true, true, true, true, true, true, true, true, true, true, true, true, true, true, true, true, true, true, true, true, true, true, true, true, true, true, true, true, true, true, true, true, true, true, true, true, true, true, true, true, true, true, true, true, true, true]
def F7_m2_0 : List Bool := [true, true, false, true, true, true, true, true, true, true, true, true, true, true, true, true, true, true, true, true, true, true, true, true, true, true, true, true, true, true, true, true, true, true, true, true, true, true, true, true, true, true, true, true, true, true, true, true, true, true, true, true, true, true, true, true, true, true, true, true, true, true, true, true, true, true, true, true, true, true, true, true, true, true, true, true, true, true, true, true, true, true, true, true, true, true, true, true, true, true, true, true, true, true, true, true, true]
def F7_s2 (l1 : List (Int × Int × Int × Int)) (y5 : (List (Int × Int × Int × Int))) (a8 : Int) : Option (Int ⊕ Nat) :=
  (bif decide (a8 < (l1.length : Int)) then
   (Option.bind (loopO (fun (s : Bool × Int) => F7_s1 l1 y5 a8 s.1 s.2) (false, 0)) fun y19 =>
   (bif (!y19) then
    some (.inr 0)
   else
    some (.inl (IntKind.i64.wrap (a8 + 1)))))
  else
   some (.inr 1))
def F7_h2 (l1 : List (Int × Int × Int × Int)) (v1 : Hd) (u6_0 : Hd) (h6 : AHeap)  (a8 : Int) : AS := ⟨[(sv v1), junk, junk, (sv u6_0), junk, junk, junk, junk, junk, junk, junk, junk, junk, junk, junk, junk, junk, junk, junk, junk, .int .i64 (l1.length : Int), .int .i64 a8, junk, junk, junk, junk, junk, junk, junk, junk, junk, junk, junk, junk, junk, junk, junk, junk, junk, junk, junk, junk, junk, junk, junk, junk, junk, junk, junk, junk, junk, junk, junk, junk, junk, junk, junk, junk, junk, junk, junk, junk, junk, junk, junk, junk, junk, junk, junk, junk, junk, junk, junk, junk, junk, junk, junk, junk, junk, junk, junk, junk, junk, junk, junk, junk, junk, junk, junk, junk, junk, junk, junk, junk, junk, junk, junk], [], h6⟩
theorem F7_d2 : drawsOk F7_D (codeOf Try.prog 7 [1, 1, 1, 0, 1, 0, 0]) = true := by kernel_rfl
def F7_x2_0 (u6_0 : Hd) (h6 : AHeap)  (r : Nat) : AS := ⟨[junk, junk, .bool false, junk, junk, junk, junk, junk, junk, junk, junk, junk, junk, junk, junk, junk, junk, junk, junk, junk, junk, junk, junk, junk, junk, junk, junk, junk, junk, junk, junk, junk, junk, junk, junk, junk, junk, junk, junk, junk, junk, junk, junk, junk, junk, junk, junk, junk, junk, junk, junk, junk, junk, junk, junk, junk, junk, junk, junk, junk, junk, junk, junk, junk, junk, junk, junk, junk, junk, junk, junk, junk, junk, junk, junk, junk, junk, junk, junk, junk, junk, junk, junk, junk, junk, junk, junk, junk, junk, junk, junk, junk, junk, junk, junk, junk, junk], [], h6⟩
def F7_x2_1 (u6_0 : Hd) (h6 : AHeap)  (r : Nat) : AS := ⟨[junk, junk, junk, (sv u6_0), junk, junk, junk, junk, junk, junk, junk, junk, junk, junk, junk, junk, junk, junk, junk, junk, junk, junk, junk, junk, junk, junk, junk, junk, junk, junk, junk, junk, junk, junk, junk, junk, junk, junk, junk, junk, junk, junk, junk, junk, junk, junk, junk, junk, junk, junk, junk, junk, junk, junk, junk, junk, junk, junk, junk, junk, junk, junk, junk, junk, junk, junk, junk, junk, junk, junk, junk, junk, junk, junk, junk, junk, junk, junk, junk, junk, junk, junk, junk, junk, junk, junk, junk, junk, junk, junk, junk, junk, junk, junk, junk, junk, junk], [], h6⟩
def F7_x2 (u6_0 : Hd) (h6 : AHeap) (r : Nat) : Exit × AS := (bif Nat.beq r 0 then (.ret, (F7_x2_0 u6_0 h6 r)) else ((.exit 0), (F7_x2_1 u6_0 h6 r)))
set_option maxRecDepth 100000 in
theorem F7_r2 (h : AHeap) (l1 : List (Int × Int × Int × Int)) (v1 : Hd) (hv1 : SlE E49 4 h (sv v1) l1) (y5 : (List (Int × Int × Int × Int))) (u6_0 : Hd) (h6 : AHeap) (hp6 : Heapy h h6 [⟨u6_0, 49, 4, List.flatMap enc49 y5⟩]) (a8 : Int) (o : Int ⊕ Nat) : F7_s2 l1 y5 a8 = some o → RdF Try.prog (codeOf Try.prog 7 [1, 1, 1, 0, 1, 0, 0]) (fun (s : Int) => (F7_h2 l1 v1 u6_0 h6 s)) (F7_x2 u6_0 h6) (F7_h2 l1 v1 u6_0 h6 a8) o := by
  unfold F7_s2
  refine dec_bif (fun c9 => ?_) (fun c9 => ?_)
  · refine bind_opt fun y19 e19 => ?_
    refine dec_bif (fun c20 => ?_) (fun c20 => ?_)
    · intro hr
      obtain rfl := Option.some.inj hr
      show AWp Try.prog _ (Ends1 ((F7_x2 u6_0 h6) (0 : Nat)).1 ((F7_x2 u6_0 h6) (0 : Nat)).2) _
      exact pEnd_sound good (L := F7_L) (D := F7_D) (its := [.g, (.b true), .g, .g, .g, .g, (.ln y5.length), .g, (.l F7_m1_0 [] (.exit 2) (F7_x1_0 l1 v1 u6_0 h6 a8 y19)), .g, .g, (.b true), .g]) (ds := F7_m2_0) (ks := []) (e := ((F7_x2 u6_0 h6) (0 : Nat)).1) (s2 := ((F7_x2 u6_0 h6) (0 : Nat)).2) (hC := (ai c20 (ai (F7_l1_0 h l1 v1 hv1 y5 u6_0 h6 hp6 a8 (false, 0) y19 e19) (ai (SlE.len (Heapy.sle (v := u6_0) (xs := y5) (enc := enc49) hp6 0 rfl (fun _ => rfl) (by decide))) (ai c9 trivial))))) (hd := F7_d2) (h := by kernel_rfl)
    · intro hr
      obtain rfl := Option.some.inj hr
      show AWp Try.prog _ (Ends1 .normal (F7_h2 l1 v1 u6_0 h6 (IntKind.i64.wrap (a8 + 1)))) _
      exact pEnd_sound good (L := F7_L) (D := F7_D) (its := [.g, (.b true), .g, .g, .g, .g, (.ln y5.length), .g, (.l F7_m1_0 [] (.exit 2) (F7_x1_0 l1 v1 u6_0 h6 a8 y19)), .g, .g, (.b false), .g, .g]) (ds := F7_m2_1) (ks := []) (e := .normal) (s2 := (F7_h2 l1 v1 u6_0 h6 (IntKind.i64.wrap (a8 + 1)))) (hC := (ai c20 (ai (F7_l1_0 h l1 v1 hv1 y5 u6_0 h6 hp6 a8 (false, 0) y19 e19) (ai (SlE.len (Heapy.sle (v := u6_0) (xs := y5) (enc := enc49) hp6 0 rfl (fun _ => rfl) (by decide))) (ai c9 trivial))))) (hd := F7_d2) (h := by kernel_rfl)
  · intro hr
    obtain rfl := Option.some.inj hr
    show AWp Try.prog _ (Ends1 ((F7_x2 u6_0 h6) (1 : Nat)).1 ((F7_x2 u6_0 h6) (1 : Nat)).2) _
    exact pEnd_sound good (L := F7_L) (D := F7_D) (its := [.g, (.b false)]) (ds := F7_m2_2) (ks := []) (e := ((F7_x2 u6_0 h6) (1 : Nat)).1) (s2 := ((F7_x2 u6_0 h6) (1 : Nat)).2) (hC := (ai c9 trivial)) (hd := F7_d2) (h := by kernel_rfl)
theorem F7_l2_0 (h : AHeap) (l1 : List (Int × Int × Int × Int)) (v1 : Hd) (hv1 : SlE E49 4 h (sv v1) l1) (y5 : (List (Int × Int × Int × Int))) (u6_0 : Hd) (h6 : AHeap) (hp6 : Heapy h h6 [⟨u6_0, 49, 4, List.flatMap enc49 y5⟩]) (x : Int) (r : Nat) (hl : loopO (fun (s : Int) => F7_s2 l1 y5 s) x = some r) (q0 : Nat.beq r 0 = true) : AWp Try.prog (.loop (codeOf Try.prog 7 [1, 1, 1, 0, 1, 0, 0])) (Ends1 .ret (F7_x2_0 u6_0 h6 r)) ((fun (s : Int) => (F7_h2 l1 v1 u6_0 h6 s)) x) := by
  have k := loop_fun (P := Try.prog) (c := (codeOf Try.prog 7 [1, 1, 1, 0, 1, 0, 0])) (step := (fun (s : Int) => F7_s2 l1 y5 s)) (hd := (fun (s : Int) => (F7_h2 l1 v1 u6_0 h6 s))) (X := (F7_x2 u6_0 h6)) (by intro t; unfold F7_x2; cases Nat.beq t 0 <;> (intro h; cases h)) (fun x => F7_r2 h l1 v1 hv1 y5 u6_0 h6 hp6 x) hl
  simp only [F7_x2, q0, cond_true, cond_false] at k
  exact k
theorem F7_l2_1 (h : AHeap) (l1 : List (Int × Int × Int × Int)) (v1 : Hd) (hv1 : SlE E49 4 h (sv v1) l1) (y5 : (List (Int × Int × Int × Int))) (u6_0 : Hd) (h6 : AHeap) (hp6 : Heapy h h6 [⟨u6_0, 49, 4, List.flatMap enc49 y5⟩]) (x : Int) (r : Nat) (hl : loopO (fun (s : Int) => F7_s2 l1 y5 s) x = some r) (q0 : Nat.beq r 0 = false) : AWp Try.prog (.loop (codeOf Try.prog 7 [1, 1, 1, 0, 1, 0, 0])) (Ends1 (.exit 0) (F7_x2_1 u6_0 h6 r)) ((fun (s : Int) => (F7_h2 l1 v1 u6_0 h6 s)) x) := by
  have k := loop_fun (P := Try.prog) (c := (codeOf Try.prog 7 [1, 1, 1, 0, 1, 0, 0])) (step := (fun (s : Int) => F7_s2 l1 y5 s)) (hd := (fun (s : Int) => (F7_h2 l1 v1 u6_0 h6 s))) (X := (F7_x2 u6_0 h6)) (by intro t; unfold F7_x2; cases Nat.beq t 0 <;> (intro h; cases h)) (fun x => F7_r2 h l1 v1 hv1 y5 u6_0 h6 hp6 x) hl
  simp only [F7_x2, q0, cond_true, cond_false] at k
  exact k
def F7_m3_2 : List Bool := [true, true, true, false, true, true, true, true, true, true, true, true, true, true, true, true, true, true, true, true, true, true, true, true, true, true, true, true, true, true, true, true, true, true, true, true, true, true, true, true, true, true, true, true, true, true, true, true, true, true, true, true, true, true, true, true, true, false, false, true, true, true, true, true, true, true, true, true, true, true, true, true, true, true, true, true, true, true, true, true, true, true, true, true, true, true, true, true, true, true, true, true, true, true, true, true, true]
def F7_m3_1 : List Bool := [true, true, true, false, true, true, true, false, true, true, true, true, true, true, true, true, true, true, true, true, true, true, true, true, true, true, true, true, true, true, true, true, true, true, true, true, true, true, true, true, true, true, true, true, true, true, true, true, true, true, true, true, true, true, true, true, true, false, false, true, true, true, false, false, true, true, true, true, true, true, true, true, true, true, true, true, true, true, true, true, true, true, true, true, true, true, true, true, true, true, true, true, true, true, true, true, true]
def F7_m3_0 : List Bool := [true, true, false, true, true, true, true, true, true, true, true, true, true, true, true, true, true, true, true, true, true, true, true, true, true, true, true, true, true, true, true, true, true, true, true, true, true, true, true, true, true, true, true, true, true, true, true, true, true, true, true, true, true, true, true, true, true, true, true, true, true, true, true, true, true, true, true, true, true, true, true, true, true, true, true, true, true, true, true, true, true, true, true, true, true, true, true, true, true, true, true, true, true, true, true, true, true]
def F7_s3 (y5 : (List (Int × Int × Int × Int))) (a23 : Int) (a25 : Int) : Option (Int ⊕ Nat) :=
  (bif decide (a25 < (y5.length : Int)) then
   (bif (a23 != a25) then
    (Option.bind (at? y5 a23) fun y28 =>
    (Option.bind (at? y5 a25) fun y29 =>
    (bif (F18 y28.1 y28.2.1 y28.2.2.1 y28.2.2.2 y29.1 y29.2.1 y29.2.2.1 y29.2.2.2) then
     some (.inr 0)
    else
     (bif (F19 y28.1 y28.2.1 y28.2.2.1 y28.2.2.2 y29.1 y29.2.1 y29.2.2.1 y29.2.2.2) then
      some (.inr 0)
     else
      some (.inl (IntKind.i64.wrap (a25 + 1)))))))
   else
    some (.inl (IntKind.i64.wrap (a25 + 1))))
  else
   some (.inr 1))
def F7_h3 (y5 : (List (Int × Int × Int × Int))) (u6_0 : Hd) (h6 : AHeap) (a23 : Int)  (a25 : Int) : AS := ⟨[junk, junk, junk, (sv u6_0), junk, junk, junk, .int .i64 a23, junk, junk, junk, junk, junk, junk, junk, junk, junk, junk, junk, junk, junk, junk, junk, junk, junk, junk, junk, junk, junk, junk, junk, junk, junk, junk, junk, junk, junk, junk, junk, junk, junk, junk, junk, junk, junk, junk, junk, junk, junk, junk, junk, junk, junk, junk, junk, junk, junk, .int .i64 (y5.length : Int), .int .i64 a23, junk, junk, junk, .int .i64 (y5.length : Int), .int .i64 a25, junk, junk, junk, junk, junk, junk, junk, junk, junk, junk, junk, junk, junk, junk, junk, junk, junk, junk, junk, junk, junk, junk, junk, junk, junk, junk, junk, junk, junk, junk, junk, junk, junk], [], h6⟩
theorem F7_d3 : drawsOk F7_D (codeOf Try.prog 7 [1, 1, 1, 1, 0, 1, 0, 0, 1, 1, 0, 0, 1, 1, 0, 0]) = true := by kernel_rfl
def F7_x3_0 (y5 : (List (Int × Int × Int × Int))) (u6_0 : Hd) (h6 : AHeap) (a23 : Int)  (r : Nat) : AS := ⟨[junk, junk, .bool false, junk, junk, junk, junk, junk, junk, junk, junk, junk, junk, junk, junk, junk, junk, junk, junk, junk, junk, junk, junk, junk, junk, junk, junk, junk, junk, junk, junk, junk, junk, junk, junk, junk, junk, junk, junk, junk, junk, junk, junk, junk, junk, junk, junk, junk, junk, junk, junk, junk, junk, junk, junk, junk, junk, junk, junk, junk, junk, junk, junk, junk, junk, junk, junk, junk, junk, junk, junk, junk, junk, junk, junk, junk, junk, junk, junk, junk, junk, junk, junk, junk, junk, junk, junk, junk, junk, junk, junk, junk, junk, junk, junk, junk, junk], [], h6⟩
def F7_x3_1 (y5 : (List (Int × Int × Int × Int))) (u6_0 : Hd) (h6 : AHeap) (a23 : Int)  (r : Nat) : AS := ⟨[junk, junk, junk, (sv u6_0), junk, junk, junk, junk, junk, junk, junk, junk, junk, junk, junk, junk, junk, junk, junk, junk, junk, junk, junk, junk, junk, junk, junk, junk, junk, junk, junk, junk, junk, junk, junk, junk, junk, junk, junk, junk, junk, junk, junk, junk, junk, junk, junk, junk, junk, junk, junk, junk, junk, junk, junk, junk, junk, .int .i64 (y5.length : Int), .int .i64 a23, junk, junk, junk, junk, junk, junk, junk, junk, junk, junk, junk, junk, junk, junk, junk, junk, junk, junk, junk, junk, junk, junk, junk, junk, junk, junk, junk, junk, junk, junk, junk, junk, junk, junk, junk, junk, junk, junk], [], h6⟩
def F7_x3 (y5 : (List (Int × Int × Int × Int))) (u6_0 : Hd) (h6 : AHeap) (a23 : Int) (r : Nat) : Exit × AS := (bif Nat.beq r 0 then (.ret, (F7_x3_0 y5 u6_0 h6 a23 r)) else ((.exit 6), (F7_x3_1 y5 u6_0 h6 a23 r)))
set_option maxRecDepth 100000 in
theorem F7_r3 (h : AHeap) (y5 : (List (Int × Int × Int × Int))) (u6_0 : Hd) (h6 : AHeap) (hp6 : Heapy h h6 [⟨u6_0, 49, 4, List.flatMap enc49 y5⟩]) (a23 : Int) (a25 : Int) (o : Int ⊕ Nat) : F7_s3 y5 a23 a25 = some o → RdF Try.prog (codeOf Try.prog 7 [1, 1, 1, 1, 0, 1, 0, 0, 1, 1, 0, 0, 1, 1, 0, 0]) (fun (s : Int) => (F7_h3 y5 u6_0 h6 a23 s)) (F7_x3 y5 u6_0 h6 a23) (F7_h3 y5 u6_0 h6 a23 a25) o := by
  unfold F7_s3
  refine dec_bif (fun c26 => ?_) (fun c26 => ?_)
  · refine dec_bif (fun c27 => ?_) (fun c27 => ?_)
    · refine bind_opt fun y28 e28 => ?_
      obtain ⟨id28, off28, g28, cs28, ix28, at28, rfl⟩ := SlE.at (Heapy.sle (v := u6_0) (xs := y5) (enc := enc49) hp6 0 rfl (fun _ => rfl) (by decide)) e28
      refine bind_opt fun y29 e29 => ?_
      obtain ⟨id29, off29, g29, cs29, ix29, at29, rfl⟩ := SlE.at (Heapy.sle (v := u6_0) (xs := y5) (enc := enc49) hp6 0 rfl (fun _ => rfl) (by decide)) e29
      refine dec_bif (fun c31 => ?_) (fun c31 => ?_)
      · intro hr
        obtain rfl := Option.some.inj hr
        show AWp Try.prog _ (Ends1 ((F7_x3 y5 u6_0 h6 a23) (0 : Nat)).1 ((F7_x3 y5 u6_0 h6 a23) (0 : Nat)).2) _
        exact pEnd_sound good (L := F7_L) (D := F7_D) (its := [.g, (.b true), .g, .g, .g, .g, .g, .g, (.w .g), (.w .g), (.w (.ix id28 off28 g28)), (.w (.ld (.agg #[.int .i64 y28.1, .int .i64 y28.2.1, .int .i64 y28.2.2.1, .int .i64 y28.2.2.2]))), (.w .g), (.w .g), (.w (.ix id29 off29 g29)), (.w (.ld (.agg #[.int .i64 y29.1, .int .i64 y29.2.1, .int .i64 y29.2.2.1, .int .i64 y29.2.2.2]))), (.w (.c (.bool (F18 y28.1 y28.2.1 y28.2.2.1 y28.2.2.2 y29.1 y29.2.1 y29.2.2.1 y29.2.2.2)) h6)), (.w .g), .n, .n, .n, .n, .n, .n, .n, .n, .n, (.w (.p true)), (.p true), (.b true), .g]) (ds := F7_m3_0) (ks := []) (e := ((F7_x3 y5 u6_0 h6 a23) (0 : Nat)).1) (s2 := ((F7_x3 y5 u6_0 h6 a23) (0 : Nat)).2) (hC := (ai l_t (ai c27 (ai c31 (ai (g_tt c27) (ai (g_tf c31) (ai (g_tf c31) (ai (g_tf c31) (ai (g_tf c31) (ai (g_tf c31) (ai (g_tf c31) (ai (g_tf c31) (ai (g_tf c31) (ai (g_tf c31) (ai (g_tt c27) (ai (show AKeep h6 h6 from (AHeap.sub_refl h6)) (ai (F18_spec y28.1 y28.2.1 y28.2.2.1 y28.2.2.2 y29.1 y29.2.1 y29.2.2.1 y29.2.2.2 h6 _ rfl) (ai (g_tt c27) (ai (At.agg (P := Try.prog) (t := 49) (v := .agg #[.int .i64 y29.1, .int .i64 y29.2.1, .int .i64 y29.2.2.1, .int .i64 y29.2.2.2]) (m := 4) at29 (by kernel_rfl) (by kernel_rfl) 0 (by kernel_rfl) rfl) (ai (g_tt c27) (ai ix29 (ai (g_tt c27) (ai (g_tt c27) (ai (g_tt c27) (ai (At.agg (P := Try.prog) (t := 49) (v := .agg #[.int .i64 y28.1, .int .i64 y28.2.1, .int .i64 y28.2.2.1, .int .i64 y28.2.2.2]) (m := 4) at28 (by kernel_rfl) (by kernel_rfl) 0 (by kernel_rfl) rfl) (ai (g_tt c27) (ai ix28 (ai (g_tt c27) (ai (g_tt c27) (ai (g_tt c27) (ai c26 trivial))))))))))))))))))))))))))))))) (hd := F7_d3) (h := by kernel_rfl)
      · refine dec_bif (fun c33 => ?_) (fun c33 => ?_)
        · intro hr
          obtain rfl := Option.some.inj hr
          show AWp Try.prog _ (Ends1 ((F7_x3 y5 u6_0 h6 a23) (0 : Nat)).1 ((F7_x3 y5 u6_0 h6 a23) (0 : Nat)).2) _
          exact pEnd_sound good (L := F7_L) (D := F7_D) (its := [.g, (.b true), .g, .g, .g, .g, .g, .g, (.w .g), (.w .g), (.w (.ix id28 off28 g28)), (.w (.ld (.agg #[.int .i64 y28.1, .int .i64 y28.2.1, .int .i64 y28.2.2.1, .int .i64 y28.2.2.2]))), (.w .g), (.w .g), (.w (.ix id29 off29 g29)), (.w (.ld (.agg #[.int .i64 y29.1, .int .i64 y29.2.1, .int .i64 y29.2.2.1, .int .i64 y29.2.2.2]))), (.w (.c (.bool (F18 y28.1 y28.2.1 y28.2.2.1 y28.2.2.2 y29.1 y29.2.1 y29.2.2.1 y29.2.2.2)) h6)), (.w .g), (.w .g), (.w .g), (.w (.ix id28 off28 g28)), (.w (.ld (.agg #[.int .i64 y28.1, .int .i64 y28.2.1, .int .i64 y28.2.2.1, .int .i64 y28.2.2.2]))), (.w .g), (.w .g), (.w (.ix id29 off29 g29)), (.w (.ld (.agg #[.int .i64 y29.1, .int .i64 y29.2.1, .int .i64 y29.2.2.1, .int .i64 y29.2.2.2]))), (.w (.c (.bool (F19 y28.1 y28.2.1 y28.2.2.1 y28.2.2.2 y29.1 y29.2.1 y29.2.2.1 y29.2.2.2)) h6)), (.w (.p false)), (.p true), (.b true), .g]) (ds := F7_m3_0) (ks := []) (e := ((F7_x3 y5 u6_0 h6 a23) (0 : Nat)).1) (s2 := ((F7_x3 y5 u6_0 h6 a23) (0 : Nat)).2) (hC := (ai c33 (ai c27 (ai c31 (ai (g_tt c27) (ai (show AKeep h6 h6 from (AHeap.sub_refl h6)) (ai (F19_spec y28.1 y28.2.1 y28.2.2.1 y28.2.2.2 y29.1 y29.2.1 y29.2.2.1 y29.2.2.2 h6 _ rfl) (ai (g_ff c31) (ai (At.agg (P := Try.prog) (t := 49) (v := .agg #[.int .i64 y29.1, .int .i64 y29.2.1, .int .i64 y29.2.2.1, .int .i64 y29.2.2.2]) (m := 4) at29 (by kernel_rfl) (by kernel_rfl) 0 (by kernel_rfl) rfl) (ai (g_ff c31) (ai ix29 (ai (g_ff c31) (ai (g_ff c31) (ai (g_ff c31) (ai (At.agg (P := Try.prog) (t := 49) (v := .agg #[.int .i64 y28.1, .int .i64 y28.2.1, .int .i64 y28.2.2.1, .int .i64 y28.2.2.2]) (m := 4) at28 (by kernel_rfl) (by kernel_rfl) 0 (by kernel_rfl) rfl) (ai (g_ff c31) (ai ix28 (ai (g_ff c31) (ai (g_ff c31) (ai (g_ff c31) (ai (g_tt c27) (ai (show AKeep h6 h6 from (AHeap.sub_refl h6)) (ai (F18_spec y28.1 y28.2.1 y28.2.2.1 y28.2.2.2 y29.1 y29.2.1 y29.2.2.1 y29.2.2.2 h6 _ rfl) (ai (g_tt c27) (ai (At.agg (P := Try.prog) (t := 49) (v := .agg #[.int .i64 y29.1, .int .i64 y29.2.1, .int .i64 y29.2.2.1, .int .i64 y29.2.2.2]) (m := 4) at29 (by kernel_rfl) (by kernel_rfl) 0 (by kernel_rfl) rfl) (ai (g_tt c27) (ai ix29 (ai (g_tt c27) (ai (g_tt c27) (ai (g_tt c27) (ai (At.agg (P := Try.prog) (t := 49) (v := .agg #[.int .i64 y28.1, .int .i64 y28.2.1, .int .i64 y28.2.2.1, .int .i64 y28.2.2.2]) (m := 4) at28 (by kernel_rfl) (by kernel_rfl) 0 (by kernel_rfl) rfl) (ai (g_tt c27) (ai ix28 (ai (g_tt c27) (ai (g_tt c27) (ai (g_tt c27) (ai c26 trivial))))))))))))))))))))))))))))))))))))) (hd := F7_d3) (h := by kernel_rfl)
        · intro hr
          obtain rfl := Option.some.inj hr
          show AWp Try.prog _ (Ends1 .normal (F7_h3 y5 u6_0 h6 a23 (IntKind.i64.wrap (a25 + 1)))) _
          exact pEnd_sound good (L := F7_L) (D := F7_D) (its := [.g, (.b true), .g, .g, .g, .g, .g, .g, (.w .g), (.w .g), (.w (.ix id28 off28 g28)), (.w (.ld (.agg #[.int .i64 y28.1, .int .i64 y28.2.1, .int .i64 y28.2.2.1, .int .i64 y28.2.2.2]))), (.w .g), (.w .g), (.w (.ix id29 off29 g29)), (.w (.ld (.agg #[.int .i64 y29.1, .int .i64 y29.2.1, .int .i64 y29.2.2.1, .int .i64 y29.2.2.2]))), (.w (.c (.bool (F18 y28.1 y28.2.1 y28.2.2.1 y28.2.2.2 y29.1 y29.2.1 y29.2.2.1 y29.2.2.2)) h6)), (.w .g), (.w .g), (.w .g), (.w (.ix id28 off28 g28)), (.w (.ld (.agg #[.int .i64 y28.1, .int .i64 y28.2.1, .int .i64 y28.2.2.1, .int .i64 y28.2.2.2]))), (.w .g), (.w .g), (.w (.ix id29 off29 g29)), (.w (.ld (.agg #[.int .i64 y29.1, .int .i64 y29.2.1, .int .i64 y29.2.2.1, .int .i64 y29.2.2.2]))), (.w (.c (.bool (F19 y28.1 y28.2.1 y28.2.2.1 y28.2.2.2 y29.1 y29.2.1 y29.2.2.1 y29.2.2.2)) h6)), (.w (.p false)), (.p true), (.b false), .g, .g]) (ds := F7_m3_1) (ks := []) (e := .normal) (s2 := (F7_h3 y5 u6_0 h6 a23 (IntKind.i64.wrap (a25 + 1)))) (hC := (ai c33 (ai c27 (ai c31 (ai (g_tt c27) (ai (show AKeep h6 h6 from (AHeap.sub_refl h6)) (ai (F19_spec y28.1 y28.2.1 y28.2.2.1 y28.2.2.2 y29.1 y29.2.1 y29.2.2.1 y29.2.2.2 h6 _ rfl) (ai (g_ff c31) (ai (At.agg (P := Try.prog) (t := 49) (v := .agg #[.int .i64 y29.1, .int .i64 y29.2.1, .int .i64 y29.2.2.1, .int .i64 y29.2.2.2]) (m := 4) at29 (by kernel_rfl) (by kernel_rfl) 0 (by kernel_rfl) rfl) (ai (g_ff c31) (ai ix29 (ai (g_ff c31) (ai (g_ff c31) (ai (g_ff c31) (ai (At.agg (P := Try.prog) (t := 49) (v := .agg #[.int .i64 y28.1, .int .i64 y28.2.1, .int .i64 y28.2.2.1, .int .i64 y28.2.2.2]) (m := 4) at28 (by kernel_rfl) (by kernel_rfl) 0 (by kernel_rfl) rfl) (ai (g_ff c31) (ai ix28 (ai (g_ff c31) (ai (g_ff c31) (ai (g_ff c31) (ai (g_tt c27) (ai (show AKeep h6 h6 from (AHeap.sub_refl h6)) (ai (F18_spec y28.1 y28.2.1 y28.2.2.1 y28.2.2.2 y29.1 y29.2.1 y29.2.2.1 y29.2.2.2 h6 _ rfl) (ai (g_tt c27) (ai (At.agg (P := Try.prog) (t := 49) (v := .agg #[.int .i64 y29.1, .int .i64 y29.2.1, .int .i64 y29.2.2.1, .int .i64 y29.2.2.2]) (m := 4) at29 (by kernel_rfl) (by kernel_rfl) 0 (by kernel_rfl) rfl) (ai (g_tt c27) (ai ix29 (ai (g_tt c27) (ai (g_tt c27) (ai (g_tt c27) (ai (At.agg (P := Try.prog) (t := 49) (v := .agg #[.int .i64 y28.1, .int .i64 y28.2.1, .int .i64 y28.2.2.1, .int .i64 y28.2.2.2]) (m := 4) at28 (by kernel_rfl) (by kernel_rfl) 0 (by kernel_rfl) rfl) (ai (g_tt c27) (ai ix28 (ai (g_tt c27) (ai (g_tt c27) (ai (g_tt c27) (ai c26 trivial))))))))))))))))))))))))))))))))))))) (hd := F7_d3) (h := by kernel_rfl)
    · intro hr
      obtain rfl := Option.some.inj hr
      show AWp Try.prog _ (Ends1 .normal (F7_h3 y5 u6_0 h6 a23 (IntKind.i64.wrap (a25 + 1)))) _
      exact pEnd_sound good (L := F7_L) (D := F7_D) (its := [.g, (.b true), .g, .g, .g, .g, .g, .g, .n, .n, .n, .n, .n, .n, .n, .n, .n, .n, .n, .n, .n, .n, .n, .n, .n, .n, .n, .n, (.p false), (.b false), .g, .g]) (ds := F7_m3_1) (ks := []) (e := .normal) (s2 := (F7_h3 y5 u6_0 h6 a23 (IntKind.i64.wrap (a25 + 1)))) (hC := (ai l_f (ai c27 (ai (g_ft c27) (ai l_f (ai l_f (ai l_f (ai l_f (ai l_f (ai l_f (ai l_f (ai l_f (ai l_f (ai (g_ft c27) (ai (g_ft c27) (ai (g_ft c27) (ai (g_ft c27) (ai (g_ft c27) (ai (g_ft c27) (ai (g_ft c27) (ai (g_ft c27) (ai (g_ft c27) (ai (g_ft c27) (ai c26 trivial)))))))))))))))))))))))) (hd := F7_d3) (h := by kernel_rfl)
  · intro hr
    obtain rfl := Option.some.inj hr
    show AWp Try.prog _ (Ends1 ((F7_x3 y5 u6_0 h6 a23) (1 : Nat)).1 ((F7_x3 y5 u6_0 h6 a23) (1 : Nat)).2) _
    exact pEnd_sound good (L := F7_L) (D := F7_D) (its := [.g, (.b false)]) (ds := F7_m3_2) (ks := []) (e := ((F7_x3 y5 u6_0 h6 a23) (1 : Nat)).1) (s2 := ((F7_x3 y5 u6_0 h6 a23) (1 : Nat)).2) (hC := (ai c26 trivial)) (hd := F7_d3) (h := by kernel_rfl)
theorem F7_l3_0 (h : AHeap) (y5 : (List (Int × Int × Int × Int))) (u6_0 : Hd) (h6 : AHeap) (hp6 : Heapy h h6 [⟨u6_0, 49, 4, List.flatMap enc49 y5⟩]) (a23 : Int) (x : Int) (r : Nat) (hl : loopO (fun (s : Int) => F7_s3 y5 a23 s) x = some r) (q0 : Nat.beq r 0 = true) : AWp Try.prog (.loop (codeOf Try.prog 7 [1, 1, 1, 1, 0, 1, 0, 0, 1, 1, 0, 0, 1, 1, 0, 0])) (Ends1 .ret (F7_x3_0 y5 u6_0 h6 a23 r)) ((fun (s : Int) => (F7_h3 y5 u6_0 h6 a23 s)) x) := by
  have k := loop_fun (P := Try.prog) (c := (codeOf Try.prog 7 [1, 1, 1, 1, 0, 1, 0, 0, 1, 1, 0, 0, 1, 1, 0, 0])) (step := (fun (s : Int) => F7_s3 y5 a23 s)) (hd := (fun (s : Int) => (F7_h3 y5 u6_0 h6 a23 s))) (X := (F7_x3 y5 u6_0 h6 a23)) (by intro t; unfold F7_x3; cases Nat.beq t 0 <;> (intro h; cases h)) (fun x => F7_r3 h y5 u6_0 h6 hp6 a23 x) hl
  simp only [F7_x3, q0, cond_true, cond_false] at k
  exact k
theorem F7_l3_1 (h : AHeap) (y5 : (List (Int × Int × Int × Int))) (u6_0 : Hd) (h6 : AHeap) (hp6 : Heapy h h6 [⟨u6_0, 49, 4, List.flatMap enc49 y5⟩]) (a23 : Int) (x : Int) (r : Nat) (hl : loopO (fun (s : Int) => F7_s3 y5 a23 s) x = some r) (q0 : Nat.beq r 0 = false) : AWp Try.prog (.loop (codeOf Try.prog 7 [1, 1, 1, 1, 0, 1, 0, 0, 1, 1, 0, 0, 1, 1, 0, 0])) (Ends1 (.exit 6) (F7_x3_1 y5 u6_0 h6 a23 r)) ((fun (s : Int) => (F7_h3 y5 u6_0 h6 a23 s)) x) := by
  have k := loop_fun (P := Try.prog) (c := (codeOf Try.prog 7 [1, 1, 1, 1, 0, 1, 0, 0, 1, 1, 0, 0, 1, 1, 0, 0])) (step := (fun (s : Int) => F7_s3 y5 a23 s)) (hd := (fun (s : Int) => (F7_h3 y5 u6_0 h6 a23 s))) (X := (F7_x3 y5 u6_0 h6 a23)) (by intro t; unfold F7_x3; cases Nat.beq t 0 <;> (intro h; cases h)) (fun x => F7_r3 h y5 u6_0 h6 hp6 a23 x) hl
  simp only [F7_x3, q0, cond_true, cond_false] at k
  exact k
def F7_m4_2 : List Bool := [true, true, true, false, true, true, true, true, true, true, true, true, true, true, true, true, true, true, true, true, true, true, true, true, true, true, true, true, true, true, true, true, true, true, true, true, true, true, true, true, true, true, true, true, true, true, true, true, true, true, true, true, true, true, true, true, true, true, true, true, true, true, true, true, true, true, true, true, true, true, true, true, true, true, true, true, true, true, true, true, true, true, true, true, true, true, true, true, true, true, true, true, true, true, true, true, true]
def F7_m4_1 : List Bool := [true, true, true, false, true, true, true, true, true, true, true, true, true, true, true, true, true, true, true, true, true, true, true, true, true, true, true, true, true, true, true, true, true, true, true, true, true, true, true, true, true, true, true, true, true, true, true, true, true, true, true, true, true, true, true, true, true, false, false, true, true, true, true, true, true, true, true, true, true, true, true, true, true, true, true, true, true, true, true, true, true, true, true, true, true, true, true, true, true, true, true, true, true, true, true, true, true]
def F7_m4_0 : List Bool := [true, true, false, true, true, true, true, true, true, true, true, true, true, true, true, true, true, true, true, true, true, true, true, true, true, true, true, true, true, true, true, true, true, true, true, true, true, true, true, true, true, true, true, true, true, true, true, true, true, true, true, true, true, true, true, true, true, true, true, true, true, true, true, true, true, true, true, true, true, true, true, true, true, true, true, true, true, true, true, true, true, true, true, true, true, true, true, true, true, true, true, true, true, true, true, true, true]
def F7_s4 (y5 : (List (Int × Int × Int × Int))) (a23 : Int) : Option (Int ⊕ Nat) :=
  (bif decide (a23 < (y5.length : Int)) then
   (Option.bind (loopO (fun (s : Int) => F7_s3 y5 a23 s) 0) fun y34 =>
   (bif (Nat.beq y34 0) then
    some (.inr 0)
   else
    some (.inl (IntKind.i64.wrap (a23 + 1)))))
  else
   some (.inr 1))
def F7_h4 (y5 : (List (Int × Int × Int × Int))) (u6_0 : Hd) (h6 : AHeap)  (a23 : Int) : AS := ⟨[junk, junk, junk, (sv u6_0), junk, junk, junk, junk, junk, junk, junk, junk, junk, junk, junk, junk, junk, junk, junk, junk, junk, junk, junk, junk, junk, junk, junk, junk, junk, junk, junk, junk, junk, junk, junk, junk, junk, junk, junk, junk, junk, junk, junk, junk, junk, junk, junk, junk, junk, junk, junk, junk, junk, junk, junk, junk, junk, .int .i64 (y5.length : Int), .int .i64 a23, junk, junk, junk, junk, junk, junk, junk, junk, junk, junk, junk, junk, junk, junk, junk, junk, junk, junk, junk, junk, junk, junk, junk, junk, junk, junk, junk, junk, junk, junk, junk, junk, junk, junk, junk, junk, junk, junk], [], h6⟩
theorem F7_d4 : drawsOk F7_D (codeOf Try.prog 7 [1, 1, 1, 1, 0, 1, 0, 0]) = true := by kernel_rfl
def F7_x4_0 (u6_0 : Hd) (h6 : AHeap)  (r : Nat) : AS := ⟨[junk, junk, .bool false, junk, junk, junk, junk, junk, junk, junk, junk, junk, junk, junk, junk, junk, junk, junk, junk, junk, junk, junk, junk, junk, junk, junk, junk, junk, junk, junk, junk, junk, junk, junk, junk, junk, junk, junk, junk, junk, junk, junk, junk, junk, junk, junk, junk, junk, junk, junk, junk, junk, junk, junk, junk, junk, junk, junk, junk, junk, junk, junk, junk, junk, junk, junk, junk, junk, junk, junk, junk, junk, junk, junk, junk, junk, junk, junk, junk, junk, junk, junk, junk, junk, junk, junk, junk, junk, junk, junk, junk, junk, junk, junk, junk, junk, junk], [], h6⟩
def F7_x4_1 (u6_0 : Hd) (h6 : AHeap)  (r : Nat) : AS := ⟨[junk, junk, junk, (sv u6_0), junk, junk, junk, junk, junk, junk, junk, junk, junk, junk, junk, junk, junk, junk, junk, junk, junk, junk, junk, junk, junk, junk, junk, junk, junk, junk, junk, junk, junk, junk, junk, junk, junk, junk, junk, junk, junk, junk, junk, junk, junk, junk, junk, junk, junk, junk, junk, junk, junk, junk, junk, junk, junk, junk, junk, junk, junk, junk, junk, junk, junk, junk, junk, junk, junk, junk, junk, junk, junk, junk, junk, junk, junk, junk, junk, junk, junk, junk, junk, junk, junk, junk, junk, junk, junk, junk, junk, junk, junk, junk, junk, junk, junk], [], h6⟩
def F7_x4 (u6_0 : Hd) (h6 : AHeap) (r : Nat) : Exit × AS := (bif Nat.beq r 0 then (.ret, (F7_x4_0 u6_0 h6 r)) else ((.exit 4), (F7_x4_1 u6_0 h6 r)))
set_option maxRecDepth 100000 in
theorem F7_r4 (h : AHeap) (y5 : (List (Int × Int × Int × Int))) (u6_0 : Hd) (h6 : AHeap) (hp6 : Heapy h h6 [⟨u6_0, 49, 4, List.flatMap enc49 y5⟩]) (a23 : Int) (o : Int ⊕ Nat) : F7_s4 y5 a23 = some o → RdF Try.prog (codeOf Try.prog 7 [1, 1, 1, 1, 0, 1, 0, 0]) (fun (s : Int) => (F7_h4 y5 u6_0 h6 s)) (F7_x4 u6_0 h6) (F7_h4 y5 u6_0 h6 a23) o := by
  unfold F7_s4
  refine dec_bif (fun c24 => ?_) (fun c24 => ?_)
  · refine bind_opt fun y34 e34 => ?_
    refine dec_bif (fun c35 => ?_) (fun c35 => ?_)
    · intro hr
      obtain rfl := Option.some.inj hr
      show AWp Try.prog _ (Ends1 ((F7_x4 u6_0 h6) (0 : Nat)).1 ((F7_x4 u6_0 h6) (0 : Nat)).2) _
      exact pEnd_sound good (L := F7_L) (D := F7_D) (its := [.g, (.b true), .g, .g, .g, (.ln y5.length), .g, (.l F7_m3_1 [] .ret (F7_x3_0 y5 u6_0 h6 a23 y34))]) (ds := F7_m4_0) (ks := []) (e := ((F7_x4 u6_0 h6) (0 : Nat)).1) (s2 := ((F7_x4 u6_0 h6) (0 : Nat)).2) (hC := (ai (F7_l3_0 h y5 u6_0 h6 hp6 a23 0 y34 e34 c35) (ai (SlE.len (Heapy.sle (v := u6_0) (xs := y5) (enc := enc49) hp6 0 rfl (fun _ => rfl) (by decide))) (ai c24 trivial)))) (hd := F7_d4) (h := by kernel_rfl)
    · intro hr
      obtain rfl := Option.some.inj hr
      show AWp Try.prog _ (Ends1 .normal (F7_h4 y5 u6_0 h6 (IntKind.i64.wrap (a23 + 1)))) _
      exact pEnd_sound good (L := F7_L) (D := F7_D) (its := [.g, (.b true), .g, .g, .g, (.ln y5.length), .g, (.l F7_m3_1 [] (.exit 6) (F7_x3_1 y5 u6_0 h6 a23 y34)), .g, .g]) (ds := F7_m4_1) (ks := []) (e := .normal) (s2 := (F7_h4 y5 u6_0 h6 (IntKind.i64.wrap (a23 + 1)))) (hC := (ai (F7_l3_1 h y5 u6_0 h6 hp6 a23 0 y34 e34 c35) (ai (SlE.len (Heapy.sle (v := u6_0) (xs := y5) (enc := enc49) hp6 0 rfl (fun _ => rfl) (by decide))) (ai c24 trivial)))) (hd := F7_d4) (h := by kernel_rfl)
  · intro hr
    obtain rfl := Option.some.inj hr
    show AWp Try.prog _ (Ends1 ((F7_x4 u6_0 h6) (1 : Nat)).1 ((F7_x4 u6_0 h6) (1 : Nat)).2) _
    exact pEnd_sound good (L := F7_L) (D := F7_D) (its := [.g, (.b false)]) (ds := F7_m4_2) (ks := []) (e := ((F7_x4 u6_0 h6) (1 : Nat)).1) (s2 := ((F7_x4 u6_0 h6) (1 : Nat)).2) (hC := (ai c24 trivial)) (hd := F7_d4) (h := by kernel_rfl)
theorem F7_l4_0 (h : AHeap) (y5 : (List (Int × Int × Int × Int))) (u6_0 : Hd) (h6 : AHeap) (hp6 : Heapy h h6 [⟨u6_0, 49, 4, List.flatMap enc49 y5⟩]) (x : Int) (r : Nat) (hl : loopO (fun (s : Int) => F7_s4 y5 s) x = some r) (q0 : Nat.beq r 0 = true) : AWp Try.prog (.loop (codeOf Try.prog 7 [1, 1, 1, 1, 0, 1, 0, 0])) (Ends1 .ret (F7_x4_0 u6_0 h6 r)) ((fun (s : Int) => (F7_h4 y5 u6_0 h6 s)) x) := by
  have k := loop_fun (P := Try.prog) (c := (codeOf Try.prog 7 [1, 1, 1, 1, 0, 1, 0, 0])) (step := (fun (s : Int) => F7_s4 y5 s)) (hd := (fun (s : Int) => (F7_h4 y5 u6_0 h6 s))) (X := (F7_x4 u6_0 h6)) (by intro t; unfold F7_x4; cases Nat.beq t 0 <;> (intro h; cases h)) (fun x => F7_r4 h y5 u6_0 h6 hp6 x) hl
  simp only [F7_x4, q0, cond_true, cond_false] at k
  exact k
theorem F7_l4_1 (h : AHeap) (y5 : (List (Int × Int × Int × Int))) (u6_0 : Hd) (h6 : AHeap) (hp6 : Heapy h h6 [⟨u6_0, 49, 4, List.flatMap enc49 y5⟩]) (x : Int) (r : Nat) (hl : loopO (fun (s : Int) => F7_s4 y5 s) x = some r) (q0 : Nat.beq r 0 = false) : AWp Try.prog (.loop (codeOf Try.prog 7 [1, 1, 1, 1, 0, 1, 0, 0])) (Ends1 (.exit 4) (F7_x4_1 u6_0 h6 r)) ((fun (s : Int) => (F7_h4 y5 u6_0 h6 s)) x) := by
  have k := loop_fun (P := Try.prog) (c := (codeOf Try.prog 7 [1, 1, 1, 1, 0, 1, 0, 0])) (step := (fun (s : Int) => F7_s4 y5 s)) (hd := (fun (s : Int) => (F7_h4 y5 u6_0 h6 s))) (X := (F7_x4 u6_0 h6)) (by intro t; unfold F7_x4; cases Nat.beq t 0 <;> (intro h; cases h)) (fun x => F7_r4 h y5 u6_0 h6 hp6 x) hl
  simp only [F7_x4, q0, cond_true, cond_false] at k
  exact k
def F7 (l1 : List (Int × Int × Int × Int)) : Option (Bool) :=
  (bif decide ((l1.length : Int) > 60) then
   some (true)
  else
   (Option.bind (F17 l1) fun y5 =>
   (Option.bind (loopO (fun (s : Int) => F7_s2 l1 y5 s) 0) fun y21 =>
   (bif (Nat.beq y21 0) then
    some (false)
   else
    (Option.bind (loopO (fun (s : Int) => F7_s4 y5 s) 0) fun y36 =>
    (bif (Nat.beq y36 0) then
     some (false)
    else
     (Option.bind (F17 y5) fun y38 =>
     (Option.bind (F20 y38 y5) fun y41 =>
     some (y41)))))))))
set_option maxRecDepth 100000 in
theorem F7_spec (l1 : List (Int × Int × Int × Int)) (v1 : Hd) (h : AHeap) (hw : h.wf) (hv1 : SlE E49 4 h (sv v1) l1) (r : Bool) : F7 l1 = some r → ∃ (h' : AHeap), Heapy h h' [] ∧ ACalls Try.prog 7 [(sv v1)] h (fun v' h'' => v' = (.bool r : Value) ∧ h'' = h') := by
  unfold F7
  refine dec_bif (fun c3 => ?_) (fun c3 => ?_)
  · intro hr
    obtain rfl := Option.some.inj hr
    exact ⟨h, Heapy.pick (Heapy.refl hw) [] (by decide), pFun_sound good tab_ok (f := 7) (its := [.g, (.c (.bool true) h), .g, .g, (.w .g), (.w (.ln l1.length)), (.w .g), .g, (.b true), (.c (.bool true) h), .g]) (args := [(sv v1)]) (h := h) (h' := h) (v := .bool true) (hC := (ai (F16_spec h _ rfl) (ai c3 (ai (g_ff l_f) (ai (SlE.len hv1) (ai (g_ff l_f) (ai (g_ff l_f) (ai (F16_spec h _ rfl) trivial)))))))) (hr := by kernel_rfl)⟩
  · refine bind_opt fun y5 e5 => ?_
    obtain ⟨u6_0, h6, q6, zu6_0, c6⟩ := F17_spec l1 v1 h hw hv1 _ e5
    have hp6 : Heapy h h6 [⟨u6_0, 49, 4, List.flatMap enc49 y5⟩] := Heapy.call (Heapy.refl hw) q6
    refine bind_opt fun y21 e21 => ?_
    refine dec_bif (fun c22 => ?_) (fun c22 => ?_)
    · intro hr
      obtain rfl := Option.some.inj hr
      exact ⟨h6, Heapy.pick hp6 [] (by decide), pFun_sound good tab_ok (f := 7) (its := [.g, (.c (.bool true) h), .g, .g, (.w .g), (.w (.ln l1.length)), (.w .g), .g, (.b false), .g, (.c ((sv u6_0)) h6), .g, .g, (.ln l1.length), .g, (.l F7_m2_1 [] .ret (F7_x2_0 u6_0 h6 y21))]) (args := [(sv v1)]) (h := h) (h' := h6) (v := .bool false) (hC := (ai (F7_l2_0 h l1 v1 hv1 y5 u6_0 h6 hp6 0 y21 e21 c22) (ai (SlE.len hv1) (ai c6 (ai c3 (ai (g_ff l_f) (ai (SlE.len hv1) (ai (g_ff l_f) (ai (g_ff l_f) (ai (F16_spec h _ rfl) trivial)))))))))) (hr := by kernel_rfl)⟩
    · refine bind_opt fun y36 e36 => ?_
      refine dec_bif (fun c37 => ?_) (fun c37 => ?_)
      · intro hr
        obtain rfl := Option.some.inj hr
        exact ⟨h6, Heapy.pick hp6 [] (by decide), pFun_sound good tab_ok (f := 7) (its := [.g, (.c (.bool true) h), .g, .g, (.w .g), (.w (.ln l1.length)), (.w .g), .g, (.b false), .g, (.c ((sv u6_0)) h6), .g, .g, (.ln l1.length), .g, (.l F7_m2_1 [] (.exit 0) (F7_x2_1 u6_0 h6 y21)), .g, (.ln y5.length), .g, (.l F7_m4_1 [] .ret (F7_x4_0 u6_0 h6 y36))]) (args := [(sv v1)]) (h := h) (h' := h6) (v := .bool false) (hC := (ai (F7_l4_0 h y5 u6_0 h6 hp6 0 y36 e36 c37) (ai (SlE.len (Heapy.sle (v := u6_0) (xs := y5) (enc := enc49) hp6 0 rfl (fun _ => rfl) (by decide))) (ai (F7_l2_1 h l1 v1 hv1 y5 u6_0 h6 hp6 0 y21 e21 c22) (ai (SlE.len hv1) (ai c6 (ai c3 (ai (g_ff l_f) (ai (SlE.len hv1) (ai (g_ff l_f) (ai (g_ff l_f) (ai (F16_spec h _ rfl) trivial)))))))))))) (hr := by kernel_rfl)⟩
      · refine bind_opt fun y38 e38 => ?_
        obtain ⟨u39_0, h39, q39, zu39_0, c39⟩ := F17_spec y5 u6_0 h6 (Heapy.wf hp6) (Heapy.sle (v := u6_0) (xs := y5) (enc := enc49) hp6 0 rfl (fun _ => rfl) (by decide)) _ e38
        have hp39 : Heapy h h39 [⟨u39_0, 49, 4, List.flatMap enc49 y38⟩, ⟨u6_0, 49, 4, List.flatMap enc49 y5⟩] := Heapy.call hp6 q39
        refine bind_opt fun y41 e41 => ?_
        intro hr
        obtain rfl := Option.some.inj hr
        exact ⟨h39, Heapy.pick hp39 [] (by decide), pFun_sound good tab_ok (f := 7) (its := [.g, (.c (.bool true) h), .g, .g, (.w .g), (.w (.ln l1.length)), (.w .g), .g, (.b false), .g, (.c ((sv u6_0)) h6), .g, .g, (.ln l1.length), .g, (.l F7_m2_1 [] (.exit 0) (F7_x2_1 u6_0 h6 y21)), .g, (.ln y5.length), .g, (.l F7_m4_1 [] (.exit 4) (F7_x4_1 u6_0 h6 y36)), .g, (.c ((sv u39_0)) h39), .g, (.c (.bool y41) h39), .g]) (args := [(sv v1)]) (h := h) (h' := h39) (v := .bool y41) (hC := (ai (F20_spec y38 y5 u39_0 u6_0 h39 (Heapy.sle (v := u39_0) (xs := y38) (enc := enc49) hp39 0 rfl (fun _ => rfl) (by decide)) (Heapy.sle (v := u6_0) (xs := y5) (enc := enc49) hp39 1 rfl (fun _ => rfl) (by decide)) _ e41) (ai c39 (ai (F7_l4_1 h y5 u6_0 h6 hp6 0 y36 e36 c37) (ai (SlE.len (Heapy.sle (v := u6_0) (xs := y5) (enc := enc49) hp6 0 rfl (fun _ => rfl) (by decide))) (ai (F7_l2_1 h l1 v1 hv1 y5 u6_0 h6 hp6 0 y21 e21 c22) (ai (SlE.len hv1) (ai c6 (ai c3 (ai (g_ff l_f) (ai (SlE.len hv1) (ai (g_ff l_f) (ai (g_ff l_f) (ai (F16_spec h _ rfl) trivial)))))))))))))) (hr := by kernel_rfl)⟩
set_option maxRecDepth 100000 in
theorem F7_law (H : ∀ (l1 : List (Int × Int × Int × Int)), (l1.length ≤ maxLen ∧ l1.length * 32 ≤ reachBytes) → (∀ y ∈ l1, W49 y) → F7 l1 = some true) : Law Try.prog 7 10 [45] := by
  intro s us hwf hro hT0
  obtain ⟨u0, vs0, rfl, t0, hT1⟩ := wts_cons hT0
  have k0 := wtv_oneS 3 (ks := [.slice 49]) (by kernel_rfl) (by kernel_rfl) t0
  obtain ⟨v1, r_l1, e_l1, q_l1, k0_0⟩ := sq_slice k0
  obtain ⟨l1, a_l1, m_l1, w_l1⟩ := q_l1 E49 W49 4 (by kernel_rfl) fun n cs H => E49_wt H
  obtain ⟨rfl, rfl⟩ := List.cons.inj e_l1
  have k0_0' := sq_nil k0_0
  obtain rfl := wts_nil hT1
  obtain ⟨h2, _, hc⟩ := F7_spec l1 v1 s hwf a_l1 _ (H l1 m_l1 w_l1)
  refine (hc).mono ?_
  rintro v h' ⟨rfl, rfl⟩
  rfl
end
end Go.Proofs.Ytgglfpnllkegpaa.Abs
