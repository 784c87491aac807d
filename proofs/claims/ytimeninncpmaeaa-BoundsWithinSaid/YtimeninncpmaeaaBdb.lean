/-
  Contracts, written by program: for each function what its call yields, and that it yields it.
-/
import Derived.Test.YtimeninncpmaeaaBda
namespace Go.Proofs.Ytimeninncpmaeaa.Abs
open Go
set_option linter.unusedVariables false
set_option linter.unusedSimpArgs false

noncomputable section
/-! 32 jacquard/jacquardref28.Small -/
def F32_L : List Nat := [3]
def F32_D : List (Nat × List (Nat × Nat)) := []
def F32_m1_2 : List Bool := (true :: false :: false :: false :: (rp 64 true []))
def F32_m1_1 : List Bool := (true :: false :: false :: false :: (rp 7 true (false :: false :: (rp 55 true []))))
def F32_m1_0 : List Bool := (rp 6 true (false :: (rp 61 true [])))
def F32_s1 (l4 : List (Int × Int × Int × Int)) (a9 : Int) : Option (Int ⊕ Nat) :=
  (bif decide (a9 < (l4.length : Int)) then
   (Option.bind (at? l4 a9) fun y11 =>
   (bif decide (y11.2.2.1 > 60) then
    some (.inr 0)
   else
    (bif decide (y11.2.2.2 > 20) then
     some (.inr 0)
    else
     some (.inl (IntKind.i64.wrap (a9 + 1))))))
  else
   some (.inr 1))
def F32_h1 (h : AHeap) (x1 : Int) (x2 : Int) (x3 : Bool) (l4 : List (Int × Int × Int × Int)) (v4 : Hd) (v5 : Hd) (v6 : Hd) (x7 : Int) (x8 : Int)  (a9 : Int) : AS := ⟨(junk :: (.int .i64 x7) :: (.int .i64 x8) :: (.pointer (some ⟨3, 0, none⟩)) :: (rp 7 junk ((.int .i64 (l4.length : Int)) :: (.int .i64 a9) :: (rp 55 junk [])))), [(3, [.int .i64 x1, .int .i64 x2, .bool x3, (sv v4), (sv v5), (sv v6)])], h⟩
theorem F32_d1 : drawsOk F32_D (codeOf Try.prog 32 [1, 0, 1, 0, 0]) = true := by kernel_rfl
def F32_x1_0 (h : AHeap) (x1 : Int) (x2 : Int) (x3 : Bool) (v4 : Hd) (v5 : Hd) (v6 : Hd) (x7 : Int) (x8 : Int)  (r : Nat) : AS := ⟨(rp 6 junk ((.bool false) :: (rp 61 junk []))), [], h⟩
def F32_x1_1 (h : AHeap) (x1 : Int) (x2 : Int) (x3 : Bool) (v4 : Hd) (v5 : Hd) (v6 : Hd) (x7 : Int) (x8 : Int)  (r : Nat) : AS := ⟨(junk :: (.int .i64 x7) :: (.int .i64 x8) :: (.pointer (some ⟨3, 0, none⟩)) :: (rp 64 junk [])), [(3, [.int .i64 x1, .int .i64 x2, .bool x3, (sv v4), (sv v5), (sv v6)])], h⟩
def F32_x1 (h : AHeap) (x1 : Int) (x2 : Int) (x3 : Bool) (v4 : Hd) (v5 : Hd) (v6 : Hd) (x7 : Int) (x8 : Int) (r : Nat) : Exit × AS := (bif Nat.beq r 0 then (.ret, (F32_x1_0 h x1 x2 x3 v4 v5 v6 x7 x8 r)) else ((.exit 0), (F32_x1_1 h x1 x2 x3 v4 v5 v6 x7 x8 r)))
set_option maxRecDepth 100000 in
theorem F32_r1 (h : AHeap) (x1 : Int) (x2 : Int) (x3 : Bool) (l4 : List (Int × Int × Int × Int)) (v4 : Hd) (hv4 : SlE E57 4 h (sv v4) l4) (v5 : Hd) (v6 : Hd) (x7 : Int) (x8 : Int) (a9 : Int) (o : Int ⊕ Nat) : F32_s1 l4 a9 = some o → RdF Try.prog (codeOf Try.prog 32 [1, 0, 1, 0, 0]) (fun (s : Int) => (F32_h1 h x1 x2 x3 l4 v4 v5 v6 x7 x8 s)) (F32_x1 h x1 x2 x3 v4 v5 v6 x7 x8) (F32_h1 h x1 x2 x3 l4 v4 v5 v6 x7 x8 a9) o := by
  unfold F32_s1
  refine dec_bif (fun c10 => ?_) (fun c10 => ?_)
  · refine bind_opt fun y11 e11 => ?_
    obtain ⟨id11, off11, g11, cs11, ix11, at11, rfl⟩ := SlE.at hv4 e11
    have kc12 := (ai (At.one (P := Try.prog) (t := 3) (v := .int .i64 y11.2.2.1) at11 (by kernel_rfl) 2 rfl rfl) (ai ix11 (ai c10 trivial)))
    refine dec_bif (fun c12 => ?_) (fun c12 => ?_)
    · intro hr
      obtain rfl := Option.some.inj hr
      show AWp Try.prog _ (Ends1 ((F32_x1 h x1 x2 x3 v4 v5 v6 x7 x8) (0 : Nat)).1 ((F32_x1 h x1 x2 x3 v4 v5 v6 x7 x8) (0 : Nat)).2) _
      exact pEnd_sound good (L := F32_L) (D := F32_D) (its := [.g, (.b true), .g, .g, .g, .g, .g, (.ix id11 off11 g11), .g, (.ld (.int .i64 y11.2.2.1)), .g, .g, .n, .n, .n, .n, .n, .n, .n, (.p true), (.b true), .g]) (ds := F32_m1_0) (ks := [3]) (e := ((F32_x1 h x1 x2 x3 v4 v5 v6 x7 x8) (0 : Nat)).1) (s2 := ((F32_x1 h x1 x2 x3 v4 v5 v6 x7 x8) (0 : Nat)).2) (hC := (ai l_t (ai c12 (ai (g_tf c12) (ai (g_tf c12) (ai (g_tf c12) (ai (g_tf c12) (ai (g_tf c12) (ai (g_tf c12) (ai (g_tf c12) kc12)))))))))) (hd := F32_d1) (h := by kernel_rfl)
    · have kc13 := (ai c12 (ai (g_ff c12) (ai (At.one (P := Try.prog) (t := 3) (v := .int .i64 y11.2.2.2) at11 (by kernel_rfl) 3 rfl rfl) (ai (g_ff c12) (ai (g_ff c12) (ai ix11 (ai (g_ff c12) (ai (g_ff c12) (ai (g_ff c12) (ai (g_ff c12) kc12))))))))))
      refine dec_bif (fun c13 => ?_) (fun c13 => ?_)
      · intro hr
        obtain rfl := Option.some.inj hr
        show AWp Try.prog _ (Ends1 ((F32_x1 h x1 x2 x3 v4 v5 v6 x7 x8) (0 : Nat)).1 ((F32_x1 h x1 x2 x3 v4 v5 v6 x7 x8) (0 : Nat)).2) _
        exact pEnd_sound good (L := F32_L) (D := F32_D) (its := [.g, (.b true), .g, .g, .g, .g, .g, (.ix id11 off11 g11), .g, (.ld (.int .i64 y11.2.2.1)), .g, .g, (.w .g), (.w .g), (.w .g), (.w (.ix id11 off11 g11)), (.w .g), (.w (.ld (.int .i64 y11.2.2.2))), (.w .g), (.p false), (.b true), .g]) (ds := F32_m1_0) (ks := [3]) (e := ((F32_x1 h x1 x2 x3 v4 v5 v6 x7 x8) (0 : Nat)).1) (s2 := ((F32_x1 h x1 x2 x3 v4 v5 v6 x7 x8) (0 : Nat)).2) (hC := (ai c13 kc13)) (hd := F32_d1) (h := by kernel_rfl)
      · intro hr
        obtain rfl := Option.some.inj hr
        show AWp Try.prog _ (Ends1 .normal (F32_h1 h x1 x2 x3 l4 v4 v5 v6 x7 x8 (IntKind.i64.wrap (a9 + 1)))) _
        exact pEnd_sound good (L := F32_L) (D := F32_D) (its := [.g, (.b true), .g, .g, .g, .g, .g, (.ix id11 off11 g11), .g, (.ld (.int .i64 y11.2.2.1)), .g, .g, (.w .g), (.w .g), (.w .g), (.w (.ix id11 off11 g11)), (.w .g), (.w (.ld (.int .i64 y11.2.2.2))), (.w .g), (.p false), (.b false), .g, .g]) (ds := F32_m1_1) (ks := []) (e := .normal) (s2 := (F32_h1 h x1 x2 x3 l4 v4 v5 v6 x7 x8 (IntKind.i64.wrap (a9 + 1)))) (hC := (ai c13 kc13)) (hd := F32_d1) (h := by kernel_rfl)
  · intro hr
    obtain rfl := Option.some.inj hr
    show AWp Try.prog _ (Ends1 ((F32_x1 h x1 x2 x3 v4 v5 v6 x7 x8) (1 : Nat)).1 ((F32_x1 h x1 x2 x3 v4 v5 v6 x7 x8) (1 : Nat)).2) _
    exact pEnd_sound good (L := F32_L) (D := F32_D) (its := [.g, (.b false)]) (ds := F32_m1_2) (ks := []) (e := ((F32_x1 h x1 x2 x3 v4 v5 v6 x7 x8) (1 : Nat)).1) (s2 := ((F32_x1 h x1 x2 x3 v4 v5 v6 x7 x8) (1 : Nat)).2) (hC := (ai c10 trivial)) (hd := F32_d1) (h := by kernel_rfl)
theorem F32_l1_0 (h : AHeap) (x1 : Int) (x2 : Int) (x3 : Bool) (l4 : List (Int × Int × Int × Int)) (v4 : Hd) (hv4 : SlE E57 4 h (sv v4) l4) (v5 : Hd) (v6 : Hd) (x7 : Int) (x8 : Int) (x : Int) (r : Nat) (hl : loopO (fun (s : Int) => F32_s1 l4 s) x = some r) (q0 : Nat.beq r 0 = true) : AWp Try.prog (.loop (codeOf Try.prog 32 [1, 0, 1, 0, 0])) (Ends1 .ret (F32_x1_0 h x1 x2 x3 v4 v5 v6 x7 x8 r)) ((fun (s : Int) => (F32_h1 h x1 x2 x3 l4 v4 v5 v6 x7 x8 s)) x) := by
  have k := loop_fun (P := Try.prog) (c := (codeOf Try.prog 32 [1, 0, 1, 0, 0])) (step := (fun (s : Int) => F32_s1 l4 s)) (hd := (fun (s : Int) => (F32_h1 h x1 x2 x3 l4 v4 v5 v6 x7 x8 s))) (X := (F32_x1 h x1 x2 x3 v4 v5 v6 x7 x8)) (by intro t; unfold F32_x1; cases Nat.beq t 0 <;> (intro h; cases h)) (fun x => F32_r1 h x1 x2 x3 l4 v4 hv4 v5 v6 x7 x8 x) hl
  simp only [F32_x1, q0, cond_true, cond_false] at k
  exact k
theorem F32_l1_1 (h : AHeap) (x1 : Int) (x2 : Int) (x3 : Bool) (l4 : List (Int × Int × Int × Int)) (v4 : Hd) (hv4 : SlE E57 4 h (sv v4) l4) (v5 : Hd) (v6 : Hd) (x7 : Int) (x8 : Int) (x : Int) (r : Nat) (hl : loopO (fun (s : Int) => F32_s1 l4 s) x = some r) (q0 : Nat.beq r 0 = false) : AWp Try.prog (.loop (codeOf Try.prog 32 [1, 0, 1, 0, 0])) (Ends1 (.exit 0) (F32_x1_1 h x1 x2 x3 v4 v5 v6 x7 x8 r)) ((fun (s : Int) => (F32_h1 h x1 x2 x3 l4 v4 v5 v6 x7 x8 s)) x) := by
  have k := loop_fun (P := Try.prog) (c := (codeOf Try.prog 32 [1, 0, 1, 0, 0])) (step := (fun (s : Int) => F32_s1 l4 s)) (hd := (fun (s : Int) => (F32_h1 h x1 x2 x3 l4 v4 v5 v6 x7 x8 s))) (X := (F32_x1 h x1 x2 x3 v4 v5 v6 x7 x8)) (by intro t; unfold F32_x1; cases Nat.beq t 0 <;> (intro h; cases h)) (fun x => F32_r1 h x1 x2 x3 l4 v4 hv4 v5 v6 x7 x8 x) hl
  simp only [F32_x1, q0, cond_true, cond_false] at k
  exact k
def F32_m2_2 : List Bool := (true :: false :: false :: false :: (rp 64 true []))
def F32_m2_1 : List Bool := (true :: false :: false :: false :: (rp 30 true (false :: false :: (rp 32 true []))))
def F32_m2_0 : List Bool := (rp 6 true (false :: (rp 61 true [])))
def F32_s2 (l6 : List (Int × Int)) (a16 : Int) : Option (Int ⊕ Nat) :=
  (bif decide (a16 < (l6.length : Int)) then
   (Option.bind (at? l6 a16) fun y18 =>
   (bif decide (y18.2 > 20) then
    some (.inr 0)
   else
    some (.inl (IntKind.i64.wrap (a16 + 1)))))
  else
   some (.inr 1))
def F32_h2 (h : AHeap) (x1 : Int) (x2 : Int) (x3 : Bool) (v4 : Hd) (v5 : Hd) (l6 : List (Int × Int)) (v6 : Hd) (x7 : Int) (x8 : Int)  (a16 : Int) : AS := ⟨(junk :: (.int .i64 x7) :: (.int .i64 x8) :: (.pointer (some ⟨3, 0, none⟩)) :: (rp 30 junk ((.int .i64 (l6.length : Int)) :: (.int .i64 a16) :: (rp 32 junk [])))), [(3, [.int .i64 x1, .int .i64 x2, .bool x3, (sv v4), (sv v5), (sv v6)])], h⟩
theorem F32_d2 : drawsOk F32_D (codeOf Try.prog 32 [1, 1, 0, 1, 0, 0]) = true := by kernel_rfl
def F32_x2_0 (h : AHeap) (x1 : Int) (x2 : Int) (x3 : Bool) (v4 : Hd) (v5 : Hd) (v6 : Hd) (x7 : Int) (x8 : Int)  (r : Nat) : AS := ⟨(rp 6 junk ((.bool false) :: (rp 61 junk []))), [], h⟩
def F32_x2_1 (h : AHeap) (x1 : Int) (x2 : Int) (x3 : Bool) (v4 : Hd) (v5 : Hd) (v6 : Hd) (x7 : Int) (x8 : Int)  (r : Nat) : AS := ⟨(junk :: (.int .i64 x7) :: (.int .i64 x8) :: (.pointer (some ⟨3, 0, none⟩)) :: (rp 64 junk [])), [(3, [.int .i64 x1, .int .i64 x2, .bool x3, (sv v4), (sv v5), (sv v6)])], h⟩
def F32_x2 (h : AHeap) (x1 : Int) (x2 : Int) (x3 : Bool) (v4 : Hd) (v5 : Hd) (v6 : Hd) (x7 : Int) (x8 : Int) (r : Nat) : Exit × AS := (bif Nat.beq r 0 then (.ret, (F32_x2_0 h x1 x2 x3 v4 v5 v6 x7 x8 r)) else ((.exit 2), (F32_x2_1 h x1 x2 x3 v4 v5 v6 x7 x8 r)))
set_option maxRecDepth 100000 in
theorem F32_r2 (h : AHeap) (x1 : Int) (x2 : Int) (x3 : Bool) (v4 : Hd) (v5 : Hd) (l6 : List (Int × Int)) (v6 : Hd) (hv6 : SlE E61 2 h (sv v6) l6) (x7 : Int) (x8 : Int) (a16 : Int) (o : Int ⊕ Nat) : F32_s2 l6 a16 = some o → RdF Try.prog (codeOf Try.prog 32 [1, 1, 0, 1, 0, 0]) (fun (s : Int) => (F32_h2 h x1 x2 x3 v4 v5 l6 v6 x7 x8 s)) (F32_x2 h x1 x2 x3 v4 v5 v6 x7 x8) (F32_h2 h x1 x2 x3 v4 v5 l6 v6 x7 x8 a16) o := by
  unfold F32_s2
  refine dec_bif (fun c17 => ?_) (fun c17 => ?_)
  · refine bind_opt fun y18 e18 => ?_
    obtain ⟨id18, off18, g18, cs18, ix18, at18, rfl⟩ := SlE.at hv6 e18
    have kc19 := (ai (At.one (P := Try.prog) (t := 3) (v := .int .i64 y18.2) at18 (by kernel_rfl) 1 rfl rfl) (ai ix18 (ai c17 trivial)))
    refine dec_bif (fun c19 => ?_) (fun c19 => ?_)
    · intro hr
      obtain rfl := Option.some.inj hr
      show AWp Try.prog _ (Ends1 ((F32_x2 h x1 x2 x3 v4 v5 v6 x7 x8) (0 : Nat)).1 ((F32_x2 h x1 x2 x3 v4 v5 v6 x7 x8) (0 : Nat)).2) _
      exact pEnd_sound good (L := F32_L) (D := F32_D) (its := [.g, (.b true), .g, .g, .g, .g, .g, (.ix id18 off18 g18), .g, (.ld (.int .i64 y18.2)), .g, (.b true), .g]) (ds := F32_m2_0) (ks := [3]) (e := ((F32_x2 h x1 x2 x3 v4 v5 v6 x7 x8) (0 : Nat)).1) (s2 := ((F32_x2 h x1 x2 x3 v4 v5 v6 x7 x8) (0 : Nat)).2) (hC := (ai c19 kc19)) (hd := F32_d2) (h := by kernel_rfl)
    · intro hr
      obtain rfl := Option.some.inj hr
      show AWp Try.prog _ (Ends1 .normal (F32_h2 h x1 x2 x3 v4 v5 l6 v6 x7 x8 (IntKind.i64.wrap (a16 + 1)))) _
      exact pEnd_sound good (L := F32_L) (D := F32_D) (its := [.g, (.b true), .g, .g, .g, .g, .g, (.ix id18 off18 g18), .g, (.ld (.int .i64 y18.2)), .g, (.b false), .g, .g]) (ds := F32_m2_1) (ks := []) (e := .normal) (s2 := (F32_h2 h x1 x2 x3 v4 v5 l6 v6 x7 x8 (IntKind.i64.wrap (a16 + 1)))) (hC := (ai c19 kc19)) (hd := F32_d2) (h := by kernel_rfl)
  · intro hr
    obtain rfl := Option.some.inj hr
    show AWp Try.prog _ (Ends1 ((F32_x2 h x1 x2 x3 v4 v5 v6 x7 x8) (1 : Nat)).1 ((F32_x2 h x1 x2 x3 v4 v5 v6 x7 x8) (1 : Nat)).2) _
    exact pEnd_sound good (L := F32_L) (D := F32_D) (its := [.g, (.b false)]) (ds := F32_m2_2) (ks := []) (e := ((F32_x2 h x1 x2 x3 v4 v5 v6 x7 x8) (1 : Nat)).1) (s2 := ((F32_x2 h x1 x2 x3 v4 v5 v6 x7 x8) (1 : Nat)).2) (hC := (ai c17 trivial)) (hd := F32_d2) (h := by kernel_rfl)
theorem F32_l2_0 (h : AHeap) (x1 : Int) (x2 : Int) (x3 : Bool) (v4 : Hd) (v5 : Hd) (l6 : List (Int × Int)) (v6 : Hd) (hv6 : SlE E61 2 h (sv v6) l6) (x7 : Int) (x8 : Int) (x : Int) (r : Nat) (hl : loopO (fun (s : Int) => F32_s2 l6 s) x = some r) (q0 : Nat.beq r 0 = true) : AWp Try.prog (.loop (codeOf Try.prog 32 [1, 1, 0, 1, 0, 0])) (Ends1 .ret (F32_x2_0 h x1 x2 x3 v4 v5 v6 x7 x8 r)) ((fun (s : Int) => (F32_h2 h x1 x2 x3 v4 v5 l6 v6 x7 x8 s)) x) := by
  have k := loop_fun (P := Try.prog) (c := (codeOf Try.prog 32 [1, 1, 0, 1, 0, 0])) (step := (fun (s : Int) => F32_s2 l6 s)) (hd := (fun (s : Int) => (F32_h2 h x1 x2 x3 v4 v5 l6 v6 x7 x8 s))) (X := (F32_x2 h x1 x2 x3 v4 v5 v6 x7 x8)) (by intro t; unfold F32_x2; cases Nat.beq t 0 <;> (intro h; cases h)) (fun x => F32_r2 h x1 x2 x3 v4 v5 l6 v6 hv6 x7 x8 x) hl
  simp only [F32_x2, q0, cond_true, cond_false] at k
  exact k
theorem F32_l2_1 (h : AHeap) (x1 : Int) (x2 : Int) (x3 : Bool) (v4 : Hd) (v5 : Hd) (l6 : List (Int × Int)) (v6 : Hd) (hv6 : SlE E61 2 h (sv v6) l6) (x7 : Int) (x8 : Int) (x : Int) (r : Nat) (hl : loopO (fun (s : Int) => F32_s2 l6 s) x = some r) (q0 : Nat.beq r 0 = false) : AWp Try.prog (.loop (codeOf Try.prog 32 [1, 1, 0, 1, 0, 0])) (Ends1 (.exit 2) (F32_x2_1 h x1 x2 x3 v4 v5 v6 x7 x8 r)) ((fun (s : Int) => (F32_h2 h x1 x2 x3 v4 v5 l6 v6 x7 x8 s)) x) := by
  have k := loop_fun (P := Try.prog) (c := (codeOf Try.prog 32 [1, 1, 0, 1, 0, 0])) (step := (fun (s : Int) => F32_s2 l6 s)) (hd := (fun (s : Int) => (F32_h2 h x1 x2 x3 v4 v5 l6 v6 x7 x8 s))) (X := (F32_x2 h x1 x2 x3 v4 v5 v6 x7 x8)) (by intro t; unfold F32_x2; cases Nat.beq t 0 <;> (intro h; cases h)) (fun x => F32_r2 h x1 x2 x3 v4 v5 l6 v6 hv6 x7 x8 x) hl
  simp only [F32_x2, q0, cond_true, cond_false] at k
  exact k
def F32 (x1 : Int) (x2 : Int) (x3 : Bool) (l4 : List (Int × Int × Int × Int)) (l5 : List (Int × Int × Int × Int)) (l6 : List (Int × Int)) (x7 : Int) (x8 : Int) : Option (Bool) :=
  (Option.bind (loopO (fun (s : Int) => F32_s1 l4 s) 0) fun y14 =>
  (bif (Nat.beq y14 0) then
   some (false)
  else
   (Option.bind (loopO (fun (s : Int) => F32_s2 l6 s) 0) fun y20 =>
   (bif (Nat.beq y20 0) then
    some (false)
   else
    (bif decide (x1 ≤ x7) then
     (bif decide (x2 ≤ x8) then
      (bif decide ((l4.length : Int) ≤ 90) then
       some (decide ((l5.length : Int) ≤ 6))
      else
       some (false))
     else
      some (false))
    else
     some (false))))))
set_option maxRecDepth 100000 in
theorem F32_spec (x1 : Int) (x2 : Int) (x3 : Bool) (l4 : List (Int × Int × Int × Int)) (l5 : List (Int × Int × Int × Int)) (l6 : List (Int × Int)) (x7 : Int) (x8 : Int) (v4 : Hd) (v5 : Hd) (v6 : Hd) (h : AHeap) (hv4 : SlE E57 4 h (sv v4) l4) (hv5 : SlE E59 4 h (sv v5) l5) (hv6 : SlE E61 2 h (sv v6) l6) (r : Bool) : F32 x1 x2 x3 l4 l5 l6 x7 x8 = some r → ACalls Try.prog 32 [.agg #[.int .i64 x1, .int .i64 x2, .bool x3, (sv v4), (sv v5), (sv v6)], .int .i64 x7, .int .i64 x8] h (fun v' h'' => v' = (.bool r : Value) ∧ h'' = h) := by
  unfold F32
  refine bind_opt fun y14 e14 => ?_
  have kc15 := (ai (SlE.len hv4) trivial)
  refine dec_bif (fun c15 => ?_) (fun c15 => ?_)
  · intro hr
    obtain rfl := Option.some.inj hr
    exact pFun_sound good tab_ok (f := 32) (its := [.g, .g, .g, .g, (.ln l4.length), .g, (.l F32_m1_1 [] .ret (F32_x1_0 h x1 x2 x3 v4 v5 v6 x7 x8 y14))]) (args := [.agg #[.int .i64 x1, .int .i64 x2, .bool x3, (sv v4), (sv v5), (sv v6)], .int .i64 x7, .int .i64 x8]) (h := h) (h' := h) (v := .bool false) (hC := (ai (F32_l1_0 h x1 x2 x3 l4 v4 hv4 v5 v6 x7 x8 0 y14 e14 c15) kc15)) (hr := by kernel_rfl)
  · refine bind_opt fun y20 e20 => ?_
    have kc21 := (ai (SlE.len hv6) (ai (F32_l1_1 h x1 x2 x3 l4 v4 hv4 v5 v6 x7 x8 0 y14 e14 c15) kc15))
    refine dec_bif (fun c21 => ?_) (fun c21 => ?_)
    · intro hr
      obtain rfl := Option.some.inj hr
      exact pFun_sound good tab_ok (f := 32) (its := [.g, .g, .g, .g, (.ln l4.length), .g, (.l F32_m1_1 [] (.exit 0) (F32_x1_1 h x1 x2 x3 v4 v5 v6 x7 x8 y14)), .g, .g, (.ln l6.length), .g, (.l F32_m2_1 [] .ret (F32_x2_0 h x1 x2 x3 v4 v5 v6 x7 x8 y20))]) (args := [.agg #[.int .i64 x1, .int .i64 x2, .bool x3, (sv v4), (sv v5), (sv v6)], .int .i64 x7, .int .i64 x8]) (h := h) (h' := h) (v := .bool false) (hC := (ai (F32_l2_0 h x1 x2 x3 v4 v5 l6 v6 hv6 x7 x8 0 y20 e20 c21) kc21)) (hr := by kernel_rfl)
    · have kc22 := (ai (F32_l2_1 h x1 x2 x3 v4 v5 l6 v6 hv6 x7 x8 0 y20 e20 c21) kc21)
      refine dec_bif (fun c22 => ?_) (fun c22 => ?_)
      · have kc23 := (ai c22 (ai (g_tt c22) (ai (g_tt c22) (ai (g_tt c22) (ai (g_tt c22) kc22)))))
        refine dec_bif (fun c23 => ?_) (fun c23 => ?_)
        · have kc24 := (ai c23 (ai (g_tt c23) (ai (SlE.len hv4) (ai (g_tt c23) (ai (g_tt c23) (ai (g_tt c23) kc23))))))
          refine dec_bif (fun c24 => ?_) (fun c24 => ?_)
          · intro hr
            obtain rfl := Option.some.inj hr
            exact pFun_sound good tab_ok (f := 32) (its := [.g, .g, .g, .g, (.ln l4.length), .g, (.l F32_m1_1 [] (.exit 0) (F32_x1_1 h x1 x2 x3 v4 v5 v6 x7 x8 y14)), .g, .g, (.ln l6.length), .g, (.l F32_m2_1 [] (.exit 2) (F32_x2_1 h x1 x2 x3 v4 v5 v6 x7 x8 y20)), .g, .g, .g, .g, .g, (.w .g), (.w .g), (.w .g), (.w .g), (.p true), .g, (.w .g), (.w .g), (.w (.ln l4.length)), (.w .g), (.p true), .g, (.w .g), (.w .g), (.w (.ln l5.length)), (.w .g), (.p true), .g]) (args := [.agg #[.int .i64 x1, .int .i64 x2, .bool x3, (sv v4), (sv v5), (sv v6)], .int .i64 x7, .int .i64 x8]) (h := h) (h' := h) (v := .bool (decide ((l5.length : Int) ≤ 6))) (hC := (ai c24 (ai (g_tt c24) (ai (SlE.len hv5) (ai (g_tt c24) (ai (g_tt c24) (ai (g_tt c24) kc24))))))) (hr := by kernel_rfl)
          · intro hr
            obtain rfl := Option.some.inj hr
            exact pFun_sound good tab_ok (f := 32) (its := [.g, .g, .g, .g, (.ln l4.length), .g, (.l F32_m1_1 [] (.exit 0) (F32_x1_1 h x1 x2 x3 v4 v5 v6 x7 x8 y14)), .g, .g, (.ln l6.length), .g, (.l F32_m2_1 [] (.exit 2) (F32_x2_1 h x1 x2 x3 v4 v5 v6 x7 x8 y20)), .g, .g, .g, .g, .g, (.w .g), (.w .g), (.w .g), (.w .g), (.p true), .g, (.w .g), (.w .g), (.w (.ln l4.length)), (.w .g), (.p true), .g, .n, .n, .n, .n, (.p false), .g]) (args := [.agg #[.int .i64 x1, .int .i64 x2, .bool x3, (sv v4), (sv v5), (sv v6)], .int .i64 x7, .int .i64 x8]) (h := h) (h' := h) (v := .bool false) (hC := (ai c24 (ai (g_ft c24) (ai (g_ft c24) (ai (g_ft c24) (ai (g_ft c24) kc24)))))) (hr := by kernel_rfl)
        · intro hr
          obtain rfl := Option.some.inj hr
          exact pFun_sound good tab_ok (f := 32) (its := [.g, .g, .g, .g, (.ln l4.length), .g, (.l F32_m1_1 [] (.exit 0) (F32_x1_1 h x1 x2 x3 v4 v5 v6 x7 x8 y14)), .g, .g, (.ln l6.length), .g, (.l F32_m2_1 [] (.exit 2) (F32_x2_1 h x1 x2 x3 v4 v5 v6 x7 x8 y20)), .g, .g, .g, .g, .g, (.w .g), (.w .g), (.w .g), (.w .g), (.p true), .g, .n, .n, .n, .n, (.p false), .g, .n, .n, .n, .n, .g, .g]) (args := [.agg #[.int .i64 x1, .int .i64 x2, .bool x3, (sv v4), (sv v5), (sv v6)], .int .i64 x7, .int .i64 x8]) (h := h) (h' := h) (v := .bool false) (hC := (ai (g_ft l_f) (ai (g_ft l_f) (ai (g_ft l_f) (ai (g_ft l_f) (ai c23 (ai (g_ft c23) (ai (g_ft c23) (ai (g_ft c23) (ai (g_ft c23) kc23)))))))))) (hr := by kernel_rfl)
      · intro hr
        obtain rfl := Option.some.inj hr
        exact pFun_sound good tab_ok (f := 32) (its := [.g, .g, .g, .g, (.ln l4.length), .g, (.l F32_m1_1 [] (.exit 0) (F32_x1_1 h x1 x2 x3 v4 v5 v6 x7 x8 y14)), .g, .g, (.ln l6.length), .g, (.l F32_m2_1 [] (.exit 2) (F32_x2_1 h x1 x2 x3 v4 v5 v6 x7 x8 y20)), .g, .g, .g, .g, .g, .n, .n, .n, .n, (.p false), .g, .n, .n, .n, .n, .g, .g, .n, .n, .n, .n, .g, .g]) (args := [.agg #[.int .i64 x1, .int .i64 x2, .bool x3, (sv v4), (sv v5), (sv v6)], .int .i64 x7, .int .i64 x8]) (h := h) (h' := h) (v := .bool false) (hC := (ai (g_ft l_f) (ai (g_ft l_f) (ai (g_ft l_f) (ai (g_ft l_f) (ai (g_ft l_f) (ai (g_ft l_f) (ai (g_ft l_f) (ai (g_ft l_f) (ai c22 (ai (g_ft c22) (ai (g_ft c22) (ai (g_ft c22) (ai (g_ft c22) kc22)))))))))))))) (hr := by kernel_rfl)
/-! 12 jacquard/jacquardlaw31.few -/
def F12 (x1 : Int) (x2 : Int) (x3 : Bool) (l4 : List (Int × Int × Int × Int)) (l5 : List (Int × Int × Int × Int)) (l6 : List (Int × Int)) : Option (Bool) :=
  (Option.bind (F32 x1 x2 x3 l4 l5 l6 12 6) fun y7 =>
  (bif y7 then
   some (decide ((l6.length : Int) ≤ 20))
  else
   some (false)))
set_option maxRecDepth 100000 in
theorem F12_spec (x1 : Int) (x2 : Int) (x3 : Bool) (l4 : List (Int × Int × Int × Int)) (l5 : List (Int × Int × Int × Int)) (l6 : List (Int × Int)) (v4 : Hd) (v5 : Hd) (v6 : Hd) (h : AHeap) (hv4 : SlE E57 4 h (sv v4) l4) (hv5 : SlE E59 4 h (sv v5) l5) (hv6 : SlE E61 2 h (sv v6) l6) (r : Bool) : F12 x1 x2 x3 l4 l5 l6 = some r → ACalls Try.prog 12 [.agg #[.int .i64 x1, .int .i64 x2, .bool x3, (sv v4), (sv v5), (sv v6)]] h (fun v' h'' => v' = (.bool r : Value) ∧ h'' = h) := by
  unfold F12
  refine bind_opt fun y7 e7 => ?_
  have kc9 := (ai (F32_spec x1 x2 x3 l4 l5 l6 12 6 v4 v5 v6 h hv4 hv5 hv6 _ e7) trivial)
  refine dec_bif (fun c9 => ?_) (fun c9 => ?_)
  · intro hr
    obtain rfl := Option.some.inj hr
    exact pFun_sound good tab_ok (f := 12) (its := [.g, .g, .g, (.c (.bool y7) h), .g, (.w .g), (.w .g), (.w (.ln l6.length)), (.w .g), (.p true), .g]) (args := [.agg #[.int .i64 x1, .int .i64 x2, .bool x3, (sv v4), (sv v5), (sv v6)]]) (h := h) (h' := h) (v := .bool (decide ((l6.length : Int) ≤ 20))) (hC := (ai c9 (ai (g_tt c9) (ai (SlE.len hv6) (ai (g_tt c9) (ai (g_tt c9) (ai (g_tt c9) kc9))))))) (hr := by kernel_rfl)
  · intro hr
    obtain rfl := Option.some.inj hr
    exact pFun_sound good tab_ok (f := 12) (its := [.g, .g, .g, (.c (.bool y7) h), .g, .n, .n, .n, .n, (.p false), .g]) (args := [.agg #[.int .i64 x1, .int .i64 x2, .bool x3, (sv v4), (sv v5), (sv v6)]]) (h := h) (h' := h) (v := .bool false) (hC := (ai c9 (ai (g_ft c9) (ai (g_ft c9) (ai (g_ft c9) (ai (g_ft c9) kc9)))))) (hr := by kernel_rfl)
/-! 28 jacquard/jacquardref28.Source -/
def F28 (x1 : Int) (x2 : Int) (x3 : Bool) (l4 : List (Int × Int × Int × Int)) (l5 : List (Int × Int × Int × Int)) (l6 : List (Int × Int)) : Int :=
  (IntKind.i64.wrap (x1 + x2))
set_option maxRecDepth 100000 in
theorem F28_spec (x1 : Int) (x2 : Int) (x3 : Bool) (l4 : List (Int × Int × Int × Int)) (l5 : List (Int × Int × Int × Int)) (l6 : List (Int × Int)) (v4 : Hd) (v5 : Hd) (v6 : Hd) (h : AHeap) (hv4 : SlE E57 4 h (sv v4) l4) (hv5 : SlE E59 4 h (sv v5) l5) (hv6 : SlE E61 2 h (sv v6) l6) (r : Int) : F28 x1 x2 x3 l4 l5 l6 = r → ACalls Try.prog 28 [.agg #[.int .i64 x1, .int .i64 x2, .bool x3, (sv v4), (sv v5), (sv v6)]] h (fun v' h'' => v' = (.int .i64 r : Value) ∧ h'' = h) := by
  unfold F28
  intro hr
  subst hr
  exact pFun_sound good tab_ok (f := 28) (its := [.g, .g, .g, .g, .g, .g, .g, .g]) (args := [.agg #[.int .i64 x1, .int .i64 x2, .bool x3, (sv v4), (sv v5), (sv v6)]]) (h := h) (h' := h) (v := .int .i64 (IntKind.i64.wrap (x1 + x2))) (hC := trivial) (hr := by kernel_rfl)
/-! 26 jacquard/jacquardref28.End -/
def F26 (x1 : Int) (x2 : Int) (x3 : Bool) (l4 : List (Int × Int × Int × Int)) (l5 : List (Int × Int × Int × Int)) (l6 : List (Int × Int)) : Int :=
  (IntKind.i64.wrap ((IntKind.i64.wrap (x1 + x2)) + 1))
set_option maxRecDepth 100000 in
theorem F26_spec (x1 : Int) (x2 : Int) (x3 : Bool) (l4 : List (Int × Int × Int × Int)) (l5 : List (Int × Int × Int × Int)) (l6 : List (Int × Int)) (v4 : Hd) (v5 : Hd) (v6 : Hd) (h : AHeap) (hv4 : SlE E57 4 h (sv v4) l4) (hv5 : SlE E59 4 h (sv v5) l5) (hv6 : SlE E61 2 h (sv v6) l6) (r : Int) : F26 x1 x2 x3 l4 l5 l6 = r → ACalls Try.prog 26 [.agg #[.int .i64 x1, .int .i64 x2, .bool x3, (sv v4), (sv v5), (sv v6)]] h (fun v' h'' => v' = (.int .i64 r : Value) ∧ h'' = h) := by
  unfold F26
  intro hr
  subst hr
  exact pFun_sound good tab_ok (f := 26) (its := [.g, .g, .g, .g, .g, .g, .g, .g, .g]) (args := [.agg #[.int .i64 x1, .int .i64 x2, .bool x3, (sv v4), (sv v5), (sv v6)]]) (h := h) (h' := h) (v := .int .i64 (IntKind.i64.wrap ((IntKind.i64.wrap (x1 + x2)) + 1))) (hC := trivial) (hr := by kernel_rfl)
/-! 14 jacquard/jacquardref28.Valid -/
def F14_L : List Nat := [1, 5, 10, 12]
def F14_D : List (Nat × List (Nat × Nat)) := [(19, [(0, 2), (2, 2), (5, 2), (7, 2), (1, 3), (3, 2), (4, 5), (6, 1), (8, 2), (9, 2)]), (32, [(0, 2), (1, 2), (2, 2), (3, 2), (4, 2), (5, 2), (7, 2), (6, 3), (8, 1), (9, 2), (10, 2), (11, 2), (12, 2), (13, 2), (14, 2), (15, 2), (16, 2), (17, 2), (18, 2), (19, 2), (20, 2), (21, 2), (22, 2), (23, 2), (24, 2), (25, 2), (26, 2), (27, 2), (28, 2), (29, 2), (30, 2), (31, 2), (32, 2), (33, 2)])]
def F14__1 (x1 : Int) (x2 : Int) (y14 : Int × Int × Int × Int) : Bool := decide (y14.1 ≥ (IntKind.i64.wrap ((IntKind.i64.wrap ((IntKind.i64.wrap (x1 + x2)) + 2)) - 1)))
def F14__2 (x1 : Int) (x2 : Int) : Int := (IntKind.i64.wrap ((IntKind.i64.wrap (2 * (IntKind.i64.wrap ((IntKind.i64.wrap (x1 + x2)) + 2)))) - 3))
def F14__3 (x1 : Int) (x2 : Int) (a28 : Int) : Bool := decide (a28 < (IntKind.i64.wrap ((IntKind.i64.wrap ((IntKind.i64.wrap (x1 + x2)) + 2)) - 1)))
def F14__4 (x1 : Int) (x2 : Int) (x3 : Bool) (l4 : List (Int × Int × Int × Int)) (l5 : List (Int × Int × Int × Int)) (l6 : List (Int × Int)) (a28 : Int) (y32 : Int × Int × Int × Int) : Bool := (!((y32.1 == (F28 x1 x2 x3 l4 l5 l6)) && ((y32.2.1 == (IntKind.i64.wrap (a28 + 1))) && ((y32.2.2.1 == 0) && ((y32.2.2.2 == 0) && true)))))
def F14__5 (x1 : Int) (x2 : Int) (x3 : Bool) (l4 : List (Int × Int × Int × Int)) (l5 : List (Int × Int × Int × Int)) (l6 : List (Int × Int)) (a28 : Int) (y35 : Int × Int × Int × Int) : Bool := (!((y35.1 == (F28 x1 x2 x3 l4 l5 l6)) && ((y35.2.1 == a28) && ((y35.2.2.1 == 0) && ((y35.2.2.2 == 0) && true)))))
def F14__6 (x1 : Int) (x2 : Int) (a49 : Int) : Bool := decide (a49 < (IntKind.i64.wrap ((IntKind.i64.wrap ((IntKind.i64.wrap (x1 + x2)) + 2)) - 2)))
def F14__7 (x1 : Int) (x2 : Int) (a49 : Int) : Int := (IntKind.i64.wrap ((IntKind.i64.wrap ((IntKind.i64.wrap ((IntKind.i64.wrap (x1 + x2)) + 2)) - 1)) + a49))
def F14_m1_2 : List Bool := (true :: false :: true :: false :: (rp 271 true []))
def F14_m1_1 : List Bool := (true :: false :: true :: false :: (rp 43 true (false :: false :: (rp 226 true []))))
def F14_m1_0 : List Bool := (true :: true :: false :: (rp 272 true []))
def F14_s1 (x1 : Int) (x2 : Int) (x3 : Bool) (l4 : List (Int × Int × Int × Int)) (a12 : Int) : Option (Int ⊕ Nat) :=
  (bif decide (a12 < (l4.length : Int)) then
   (Option.bind (at? l4 a12) fun y14 =>
   (bif decide (y14.1 < 0) then
    some (.inr 0)
   else
    (bif (F14__1 x1 x2 y14) then
     some (.inr 0)
    else
     (bif decide (y14.2.1 < 0) then
      some (.inr 0)
     else
      (bif decide (y14.2.1 ≥ (IntKind.i64.wrap ((IntKind.i64.wrap (x1 + x2)) + 2))) then
       some (.inr 0)
      else
       (bif decide (y14.2.2.1 < 0) then
        some (.inr 0)
       else
        (bif decide (y14.2.2.1 > 4096) then
         some (.inr 0)
        else
         (bif decide (y14.2.2.2 < 0) then
          some (.inr 0)
         else
          (bif decide (y14.2.2.2 > 256) then
           some (.inr 0)
          else
           (bif decide (y14.2.2.2 > 0) then
            (bif (!x3) then
             some (.inr 0)
            else
             some (.inl (IntKind.i64.wrap (a12 + 1))))
           else
            some (.inl (IntKind.i64.wrap (a12 + 1)))))))))))))
  else
   some (.inr 1))
def F14_h1 (h : AHeap) (x1 : Int) (x2 : Int) (x3 : Bool) (l4 : List (Int × Int × Int × Int)) (v4 : Hd) (v5 : Hd) (v6 : Hd)  (a12 : Int) : AS := ⟨(junk :: (.pointer (some ⟨1, 0, none⟩)) :: junk :: (.int .i64 (IntKind.i64.wrap ((IntKind.i64.wrap (x1 + x2)) + 2))) :: (rp 43 junk ((.int .i64 (l4.length : Int)) :: (.int .i64 a12) :: (rp 226 junk [])))), [(1, [.int .i64 x1, .int .i64 x2, .bool x3, (sv v4), (sv v5), (sv v6)])], h⟩
theorem F14_d1 : drawsOk F14_D (codeOf Try.prog 14 [1, 1, 1, 0, 1, 0, 0]) = true := by kernel_rfl
def F14_x1_0 (h : AHeap) (x1 : Int) (x2 : Int) (x3 : Bool) (v4 : Hd) (v5 : Hd) (v6 : Hd)  (r : Nat) : AS := ⟨(junk :: junk :: (.bool false) :: (rp 272 junk [])), [], h⟩
def F14_x1_1 (h : AHeap) (x1 : Int) (x2 : Int) (x3 : Bool) (v4 : Hd) (v5 : Hd) (v6 : Hd)  (r : Nat) : AS := ⟨(junk :: (.pointer (some ⟨1, 0, none⟩)) :: junk :: (.int .i64 (IntKind.i64.wrap ((IntKind.i64.wrap (x1 + x2)) + 2))) :: (rp 271 junk [])), [(1, [.int .i64 x1, .int .i64 x2, .bool x3, (sv v4), (sv v5), (sv v6)])], h⟩
def F14_x1 (h : AHeap) (x1 : Int) (x2 : Int) (x3 : Bool) (v4 : Hd) (v5 : Hd) (v6 : Hd) (r : Nat) : Exit × AS := (bif Nat.beq r 0 then (.ret, (F14_x1_0 h x1 x2 x3 v4 v5 v6 r)) else ((.exit 0), (F14_x1_1 h x1 x2 x3 v4 v5 v6 r)))
set_option maxRecDepth 100000 in
theorem F14_r1 (h : AHeap) (x1 : Int) (x2 : Int) (x3 : Bool) (l4 : List (Int × Int × Int × Int)) (v4 : Hd) (hv4 : SlE E57 4 h (sv v4) l4) (v5 : Hd) (v6 : Hd) (a12 : Int) (o : Int ⊕ Nat) : F14_s1 x1 x2 x3 l4 a12 = some o → RdF Try.prog (codeOf Try.prog 14 [1, 1, 1, 0, 1, 0, 0]) (fun (s : Int) => (F14_h1 h x1 x2 x3 l4 v4 v5 v6 s)) (F14_x1 h x1 x2 x3 v4 v5 v6) (F14_h1 h x1 x2 x3 l4 v4 v5 v6 a12) o := by
  unfold F14_s1
  refine dec_bif (fun c13 => ?_) (fun c13 => ?_)
  · refine bind_opt fun y14 e14 => ?_
    obtain ⟨id14, off14, g14, cs14, ix14, at14, rfl⟩ := SlE.at hv4 e14
    have kc15 := (ai (At.agg (P := Try.prog) (t := 57) (v := .agg #[.int .i64 y14.1, .int .i64 y14.2.1, .int .i64 y14.2.2.1, .int .i64 y14.2.2.2]) (m := 4) at14 (by kernel_rfl) (by kernel_rfl) 0 (by kernel_rfl) rfl) (ai ix14 (ai c13 trivial)))
    refine dec_bif (fun c15 => ?_) (fun c15 => ?_)
    · intro hr
      obtain rfl := Option.some.inj hr
      show AWp Try.prog _ (Ends1 ((F14_x1 h x1 x2 x3 v4 v5 v6) (0 : Nat)).1 ((F14_x1 h x1 x2 x3 v4 v5 v6) (0 : Nat)).2) _
      exact pEnd_sound good (L := F14_L) (D := F14_D) (its := [.g, (.b true), .g, .g, .g, .g, .g, (.ix id14 off14 g14), (.ld (.agg #[.int .i64 y14.1, .int .i64 y14.2.1, .int .i64 y14.2.2.1, .int .i64 y14.2.2.2])), .g, .g, .g, .g, .g, .g, .n, .n, .n, .n, .n, (.p true), .g, .n, .n, .n, .g, .g, .n, .n, .n, .n, .g, .g, .n, .n, .n, .g, .g, .n, .n, .n, .g, .g, .n, .n, .n, .g, .g, .n, .n, .n, .g, .g, .n, .n, .n, .n, .n, .n, .n, .n, .g, (.b true), .g]) (ds := F14_m1_0) (ks := [1, 5]) (e := ((F14_x1 h x1 x2 x3 v4 v5 v6) (0 : Nat)).1) (s2 := ((F14_x1 h x1 x2 x3 v4 v5 v6) (0 : Nat)).2) (hC := (ai l_t (ai (g_tf l_t) (ai l_f (ai l_f (ai l_f (ai (g_tf l_t) (ai (g_tf l_t) (ai (g_tf l_t) (ai (g_tf l_t) (ai (g_tf l_t) (ai (g_tf l_t) (ai (g_tf l_t) (ai (g_tf l_t) (ai (g_tf l_t) (ai (g_tf l_t) (ai (g_tf l_t) (ai (g_tf l_t) (ai (g_tf l_t) (ai (g_tf l_t) (ai (g_tf l_t) (ai (g_tf l_t) (ai (g_tf l_t) (ai (g_tf l_t) (ai (g_tf l_t) (ai (g_tf l_t) (ai (g_tf l_t) (ai (g_tf l_t) (ai (g_tf l_t) (ai c15 (ai (g_tf c15) (ai (g_tf c15) (ai (g_tf c15) (ai (g_tf c15) (ai (g_tf c15) kc15))))))))))))))))))))))))))))))))))) (hd := F14_d1) (h := by kernel_rfl)
    · have kc16 := (ai c15 (ai (g_ff c15) (ai (g_ff c15) (ai (g_ff c15) (ai (g_ff c15) (ai (g_ff c15) kc15))))))
      refine dec_bif (fun c16 => ?_) (fun c16 => ?_)
      · intro hr
        obtain rfl := Option.some.inj hr
        show AWp Try.prog _ (Ends1 ((F14_x1 h x1 x2 x3 v4 v5 v6) (0 : Nat)).1 ((F14_x1 h x1 x2 x3 v4 v5 v6) (0 : Nat)).2) _
        exact pEnd_sound good (L := F14_L) (D := F14_D) (its := [.g, (.b true), .g, .g, .g, .g, .g, (.ix id14 off14 g14), (.ld (.agg #[.int .i64 y14.1, .int .i64 y14.2.1, .int .i64 y14.2.2.1, .int .i64 y14.2.2.2])), .g, .g, .g, .g, .g, .g, (.w .g), (.w .g), (.w .g), (.w .g), (.w .g), (.p false), .g, .n, .n, .n, (.p true), .g, .n, .n, .n, .n, .g, .g, .n, .n, .n, .g, .g, .n, .n, .n, .g, .g, .n, .n, .n, .g, .g, .n, .n, .n, .g, .g, .n, .n, .n, .n, .n, .n, .n, .n, .g, (.b true), .g]) (ds := F14_m1_0) (ks := [1, 5]) (e := ((F14_x1 h x1 x2 x3 v4 v5 v6) (0 : Nat)).1) (s2 := ((F14_x1 h x1 x2 x3 v4 v5 v6) (0 : Nat)).2) (hC := (ai l_t (ai (g_tf l_t) (ai l_f (ai l_f (ai l_f (ai (g_tf l_t) (ai (g_tf l_t) (ai (g_tf l_t) (ai (g_tf l_t) (ai (g_tf l_t) (ai (g_tf l_t) (ai (g_tf l_t) (ai (g_tf l_t) (ai (g_tf l_t) (ai (g_tf l_t) (ai (g_tf l_t) (ai (g_tf l_t) (ai (g_tf l_t) (ai (g_tf l_t) (ai (g_tf l_t) (ai (g_tf l_t) (ai (g_tf l_t) (ai (g_tf l_t) (ai (g_tf l_t) (ai (g_tf l_t) (ai c16 (ai (g_tf c16) (ai (g_tf c16) (ai (g_tf c16) kc16)))))))))))))))))))))))))))))) (hd := F14_d1) (h := by kernel_rfl)
      · have kc17 := (ai c16 (ai (g_ff c16) (ai (g_ff c16) (ai (g_ff c16) kc16))))
        refine dec_bif (fun c17 => ?_) (fun c17 => ?_)
        · intro hr
          obtain rfl := Option.some.inj hr
          show AWp Try.prog _ (Ends1 ((F14_x1 h x1 x2 x3 v4 v5 v6) (0 : Nat)).1 ((F14_x1 h x1 x2 x3 v4 v5 v6) (0 : Nat)).2) _
          exact pEnd_sound good (L := F14_L) (D := F14_D) (its := [.g, (.b true), .g, .g, .g, .g, .g, (.ix id14 off14 g14), (.ld (.agg #[.int .i64 y14.1, .int .i64 y14.2.1, .int .i64 y14.2.2.1, .int .i64 y14.2.2.2])), .g, .g, .g, .g, .g, .g, (.w .g), (.w .g), (.w .g), (.w .g), (.w .g), (.p false), .g, (.w .g), (.w .g), (.w .g), (.p false), .g, .n, .n, .n, .n, (.p true), .g, .n, .n, .n, .g, .g, .n, .n, .n, .g, .g, .n, .n, .n, .g, .g, .n, .n, .n, .g, .g, .n, .n, .n, .n, .n, .n, .n, .n, .g, (.b true), .g]) (ds := F14_m1_0) (ks := [1, 5]) (e := ((F14_x1 h x1 x2 x3 v4 v5 v6) (0 : Nat)).1) (s2 := ((F14_x1 h x1 x2 x3 v4 v5 v6) (0 : Nat)).2) (hC := (ai l_t (ai (g_tf l_t) (ai l_f (ai l_f (ai l_f (ai (g_tf l_t) (ai (g_tf l_t) (ai (g_tf l_t) (ai (g_tf l_t) (ai (g_tf l_t) (ai (g_tf l_t) (ai (g_tf l_t) (ai (g_tf l_t) (ai (g_tf l_t) (ai (g_tf l_t) (ai (g_tf l_t) (ai (g_tf l_t) (ai (g_tf l_t) (ai (g_tf l_t) (ai (g_tf l_t) (ai (g_tf l_t) (ai c17 (ai (g_tf c17) (ai (g_tf c17) (ai (g_tf c17) (ai (g_tf c17) kc17))))))))))))))))))))))))))) (hd := F14_d1) (h := by kernel_rfl)
        · have kc18 := (ai c17 (ai (g_ff c17) (ai (g_ff c17) (ai (g_ff c17) (ai (g_ff c17) kc17)))))
          refine dec_bif (fun c18 => ?_) (fun c18 => ?_)
          · intro hr
            obtain rfl := Option.some.inj hr
            show AWp Try.prog _ (Ends1 ((F14_x1 h x1 x2 x3 v4 v5 v6) (0 : Nat)).1 ((F14_x1 h x1 x2 x3 v4 v5 v6) (0 : Nat)).2) _
            exact pEnd_sound good (L := F14_L) (D := F14_D) (its := [.g, (.b true), .g, .g, .g, .g, .g, (.ix id14 off14 g14), (.ld (.agg #[.int .i64 y14.1, .int .i64 y14.2.1, .int .i64 y14.2.2.1, .int .i64 y14.2.2.2])), .g, .g, .g, .g, .g, .g, (.w .g), (.w .g), (.w .g), (.w .g), (.w .g), (.p false), .g, (.w .g), (.w .g), (.w .g), (.p false), .g, (.w .g), (.w .g), (.w .g), (.w .g), (.p false), .g, .n, .n, .n, (.p true), .g, .n, .n, .n, .g, .g, .n, .n, .n, .g, .g, .n, .n, .n, .g, .g, .n, .n, .n, .n, .n, .n, .n, .n, .g, (.b true), .g]) (ds := F14_m1_0) (ks := [1, 5]) (e := ((F14_x1 h x1 x2 x3 v4 v5 v6) (0 : Nat)).1) (s2 := ((F14_x1 h x1 x2 x3 v4 v5 v6) (0 : Nat)).2) (hC := (ai l_t (ai (g_tf l_t) (ai l_f (ai l_f (ai l_f (ai (g_tf l_t) (ai (g_tf l_t) (ai (g_tf l_t) (ai (g_tf l_t) (ai (g_tf l_t) (ai (g_tf l_t) (ai (g_tf l_t) (ai (g_tf l_t) (ai (g_tf l_t) (ai (g_tf l_t) (ai (g_tf l_t) (ai (g_tf l_t) (ai (g_tf l_t) (ai c18 (ai (g_tf c18) (ai (g_tf c18) (ai (g_tf c18) kc18))))))))))))))))))))))) (hd := F14_d1) (h := by kernel_rfl)
          · have kc19 := (ai c18 (ai (g_ff c18) (ai (g_ff c18) (ai (g_ff c18) kc18))))
            refine dec_bif (fun c19 => ?_) (fun c19 => ?_)
            · intro hr
              obtain rfl := Option.some.inj hr
              show AWp Try.prog _ (Ends1 ((F14_x1 h x1 x2 x3 v4 v5 v6) (0 : Nat)).1 ((F14_x1 h x1 x2 x3 v4 v5 v6) (0 : Nat)).2) _
              exact pEnd_sound good (L := F14_L) (D := F14_D) (its := [.g, (.b true), .g, .g, .g, .g, .g, (.ix id14 off14 g14), (.ld (.agg #[.int .i64 y14.1, .int .i64 y14.2.1, .int .i64 y14.2.2.1, .int .i64 y14.2.2.2])), .g, .g, .g, .g, .g, .g, (.w .g), (.w .g), (.w .g), (.w .g), (.w .g), (.p false), .g, (.w .g), (.w .g), (.w .g), (.p false), .g, (.w .g), (.w .g), (.w .g), (.w .g), (.p false), .g, (.w .g), (.w .g), (.w .g), (.p false), .g, .n, .n, .n, (.p true), .g, .n, .n, .n, .g, .g, .n, .n, .n, .g, .g, .n, .n, .n, .n, .n, .n, .n, .n, .g, (.b true), .g]) (ds := F14_m1_0) (ks := [1, 5]) (e := ((F14_x1 h x1 x2 x3 v4 v5 v6) (0 : Nat)).1) (s2 := ((F14_x1 h x1 x2 x3 v4 v5 v6) (0 : Nat)).2) (hC := (ai l_t (ai (g_tf l_t) (ai l_f (ai l_f (ai l_f (ai (g_tf l_t) (ai (g_tf l_t) (ai (g_tf l_t) (ai (g_tf l_t) (ai (g_tf l_t) (ai (g_tf l_t) (ai (g_tf l_t) (ai (g_tf l_t) (ai (g_tf l_t) (ai (g_tf l_t) (ai c19 (ai (g_tf c19) (ai (g_tf c19) (ai (g_tf c19) kc19)))))))))))))))))))) (hd := F14_d1) (h := by kernel_rfl)
            · have kc20 := (ai c19 (ai (g_ff c19) (ai (g_ff c19) (ai (g_ff c19) kc19))))
              refine dec_bif (fun c20 => ?_) (fun c20 => ?_)
              · intro hr
                obtain rfl := Option.some.inj hr
                show AWp Try.prog _ (Ends1 ((F14_x1 h x1 x2 x3 v4 v5 v6) (0 : Nat)).1 ((F14_x1 h x1 x2 x3 v4 v5 v6) (0 : Nat)).2) _
                exact pEnd_sound good (L := F14_L) (D := F14_D) (its := [.g, (.b true), .g, .g, .g, .g, .g, (.ix id14 off14 g14), (.ld (.agg #[.int .i64 y14.1, .int .i64 y14.2.1, .int .i64 y14.2.2.1, .int .i64 y14.2.2.2])), .g, .g, .g, .g, .g, .g, (.w .g), (.w .g), (.w .g), (.w .g), (.w .g), (.p false), .g, (.w .g), (.w .g), (.w .g), (.p false), .g, (.w .g), (.w .g), (.w .g), (.w .g), (.p false), .g, (.w .g), (.w .g), (.w .g), (.p false), .g, (.w .g), (.w .g), (.w .g), (.p false), .g, .n, .n, .n, (.p true), .g, .n, .n, .n, .g, .g, .n, .n, .n, .n, .n, .n, .n, .n, .g, (.b true), .g]) (ds := F14_m1_0) (ks := [1, 5]) (e := ((F14_x1 h x1 x2 x3 v4 v5 v6) (0 : Nat)).1) (s2 := ((F14_x1 h x1 x2 x3 v4 v5 v6) (0 : Nat)).2) (hC := (ai l_t (ai (g_tf l_t) (ai l_f (ai l_f (ai l_f (ai (g_tf l_t) (ai (g_tf l_t) (ai (g_tf l_t) (ai (g_tf l_t) (ai (g_tf l_t) (ai (g_tf l_t) (ai (g_tf l_t) (ai c20 (ai (g_tf c20) (ai (g_tf c20) (ai (g_tf c20) kc20))))))))))))))))) (hd := F14_d1) (h := by kernel_rfl)
              · have kc21 := (ai c20 (ai (g_ff c20) (ai (g_ff c20) (ai (g_ff c20) kc20))))
                refine dec_bif (fun c21 => ?_) (fun c21 => ?_)
                · intro hr
                  obtain rfl := Option.some.inj hr
                  show AWp Try.prog _ (Ends1 ((F14_x1 h x1 x2 x3 v4 v5 v6) (0 : Nat)).1 ((F14_x1 h x1 x2 x3 v4 v5 v6) (0 : Nat)).2) _
                  exact pEnd_sound good (L := F14_L) (D := F14_D) (its := [.g, (.b true), .g, .g, .g, .g, .g, (.ix id14 off14 g14), (.ld (.agg #[.int .i64 y14.1, .int .i64 y14.2.1, .int .i64 y14.2.2.1, .int .i64 y14.2.2.2])), .g, .g, .g, .g, .g, .g, (.w .g), (.w .g), (.w .g), (.w .g), (.w .g), (.p false), .g, (.w .g), (.w .g), (.w .g), (.p false), .g, (.w .g), (.w .g), (.w .g), (.w .g), (.p false), .g, (.w .g), (.w .g), (.w .g), (.p false), .g, (.w .g), (.w .g), (.w .g), (.p false), .g, (.w .g), (.w .g), (.w .g), (.p false), .g, .n, .n, .n, (.p true), .g, .n, .n, .n, .n, .n, .n, .n, .n, .g, (.b true), .g]) (ds := F14_m1_0) (ks := [1, 5]) (e := ((F14_x1 h x1 x2 x3 v4 v5 v6) (0 : Nat)).1) (s2 := ((F14_x1 h x1 x2 x3 v4 v5 v6) (0 : Nat)).2) (hC := (ai l_t (ai (g_tf l_t) (ai l_f (ai l_f (ai l_f (ai (g_tf l_t) (ai (g_tf l_t) (ai (g_tf l_t) (ai (g_tf l_t) (ai c21 (ai (g_tf c21) (ai (g_tf c21) (ai (g_tf c21) kc21)))))))))))))) (hd := F14_d1) (h := by kernel_rfl)
                · have kc22 := (ai c21 (ai (g_ff c21) (ai (g_ff c21) (ai (g_ff c21) kc21))))
                  refine dec_bif (fun c22 => ?_) (fun c22 => ?_)
                  · intro hr
                    obtain rfl := Option.some.inj hr
                    show AWp Try.prog _ (Ends1 ((F14_x1 h x1 x2 x3 v4 v5 v6) (0 : Nat)).1 ((F14_x1 h x1 x2 x3 v4 v5 v6) (0 : Nat)).2) _
                    exact pEnd_sound good (L := F14_L) (D := F14_D) (its := [.g, (.b true), .g, .g, .g, .g, .g, (.ix id14 off14 g14), (.ld (.agg #[.int .i64 y14.1, .int .i64 y14.2.1, .int .i64 y14.2.2.1, .int .i64 y14.2.2.2])), .g, .g, .g, .g, .g, .g, (.w .g), (.w .g), (.w .g), (.w .g), (.w .g), (.p false), .g, (.w .g), (.w .g), (.w .g), (.p false), .g, (.w .g), (.w .g), (.w .g), (.w .g), (.p false), .g, (.w .g), (.w .g), (.w .g), (.p false), .g, (.w .g), (.w .g), (.w .g), (.p false), .g, (.w .g), (.w .g), (.w .g), (.p false), .g, (.w .g), (.w .g), (.w .g), (.p false), .g, .n, .n, .n, .n, .n, .n, .n, .n, (.p true), (.b true), .g]) (ds := F14_m1_0) (ks := [1, 5]) (e := ((F14_x1 h x1 x2 x3 v4 v5 v6) (0 : Nat)).1) (s2 := ((F14_x1 h x1 x2 x3 v4 v5 v6) (0 : Nat)).2) (hC := (ai l_t (ai c22 (ai (g_tf c22) (ai l_f (ai l_f (ai l_f (ai (g_tf c22) (ai (g_tf c22) (ai (g_tf c22) (ai (g_tf c22) kc22))))))))))) (hd := F14_d1) (h := by kernel_rfl)
                  · have kc23 := (ai (g_ff c22) (ai (g_ff c22) (ai (g_ff c22) (ai (g_ff c22) kc22))))
                    refine dec_bif (fun c23 => ?_) (fun c23 => ?_)
                    · have kc24 := (ai c22 (ai c23 (ai (g_ff c22) (ai (g_tt c23) (ai (g_tt c23) (ai (g_tt c23) kc23))))))
                      refine dec_bif (fun c24 => ?_) (fun c24 => ?_)
                      · intro hr
                        obtain rfl := Option.some.inj hr
                        show AWp Try.prog _ (Ends1 ((F14_x1 h x1 x2 x3 v4 v5 v6) (0 : Nat)).1 ((F14_x1 h x1 x2 x3 v4 v5 v6) (0 : Nat)).2) _
                        exact pEnd_sound good (L := F14_L) (D := F14_D) (its := [.g, (.b true), .g, .g, .g, .g, .g, (.ix id14 off14 g14), (.ld (.agg #[.int .i64 y14.1, .int .i64 y14.2.1, .int .i64 y14.2.2.1, .int .i64 y14.2.2.2])), .g, .g, .g, .g, .g, .g, (.w .g), (.w .g), (.w .g), (.w .g), (.w .g), (.p false), .g, (.w .g), (.w .g), (.w .g), (.p false), .g, (.w .g), (.w .g), (.w .g), (.w .g), (.p false), .g, (.w .g), (.w .g), (.w .g), (.p false), .g, (.w .g), (.w .g), (.w .g), (.p false), .g, (.w .g), (.w .g), (.w .g), (.p false), .g, (.w .g), (.w .g), (.w .g), (.p false), .g, (.w .g), (.w .g), (.w .g), (.w .g), (.w .g), (.w .g), (.w .g), (.w (.p true)), (.p false), (.b true), .g]) (ds := F14_m1_0) (ks := [1, 5]) (e := ((F14_x1 h x1 x2 x3 v4 v5 v6) (0 : Nat)).1) (s2 := ((F14_x1 h x1 x2 x3 v4 v5 v6) (0 : Nat)).2) (hC := (ai c24 kc24)) (hd := F14_d1) (h := by kernel_rfl)
                      · intro hr
                        obtain rfl := Option.some.inj hr
                        show AWp Try.prog _ (Ends1 .normal (F14_h1 h x1 x2 x3 l4 v4 v5 v6 (IntKind.i64.wrap (a12 + 1)))) _
                        exact pEnd_sound good (L := F14_L) (D := F14_D) (its := [.g, (.b true), .g, .g, .g, .g, .g, (.ix id14 off14 g14), (.ld (.agg #[.int .i64 y14.1, .int .i64 y14.2.1, .int .i64 y14.2.2.1, .int .i64 y14.2.2.2])), .g, .g, .g, .g, .g, .g, (.w .g), (.w .g), (.w .g), (.w .g), (.w .g), (.p false), .g, (.w .g), (.w .g), (.w .g), (.p false), .g, (.w .g), (.w .g), (.w .g), (.w .g), (.p false), .g, (.w .g), (.w .g), (.w .g), (.p false), .g, (.w .g), (.w .g), (.w .g), (.p false), .g, (.w .g), (.w .g), (.w .g), (.p false), .g, (.w .g), (.w .g), (.w .g), (.p false), .g, (.w .g), (.w .g), (.w .g), (.w .g), (.w .g), (.w .g), (.w .g), (.w (.p true)), (.p false), (.b false), .g, .g]) (ds := F14_m1_1) (ks := [5]) (e := .normal) (s2 := (F14_h1 h x1 x2 x3 l4 v4 v5 v6 (IntKind.i64.wrap (a12 + 1)))) (hC := (ai c24 kc24)) (hd := F14_d1) (h := by kernel_rfl)
                    · intro hr
                      obtain rfl := Option.some.inj hr
                      show AWp Try.prog _ (Ends1 .normal (F14_h1 h x1 x2 x3 l4 v4 v5 v6 (IntKind.i64.wrap (a12 + 1)))) _
                      exact pEnd_sound good (L := F14_L) (D := F14_D) (its := [.g, (.b true), .g, .g, .g, .g, .g, (.ix id14 off14 g14), (.ld (.agg #[.int .i64 y14.1, .int .i64 y14.2.1, .int .i64 y14.2.2.1, .int .i64 y14.2.2.2])), .g, .g, .g, .g, .g, .g, (.w .g), (.w .g), (.w .g), (.w .g), (.w .g), (.p false), .g, (.w .g), (.w .g), (.w .g), (.p false), .g, (.w .g), (.w .g), (.w .g), (.w .g), (.p false), .g, (.w .g), (.w .g), (.w .g), (.p false), .g, (.w .g), (.w .g), (.w .g), (.p false), .g, (.w .g), (.w .g), (.w .g), (.p false), .g, (.w .g), (.w .g), (.w .g), (.p false), .g, (.w .g), (.w .g), (.w .g), (.w .g), .n, .n, .n, (.w (.p false)), (.p false), (.b false), .g, .g]) (ds := F14_m1_1) (ks := [5]) (e := .normal) (s2 := (F14_h1 h x1 x2 x3 l4 v4 v5 v6 (IntKind.i64.wrap (a12 + 1)))) (hC := (ai l_f (ai c22 (ai c23 (ai (g_ff c22) (ai (g_ft c23) (ai (g_ft c23) (ai (g_ft c23) kc23)))))))) (hd := F14_d1) (h := by kernel_rfl)
  · intro hr
    obtain rfl := Option.some.inj hr
    show AWp Try.prog _ (Ends1 ((F14_x1 h x1 x2 x3 v4 v5 v6) (1 : Nat)).1 ((F14_x1 h x1 x2 x3 v4 v5 v6) (1 : Nat)).2) _
    exact pEnd_sound good (L := F14_L) (D := F14_D) (its := [.g, (.b false)]) (ds := F14_m1_2) (ks := []) (e := ((F14_x1 h x1 x2 x3 v4 v5 v6) (1 : Nat)).1) (s2 := ((F14_x1 h x1 x2 x3 v4 v5 v6) (1 : Nat)).2) (hC := (ai c13 trivial)) (hd := F14_d1) (h := by kernel_rfl)
theorem F14_l1_0 (h : AHeap) (x1 : Int) (x2 : Int) (x3 : Bool) (l4 : List (Int × Int × Int × Int)) (v4 : Hd) (hv4 : SlE E57 4 h (sv v4) l4) (v5 : Hd) (v6 : Hd) (x : Int) (r : Nat) (hl : loopO (fun (s : Int) => F14_s1 x1 x2 x3 l4 s) x = some r) (q0 : Nat.beq r 0 = true) : AWp Try.prog (.loop (codeOf Try.prog 14 [1, 1, 1, 0, 1, 0, 0])) (Ends1 .ret (F14_x1_0 h x1 x2 x3 v4 v5 v6 r)) ((fun (s : Int) => (F14_h1 h x1 x2 x3 l4 v4 v5 v6 s)) x) := by
  have k := loop_fun (P := Try.prog) (c := (codeOf Try.prog 14 [1, 1, 1, 0, 1, 0, 0])) (step := (fun (s : Int) => F14_s1 x1 x2 x3 l4 s)) (hd := (fun (s : Int) => (F14_h1 h x1 x2 x3 l4 v4 v5 v6 s))) (X := (F14_x1 h x1 x2 x3 v4 v5 v6)) (by intro t; unfold F14_x1; cases Nat.beq t 0 <;> (intro h; cases h)) (fun x => F14_r1 h x1 x2 x3 l4 v4 hv4 v5 v6 x) hl
  simp only [F14_x1, q0, cond_true, cond_false] at k
  exact k
theorem F14_l1_1 (h : AHeap) (x1 : Int) (x2 : Int) (x3 : Bool) (l4 : List (Int × Int × Int × Int)) (v4 : Hd) (hv4 : SlE E57 4 h (sv v4) l4) (v5 : Hd) (v6 : Hd) (x : Int) (r : Nat) (hl : loopO (fun (s : Int) => F14_s1 x1 x2 x3 l4 s) x = some r) (q0 : Nat.beq r 0 = false) : AWp Try.prog (.loop (codeOf Try.prog 14 [1, 1, 1, 0, 1, 0, 0])) (Ends1 (.exit 0) (F14_x1_1 h x1 x2 x3 v4 v5 v6 r)) ((fun (s : Int) => (F14_h1 h x1 x2 x3 l4 v4 v5 v6 s)) x) := by
  have k := loop_fun (P := Try.prog) (c := (codeOf Try.prog 14 [1, 1, 1, 0, 1, 0, 0])) (step := (fun (s : Int) => F14_s1 x1 x2 x3 l4 s)) (hd := (fun (s : Int) => (F14_h1 h x1 x2 x3 l4 v4 v5 v6 s))) (X := (F14_x1 h x1 x2 x3 v4 v5 v6)) (by intro t; unfold F14_x1; cases Nat.beq t 0 <;> (intro h; cases h)) (fun x => F14_r1 h x1 x2 x3 l4 v4 hv4 v5 v6 x) hl
  simp only [F14_x1, q0, cond_true, cond_false] at k
  exact k
def F14_m2_2 : List Bool := (true :: false :: true :: false :: (rp 271 true []))
def F14_m2_1 : List Bool := (true :: false :: true :: false :: (rp 112 true (false :: false :: (rp 157 true []))))
def F14_m2_0 : List Bool := (true :: true :: false :: (rp 272 true []))
def F14_s2 (x1 : Int) (x2 : Int) (x3 : Bool) (l4 : List (Int × Int × Int × Int)) (l5 : List (Int × Int × Int × Int)) (l6 : List (Int × Int)) (a28 : Int) : Option (Int ⊕ Nat) :=
  (bif (F14__3 x1 x2 a28) then
   (bif decide (a28 ≥ (F28 x1 x2 x3 l4 l5 l6)) then
    (Option.bind (at? l4 a28) fun y32 =>
    (bif (F14__4 x1 x2 x3 l4 l5 l6 a28 y32) then
     some (.inr 0)
    else
     some (.inl (IntKind.i64.wrap (a28 + 1)))))
   else
    (Option.bind (at? l4 a28) fun y35 =>
    (bif (F14__5 x1 x2 x3 l4 l5 l6 a28 y35) then
     some (.inr 0)
    else
     some (.inl (IntKind.i64.wrap (a28 + 1))))))
  else
   some (.inr 1))
def F14_h2 (h : AHeap) (x1 : Int) (x2 : Int) (x3 : Bool) (v4 : Hd) (v5 : Hd) (v6 : Hd)  (a28 : Int) : AS := ⟨(junk :: (.pointer (some ⟨1, 0, none⟩)) :: junk :: (.int .i64 (IntKind.i64.wrap ((IntKind.i64.wrap (x1 + x2)) + 2))) :: (rp 112 junk ((.int .i64 (IntKind.i64.wrap ((IntKind.i64.wrap ((IntKind.i64.wrap (x1 + x2)) + 2)) - 1))) :: (.int .i64 a28) :: (rp 157 junk [])))), [(1, [.int .i64 x1, .int .i64 x2, .bool x3, (sv v4), (sv v5), (sv v6)])], h⟩
theorem F14_d2 : drawsOk F14_D (codeOf Try.prog 14 [1, 1, 1, 1, 1, 0, 1, 0, 0]) = true := by kernel_rfl
def F14_x2_0 (h : AHeap) (x1 : Int) (x2 : Int) (x3 : Bool) (v4 : Hd) (v5 : Hd) (v6 : Hd)  (r : Nat) : AS := ⟨(junk :: junk :: (.bool false) :: (rp 272 junk [])), [], h⟩
def F14_x2_1 (h : AHeap) (x1 : Int) (x2 : Int) (x3 : Bool) (v4 : Hd) (v5 : Hd) (v6 : Hd)  (r : Nat) : AS := ⟨(junk :: (.pointer (some ⟨1, 0, none⟩)) :: junk :: (.int .i64 (IntKind.i64.wrap ((IntKind.i64.wrap (x1 + x2)) + 2))) :: (rp 271 junk [])), [(1, [.int .i64 x1, .int .i64 x2, .bool x3, (sv v4), (sv v5), (sv v6)])], h⟩
def F14_x2 (h : AHeap) (x1 : Int) (x2 : Int) (x3 : Bool) (v4 : Hd) (v5 : Hd) (v6 : Hd) (r : Nat) : Exit × AS := (bif Nat.beq r 0 then (.ret, (F14_x2_0 h x1 x2 x3 v4 v5 v6 r)) else ((.exit 2), (F14_x2_1 h x1 x2 x3 v4 v5 v6 r)))
set_option maxRecDepth 100000 in
theorem F14_r2 (h : AHeap) (x1 : Int) (x2 : Int) (x3 : Bool) (l4 : List (Int × Int × Int × Int)) (v4 : Hd) (hv4 : SlE E57 4 h (sv v4) l4) (l5 : List (Int × Int × Int × Int)) (v5 : Hd) (hv5 : SlE E59 4 h (sv v5) l5) (l6 : List (Int × Int)) (v6 : Hd) (hv6 : SlE E61 2 h (sv v6) l6) (a28 : Int) (o : Int ⊕ Nat) : F14_s2 x1 x2 x3 l4 l5 l6 a28 = some o → RdF Try.prog (codeOf Try.prog 14 [1, 1, 1, 1, 1, 0, 1, 0, 0]) (fun (s : Int) => (F14_h2 h x1 x2 x3 v4 v5 v6 s)) (F14_x2 h x1 x2 x3 v4 v5 v6) (F14_h2 h x1 x2 x3 v4 v5 v6 a28) o := by
  unfold F14_s2
  refine dec_bif (fun c29 => ?_) (fun c29 => ?_)
  · have kc31 := (ai (F28_spec x1 x2 x3 l4 l5 l6 v4 v5 v6 h hv4 hv5 hv6 _ rfl) (ai c29 trivial))
    refine dec_bif (fun c31 => ?_) (fun c31 => ?_)
    · refine bind_opt fun y32 e32 => ?_
      obtain ⟨id32, off32, g32, cs32, ix32, at32, rfl⟩ := SlE.at hv4 e32
      have kc34 := (ai (show aggEq Try.prog 57 #[.int .i64 y32.1, .int .i64 y32.2.1, .int .i64 y32.2.2.1, .int .i64 y32.2.2.2] #[.int .i64 (F28 x1 x2 x3 l4 l5 l6), .int .i64 (IntKind.i64.wrap (a28 + 1)), .int .i64 0, .int .i64 0] = some ((y32.1 == (F28 x1 x2 x3 l4 l5 l6)) && ((y32.2.1 == (IntKind.i64.wrap (a28 + 1))) && ((y32.2.2.1 == 0) && ((y32.2.2.2 == 0) && true)))) by kernel_rfl) (ai (show AKeep h h from (AHeap.sub_refl h)) (ai (F28_spec x1 x2 x3 l4 l5 l6 v4 v5 v6 h hv4 hv5 hv6 _ rfl) (ai (At.agg (P := Try.prog) (t := 57) (v := .agg #[.int .i64 y32.1, .int .i64 y32.2.1, .int .i64 y32.2.2.1, .int .i64 y32.2.2.2]) (m := 4) at32 (by kernel_rfl) (by kernel_rfl) 0 (by kernel_rfl) rfl) (ai ix32 (ai c31 kc31))))))
      refine dec_bif (fun c34 => ?_) (fun c34 => ?_)
      · intro hr
        obtain rfl := Option.some.inj hr
        show AWp Try.prog _ (Ends1 ((F14_x2 h x1 x2 x3 v4 v5 v6) (0 : Nat)).1 ((F14_x2 h x1 x2 x3 v4 v5 v6) (0 : Nat)).2) _
        exact pEnd_sound good (L := F14_L) (D := F14_D) (its := [.g, (.b true), .g, .g, .g, .g, .g, .g, (.c (.int .i64 (F28 x1 x2 x3 l4 l5 l6)) h), .g, (.b true), .g, .g, .g, .g, .g, .g, .g, .g, (.ix id32 off32 g32), (.ld (.agg #[.int .i64 y32.1, .int .i64 y32.2.1, .int .i64 y32.2.2.1, .int .i64 y32.2.2.2])), (.c (.int .i64 (F28 x1 x2 x3 l4 l5 l6)) h), .g, (.eq ((y32.1 == (F28 x1 x2 x3 l4 l5 l6)) && ((y32.2.1 == (IntKind.i64.wrap (a28 + 1))) && ((y32.2.2.1 == 0) && ((y32.2.2.2 == 0) && true))))), (.b true), .g]) (ds := F14_m2_0) (ks := [1]) (e := ((F14_x2 h x1 x2 x3 v4 v5 v6) (0 : Nat)).1) (s2 := ((F14_x2 h x1 x2 x3 v4 v5 v6) (0 : Nat)).2) (hC := (ai c34 kc34)) (hd := F14_d2) (h := by kernel_rfl)
      · intro hr
        obtain rfl := Option.some.inj hr
        show AWp Try.prog _ (Ends1 .normal (F14_h2 h x1 x2 x3 v4 v5 v6 (IntKind.i64.wrap (a28 + 1)))) _
        exact pEnd_sound good (L := F14_L) (D := F14_D) (its := [.g, (.b true), .g, .g, .g, .g, .g, .g, (.c (.int .i64 (F28 x1 x2 x3 l4 l5 l6)) h), .g, (.b true), .g, .g, .g, .g, .g, .g, .g, .g, (.ix id32 off32 g32), (.ld (.agg #[.int .i64 y32.1, .int .i64 y32.2.1, .int .i64 y32.2.2.1, .int .i64 y32.2.2.2])), (.c (.int .i64 (F28 x1 x2 x3 l4 l5 l6)) h), .g, (.eq ((y32.1 == (F28 x1 x2 x3 l4 l5 l6)) && ((y32.2.1 == (IntKind.i64.wrap (a28 + 1))) && ((y32.2.2.1 == 0) && ((y32.2.2.2 == 0) && true))))), (.b false), .g, .g]) (ds := F14_m2_1) (ks := []) (e := .normal) (s2 := (F14_h2 h x1 x2 x3 v4 v5 v6 (IntKind.i64.wrap (a28 + 1)))) (hC := (ai c34 kc34)) (hd := F14_d2) (h := by kernel_rfl)
    · refine bind_opt fun y35 e35 => ?_
      obtain ⟨id35, off35, g35, cs35, ix35, at35, rfl⟩ := SlE.at hv4 e35
      have kc37 := (ai (show aggEq Try.prog 57 #[.int .i64 y35.1, .int .i64 y35.2.1, .int .i64 y35.2.2.1, .int .i64 y35.2.2.2] #[.int .i64 (F28 x1 x2 x3 l4 l5 l6), .int .i64 a28, .int .i64 0, .int .i64 0] = some ((y35.1 == (F28 x1 x2 x3 l4 l5 l6)) && ((y35.2.1 == a28) && ((y35.2.2.1 == 0) && ((y35.2.2.2 == 0) && true)))) by kernel_rfl) (ai (show AKeep h h from (AHeap.sub_refl h)) (ai (F28_spec x1 x2 x3 l4 l5 l6 v4 v5 v6 h hv4 hv5 hv6 _ rfl) (ai (At.agg (P := Try.prog) (t := 57) (v := .agg #[.int .i64 y35.1, .int .i64 y35.2.1, .int .i64 y35.2.2.1, .int .i64 y35.2.2.2]) (m := 4) at35 (by kernel_rfl) (by kernel_rfl) 0 (by kernel_rfl) rfl) (ai ix35 (ai c31 kc31))))))
      refine dec_bif (fun c37 => ?_) (fun c37 => ?_)
      · intro hr
        obtain rfl := Option.some.inj hr
        show AWp Try.prog _ (Ends1 ((F14_x2 h x1 x2 x3 v4 v5 v6) (0 : Nat)).1 ((F14_x2 h x1 x2 x3 v4 v5 v6) (0 : Nat)).2) _
        exact pEnd_sound good (L := F14_L) (D := F14_D) (its := [.g, (.b true), .g, .g, .g, .g, .g, .g, (.c (.int .i64 (F28 x1 x2 x3 l4 l5 l6)) h), .g, (.b false), .g, .g, .g, .g, .g, (.ix id35 off35 g35), (.ld (.agg #[.int .i64 y35.1, .int .i64 y35.2.1, .int .i64 y35.2.2.1, .int .i64 y35.2.2.2])), (.c (.int .i64 (F28 x1 x2 x3 l4 l5 l6)) h), .g, (.eq ((y35.1 == (F28 x1 x2 x3 l4 l5 l6)) && ((y35.2.1 == a28) && ((y35.2.2.1 == 0) && ((y35.2.2.2 == 0) && true))))), (.b true), .g]) (ds := F14_m2_0) (ks := [1]) (e := ((F14_x2 h x1 x2 x3 v4 v5 v6) (0 : Nat)).1) (s2 := ((F14_x2 h x1 x2 x3 v4 v5 v6) (0 : Nat)).2) (hC := (ai c37 kc37)) (hd := F14_d2) (h := by kernel_rfl)
      · intro hr
        obtain rfl := Option.some.inj hr
        show AWp Try.prog _ (Ends1 .normal (F14_h2 h x1 x2 x3 v4 v5 v6 (IntKind.i64.wrap (a28 + 1)))) _
        exact pEnd_sound good (L := F14_L) (D := F14_D) (its := [.g, (.b true), .g, .g, .g, .g, .g, .g, (.c (.int .i64 (F28 x1 x2 x3 l4 l5 l6)) h), .g, (.b false), .g, .g, .g, .g, .g, (.ix id35 off35 g35), (.ld (.agg #[.int .i64 y35.1, .int .i64 y35.2.1, .int .i64 y35.2.2.1, .int .i64 y35.2.2.2])), (.c (.int .i64 (F28 x1 x2 x3 l4 l5 l6)) h), .g, (.eq ((y35.1 == (F28 x1 x2 x3 l4 l5 l6)) && ((y35.2.1 == a28) && ((y35.2.2.1 == 0) && ((y35.2.2.2 == 0) && true))))), (.b false), .g, .g]) (ds := F14_m2_1) (ks := []) (e := .normal) (s2 := (F14_h2 h x1 x2 x3 v4 v5 v6 (IntKind.i64.wrap (a28 + 1)))) (hC := (ai c37 kc37)) (hd := F14_d2) (h := by kernel_rfl)
  · intro hr
    obtain rfl := Option.some.inj hr
    show AWp Try.prog _ (Ends1 ((F14_x2 h x1 x2 x3 v4 v5 v6) (1 : Nat)).1 ((F14_x2 h x1 x2 x3 v4 v5 v6) (1 : Nat)).2) _
    exact pEnd_sound good (L := F14_L) (D := F14_D) (its := [.g, (.b false)]) (ds := F14_m2_2) (ks := []) (e := ((F14_x2 h x1 x2 x3 v4 v5 v6) (1 : Nat)).1) (s2 := ((F14_x2 h x1 x2 x3 v4 v5 v6) (1 : Nat)).2) (hC := (ai c29 trivial)) (hd := F14_d2) (h := by kernel_rfl)
theorem F14_l2_0 (h : AHeap) (x1 : Int) (x2 : Int) (x3 : Bool) (l4 : List (Int × Int × Int × Int)) (v4 : Hd) (hv4 : SlE E57 4 h (sv v4) l4) (l5 : List (Int × Int × Int × Int)) (v5 : Hd) (hv5 : SlE E59 4 h (sv v5) l5) (l6 : List (Int × Int)) (v6 : Hd) (hv6 : SlE E61 2 h (sv v6) l6) (x : Int) (r : Nat) (hl : loopO (fun (s : Int) => F14_s2 x1 x2 x3 l4 l5 l6 s) x = some r) (q0 : Nat.beq r 0 = true) : AWp Try.prog (.loop (codeOf Try.prog 14 [1, 1, 1, 1, 1, 0, 1, 0, 0])) (Ends1 .ret (F14_x2_0 h x1 x2 x3 v4 v5 v6 r)) ((fun (s : Int) => (F14_h2 h x1 x2 x3 v4 v5 v6 s)) x) := by
  have k := loop_fun (P := Try.prog) (c := (codeOf Try.prog 14 [1, 1, 1, 1, 1, 0, 1, 0, 0])) (step := (fun (s : Int) => F14_s2 x1 x2 x3 l4 l5 l6 s)) (hd := (fun (s : Int) => (F14_h2 h x1 x2 x3 v4 v5 v6 s))) (X := (F14_x2 h x1 x2 x3 v4 v5 v6)) (by intro t; unfold F14_x2; cases Nat.beq t 0 <;> (intro h; cases h)) (fun x => F14_r2 h x1 x2 x3 l4 v4 hv4 l5 v5 hv5 l6 v6 hv6 x) hl
  simp only [F14_x2, q0, cond_true, cond_false] at k
  exact k
theorem F14_l2_1 (h : AHeap) (x1 : Int) (x2 : Int) (x3 : Bool) (l4 : List (Int × Int × Int × Int)) (v4 : Hd) (hv4 : SlE E57 4 h (sv v4) l4) (l5 : List (Int × Int × Int × Int)) (v5 : Hd) (hv5 : SlE E59 4 h (sv v5) l5) (l6 : List (Int × Int)) (v6 : Hd) (hv6 : SlE E61 2 h (sv v6) l6) (x : Int) (r : Nat) (hl : loopO (fun (s : Int) => F14_s2 x1 x2 x3 l4 l5 l6 s) x = some r) (q0 : Nat.beq r 0 = false) : AWp Try.prog (.loop (codeOf Try.prog 14 [1, 1, 1, 1, 1, 0, 1, 0, 0])) (Ends1 (.exit 2) (F14_x2_1 h x1 x2 x3 v4 v5 v6 r)) ((fun (s : Int) => (F14_h2 h x1 x2 x3 v4 v5 v6 s)) x) := by
  have k := loop_fun (P := Try.prog) (c := (codeOf Try.prog 14 [1, 1, 1, 1, 1, 0, 1, 0, 0])) (step := (fun (s : Int) => F14_s2 x1 x2 x3 l4 l5 l6 s)) (hd := (fun (s : Int) => (F14_h2 h x1 x2 x3 v4 v5 v6 s))) (X := (F14_x2 h x1 x2 x3 v4 v5 v6)) (by intro t; unfold F14_x2; cases Nat.beq t 0 <;> (intro h; cases h)) (fun x => F14_r2 h x1 x2 x3 l4 v4 hv4 l5 v5 hv5 l6 v6 hv6 x) hl
  simp only [F14_x2, q0, cond_true, cond_false] at k
  exact k
def F14_m3_2 : List Bool := (true :: false :: true :: false :: (rp 271 true []))
def F14_m3_1 : List Bool := (true :: false :: true :: false :: (rp 136 true (false :: false :: (rp 133 true []))))
def F14_m3_0 : List Bool := (true :: true :: false :: (rp 272 true []))
def F14_s3 (l5 : List (Int × Int × Int × Int)) (a40 : Int) : Option (Int ⊕ Nat) :=
  (bif decide (a40 < (l5.length : Int)) then
   (Option.bind (at? l5 a40) fun y42 =>
   (bif decide (y42.1 < 1) then
    some (.inr 0)
   else
    (bif decide (y42.1 > 4) then
     some (.inr 0)
    else
     (bif decide (y42.2.2.2 < 1) then
      some (.inr 0)
     else
      (bif decide (y42.2.2.2 > 1024) then
       some (.inr 0)
      else
       some (.inl (IntKind.i64.wrap (a40 + 1))))))))
  else
   some (.inr 1))
def F14_h3 (h : AHeap) (x1 : Int) (x2 : Int) (x3 : Bool) (v4 : Hd) (l5 : List (Int × Int × Int × Int)) (v5 : Hd) (v6 : Hd)  (a40 : Int) : AS := ⟨(junk :: (.pointer (some ⟨1, 0, none⟩)) :: junk :: (.int .i64 (IntKind.i64.wrap ((IntKind.i64.wrap (x1 + x2)) + 2))) :: (rp 136 junk ((.int .i64 (l5.length : Int)) :: (.int .i64 a40) :: (rp 133 junk [])))), [(1, [.int .i64 x1, .int .i64 x2, .bool x3, (sv v4), (sv v5), (sv v6)])], h⟩
theorem F14_d3 : drawsOk F14_D (codeOf Try.prog 14 [1, 1, 1, 1, 1, 1, 0, 1, 0, 0]) = true := by kernel_rfl
def F14_x3_0 (h : AHeap) (x1 : Int) (x2 : Int) (x3 : Bool) (v4 : Hd) (v5 : Hd) (v6 : Hd)  (r : Nat) : AS := ⟨(junk :: junk :: (.bool false) :: (rp 272 junk [])), [], h⟩
def F14_x3_1 (h : AHeap) (x1 : Int) (x2 : Int) (x3 : Bool) (v4 : Hd) (v5 : Hd) (v6 : Hd)  (r : Nat) : AS := ⟨(junk :: (.pointer (some ⟨1, 0, none⟩)) :: junk :: (.int .i64 (IntKind.i64.wrap ((IntKind.i64.wrap (x1 + x2)) + 2))) :: (rp 271 junk [])), [(1, [.int .i64 x1, .int .i64 x2, .bool x3, (sv v4), (sv v5), (sv v6)])], h⟩
def F14_x3 (h : AHeap) (x1 : Int) (x2 : Int) (x3 : Bool) (v4 : Hd) (v5 : Hd) (v6 : Hd) (r : Nat) : Exit × AS := (bif Nat.beq r 0 then (.ret, (F14_x3_0 h x1 x2 x3 v4 v5 v6 r)) else ((.exit 4), (F14_x3_1 h x1 x2 x3 v4 v5 v6 r)))
set_option maxRecDepth 100000 in
theorem F14_r3 (h : AHeap) (x1 : Int) (x2 : Int) (x3 : Bool) (v4 : Hd) (l5 : List (Int × Int × Int × Int)) (v5 : Hd) (hv5 : SlE E59 4 h (sv v5) l5) (v6 : Hd) (a40 : Int) (o : Int ⊕ Nat) : F14_s3 l5 a40 = some o → RdF Try.prog (codeOf Try.prog 14 [1, 1, 1, 1, 1, 1, 0, 1, 0, 0]) (fun (s : Int) => (F14_h3 h x1 x2 x3 v4 l5 v5 v6 s)) (F14_x3 h x1 x2 x3 v4 v5 v6) (F14_h3 h x1 x2 x3 v4 l5 v5 v6 a40) o := by
  unfold F14_s3
  refine dec_bif (fun c41 => ?_) (fun c41 => ?_)
  · refine bind_opt fun y42 e42 => ?_
    obtain ⟨id42, off42, g42, cs42, ix42, at42, rfl⟩ := SlE.at hv5 e42
    have kc43 := (ai (At.one (P := Try.prog) (t := 3) (v := .int .i64 y42.1) at42 (by kernel_rfl) 0 rfl rfl) (ai ix42 (ai c41 trivial)))
    refine dec_bif (fun c43 => ?_) (fun c43 => ?_)
    · intro hr
      obtain rfl := Option.some.inj hr
      show AWp Try.prog _ (Ends1 ((F14_x3 h x1 x2 x3 v4 v5 v6) (0 : Nat)).1 ((F14_x3 h x1 x2 x3 v4 v5 v6) (0 : Nat)).2) _
      exact pEnd_sound good (L := F14_L) (D := F14_D) (its := [.g, (.b true), .g, .g, .g, .g, .g, (.ix id42 off42 g42), .g, (.ld (.int .i64 y42.1)), .g, .g, .n, .n, .n, .n, .n, .n, .n, (.p true), .g, .n, .n, .n, .n, .n, .n, .n, .g, .g, .n, .n, .n, .n, .n, .n, .n, .g, (.b true), .g]) (ds := F14_m3_0) (ks := [1]) (e := ((F14_x3 h x1 x2 x3 v4 v5 v6) (0 : Nat)).1) (s2 := ((F14_x3 h x1 x2 x3 v4 v5 v6) (0 : Nat)).2) (hC := (ai l_t (ai (g_tf l_t) (ai (g_tf l_t) (ai (g_tf l_t) (ai (g_tf l_t) (ai (g_tf l_t) (ai (g_tf l_t) (ai (g_tf l_t) (ai (g_tf l_t) (ai (g_tf l_t) (ai (g_tf l_t) (ai (g_tf l_t) (ai (g_tf l_t) (ai (g_tf l_t) (ai (g_tf l_t) (ai c43 (ai (g_tf c43) (ai (g_tf c43) (ai (g_tf c43) (ai (g_tf c43) (ai (g_tf c43) (ai (g_tf c43) (ai (g_tf c43) kc43)))))))))))))))))))))))) (hd := F14_d3) (h := by kernel_rfl)
    · have kc44 := (ai c43 (ai (g_ff c43) (ai (At.one (P := Try.prog) (t := 3) (v := .int .i64 y42.1) at42 (by kernel_rfl) 0 rfl rfl) (ai (g_ff c43) (ai (g_ff c43) (ai ix42 (ai (g_ff c43) (ai (g_ff c43) (ai (g_ff c43) (ai (g_ff c43) kc43))))))))))
      refine dec_bif (fun c44 => ?_) (fun c44 => ?_)
      · intro hr
        obtain rfl := Option.some.inj hr
        show AWp Try.prog _ (Ends1 ((F14_x3 h x1 x2 x3 v4 v5 v6) (0 : Nat)).1 ((F14_x3 h x1 x2 x3 v4 v5 v6) (0 : Nat)).2) _
        exact pEnd_sound good (L := F14_L) (D := F14_D) (its := [.g, (.b true), .g, .g, .g, .g, .g, (.ix id42 off42 g42), .g, (.ld (.int .i64 y42.1)), .g, .g, (.w .g), (.w .g), (.w .g), (.w (.ix id42 off42 g42)), (.w .g), (.w (.ld (.int .i64 y42.1))), (.w .g), (.p false), .g, .n, .n, .n, .n, .n, .n, .n, (.p true), .g, .n, .n, .n, .n, .n, .n, .n, .g, (.b true), .g]) (ds := F14_m3_0) (ks := [1]) (e := ((F14_x3 h x1 x2 x3 v4 v5 v6) (0 : Nat)).1) (s2 := ((F14_x3 h x1 x2 x3 v4 v5 v6) (0 : Nat)).2) (hC := (ai l_t (ai (g_tf l_t) (ai (g_tf l_t) (ai (g_tf l_t) (ai (g_tf l_t) (ai (g_tf l_t) (ai (g_tf l_t) (ai (g_tf l_t) (ai c44 (ai (g_tf c44) (ai (g_tf c44) (ai (g_tf c44) (ai (g_tf c44) (ai (g_tf c44) (ai (g_tf c44) (ai (g_tf c44) kc44))))))))))))))))) (hd := F14_d3) (h := by kernel_rfl)
      · have kc45 := (ai c44 (ai (g_ff c44) (ai (At.one (P := Try.prog) (t := 3) (v := .int .i64 y42.2.2.2) at42 (by kernel_rfl) 3 rfl rfl) (ai (g_ff c44) (ai (g_ff c44) (ai ix42 (ai (g_ff c44) (ai (g_ff c44) (ai (g_ff c44) (ai (g_ff c44) kc44))))))))))
        refine dec_bif (fun c45 => ?_) (fun c45 => ?_)
        · intro hr
          obtain rfl := Option.some.inj hr
          show AWp Try.prog _ (Ends1 ((F14_x3 h x1 x2 x3 v4 v5 v6) (0 : Nat)).1 ((F14_x3 h x1 x2 x3 v4 v5 v6) (0 : Nat)).2) _
          exact pEnd_sound good (L := F14_L) (D := F14_D) (its := [.g, (.b true), .g, .g, .g, .g, .g, (.ix id42 off42 g42), .g, (.ld (.int .i64 y42.1)), .g, .g, (.w .g), (.w .g), (.w .g), (.w (.ix id42 off42 g42)), (.w .g), (.w (.ld (.int .i64 y42.1))), (.w .g), (.p false), .g, (.w .g), (.w .g), (.w .g), (.w (.ix id42 off42 g42)), (.w .g), (.w (.ld (.int .i64 y42.2.2.2))), (.w .g), (.p false), .g, .n, .n, .n, .n, .n, .n, .n, (.p true), (.b true), .g]) (ds := F14_m3_0) (ks := [1]) (e := ((F14_x3 h x1 x2 x3 v4 v5 v6) (0 : Nat)).1) (s2 := ((F14_x3 h x1 x2 x3 v4 v5 v6) (0 : Nat)).2) (hC := (ai l_t (ai c45 (ai (g_tf c45) (ai (g_tf c45) (ai (g_tf c45) (ai (g_tf c45) (ai (g_tf c45) (ai (g_tf c45) (ai (g_tf c45) kc45)))))))))) (hd := F14_d3) (h := by kernel_rfl)
        · have kc46 := (ai c45 (ai (g_ff c45) (ai (At.one (P := Try.prog) (t := 3) (v := .int .i64 y42.2.2.2) at42 (by kernel_rfl) 3 rfl rfl) (ai (g_ff c45) (ai (g_ff c45) (ai ix42 (ai (g_ff c45) (ai (g_ff c45) (ai (g_ff c45) (ai (g_ff c45) kc45))))))))))
          refine dec_bif (fun c46 => ?_) (fun c46 => ?_)
          · intro hr
            obtain rfl := Option.some.inj hr
            show AWp Try.prog _ (Ends1 ((F14_x3 h x1 x2 x3 v4 v5 v6) (0 : Nat)).1 ((F14_x3 h x1 x2 x3 v4 v5 v6) (0 : Nat)).2) _
            exact pEnd_sound good (L := F14_L) (D := F14_D) (its := [.g, (.b true), .g, .g, .g, .g, .g, (.ix id42 off42 g42), .g, (.ld (.int .i64 y42.1)), .g, .g, (.w .g), (.w .g), (.w .g), (.w (.ix id42 off42 g42)), (.w .g), (.w (.ld (.int .i64 y42.1))), (.w .g), (.p false), .g, (.w .g), (.w .g), (.w .g), (.w (.ix id42 off42 g42)), (.w .g), (.w (.ld (.int .i64 y42.2.2.2))), (.w .g), (.p false), .g, (.w .g), (.w .g), (.w .g), (.w (.ix id42 off42 g42)), (.w .g), (.w (.ld (.int .i64 y42.2.2.2))), (.w .g), (.p false), (.b true), .g]) (ds := F14_m3_0) (ks := [1]) (e := ((F14_x3 h x1 x2 x3 v4 v5 v6) (0 : Nat)).1) (s2 := ((F14_x3 h x1 x2 x3 v4 v5 v6) (0 : Nat)).2) (hC := (ai c46 kc46)) (hd := F14_d3) (h := by kernel_rfl)
          · intro hr
            obtain rfl := Option.some.inj hr
            show AWp Try.prog _ (Ends1 .normal (F14_h3 h x1 x2 x3 v4 l5 v5 v6 (IntKind.i64.wrap (a40 + 1)))) _
            exact pEnd_sound good (L := F14_L) (D := F14_D) (its := [.g, (.b true), .g, .g, .g, .g, .g, (.ix id42 off42 g42), .g, (.ld (.int .i64 y42.1)), .g, .g, (.w .g), (.w .g), (.w .g), (.w (.ix id42 off42 g42)), (.w .g), (.w (.ld (.int .i64 y42.1))), (.w .g), (.p false), .g, (.w .g), (.w .g), (.w .g), (.w (.ix id42 off42 g42)), (.w .g), (.w (.ld (.int .i64 y42.2.2.2))), (.w .g), (.p false), .g, (.w .g), (.w .g), (.w .g), (.w (.ix id42 off42 g42)), (.w .g), (.w (.ld (.int .i64 y42.2.2.2))), (.w .g), (.p false), (.b false), .g, .g]) (ds := F14_m3_1) (ks := []) (e := .normal) (s2 := (F14_h3 h x1 x2 x3 v4 l5 v5 v6 (IntKind.i64.wrap (a40 + 1)))) (hC := (ai c46 kc46)) (hd := F14_d3) (h := by kernel_rfl)
  · intro hr
    obtain rfl := Option.some.inj hr
    show AWp Try.prog _ (Ends1 ((F14_x3 h x1 x2 x3 v4 v5 v6) (1 : Nat)).1 ((F14_x3 h x1 x2 x3 v4 v5 v6) (1 : Nat)).2) _
    exact pEnd_sound good (L := F14_L) (D := F14_D) (its := [.g, (.b false)]) (ds := F14_m3_2) (ks := []) (e := ((F14_x3 h x1 x2 x3 v4 v5 v6) (1 : Nat)).1) (s2 := ((F14_x3 h x1 x2 x3 v4 v5 v6) (1 : Nat)).2) (hC := (ai c41 trivial)) (hd := F14_d3) (h := by kernel_rfl)
theorem F14_l3_0 (h : AHeap) (x1 : Int) (x2 : Int) (x3 : Bool) (v4 : Hd) (l5 : List (Int × Int × Int × Int)) (v5 : Hd) (hv5 : SlE E59 4 h (sv v5) l5) (v6 : Hd) (x : Int) (r : Nat) (hl : loopO (fun (s : Int) => F14_s3 l5 s) x = some r) (q0 : Nat.beq r 0 = true) : AWp Try.prog (.loop (codeOf Try.prog 14 [1, 1, 1, 1, 1, 1, 0, 1, 0, 0])) (Ends1 .ret (F14_x3_0 h x1 x2 x3 v4 v5 v6 r)) ((fun (s : Int) => (F14_h3 h x1 x2 x3 v4 l5 v5 v6 s)) x) := by
  have k := loop_fun (P := Try.prog) (c := (codeOf Try.prog 14 [1, 1, 1, 1, 1, 1, 0, 1, 0, 0])) (step := (fun (s : Int) => F14_s3 l5 s)) (hd := (fun (s : Int) => (F14_h3 h x1 x2 x3 v4 l5 v5 v6 s))) (X := (F14_x3 h x1 x2 x3 v4 v5 v6)) (by intro t; unfold F14_x3; cases Nat.beq t 0 <;> (intro h; cases h)) (fun x => F14_r3 h x1 x2 x3 v4 l5 v5 hv5 v6 x) hl
  simp only [F14_x3, q0, cond_true, cond_false] at k
  exact k
theorem F14_l3_1 (h : AHeap) (x1 : Int) (x2 : Int) (x3 : Bool) (v4 : Hd) (l5 : List (Int × Int × Int × Int)) (v5 : Hd) (hv5 : SlE E59 4 h (sv v5) l5) (v6 : Hd) (x : Int) (r : Nat) (hl : loopO (fun (s : Int) => F14_s3 l5 s) x = some r) (q0 : Nat.beq r 0 = false) : AWp Try.prog (.loop (codeOf Try.prog 14 [1, 1, 1, 1, 1, 1, 0, 1, 0, 0])) (Ends1 (.exit 4) (F14_x3_1 h x1 x2 x3 v4 v5 v6 r)) ((fun (s : Int) => (F14_h3 h x1 x2 x3 v4 l5 v5 v6 s)) x) := by
  have k := loop_fun (P := Try.prog) (c := (codeOf Try.prog 14 [1, 1, 1, 1, 1, 1, 0, 1, 0, 0])) (step := (fun (s : Int) => F14_s3 l5 s)) (hd := (fun (s : Int) => (F14_h3 h x1 x2 x3 v4 l5 v5 v6 s))) (X := (F14_x3 h x1 x2 x3 v4 v5 v6)) (by intro t; unfold F14_x3; cases Nat.beq t 0 <;> (intro h; cases h)) (fun x => F14_r3 h x1 x2 x3 v4 l5 v5 hv5 v6 x) hl
  simp only [F14_x3, q0, cond_true, cond_false] at k
  exact k
def F14_m4_2 : List Bool := (true :: false :: (rp 273 true []))
def F14_m4_1 : List Bool := (true :: false :: true :: false :: (rp 176 true (false :: false :: (rp 93 true []))))
def F14_m4_0 : List Bool := (true :: true :: false :: (rp 272 true []))
def F14_s4 (x1 : Int) (x2 : Int) (x3 : Bool) (l4 : List (Int × Int × Int × Int)) (l5 : List (Int × Int × Int × Int)) (l6 : List (Int × Int)) (a49 : Int) : Option (Int ⊕ Nat) :=
  (bif (F14__6 x1 x2 a49) then
   (Option.bind (at? l4 (F14__7 x1 x2 a49)) fun y51 =>
   (bif (y51.1 != a49) then
    some (.inr 0)
   else
    (bif (y51.2.1 != (F26 x1 x2 x3 l4 l5 l6)) then
     some (.inr 0)
    else
     (bif (y51.2.2.2 != 0) then
      some (.inr 0)
     else
      (bif decide (a49 < x1) then
       (Option.bind (at? l6 a49) fun y57 =>
       (bif decide (y51.2.2.1 < (if y57.2 > 1 then y57.2 else 1)) then
        some (.inr 0)
       else
        some (.inl (IntKind.i64.wrap (a49 + 1)))))
      else
       some (.inl (IntKind.i64.wrap (a49 + 1))))))))
  else
   some (.inr 1))
def F14_h4 (h : AHeap) (x1 : Int) (x2 : Int) (x3 : Bool) (v4 : Hd) (v5 : Hd) (v6 : Hd)  (a49 : Int) : AS := ⟨(junk :: (.pointer (some ⟨1, 0, none⟩)) :: junk :: (.int .i64 (IntKind.i64.wrap ((IntKind.i64.wrap (x1 + x2)) + 2))) :: (rp 176 junk ((.int .i64 (IntKind.i64.wrap ((IntKind.i64.wrap ((IntKind.i64.wrap (x1 + x2)) + 2)) - 2))) :: (.int .i64 a49) :: (rp 93 junk [])))), [(1, [.int .i64 x1, .int .i64 x2, .bool x3, (sv v4), (sv v5), (sv v6)])], h⟩
theorem F14_d4 : drawsOk F14_D (codeOf Try.prog 14 [1, 1, 1, 1, 1, 1, 1, 0, 1, 0, 0]) = true := by kernel_rfl
def F14_x4_0 (h : AHeap) (x1 : Int) (x2 : Int) (x3 : Bool) (v4 : Hd) (v5 : Hd) (v6 : Hd)  (r : Nat) : AS := ⟨(junk :: junk :: (.bool false) :: (rp 272 junk [])), [], h⟩
def F14_x4_1 (h : AHeap) (x1 : Int) (x2 : Int) (x3 : Bool) (v4 : Hd) (v5 : Hd) (v6 : Hd)  (r : Nat) : AS := ⟨(junk :: (.pointer (some ⟨1, 0, none⟩)) :: (rp 273 junk [])), [(1, [.int .i64 x1, .int .i64 x2, .bool x3, (sv v4), (sv v5), (sv v6)])], h⟩
def F14_x4 (h : AHeap) (x1 : Int) (x2 : Int) (x3 : Bool) (v4 : Hd) (v5 : Hd) (v6 : Hd) (r : Nat) : Exit × AS := (bif Nat.beq r 0 then (.ret, (F14_x4_0 h x1 x2 x3 v4 v5 v6 r)) else ((.exit 6), (F14_x4_1 h x1 x2 x3 v4 v5 v6 r)))
set_option maxRecDepth 100000 in
theorem F14_r4 (h : AHeap) (x1 : Int) (x2 : Int) (x3 : Bool) (l4 : List (Int × Int × Int × Int)) (v4 : Hd) (hv4 : SlE E57 4 h (sv v4) l4) (l5 : List (Int × Int × Int × Int)) (v5 : Hd) (hv5 : SlE E59 4 h (sv v5) l5) (l6 : List (Int × Int)) (v6 : Hd) (hv6 : SlE E61 2 h (sv v6) l6) (a49 : Int) (o : Int ⊕ Nat) : F14_s4 x1 x2 x3 l4 l5 l6 a49 = some o → RdF Try.prog (codeOf Try.prog 14 [1, 1, 1, 1, 1, 1, 1, 0, 1, 0, 0]) (fun (s : Int) => (F14_h4 h x1 x2 x3 v4 v5 v6 s)) (F14_x4 h x1 x2 x3 v4 v5 v6) (F14_h4 h x1 x2 x3 v4 v5 v6 a49) o := by
  unfold F14_s4
  refine dec_bif (fun c50 => ?_) (fun c50 => ?_)
  · refine bind_opt fun y51 e51 => ?_
    obtain ⟨id51, off51, g51, cs51, ix51, at51, rfl⟩ := SlE.at hv4 e51
    have kc52 := (ai (At.agg (P := Try.prog) (t := 57) (v := .agg #[.int .i64 y51.1, .int .i64 y51.2.1, .int .i64 y51.2.2.1, .int .i64 y51.2.2.2]) (m := 4) at51 (by kernel_rfl) (by kernel_rfl) 0 (by kernel_rfl) rfl) (ai ix51 (ai c50 trivial)))
    refine dec_bif (fun c52 => ?_) (fun c52 => ?_)
    · intro hr
      obtain rfl := Option.some.inj hr
      show AWp Try.prog _ (Ends1 ((F14_x4 h x1 x2 x3 v4 v5 v6) (0 : Nat)).1 ((F14_x4 h x1 x2 x3 v4 v5 v6) (0 : Nat)).2) _
      exact pEnd_sound good (L := F14_L) (D := F14_D) (its := [.g, (.b true), .g, .g, .g, .g, .g, .g, .g, .g, (.ix id51 off51 g51), (.ld (.agg #[.int .i64 y51.1, .int .i64 y51.2.1, .int .i64 y51.2.2.1, .int .i64 y51.2.2.2])), .g, .g, .g, .g, .g, .g, .g, .n, .n, .n, .n, .n, (.p true), .g, .n, .n, .n, .g, .g, .n, .n, .n, .n, .n, .n, .n, .n, .n, .n, .n, .n, .n, .n, .n, .n, .g, (.b true), .g]) (ds := F14_m4_0) (ks := [1, 10]) (e := ((F14_x4 h x1 x2 x3 v4 v5 v6) (0 : Nat)).1) (s2 := ((F14_x4 h x1 x2 x3 v4 v5 v6) (0 : Nat)).2) (hC := (ai l_t (ai (g_tf l_t) (ai l_f (ai l_f (ai l_f (ai l_f (ai l_f (ai l_f (ai l_f (ai l_f (ai l_f (ai l_f (ai (g_tf l_t) (ai (g_tf l_t) (ai (g_tf l_t) (ai (g_tf l_t) (ai (g_tf l_t) (ai (g_tf l_t) (ai (g_tf l_t) (ai (g_tf l_t) (ai c52 (ai (g_tf c52) (ai (g_tf c52) (ai (g_tf c52) (ai (g_tf c52) (ai (g_tf c52) kc52))))))))))))))))))))))))))) (hd := F14_d4) (h := by kernel_rfl)
    · have kc54 := (ai c52 (ai (g_ff c52) (ai (show AKeep h h from (AHeap.sub_refl h)) (ai (F26_spec x1 x2 x3 l4 l5 l6 v4 v5 v6 h hv4 hv5 hv6 _ rfl) (ai (g_ff c52) (ai (g_ff c52) (ai (g_ff c52) (ai (g_ff c52) kc52))))))))
      refine dec_bif (fun c54 => ?_) (fun c54 => ?_)
      · intro hr
        obtain rfl := Option.some.inj hr
        show AWp Try.prog _ (Ends1 ((F14_x4 h x1 x2 x3 v4 v5 v6) (0 : Nat)).1 ((F14_x4 h x1 x2 x3 v4 v5 v6) (0 : Nat)).2) _
        exact pEnd_sound good (L := F14_L) (D := F14_D) (its := [.g, (.b true), .g, .g, .g, .g, .g, .g, .g, .g, (.ix id51 off51 g51), (.ld (.agg #[.int .i64 y51.1, .int .i64 y51.2.1, .int .i64 y51.2.2.1, .int .i64 y51.2.2.2])), .g, .g, .g, .g, .g, .g, .g, (.w .g), (.w .g), (.w .g), (.w (.c (.int .i64 (F26 x1 x2 x3 l4 l5 l6)) h)), (.w .g), (.p false), .g, .n, .n, .n, (.p true), .g, .n, .n, .n, .n, .n, .n, .n, .n, .n, .n, .n, .n, .n, .n, .n, .n, .g, (.b true), .g]) (ds := F14_m4_0) (ks := [1, 10]) (e := ((F14_x4 h x1 x2 x3 v4 v5 v6) (0 : Nat)).1) (s2 := ((F14_x4 h x1 x2 x3 v4 v5 v6) (0 : Nat)).2) (hC := (ai l_t (ai (g_tf l_t) (ai l_f (ai l_f (ai l_f (ai l_f (ai l_f (ai l_f (ai l_f (ai l_f (ai l_f (ai l_f (ai (g_tf l_t) (ai (g_tf l_t) (ai (g_tf l_t) (ai (g_tf l_t) (ai (g_tf l_t) (ai c54 (ai (g_tf c54) (ai (g_tf c54) (ai (g_tf c54) kc54)))))))))))))))))))))) (hd := F14_d4) (h := by kernel_rfl)
      · have kc55 := (ai c54 (ai (g_ff c54) (ai (g_ff c54) (ai (g_ff c54) kc54))))
        refine dec_bif (fun c55 => ?_) (fun c55 => ?_)
        · intro hr
          obtain rfl := Option.some.inj hr
          show AWp Try.prog _ (Ends1 ((F14_x4 h x1 x2 x3 v4 v5 v6) (0 : Nat)).1 ((F14_x4 h x1 x2 x3 v4 v5 v6) (0 : Nat)).2) _
          exact pEnd_sound good (L := F14_L) (D := F14_D) (its := [.g, (.b true), .g, .g, .g, .g, .g, .g, .g, .g, (.ix id51 off51 g51), (.ld (.agg #[.int .i64 y51.1, .int .i64 y51.2.1, .int .i64 y51.2.2.1, .int .i64 y51.2.2.2])), .g, .g, .g, .g, .g, .g, .g, (.w .g), (.w .g), (.w .g), (.w (.c (.int .i64 (F26 x1 x2 x3 l4 l5 l6)) h)), (.w .g), (.p false), .g, (.w .g), (.w .g), (.w .g), (.p false), .g, .n, .n, .n, .n, .n, .n, .n, .n, .n, .n, .n, .n, .n, .n, .n, .n, (.p true), (.b true), .g]) (ds := F14_m4_0) (ks := [1, 10]) (e := ((F14_x4 h x1 x2 x3 v4 v5 v6) (0 : Nat)).1) (s2 := ((F14_x4 h x1 x2 x3 v4 v5 v6) (0 : Nat)).2) (hC := (ai l_t (ai c55 (ai (g_tf c55) (ai l_f (ai l_f (ai l_f (ai l_f (ai l_f (ai l_f (ai l_f (ai l_f (ai l_f (ai l_f (ai (g_tf c55) (ai (g_tf c55) (ai (g_tf c55) (ai (g_tf c55) (ai (g_tf c55) kc55))))))))))))))))))) (hd := F14_d4) (h := by kernel_rfl)
        · have kc56 := (ai (g_ff c55) (ai (g_ff c55) (ai (g_ff c55) (ai (g_ff c55) (ai (g_ff c55) kc55)))))
          refine dec_bif (fun c56 => ?_) (fun c56 => ?_)
          · refine bind_opt fun y57 e57 => ?_
            obtain ⟨id57, off57, g57, cs57, ix57, at57, rfl⟩ := SlE.at hv6 e57
            have kc58 := (ai c55 (ai c56 (ai (g_ff c55) (ai (g_tt c56) (ai (g_tt c56) (ai (At.one (P := Try.prog) (t := 3) (v := .int .i64 y57.2) at57 (by kernel_rfl) 1 rfl rfl) (ai (g_tt c56) (ai (g_tt c56) (ai ix57 (ai (g_tt c56) (ai (g_tt c56) (ai (g_tt c56) (ai (g_tt c56) (ai (g_tt c56) (ai (g_tt c56) kc56)))))))))))))))
            refine dec_bif (fun c58 => ?_) (fun c58 => ?_)
            · intro hr
              obtain rfl := Option.some.inj hr
              show AWp Try.prog _ (Ends1 ((F14_x4 h x1 x2 x3 v4 v5 v6) (0 : Nat)).1 ((F14_x4 h x1 x2 x3 v4 v5 v6) (0 : Nat)).2) _
              exact pEnd_sound good (L := F14_L) (D := F14_D) (its := [.g, (.b true), .g, .g, .g, .g, .g, .g, .g, .g, (.ix id51 off51 g51), (.ld (.agg #[.int .i64 y51.1, .int .i64 y51.2.1, .int .i64 y51.2.2.1, .int .i64 y51.2.2.2])), .g, .g, .g, .g, .g, .g, .g, (.w .g), (.w .g), (.w .g), (.w (.c (.int .i64 (F26 x1 x2 x3 l4 l5 l6)) h)), (.w .g), (.p false), .g, (.w .g), (.w .g), (.w .g), (.p false), .g, (.w .g), (.w .g), (.w .g), (.w .g), (.w .g), (.w .g), (.w .g), (.w .g), (.w .g), (.w .g), (.w (.ix id57 off57 g57)), (.w .g), (.w (.ld (.int .i64 y57.2))), (.w .g), (.w .g), (.w (.p true)), (.p false), (.b true), .g]) (ds := F14_m4_0) (ks := [1, 10]) (e := ((F14_x4 h x1 x2 x3 v4 v5 v6) (0 : Nat)).1) (s2 := ((F14_x4 h x1 x2 x3 v4 v5 v6) (0 : Nat)).2) (hC := (ai c58 kc58)) (hd := F14_d4) (h := by kernel_rfl)
            · intro hr
              obtain rfl := Option.some.inj hr
              show AWp Try.prog _ (Ends1 .normal (F14_h4 h x1 x2 x3 v4 v5 v6 (IntKind.i64.wrap (a49 + 1)))) _
              exact pEnd_sound good (L := F14_L) (D := F14_D) (its := [.g, (.b true), .g, .g, .g, .g, .g, .g, .g, .g, (.ix id51 off51 g51), (.ld (.agg #[.int .i64 y51.1, .int .i64 y51.2.1, .int .i64 y51.2.2.1, .int .i64 y51.2.2.2])), .g, .g, .g, .g, .g, .g, .g, (.w .g), (.w .g), (.w .g), (.w (.c (.int .i64 (F26 x1 x2 x3 l4 l5 l6)) h)), (.w .g), (.p false), .g, (.w .g), (.w .g), (.w .g), (.p false), .g, (.w .g), (.w .g), (.w .g), (.w .g), (.w .g), (.w .g), (.w .g), (.w .g), (.w .g), (.w .g), (.w (.ix id57 off57 g57)), (.w .g), (.w (.ld (.int .i64 y57.2))), (.w .g), (.w .g), (.w (.p true)), (.p false), (.b false), .g, .g]) (ds := F14_m4_1) (ks := [10]) (e := .normal) (s2 := (F14_h4 h x1 x2 x3 v4 v5 v6 (IntKind.i64.wrap (a49 + 1)))) (hC := (ai c58 kc58)) (hd := F14_d4) (h := by kernel_rfl)
          · intro hr
            obtain rfl := Option.some.inj hr
            show AWp Try.prog _ (Ends1 .normal (F14_h4 h x1 x2 x3 v4 v5 v6 (IntKind.i64.wrap (a49 + 1)))) _
            exact pEnd_sound good (L := F14_L) (D := F14_D) (its := [.g, (.b true), .g, .g, .g, .g, .g, .g, .g, .g, (.ix id51 off51 g51), (.ld (.agg #[.int .i64 y51.1, .int .i64 y51.2.1, .int .i64 y51.2.2.1, .int .i64 y51.2.2.2])), .g, .g, .g, .g, .g, .g, .g, (.w .g), (.w .g), (.w .g), (.w (.c (.int .i64 (F26 x1 x2 x3 l4 l5 l6)) h)), (.w .g), (.p false), .g, (.w .g), (.w .g), (.w .g), (.p false), .g, (.w .g), (.w .g), (.w .g), (.w .g), (.w .g), .n, .n, .n, .n, .n, .n, .n, .n, .n, .n, (.w (.p false)), (.p false), (.b false), .g, .g]) (ds := F14_m4_1) (ks := [10]) (e := .normal) (s2 := (F14_h4 h x1 x2 x3 v4 v5 v6 (IntKind.i64.wrap (a49 + 1)))) (hC := (ai l_f (ai c55 (ai c56 (ai (g_ff c55) (ai (g_ft c56) (ai (g_ft c56) (ai (g_ft c56) (ai (g_ft c56) (ai (g_ft c56) (ai (g_ft c56) (ai (g_ft c56) (ai (g_ft c56) (ai (g_ft c56) (ai (g_ft c56) kc56))))))))))))))) (hd := F14_d4) (h := by kernel_rfl)
  · intro hr
    obtain rfl := Option.some.inj hr
    show AWp Try.prog _ (Ends1 ((F14_x4 h x1 x2 x3 v4 v5 v6) (1 : Nat)).1 ((F14_x4 h x1 x2 x3 v4 v5 v6) (1 : Nat)).2) _
    exact pEnd_sound good (L := F14_L) (D := F14_D) (its := [.g, (.b false)]) (ds := F14_m4_2) (ks := []) (e := ((F14_x4 h x1 x2 x3 v4 v5 v6) (1 : Nat)).1) (s2 := ((F14_x4 h x1 x2 x3 v4 v5 v6) (1 : Nat)).2) (hC := (ai c50 trivial)) (hd := F14_d4) (h := by kernel_rfl)
theorem F14_l4_0 (h : AHeap) (x1 : Int) (x2 : Int) (x3 : Bool) (l4 : List (Int × Int × Int × Int)) (v4 : Hd) (hv4 : SlE E57 4 h (sv v4) l4) (l5 : List (Int × Int × Int × Int)) (v5 : Hd) (hv5 : SlE E59 4 h (sv v5) l5) (l6 : List (Int × Int)) (v6 : Hd) (hv6 : SlE E61 2 h (sv v6) l6) (x : Int) (r : Nat) (hl : loopO (fun (s : Int) => F14_s4 x1 x2 x3 l4 l5 l6 s) x = some r) (q0 : Nat.beq r 0 = true) : AWp Try.prog (.loop (codeOf Try.prog 14 [1, 1, 1, 1, 1, 1, 1, 0, 1, 0, 0])) (Ends1 .ret (F14_x4_0 h x1 x2 x3 v4 v5 v6 r)) ((fun (s : Int) => (F14_h4 h x1 x2 x3 v4 v5 v6 s)) x) := by
  have k := loop_fun (P := Try.prog) (c := (codeOf Try.prog 14 [1, 1, 1, 1, 1, 1, 1, 0, 1, 0, 0])) (step := (fun (s : Int) => F14_s4 x1 x2 x3 l4 l5 l6 s)) (hd := (fun (s : Int) => (F14_h4 h x1 x2 x3 v4 v5 v6 s))) (X := (F14_x4 h x1 x2 x3 v4 v5 v6)) (by intro t; unfold F14_x4; cases Nat.beq t 0 <;> (intro h; cases h)) (fun x => F14_r4 h x1 x2 x3 l4 v4 hv4 l5 v5 hv5 l6 v6 hv6 x) hl
  simp only [F14_x4, q0, cond_true, cond_false] at k
  exact k
theorem F14_l4_1 (h : AHeap) (x1 : Int) (x2 : Int) (x3 : Bool) (l4 : List (Int × Int × Int × Int)) (v4 : Hd) (hv4 : SlE E57 4 h (sv v4) l4) (l5 : List (Int × Int × Int × Int)) (v5 : Hd) (hv5 : SlE E59 4 h (sv v5) l5) (l6 : List (Int × Int)) (v6 : Hd) (hv6 : SlE E61 2 h (sv v6) l6) (x : Int) (r : Nat) (hl : loopO (fun (s : Int) => F14_s4 x1 x2 x3 l4 l5 l6 s) x = some r) (q0 : Nat.beq r 0 = false) : AWp Try.prog (.loop (codeOf Try.prog 14 [1, 1, 1, 1, 1, 1, 1, 0, 1, 0, 0])) (Ends1 (.exit 6) (F14_x4_1 h x1 x2 x3 v4 v5 v6 r)) ((fun (s : Int) => (F14_h4 h x1 x2 x3 v4 v5 v6 s)) x) := by
  have k := loop_fun (P := Try.prog) (c := (codeOf Try.prog 14 [1, 1, 1, 1, 1, 1, 1, 0, 1, 0, 0])) (step := (fun (s : Int) => F14_s4 x1 x2 x3 l4 l5 l6 s)) (hd := (fun (s : Int) => (F14_h4 h x1 x2 x3 v4 v5 v6 s))) (X := (F14_x4 h x1 x2 x3 v4 v5 v6)) (by intro t; unfold F14_x4; cases Nat.beq t 0 <;> (intro h; cases h)) (fun x => F14_r4 h x1 x2 x3 l4 v4 hv4 l5 v5 hv5 l6 v6 hv6 x) hl
  simp only [F14_x4, q0, cond_true, cond_false] at k
  exact k
def F14_m5_2 : List Bool := (rp 275 true [])
def F14_m5_1 : List Bool := (true :: false :: (rp 227 true (false :: false :: (rp 44 true []))))
def F14_m5_0 : List Bool := (true :: true :: false :: (rp 272 true []))
def F14_s5 (l5 : List (Int × Int × Int × Int)) (l6 : List (Int × Int)) (a61 : Int) : Option (Int ⊕ Nat) :=
  (bif decide (a61 < (l6.length : Int)) then
   (Option.bind (at? l6 a61) fun y63 =>
   (bif decide (y63.1 < (-1)) then
    some (.inr 0)
   else
    (bif decide (y63.1 ≥ (l5.length : Int)) then
     some (.inr 0)
    else
     (bif (y63.1 == (-1)) then
      (bif (y63.2 != 0) then
       some (.inr 0)
      else
       (bif decide (y63.1 ≥ 0) then
        (bif decide (y63.2 < 1) then
         some (.inr 0)
        else
         (bif decide (y63.2 > 256) then
          some (.inr 0)
         else
          some (.inl (IntKind.i64.wrap (a61 + 1)))))
       else
        some (.inl (IntKind.i64.wrap (a61 + 1)))))
     else
      (bif decide (y63.1 ≥ 0) then
       (bif decide (y63.2 < 1) then
        some (.inr 0)
       else
        (bif decide (y63.2 > 256) then
         some (.inr 0)
        else
         some (.inl (IntKind.i64.wrap (a61 + 1)))))
      else
       some (.inl (IntKind.i64.wrap (a61 + 1))))))))
  else
   some (.inr 1))
def F14_h5 (h : AHeap) (x1 : Int) (x2 : Int) (x3 : Bool) (v4 : Hd) (v5 : Hd) (l6 : List (Int × Int)) (v6 : Hd)  (a61 : Int) : AS := ⟨(junk :: (.pointer (some ⟨1, 0, none⟩)) :: (rp 227 junk ((.int .i64 (l6.length : Int)) :: (.int .i64 a61) :: (rp 44 junk [])))), [(1, [.int .i64 x1, .int .i64 x2, .bool x3, (sv v4), (sv v5), (sv v6)])], h⟩
theorem F14_d5 : drawsOk F14_D (codeOf Try.prog 14 [1, 1, 1, 1, 1, 1, 1, 1, 0, 1, 0, 0]) = true := by kernel_rfl
def F14_x5_0 (h : AHeap)  (r : Nat) : AS := ⟨(junk :: junk :: (.bool false) :: (rp 272 junk [])), [], h⟩
def F14_x5_1 (h : AHeap)  (r : Nat) : AS := ⟨(rp 275 junk []), [], h⟩
def F14_x5 (h : AHeap) (r : Nat) : Exit × AS := (bif Nat.beq r 0 then (.ret, (F14_x5_0 h r)) else ((.exit 8), (F14_x5_1 h r)))
set_option maxRecDepth 100000 in
theorem F14_r5 (h : AHeap) (x1 : Int) (x2 : Int) (x3 : Bool) (v4 : Hd) (l5 : List (Int × Int × Int × Int)) (v5 : Hd) (hv5 : SlE E59 4 h (sv v5) l5) (l6 : List (Int × Int)) (v6 : Hd) (hv6 : SlE E61 2 h (sv v6) l6) (a61 : Int) (o : Int ⊕ Nat) : F14_s5 l5 l6 a61 = some o → RdF Try.prog (codeOf Try.prog 14 [1, 1, 1, 1, 1, 1, 1, 1, 0, 1, 0, 0]) (fun (s : Int) => (F14_h5 h x1 x2 x3 v4 v5 l6 v6 s)) (F14_x5 h) (F14_h5 h x1 x2 x3 v4 v5 l6 v6 a61) o := by
  unfold F14_s5
  refine dec_bif (fun c62 => ?_) (fun c62 => ?_)
  · refine bind_opt fun y63 e63 => ?_
    obtain ⟨id63, off63, g63, cs63, ix63, at63, rfl⟩ := SlE.at hv6 e63
    have kc64 := (ai (At.agg (P := Try.prog) (t := 61) (v := .agg #[.int .i64 y63.1, .int .i64 y63.2]) (m := 2) at63 (by kernel_rfl) (by kernel_rfl) 0 (by kernel_rfl) rfl) (ai ix63 (ai c62 trivial)))
    refine dec_bif (fun c64 => ?_) (fun c64 => ?_)
    · intro hr
      obtain rfl := Option.some.inj hr
      show AWp Try.prog _ (Ends1 ((F14_x5 h) (0 : Nat)).1 ((F14_x5 h) (0 : Nat)).2) _
      exact pEnd_sound good (L := F14_L) (D := F14_D) (its := [.g, (.b true), .g, .g, .g, .g, .g, (.ix id63 off63 g63), (.ld (.agg #[.int .i64 y63.1, .int .i64 y63.2])), .g, .g, .g, .g, .g, .g, .n, .n, .n, .n, .n, .n, (.p true), .g, .n, .n, .n, .n, .n, .n, .n, .n, .g, .g, .n, .n, .n, .n, .n, .n, .n, .n, .n, .n, .n, .n, .n, .g, (.b true), .g]) (ds := F14_m5_0) (ks := [1, 12]) (e := ((F14_x5 h) (0 : Nat)).1) (s2 := ((F14_x5 h) (0 : Nat)).2) (hC := (ai l_t (ai (g_tf l_t) (ai l_f (ai l_f (ai l_f (ai l_f (ai l_f (ai l_f (ai l_f (ai l_f (ai (g_tf l_t) (ai (g_tf l_t) (ai (g_tf l_t) (ai (g_tf l_t) (ai (g_tf l_t) (ai l_f (ai l_f (ai l_f (ai (g_tf l_t) (ai (g_tf l_t) (ai (g_tf l_t) (ai (g_tf l_t) (ai c64 (ai (g_tf c64) (ai (g_tf c64) (ai (g_tf c64) (ai (g_tf c64) (ai (g_tf c64) (ai (g_tf c64) kc64)))))))))))))))))))))))))))))) (hd := F14_d5) (h := by kernel_rfl)
    · have kc65 := (ai c64 (ai (g_ff c64) (ai (SlE.len hv5) (ai (g_ff c64) (ai (g_ff c64) (ai (g_ff c64) (ai (g_ff c64) (ai (g_ff c64) kc64))))))))
      refine dec_bif (fun c65 => ?_) (fun c65 => ?_)
      · intro hr
        obtain rfl := Option.some.inj hr
        show AWp Try.prog _ (Ends1 ((F14_x5 h) (0 : Nat)).1 ((F14_x5 h) (0 : Nat)).2) _
        exact pEnd_sound good (L := F14_L) (D := F14_D) (its := [.g, (.b true), .g, .g, .g, .g, .g, (.ix id63 off63 g63), (.ld (.agg #[.int .i64 y63.1, .int .i64 y63.2])), .g, .g, .g, .g, .g, .g, (.w .g), (.w .g), (.w .g), (.w .g), (.w (.ln l5.length)), (.w .g), (.p false), .g, .n, .n, .n, .n, .n, .n, .n, .n, (.p true), .g, .n, .n, .n, .n, .n, .n, .n, .n, .n, .n, .n, .n, .n, .g, (.b true), .g]) (ds := F14_m5_0) (ks := [1, 12]) (e := ((F14_x5 h) (0 : Nat)).1) (s2 := ((F14_x5 h) (0 : Nat)).2) (hC := (ai l_t (ai (g_tf l_t) (ai l_f (ai l_f (ai l_f (ai l_f (ai l_f (ai l_f (ai l_f (ai l_f (ai (g_tf l_t) (ai (g_tf l_t) (ai (g_tf l_t) (ai (g_tf l_t) (ai c65 (ai (g_tf c65) (ai l_f (ai l_f (ai l_f (ai (g_tf c65) (ai (g_tf c65) (ai (g_tf c65) (ai (g_tf c65) kc65)))))))))))))))))))))))) (hd := F14_d5) (h := by kernel_rfl)
      · have kc66 := (ai (g_ff c65) (ai (g_ff c65) (ai (g_ff c65) (ai (g_ff c65) kc65))))
        refine dec_bif (fun c66 => ?_) (fun c66 => ?_)
        · have kc67 := (ai c65 (ai c66 (ai (g_ff c65) (ai (g_tt c66) (ai (g_tt c66) (ai (g_tt c66) kc66))))))
          refine dec_bif (fun c67 => ?_) (fun c67 => ?_)
          · intro hr
            obtain rfl := Option.some.inj hr
            show AWp Try.prog _ (Ends1 ((F14_x5 h) (0 : Nat)).1 ((F14_x5 h) (0 : Nat)).2) _
            exact pEnd_sound good (L := F14_L) (D := F14_D) (its := [.g, (.b true), .g, .g, .g, .g, .g, (.ix id63 off63 g63), (.ld (.agg #[.int .i64 y63.1, .int .i64 y63.2])), .g, .g, .g, .g, .g, .g, (.w .g), (.w .g), (.w .g), (.w .g), (.w (.ln l5.length)), (.w .g), (.p false), .g, (.w .g), (.w .g), (.w .g), (.w .g), (.w .g), (.w .g), (.w .g), (.w (.p true)), (.p false), .g, .n, .n, .n, .n, .n, .n, .n, .n, .n, .n, .n, .n, .n, (.p true), (.b true), .g]) (ds := F14_m5_0) (ks := [1, 12]) (e := ((F14_x5 h) (0 : Nat)).1) (s2 := ((F14_x5 h) (0 : Nat)).2) (hC := (ai l_t (ai c67 (ai (g_tf c67) (ai l_f (ai l_f (ai l_f (ai l_f (ai l_f (ai l_f (ai l_f (ai l_f (ai (g_tf c67) (ai (g_tf c67) (ai (g_tf c67) (ai (g_tf c67) kc67)))))))))))))))) (hd := F14_d5) (h := by kernel_rfl)
          · have kc68 := (ai (g_ff c67) (ai (g_ff c67) (ai (g_ff c67) (ai (g_ff c67) kc67))))
            refine dec_bif (fun c68 => ?_) (fun c68 => ?_)
            · have kc69 := (ai (g_tt c68) (ai (g_tt c68) (ai (g_tt c68) (ai (g_tt c68) kc68))))
              refine dec_bif (fun c69 => ?_) (fun c69 => ?_)
              · intro hr
                obtain rfl := Option.some.inj hr
                show AWp Try.prog _ (Ends1 ((F14_x5 h) (0 : Nat)).1 ((F14_x5 h) (0 : Nat)).2) _
                exact pEnd_sound good (L := F14_L) (D := F14_D) (its := [.g, (.b true), .g, .g, .g, .g, .g, (.ix id63 off63 g63), (.ld (.agg #[.int .i64 y63.1, .int .i64 y63.2])), .g, .g, .g, .g, .g, .g, (.w .g), (.w .g), (.w .g), (.w .g), (.w (.ln l5.length)), (.w .g), (.p false), .g, (.w .g), (.w .g), (.w .g), (.w .g), (.w .g), (.w .g), (.w .g), (.w (.p true)), (.p false), .g, (.w .g), (.w .g), (.w .g), (.w .g), (.w .g), (.w .g), (.w .g), (.w .g), .n, .n, .n, (.w (.p true)), (.w (.p true)), (.p false), (.b true), .g]) (ds := F14_m5_0) (ks := [1, 12]) (e := ((F14_x5 h) (0 : Nat)).1) (s2 := ((F14_x5 h) (0 : Nat)).2) (hC := (ai l_t (ai c67 (ai c68 (ai (g_ff c67) (ai c69 (ai (g_tt c68) (ai (g_tf c69) (ai (g_tf c69) (ai (g_tf c69) kc69)))))))))) (hd := F14_d5) (h := by kernel_rfl)
              · have kc70 := (ai c67 (ai c68 (ai (g_ff c67) (ai c69 (ai (g_tt c68) (ai (g_ff c69) (ai (g_ff c69) (ai (g_ff c69) kc69))))))))
                refine dec_bif (fun c70 => ?_) (fun c70 => ?_)
                · intro hr
                  obtain rfl := Option.some.inj hr
                  show AWp Try.prog _ (Ends1 ((F14_x5 h) (0 : Nat)).1 ((F14_x5 h) (0 : Nat)).2) _
                  exact pEnd_sound good (L := F14_L) (D := F14_D) (its := [.g, (.b true), .g, .g, .g, .g, .g, (.ix id63 off63 g63), (.ld (.agg #[.int .i64 y63.1, .int .i64 y63.2])), .g, .g, .g, .g, .g, .g, (.w .g), (.w .g), (.w .g), (.w .g), (.w (.ln l5.length)), (.w .g), (.p false), .g, (.w .g), (.w .g), (.w .g), (.w .g), (.w .g), (.w .g), (.w .g), (.w (.p true)), (.p false), .g, (.w .g), (.w .g), (.w .g), (.w .g), (.w .g), (.w .g), (.w .g), (.w .g), (.w .g), (.w .g), (.w .g), (.w (.p false)), (.w (.p true)), (.p false), (.b true), .g]) (ds := F14_m5_0) (ks := [1, 12]) (e := ((F14_x5 h) (0 : Nat)).1) (s2 := ((F14_x5 h) (0 : Nat)).2) (hC := (ai c70 kc70)) (hd := F14_d5) (h := by kernel_rfl)
                · intro hr
                  obtain rfl := Option.some.inj hr
                  show AWp Try.prog _ (Ends1 .normal (F14_h5 h x1 x2 x3 v4 v5 l6 v6 (IntKind.i64.wrap (a61 + 1)))) _
                  exact pEnd_sound good (L := F14_L) (D := F14_D) (its := [.g, (.b true), .g, .g, .g, .g, .g, (.ix id63 off63 g63), (.ld (.agg #[.int .i64 y63.1, .int .i64 y63.2])), .g, .g, .g, .g, .g, .g, (.w .g), (.w .g), (.w .g), (.w .g), (.w (.ln l5.length)), (.w .g), (.p false), .g, (.w .g), (.w .g), (.w .g), (.w .g), (.w .g), (.w .g), (.w .g), (.w (.p true)), (.p false), .g, (.w .g), (.w .g), (.w .g), (.w .g), (.w .g), (.w .g), (.w .g), (.w .g), (.w .g), (.w .g), (.w .g), (.w (.p false)), (.w (.p true)), (.p false), (.b false), .g, .g]) (ds := F14_m5_1) (ks := [12]) (e := .normal) (s2 := (F14_h5 h x1 x2 x3 v4 v5 l6 v6 (IntKind.i64.wrap (a61 + 1)))) (hC := (ai c70 kc70)) (hd := F14_d5) (h := by kernel_rfl)
            · intro hr
              obtain rfl := Option.some.inj hr
              show AWp Try.prog _ (Ends1 .normal (F14_h5 h x1 x2 x3 v4 v5 l6 v6 (IntKind.i64.wrap (a61 + 1)))) _
              exact pEnd_sound good (L := F14_L) (D := F14_D) (its := [.g, (.b true), .g, .g, .g, .g, .g, (.ix id63 off63 g63), (.ld (.agg #[.int .i64 y63.1, .int .i64 y63.2])), .g, .g, .g, .g, .g, .g, (.w .g), (.w .g), (.w .g), (.w .g), (.w (.ln l5.length)), (.w .g), (.p false), .g, (.w .g), (.w .g), (.w .g), (.w .g), (.w .g), (.w .g), (.w .g), (.w (.p true)), (.p false), .g, (.w .g), (.w .g), (.w .g), (.w .g), .n, .n, .n, .n, .n, .n, .n, .n, (.w (.p false)), (.p false), (.b false), .g, .g]) (ds := F14_m5_1) (ks := [12]) (e := .normal) (s2 := (F14_h5 h x1 x2 x3 v4 v5 l6 v6 (IntKind.i64.wrap (a61 + 1)))) (hC := (ai l_f (ai c67 (ai c68 (ai (g_ff c67) (ai (g_ft c68) (ai l_f (ai l_f (ai l_f (ai (g_ft c68) (ai (g_ft c68) (ai (g_ft c68) (ai (g_ft c68) kc68))))))))))))) (hd := F14_d5) (h := by kernel_rfl)
        · have kc71 := (ai (g_ff l_f) (ai (g_ff l_f) (ai (g_ff l_f) (ai (g_ff l_f) (ai c65 (ai c66 (ai (g_ff c65) (ai (g_ft c66) (ai (g_ft c66) (ai (g_ft c66) kc66))))))))))
          refine dec_bif (fun c71 => ?_) (fun c71 => ?_)
          · have kc72 := (ai (g_tt c71) (ai (g_tt c71) (ai (g_tt c71) (ai (g_tt c71) kc71))))
            refine dec_bif (fun c72 => ?_) (fun c72 => ?_)
            · intro hr
              obtain rfl := Option.some.inj hr
              show AWp Try.prog _ (Ends1 ((F14_x5 h) (0 : Nat)).1 ((F14_x5 h) (0 : Nat)).2) _
              exact pEnd_sound good (L := F14_L) (D := F14_D) (its := [.g, (.b true), .g, .g, .g, .g, .g, (.ix id63 off63 g63), (.ld (.agg #[.int .i64 y63.1, .int .i64 y63.2])), .g, .g, .g, .g, .g, .g, (.w .g), (.w .g), (.w .g), (.w .g), (.w (.ln l5.length)), (.w .g), (.p false), .g, (.w .g), (.w .g), (.w .g), (.w .g), .n, .n, .n, (.w (.p false)), (.p false), .g, (.w .g), (.w .g), (.w .g), (.w .g), (.w .g), (.w .g), (.w .g), (.w .g), .n, .n, .n, (.w (.p true)), (.w (.p true)), .g, (.b true), .g]) (ds := F14_m5_0) (ks := [1, 12]) (e := ((F14_x5 h) (0 : Nat)).1) (s2 := ((F14_x5 h) (0 : Nat)).2) (hC := (ai l_t (ai c71 (ai (g_ff l_f) (ai c72 (ai (g_tt c71) (ai (g_tf c72) (ai (g_tf c72) (ai (g_tf c72) kc72))))))))) (hd := F14_d5) (h := by kernel_rfl)
            · have kc73 := (ai c71 (ai (g_ff l_f) (ai c72 (ai (g_tt c71) (ai (g_ff c72) (ai (g_ff c72) (ai (g_ff c72) kc72)))))))
              refine dec_bif (fun c73 => ?_) (fun c73 => ?_)
              · intro hr
                obtain rfl := Option.some.inj hr
                show AWp Try.prog _ (Ends1 ((F14_x5 h) (0 : Nat)).1 ((F14_x5 h) (0 : Nat)).2) _
                exact pEnd_sound good (L := F14_L) (D := F14_D) (its := [.g, (.b true), .g, .g, .g, .g, .g, (.ix id63 off63 g63), (.ld (.agg #[.int .i64 y63.1, .int .i64 y63.2])), .g, .g, .g, .g, .g, .g, (.w .g), (.w .g), (.w .g), (.w .g), (.w (.ln l5.length)), (.w .g), (.p false), .g, (.w .g), (.w .g), (.w .g), (.w .g), .n, .n, .n, (.w (.p false)), (.p false), .g, (.w .g), (.w .g), (.w .g), (.w .g), (.w .g), (.w .g), (.w .g), (.w .g), (.w .g), (.w .g), (.w .g), (.w (.p false)), (.w (.p true)), .g, (.b true), .g]) (ds := F14_m5_0) (ks := [1, 12]) (e := ((F14_x5 h) (0 : Nat)).1) (s2 := ((F14_x5 h) (0 : Nat)).2) (hC := (ai c73 kc73)) (hd := F14_d5) (h := by kernel_rfl)
              · intro hr
                obtain rfl := Option.some.inj hr
                show AWp Try.prog _ (Ends1 .normal (F14_h5 h x1 x2 x3 v4 v5 l6 v6 (IntKind.i64.wrap (a61 + 1)))) _
                exact pEnd_sound good (L := F14_L) (D := F14_D) (its := [.g, (.b true), .g, .g, .g, .g, .g, (.ix id63 off63 g63), (.ld (.agg #[.int .i64 y63.1, .int .i64 y63.2])), .g, .g, .g, .g, .g, .g, (.w .g), (.w .g), (.w .g), (.w .g), (.w (.ln l5.length)), (.w .g), (.p false), .g, (.w .g), (.w .g), (.w .g), (.w .g), .n, .n, .n, (.w (.p false)), (.p false), .g, (.w .g), (.w .g), (.w .g), (.w .g), (.w .g), (.w .g), (.w .g), (.w .g), (.w .g), (.w .g), (.w .g), (.w (.p false)), (.w (.p true)), .g, (.b false), .g, .g]) (ds := F14_m5_1) (ks := [12]) (e := .normal) (s2 := (F14_h5 h x1 x2 x3 v4 v5 l6 v6 (IntKind.i64.wrap (a61 + 1)))) (hC := (ai c73 kc73)) (hd := F14_d5) (h := by kernel_rfl)
          · intro hr
            obtain rfl := Option.some.inj hr
            show AWp Try.prog _ (Ends1 .normal (F14_h5 h x1 x2 x3 v4 v5 l6 v6 (IntKind.i64.wrap (a61 + 1)))) _
            exact pEnd_sound good (L := F14_L) (D := F14_D) (its := [.g, (.b true), .g, .g, .g, .g, .g, (.ix id63 off63 g63), (.ld (.agg #[.int .i64 y63.1, .int .i64 y63.2])), .g, .g, .g, .g, .g, .g, (.w .g), (.w .g), (.w .g), (.w .g), (.w (.ln l5.length)), (.w .g), (.p false), .g, (.w .g), (.w .g), (.w .g), (.w .g), .n, .n, .n, (.w (.p false)), (.p false), .g, (.w .g), (.w .g), (.w .g), (.w .g), .n, .n, .n, .n, .n, .n, .n, .n, (.w (.p false)), .g, (.b false), .g, .g]) (ds := F14_m5_1) (ks := [12]) (e := .normal) (s2 := (F14_h5 h x1 x2 x3 v4 v5 l6 v6 (IntKind.i64.wrap (a61 + 1)))) (hC := (ai l_f (ai c71 (ai (g_ff l_f) (ai (g_ft c71) (ai l_f (ai l_f (ai l_f (ai (g_ft c71) (ai (g_ft c71) (ai (g_ft c71) (ai (g_ft c71) kc71)))))))))))) (hd := F14_d5) (h := by kernel_rfl)
  · intro hr
    obtain rfl := Option.some.inj hr
    show AWp Try.prog _ (Ends1 ((F14_x5 h) (1 : Nat)).1 ((F14_x5 h) (1 : Nat)).2) _
    exact pEnd_sound good (L := F14_L) (D := F14_D) (its := [.g, (.b false)]) (ds := F14_m5_2) (ks := [1]) (e := ((F14_x5 h) (1 : Nat)).1) (s2 := ((F14_x5 h) (1 : Nat)).2) (hC := (ai c62 trivial)) (hd := F14_d5) (h := by kernel_rfl)
theorem F14_l5_0 (h : AHeap) (x1 : Int) (x2 : Int) (x3 : Bool) (v4 : Hd) (l5 : List (Int × Int × Int × Int)) (v5 : Hd) (hv5 : SlE E59 4 h (sv v5) l5) (l6 : List (Int × Int)) (v6 : Hd) (hv6 : SlE E61 2 h (sv v6) l6) (x : Int) (r : Nat) (hl : loopO (fun (s : Int) => F14_s5 l5 l6 s) x = some r) (q0 : Nat.beq r 0 = true) : AWp Try.prog (.loop (codeOf Try.prog 14 [1, 1, 1, 1, 1, 1, 1, 1, 0, 1, 0, 0])) (Ends1 .ret (F14_x5_0 h r)) ((fun (s : Int) => (F14_h5 h x1 x2 x3 v4 v5 l6 v6 s)) x) := by
  have k := loop_fun (P := Try.prog) (c := (codeOf Try.prog 14 [1, 1, 1, 1, 1, 1, 1, 1, 0, 1, 0, 0])) (step := (fun (s : Int) => F14_s5 l5 l6 s)) (hd := (fun (s : Int) => (F14_h5 h x1 x2 x3 v4 v5 l6 v6 s))) (X := (F14_x5 h)) (by intro t; unfold F14_x5; cases Nat.beq t 0 <;> (intro h; cases h)) (fun x => F14_r5 h x1 x2 x3 v4 l5 v5 hv5 l6 v6 hv6 x) hl
  simp only [F14_x5, q0, cond_true, cond_false] at k
  exact k
theorem F14_l5_1 (h : AHeap) (x1 : Int) (x2 : Int) (x3 : Bool) (v4 : Hd) (l5 : List (Int × Int × Int × Int)) (v5 : Hd) (hv5 : SlE E59 4 h (sv v5) l5) (l6 : List (Int × Int)) (v6 : Hd) (hv6 : SlE E61 2 h (sv v6) l6) (x : Int) (r : Nat) (hl : loopO (fun (s : Int) => F14_s5 l5 l6 s) x = some r) (q0 : Nat.beq r 0 = false) : AWp Try.prog (.loop (codeOf Try.prog 14 [1, 1, 1, 1, 1, 1, 1, 1, 0, 1, 0, 0])) (Ends1 (.exit 8) (F14_x5_1 h r)) ((fun (s : Int) => (F14_h5 h x1 x2 x3 v4 v5 l6 v6 s)) x) := by
  have k := loop_fun (P := Try.prog) (c := (codeOf Try.prog 14 [1, 1, 1, 1, 1, 1, 1, 1, 0, 1, 0, 0])) (step := (fun (s : Int) => F14_s5 l5 l6 s)) (hd := (fun (s : Int) => (F14_h5 h x1 x2 x3 v4 v5 l6 v6 s))) (X := (F14_x5 h)) (by intro t; unfold F14_x5; cases Nat.beq t 0 <;> (intro h; cases h)) (fun x => F14_r5 h x1 x2 x3 v4 l5 v5 hv5 l6 v6 hv6 x) hl
  simp only [F14_x5, q0, cond_true, cond_false] at k
  exact k
def F14 (x1 : Int) (x2 : Int) (x3 : Bool) (l4 : List (Int × Int × Int × Int)) (l5 : List (Int × Int × Int × Int)) (l6 : List (Int × Int)) : Option (Bool) :=
  (bif decide (x1 < 0) then
   some (false)
  else
   (bif decide (x1 > 4096) then
    some (false)
   else
    (bif decide (x2 < 0) then
     some (false)
    else
     (bif decide (x2 > 4094) then
      some (false)
     else
      (bif ((l6.length : Int) != x1) then
       some (false)
      else
       (Option.bind (loopO (fun (s : Int) => F14_s1 x1 x2 x3 l4 s) 0) fun y25 =>
       (bif (Nat.beq y25 0) then
        some (false)
       else
        (bif decide ((l4.length : Int) < (F14__2 x1 x2)) then
         some (false)
        else
         (Option.bind (loopO (fun (s : Int) => F14_s2 x1 x2 x3 l4 l5 l6 s) 0) fun y38 =>
         (bif (Nat.beq y38 0) then
          some (false)
         else
          (Option.bind (loopO (fun (s : Int) => F14_s3 l5 s) 0) fun y47 =>
          (bif (Nat.beq y47 0) then
           some (false)
          else
           (Option.bind (loopO (fun (s : Int) => F14_s4 x1 x2 x3 l4 l5 l6 s) 0) fun y59 =>
           (bif (Nat.beq y59 0) then
            some (false)
           else
            (Option.bind (loopO (fun (s : Int) => F14_s5 l5 l6 s) 0) fun y74 =>
            (bif (Nat.beq y74 0) then
             some (false)
            else
             some (true)))))))))))))))))
set_option maxRecDepth 100000 in
theorem F14_spec (x1 : Int) (x2 : Int) (x3 : Bool) (l4 : List (Int × Int × Int × Int)) (l5 : List (Int × Int × Int × Int)) (l6 : List (Int × Int)) (v4 : Hd) (v5 : Hd) (v6 : Hd) (h : AHeap) (hv4 : SlE E57 4 h (sv v4) l4) (hv5 : SlE E59 4 h (sv v5) l5) (hv6 : SlE E61 2 h (sv v6) l6) (r : Bool) : F14 x1 x2 x3 l4 l5 l6 = some r → ACalls Try.prog 14 [.agg #[.int .i64 x1, .int .i64 x2, .bool x3, (sv v4), (sv v5), (sv v6)]] h (fun v' h'' => v' = (.bool r : Value) ∧ h'' = h) := by
  unfold F14
  refine dec_bif (fun c7 => ?_) (fun c7 => ?_)
  · intro hr
    obtain rfl := Option.some.inj hr
    exact pFun_sound good tab_ok (f := 14) (its := [.g, .g, .g, .g, .g, .g, .n, .n, .n, (.p true), .g, .n, .n, .n, .g, .g, .n, .n, .n, .g, .g, .n, .n, .n, .n, .n, .n, .g, (.b true), .g]) (args := [.agg #[.int .i64 x1, .int .i64 x2, .bool x3, (sv v4), (sv v5), (sv v6)]]) (h := h) (h' := h) (v := .bool false) (hC := (ai l_t (ai (g_tf l_t) (ai (g_tf l_t) (ai (g_tf l_t) (ai (g_tf l_t) (ai (g_tf l_t) (ai (g_tf l_t) (ai (g_tf l_t) (ai (g_tf l_t) (ai (g_tf l_t) (ai (g_tf l_t) (ai (g_tf l_t) (ai (g_tf l_t) (ai c7 (ai (g_tf c7) (ai (g_tf c7) (ai (g_tf c7) trivial)))))))))))))))))) (hr := by kernel_rfl)
  · have kc8 := (ai c7 (ai (g_ff c7) (ai (g_ff c7) (ai (g_ff c7) trivial))))
    refine dec_bif (fun c8 => ?_) (fun c8 => ?_)
    · intro hr
      obtain rfl := Option.some.inj hr
      exact pFun_sound good tab_ok (f := 14) (its := [.g, .g, .g, .g, .g, .g, (.w .g), (.w .g), (.w .g), (.p false), .g, .n, .n, .n, (.p true), .g, .n, .n, .n, .g, .g, .n, .n, .n, .n, .n, .n, .g, (.b true), .g]) (args := [.agg #[.int .i64 x1, .int .i64 x2, .bool x3, (sv v4), (sv v5), (sv v6)]]) (h := h) (h' := h) (v := .bool false) (hC := (ai l_t (ai (g_tf l_t) (ai (g_tf l_t) (ai (g_tf l_t) (ai (g_tf l_t) (ai (g_tf l_t) (ai (g_tf l_t) (ai (g_tf l_t) (ai (g_tf l_t) (ai (g_tf l_t) (ai c8 (ai (g_tf c8) (ai (g_tf c8) (ai (g_tf c8) kc8))))))))))))))) (hr := by kernel_rfl)
    · have kc9 := (ai c8 (ai (g_ff c8) (ai (g_ff c8) (ai (g_ff c8) kc8))))
      refine dec_bif (fun c9 => ?_) (fun c9 => ?_)
      · intro hr
        obtain rfl := Option.some.inj hr
        exact pFun_sound good tab_ok (f := 14) (its := [.g, .g, .g, .g, .g, .g, (.w .g), (.w .g), (.w .g), (.p false), .g, (.w .g), (.w .g), (.w .g), (.p false), .g, .n, .n, .n, (.p true), .g, .n, .n, .n, .n, .n, .n, .g, (.b true), .g]) (args := [.agg #[.int .i64 x1, .int .i64 x2, .bool x3, (sv v4), (sv v5), (sv v6)]]) (h := h) (h' := h) (v := .bool false) (hC := (ai l_t (ai (g_tf l_t) (ai (g_tf l_t) (ai (g_tf l_t) (ai (g_tf l_t) (ai (g_tf l_t) (ai (g_tf l_t) (ai c9 (ai (g_tf c9) (ai (g_tf c9) (ai (g_tf c9) kc9)))))))))))) (hr := by kernel_rfl)
      · have kc10 := (ai c9 (ai (g_ff c9) (ai (g_ff c9) (ai (g_ff c9) kc9))))
        refine dec_bif (fun c10 => ?_) (fun c10 => ?_)
        · intro hr
          obtain rfl := Option.some.inj hr
          exact pFun_sound good tab_ok (f := 14) (its := [.g, .g, .g, .g, .g, .g, (.w .g), (.w .g), (.w .g), (.p false), .g, (.w .g), (.w .g), (.w .g), (.p false), .g, (.w .g), (.w .g), (.w .g), (.p false), .g, .n, .n, .n, .n, .n, .n, (.p true), (.b true), .g]) (args := [.agg #[.int .i64 x1, .int .i64 x2, .bool x3, (sv v4), (sv v5), (sv v6)]]) (h := h) (h' := h) (v := .bool false) (hC := (ai l_t (ai c10 (ai (g_tf c10) (ai (g_tf c10) (ai (g_tf c10) (ai (g_tf c10) (ai (g_tf c10) (ai (g_tf c10) kc10))))))))) (hr := by kernel_rfl)
        · have kc11 := (ai c10 (ai (g_ff c10) (ai (g_ff c10) (ai (g_ff c10) (ai (SlE.len hv6) (ai (g_ff c10) (ai (g_ff c10) (ai (g_ff c10) kc10))))))))
          refine dec_bif (fun c11 => ?_) (fun c11 => ?_)
          · intro hr
            obtain rfl := Option.some.inj hr
            exact pFun_sound good tab_ok (f := 14) (its := [.g, .g, .g, .g, .g, .g, (.w .g), (.w .g), (.w .g), (.p false), .g, (.w .g), (.w .g), (.w .g), (.p false), .g, (.w .g), (.w .g), (.w .g), (.p false), .g, (.w .g), (.w .g), (.w (.ln l6.length)), (.w .g), (.w .g), (.w .g), (.p false), (.b true), .g]) (args := [.agg #[.int .i64 x1, .int .i64 x2, .bool x3, (sv v4), (sv v5), (sv v6)]]) (h := h) (h' := h) (v := .bool false) (hC := (ai c11 kc11)) (hr := by kernel_rfl)
          · refine bind_opt fun y25 e25 => ?_
            have kc26 := (ai (SlE.len hv4) (ai c11 kc11))
            refine dec_bif (fun c26 => ?_) (fun c26 => ?_)
            · intro hr
              obtain rfl := Option.some.inj hr
              exact pFun_sound good tab_ok (f := 14) (its := [.g, .g, .g, .g, .g, .g, (.w .g), (.w .g), (.w .g), (.p false), .g, (.w .g), (.w .g), (.w .g), (.p false), .g, (.w .g), (.w .g), (.w .g), (.p false), .g, (.w .g), (.w .g), (.w (.ln l6.length)), (.w .g), (.w .g), (.w .g), (.p false), (.b false), .g, .g, .g, .g, .g, .g, .g, .g, .g, (.ln l4.length), .g, (.l F14_m1_1 [] .ret (F14_x1_0 h x1 x2 x3 v4 v5 v6 y25))]) (args := [.agg #[.int .i64 x1, .int .i64 x2, .bool x3, (sv v4), (sv v5), (sv v6)]]) (h := h) (h' := h) (v := .bool false) (hC := (ai (F14_l1_0 h x1 x2 x3 l4 v4 hv4 v5 v6 0 y25 e25 c26) kc26)) (hr := by kernel_rfl)
            · have kc27 := (ai (SlE.len hv4) (ai (F14_l1_1 h x1 x2 x3 l4 v4 hv4 v5 v6 0 y25 e25 c26) kc26))
              refine dec_bif (fun c27 => ?_) (fun c27 => ?_)
              · intro hr
                obtain rfl := Option.some.inj hr
                exact pFun_sound good tab_ok (f := 14) (its := [.g, .g, .g, .g, .g, .g, (.w .g), (.w .g), (.w .g), (.p false), .g, (.w .g), (.w .g), (.w .g), (.p false), .g, (.w .g), (.w .g), (.w .g), (.p false), .g, (.w .g), (.w .g), (.w (.ln l6.length)), (.w .g), (.w .g), (.w .g), (.p false), (.b false), .g, .g, .g, .g, .g, .g, .g, .g, .g, (.ln l4.length), .g, (.l F14_m1_1 [] (.exit 0) (F14_x1_1 h x1 x2 x3 v4 v5 v6 y25)), .g, .g, (.ln l4.length), .g, .g, .g, .g, (.b true), .g]) (args := [.agg #[.int .i64 x1, .int .i64 x2, .bool x3, (sv v4), (sv v5), (sv v6)]]) (h := h) (h' := h) (v := .bool false) (hC := (ai c27 kc27)) (hr := by kernel_rfl)
              · refine bind_opt fun y38 e38 => ?_
                have kc39 := (ai c27 kc27)
                refine dec_bif (fun c39 => ?_) (fun c39 => ?_)
                · intro hr
                  obtain rfl := Option.some.inj hr
                  exact pFun_sound good tab_ok (f := 14) (its := [.g, .g, .g, .g, .g, .g, (.w .g), (.w .g), (.w .g), (.p false), .g, (.w .g), (.w .g), (.w .g), (.p false), .g, (.w .g), (.w .g), (.w .g), (.p false), .g, (.w .g), (.w .g), (.w (.ln l6.length)), (.w .g), (.w .g), (.w .g), (.p false), (.b false), .g, .g, .g, .g, .g, .g, .g, .g, .g, (.ln l4.length), .g, (.l F14_m1_1 [] (.exit 0) (F14_x1_1 h x1 x2 x3 v4 v5 v6 y25)), .g, .g, (.ln l4.length), .g, .g, .g, .g, (.b false), .g, .g, .g, (.l F14_m2_1 [] .ret (F14_x2_0 h x1 x2 x3 v4 v5 v6 y38))]) (args := [.agg #[.int .i64 x1, .int .i64 x2, .bool x3, (sv v4), (sv v5), (sv v6)]]) (h := h) (h' := h) (v := .bool false) (hC := (ai (F14_l2_0 h x1 x2 x3 l4 v4 hv4 l5 v5 hv5 l6 v6 hv6 0 y38 e38 c39) kc39)) (hr := by kernel_rfl)
                · refine bind_opt fun y47 e47 => ?_
                  have kc48 := (ai (SlE.len hv5) (ai (F14_l2_1 h x1 x2 x3 l4 v4 hv4 l5 v5 hv5 l6 v6 hv6 0 y38 e38 c39) kc39))
                  refine dec_bif (fun c48 => ?_) (fun c48 => ?_)
                  · intro hr
                    obtain rfl := Option.some.inj hr
                    exact pFun_sound good tab_ok (f := 14) (its := [.g, .g, .g, .g, .g, .g, (.w .g), (.w .g), (.w .g), (.p false), .g, (.w .g), (.w .g), (.w .g), (.p false), .g, (.w .g), (.w .g), (.w .g), (.p false), .g, (.w .g), (.w .g), (.w (.ln l6.length)), (.w .g), (.w .g), (.w .g), (.p false), (.b false), .g, .g, .g, .g, .g, .g, .g, .g, .g, (.ln l4.length), .g, (.l F14_m1_1 [] (.exit 0) (F14_x1_1 h x1 x2 x3 v4 v5 v6 y25)), .g, .g, (.ln l4.length), .g, .g, .g, .g, (.b false), .g, .g, .g, (.l F14_m2_1 [] (.exit 2) (F14_x2_1 h x1 x2 x3 v4 v5 v6 y38)), .g, .g, (.ln l5.length), .g, (.l F14_m3_1 [] .ret (F14_x3_0 h x1 x2 x3 v4 v5 v6 y47))]) (args := [.agg #[.int .i64 x1, .int .i64 x2, .bool x3, (sv v4), (sv v5), (sv v6)]]) (h := h) (h' := h) (v := .bool false) (hC := (ai (F14_l3_0 h x1 x2 x3 v4 l5 v5 hv5 v6 0 y47 e47 c48) kc48)) (hr := by kernel_rfl)
                  · refine bind_opt fun y59 e59 => ?_
                    have kc60 := (ai (F14_l3_1 h x1 x2 x3 v4 l5 v5 hv5 v6 0 y47 e47 c48) kc48)
                    refine dec_bif (fun c60 => ?_) (fun c60 => ?_)
                    · intro hr
                      obtain rfl := Option.some.inj hr
                      exact pFun_sound good tab_ok (f := 14) (its := [.g, .g, .g, .g, .g, .g, (.w .g), (.w .g), (.w .g), (.p false), .g, (.w .g), (.w .g), (.w .g), (.p false), .g, (.w .g), (.w .g), (.w .g), (.p false), .g, (.w .g), (.w .g), (.w (.ln l6.length)), (.w .g), (.w .g), (.w .g), (.p false), (.b false), .g, .g, .g, .g, .g, .g, .g, .g, .g, (.ln l4.length), .g, (.l F14_m1_1 [] (.exit 0) (F14_x1_1 h x1 x2 x3 v4 v5 v6 y25)), .g, .g, (.ln l4.length), .g, .g, .g, .g, (.b false), .g, .g, .g, (.l F14_m2_1 [] (.exit 2) (F14_x2_1 h x1 x2 x3 v4 v5 v6 y38)), .g, .g, (.ln l5.length), .g, (.l F14_m3_1 [] (.exit 4) (F14_x3_1 h x1 x2 x3 v4 v5 v6 y47)), .g, .g, .g, (.l F14_m4_1 [] .ret (F14_x4_0 h x1 x2 x3 v4 v5 v6 y59))]) (args := [.agg #[.int .i64 x1, .int .i64 x2, .bool x3, (sv v4), (sv v5), (sv v6)]]) (h := h) (h' := h) (v := .bool false) (hC := (ai (F14_l4_0 h x1 x2 x3 l4 v4 hv4 l5 v5 hv5 l6 v6 hv6 0 y59 e59 c60) kc60)) (hr := by kernel_rfl)
                    · refine bind_opt fun y74 e74 => ?_
                      have kc75 := (ai (SlE.len hv6) (ai (F14_l4_1 h x1 x2 x3 l4 v4 hv4 l5 v5 hv5 l6 v6 hv6 0 y59 e59 c60) kc60))
                      refine dec_bif (fun c75 => ?_) (fun c75 => ?_)
                      · intro hr
                        obtain rfl := Option.some.inj hr
                        exact pFun_sound good tab_ok (f := 14) (its := [.g, .g, .g, .g, .g, .g, (.w .g), (.w .g), (.w .g), (.p false), .g, (.w .g), (.w .g), (.w .g), (.p false), .g, (.w .g), (.w .g), (.w .g), (.p false), .g, (.w .g), (.w .g), (.w (.ln l6.length)), (.w .g), (.w .g), (.w .g), (.p false), (.b false), .g, .g, .g, .g, .g, .g, .g, .g, .g, (.ln l4.length), .g, (.l F14_m1_1 [] (.exit 0) (F14_x1_1 h x1 x2 x3 v4 v5 v6 y25)), .g, .g, (.ln l4.length), .g, .g, .g, .g, (.b false), .g, .g, .g, (.l F14_m2_1 [] (.exit 2) (F14_x2_1 h x1 x2 x3 v4 v5 v6 y38)), .g, .g, (.ln l5.length), .g, (.l F14_m3_1 [] (.exit 4) (F14_x3_1 h x1 x2 x3 v4 v5 v6 y47)), .g, .g, .g, (.l F14_m4_1 [] (.exit 6) (F14_x4_1 h x1 x2 x3 v4 v5 v6 y59)), .g, .g, (.ln l6.length), .g, (.l F14_m5_1 [] .ret (F14_x5_0 h y74))]) (args := [.agg #[.int .i64 x1, .int .i64 x2, .bool x3, (sv v4), (sv v5), (sv v6)]]) (h := h) (h' := h) (v := .bool false) (hC := (ai (F14_l5_0 h x1 x2 x3 v4 l5 v5 hv5 l6 v6 hv6 0 y74 e74 c75) kc75)) (hr := by kernel_rfl)
                      · intro hr
                        obtain rfl := Option.some.inj hr
                        exact pFun_sound good tab_ok (f := 14) (its := [.g, .g, .g, .g, .g, .g, (.w .g), (.w .g), (.w .g), (.p false), .g, (.w .g), (.w .g), (.w .g), (.p false), .g, (.w .g), (.w .g), (.w .g), (.p false), .g, (.w .g), (.w .g), (.w (.ln l6.length)), (.w .g), (.w .g), (.w .g), (.p false), (.b false), .g, .g, .g, .g, .g, .g, .g, .g, .g, (.ln l4.length), .g, (.l F14_m1_1 [] (.exit 0) (F14_x1_1 h x1 x2 x3 v4 v5 v6 y25)), .g, .g, (.ln l4.length), .g, .g, .g, .g, (.b false), .g, .g, .g, (.l F14_m2_1 [] (.exit 2) (F14_x2_1 h x1 x2 x3 v4 v5 v6 y38)), .g, .g, (.ln l5.length), .g, (.l F14_m3_1 [] (.exit 4) (F14_x3_1 h x1 x2 x3 v4 v5 v6 y47)), .g, .g, .g, (.l F14_m4_1 [] (.exit 6) (F14_x4_1 h x1 x2 x3 v4 v5 v6 y59)), .g, .g, (.ln l6.length), .g, (.l F14_m5_1 [] (.exit 8) (F14_x5_1 h y74)), .g]) (args := [.agg #[.int .i64 x1, .int .i64 x2, .bool x3, (sv v4), (sv v5), (sv v6)]]) (h := h) (h' := h) (v := .bool true) (hC := (ai (F14_l5_1 h x1 x2 x3 v4 l5 v5 hv5 l6 v6 hv6 0 y74 e74 c75) kc75)) (hr := by kernel_rfl)
/-! 44 jacquard/jacquardref28.Fits -/
def F44_L : List Nat := [2, 3, 6]
def F44_D : List (Nat × List (Nat × Nat)) := [(7, [(0, 2), (1, 2), (2, 2), (3, 2), (4, 2), (5, 2), (6, 2), (7, 2), (8, 2), (9, 2), (10, 2), (11, 2), (12, 2), (13, 2), (14, 2), (15, 2), (16, 2), (17, 2), (18, 2), (19, 2), (20, 2), (21, 2), (22, 2), (23, 2), (24, 2), (25, 2), (26, 2), (27, 2), (28, 2), (29, 2), (30, 2), (31, 2), (32, 2), (33, 2), (34, 2), (35, 2), (36, 2), (37, 2), (38, 2), (39, 2), (40, 2), (41, 2), (42, 2), (43, 2), (44, 2), (45, 2), (46, 2), (47, 2), (48, 2), (49, 2), (50, 2), (51, 2), (52, 2), (53, 2), (54, 2)])]
def F44_m1_2 : List Bool := (true :: true :: true :: false :: (rp 142 true []))
def F44_m1_1 : List Bool := (true :: true :: false :: false :: (rp 56 true (false :: false :: (rp 84 true []))))
def F44_m1_0 : List Bool := (rp 4 true (false :: (rp 141 true [])))
def F44_s1 (l5 : List (Int × Int × Int × Int)) (l6 : List (Int × Int)) (l9 : List Int) (l11 : List Int) (a20 : Int) : Option (Int ⊕ Nat) :=
  (bif decide (a20 < (l9.length : Int)) then
   (Option.bind (at? l6 a20) fun y22 =>
   (Option.bind (at? l9 a20) fun y23 =>
   (bif decide (y23 < 0) then
    some (.inr 0)
   else
    (bif decide (y23 > 4096) then
     some (.inr 0)
    else
     (bif decide (y22.1 < 0) then
      (Option.bind (at? l11 a20) fun y27 =>
      (bif (y27 != (-1)) then
       some (.inr 0)
      else
       (bif decide (y22.1 ≥ 0) then
        (bif decide (y27 < 0) then
         some (.inr 0)
        else
         (Option.bind (at? l5 y22.1) fun y31 =>
         (bif decide (y27 ≥ y31.2.2.2) then
          some (.inr 0)
         else
          some (.inl (IntKind.i64.wrap (a20 + 1))))))
       else
        some (.inl (IntKind.i64.wrap (a20 + 1))))))
     else
      (bif decide (y22.1 ≥ 0) then
       (Option.bind (at? l11 a20) fun y34 =>
       (bif decide (y34 < 0) then
        some (.inr 0)
       else
        (Option.bind (at? l5 y22.1) fun y36 =>
        (bif decide (y34 ≥ y36.2.2.2) then
         some (.inr 0)
        else
         some (.inl (IntKind.i64.wrap (a20 + 1)))))))
      else
       some (.inl (IntKind.i64.wrap (a20 + 1)))))))))
  else
   some (.inr 1))
def F44_h1 (h : AHeap) (x1 : Int) (x2 : Int) (x3 : Bool) (v4 : Hd) (v5 : Hd) (v6 : Hd) (x7 : Int) (x8 : Int) (l9 : List Int) (v9 : Hd) (v10 : Hd) (v11 : Hd)  (a20 : Int) : AS := ⟨(junk :: junk :: (.pointer (some ⟨2, 0, none⟩)) :: (.pointer (some ⟨3, 0, none⟩)) :: (rp 56 junk ((.int .i64 (l9.length : Int)) :: (.int .i64 a20) :: (rp 84 junk [])))), [(2, [.int .i64 x1, .int .i64 x2, .bool x3, (sv v4), (sv v5), (sv v6)]), (3, [.int .i64 x7, .int .i64 x8, (sv v9), (sv v10), (sv v11)])], h⟩
theorem F44_d1 : drawsOk F44_D (codeOf Try.prog 44 [1, 1, 0, 1, 0, 0]) = true := by kernel_rfl
def F44_x1_0 (h : AHeap) (x7 : Int) (x8 : Int) (v9 : Hd) (v10 : Hd) (v11 : Hd)  (r : Nat) : AS := ⟨(rp 4 junk ((.bool false) :: (rp 141 junk []))), [], h⟩
def F44_x1_1 (h : AHeap) (x7 : Int) (x8 : Int) (v9 : Hd) (v10 : Hd) (v11 : Hd)  (r : Nat) : AS := ⟨(junk :: junk :: junk :: (.pointer (some ⟨3, 0, none⟩)) :: (rp 142 junk [])), [(3, [.int .i64 x7, .int .i64 x8, (sv v9), (sv v10), (sv v11)])], h⟩
def F44_x1 (h : AHeap) (x7 : Int) (x8 : Int) (v9 : Hd) (v10 : Hd) (v11 : Hd) (r : Nat) : Exit × AS := (bif Nat.beq r 0 then (.ret, (F44_x1_0 h x7 x8 v9 v10 v11 r)) else ((.exit 0), (F44_x1_1 h x7 x8 v9 v10 v11 r)))
set_option maxRecDepth 100000 in
theorem F44_r1 (h : AHeap) (x1 : Int) (x2 : Int) (x3 : Bool) (v4 : Hd) (l5 : List (Int × Int × Int × Int)) (v5 : Hd) (hv5 : SlE E59 4 h (sv v5) l5) (l6 : List (Int × Int)) (v6 : Hd) (hv6 : SlE E61 2 h (sv v6) l6) (x7 : Int) (x8 : Int) (l9 : List Int) (v9 : Hd) (hv9 : SlE E3 1 h (sv v9) l9) (v10 : Hd) (l11 : List Int) (v11 : Hd) (hv11 : SlE E3 1 h (sv v11) l11) (a20 : Int) (o : Int ⊕ Nat) : F44_s1 l5 l6 l9 l11 a20 = some o → RdF Try.prog (codeOf Try.prog 44 [1, 1, 0, 1, 0, 0]) (fun (s : Int) => (F44_h1 h x1 x2 x3 v4 v5 v6 x7 x8 l9 v9 v10 v11 s)) (F44_x1 h x7 x8 v9 v10 v11) (F44_h1 h x1 x2 x3 v4 v5 v6 x7 x8 l9 v9 v10 v11 a20) o := by
  unfold F44_s1
  refine dec_bif (fun c21 => ?_) (fun c21 => ?_)
  · refine bind_opt fun y22 e22 => ?_
    obtain ⟨id22, off22, g22, cs22, ix22, at22, rfl⟩ := SlE.at hv6 e22
    refine bind_opt fun y23 e23 => ?_
    obtain ⟨id23, off23, g23, cs23, ix23, at23, rfl⟩ := SlE.at hv9 e23
    have kc24 := (ai (At.one (P := Try.prog) (t := 3) (v := .int .i64 y23) at23 (by kernel_rfl) 0 rfl rfl) (ai ix23 (ai (At.agg (P := Try.prog) (t := 61) (v := .agg #[.int .i64 y22.1, .int .i64 y22.2]) (m := 2) at22 (by kernel_rfl) (by kernel_rfl) 0 (by kernel_rfl) rfl) (ai ix22 (ai c21 trivial)))))
    refine dec_bif (fun c24 => ?_) (fun c24 => ?_)
    · intro hr
      obtain rfl := Option.some.inj hr
      show AWp Try.prog _ (Ends1 ((F44_x1 h x7 x8 v9 v10 v11) (0 : Nat)).1 ((F44_x1 h x7 x8 v9 v10 v11) (0 : Nat)).2) _
      exact pEnd_sound good (L := F44_L) (D := F44_D) (its := [.g, (.b true), .g, .g, .g, .g, .g, (.ix id22 off22 g22), (.ld (.agg #[.int .i64 y22.1, .int .i64 y22.2])), .g, .g, .g, .g, .g, (.ix id23 off23 g23), (.ld (.int .i64 y23)), .g, .g, .n, .n, .n, .n, .n, .n, (.p true), .g, .n, .n, .n, .n, .n, .n, .n, .n, .n, .n, .n, .g, .g, .n, .n, .n, .n, .n, .n, .n, .n, .n, .n, .n, .n, .n, .n, .n, .n, .n, .n, .n, .n, .n, .n, .n, .n, .n, .n, .g, (.b true), .g]) (ds := F44_m1_0) (ks := [2, 3, 6]) (e := ((F44_x1 h x7 x8 v9 v10 v11) (0 : Nat)).1) (s2 := ((F44_x1 h x7 x8 v9 v10 v11) (0 : Nat)).2) (hC := (ai l_t (ai (g_tf l_t) (ai l_f (ai l_f (ai l_f (ai l_f (ai l_f (ai l_f (ai l_f (ai l_f (ai l_f (ai l_f (ai l_f (ai l_f (ai l_f (ai l_f (ai l_f (ai l_f (ai l_f (ai l_f (ai l_f (ai l_f (ai l_f (ai (g_tf l_t) (ai (g_tf l_t) (ai (g_tf l_t) (ai (g_tf l_t) (ai (g_tf l_t) (ai l_f (ai l_f (ai l_f (ai l_f (ai l_f (ai l_f (ai (g_tf l_t) (ai (g_tf l_t) (ai (g_tf l_t) (ai (g_tf l_t) (ai c24 (ai (g_tf c24) (ai (g_tf c24) (ai (g_tf c24) (ai (g_tf c24) (ai (g_tf c24) (ai (g_tf c24) kc24)))))))))))))))))))))))))))))))))))))))))))))) (hd := F44_d1) (h := by kernel_rfl)
    · have kc25 := (ai c24 (ai (g_ff c24) (ai (At.one (P := Try.prog) (t := 3) (v := .int .i64 y23) at23 (by kernel_rfl) 0 rfl rfl) (ai (g_ff c24) (ai ix23 (ai (g_ff c24) (ai (g_ff c24) (ai (g_ff c24) (ai (g_ff c24) kc24)))))))))
      refine dec_bif (fun c25 => ?_) (fun c25 => ?_)
      · intro hr
        obtain rfl := Option.some.inj hr
        show AWp Try.prog _ (Ends1 ((F44_x1 h x7 x8 v9 v10 v11) (0 : Nat)).1 ((F44_x1 h x7 x8 v9 v10 v11) (0 : Nat)).2) _
        exact pEnd_sound good (L := F44_L) (D := F44_D) (its := [.g, (.b true), .g, .g, .g, .g, .g, (.ix id22 off22 g22), (.ld (.agg #[.int .i64 y22.1, .int .i64 y22.2])), .g, .g, .g, .g, .g, (.ix id23 off23 g23), (.ld (.int .i64 y23)), .g, .g, (.w .g), (.w .g), (.w .g), (.w (.ix id23 off23 g23)), (.w (.ld (.int .i64 y23))), (.w .g), (.p false), .g, .n, .n, .n, .n, .n, .n, .n, .n, .n, .n, .n, (.p true), .g, .n, .n, .n, .n, .n, .n, .n, .n, .n, .n, .n, .n, .n, .n, .n, .n, .n, .n, .n, .n, .n, .n, .n, .n, .n, .n, .g, (.b true), .g]) (ds := F44_m1_0) (ks := [2, 3, 6]) (e := ((F44_x1 h x7 x8 v9 v10 v11) (0 : Nat)).1) (s2 := ((F44_x1 h x7 x8 v9 v10 v11) (0 : Nat)).2) (hC := (ai l_t (ai (g_tf l_t) (ai l_f (ai l_f (ai l_f (ai l_f (ai l_f (ai l_f (ai l_f (ai l_f (ai l_f (ai l_f (ai l_f (ai l_f (ai l_f (ai l_f (ai l_f (ai l_f (ai l_f (ai l_f (ai l_f (ai l_f (ai l_f (ai (g_tf l_t) (ai (g_tf l_t) (ai (g_tf l_t) (ai (g_tf l_t) (ai c25 (ai (g_tf c25) (ai l_f (ai l_f (ai l_f (ai l_f (ai l_f (ai l_f (ai (g_tf c25) (ai (g_tf c25) (ai (g_tf c25) (ai (g_tf c25) kc25)))))))))))))))))))))))))))))))))))))))) (hd := F44_d1) (h := by kernel_rfl)
      · have kc26 := (ai (g_ff c25) (ai (g_ff c25) (ai (g_ff c25) (ai (g_ff c25) kc25))))
        refine dec_bif (fun c26 => ?_) (fun c26 => ?_)
        · refine bind_opt fun y27 e27 => ?_
          obtain ⟨id27, off27, g27, cs27, ix27, at27, rfl⟩ := SlE.at hv11 e27
          have kc28 := (ai c25 (ai c26 (ai (g_ff c25) (ai (g_tt c26) (ai (At.one (P := Try.prog) (t := 3) (v := .int .i64 y27) at27 (by kernel_rfl) 0 rfl rfl) (ai (g_tt c26) (ai ix27 (ai (g_tt c26) (ai (g_tt c26) (ai (g_tt c26) (ai (g_tt c26) kc26)))))))))))
          refine dec_bif (fun c28 => ?_) (fun c28 => ?_)
          · intro hr
            obtain rfl := Option.some.inj hr
            show AWp Try.prog _ (Ends1 ((F44_x1 h x7 x8 v9 v10 v11) (0 : Nat)).1 ((F44_x1 h x7 x8 v9 v10 v11) (0 : Nat)).2) _
            exact pEnd_sound good (L := F44_L) (D := F44_D) (its := [.g, (.b true), .g, .g, .g, .g, .g, (.ix id22 off22 g22), (.ld (.agg #[.int .i64 y22.1, .int .i64 y22.2])), .g, .g, .g, .g, .g, (.ix id23 off23 g23), (.ld (.int .i64 y23)), .g, .g, (.w .g), (.w .g), (.w .g), (.w (.ix id23 off23 g23)), (.w (.ld (.int .i64 y23))), (.w .g), (.p false), .g, (.w .g), (.w .g), (.w .g), (.w .g), (.w .g), (.w .g), (.w .g), (.w (.ix id27 off27 g27)), (.w (.ld (.int .i64 y27))), (.w .g), (.w (.p true)), (.p false), .g, .n, .n, .n, .n, .n, .n, .n, .n, .n, .n, .n, .n, .n, .n, .n, .n, .n, .n, .n, .n, .n, .n, .n, .n, .n, .n, (.p true), (.b true), .g]) (ds := F44_m1_0) (ks := [2, 3, 6]) (e := ((F44_x1 h x7 x8 v9 v10 v11) (0 : Nat)).1) (s2 := ((F44_x1 h x7 x8 v9 v10 v11) (0 : Nat)).2) (hC := (ai l_t (ai c28 (ai (g_tf c28) (ai l_f (ai l_f (ai l_f (ai l_f (ai l_f (ai l_f (ai l_f (ai l_f (ai l_f (ai l_f (ai l_f (ai l_f (ai l_f (ai l_f (ai l_f (ai l_f (ai l_f (ai l_f (ai l_f (ai l_f (ai l_f (ai (g_tf c28) (ai (g_tf c28) (ai (g_tf c28) (ai (g_tf c28) kc28))))))))))))))))))))))))))))) (hd := F44_d1) (h := by kernel_rfl)
          · have kc29 := (ai (g_ff c28) (ai (g_ff c28) (ai (g_ff c28) (ai (g_ff c28) kc28))))
            refine dec_bif (fun c29 => ?_) (fun c29 => ?_)
            · have kc30 := (ai (g_tt c29) (ai (g_tt c29) (ai (At.one (P := Try.prog) (t := 3) (v := .int .i64 y27) at27 (by kernel_rfl) 0 rfl rfl) (ai (g_tt c29) (ai ix27 (ai (g_tt c29) (ai (g_tt c29) (ai (g_tt c29) (ai (g_tt c29) kc29)))))))))
              refine dec_bif (fun c30 => ?_) (fun c30 => ?_)
              · intro hr
                obtain rfl := Option.some.inj hr
                show AWp Try.prog _ (Ends1 ((F44_x1 h x7 x8 v9 v10 v11) (0 : Nat)).1 ((F44_x1 h x7 x8 v9 v10 v11) (0 : Nat)).2) _
                exact pEnd_sound good (L := F44_L) (D := F44_D) (its := [.g, (.b true), .g, .g, .g, .g, .g, (.ix id22 off22 g22), (.ld (.agg #[.int .i64 y22.1, .int .i64 y22.2])), .g, .g, .g, .g, .g, (.ix id23 off23 g23), (.ld (.int .i64 y23)), .g, .g, (.w .g), (.w .g), (.w .g), (.w (.ix id23 off23 g23)), (.w (.ld (.int .i64 y23))), (.w .g), (.p false), .g, (.w .g), (.w .g), (.w .g), (.w .g), (.w .g), (.w .g), (.w .g), (.w (.ix id27 off27 g27)), (.w (.ld (.int .i64 y27))), (.w .g), (.w (.p true)), (.p false), .g, (.w .g), (.w .g), (.w .g), (.w .g), (.w .g), (.w .g), (.w .g), (.w (.ix id27 off27 g27)), (.w (.ld (.int .i64 y27))), (.w .g), (.w .g), .n, .n, .n, .n, .n, .n, .n, .n, .n, .n, .n, .n, .n, (.w (.p true)), (.w (.p true)), (.p false), (.b true), .g]) (ds := F44_m1_0) (ks := [2, 3, 6]) (e := ((F44_x1 h x7 x8 v9 v10 v11) (0 : Nat)).1) (s2 := ((F44_x1 h x7 x8 v9 v10 v11) (0 : Nat)).2) (hC := (ai l_t (ai c28 (ai c29 (ai (g_ff c28) (ai c30 (ai (g_tt c29) (ai (g_tf c30) (ai (g_tf c30) (ai (g_tf c30) (ai (g_tf c30) (ai (g_tf c30) (ai (g_tf c30) (ai (g_tf c30) (ai (g_tf c30) (ai (g_tf c30) (ai (g_tf c30) (ai (g_tf c30) (ai (g_tf c30) (ai (g_tf c30) kc30)))))))))))))))))))) (hd := F44_d1) (h := by kernel_rfl)
              · refine bind_opt fun y31 e31 => ?_
                obtain ⟨id31, off31, g31, cs31, ix31, at31, rfl⟩ := SlE.at hv5 e31
                have kc32 := (ai c28 (ai c29 (ai (g_ff c28) (ai c30 (ai (g_tt c29) (ai (g_ff c30) (ai (At.one (P := Try.prog) (t := 3) (v := .int .i64 y31.2.2.2) at31 (by kernel_rfl) 3 rfl rfl) (ai (g_ff c30) (ai (g_ff c30) (ai ix31 (ai (g_ff c30) (ai (g_ff c30) (ai (g_ff c30) (ai (g_ff c30) (ai (g_ff c30) (ai (At.one (P := Try.prog) (t := 3) (v := .int .i64 y27) at27 (by kernel_rfl) 0 rfl rfl) (ai (g_ff c30) (ai ix27 (ai (g_ff c30) (ai (g_ff c30) (ai (g_ff c30) (ai (g_ff c30) kc30))))))))))))))))))))))
                refine dec_bif (fun c32 => ?_) (fun c32 => ?_)
                · intro hr
                  obtain rfl := Option.some.inj hr
                  show AWp Try.prog _ (Ends1 ((F44_x1 h x7 x8 v9 v10 v11) (0 : Nat)).1 ((F44_x1 h x7 x8 v9 v10 v11) (0 : Nat)).2) _
                  exact pEnd_sound good (L := F44_L) (D := F44_D) (its := [.g, (.b true), .g, .g, .g, .g, .g, (.ix id22 off22 g22), (.ld (.agg #[.int .i64 y22.1, .int .i64 y22.2])), .g, .g, .g, .g, .g, (.ix id23 off23 g23), (.ld (.int .i64 y23)), .g, .g, (.w .g), (.w .g), (.w .g), (.w (.ix id23 off23 g23)), (.w (.ld (.int .i64 y23))), (.w .g), (.p false), .g, (.w .g), (.w .g), (.w .g), (.w .g), (.w .g), (.w .g), (.w .g), (.w (.ix id27 off27 g27)), (.w (.ld (.int .i64 y27))), (.w .g), (.w (.p true)), (.p false), .g, (.w .g), (.w .g), (.w .g), (.w .g), (.w .g), (.w .g), (.w .g), (.w (.ix id27 off27 g27)), (.w (.ld (.int .i64 y27))), (.w .g), (.w .g), (.w .g), (.w .g), (.w .g), (.w (.ix id27 off27 g27)), (.w (.ld (.int .i64 y27))), (.w .g), (.w .g), (.w .g), (.w .g), (.w (.ix id31 off31 g31)), (.w .g), (.w (.ld (.int .i64 y31.2.2.2))), (.w .g), (.w (.p false)), (.w (.p true)), (.p false), (.b true), .g]) (ds := F44_m1_0) (ks := [2, 3, 6]) (e := ((F44_x1 h x7 x8 v9 v10 v11) (0 : Nat)).1) (s2 := ((F44_x1 h x7 x8 v9 v10 v11) (0 : Nat)).2) (hC := (ai c32 kc32)) (hd := F44_d1) (h := by kernel_rfl)
                · intro hr
                  obtain rfl := Option.some.inj hr
                  show AWp Try.prog _ (Ends1 .normal (F44_h1 h x1 x2 x3 v4 v5 v6 x7 x8 l9 v9 v10 v11 (IntKind.i64.wrap (a20 + 1)))) _
                  exact pEnd_sound good (L := F44_L) (D := F44_D) (its := [.g, (.b true), .g, .g, .g, .g, .g, (.ix id22 off22 g22), (.ld (.agg #[.int .i64 y22.1, .int .i64 y22.2])), .g, .g, .g, .g, .g, (.ix id23 off23 g23), (.ld (.int .i64 y23)), .g, .g, (.w .g), (.w .g), (.w .g), (.w (.ix id23 off23 g23)), (.w (.ld (.int .i64 y23))), (.w .g), (.p false), .g, (.w .g), (.w .g), (.w .g), (.w .g), (.w .g), (.w .g), (.w .g), (.w (.ix id27 off27 g27)), (.w (.ld (.int .i64 y27))), (.w .g), (.w (.p true)), (.p false), .g, (.w .g), (.w .g), (.w .g), (.w .g), (.w .g), (.w .g), (.w .g), (.w (.ix id27 off27 g27)), (.w (.ld (.int .i64 y27))), (.w .g), (.w .g), (.w .g), (.w .g), (.w .g), (.w (.ix id27 off27 g27)), (.w (.ld (.int .i64 y27))), (.w .g), (.w .g), (.w .g), (.w .g), (.w (.ix id31 off31 g31)), (.w .g), (.w (.ld (.int .i64 y31.2.2.2))), (.w .g), (.w (.p false)), (.w (.p true)), (.p false), (.b false), .g, .g]) (ds := F44_m1_1) (ks := [6]) (e := .normal) (s2 := (F44_h1 h x1 x2 x3 v4 v5 v6 x7 x8 l9 v9 v10 v11 (IntKind.i64.wrap (a20 + 1)))) (hC := (ai c32 kc32)) (hd := F44_d1) (h := by kernel_rfl)
            · intro hr
              obtain rfl := Option.some.inj hr
              show AWp Try.prog _ (Ends1 .normal (F44_h1 h x1 x2 x3 v4 v5 v6 x7 x8 l9 v9 v10 v11 (IntKind.i64.wrap (a20 + 1)))) _
              exact pEnd_sound good (L := F44_L) (D := F44_D) (its := [.g, (.b true), .g, .g, .g, .g, .g, (.ix id22 off22 g22), (.ld (.agg #[.int .i64 y22.1, .int .i64 y22.2])), .g, .g, .g, .g, .g, (.ix id23 off23 g23), (.ld (.int .i64 y23)), .g, .g, (.w .g), (.w .g), (.w .g), (.w (.ix id23 off23 g23)), (.w (.ld (.int .i64 y23))), (.w .g), (.p false), .g, (.w .g), (.w .g), (.w .g), (.w .g), (.w .g), (.w .g), (.w .g), (.w (.ix id27 off27 g27)), (.w (.ld (.int .i64 y27))), (.w .g), (.w (.p true)), (.p false), .g, (.w .g), (.w .g), (.w .g), (.w .g), .n, .n, .n, .n, .n, .n, .n, .n, .n, .n, .n, .n, .n, .n, .n, .n, .n, .n, .n, .n, .n, (.w (.p false)), (.p false), (.b false), .g, .g]) (ds := F44_m1_1) (ks := [6]) (e := .normal) (s2 := (F44_h1 h x1 x2 x3 v4 v5 v6 x7 x8 l9 v9 v10 v11 (IntKind.i64.wrap (a20 + 1)))) (hC := (ai l_f (ai c28 (ai c29 (ai (g_ff c28) (ai (g_ft c29) (ai l_f (ai l_f (ai l_f (ai l_f (ai l_f (ai l_f (ai l_f (ai l_f (ai l_f (ai l_f (ai l_f (ai l_f (ai l_f (ai (g_ft c29) (ai (g_ft c29) (ai (g_ft c29) (ai (g_ft c29) (ai (g_ft c29) (ai (g_ft c29) (ai (g_ft c29) kc29)))))))))))))))))))))))))) (hd := F44_d1) (h := by kernel_rfl)
        · have kc33 := (ai (g_ff l_f) (ai (g_ff l_f) (ai (g_ff l_f) (ai (g_ff l_f) (ai c25 (ai c26 (ai (g_ff c25) (ai (g_ft c26) (ai (g_ft c26) (ai (g_ft c26) (ai (g_ft c26) (ai (g_ft c26) (ai (g_ft c26) kc26)))))))))))))
          refine dec_bif (fun c33 => ?_) (fun c33 => ?_)
          · refine bind_opt fun y34 e34 => ?_
            obtain ⟨id34, off34, g34, cs34, ix34, at34, rfl⟩ := SlE.at hv11 e34
            have kc35 := (ai (g_tt c33) (ai (g_tt c33) (ai (At.one (P := Try.prog) (t := 3) (v := .int .i64 y34) at34 (by kernel_rfl) 0 rfl rfl) (ai (g_tt c33) (ai ix34 (ai (g_tt c33) (ai (g_tt c33) (ai (g_tt c33) (ai (g_tt c33) kc33)))))))))
            refine dec_bif (fun c35 => ?_) (fun c35 => ?_)
            · intro hr
              obtain rfl := Option.some.inj hr
              show AWp Try.prog _ (Ends1 ((F44_x1 h x7 x8 v9 v10 v11) (0 : Nat)).1 ((F44_x1 h x7 x8 v9 v10 v11) (0 : Nat)).2) _
              exact pEnd_sound good (L := F44_L) (D := F44_D) (its := [.g, (.b true), .g, .g, .g, .g, .g, (.ix id22 off22 g22), (.ld (.agg #[.int .i64 y22.1, .int .i64 y22.2])), .g, .g, .g, .g, .g, (.ix id23 off23 g23), (.ld (.int .i64 y23)), .g, .g, (.w .g), (.w .g), (.w .g), (.w (.ix id23 off23 g23)), (.w (.ld (.int .i64 y23))), (.w .g), (.p false), .g, (.w .g), (.w .g), (.w .g), (.w .g), .n, .n, .n, .n, .n, .n, (.w (.p false)), (.p false), .g, (.w .g), (.w .g), (.w .g), (.w .g), (.w .g), (.w .g), (.w .g), (.w (.ix id34 off34 g34)), (.w (.ld (.int .i64 y34))), (.w .g), (.w .g), .n, .n, .n, .n, .n, .n, .n, .n, .n, .n, .n, .n, .n, (.w (.p true)), (.w (.p true)), .g, (.b true), .g]) (ds := F44_m1_0) (ks := [2, 3, 6]) (e := ((F44_x1 h x7 x8 v9 v10 v11) (0 : Nat)).1) (s2 := ((F44_x1 h x7 x8 v9 v10 v11) (0 : Nat)).2) (hC := (ai l_t (ai c33 (ai (g_ff l_f) (ai c35 (ai (g_tt c33) (ai (g_tf c35) (ai (g_tf c35) (ai (g_tf c35) (ai (g_tf c35) (ai (g_tf c35) (ai (g_tf c35) (ai (g_tf c35) (ai (g_tf c35) (ai (g_tf c35) (ai (g_tf c35) (ai (g_tf c35) (ai (g_tf c35) (ai (g_tf c35) kc35))))))))))))))))))) (hd := F44_d1) (h := by kernel_rfl)
            · refine bind_opt fun y36 e36 => ?_
              obtain ⟨id36, off36, g36, cs36, ix36, at36, rfl⟩ := SlE.at hv5 e36
              have kc37 := (ai c33 (ai (g_ff l_f) (ai c35 (ai (g_tt c33) (ai (g_ff c35) (ai (At.one (P := Try.prog) (t := 3) (v := .int .i64 y36.2.2.2) at36 (by kernel_rfl) 3 rfl rfl) (ai (g_ff c35) (ai (g_ff c35) (ai ix36 (ai (g_ff c35) (ai (g_ff c35) (ai (g_ff c35) (ai (g_ff c35) (ai (g_ff c35) (ai (At.one (P := Try.prog) (t := 3) (v := .int .i64 y34) at34 (by kernel_rfl) 0 rfl rfl) (ai (g_ff c35) (ai ix34 (ai (g_ff c35) (ai (g_ff c35) (ai (g_ff c35) (ai (g_ff c35) kc35)))))))))))))))))))))
              refine dec_bif (fun c37 => ?_) (fun c37 => ?_)
              · intro hr
                obtain rfl := Option.some.inj hr
                show AWp Try.prog _ (Ends1 ((F44_x1 h x7 x8 v9 v10 v11) (0 : Nat)).1 ((F44_x1 h x7 x8 v9 v10 v11) (0 : Nat)).2) _
                exact pEnd_sound good (L := F44_L) (D := F44_D) (its := [.g, (.b true), .g, .g, .g, .g, .g, (.ix id22 off22 g22), (.ld (.agg #[.int .i64 y22.1, .int .i64 y22.2])), .g, .g, .g, .g, .g, (.ix id23 off23 g23), (.ld (.int .i64 y23)), .g, .g, (.w .g), (.w .g), (.w .g), (.w (.ix id23 off23 g23)), (.w (.ld (.int .i64 y23))), (.w .g), (.p false), .g, (.w .g), (.w .g), (.w .g), (.w .g), .n, .n, .n, .n, .n, .n, (.w (.p false)), (.p false), .g, (.w .g), (.w .g), (.w .g), (.w .g), (.w .g), (.w .g), (.w .g), (.w (.ix id34 off34 g34)), (.w (.ld (.int .i64 y34))), (.w .g), (.w .g), (.w .g), (.w .g), (.w .g), (.w (.ix id34 off34 g34)), (.w (.ld (.int .i64 y34))), (.w .g), (.w .g), (.w .g), (.w .g), (.w (.ix id36 off36 g36)), (.w .g), (.w (.ld (.int .i64 y36.2.2.2))), (.w .g), (.w (.p false)), (.w (.p true)), .g, (.b true), .g]) (ds := F44_m1_0) (ks := [2, 3, 6]) (e := ((F44_x1 h x7 x8 v9 v10 v11) (0 : Nat)).1) (s2 := ((F44_x1 h x7 x8 v9 v10 v11) (0 : Nat)).2) (hC := (ai c37 kc37)) (hd := F44_d1) (h := by kernel_rfl)
              · intro hr
                obtain rfl := Option.some.inj hr
                show AWp Try.prog _ (Ends1 .normal (F44_h1 h x1 x2 x3 v4 v5 v6 x7 x8 l9 v9 v10 v11 (IntKind.i64.wrap (a20 + 1)))) _
                exact pEnd_sound good (L := F44_L) (D := F44_D) (its := [.g, (.b true), .g, .g, .g, .g, .g, (.ix id22 off22 g22), (.ld (.agg #[.int .i64 y22.1, .int .i64 y22.2])), .g, .g, .g, .g, .g, (.ix id23 off23 g23), (.ld (.int .i64 y23)), .g, .g, (.w .g), (.w .g), (.w .g), (.w (.ix id23 off23 g23)), (.w (.ld (.int .i64 y23))), (.w .g), (.p false), .g, (.w .g), (.w .g), (.w .g), (.w .g), .n, .n, .n, .n, .n, .n, (.w (.p false)), (.p false), .g, (.w .g), (.w .g), (.w .g), (.w .g), (.w .g), (.w .g), (.w .g), (.w (.ix id34 off34 g34)), (.w (.ld (.int .i64 y34))), (.w .g), (.w .g), (.w .g), (.w .g), (.w .g), (.w (.ix id34 off34 g34)), (.w (.ld (.int .i64 y34))), (.w .g), (.w .g), (.w .g), (.w .g), (.w (.ix id36 off36 g36)), (.w .g), (.w (.ld (.int .i64 y36.2.2.2))), (.w .g), (.w (.p false)), (.w (.p true)), .g, (.b false), .g, .g]) (ds := F44_m1_1) (ks := [6]) (e := .normal) (s2 := (F44_h1 h x1 x2 x3 v4 v5 v6 x7 x8 l9 v9 v10 v11 (IntKind.i64.wrap (a20 + 1)))) (hC := (ai c37 kc37)) (hd := F44_d1) (h := by kernel_rfl)
          · intro hr
            obtain rfl := Option.some.inj hr
            show AWp Try.prog _ (Ends1 .normal (F44_h1 h x1 x2 x3 v4 v5 v6 x7 x8 l9 v9 v10 v11 (IntKind.i64.wrap (a20 + 1)))) _
            exact pEnd_sound good (L := F44_L) (D := F44_D) (its := [.g, (.b true), .g, .g, .g, .g, .g, (.ix id22 off22 g22), (.ld (.agg #[.int .i64 y22.1, .int .i64 y22.2])), .g, .g, .g, .g, .g, (.ix id23 off23 g23), (.ld (.int .i64 y23)), .g, .g, (.w .g), (.w .g), (.w .g), (.w (.ix id23 off23 g23)), (.w (.ld (.int .i64 y23))), (.w .g), (.p false), .g, (.w .g), (.w .g), (.w .g), (.w .g), .n, .n, .n, .n, .n, .n, (.w (.p false)), (.p false), .g, (.w .g), (.w .g), (.w .g), (.w .g), .n, .n, .n, .n, .n, .n, .n, .n, .n, .n, .n, .n, .n, .n, .n, .n, .n, .n, .n, .n, .n, (.w (.p false)), .g, (.b false), .g, .g]) (ds := F44_m1_1) (ks := [6]) (e := .normal) (s2 := (F44_h1 h x1 x2 x3 v4 v5 v6 x7 x8 l9 v9 v10 v11 (IntKind.i64.wrap (a20 + 1)))) (hC := (ai l_f (ai c33 (ai (g_ff l_f) (ai (g_ft c33) (ai l_f (ai l_f (ai l_f (ai l_f (ai l_f (ai l_f (ai l_f (ai l_f (ai l_f (ai l_f (ai l_f (ai l_f (ai l_f (ai (g_ft c33) (ai (g_ft c33) (ai (g_ft c33) (ai (g_ft c33) (ai (g_ft c33) (ai (g_ft c33) (ai (g_ft c33) kc33))))))))))))))))))))))))) (hd := F44_d1) (h := by kernel_rfl)
  · intro hr
    obtain rfl := Option.some.inj hr
    show AWp Try.prog _ (Ends1 ((F44_x1 h x7 x8 v9 v10 v11) (1 : Nat)).1 ((F44_x1 h x7 x8 v9 v10 v11) (1 : Nat)).2) _
    exact pEnd_sound good (L := F44_L) (D := F44_D) (its := [.g, (.b false)]) (ds := F44_m1_2) (ks := [2]) (e := ((F44_x1 h x7 x8 v9 v10 v11) (1 : Nat)).1) (s2 := ((F44_x1 h x7 x8 v9 v10 v11) (1 : Nat)).2) (hC := (ai c21 trivial)) (hd := F44_d1) (h := by kernel_rfl)
theorem F44_l1_0 (h : AHeap) (x1 : Int) (x2 : Int) (x3 : Bool) (v4 : Hd) (l5 : List (Int × Int × Int × Int)) (v5 : Hd) (hv5 : SlE E59 4 h (sv v5) l5) (l6 : List (Int × Int)) (v6 : Hd) (hv6 : SlE E61 2 h (sv v6) l6) (x7 : Int) (x8 : Int) (l9 : List Int) (v9 : Hd) (hv9 : SlE E3 1 h (sv v9) l9) (v10 : Hd) (l11 : List Int) (v11 : Hd) (hv11 : SlE E3 1 h (sv v11) l11) (x : Int) (r : Nat) (hl : loopO (fun (s : Int) => F44_s1 l5 l6 l9 l11 s) x = some r) (q0 : Nat.beq r 0 = true) : AWp Try.prog (.loop (codeOf Try.prog 44 [1, 1, 0, 1, 0, 0])) (Ends1 .ret (F44_x1_0 h x7 x8 v9 v10 v11 r)) ((fun (s : Int) => (F44_h1 h x1 x2 x3 v4 v5 v6 x7 x8 l9 v9 v10 v11 s)) x) := by
  have k := loop_fun (P := Try.prog) (c := (codeOf Try.prog 44 [1, 1, 0, 1, 0, 0])) (step := (fun (s : Int) => F44_s1 l5 l6 l9 l11 s)) (hd := (fun (s : Int) => (F44_h1 h x1 x2 x3 v4 v5 v6 x7 x8 l9 v9 v10 v11 s))) (X := (F44_x1 h x7 x8 v9 v10 v11)) (by intro t; unfold F44_x1; cases Nat.beq t 0 <;> (intro h; cases h)) (fun x => F44_r1 h x1 x2 x3 v4 l5 v5 hv5 l6 v6 hv6 x7 x8 l9 v9 hv9 v10 l11 v11 hv11 x) hl
  simp only [F44_x1, q0, cond_true, cond_false] at k
  exact k
theorem F44_l1_1 (h : AHeap) (x1 : Int) (x2 : Int) (x3 : Bool) (v4 : Hd) (l5 : List (Int × Int × Int × Int)) (v5 : Hd) (hv5 : SlE E59 4 h (sv v5) l5) (l6 : List (Int × Int)) (v6 : Hd) (hv6 : SlE E61 2 h (sv v6) l6) (x7 : Int) (x8 : Int) (l9 : List Int) (v9 : Hd) (hv9 : SlE E3 1 h (sv v9) l9) (v10 : Hd) (l11 : List Int) (v11 : Hd) (hv11 : SlE E3 1 h (sv v11) l11) (x : Int) (r : Nat) (hl : loopO (fun (s : Int) => F44_s1 l5 l6 l9 l11 s) x = some r) (q0 : Nat.beq r 0 = false) : AWp Try.prog (.loop (codeOf Try.prog 44 [1, 1, 0, 1, 0, 0])) (Ends1 (.exit 0) (F44_x1_1 h x7 x8 v9 v10 v11 r)) ((fun (s : Int) => (F44_h1 h x1 x2 x3 v4 v5 v6 x7 x8 l9 v9 v10 v11 s)) x) := by
  have k := loop_fun (P := Try.prog) (c := (codeOf Try.prog 44 [1, 1, 0, 1, 0, 0])) (step := (fun (s : Int) => F44_s1 l5 l6 l9 l11 s)) (hd := (fun (s : Int) => (F44_h1 h x1 x2 x3 v4 v5 v6 x7 x8 l9 v9 v10 v11 s))) (X := (F44_x1 h x7 x8 v9 v10 v11)) (by intro t; unfold F44_x1; cases Nat.beq t 0 <;> (intro h; cases h)) (fun x => F44_r1 h x1 x2 x3 v4 l5 v5 hv5 l6 v6 hv6 x7 x8 l9 v9 hv9 v10 l11 v11 hv11 x) hl
  simp only [F44_x1, q0, cond_true, cond_false] at k
  exact k
def F44_m2_2 : List Bool := (rp 146 true [])
def F44_m2_1 : List Bool := (true :: true :: true :: false :: (rp 123 true (false :: false :: (rp 17 true []))))
def F44_m2_0 : List Bool := (rp 4 true (false :: (rp 141 true [])))
def F44_s2 (l10 : List Int) (a40 : Int) : Option (Int ⊕ Nat) :=
  (bif decide (a40 < (l10.length : Int)) then
   (Option.bind (at? l10 a40) fun y42 =>
   (bif decide (y42 < 0) then
    some (.inr 0)
   else
    (bif decide (y42 > 4096) then
     some (.inr 0)
    else
     some (.inl (IntKind.i64.wrap (a40 + 1))))))
  else
   some (.inr 1))
def F44_h2 (h : AHeap) (x7 : Int) (x8 : Int) (v9 : Hd) (l10 : List Int) (v10 : Hd) (v11 : Hd)  (a40 : Int) : AS := ⟨(junk :: junk :: junk :: (.pointer (some ⟨3, 0, none⟩)) :: (rp 123 junk ((.int .i64 (l10.length : Int)) :: (.int .i64 a40) :: (rp 17 junk [])))), [(3, [.int .i64 x7, .int .i64 x8, (sv v9), (sv v10), (sv v11)])], h⟩
theorem F44_d2 : drawsOk F44_D (codeOf Try.prog 44 [1, 1, 1, 0, 1, 0, 0]) = true := by kernel_rfl
def F44_x2_0 (h : AHeap)  (r : Nat) : AS := ⟨(rp 4 junk ((.bool false) :: (rp 141 junk []))), [], h⟩
def F44_x2_1 (h : AHeap)  (r : Nat) : AS := ⟨(rp 146 junk []), [], h⟩
def F44_x2 (h : AHeap) (r : Nat) : Exit × AS := (bif Nat.beq r 0 then (.ret, (F44_x2_0 h r)) else ((.exit 2), (F44_x2_1 h r)))
set_option maxRecDepth 100000 in
theorem F44_r2 (h : AHeap) (x7 : Int) (x8 : Int) (v9 : Hd) (l10 : List Int) (v10 : Hd) (hv10 : SlE E3 1 h (sv v10) l10) (v11 : Hd) (a40 : Int) (o : Int ⊕ Nat) : F44_s2 l10 a40 = some o → RdF Try.prog (codeOf Try.prog 44 [1, 1, 1, 0, 1, 0, 0]) (fun (s : Int) => (F44_h2 h x7 x8 v9 l10 v10 v11 s)) (F44_x2 h) (F44_h2 h x7 x8 v9 l10 v10 v11 a40) o := by
  unfold F44_s2
  refine dec_bif (fun c41 => ?_) (fun c41 => ?_)
  · refine bind_opt fun y42 e42 => ?_
    obtain ⟨id42, off42, g42, cs42, ix42, at42, rfl⟩ := SlE.at hv10 e42
    have kc43 := (ai (At.one (P := Try.prog) (t := 3) (v := .int .i64 y42) at42 (by kernel_rfl) 0 rfl rfl) (ai ix42 (ai c41 trivial)))
    refine dec_bif (fun c43 => ?_) (fun c43 => ?_)
    · intro hr
      obtain rfl := Option.some.inj hr
      show AWp Try.prog _ (Ends1 ((F44_x2 h) (0 : Nat)).1 ((F44_x2 h) (0 : Nat)).2) _
      exact pEnd_sound good (L := F44_L) (D := F44_D) (its := [.g, (.b true), .g, .g, .g, .g, .g, (.ix id42 off42 g42), (.ld (.int .i64 y42)), .g, .g, .n, .n, .n, .n, .n, .n, (.p true), (.b true), .g]) (ds := F44_m2_0) (ks := [3]) (e := ((F44_x2 h) (0 : Nat)).1) (s2 := ((F44_x2 h) (0 : Nat)).2) (hC := (ai l_t (ai c43 (ai (g_tf c43) (ai (g_tf c43) (ai (g_tf c43) (ai (g_tf c43) (ai (g_tf c43) (ai (g_tf c43) kc43))))))))) (hd := F44_d2) (h := by kernel_rfl)
    · have kc44 := (ai c43 (ai (g_ff c43) (ai (At.one (P := Try.prog) (t := 3) (v := .int .i64 y42) at42 (by kernel_rfl) 0 rfl rfl) (ai (g_ff c43) (ai ix42 (ai (g_ff c43) (ai (g_ff c43) (ai (g_ff c43) (ai (g_ff c43) kc43)))))))))
      refine dec_bif (fun c44 => ?_) (fun c44 => ?_)
      · intro hr
        obtain rfl := Option.some.inj hr
        show AWp Try.prog _ (Ends1 ((F44_x2 h) (0 : Nat)).1 ((F44_x2 h) (0 : Nat)).2) _
        exact pEnd_sound good (L := F44_L) (D := F44_D) (its := [.g, (.b true), .g, .g, .g, .g, .g, (.ix id42 off42 g42), (.ld (.int .i64 y42)), .g, .g, (.w .g), (.w .g), (.w .g), (.w (.ix id42 off42 g42)), (.w (.ld (.int .i64 y42))), (.w .g), (.p false), (.b true), .g]) (ds := F44_m2_0) (ks := [3]) (e := ((F44_x2 h) (0 : Nat)).1) (s2 := ((F44_x2 h) (0 : Nat)).2) (hC := (ai c44 kc44)) (hd := F44_d2) (h := by kernel_rfl)
      · intro hr
        obtain rfl := Option.some.inj hr
        show AWp Try.prog _ (Ends1 .normal (F44_h2 h x7 x8 v9 l10 v10 v11 (IntKind.i64.wrap (a40 + 1)))) _
        exact pEnd_sound good (L := F44_L) (D := F44_D) (its := [.g, (.b true), .g, .g, .g, .g, .g, (.ix id42 off42 g42), (.ld (.int .i64 y42)), .g, .g, (.w .g), (.w .g), (.w .g), (.w (.ix id42 off42 g42)), (.w (.ld (.int .i64 y42))), (.w .g), (.p false), (.b false), .g, .g]) (ds := F44_m2_1) (ks := []) (e := .normal) (s2 := (F44_h2 h x7 x8 v9 l10 v10 v11 (IntKind.i64.wrap (a40 + 1)))) (hC := (ai c44 kc44)) (hd := F44_d2) (h := by kernel_rfl)
  · intro hr
    obtain rfl := Option.some.inj hr
    show AWp Try.prog _ (Ends1 ((F44_x2 h) (1 : Nat)).1 ((F44_x2 h) (1 : Nat)).2) _
    exact pEnd_sound good (L := F44_L) (D := F44_D) (its := [.g, (.b false)]) (ds := F44_m2_2) (ks := [3]) (e := ((F44_x2 h) (1 : Nat)).1) (s2 := ((F44_x2 h) (1 : Nat)).2) (hC := (ai c41 trivial)) (hd := F44_d2) (h := by kernel_rfl)
theorem F44_l2_0 (h : AHeap) (x7 : Int) (x8 : Int) (v9 : Hd) (l10 : List Int) (v10 : Hd) (hv10 : SlE E3 1 h (sv v10) l10) (v11 : Hd) (x : Int) (r : Nat) (hl : loopO (fun (s : Int) => F44_s2 l10 s) x = some r) (q0 : Nat.beq r 0 = true) : AWp Try.prog (.loop (codeOf Try.prog 44 [1, 1, 1, 0, 1, 0, 0])) (Ends1 .ret (F44_x2_0 h r)) ((fun (s : Int) => (F44_h2 h x7 x8 v9 l10 v10 v11 s)) x) := by
  have k := loop_fun (P := Try.prog) (c := (codeOf Try.prog 44 [1, 1, 1, 0, 1, 0, 0])) (step := (fun (s : Int) => F44_s2 l10 s)) (hd := (fun (s : Int) => (F44_h2 h x7 x8 v9 l10 v10 v11 s))) (X := (F44_x2 h)) (by intro t; unfold F44_x2; cases Nat.beq t 0 <;> (intro h; cases h)) (fun x => F44_r2 h x7 x8 v9 l10 v10 hv10 v11 x) hl
  simp only [F44_x2, q0, cond_true, cond_false] at k
  exact k
theorem F44_l2_1 (h : AHeap) (x7 : Int) (x8 : Int) (v9 : Hd) (l10 : List Int) (v10 : Hd) (hv10 : SlE E3 1 h (sv v10) l10) (v11 : Hd) (x : Int) (r : Nat) (hl : loopO (fun (s : Int) => F44_s2 l10 s) x = some r) (q0 : Nat.beq r 0 = false) : AWp Try.prog (.loop (codeOf Try.prog 44 [1, 1, 1, 0, 1, 0, 0])) (Ends1 (.exit 2) (F44_x2_1 h r)) ((fun (s : Int) => (F44_h2 h x7 x8 v9 l10 v10 v11 s)) x) := by
  have k := loop_fun (P := Try.prog) (c := (codeOf Try.prog 44 [1, 1, 1, 0, 1, 0, 0])) (step := (fun (s : Int) => F44_s2 l10 s)) (hd := (fun (s : Int) => (F44_h2 h x7 x8 v9 l10 v10 v11 s))) (X := (F44_x2 h)) (by intro t; unfold F44_x2; cases Nat.beq t 0 <;> (intro h; cases h)) (fun x => F44_r2 h x7 x8 v9 l10 v10 hv10 v11 x) hl
  simp only [F44_x2, q0, cond_true, cond_false] at k
  exact k
def F44 (x1 : Int) (x2 : Int) (x3 : Bool) (l4 : List (Int × Int × Int × Int)) (l5 : List (Int × Int × Int × Int)) (l6 : List (Int × Int)) (x7 : Int) (x8 : Int) (l9 : List Int) (l10 : List Int) (l11 : List Int) : Option (Bool) :=
  (bif ((l9.length : Int) != x1) then
   some (false)
  else
   (bif ((l11.length : Int) != x1) then
    some (false)
   else
    (bif ((l10.length : Int) != x2) then
     some (false)
    else
     (bif decide (x7 < 0) then
      some (false)
     else
      (bif decide (x7 > 256) then
       some (false)
      else
       (bif (!(decide (x7 > 0) == x3)) then
        some (false)
       else
        (bif decide (x8 < 1) then
         some (false)
        else
         (bif decide (x8 > 4096) then
          some (false)
         else
          (Option.bind (loopO (fun (s : Int) => F44_s1 l5 l6 l9 l11 s) 0) fun y38 =>
          (bif (Nat.beq y38 0) then
           some (false)
          else
           (Option.bind (loopO (fun (s : Int) => F44_s2 l10 s) 0) fun y45 =>
           (bif (Nat.beq y45 0) then
            some (false)
           else
            some (true)))))))))))))
set_option maxRecDepth 100000 in
theorem F44_spec (x1 : Int) (x2 : Int) (x3 : Bool) (l4 : List (Int × Int × Int × Int)) (l5 : List (Int × Int × Int × Int)) (l6 : List (Int × Int)) (x7 : Int) (x8 : Int) (l9 : List Int) (l10 : List Int) (l11 : List Int) (v4 : Hd) (v5 : Hd) (v6 : Hd) (v9 : Hd) (v10 : Hd) (v11 : Hd) (h : AHeap) (hv4 : SlE E57 4 h (sv v4) l4) (hv5 : SlE E59 4 h (sv v5) l5) (hv6 : SlE E61 2 h (sv v6) l6) (hv9 : SlE E3 1 h (sv v9) l9) (hv10 : SlE E3 1 h (sv v10) l10) (hv11 : SlE E3 1 h (sv v11) l11) (r : Bool) : F44 x1 x2 x3 l4 l5 l6 x7 x8 l9 l10 l11 = some r → ACalls Try.prog 44 [.agg #[.int .i64 x1, .int .i64 x2, .bool x3, (sv v4), (sv v5), (sv v6)], .agg #[.int .i64 x7, .int .i64 x8, (sv v9), (sv v10), (sv v11)]] h (fun v' h'' => v' = (.bool r : Value) ∧ h'' = h) := by
  unfold F44
  have kc12 := (ai (SlE.len hv9) trivial)
  refine dec_bif (fun c12 => ?_) (fun c12 => ?_)
  · intro hr
    obtain rfl := Option.some.inj hr
    exact pFun_sound good tab_ok (f := 44) (its := [.g, .g, .g, .g, .g, (.ln l9.length), .g, .g, .g, .g, .n, .n, .n, .n, .n, .n, (.p true), .g, .n, .n, .n, .n, .n, .n, .g, .g, .n, .n, .n, .g, .g, .n, .n, .n, .g, .g, .n, .n, .n, .n, .n, .n, .g, .g, .n, .n, .n, .g, .g, .n, .n, .n, .g, (.b true), .g]) (args := [.agg #[.int .i64 x1, .int .i64 x2, .bool x3, (sv v4), (sv v5), (sv v6)], .agg #[.int .i64 x7, .int .i64 x8, (sv v9), (sv v10), (sv v11)]]) (h := h) (h' := h) (v := .bool false) (hC := (ai l_t (ai (g_tf l_t) (ai (g_tf l_t) (ai (g_tf l_t) (ai (g_tf l_t) (ai (g_tf l_t) (ai (g_tf l_t) (ai (g_tf l_t) (ai (g_tf l_t) (ai (g_tf l_t) (ai (g_tf l_t) (ai (g_tf l_t) (ai (g_tf l_t) (ai (g_tf l_t) (ai (g_tf l_t) (ai (g_tf l_t) (ai (g_tf l_t) (ai (g_tf l_t) (ai (g_tf l_t) (ai (g_tf l_t) (ai (g_tf l_t) (ai (g_tf l_t) (ai (g_tf l_t) (ai (g_tf l_t) (ai (g_tf l_t) (ai c12 (ai (g_tf c12) (ai (g_tf c12) (ai (g_tf c12) (ai (g_tf c12) (ai (g_tf c12) (ai (g_tf c12) kc12))))))))))))))))))))))))))))))))) (hr := by kernel_rfl)
  · have kc13 := (ai c12 (ai (g_ff c12) (ai (g_ff c12) (ai (g_ff c12) (ai (SlE.len hv11) (ai (g_ff c12) (ai (g_ff c12) (ai (g_ff c12) kc12))))))))
    refine dec_bif (fun c13 => ?_) (fun c13 => ?_)
    · intro hr
      obtain rfl := Option.some.inj hr
      exact pFun_sound good tab_ok (f := 44) (its := [.g, .g, .g, .g, .g, (.ln l9.length), .g, .g, .g, .g, (.w .g), (.w .g), (.w (.ln l11.length)), (.w .g), (.w .g), (.w .g), (.p false), .g, .n, .n, .n, .n, .n, .n, (.p true), .g, .n, .n, .n, .g, .g, .n, .n, .n, .g, .g, .n, .n, .n, .n, .n, .n, .g, .g, .n, .n, .n, .g, .g, .n, .n, .n, .g, (.b true), .g]) (args := [.agg #[.int .i64 x1, .int .i64 x2, .bool x3, (sv v4), (sv v5), (sv v6)], .agg #[.int .i64 x7, .int .i64 x8, (sv v9), (sv v10), (sv v11)]]) (h := h) (h' := h) (v := .bool false) (hC := (ai l_t (ai (g_tf l_t) (ai (g_tf l_t) (ai (g_tf l_t) (ai (g_tf l_t) (ai (g_tf l_t) (ai (g_tf l_t) (ai (g_tf l_t) (ai (g_tf l_t) (ai (g_tf l_t) (ai (g_tf l_t) (ai (g_tf l_t) (ai (g_tf l_t) (ai (g_tf l_t) (ai (g_tf l_t) (ai (g_tf l_t) (ai (g_tf l_t) (ai (g_tf l_t) (ai (g_tf l_t) (ai c13 (ai (g_tf c13) (ai (g_tf c13) (ai (g_tf c13) (ai (g_tf c13) (ai (g_tf c13) (ai (g_tf c13) kc13))))))))))))))))))))))))))) (hr := by kernel_rfl)
    · have kc14 := (ai c13 (ai (g_ff c13) (ai (g_ff c13) (ai (g_ff c13) (ai (SlE.len hv10) (ai (g_ff c13) (ai (g_ff c13) (ai (g_ff c13) kc13))))))))
      refine dec_bif (fun c14 => ?_) (fun c14 => ?_)
      · intro hr
        obtain rfl := Option.some.inj hr
        exact pFun_sound good tab_ok (f := 44) (its := [.g, .g, .g, .g, .g, (.ln l9.length), .g, .g, .g, .g, (.w .g), (.w .g), (.w (.ln l11.length)), (.w .g), (.w .g), (.w .g), (.p false), .g, (.w .g), (.w .g), (.w (.ln l10.length)), (.w .g), (.w .g), (.w .g), (.p false), .g, .n, .n, .n, (.p true), .g, .n, .n, .n, .g, .g, .n, .n, .n, .n, .n, .n, .g, .g, .n, .n, .n, .g, .g, .n, .n, .n, .g, (.b true), .g]) (args := [.agg #[.int .i64 x1, .int .i64 x2, .bool x3, (sv v4), (sv v5), (sv v6)], .agg #[.int .i64 x7, .int .i64 x8, (sv v9), (sv v10), (sv v11)]]) (h := h) (h' := h) (v := .bool false) (hC := (ai l_t (ai (g_tf l_t) (ai (g_tf l_t) (ai (g_tf l_t) (ai (g_tf l_t) (ai (g_tf l_t) (ai (g_tf l_t) (ai (g_tf l_t) (ai (g_tf l_t) (ai (g_tf l_t) (ai (g_tf l_t) (ai (g_tf l_t) (ai (g_tf l_t) (ai (g_tf l_t) (ai (g_tf l_t) (ai (g_tf l_t) (ai c14 (ai (g_tf c14) (ai (g_tf c14) (ai (g_tf c14) kc14))))))))))))))))))))) (hr := by kernel_rfl)
      · have kc15 := (ai c14 (ai (g_ff c14) (ai (g_ff c14) (ai (g_ff c14) kc14))))
        refine dec_bif (fun c15 => ?_) (fun c15 => ?_)
        · intro hr
          obtain rfl := Option.some.inj hr
          exact pFun_sound good tab_ok (f := 44) (its := [.g, .g, .g, .g, .g, (.ln l9.length), .g, .g, .g, .g, (.w .g), (.w .g), (.w (.ln l11.length)), (.w .g), (.w .g), (.w .g), (.p false), .g, (.w .g), (.w .g), (.w (.ln l10.length)), (.w .g), (.w .g), (.w .g), (.p false), .g, (.w .g), (.w .g), (.w .g), (.p false), .g, .n, .n, .n, (.p true), .g, .n, .n, .n, .n, .n, .n, .g, .g, .n, .n, .n, .g, .g, .n, .n, .n, .g, (.b true), .g]) (args := [.agg #[.int .i64 x1, .int .i64 x2, .bool x3, (sv v4), (sv v5), (sv v6)], .agg #[.int .i64 x7, .int .i64 x8, (sv v9), (sv v10), (sv v11)]]) (h := h) (h' := h) (v := .bool false) (hC := (ai l_t (ai (g_tf l_t) (ai (g_tf l_t) (ai (g_tf l_t) (ai (g_tf l_t) (ai (g_tf l_t) (ai (g_tf l_t) (ai (g_tf l_t) (ai (g_tf l_t) (ai (g_tf l_t) (ai (g_tf l_t) (ai (g_tf l_t) (ai (g_tf l_t) (ai c15 (ai (g_tf c15) (ai (g_tf c15) (ai (g_tf c15) kc15)))))))))))))))))) (hr := by kernel_rfl)
        · have kc16 := (ai c15 (ai (g_ff c15) (ai (g_ff c15) (ai (g_ff c15) kc15))))
          refine dec_bif (fun c16 => ?_) (fun c16 => ?_)
          · intro hr
            obtain rfl := Option.some.inj hr
            exact pFun_sound good tab_ok (f := 44) (its := [.g, .g, .g, .g, .g, (.ln l9.length), .g, .g, .g, .g, (.w .g), (.w .g), (.w (.ln l11.length)), (.w .g), (.w .g), (.w .g), (.p false), .g, (.w .g), (.w .g), (.w (.ln l10.length)), (.w .g), (.w .g), (.w .g), (.p false), .g, (.w .g), (.w .g), (.w .g), (.p false), .g, (.w .g), (.w .g), (.w .g), (.p false), .g, .n, .n, .n, .n, .n, .n, (.p true), .g, .n, .n, .n, .g, .g, .n, .n, .n, .g, (.b true), .g]) (args := [.agg #[.int .i64 x1, .int .i64 x2, .bool x3, (sv v4), (sv v5), (sv v6)], .agg #[.int .i64 x7, .int .i64 x8, (sv v9), (sv v10), (sv v11)]]) (h := h) (h' := h) (v := .bool false) (hC := (ai l_t (ai (g_tf l_t) (ai (g_tf l_t) (ai (g_tf l_t) (ai (g_tf l_t) (ai (g_tf l_t) (ai (g_tf l_t) (ai c16 (ai (g_tf c16) (ai (g_tf c16) (ai (g_tf c16) (ai (g_tf c16) (ai (g_tf c16) (ai (g_tf c16) kc16))))))))))))))) (hr := by kernel_rfl)
          · have kc17 := (ai c16 (ai (g_ff c16) (ai (g_ff c16) (ai (g_ff c16) (ai (g_ff c16) (ai (g_ff c16) (ai (g_ff c16) kc16)))))))
            refine dec_bif (fun c17 => ?_) (fun c17 => ?_)
            · intro hr
              obtain rfl := Option.some.inj hr
              exact pFun_sound good tab_ok (f := 44) (its := [.g, .g, .g, .g, .g, (.ln l9.length), .g, .g, .g, .g, (.w .g), (.w .g), (.w (.ln l11.length)), (.w .g), (.w .g), (.w .g), (.p false), .g, (.w .g), (.w .g), (.w (.ln l10.length)), (.w .g), (.w .g), (.w .g), (.p false), .g, (.w .g), (.w .g), (.w .g), (.p false), .g, (.w .g), (.w .g), (.w .g), (.p false), .g, (.w .g), (.w .g), (.w .g), (.w .g), (.w .g), (.w .g), (.p false), .g, .n, .n, .n, (.p true), .g, .n, .n, .n, .g, (.b true), .g]) (args := [.agg #[.int .i64 x1, .int .i64 x2, .bool x3, (sv v4), (sv v5), (sv v6)], .agg #[.int .i64 x7, .int .i64 x8, (sv v9), (sv v10), (sv v11)]]) (h := h) (h' := h) (v := .bool false) (hC := (ai l_t (ai (g_tf l_t) (ai (g_tf l_t) (ai (g_tf l_t) (ai c17 (ai (g_tf c17) (ai (g_tf c17) (ai (g_tf c17) kc17))))))))) (hr := by kernel_rfl)
            · have kc18 := (ai c17 (ai (g_ff c17) (ai (g_ff c17) (ai (g_ff c17) kc17))))
              refine dec_bif (fun c18 => ?_) (fun c18 => ?_)
              · intro hr
                obtain rfl := Option.some.inj hr
                exact pFun_sound good tab_ok (f := 44) (its := [.g, .g, .g, .g, .g, (.ln l9.length), .g, .g, .g, .g, (.w .g), (.w .g), (.w (.ln l11.length)), (.w .g), (.w .g), (.w .g), (.p false), .g, (.w .g), (.w .g), (.w (.ln l10.length)), (.w .g), (.w .g), (.w .g), (.p false), .g, (.w .g), (.w .g), (.w .g), (.p false), .g, (.w .g), (.w .g), (.w .g), (.p false), .g, (.w .g), (.w .g), (.w .g), (.w .g), (.w .g), (.w .g), (.p false), .g, (.w .g), (.w .g), (.w .g), (.p false), .g, .n, .n, .n, (.p true), (.b true), .g]) (args := [.agg #[.int .i64 x1, .int .i64 x2, .bool x3, (sv v4), (sv v5), (sv v6)], .agg #[.int .i64 x7, .int .i64 x8, (sv v9), (sv v10), (sv v11)]]) (h := h) (h' := h) (v := .bool false) (hC := (ai l_t (ai c18 (ai (g_tf c18) (ai (g_tf c18) (ai (g_tf c18) kc18)))))) (hr := by kernel_rfl)
              · have kc19 := (ai c18 (ai (g_ff c18) (ai (g_ff c18) (ai (g_ff c18) kc18))))
                refine dec_bif (fun c19 => ?_) (fun c19 => ?_)
                · intro hr
                  obtain rfl := Option.some.inj hr
                  exact pFun_sound good tab_ok (f := 44) (its := [.g, .g, .g, .g, .g, (.ln l9.length), .g, .g, .g, .g, (.w .g), (.w .g), (.w (.ln l11.length)), (.w .g), (.w .g), (.w .g), (.p false), .g, (.w .g), (.w .g), (.w (.ln l10.length)), (.w .g), (.w .g), (.w .g), (.p false), .g, (.w .g), (.w .g), (.w .g), (.p false), .g, (.w .g), (.w .g), (.w .g), (.p false), .g, (.w .g), (.w .g), (.w .g), (.w .g), (.w .g), (.w .g), (.p false), .g, (.w .g), (.w .g), (.w .g), (.p false), .g, (.w .g), (.w .g), (.w .g), (.p false), (.b true), .g]) (args := [.agg #[.int .i64 x1, .int .i64 x2, .bool x3, (sv v4), (sv v5), (sv v6)], .agg #[.int .i64 x7, .int .i64 x8, (sv v9), (sv v10), (sv v11)]]) (h := h) (h' := h) (v := .bool false) (hC := (ai c19 kc19)) (hr := by kernel_rfl)
                · refine bind_opt fun y38 e38 => ?_
                  have kc39 := (ai (SlE.len hv9) (ai c19 kc19))
                  refine dec_bif (fun c39 => ?_) (fun c39 => ?_)
                  · intro hr
                    obtain rfl := Option.some.inj hr
                    exact pFun_sound good tab_ok (f := 44) (its := [.g, .g, .g, .g, .g, (.ln l9.length), .g, .g, .g, .g, (.w .g), (.w .g), (.w (.ln l11.length)), (.w .g), (.w .g), (.w .g), (.p false), .g, (.w .g), (.w .g), (.w (.ln l10.length)), (.w .g), (.w .g), (.w .g), (.p false), .g, (.w .g), (.w .g), (.w .g), (.p false), .g, (.w .g), (.w .g), (.w .g), (.p false), .g, (.w .g), (.w .g), (.w .g), (.w .g), (.w .g), (.w .g), (.p false), .g, (.w .g), (.w .g), (.w .g), (.p false), .g, (.w .g), (.w .g), (.w .g), (.p false), (.b false), .g, .g, (.ln l9.length), .g, (.l F44_m1_1 [] .ret (F44_x1_0 h x7 x8 v9 v10 v11 y38))]) (args := [.agg #[.int .i64 x1, .int .i64 x2, .bool x3, (sv v4), (sv v5), (sv v6)], .agg #[.int .i64 x7, .int .i64 x8, (sv v9), (sv v10), (sv v11)]]) (h := h) (h' := h) (v := .bool false) (hC := (ai (F44_l1_0 h x1 x2 x3 v4 l5 v5 hv5 l6 v6 hv6 x7 x8 l9 v9 hv9 v10 l11 v11 hv11 0 y38 e38 c39) kc39)) (hr := by kernel_rfl)
                  · refine bind_opt fun y45 e45 => ?_
                    have kc46 := (ai (SlE.len hv10) (ai (F44_l1_1 h x1 x2 x3 v4 l5 v5 hv5 l6 v6 hv6 x7 x8 l9 v9 hv9 v10 l11 v11 hv11 0 y38 e38 c39) kc39))
                    refine dec_bif (fun c46 => ?_) (fun c46 => ?_)
                    · intro hr
                      obtain rfl := Option.some.inj hr
                      exact pFun_sound good tab_ok (f := 44) (its := [.g, .g, .g, .g, .g, (.ln l9.length), .g, .g, .g, .g, (.w .g), (.w .g), (.w (.ln l11.length)), (.w .g), (.w .g), (.w .g), (.p false), .g, (.w .g), (.w .g), (.w (.ln l10.length)), (.w .g), (.w .g), (.w .g), (.p false), .g, (.w .g), (.w .g), (.w .g), (.p false), .g, (.w .g), (.w .g), (.w .g), (.p false), .g, (.w .g), (.w .g), (.w .g), (.w .g), (.w .g), (.w .g), (.p false), .g, (.w .g), (.w .g), (.w .g), (.p false), .g, (.w .g), (.w .g), (.w .g), (.p false), (.b false), .g, .g, (.ln l9.length), .g, (.l F44_m1_1 [] (.exit 0) (F44_x1_1 h x7 x8 v9 v10 v11 y38)), .g, .g, (.ln l10.length), .g, (.l F44_m2_1 [] .ret (F44_x2_0 h y45))]) (args := [.agg #[.int .i64 x1, .int .i64 x2, .bool x3, (sv v4), (sv v5), (sv v6)], .agg #[.int .i64 x7, .int .i64 x8, (sv v9), (sv v10), (sv v11)]]) (h := h) (h' := h) (v := .bool false) (hC := (ai (F44_l2_0 h x7 x8 v9 l10 v10 hv10 v11 0 y45 e45 c46) kc46)) (hr := by kernel_rfl)
                    · intro hr
                      obtain rfl := Option.some.inj hr
                      exact pFun_sound good tab_ok (f := 44) (its := [.g, .g, .g, .g, .g, (.ln l9.length), .g, .g, .g, .g, (.w .g), (.w .g), (.w (.ln l11.length)), (.w .g), (.w .g), (.w .g), (.p false), .g, (.w .g), (.w .g), (.w (.ln l10.length)), (.w .g), (.w .g), (.w .g), (.p false), .g, (.w .g), (.w .g), (.w .g), (.p false), .g, (.w .g), (.w .g), (.w .g), (.p false), .g, (.w .g), (.w .g), (.w .g), (.w .g), (.w .g), (.w .g), (.p false), .g, (.w .g), (.w .g), (.w .g), (.p false), .g, (.w .g), (.w .g), (.w .g), (.p false), (.b false), .g, .g, (.ln l9.length), .g, (.l F44_m1_1 [] (.exit 0) (F44_x1_1 h x7 x8 v9 v10 v11 y38)), .g, .g, (.ln l10.length), .g, (.l F44_m2_1 [] (.exit 2) (F44_x2_1 h y45)), .g]) (args := [.agg #[.int .i64 x1, .int .i64 x2, .bool x3, (sv v4), (sv v5), (sv v6)], .agg #[.int .i64 x7, .int .i64 x8, (sv v9), (sv v10), (sv v11)]]) (h := h) (h' := h) (v := .bool true) (hC := (ai (F44_l2_1 h x7 x8 v9 l10 v10 hv10 v11 0 y45 e45 c46) kc46)) (hr := by kernel_rfl)
/-! 30 jacquard/jacquardref28.Time -/
def F30 (x1 : Int) (x2 : Int) (x3 : Bool) (l4 : List (Int × Int × Int × Int)) (l5 : List (Int × Int × Int × Int)) (l6 : List (Int × Int)) (x7 : Int) (x8 : Int) (l9 : List Int) (l10 : List Int) (l11 : List Int) (x12 : Int) : Option (Int) :=
  (bif decide (x12 < x1) then
   (Option.bind (at? l9 x12) fun y14 =>
   some (y14))
  else
   (bif decide (x12 < (F28 x1 x2 x3 l4 l5 l6)) then
    (Option.bind (at? l10 (IntKind.i64.wrap (x12 - x1))) fun y17 =>
    some (y17))
   else
    (bif (x12 == (F28 x1 x2 x3 l4 l5 l6)) then
     some (0)
    else
     some (x8))))
set_option maxRecDepth 100000 in
theorem F30_spec (x1 : Int) (x2 : Int) (x3 : Bool) (l4 : List (Int × Int × Int × Int)) (l5 : List (Int × Int × Int × Int)) (l6 : List (Int × Int)) (x7 : Int) (x8 : Int) (l9 : List Int) (l10 : List Int) (l11 : List Int) (x12 : Int) (v4 : Hd) (v5 : Hd) (v6 : Hd) (v9 : Hd) (v10 : Hd) (v11 : Hd) (h : AHeap) (hv4 : SlE E57 4 h (sv v4) l4) (hv5 : SlE E59 4 h (sv v5) l5) (hv6 : SlE E61 2 h (sv v6) l6) (hv9 : SlE E3 1 h (sv v9) l9) (hv10 : SlE E3 1 h (sv v10) l10) (hv11 : SlE E3 1 h (sv v11) l11) (r : Int) : F30 x1 x2 x3 l4 l5 l6 x7 x8 l9 l10 l11 x12 = some r → ACalls Try.prog 30 [.agg #[.int .i64 x1, .int .i64 x2, .bool x3, (sv v4), (sv v5), (sv v6)], .agg #[.int .i64 x7, .int .i64 x8, (sv v9), (sv v10), (sv v11)], .int .i64 x12] h (fun v' h'' => v' = (.int .i64 r : Value) ∧ h'' = h) := by
  unfold F30
  refine dec_bif (fun c13 => ?_) (fun c13 => ?_)
  · refine bind_opt fun y14 e14 => ?_
    obtain ⟨id14, off14, g14, cs14, ix14, at14, rfl⟩ := SlE.at hv9 e14
    intro hr
    obtain rfl := Option.some.inj hr
    exact pFun_sound good tab_ok (f := 30) (its := [.g, .g, .g, .g, .g, .g, .g, .g, (.b true), .g, .g, .g, (.ix id14 off14 g14), (.ld (.int .i64 y14)), .g]) (args := [.agg #[.int .i64 x1, .int .i64 x2, .bool x3, (sv v4), (sv v5), (sv v6)], .agg #[.int .i64 x7, .int .i64 x8, (sv v9), (sv v10), (sv v11)], .int .i64 x12]) (h := h) (h' := h) (v := .int .i64 y14) (hC := (ai (At.one (P := Try.prog) (t := 3) (v := .int .i64 y14) at14 (by kernel_rfl) 0 rfl rfl) (ai ix14 (ai c13 trivial)))) (hr := by kernel_rfl)
  · have kc16 := (ai (F28_spec x1 x2 x3 l4 l5 l6 v4 v5 v6 h hv4 hv5 hv6 _ rfl) (ai c13 trivial))
    refine dec_bif (fun c16 => ?_) (fun c16 => ?_)
    · refine bind_opt fun y17 e17 => ?_
      obtain ⟨id17, off17, g17, cs17, ix17, at17, rfl⟩ := SlE.at hv10 e17
      intro hr
      obtain rfl := Option.some.inj hr
      exact pFun_sound good tab_ok (f := 30) (its := [.g, .g, .g, .g, .g, .g, .g, .g, (.b false), .g, .g, (.c (.int .i64 (F28 x1 x2 x3 l4 l5 l6)) h), .g, .g, (.b true), .g, .g, .g, .g, .g, .g, (.ix id17 off17 g17), (.ld (.int .i64 y17)), .g]) (args := [.agg #[.int .i64 x1, .int .i64 x2, .bool x3, (sv v4), (sv v5), (sv v6)], .agg #[.int .i64 x7, .int .i64 x8, (sv v9), (sv v10), (sv v11)], .int .i64 x12]) (h := h) (h' := h) (v := .int .i64 y17) (hC := (ai (At.one (P := Try.prog) (t := 3) (v := .int .i64 y17) at17 (by kernel_rfl) 0 rfl rfl) (ai ix17 (ai c16 kc16)))) (hr := by kernel_rfl)
    · have kc19 := (ai (F28_spec x1 x2 x3 l4 l5 l6 v4 v5 v6 h hv4 hv5 hv6 _ rfl) (ai c16 kc16))
      refine dec_bif (fun c19 => ?_) (fun c19 => ?_)
      · intro hr
        obtain rfl := Option.some.inj hr
        exact pFun_sound good tab_ok (f := 30) (its := [.g, .g, .g, .g, .g, .g, .g, .g, (.b false), .g, .g, (.c (.int .i64 (F28 x1 x2 x3 l4 l5 l6)) h), .g, .g, (.b false), .g, .g, (.c (.int .i64 (F28 x1 x2 x3 l4 l5 l6)) h), .g, .g, (.b true), .g]) (args := [.agg #[.int .i64 x1, .int .i64 x2, .bool x3, (sv v4), (sv v5), (sv v6)], .agg #[.int .i64 x7, .int .i64 x8, (sv v9), (sv v10), (sv v11)], .int .i64 x12]) (h := h) (h' := h) (v := .int .i64 0) (hC := (ai c19 kc19)) (hr := by kernel_rfl)
      · intro hr
        obtain rfl := Option.some.inj hr
        exact pFun_sound good tab_ok (f := 30) (its := [.g, .g, .g, .g, .g, .g, .g, .g, (.b false), .g, .g, (.c (.int .i64 (F28 x1 x2 x3 l4 l5 l6)) h), .g, .g, (.b false), .g, .g, (.c (.int .i64 (F28 x1 x2 x3 l4 l5 l6)) h), .g, .g, (.b false), .g, .g, .g]) (args := [.agg #[.int .i64 x1, .int .i64 x2, .bool x3, (sv v4), (sv v5), (sv v6)], .agg #[.int .i64 x7, .int .i64 x8, (sv v9), (sv v10), (sv v11)], .int .i64 x12]) (h := h) (h' := h) (v := .int .i64 x8) (hC := (ai c19 kc19)) (hr := by kernel_rfl)
/-! 60 jacquard/jacquardref28.Weight -/
def F60 (x1 : Int) (x2 : Int) (x3 : Int) (x4 : Int) (x5 : Int) : Int :=
  (IntKind.i64.wrap (x3 - (IntKind.i64.wrap (x5 * x4))))
set_option maxRecDepth 100000 in
theorem F60_spec (x1 : Int) (x2 : Int) (x3 : Int) (x4 : Int) (x5 : Int) (h : AHeap)  (r : Int) : F60 x1 x2 x3 x4 x5 = r → ACalls Try.prog 60 [.agg #[.int .i64 x1, .int .i64 x2, .int .i64 x3, .int .i64 x4], .int .i64 x5] h (fun v' h'' => v' = (.int .i64 r : Value) ∧ h'' = h) := by
  unfold F60
  intro hr
  subst hr
  exact pFun_sound good tab_ok (f := 60) (its := [.g, .g, .g, .g, .g, .g, .g, .g, .g, .g]) (args := [.agg #[.int .i64 x1, .int .i64 x2, .int .i64 x3, .int .i64 x4], .int .i64 x5]) (h := h) (h' := h) (v := .int .i64 (IntKind.i64.wrap (x3 - (IntKind.i64.wrap (x5 * x4))))) (hC := trivial) (hr := by kernel_rfl)
/-! 45 jacquard/jacquardref28.Late -/
def F45_L : List Nat := [2, 3, 7]
def F45_D : List (Nat × List (Nat × Nat)) := [(6, [(0, 2), (1, 2), (2, 2), (3, 2), (7, 2), (12, 2), (5, 3), (6, 3), (8, 3), (11, 3), (13, 3), (4, 1), (9, 1), (10, 2), (14, 1), (15, 2)])]
def F45_m1_1 : List Bool := (rp 5 true (false :: (rp 35 true [])))
def F45_m1_0 : List Bool := (true :: true :: false :: false :: true :: false :: (rp 4 true (false :: false :: (rp 29 true []))))
def F45_s1 (x1 : Int) (x2 : Int) (x3 : Bool) (l4 : List (Int × Int × Int × Int)) (l5 : List (Int × Int × Int × Int)) (l6 : List (Int × Int)) (x7 : Int) (x8 : Int) (l9 : List Int) (l10 : List Int) (l11 : List Int) (a14 : Int) (l15 : List Int) : Option ((Int × (List Int)) ⊕ (List Int)) :=
  (bif decide (a14 < (l4.length : Int)) then
   (Option.bind (at? l4 a14) fun y18 =>
   (Option.bind (F30 x1 x2 x3 l4 l5 l6 x7 x8 l9 l10 l11 y18.2.1) fun y19 =>
   (Option.bind (F30 x1 x2 x3 l4 l5 l6 x7 x8 l9 l10 l11 y18.1) fun y21 =>
   (bif decide ((IntKind.i64.wrap (y19 - y21)) < (F60 y18.1 y18.2.1 y18.2.2.1 y18.2.2.2 x7)) then
    (bif (!(okApp (l15.length + ([a14] : List Int).length) 8)) then none else
    some (.inl ((IntKind.i64.wrap (a14 + 1)), (l15 ++ ([a14] : List Int)))))
   else
    some (.inl ((IntKind.i64.wrap (a14 + 1)), l15))))))
  else
   some (.inr l15))
def F45_h1 (x1 : Int) (x2 : Int) (x3 : Bool) (l4 : List (Int × Int × Int × Int)) (v4 : Hd) (v5 : Hd) (v6 : Hd) (x7 : Int) (x8 : Int) (v9 : Hd) (v10 : Hd) (v11 : Hd) (h16 : AHeap) (u15 : Hd) (a14 : Int) (l15 : List Int) : AS := ⟨(junk :: junk :: (.pointer (some ⟨2, 0, none⟩)) :: (.pointer (some ⟨3, 0, none⟩)) :: junk :: (sv u15) :: (rp 4 junk ((.int .i64 (l4.length : Int)) :: (.int .i64 a14) :: (rp 29 junk [])))), [(2, [.int .i64 x1, .int .i64 x2, .bool x3, (sv v4), (sv v5), (sv v6)]), (3, [.int .i64 x7, .int .i64 x8, (sv v9), (sv v10), (sv v11)])], h16⟩
theorem F45_d1 : drawsOk F45_D (codeOf Try.prog 45 [1, 1, 0, 1, 0, 0]) = true := by kernel_rfl
def F45_x1_0 (h : AHeap) (hx : AHeap) (w0 : Hd) (r : (List Int)) : AS := ⟨(rp 5 junk ((sv w0) :: (rp 35 junk []))), [], hx⟩
def F45_i1 (h : AHeap) (x1 : Int) (x2 : Int) (x3 : Bool) (l4 : List (Int × Int × Int × Int)) (v4 : Hd) (v5 : Hd) (v6 : Hd) (x7 : Int) (x8 : Int) (v9 : Hd) (v10 : Hd) (v11 : Hd) (s : Int × (List Int)) (S : AS) : Prop := ∃ (h16 : AHeap) (u15 : Hd), Heapy h h16 [⟨u15, 3, 1, List.flatMap enc3 s.2⟩] ∧ Strict u15 ∧ S = (F45_h1 x1 x2 x3 l4 v4 v5 v6 x7 x8 v9 v10 v11 h16 u15 s.1 s.2)
def F45_x1 (h : AHeap) (r : (List Int)) (e : Exit) (S : AS) : Prop := e = (.exit 0) ∧ ∃ (hx : AHeap) (w0 : Hd), Heapy h hx [⟨w0, 3, 1, List.flatMap enc3 r⟩] ∧ Strict w0 ∧ S = (F45_x1_0 h hx w0 r)
set_option maxRecDepth 100000 in
theorem F45_r1 (h : AHeap) (x1 : Int) (x2 : Int) (x3 : Bool) (l4 : List (Int × Int × Int × Int)) (v4 : Hd) (hv4 : SlE E57 4 h (sv v4) l4) (l5 : List (Int × Int × Int × Int)) (v5 : Hd) (hv5 : SlE E59 4 h (sv v5) l5) (l6 : List (Int × Int)) (v6 : Hd) (hv6 : SlE E61 2 h (sv v6) l6) (x7 : Int) (x8 : Int) (l9 : List Int) (v9 : Hd) (hv9 : SlE E3 1 h (sv v9) l9) (l10 : List Int) (v10 : Hd) (hv10 : SlE E3 1 h (sv v10) l10) (l11 : List Int) (v11 : Hd) (hv11 : SlE E3 1 h (sv v11) l11) (a14 : Int) (l15 : List Int) (S : AS) (hI : (F45_i1 h x1 x2 x3 l4 v4 v5 v6 x7 x8 v9 v10 v11) (a14, l15) S) (o : (Int × (List Int)) ⊕ (List Int)) : F45_s1 x1 x2 x3 l4 l5 l6 x7 x8 l9 l10 l11 a14 l15 = some o → Rd Try.prog (codeOf Try.prog 45 [1, 1, 0, 1, 0, 0]) (F45_i1 h x1 x2 x3 l4 v4 v5 v6 x7 x8 v9 v10 v11) (F45_x1 h) S o := by
  obtain ⟨h16, u15, hp16, z15, rfl⟩ := hI
  unfold F45_s1
  refine dec_bif (fun c17 => ?_) (fun c17 => ?_)
  · refine bind_opt fun y18 e18 => ?_
    obtain ⟨id18, off18, g18, cs18, ix18, at18, rfl⟩ := SlE.at hv4 e18
    refine bind_opt fun y19 e19 => ?_
    refine bind_opt fun y21 e21 => ?_
    have kc24 := (ai (show AKeep h16 h16 from (AHeap.sub_refl h16)) (ai (F60_spec y18.1 y18.2.1 y18.2.2.1 y18.2.2.2 x7 h16 _ rfl) (ai (show AKeep h16 h16 from (AHeap.sub_refl h16)) (ai (F30_spec x1 x2 x3 l4 l5 l6 x7 x8 l9 l10 l11 y18.1 v4 v5 v6 v9 v10 v11 h16 (SlE.mono hv4 (Heapy.sub hp16) (E57_mono (Heapy.sub hp16))) (SlE.mono hv5 (Heapy.sub hp16) (E59_mono (Heapy.sub hp16))) (SlE.mono hv6 (Heapy.sub hp16) (E61_mono (Heapy.sub hp16))) (SlE.mono hv9 (Heapy.sub hp16) (E3_mono (Heapy.sub hp16))) (SlE.mono hv10 (Heapy.sub hp16) (E3_mono (Heapy.sub hp16))) (SlE.mono hv11 (Heapy.sub hp16) (E3_mono (Heapy.sub hp16))) _ e21) (ai (show AKeep h16 h16 from (AHeap.sub_refl h16)) (ai (F30_spec x1 x2 x3 l4 l5 l6 x7 x8 l9 l10 l11 y18.2.1 v4 v5 v6 v9 v10 v11 h16 (SlE.mono hv4 (Heapy.sub hp16) (E57_mono (Heapy.sub hp16))) (SlE.mono hv5 (Heapy.sub hp16) (E59_mono (Heapy.sub hp16))) (SlE.mono hv6 (Heapy.sub hp16) (E61_mono (Heapy.sub hp16))) (SlE.mono hv9 (Heapy.sub hp16) (E3_mono (Heapy.sub hp16))) (SlE.mono hv10 (Heapy.sub hp16) (E3_mono (Heapy.sub hp16))) (SlE.mono hv11 (Heapy.sub hp16) (E3_mono (Heapy.sub hp16))) _ e19) (ai (At.agg (P := Try.prog) (t := 57) (v := .agg #[.int .i64 y18.1, .int .i64 y18.2.1, .int .i64 y18.2.2.1, .int .i64 y18.2.2.2]) (m := 4) (At.mono (Heapy.sub hp16) at18) (by kernel_rfl) (by kernel_rfl) 0 (by kernel_rfl) rfl) (ai ix18 (ai c17 trivial)))))))))
    refine dec_bif (fun c24 => ?_) (fun c24 => ?_)
    · obtain ⟨v25, h25, m25, hp25, _⟩ := Heapy.build (P := Try.prog) hp16 (t := 29) (e := 3) (len := 1) (n := 1) (parts := [(0, .int .i64 a14)]) (cells := List.flatMap enc3 ([a14] : List Int)) (by kernel_rfl) rfl
      refine guard_ok fun g27 => ?_
      obtain ⟨v28, h28, m28, q28, _, w28⟩ := Heapy.append hp25 (show mkInfo Try.prog 29 = some (3, 1, 8, [.int .i64 0]) by kernel_rfl) 1 (v := u15) (cells := List.flatMap enc3 l15) rfl (Y := (sv v25)) (SlE.src (enc := enc3) (c := 1) (Heapy.sle (v := v25) (xs := ([a14] : List Int)) (enc := enc3) hp25 0 rfl (fun _ => rfl) (by decide)) (fun _ => rfl)) (flatMap_length (enc := enc3) (c := 1) (fun _ => rfl) _) (by rw [Heapy.vn (v := u15) (xs := l15) (enc := enc3) hp25 1 rfl (fun _ => rfl) (by decide)]; simpa using g27)
      have z28 : Strict v28 := w28 z15
      have hp28 : Heapy h h28 [⟨v25, 3, 1, List.flatMap enc3 ([a14] : List Int)⟩, ⟨v28, 3, 1, List.flatMap enc3 (l15 ++ ([a14] : List Int))⟩] := by rw [← List.flatMap_append] at q28; exact q28
      intro hr
      obtain rfl := Option.some.inj hr
      exact ⟨(F45_h1 x1 x2 x3 l4 v4 v5 v6 x7 x8 v9 v10 v11 h28 v28 (IntKind.i64.wrap (a14 + 1)) (l15 ++ ([a14] : List Int))), ⟨h28, v28, (Heapy.pick hp28 [1] (by decide)), z28, rfl⟩, pEnd_sound good (L := F45_L) (D := F45_D) (its := [.g, (.b true), .g, .g, .g, .g, .g, (.ix id18 off18 g18), (.ld (.agg #[.int .i64 y18.1, .int .i64 y18.2.1, .int .i64 y18.2.2.1, .int .i64 y18.2.2.2])), .g, .g, .g, .g, .g, .g, .g, .g, .g, .g, .g, .g, .g, (.c (.int .i64 y19) h16), (.c (.int .i64 y21) h16), .g, (.c (.int .i64 (F60 y18.1 y18.2.1 y18.2.2.1 y18.2.2.2 x7)) h16), .g, (.b true), .g, .g, (.mm (sv v25) h25), (.mm (sv v28) h28), .g, .g, .g]) (ds := F45_m1_0) (ks := [7]) (e := .normal) (s2 := (F45_h1 x1 x2 x3 l4 v4 v5 v6 x7 x8 v9 v10 v11 h28 v28 (IntKind.i64.wrap (a14 + 1)) (l15 ++ ([a14] : List Int)))) (hC := (ai m28 (ai m25 (ai c24 kc24)))) (hd := F45_d1) (h := by kernel_rfl)⟩
    · intro hr
      obtain rfl := Option.some.inj hr
      exact ⟨(F45_h1 x1 x2 x3 l4 v4 v5 v6 x7 x8 v9 v10 v11 h16 u15 (IntKind.i64.wrap (a14 + 1)) l15), ⟨h16, u15, (Heapy.pick hp16 [0] (by decide)), z15, rfl⟩, pEnd_sound good (L := F45_L) (D := F45_D) (its := [.g, (.b true), .g, .g, .g, .g, .g, (.ix id18 off18 g18), (.ld (.agg #[.int .i64 y18.1, .int .i64 y18.2.1, .int .i64 y18.2.2.1, .int .i64 y18.2.2.2])), .g, .g, .g, .g, .g, .g, .g, .g, .g, .g, .g, .g, .g, (.c (.int .i64 y19) h16), (.c (.int .i64 y21) h16), .g, (.c (.int .i64 (F60 y18.1 y18.2.1 y18.2.2.1 y18.2.2.2 x7)) h16), .g, (.b false), .g, .g]) (ds := F45_m1_0) (ks := [7]) (e := .normal) (s2 := (F45_h1 x1 x2 x3 l4 v4 v5 v6 x7 x8 v9 v10 v11 h16 u15 (IntKind.i64.wrap (a14 + 1)) l15)) (hC := (ai c24 kc24)) (hd := F45_d1) (h := by kernel_rfl)⟩
  · intro hr
    obtain rfl := Option.some.inj hr
    refine ⟨(.exit 0), (F45_x1_0 h h16 u15 (l15 : (List Int))), (by intro hh; cases hh), ?_, pEnd_sound good (L := F45_L) (D := F45_D) (its := [.g, (.b false)]) (ds := F45_m1_1) (ks := [2, 3]) (e := (.exit 0)) (s2 := (F45_x1_0 h h16 u15 (l15 : (List Int)))) (hC := (ai c17 trivial)) (hd := F45_d1) (h := by kernel_rfl)⟩
    exact ⟨rfl, h16, u15, (Heapy.pick hp16 [0] (by decide)), z15, rfl⟩
theorem F45_l1 (h : AHeap) (x1 : Int) (x2 : Int) (x3 : Bool) (l4 : List (Int × Int × Int × Int)) (v4 : Hd) (hv4 : SlE E57 4 h (sv v4) l4) (l5 : List (Int × Int × Int × Int)) (v5 : Hd) (hv5 : SlE E59 4 h (sv v5) l5) (l6 : List (Int × Int)) (v6 : Hd) (hv6 : SlE E61 2 h (sv v6) l6) (x7 : Int) (x8 : Int) (l9 : List Int) (v9 : Hd) (hv9 : SlE E3 1 h (sv v9) l9) (l10 : List Int) (v10 : Hd) (hv10 : SlE E3 1 h (sv v10) l10) (l11 : List Int) (v11 : Hd) (hv11 : SlE E3 1 h (sv v11) l11) (x : Int × (List Int)) (r : (List Int)) (hl : loopO (fun (s : Int × (List Int)) => F45_s1 x1 x2 x3 l4 l5 l6 x7 x8 l9 l10 l11 s.1 s.2) x = some r) (S : AS) (hI : (F45_i1 h x1 x2 x3 l4 v4 v5 v6 x7 x8 v9 v10 v11) x S) : ∃ e S', (F45_x1 h) r e S' ∧ AWp Try.prog (.loop (codeOf Try.prog 45 [1, 1, 0, 1, 0, 0])) (Ends1 e S') S :=
  loop_rel (fun x S hI => F45_r1 h x1 x2 x3 l4 v4 hv4 l5 v5 hv5 l6 v6 hv6 x7 x8 l9 v9 hv9 l10 v10 hv10 l11 v11 hv11 x.1 x.2 S hI) hl hI
def F45 (x1 : Int) (x2 : Int) (x3 : Bool) (l4 : List (Int × Int × Int × Int)) (l5 : List (Int × Int × Int × Int)) (l6 : List (Int × Int)) (x7 : Int) (x8 : Int) (l9 : List Int) (l10 : List Int) (l11 : List Int) : Option ((List Int)) :=
  (Option.bind (loopO (fun (s : Int × (List Int)) => F45_s1 x1 x2 x3 l4 l5 l6 x7 x8 l9 l10 l11 s.1 s.2) (0, ([] : List Int))) fun y30 =>
  some (y30))
set_option maxRecDepth 100000 in
theorem F45_spec (x1 : Int) (x2 : Int) (x3 : Bool) (l4 : List (Int × Int × Int × Int)) (l5 : List (Int × Int × Int × Int)) (l6 : List (Int × Int)) (x7 : Int) (x8 : Int) (l9 : List Int) (l10 : List Int) (l11 : List Int) (v4 : Hd) (v5 : Hd) (v6 : Hd) (v9 : Hd) (v10 : Hd) (v11 : Hd) (h : AHeap) (hw : h.wf) (hv4 : SlE E57 4 h (sv v4) l4) (hv5 : SlE E59 4 h (sv v5) l5) (hv6 : SlE E61 2 h (sv v6) l6) (hv9 : SlE E3 1 h (sv v9) l9) (hv10 : SlE E3 1 h (sv v10) l10) (hv11 : SlE E3 1 h (sv v11) l11) (r : (List Int)) : F45 x1 x2 x3 l4 l5 l6 x7 x8 l9 l10 l11 = some r → ∃ (ur0 : Hd) (h' : AHeap), Heapy h h' [⟨ur0, 3, 1, List.flatMap enc3 r⟩] ∧ Strict ur0 ∧ ACalls Try.prog 45 [.agg #[.int .i64 x1, .int .i64 x2, .bool x3, (sv v4), (sv v5), (sv v6)], .agg #[.int .i64 x7, .int .i64 x8, (sv v9), (sv v10), (sv v11)]] h (fun v' h'' => v' = ((sv ur0) : Value) ∧ h'' = h') := by
  unfold F45
  refine bind_opt fun y30 e30 => ?_
  have hp12 : Heapy h h [⟨⟨none, 0, 0⟩, 3, 1, List.flatMap enc3 ([] : List Int)⟩] := Heapy.nil (Heapy.refl hw) 3 1
  obtain ⟨ee30, SS30, hX30, hA30⟩ := F45_l1 h x1 x2 x3 l4 v4 hv4 l5 v5 hv5 l6 v6 hv6 x7 x8 l9 v9 hv9 l10 v10 hv10 l11 v11 hv11 (0, ([] : List Int)) y30 e30 (F45_h1 x1 x2 x3 l4 v4 v5 v6 x7 x8 v9 v10 v11 h ⟨none, 0, 0⟩ 0 ([] : List Int)) ⟨h, ⟨none, 0, 0⟩, (Heapy.pick hp12 [0] (by decide)), Strict.nil, rfl⟩
  obtain ⟨rfl, h31, w0_31, hp31, zw0_31, rfl⟩ := hX30
  intro hr
  obtain rfl := Option.some.inj hr
  exact ⟨w0_31, h31, Heapy.pick hp31 [0] (by decide), zw0_31, pFun_sound good tab_ok (f := 45) (its := [.g, .g, .g, .g, .g, .g, (.ln l4.length), .g, (.l F45_m1_0 [] (.exit 0) (F45_x1_0 h h31 w0_31 y30)), .g, .g]) (args := [.agg #[.int .i64 x1, .int .i64 x2, .bool x3, (sv v4), (sv v5), (sv v6)], .agg #[.int .i64 x7, .int .i64 x8, (sv v9), (sv v10), (sv v11)]]) (h := h) (h' := h31) (v := (sv w0_31)) (hC := (ai hA30 (ai (SlE.len hv4) trivial))) (hr := by kernel_rfl)⟩
/-! 69 jacquard/jacquardref28.Occupies -/
def F69 (x1 : Int) (x2 : Int) (x3 : Bool) (l4 : List (Int × Int × Int × Int)) (l5 : List (Int × Int × Int × Int)) (l6 : List (Int × Int)) (x7 : Int) (x8 : Int) (l9 : List Int) (l10 : List Int) (l11 : List Int) (x12 : Int) (x13 : Int) : Option (Bool) :=
  (Option.bind (at? l9 x12) fun y14 =>
  (bif decide (x7 > 0) then
   (bif decide (((IntKind.i64.wrap (x13 - y14)).tmod x7) < 0) then
    (bif decide ((IntKind.i64.wrap (((IntKind.i64.wrap (x13 - y14)).tmod x7) + x7)) ≥ 0) then
     (Option.bind (at? l6 x12) fun y18 =>
     some (decide ((IntKind.i64.wrap (((IntKind.i64.wrap (x13 - y14)).tmod x7) + x7)) < y18.2)))
    else
     some (false))
   else
    (bif decide (((IntKind.i64.wrap (x13 - y14)).tmod x7) ≥ 0) then
     (Option.bind (at? l6 x12) fun y20 =>
     some (decide (((IntKind.i64.wrap (x13 - y14)).tmod x7) < y20.2)))
    else
     some (false)))
  else
   (bif decide ((IntKind.i64.wrap (x13 - y14)) ≥ 0) then
    (Option.bind (at? l6 x12) fun y22 =>
    some (decide ((IntKind.i64.wrap (x13 - y14)) < y22.2)))
   else
    some (false))))
set_option maxRecDepth 100000 in
theorem F69_spec (x1 : Int) (x2 : Int) (x3 : Bool) (l4 : List (Int × Int × Int × Int)) (l5 : List (Int × Int × Int × Int)) (l6 : List (Int × Int)) (x7 : Int) (x8 : Int) (l9 : List Int) (l10 : List Int) (l11 : List Int) (x12 : Int) (x13 : Int) (v4 : Hd) (v5 : Hd) (v6 : Hd) (v9 : Hd) (v10 : Hd) (v11 : Hd) (h : AHeap) (hv4 : SlE E57 4 h (sv v4) l4) (hv5 : SlE E59 4 h (sv v5) l5) (hv6 : SlE E61 2 h (sv v6) l6) (hv9 : SlE E3 1 h (sv v9) l9) (hv10 : SlE E3 1 h (sv v10) l10) (hv11 : SlE E3 1 h (sv v11) l11) (r : Bool) : F69 x1 x2 x3 l4 l5 l6 x7 x8 l9 l10 l11 x12 x13 = some r → ACalls Try.prog 69 [.agg #[.int .i64 x1, .int .i64 x2, .bool x3, (sv v4), (sv v5), (sv v6)], .agg #[.int .i64 x7, .int .i64 x8, (sv v9), (sv v10), (sv v11)], .int .i64 x12, .int .i64 x13] h (fun v' h'' => v' = (.bool r : Value) ∧ h'' = h) := by
  unfold F69
  refine bind_opt fun y14 e14 => ?_
  obtain ⟨id14, off14, g14, cs14, ix14, at14, rfl⟩ := SlE.at hv9 e14
  have kc15 := (ai (At.one (P := Try.prog) (t := 3) (v := .int .i64 y14) at14 (by kernel_rfl) 0 rfl rfl) (ai ix14 trivial))
  refine dec_bif (fun c15 => ?_) (fun c15 => ?_)
  · have kc16 := (ai (nz3 c15) (ai c15 kc15))
    refine dec_bif (fun c16 => ?_) (fun c16 => ?_)
    · have kc17 := (ai c16 kc16)
      refine dec_bif (fun c17 => ?_) (fun c17 => ?_)
      · refine bind_opt fun y18 e18 => ?_
        obtain ⟨id18, off18, g18, cs18, ix18, at18, rfl⟩ := SlE.at hv6 e18
        intro hr
        obtain rfl := Option.some.inj hr
        exact pFun_sound good tab_ok (f := 69) (its := [.g, .g, .g, .g, .g, .g, .g, (.ix id14 off14 g14), (.ld (.int .i64 y14)), .g, .g, .g, .g, .g, (.b true), .g, .g, .g, .d, .g, .g, .g, (.b true), .g, .g, .g, .g, .g, .g, .g, .g, (.w .g), (.w .g), (.w .g), (.w .g), (.w (.ix id18 off18 g18)), (.w .g), (.w (.ld (.int .i64 y18.2))), (.w .g), (.p true), .g]) (args := [.agg #[.int .i64 x1, .int .i64 x2, .bool x3, (sv v4), (sv v5), (sv v6)], .agg #[.int .i64 x7, .int .i64 x8, (sv v9), (sv v10), (sv v11)], .int .i64 x12, .int .i64 x13]) (h := h) (h' := h) (v := .bool (decide ((IntKind.i64.wrap (((IntKind.i64.wrap (x13 - y14)).tmod x7) + x7)) < y18.2))) (hC := (ai c17 (ai (g_tt c17) (ai (At.one (P := Try.prog) (t := 3) (v := .int .i64 y18.2) at18 (by kernel_rfl) 1 rfl rfl) (ai (g_tt c17) (ai (g_tt c17) (ai ix18 (ai (g_tt c17) (ai (g_tt c17) (ai (g_tt c17) (ai (g_tt c17) (ai (g_tt c17) kc17)))))))))))) (hr := by kernel_rfl)
      · intro hr
        obtain rfl := Option.some.inj hr
        exact pFun_sound good tab_ok (f := 69) (its := [.g, .g, .g, .g, .g, .g, .g, (.ix id14 off14 g14), (.ld (.int .i64 y14)), .g, .g, .g, .g, .g, (.b true), .g, .g, .g, .d, .g, .g, .g, (.b true), .g, .g, .g, .g, .g, .g, .g, .g, .n, .n, .n, .n, .n, .n, .n, .n, (.p false), .g]) (args := [.agg #[.int .i64 x1, .int .i64 x2, .bool x3, (sv v4), (sv v5), (sv v6)], .agg #[.int .i64 x7, .int .i64 x8, (sv v9), (sv v10), (sv v11)], .int .i64 x12, .int .i64 x13]) (h := h) (h' := h) (v := .bool false) (hC := (ai c17 (ai (g_ft c17) (ai (g_ft c17) (ai (g_ft c17) (ai (g_ft c17) (ai (g_ft c17) (ai (g_ft c17) (ai (g_ft c17) (ai (g_ft c17) kc17)))))))))) (hr := by kernel_rfl)
    · have kc19 := (ai c16 kc16)
      refine dec_bif (fun c19 => ?_) (fun c19 => ?_)
      · refine bind_opt fun y20 e20 => ?_
        obtain ⟨id20, off20, g20, cs20, ix20, at20, rfl⟩ := SlE.at hv6 e20
        intro hr
        obtain rfl := Option.some.inj hr
        exact pFun_sound good tab_ok (f := 69) (its := [.g, .g, .g, .g, .g, .g, .g, (.ix id14 off14 g14), (.ld (.int .i64 y14)), .g, .g, .g, .g, .g, (.b true), .g, .g, .g, .d, .g, .g, .g, (.b false), .g, .g, .g, (.w .g), (.w .g), (.w .g), (.w .g), (.w (.ix id20 off20 g20)), (.w .g), (.w (.ld (.int .i64 y20.2))), (.w .g), (.p true), .g]) (args := [.agg #[.int .i64 x1, .int .i64 x2, .bool x3, (sv v4), (sv v5), (sv v6)], .agg #[.int .i64 x7, .int .i64 x8, (sv v9), (sv v10), (sv v11)], .int .i64 x12, .int .i64 x13]) (h := h) (h' := h) (v := .bool (decide (((IntKind.i64.wrap (x13 - y14)).tmod x7) < y20.2))) (hC := (ai c19 (ai (g_tt c19) (ai (At.one (P := Try.prog) (t := 3) (v := .int .i64 y20.2) at20 (by kernel_rfl) 1 rfl rfl) (ai (g_tt c19) (ai (g_tt c19) (ai ix20 (ai (g_tt c19) (ai (g_tt c19) (ai (g_tt c19) (ai (g_tt c19) (ai (g_tt c19) kc19)))))))))))) (hr := by kernel_rfl)
      · intro hr
        obtain rfl := Option.some.inj hr
        exact pFun_sound good tab_ok (f := 69) (its := [.g, .g, .g, .g, .g, .g, .g, (.ix id14 off14 g14), (.ld (.int .i64 y14)), .g, .g, .g, .g, .g, (.b true), .g, .g, .g, .d, .g, .g, .g, (.b false), .g, .g, .g, .n, .n, .n, .n, .n, .n, .n, .n, (.p false), .g]) (args := [.agg #[.int .i64 x1, .int .i64 x2, .bool x3, (sv v4), (sv v5), (sv v6)], .agg #[.int .i64 x7, .int .i64 x8, (sv v9), (sv v10), (sv v11)], .int .i64 x12, .int .i64 x13]) (h := h) (h' := h) (v := .bool false) (hC := (ai c19 (ai (g_ft c19) (ai (g_ft c19) (ai (g_ft c19) (ai (g_ft c19) (ai (g_ft c19) (ai (g_ft c19) (ai (g_ft c19) (ai (g_ft c19) kc19)))))))))) (hr := by kernel_rfl)
  · have kc21 := (ai c15 kc15)
    refine dec_bif (fun c21 => ?_) (fun c21 => ?_)
    · refine bind_opt fun y22 e22 => ?_
      obtain ⟨id22, off22, g22, cs22, ix22, at22, rfl⟩ := SlE.at hv6 e22
      intro hr
      obtain rfl := Option.some.inj hr
      exact pFun_sound good tab_ok (f := 69) (its := [.g, .g, .g, .g, .g, .g, .g, (.ix id14 off14 g14), (.ld (.int .i64 y14)), .g, .g, .g, .g, .g, (.b false), .g, .g, .g, (.w .g), (.w .g), (.w .g), (.w .g), (.w (.ix id22 off22 g22)), (.w .g), (.w (.ld (.int .i64 y22.2))), (.w .g), (.p true), .g]) (args := [.agg #[.int .i64 x1, .int .i64 x2, .bool x3, (sv v4), (sv v5), (sv v6)], .agg #[.int .i64 x7, .int .i64 x8, (sv v9), (sv v10), (sv v11)], .int .i64 x12, .int .i64 x13]) (h := h) (h' := h) (v := .bool (decide ((IntKind.i64.wrap (x13 - y14)) < y22.2))) (hC := (ai c21 (ai (g_tt c21) (ai (At.one (P := Try.prog) (t := 3) (v := .int .i64 y22.2) at22 (by kernel_rfl) 1 rfl rfl) (ai (g_tt c21) (ai (g_tt c21) (ai ix22 (ai (g_tt c21) (ai (g_tt c21) (ai (g_tt c21) (ai (g_tt c21) (ai (g_tt c21) kc21)))))))))))) (hr := by kernel_rfl)
    · intro hr
      obtain rfl := Option.some.inj hr
      exact pFun_sound good tab_ok (f := 69) (its := [.g, .g, .g, .g, .g, .g, .g, (.ix id14 off14 g14), (.ld (.int .i64 y14)), .g, .g, .g, .g, .g, (.b false), .g, .g, .g, .n, .n, .n, .n, .n, .n, .n, .n, (.p false), .g]) (args := [.agg #[.int .i64 x1, .int .i64 x2, .bool x3, (sv v4), (sv v5), (sv v6)], .agg #[.int .i64 x7, .int .i64 x8, (sv v9), (sv v10), (sv v11)], .int .i64 x12, .int .i64 x13]) (h := h) (h' := h) (v := .bool false) (hC := (ai c21 (ai (g_ft c21) (ai (g_ft c21) (ai (g_ft c21) (ai (g_ft c21) (ai (g_ft c21) (ai (g_ft c21) (ai (g_ft c21) (ai (g_ft c21) kc21)))))))))) (hr := by kernel_rfl)
/-! 61 jacquard/jacquardref28.Clash -/
def F61_L : List Nat := [4, 5]
def F61_D : List (Nat × List (Nat × Nat)) := [(1, [(0, 2), (1, 2), (2, 2), (3, 2), (4, 2), (5, 2), (6, 2), (7, 2), (8, 2), (9, 2), (10, 2), (11, 2), (12, 2), (13, 2), (14, 2), (15, 2), (16, 2), (17, 2), (18, 2), (19, 2), (20, 2), (21, 2), (22, 2), (23, 2), (24, 2), (25, 2), (26, 2), (27, 2), (28, 2), (29, 2), (30, 2), (31, 2), (32, 2), (33, 2), (34, 2)]), (4, [(0, 2), (1, 2), (2, 2), (3, 2), (4, 2), (5, 2), (6, 2), (7, 2), (8, 2), (9, 2), (10, 2), (11, 2), (12, 2), (13, 2), (14, 2)]), (5, [(0, 2), (1, 2), (2, 2), (3, 2), (4, 2), (5, 2), (6, 2), (7, 2), (8, 2), (9, 2), (10, 2), (11, 2), (12, 2), (13, 2), (14, 2), (15, 2), (16, 2), (17, 2), (18, 2), (19, 2), (20, 2), (21, 2), (22, 2), (23, 2), (24, 2)])]
def F61_m1_2 : List Bool := (rp 111 true [])
def F61_m1_1 : List Bool := (true :: true :: false :: false :: false :: false :: (rp 4 true (false :: false :: (rp 99 true []))))
def F61_m1_0 : List Bool := (rp 8 true (false :: (rp 102 true [])))
def F61_s1 (x1 : Int) (x2 : Int) (x3 : Bool) (l4 : List (Int × Int × Int × Int)) (l5 : List (Int × Int × Int × Int)) (l6 : List (Int × Int)) (x7 : Int) (x8 : Int) (l9 : List Int) (l10 : List Int) (l11 : List Int) (x12 : Int) (x13 : Int) (a26 : Int) : Option (Int ⊕ Nat) :=
  (bif decide (a26 ≤ (IntKind.i64.wrap (x7 - 1))) then
   (Option.bind (F69 x1 x2 x3 l4 l5 l6 x7 x8 l9 l10 l11 x12 a26) fun y28 =>
   (bif y28 then
    (Option.bind (F69 x1 x2 x3 l4 l5 l6 x7 x8 l9 l10 l11 x13 a26) fun y31 =>
    (bif y31 then
     some (.inr 0)
    else
     some (.inl (IntKind.i64.wrap (a26 + 1)))))
   else
    some (.inl (IntKind.i64.wrap (a26 + 1)))))
  else
   some (.inr 1))
def F61_h1 (h : AHeap) (x1 : Int) (x2 : Int) (x3 : Bool) (v4 : Hd) (v5 : Hd) (v6 : Hd) (x7 : Int) (x8 : Int) (v9 : Hd) (v10 : Hd) (v11 : Hd) (x12 : Int) (x13 : Int)  (a26 : Int) : AS := ⟨(junk :: junk :: (.int .i64 x12) :: (.int .i64 x13) :: (.pointer (some ⟨4, 0, none⟩)) :: (.pointer (some ⟨5, 0, none⟩)) :: (rp 4 junk ((.int .i64 (IntKind.i64.wrap (x7 - 1))) :: (.int .i64 a26) :: (rp 99 junk [])))), [(4, [.int .i64 x1, .int .i64 x2, .bool x3, (sv v4), (sv v5), (sv v6)]), (5, [.int .i64 x7, .int .i64 x8, (sv v9), (sv v10), (sv v11)])], h⟩
theorem F61_d1 : drawsOk F61_D (codeOf Try.prog 61 [1, 1, 1, 1, 1, 0, 1, 0, 0]) = true := by kernel_rfl
def F61_x1_0 (h : AHeap)  (r : Nat) : AS := ⟨(rp 8 junk ((.bool true) :: (rp 102 junk []))), [], h⟩
def F61_x1_1 (h : AHeap)  (r : Nat) : AS := ⟨(rp 111 junk []), [], h⟩
def F61_x1 (h : AHeap) (r : Nat) : Exit × AS := (bif Nat.beq r 0 then (.ret, (F61_x1_0 h r)) else ((.exit 0), (F61_x1_1 h r)))
set_option maxRecDepth 100000 in
theorem F61_r1 (h : AHeap) (x1 : Int) (x2 : Int) (x3 : Bool) (l4 : List (Int × Int × Int × Int)) (v4 : Hd) (hv4 : SlE E57 4 h (sv v4) l4) (l5 : List (Int × Int × Int × Int)) (v5 : Hd) (hv5 : SlE E59 4 h (sv v5) l5) (l6 : List (Int × Int)) (v6 : Hd) (hv6 : SlE E61 2 h (sv v6) l6) (x7 : Int) (x8 : Int) (l9 : List Int) (v9 : Hd) (hv9 : SlE E3 1 h (sv v9) l9) (l10 : List Int) (v10 : Hd) (hv10 : SlE E3 1 h (sv v10) l10) (l11 : List Int) (v11 : Hd) (hv11 : SlE E3 1 h (sv v11) l11) (x12 : Int) (x13 : Int) (a26 : Int) (o : Int ⊕ Nat) : F61_s1 x1 x2 x3 l4 l5 l6 x7 x8 l9 l10 l11 x12 x13 a26 = some o → RdF Try.prog (codeOf Try.prog 61 [1, 1, 1, 1, 1, 0, 1, 0, 0]) (fun (s : Int) => (F61_h1 h x1 x2 x3 v4 v5 v6 x7 x8 v9 v10 v11 x12 x13 s)) (F61_x1 h) (F61_h1 h x1 x2 x3 v4 v5 v6 x7 x8 v9 v10 v11 x12 x13 a26) o := by
  unfold F61_s1
  refine dec_bif (fun c27 => ?_) (fun c27 => ?_)
  · refine bind_opt fun y28 e28 => ?_
    have kc30 := (ai (F69_spec x1 x2 x3 l4 l5 l6 x7 x8 l9 l10 l11 x12 a26 v4 v5 v6 v9 v10 v11 h hv4 hv5 hv6 hv9 hv10 hv11 _ e28) (ai c27 trivial))
    refine dec_bif (fun c30 => ?_) (fun c30 => ?_)
    · refine bind_opt fun y31 e31 => ?_
      have kc33 := (ai c30 (ai (F69_spec x1 x2 x3 l4 l5 l6 x7 x8 l9 l10 l11 x13 a26 v4 v5 v6 v9 v10 v11 h hv4 hv5 hv6 hv9 hv10 hv11 _ e31) (ai (g_tt c30) (ai (g_tt c30) (ai (g_tt c30) (ai (g_tt c30) (ai (g_tt c30) kc30)))))))
      refine dec_bif (fun c33 => ?_) (fun c33 => ?_)
      · intro hr
        obtain rfl := Option.some.inj hr
        show AWp Try.prog _ (Ends1 ((F61_x1 h) (0 : Nat)).1 ((F61_x1 h) (0 : Nat)).2) _
        exact pEnd_sound good (L := F61_L) (D := F61_D) (its := [.g, .g, .g, (.b true), .g, .g, .g, .g, (.c (.bool y28) h), .g, (.w .g), (.w .g), (.w .g), (.w .g), (.w (.c (.bool y31) h)), (.p true), (.b true), .g]) (ds := F61_m1_0) (ks := [4, 5]) (e := ((F61_x1 h) (0 : Nat)).1) (s2 := ((F61_x1 h) (0 : Nat)).2) (hC := (ai c33 kc33)) (hd := F61_d1) (h := by kernel_rfl)
      · intro hr
        obtain rfl := Option.some.inj hr
        show AWp Try.prog _ (Ends1 .normal (F61_h1 h x1 x2 x3 v4 v5 v6 x7 x8 v9 v10 v11 x12 x13 (IntKind.i64.wrap (a26 + 1)))) _
        exact pEnd_sound good (L := F61_L) (D := F61_D) (its := [.g, .g, .g, (.b true), .g, .g, .g, .g, (.c (.bool y28) h), .g, (.w .g), (.w .g), (.w .g), (.w .g), (.w (.c (.bool y31) h)), (.p true), (.b false), .g, .g, .g]) (ds := F61_m1_1) (ks := []) (e := .normal) (s2 := (F61_h1 h x1 x2 x3 v4 v5 v6 x7 x8 v9 v10 v11 x12 x13 (IntKind.i64.wrap (a26 + 1)))) (hC := (ai c33 kc33)) (hd := F61_d1) (h := by kernel_rfl)
    · intro hr
      obtain rfl := Option.some.inj hr
      show AWp Try.prog _ (Ends1 .normal (F61_h1 h x1 x2 x3 v4 v5 v6 x7 x8 v9 v10 v11 x12 x13 (IntKind.i64.wrap (a26 + 1)))) _
      exact pEnd_sound good (L := F61_L) (D := F61_D) (its := [.g, .g, .g, (.b true), .g, .g, .g, .g, (.c (.bool y28) h), .g, .n, .n, .n, .n, .n, (.p false), (.b false), .g, .g, .g]) (ds := F61_m1_1) (ks := []) (e := .normal) (s2 := (F61_h1 h x1 x2 x3 v4 v5 v6 x7 x8 v9 v10 v11 x12 x13 (IntKind.i64.wrap (a26 + 1)))) (hC := (ai l_f (ai c30 (ai (g_ft c30) (ai (g_ft c30) (ai (g_ft c30) (ai (g_ft c30) (ai (g_ft c30) kc30)))))))) (hd := F61_d1) (h := by kernel_rfl)
  · intro hr
    obtain rfl := Option.some.inj hr
    show AWp Try.prog _ (Ends1 ((F61_x1 h) (1 : Nat)).1 ((F61_x1 h) (1 : Nat)).2) _
    exact pEnd_sound good (L := F61_L) (D := F61_D) (its := [.g, .g, .g, (.b false)]) (ds := F61_m1_2) (ks := [4, 5]) (e := ((F61_x1 h) (1 : Nat)).1) (s2 := ((F61_x1 h) (1 : Nat)).2) (hC := (ai c27 trivial)) (hd := F61_d1) (h := by kernel_rfl)
theorem F61_l1_0 (h : AHeap) (x1 : Int) (x2 : Int) (x3 : Bool) (l4 : List (Int × Int × Int × Int)) (v4 : Hd) (hv4 : SlE E57 4 h (sv v4) l4) (l5 : List (Int × Int × Int × Int)) (v5 : Hd) (hv5 : SlE E59 4 h (sv v5) l5) (l6 : List (Int × Int)) (v6 : Hd) (hv6 : SlE E61 2 h (sv v6) l6) (x7 : Int) (x8 : Int) (l9 : List Int) (v9 : Hd) (hv9 : SlE E3 1 h (sv v9) l9) (l10 : List Int) (v10 : Hd) (hv10 : SlE E3 1 h (sv v10) l10) (l11 : List Int) (v11 : Hd) (hv11 : SlE E3 1 h (sv v11) l11) (x12 : Int) (x13 : Int) (x : Int) (r : Nat) (hl : loopO (fun (s : Int) => F61_s1 x1 x2 x3 l4 l5 l6 x7 x8 l9 l10 l11 x12 x13 s) x = some r) (q0 : Nat.beq r 0 = true) : AWp Try.prog (.loop (codeOf Try.prog 61 [1, 1, 1, 1, 1, 0, 1, 0, 0])) (Ends1 .ret (F61_x1_0 h r)) ((fun (s : Int) => (F61_h1 h x1 x2 x3 v4 v5 v6 x7 x8 v9 v10 v11 x12 x13 s)) x) := by
  have k := loop_fun (P := Try.prog) (c := (codeOf Try.prog 61 [1, 1, 1, 1, 1, 0, 1, 0, 0])) (step := (fun (s : Int) => F61_s1 x1 x2 x3 l4 l5 l6 x7 x8 l9 l10 l11 x12 x13 s)) (hd := (fun (s : Int) => (F61_h1 h x1 x2 x3 v4 v5 v6 x7 x8 v9 v10 v11 x12 x13 s))) (X := (F61_x1 h)) (by intro t; unfold F61_x1; cases Nat.beq t 0 <;> (intro h; cases h)) (fun x => F61_r1 h x1 x2 x3 l4 v4 hv4 l5 v5 hv5 l6 v6 hv6 x7 x8 l9 v9 hv9 l10 v10 hv10 l11 v11 hv11 x12 x13 x) hl
  simp only [F61_x1, q0, cond_true, cond_false] at k
  exact k
theorem F61_l1_1 (h : AHeap) (x1 : Int) (x2 : Int) (x3 : Bool) (l4 : List (Int × Int × Int × Int)) (v4 : Hd) (hv4 : SlE E57 4 h (sv v4) l4) (l5 : List (Int × Int × Int × Int)) (v5 : Hd) (hv5 : SlE E59 4 h (sv v5) l5) (l6 : List (Int × Int)) (v6 : Hd) (hv6 : SlE E61 2 h (sv v6) l6) (x7 : Int) (x8 : Int) (l9 : List Int) (v9 : Hd) (hv9 : SlE E3 1 h (sv v9) l9) (l10 : List Int) (v10 : Hd) (hv10 : SlE E3 1 h (sv v10) l10) (l11 : List Int) (v11 : Hd) (hv11 : SlE E3 1 h (sv v11) l11) (x12 : Int) (x13 : Int) (x : Int) (r : Nat) (hl : loopO (fun (s : Int) => F61_s1 x1 x2 x3 l4 l5 l6 x7 x8 l9 l10 l11 x12 x13 s) x = some r) (q0 : Nat.beq r 0 = false) : AWp Try.prog (.loop (codeOf Try.prog 61 [1, 1, 1, 1, 1, 0, 1, 0, 0])) (Ends1 (.exit 0) (F61_x1_1 h r)) ((fun (s : Int) => (F61_h1 h x1 x2 x3 v4 v5 v6 x7 x8 v9 v10 v11 x12 x13 s)) x) := by
  have k := loop_fun (P := Try.prog) (c := (codeOf Try.prog 61 [1, 1, 1, 1, 1, 0, 1, 0, 0])) (step := (fun (s : Int) => F61_s1 x1 x2 x3 l4 l5 l6 x7 x8 l9 l10 l11 x12 x13 s)) (hd := (fun (s : Int) => (F61_h1 h x1 x2 x3 v4 v5 v6 x7 x8 v9 v10 v11 x12 x13 s))) (X := (F61_x1 h)) (by intro t; unfold F61_x1; cases Nat.beq t 0 <;> (intro h; cases h)) (fun x => F61_r1 h x1 x2 x3 l4 v4 hv4 l5 v5 hv5 l6 v6 hv6 x7 x8 l9 v9 hv9 l10 v10 hv10 l11 v11 hv11 x12 x13 x) hl
  simp only [F61_x1, q0, cond_true, cond_false] at k
  exact k
def F61_m2_2 : List Bool := (rp 111 true [])
def F61_m2_1 : List Bool := (true :: true :: false :: false :: false :: false :: (rp 4 true (false :: false :: (rp 99 true []))))
def F61_m2_0 : List Bool := (rp 8 true (false :: (rp 102 true [])))
def F61_s2 (x1 : Int) (x2 : Int) (x3 : Bool) (l4 : List (Int × Int × Int × Int)) (l5 : List (Int × Int × Int × Int)) (l6 : List (Int × Int)) (x7 : Int) (x8 : Int) (l9 : List Int) (l10 : List Int) (l11 : List Int) (x12 : Int) (x13 : Int) (y23 : Int) (y24 : Int) (a36 : Int) : Option (Int ⊕ Nat) :=
  (bif decide (a36 ≤ (IntKind.i64.wrap ((if y24 > y23 then y24 else y23) + 256))) then
   (Option.bind (F69 x1 x2 x3 l4 l5 l6 x7 x8 l9 l10 l11 x12 a36) fun y38 =>
   (bif y38 then
    (Option.bind (F69 x1 x2 x3 l4 l5 l6 x7 x8 l9 l10 l11 x13 a36) fun y41 =>
    (bif y41 then
     some (.inr 0)
    else
     some (.inl (IntKind.i64.wrap (a36 + 1)))))
   else
    some (.inl (IntKind.i64.wrap (a36 + 1)))))
  else
   some (.inr 1))
def F61_h2 (h : AHeap) (x1 : Int) (x2 : Int) (x3 : Bool) (v4 : Hd) (v5 : Hd) (v6 : Hd) (x7 : Int) (x8 : Int) (v9 : Hd) (v10 : Hd) (v11 : Hd) (x12 : Int) (x13 : Int) (y23 : Int) (y24 : Int)  (a36 : Int) : AS := ⟨(junk :: junk :: (.int .i64 x12) :: (.int .i64 x13) :: (.pointer (some ⟨4, 0, none⟩)) :: (.pointer (some ⟨5, 0, none⟩)) :: (rp 4 junk ((.int .i64 (IntKind.i64.wrap ((if y24 > y23 then y24 else y23) + 256))) :: (.int .i64 a36) :: (rp 99 junk [])))), [(4, [.int .i64 x1, .int .i64 x2, .bool x3, (sv v4), (sv v5), (sv v6)]), (5, [.int .i64 x7, .int .i64 x8, (sv v9), (sv v10), (sv v11)])], h⟩
theorem F61_d2 : drawsOk F61_D (codeOf Try.prog 61 [1, 1, 1, 1, 1, 0, 1, 0, 0]) = true := by kernel_rfl
def F61_x2_0 (h : AHeap)  (r : Nat) : AS := ⟨(rp 8 junk ((.bool true) :: (rp 102 junk []))), [], h⟩
def F61_x2_1 (h : AHeap)  (r : Nat) : AS := ⟨(rp 111 junk []), [], h⟩
def F61_x2 (h : AHeap) (r : Nat) : Exit × AS := (bif Nat.beq r 0 then (.ret, (F61_x2_0 h r)) else ((.exit 0), (F61_x2_1 h r)))
set_option maxRecDepth 100000 in
theorem F61_r2 (h : AHeap) (x1 : Int) (x2 : Int) (x3 : Bool) (l4 : List (Int × Int × Int × Int)) (v4 : Hd) (hv4 : SlE E57 4 h (sv v4) l4) (l5 : List (Int × Int × Int × Int)) (v5 : Hd) (hv5 : SlE E59 4 h (sv v5) l5) (l6 : List (Int × Int)) (v6 : Hd) (hv6 : SlE E61 2 h (sv v6) l6) (x7 : Int) (x8 : Int) (l9 : List Int) (v9 : Hd) (hv9 : SlE E3 1 h (sv v9) l9) (l10 : List Int) (v10 : Hd) (hv10 : SlE E3 1 h (sv v10) l10) (l11 : List Int) (v11 : Hd) (hv11 : SlE E3 1 h (sv v11) l11) (x12 : Int) (x13 : Int) (y23 : Int) (y24 : Int) (a36 : Int) (o : Int ⊕ Nat) : F61_s2 x1 x2 x3 l4 l5 l6 x7 x8 l9 l10 l11 x12 x13 y23 y24 a36 = some o → RdF Try.prog (codeOf Try.prog 61 [1, 1, 1, 1, 1, 0, 1, 0, 0]) (fun (s : Int) => (F61_h2 h x1 x2 x3 v4 v5 v6 x7 x8 v9 v10 v11 x12 x13 y23 y24 s)) (F61_x2 h) (F61_h2 h x1 x2 x3 v4 v5 v6 x7 x8 v9 v10 v11 x12 x13 y23 y24 a36) o := by
  unfold F61_s2
  refine dec_bif (fun c37 => ?_) (fun c37 => ?_)
  · refine bind_opt fun y38 e38 => ?_
    have kc40 := (ai (F69_spec x1 x2 x3 l4 l5 l6 x7 x8 l9 l10 l11 x12 a36 v4 v5 v6 v9 v10 v11 h hv4 hv5 hv6 hv9 hv10 hv11 _ e38) (ai c37 trivial))
    refine dec_bif (fun c40 => ?_) (fun c40 => ?_)
    · refine bind_opt fun y41 e41 => ?_
      have kc43 := (ai c40 (ai (F69_spec x1 x2 x3 l4 l5 l6 x7 x8 l9 l10 l11 x13 a36 v4 v5 v6 v9 v10 v11 h hv4 hv5 hv6 hv9 hv10 hv11 _ e41) (ai (g_tt c40) (ai (g_tt c40) (ai (g_tt c40) (ai (g_tt c40) (ai (g_tt c40) kc40)))))))
      refine dec_bif (fun c43 => ?_) (fun c43 => ?_)
      · intro hr
        obtain rfl := Option.some.inj hr
        show AWp Try.prog _ (Ends1 ((F61_x2 h) (0 : Nat)).1 ((F61_x2 h) (0 : Nat)).2) _
        exact pEnd_sound good (L := F61_L) (D := F61_D) (its := [.g, .g, .g, (.b true), .g, .g, .g, .g, (.c (.bool y38) h), .g, (.w .g), (.w .g), (.w .g), (.w .g), (.w (.c (.bool y41) h)), (.p true), (.b true), .g]) (ds := F61_m2_0) (ks := [4, 5]) (e := ((F61_x2 h) (0 : Nat)).1) (s2 := ((F61_x2 h) (0 : Nat)).2) (hC := (ai c43 kc43)) (hd := F61_d2) (h := by kernel_rfl)
      · intro hr
        obtain rfl := Option.some.inj hr
        show AWp Try.prog _ (Ends1 .normal (F61_h2 h x1 x2 x3 v4 v5 v6 x7 x8 v9 v10 v11 x12 x13 y23 y24 (IntKind.i64.wrap (a36 + 1)))) _
        exact pEnd_sound good (L := F61_L) (D := F61_D) (its := [.g, .g, .g, (.b true), .g, .g, .g, .g, (.c (.bool y38) h), .g, (.w .g), (.w .g), (.w .g), (.w .g), (.w (.c (.bool y41) h)), (.p true), (.b false), .g, .g, .g]) (ds := F61_m2_1) (ks := []) (e := .normal) (s2 := (F61_h2 h x1 x2 x3 v4 v5 v6 x7 x8 v9 v10 v11 x12 x13 y23 y24 (IntKind.i64.wrap (a36 + 1)))) (hC := (ai c43 kc43)) (hd := F61_d2) (h := by kernel_rfl)
    · intro hr
      obtain rfl := Option.some.inj hr
      show AWp Try.prog _ (Ends1 .normal (F61_h2 h x1 x2 x3 v4 v5 v6 x7 x8 v9 v10 v11 x12 x13 y23 y24 (IntKind.i64.wrap (a36 + 1)))) _
      exact pEnd_sound good (L := F61_L) (D := F61_D) (its := [.g, .g, .g, (.b true), .g, .g, .g, .g, (.c (.bool y38) h), .g, .n, .n, .n, .n, .n, (.p false), (.b false), .g, .g, .g]) (ds := F61_m2_1) (ks := []) (e := .normal) (s2 := (F61_h2 h x1 x2 x3 v4 v5 v6 x7 x8 v9 v10 v11 x12 x13 y23 y24 (IntKind.i64.wrap (a36 + 1)))) (hC := (ai l_f (ai c40 (ai (g_ft c40) (ai (g_ft c40) (ai (g_ft c40) (ai (g_ft c40) (ai (g_ft c40) kc40)))))))) (hd := F61_d2) (h := by kernel_rfl)
  · intro hr
    obtain rfl := Option.some.inj hr
    show AWp Try.prog _ (Ends1 ((F61_x2 h) (1 : Nat)).1 ((F61_x2 h) (1 : Nat)).2) _
    exact pEnd_sound good (L := F61_L) (D := F61_D) (its := [.g, .g, .g, (.b false)]) (ds := F61_m2_2) (ks := [4, 5]) (e := ((F61_x2 h) (1 : Nat)).1) (s2 := ((F61_x2 h) (1 : Nat)).2) (hC := (ai c37 trivial)) (hd := F61_d2) (h := by kernel_rfl)
theorem F61_l2_0 (h : AHeap) (x1 : Int) (x2 : Int) (x3 : Bool) (l4 : List (Int × Int × Int × Int)) (v4 : Hd) (hv4 : SlE E57 4 h (sv v4) l4) (l5 : List (Int × Int × Int × Int)) (v5 : Hd) (hv5 : SlE E59 4 h (sv v5) l5) (l6 : List (Int × Int)) (v6 : Hd) (hv6 : SlE E61 2 h (sv v6) l6) (x7 : Int) (x8 : Int) (l9 : List Int) (v9 : Hd) (hv9 : SlE E3 1 h (sv v9) l9) (l10 : List Int) (v10 : Hd) (hv10 : SlE E3 1 h (sv v10) l10) (l11 : List Int) (v11 : Hd) (hv11 : SlE E3 1 h (sv v11) l11) (x12 : Int) (x13 : Int) (y23 : Int) (y24 : Int) (x : Int) (r : Nat) (hl : loopO (fun (s : Int) => F61_s2 x1 x2 x3 l4 l5 l6 x7 x8 l9 l10 l11 x12 x13 y23 y24 s) x = some r) (q0 : Nat.beq r 0 = true) : AWp Try.prog (.loop (codeOf Try.prog 61 [1, 1, 1, 1, 1, 0, 1, 0, 0])) (Ends1 .ret (F61_x2_0 h r)) ((fun (s : Int) => (F61_h2 h x1 x2 x3 v4 v5 v6 x7 x8 v9 v10 v11 x12 x13 y23 y24 s)) x) := by
  have k := loop_fun (P := Try.prog) (c := (codeOf Try.prog 61 [1, 1, 1, 1, 1, 0, 1, 0, 0])) (step := (fun (s : Int) => F61_s2 x1 x2 x3 l4 l5 l6 x7 x8 l9 l10 l11 x12 x13 y23 y24 s)) (hd := (fun (s : Int) => (F61_h2 h x1 x2 x3 v4 v5 v6 x7 x8 v9 v10 v11 x12 x13 y23 y24 s))) (X := (F61_x2 h)) (by intro t; unfold F61_x2; cases Nat.beq t 0 <;> (intro h; cases h)) (fun x => F61_r2 h x1 x2 x3 l4 v4 hv4 l5 v5 hv5 l6 v6 hv6 x7 x8 l9 v9 hv9 l10 v10 hv10 l11 v11 hv11 x12 x13 y23 y24 x) hl
  simp only [F61_x2, q0, cond_true, cond_false] at k
  exact k
theorem F61_l2_1 (h : AHeap) (x1 : Int) (x2 : Int) (x3 : Bool) (l4 : List (Int × Int × Int × Int)) (v4 : Hd) (hv4 : SlE E57 4 h (sv v4) l4) (l5 : List (Int × Int × Int × Int)) (v5 : Hd) (hv5 : SlE E59 4 h (sv v5) l5) (l6 : List (Int × Int)) (v6 : Hd) (hv6 : SlE E61 2 h (sv v6) l6) (x7 : Int) (x8 : Int) (l9 : List Int) (v9 : Hd) (hv9 : SlE E3 1 h (sv v9) l9) (l10 : List Int) (v10 : Hd) (hv10 : SlE E3 1 h (sv v10) l10) (l11 : List Int) (v11 : Hd) (hv11 : SlE E3 1 h (sv v11) l11) (x12 : Int) (x13 : Int) (y23 : Int) (y24 : Int) (x : Int) (r : Nat) (hl : loopO (fun (s : Int) => F61_s2 x1 x2 x3 l4 l5 l6 x7 x8 l9 l10 l11 x12 x13 y23 y24 s) x = some r) (q0 : Nat.beq r 0 = false) : AWp Try.prog (.loop (codeOf Try.prog 61 [1, 1, 1, 1, 1, 0, 1, 0, 0])) (Ends1 (.exit 0) (F61_x2_1 h r)) ((fun (s : Int) => (F61_h2 h x1 x2 x3 v4 v5 v6 x7 x8 v9 v10 v11 x12 x13 y23 y24 s)) x) := by
  have k := loop_fun (P := Try.prog) (c := (codeOf Try.prog 61 [1, 1, 1, 1, 1, 0, 1, 0, 0])) (step := (fun (s : Int) => F61_s2 x1 x2 x3 l4 l5 l6 x7 x8 l9 l10 l11 x12 x13 y23 y24 s)) (hd := (fun (s : Int) => (F61_h2 h x1 x2 x3 v4 v5 v6 x7 x8 v9 v10 v11 x12 x13 y23 y24 s))) (X := (F61_x2 h)) (by intro t; unfold F61_x2; cases Nat.beq t 0 <;> (intro h; cases h)) (fun x => F61_r2 h x1 x2 x3 l4 v4 hv4 l5 v5 hv5 l6 v6 hv6 x7 x8 l9 v9 hv9 l10 v10 hv10 l11 v11 hv11 x12 x13 y23 y24 x) hl
  simp only [F61_x2, q0, cond_true, cond_false] at k
  exact k
def F61 (x1 : Int) (x2 : Int) (x3 : Bool) (l4 : List (Int × Int × Int × Int)) (l5 : List (Int × Int × Int × Int)) (l6 : List (Int × Int)) (x7 : Int) (x8 : Int) (l9 : List Int) (l10 : List Int) (l11 : List Int) (x12 : Int) (x13 : Int) : Option (Bool) :=
  (Option.bind (at? l6 x12) fun y14 =>
  (bif decide (y14.1 < 0) then
   some (false)
  else
   (Option.bind (at? l6 x13) fun y16 =>
   (bif (y14.1 != y16.1) then
    some (false)
   else
    (Option.bind (at? l11 x12) fun y18 =>
    (Option.bind (at? l11 x13) fun y19 =>
    (bif (y18 != y19) then
     some (false)
    else
     (bif (x12 == x13) then
      (bif decide (x7 > 0) then
       some (decide (y14.2 > x7))
      else
       some (false))
     else
      (Option.bind (at? l9 x12) fun y23 =>
      (Option.bind (at? l9 x13) fun y24 =>
      (bif decide (x7 > 0) then
       (Option.bind (loopO (fun (s : Int) => F61_s1 x1 x2 x3 l4 l5 l6 x7 x8 l9 l10 l11 x12 x13 s) 0) fun y34 =>
       (bif (Nat.beq y34 0) then
        some (true)
       else
        some (false)))
      else
       (Option.bind (loopO (fun (s : Int) => F61_s2 x1 x2 x3 l4 l5 l6 x7 x8 l9 l10 l11 x12 x13 y23 y24 s) (if y24 < y23 then y24 else y23)) fun y44 =>
       (bif (Nat.beq y44 0) then
        some (true)
       else
        some (false))))))))))))))
set_option maxRecDepth 100000 in
theorem F61_spec (x1 : Int) (x2 : Int) (x3 : Bool) (l4 : List (Int × Int × Int × Int)) (l5 : List (Int × Int × Int × Int)) (l6 : List (Int × Int)) (x7 : Int) (x8 : Int) (l9 : List Int) (l10 : List Int) (l11 : List Int) (x12 : Int) (x13 : Int) (v4 : Hd) (v5 : Hd) (v6 : Hd) (v9 : Hd) (v10 : Hd) (v11 : Hd) (h : AHeap) (hv4 : SlE E57 4 h (sv v4) l4) (hv5 : SlE E59 4 h (sv v5) l5) (hv6 : SlE E61 2 h (sv v6) l6) (hv9 : SlE E3 1 h (sv v9) l9) (hv10 : SlE E3 1 h (sv v10) l10) (hv11 : SlE E3 1 h (sv v11) l11) (r : Bool) : F61 x1 x2 x3 l4 l5 l6 x7 x8 l9 l10 l11 x12 x13 = some r → ACalls Try.prog 61 [.agg #[.int .i64 x1, .int .i64 x2, .bool x3, (sv v4), (sv v5), (sv v6)], .agg #[.int .i64 x7, .int .i64 x8, (sv v9), (sv v10), (sv v11)], .int .i64 x12, .int .i64 x13] h (fun v' h'' => v' = (.bool r : Value) ∧ h'' = h) := by
  unfold F61
  refine bind_opt fun y14 e14 => ?_
  obtain ⟨id14, off14, g14, cs14, ix14, at14, rfl⟩ := SlE.at hv6 e14
  have kc15 := (ai (At.one (P := Try.prog) (t := 3) (v := .int .i64 y14.1) at14 (by kernel_rfl) 0 rfl rfl) (ai ix14 trivial))
  refine dec_bif (fun c15 => ?_) (fun c15 => ?_)
  · intro hr
    obtain rfl := Option.some.inj hr
    exact pFun_sound good tab_ok (f := 61) (its := [.g, .g, .g, .g, .g, .g, (.ix id14 off14 g14), .g, (.ld (.int .i64 y14.1)), .g, .g, .n, .n, .n, .n, .n, .n, .n, .n, .n, .n, .n, .n, .n, (.p true), .g, .n, .n, .n, .n, .n, .n, .n, .n, .n, .n, .n, .g, (.b true), .g]) (args := [.agg #[.int .i64 x1, .int .i64 x2, .bool x3, (sv v4), (sv v5), (sv v6)], .agg #[.int .i64 x7, .int .i64 x8, (sv v9), (sv v10), (sv v11)], .int .i64 x12, .int .i64 x13]) (h := h) (h' := h) (v := .bool false) (hC := (ai l_t (ai (g_tf l_t) (ai (g_tf l_t) (ai (g_tf l_t) (ai (g_tf l_t) (ai (g_tf l_t) (ai (g_tf l_t) (ai (g_tf l_t) (ai (g_tf l_t) (ai (g_tf l_t) (ai (g_tf l_t) (ai (g_tf l_t) (ai c15 (ai (g_tf c15) (ai (g_tf c15) (ai (g_tf c15) (ai (g_tf c15) (ai (g_tf c15) (ai (g_tf c15) (ai (g_tf c15) (ai (g_tf c15) (ai (g_tf c15) (ai (g_tf c15) (ai (g_tf c15) (ai (g_tf c15) (ai (g_tf c15) kc15))))))))))))))))))))))))))) (hr := by kernel_rfl)
  · refine bind_opt fun y16 e16 => ?_
    obtain ⟨id16, off16, g16, cs16, ix16, at16, rfl⟩ := SlE.at hv6 e16
    have kc17 := (ai c15 (ai (g_ff c15) (ai (At.one (P := Try.prog) (t := 3) (v := .int .i64 y16.1) at16 (by kernel_rfl) 0 rfl rfl) (ai (g_ff c15) (ai (g_ff c15) (ai ix16 (ai (g_ff c15) (ai (g_ff c15) (ai (g_ff c15) (ai (g_ff c15) (ai (At.one (P := Try.prog) (t := 3) (v := .int .i64 y14.1) at14 (by kernel_rfl) 0 rfl rfl) (ai (g_ff c15) (ai (g_ff c15) (ai ix14 (ai (g_ff c15) (ai (g_ff c15) (ai (g_ff c15) (ai (g_ff c15) kc15))))))))))))))))))
    refine dec_bif (fun c17 => ?_) (fun c17 => ?_)
    · intro hr
      obtain rfl := Option.some.inj hr
      exact pFun_sound good tab_ok (f := 61) (its := [.g, .g, .g, .g, .g, .g, (.ix id14 off14 g14), .g, (.ld (.int .i64 y14.1)), .g, .g, (.w .g), (.w .g), (.w .g), (.w (.ix id14 off14 g14)), (.w .g), (.w (.ld (.int .i64 y14.1))), (.w .g), (.w .g), (.w .g), (.w (.ix id16 off16 g16)), (.w .g), (.w (.ld (.int .i64 y16.1))), (.w .g), (.p false), .g, .n, .n, .n, .n, .n, .n, .n, .n, .n, .n, .n, (.p true), (.b true), .g]) (args := [.agg #[.int .i64 x1, .int .i64 x2, .bool x3, (sv v4), (sv v5), (sv v6)], .agg #[.int .i64 x7, .int .i64 x8, (sv v9), (sv v10), (sv v11)], .int .i64 x12, .int .i64 x13]) (h := h) (h' := h) (v := .bool false) (hC := (ai l_t (ai c17 (ai (g_tf c17) (ai (g_tf c17) (ai (g_tf c17) (ai (g_tf c17) (ai (g_tf c17) (ai (g_tf c17) (ai (g_tf c17) (ai (g_tf c17) (ai (g_tf c17) (ai (g_tf c17) (ai (g_tf c17) kc17)))))))))))))) (hr := by kernel_rfl)
    · refine bind_opt fun y18 e18 => ?_
      obtain ⟨id18, off18, g18, cs18, ix18, at18, rfl⟩ := SlE.at hv11 e18
      refine bind_opt fun y19 e19 => ?_
      obtain ⟨id19, off19, g19, cs19, ix19, at19, rfl⟩ := SlE.at hv11 e19
      have kc20 := (ai c17 (ai (g_ff c17) (ai (At.one (P := Try.prog) (t := 3) (v := .int .i64 y19) at19 (by kernel_rfl) 0 rfl rfl) (ai (g_ff c17) (ai ix19 (ai (g_ff c17) (ai (g_ff c17) (ai (g_ff c17) (ai (g_ff c17) (ai (At.one (P := Try.prog) (t := 3) (v := .int .i64 y18) at18 (by kernel_rfl) 0 rfl rfl) (ai (g_ff c17) (ai ix18 (ai (g_ff c17) (ai (g_ff c17) (ai (g_ff c17) (ai (g_ff c17) kc17))))))))))))))))
      refine dec_bif (fun c20 => ?_) (fun c20 => ?_)
      · intro hr
        obtain rfl := Option.some.inj hr
        exact pFun_sound good tab_ok (f := 61) (its := [.g, .g, .g, .g, .g, .g, (.ix id14 off14 g14), .g, (.ld (.int .i64 y14.1)), .g, .g, (.w .g), (.w .g), (.w .g), (.w (.ix id14 off14 g14)), (.w .g), (.w (.ld (.int .i64 y14.1))), (.w .g), (.w .g), (.w .g), (.w (.ix id16 off16 g16)), (.w .g), (.w (.ld (.int .i64 y16.1))), (.w .g), (.p false), .g, (.w .g), (.w .g), (.w .g), (.w (.ix id18 off18 g18)), (.w (.ld (.int .i64 y18))), (.w .g), (.w .g), (.w .g), (.w (.ix id19 off19 g19)), (.w (.ld (.int .i64 y19))), (.w .g), (.p false), (.b true), .g]) (args := [.agg #[.int .i64 x1, .int .i64 x2, .bool x3, (sv v4), (sv v5), (sv v6)], .agg #[.int .i64 x7, .int .i64 x8, (sv v9), (sv v10), (sv v11)], .int .i64 x12, .int .i64 x13]) (h := h) (h' := h) (v := .bool false) (hC := (ai c20 kc20)) (hr := by kernel_rfl)
      · have kc21 := (ai c20 kc20)
        refine dec_bif (fun c21 => ?_) (fun c21 => ?_)
        · have kc22 := (ai c21 kc21)
          refine dec_bif (fun c22 => ?_) (fun c22 => ?_)
          · intro hr
            obtain rfl := Option.some.inj hr
            exact pFun_sound good tab_ok (f := 61) (its := [.g, .g, .g, .g, .g, .g, (.ix id14 off14 g14), .g, (.ld (.int .i64 y14.1)), .g, .g, (.w .g), (.w .g), (.w .g), (.w (.ix id14 off14 g14)), (.w .g), (.w (.ld (.int .i64 y14.1))), (.w .g), (.w .g), (.w .g), (.w (.ix id16 off16 g16)), (.w .g), (.w (.ld (.int .i64 y16.1))), (.w .g), (.p false), .g, (.w .g), (.w .g), (.w .g), (.w (.ix id18 off18 g18)), (.w (.ld (.int .i64 y18))), (.w .g), (.w .g), (.w .g), (.w (.ix id19 off19 g19)), (.w (.ld (.int .i64 y19))), (.w .g), (.p false), (.b false), .g, .g, .g, (.b true), .g, .g, .g, .g, (.w .g), (.w .g), (.w .g), (.w (.ix id14 off14 g14)), (.w .g), (.w (.ld (.int .i64 y14.2))), (.w .g), (.w .g), (.w .g), (.p true), .g]) (args := [.agg #[.int .i64 x1, .int .i64 x2, .bool x3, (sv v4), (sv v5), (sv v6)], .agg #[.int .i64 x7, .int .i64 x8, (sv v9), (sv v10), (sv v11)], .int .i64 x12, .int .i64 x13]) (h := h) (h' := h) (v := .bool (decide (y14.2 > x7))) (hC := (ai c22 (ai (g_tt c22) (ai (g_tt c22) (ai (g_tt c22) (ai (At.one (P := Try.prog) (t := 3) (v := .int .i64 y14.2) at14 (by kernel_rfl) 1 rfl rfl) (ai (g_tt c22) (ai (g_tt c22) (ai ix14 (ai (g_tt c22) (ai (g_tt c22) (ai (g_tt c22) (ai (g_tt c22) kc22))))))))))))) (hr := by kernel_rfl)
          · intro hr
            obtain rfl := Option.some.inj hr
            exact pFun_sound good tab_ok (f := 61) (its := [.g, .g, .g, .g, .g, .g, (.ix id14 off14 g14), .g, (.ld (.int .i64 y14.1)), .g, .g, (.w .g), (.w .g), (.w .g), (.w (.ix id14 off14 g14)), (.w .g), (.w (.ld (.int .i64 y14.1))), (.w .g), (.w .g), (.w .g), (.w (.ix id16 off16 g16)), (.w .g), (.w (.ld (.int .i64 y16.1))), (.w .g), (.p false), .g, (.w .g), (.w .g), (.w .g), (.w (.ix id18 off18 g18)), (.w (.ld (.int .i64 y18))), (.w .g), (.w .g), (.w .g), (.w (.ix id19 off19 g19)), (.w (.ld (.int .i64 y19))), (.w .g), (.p false), (.b false), .g, .g, .g, (.b true), .g, .g, .g, .g, .n, .n, .n, .n, .n, .n, .n, .n, .n, (.p false), .g]) (args := [.agg #[.int .i64 x1, .int .i64 x2, .bool x3, (sv v4), (sv v5), (sv v6)], .agg #[.int .i64 x7, .int .i64 x8, (sv v9), (sv v10), (sv v11)], .int .i64 x12, .int .i64 x13]) (h := h) (h' := h) (v := .bool false) (hC := (ai c22 (ai (g_ft c22) (ai (g_ft c22) (ai (g_ft c22) (ai (g_ft c22) (ai (g_ft c22) (ai (g_ft c22) (ai (g_ft c22) (ai (g_ft c22) (ai (g_ft c22) kc22))))))))))) (hr := by kernel_rfl)
        · refine bind_opt fun y23 e23 => ?_
          obtain ⟨id23, off23, g23, cs23, ix23, at23, rfl⟩ := SlE.at hv9 e23
          refine bind_opt fun y24 e24 => ?_
          obtain ⟨id24, off24, g24, cs24, ix24, at24, rfl⟩ := SlE.at hv9 e24
          have kc25 := (ai (At.one (P := Try.prog) (t := 3) (v := .int .i64 y24) at24 (by kernel_rfl) 0 rfl rfl) (ai ix24 (ai (At.one (P := Try.prog) (t := 3) (v := .int .i64 y23) at23 (by kernel_rfl) 0 rfl rfl) (ai ix23 (ai (At.one (P := Try.prog) (t := 3) (v := .int .i64 y24) at24 (by kernel_rfl) 0 rfl rfl) (ai ix24 (ai (At.one (P := Try.prog) (t := 3) (v := .int .i64 y23) at23 (by kernel_rfl) 0 rfl rfl) (ai ix23 (ai c21 kc21)))))))))
          refine dec_bif (fun c25 => ?_) (fun c25 => ?_)
          · refine bind_opt fun y34 e34 => ?_
            have kc35 := (ai c25 kc25)
            refine dec_bif (fun c35 => ?_) (fun c35 => ?_)
            · intro hr
              obtain rfl := Option.some.inj hr
              exact pFun_sound good tab_ok (f := 61) (its := [.g, .g, .g, .g, .g, .g, (.ix id14 off14 g14), .g, (.ld (.int .i64 y14.1)), .g, .g, (.w .g), (.w .g), (.w .g), (.w (.ix id14 off14 g14)), (.w .g), (.w (.ld (.int .i64 y14.1))), (.w .g), (.w .g), (.w .g), (.w (.ix id16 off16 g16)), (.w .g), (.w (.ld (.int .i64 y16.1))), (.w .g), (.p false), .g, (.w .g), (.w .g), (.w .g), (.w (.ix id18 off18 g18)), (.w (.ld (.int .i64 y18))), (.w .g), (.w .g), (.w .g), (.w (.ix id19 off19 g19)), (.w (.ld (.int .i64 y19))), (.w .g), (.p false), (.b false), .g, .g, .g, (.b false), .g, .g, .g, (.ix id23 off23 g23), (.ld (.int .i64 y23)), .g, .g, .g, (.ix id24 off24 g24), (.ld (.int .i64 y24)), .g, .g, .g, .g, (.ix id23 off23 g23), (.ld (.int .i64 y23)), .g, .g, .g, (.ix id24 off24 g24), (.ld (.int .i64 y24)), .g, .g, .g, .g, .g, .g, .g, (.b true), .g, .g, .g, .g, .g, .g, .g, (.l F61_m1_1 [] .ret (F61_x1_0 h y34))]) (args := [.agg #[.int .i64 x1, .int .i64 x2, .bool x3, (sv v4), (sv v5), (sv v6)], .agg #[.int .i64 x7, .int .i64 x8, (sv v9), (sv v10), (sv v11)], .int .i64 x12, .int .i64 x13]) (h := h) (h' := h) (v := .bool true) (hC := (ai (F61_l1_0 h x1 x2 x3 l4 v4 hv4 l5 v5 hv5 l6 v6 hv6 x7 x8 l9 v9 hv9 l10 v10 hv10 l11 v11 hv11 x12 x13 0 y34 e34 c35) kc35)) (hr := by kernel_rfl)
            · intro hr
              obtain rfl := Option.some.inj hr
              exact pFun_sound good tab_ok (f := 61) (its := [.g, .g, .g, .g, .g, .g, (.ix id14 off14 g14), .g, (.ld (.int .i64 y14.1)), .g, .g, (.w .g), (.w .g), (.w .g), (.w (.ix id14 off14 g14)), (.w .g), (.w (.ld (.int .i64 y14.1))), (.w .g), (.w .g), (.w .g), (.w (.ix id16 off16 g16)), (.w .g), (.w (.ld (.int .i64 y16.1))), (.w .g), (.p false), .g, (.w .g), (.w .g), (.w .g), (.w (.ix id18 off18 g18)), (.w (.ld (.int .i64 y18))), (.w .g), (.w .g), (.w .g), (.w (.ix id19 off19 g19)), (.w (.ld (.int .i64 y19))), (.w .g), (.p false), (.b false), .g, .g, .g, (.b false), .g, .g, .g, (.ix id23 off23 g23), (.ld (.int .i64 y23)), .g, .g, .g, (.ix id24 off24 g24), (.ld (.int .i64 y24)), .g, .g, .g, .g, (.ix id23 off23 g23), (.ld (.int .i64 y23)), .g, .g, .g, (.ix id24 off24 g24), (.ld (.int .i64 y24)), .g, .g, .g, .g, .g, .g, .g, (.b true), .g, .g, .g, .g, .g, .g, .g, (.l F61_m1_1 [] (.exit 0) (F61_x1_1 h y34)), .g]) (args := [.agg #[.int .i64 x1, .int .i64 x2, .bool x3, (sv v4), (sv v5), (sv v6)], .agg #[.int .i64 x7, .int .i64 x8, (sv v9), (sv v10), (sv v11)], .int .i64 x12, .int .i64 x13]) (h := h) (h' := h) (v := .bool false) (hC := (ai (F61_l1_1 h x1 x2 x3 l4 v4 hv4 l5 v5 hv5 l6 v6 hv6 x7 x8 l9 v9 hv9 l10 v10 hv10 l11 v11 hv11 x12 x13 0 y34 e34 c35) kc35)) (hr := by kernel_rfl)
          · refine bind_opt fun y44 e44 => ?_
            have kc45 := (ai c25 kc25)
            refine dec_bif (fun c45 => ?_) (fun c45 => ?_)
            · intro hr
              obtain rfl := Option.some.inj hr
              exact pFun_sound good tab_ok (f := 61) (its := [.g, .g, .g, .g, .g, .g, (.ix id14 off14 g14), .g, (.ld (.int .i64 y14.1)), .g, .g, (.w .g), (.w .g), (.w .g), (.w (.ix id14 off14 g14)), (.w .g), (.w (.ld (.int .i64 y14.1))), (.w .g), (.w .g), (.w .g), (.w (.ix id16 off16 g16)), (.w .g), (.w (.ld (.int .i64 y16.1))), (.w .g), (.p false), .g, (.w .g), (.w .g), (.w .g), (.w (.ix id18 off18 g18)), (.w (.ld (.int .i64 y18))), (.w .g), (.w .g), (.w .g), (.w (.ix id19 off19 g19)), (.w (.ld (.int .i64 y19))), (.w .g), (.p false), (.b false), .g, .g, .g, (.b false), .g, .g, .g, (.ix id23 off23 g23), (.ld (.int .i64 y23)), .g, .g, .g, (.ix id24 off24 g24), (.ld (.int .i64 y24)), .g, .g, .g, .g, (.ix id23 off23 g23), (.ld (.int .i64 y23)), .g, .g, .g, (.ix id24 off24 g24), (.ld (.int .i64 y24)), .g, .g, .g, .g, .g, .g, .g, (.b false), .g, .g, (.l F61_m2_1 [] .ret (F61_x2_0 h y44))]) (args := [.agg #[.int .i64 x1, .int .i64 x2, .bool x3, (sv v4), (sv v5), (sv v6)], .agg #[.int .i64 x7, .int .i64 x8, (sv v9), (sv v10), (sv v11)], .int .i64 x12, .int .i64 x13]) (h := h) (h' := h) (v := .bool true) (hC := (ai (F61_l2_0 h x1 x2 x3 l4 v4 hv4 l5 v5 hv5 l6 v6 hv6 x7 x8 l9 v9 hv9 l10 v10 hv10 l11 v11 hv11 x12 x13 y23 y24 (if y24 < y23 then y24 else y23) y44 e44 c45) kc45)) (hr := by kernel_rfl)
            · intro hr
              obtain rfl := Option.some.inj hr
              exact pFun_sound good tab_ok (f := 61) (its := [.g, .g, .g, .g, .g, .g, (.ix id14 off14 g14), .g, (.ld (.int .i64 y14.1)), .g, .g, (.w .g), (.w .g), (.w .g), (.w (.ix id14 off14 g14)), (.w .g), (.w (.ld (.int .i64 y14.1))), (.w .g), (.w .g), (.w .g), (.w (.ix id16 off16 g16)), (.w .g), (.w (.ld (.int .i64 y16.1))), (.w .g), (.p false), .g, (.w .g), (.w .g), (.w .g), (.w (.ix id18 off18 g18)), (.w (.ld (.int .i64 y18))), (.w .g), (.w .g), (.w .g), (.w (.ix id19 off19 g19)), (.w (.ld (.int .i64 y19))), (.w .g), (.p false), (.b false), .g, .g, .g, (.b false), .g, .g, .g, (.ix id23 off23 g23), (.ld (.int .i64 y23)), .g, .g, .g, (.ix id24 off24 g24), (.ld (.int .i64 y24)), .g, .g, .g, .g, (.ix id23 off23 g23), (.ld (.int .i64 y23)), .g, .g, .g, (.ix id24 off24 g24), (.ld (.int .i64 y24)), .g, .g, .g, .g, .g, .g, .g, (.b false), .g, .g, (.l F61_m2_1 [] (.exit 0) (F61_x2_1 h y44)), .g]) (args := [.agg #[.int .i64 x1, .int .i64 x2, .bool x3, (sv v4), (sv v5), (sv v6)], .agg #[.int .i64 x7, .int .i64 x8, (sv v9), (sv v10), (sv v11)], .int .i64 x12, .int .i64 x13]) (h := h) (h' := h) (v := .bool false) (hC := (ai (F61_l2_1 h x1 x2 x3 l4 v4 hv4 l5 v5 hv5 l6 v6 hv6 x7 x8 l9 v9 hv9 l10 v10 hv10 l11 v11 hv11 x12 x13 y23 y24 (if y24 < y23 then y24 else y23) y44 e44 c45) kc45)) (hr := by kernel_rfl)
def enc86 (x : Int × Int) : List Value := [.int .i64 x.1, .int .i64 x.2]
def E86 (h : AHeap) (cs : List Value) (x : Int × Int) : Prop := cs = enc86 x
theorem E86_mono {h h' : AHeap} (le : h.sub h') (cs : List Value) (x : Int × Int) (H : E86 h cs x) : E86 h' cs x := H
def W86 (x : Int × Int) : Prop := (Lit.int .i64 x.1).wf = true ∧ (Lit.int .i64 x.2).wf = true ∧ True
set_option maxRecDepth 100000 in
theorem E86_wt {h : AHeap} {n : Nat} {cs : List Value} (H : WT Try.prog h n 86 cs) : ∃ x, E86 h cs x ∧ W86 x := by
  have k : SQ Try.prog h [.int .i64, .int .i64] cs := wt_flatS 2 n (by kernel_rfl) H
  obtain ⟨x0, r0, rfl, w0, k0⟩ := sq_int k
  obtain ⟨x1, r1, rfl, w1, k1⟩ := sq_int k0
  obtain rfl := sq_nil k1
  exact ⟨(x0, x1), rfl, ⟨w0, w1, trivial⟩⟩
end
end Go.Proofs.Ytimeninncpmaeaa.Abs
