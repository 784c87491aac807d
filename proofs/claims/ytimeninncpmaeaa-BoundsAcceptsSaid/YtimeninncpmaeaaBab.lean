/-
  Contracts, written by program: for each function what its call yields, and that it yields it.
-/
import Derived.Test.YtimeninncpmaeaaBaa
namespace Go.Proofs.Ytimeninncpmaeaa.Abs
open Go
set_option linter.unusedVariables false
set_option linter.unusedSimpArgs false

noncomputable section
/-! 32 jacquard/jacquardref28.Small -/
def F32_L : List Nat := [3]
def F32_D : List (Nat × List (Nat × Nat)) := []
def F32_m1_2 : List Bool := (true :: false :: false :: false :: (rp 64 true []))
def F32_m1_1 : List Bool := (true :: false :: false :: false :: (rp 7 true (false :: false :: (rp 55 true []))))
def F32_m1_0 : List Bool := (rp 6 true (false :: (rp 61 true [])))
def F32_s1 (l4 : List (Int × Int × Int × Int)) (a9 : Int) : Option (Int ⊕ Nat) :=
  (bif decide (a9 < (l4.length : Int)) then
   (Option.bind (at? l4 a9) fun y11 =>
   (bif decide (y11.2.2.1 > 60) then
    some (.inr 0)
   else
    (bif decide (y11.2.2.2 > 20) then
     some (.inr 0)
    else
     some (.inl (IntKind.i64.wrap (a9 + 1))))))
  else
   some (.inr 1))
def F32_h1 (h : AHeap) (x1 : Int) (x2 : Int) (x3 : Bool) (l4 : List (Int × Int × Int × Int)) (v4 : Hd) (v5 : Hd) (v6 : Hd) (x7 : Int) (x8 : Int)  (a9 : Int) : AS := ⟨(junk :: (.int .i64 x7) :: (.int .i64 x8) :: (.pointer (some ⟨3, 0, none⟩)) :: (rp 7 junk ((.int .i64 (l4.length : Int)) :: (.int .i64 a9) :: (rp 55 junk [])))), [(3, [.int .i64 x1, .int .i64 x2, .bool x3, (sv v4), (sv v5), (sv v6)])], h⟩
theorem F32_d1 : drawsOk F32_D (codeOf Try.prog 32 [1, 0, 1, 0, 0]) = true := by kernel_rfl
def F32_x1_0 (h : AHeap) (x1 : Int) (x2 : Int) (x3 : Bool) (v4 : Hd) (v5 : Hd) (v6 : Hd) (x7 : Int) (x8 : Int)  (r : Nat) : AS := ⟨(rp 6 junk ((.bool false) :: (rp 61 junk []))), [], h⟩
def F32_x1_1 (h : AHeap) (x1 : Int) (x2 : Int) (x3 : Bool) (v4 : Hd) (v5 : Hd) (v6 : Hd) (x7 : Int) (x8 : Int)  (r : Nat) : AS := ⟨(junk :: (.int .i64 x7) :: (.int .i64 x8) :: (.pointer (some ⟨3, 0, none⟩)) :: (rp 64 junk [])), [(3, [.int .i64 x1, .int .i64 x2, .bool x3, (sv v4), (sv v5), (sv v6)])], h⟩
def F32_x1 (h : AHeap) (x1 : Int) (x2 : Int) (x3 : Bool) (v4 : Hd) (v5 : Hd) (v6 : Hd) (x7 : Int) (x8 : Int) (r : Nat) : Exit × AS := (bif Nat.beq r 0 then (.ret, (F32_x1_0 h x1 x2 x3 v4 v5 v6 x7 x8 r)) else ((.exit 0), (F32_x1_1 h x1 x2 x3 v4 v5 v6 x7 x8 r)))
set_option maxRecDepth 100000 in
theorem F32_r1 (h : AHeap) (x1 : Int) (x2 : Int) (x3 : Bool) (l4 : List (Int × Int × Int × Int)) (v4 : Hd) (hv4 : SlE E57 4 h (sv v4) l4) (v5 : Hd) (v6 : Hd) (x7 : Int) (x8 : Int) (a9 : Int) (o : Int ⊕ Nat) : F32_s1 l4 a9 = some o → RdF Try.prog (codeOf Try.prog 32 [1, 0, 1, 0, 0]) (fun (s : Int) => (F32_h1 h x1 x2 x3 l4 v4 v5 v6 x7 x8 s)) (F32_x1 h x1 x2 x3 v4 v5 v6 x7 x8) (F32_h1 h x1 x2 x3 l4 v4 v5 v6 x7 x8 a9) o := by
  unfold F32_s1
  refine dec_bif (fun c10 => ?_) (fun c10 => ?_)
  · refine bind_opt fun y11 e11 => ?_
    obtain ⟨id11, off11, g11, cs11, ix11, at11, rfl⟩ := SlE.at hv4 e11
    have kc12 := (ai (At.one (P := Try.prog) (t := 3) (v := .int .i64 y11.2.2.1) at11 (by kernel_rfl) 2 rfl rfl) (ai ix11 (ai c10 trivial)))
    refine dec_bif (fun c12 => ?_) (fun c12 => ?_)
    · intro hr
      obtain rfl := Option.some.inj hr
      show AWp Try.prog _ (Ends1 ((F32_x1 h x1 x2 x3 v4 v5 v6 x7 x8) (0 : Nat)).1 ((F32_x1 h x1 x2 x3 v4 v5 v6 x7 x8) (0 : Nat)).2) _
      exact pEnd_sound good (L := F32_L) (D := F32_D) (its := [.g, (.b true), .g, .g, .g, .g, .g, (.ix id11 off11 g11), .g, (.ld (.int .i64 y11.2.2.1)), .g, .g, .n, .n, .n, .n, .n, .n, .n, (.p true), (.b true), .g]) (ds := F32_m1_0) (ks := [3]) (e := ((F32_x1 h x1 x2 x3 v4 v5 v6 x7 x8) (0 : Nat)).1) (s2 := ((F32_x1 h x1 x2 x3 v4 v5 v6 x7 x8) (0 : Nat)).2) (hC := (ai l_t (ai c12 (ai (g_tf c12) (ai (g_tf c12) (ai (g_tf c12) (ai (g_tf c12) (ai (g_tf c12) (ai (g_tf c12) (ai (g_tf c12) kc12)))))))))) (hd := F32_d1) (h := by kernel_rfl)
    · have kc13 := (ai c12 (ai (g_ff c12) (ai (At.one (P := Try.prog) (t := 3) (v := .int .i64 y11.2.2.2) at11 (by kernel_rfl) 3 rfl rfl) (ai (g_ff c12) (ai (g_ff c12) (ai ix11 (ai (g_ff c12) (ai (g_ff c12) (ai (g_ff c12) (ai (g_ff c12) kc12))))))))))
      refine dec_bif (fun c13 => ?_) (fun c13 => ?_)
      · intro hr
        obtain rfl := Option.some.inj hr
        show AWp Try.prog _ (Ends1 ((F32_x1 h x1 x2 x3 v4 v5 v6 x7 x8) (0 : Nat)).1 ((F32_x1 h x1 x2 x3 v4 v5 v6 x7 x8) (0 : Nat)).2) _
        exact pEnd_sound good (L := F32_L) (D := F32_D) (its := [.g, (.b true), .g, .g, .g, .g, .g, (.ix id11 off11 g11), .g, (.ld (.int .i64 y11.2.2.1)), .g, .g, (.w .g), (.w .g), (.w .g), (.w (.ix id11 off11 g11)), (.w .g), (.w (.ld (.int .i64 y11.2.2.2))), (.w .g), (.p false), (.b true), .g]) (ds := F32_m1_0) (ks := [3]) (e := ((F32_x1 h x1 x2 x3 v4 v5 v6 x7 x8) (0 : Nat)).1) (s2 := ((F32_x1 h x1 x2 x3 v4 v5 v6 x7 x8) (0 : Nat)).2) (hC := (ai c13 kc13)) (hd := F32_d1) (h := by kernel_rfl)
      · intro hr
        obtain rfl := Option.some.inj hr
        show AWp Try.prog _ (Ends1 .normal (F32_h1 h x1 x2 x3 l4 v4 v5 v6 x7 x8 (IntKind.i64.wrap (a9 + 1)))) _
        exact pEnd_sound good (L := F32_L) (D := F32_D) (its := [.g, (.b true), .g, .g, .g, .g, .g, (.ix id11 off11 g11), .g, (.ld (.int .i64 y11.2.2.1)), .g, .g, (.w .g), (.w .g), (.w .g), (.w (.ix id11 off11 g11)), (.w .g), (.w (.ld (.int .i64 y11.2.2.2))), (.w .g), (.p false), (.b false), .g, .g]) (ds := F32_m1_1) (ks := []) (e := .normal) (s2 := (F32_h1 h x1 x2 x3 l4 v4 v5 v6 x7 x8 (IntKind.i64.wrap (a9 + 1)))) (hC := (ai c13 kc13)) (hd := F32_d1) (h := by kernel_rfl)
  · intro hr
    obtain rfl := Option.some.inj hr
    show AWp Try.prog _ (Ends1 ((F32_x1 h x1 x2 x3 v4 v5 v6 x7 x8) (1 : Nat)).1 ((F32_x1 h x1 x2 x3 v4 v5 v6 x7 x8) (1 : Nat)).2) _
    exact pEnd_sound good (L := F32_L) (D := F32_D) (its := [.g, (.b false)]) (ds := F32_m1_2) (ks := []) (e := ((F32_x1 h x1 x2 x3 v4 v5 v6 x7 x8) (1 : Nat)).1) (s2 := ((F32_x1 h x1 x2 x3 v4 v5 v6 x7 x8) (1 : Nat)).2) (hC := (ai c10 trivial)) (hd := F32_d1) (h := by kernel_rfl)
theorem F32_l1_0 (h : AHeap) (x1 : Int) (x2 : Int) (x3 : Bool) (l4 : List (Int × Int × Int × Int)) (v4 : Hd) (hv4 : SlE E57 4 h (sv v4) l4) (v5 : Hd) (v6 : Hd) (x7 : Int) (x8 : Int) (x : Int) (r : Nat) (hl : loopO (fun (s : Int) => F32_s1 l4 s) x = some r) (q0 : Nat.beq r 0 = true) : AWp Try.prog (.loop (codeOf Try.prog 32 [1, 0, 1, 0, 0])) (Ends1 .ret (F32_x1_0 h x1 x2 x3 v4 v5 v6 x7 x8 r)) ((fun (s : Int) => (F32_h1 h x1 x2 x3 l4 v4 v5 v6 x7 x8 s)) x) := by
  have k := loop_fun (P := Try.prog) (c := (codeOf Try.prog 32 [1, 0, 1, 0, 0])) (step := (fun (s : Int) => F32_s1 l4 s)) (hd := (fun (s : Int) => (F32_h1 h x1 x2 x3 l4 v4 v5 v6 x7 x8 s))) (X := (F32_x1 h x1 x2 x3 v4 v5 v6 x7 x8)) (by intro t; unfold F32_x1; cases Nat.beq t 0 <;> (intro h; cases h)) (fun x => F32_r1 h x1 x2 x3 l4 v4 hv4 v5 v6 x7 x8 x) hl
  simp only [F32_x1, q0, cond_true, cond_false] at k
  exact k
theorem F32_l1_1 (h : AHeap) (x1 : Int) (x2 : Int) (x3 : Bool) (l4 : List (Int × Int × Int × Int)) (v4 : Hd) (hv4 : SlE E57 4 h (sv v4) l4) (v5 : Hd) (v6 : Hd) (x7 : Int) (x8 : Int) (x : Int) (r : Nat) (hl : loopO (fun (s : Int) => F32_s1 l4 s) x = some r) (q0 : Nat.beq r 0 = false) : AWp Try.prog (.loop (codeOf Try.prog 32 [1, 0, 1, 0, 0])) (Ends1 (.exit 0) (F32_x1_1 h x1 x2 x3 v4 v5 v6 x7 x8 r)) ((fun (s : Int) => (F32_h1 h x1 x2 x3 l4 v4 v5 v6 x7 x8 s)) x) := by
  have k := loop_fun (P := Try.prog) (c := (codeOf Try.prog 32 [1, 0, 1, 0, 0])) (step := (fun (s : Int) => F32_s1 l4 s)) (hd := (fun (s : Int) => (F32_h1 h x1 x2 x3 l4 v4 v5 v6 x7 x8 s))) (X := (F32_x1 h x1 x2 x3 v4 v5 v6 x7 x8)) (by intro t; unfold F32_x1; cases Nat.beq t 0 <;> (intro h; cases h)) (fun x => F32_r1 h x1 x2 x3 l4 v4 hv4 v5 v6 x7 x8 x) hl
  simp only [F32_x1, q0, cond_true, cond_false] at k
  exact k
def F32_m2_2 : List Bool := (true :: false :: false :: false :: (rp 64 true []))
def F32_m2_1 : List Bool := (true :: false :: false :: false :: (rp 30 true (false :: false :: (rp 32 true []))))
def F32_m2_0 : List Bool := (rp 6 true (false :: (rp 61 true [])))
def F32_s2 (l6 : List (Int × Int)) (a16 : Int) : Option (Int ⊕ Nat) :=
  (bif decide (a16 < (l6.length : Int)) then
   (Option.bind (at? l6 a16) fun y18 =>
   (bif decide (y18.2 > 20) then
    some (.inr 0)
   else
    some (.inl (IntKind.i64.wrap (a16 + 1)))))
  else
   some (.inr 1))
def F32_h2 (h : AHeap) (x1 : Int) (x2 : Int) (x3 : Bool) (v4 : Hd) (v5 : Hd) (l6 : List (Int × Int)) (v6 : Hd) (x7 : Int) (x8 : Int)  (a16 : Int) : AS := ⟨(junk :: (.int .i64 x7) :: (.int .i64 x8) :: (.pointer (some ⟨3, 0, none⟩)) :: (rp 30 junk ((.int .i64 (l6.length : Int)) :: (.int .i64 a16) :: (rp 32 junk [])))), [(3, [.int .i64 x1, .int .i64 x2, .bool x3, (sv v4), (sv v5), (sv v6)])], h⟩
theorem F32_d2 : drawsOk F32_D (codeOf Try.prog 32 [1, 1, 0, 1, 0, 0]) = true := by kernel_rfl
def F32_x2_0 (h : AHeap) (x1 : Int) (x2 : Int) (x3 : Bool) (v4 : Hd) (v5 : Hd) (v6 : Hd) (x7 : Int) (x8 : Int)  (r : Nat) : AS := ⟨(rp 6 junk ((.bool false) :: (rp 61 junk []))), [], h⟩
def F32_x2_1 (h : AHeap) (x1 : Int) (x2 : Int) (x3 : Bool) (v4 : Hd) (v5 : Hd) (v6 : Hd) (x7 : Int) (x8 : Int)  (r : Nat) : AS := ⟨(junk :: (.int .i64 x7) :: (.int .i64 x8) :: (.pointer (some ⟨3, 0, none⟩)) :: (rp 64 junk [])), [(3, [.int .i64 x1, .int .i64 x2, .bool x3, (sv v4), (sv v5), (sv v6)])], h⟩
def F32_x2 (h : AHeap) (x1 : Int) (x2 : Int) (x3 : Bool) (v4 : Hd) (v5 : Hd) (v6 : Hd) (x7 : Int) (x8 : Int) (r : Nat) : Exit × AS := (bif Nat.beq r 0 then (.ret, (F32_x2_0 h x1 x2 x3 v4 v5 v6 x7 x8 r)) else ((.exit 2), (F32_x2_1 h x1 x2 x3 v4 v5 v6 x7 x8 r)))
set_option maxRecDepth 100000 in
theorem F32_r2 (h : AHeap) (x1 : Int) (x2 : Int) (x3 : Bool) (v4 : Hd) (v5 : Hd) (l6 : List (Int × Int)) (v6 : Hd) (hv6 : SlE E61 2 h (sv v6) l6) (x7 : Int) (x8 : Int) (a16 : Int) (o : Int ⊕ Nat) : F32_s2 l6 a16 = some o → RdF Try.prog (codeOf Try.prog 32 [1, 1, 0, 1, 0, 0]) (fun (s : Int) => (F32_h2 h x1 x2 x3 v4 v5 l6 v6 x7 x8 s)) (F32_x2 h x1 x2 x3 v4 v5 v6 x7 x8) (F32_h2 h x1 x2 x3 v4 v5 l6 v6 x7 x8 a16) o := by
  unfold F32_s2
  refine dec_bif (fun c17 => ?_) (fun c17 => ?_)
  · refine bind_opt fun y18 e18 => ?_
    obtain ⟨id18, off18, g18, cs18, ix18, at18, rfl⟩ := SlE.at hv6 e18
    have kc19 := (ai (At.one (P := Try.prog) (t := 3) (v := .int .i64 y18.2) at18 (by kernel_rfl) 1 rfl rfl) (ai ix18 (ai c17 trivial)))
    refine dec_bif (fun c19 => ?_) (fun c19 => ?_)
    · intro hr
      obtain rfl := Option.some.inj hr
      show AWp Try.prog _ (Ends1 ((F32_x2 h x1 x2 x3 v4 v5 v6 x7 x8) (0 : Nat)).1 ((F32_x2 h x1 x2 x3 v4 v5 v6 x7 x8) (0 : Nat)).2) _
      exact pEnd_sound good (L := F32_L) (D := F32_D) (its := [.g, (.b true), .g, .g, .g, .g, .g, (.ix id18 off18 g18), .g, (.ld (.int .i64 y18.2)), .g, (.b true), .g]) (ds := F32_m2_0) (ks := [3]) (e := ((F32_x2 h x1 x2 x3 v4 v5 v6 x7 x8) (0 : Nat)).1) (s2 := ((F32_x2 h x1 x2 x3 v4 v5 v6 x7 x8) (0 : Nat)).2) (hC := (ai c19 kc19)) (hd := F32_d2) (h := by kernel_rfl)
    · intro hr
      obtain rfl := Option.some.inj hr
      show AWp Try.prog _ (Ends1 .normal (F32_h2 h x1 x2 x3 v4 v5 l6 v6 x7 x8 (IntKind.i64.wrap (a16 + 1)))) _
      exact pEnd_sound good (L := F32_L) (D := F32_D) (its := [.g, (.b true), .g, .g, .g, .g, .g, (.ix id18 off18 g18), .g, (.ld (.int .i64 y18.2)), .g, (.b false), .g, .g]) (ds := F32_m2_1) (ks := []) (e := .normal) (s2 := (F32_h2 h x1 x2 x3 v4 v5 l6 v6 x7 x8 (IntKind.i64.wrap (a16 + 1)))) (hC := (ai c19 kc19)) (hd := F32_d2) (h := by kernel_rfl)
  · intro hr
    obtain rfl := Option.some.inj hr
    show AWp Try.prog _ (Ends1 ((F32_x2 h x1 x2 x3 v4 v5 v6 x7 x8) (1 : Nat)).1 ((F32_x2 h x1 x2 x3 v4 v5 v6 x7 x8) (1 : Nat)).2) _
    exact pEnd_sound good (L := F32_L) (D := F32_D) (its := [.g, (.b false)]) (ds := F32_m2_2) (ks := []) (e := ((F32_x2 h x1 x2 x3 v4 v5 v6 x7 x8) (1 : Nat)).1) (s2 := ((F32_x2 h x1 x2 x3 v4 v5 v6 x7 x8) (1 : Nat)).2) (hC := (ai c17 trivial)) (hd := F32_d2) (h := by kernel_rfl)
theorem F32_l2_0 (h : AHeap) (x1 : Int) (x2 : Int) (x3 : Bool) (v4 : Hd) (v5 : Hd) (l6 : List (Int × Int)) (v6 : Hd) (hv6 : SlE E61 2 h (sv v6) l6) (x7 : Int) (x8 : Int) (x : Int) (r : Nat) (hl : loopO (fun (s : Int) => F32_s2 l6 s) x = some r) (q0 : Nat.beq r 0 = true) : AWp Try.prog (.loop (codeOf Try.prog 32 [1, 1, 0, 1, 0, 0])) (Ends1 .ret (F32_x2_0 h x1 x2 x3 v4 v5 v6 x7 x8 r)) ((fun (s : Int) => (F32_h2 h x1 x2 x3 v4 v5 l6 v6 x7 x8 s)) x) := by
  have k := loop_fun (P := Try.prog) (c := (codeOf Try.prog 32 [1, 1, 0, 1, 0, 0])) (step := (fun (s : Int) => F32_s2 l6 s)) (hd := (fun (s : Int) => (F32_h2 h x1 x2 x3 v4 v5 l6 v6 x7 x8 s))) (X := (F32_x2 h x1 x2 x3 v4 v5 v6 x7 x8)) (by intro t; unfold F32_x2; cases Nat.beq t 0 <;> (intro h; cases h)) (fun x => F32_r2 h x1 x2 x3 v4 v5 l6 v6 hv6 x7 x8 x) hl
  simp only [F32_x2, q0, cond_true, cond_false] at k
  exact k
theorem F32_l2_1 (h : AHeap) (x1 : Int) (x2 : Int) (x3 : Bool) (v4 : Hd) (v5 : Hd) (l6 : List (Int × Int)) (v6 : Hd) (hv6 : SlE E61 2 h (sv v6) l6) (x7 : Int) (x8 : Int) (x : Int) (r : Nat) (hl : loopO (fun (s : Int) => F32_s2 l6 s) x = some r) (q0 : Nat.beq r 0 = false) : AWp Try.prog (.loop (codeOf Try.prog 32 [1, 1, 0, 1, 0, 0])) (Ends1 (.exit 2) (F32_x2_1 h x1 x2 x3 v4 v5 v6 x7 x8 r)) ((fun (s : Int) => (F32_h2 h x1 x2 x3 v4 v5 l6 v6 x7 x8 s)) x) := by
  have k := loop_fun (P := Try.prog) (c := (codeOf Try.prog 32 [1, 1, 0, 1, 0, 0])) (step := (fun (s : Int) => F32_s2 l6 s)) (hd := (fun (s : Int) => (F32_h2 h x1 x2 x3 v4 v5 l6 v6 x7 x8 s))) (X := (F32_x2 h x1 x2 x3 v4 v5 v6 x7 x8)) (by intro t; unfold F32_x2; cases Nat.beq t 0 <;> (intro h; cases h)) (fun x => F32_r2 h x1 x2 x3 v4 v5 l6 v6 hv6 x7 x8 x) hl
  simp only [F32_x2, q0, cond_true, cond_false] at k
  exact k
def F32 (x1 : Int) (x2 : Int) (x3 : Bool) (l4 : List (Int × Int × Int × Int)) (l5 : List (Int × Int × Int × Int)) (l6 : List (Int × Int)) (x7 : Int) (x8 : Int) : Option (Bool) :=
  (Option.bind (loopO (fun (s : Int) => F32_s1 l4 s) 0) fun y14 =>
  (bif (Nat.beq y14 0) then
   some (false)
  else
   (Option.bind (loopO (fun (s : Int) => F32_s2 l6 s) 0) fun y20 =>
   (bif (Nat.beq y20 0) then
    some (false)
   else
    (bif decide (x1 ≤ x7) then
     (bif decide (x2 ≤ x8) then
      (bif decide ((l4.length : Int) ≤ 90) then
       some (decide ((l5.length : Int) ≤ 6))
      else
       some (false))
     else
      some (false))
    else
     some (false))))))
set_option maxRecDepth 100000 in
theorem F32_spec (x1 : Int) (x2 : Int) (x3 : Bool) (l4 : List (Int × Int × Int × Int)) (l5 : List (Int × Int × Int × Int)) (l6 : List (Int × Int)) (x7 : Int) (x8 : Int) (v4 : Hd) (v5 : Hd) (v6 : Hd) (h : AHeap) (hv4 : SlE E57 4 h (sv v4) l4) (hv5 : SlE E59 4 h (sv v5) l5) (hv6 : SlE E61 2 h (sv v6) l6) (r : Bool) : F32 x1 x2 x3 l4 l5 l6 x7 x8 = some r → ACalls Try.prog 32 [.agg #[.int .i64 x1, .int .i64 x2, .bool x3, (sv v4), (sv v5), (sv v6)], .int .i64 x7, .int .i64 x8] h (fun v' h'' => v' = (.bool r : Value) ∧ h'' = h) := by
  unfold F32
  refine bind_opt fun y14 e14 => ?_
  have kc15 := (ai (SlE.len hv4) trivial)
  refine dec_bif (fun c15 => ?_) (fun c15 => ?_)
  · intro hr
    obtain rfl := Option.some.inj hr
    exact pFun_sound good tab_ok (f := 32) (its := [.g, .g, .g, .g, (.ln l4.length), .g, (.l F32_m1_1 [] .ret (F32_x1_0 h x1 x2 x3 v4 v5 v6 x7 x8 y14))]) (args := [.agg #[.int .i64 x1, .int .i64 x2, .bool x3, (sv v4), (sv v5), (sv v6)], .int .i64 x7, .int .i64 x8]) (h := h) (h' := h) (v := .bool false) (hC := (ai (F32_l1_0 h x1 x2 x3 l4 v4 hv4 v5 v6 x7 x8 0 y14 e14 c15) kc15)) (hr := by kernel_rfl)
  · refine bind_opt fun y20 e20 => ?_
    have kc21 := (ai (SlE.len hv6) (ai (F32_l1_1 h x1 x2 x3 l4 v4 hv4 v5 v6 x7 x8 0 y14 e14 c15) kc15))
    refine dec_bif (fun c21 => ?_) (fun c21 => ?_)
    · intro hr
      obtain rfl := Option.some.inj hr
      exact pFun_sound good tab_ok (f := 32) (its := [.g, .g, .g, .g, (.ln l4.length), .g, (.l F32_m1_1 [] (.exit 0) (F32_x1_1 h x1 x2 x3 v4 v5 v6 x7 x8 y14)), .g, .g, (.ln l6.length), .g, (.l F32_m2_1 [] .ret (F32_x2_0 h x1 x2 x3 v4 v5 v6 x7 x8 y20))]) (args := [.agg #[.int .i64 x1, .int .i64 x2, .bool x3, (sv v4), (sv v5), (sv v6)], .int .i64 x7, .int .i64 x8]) (h := h) (h' := h) (v := .bool false) (hC := (ai (F32_l2_0 h x1 x2 x3 v4 v5 l6 v6 hv6 x7 x8 0 y20 e20 c21) kc21)) (hr := by kernel_rfl)
    · have kc22 := (ai (F32_l2_1 h x1 x2 x3 v4 v5 l6 v6 hv6 x7 x8 0 y20 e20 c21) kc21)
      refine dec_bif (fun c22 => ?_) (fun c22 => ?_)
      · have kc23 := (ai c22 (ai (g_tt c22) (ai (g_tt c22) (ai (g_tt c22) (ai (g_tt c22) kc22)))))
        refine dec_bif (fun c23 => ?_) (fun c23 => ?_)
        · have kc24 := (ai c23 (ai (g_tt c23) (ai (SlE.len hv4) (ai (g_tt c23) (ai (g_tt c23) (ai (g_tt c23) kc23))))))
          refine dec_bif (fun c24 => ?_) (fun c24 => ?_)
          · intro hr
            obtain rfl := Option.some.inj hr
            exact pFun_sound good tab_ok (f := 32) (its := [.g, .g, .g, .g, (.ln l4.length), .g, (.l F32_m1_1 [] (.exit 0) (F32_x1_1 h x1 x2 x3 v4 v5 v6 x7 x8 y14)), .g, .g, (.ln l6.length), .g, (.l F32_m2_1 [] (.exit 2) (F32_x2_1 h x1 x2 x3 v4 v5 v6 x7 x8 y20)), .g, .g, .g, .g, .g, (.w .g), (.w .g), (.w .g), (.w .g), (.p true), .g, (.w .g), (.w .g), (.w (.ln l4.length)), (.w .g), (.p true), .g, (.w .g), (.w .g), (.w (.ln l5.length)), (.w .g), (.p true), .g]) (args := [.agg #[.int .i64 x1, .int .i64 x2, .bool x3, (sv v4), (sv v5), (sv v6)], .int .i64 x7, .int .i64 x8]) (h := h) (h' := h) (v := .bool (decide ((l5.length : Int) ≤ 6))) (hC := (ai c24 (ai (g_tt c24) (ai (SlE.len hv5) (ai (g_tt c24) (ai (g_tt c24) (ai (g_tt c24) kc24))))))) (hr := by kernel_rfl)
          · intro hr
            obtain rfl := Option.some.inj hr
            exact pFun_sound good tab_ok (f := 32) (its := [.g, .g, .g, .g, (.ln l4.length), .g, (.l F32_m1_1 [] (.exit 0) (F32_x1_1 h x1 x2 x3 v4 v5 v6 x7 x8 y14)), .g, .g, (.ln l6.length), .g, (.l F32_m2_1 [] (.exit 2) (F32_x2_1 h x1 x2 x3 v4 v5 v6 x7 x8 y20)), .g, .g, .g, .g, .g, (.w .g), (.w .g), (.w .g), (.w .g), (.p true), .g, (.w .g), (.w .g), (.w (.ln l4.length)), (.w .g), (.p true), .g, .n, .n, .n, .n, (.p false), .g]) (args := [.agg #[.int .i64 x1, .int .i64 x2, .bool x3, (sv v4), (sv v5), (sv v6)], .int .i64 x7, .int .i64 x8]) (h := h) (h' := h) (v := .bool false) (hC := (ai c24 (ai (g_ft c24) (ai (g_ft c24) (ai (g_ft c24) (ai (g_ft c24) kc24)))))) (hr := by kernel_rfl)
        · intro hr
          obtain rfl := Option.some.inj hr
          exact pFun_sound good tab_ok (f := 32) (its := [.g, .g, .g, .g, (.ln l4.length), .g, (.l F32_m1_1 [] (.exit 0) (F32_x1_1 h x1 x2 x3 v4 v5 v6 x7 x8 y14)), .g, .g, (.ln l6.length), .g, (.l F32_m2_1 [] (.exit 2) (F32_x2_1 h x1 x2 x3 v4 v5 v6 x7 x8 y20)), .g, .g, .g, .g, .g, (.w .g), (.w .g), (.w .g), (.w .g), (.p true), .g, .n, .n, .n, .n, (.p false), .g, .n, .n, .n, .n, .g, .g]) (args := [.agg #[.int .i64 x1, .int .i64 x2, .bool x3, (sv v4), (sv v5), (sv v6)], .int .i64 x7, .int .i64 x8]) (h := h) (h' := h) (v := .bool false) (hC := (ai (g_ft l_f) (ai (g_ft l_f) (ai (g_ft l_f) (ai (g_ft l_f) (ai c23 (ai (g_ft c23) (ai (g_ft c23) (ai (g_ft c23) (ai (g_ft c23) kc23)))))))))) (hr := by kernel_rfl)
      · intro hr
        obtain rfl := Option.some.inj hr
        exact pFun_sound good tab_ok (f := 32) (its := [.g, .g, .g, .g, (.ln l4.length), .g, (.l F32_m1_1 [] (.exit 0) (F32_x1_1 h x1 x2 x3 v4 v5 v6 x7 x8 y14)), .g, .g, (.ln l6.length), .g, (.l F32_m2_1 [] (.exit 2) (F32_x2_1 h x1 x2 x3 v4 v5 v6 x7 x8 y20)), .g, .g, .g, .g, .g, .n, .n, .n, .n, (.p false), .g, .n, .n, .n, .n, .g, .g, .n, .n, .n, .n, .g, .g]) (args := [.agg #[.int .i64 x1, .int .i64 x2, .bool x3, (sv v4), (sv v5), (sv v6)], .int .i64 x7, .int .i64 x8]) (h := h) (h' := h) (v := .bool false) (hC := (ai (g_ft l_f) (ai (g_ft l_f) (ai (g_ft l_f) (ai (g_ft l_f) (ai (g_ft l_f) (ai (g_ft l_f) (ai (g_ft l_f) (ai (g_ft l_f) (ai c22 (ai (g_ft c22) (ai (g_ft c22) (ai (g_ft c22) (ai (g_ft c22) kc22)))))))))))))) (hr := by kernel_rfl)
/-! 12 jacquard/jacquardlaw31.few -/
def F12 (x1 : Int) (x2 : Int) (x3 : Bool) (l4 : List (Int × Int × Int × Int)) (l5 : List (Int × Int × Int × Int)) (l6 : List (Int × Int)) : Option (Bool) :=
  (Option.bind (F32 x1 x2 x3 l4 l5 l6 12 6) fun y7 =>
  (bif y7 then
   some (decide ((l6.length : Int) ≤ 20))
  else
   some (false)))
set_option maxRecDepth 100000 in
theorem F12_spec (x1 : Int) (x2 : Int) (x3 : Bool) (l4 : List (Int × Int × Int × Int)) (l5 : List (Int × Int × Int × Int)) (l6 : List (Int × Int)) (v4 : Hd) (v5 : Hd) (v6 : Hd) (h : AHeap) (hv4 : SlE E57 4 h (sv v4) l4) (hv5 : SlE E59 4 h (sv v5) l5) (hv6 : SlE E61 2 h (sv v6) l6) (r : Bool) : F12 x1 x2 x3 l4 l5 l6 = some r → ACalls Try.prog 12 [.agg #[.int .i64 x1, .int .i64 x2, .bool x3, (sv v4), (sv v5), (sv v6)]] h (fun v' h'' => v' = (.bool r : Value) ∧ h'' = h) := by
  unfold F12
  refine bind_opt fun y7 e7 => ?_
  have kc9 := (ai (F32_spec x1 x2 x3 l4 l5 l6 12 6 v4 v5 v6 h hv4 hv5 hv6 _ e7) trivial)
  refine dec_bif (fun c9 => ?_) (fun c9 => ?_)
  · intro hr
    obtain rfl := Option.some.inj hr
    exact pFun_sound good tab_ok (f := 12) (its := [.g, .g, .g, (.c (.bool y7) h), .g, (.w .g), (.w .g), (.w (.ln l6.length)), (.w .g), (.p true), .g]) (args := [.agg #[.int .i64 x1, .int .i64 x2, .bool x3, (sv v4), (sv v5), (sv v6)]]) (h := h) (h' := h) (v := .bool (decide ((l6.length : Int) ≤ 20))) (hC := (ai c9 (ai (g_tt c9) (ai (SlE.len hv6) (ai (g_tt c9) (ai (g_tt c9) (ai (g_tt c9) kc9))))))) (hr := by kernel_rfl)
  · intro hr
    obtain rfl := Option.some.inj hr
    exact pFun_sound good tab_ok (f := 12) (its := [.g, .g, .g, (.c (.bool y7) h), .g, .n, .n, .n, .n, (.p false), .g]) (args := [.agg #[.int .i64 x1, .int .i64 x2, .bool x3, (sv v4), (sv v5), (sv v6)]]) (h := h) (h' := h) (v := .bool false) (hC := (ai c9 (ai (g_ft c9) (ai (g_ft c9) (ai (g_ft c9) (ai (g_ft c9) kc9)))))) (hr := by kernel_rfl)
/-! 28 jacquard/jacquardref28.Source -/
def F28 (x1 : Int) (x2 : Int) (x3 : Bool) (l4 : List (Int × Int × Int × Int)) (l5 : List (Int × Int × Int × Int)) (l6 : List (Int × Int)) : Int :=
  (IntKind.i64.wrap (x1 + x2))
set_option maxRecDepth 100000 in
theorem F28_spec (x1 : Int) (x2 : Int) (x3 : Bool) (l4 : List (Int × Int × Int × Int)) (l5 : List (Int × Int × Int × Int)) (l6 : List (Int × Int)) (v4 : Hd) (v5 : Hd) (v6 : Hd) (h : AHeap) (hv4 : SlE E57 4 h (sv v4) l4) (hv5 : SlE E59 4 h (sv v5) l5) (hv6 : SlE E61 2 h (sv v6) l6) (r : Int) : F28 x1 x2 x3 l4 l5 l6 = r → ACalls Try.prog 28 [.agg #[.int .i64 x1, .int .i64 x2, .bool x3, (sv v4), (sv v5), (sv v6)]] h (fun v' h'' => v' = (.int .i64 r : Value) ∧ h'' = h) := by
  unfold F28
  intro hr
  subst hr
  exact pFun_sound good tab_ok (f := 28) (its := [.g, .g, .g, .g, .g, .g, .g, .g]) (args := [.agg #[.int .i64 x1, .int .i64 x2, .bool x3, (sv v4), (sv v5), (sv v6)]]) (h := h) (h' := h) (v := .int .i64 (IntKind.i64.wrap (x1 + x2))) (hC := trivial) (hr := by kernel_rfl)
/-! 26 jacquard/jacquardref28.End -/
def F26 (x1 : Int) (x2 : Int) (x3 : Bool) (l4 : List (Int × Int × Int × Int)) (l5 : List (Int × Int × Int × Int)) (l6 : List (Int × Int)) : Int :=
  (IntKind.i64.wrap ((IntKind.i64.wrap (x1 + x2)) + 1))
set_option maxRecDepth 100000 in
theorem F26_spec (x1 : Int) (x2 : Int) (x3 : Bool) (l4 : List (Int × Int × Int × Int)) (l5 : List (Int × Int × Int × Int)) (l6 : List (Int × Int)) (v4 : Hd) (v5 : Hd) (v6 : Hd) (h : AHeap) (hv4 : SlE E57 4 h (sv v4) l4) (hv5 : SlE E59 4 h (sv v5) l5) (hv6 : SlE E61 2 h (sv v6) l6) (r : Int) : F26 x1 x2 x3 l4 l5 l6 = r → ACalls Try.prog 26 [.agg #[.int .i64 x1, .int .i64 x2, .bool x3, (sv v4), (sv v5), (sv v6)]] h (fun v' h'' => v' = (.int .i64 r : Value) ∧ h'' = h) := by
  unfold F26
  intro hr
  subst hr
  exact pFun_sound good tab_ok (f := 26) (its := [.g, .g, .g, .g, .g, .g, .g, .g, .g]) (args := [.agg #[.int .i64 x1, .int .i64 x2, .bool x3, (sv v4), (sv v5), (sv v6)]]) (h := h) (h' := h) (v := .int .i64 (IntKind.i64.wrap ((IntKind.i64.wrap (x1 + x2)) + 1))) (hC := trivial) (hr := by kernel_rfl)
/-! 14 jacquard/jacquardref28.Valid -/
def F14_L : List Nat := [1, 5, 10, 12]
def F14_D : List (Nat × List (Nat × Nat)) := [(19, [(0, 2), (2, 2), (5, 2), (7, 2), (1, 3), (3, 2), (4, 5), (6, 1), (8, 2), (9, 2)]), (32, [(0, 2), (1, 2), (2, 2), (3, 2), (4, 2), (5, 2), (7, 2), (6, 3), (8, 1), (9, 2), (10, 2), (11, 2), (12, 2), (13, 2), (14, 2), (15, 2), (16, 2), (17, 2), (18, 2), (19, 2), (20, 2), (21, 2), (22, 2), (23, 2), (24, 2), (25, 2), (26, 2), (27, 2), (28, 2), (29, 2), (30, 2), (31, 2), (32, 2), (33, 2)])]
def F14__1 (x1 : Int) (x2 : Int) (y14 : Int × Int × Int × Int) : Bool := decide (y14.1 ≥ (IntKind.i64.wrap ((IntKind.i64.wrap ((IntKind.i64.wrap (x1 + x2)) + 2)) - 1)))
def F14__2 (x1 : Int) (x2 : Int) : Int := (IntKind.i64.wrap ((IntKind.i64.wrap (2 * (IntKind.i64.wrap ((IntKind.i64.wrap (x1 + x2)) + 2)))) - 3))
def F14__3 (x1 : Int) (x2 : Int) (a28 : Int) : Bool := decide (a28 < (IntKind.i64.wrap ((IntKind.i64.wrap ((IntKind.i64.wrap (x1 + x2)) + 2)) - 1)))
def F14__4 (x1 : Int) (x2 : Int) (x3 : Bool) (l4 : List (Int × Int × Int × Int)) (l5 : List (Int × Int × Int × Int)) (l6 : List (Int × Int)) (a28 : Int) (y32 : Int × Int × Int × Int) : Bool := (!((y32.1 == (F28 x1 x2 x3 l4 l5 l6)) && ((y32.2.1 == (IntKind.i64.wrap (a28 + 1))) && ((y32.2.2.1 == 0) && ((y32.2.2.2 == 0) && true)))))
def F14__5 (x1 : Int) (x2 : Int) (x3 : Bool) (l4 : List (Int × Int × Int × Int)) (l5 : List (Int × Int × Int × Int)) (l6 : List (Int × Int)) (a28 : Int) (y35 : Int × Int × Int × Int) : Bool := (!((y35.1 == (F28 x1 x2 x3 l4 l5 l6)) && ((y35.2.1 == a28) && ((y35.2.2.1 == 0) && ((y35.2.2.2 == 0) && true)))))
def F14__6 (x1 : Int) (x2 : Int) (a49 : Int) : Bool := decide (a49 < (IntKind.i64.wrap ((IntKind.i64.wrap ((IntKind.i64.wrap (x1 + x2)) + 2)) - 2)))
def F14__7 (x1 : Int) (x2 : Int) (a49 : Int) : Int := (IntKind.i64.wrap ((IntKind.i64.wrap ((IntKind.i64.wrap ((IntKind.i64.wrap (x1 + x2)) + 2)) - 1)) + a49))
def F14_m1_2 : List Bool := (true :: false :: true :: false :: (rp 271 true []))
def F14_m1_1 : List Bool := (true :: false :: true :: false :: (rp 43 true (false :: false :: (rp 226 true []))))
def F14_m1_0 : List Bool := (true :: true :: false :: (rp 272 true []))
def F14_s1 (x1 : Int) (x2 : Int) (x3 : Bool) (l4 : List (Int × Int × Int × Int)) (a12 : Int) : Option (Int ⊕ Nat) :=
  (bif decide (a12 < (l4.length : Int)) then
   (Option.bind (at? l4 a12) fun y14 =>
   (bif decide (y14.1 < 0) then
    some (.inr 0)
   else
    (bif (F14__1 x1 x2 y14) then
     some (.inr 0)
    else
     (bif decide (y14.2.1 < 0) then
      some (.inr 0)
     else
      (bif decide (y14.2.1 ≥ (IntKind.i64.wrap ((IntKind.i64.wrap (x1 + x2)) + 2))) then
       some (.inr 0)
      else
       (bif decide (y14.2.2.1 < 0) then
        some (.inr 0)
       else
        (bif decide (y14.2.2.1 > 4096) then
         some (.inr 0)
        else
         (bif decide (y14.2.2.2 < 0) then
          some (.inr 0)
         else
          (bif decide (y14.2.2.2 > 256) then
           some (.inr 0)
          else
           (bif decide (y14.2.2.2 > 0) then
            (bif (!x3) then
             some (.inr 0)
            else
             some (.inl (IntKind.i64.wrap (a12 + 1))))
           else
            some (.inl (IntKind.i64.wrap (a12 + 1)))))))))))))
  else
   some (.inr 1))
def F14_h1 (h : AHeap) (x1 : Int) (x2 : Int) (x3 : Bool) (l4 : List (Int × Int × Int × Int)) (v4 : Hd) (v5 : Hd) (v6 : Hd)  (a12 : Int) : AS := ⟨(junk :: (.pointer (some ⟨1, 0, none⟩)) :: junk :: (.int .i64 (IntKind.i64.wrap ((IntKind.i64.wrap (x1 + x2)) + 2))) :: (rp 43 junk ((.int .i64 (l4.length : Int)) :: (.int .i64 a12) :: (rp 226 junk [])))), [(1, [.int .i64 x1, .int .i64 x2, .bool x3, (sv v4), (sv v5), (sv v6)])], h⟩
theorem F14_d1 : drawsOk F14_D (codeOf Try.prog 14 [1, 1, 1, 0, 1, 0, 0]) = true := by kernel_rfl
def F14_x1_0 (h : AHeap) (x1 : Int) (x2 : Int) (x3 : Bool) (v4 : Hd) (v5 : Hd) (v6 : Hd)  (r : Nat) : AS := ⟨(junk :: junk :: (.bool false) :: (rp 272 junk [])), [], h⟩
def F14_x1_1 (h : AHeap) (x1 : Int) (x2 : Int) (x3 : Bool) (v4 : Hd) (v5 : Hd) (v6 : Hd)  (r : Nat) : AS := ⟨(junk :: (.pointer (some ⟨1, 0, none⟩)) :: junk :: (.int .i64 (IntKind.i64.wrap ((IntKind.i64.wrap (x1 + x2)) + 2))) :: (rp 271 junk [])), [(1, [.int .i64 x1, .int .i64 x2, .bool x3, (sv v4), (sv v5), (sv v6)])], h⟩
def F14_x1 (h : AHeap) (x1 : Int) (x2 : Int) (x3 : Bool) (v4 : Hd) (v5 : Hd) (v6 : Hd) (r : Nat) : Exit × AS := (bif Nat.beq r 0 then (.ret, (F14_x1_0 h x1 x2 x3 v4 v5 v6 r)) else ((.exit 0), (F14_x1_1 h x1 x2 x3 v4 v5 v6 r)))
set_option maxRecDepth 100000 in
theorem F14_r1 (h : AHeap) (x1 : Int) (x2 : Int) (x3 : Bool) (l4 : List (Int × Int × Int × Int)) (v4 : Hd) (hv4 : SlE E57 4 h (sv v4) l4) (v5 : Hd) (v6 : Hd) (a12 : Int) (o : Int ⊕ Nat) : F14_s1 x1 x2 x3 l4 a12 = some o → RdF Try.prog (codeOf Try.prog 14 [1, 1, 1, 0, 1, 0, 0]) (fun (s : Int) => (F14_h1 h x1 x2 x3 l4 v4 v5 v6 s)) (F14_x1 h x1 x2 x3 v4 v5 v6) (F14_h1 h x1 x2 x3 l4 v4 v5 v6 a12) o := by
  unfold F14_s1
  refine dec_bif (fun c13 => ?_) (fun c13 => ?_)
  · refine bind_opt fun y14 e14 => ?_
    obtain ⟨id14, off14, g14, cs14, ix14, at14, rfl⟩ := SlE.at hv4 e14
    have kc15 := (ai (At.agg (P := Try.prog) (t := 57) (v := .agg #[.int .i64 y14.1, .int .i64 y14.2.1, .int .i64 y14.2.2.1, .int .i64 y14.2.2.2]) (m := 4) at14 (by kernel_rfl) (by kernel_rfl) 0 (by kernel_rfl) rfl) (ai ix14 (ai c13 trivial)))
    refine dec_bif (fun c15 => ?_) (fun c15 => ?_)
    · intro hr
      obtain rfl := Option.some.inj hr
      show AWp Try.prog _ (Ends1 ((F14_x1 h x1 x2 x3 v4 v5 v6) (0 : Nat)).1 ((F14_x1 h x1 x2 x3 v4 v5 v6) (0 : Nat)).2) _
      exact pEnd_sound good (L := F14_L) (D := F14_D) (its := [.g, (.b true), .g, .g, .g, .g, .g, (.ix id14 off14 g14), (.ld (.agg #[.int .i64 y14.1, .int .i64 y14.2.1, .int .i64 y14.2.2.1, .int .i64 y14.2.2.2])), .g, .g, .g, .g, .g, .g, .n, .n, .n, .n, .n, (.p true), .g, .n, .n, .n, .g, .g, .n, .n, .n, .n, .g, .g, .n, .n, .n, .g, .g, .n, .n, .n, .g, .g, .n, .n, .n, .g, .g, .n, .n, .n, .g, .g, .n, .n, .n, .n, .n, .n, .n, .n, .g, (.b true), .g]) (ds := F14_m1_0) (ks := [1, 5]) (e := ((F14_x1 h x1 x2 x3 v4 v5 v6) (0 : Nat)).1) (s2 := ((F14_x1 h x1 x2 x3 v4 v5 v6) (0 : Nat)).2) (hC := (ai l_t (ai (g_tf l_t) (ai l_f (ai l_f (ai l_f (ai (g_tf l_t) (ai (g_tf l_t) (ai (g_tf l_t) (ai (g_tf l_t) (ai (g_tf l_t) (ai (g_tf l_t) (ai (g_tf l_t) (ai (g_tf l_t) (ai (g_tf l_t) (ai (g_tf l_t) (ai (g_tf l_t) (ai (g_tf l_t) (ai (g_tf l_t) (ai (g_tf l_t) (ai (g_tf l_t) (ai (g_tf l_t) (ai (g_tf l_t) (ai (g_tf l_t) (ai (g_tf l_t) (ai (g_tf l_t) (ai (g_tf l_t) (ai (g_tf l_t) (ai (g_tf l_t) (ai c15 (ai (g_tf c15) (ai (g_tf c15) (ai (g_tf c15) (ai (g_tf c15) (ai (g_tf c15) kc15))))))))))))))))))))))))))))))))))) (hd := F14_d1) (h := by kernel_rfl)
    · have kc16 := (ai c15 (ai (g_ff c15) (ai (g_ff c15) (ai (g_ff c15) (ai (g_ff c15) (ai (g_ff c15) kc15))))))
      refine dec_bif (fun c16 => ?_) (fun c16 => ?_)
      · intro hr
        obtain rfl := Option.some.inj hr
        show AWp Try.prog _ (Ends1 ((F14_x1 h x1 x2 x3 v4 v5 v6) (0 : Nat)).1 ((F14_x1 h x1 x2 x3 v4 v5 v6) (0 : Nat)).2) _
        exact pEnd_sound good (L := F14_L) (D := F14_D) (its := [.g, (.b true), .g, .g, .g, .g, .g, (.ix id14 off14 g14), (.ld (.agg #[.int .i64 y14.1, .int .i64 y14.2.1, .int .i64 y14.2.2.1, .int .i64 y14.2.2.2])), .g, .g, .g, .g, .g, .g, (.w .g), (.w .g), (.w .g), (.w .g), (.w .g), (.p false), .g, .n, .n, .n, (.p true), .g, .n, .n, .n, .n, .g, .g, .n, .n, .n, .g, .g, .n, .n, .n, .g, .g, .n, .n, .n, .g, .g, .n, .n, .n, .g, .g, .n, .n, .n, .n, .n, .n, .n, .n, .g, (.b true), .g]) (ds := F14_m1_0) (ks := [1, 5]) (e := ((F14_x1 h x1 x2 x3 v4 v5 v6) (0 : Nat)).1) (s2 := ((F14_x1 h x1 x2 x3 v4 v5 v6) (0 : Nat)).2) (hC := (ai l_t (ai (g_tf l_t) (ai l_f (ai l_f (ai l_f (ai (g_tf l_t) (ai (g_tf l_t) (ai (g_tf l_t) (ai (g_tf l_t) (ai (g_tf l_t) (ai (g_tf l_t) (ai (g_tf l_t) (ai (g_tf l_t) (ai (g_tf l_t) (ai (g_tf l_t) (ai (g_tf l_t) (ai (g_tf l_t) (ai (g_tf l_t) (ai (g_tf l_t) (ai (g_tf l_t) (ai (g_tf l_t) (ai (g_tf l_t) (ai (g_tf l_t) (ai (g_tf l_t) (ai (g_tf l_t) (ai c16 (ai (g_tf c16) (ai (g_tf c16) (ai (g_tf c16) kc16)))))))))))))))))))))))))))))) (hd := F14_d1) (h := by kernel_rfl)
      · have kc17 := (ai c16 (ai (g_ff c16) (ai (g_ff c16) (ai (g_ff c16) kc16))))
        refine dec_bif (fun c17 => ?_) (fun c17 => ?_)
        · intro hr
          obtain rfl := Option.some.inj hr
          show AWp Try.prog _ (Ends1 ((F14_x1 h x1 x2 x3 v4 v5 v6) (0 : Nat)).1 ((F14_x1 h x1 x2 x3 v4 v5 v6) (0 : Nat)).2) _
          exact pEnd_sound good (L := F14_L) (D := F14_D) (its := [.g, (.b true), .g, .g, .g, .g, .g, (.ix id14 off14 g14), (.ld (.agg #[.int .i64 y14.1, .int .i64 y14.2.1, .int .i64 y14.2.2.1, .int .i64 y14.2.2.2])), .g, .g, .g, .g, .g, .g, (.w .g), (.w .g), (.w .g), (.w .g), (.w .g), (.p false), .g, (.w .g), (.w .g), (.w .g), (.p false), .g, .n, .n, .n, .n, (.p true), .g, .n, .n, .n, .g, .g, .n, .n, .n, .g, .g, .n, .n, .n, .g, .g, .n, .n, .n, .g, .g, .n, .n, .n, .n, .n, .n, .n, .n, .g, (.b true), .g]) (ds := F14_m1_0) (ks := [1, 5]) (e := ((F14_x1 h x1 x2 x3 v4 v5 v6) (0 : Nat)).1) (s2 := ((F14_x1 h x1 x2 x3 v4 v5 v6) (0 : Nat)).2) (hC := (ai l_t (ai (g_tf l_t) (ai l_f (ai l_f (ai l_f (ai (g_tf l_t) (ai (g_tf l_t) (ai (g_tf l_t) (ai (g_tf l_t) (ai (g_tf l_t) (ai (g_tf l_t) (ai (g_tf l_t) (ai (g_tf l_t) (ai (g_tf l_t) (ai (g_tf l_t) (ai (g_tf l_t) (ai (g_tf l_t) (ai (g_tf l_t) (ai (g_tf l_t) (ai (g_tf l_t) (ai (g_tf l_t) (ai c17 (ai (g_tf c17) (ai (g_tf c17) (ai (g_tf c17) (ai (g_tf c17) kc17))))))))))))))))))))))))))) (hd := F14_d1) (h := by kernel_rfl)
        · have kc18 := (ai c17 (ai (g_ff c17) (ai (g_ff c17) (ai (g_ff c17) (ai (g_ff c17) kc17)))))
          refine dec_bif (fun c18 => ?_) (fun c18 => ?_)
          · intro hr
            obtain rfl := Option.some.inj hr
            show AWp Try.prog _ (Ends1 ((F14_x1 h x1 x2 x3 v4 v5 v6) (0 : Nat)).1 ((F14_x1 h x1 x2 x3 v4 v5 v6) (0 : Nat)).2) _
            exact pEnd_sound good (L := F14_L) (D := F14_D) (its := [.g, (.b true), .g, .g, .g, .g, .g, (.ix id14 off14 g14), (.ld (.agg #[.int .i64 y14.1, .int .i64 y14.2.1, .int .i64 y14.2.2.1, .int .i64 y14.2.2.2])), .g, .g, .g, .g, .g, .g, (.w .g), (.w .g), (.w .g), (.w .g), (.w .g), (.p false), .g, (.w .g), (.w .g), (.w .g), (.p false), .g, (.w .g), (.w .g), (.w .g), (.w .g), (.p false), .g, .n, .n, .n, (.p true), .g, .n, .n, .n, .g, .g, .n, .n, .n, .g, .g, .n, .n, .n, .g, .g, .n, .n, .n, .n, .n, .n, .n, .n, .g, (.b true), .g]) (ds := F14_m1_0) (ks := [1, 5]) (e := ((F14_x1 h x1 x2 x3 v4 v5 v6) (0 : Nat)).1) (s2 := ((F14_x1 h x1 x2 x3 v4 v5 v6) (0 : Nat)).2) (hC := (ai l_t (ai (g_tf l_t) (ai l_f (ai l_f (ai l_f (ai (g_tf l_t) (ai (g_tf l_t) (ai (g_tf l_t) (ai (g_tf l_t) (ai (g_tf l_t) (ai (g_tf l_t) (ai (g_tf l_t) (ai (g_tf l_t) (ai (g_tf l_t) (ai (g_tf l_t) (ai (g_tf l_t) (ai (g_tf l_t) (ai (g_tf l_t) (ai c18 (ai (g_tf c18) (ai (g_tf c18) (ai (g_tf c18) kc18))))))))))))))))))))))) (hd := F14_d1) (h := by kernel_rfl)
          · have kc19 := (ai c18 (ai (g_ff c18) (ai (g_ff c18) (ai (g_ff c18) kc18))))
            refine dec_bif (fun c19 => ?_) (fun c19 => ?_)
            · intro hr
              obtain rfl := Option.some.inj hr
              show AWp Try.prog _ (Ends1 ((F14_x1 h x1 x2 x3 v4 v5 v6) (0 : Nat)).1 ((F14_x1 h x1 x2 x3 v4 v5 v6) (0 : Nat)).2) _
              exact pEnd_sound good (L := F14_L) (D := F14_D) (its := [.g, (.b true), .g, .g, .g, .g, .g, (.ix id14 off14 g14), (.ld (.agg #[.int .i64 y14.1, .int .i64 y14.2.1, .int .i64 y14.2.2.1, .int .i64 y14.2.2.2])), .g, .g, .g, .g, .g, .g, (.w .g), (.w .g), (.w .g), (.w .g), (.w .g), (.p false), .g, (.w .g), (.w .g), (.w .g), (.p false), .g, (.w .g), (.w .g), (.w .g), (.w .g), (.p false), .g, (.w .g), (.w .g), (.w .g), (.p false), .g, .n, .n, .n, (.p true), .g, .n, .n, .n, .g, .g, .n, .n, .n, .g, .g, .n, .n, .n, .n, .n, .n, .n, .n, .g, (.b true), .g]) (ds := F14_m1_0) (ks := [1, 5]) (e := ((F14_x1 h x1 x2 x3 v4 v5 v6) (0 : Nat)).1) (s2 := ((F14_x1 h x1 x2 x3 v4 v5 v6) (0 : Nat)).2) (hC := (ai l_t (ai (g_tf l_t) (ai l_f (ai l_f (ai l_f (ai (g_tf l_t) (ai (g_tf l_t) (ai (g_tf l_t) (ai (g_tf l_t) (ai (g_tf l_t) (ai (g_tf l_t) (ai (g_tf l_t) (ai (g_tf l_t) (ai (g_tf l_t) (ai (g_tf l_t) (ai c19 (ai (g_tf c19) (ai (g_tf c19) (ai (g_tf c19) kc19)))))))))))))))))))) (hd := F14_d1) (h := by kernel_rfl)
            · have kc20 := (ai c19 (ai (g_ff c19) (ai (g_ff c19) (ai (g_ff c19) kc19))))
              refine dec_bif (fun c20 => ?_) (fun c20 => ?_)
              · intro hr
                obtain rfl := Option.some.inj hr
                show AWp Try.prog _ (Ends1 ((F14_x1 h x1 x2 x3 v4 v5 v6) (0 : Nat)).1 ((F14_x1 h x1 x2 x3 v4 v5 v6) (0 : Nat)).2) _
                exact pEnd_sound good (L := F14_L) (D := F14_D) (its := [.g, (.b true), .g, .g, .g, .g, .g, (.ix id14 off14 g14), (.ld (.agg #[.int .i64 y14.1, .int .i64 y14.2.1, .int .i64 y14.2.2.1, .int .i64 y14.2.2.2])), .g, .g, .g, .g, .g, .g, (.w .g), (.w .g), (.w .g), (.w .g), (.w .g), (.p false), .g, (.w .g), (.w .g), (.w .g), (.p false), .g, (.w .g), (.w .g), (.w .g), (.w .g), (.p false), .g, (.w .g), (.w .g), (.w .g), (.p false), .g, (.w .g), (.w .g), (.w .g), (.p false), .g, .n, .n, .n, (.p true), .g, .n, .n, .n, .g, .g, .n, .n, .n, .n, .n, .n, .n, .n, .g, (.b true), .g]) (ds := F14_m1_0) (ks := [1, 5]) (e := ((F14_x1 h x1 x2 x3 v4 v5 v6) (0 : Nat)).1) (s2 := ((F14_x1 h x1 x2 x3 v4 v5 v6) (0 : Nat)).2) (hC := (ai l_t (ai (g_tf l_t) (ai l_f (ai l_f (ai l_f (ai (g_tf l_t) (ai (g_tf l_t) (ai (g_tf l_t) (ai (g_tf l_t) (ai (g_tf l_t) (ai (g_tf l_t) (ai (g_tf l_t) (ai c20 (ai (g_tf c20) (ai (g_tf c20) (ai (g_tf c20) kc20))))))))))))))))) (hd := F14_d1) (h := by kernel_rfl)
              · have kc21 := (ai c20 (ai (g_ff c20) (ai (g_ff c20) (ai (g_ff c20) kc20))))
                refine dec_bif (fun c21 => ?_) (fun c21 => ?_)
                · intro hr
                  obtain rfl := Option.some.inj hr
                  show AWp Try.prog _ (Ends1 ((F14_x1 h x1 x2 x3 v4 v5 v6) (0 : Nat)).1 ((F14_x1 h x1 x2 x3 v4 v5 v6) (0 : Nat)).2) _
                  exact pEnd_sound good (L := F14_L) (D := F14_D) (its := [.g, (.b true), .g, .g, .g, .g, .g, (.ix id14 off14 g14), (.ld (.agg #[.int .i64 y14.1, .int .i64 y14.2.1, .int .i64 y14.2.2.1, .int .i64 y14.2.2.2])), .g, .g, .g, .g, .g, .g, (.w .g), (.w .g), (.w .g), (.w .g), (.w .g), (.p false), .g, (.w .g), (.w .g), (.w .g), (.p false), .g, (.w .g), (.w .g), (.w .g), (.w .g), (.p false), .g, (.w .g), (.w .g), (.w .g), (.p false), .g, (.w .g), (.w .g), (.w .g), (.p false), .g, (.w .g), (.w .g), (.w .g), (.p false), .g, .n, .n, .n, (.p true), .g, .n, .n, .n, .n, .n, .n, .n, .n, .g, (.b true), .g]) (ds := F14_m1_0) (ks := [1, 5]) (e := ((F14_x1 h x1 x2 x3 v4 v5 v6) (0 : Nat)).1) (s2 := ((F14_x1 h x1 x2 x3 v4 v5 v6) (0 : Nat)).2) (hC := (ai l_t (ai (g_tf l_t) (ai l_f (ai l_f (ai l_f (ai (g_tf l_t) (ai (g_tf l_t) (ai (g_tf l_t) (ai (g_tf l_t) (ai c21 (ai (g_tf c21) (ai (g_tf c21) (ai (g_tf c21) kc21)))))))))))))) (hd := F14_d1) (h := by kernel_rfl)
                · have kc22 := (ai c21 (ai (g_ff c21) (ai (g_ff c21) (ai (g_ff c21) kc21))))
                  refine dec_bif (fun c22 => ?_) (fun c22 => ?_)
                  · intro hr
                    obtain rfl := Option.some.inj hr
                    show AWp Try.prog _ (Ends1 ((F14_x1 h x1 x2 x3 v4 v5 v6) (0 : Nat)).1 ((F14_x1 h x1 x2 x3 v4 v5 v6) (0 : Nat)).2) _
                    exact pEnd_sound good (L := F14_L) (D := F14_D) (its := [.g, (.b true), .g, .g, .g, .g, .g, (.ix id14 off14 g14), (.ld (.agg #[.int .i64 y14.1, .int .i64 y14.2.1, .int .i64 y14.2.2.1, .int .i64 y14.2.2.2])), .g, .g, .g, .g, .g, .g, (.w .g), (.w .g), (.w .g), (.w .g), (.w .g), (.p false), .g, (.w .g), (.w .g), (.w .g), (.p false), .g, (.w .g), (.w .g), (.w .g), (.w .g), (.p false), .g, (.w .g), (.w .g), (.w .g), (.p false), .g, (.w .g), (.w .g), (.w .g), (.p false), .g, (.w .g), (.w .g), (.w .g), (.p false), .g, (.w .g), (.w .g), (.w .g), (.p false), .g, .n, .n, .n, .n, .n, .n, .n, .n, (.p true), (.b true), .g]) (ds := F14_m1_0) (ks := [1, 5]) (e := ((F14_x1 h x1 x2 x3 v4 v5 v6) (0 : Nat)).1) (s2 := ((F14_x1 h x1 x2 x3 v4 v5 v6) (0 : Nat)).2) (hC := (ai l_t (ai c22 (ai (g_tf c22) (ai l_f (ai l_f (ai l_f (ai (g_tf c22) (ai (g_tf c22) (ai (g_tf c22) (ai (g_tf c22) kc22))))))))))) (hd := F14_d1) (h := by kernel_rfl)
                  · have kc23 := (ai (g_ff c22) (ai (g_ff c22) (ai (g_ff c22) (ai (g_ff c22) kc22))))
                    refine dec_bif (fun c23 => ?_) (fun c23 => ?_)
                    · have kc24 := (ai c22 (ai c23 (ai (g_ff c22) (ai (g_tt c23) (ai (g_tt c23) (ai (g_tt c23) kc23))))))
                      refine dec_bif (fun c24 => ?_) (fun c24 => ?_)
                      · intro hr
                        obtain rfl := Option.some.inj hr
                        show AWp Try.prog _ (Ends1 ((F14_x1 h x1 x2 x3 v4 v5 v6) (0 : Nat)).1 ((F14_x1 h x1 x2 x3 v4 v5 v6) (0 : Nat)).2) _
                        exact pEnd_sound good (L := F14_L) (D := F14_D) (its := [.g, (.b true), .g, .g, .g, .g, .g, (.ix id14 off14 g14), (.ld (.agg #[.int .i64 y14.1, .int .i64 y14.2.1, .int .i64 y14.2.2.1, .int .i64 y14.2.2.2])), .g, .g, .g, .g, .g, .g, (.w .g), (.w .g), (.w .g), (.w .g), (.w .g), (.p false), .g, (.w .g), (.w .g), (.w .g), (.p false), .g, (.w .g), (.w .g), (.w .g), (.w .g), (.p false), .g, (.w .g), (.w .g), (.w .g), (.p false), .g, (.w .g), (.w .g), (.w .g), (.p false), .g, (.w .g), (.w .g), (.w .g), (.p false), .g, (.w .g), (.w .g), (.w .g), (.p false), .g, (.w .g), (.w .g), (.w .g), (.w .g), (.w .g), (.w .g), (.w .g), (.w (.p true)), (.p false), (.b true), .g]) (ds := F14_m1_0) (ks := [1, 5]) (e := ((F14_x1 h x1 x2 x3 v4 v5 v6) (0 : Nat)).1) (s2 := ((F14_x1 h x1 x2 x3 v4 v5 v6) (0 : Nat)).2) (hC := (ai c24 kc24)) (hd := F14_d1) (h := by kernel_rfl)
                      · intro hr
                        obtain rfl := Option.some.inj hr
                        show AWp Try.prog _ (Ends1 .normal (F14_h1 h x1 x2 x3 l4 v4 v5 v6 (IntKind.i64.wrap (a12 + 1)))) _
                        exact pEnd_sound good (L := F14_L) (D := F14_D) (its := [.g, (.b true), .g, .g, .g, .g, .g, (.ix id14 off14 g14), (.ld (.agg #[.int .i64 y14.1, .int .i64 y14.2.1, .int .i64 y14.2.2.1, .int .i64 y14.2.2.2])), .g, .g, .g, .g, .g, .g, (.w .g), (.w .g), (.w .g), (.w .g), (.w .g), (.p false), .g, (.w .g), (.w .g), (.w .g), (.p false), .g, (.w .g), (.w .g), (.w .g), (.w .g), (.p false), .g, (.w .g), (.w .g), (.w .g), (.p false), .g, (.w .g), (.w .g), (.w .g), (.p false), .g, (.w .g), (.w .g), (.w .g), (.p false), .g, (.w .g), (.w .g), (.w .g), (.p false), .g, (.w .g), (.w .g), (.w .g), (.w .g), (.w .g), (.w .g), (.w .g), (.w (.p true)), (.p false), (.b false), .g, .g]) (ds := F14_m1_1) (ks := [5]) (e := .normal) (s2 := (F14_h1 h x1 x2 x3 l4 v4 v5 v6 (IntKind.i64.wrap (a12 + 1)))) (hC := (ai c24 kc24)) (hd := F14_d1) (h := by kernel_rfl)
                    · intro hr
                      obtain rfl := Option.some.inj hr
                      show AWp Try.prog _ (Ends1 .normal (F14_h1 h x1 x2 x3 l4 v4 v5 v6 (IntKind.i64.wrap (a12 + 1)))) _
                      exact pEnd_sound good (L := F14_L) (D := F14_D) (its := [.g, (.b true), .g, .g, .g, .g, .g, (.ix id14 off14 g14), (.ld (.agg #[.int .i64 y14.1, .int .i64 y14.2.1, .int .i64 y14.2.2.1, .int .i64 y14.2.2.2])), .g, .g, .g, .g, .g, .g, (.w .g), (.w .g), (.w .g), (.w .g), (.w .g), (.p false), .g, (.w .g), (.w .g), (.w .g), (.p false), .g, (.w .g), (.w .g), (.w .g), (.w .g), (.p false), .g, (.w .g), (.w .g), (.w .g), (.p false), .g, (.w .g), (.w .g), (.w .g), (.p false), .g, (.w .g), (.w .g), (.w .g), (.p false), .g, (.w .g), (.w .g), (.w .g), (.p false), .g, (.w .g), (.w .g), (.w .g), (.w .g), .n, .n, .n, (.w (.p false)), (.p false), (.b false), .g, .g]) (ds := F14_m1_1) (ks := [5]) (e := .normal) (s2 := (F14_h1 h x1 x2 x3 l4 v4 v5 v6 (IntKind.i64.wrap (a12 + 1)))) (hC := (ai l_f (ai c22 (ai c23 (ai (g_ff c22) (ai (g_ft c23) (ai (g_ft c23) (ai (g_ft c23) kc23)))))))) (hd := F14_d1) (h := by kernel_rfl)
  · intro hr
    obtain rfl := Option.some.inj hr
    show AWp Try.prog _ (Ends1 ((F14_x1 h x1 x2 x3 v4 v5 v6) (1 : Nat)).1 ((F14_x1 h x1 x2 x3 v4 v5 v6) (1 : Nat)).2) _
    exact pEnd_sound good (L := F14_L) (D := F14_D) (its := [.g, (.b false)]) (ds := F14_m1_2) (ks := []) (e := ((F14_x1 h x1 x2 x3 v4 v5 v6) (1 : Nat)).1) (s2 := ((F14_x1 h x1 x2 x3 v4 v5 v6) (1 : Nat)).2) (hC := (ai c13 trivial)) (hd := F14_d1) (h := by kernel_rfl)
theorem F14_l1_0 (h : AHeap) (x1 : Int) (x2 : Int) (x3 : Bool) (l4 : List (Int × Int × Int × Int)) (v4 : Hd) (hv4 : SlE E57 4 h (sv v4) l4) (v5 : Hd) (v6 : Hd) (x : Int) (r : Nat) (hl : loopO (fun (s : Int) => F14_s1 x1 x2 x3 l4 s) x = some r) (q0 : Nat.beq r 0 = true) : AWp Try.prog (.loop (codeOf Try.prog 14 [1, 1, 1, 0, 1, 0, 0])) (Ends1 .ret (F14_x1_0 h x1 x2 x3 v4 v5 v6 r)) ((fun (s : Int) => (F14_h1 h x1 x2 x3 l4 v4 v5 v6 s)) x) := by
  have k := loop_fun (P := Try.prog) (c := (codeOf Try.prog 14 [1, 1, 1, 0, 1, 0, 0])) (step := (fun (s : Int) => F14_s1 x1 x2 x3 l4 s)) (hd := (fun (s : Int) => (F14_h1 h x1 x2 x3 l4 v4 v5 v6 s))) (X := (F14_x1 h x1 x2 x3 v4 v5 v6)) (by intro t; unfold F14_x1; cases Nat.beq t 0 <;> (intro h; cases h)) (fun x => F14_r1 h x1 x2 x3 l4 v4 hv4 v5 v6 x) hl
  simp only [F14_x1, q0, cond_true, cond_false] at k
  exact k
theorem F14_l1_1 (h : AHeap) (x1 : Int) (x2 : Int) (x3 : Bool) (l4 : List (Int × Int × Int × Int)) (v4 : Hd) (hv4 : SlE E57 4 h (sv v4) l4) (v5 : Hd) (v6 : Hd) (x : Int) (r : Nat) (hl : loopO (fun (s : Int) => F14_s1 x1 x2 x3 l4 s) x = some r) (q0 : Nat.beq r 0 = false) : AWp Try.prog (.loop (codeOf Try.prog 14 [1, 1, 1, 0, 1, 0, 0])) (Ends1 (.exit 0) (F14_x1_1 h x1 x2 x3 v4 v5 v6 r)) ((fun (s : Int) => (F14_h1 h x1 x2 x3 l4 v4 v5 v6 s)) x) := by
  have k := loop_fun (P := Try.prog) (c := (codeOf Try.prog 14 [1, 1, 1, 0, 1, 0, 0])) (step := (fun (s : Int) => F14_s1 x1 x2 x3 l4 s)) (hd := (fun (s : Int) => (F14_h1 h x1 x2 x3 l4 v4 v5 v6 s))) (X := (F14_x1 h x1 x2 x3 v4 v5 v6)) (by intro t; unfold F14_x1; cases Nat.beq t 0 <;> (intro h; cases h)) (fun x => F14_r1 h x1 x2 x3 l4 v4 hv4 v5 v6 x) hl
  simp only [F14_x1, q0, cond_true, cond_false] at k
  exact k
def F14_m2_2 : List Bool := (true :: false :: true :: false :: (rp 271 true []))
def F14_m2_1 : List Bool := (true :: false :: true :: false :: (rp 112 true (false :: false :: (rp 157 true []))))
def F14_m2_0 : List Bool := (true :: true :: false :: (rp 272 true []))
def F14_s2 (x1 : Int) (x2 : Int) (x3 : Bool) (l4 : List (Int × Int × Int × Int)) (l5 : List (Int × Int × Int × Int)) (l6 : List (Int × Int)) (a28 : Int) : Option (Int ⊕ Nat) :=
  (bif (F14__3 x1 x2 a28) then
   (bif decide (a28 ≥ (F28 x1 x2 x3 l4 l5 l6)) then
    (Option.bind (at? l4 a28) fun y32 =>
    (bif (F14__4 x1 x2 x3 l4 l5 l6 a28 y32) then
     some (.inr 0)
    else
     some (.inl (IntKind.i64.wrap (a28 + 1)))))
   else
    (Option.bind (at? l4 a28) fun y35 =>
    (bif (F14__5 x1 x2 x3 l4 l5 l6 a28 y35) then
     some (.inr 0)
    else
     some (.inl (IntKind.i64.wrap (a28 + 1))))))
  else
   some (.inr 1))
def F14_h2 (h : AHeap) (x1 : Int) (x2 : Int) (x3 : Bool) (v4 : Hd) (v5 : Hd) (v6 : Hd)  (a28 : Int) : AS := ⟨(junk :: (.pointer (some ⟨1, 0, none⟩)) :: junk :: (.int .i64 (IntKind.i64.wrap ((IntKind.i64.wrap (x1 + x2)) + 2))) :: (rp 112 junk ((.int .i64 (IntKind.i64.wrap ((IntKind.i64.wrap ((IntKind.i64.wrap (x1 + x2)) + 2)) - 1))) :: (.int .i64 a28) :: (rp 157 junk [])))), [(1, [.int .i64 x1, .int .i64 x2, .bool x3, (sv v4), (sv v5), (sv v6)])], h⟩
theorem F14_d2 : drawsOk F14_D (codeOf Try.prog 14 [1, 1, 1, 1, 1, 0, 1, 0, 0]) = true := by kernel_rfl
def F14_x2_0 (h : AHeap) (x1 : Int) (x2 : Int) (x3 : Bool) (v4 : Hd) (v5 : Hd) (v6 : Hd)  (r : Nat) : AS := ⟨(junk :: junk :: (.bool false) :: (rp 272 junk [])), [], h⟩
def F14_x2_1 (h : AHeap) (x1 : Int) (x2 : Int) (x3 : Bool) (v4 : Hd) (v5 : Hd) (v6 : Hd)  (r : Nat) : AS := ⟨(junk :: (.pointer (some ⟨1, 0, none⟩)) :: junk :: (.int .i64 (IntKind.i64.wrap ((IntKind.i64.wrap (x1 + x2)) + 2))) :: (rp 271 junk [])), [(1, [.int .i64 x1, .int .i64 x2, .bool x3, (sv v4), (sv v5), (sv v6)])], h⟩
def F14_x2 (h : AHeap) (x1 : Int) (x2 : Int) (x3 : Bool) (v4 : Hd) (v5 : Hd) (v6 : Hd) (r : Nat) : Exit × AS := (bif Nat.beq r 0 then (.ret, (F14_x2_0 h x1 x2 x3 v4 v5 v6 r)) else ((.exit 2), (F14_x2_1 h x1 x2 x3 v4 v5 v6 r)))
set_option maxRecDepth 100000 in
theorem F14_r2 (h : AHeap) (x1 : Int) (x2 : Int) (x3 : Bool) (l4 : List (Int × Int × Int × Int)) (v4 : Hd) (hv4 : SlE E57 4 h (sv v4) l4) (l5 : List (Int × Int × Int × Int)) (v5 : Hd) (hv5 : SlE E59 4 h (sv v5) l5) (l6 : List (Int × Int)) (v6 : Hd) (hv6 : SlE E61 2 h (sv v6) l6) (a28 : Int) (o : Int ⊕ Nat) : F14_s2 x1 x2 x3 l4 l5 l6 a28 = some o → RdF Try.prog (codeOf Try.prog 14 [1, 1, 1, 1, 1, 0, 1, 0, 0]) (fun (s : Int) => (F14_h2 h x1 x2 x3 v4 v5 v6 s)) (F14_x2 h x1 x2 x3 v4 v5 v6) (F14_h2 h x1 x2 x3 v4 v5 v6 a28) o := by
  unfold F14_s2
  refine dec_bif (fun c29 => ?_) (fun c29 => ?_)
  · have kc31 := (ai (F28_spec x1 x2 x3 l4 l5 l6 v4 v5 v6 h hv4 hv5 hv6 _ rfl) (ai c29 trivial))
    refine dec_bif (fun c31 => ?_) (fun c31 => ?_)
    · refine bind_opt fun y32 e32 => ?_
      obtain ⟨id32, off32, g32, cs32, ix32, at32, rfl⟩ := SlE.at hv4 e32
      have kc34 := (ai (show aggEq Try.prog 57 #[.int .i64 y32.1, .int .i64 y32.2.1, .int .i64 y32.2.2.1, .int .i64 y32.2.2.2] #[.int .i64 (F28 x1 x2 x3 l4 l5 l6), .int .i64 (IntKind.i64.wrap (a28 + 1)), .int .i64 0, .int .i64 0] = some ((y32.1 == (F28 x1 x2 x3 l4 l5 l6)) && ((y32.2.1 == (IntKind.i64.wrap (a28 + 1))) && ((y32.2.2.1 == 0) && ((y32.2.2.2 == 0) && true)))) by kernel_rfl) (ai (show AKeep h h from (AHeap.sub_refl h)) (ai (F28_spec x1 x2 x3 l4 l5 l6 v4 v5 v6 h hv4 hv5 hv6 _ rfl) (ai (At.agg (P := Try.prog) (t := 57) (v := .agg #[.int .i64 y32.1, .int .i64 y32.2.1, .int .i64 y32.2.2.1, .int .i64 y32.2.2.2]) (m := 4) at32 (by kernel_rfl) (by kernel_rfl) 0 (by kernel_rfl) rfl) (ai ix32 (ai c31 kc31))))))
      refine dec_bif (fun c34 => ?_) (fun c34 => ?_)
      · intro hr
        obtain rfl := Option.some.inj hr
        show AWp Try.prog _ (Ends1 ((F14_x2 h x1 x2 x3 v4 v5 v6) (0 : Nat)).1 ((F14_x2 h x1 x2 x3 v4 v5 v6) (0 : Nat)).2) _
        exact pEnd_sound good (L := F14_L) (D := F14_D) (its := [.g, (.b true), .g, .g, .g, .g, .g, .g, (.c (.int .i64 (F28 x1 x2 x3 l4 l5 l6)) h), .g, (.b true), .g, .g, .g, .g, .g, .g, .g, .g, (.ix id32 off32 g32), (.ld (.agg #[.int .i64 y32.1, .int .i64 y32.2.1, .int .i64 y32.2.2.1, .int .i64 y32.2.2.2])), (.c (.int .i64 (F28 x1 x2 x3 l4 l5 l6)) h), .g, (.eq ((y32.1 == (F28 x1 x2 x3 l4 l5 l6)) && ((y32.2.1 == (IntKind.i64.wrap (a28 + 1))) && ((y32.2.2.1 == 0) && ((y32.2.2.2 == 0) && true))))), (.b true), .g]) (ds := F14_m2_0) (ks := [1]) (e := ((F14_x2 h x1 x2 x3 v4 v5 v6) (0 : Nat)).1) (s2 := ((F14_x2 h x1 x2 x3 v4 v5 v6) (0 : Nat)).2) (hC := (ai c34 kc34)) (hd := F14_d2) (h := by kernel_rfl)
      · intro hr
        obtain rfl := Option.some.inj hr
        show AWp Try.prog _ (Ends1 .normal (F14_h2 h x1 x2 x3 v4 v5 v6 (IntKind.i64.wrap (a28 + 1)))) _
        exact pEnd_sound good (L := F14_L) (D := F14_D) (its := [.g, (.b true), .g, .g, .g, .g, .g, .g, (.c (.int .i64 (F28 x1 x2 x3 l4 l5 l6)) h), .g, (.b true), .g, .g, .g, .g, .g, .g, .g, .g, (.ix id32 off32 g32), (.ld (.agg #[.int .i64 y32.1, .int .i64 y32.2.1, .int .i64 y32.2.2.1, .int .i64 y32.2.2.2])), (.c (.int .i64 (F28 x1 x2 x3 l4 l5 l6)) h), .g, (.eq ((y32.1 == (F28 x1 x2 x3 l4 l5 l6)) && ((y32.2.1 == (IntKind.i64.wrap (a28 + 1))) && ((y32.2.2.1 == 0) && ((y32.2.2.2 == 0) && true))))), (.b false), .g, .g]) (ds := F14_m2_1) (ks := []) (e := .normal) (s2 := (F14_h2 h x1 x2 x3 v4 v5 v6 (IntKind.i64.wrap (a28 + 1)))) (hC := (ai c34 kc34)) (hd := F14_d2) (h := by kernel_rfl)
    · refine bind_opt fun y35 e35 => ?_
      obtain ⟨id35, off35, g35, cs35, ix35, at35, rfl⟩ := SlE.at hv4 e35
      have kc37 := (ai (show aggEq Try.prog 57 #[.int .i64 y35.1, .int .i64 y35.2.1, .int .i64 y35.2.2.1, .int .i64 y35.2.2.2] #[.int .i64 (F28 x1 x2 x3 l4 l5 l6), .int .i64 a28, .int .i64 0, .int .i64 0] = some ((y35.1 == (F28 x1 x2 x3 l4 l5 l6)) && ((y35.2.1 == a28) && ((y35.2.2.1 == 0) && ((y35.2.2.2 == 0) && true)))) by kernel_rfl) (ai (show AKeep h h from (AHeap.sub_refl h)) (ai (F28_spec x1 x2 x3 l4 l5 l6 v4 v5 v6 h hv4 hv5 hv6 _ rfl) (ai (At.agg (P := Try.prog) (t := 57) (v := .agg #[.int .i64 y35.1, .int .i64 y35.2.1, .int .i64 y35.2.2.1, .int .i64 y35.2.2.2]) (m := 4) at35 (by kernel_rfl) (by kernel_rfl) 0 (by kernel_rfl) rfl) (ai ix35 (ai c31 kc31))))))
      refine dec_bif (fun c37 => ?_) (fun c37 => ?_)
      · intro hr
        obtain rfl := Option.some.inj hr
        show AWp Try.prog _ (Ends1 ((F14_x2 h x1 x2 x3 v4 v5 v6) (0 : Nat)).1 ((F14_x2 h x1 x2 x3 v4 v5 v6) (0 : Nat)).2) _
        exact pEnd_sound good (L := F14_L) (D := F14_D) (its := [.g, (.b true), .g, .g, .g, .g, .g, .g, (.c (.int .i64 (F28 x1 x2 x3 l4 l5 l6)) h), .g, (.b false), .g, .g, .g, .g, .g, (.ix id35 off35 g35), (.ld (.agg #[.int .i64 y35.1, .int .i64 y35.2.1, .int .i64 y35.2.2.1, .int .i64 y35.2.2.2])), (.c (.int .i64 (F28 x1 x2 x3 l4 l5 l6)) h), .g, (.eq ((y35.1 == (F28 x1 x2 x3 l4 l5 l6)) && ((y35.2.1 == a28) && ((y35.2.2.1 == 0) && ((y35.2.2.2 == 0) && true))))), (.b true), .g]) (ds := F14_m2_0) (ks := [1]) (e := ((F14_x2 h x1 x2 x3 v4 v5 v6) (0 : Nat)).1) (s2 := ((F14_x2 h x1 x2 x3 v4 v5 v6) (0 : Nat)).2) (hC := (ai c37 kc37)) (hd := F14_d2) (h := by kernel_rfl)
      · intro hr
        obtain rfl := Option.some.inj hr
        show AWp Try.prog _ (Ends1 .normal (F14_h2 h x1 x2 x3 v4 v5 v6 (IntKind.i64.wrap (a28 + 1)))) _
        exact pEnd_sound good (L := F14_L) (D := F14_D) (its := [.g, (.b true), .g, .g, .g, .g, .g, .g, (.c (.int .i64 (F28 x1 x2 x3 l4 l5 l6)) h), .g, (.b false), .g, .g, .g, .g, .g, (.ix id35 off35 g35), (.ld (.agg #[.int .i64 y35.1, .int .i64 y35.2.1, .int .i64 y35.2.2.1, .int .i64 y35.2.2.2])), (.c (.int .i64 (F28 x1 x2 x3 l4 l5 l6)) h), .g, (.eq ((y35.1 == (F28 x1 x2 x3 l4 l5 l6)) && ((y35.2.1 == a28) && ((y35.2.2.1 == 0) && ((y35.2.2.2 == 0) && true))))), (.b false), .g, .g]) (ds := F14_m2_1) (ks := []) (e := .normal) (s2 := (F14_h2 h x1 x2 x3 v4 v5 v6 (IntKind.i64.wrap (a28 + 1)))) (hC := (ai c37 kc37)) (hd := F14_d2) (h := by kernel_rfl)
  · intro hr
    obtain rfl := Option.some.inj hr
    show AWp Try.prog _ (Ends1 ((F14_x2 h x1 x2 x3 v4 v5 v6) (1 : Nat)).1 ((F14_x2 h x1 x2 x3 v4 v5 v6) (1 : Nat)).2) _
    exact pEnd_sound good (L := F14_L) (D := F14_D) (its := [.g, (.b false)]) (ds := F14_m2_2) (ks := []) (e := ((F14_x2 h x1 x2 x3 v4 v5 v6) (1 : Nat)).1) (s2 := ((F14_x2 h x1 x2 x3 v4 v5 v6) (1 : Nat)).2) (hC := (ai c29 trivial)) (hd := F14_d2) (h := by kernel_rfl)
theorem F14_l2_0 (h : AHeap) (x1 : Int) (x2 : Int) (x3 : Bool) (l4 : List (Int × Int × Int × Int)) (v4 : Hd) (hv4 : SlE E57 4 h (sv v4) l4) (l5 : List (Int × Int × Int × Int)) (v5 : Hd) (hv5 : SlE E59 4 h (sv v5) l5) (l6 : List (Int × Int)) (v6 : Hd) (hv6 : SlE E61 2 h (sv v6) l6) (x : Int) (r : Nat) (hl : loopO (fun (s : Int) => F14_s2 x1 x2 x3 l4 l5 l6 s) x = some r) (q0 : Nat.beq r 0 = true) : AWp Try.prog (.loop (codeOf Try.prog 14 [1, 1, 1, 1, 1, 0, 1, 0, 0])) (Ends1 .ret (F14_x2_0 h x1 x2 x3 v4 v5 v6 r)) ((fun (s : Int) => (F14_h2 h x1 x2 x3 v4 v5 v6 s)) x) := by
  have k := loop_fun (P := Try.prog) (c := (codeOf Try.prog 14 [1, 1, 1, 1, 1, 0, 1, 0, 0])) (step := (fun (s : Int) => F14_s2 x1 x2 x3 l4 l5 l6 s)) (hd := (fun (s : Int) => (F14_h2 h x1 x2 x3 v4 v5 v6 s))) (X := (F14_x2 h x1 x2 x3 v4 v5 v6)) (by intro t; unfold F14_x2; cases Nat.beq t 0 <;> (intro h; cases h)) (fun x => F14_r2 h x1 x2 x3 l4 v4 hv4 l5 v5 hv5 l6 v6 hv6 x) hl
  simp only [F14_x2, q0, cond_true, cond_false] at k
  exact k
theorem F14_l2_1 (h : AHeap) (x1 : Int) (x2 : Int) (x3 : Bool) (l4 : List (Int × Int × Int × Int)) (v4 : Hd) (hv4 : SlE E57 4 h (sv v4) l4) (l5 : List (Int × Int × Int × Int)) (v5 : Hd) (hv5 : SlE E59 4 h (sv v5) l5) (l6 : List (Int × Int)) (v6 : Hd) (hv6 : SlE E61 2 h (sv v6) l6) (x : Int) (r : Nat) (hl : loopO (fun (s : Int) => F14_s2 x1 x2 x3 l4 l5 l6 s) x = some r) (q0 : Nat.beq r 0 = false) : AWp Try.prog (.loop (codeOf Try.prog 14 [1, 1, 1, 1, 1, 0, 1, 0, 0])) (Ends1 (.exit 2) (F14_x2_1 h x1 x2 x3 v4 v5 v6 r)) ((fun (s : Int) => (F14_h2 h x1 x2 x3 v4 v5 v6 s)) x) := by
  have k := loop_fun (P := Try.prog) (c := (codeOf Try.prog 14 [1, 1, 1, 1, 1, 0, 1, 0, 0])) (step := (fun (s : Int) => F14_s2 x1 x2 x3 l4 l5 l6 s)) (hd := (fun (s : Int) => (F14_h2 h x1 x2 x3 v4 v5 v6 s))) (X := (F14_x2 h x1 x2 x3 v4 v5 v6)) (by intro t; unfold F14_x2; cases Nat.beq t 0 <;> (intro h; cases h)) (fun x => F14_r2 h x1 x2 x3 l4 v4 hv4 l5 v5 hv5 l6 v6 hv6 x) hl
  simp only [F14_x2, q0, cond_true, cond_false] at k
  exact k
def F14_m3_2 : List Bool := (true :: false :: true :: false :: (rp 271 true []))
def F14_m3_1 : List Bool := (true :: false :: true :: false :: (rp 136 true (false :: false :: (rp 133 true []))))
def F14_m3_0 : List Bool := (true :: true :: false :: (rp 272 true []))
def F14_s3 (l5 : List (Int × Int × Int × Int)) (a40 : Int) : Option (Int ⊕ Nat) :=
  (bif decide (a40 < (l5.length : Int)) then
   (Option.bind (at? l5 a40) fun y42 =>
   (bif decide (y42.1 < 1) then
    some (.inr 0)
   else
    (bif decide (y42.1 > 4) then
     some (.inr 0)
    else
     (bif decide (y42.2.2.2 < 1) then
      some (.inr 0)
     else
      (bif decide (y42.2.2.2 > 1024) then
       some (.inr 0)
      else
       some (.inl (IntKind.i64.wrap (a40 + 1))))))))
  else
   some (.inr 1))
def F14_h3 (h : AHeap) (x1 : Int) (x2 : Int) (x3 : Bool) (v4 : Hd) (l5 : List (Int × Int × Int × Int)) (v5 : Hd) (v6 : Hd)  (a40 : Int) : AS := ⟨(junk :: (.pointer (some ⟨1, 0, none⟩)) :: junk :: (.int .i64 (IntKind.i64.wrap ((IntKind.i64.wrap (x1 + x2)) + 2))) :: (rp 136 junk ((.int .i64 (l5.length : Int)) :: (.int .i64 a40) :: (rp 133 junk [])))), [(1, [.int .i64 x1, .int .i64 x2, .bool x3, (sv v4), (sv v5), (sv v6)])], h⟩
theorem F14_d3 : drawsOk F14_D (codeOf Try.prog 14 [1, 1, 1, 1, 1, 1, 0, 1, 0, 0]) = true := by kernel_rfl
def F14_x3_0 (h : AHeap) (x1 : Int) (x2 : Int) (x3 : Bool) (v4 : Hd) (v5 : Hd) (v6 : Hd)  (r : Nat) : AS := ⟨(junk :: junk :: (.bool false) :: (rp 272 junk [])), [], h⟩
def F14_x3_1 (h : AHeap) (x1 : Int) (x2 : Int) (x3 : Bool) (v4 : Hd) (v5 : Hd) (v6 : Hd)  (r : Nat) : AS := ⟨(junk :: (.pointer (some ⟨1, 0, none⟩)) :: junk :: (.int .i64 (IntKind.i64.wrap ((IntKind.i64.wrap (x1 + x2)) + 2))) :: (rp 271 junk [])), [(1, [.int .i64 x1, .int .i64 x2, .bool x3, (sv v4), (sv v5), (sv v6)])], h⟩
def F14_x3 (h : AHeap) (x1 : Int) (x2 : Int) (x3 : Bool) (v4 : Hd) (v5 : Hd) (v6 : Hd) (r : Nat) : Exit × AS := (bif Nat.beq r 0 then (.ret, (F14_x3_0 h x1 x2 x3 v4 v5 v6 r)) else ((.exit 4), (F14_x3_1 h x1 x2 x3 v4 v5 v6 r)))
set_option maxRecDepth 100000 in
theorem F14_r3 (h : AHeap) (x1 : Int) (x2 : Int) (x3 : Bool) (v4 : Hd) (l5 : List (Int × Int × Int × Int)) (v5 : Hd) (hv5 : SlE E59 4 h (sv v5) l5) (v6 : Hd) (a40 : Int) (o : Int ⊕ Nat) : F14_s3 l5 a40 = some o → RdF Try.prog (codeOf Try.prog 14 [1, 1, 1, 1, 1, 1, 0, 1, 0, 0]) (fun (s : Int) => (F14_h3 h x1 x2 x3 v4 l5 v5 v6 s)) (F14_x3 h x1 x2 x3 v4 v5 v6) (F14_h3 h x1 x2 x3 v4 l5 v5 v6 a40) o := by
  unfold F14_s3
  refine dec_bif (fun c41 => ?_) (fun c41 => ?_)
  · refine bind_opt fun y42 e42 => ?_
    obtain ⟨id42, off42, g42, cs42, ix42, at42, rfl⟩ := SlE.at hv5 e42
    have kc43 := (ai (At.one (P := Try.prog) (t := 3) (v := .int .i64 y42.1) at42 (by kernel_rfl) 0 rfl rfl) (ai ix42 (ai c41 trivial)))
    refine dec_bif (fun c43 => ?_) (fun c43 => ?_)
    · intro hr
      obtain rfl := Option.some.inj hr
      show AWp Try.prog _ (Ends1 ((F14_x3 h x1 x2 x3 v4 v5 v6) (0 : Nat)).1 ((F14_x3 h x1 x2 x3 v4 v5 v6) (0 : Nat)).2) _
      exact pEnd_sound good (L := F14_L) (D := F14_D) (its := [.g, (.b true), .g, .g, .g, .g, .g, (.ix id42 off42 g42), .g, (.ld (.int .i64 y42.1)), .g, .g, .n, .n, .n, .n, .n, .n, .n, (.p true), .g, .n, .n, .n, .n, .n, .n, .n, .g, .g, .n, .n, .n, .n, .n, .n, .n, .g, (.b true), .g]) (ds := F14_m3_0) (ks := [1]) (e := ((F14_x3 h x1 x2 x3 v4 v5 v6) (0 : Nat)).1) (s2 := ((F14_x3 h x1 x2 x3 v4 v5 v6) (0 : Nat)).2) (hC := (ai l_t (ai (g_tf l_t) (ai (g_tf l_t) (ai (g_tf l_t) (ai (g_tf l_t) (ai (g_tf l_t) (ai (g_tf l_t) (ai (g_tf l_t) (ai (g_tf l_t) (ai (g_tf l_t) (ai (g_tf l_t) (ai (g_tf l_t) (ai (g_tf l_t) (ai (g_tf l_t) (ai (g_tf l_t) (ai c43 (ai (g_tf c43) (ai (g_tf c43) (ai (g_tf c43) (ai (g_tf c43) (ai (g_tf c43) (ai (g_tf c43) (ai (g_tf c43) kc43)))))))))))))))))))))))) (hd := F14_d3) (h := by kernel_rfl)
    · have kc44 := (ai c43 (ai (g_ff c43) (ai (At.one (P := Try.prog) (t := 3) (v := .int .i64 y42.1) at42 (by kernel_rfl) 0 rfl rfl) (ai (g_ff c43) (ai (g_ff c43) (ai ix42 (ai (g_ff c43) (ai (g_ff c43) (ai (g_ff c43) (ai (g_ff c43) kc43))))))))))
      refine dec_bif (fun c44 => ?_) (fun c44 => ?_)
      · intro hr
        obtain rfl := Option.some.inj hr
        show AWp Try.prog _ (Ends1 ((F14_x3 h x1 x2 x3 v4 v5 v6) (0 : Nat)).1 ((F14_x3 h x1 x2 x3 v4 v5 v6) (0 : Nat)).2) _
        exact pEnd_sound good (L := F14_L) (D := F14_D) (its := [.g, (.b true), .g, .g, .g, .g, .g, (.ix id42 off42 g42), .g, (.ld (.int .i64 y42.1)), .g, .g, (.w .g), (.w .g), (.w .g), (.w (.ix id42 off42 g42)), (.w .g), (.w (.ld (.int .i64 y42.1))), (.w .g), (.p false), .g, .n, .n, .n, .n, .n, .n, .n, (.p true), .g, .n, .n, .n, .n, .n, .n, .n, .g, (.b true), .g]) (ds := F14_m3_0) (ks := [1]) (e := ((F14_x3 h x1 x2 x3 v4 v5 v6) (0 : Nat)).1) (s2 := ((F14_x3 h x1 x2 x3 v4 v5 v6) (0 : Nat)).2) (hC := (ai l_t (ai (g_tf l_t) (ai (g_tf l_t) (ai (g_tf l_t) (ai (g_tf l_t) (ai (g_tf l_t) (ai (g_tf l_t) (ai (g_tf l_t) (ai c44 (ai (g_tf c44) (ai (g_tf c44) (ai (g_tf c44) (ai (g_tf c44) (ai (g_tf c44) (ai (g_tf c44) (ai (g_tf c44) kc44))))))))))))))))) (hd := F14_d3) (h := by kernel_rfl)
      · have kc45 := (ai c44 (ai (g_ff c44) (ai (At.one (P := Try.prog) (t := 3) (v := .int .i64 y42.2.2.2) at42 (by kernel_rfl) 3 rfl rfl) (ai (g_ff c44) (ai (g_ff c44) (ai ix42 (ai (g_ff c44) (ai (g_ff c44) (ai (g_ff c44) (ai (g_ff c44) kc44))))))))))
        refine dec_bif (fun c45 => ?_) (fun c45 => ?_)
        · intro hr
          obtain rfl := Option.some.inj hr
          show AWp Try.prog _ (Ends1 ((F14_x3 h x1 x2 x3 v4 v5 v6) (0 : Nat)).1 ((F14_x3 h x1 x2 x3 v4 v5 v6) (0 : Nat)).2) _
          exact pEnd_sound good (L := F14_L) (D := F14_D) (its := [.g, (.b true), .g, .g, .g, .g, .g, (.ix id42 off42 g42), .g, (.ld (.int .i64 y42.1)), .g, .g, (.w .g), (.w .g), (.w .g), (.w (.ix id42 off42 g42)), (.w .g), (.w (.ld (.int .i64 y42.1))), (.w .g), (.p false), .g, (.w .g), (.w .g), (.w .g), (.w (.ix id42 off42 g42)), (.w .g), (.w (.ld (.int .i64 y42.2.2.2))), (.w .g), (.p false), .g, .n, .n, .n, .n, .n, .n, .n, (.p true), (.b true), .g]) (ds := F14_m3_0) (ks := [1]) (e := ((F14_x3 h x1 x2 x3 v4 v5 v6) (0 : Nat)).1) (s2 := ((F14_x3 h x1 x2 x3 v4 v5 v6) (0 : Nat)).2) (hC := (ai l_t (ai c45 (ai (g_tf c45) (ai (g_tf c45) (ai (g_tf c45) (ai (g_tf c45) (ai (g_tf c45) (ai (g_tf c45) (ai (g_tf c45) kc45)))))))))) (hd := F14_d3) (h := by kernel_rfl)
        · have kc46 := (ai c45 (ai (g_ff c45) (ai (At.one (P := Try.prog) (t := 3) (v := .int .i64 y42.2.2.2) at42 (by kernel_rfl) 3 rfl rfl) (ai (g_ff c45) (ai (g_ff c45) (ai ix42 (ai (g_ff c45) (ai (g_ff c45) (ai (g_ff c45) (ai (g_ff c45) kc45))))))))))
          refine dec_bif (fun c46 => ?_) (fun c46 => ?_)
          · intro hr
            obtain rfl := Option.some.inj hr
            show AWp Try.prog _ (Ends1 ((F14_x3 h x1 x2 x3 v4 v5 v6) (0 : Nat)).1 ((F14_x3 h x1 x2 x3 v4 v5 v6) (0 : Nat)).2) _
            exact pEnd_sound good (L := F14_L) (D := F14_D) (its := [.g, (.b true), .g, .g, .g, .g, .g, (.ix id42 off42 g42), .g, (.ld (.int .i64 y42.1)), .g, .g, (.w .g), (.w .g), (.w .g), (.w (.ix id42 off42 g42)), (.w .g), (.w (.ld (.int .i64 y42.1))), (.w .g), (.p false), .g, (.w .g), (.w .g), (.w .g), (.w (.ix id42 off42 g42)), (.w .g), (.w (.ld (.int .i64 y42.2.2.2))), (.w .g), (.p false), .g, (.w .g), (.w .g), (.w .g), (.w (.ix id42 off42 g42)), (.w .g), (.w (.ld (.int .i64 y42.2.2.2))), (.w .g), (.p false), (.b true), .g]) (ds := F14_m3_0) (ks := [1]) (e := ((F14_x3 h x1 x2 x3 v4 v5 v6) (0 : Nat)).1) (s2 := ((F14_x3 h x1 x2 x3 v4 v5 v6) (0 : Nat)).2) (hC := (ai c46 kc46)) (hd := F14_d3) (h := by kernel_rfl)
          · intro hr
            obtain rfl := Option.some.inj hr
            show AWp Try.prog _ (Ends1 .normal (F14_h3 h x1 x2 x3 v4 l5 v5 v6 (IntKind.i64.wrap (a40 + 1)))) _
            exact pEnd_sound good (L := F14_L) (D := F14_D) (its := [.g, (.b true), .g, .g, .g, .g, .g, (.ix id42 off42 g42), .g, (.ld (.int .i64 y42.1)), .g, .g, (.w .g), (.w .g), (.w .g), (.w (.ix id42 off42 g42)), (.w .g), (.w (.ld (.int .i64 y42.1))), (.w .g), (.p false), .g, (.w .g), (.w .g), (.w .g), (.w (.ix id42 off42 g42)), (.w .g), (.w (.ld (.int .i64 y42.2.2.2))), (.w .g), (.p false), .g, (.w .g), (.w .g), (.w .g), (.w (.ix id42 off42 g42)), (.w .g), (.w (.ld (.int .i64 y42.2.2.2))), (.w .g), (.p false), (.b false), .g, .g]) (ds := F14_m3_1) (ks := []) (e := .normal) (s2 := (F14_h3 h x1 x2 x3 v4 l5 v5 v6 (IntKind.i64.wrap (a40 + 1)))) (hC := (ai c46 kc46)) (hd := F14_d3) (h := by kernel_rfl)
  · intro hr
    obtain rfl := Option.some.inj hr
    show AWp Try.prog _ (Ends1 ((F14_x3 h x1 x2 x3 v4 v5 v6) (1 : Nat)).1 ((F14_x3 h x1 x2 x3 v4 v5 v6) (1 : Nat)).2) _
    exact pEnd_sound good (L := F14_L) (D := F14_D) (its := [.g, (.b false)]) (ds := F14_m3_2) (ks := []) (e := ((F14_x3 h x1 x2 x3 v4 v5 v6) (1 : Nat)).1) (s2 := ((F14_x3 h x1 x2 x3 v4 v5 v6) (1 : Nat)).2) (hC := (ai c41 trivial)) (hd := F14_d3) (h := by kernel_rfl)
theorem F14_l3_0 (h : AHeap) (x1 : Int) (x2 : Int) (x3 : Bool) (v4 : Hd) (l5 : List (Int × Int × Int × Int)) (v5 : Hd) (hv5 : SlE E59 4 h (sv v5) l5) (v6 : Hd) (x : Int) (r : Nat) (hl : loopO (fun (s : Int) => F14_s3 l5 s) x = some r) (q0 : Nat.beq r 0 = true) : AWp Try.prog (.loop (codeOf Try.prog 14 [1, 1, 1, 1, 1, 1, 0, 1, 0, 0])) (Ends1 .ret (F14_x3_0 h x1 x2 x3 v4 v5 v6 r)) ((fun (s : Int) => (F14_h3 h x1 x2 x3 v4 l5 v5 v6 s)) x) := by
  have k := loop_fun (P := Try.prog) (c := (codeOf Try.prog 14 [1, 1, 1, 1, 1, 1, 0, 1, 0, 0])) (step := (fun (s : Int) => F14_s3 l5 s)) (hd := (fun (s : Int) => (F14_h3 h x1 x2 x3 v4 l5 v5 v6 s))) (X := (F14_x3 h x1 x2 x3 v4 v5 v6)) (by intro t; unfold F14_x3; cases Nat.beq t 0 <;> (intro h; cases h)) (fun x => F14_r3 h x1 x2 x3 v4 l5 v5 hv5 v6 x) hl
  simp only [F14_x3, q0, cond_true, cond_false] at k
  exact k
theorem F14_l3_1 (h : AHeap) (x1 : Int) (x2 : Int) (x3 : Bool) (v4 : Hd) (l5 : List (Int × Int × Int × Int)) (v5 : Hd) (hv5 : SlE E59 4 h (sv v5) l5) (v6 : Hd) (x : Int) (r : Nat) (hl : loopO (fun (s : Int) => F14_s3 l5 s) x = some r) (q0 : Nat.beq r 0 = false) : AWp Try.prog (.loop (codeOf Try.prog 14 [1, 1, 1, 1, 1, 1, 0, 1, 0, 0])) (Ends1 (.exit 4) (F14_x3_1 h x1 x2 x3 v4 v5 v6 r)) ((fun (s : Int) => (F14_h3 h x1 x2 x3 v4 l5 v5 v6 s)) x) := by
  have k := loop_fun (P := Try.prog) (c := (codeOf Try.prog 14 [1, 1, 1, 1, 1, 1, 0, 1, 0, 0])) (step := (fun (s : Int) => F14_s3 l5 s)) (hd := (fun (s : Int) => (F14_h3 h x1 x2 x3 v4 l5 v5 v6 s))) (X := (F14_x3 h x1 x2 x3 v4 v5 v6)) (by intro t; unfold F14_x3; cases Nat.beq t 0 <;> (intro h; cases h)) (fun x => F14_r3 h x1 x2 x3 v4 l5 v5 hv5 v6 x) hl
  simp only [F14_x3, q0, cond_true, cond_false] at k
  exact k
def F14_m4_2 : List Bool := (true :: false :: (rp 273 true []))
def F14_m4_1 : List Bool := (true :: false :: true :: false :: (rp 176 true (false :: false :: (rp 93 true []))))
def F14_m4_0 : List Bool := (true :: true :: false :: (rp 272 true []))
def F14_s4 (x1 : Int) (x2 : Int) (x3 : Bool) (l4 : List (Int × Int × Int × Int)) (l5 : List (Int × Int × Int × Int)) (l6 : List (Int × Int)) (a49 : Int) : Option (Int ⊕ Nat) :=
  (bif (F14__6 x1 x2 a49) then
   (Option.bind (at? l4 (F14__7 x1 x2 a49)) fun y51 =>
   (bif (y51.1 != a49) then
    some (.inr 0)
   else
    (bif (y51.2.1 != (F26 x1 x2 x3 l4 l5 l6)) then
     some (.inr 0)
    else
     (bif (y51.2.2.2 != 0) then
      some (.inr 0)
     else
      (bif decide (a49 < x1) then
       (Option.bind (at? l6 a49) fun y57 =>
       (bif decide (y51.2.2.1 < (if y57.2 > 1 then y57.2 else 1)) then
        some (.inr 0)
       else
        some (.inl (IntKind.i64.wrap (a49 + 1)))))
      else
       some (.inl (IntKind.i64.wrap (a49 + 1))))))))
  else
   some (.inr 1))
def F14_h4 (h : AHeap) (x1 : Int) (x2 : Int) (x3 : Bool) (v4 : Hd) (v5 : Hd) (v6 : Hd)  (a49 : Int) : AS := ⟨(junk :: (.pointer (some ⟨1, 0, none⟩)) :: junk :: (.int .i64 (IntKind.i64.wrap ((IntKind.i64.wrap (x1 + x2)) + 2))) :: (rp 176 junk ((.int .i64 (IntKind.i64.wrap ((IntKind.i64.wrap ((IntKind.i64.wrap (x1 + x2)) + 2)) - 2))) :: (.int .i64 a49) :: (rp 93 junk [])))), [(1, [.int .i64 x1, .int .i64 x2, .bool x3, (sv v4), (sv v5), (sv v6)])], h⟩
theorem F14_d4 : drawsOk F14_D (codeOf Try.prog 14 [1, 1, 1, 1, 1, 1, 1, 0, 1, 0, 0]) = true := by kernel_rfl
def F14_x4_0 (h : AHeap) (x1 : Int) (x2 : Int) (x3 : Bool) (v4 : Hd) (v5 : Hd) (v6 : Hd)  (r : Nat) : AS := ⟨(junk :: junk :: (.bool false) :: (rp 272 junk [])), [], h⟩
def F14_x4_1 (h : AHeap) (x1 : Int) (x2 : Int) (x3 : Bool) (v4 : Hd) (v5 : Hd) (v6 : Hd)  (r : Nat) : AS := ⟨(junk :: (.pointer (some ⟨1, 0, none⟩)) :: (rp 273 junk [])), [(1, [.int .i64 x1, .int .i64 x2, .bool x3, (sv v4), (sv v5), (sv v6)])], h⟩
def F14_x4 (h : AHeap) (x1 : Int) (x2 : Int) (x3 : Bool) (v4 : Hd) (v5 : Hd) (v6 : Hd) (r : Nat) : Exit × AS := (bif Nat.beq r 0 then (.ret, (F14_x4_0 h x1 x2 x3 v4 v5 v6 r)) else ((.exit 6), (F14_x4_1 h x1 x2 x3 v4 v5 v6 r)))
set_option maxRecDepth 100000 in
theorem F14_r4 (h : AHeap) (x1 : Int) (x2 : Int) (x3 : Bool) (l4 : List (Int × Int × Int × Int)) (v4 : Hd) (hv4 : SlE E57 4 h (sv v4) l4) (l5 : List (Int × Int × Int × Int)) (v5 : Hd) (hv5 : SlE E59 4 h (sv v5) l5) (l6 : List (Int × Int)) (v6 : Hd) (hv6 : SlE E61 2 h (sv v6) l6) (a49 : Int) (o : Int ⊕ Nat) : F14_s4 x1 x2 x3 l4 l5 l6 a49 = some o → RdF Try.prog (codeOf Try.prog 14 [1, 1, 1, 1, 1, 1, 1, 0, 1, 0, 0]) (fun (s : Int) => (F14_h4 h x1 x2 x3 v4 v5 v6 s)) (F14_x4 h x1 x2 x3 v4 v5 v6) (F14_h4 h x1 x2 x3 v4 v5 v6 a49) o := by
  unfold F14_s4
  refine dec_bif (fun c50 => ?_) (fun c50 => ?_)
  · refine bind_opt fun y51 e51 => ?_
    obtain ⟨id51, off51, g51, cs51, ix51, at51, rfl⟩ := SlE.at hv4 e51
    have kc52 := (ai (At.agg (P := Try.prog) (t := 57) (v := .agg #[.int .i64 y51.1, .int .i64 y51.2.1, .int .i64 y51.2.2.1, .int .i64 y51.2.2.2]) (m := 4) at51 (by kernel_rfl) (by kernel_rfl) 0 (by kernel_rfl) rfl) (ai ix51 (ai c50 trivial)))
    refine dec_bif (fun c52 => ?_) (fun c52 => ?_)
    · intro hr
      obtain rfl := Option.some.inj hr
      show AWp Try.prog _ (Ends1 ((F14_x4 h x1 x2 x3 v4 v5 v6) (0 : Nat)).1 ((F14_x4 h x1 x2 x3 v4 v5 v6) (0 : Nat)).2) _
      exact pEnd_sound good (L := F14_L) (D := F14_D) (its := [.g, (.b true), .g, .g, .g, .g, .g, .g, .g, .g, (.ix id51 off51 g51), (.ld (.agg #[.int .i64 y51.1, .int .i64 y51.2.1, .int .i64 y51.2.2.1, .int .i64 y51.2.2.2])), .g, .g, .g, .g, .g, .g, .g, .n, .n, .n, .n, .n, (.p true), .g, .n, .n, .n, .g, .g, .n, .n, .n, .n, .n, .n, .n, .n, .n, .n, .n, .n, .n, .n, .n, .n, .g, (.b true), .g]) (ds := F14_m4_0) (ks := [1, 10]) (e := ((F14_x4 h x1 x2 x3 v4 v5 v6) (0 : Nat)).1) (s2 := ((F14_x4 h x1 x2 x3 v4 v5 v6) (0 : Nat)).2) (hC := (ai l_t (ai (g_tf l_t) (ai l_f (ai l_f (ai l_f (ai l_f (ai l_f (ai l_f (ai l_f (ai l_f (ai l_f (ai l_f (ai (g_tf l_t) (ai (g_tf l_t) (ai (g_tf l_t) (ai (g_tf l_t) (ai (g_tf l_t) (ai (g_tf l_t) (ai (g_tf l_t) (ai (g_tf l_t) (ai c52 (ai (g_tf c52) (ai (g_tf c52) (ai (g_tf c52) (ai (g_tf c52) (ai (g_tf c52) kc52))))))))))))))))))))))))))) (hd := F14_d4) (h := by kernel_rfl)
    · have kc54 := (ai c52 (ai (g_ff c52) (ai (show AKeep h h from (AHeap.sub_refl h)) (ai (F26_spec x1 x2 x3 l4 l5 l6 v4 v5 v6 h hv4 hv5 hv6 _ rfl) (ai (g_ff c52) (ai (g_ff c52) (ai (g_ff c52) (ai (g_ff c52) kc52))))))))
      refine dec_bif (fun c54 => ?_) (fun c54 => ?_)
      · intro hr
        obtain rfl := Option.some.inj hr
        show AWp Try.prog _ (Ends1 ((F14_x4 h x1 x2 x3 v4 v5 v6) (0 : Nat)).1 ((F14_x4 h x1 x2 x3 v4 v5 v6) (0 : Nat)).2) _
        exact pEnd_sound good (L := F14_L) (D := F14_D) (its := [.g, (.b true), .g, .g, .g, .g, .g, .g, .g, .g, (.ix id51 off51 g51), (.ld (.agg #[.int .i64 y51.1, .int .i64 y51.2.1, .int .i64 y51.2.2.1, .int .i64 y51.2.2.2])), .g, .g, .g, .g, .g, .g, .g, (.w .g), (.w .g), (.w .g), (.w (.c (.int .i64 (F26 x1 x2 x3 l4 l5 l6)) h)), (.w .g), (.p false), .g, .n, .n, .n, (.p true), .g, .n, .n, .n, .n, .n, .n, .n, .n, .n, .n, .n, .n, .n, .n, .n, .n, .g, (.b true), .g]) (ds := F14_m4_0) (ks := [1, 10]) (e := ((F14_x4 h x1 x2 x3 v4 v5 v6) (0 : Nat)).1) (s2 := ((F14_x4 h x1 x2 x3 v4 v5 v6) (0 : Nat)).2) (hC := (ai l_t (ai (g_tf l_t) (ai l_f (ai l_f (ai l_f (ai l_f (ai l_f (ai l_f (ai l_f (ai l_f (ai l_f (ai l_f (ai (g_tf l_t) (ai (g_tf l_t) (ai (g_tf l_t) (ai (g_tf l_t) (ai (g_tf l_t) (ai c54 (ai (g_tf c54) (ai (g_tf c54) (ai (g_tf c54) kc54)))))))))))))))))))))) (hd := F14_d4) (h := by kernel_rfl)
      · have kc55 := (ai c54 (ai (g_ff c54) (ai (g_ff c54) (ai (g_ff c54) kc54))))
        refine dec_bif (fun c55 => ?_) (fun c55 => ?_)
        · intro hr
          obtain rfl := Option.some.inj hr
          show AWp Try.prog _ (Ends1 ((F14_x4 h x1 x2 x3 v4 v5 v6) (0 : Nat)).1 ((F14_x4 h x1 x2 x3 v4 v5 v6) (0 : Nat)).2) _
          exact pEnd_sound good (L := F14_L) (D := F14_D) (its := [.g, (.b true), .g, .g, .g, .g, .g, .g, .g, .g, (.ix id51 off51 g51), (.ld (.agg #[.int .i64 y51.1, .int .i64 y51.2.1, .int .i64 y51.2.2.1, .int .i64 y51.2.2.2])), .g, .g, .g, .g, .g, .g, .g, (.w .g), (.w .g), (.w .g), (.w (.c (.int .i64 (F26 x1 x2 x3 l4 l5 l6)) h)), (.w .g), (.p false), .g, (.w .g), (.w .g), (.w .g), (.p false), .g, .n, .n, .n, .n, .n, .n, .n, .n, .n, .n, .n, .n, .n, .n, .n, .n, (.p true), (.b true), .g]) (ds := F14_m4_0) (ks := [1, 10]) (e := ((F14_x4 h x1 x2 x3 v4 v5 v6) (0 : Nat)).1) (s2 := ((F14_x4 h x1 x2 x3 v4 v5 v6) (0 : Nat)).2) (hC := (ai l_t (ai c55 (ai (g_tf c55) (ai l_f (ai l_f (ai l_f (ai l_f (ai l_f (ai l_f (ai l_f (ai l_f (ai l_f (ai l_f (ai (g_tf c55) (ai (g_tf c55) (ai (g_tf c55) (ai (g_tf c55) (ai (g_tf c55) kc55))))))))))))))))))) (hd := F14_d4) (h := by kernel_rfl)
        · have kc56 := (ai (g_ff c55) (ai (g_ff c55) (ai (g_ff c55) (ai (g_ff c55) (ai (g_ff c55) kc55)))))
          refine dec_bif (fun c56 => ?_) (fun c56 => ?_)
          · refine bind_opt fun y57 e57 => ?_
            obtain ⟨id57, off57, g57, cs57, ix57, at57, rfl⟩ := SlE.at hv6 e57
            have kc58 := (ai c55 (ai c56 (ai (g_ff c55) (ai (g_tt c56) (ai (g_tt c56) (ai (At.one (P := Try.prog) (t := 3) (v := .int .i64 y57.2) at57 (by kernel_rfl) 1 rfl rfl) (ai (g_tt c56) (ai (g_tt c56) (ai ix57 (ai (g_tt c56) (ai (g_tt c56) (ai (g_tt c56) (ai (g_tt c56) (ai (g_tt c56) (ai (g_tt c56) kc56)))))))))))))))
            refine dec_bif (fun c58 => ?_) (fun c58 => ?_)
            · intro hr
              obtain rfl := Option.some.inj hr
              show AWp Try.prog _ (Ends1 ((F14_x4 h x1 x2 x3 v4 v5 v6) (0 : Nat)).1 ((F14_x4 h x1 x2 x3 v4 v5 v6) (0 : Nat)).2) _
              exact pEnd_sound good (L := F14_L) (D := F14_D) (its := [.g, (.b true), .g, .g, .g, .g, .g, .g, .g, .g, (.ix id51 off51 g51), (.ld (.agg #[.int .i64 y51.1, .int .i64 y51.2.1, .int .i64 y51.2.2.1, .int .i64 y51.2.2.2])), .g, .g, .g, .g, .g, .g, .g, (.w .g), (.w .g), (.w .g), (.w (.c (.int .i64 (F26 x1 x2 x3 l4 l5 l6)) h)), (.w .g), (.p false), .g, (.w .g), (.w .g), (.w .g), (.p false), .g, (.w .g), (.w .g), (.w .g), (.w .g), (.w .g), (.w .g), (.w .g), (.w .g), (.w .g), (.w .g), (.w (.ix id57 off57 g57)), (.w .g), (.w (.ld (.int .i64 y57.2))), (.w .g), (.w .g), (.w (.p true)), (.p false), (.b true), .g]) (ds := F14_m4_0) (ks := [1, 10]) (e := ((F14_x4 h x1 x2 x3 v4 v5 v6) (0 : Nat)).1) (s2 := ((F14_x4 h x1 x2 x3 v4 v5 v6) (0 : Nat)).2) (hC := (ai c58 kc58)) (hd := F14_d4) (h := by kernel_rfl)
            · intro hr
              obtain rfl := Option.some.inj hr
              show AWp Try.prog _ (Ends1 .normal (F14_h4 h x1 x2 x3 v4 v5 v6 (IntKind.i64.wrap (a49 + 1)))) _
              exact pEnd_sound good (L := F14_L) (D := F14_D) (its := [.g, (.b true), .g, .g, .g, .g, .g, .g, .g, .g, (.ix id51 off51 g51), (.ld (.agg #[.int .i64 y51.1, .int .i64 y51.2.1, .int .i64 y51.2.2.1, .int .i64 y51.2.2.2])), .g, .g, .g, .g, .g, .g, .g, (.w .g), (.w .g), (.w .g), (.w (.c (.int .i64 (F26 x1 x2 x3 l4 l5 l6)) h)), (.w .g), (.p false), .g, (.w .g), (.w .g), (.w .g), (.p false), .g, (.w .g), (.w .g), (.w .g), (.w .g), (.w .g), (.w .g), (.w .g), (.w .g), (.w .g), (.w .g), (.w (.ix id57 off57 g57)), (.w .g), (.w (.ld (.int .i64 y57.2))), (.w .g), (.w .g), (.w (.p true)), (.p false), (.b false), .g, .g]) (ds := F14_m4_1) (ks := [10]) (e := .normal) (s2 := (F14_h4 h x1 x2 x3 v4 v5 v6 (IntKind.i64.wrap (a49 + 1)))) (hC := (ai c58 kc58)) (hd := F14_d4) (h := by kernel_rfl)
          · intro hr
            obtain rfl := Option.some.inj hr
            show AWp Try.prog _ (Ends1 .normal (F14_h4 h x1 x2 x3 v4 v5 v6 (IntKind.i64.wrap (a49 + 1)))) _
            exact pEnd_sound good (L := F14_L) (D := F14_D) (its := [.g, (.b true), .g, .g, .g, .g, .g, .g, .g, .g, (.ix id51 off51 g51), (.ld (.agg #[.int .i64 y51.1, .int .i64 y51.2.1, .int .i64 y51.2.2.1, .int .i64 y51.2.2.2])), .g, .g, .g, .g, .g, .g, .g, (.w .g), (.w .g), (.w .g), (.w (.c (.int .i64 (F26 x1 x2 x3 l4 l5 l6)) h)), (.w .g), (.p false), .g, (.w .g), (.w .g), (.w .g), (.p false), .g, (.w .g), (.w .g), (.w .g), (.w .g), (.w .g), .n, .n, .n, .n, .n, .n, .n, .n, .n, .n, (.w (.p false)), (.p false), (.b false), .g, .g]) (ds := F14_m4_1) (ks := [10]) (e := .normal) (s2 := (F14_h4 h x1 x2 x3 v4 v5 v6 (IntKind.i64.wrap (a49 + 1)))) (hC := (ai l_f (ai c55 (ai c56 (ai (g_ff c55) (ai (g_ft c56) (ai (g_ft c56) (ai (g_ft c56) (ai (g_ft c56) (ai (g_ft c56) (ai (g_ft c56) (ai (g_ft c56) (ai (g_ft c56) (ai (g_ft c56) (ai (g_ft c56) kc56))))))))))))))) (hd := F14_d4) (h := by kernel_rfl)
  · intro hr
    obtain rfl := Option.some.inj hr
    show AWp Try.prog _ (Ends1 ((F14_x4 h x1 x2 x3 v4 v5 v6) (1 : Nat)).1 ((F14_x4 h x1 x2 x3 v4 v5 v6) (1 : Nat)).2) _
    exact pEnd_sound good (L := F14_L) (D := F14_D) (its := [.g, (.b false)]) (ds := F14_m4_2) (ks := []) (e := ((F14_x4 h x1 x2 x3 v4 v5 v6) (1 : Nat)).1) (s2 := ((F14_x4 h x1 x2 x3 v4 v5 v6) (1 : Nat)).2) (hC := (ai c50 trivial)) (hd := F14_d4) (h := by kernel_rfl)
theorem F14_l4_0 (h : AHeap) (x1 : Int) (x2 : Int) (x3 : Bool) (l4 : List (Int × Int × Int × Int)) (v4 : Hd) (hv4 : SlE E57 4 h (sv v4) l4) (l5 : List (Int × Int × Int × Int)) (v5 : Hd) (hv5 : SlE E59 4 h (sv v5) l5) (l6 : List (Int × Int)) (v6 : Hd) (hv6 : SlE E61 2 h (sv v6) l6) (x : Int) (r : Nat) (hl : loopO (fun (s : Int) => F14_s4 x1 x2 x3 l4 l5 l6 s) x = some r) (q0 : Nat.beq r 0 = true) : AWp Try.prog (.loop (codeOf Try.prog 14 [1, 1, 1, 1, 1, 1, 1, 0, 1, 0, 0])) (Ends1 .ret (F14_x4_0 h x1 x2 x3 v4 v5 v6 r)) ((fun (s : Int) => (F14_h4 h x1 x2 x3 v4 v5 v6 s)) x) := by
  have k := loop_fun (P := Try.prog) (c := (codeOf Try.prog 14 [1, 1, 1, 1, 1, 1, 1, 0, 1, 0, 0])) (step := (fun (s : Int) => F14_s4 x1 x2 x3 l4 l5 l6 s)) (hd := (fun (s : Int) => (F14_h4 h x1 x2 x3 v4 v5 v6 s))) (X := (F14_x4 h x1 x2 x3 v4 v5 v6)) (by intro t; unfold F14_x4; cases Nat.beq t 0 <;> (intro h; cases h)) (fun x => F14_r4 h x1 x2 x3 l4 v4 hv4 l5 v5 hv5 l6 v6 hv6 x) hl
  simp only [F14_x4, q0, cond_true, cond_false] at k
  exact k
theorem F14_l4_1 (h : AHeap) (x1 : Int) (x2 : Int) (x3 : Bool) (l4 : List (Int × Int × Int × Int)) (v4 : Hd) (hv4 : SlE E57 4 h (sv v4) l4) (l5 : List (Int × Int × Int × Int)) (v5 : Hd) (hv5 : SlE E59 4 h (sv v5) l5) (l6 : List (Int × Int)) (v6 : Hd) (hv6 : SlE E61 2 h (sv v6) l6) (x : Int) (r : Nat) (hl : loopO (fun (s : Int) => F14_s4 x1 x2 x3 l4 l5 l6 s) x = some r) (q0 : Nat.beq r 0 = false) : AWp Try.prog (.loop (codeOf Try.prog 14 [1, 1, 1, 1, 1, 1, 1, 0, 1, 0, 0])) (Ends1 (.exit 6) (F14_x4_1 h x1 x2 x3 v4 v5 v6 r)) ((fun (s : Int) => (F14_h4 h x1 x2 x3 v4 v5 v6 s)) x) := by
  have k := loop_fun (P := Try.prog) (c := (codeOf Try.prog 14 [1, 1, 1, 1, 1, 1, 1, 0, 1, 0, 0])) (step := (fun (s : Int) => F14_s4 x1 x2 x3 l4 l5 l6 s)) (hd := (fun (s : Int) => (F14_h4 h x1 x2 x3 v4 v5 v6 s))) (X := (F14_x4 h x1 x2 x3 v4 v5 v6)) (by intro t; unfold F14_x4; cases Nat.beq t 0 <;> (intro h; cases h)) (fun x => F14_r4 h x1 x2 x3 l4 v4 hv4 l5 v5 hv5 l6 v6 hv6 x) hl
  simp only [F14_x4, q0, cond_true, cond_false] at k
  exact k
def F14_m5_2 : List Bool := (rp 275 true [])
def F14_m5_1 : List Bool := (true :: false :: (rp 227 true (false :: false :: (rp 44 true []))))
def F14_m5_0 : List Bool := (true :: true :: false :: (rp 272 true []))
def F14_s5 (l5 : List (Int × Int × Int × Int)) (l6 : List (Int × Int)) (a61 : Int) : Option (Int ⊕ Nat) :=
  (bif decide (a61 < (l6.length : Int)) then
   (Option.bind (at? l6 a61) fun y63 =>
   (bif decide (y63.1 < (-1)) then
    some (.inr 0)
   else
    (bif decide (y63.1 ≥ (l5.length : Int)) then
     some (.inr 0)
    else
     (bif (y63.1 == (-1)) then
      (bif (y63.2 != 0) then
       some (.inr 0)
      else
       (bif decide (y63.1 ≥ 0) then
        (bif decide (y63.2 < 1) then
         some (.inr 0)
        else
         (bif decide (y63.2 > 256) then
          some (.inr 0)
         else
          some (.inl (IntKind.i64.wrap (a61 + 1)))))
       else
        some (.inl (IntKind.i64.wrap (a61 + 1)))))
     else
      (bif decide (y63.1 ≥ 0) then
       (bif decide (y63.2 < 1) then
        some (.inr 0)
       else
        (bif decide (y63.2 > 256) then
         some (.inr 0)
        else
         some (.inl (IntKind.i64.wrap (a61 + 1)))))
      else
       some (.inl (IntKind.i64.wrap (a61 + 1))))))))
  else
   some (.inr 1))
def F14_h5 (h : AHeap) (x1 : Int) (x2 : Int) (x3 : Bool) (v4 : Hd) (v5 : Hd) (l6 : List (Int × Int)) (v6 : Hd)  (a61 : Int) : AS := ⟨(junk :: (.pointer (some ⟨1, 0, none⟩)) :: (rp 227 junk ((.int .i64 (l6.length : Int)) :: (.int .i64 a61) :: (rp 44 junk [])))), [(1, [.int .i64 x1, .int .i64 x2, .bool x3, (sv v4), (sv v5), (sv v6)])], h⟩
theorem F14_d5 : drawsOk F14_D (codeOf Try.prog 14 [1, 1, 1, 1, 1, 1, 1, 1, 0, 1, 0, 0]) = true := by kernel_rfl
def F14_x5_0 (h : AHeap)  (r : Nat) : AS := ⟨(junk :: junk :: (.bool false) :: (rp 272 junk [])), [], h⟩
def F14_x5_1 (h : AHeap)  (r : Nat) : AS := ⟨(rp 275 junk []), [], h⟩
def F14_x5 (h : AHeap) (r : Nat) : Exit × AS := (bif Nat.beq r 0 then (.ret, (F14_x5_0 h r)) else ((.exit 8), (F14_x5_1 h r)))
set_option maxRecDepth 100000 in
theorem F14_r5 (h : AHeap) (x1 : Int) (x2 : Int) (x3 : Bool) (v4 : Hd) (l5 : List (Int × Int × Int × Int)) (v5 : Hd) (hv5 : SlE E59 4 h (sv v5) l5) (l6 : List (Int × Int)) (v6 : Hd) (hv6 : SlE E61 2 h (sv v6) l6) (a61 : Int) (o : Int ⊕ Nat) : F14_s5 l5 l6 a61 = some o → RdF Try.prog (codeOf Try.prog 14 [1, 1, 1, 1, 1, 1, 1, 1, 0, 1, 0, 0]) (fun (s : Int) => (F14_h5 h x1 x2 x3 v4 v5 l6 v6 s)) (F14_x5 h) (F14_h5 h x1 x2 x3 v4 v5 l6 v6 a61) o := by
  unfold F14_s5
  refine dec_bif (fun c62 => ?_) (fun c62 => ?_)
  · refine bind_opt fun y63 e63 => ?_
    obtain ⟨id63, off63, g63, cs63, ix63, at63, rfl⟩ := SlE.at hv6 e63
    have kc64 := (ai (At.agg (P := Try.prog) (t := 61) (v := .agg #[.int .i64 y63.1, .int .i64 y63.2]) (m := 2) at63 (by kernel_rfl) (by kernel_rfl) 0 (by kernel_rfl) rfl) (ai ix63 (ai c62 trivial)))
    refine dec_bif (fun c64 => ?_) (fun c64 => ?_)
    · intro hr
      obtain rfl := Option.some.inj hr
      show AWp Try.prog _ (Ends1 ((F14_x5 h) (0 : Nat)).1 ((F14_x5 h) (0 : Nat)).2) _
      exact pEnd_sound good (L := F14_L) (D := F14_D) (its := [.g, (.b true), .g, .g, .g, .g, .g, (.ix id63 off63 g63), (.ld (.agg #[.int .i64 y63.1, .int .i64 y63.2])), .g, .g, .g, .g, .g, .g, .n, .n, .n, .n, .n, .n, (.p true), .g, .n, .n, .n, .n, .n, .n, .n, .n, .g, .g, .n, .n, .n, .n, .n, .n, .n, .n, .n, .n, .n, .n, .n, .g, (.b true), .g]) (ds := F14_m5_0) (ks := [1, 12]) (e := ((F14_x5 h) (0 : Nat)).1) (s2 := ((F14_x5 h) (0 : Nat)).2) (hC := (ai l_t (ai (g_tf l_t) (ai l_f (ai l_f (ai l_f (ai l_f (ai l_f (ai l_f (ai l_f (ai l_f (ai (g_tf l_t) (ai (g_tf l_t) (ai (g_tf l_t) (ai (g_tf l_t) (ai (g_tf l_t) (ai l_f (ai l_f (ai l_f (ai (g_tf l_t) (ai (g_tf l_t) (ai (g_tf l_t) (ai (g_tf l_t) (ai c64 (ai (g_tf c64) (ai (g_tf c64) (ai (g_tf c64) (ai (g_tf c64) (ai (g_tf c64) (ai (g_tf c64) kc64)))))))))))))))))))))))))))))) (hd := F14_d5) (h := by kernel_rfl)
    · have kc65 := (ai c64 (ai (g_ff c64) (ai (SlE.len hv5) (ai (g_ff c64) (ai (g_ff c64) (ai (g_ff c64) (ai (g_ff c64) (ai (g_ff c64) kc64))))))))
      refine dec_bif (fun c65 => ?_) (fun c65 => ?_)
      · intro hr
        obtain rfl := Option.some.inj hr
        show AWp Try.prog _ (Ends1 ((F14_x5 h) (0 : Nat)).1 ((F14_x5 h) (0 : Nat)).2) _
        exact pEnd_sound good (L := F14_L) (D := F14_D) (its := [.g, (.b true), .g, .g, .g, .g, .g, (.ix id63 off63 g63), (.ld (.agg #[.int .i64 y63.1, .int .i64 y63.2])), .g, .g, .g, .g, .g, .g, (.w .g), (.w .g), (.w .g), (.w .g), (.w (.ln l5.length)), (.w .g), (.p false), .g, .n, .n, .n, .n, .n, .n, .n, .n, (.p true), .g, .n, .n, .n, .n, .n, .n, .n, .n, .n, .n, .n, .n, .n, .g, (.b true), .g]) (ds := F14_m5_0) (ks := [1, 12]) (e := ((F14_x5 h) (0 : Nat)).1) (s2 := ((F14_x5 h) (0 : Nat)).2) (hC := (ai l_t (ai (g_tf l_t) (ai l_f (ai l_f (ai l_f (ai l_f (ai l_f (ai l_f (ai l_f (ai l_f (ai (g_tf l_t) (ai (g_tf l_t) (ai (g_tf l_t) (ai (g_tf l_t) (ai c65 (ai (g_tf c65) (ai l_f (ai l_f (ai l_f (ai (g_tf c65) (ai (g_tf c65) (ai (g_tf c65) (ai (g_tf c65) kc65)))))))))))))))))))))))) (hd := F14_d5) (h := by kernel_rfl)
      · have kc66 := (ai (g_ff c65) (ai (g_ff c65) (ai (g_ff c65) (ai (g_ff c65) kc65))))
        refine dec_bif (fun c66 => ?_) (fun c66 => ?_)
        · have kc67 := (ai c65 (ai c66 (ai (g_ff c65) (ai (g_tt c66) (ai (g_tt c66) (ai (g_tt c66) kc66))))))
          refine dec_bif (fun c67 => ?_) (fun c67 => ?_)
          · intro hr
            obtain rfl := Option.some.inj hr
            show AWp Try.prog _ (Ends1 ((F14_x5 h) (0 : Nat)).1 ((F14_x5 h) (0 : Nat)).2) _
            exact pEnd_sound good (L := F14_L) (D := F14_D) (its := [.g, (.b true), .g, .g, .g, .g, .g, (.ix id63 off63 g63), (.ld (.agg #[.int .i64 y63.1, .int .i64 y63.2])), .g, .g, .g, .g, .g, .g, (.w .g), (.w .g), (.w .g), (.w .g), (.w (.ln l5.length)), (.w .g), (.p false), .g, (.w .g), (.w .g), (.w .g), (.w .g), (.w .g), (.w .g), (.w .g), (.w (.p true)), (.p false), .g, .n, .n, .n, .n, .n, .n, .n, .n, .n, .n, .n, .n, .n, (.p true), (.b true), .g]) (ds := F14_m5_0) (ks := [1, 12]) (e := ((F14_x5 h) (0 : Nat)).1) (s2 := ((F14_x5 h) (0 : Nat)).2) (hC := (ai l_t (ai c67 (ai (g_tf c67) (ai l_f (ai l_f (ai l_f (ai l_f (ai l_f (ai l_f (ai l_f (ai l_f (ai (g_tf c67) (ai (g_tf c67) (ai (g_tf c67) (ai (g_tf c67) kc67)))))))))))))))) (hd := F14_d5) (h := by kernel_rfl)
          · have kc68 := (ai (g_ff c67) (ai (g_ff c67) (ai (g_ff c67) (ai (g_ff c67) kc67))))
            refine dec_bif (fun c68 => ?_) (fun c68 => ?_)
            · have kc69 := (ai (g_tt c68) (ai (g_tt c68) (ai (g_tt c68) (ai (g_tt c68) kc68))))
              refine dec_bif (fun c69 => ?_) (fun c69 => ?_)
              · intro hr
                obtain rfl := Option.some.inj hr
                show AWp Try.prog _ (Ends1 ((F14_x5 h) (0 : Nat)).1 ((F14_x5 h) (0 : Nat)).2) _
                exact pEnd_sound good (L := F14_L) (D := F14_D) (its := [.g, (.b true), .g, .g, .g, .g, .g, (.ix id63 off63 g63), (.ld (.agg #[.int .i64 y63.1, .int .i64 y63.2])), .g, .g, .g, .g, .g, .g, (.w .g), (.w .g), (.w .g), (.w .g), (.w (.ln l5.length)), (.w .g), (.p false), .g, (.w .g), (.w .g), (.w .g), (.w .g), (.w .g), (.w .g), (.w .g), (.w (.p true)), (.p false), .g, (.w .g), (.w .g), (.w .g), (.w .g), (.w .g), (.w .g), (.w .g), (.w .g), .n, .n, .n, (.w (.p true)), (.w (.p true)), (.p false), (.b true), .g]) (ds := F14_m5_0) (ks := [1, 12]) (e := ((F14_x5 h) (0 : Nat)).1) (s2 := ((F14_x5 h) (0 : Nat)).2) (hC := (ai l_t (ai c67 (ai c68 (ai (g_ff c67) (ai c69 (ai (g_tt c68) (ai (g_tf c69) (ai (g_tf c69) (ai (g_tf c69) kc69)))))))))) (hd := F14_d5) (h := by kernel_rfl)
              · have kc70 := (ai c67 (ai c68 (ai (g_ff c67) (ai c69 (ai (g_tt c68) (ai (g_ff c69) (ai (g_ff c69) (ai (g_ff c69) kc69))))))))
                refine dec_bif (fun c70 => ?_) (fun c70 => ?_)
                · intro hr
                  obtain rfl := Option.some.inj hr
                  show AWp Try.prog _ (Ends1 ((F14_x5 h) (0 : Nat)).1 ((F14_x5 h) (0 : Nat)).2) _
                  exact pEnd_sound good (L := F14_L) (D := F14_D) (its := [.g, (.b true), .g, .g, .g, .g, .g, (.ix id63 off63 g63), (.ld (.agg #[.int .i64 y63.1, .int .i64 y63.2])), .g, .g, .g, .g, .g, .g, (.w .g), (.w .g), (.w .g), (.w .g), (.w (.ln l5.length)), (.w .g), (.p false), .g, (.w .g), (.w .g), (.w .g), (.w .g), (.w .g), (.w .g), (.w .g), (.w (.p true)), (.p false), .g, (.w .g), (.w .g), (.w .g), (.w .g), (.w .g), (.w .g), (.w .g), (.w .g), (.w .g), (.w .g), (.w .g), (.w (.p false)), (.w (.p true)), (.p false), (.b true), .g]) (ds := F14_m5_0) (ks := [1, 12]) (e := ((F14_x5 h) (0 : Nat)).1) (s2 := ((F14_x5 h) (0 : Nat)).2) (hC := (ai c70 kc70)) (hd := F14_d5) (h := by kernel_rfl)
                · intro hr
                  obtain rfl := Option.some.inj hr
                  show AWp Try.prog _ (Ends1 .normal (F14_h5 h x1 x2 x3 v4 v5 l6 v6 (IntKind.i64.wrap (a61 + 1)))) _
                  exact pEnd_sound good (L := F14_L) (D := F14_D) (its := [.g, (.b true), .g, .g, .g, .g, .g, (.ix id63 off63 g63), (.ld (.agg #[.int .i64 y63.1, .int .i64 y63.2])), .g, .g, .g, .g, .g, .g, (.w .g), (.w .g), (.w .g), (.w .g), (.w (.ln l5.length)), (.w .g), (.p false), .g, (.w .g), (.w .g), (.w .g), (.w .g), (.w .g), (.w .g), (.w .g), (.w (.p true)), (.p false), .g, (.w .g), (.w .g), (.w .g), (.w .g), (.w .g), (.w .g), (.w .g), (.w .g), (.w .g), (.w .g), (.w .g), (.w (.p false)), (.w (.p true)), (.p false), (.b false), .g, .g]) (ds := F14_m5_1) (ks := [12]) (e := .normal) (s2 := (F14_h5 h x1 x2 x3 v4 v5 l6 v6 (IntKind.i64.wrap (a61 + 1)))) (hC := (ai c70 kc70)) (hd := F14_d5) (h := by kernel_rfl)
            · intro hr
              obtain rfl := Option.some.inj hr
              show AWp Try.prog _ (Ends1 .normal (F14_h5 h x1 x2 x3 v4 v5 l6 v6 (IntKind.i64.wrap (a61 + 1)))) _
              exact pEnd_sound good (L := F14_L) (D := F14_D) (its := [.g, (.b true), .g, .g, .g, .g, .g, (.ix id63 off63 g63), (.ld (.agg #[.int .i64 y63.1, .int .i64 y63.2])), .g, .g, .g, .g, .g, .g, (.w .g), (.w .g), (.w .g), (.w .g), (.w (.ln l5.length)), (.w .g), (.p false), .g, (.w .g), (.w .g), (.w .g), (.w .g), (.w .g), (.w .g), (.w .g), (.w (.p true)), (.p false), .g, (.w .g), (.w .g), (.w .g), (.w .g), .n, .n, .n, .n, .n, .n, .n, .n, (.w (.p false)), (.p false), (.b false), .g, .g]) (ds := F14_m5_1) (ks := [12]) (e := .normal) (s2 := (F14_h5 h x1 x2 x3 v4 v5 l6 v6 (IntKind.i64.wrap (a61 + 1)))) (hC := (ai l_f (ai c67 (ai c68 (ai (g_ff c67) (ai (g_ft c68) (ai l_f (ai l_f (ai l_f (ai (g_ft c68) (ai (g_ft c68) (ai (g_ft c68) (ai (g_ft c68) kc68))))))))))))) (hd := F14_d5) (h := by kernel_rfl)
        · have kc71 := (ai (g_ff l_f) (ai (g_ff l_f) (ai (g_ff l_f) (ai (g_ff l_f) (ai c65 (ai c66 (ai (g_ff c65) (ai (g_ft c66) (ai (g_ft c66) (ai (g_ft c66) kc66))))))))))
          refine dec_bif (fun c71 => ?_) (fun c71 => ?_)
          · have kc72 := (ai (g_tt c71) (ai (g_tt c71) (ai (g_tt c71) (ai (g_tt c71) kc71))))
            refine dec_bif (fun c72 => ?_) (fun c72 => ?_)
            · intro hr
              obtain rfl := Option.some.inj hr
              show AWp Try.prog _ (Ends1 ((F14_x5 h) (0 : Nat)).1 ((F14_x5 h) (0 : Nat)).2) _
              exact pEnd_sound good (L := F14_L) (D := F14_D) (its := [.g, (.b true), .g, .g, .g, .g, .g, (.ix id63 off63 g63), (.ld (.agg #[.int .i64 y63.1, .int .i64 y63.2])), .g, .g, .g, .g, .g, .g, (.w .g), (.w .g), (.w .g), (.w .g), (.w (.ln l5.length)), (.w .g), (.p false), .g, (.w .g), (.w .g), (.w .g), (.w .g), .n, .n, .n, (.w (.p false)), (.p false), .g, (.w .g), (.w .g), (.w .g), (.w .g), (.w .g), (.w .g), (.w .g), (.w .g), .n, .n, .n, (.w (.p true)), (.w (.p true)), .g, (.b true), .g]) (ds := F14_m5_0) (ks := [1, 12]) (e := ((F14_x5 h) (0 : Nat)).1) (s2 := ((F14_x5 h) (0 : Nat)).2) (hC := (ai l_t (ai c71 (ai (g_ff l_f) (ai c72 (ai (g_tt c71) (ai (g_tf c72) (ai (g_tf c72) (ai (g_tf c72) kc72))))))))) (hd := F14_d5) (h := by kernel_rfl)
            · have kc73 := (ai c71 (ai (g_ff l_f) (ai c72 (ai (g_tt c71) (ai (g_ff c72) (ai (g_ff c72) (ai (g_ff c72) kc72)))))))
              refine dec_bif (fun c73 => ?_) (fun c73 => ?_)
              · intro hr
                obtain rfl := Option.some.inj hr
                show AWp Try.prog _ (Ends1 ((F14_x5 h) (0 : Nat)).1 ((F14_x5 h) (0 : Nat)).2) _
                exact pEnd_sound good (L := F14_L) (D := F14_D) (its := [.g, (.b true), .g, .g, .g, .g, .g, (.ix id63 off63 g63), (.ld (.agg #[.int .i64 y63.1, .int .i64 y63.2])), .g, .g, .g, .g, .g, .g, (.w .g), (.w .g), (.w .g), (.w .g), (.w (.ln l5.length)), (.w .g), (.p false), .g, (.w .g), (.w .g), (.w .g), (.w .g), .n, .n, .n, (.w (.p false)), (.p false), .g, (.w .g), (.w .g), (.w .g), (.w .g), (.w .g), (.w .g), (.w .g), (.w .g), (.w .g), (.w .g), (.w .g), (.w (.p false)), (.w (.p true)), .g, (.b true), .g]) (ds := F14_m5_0) (ks := [1, 12]) (e := ((F14_x5 h) (0 : Nat)).1) (s2 := ((F14_x5 h) (0 : Nat)).2) (hC := (ai c73 kc73)) (hd := F14_d5) (h := by kernel_rfl)
              · intro hr
                obtain rfl := Option.some.inj hr
                show AWp Try.prog _ (Ends1 .normal (F14_h5 h x1 x2 x3 v4 v5 l6 v6 (IntKind.i64.wrap (a61 + 1)))) _
                exact pEnd_sound good (L := F14_L) (D := F14_D) (its := [.g, (.b true), .g, .g, .g, .g, .g, (.ix id63 off63 g63), (.ld (.agg #[.int .i64 y63.1, .int .i64 y63.2])), .g, .g, .g, .g, .g, .g, (.w .g), (.w .g), (.w .g), (.w .g), (.w (.ln l5.length)), (.w .g), (.p false), .g, (.w .g), (.w .g), (.w .g), (.w .g), .n, .n, .n, (.w (.p false)), (.p false), .g, (.w .g), (.w .g), (.w .g), (.w .g), (.w .g), (.w .g), (.w .g), (.w .g), (.w .g), (.w .g), (.w .g), (.w (.p false)), (.w (.p true)), .g, (.b false), .g, .g]) (ds := F14_m5_1) (ks := [12]) (e := .normal) (s2 := (F14_h5 h x1 x2 x3 v4 v5 l6 v6 (IntKind.i64.wrap (a61 + 1)))) (hC := (ai c73 kc73)) (hd := F14_d5) (h := by kernel_rfl)
          · intro hr
            obtain rfl := Option.some.inj hr
            show AWp Try.prog _ (Ends1 .normal (F14_h5 h x1 x2 x3 v4 v5 l6 v6 (IntKind.i64.wrap (a61 + 1)))) _
            exact pEnd_sound good (L := F14_L) (D := F14_D) (its := [.g, (.b true), .g, .g, .g, .g, .g, (.ix id63 off63 g63), (.ld (.agg #[.int .i64 y63.1, .int .i64 y63.2])), .g, .g, .g, .g, .g, .g, (.w .g), (.w .g), (.w .g), (.w .g), (.w (.ln l5.length)), (.w .g), (.p false), .g, (.w .g), (.w .g), (.w .g), (.w .g), .n, .n, .n, (.w (.p false)), (.p false), .g, (.w .g), (.w .g), (.w .g), (.w .g), .n, .n, .n, .n, .n, .n, .n, .n, (.w (.p false)), .g, (.b false), .g, .g]) (ds := F14_m5_1) (ks := [12]) (e := .normal) (s2 := (F14_h5 h x1 x2 x3 v4 v5 l6 v6 (IntKind.i64.wrap (a61 + 1)))) (hC := (ai l_f (ai c71 (ai (g_ff l_f) (ai (g_ft c71) (ai l_f (ai l_f (ai l_f (ai (g_ft c71) (ai (g_ft c71) (ai (g_ft c71) (ai (g_ft c71) kc71)))))))))))) (hd := F14_d5) (h := by kernel_rfl)
  · intro hr
    obtain rfl := Option.some.inj hr
    show AWp Try.prog _ (Ends1 ((F14_x5 h) (1 : Nat)).1 ((F14_x5 h) (1 : Nat)).2) _
    exact pEnd_sound good (L := F14_L) (D := F14_D) (its := [.g, (.b false)]) (ds := F14_m5_2) (ks := [1]) (e := ((F14_x5 h) (1 : Nat)).1) (s2 := ((F14_x5 h) (1 : Nat)).2) (hC := (ai c62 trivial)) (hd := F14_d5) (h := by kernel_rfl)
theorem F14_l5_0 (h : AHeap) (x1 : Int) (x2 : Int) (x3 : Bool) (v4 : Hd) (l5 : List (Int × Int × Int × Int)) (v5 : Hd) (hv5 : SlE E59 4 h (sv v5) l5) (l6 : List (Int × Int)) (v6 : Hd) (hv6 : SlE E61 2 h (sv v6) l6) (x : Int) (r : Nat) (hl : loopO (fun (s : Int) => F14_s5 l5 l6 s) x = some r) (q0 : Nat.beq r 0 = true) : AWp Try.prog (.loop (codeOf Try.prog 14 [1, 1, 1, 1, 1, 1, 1, 1, 0, 1, 0, 0])) (Ends1 .ret (F14_x5_0 h r)) ((fun (s : Int) => (F14_h5 h x1 x2 x3 v4 v5 l6 v6 s)) x) := by
  have k := loop_fun (P := Try.prog) (c := (codeOf Try.prog 14 [1, 1, 1, 1, 1, 1, 1, 1, 0, 1, 0, 0])) (step := (fun (s : Int) => F14_s5 l5 l6 s)) (hd := (fun (s : Int) => (F14_h5 h x1 x2 x3 v4 v5 l6 v6 s))) (X := (F14_x5 h)) (by intro t; unfold F14_x5; cases Nat.beq t 0 <;> (intro h; cases h)) (fun x => F14_r5 h x1 x2 x3 v4 l5 v5 hv5 l6 v6 hv6 x) hl
  simp only [F14_x5, q0, cond_true, cond_false] at k
  exact k
theorem F14_l5_1 (h : AHeap) (x1 : Int) (x2 : Int) (x3 : Bool) (v4 : Hd) (l5 : List (Int × Int × Int × Int)) (v5 : Hd) (hv5 : SlE E59 4 h (sv v5) l5) (l6 : List (Int × Int)) (v6 : Hd) (hv6 : SlE E61 2 h (sv v6) l6) (x : Int) (r : Nat) (hl : loopO (fun (s : Int) => F14_s5 l5 l6 s) x = some r) (q0 : Nat.beq r 0 = false) : AWp Try.prog (.loop (codeOf Try.prog 14 [1, 1, 1, 1, 1, 1, 1, 1, 0, 1, 0, 0])) (Ends1 (.exit 8) (F14_x5_1 h r)) ((fun (s : Int) => (F14_h5 h x1 x2 x3 v4 v5 l6 v6 s)) x) := by
  have k := loop_fun (P := Try.prog) (c := (codeOf Try.prog 14 [1, 1, 1, 1, 1, 1, 1, 1, 0, 1, 0, 0])) (step := (fun (s : Int) => F14_s5 l5 l6 s)) (hd := (fun (s : Int) => (F14_h5 h x1 x2 x3 v4 v5 l6 v6 s))) (X := (F14_x5 h)) (by intro t; unfold F14_x5; cases Nat.beq t 0 <;> (intro h; cases h)) (fun x => F14_r5 h x1 x2 x3 v4 l5 v5 hv5 l6 v6 hv6 x) hl
  simp only [F14_x5, q0, cond_true, cond_false] at k
  exact k
def F14 (x1 : Int) (x2 : Int) (x3 : Bool) (l4 : List (Int × Int × Int × Int)) (l5 : List (Int × Int × Int × Int)) (l6 : List (Int × Int)) : Option (Bool) :=
  (bif decide (x1 < 0) then
   some (false)
  else
   (bif decide (x1 > 4096) then
    some (false)
   else
    (bif decide (x2 < 0) then
     some (false)
    else
     (bif decide (x2 > 4094) then
      some (false)
     else
      (bif ((l6.length : Int) != x1) then
       some (false)
      else
       (Option.bind (loopO (fun (s : Int) => F14_s1 x1 x2 x3 l4 s) 0) fun y25 =>
       (bif (Nat.beq y25 0) then
        some (false)
       else
        (bif decide ((l4.length : Int) < (F14__2 x1 x2)) then
         some (false)
        else
         (Option.bind (loopO (fun (s : Int) => F14_s2 x1 x2 x3 l4 l5 l6 s) 0) fun y38 =>
         (bif (Nat.beq y38 0) then
          some (false)
         else
          (Option.bind (loopO (fun (s : Int) => F14_s3 l5 s) 0) fun y47 =>
          (bif (Nat.beq y47 0) then
           some (false)
          else
           (Option.bind (loopO (fun (s : Int) => F14_s4 x1 x2 x3 l4 l5 l6 s) 0) fun y59 =>
           (bif (Nat.beq y59 0) then
            some (false)
           else
            (Option.bind (loopO (fun (s : Int) => F14_s5 l5 l6 s) 0) fun y74 =>
            (bif (Nat.beq y74 0) then
             some (false)
            else
             some (true)))))))))))))))))
set_option maxRecDepth 100000 in
theorem F14_spec (x1 : Int) (x2 : Int) (x3 : Bool) (l4 : List (Int × Int × Int × Int)) (l5 : List (Int × Int × Int × Int)) (l6 : List (Int × Int)) (v4 : Hd) (v5 : Hd) (v6 : Hd) (h : AHeap) (hv4 : SlE E57 4 h (sv v4) l4) (hv5 : SlE E59 4 h (sv v5) l5) (hv6 : SlE E61 2 h (sv v6) l6) (r : Bool) : F14 x1 x2 x3 l4 l5 l6 = some r → ACalls Try.prog 14 [.agg #[.int .i64 x1, .int .i64 x2, .bool x3, (sv v4), (sv v5), (sv v6)]] h (fun v' h'' => v' = (.bool r : Value) ∧ h'' = h) := by
  unfold F14
  refine dec_bif (fun c7 => ?_) (fun c7 => ?_)
  · intro hr
    obtain rfl := Option.some.inj hr
    exact pFun_sound good tab_ok (f := 14) (its := [.g, .g, .g, .g, .g, .g, .n, .n, .n, (.p true), .g, .n, .n, .n, .g, .g, .n, .n, .n, .g, .g, .n, .n, .n, .n, .n, .n, .g, (.b true), .g]) (args := [.agg #[.int .i64 x1, .int .i64 x2, .bool x3, (sv v4), (sv v5), (sv v6)]]) (h := h) (h' := h) (v := .bool false) (hC := (ai l_t (ai (g_tf l_t) (ai (g_tf l_t) (ai (g_tf l_t) (ai (g_tf l_t) (ai (g_tf l_t) (ai (g_tf l_t) (ai (g_tf l_t) (ai (g_tf l_t) (ai (g_tf l_t) (ai (g_tf l_t) (ai (g_tf l_t) (ai (g_tf l_t) (ai c7 (ai (g_tf c7) (ai (g_tf c7) (ai (g_tf c7) trivial)))))))))))))))))) (hr := by kernel_rfl)
  · have kc8 := (ai c7 (ai (g_ff c7) (ai (g_ff c7) (ai (g_ff c7) trivial))))
    refine dec_bif (fun c8 => ?_) (fun c8 => ?_)
    · intro hr
      obtain rfl := Option.some.inj hr
      exact pFun_sound good tab_ok (f := 14) (its := [.g, .g, .g, .g, .g, .g, (.w .g), (.w .g), (.w .g), (.p false), .g, .n, .n, .n, (.p true), .g, .n, .n, .n, .g, .g, .n, .n, .n, .n, .n, .n, .g, (.b true), .g]) (args := [.agg #[.int .i64 x1, .int .i64 x2, .bool x3, (sv v4), (sv v5), (sv v6)]]) (h := h) (h' := h) (v := .bool false) (hC := (ai l_t (ai (g_tf l_t) (ai (g_tf l_t) (ai (g_tf l_t) (ai (g_tf l_t) (ai (g_tf l_t) (ai (g_tf l_t) (ai (g_tf l_t) (ai (g_tf l_t) (ai (g_tf l_t) (ai c8 (ai (g_tf c8) (ai (g_tf c8) (ai (g_tf c8) kc8))))))))))))))) (hr := by kernel_rfl)
    · have kc9 := (ai c8 (ai (g_ff c8) (ai (g_ff c8) (ai (g_ff c8) kc8))))
      refine dec_bif (fun c9 => ?_) (fun c9 => ?_)
      · intro hr
        obtain rfl := Option.some.inj hr
        exact pFun_sound good tab_ok (f := 14) (its := [.g, .g, .g, .g, .g, .g, (.w .g), (.w .g), (.w .g), (.p false), .g, (.w .g), (.w .g), (.w .g), (.p false), .g, .n, .n, .n, (.p true), .g, .n, .n, .n, .n, .n, .n, .g, (.b true), .g]) (args := [.agg #[.int .i64 x1, .int .i64 x2, .bool x3, (sv v4), (sv v5), (sv v6)]]) (h := h) (h' := h) (v := .bool false) (hC := (ai l_t (ai (g_tf l_t) (ai (g_tf l_t) (ai (g_tf l_t) (ai (g_tf l_t) (ai (g_tf l_t) (ai (g_tf l_t) (ai c9 (ai (g_tf c9) (ai (g_tf c9) (ai (g_tf c9) kc9)))))))))))) (hr := by kernel_rfl)
      · have kc10 := (ai c9 (ai (g_ff c9) (ai (g_ff c9) (ai (g_ff c9) kc9))))
        refine dec_bif (fun c10 => ?_) (fun c10 => ?_)
        · intro hr
          obtain rfl := Option.some.inj hr
          exact pFun_sound good tab_ok (f := 14) (its := [.g, .g, .g, .g, .g, .g, (.w .g), (.w .g), (.w .g), (.p false), .g, (.w .g), (.w .g), (.w .g), (.p false), .g, (.w .g), (.w .g), (.w .g), (.p false), .g, .n, .n, .n, .n, .n, .n, (.p true), (.b true), .g]) (args := [.agg #[.int .i64 x1, .int .i64 x2, .bool x3, (sv v4), (sv v5), (sv v6)]]) (h := h) (h' := h) (v := .bool false) (hC := (ai l_t (ai c10 (ai (g_tf c10) (ai (g_tf c10) (ai (g_tf c10) (ai (g_tf c10) (ai (g_tf c10) (ai (g_tf c10) kc10))))))))) (hr := by kernel_rfl)
        · have kc11 := (ai c10 (ai (g_ff c10) (ai (g_ff c10) (ai (g_ff c10) (ai (SlE.len hv6) (ai (g_ff c10) (ai (g_ff c10) (ai (g_ff c10) kc10))))))))
          refine dec_bif (fun c11 => ?_) (fun c11 => ?_)
          · intro hr
            obtain rfl := Option.some.inj hr
            exact pFun_sound good tab_ok (f := 14) (its := [.g, .g, .g, .g, .g, .g, (.w .g), (.w .g), (.w .g), (.p false), .g, (.w .g), (.w .g), (.w .g), (.p false), .g, (.w .g), (.w .g), (.w .g), (.p false), .g, (.w .g), (.w .g), (.w (.ln l6.length)), (.w .g), (.w .g), (.w .g), (.p false), (.b true), .g]) (args := [.agg #[.int .i64 x1, .int .i64 x2, .bool x3, (sv v4), (sv v5), (sv v6)]]) (h := h) (h' := h) (v := .bool false) (hC := (ai c11 kc11)) (hr := by kernel_rfl)
          · refine bind_opt fun y25 e25 => ?_
            have kc26 := (ai (SlE.len hv4) (ai c11 kc11))
            refine dec_bif (fun c26 => ?_) (fun c26 => ?_)
            · intro hr
              obtain rfl := Option.some.inj hr
              exact pFun_sound good tab_ok (f := 14) (its := [.g, .g, .g, .g, .g, .g, (.w .g), (.w .g), (.w .g), (.p false), .g, (.w .g), (.w .g), (.w .g), (.p false), .g, (.w .g), (.w .g), (.w .g), (.p false), .g, (.w .g), (.w .g), (.w (.ln l6.length)), (.w .g), (.w .g), (.w .g), (.p false), (.b false), .g, .g, .g, .g, .g, .g, .g, .g, .g, (.ln l4.length), .g, (.l F14_m1_1 [] .ret (F14_x1_0 h x1 x2 x3 v4 v5 v6 y25))]) (args := [.agg #[.int .i64 x1, .int .i64 x2, .bool x3, (sv v4), (sv v5), (sv v6)]]) (h := h) (h' := h) (v := .bool false) (hC := (ai (F14_l1_0 h x1 x2 x3 l4 v4 hv4 v5 v6 0 y25 e25 c26) kc26)) (hr := by kernel_rfl)
            · have kc27 := (ai (SlE.len hv4) (ai (F14_l1_1 h x1 x2 x3 l4 v4 hv4 v5 v6 0 y25 e25 c26) kc26))
              refine dec_bif (fun c27 => ?_) (fun c27 => ?_)
              · intro hr
                obtain rfl := Option.some.inj hr
                exact pFun_sound good tab_ok (f := 14) (its := [.g, .g, .g, .g, .g, .g, (.w .g), (.w .g), (.w .g), (.p false), .g, (.w .g), (.w .g), (.w .g), (.p false), .g, (.w .g), (.w .g), (.w .g), (.p false), .g, (.w .g), (.w .g), (.w (.ln l6.length)), (.w .g), (.w .g), (.w .g), (.p false), (.b false), .g, .g, .g, .g, .g, .g, .g, .g, .g, (.ln l4.length), .g, (.l F14_m1_1 [] (.exit 0) (F14_x1_1 h x1 x2 x3 v4 v5 v6 y25)), .g, .g, (.ln l4.length), .g, .g, .g, .g, (.b true), .g]) (args := [.agg #[.int .i64 x1, .int .i64 x2, .bool x3, (sv v4), (sv v5), (sv v6)]]) (h := h) (h' := h) (v := .bool false) (hC := (ai c27 kc27)) (hr := by kernel_rfl)
              · refine bind_opt fun y38 e38 => ?_
                have kc39 := (ai c27 kc27)
                refine dec_bif (fun c39 => ?_) (fun c39 => ?_)
                · intro hr
                  obtain rfl := Option.some.inj hr
                  exact pFun_sound good tab_ok (f := 14) (its := [.g, .g, .g, .g, .g, .g, (.w .g), (.w .g), (.w .g), (.p false), .g, (.w .g), (.w .g), (.w .g), (.p false), .g, (.w .g), (.w .g), (.w .g), (.p false), .g, (.w .g), (.w .g), (.w (.ln l6.length)), (.w .g), (.w .g), (.w .g), (.p false), (.b false), .g, .g, .g, .g, .g, .g, .g, .g, .g, (.ln l4.length), .g, (.l F14_m1_1 [] (.exit 0) (F14_x1_1 h x1 x2 x3 v4 v5 v6 y25)), .g, .g, (.ln l4.length), .g, .g, .g, .g, (.b false), .g, .g, .g, (.l F14_m2_1 [] .ret (F14_x2_0 h x1 x2 x3 v4 v5 v6 y38))]) (args := [.agg #[.int .i64 x1, .int .i64 x2, .bool x3, (sv v4), (sv v5), (sv v6)]]) (h := h) (h' := h) (v := .bool false) (hC := (ai (F14_l2_0 h x1 x2 x3 l4 v4 hv4 l5 v5 hv5 l6 v6 hv6 0 y38 e38 c39) kc39)) (hr := by kernel_rfl)
                · refine bind_opt fun y47 e47 => ?_
                  have kc48 := (ai (SlE.len hv5) (ai (F14_l2_1 h x1 x2 x3 l4 v4 hv4 l5 v5 hv5 l6 v6 hv6 0 y38 e38 c39) kc39))
                  refine dec_bif (fun c48 => ?_) (fun c48 => ?_)
                  · intro hr
                    obtain rfl := Option.some.inj hr
                    exact pFun_sound good tab_ok (f := 14) (its := [.g, .g, .g, .g, .g, .g, (.w .g), (.w .g), (.w .g), (.p false), .g, (.w .g), (.w .g), (.w .g), (.p false), .g, (.w .g), (.w .g), (.w .g), (.p false), .g, (.w .g), (.w .g), (.w (.ln l6.length)), (.w .g), (.w .g), (.w .g), (.p false), (.b false), .g, .g, .g, .g, .g, .g, .g, .g, .g, (.ln l4.length), .g, (.l F14_m1_1 [] (.exit 0) (F14_x1_1 h x1 x2 x3 v4 v5 v6 y25)), .g, .g, (.ln l4.length), .g, .g, .g, .g, (.b false), .g, .g, .g, (.l F14_m2_1 [] (.exit 2) (F14_x2_1 h x1 x2 x3 v4 v5 v6 y38)), .g, .g, (.ln l5.length), .g, (.l F14_m3_1 [] .ret (F14_x3_0 h x1 x2 x3 v4 v5 v6 y47))]) (args := [.agg #[.int .i64 x1, .int .i64 x2, .bool x3, (sv v4), (sv v5), (sv v6)]]) (h := h) (h' := h) (v := .bool false) (hC := (ai (F14_l3_0 h x1 x2 x3 v4 l5 v5 hv5 v6 0 y47 e47 c48) kc48)) (hr := by kernel_rfl)
                  · refine bind_opt fun y59 e59 => ?_
                    have kc60 := (ai (F14_l3_1 h x1 x2 x3 v4 l5 v5 hv5 v6 0 y47 e47 c48) kc48)
                    refine dec_bif (fun c60 => ?_) (fun c60 => ?_)
                    · intro hr
                      obtain rfl := Option.some.inj hr
                      exact pFun_sound good tab_ok (f := 14) (its := [.g, .g, .g, .g, .g, .g, (.w .g), (.w .g), (.w .g), (.p false), .g, (.w .g), (.w .g), (.w .g), (.p false), .g, (.w .g), (.w .g), (.w .g), (.p false), .g, (.w .g), (.w .g), (.w (.ln l6.length)), (.w .g), (.w .g), (.w .g), (.p false), (.b false), .g, .g, .g, .g, .g, .g, .g, .g, .g, (.ln l4.length), .g, (.l F14_m1_1 [] (.exit 0) (F14_x1_1 h x1 x2 x3 v4 v5 v6 y25)), .g, .g, (.ln l4.length), .g, .g, .g, .g, (.b false), .g, .g, .g, (.l F14_m2_1 [] (.exit 2) (F14_x2_1 h x1 x2 x3 v4 v5 v6 y38)), .g, .g, (.ln l5.length), .g, (.l F14_m3_1 [] (.exit 4) (F14_x3_1 h x1 x2 x3 v4 v5 v6 y47)), .g, .g, .g, (.l F14_m4_1 [] .ret (F14_x4_0 h x1 x2 x3 v4 v5 v6 y59))]) (args := [.agg #[.int .i64 x1, .int .i64 x2, .bool x3, (sv v4), (sv v5), (sv v6)]]) (h := h) (h' := h) (v := .bool false) (hC := (ai (F14_l4_0 h x1 x2 x3 l4 v4 hv4 l5 v5 hv5 l6 v6 hv6 0 y59 e59 c60) kc60)) (hr := by kernel_rfl)
                    · refine bind_opt fun y74 e74 => ?_
                      have kc75 := (ai (SlE.len hv6) (ai (F14_l4_1 h x1 x2 x3 l4 v4 hv4 l5 v5 hv5 l6 v6 hv6 0 y59 e59 c60) kc60))
                      refine dec_bif (fun c75 => ?_) (fun c75 => ?_)
                      · intro hr
                        obtain rfl := Option.some.inj hr
                        exact pFun_sound good tab_ok (f := 14) (its := [.g, .g, .g, .g, .g, .g, (.w .g), (.w .g), (.w .g), (.p false), .g, (.w .g), (.w .g), (.w .g), (.p false), .g, (.w .g), (.w .g), (.w .g), (.p false), .g, (.w .g), (.w .g), (.w (.ln l6.length)), (.w .g), (.w .g), (.w .g), (.p false), (.b false), .g, .g, .g, .g, .g, .g, .g, .g, .g, (.ln l4.length), .g, (.l F14_m1_1 [] (.exit 0) (F14_x1_1 h x1 x2 x3 v4 v5 v6 y25)), .g, .g, (.ln l4.length), .g, .g, .g, .g, (.b false), .g, .g, .g, (.l F14_m2_1 [] (.exit 2) (F14_x2_1 h x1 x2 x3 v4 v5 v6 y38)), .g, .g, (.ln l5.length), .g, (.l F14_m3_1 [] (.exit 4) (F14_x3_1 h x1 x2 x3 v4 v5 v6 y47)), .g, .g, .g, (.l F14_m4_1 [] (.exit 6) (F14_x4_1 h x1 x2 x3 v4 v5 v6 y59)), .g, .g, (.ln l6.length), .g, (.l F14_m5_1 [] .ret (F14_x5_0 h y74))]) (args := [.agg #[.int .i64 x1, .int .i64 x2, .bool x3, (sv v4), (sv v5), (sv v6)]]) (h := h) (h' := h) (v := .bool false) (hC := (ai (F14_l5_0 h x1 x2 x3 v4 l5 v5 hv5 l6 v6 hv6 0 y74 e74 c75) kc75)) (hr := by kernel_rfl)
                      · intro hr
                        obtain rfl := Option.some.inj hr
                        exact pFun_sound good tab_ok (f := 14) (its := [.g, .g, .g, .g, .g, .g, (.w .g), (.w .g), (.w .g), (.p false), .g, (.w .g), (.w .g), (.w .g), (.p false), .g, (.w .g), (.w .g), (.w .g), (.p false), .g, (.w .g), (.w .g), (.w (.ln l6.length)), (.w .g), (.w .g), (.w .g), (.p false), (.b false), .g, .g, .g, .g, .g, .g, .g, .g, .g, (.ln l4.length), .g, (.l F14_m1_1 [] (.exit 0) (F14_x1_1 h x1 x2 x3 v4 v5 v6 y25)), .g, .g, (.ln l4.length), .g, .g, .g, .g, (.b false), .g, .g, .g, (.l F14_m2_1 [] (.exit 2) (F14_x2_1 h x1 x2 x3 v4 v5 v6 y38)), .g, .g, (.ln l5.length), .g, (.l F14_m3_1 [] (.exit 4) (F14_x3_1 h x1 x2 x3 v4 v5 v6 y47)), .g, .g, .g, (.l F14_m4_1 [] (.exit 6) (F14_x4_1 h x1 x2 x3 v4 v5 v6 y59)), .g, .g, (.ln l6.length), .g, (.l F14_m5_1 [] (.exit 8) (F14_x5_1 h y74)), .g]) (args := [.agg #[.int .i64 x1, .int .i64 x2, .bool x3, (sv v4), (sv v5), (sv v6)]]) (h := h) (h' := h) (v := .bool true) (hC := (ai (F14_l5_1 h x1 x2 x3 v4 l5 v5 hv5 l6 v6 hv6 0 y74 e74 c75) kc75)) (hr := by kernel_rfl)
/-! 19 jacquard/jacquardlaw31.loop -/
def F19 (x1 : Int) (x2 : Int) (x3 : Bool) (l4 : List (Int × Int × Int × Int)) (l5 : List (Int × Int × Int × Int)) (l6 : List (Int × Int)) : Option (Bool) :=
  (Option.bind (F14 x1 x2 x3 l4 l5 l6) fun y7 =>
  (bif y7 then
   some (x3)
  else
   some (false)))
set_option maxRecDepth 100000 in
theorem F19_spec (x1 : Int) (x2 : Int) (x3 : Bool) (l4 : List (Int × Int × Int × Int)) (l5 : List (Int × Int × Int × Int)) (l6 : List (Int × Int)) (v4 : Hd) (v5 : Hd) (v6 : Hd) (h : AHeap) (hv4 : SlE E57 4 h (sv v4) l4) (hv5 : SlE E59 4 h (sv v5) l5) (hv6 : SlE E61 2 h (sv v6) l6) (r : Bool) : F19 x1 x2 x3 l4 l5 l6 = some r → ACalls Try.prog 19 [.agg #[.int .i64 x1, .int .i64 x2, .bool x3, (sv v4), (sv v5), (sv v6)]] h (fun v' h'' => v' = (.bool r : Value) ∧ h'' = h) := by
  unfold F19
  refine bind_opt fun y7 e7 => ?_
  have kc9 := (ai (F14_spec x1 x2 x3 l4 l5 l6 v4 v5 v6 h hv4 hv5 hv6 _ e7) trivial)
  refine dec_bif (fun c9 => ?_) (fun c9 => ?_)
  · intro hr
    obtain rfl := Option.some.inj hr
    exact pFun_sound good tab_ok (f := 19) (its := [.g, .g, .g, (.c (.bool y7) h), .g, (.w .g), (.w .g), (.p true), .g]) (args := [.agg #[.int .i64 x1, .int .i64 x2, .bool x3, (sv v4), (sv v5), (sv v6)]]) (h := h) (h' := h) (v := .bool x3) (hC := (ai c9 (ai (g_tt c9) (ai (g_tt c9) kc9)))) (hr := by kernel_rfl)
  · intro hr
    obtain rfl := Option.some.inj hr
    exact pFun_sound good tab_ok (f := 19) (its := [.g, .g, .g, (.c (.bool y7) h), .g, .n, .n, (.p false), .g]) (args := [.agg #[.int .i64 x1, .int .i64 x2, .bool x3, (sv v4), (sv v5), (sv v6)]]) (h := h) (h' := h) (v := .bool false) (hC := (ai c9 (ai (g_ft c9) (ai (g_ft c9) kc9)))) (hr := by kernel_rfl)
/-! 39 jacquard/jacquardref31.Sum -/
def F39_L : List Nat := [2]
def F39_D : List (Nat × List (Nat × Nat)) := []
def F39_m1_1 : List Bool := (rp 6 true (false :: false :: (rp 34 true [])))
def F39_m1_0 : List Bool := (true :: false :: false :: true :: true :: true :: false :: false :: true :: true :: true :: false :: false :: (rp 29 true []))
def F39_s1 (l6 : List (Int × Int)) (x7 : Int) (a8 : Int) (a9 : Int) (a10 : Int) : Option ((Int × Int × Int) ⊕ (Int × Int)) :=
  (bif decide (a10 < (l6.length : Int)) then
   (Option.bind (at? l6 a10) fun y12 =>
   (bif (y12.1 == x7) then
    some (.inl ((IntKind.i64.wrap (a8 + y12.2)), (if y12.2 > a9 then y12.2 else a9), (IntKind.i64.wrap (a10 + 1))))
   else
    some (.inl (a8, a9, (IntKind.i64.wrap (a10 + 1))))))
  else
   some (.inr (a8, a9)))
def F39_h1 (h : AHeap) (x1 : Int) (x2 : Int) (x3 : Bool) (v4 : Hd) (v5 : Hd) (l6 : List (Int × Int)) (v6 : Hd) (x7 : Int)  (a8 : Int) (a9 : Int) (a10 : Int) : AS := ⟨(junk :: (.int .i64 x7) :: (.pointer (some ⟨2, 0, none⟩)) :: junk :: junk :: junk :: (.int .i64 a8) :: (.int .i64 a9) :: junk :: junk :: junk :: (.int .i64 (l6.length : Int)) :: (.int .i64 a10) :: (rp 29 junk [])), [(2, [.int .i64 x1, .int .i64 x2, .bool x3, (sv v4), (sv v5), (sv v6)])], h⟩
theorem F39_d1 : drawsOk F39_D (codeOf Try.prog 39 [1, 1, 0, 1, 0, 0]) = true := by kernel_rfl
def F39_x1_0 (h : AHeap)  (r : Int × Int) : AS := ⟨(rp 6 junk ((.int .i64 r.1) :: (.int .i64 r.2) :: (rp 34 junk []))), [], h⟩
def F39_x1 (h : AHeap) (r : Int × Int) : Exit × AS := ((.exit 0), (F39_x1_0 h r))
set_option maxRecDepth 100000 in
theorem F39_r1 (h : AHeap) (x1 : Int) (x2 : Int) (x3 : Bool) (v4 : Hd) (v5 : Hd) (l6 : List (Int × Int)) (v6 : Hd) (hv6 : SlE E61 2 h (sv v6) l6) (x7 : Int) (a8 : Int) (a9 : Int) (a10 : Int) (o : (Int × Int × Int) ⊕ (Int × Int)) : F39_s1 l6 x7 a8 a9 a10 = some o → RdF Try.prog (codeOf Try.prog 39 [1, 1, 0, 1, 0, 0]) (fun (s : Int × Int × Int) => (F39_h1 h x1 x2 x3 v4 v5 l6 v6 x7 s.1 s.2.1 s.2.2)) (F39_x1 h) (F39_h1 h x1 x2 x3 v4 v5 l6 v6 x7 a8 a9 a10) o := by
  unfold F39_s1
  refine dec_bif (fun c11 => ?_) (fun c11 => ?_)
  · refine bind_opt fun y12 e12 => ?_
    obtain ⟨id12, off12, g12, cs12, ix12, at12, rfl⟩ := SlE.at hv6 e12
    have kc13 := (ai (At.one (P := Try.prog) (t := 3) (v := .int .i64 y12.1) at12 (by kernel_rfl) 0 rfl rfl) (ai ix12 (ai c11 trivial)))
    refine dec_bif (fun c13 => ?_) (fun c13 => ?_)
    · intro hr
      obtain rfl := Option.some.inj hr
      show AWp Try.prog _ (Ends1 .normal (F39_h1 h x1 x2 x3 v4 v5 l6 v6 x7 (IntKind.i64.wrap (a8 + y12.2)) (if y12.2 > a9 then y12.2 else a9) (IntKind.i64.wrap (a10 + 1)))) _
      exact pEnd_sound good (L := F39_L) (D := F39_D) (its := [.g, (.b true), .g, .g, .g, .g, .g, (.ix id12 off12 g12), .g, (.ld (.int .i64 y12.1)), .g, .g, (.b true), .g, .g, .g, .g, (.ix id12 off12 g12), .g, (.ld (.int .i64 y12.2)), .g, .g, .g, .g, .g, .g, (.ix id12 off12 g12), .g, (.ld (.int .i64 y12.2)), .g, .g, .g, .g]) (ds := F39_m1_0) (ks := []) (e := .normal) (s2 := (F39_h1 h x1 x2 x3 v4 v5 l6 v6 x7 (IntKind.i64.wrap (a8 + y12.2)) (if y12.2 > a9 then y12.2 else a9) (IntKind.i64.wrap (a10 + 1)))) (hC := (ai (At.one (P := Try.prog) (t := 3) (v := .int .i64 y12.2) at12 (by kernel_rfl) 1 rfl rfl) (ai ix12 (ai (At.one (P := Try.prog) (t := 3) (v := .int .i64 y12.2) at12 (by kernel_rfl) 1 rfl rfl) (ai ix12 (ai c13 kc13)))))) (hd := F39_d1) (h := by kernel_rfl)
    · intro hr
      obtain rfl := Option.some.inj hr
      show AWp Try.prog _ (Ends1 .normal (F39_h1 h x1 x2 x3 v4 v5 l6 v6 x7 a8 a9 (IntKind.i64.wrap (a10 + 1)))) _
      exact pEnd_sound good (L := F39_L) (D := F39_D) (its := [.g, (.b true), .g, .g, .g, .g, .g, (.ix id12 off12 g12), .g, (.ld (.int .i64 y12.1)), .g, .g, (.b false), .g, .g]) (ds := F39_m1_0) (ks := []) (e := .normal) (s2 := (F39_h1 h x1 x2 x3 v4 v5 l6 v6 x7 a8 a9 (IntKind.i64.wrap (a10 + 1)))) (hC := (ai c13 kc13)) (hd := F39_d1) (h := by kernel_rfl)
  · intro hr
    obtain rfl := Option.some.inj hr
    show AWp Try.prog _ (Ends1 ((F39_x1 h) ((a8, a9) : Int × Int)).1 ((F39_x1 h) ((a8, a9) : Int × Int)).2) _
    exact pEnd_sound good (L := F39_L) (D := F39_D) (its := [.g, (.b false)]) (ds := F39_m1_1) (ks := [2]) (e := ((F39_x1 h) ((a8, a9) : Int × Int)).1) (s2 := ((F39_x1 h) ((a8, a9) : Int × Int)).2) (hC := (ai c11 trivial)) (hd := F39_d1) (h := by kernel_rfl)
theorem F39_l1_0 (h : AHeap) (x1 : Int) (x2 : Int) (x3 : Bool) (v4 : Hd) (v5 : Hd) (l6 : List (Int × Int)) (v6 : Hd) (hv6 : SlE E61 2 h (sv v6) l6) (x7 : Int) (x : Int × Int × Int) (r : Int × Int) (hl : loopO (fun (s : Int × Int × Int) => F39_s1 l6 x7 s.1 s.2.1 s.2.2) x = some r) : AWp Try.prog (.loop (codeOf Try.prog 39 [1, 1, 0, 1, 0, 0])) (Ends1 (.exit 0) (F39_x1_0 h r)) ((fun (s : Int × Int × Int) => (F39_h1 h x1 x2 x3 v4 v5 l6 v6 x7 s.1 s.2.1 s.2.2)) x) := by
  have k := loop_fun (P := Try.prog) (c := (codeOf Try.prog 39 [1, 1, 0, 1, 0, 0])) (step := (fun (s : Int × Int × Int) => F39_s1 l6 x7 s.1 s.2.1 s.2.2)) (hd := (fun (s : Int × Int × Int) => (F39_h1 h x1 x2 x3 v4 v5 l6 v6 x7 s.1 s.2.1 s.2.2))) (X := (F39_x1 h)) (by intro t; unfold F39_x1; intro h; cases h) (fun x => F39_r1 h x1 x2 x3 v4 v5 l6 v6 hv6 x7 x.1 x.2.1 x.2.2) hl
  exact k
def F39 (x1 : Int) (x2 : Int) (x3 : Bool) (l4 : List (Int × Int × Int × Int)) (l5 : List (Int × Int × Int × Int)) (l6 : List (Int × Int)) (x7 : Int) : Option (Int × Int) :=
  (Option.bind (loopO (fun (s : Int × Int × Int) => F39_s1 l6 x7 s.1 s.2.1 s.2.2) (0, 0, 0)) fun y14 =>
  some (y14.1, y14.2))
set_option maxRecDepth 100000 in
theorem F39_spec (x1 : Int) (x2 : Int) (x3 : Bool) (l4 : List (Int × Int × Int × Int)) (l5 : List (Int × Int × Int × Int)) (l6 : List (Int × Int)) (x7 : Int) (v4 : Hd) (v5 : Hd) (v6 : Hd) (h : AHeap) (hv4 : SlE E57 4 h (sv v4) l4) (hv5 : SlE E59 4 h (sv v5) l5) (hv6 : SlE E61 2 h (sv v6) l6) (r : Int × Int) : F39 x1 x2 x3 l4 l5 l6 x7 = some r → ACalls Try.prog 39 [.agg #[.int .i64 x1, .int .i64 x2, .bool x3, (sv v4), (sv v5), (sv v6)], .int .i64 x7] h (fun v' h'' => v' = (.tuple #[.int .i64 r.1, .int .i64 r.2] : Value) ∧ h'' = h) := by
  unfold F39
  refine bind_opt fun y14 e14 => ?_
  intro hr
  obtain rfl := Option.some.inj hr
  exact pFun_sound good tab_ok (f := 39) (its := [.g, .g, .g, .g, .g, .g, .g, (.ln l6.length), .g, (.l F39_m1_0 [] (.exit 0) (F39_x1_0 h y14)), .g, .g, .g, .g]) (args := [.agg #[.int .i64 x1, .int .i64 x2, .bool x3, (sv v4), (sv v5), (sv v6)], .int .i64 x7]) (h := h) (h' := h) (v := .tuple #[.int .i64 y14.1, .int .i64 y14.2]) (hC := (ai (F39_l1_0 h x1 x2 x3 v4 v5 l6 v6 hv6 x7 (0, 0, 0) y14 e14) (ai (SlE.len hv6) trivial))) (hr := by kernel_rfl)
/-! 20 jacquard/jacquardref31.Resource -/
def F20__1 (y8 : Int × Int) (y10 : Int × Int × Int × Int) : Int := (IntKind.i64.wrap ((IntKind.i64.wrap ((IntKind.i64.wrap (y8.1 + y10.2.2.2)) - 1)).tdiv y10.2.2.2))
def F20 (x1 : Int) (x2 : Int) (x3 : Bool) (l4 : List (Int × Int × Int × Int)) (l5 : List (Int × Int × Int × Int)) (l6 : List (Int × Int)) (x7 : Int) : Option (Int × Int × Int) :=
  (Option.bind (F39 x1 x2 x3 l4 l5 l6 x7) fun y8 =>
  (Option.bind (at? l5 x7) fun y10 =>
  (bif (y10.2.2.2 == 0) then none else
  (bif (y8.1 == 0) then
   some (1, 1, x7)
  else
   (bif decide ((F20__1 y8 y10) ≥ y8.2) then
    some (3, (F20__1 y8 y10), x7)
   else
    some (4, y8.2, x7))))))
set_option maxRecDepth 100000 in
theorem F20_spec (x1 : Int) (x2 : Int) (x3 : Bool) (l4 : List (Int × Int × Int × Int)) (l5 : List (Int × Int × Int × Int)) (l6 : List (Int × Int)) (x7 : Int) (v4 : Hd) (v5 : Hd) (v6 : Hd) (h : AHeap) (hv4 : SlE E57 4 h (sv v4) l4) (hv5 : SlE E59 4 h (sv v5) l5) (hv6 : SlE E61 2 h (sv v6) l6) (r : Int × Int × Int) : F20 x1 x2 x3 l4 l5 l6 x7 = some r → ACalls Try.prog 20 [.agg #[.int .i64 x1, .int .i64 x2, .bool x3, (sv v4), (sv v5), (sv v6)], .int .i64 x7] h (fun v' h'' => v' = (.agg #[.int .i64 r.1, .int .i64 r.2.1, .slice none 0 0, .int .i64 r.2.2] : Value) ∧ h'' = h) := by
  unfold F20
  refine bind_opt fun y8 e8 => ?_
  refine bind_opt fun y10 e10 => ?_
  obtain ⟨id10, off10, g10, cs10, ix10, at10, rfl⟩ := SlE.at hv5 e10
  refine guard_ok fun g11 => ?_
  have kc12 := (ai (nz g11) (ai (At.one (P := Try.prog) (t := 3) (v := .int .i64 y10.2.2.2) at10 (by kernel_rfl) 3 rfl rfl) (ai ix10 (ai (At.one (P := Try.prog) (t := 3) (v := .int .i64 y10.2.2.2) at10 (by kernel_rfl) 3 rfl rfl) (ai ix10 (ai (F39_spec x1 x2 x3 l4 l5 l6 x7 v4 v5 v6 h hv4 hv5 hv6 _ e8) trivial))))))
  refine dec_bif (fun c12 => ?_) (fun c12 => ?_)
  · intro hr
    obtain rfl := Option.some.inj hr
    exact pFun_sound good tab_ok (f := 20) (its := [.g, .g, .g, .g, (.c (.tuple #[.int .i64 y8.1, .int .i64 y8.2]) h), .g, .g, .g, .g, .g, .g, .g, .g, .g, (.ix id10 off10 g10), .g, (.ld (.int .i64 y10.2.2.2)), .g, .g, .g, .g, .g, (.ix id10 off10 g10), .g, (.ld (.int .i64 y10.2.2.2)), .d, .g, .g, .g, .g, (.b true), .g, .g, .g]) (args := [.agg #[.int .i64 x1, .int .i64 x2, .bool x3, (sv v4), (sv v5), (sv v6)], .int .i64 x7]) (h := h) (h' := h) (v := .agg #[.int .i64 1, .int .i64 1, .slice none 0 0, .int .i64 x7]) (hC := (ai c12 kc12)) (hr := by kernel_rfl)
  · have kc13 := (ai c12 kc12)
    refine dec_bif (fun c13 => ?_) (fun c13 => ?_)
    · intro hr
      obtain rfl := Option.some.inj hr
      exact pFun_sound good tab_ok (f := 20) (its := [.g, .g, .g, .g, (.c (.tuple #[.int .i64 y8.1, .int .i64 y8.2]) h), .g, .g, .g, .g, .g, .g, .g, .g, .g, (.ix id10 off10 g10), .g, (.ld (.int .i64 y10.2.2.2)), .g, .g, .g, .g, .g, (.ix id10 off10 g10), .g, (.ld (.int .i64 y10.2.2.2)), .d, .g, .g, .g, .g, (.b false), .g, .g, .g, .g, (.b true), .g, .g, .g, .g]) (args := [.agg #[.int .i64 x1, .int .i64 x2, .bool x3, (sv v4), (sv v5), (sv v6)], .int .i64 x7]) (h := h) (h' := h) (v := .agg #[.int .i64 3, .int .i64 (F20__1 y8 y10), .slice none 0 0, .int .i64 x7]) (hC := (ai c13 kc13)) (hr := by kernel_rfl)
    · intro hr
      obtain rfl := Option.some.inj hr
      exact pFun_sound good tab_ok (f := 20) (its := [.g, .g, .g, .g, (.c (.tuple #[.int .i64 y8.1, .int .i64 y8.2]) h), .g, .g, .g, .g, .g, .g, .g, .g, .g, (.ix id10 off10 g10), .g, (.ld (.int .i64 y10.2.2.2)), .g, .g, .g, .g, .g, (.ix id10 off10 g10), .g, (.ld (.int .i64 y10.2.2.2)), .d, .g, .g, .g, .g, (.b false), .g, .g, .g, .g, (.b false), .g, .g, .g, .g]) (args := [.agg #[.int .i64 x1, .int .i64 x2, .bool x3, (sv v4), (sv v5), (sv v6)], .int .i64 x7]) (h := h) (h' := h) (v := .agg #[.int .i64 4, .int .i64 y8.2, .slice none 0 0, .int .i64 x7]) (hC := (ai c13 kc13)) (hr := by kernel_rfl)
/-! 41 jacquard/diffcons.Positive -/
def F41_L : List Nat := []
def F41_D : List (Nat × List (Nat × Nat)) := [(9, [(0, 2), (1, 2), (2, 2), (3, 2), (4, 2), (5, 2), (6, 2), (7, 2), (8, 2), (9, 2), (10, 2), (11, 2), (12, 2), (13, 2), (14, 2), (15, 2), (16, 2), (17, 2), (18, 2), (19, 2), (20, 2), (21, 2), (22, 2), (23, 2), (24, 1), (25, 2), (26, 2), (27, 2), (28, 2), (29, 2), (30, 2), (31, 2), (32, 2), (33, 2), (34, 2), (35, 2), (36, 2), (37, 2), (38, 2), (39, 2), (40, 2), (41, 2), (42, 2), (43, 2), (44, 2), (45, 2), (46, 2), (47, 0), (48, 2)])]
def F41_m1_2 : List Bool := (rp 8 true (false :: (rp 93 true [])))
def F41_m1_1 : List Bool := (false :: false :: false :: false :: (rp 4 true (false :: true :: false :: (rp 9 true (false :: false :: false :: (rp 79 true []))))))
def F41_m1_0 : List Bool := (rp 8 true (false :: false :: (rp 92 true [])))
def F41_s1 (x1 : Int) (l2 : List (Int × Int × Int × Int)) (x3 : Int) (l4 : List Int) (a9 : Int) (a10 : Int) (l11 : List (Int × Bool)) : Option ((Int × Int × (List (Int × Bool))) ⊕ (Nat × Int)) :=
  (bif decide (a10 < (l4.length : Int)) then
   (Option.bind (at? l4 a10) fun y14 =>
   (Option.bind (at? l4 ((IntKind.i64.wrap (a10 + 1)).tmod (l4.length : Int))) fun y15 =>
   (bif decide (y14 < 0) then
    some (.inr (0, 0))
   else
    (bif decide (y14 ≥ (l2.length : Int)) then
     some (.inr (0, 0))
    else
     (bif decide (y15 < 0) then
      some (.inr (0, 0))
     else
      (bif decide (y15 ≥ (l2.length : Int)) then
       some (.inr (0, 0))
      else
       (Option.bind (at? l2 y14) fun y20 =>
       (bif (!(F58 (F57 x1) y20.1 y20.2.1 y20.2.2.1 y20.2.2.2)) then
        some (.inr (0, 0))
       else
        (Option.bind (at? l2 y15) fun y23 =>
        (bif (y20.2.1 != y23.1) then
         some (.inr (0, 0))
        else
         (bif ((mget y20.1 l11).getD false) then
          some (.inr (0, 0))
         else
          some (.inl ((IntKind.i64.wrap (a9 + (F59 y20.1 y20.2.1 y20.2.2.1 y20.2.2.2 x3))), (IntKind.i64.wrap (a10 + 1)), (mput y20.1 true l11))))))))))))))
  else
   some (.inr (1, a9)))
def F41_h1 (x1 : Int) (v2 : Hd) (x3 : Int) (l4 : List Int) (v4 : Hd) (id7 : Nat) (h12 : AHeap) (a9 : Int) (a10 : Int) (l11 : List (Int × Bool)) : AS := ⟨((.int .i64 (F57 x1)) :: (sv v2) :: (.int .i64 x3) :: (sv v4) :: (rp 4 junk ((.int .i64 a9) :: junk :: (.map (some id7)) :: (rp 9 junk ((sv v4) :: (.int .i64 (l4.length : Int)) :: (.int .i64 a10) :: (rp 79 junk [])))))), [], h12⟩
theorem F41_d1 : drawsOk F41_D (codeOf Try.prog 41 [1, 1, 1, 1, 0, 1, 0, 0]) = true := by kernel_rfl
def F41_x1_0 (h : AHeap) (hx : AHeap) (r : Nat × Int) : AS := ⟨(rp 8 junk ((.int .i64 0) :: (.bool false) :: (rp 92 junk []))), [], hx⟩
def F41_x1_1 (h : AHeap) (hx : AHeap) (r : Nat × Int) : AS := ⟨(rp 8 junk ((.int .i64 r.2) :: (rp 93 junk []))), [], hx⟩
def F41_i1 (h : AHeap) (x1 : Int) (v2 : Hd) (x3 : Int) (l4 : List Int) (v4 : Hd) (id7 : Nat) (s : Int × Int × (List (Int × Bool))) (S : AS) : Prop := ∃ (h12 : AHeap), Heapy h h12 [⟨⟨some ⟨id7, 0, some 1⟩, 0, 0⟩, 0, 0, List.flatMap (fun (p : Int × Bool) => [.int .i64 p.1, .bool p.2]) s.2.2⟩] ∧ S = (F41_h1 x1 v2 x3 l4 v4 id7 h12 s.1 s.2.1 s.2.2)
def F41_x1 (h : AHeap) (r : Nat × Int) (e : Exit) (S : AS) : Prop := (bif Nat.beq r.1 0 then (e = .ret ∧ ∃ (hx : AHeap), Heapy h hx [] ∧ S = (F41_x1_0 h hx r)) else (e = (.exit 0) ∧ ∃ (hx : AHeap), Heapy h hx [] ∧ S = (F41_x1_1 h hx r)))
set_option maxRecDepth 100000 in
theorem F41_r1 (h : AHeap) (x1 : Int) (l2 : List (Int × Int × Int × Int)) (v2 : Hd) (hv2 : SlE E57 4 h (sv v2) l2) (x3 : Int) (l4 : List Int) (v4 : Hd) (hv4 : SlE E3 1 h (sv v4) l4) (c6 : ((l4.length : Int) == 0) = false) (id7 : Nat) (a9 : Int) (a10 : Int) (l11 : List (Int × Bool)) (S : AS) (hI : (F41_i1 h x1 v2 x3 l4 v4 id7) (a9, a10, l11) S) (o : (Int × Int × (List (Int × Bool))) ⊕ (Nat × Int)) : F41_s1 x1 l2 x3 l4 a9 a10 l11 = some o → Rd Try.prog (codeOf Try.prog 41 [1, 1, 1, 1, 0, 1, 0, 0]) (F41_i1 h x1 v2 x3 l4 v4 id7) (F41_x1 h) S o := by
  obtain ⟨h12, hp12, rfl⟩ := hI
  unfold F41_s1
  refine dec_bif (fun c13 => ?_) (fun c13 => ?_)
  · refine bind_opt fun y14 e14 => ?_
    obtain ⟨id14, off14, g14, cs14, ix14, at14, rfl⟩ := SlE.at hv4 e14
    refine bind_opt fun y15 e15 => ?_
    obtain ⟨id15, off15, g15, cs15, ix15, at15, rfl⟩ := SlE.at hv4 e15
    have kc16 := (ai (At.one (P := Try.prog) (t := 3) (v := .int .i64 y15) (At.mono (Heapy.sub hp12) at15) (by kernel_rfl) 0 rfl rfl) (ai ix15 (ai (nz c6) (ai (SlE.len hv4) (ai (At.one (P := Try.prog) (t := 3) (v := .int .i64 y14) (At.mono (Heapy.sub hp12) at14) (by kernel_rfl) 0 rfl rfl) (ai ix14 (ai c13 trivial)))))))
    refine dec_bif (fun c16 => ?_) (fun c16 => ?_)
    · intro hr
      obtain rfl := Option.some.inj hr
      refine ⟨.ret, (F41_x1_0 h h12 ((0, 0) : Nat × Int)), (by intro hh; cases hh), ?_, pEnd_sound good (L := F41_L) (D := F41_D) (its := [.g, (.b true), .g, (.ix id14 off14 g14), (.ld (.int .i64 y14)), .g, .g, .g, .g, .g, .g, (.ln l4.length), .d, (.ix id15 off15 g15), (.ld (.int .i64 y15)), .g, .g, .g, .g, .n, .n, .n, .n, (.p true), .g, .n, .n, .g, .g, .n, .n, .n, .n, .g, .g, .n, .n, .n, .n, .n, .n, .n, .g, .g, .n, .n, .n, .n, .n, .n, .n, .n, .n, .n, .n, .g, .g, .n, .n, .n, .n, .n, .n, .n, .g, (.b true), .g, .g]) (ds := F41_m1_0) (ks := []) (e := .ret) (s2 := (F41_x1_0 h h12 ((0, 0) : Nat × Int))) (hC := (ai l_t (ai (g_tf l_t) (ai (g_tf l_t) (ai (g_tf l_t) (ai (g_tf l_t) (ai (g_tf l_t) (ai (g_tf l_t) (ai (g_tf l_t) (ai (g_tf l_t) (ai (g_tf l_t) (ai (g_tf l_t) (ai (g_tf l_t) (ai (g_tf l_t) (ai (g_tf l_t) (ai (g_tf l_t) (ai (g_tf l_t) (ai (g_tf l_t) (ai (g_tf l_t) (ai (g_tf l_t) (ai (g_tf l_t) (ai (g_tf l_t) (ai (g_tf l_t) (ai (g_tf l_t) (ai (g_tf l_t) (ai (g_tf l_t) (ai (g_tf l_t) (ai (g_tf l_t) (ai (g_tf l_t) (ai (g_tf l_t) (ai (g_tf l_t) (ai (g_tf l_t) (ai (g_tf l_t) (ai c16 (ai (g_tf c16) (ai (g_tf c16) (ai (g_tf c16) (ai (g_tf c16) kc16)))))))))))))))))))))))))))))))))))))) (hd := F41_d1) (h := by kernel_rfl)⟩
      exact ⟨rfl, h12, (Heapy.pick hp12 [] (by decide)), rfl⟩
    · have kc17 := (ai c16 (ai (g_ff c16) (ai (SlE.len hv2) (ai (g_ff c16) (ai (g_ff c16) (ai (g_ff c16) kc16))))))
      refine dec_bif (fun c17 => ?_) (fun c17 => ?_)
      · intro hr
        obtain rfl := Option.some.inj hr
        refine ⟨.ret, (F41_x1_0 h h12 ((0, 0) : Nat × Int)), (by intro hh; cases hh), ?_, pEnd_sound good (L := F41_L) (D := F41_D) (its := [.g, (.b true), .g, (.ix id14 off14 g14), (.ld (.int .i64 y14)), .g, .g, .g, .g, .g, .g, (.ln l4.length), .d, (.ix id15 off15 g15), (.ld (.int .i64 y15)), .g, .g, .g, .g, (.w .g), (.w .g), (.w (.ln l2.length)), (.w .g), (.p false), .g, .n, .n, (.p true), .g, .n, .n, .n, .n, .g, .g, .n, .n, .n, .n, .n, .n, .n, .g, .g, .n, .n, .n, .n, .n, .n, .n, .n, .n, .n, .n, .g, .g, .n, .n, .n, .n, .n, .n, .n, .g, (.b true), .g, .g]) (ds := F41_m1_0) (ks := []) (e := .ret) (s2 := (F41_x1_0 h h12 ((0, 0) : Nat × Int))) (hC := (ai l_t (ai (g_tf l_t) (ai (g_tf l_t) (ai (g_tf l_t) (ai (g_tf l_t) (ai (g_tf l_t) (ai (g_tf l_t) (ai (g_tf l_t) (ai (g_tf l_t) (ai (g_tf l_t) (ai (g_tf l_t) (ai (g_tf l_t) (ai (g_tf l_t) (ai (g_tf l_t) (ai (g_tf l_t) (ai (g_tf l_t) (ai (g_tf l_t) (ai (g_tf l_t) (ai (g_tf l_t) (ai (g_tf l_t) (ai (g_tf l_t) (ai (g_tf l_t) (ai (g_tf l_t) (ai (g_tf l_t) (ai (g_tf l_t) (ai (g_tf l_t) (ai (g_tf l_t) (ai (g_tf l_t) (ai (g_tf l_t) (ai (g_tf l_t) (ai c17 (ai (g_tf c17) (ai (g_tf c17) kc17)))))))))))))))))))))))))))))))))) (hd := F41_d1) (h := by kernel_rfl)⟩
        exact ⟨rfl, h12, (Heapy.pick hp12 [] (by decide)), rfl⟩
      · have kc18 := (ai c17 (ai (g_ff c17) (ai (g_ff c17) kc17)))
        refine dec_bif (fun c18 => ?_) (fun c18 => ?_)
        · intro hr
          obtain rfl := Option.some.inj hr
          refine ⟨.ret, (F41_x1_0 h h12 ((0, 0) : Nat × Int)), (by intro hh; cases hh), ?_, pEnd_sound good (L := F41_L) (D := F41_D) (its := [.g, (.b true), .g, (.ix id14 off14 g14), (.ld (.int .i64 y14)), .g, .g, .g, .g, .g, .g, (.ln l4.length), .d, (.ix id15 off15 g15), (.ld (.int .i64 y15)), .g, .g, .g, .g, (.w .g), (.w .g), (.w (.ln l2.length)), (.w .g), (.p false), .g, (.w .g), (.w .g), (.p false), .g, .n, .n, .n, .n, (.p true), .g, .n, .n, .n, .n, .n, .n, .n, .g, .g, .n, .n, .n, .n, .n, .n, .n, .n, .n, .n, .n, .g, .g, .n, .n, .n, .n, .n, .n, .n, .g, (.b true), .g, .g]) (ds := F41_m1_0) (ks := []) (e := .ret) (s2 := (F41_x1_0 h h12 ((0, 0) : Nat × Int))) (hC := (ai l_t (ai (g_tf l_t) (ai (g_tf l_t) (ai (g_tf l_t) (ai (g_tf l_t) (ai (g_tf l_t) (ai (g_tf l_t) (ai (g_tf l_t) (ai (g_tf l_t) (ai (g_tf l_t) (ai (g_tf l_t) (ai (g_tf l_t) (ai (g_tf l_t) (ai (g_tf l_t) (ai (g_tf l_t) (ai (g_tf l_t) (ai (g_tf l_t) (ai (g_tf l_t) (ai (g_tf l_t) (ai (g_tf l_t) (ai (g_tf l_t) (ai (g_tf l_t) (ai (g_tf l_t) (ai (g_tf l_t) (ai (g_tf l_t) (ai (g_tf l_t) (ai c18 (ai (g_tf c18) (ai (g_tf c18) (ai (g_tf c18) (ai (g_tf c18) kc18)))))))))))))))))))))))))))))))) (hd := F41_d1) (h := by kernel_rfl)⟩
          exact ⟨rfl, h12, (Heapy.pick hp12 [] (by decide)), rfl⟩
        · have kc19 := (ai c18 (ai (g_ff c18) (ai (SlE.len hv2) (ai (g_ff c18) (ai (g_ff c18) (ai (g_ff c18) kc18))))))
          refine dec_bif (fun c19 => ?_) (fun c19 => ?_)
          · intro hr
            obtain rfl := Option.some.inj hr
            refine ⟨.ret, (F41_x1_0 h h12 ((0, 0) : Nat × Int)), (by intro hh; cases hh), ?_, pEnd_sound good (L := F41_L) (D := F41_D) (its := [.g, (.b true), .g, (.ix id14 off14 g14), (.ld (.int .i64 y14)), .g, .g, .g, .g, .g, .g, (.ln l4.length), .d, (.ix id15 off15 g15), (.ld (.int .i64 y15)), .g, .g, .g, .g, (.w .g), (.w .g), (.w (.ln l2.length)), (.w .g), (.p false), .g, (.w .g), (.w .g), (.p false), .g, (.w .g), (.w .g), (.w (.ln l2.length)), (.w .g), (.p false), .g, .n, .n, .n, .n, .n, .n, .n, (.p true), .g, .n, .n, .n, .n, .n, .n, .n, .n, .n, .n, .n, .g, .g, .n, .n, .n, .n, .n, .n, .n, .g, (.b true), .g, .g]) (ds := F41_m1_0) (ks := []) (e := .ret) (s2 := (F41_x1_0 h h12 ((0, 0) : Nat × Int))) (hC := (ai l_t (ai (g_tf l_t) (ai (g_tf l_t) (ai (g_tf l_t) (ai (g_tf l_t) (ai (g_tf l_t) (ai (g_tf l_t) (ai (g_tf l_t) (ai (g_tf l_t) (ai (g_tf l_t) (ai (g_tf l_t) (ai (g_tf l_t) (ai (g_tf l_t) (ai (g_tf l_t) (ai (g_tf l_t) (ai (g_tf l_t) (ai (g_tf l_t) (ai (g_tf l_t) (ai (g_tf l_t) (ai c19 (ai (g_tf c19) (ai (g_tf c19) (ai (g_tf c19) (ai (g_tf c19) (ai (g_tf c19) (ai (g_tf c19) (ai (g_tf c19) kc19)))))))))))))))))))))))))))) (hd := F41_d1) (h := by kernel_rfl)⟩
            exact ⟨rfl, h12, (Heapy.pick hp12 [] (by decide)), rfl⟩
          · refine bind_opt fun y20 e20 => ?_
            obtain ⟨id20, off20, g20, cs20, ix20, at20, rfl⟩ := SlE.at hv2 e20
            have kc22 := (ai c19 (ai (g_ff c19) (ai (show AKeep h12 h12 from (AHeap.sub_refl h12)) (ai (F58_spec (F57 x1) y20.1 y20.2.1 y20.2.2.1 y20.2.2.2 h12 _ rfl) (ai (g_ff c19) (ai (At.agg (P := Try.prog) (t := 57) (v := .agg #[.int .i64 y20.1, .int .i64 y20.2.1, .int .i64 y20.2.2.1, .int .i64 y20.2.2.2]) (m := 4) (At.mono (Heapy.sub hp12) at20) (by kernel_rfl) (by kernel_rfl) 0 (by kernel_rfl) rfl) (ai (g_ff c19) (ai ix20 (ai (g_ff c19) (ai (g_ff c19) (ai (g_ff c19) (ai (g_ff c19) kc19))))))))))))
            refine dec_bif (fun c22 => ?_) (fun c22 => ?_)
            · intro hr
              obtain rfl := Option.some.inj hr
              refine ⟨.ret, (F41_x1_0 h h12 ((0, 0) : Nat × Int)), (by intro hh; cases hh), ?_, pEnd_sound good (L := F41_L) (D := F41_D) (its := [.g, (.b true), .g, (.ix id14 off14 g14), (.ld (.int .i64 y14)), .g, .g, .g, .g, .g, .g, (.ln l4.length), .d, (.ix id15 off15 g15), (.ld (.int .i64 y15)), .g, .g, .g, .g, (.w .g), (.w .g), (.w (.ln l2.length)), (.w .g), (.p false), .g, (.w .g), (.w .g), (.p false), .g, (.w .g), (.w .g), (.w (.ln l2.length)), (.w .g), (.p false), .g, (.w .g), (.w .g), (.w .g), (.w (.ix id20 off20 g20)), (.w (.ld (.agg #[.int .i64 y20.1, .int .i64 y20.2.1, .int .i64 y20.2.2.1, .int .i64 y20.2.2.2]))), (.w (.c (.bool (F58 (F57 x1) y20.1 y20.2.1 y20.2.2.1 y20.2.2.2)) h12)), (.w .g), (.p false), .g, .n, .n, .n, .n, .n, .n, .n, .n, .n, .n, .n, (.p true), .g, .n, .n, .n, .n, .n, .n, .n, .g, (.b true), .g, .g]) (ds := F41_m1_0) (ks := []) (e := .ret) (s2 := (F41_x1_0 h h12 ((0, 0) : Nat × Int))) (hC := (ai l_t (ai (g_tf l_t) (ai (g_tf l_t) (ai (g_tf l_t) (ai (g_tf l_t) (ai (g_tf l_t) (ai (g_tf l_t) (ai (g_tf l_t) (ai c22 (ai (g_tf c22) (ai (g_tf c22) (ai (g_tf c22) (ai (g_tf c22) (ai (g_tf c22) (ai (g_tf c22) (ai (g_tf c22) (ai (g_tf c22) (ai (g_tf c22) (ai (g_tf c22) (ai (g_tf c22) kc22))))))))))))))))))))) (hd := F41_d1) (h := by kernel_rfl)⟩
              exact ⟨rfl, h12, (Heapy.pick hp12 [] (by decide)), rfl⟩
            · refine bind_opt fun y23 e23 => ?_
              obtain ⟨id23, off23, g23, cs23, ix23, at23, rfl⟩ := SlE.at hv2 e23
              have kc24 := (ai c22 (ai (g_ff c22) (ai (At.one (P := Try.prog) (t := 3) (v := .int .i64 y23.1) (At.mono (Heapy.sub hp12) at23) (by kernel_rfl) 0 rfl rfl) (ai (g_ff c22) (ai (g_ff c22) (ai ix23 (ai (g_ff c22) (ai (g_ff c22) (ai (g_ff c22) (ai (At.one (P := Try.prog) (t := 3) (v := .int .i64 y20.2.1) (At.mono (Heapy.sub hp12) at20) (by kernel_rfl) 1 rfl rfl) (ai (g_ff c22) (ai (g_ff c22) (ai ix20 (ai (g_ff c22) (ai (g_ff c22) (ai (g_ff c22) kc22))))))))))))))))
              refine dec_bif (fun c24 => ?_) (fun c24 => ?_)
              · intro hr
                obtain rfl := Option.some.inj hr
                refine ⟨.ret, (F41_x1_0 h h12 ((0, 0) : Nat × Int)), (by intro hh; cases hh), ?_, pEnd_sound good (L := F41_L) (D := F41_D) (its := [.g, (.b true), .g, (.ix id14 off14 g14), (.ld (.int .i64 y14)), .g, .g, .g, .g, .g, .g, (.ln l4.length), .d, (.ix id15 off15 g15), (.ld (.int .i64 y15)), .g, .g, .g, .g, (.w .g), (.w .g), (.w (.ln l2.length)), (.w .g), (.p false), .g, (.w .g), (.w .g), (.p false), .g, (.w .g), (.w .g), (.w (.ln l2.length)), (.w .g), (.p false), .g, (.w .g), (.w .g), (.w .g), (.w (.ix id20 off20 g20)), (.w (.ld (.agg #[.int .i64 y20.1, .int .i64 y20.2.1, .int .i64 y20.2.2.1, .int .i64 y20.2.2.2]))), (.w (.c (.bool (F58 (F57 x1) y20.1 y20.2.1 y20.2.2.1 y20.2.2.2)) h12)), (.w .g), (.p false), .g, (.w .g), (.w .g), (.w (.ix id20 off20 g20)), (.w .g), (.w (.ld (.int .i64 y20.2.1))), (.w .g), (.w .g), (.w (.ix id23 off23 g23)), (.w .g), (.w (.ld (.int .i64 y23.1))), (.w .g), (.p false), .g, .n, .n, .n, .n, .n, .n, .n, (.p true), (.b true), .g, .g]) (ds := F41_m1_0) (ks := []) (e := .ret) (s2 := (F41_x1_0 h h12 ((0, 0) : Nat × Int))) (hC := (ai l_t (ai c24 (ai (g_tf c24) (ai (g_tf c24) (ai (g_tf c24) (ai (g_tf c24) (ai (g_tf c24) (ai (g_tf c24) (ai (g_tf c24) kc24)))))))))) (hd := F41_d1) (h := by kernel_rfl)⟩
                exact ⟨rfl, h12, (Heapy.pick hp12 [] (by decide)), rfl⟩
              · have kc25 := (ai c24 (ai (Heapy.mlook (P := Try.prog) (id := id7) (q := .i64) (f := (fun b => .bool b)) (xs := l11) hp12 0 rfl (t := 84) (kt := 3) (et := 4) (by kernel_rfl) (by kernel_rfl) (z := false) (by kernel_rfl) y20.1 false) (ai (g_ff c24) (ai (At.one (P := Try.prog) (t := 3) (v := .int .i64 y20.1) (At.mono (Heapy.sub hp12) at20) (by kernel_rfl) 0 rfl rfl) (ai (g_ff c24) (ai (g_ff c24) (ai ix20 (ai (g_ff c24) (ai (g_ff c24) (ai (g_ff c24) (ai (g_ff c24) kc24)))))))))))
                refine dec_bif (fun c25 => ?_) (fun c25 => ?_)
                · intro hr
                  obtain rfl := Option.some.inj hr
                  refine ⟨.ret, (F41_x1_0 h h12 ((0, 0) : Nat × Int)), (by intro hh; cases hh), ?_, pEnd_sound good (L := F41_L) (D := F41_D) (its := [.g, (.b true), .g, (.ix id14 off14 g14), (.ld (.int .i64 y14)), .g, .g, .g, .g, .g, .g, (.ln l4.length), .d, (.ix id15 off15 g15), (.ld (.int .i64 y15)), .g, .g, .g, .g, (.w .g), (.w .g), (.w (.ln l2.length)), (.w .g), (.p false), .g, (.w .g), (.w .g), (.p false), .g, (.w .g), (.w .g), (.w (.ln l2.length)), (.w .g), (.p false), .g, (.w .g), (.w .g), (.w .g), (.w (.ix id20 off20 g20)), (.w (.ld (.agg #[.int .i64 y20.1, .int .i64 y20.2.1, .int .i64 y20.2.2.1, .int .i64 y20.2.2.2]))), (.w (.c (.bool (F58 (F57 x1) y20.1 y20.2.1 y20.2.2.1 y20.2.2.2)) h12)), (.w .g), (.p false), .g, (.w .g), (.w .g), (.w (.ix id20 off20 g20)), (.w .g), (.w (.ld (.int .i64 y20.2.1))), (.w .g), (.w .g), (.w (.ix id23 off23 g23)), (.w .g), (.w (.ld (.int .i64 y23.1))), (.w .g), (.p false), .g, (.w .g), (.w .g), (.w .g), (.w (.ix id20 off20 g20)), (.w .g), (.w (.ld (.int .i64 y20.1))), (.w (.mm (.bool ((mget y20.1 l11).getD false)) h12)), (.p false), (.b true), .g, .g]) (ds := F41_m1_0) (ks := []) (e := .ret) (s2 := (F41_x1_0 h h12 ((0, 0) : Nat × Int))) (hC := (ai c25 kc25)) (hd := F41_d1) (h := by kernel_rfl)⟩
                  exact ⟨rfl, h12, (Heapy.pick hp12 [] (by decide)), rfl⟩
                · obtain ⟨h26, m26, hp26⟩ := Heapy.mset (P := Try.prog) (id := id7) (q := .i64) (f := (fun b => .bool b)) (xs := l11) hp12 0 rfl (t := 84) (kt := 3) (et := 4) (by kernel_rfl) (by kernel_rfl) y20.1 true rfl rfl
                  intro hr
                  obtain rfl := Option.some.inj hr
                  exact ⟨(F41_h1 x1 v2 x3 l4 v4 id7 h26 (IntKind.i64.wrap (a9 + (F59 y20.1 y20.2.1 y20.2.2.1 y20.2.2.2 x3))) (IntKind.i64.wrap (a10 + 1)) (mput y20.1 true l11)), ⟨h26, (Heapy.pick hp26 [0] (by decide)), rfl⟩, pEnd_sound good (L := F41_L) (D := F41_D) (its := [.g, (.b true), .g, (.ix id14 off14 g14), (.ld (.int .i64 y14)), .g, .g, .g, .g, .g, .g, (.ln l4.length), .d, (.ix id15 off15 g15), (.ld (.int .i64 y15)), .g, .g, .g, .g, (.w .g), (.w .g), (.w (.ln l2.length)), (.w .g), (.p false), .g, (.w .g), (.w .g), (.p false), .g, (.w .g), (.w .g), (.w (.ln l2.length)), (.w .g), (.p false), .g, (.w .g), (.w .g), (.w .g), (.w (.ix id20 off20 g20)), (.w (.ld (.agg #[.int .i64 y20.1, .int .i64 y20.2.1, .int .i64 y20.2.2.1, .int .i64 y20.2.2.2]))), (.w (.c (.bool (F58 (F57 x1) y20.1 y20.2.1 y20.2.2.1 y20.2.2.2)) h12)), (.w .g), (.p false), .g, (.w .g), (.w .g), (.w (.ix id20 off20 g20)), (.w .g), (.w (.ld (.int .i64 y20.2.1))), (.w .g), (.w .g), (.w (.ix id23 off23 g23)), (.w .g), (.w (.ld (.int .i64 y23.1))), (.w .g), (.p false), .g, (.w .g), (.w .g), (.w .g), (.w (.ix id20 off20 g20)), (.w .g), (.w (.ld (.int .i64 y20.1))), (.w (.mm (.bool ((mget y20.1 l11).getD false)) h12)), (.p false), (.b false), .g, .g, .g, (.ix id20 off20 g20), .g, (.ld (.int .i64 y20.1)), (.mm undef h26), .g, .g, .g, (.ix id20 off20 g20), (.ld (.agg #[.int .i64 y20.1, .int .i64 y20.2.1, .int .i64 y20.2.2.1, .int .i64 y20.2.2.2])), .g, (.c (.int .i64 (F59 y20.1 y20.2.1 y20.2.2.1 y20.2.2.2 x3)) h26), .g, .g, .g, .g]) (ds := F41_m1_1) (ks := []) (e := .normal) (s2 := (F41_h1 x1 v2 x3 l4 v4 id7 h26 (IntKind.i64.wrap (a9 + (F59 y20.1 y20.2.1 y20.2.2.1 y20.2.2.2 x3))) (IntKind.i64.wrap (a10 + 1)) (mput y20.1 true l11))) (hC := (ai (F59_spec y20.1 y20.2.1 y20.2.2.1 y20.2.2.2 x3 h26 _ rfl) (ai (At.agg (P := Try.prog) (t := 57) (v := .agg #[.int .i64 y20.1, .int .i64 y20.2.1, .int .i64 y20.2.2.1, .int .i64 y20.2.2.2]) (m := 4) (At.mono (Heapy.sub hp26) at20) (by kernel_rfl) (by kernel_rfl) 0 (by kernel_rfl) rfl) (ai ix20 (ai m26 (ai (At.one (P := Try.prog) (t := 3) (v := .int .i64 y20.1) (At.mono (Heapy.sub hp12) at20) (by kernel_rfl) 0 rfl rfl) (ai ix20 (ai c25 kc25)))))))) (hd := F41_d1) (h := by kernel_rfl)⟩
  · intro hr
    obtain rfl := Option.some.inj hr
    refine ⟨(.exit 0), (F41_x1_1 h h12 ((1, a9) : Nat × Int)), (by intro hh; cases hh), ?_, pEnd_sound good (L := F41_L) (D := F41_D) (its := [.g, (.b false)]) (ds := F41_m1_2) (ks := []) (e := (.exit 0)) (s2 := (F41_x1_1 h h12 ((1, a9) : Nat × Int))) (hC := (ai c13 trivial)) (hd := F41_d1) (h := by kernel_rfl)⟩
    exact ⟨rfl, h12, (Heapy.pick hp12 [] (by decide)), rfl⟩
theorem F41_l1 (h : AHeap) (x1 : Int) (l2 : List (Int × Int × Int × Int)) (v2 : Hd) (hv2 : SlE E57 4 h (sv v2) l2) (x3 : Int) (l4 : List Int) (v4 : Hd) (hv4 : SlE E3 1 h (sv v4) l4) (c6 : ((l4.length : Int) == 0) = false) (id7 : Nat) (x : Int × Int × (List (Int × Bool))) (r : Nat × Int) (hl : loopO (fun (s : Int × Int × (List (Int × Bool))) => F41_s1 x1 l2 x3 l4 s.1 s.2.1 s.2.2) x = some r) (S : AS) (hI : (F41_i1 h x1 v2 x3 l4 v4 id7) x S) : ∃ e S', (F41_x1 h) r e S' ∧ AWp Try.prog (.loop (codeOf Try.prog 41 [1, 1, 1, 1, 0, 1, 0, 0])) (Ends1 e S') S :=
  loop_rel (fun x S hI => F41_r1 h x1 l2 v2 hv2 x3 l4 v4 hv4 c6 id7 x.1 x.2.1 x.2.2 S hI) hl hI
def F41 (x1 : Int) (l2 : List (Int × Int × Int × Int)) (x3 : Int) (l4 : List Int) : Option (Int × Bool) :=
  (bif ((l4.length : Int) == 0) then
   some (0, false)
  else
   (Option.bind (loopO (fun (s : Int × Int × (List (Int × Bool))) => F41_s1 x1 l2 x3 l4 s.1 s.2.1 s.2.2) (0, 0, ([] : List (Int × Bool)))) fun y28 =>
   (bif (Nat.beq y28.1 0) then
    some (0, false)
   else
    some (y28.2, (decide (y28.2 > 0))))))
set_option maxRecDepth 100000 in
theorem F41_spec (x1 : Int) (l2 : List (Int × Int × Int × Int)) (x3 : Int) (l4 : List Int) (v2 : Hd) (v4 : Hd) (h : AHeap) (hw : h.wf) (hv2 : SlE E57 4 h (sv v2) l2) (hv4 : SlE E3 1 h (sv v4) l4) (r : Int × Bool) : F41 x1 l2 x3 l4 = some r → ∃ (h' : AHeap), Heapy h h' [] ∧ ACalls Try.prog 41 [.int .i64 x1, (sv v2), .int .i64 x3, (sv v4)] h (fun v' h'' => v' = (.tuple #[.int .i64 r.1, .bool r.2] : Value) ∧ h'' = h') := by
  unfold F41
  have kc6 := (ai (SlE.len hv4) (ai (F57_spec x1 h _ rfl) trivial))
  refine dec_bif (fun c6 => ?_) (fun c6 => ?_)
  · intro hr
    obtain rfl := Option.some.inj hr
    exact ⟨h, Heapy.pick (Heapy.refl hw) [] (by decide), pFun_sound good tab_ok (f := 41) (its := [.g, .g, .g, (.c (.int .i64 (F57 x1)) h), .g, .g, (.ln l4.length), .g, (.b true), .g, .g]) (args := [.int .i64 x1, (sv v2), .int .i64 x3, (sv v4)]) (h := h) (h' := h) (v := .tuple #[.int .i64 0, .bool false]) (hC := (ai c6 kc6)) (hr := by kernel_rfl)⟩
  · obtain ⟨id7, h7, m7, hp7⟩ := Heapy.mkmap (P := Try.prog) (Heapy.refl hw) (t := 84) (kt := 3) (et := 4) (by kernel_rfl)
    refine bind_opt fun y28 e28 => ?_
    obtain ⟨ee28, SS28, hX28, hA28⟩ := F41_l1 h x1 l2 v2 hv2 x3 l4 v4 hv4 c6 id7 (0, 0, ([] : List (Int × Bool))) y28 e28 (F41_h1 x1 v2 x3 l4 v4 id7 h7 0 0 ([] : List (Int × Bool))) ⟨h7, (Heapy.pick hp7 [0] (by decide)), rfl⟩
    have kc29 := (ai (SlE.len hv4) (ai m7 (ai c6 kc6)))
    refine dec_bif (fun c29 => ?_) (fun c29 => ?_)
    · simp only [F41_x1, c29, cond_true, cond_false] at hX28
      obtain ⟨rfl, h30, hp30, rfl⟩ := hX28
      intro hr
      obtain rfl := Option.some.inj hr
      exact ⟨h30, Heapy.pick hp30 [] (by decide), pFun_sound good tab_ok (f := 41) (its := [.g, .g, .g, (.c (.int .i64 (F57 x1)) h), .g, .g, (.ln l4.length), .g, (.b false), (.mm (.map (some id7)) h7), .g, .g, (.ln l4.length), .g, (.l F41_m1_1 [] .ret (F41_x1_0 h h30 y28))]) (args := [.int .i64 x1, (sv v2), .int .i64 x3, (sv v4)]) (h := h) (h' := h30) (v := .tuple #[.int .i64 0, .bool false]) (hC := (ai hA28 kc29)) (hr := by kernel_rfl)⟩
    · simp only [F41_x1, c29, cond_true, cond_false] at hX28
      obtain ⟨rfl, h31, hp31, rfl⟩ := hX28
      intro hr
      obtain rfl := Option.some.inj hr
      exact ⟨h31, Heapy.pick hp31 [] (by decide), pFun_sound good tab_ok (f := 41) (its := [.g, .g, .g, (.c (.int .i64 (F57 x1)) h), .g, .g, (.ln l4.length), .g, (.b false), (.mm (.map (some id7)) h7), .g, .g, (.ln l4.length), .g, (.l F41_m1_1 [] (.exit 0) (F41_x1_1 h h31 y28)), .g, .g, .g, .g, .g]) (args := [.int .i64 x1, (sv v2), .int .i64 x3, (sv v4)]) (h := h) (h' := h31) (v := .tuple #[.int .i64 y28.2, .bool (decide (y28.2 > 0))]) (hC := (ai hA28 kc29)) (hr := by kernel_rfl)⟩
/-! 17 jacquard/bounds.Check -/
def F17 (x1 : Int) (x2 : Int) (x3 : Bool) (l4 : List (Int × Int × Int × Int)) (l5 : List (Int × Int × Int × Int)) (l6 : List (Int × Int)) (x7 : Int) (x8 : Int) (l9 : List Int) (x10 : Int) : Option (Bool) :=
  (Option.bind (F33 x1 x2 x3 l4 l5 l6) fun y11 =>
  (bif (!y11) then
   some (false)
  else
   (bif (!x3) then
    some (false)
   else
    (bif decide (x8 < 1) then
     some (false)
    else
     (bif decide (x8 > 256) then
      some (false)
     else
      (bif (x7 == 3) then
       (bif decide (x10 < 0) then
        some (false)
       else
        (bif decide (x10 ≥ (l5.length : Int)) then
         some (false)
        else
         (Option.bind (F40 x1 x2 x3 l4 l5 l6) fun y20 =>
         (Option.bind (at? y20.1 x10) fun y24 =>
         (Option.bind (at? l5 x10) fun y25 =>
         some (decide (y24 > (IntKind.i64.wrap ((IntKind.i64.wrap (x8 - 1)) * y25.2.2.2)))))))))
      else
       (bif (x7 == 4) then
        (bif decide (x10 < 0) then
         some (false)
        else
         (bif decide (x10 ≥ (l5.length : Int)) then
          some (false)
         else
          (Option.bind (F40 x1 x2 x3 l4 l5 l6) fun y29 =>
          (Option.bind (at? y29.2 x10) fun y33 =>
          some (decide (y33 ≥ x8))))))
       else
        (bif (x7 == 2) then
         (bif decide (x8 ≥ 2) then
          (Option.bind (F41 (F42 x1 x2 x3 l4 l5 l6) l4 (IntKind.i64.wrap (x8 - 1)) l9) fun y37 =>
          some (y37.2))
         else
          (bif (x7 == 1) then
           some (x8 == 1)
          else
           some (false)))
        else
         (bif (x7 == 1) then
          some (x8 == 1)
         else
          some (false))))))))))
set_option maxRecDepth 100000 in
theorem F17_spec (x1 : Int) (x2 : Int) (x3 : Bool) (l4 : List (Int × Int × Int × Int)) (l5 : List (Int × Int × Int × Int)) (l6 : List (Int × Int)) (x7 : Int) (x8 : Int) (l9 : List Int) (x10 : Int) (v4 : Hd) (v5 : Hd) (v6 : Hd) (v9 : Hd) (h : AHeap) (hw : h.wf) (hv4 : SlE E57 4 h (sv v4) l4) (hv5 : SlE E59 4 h (sv v5) l5) (hv6 : SlE E61 2 h (sv v6) l6) (hv9 : SlE E3 1 h (sv v9) l9) (r : Bool) : F17 x1 x2 x3 l4 l5 l6 x7 x8 l9 x10 = some r → ∃ (h' : AHeap), Heapy h h' [] ∧ ACalls Try.prog 17 [.agg #[.int .i64 x1, .int .i64 x2, .bool x3, (sv v4), (sv v5), (sv v6)], .agg #[.int .i64 x7, .int .i64 x8, (sv v9), .int .i64 x10]] h (fun v' h'' => v' = (.bool r : Value) ∧ h'' = h') := by
  unfold F17
  refine bind_opt fun y11 e11 => ?_
  have kc13 := (ai (F33_spec x1 x2 x3 l4 l5 l6 v4 v5 v6 h hv4 hv5 hv6 _ e11) trivial)
  refine dec_bif (fun c13 => ?_) (fun c13 => ?_)
  · intro hr
    obtain rfl := Option.some.inj hr
    exact ⟨h, Heapy.pick (Heapy.refl hw) [] (by decide), pFun_sound good tab_ok (f := 17) (its := [.g, .g, .g, .g, (.c (.bool y11) h), .g, .g, .n, .n, .n, (.p true), .g, .n, .n, .n, .g, .g, .n, .n, .n, .g, (.b true), .g]) (args := [.agg #[.int .i64 x1, .int .i64 x2, .bool x3, (sv v4), (sv v5), (sv v6)], .agg #[.int .i64 x7, .int .i64 x8, (sv v9), .int .i64 x10]]) (h := h) (h' := h) (v := .bool false) (hC := (ai l_t (ai (g_tf l_t) (ai (g_tf l_t) (ai (g_tf l_t) (ai (g_tf l_t) (ai (g_tf l_t) (ai (g_tf l_t) (ai c13 (ai (g_tf c13) (ai (g_tf c13) (ai (g_tf c13) kc13)))))))))))) (hr := by kernel_rfl)⟩
  · have kc14 := (ai c13 (ai (g_ff c13) (ai (g_ff c13) (ai (g_ff c13) kc13))))
    refine dec_bif (fun c14 => ?_) (fun c14 => ?_)
    · intro hr
      obtain rfl := Option.some.inj hr
      exact ⟨h, Heapy.pick (Heapy.refl hw) [] (by decide), pFun_sound good tab_ok (f := 17) (its := [.g, .g, .g, .g, (.c (.bool y11) h), .g, .g, (.w .g), (.w .g), (.w .g), (.p false), .g, .n, .n, .n, (.p true), .g, .n, .n, .n, .g, (.b true), .g]) (args := [.agg #[.int .i64 x1, .int .i64 x2, .bool x3, (sv v4), (sv v5), (sv v6)], .agg #[.int .i64 x7, .int .i64 x8, (sv v9), .int .i64 x10]]) (h := h) (h' := h) (v := .bool false) (hC := (ai l_t (ai (g_tf l_t) (ai (g_tf l_t) (ai (g_tf l_t) (ai c14 (ai (g_tf c14) (ai (g_tf c14) (ai (g_tf c14) kc14))))))))) (hr := by kernel_rfl)⟩
    · have kc15 := (ai c14 (ai (g_ff c14) (ai (g_ff c14) (ai (g_ff c14) kc14))))
      refine dec_bif (fun c15 => ?_) (fun c15 => ?_)
      · intro hr
        obtain rfl := Option.some.inj hr
        exact ⟨h, Heapy.pick (Heapy.refl hw) [] (by decide), pFun_sound good tab_ok (f := 17) (its := [.g, .g, .g, .g, (.c (.bool y11) h), .g, .g, (.w .g), (.w .g), (.w .g), (.p false), .g, (.w .g), (.w .g), (.w .g), (.p false), .g, .n, .n, .n, (.p true), (.b true), .g]) (args := [.agg #[.int .i64 x1, .int .i64 x2, .bool x3, (sv v4), (sv v5), (sv v6)], .agg #[.int .i64 x7, .int .i64 x8, (sv v9), .int .i64 x10]]) (h := h) (h' := h) (v := .bool false) (hC := (ai l_t (ai c15 (ai (g_tf c15) (ai (g_tf c15) (ai (g_tf c15) kc15)))))) (hr := by kernel_rfl)⟩
      · have kc16 := (ai c15 (ai (g_ff c15) (ai (g_ff c15) (ai (g_ff c15) kc15))))
        refine dec_bif (fun c16 => ?_) (fun c16 => ?_)
        · intro hr
          obtain rfl := Option.some.inj hr
          exact ⟨h, Heapy.pick (Heapy.refl hw) [] (by decide), pFun_sound good tab_ok (f := 17) (its := [.g, .g, .g, .g, (.c (.bool y11) h), .g, .g, (.w .g), (.w .g), (.w .g), (.p false), .g, (.w .g), (.w .g), (.w .g), (.p false), .g, (.w .g), (.w .g), (.w .g), (.p false), (.b true), .g]) (args := [.agg #[.int .i64 x1, .int .i64 x2, .bool x3, (sv v4), (sv v5), (sv v6)], .agg #[.int .i64 x7, .int .i64 x8, (sv v9), .int .i64 x10]]) (h := h) (h' := h) (v := .bool false) (hC := (ai c16 kc16)) (hr := by kernel_rfl)⟩
        · have kc17 := (ai c16 kc16)
          refine dec_bif (fun c17 => ?_) (fun c17 => ?_)
          · have kc18 := (ai l_t (ai c17 (ai (g_tf c17) (ai (g_tf c17) (ai (g_tf c17) kc17)))))
            refine dec_bif (fun c18 => ?_) (fun c18 => ?_)
            · intro hr
              obtain rfl := Option.some.inj hr
              exact ⟨h, Heapy.pick (Heapy.refl hw) [] (by decide), pFun_sound good tab_ok (f := 17) (its := [.g, .g, .g, .g, (.c (.bool y11) h), .g, .g, (.w .g), (.w .g), (.w .g), (.p false), .g, (.w .g), (.w .g), (.w .g), (.p false), .g, (.w .g), (.w .g), (.w .g), (.p false), (.b false), .g, .g, .g, .g, .n, .n, .n, (.p true), (.b true), .g, .g, .g, .g, .n, .n, .n, .n, .n, .n, (.p true), (.b true), .g]) (args := [.agg #[.int .i64 x1, .int .i64 x2, .bool x3, (sv v4), (sv v5), (sv v6)], .agg #[.int .i64 x7, .int .i64 x8, (sv v9), .int .i64 x10]]) (h := h) (h' := h) (v := .bool false) (hC := (ai l_t (ai c18 (ai (g_tf c18) (ai (g_tf c18) (ai (g_tf c18) (ai (g_tf c18) (ai (g_tf c18) (ai (g_tf c18) kc18))))))))) (hr := by kernel_rfl)⟩
            · have kc19 := (ai c18 (ai (g_ff c18) (ai (SlE.len hv5) (ai (g_ff c18) (ai (g_ff c18) (ai (g_ff c18) (ai (g_ff c18) (ai (g_ff c18) kc18))))))))
              refine dec_bif (fun c19 => ?_) (fun c19 => ?_)
              · intro hr
                obtain rfl := Option.some.inj hr
                exact ⟨h, Heapy.pick (Heapy.refl hw) [] (by decide), pFun_sound good tab_ok (f := 17) (its := [.g, .g, .g, .g, (.c (.bool y11) h), .g, .g, (.w .g), (.w .g), (.w .g), (.p false), .g, (.w .g), (.w .g), (.w .g), (.p false), .g, (.w .g), (.w .g), (.w .g), (.p false), (.b false), .g, .g, .g, .g, .n, .n, .n, (.p true), (.b true), .g, .g, .g, .g, (.w .g), (.w .g), (.w .g), (.w .g), (.w (.ln l5.length)), (.w .g), (.p false), (.b true), .g]) (args := [.agg #[.int .i64 x1, .int .i64 x2, .bool x3, (sv v4), (sv v5), (sv v6)], .agg #[.int .i64 x7, .int .i64 x8, (sv v9), .int .i64 x10]]) (h := h) (h' := h) (v := .bool false) (hC := (ai c19 kc19)) (hr := by kernel_rfl)⟩
              · refine bind_opt fun y20 e20 => ?_
                obtain ⟨u21_0, u21_1, h21, q21, c21⟩ := F40_spec x1 x2 x3 l4 l5 l6 v4 v5 v6 h hw hv4 hv5 hv6 _ e20
                have hp21 : Heapy h h21 [⟨u21_0, 3, 1, List.flatMap enc3 y20.1⟩, ⟨u21_1, 3, 1, List.flatMap enc3 y20.2⟩] := Heapy.call (Heapy.refl hw) q21
                refine bind_opt fun y24 e24 => ?_
                obtain ⟨id24, off24, g24, cs24, ix24, at24, rfl⟩ := SlE.at (Heapy.sle (v := u21_0) (xs := y20.1) (enc := enc3) hp21 0 rfl (fun _ => rfl) (by decide)) e24
                refine bind_opt fun y25 e25 => ?_
                obtain ⟨id25, off25, g25, cs25, ix25, at25, rfl⟩ := SlE.at hv5 e25
                intro hr
                obtain rfl := Option.some.inj hr
                exact ⟨h21, Heapy.pick hp21 [] (by decide), pFun_sound good tab_ok (f := 17) (its := [.g, .g, .g, .g, (.c (.bool y11) h), .g, .g, (.w .g), (.w .g), (.w .g), (.p false), .g, (.w .g), (.w .g), (.w .g), (.p false), .g, (.w .g), (.w .g), (.w .g), (.p false), (.b false), .g, .g, .g, .g, .n, .n, .n, (.p true), (.b true), .g, .g, .g, .g, (.w .g), (.w .g), (.w .g), (.w .g), (.w (.ln l5.length)), (.w .g), (.p false), (.b false), .g, (.c (.tuple #[(sv u21_0), (sv u21_1)]) h21), .g, .g, .g, .g, .g, .g, .g, .g, (.b true), .g, .g, .g, (.ix id24 off24 g24), (.ld (.int .i64 y24)), .g, .g, .g, .g, .g, .g, .g, (.ix id25 off25 g25), .g, (.ld (.int .i64 y25.2.2.2)), .g, .g, .g]) (args := [.agg #[.int .i64 x1, .int .i64 x2, .bool x3, (sv v4), (sv v5), (sv v6)], .agg #[.int .i64 x7, .int .i64 x8, (sv v9), .int .i64 x10]]) (h := h) (h' := h21) (v := .bool (decide (y24 > (IntKind.i64.wrap ((IntKind.i64.wrap (x8 - 1)) * y25.2.2.2))))) (hC := (ai (At.one (P := Try.prog) (t := 3) (v := .int .i64 y25.2.2.2) (At.mono (Heapy.sub hp21) at25) (by kernel_rfl) 3 rfl rfl) (ai ix25 (ai (At.one (P := Try.prog) (t := 3) (v := .int .i64 y24) at24 (by kernel_rfl) 0 rfl rfl) (ai ix24 (ai c17 (ai c21 (ai c19 kc19)))))))) (hr := by kernel_rfl)⟩
          · have kc26 := (ai c17 (ai (g_ff c17) (ai (g_ff c17) (ai (g_ff c17) kc17))))
            refine dec_bif (fun c26 => ?_) (fun c26 => ?_)
            · have kc27 := (ai c26 kc26)
              refine dec_bif (fun c27 => ?_) (fun c27 => ?_)
              · intro hr
                obtain rfl := Option.some.inj hr
                exact ⟨h, Heapy.pick (Heapy.refl hw) [] (by decide), pFun_sound good tab_ok (f := 17) (its := [.g, .g, .g, .g, (.c (.bool y11) h), .g, .g, (.w .g), (.w .g), (.w .g), (.p false), .g, (.w .g), (.w .g), (.w .g), (.p false), .g, (.w .g), (.w .g), (.w .g), (.p false), (.b false), .g, .g, .g, .g, (.w .g), (.w .g), (.w .g), (.p false), (.b true), .g, .g, .g, .g, .n, .n, .n, .n, .n, .n, (.p true), (.b true), .g]) (args := [.agg #[.int .i64 x1, .int .i64 x2, .bool x3, (sv v4), (sv v5), (sv v6)], .agg #[.int .i64 x7, .int .i64 x8, (sv v9), .int .i64 x10]]) (h := h) (h' := h) (v := .bool false) (hC := (ai l_t (ai c27 (ai (g_tf c27) (ai (g_tf c27) (ai (g_tf c27) (ai (g_tf c27) (ai (g_tf c27) (ai (g_tf c27) kc27))))))))) (hr := by kernel_rfl)⟩
              · have kc28 := (ai c27 (ai (g_ff c27) (ai (SlE.len hv5) (ai (g_ff c27) (ai (g_ff c27) (ai (g_ff c27) (ai (g_ff c27) (ai (g_ff c27) kc27))))))))
                refine dec_bif (fun c28 => ?_) (fun c28 => ?_)
                · intro hr
                  obtain rfl := Option.some.inj hr
                  exact ⟨h, Heapy.pick (Heapy.refl hw) [] (by decide), pFun_sound good tab_ok (f := 17) (its := [.g, .g, .g, .g, (.c (.bool y11) h), .g, .g, (.w .g), (.w .g), (.w .g), (.p false), .g, (.w .g), (.w .g), (.w .g), (.p false), .g, (.w .g), (.w .g), (.w .g), (.p false), (.b false), .g, .g, .g, .g, (.w .g), (.w .g), (.w .g), (.p false), (.b true), .g, .g, .g, .g, (.w .g), (.w .g), (.w .g), (.w .g), (.w (.ln l5.length)), (.w .g), (.p false), (.b true), .g]) (args := [.agg #[.int .i64 x1, .int .i64 x2, .bool x3, (sv v4), (sv v5), (sv v6)], .agg #[.int .i64 x7, .int .i64 x8, (sv v9), .int .i64 x10]]) (h := h) (h' := h) (v := .bool false) (hC := (ai c28 kc28)) (hr := by kernel_rfl)⟩
                · refine bind_opt fun y29 e29 => ?_
                  obtain ⟨u30_0, u30_1, h30, q30, c30⟩ := F40_spec x1 x2 x3 l4 l5 l6 v4 v5 v6 h hw hv4 hv5 hv6 _ e29
                  have hp30 : Heapy h h30 [⟨u30_0, 3, 1, List.flatMap enc3 y29.1⟩, ⟨u30_1, 3, 1, List.flatMap enc3 y29.2⟩] := Heapy.call (Heapy.refl hw) q30
                  refine bind_opt fun y33 e33 => ?_
                  obtain ⟨id33, off33, g33, cs33, ix33, at33, rfl⟩ := SlE.at (Heapy.sle (v := u30_1) (xs := y29.2) (enc := enc3) hp30 1 rfl (fun _ => rfl) (by decide)) e33
                  intro hr
                  obtain rfl := Option.some.inj hr
                  exact ⟨h30, Heapy.pick hp30 [] (by decide), pFun_sound good tab_ok (f := 17) (its := [.g, .g, .g, .g, (.c (.bool y11) h), .g, .g, (.w .g), (.w .g), (.w .g), (.p false), .g, (.w .g), (.w .g), (.w .g), (.p false), .g, (.w .g), (.w .g), (.w .g), (.p false), (.b false), .g, .g, .g, .g, (.w .g), (.w .g), (.w .g), (.p false), (.b true), .g, .g, .g, .g, (.w .g), (.w .g), (.w .g), (.w .g), (.w (.ln l5.length)), (.w .g), (.p false), (.b false), .g, (.c (.tuple #[(sv u30_0), (sv u30_1)]) h30), .g, .g, .g, .g, .g, .g, .g, .g, (.b false), .g, .g, .g, (.ix id33 off33 g33), (.ld (.int .i64 y33)), .g, .g, .g, .g]) (args := [.agg #[.int .i64 x1, .int .i64 x2, .bool x3, (sv v4), (sv v5), (sv v6)], .agg #[.int .i64 x7, .int .i64 x8, (sv v9), .int .i64 x10]]) (h := h) (h' := h30) (v := .bool (decide (y33 ≥ x8))) (hC := (ai (At.one (P := Try.prog) (t := 3) (v := .int .i64 y33) at33 (by kernel_rfl) 0 rfl rfl) (ai ix33 (ai c17 (ai c30 (ai c28 kc28)))))) (hr := by kernel_rfl)⟩
            · have kc34 := (ai c26 kc26)
              refine dec_bif (fun c34 => ?_) (fun c34 => ?_)
              · have kc35 := (ai c34 (ai (g_tt c34) (ai (g_tt c34) (ai (g_tt c34) kc34))))
                refine dec_bif (fun c35 => ?_) (fun c35 => ?_)
                · refine bind_opt fun y37 e37 => ?_
                  obtain ⟨h38, q38, c38⟩ := F41_spec (F42 x1 x2 x3 l4 l5 l6) l4 (IntKind.i64.wrap (x8 - 1)) l9 v4 v9 h hw hv4 hv9 _ e37
                  have hp38 : Heapy h h38 [] := Heapy.call (Heapy.refl hw) q38
                  intro hr
                  obtain rfl := Option.some.inj hr
                  exact ⟨h38, Heapy.pick hp38 [] (by decide), pFun_sound good tab_ok (f := 17) (its := [.g, .g, .g, .g, (.c (.bool y11) h), .g, .g, (.w .g), (.w .g), (.w .g), (.p false), .g, (.w .g), (.w .g), (.w .g), (.p false), .g, (.w .g), (.w .g), (.w .g), (.p false), (.b false), .g, .g, .g, .g, (.w .g), (.w .g), (.w .g), (.p false), (.b false), .g, .g, .g, .g, (.w .g), (.w .g), (.w .g), (.p true), (.b true), .g, .g, .g, .g, .g, .g, .g, .g, (.c (.int .i64 (F42 x1 x2 x3 l4 l5 l6)) h), (.c (.tuple #[.int .i64 y37.1, .bool y37.2]) h38), .g, .g, .g, .g, .g, .g, .g]) (args := [.agg #[.int .i64 x1, .int .i64 x2, .bool x3, (sv v4), (sv v5), (sv v6)], .agg #[.int .i64 x7, .int .i64 x8, (sv v9), .int .i64 x10]]) (h := h) (h' := h38) (v := .bool y37.2) (hC := (ai (show AKeep h h38 from (Heapy.sub q38)) (ai c38 (ai (show AKeep h h from (AHeap.sub_refl h)) (ai (F42_spec x1 x2 x3 l4 l5 l6 v4 v5 v6 h hv4 hv5 hv6 _ rfl) (ai c35 kc35)))))) (hr := by kernel_rfl)⟩
                · have kc39 := (ai c35 kc35)
                  refine dec_bif (fun c39 => ?_) (fun c39 => ?_)
                  · intro hr
                    obtain rfl := Option.some.inj hr
                    exact ⟨h, Heapy.pick (Heapy.refl hw) [] (by decide), pFun_sound good tab_ok (f := 17) (its := [.g, .g, .g, .g, (.c (.bool y11) h), .g, .g, (.w .g), (.w .g), (.w .g), (.p false), .g, (.w .g), (.w .g), (.w .g), (.p false), .g, (.w .g), (.w .g), (.w .g), (.p false), (.b false), .g, .g, .g, .g, (.w .g), (.w .g), (.w .g), (.p false), (.b false), .g, .g, .g, .g, (.w .g), (.w .g), (.w .g), (.p true), (.b false), .g, .g, .g, .g, (.w .g), (.w .g), (.w .g), (.p true), .g]) (args := [.agg #[.int .i64 x1, .int .i64 x2, .bool x3, (sv v4), (sv v5), (sv v6)], .agg #[.int .i64 x7, .int .i64 x8, (sv v9), .int .i64 x10]]) (h := h) (h' := h) (v := .bool (x8 == 1)) (hC := (ai c39 (ai (g_tt c39) (ai (g_tt c39) (ai (g_tt c39) kc39))))) (hr := by kernel_rfl)⟩
                  · intro hr
                    obtain rfl := Option.some.inj hr
                    exact ⟨h, Heapy.pick (Heapy.refl hw) [] (by decide), pFun_sound good tab_ok (f := 17) (its := [.g, .g, .g, .g, (.c (.bool y11) h), .g, .g, (.w .g), (.w .g), (.w .g), (.p false), .g, (.w .g), (.w .g), (.w .g), (.p false), .g, (.w .g), (.w .g), (.w .g), (.p false), (.b false), .g, .g, .g, .g, (.w .g), (.w .g), (.w .g), (.p false), (.b false), .g, .g, .g, .g, (.w .g), (.w .g), (.w .g), (.p true), (.b false), .g, .g, .g, .g, .n, .n, .n, (.p false), .g]) (args := [.agg #[.int .i64 x1, .int .i64 x2, .bool x3, (sv v4), (sv v5), (sv v6)], .agg #[.int .i64 x7, .int .i64 x8, (sv v9), .int .i64 x10]]) (h := h) (h' := h) (v := .bool false) (hC := (ai c39 (ai (g_ft c39) (ai (g_ft c39) (ai (g_ft c39) kc39))))) (hr := by kernel_rfl)⟩
              · have kc40 := (ai l_f (ai c34 (ai (g_ft c34) (ai (g_ft c34) (ai (g_ft c34) kc34)))))
                refine dec_bif (fun c40 => ?_) (fun c40 => ?_)
                · intro hr
                  obtain rfl := Option.some.inj hr
                  exact ⟨h, Heapy.pick (Heapy.refl hw) [] (by decide), pFun_sound good tab_ok (f := 17) (its := [.g, .g, .g, .g, (.c (.bool y11) h), .g, .g, (.w .g), (.w .g), (.w .g), (.p false), .g, (.w .g), (.w .g), (.w .g), (.p false), .g, (.w .g), (.w .g), (.w .g), (.p false), (.b false), .g, .g, .g, .g, (.w .g), (.w .g), (.w .g), (.p false), (.b false), .g, .g, .g, .g, .n, .n, .n, (.p false), (.b false), .g, .g, .g, .g, (.w .g), (.w .g), (.w .g), (.p true), .g]) (args := [.agg #[.int .i64 x1, .int .i64 x2, .bool x3, (sv v4), (sv v5), (sv v6)], .agg #[.int .i64 x7, .int .i64 x8, (sv v9), .int .i64 x10]]) (h := h) (h' := h) (v := .bool (x8 == 1)) (hC := (ai c40 (ai (g_tt c40) (ai (g_tt c40) (ai (g_tt c40) kc40))))) (hr := by kernel_rfl)⟩
                · intro hr
                  obtain rfl := Option.some.inj hr
                  exact ⟨h, Heapy.pick (Heapy.refl hw) [] (by decide), pFun_sound good tab_ok (f := 17) (its := [.g, .g, .g, .g, (.c (.bool y11) h), .g, .g, (.w .g), (.w .g), (.w .g), (.p false), .g, (.w .g), (.w .g), (.w .g), (.p false), .g, (.w .g), (.w .g), (.w .g), (.p false), (.b false), .g, .g, .g, .g, (.w .g), (.w .g), (.w .g), (.p false), (.b false), .g, .g, .g, .g, .n, .n, .n, (.p false), (.b false), .g, .g, .g, .g, .n, .n, .n, (.p false), .g]) (args := [.agg #[.int .i64 x1, .int .i64 x2, .bool x3, (sv v4), (sv v5), (sv v6)], .agg #[.int .i64 x7, .int .i64 x8, (sv v9), .int .i64 x10]]) (h := h) (h' := h) (v := .bool false) (hC := (ai c40 (ai (g_ft c40) (ai (g_ft c40) (ai (g_ft c40) kc40))))) (hr := by kernel_rfl)⟩
/-! 4 jacquard/jacquardlaw31.BoundsResources -/
def F4_L : List Nat := [1, 5]
def F4_D : List (Nat × List (Nat × Nat)) := [(12, [(0, 2), (1, 2), (2, 2), (3, 2), (4, 2), (5, 2), (6, 2), (7, 2), (8, 2), (9, 2), (10, 2), (11, 2), (12, 2), (13, 2), (14, 2), (15, 2), (16, 2), (17, 2), (18, 2), (19, 2), (20, 2), (21, 2), (22, 2), (23, 2), (24, 2), (25, 2), (26, 2), (27, 2), (28, 2), (29, 2), (30, 2), (31, 2), (32, 2), (33, 2), (34, 2), (35, 2)]), (14, [(0, 2), (1, 2), (2, 2), (3, 2), (4, 2), (5, 2), (6, 2), (7, 2), (8, 2), (9, 1), (10, 2), (11, 2)])]
def F4_m1_2 : List Bool := (rp 85 true [])
def F4_m1_1 : List Bool := (true :: false :: true :: false :: (rp 25 true (false :: false :: (rp 54 true []))))
def F4_m1_0 : List Bool := (true :: true :: false :: (rp 82 true []))
def F4_s1 (x1 : Int) (x2 : Int) (x3 : Bool) (l4 : List (Int × Int × Int × Int)) (l5 : List (Int × Int × Int × Int)) (l6 : List (Int × Int)) (y17 : (List (Int × Int × Unit × Int))) (a24 : Int) : Option (Int ⊕ Nat) :=
  (bif decide (a24 < (y17.length : Int)) then
   (Option.bind (F20 x1 x2 x3 l4 l5 l6 a24) fun y27 =>
   (Option.bind (at? y17 a24) fun y29 =>
   (bif (y29.1 != y27.1) then
    some (.inr 0)
   else
    (bif (y29.2.1 != y27.2.1) then
     some (.inr 0)
    else
     (bif (y29.2.2.2 != a24) then
      some (.inr 0)
     else
      (bif decide (y27.2.1 ≤ 256) then
       (Option.bind (F17 x1 x2 x3 l4 l5 l6 y29.1 y29.2.1 [] y29.2.2.2) fun y34 =>
       (bif (!y34) then
        some (.inr 0)
       else
        some (.inl (IntKind.i64.wrap (a24 + 1)))))
      else
       some (.inl (IntKind.i64.wrap (a24 + 1)))))))))
  else
   some (.inr 1))
def F4_h1 (x1 : Int) (x2 : Int) (x3 : Bool) (v4 : Hd) (v5 : Hd) (v6 : Hd) (y17 : (List (Int × Int × Unit × Int))) (u18_0 : Hd) (h25 : AHeap) (a24 : Int) : AS := ⟨(junk :: (.pointer (some ⟨1, 0, none⟩)) :: junk :: (sv u18_0) :: (rp 25 junk ((.int .i64 (y17.length : Int)) :: (.int .i64 a24) :: (rp 54 junk [])))), [(1, [.int .i64 x1, .int .i64 x2, .bool x3, (sv v4), (sv v5), (sv v6)])], h25⟩
theorem F4_d1 : drawsOk F4_D (codeOf Try.prog 4 [1, 1, 1, 1, 1, 0, 1, 0, 0]) = true := by kernel_rfl
def F4_x1_0 (h : AHeap) (hx : AHeap) (r : Nat) : AS := ⟨(junk :: junk :: (.bool false) :: (rp 82 junk [])), [], hx⟩
def F4_x1_1 (h : AHeap) (hx : AHeap) (r : Nat) : AS := ⟨(rp 85 junk []), [], hx⟩
def F4_i1 (h : AHeap) (x1 : Int) (x2 : Int) (x3 : Bool) (v4 : Hd) (v5 : Hd) (v6 : Hd) (y17 : (List (Int × Int × Unit × Int))) (u18_0 : Hd) (s : Int) (S : AS) : Prop := ∃ (h25 : AHeap), Heapy h h25 [⟨u18_0, 31, 4, List.flatMap enc1000031 y17⟩] ∧ S = (F4_h1 x1 x2 x3 v4 v5 v6 y17 u18_0 h25 s)
def F4_x1 (h : AHeap) (r : Nat) (e : Exit) (S : AS) : Prop := (bif Nat.beq r 0 then (e = .ret ∧ ∃ (hx : AHeap), Heapy h hx [] ∧ S = (F4_x1_0 h hx r)) else (e = (.exit 0) ∧ ∃ (hx : AHeap), Heapy h hx [] ∧ S = (F4_x1_1 h hx r)))
set_option maxRecDepth 100000 in
theorem F4_r1 (h : AHeap) (x1 : Int) (x2 : Int) (x3 : Bool) (l4 : List (Int × Int × Int × Int)) (v4 : Hd) (hv4 : SlE E57 4 h (sv v4) l4) (l5 : List (Int × Int × Int × Int)) (v5 : Hd) (hv5 : SlE E59 4 h (sv v5) l5) (l6 : List (Int × Int)) (v6 : Hd) (hv6 : SlE E61 2 h (sv v6) l6) (y17 : (List (Int × Int × Unit × Int))) (u18_0 : Hd) (a24 : Int) (S : AS) (hI : (F4_i1 h x1 x2 x3 v4 v5 v6 y17 u18_0) a24 S) (o : Int ⊕ Nat) : F4_s1 x1 x2 x3 l4 l5 l6 y17 a24 = some o → Rd Try.prog (codeOf Try.prog 4 [1, 1, 1, 1, 1, 0, 1, 0, 0]) (F4_i1 h x1 x2 x3 v4 v5 v6 y17 u18_0) (F4_x1 h) S o := by
  obtain ⟨h25, hp25, rfl⟩ := hI
  unfold F4_s1
  refine dec_bif (fun c26 => ?_) (fun c26 => ?_)
  · refine bind_opt fun y27 e27 => ?_
    refine bind_opt fun y29 e29 => ?_
    obtain ⟨id29, off29, g29, cs29, ix29, at29, rfl⟩ := SlE.at (Heapy.sle (v := u18_0) (xs := y17) (enc := enc1000031) hp25 0 rfl (fun _ => rfl) (by decide)) e29
    have kc30 := (ai (At.one (P := Try.prog) (t := 3) (v := .int .i64 y29.1) at29 (by kernel_rfl) 0 rfl rfl) (ai ix29 (ai (F20_spec x1 x2 x3 l4 l5 l6 a24 v4 v5 v6 h25 (SlE.mono hv4 (Heapy.sub hp25) (E57_mono (Heapy.sub hp25))) (SlE.mono hv5 (Heapy.sub hp25) (E59_mono (Heapy.sub hp25))) (SlE.mono hv6 (Heapy.sub hp25) (E61_mono (Heapy.sub hp25))) _ e27) (ai c26 trivial))))
    refine dec_bif (fun c30 => ?_) (fun c30 => ?_)
    · intro hr
      obtain rfl := Option.some.inj hr
      refine ⟨.ret, (F4_x1_0 h h25 (0 : Nat)), (by intro hh; cases hh), ?_, pEnd_sound good (L := F4_L) (D := F4_D) (its := [.g, (.b true), .g, .g, .g, .g, (.c (.agg #[.int .i64 y27.1, .int .i64 y27.2.1, .slice none 0 0, .int .i64 y27.2.2]) h25), .g, .g, .g, .g, (.ix id29 off29 g29), .g, (.ld (.int .i64 y29.1)), .g, .g, .g, .g, .n, .n, .n, .n, .n, .n, .n, .n, (.p true), .g, .n, .n, .n, .n, .n, .n, .n, .g, .g, .n, .n, .n, .n, .n, .n, .n, .g, (.b true), .g]) (ds := F4_m1_0) (ks := [1, 5]) (e := .ret) (s2 := (F4_x1_0 h h25 (0 : Nat))) (hC := (ai l_t (ai (g_tf l_t) (ai (g_tf l_t) (ai (g_tf l_t) (ai (g_tf l_t) (ai (g_tf l_t) (ai (g_tf l_t) (ai (g_tf l_t) (ai (g_tf l_t) (ai (g_tf l_t) (ai (g_tf l_t) (ai (g_tf l_t) (ai (g_tf l_t) (ai (g_tf l_t) (ai (g_tf l_t) (ai c30 (ai (g_tf c30) (ai (g_tf c30) (ai (g_tf c30) (ai (g_tf c30) (ai (g_tf c30) (ai (g_tf c30) (ai (g_tf c30) (ai (g_tf c30) kc30))))))))))))))))))))))))) (hd := F4_d1) (h := by kernel_rfl)⟩
      exact ⟨rfl, h25, (Heapy.pick hp25 [] (by decide)), rfl⟩
    · have kc31 := (ai c30 (ai (g_ff c30) (ai (g_ff c30) (ai (g_ff c30) (ai (At.one (P := Try.prog) (t := 3) (v := .int .i64 y29.2.1) at29 (by kernel_rfl) 1 rfl rfl) (ai (g_ff c30) (ai (g_ff c30) (ai ix29 (ai (g_ff c30) (ai (g_ff c30) (ai (g_ff c30) kc30)))))))))))
      refine dec_bif (fun c31 => ?_) (fun c31 => ?_)
      · intro hr
        obtain rfl := Option.some.inj hr
        refine ⟨.ret, (F4_x1_0 h h25 (0 : Nat)), (by intro hh; cases hh), ?_, pEnd_sound good (L := F4_L) (D := F4_D) (its := [.g, (.b true), .g, .g, .g, .g, (.c (.agg #[.int .i64 y27.1, .int .i64 y27.2.1, .slice none 0 0, .int .i64 y27.2.2]) h25), .g, .g, .g, .g, (.ix id29 off29 g29), .g, (.ld (.int .i64 y29.1)), .g, .g, .g, .g, (.w .g), (.w .g), (.w (.ix id29 off29 g29)), (.w .g), (.w (.ld (.int .i64 y29.2.1))), (.w .g), (.w .g), (.w .g), (.p false), .g, .n, .n, .n, .n, .n, .n, .n, (.p true), .g, .n, .n, .n, .n, .n, .n, .n, .g, (.b true), .g]) (ds := F4_m1_0) (ks := [1, 5]) (e := .ret) (s2 := (F4_x1_0 h h25 (0 : Nat))) (hC := (ai l_t (ai (g_tf l_t) (ai (g_tf l_t) (ai (g_tf l_t) (ai (g_tf l_t) (ai (g_tf l_t) (ai (g_tf l_t) (ai (g_tf l_t) (ai c31 (ai (g_tf c31) (ai (g_tf c31) (ai (g_tf c31) (ai (g_tf c31) (ai (g_tf c31) (ai (g_tf c31) (ai (g_tf c31) kc31))))))))))))))))) (hd := F4_d1) (h := by kernel_rfl)⟩
        exact ⟨rfl, h25, (Heapy.pick hp25 [] (by decide)), rfl⟩
      · have kc32 := (ai c31 (ai (g_ff c31) (ai (g_ff c31) (ai (At.one (P := Try.prog) (t := 3) (v := .int .i64 y29.2.2.2) at29 (by kernel_rfl) 3 rfl rfl) (ai (g_ff c31) (ai (g_ff c31) (ai ix29 (ai (g_ff c31) (ai (g_ff c31) (ai (g_ff c31) kc31))))))))))
        refine dec_bif (fun c32 => ?_) (fun c32 => ?_)
        · intro hr
          obtain rfl := Option.some.inj hr
          refine ⟨.ret, (F4_x1_0 h h25 (0 : Nat)), (by intro hh; cases hh), ?_, pEnd_sound good (L := F4_L) (D := F4_D) (its := [.g, (.b true), .g, .g, .g, .g, (.c (.agg #[.int .i64 y27.1, .int .i64 y27.2.1, .slice none 0 0, .int .i64 y27.2.2]) h25), .g, .g, .g, .g, (.ix id29 off29 g29), .g, (.ld (.int .i64 y29.1)), .g, .g, .g, .g, (.w .g), (.w .g), (.w (.ix id29 off29 g29)), (.w .g), (.w (.ld (.int .i64 y29.2.1))), (.w .g), (.w .g), (.w .g), (.p false), .g, (.w .g), (.w .g), (.w (.ix id29 off29 g29)), (.w .g), (.w (.ld (.int .i64 y29.2.2.2))), (.w .g), (.w .g), (.p false), .g, .n, .n, .n, .n, .n, .n, .n, (.p true), (.b true), .g]) (ds := F4_m1_0) (ks := [1, 5]) (e := .ret) (s2 := (F4_x1_0 h h25 (0 : Nat))) (hC := (ai l_t (ai c32 (ai (g_tf c32) (ai (g_tf c32) (ai (g_tf c32) (ai (g_tf c32) (ai (g_tf c32) (ai (g_tf c32) (ai (g_tf c32) kc32)))))))))) (hd := F4_d1) (h := by kernel_rfl)⟩
          exact ⟨rfl, h25, (Heapy.pick hp25 [] (by decide)), rfl⟩
        · have kc33 := (ai l_f (ai c32 (ai (g_ff c32) (ai (g_ff c32) (ai (At.one (P := Try.prog) (t := 29) (v := .slice none 0 0) at29 (by kernel_rfl) 2 rfl rfl) (ai (g_ff c32) (ai (g_ff c32) (ai ix29 (ai (g_ff c32) (ai (g_ff c32) (ai (g_ff c32) kc32)))))))))))
          refine dec_bif (fun c33 => ?_) (fun c33 => ?_)
          · refine bind_opt fun y34 e34 => ?_
            obtain ⟨h35, q35, c35⟩ := F17_spec x1 x2 x3 l4 l5 l6 y29.1 y29.2.1 [] y29.2.2.2 v4 v5 v6 ⟨none, 0, 0⟩ h25 (Heapy.wf hp25) (SlE.mono hv4 (Heapy.sub hp25) (E57_mono (Heapy.sub hp25))) (SlE.mono hv5 (Heapy.sub hp25) (E59_mono (Heapy.sub hp25))) (SlE.mono hv6 (Heapy.sub hp25) (E61_mono (Heapy.sub hp25))) SlE.nil _ e34
            have hp35 : Heapy h h35 [⟨u18_0, 31, 4, List.flatMap enc1000031 y17⟩] := Heapy.call hp25 q35
            have kc36 := (ai c33 (ai (g_tt c33) (ai (show AKeep h25 h35 from (Heapy.sub q35)) (ai c35 (ai (g_tt c33) (ai (At.agg (P := Try.prog) (t := 31) (v := .agg #[.int .i64 y29.1, .int .i64 y29.2.1, .slice none 0 0, .int .i64 y29.2.2.2]) (m := 4) at29 (by kernel_rfl) (by kernel_rfl) 0 (by kernel_rfl) rfl) (ai (g_tt c33) (ai ix29 (ai (g_tt c33) (ai (g_tt c33) (ai (g_tt c33) (ai (g_tt c33) kc33))))))))))))
            refine dec_bif (fun c36 => ?_) (fun c36 => ?_)
            · intro hr
              obtain rfl := Option.some.inj hr
              refine ⟨.ret, (F4_x1_0 h h35 (0 : Nat)), (by intro hh; cases hh), ?_, pEnd_sound good (L := F4_L) (D := F4_D) (its := [.g, (.b true), .g, .g, .g, .g, (.c (.agg #[.int .i64 y27.1, .int .i64 y27.2.1, .slice none 0 0, .int .i64 y27.2.2]) h25), .g, .g, .g, .g, (.ix id29 off29 g29), .g, (.ld (.int .i64 y29.1)), .g, .g, .g, .g, (.w .g), (.w .g), (.w (.ix id29 off29 g29)), (.w .g), (.w (.ld (.int .i64 y29.2.1))), (.w .g), (.w .g), (.w .g), (.p false), .g, (.w .g), (.w .g), (.w (.ix id29 off29 g29)), (.w .g), (.w (.ld (.int .i64 y29.2.2.2))), (.w .g), (.w .g), (.p false), .g, (.w .g), (.w .g), (.w (.ix id29 off29 g29)), (.w .g), (.w (.ld (.slice none 0 0))), (.w .g), (.w .g), (.p false), (.b false), .g, .g, .g, .g, (.w .g), (.w .g), (.w .g), (.w (.ix id29 off29 g29)), (.w (.ld (.agg #[.int .i64 y29.1, .int .i64 y29.2.1, .slice none 0 0, .int .i64 y29.2.2.2]))), (.w (.c (.bool y34) h35)), (.w .g), (.p true), (.b true), .g]) (ds := F4_m1_0) (ks := [1, 5]) (e := .ret) (s2 := (F4_x1_0 h h35 (0 : Nat))) (hC := (ai c36 kc36)) (hd := F4_d1) (h := by kernel_rfl)⟩
              exact ⟨rfl, h35, (Heapy.pick hp35 [] (by decide)), rfl⟩
            · intro hr
              obtain rfl := Option.some.inj hr
              exact ⟨(F4_h1 x1 x2 x3 v4 v5 v6 y17 u18_0 h35 (IntKind.i64.wrap (a24 + 1))), ⟨h35, (Heapy.pick hp35 [0] (by decide)), rfl⟩, pEnd_sound good (L := F4_L) (D := F4_D) (its := [.g, (.b true), .g, .g, .g, .g, (.c (.agg #[.int .i64 y27.1, .int .i64 y27.2.1, .slice none 0 0, .int .i64 y27.2.2]) h25), .g, .g, .g, .g, (.ix id29 off29 g29), .g, (.ld (.int .i64 y29.1)), .g, .g, .g, .g, (.w .g), (.w .g), (.w (.ix id29 off29 g29)), (.w .g), (.w (.ld (.int .i64 y29.2.1))), (.w .g), (.w .g), (.w .g), (.p false), .g, (.w .g), (.w .g), (.w (.ix id29 off29 g29)), (.w .g), (.w (.ld (.int .i64 y29.2.2.2))), (.w .g), (.w .g), (.p false), .g, (.w .g), (.w .g), (.w (.ix id29 off29 g29)), (.w .g), (.w (.ld (.slice none 0 0))), (.w .g), (.w .g), (.p false), (.b false), .g, .g, .g, .g, (.w .g), (.w .g), (.w .g), (.w (.ix id29 off29 g29)), (.w (.ld (.agg #[.int .i64 y29.1, .int .i64 y29.2.1, .slice none 0 0, .int .i64 y29.2.2.2]))), (.w (.c (.bool y34) h35)), (.w .g), (.p true), (.b false), .g, .g]) (ds := F4_m1_1) (ks := [5]) (e := .normal) (s2 := (F4_h1 x1 x2 x3 v4 v5 v6 y17 u18_0 h35 (IntKind.i64.wrap (a24 + 1)))) (hC := (ai c36 kc36)) (hd := F4_d1) (h := by kernel_rfl)⟩
          · intro hr
            obtain rfl := Option.some.inj hr
            exact ⟨(F4_h1 x1 x2 x3 v4 v5 v6 y17 u18_0 h25 (IntKind.i64.wrap (a24 + 1))), ⟨h25, (Heapy.pick hp25 [0] (by decide)), rfl⟩, pEnd_sound good (L := F4_L) (D := F4_D) (its := [.g, (.b true), .g, .g, .g, .g, (.c (.agg #[.int .i64 y27.1, .int .i64 y27.2.1, .slice none 0 0, .int .i64 y27.2.2]) h25), .g, .g, .g, .g, (.ix id29 off29 g29), .g, (.ld (.int .i64 y29.1)), .g, .g, .g, .g, (.w .g), (.w .g), (.w (.ix id29 off29 g29)), (.w .g), (.w (.ld (.int .i64 y29.2.1))), (.w .g), (.w .g), (.w .g), (.p false), .g, (.w .g), (.w .g), (.w (.ix id29 off29 g29)), (.w .g), (.w (.ld (.int .i64 y29.2.2.2))), (.w .g), (.w .g), (.p false), .g, (.w .g), (.w .g), (.w (.ix id29 off29 g29)), (.w .g), (.w (.ld (.slice none 0 0))), (.w .g), (.w .g), (.p false), (.b false), .g, .g, .g, .g, .n, .n, .n, .n, .n, .n, .n, (.p false), (.b false), .g, .g]) (ds := F4_m1_1) (ks := [5]) (e := .normal) (s2 := (F4_h1 x1 x2 x3 v4 v5 v6 y17 u18_0 h25 (IntKind.i64.wrap (a24 + 1)))) (hC := (ai l_f (ai c33 (ai (g_ft c33) (ai (g_ft c33) (ai (g_ft c33) (ai (g_ft c33) (ai (g_ft c33) (ai (g_ft c33) (ai (g_ft c33) kc33)))))))))) (hd := F4_d1) (h := by kernel_rfl)⟩
  · intro hr
    obtain rfl := Option.some.inj hr
    refine ⟨(.exit 0), (F4_x1_1 h h25 (1 : Nat)), (by intro hh; cases hh), ?_, pEnd_sound good (L := F4_L) (D := F4_D) (its := [.g, (.b false)]) (ds := F4_m1_2) (ks := [1]) (e := (.exit 0)) (s2 := (F4_x1_1 h h25 (1 : Nat))) (hC := (ai c26 trivial)) (hd := F4_d1) (h := by kernel_rfl)⟩
    exact ⟨rfl, h25, (Heapy.pick hp25 [] (by decide)), rfl⟩
theorem F4_l1 (h : AHeap) (x1 : Int) (x2 : Int) (x3 : Bool) (l4 : List (Int × Int × Int × Int)) (v4 : Hd) (hv4 : SlE E57 4 h (sv v4) l4) (l5 : List (Int × Int × Int × Int)) (v5 : Hd) (hv5 : SlE E59 4 h (sv v5) l5) (l6 : List (Int × Int)) (v6 : Hd) (hv6 : SlE E61 2 h (sv v6) l6) (y17 : (List (Int × Int × Unit × Int))) (u18_0 : Hd) (x : Int) (r : Nat) (hl : loopO (fun (s : Int) => F4_s1 x1 x2 x3 l4 l5 l6 y17 s) x = some r) (S : AS) (hI : (F4_i1 h x1 x2 x3 v4 v5 v6 y17 u18_0) x S) : ∃ e S', (F4_x1 h) r e S' ∧ AWp Try.prog (.loop (codeOf Try.prog 4 [1, 1, 1, 1, 1, 0, 1, 0, 0])) (Ends1 e S') S :=
  loop_rel (fun x S hI => F4_r1 h x1 x2 x3 l4 v4 hv4 l5 v5 hv5 l6 v6 hv6 y17 u18_0 x S hI) hl hI
def F4 (x1 : Int) (x2 : Int) (x3 : Bool) (l4 : List (Int × Int × Int × Int)) (l5 : List (Int × Int × Int × Int)) (l6 : List (Int × Int)) : Option (Bool) :=
  (Option.bind F11 fun y7 =>
  (bif (!y7) then
   (Option.bind F11 fun y10 =>
   some (y10))
  else
   (Option.bind (F12 x1 x2 x3 l4 l5 l6) fun y12 =>
   (bif (!y12) then
    (Option.bind F11 fun y15 =>
    some (y15))
   else
    (Option.bind (F18 x1 x2 x3 l4 l5 l6) fun y17 =>
    (Option.bind (F19 x1 x2 x3 l4 l5 l6) fun y20 =>
    (bif (!y20) then
     some ((y17.length : Int) == 0)
    else
     (bif ((y17.length : Int) != (l5.length : Int)) then
      some (false)
     else
      (Option.bind (loopO (fun (s : Int) => F4_s1 x1 x2 x3 l4 l5 l6 y17 s) 0) fun y37 =>
      (bif (Nat.beq y37 0) then
       some (false)
      else
       some (true)))))))))))
set_option maxRecDepth 100000 in
theorem F4_spec (x1 : Int) (x2 : Int) (x3 : Bool) (l4 : List (Int × Int × Int × Int)) (l5 : List (Int × Int × Int × Int)) (l6 : List (Int × Int)) (v4 : Hd) (v5 : Hd) (v6 : Hd) (h : AHeap) (hw : h.wf) (hv4 : SlE E57 4 h (sv v4) l4) (hv5 : SlE E59 4 h (sv v5) l5) (hv6 : SlE E61 2 h (sv v6) l6) (r : Bool) : F4 x1 x2 x3 l4 l5 l6 = some r → ∃ (h' : AHeap), Heapy h h' [] ∧ ACalls Try.prog 4 [.agg #[.int .i64 x1, .int .i64 x2, .bool x3, (sv v4), (sv v5), (sv v6)]] h (fun v' h'' => v' = (.bool r : Value) ∧ h'' = h') := by
  unfold F4
  refine bind_opt fun y7 e7 => ?_
  obtain ⟨h8, q8, c8⟩ := F11_spec h hw _ e7
  have hp8 : Heapy h h8 [] := Heapy.call (Heapy.refl hw) q8
  have kc9 := (ai c8 trivial)
  refine dec_bif (fun c9 => ?_) (fun c9 => ?_)
  · refine bind_opt fun y10 e10 => ?_
    obtain ⟨h11, q11, c11⟩ := F11_spec h8 (Heapy.wf hp8) _ e10
    have hp11 : Heapy h h11 [] := Heapy.call hp8 q11
    intro hr
    obtain rfl := Option.some.inj hr
    exact ⟨h11, Heapy.pick hp11 [] (by decide), pFun_sound good tab_ok (f := 4) (its := [.g, .g, (.c (.bool y7) h8), .g, .g, .n, .n, .n, (.p true), (.b true), (.c (.bool y10) h11), .g]) (args := [.agg #[.int .i64 x1, .int .i64 x2, .bool x3, (sv v4), (sv v5), (sv v6)]]) (h := h) (h' := h11) (v := .bool y10) (hC := (ai c11 (ai l_t (ai c9 (ai (g_tf c9) (ai (g_tf c9) (ai (g_tf c9) kc9))))))) (hr := by kernel_rfl)⟩
  · refine bind_opt fun y12 e12 => ?_
    have kc14 := (ai c9 (ai (g_ff c9) (ai (F12_spec x1 x2 x3 l4 l5 l6 v4 v5 v6 h8 (SlE.mono hv4 (Heapy.sub hp8) (E57_mono (Heapy.sub hp8))) (SlE.mono hv5 (Heapy.sub hp8) (E59_mono (Heapy.sub hp8))) (SlE.mono hv6 (Heapy.sub hp8) (E61_mono (Heapy.sub hp8))) _ e12) (ai (g_ff c9) (ai (g_ff c9) kc9)))))
    refine dec_bif (fun c14 => ?_) (fun c14 => ?_)
    · refine bind_opt fun y15 e15 => ?_
      obtain ⟨h16, q16, c16⟩ := F11_spec h8 (Heapy.wf hp8) _ e15
      have hp16 : Heapy h h16 [] := Heapy.call hp8 q16
      intro hr
      obtain rfl := Option.some.inj hr
      exact ⟨h16, Heapy.pick hp16 [] (by decide), pFun_sound good tab_ok (f := 4) (its := [.g, .g, (.c (.bool y7) h8), .g, .g, (.w .g), (.w (.c (.bool y12) h8)), (.w .g), (.p false), (.b true), (.c (.bool y15) h16), .g]) (args := [.agg #[.int .i64 x1, .int .i64 x2, .bool x3, (sv v4), (sv v5), (sv v6)]]) (h := h) (h' := h16) (v := .bool y15) (hC := (ai c16 (ai c14 kc14))) (hr := by kernel_rfl)⟩
    · refine bind_opt fun y17 e17 => ?_
      obtain ⟨u18_0, h18, q18, zu18_0, c18⟩ := F18_spec x1 x2 x3 l4 l5 l6 v4 v5 v6 h8 (Heapy.wf hp8) (SlE.mono hv4 (Heapy.sub hp8) (E57_mono (Heapy.sub hp8))) (SlE.mono hv5 (Heapy.sub hp8) (E59_mono (Heapy.sub hp8))) (SlE.mono hv6 (Heapy.sub hp8) (E61_mono (Heapy.sub hp8))) _ e17
      have hp18 : Heapy h h18 [⟨u18_0, 31, 4, List.flatMap enc1000031 y17⟩] := Heapy.call hp8 q18
      refine bind_opt fun y20 e20 => ?_
      have kc22 := (ai (F19_spec x1 x2 x3 l4 l5 l6 v4 v5 v6 h18 (SlE.mono hv4 (Heapy.sub hp18) (E57_mono (Heapy.sub hp18))) (SlE.mono hv5 (Heapy.sub hp18) (E59_mono (Heapy.sub hp18))) (SlE.mono hv6 (Heapy.sub hp18) (E61_mono (Heapy.sub hp18))) _ e20) (ai c18 (ai c14 kc14)))
      refine dec_bif (fun c22 => ?_) (fun c22 => ?_)
      · intro hr
        obtain rfl := Option.some.inj hr
        exact ⟨h18, Heapy.pick hp18 [] (by decide), pFun_sound good tab_ok (f := 4) (its := [.g, .g, (.c (.bool y7) h8), .g, .g, (.w .g), (.w (.c (.bool y12) h8)), (.w .g), (.p false), (.b false), .g, (.c ((sv u18_0)) h18), .g, .g, (.c (.bool y20) h18), .g, (.b true), .g, (.ln y17.length), .g, .g]) (args := [.agg #[.int .i64 x1, .int .i64 x2, .bool x3, (sv v4), (sv v5), (sv v6)]]) (h := h) (h' := h18) (v := .bool ((y17.length : Int) == 0)) (hC := (ai (SlE.len (Heapy.sle (v := u18_0) (xs := y17) (enc := enc1000031) hp18 0 rfl (fun _ => rfl) (by decide))) (ai c22 kc22))) (hr := by kernel_rfl)⟩
      · have kc23 := (ai (SlE.len hv5) (ai (SlE.len (Heapy.sle (v := u18_0) (xs := y17) (enc := enc1000031) hp18 0 rfl (fun _ => rfl) (by decide))) (ai c22 kc22)))
        refine dec_bif (fun c23 => ?_) (fun c23 => ?_)
        · intro hr
          obtain rfl := Option.some.inj hr
          exact ⟨h18, Heapy.pick hp18 [] (by decide), pFun_sound good tab_ok (f := 4) (its := [.g, .g, (.c (.bool y7) h8), .g, .g, (.w .g), (.w (.c (.bool y12) h8)), (.w .g), (.p false), (.b false), .g, (.c ((sv u18_0)) h18), .g, .g, (.c (.bool y20) h18), .g, (.b false), .g, (.ln y17.length), .g, .g, (.ln l5.length), .g, (.b true), .g]) (args := [.agg #[.int .i64 x1, .int .i64 x2, .bool x3, (sv v4), (sv v5), (sv v6)]]) (h := h) (h' := h18) (v := .bool false) (hC := (ai c23 kc23)) (hr := by kernel_rfl)⟩
        · refine bind_opt fun y37 e37 => ?_
          obtain ⟨ee37, SS37, hX37, hA37⟩ := F4_l1 h x1 x2 x3 l4 v4 hv4 l5 v5 hv5 l6 v6 hv6 y17 u18_0 0 y37 e37 (F4_h1 x1 x2 x3 v4 v5 v6 y17 u18_0 h18 0) ⟨h18, (Heapy.pick hp18 [0] (by decide)), rfl⟩
          have kc38 := (ai (SlE.len (Heapy.sle (v := u18_0) (xs := y17) (enc := enc1000031) hp18 0 rfl (fun _ => rfl) (by decide))) (ai c23 kc23))
          refine dec_bif (fun c38 => ?_) (fun c38 => ?_)
          · simp only [F4_x1, c38, cond_true, cond_false] at hX37
            obtain ⟨rfl, h39, hp39, rfl⟩ := hX37
            intro hr
            obtain rfl := Option.some.inj hr
            exact ⟨h39, Heapy.pick hp39 [] (by decide), pFun_sound good tab_ok (f := 4) (its := [.g, .g, (.c (.bool y7) h8), .g, .g, (.w .g), (.w (.c (.bool y12) h8)), (.w .g), (.p false), (.b false), .g, (.c ((sv u18_0)) h18), .g, .g, (.c (.bool y20) h18), .g, (.b false), .g, (.ln y17.length), .g, .g, (.ln l5.length), .g, (.b false), .g, (.ln y17.length), .g, (.l F4_m1_1 [] .ret (F4_x1_0 h h39 y37))]) (args := [.agg #[.int .i64 x1, .int .i64 x2, .bool x3, (sv v4), (sv v5), (sv v6)]]) (h := h) (h' := h39) (v := .bool false) (hC := (ai hA37 kc38)) (hr := by kernel_rfl)⟩
          · simp only [F4_x1, c38, cond_true, cond_false] at hX37
            obtain ⟨rfl, h40, hp40, rfl⟩ := hX37
            intro hr
            obtain rfl := Option.some.inj hr
            exact ⟨h40, Heapy.pick hp40 [] (by decide), pFun_sound good tab_ok (f := 4) (its := [.g, .g, (.c (.bool y7) h8), .g, .g, (.w .g), (.w (.c (.bool y12) h8)), (.w .g), (.p false), (.b false), .g, (.c ((sv u18_0)) h18), .g, .g, (.c (.bool y20) h18), .g, (.b false), .g, (.ln y17.length), .g, .g, (.ln l5.length), .g, (.b false), .g, (.ln y17.length), .g, (.l F4_m1_1 [] (.exit 0) (F4_x1_1 h h40 y37)), .g]) (args := [.agg #[.int .i64 x1, .int .i64 x2, .bool x3, (sv v4), (sv v5), (sv v6)]]) (h := h) (h' := h40) (v := .bool true) (hC := (ai hA37 kc38)) (hr := by kernel_rfl)⟩
set_option maxRecDepth 100000 in
theorem F4_law (H : ∀ (x1 : Int) (x2 : Int) (x3 : Bool) (l4 : List (Int × Int × Int × Int)) (l5 : List (Int × Int × Int × Int)) (l6 : List (Int × Int)), (Lit.int .i64 x1).wf = true → (Lit.int .i64 x2).wf = true → (l4.length ≤ maxLen ∧ l4.length * 32 ≤ reachBytes) → (∀ y ∈ l4, W57 y) → (l5.length ≤ maxLen ∧ l5.length * 32 ≤ reachBytes) → (∀ y ∈ l5, W59 y) → (l6.length ≤ maxLen ∧ l6.length * 16 ≤ reachBytes) → (∀ y ∈ l6, W61 y) → F4 x1 x2 x3 l4 l5 l6 = some true) : Law Try.prog 4 10 [26] := by
  intro s us hwf hro hT0
  obtain ⟨u0, vs0, rfl, t0, hT1⟩ := wts_cons hT0
  obtain ⟨cs0, rfl, k0⟩ := wtv_aggS 4 (ks := [.int .i64, .int .i64, .bool, .slice 57, .slice 59, .slice 61]) (by kernel_rfl) (by kernel_rfl) t0
  obtain ⟨x1, r_x1, rfl, w_x1, k0_0⟩ := sq_int k0
  obtain ⟨x2, r_x2, rfl, w_x2, k0_1⟩ := sq_int k0_0
  obtain ⟨x3, r_x3, rfl, k0_2⟩ := sq_bool k0_1
  obtain ⟨v4, r_l4, rfl, q_l4, k0_3⟩ := sq_slice k0_2
  obtain ⟨l4, a_l4, m_l4, w_l4⟩ := q_l4 E57 W57 4 (by kernel_rfl) fun n cs H => E57_wt H
  obtain ⟨v5, r_l5, rfl, q_l5, k0_4⟩ := sq_slice k0_3
  obtain ⟨l5, a_l5, m_l5, w_l5⟩ := q_l5 E59 W59 4 (by kernel_rfl) fun n cs H => E59_wt H
  obtain ⟨v6, r_l6, rfl, q_l6, k0_5⟩ := sq_slice k0_4
  obtain ⟨l6, a_l6, m_l6, w_l6⟩ := q_l6 E61 W61 2 (by kernel_rfl) fun n cs H => E61_wt H
  obtain rfl := sq_nil k0_5
  obtain rfl := wts_nil hT1
  obtain ⟨h2, _, hc⟩ := F4_spec x1 x2 x3 l4 l5 l6 v4 v5 v6 s hwf a_l4 a_l5 a_l6 _ (H x1 x2 x3 l4 l5 l6 w_x1 w_x2 m_l4 w_l4 m_l5 w_l5 m_l6 w_l6)
  refine (hc).mono ?_
  rintro v h' ⟨rfl, rfl⟩
  rfl
/-! 5 jacquard/jacquardlaw31.BoundsLower -/
def F5_L : List Nat := [1, 3, 5]
def F5_D : List (Nat × List (Nat × Nat)) := [(11, [(0, 2), (1, 2), (2, 2), (3, 2), (4, 2), (5, 2), (6, 2), (7, 2)])]
def F5_m1_1 : List Bool := (true :: false :: true :: false :: false :: false :: (rp 89 true []))
def F5_m1_0 : List Bool := (true :: false :: true :: false :: false :: false :: true :: false :: (rp 32 true (false :: false :: (rp 53 true []))))
def F5_s1 (y25 : (List (Int × Int × Unit × Int))) (a28 : Int) (a29 : Int) (a30 : Int) (a31 : Int) (l32 : List Int) : Option ((Int × Int × Int × Int × (List Int)) ⊕ (Int × Int × Int × (List Int))) :=
  (bif decide (a28 < (y25.length : Int)) then
   (Option.bind (at? y25 a28) fun y35 =>
   (bif decide (y35.2.1 > a30) then
    some (.inl ((IntKind.i64.wrap (a28 + 1)), y35.1, y35.2.1, y35.2.2.2, ([] : List Int)))
   else
    some (.inl ((IntKind.i64.wrap (a28 + 1)), a29, a30, a31, l32))))
  else
   some (.inr (a29, a30, a31, l32)))
def F5_h1 (x1 : Int) (x2 : Int) (x3 : Bool) (v4 : Hd) (v5 : Hd) (v6 : Hd) (y17 : Int × Int × (List Int) × Int × Int) (u18_0 : Hd) (y25 : (List (Int × Int × Unit × Int))) (u26_0 : Hd) (h33 : AHeap) (u32 : Hd) (a28 : Int) (a29 : Int) (a30 : Int) (a31 : Int) (l32 : List Int) : AS := ⟨(junk :: (.pointer (some ⟨1, 0, none⟩)) :: junk :: (.pointer (some ⟨3, 0, none⟩)) :: (.int .i64 y17.2.2.2.2) :: (.pointer (some ⟨5, 0, none⟩)) :: junk :: (sv u26_0) :: (rp 32 junk ((.int .i64 (y25.length : Int)) :: (.int .i64 a28) :: (rp 53 junk [])))), [(1, [.int .i64 x1, .int .i64 x2, .bool x3, (sv v4), (sv v5), (sv v6)]), (3, [.int .i64 y17.1, .int .i64 y17.2.1, (sv u18_0), .int .i64 y17.2.2.2.1]), (5, [.int .i64 a29, .int .i64 a30, (sv u32), .int .i64 a31])], h33⟩
theorem F5_d1 : drawsOk F5_D (codeOf Try.prog 5 [1, 1, 1, 1, 1, 1, 0, 1, 0, 0]) = true := by kernel_rfl
def F5_x1_0 (h : AHeap) (x1 : Int) (x2 : Int) (x3 : Bool) (v4 : Hd) (v5 : Hd) (v6 : Hd) (y17 : Int × Int × (List Int) × Int × Int) (u18_0 : Hd) (hx : AHeap) (w1 : Hd) (r : Int × Int × Int × (List Int)) : AS := ⟨(junk :: (.pointer (some ⟨1, 0, none⟩)) :: junk :: (.pointer (some ⟨3, 0, none⟩)) :: (.int .i64 y17.2.2.2.2) :: (.pointer (some ⟨5, 0, none⟩)) :: (rp 89 junk [])), [(1, [.int .i64 x1, .int .i64 x2, .bool x3, (sv v4), (sv v5), (sv v6)]), (3, [.int .i64 y17.1, .int .i64 y17.2.1, (sv u18_0), .int .i64 y17.2.2.2.1]), (5, [.int .i64 r.1, .int .i64 r.2.1, (sv w1), .int .i64 r.2.2.1])], hx⟩
def F5_i1 (h : AHeap) (x1 : Int) (x2 : Int) (x3 : Bool) (v4 : Hd) (v5 : Hd) (v6 : Hd) (y17 : Int × Int × (List Int) × Int × Int) (u18_0 : Hd) (y25 : (List (Int × Int × Unit × Int))) (u26_0 : Hd) (s : Int × Int × Int × Int × (List Int)) (S : AS) : Prop := ∃ (h33 : AHeap) (u32 : Hd), Heapy h h33 [⟨u26_0, 31, 4, List.flatMap enc1000031 y25⟩, ⟨u18_0, 3, 1, List.flatMap enc3 y17.2.2.1⟩, ⟨u32, 3, 1, List.flatMap enc3 s.2.2.2.2⟩] ∧ Strict u32 ∧ S = (F5_h1 x1 x2 x3 v4 v5 v6 y17 u18_0 y25 u26_0 h33 u32 s.1 s.2.1 s.2.2.1 s.2.2.2.1 s.2.2.2.2)
def F5_x1 (h : AHeap) (x1 : Int) (x2 : Int) (x3 : Bool) (v4 : Hd) (v5 : Hd) (v6 : Hd) (y17 : Int × Int × (List Int) × Int × Int) (u18_0 : Hd) (r : Int × Int × Int × (List Int)) (e : Exit) (S : AS) : Prop := e = (.exit 0) ∧ ∃ (hx : AHeap) (w1 : Hd), Heapy h hx [⟨u18_0, 3, 1, List.flatMap enc3 y17.2.2.1⟩, ⟨w1, 3, 1, List.flatMap enc3 r.2.2.2⟩] ∧ Strict w1 ∧ S = (F5_x1_0 h x1 x2 x3 v4 v5 v6 y17 u18_0 hx w1 r)
set_option maxRecDepth 100000 in
theorem F5_r1 (h : AHeap) (x1 : Int) (x2 : Int) (x3 : Bool) (v4 : Hd) (v5 : Hd) (v6 : Hd) (y17 : Int × Int × (List Int) × Int × Int) (u18_0 : Hd) (y25 : (List (Int × Int × Unit × Int))) (u26_0 : Hd) (a28 : Int) (a29 : Int) (a30 : Int) (a31 : Int) (l32 : List Int) (S : AS) (hI : (F5_i1 h x1 x2 x3 v4 v5 v6 y17 u18_0 y25 u26_0) (a28, a29, a30, a31, l32) S) (o : (Int × Int × Int × Int × (List Int)) ⊕ (Int × Int × Int × (List Int))) : F5_s1 y25 a28 a29 a30 a31 l32 = some o → Rd Try.prog (codeOf Try.prog 5 [1, 1, 1, 1, 1, 1, 0, 1, 0, 0]) (F5_i1 h x1 x2 x3 v4 v5 v6 y17 u18_0 y25 u26_0) (F5_x1 h x1 x2 x3 v4 v5 v6 y17 u18_0) S o := by
  obtain ⟨h33, u32, hp33, z32, rfl⟩ := hI
  unfold F5_s1
  refine dec_bif (fun c34 => ?_) (fun c34 => ?_)
  · refine bind_opt fun y35 e35 => ?_
    obtain ⟨id35, off35, g35, cs35, ix35, at35, rfl⟩ := SlE.at (Heapy.sle (v := u26_0) (xs := y25) (enc := enc1000031) hp33 0 rfl (fun _ => rfl) (by decide)) e35
    have kc36 := (ai (At.one (P := Try.prog) (t := 3) (v := .int .i64 y35.2.1) at35 (by kernel_rfl) 1 rfl rfl) (ai ix35 (ai c34 trivial)))
    refine dec_bif (fun c36 => ?_) (fun c36 => ?_)
    · intro hr
      obtain rfl := Option.some.inj hr
      have hp37 : Heapy h h33 [⟨⟨none, 0, 0⟩, 3, 1, List.flatMap enc3 ([] : List Int)⟩, ⟨u26_0, 31, 4, List.flatMap enc1000031 y25⟩, ⟨u18_0, 3, 1, List.flatMap enc3 y17.2.2.1⟩, ⟨u32, 3, 1, List.flatMap enc3 l32⟩] := Heapy.nil hp33 3 1
      exact ⟨(F5_h1 x1 x2 x3 v4 v5 v6 y17 u18_0 y25 u26_0 h33 ⟨none, 0, 0⟩ (IntKind.i64.wrap (a28 + 1)) y35.1 y35.2.1 y35.2.2.2 ([] : List Int)), ⟨h33, ⟨none, 0, 0⟩, (Heapy.pick hp37 [1, 2, 0] (by decide)), Strict.nil, rfl⟩, pEnd_sound good (L := F5_L) (D := F5_D) (its := [.g, (.b true), .g, .g, .g, .g, (.ix id35 off35 g35), .g, (.ld (.int .i64 y35.2.1)), .g, .g, .g, (.b true), .g, .g, (.ix id35 off35 g35), (.ld (.agg #[.int .i64 y35.1, .int .i64 y35.2.1, .slice none 0 0, .int .i64 y35.2.2.2])), .g, .g, .g]) (ds := F5_m1_0) (ks := []) (e := .normal) (s2 := (F5_h1 x1 x2 x3 v4 v5 v6 y17 u18_0 y25 u26_0 h33 ⟨none, 0, 0⟩ (IntKind.i64.wrap (a28 + 1)) y35.1 y35.2.1 y35.2.2.2 ([] : List Int))) (hC := (ai (At.agg (P := Try.prog) (t := 31) (v := .agg #[.int .i64 y35.1, .int .i64 y35.2.1, .slice none 0 0, .int .i64 y35.2.2.2]) (m := 4) at35 (by kernel_rfl) (by kernel_rfl) 0 (by kernel_rfl) rfl) (ai ix35 (ai c36 kc36)))) (hd := F5_d1) (h := by kernel_rfl)⟩
    · intro hr
      obtain rfl := Option.some.inj hr
      exact ⟨(F5_h1 x1 x2 x3 v4 v5 v6 y17 u18_0 y25 u26_0 h33 u32 (IntKind.i64.wrap (a28 + 1)) a29 a30 a31 l32), ⟨h33, u32, (Heapy.pick hp33 [0, 1, 2] (by decide)), z32, rfl⟩, pEnd_sound good (L := F5_L) (D := F5_D) (its := [.g, (.b true), .g, .g, .g, .g, (.ix id35 off35 g35), .g, (.ld (.int .i64 y35.2.1)), .g, .g, .g, (.b false), .g, .g]) (ds := F5_m1_0) (ks := []) (e := .normal) (s2 := (F5_h1 x1 x2 x3 v4 v5 v6 y17 u18_0 y25 u26_0 h33 u32 (IntKind.i64.wrap (a28 + 1)) a29 a30 a31 l32)) (hC := (ai c36 kc36)) (hd := F5_d1) (h := by kernel_rfl)⟩
  · intro hr
    obtain rfl := Option.some.inj hr
    refine ⟨(.exit 0), (F5_x1_0 h x1 x2 x3 v4 v5 v6 y17 u18_0 h33 u32 ((a29, a30, a31, l32) : Int × Int × Int × (List Int))), (by intro hh; cases hh), ?_, pEnd_sound good (L := F5_L) (D := F5_D) (its := [.g, (.b false)]) (ds := F5_m1_1) (ks := []) (e := (.exit 0)) (s2 := (F5_x1_0 h x1 x2 x3 v4 v5 v6 y17 u18_0 h33 u32 ((a29, a30, a31, l32) : Int × Int × Int × (List Int)))) (hC := (ai c34 trivial)) (hd := F5_d1) (h := by kernel_rfl)⟩
    exact ⟨rfl, h33, u32, (Heapy.pick hp33 [1, 2] (by decide)), z32, rfl⟩
theorem F5_l1 (h : AHeap) (x1 : Int) (x2 : Int) (x3 : Bool) (v4 : Hd) (v5 : Hd) (v6 : Hd) (y17 : Int × Int × (List Int) × Int × Int) (u18_0 : Hd) (y25 : (List (Int × Int × Unit × Int))) (u26_0 : Hd) (x : Int × Int × Int × Int × (List Int)) (r : Int × Int × Int × (List Int)) (hl : loopO (fun (s : Int × Int × Int × Int × (List Int)) => F5_s1 y25 s.1 s.2.1 s.2.2.1 s.2.2.2.1 s.2.2.2.2) x = some r) (S : AS) (hI : (F5_i1 h x1 x2 x3 v4 v5 v6 y17 u18_0 y25 u26_0) x S) : ∃ e S', (F5_x1 h x1 x2 x3 v4 v5 v6 y17 u18_0) r e S' ∧ AWp Try.prog (.loop (codeOf Try.prog 5 [1, 1, 1, 1, 1, 1, 0, 1, 0, 0])) (Ends1 e S') S :=
  loop_rel (fun x S hI => F5_r1 h x1 x2 x3 v4 v5 v6 y17 u18_0 y25 u26_0 x.1 x.2.1 x.2.2.1 x.2.2.2.1 x.2.2.2.2 S hI) hl hI
def F5 (x1 : Int) (x2 : Int) (x3 : Bool) (l4 : List (Int × Int × Int × Int)) (l5 : List (Int × Int × Int × Int)) (l6 : List (Int × Int)) : Option (Bool) :=
  (Option.bind F11 fun y7 =>
  (bif (!y7) then
   (Option.bind F11 fun y10 =>
   some (y10))
  else
   (Option.bind (F12 x1 x2 x3 l4 l5 l6) fun y12 =>
   (bif (!y12) then
    (Option.bind F11 fun y15 =>
    some (y15))
   else
    (Option.bind (F21 x1 x2 x3 l4 l5 l6) fun y17 =>
    (Option.bind (F13 x1 x2 x3 l4 l5 l6) fun y20 =>
    (bif (y20.2.2.2.2 != 0) then
     (bif (y17.2.2.2.2 == y20.2.2.2.2) then
      some (y17.2.1 == 0)
     else
      some (false))
    else
     (Option.bind (F18 x1 x2 x3 l4 l5 l6) fun y25 =>
     (Option.bind (loopO (fun (s : Int × Int × Int × Int × (List Int)) => F5_s1 y25 s.1 s.2.1 s.2.2.1 s.2.2.2.1 s.2.2.2.2) (0, y20.1, y20.2.1, y20.2.2.2.1, y20.2.2.1)) fun y39 =>
     (bif decide (y39.2.1 > 256) then
      (bif (y17.2.2.2.2 == 14) then
       some (y17.2.1 == 0)
      else
       some (false))
     else
      (bif (y17.2.2.2.2 == 0) then
       (bif (y17.2.1 == y39.2.1) then
        (bif (y17.1 == y39.1) then
         (bif (y17.2.2.2.1 == y39.2.2.1) then
          (Option.bind (F17 x1 x2 x3 l4 l5 l6 y17.1 y17.2.1 y17.2.2.1 y17.2.2.2.1) fun y47 =>
          some (y47))
         else
          some (false))
        else
         some (false))
       else
        some (false))
      else
       some (false))))))))))))
set_option maxRecDepth 100000 in
theorem F5_spec (x1 : Int) (x2 : Int) (x3 : Bool) (l4 : List (Int × Int × Int × Int)) (l5 : List (Int × Int × Int × Int)) (l6 : List (Int × Int)) (v4 : Hd) (v5 : Hd) (v6 : Hd) (h : AHeap) (hw : h.wf) (hv4 : SlE E57 4 h (sv v4) l4) (hv5 : SlE E59 4 h (sv v5) l5) (hv6 : SlE E61 2 h (sv v6) l6) (r : Bool) : F5 x1 x2 x3 l4 l5 l6 = some r → ∃ (h' : AHeap), Heapy h h' [] ∧ ACalls Try.prog 5 [.agg #[.int .i64 x1, .int .i64 x2, .bool x3, (sv v4), (sv v5), (sv v6)]] h (fun v' h'' => v' = (.bool r : Value) ∧ h'' = h') := by
  unfold F5
  refine bind_opt fun y7 e7 => ?_
  obtain ⟨h8, q8, c8⟩ := F11_spec h hw _ e7
  have hp8 : Heapy h h8 [] := Heapy.call (Heapy.refl hw) q8
  have kc9 := (ai c8 trivial)
  refine dec_bif (fun c9 => ?_) (fun c9 => ?_)
  · refine bind_opt fun y10 e10 => ?_
    obtain ⟨h11, q11, c11⟩ := F11_spec h8 (Heapy.wf hp8) _ e10
    have hp11 : Heapy h h11 [] := Heapy.call hp8 q11
    intro hr
    obtain rfl := Option.some.inj hr
    exact ⟨h11, Heapy.pick hp11 [] (by decide), pFun_sound good tab_ok (f := 5) (its := [.g, .g, (.c (.bool y7) h8), .g, .g, .n, .n, .n, (.p true), (.b true), (.c (.bool y10) h11), .g]) (args := [.agg #[.int .i64 x1, .int .i64 x2, .bool x3, (sv v4), (sv v5), (sv v6)]]) (h := h) (h' := h11) (v := .bool y10) (hC := (ai c11 (ai l_t (ai c9 (ai (g_tf c9) (ai (g_tf c9) (ai (g_tf c9) kc9))))))) (hr := by kernel_rfl)⟩
  · refine bind_opt fun y12 e12 => ?_
    have kc14 := (ai c9 (ai (g_ff c9) (ai (F12_spec x1 x2 x3 l4 l5 l6 v4 v5 v6 h8 (SlE.mono hv4 (Heapy.sub hp8) (E57_mono (Heapy.sub hp8))) (SlE.mono hv5 (Heapy.sub hp8) (E59_mono (Heapy.sub hp8))) (SlE.mono hv6 (Heapy.sub hp8) (E61_mono (Heapy.sub hp8))) _ e12) (ai (g_ff c9) (ai (g_ff c9) kc9)))))
    refine dec_bif (fun c14 => ?_) (fun c14 => ?_)
    · refine bind_opt fun y15 e15 => ?_
      obtain ⟨h16, q16, c16⟩ := F11_spec h8 (Heapy.wf hp8) _ e15
      have hp16 : Heapy h h16 [] := Heapy.call hp8 q16
      intro hr
      obtain rfl := Option.some.inj hr
      exact ⟨h16, Heapy.pick hp16 [] (by decide), pFun_sound good tab_ok (f := 5) (its := [.g, .g, (.c (.bool y7) h8), .g, .g, (.w .g), (.w (.c (.bool y12) h8)), (.w .g), (.p false), (.b true), (.c (.bool y15) h16), .g]) (args := [.agg #[.int .i64 x1, .int .i64 x2, .bool x3, (sv v4), (sv v5), (sv v6)]]) (h := h) (h' := h16) (v := .bool y15) (hC := (ai c16 (ai c14 kc14))) (hr := by kernel_rfl)⟩
    · refine bind_opt fun y17 e17 => ?_
      obtain ⟨u18_0, h18, q18, zu18_0, c18⟩ := F21_spec x1 x2 x3 l4 l5 l6 v4 v5 v6 h8 (Heapy.wf hp8) (SlE.mono hv4 (Heapy.sub hp8) (E57_mono (Heapy.sub hp8))) (SlE.mono hv5 (Heapy.sub hp8) (E59_mono (Heapy.sub hp8))) (SlE.mono hv6 (Heapy.sub hp8) (E61_mono (Heapy.sub hp8))) _ e17
      have hp18 : Heapy h h18 [⟨u18_0, 3, 1, List.flatMap enc3 y17.2.2.1⟩] := Heapy.call hp8 q18
      refine bind_opt fun y20 e20 => ?_
      obtain ⟨u21_0, h21, q21, zu21_0, c21⟩ := F13_spec x1 x2 x3 l4 l5 l6 v4 v5 v6 h18 (Heapy.wf hp18) (SlE.mono hv4 (Heapy.sub hp18) (E57_mono (Heapy.sub hp18))) (SlE.mono hv5 (Heapy.sub hp18) (E59_mono (Heapy.sub hp18))) (SlE.mono hv6 (Heapy.sub hp18) (E61_mono (Heapy.sub hp18))) _ e20
      have hp21 : Heapy h h21 [⟨u21_0, 3, 1, List.flatMap enc3 y20.2.2.1⟩, ⟨u18_0, 3, 1, List.flatMap enc3 y17.2.2.1⟩] := Heapy.call hp18 q21
      have kc23 := (ai c21 (ai c18 (ai c14 kc14)))
      refine dec_bif (fun c23 => ?_) (fun c23 => ?_)
      · have kc24 := (ai c23 kc23)
        refine dec_bif (fun c24 => ?_) (fun c24 => ?_)
        · intro hr
          obtain rfl := Option.some.inj hr
          exact ⟨h21, Heapy.pick hp21 [] (by decide), pFun_sound good tab_ok (f := 5) (its := [.g, .g, (.c (.bool y7) h8), .g, .g, (.w .g), (.w (.c (.bool y12) h8)), (.w .g), (.p false), (.b false), .g, (.c (.tuple #[.agg #[.int .i64 y17.1, .int .i64 y17.2.1, (sv u18_0), .int .i64 y17.2.2.2.1], .int .i64 y17.2.2.2.2]) h18), .g, .g, .g, .g, .g, .g, .g, (.c (.tuple #[.agg #[.int .i64 y20.1, .int .i64 y20.2.1, (sv u21_0), .int .i64 y20.2.2.2.1], .int .i64 y20.2.2.2.2]) h21), .g, .g, .g, .g, .g, .g, .g, .g, (.b true), .g, .g, .g, .g, (.w .g), (.w .g), (.w .g), (.p true), .g]) (args := [.agg #[.int .i64 x1, .int .i64 x2, .bool x3, (sv v4), (sv v5), (sv v6)]]) (h := h) (h' := h21) (v := .bool (y17.2.1 == 0)) (hC := (ai c24 (ai (g_tt c24) (ai (g_tt c24) (ai (g_tt c24) kc24))))) (hr := by kernel_rfl)⟩
        · intro hr
          obtain rfl := Option.some.inj hr
          exact ⟨h21, Heapy.pick hp21 [] (by decide), pFun_sound good tab_ok (f := 5) (its := [.g, .g, (.c (.bool y7) h8), .g, .g, (.w .g), (.w (.c (.bool y12) h8)), (.w .g), (.p false), (.b false), .g, (.c (.tuple #[.agg #[.int .i64 y17.1, .int .i64 y17.2.1, (sv u18_0), .int .i64 y17.2.2.2.1], .int .i64 y17.2.2.2.2]) h18), .g, .g, .g, .g, .g, .g, .g, (.c (.tuple #[.agg #[.int .i64 y20.1, .int .i64 y20.2.1, (sv u21_0), .int .i64 y20.2.2.2.1], .int .i64 y20.2.2.2.2]) h21), .g, .g, .g, .g, .g, .g, .g, .g, (.b true), .g, .g, .g, .g, .n, .n, .n, (.p false), .g]) (args := [.agg #[.int .i64 x1, .int .i64 x2, .bool x3, (sv v4), (sv v5), (sv v6)]]) (h := h) (h' := h21) (v := .bool false) (hC := (ai c24 (ai (g_ft c24) (ai (g_ft c24) (ai (g_ft c24) kc24))))) (hr := by kernel_rfl)⟩
      · refine bind_opt fun y25 e25 => ?_
        obtain ⟨u26_0, h26, q26, zu26_0, c26⟩ := F18_spec x1 x2 x3 l4 l5 l6 v4 v5 v6 h21 (Heapy.wf hp21) (SlE.mono hv4 (Heapy.sub hp21) (E57_mono (Heapy.sub hp21))) (SlE.mono hv5 (Heapy.sub hp21) (E59_mono (Heapy.sub hp21))) (SlE.mono hv6 (Heapy.sub hp21) (E61_mono (Heapy.sub hp21))) _ e25
        have hp26 : Heapy h h26 [⟨u26_0, 31, 4, List.flatMap enc1000031 y25⟩, ⟨u21_0, 3, 1, List.flatMap enc3 y20.2.2.1⟩, ⟨u18_0, 3, 1, List.flatMap enc3 y17.2.2.1⟩] := Heapy.call hp21 q26
        refine bind_opt fun y39 e39 => ?_
        obtain ⟨ee39, SS39, hX39, hA39⟩ := F5_l1 h x1 x2 x3 v4 v5 v6 y17 u18_0 y25 u26_0 (0, y20.1, y20.2.1, y20.2.2.2.1, y20.2.2.1) y39 e39 (F5_h1 x1 x2 x3 v4 v5 v6 y17 u18_0 y25 u26_0 h26 u21_0 0 y20.1 y20.2.1 y20.2.2.2.1 y20.2.2.1) ⟨h26, u21_0, (Heapy.pick hp26 [0, 2, 1] (by decide)), zu21_0, rfl⟩
        obtain ⟨rfl, h40, w1_40, hp40, zw1_40, rfl⟩ := hX39
        have kc41 := (ai hA39 (ai (SlE.len (Heapy.sle (v := u26_0) (xs := y25) (enc := enc1000031) hp26 0 rfl (fun _ => rfl) (by decide))) (ai c26 (ai c23 kc23))))
        refine dec_bif (fun c41 => ?_) (fun c41 => ?_)
        · have kc42 := (ai c41 kc41)
          refine dec_bif (fun c42 => ?_) (fun c42 => ?_)
          · intro hr
            obtain rfl := Option.some.inj hr
            exact ⟨h40, Heapy.pick hp40 [] (by decide), pFun_sound good tab_ok (f := 5) (its := [.g, .g, (.c (.bool y7) h8), .g, .g, (.w .g), (.w (.c (.bool y12) h8)), (.w .g), (.p false), (.b false), .g, (.c (.tuple #[.agg #[.int .i64 y17.1, .int .i64 y17.2.1, (sv u18_0), .int .i64 y17.2.2.2.1], .int .i64 y17.2.2.2.2]) h18), .g, .g, .g, .g, .g, .g, .g, (.c (.tuple #[.agg #[.int .i64 y20.1, .int .i64 y20.2.1, (sv u21_0), .int .i64 y20.2.2.2.1], .int .i64 y20.2.2.2.2]) h21), .g, .g, .g, .g, .g, .g, .g, .g, (.b false), .g, (.c ((sv u26_0)) h26), .g, .g, (.ln y25.length), .g, (.l F5_m1_0 [] (.exit 0) (F5_x1_0 h x1 x2 x3 v4 v5 v6 y17 u18_0 h40 w1_40 y39)), .g, .g, .g, (.b true), .g, .g, .g, (.w .g), (.w .g), (.w .g), (.p true), .g]) (args := [.agg #[.int .i64 x1, .int .i64 x2, .bool x3, (sv v4), (sv v5), (sv v6)]]) (h := h) (h' := h40) (v := .bool (y17.2.1 == 0)) (hC := (ai c42 (ai (g_tt c42) (ai (g_tt c42) (ai (g_tt c42) kc42))))) (hr := by kernel_rfl)⟩
          · intro hr
            obtain rfl := Option.some.inj hr
            exact ⟨h40, Heapy.pick hp40 [] (by decide), pFun_sound good tab_ok (f := 5) (its := [.g, .g, (.c (.bool y7) h8), .g, .g, (.w .g), (.w (.c (.bool y12) h8)), (.w .g), (.p false), (.b false), .g, (.c (.tuple #[.agg #[.int .i64 y17.1, .int .i64 y17.2.1, (sv u18_0), .int .i64 y17.2.2.2.1], .int .i64 y17.2.2.2.2]) h18), .g, .g, .g, .g, .g, .g, .g, (.c (.tuple #[.agg #[.int .i64 y20.1, .int .i64 y20.2.1, (sv u21_0), .int .i64 y20.2.2.2.1], .int .i64 y20.2.2.2.2]) h21), .g, .g, .g, .g, .g, .g, .g, .g, (.b false), .g, (.c ((sv u26_0)) h26), .g, .g, (.ln y25.length), .g, (.l F5_m1_0 [] (.exit 0) (F5_x1_0 h x1 x2 x3 v4 v5 v6 y17 u18_0 h40 w1_40 y39)), .g, .g, .g, (.b true), .g, .g, .g, .n, .n, .n, (.p false), .g]) (args := [.agg #[.int .i64 x1, .int .i64 x2, .bool x3, (sv v4), (sv v5), (sv v6)]]) (h := h) (h' := h40) (v := .bool false) (hC := (ai c42 (ai (g_ft c42) (ai (g_ft c42) (ai (g_ft c42) kc42))))) (hr := by kernel_rfl)⟩
        · have kc43 := (ai c41 kc41)
          refine dec_bif (fun c43 => ?_) (fun c43 => ?_)
          · have kc44 := (ai c43 (ai (g_tt c43) (ai (g_tt c43) (ai (g_tt c43) (ai (g_tt c43) (ai (g_tt c43) kc43))))))
            refine dec_bif (fun c44 => ?_) (fun c44 => ?_)
            · have kc45 := (ai c44 (ai (g_tt c44) (ai (g_tt c44) (ai (g_tt c44) (ai (g_tt c44) (ai (g_tt c44) kc44))))))
              refine dec_bif (fun c45 => ?_) (fun c45 => ?_)
              · have kc46 := (ai c45 (ai (g_tt c45) (ai (g_tt c45) (ai (g_tt c45) (ai (g_tt c45) (ai (g_tt c45) kc45))))))
                refine dec_bif (fun c46 => ?_) (fun c46 => ?_)
                · refine bind_opt fun y47 e47 => ?_
                  obtain ⟨h48, q48, c48⟩ := F17_spec x1 x2 x3 l4 l5 l6 y17.1 y17.2.1 y17.2.2.1 y17.2.2.2.1 v4 v5 v6 u18_0 h40 (Heapy.wf hp40) (SlE.mono hv4 (Heapy.sub hp40) (E57_mono (Heapy.sub hp40))) (SlE.mono hv5 (Heapy.sub hp40) (E59_mono (Heapy.sub hp40))) (SlE.mono hv6 (Heapy.sub hp40) (E61_mono (Heapy.sub hp40))) (Heapy.sle (v := u18_0) (xs := y17.2.2.1) (enc := enc3) hp40 0 rfl (fun _ => rfl) (by decide)) _ e47
                  have hp48 : Heapy h h48 [⟨u18_0, 3, 1, List.flatMap enc3 y17.2.2.1⟩, ⟨w1_40, 3, 1, List.flatMap enc3 y39.2.2.2⟩] := Heapy.call hp40 q48
                  intro hr
                  obtain rfl := Option.some.inj hr
                  exact ⟨h48, Heapy.pick hp48 [] (by decide), pFun_sound good tab_ok (f := 5) (its := [.g, .g, (.c (.bool y7) h8), .g, .g, (.w .g), (.w (.c (.bool y12) h8)), (.w .g), (.p false), (.b false), .g, (.c (.tuple #[.agg #[.int .i64 y17.1, .int .i64 y17.2.1, (sv u18_0), .int .i64 y17.2.2.2.1], .int .i64 y17.2.2.2.2]) h18), .g, .g, .g, .g, .g, .g, .g, (.c (.tuple #[.agg #[.int .i64 y20.1, .int .i64 y20.2.1, (sv u21_0), .int .i64 y20.2.2.2.1], .int .i64 y20.2.2.2.2]) h21), .g, .g, .g, .g, .g, .g, .g, .g, (.b false), .g, (.c ((sv u26_0)) h26), .g, .g, (.ln y25.length), .g, (.l F5_m1_0 [] (.exit 0) (F5_x1_0 h x1 x2 x3 v4 v5 v6 y17 u18_0 h40 w1_40 y39)), .g, .g, .g, (.b false), .g, .g, .g, (.w .g), (.w .g), (.w .g), (.w .g), (.w .g), (.p true), .g, (.w .g), (.w .g), (.w .g), (.w .g), (.w .g), (.p true), .g, (.w .g), (.w .g), (.w .g), (.w .g), (.w .g), (.p true), .g, (.w .g), (.w .g), (.w (.c (.bool y47) h48)), (.p true), .g]) (args := [.agg #[.int .i64 x1, .int .i64 x2, .bool x3, (sv v4), (sv v5), (sv v6)]]) (h := h) (h' := h48) (v := .bool y47) (hC := (ai c46 (ai c48 (ai (g_tt c46) (ai (g_tt c46) (ai (g_tt c46) kc46)))))) (hr := by kernel_rfl)⟩
                · intro hr
                  obtain rfl := Option.some.inj hr
                  exact ⟨h40, Heapy.pick hp40 [] (by decide), pFun_sound good tab_ok (f := 5) (its := [.g, .g, (.c (.bool y7) h8), .g, .g, (.w .g), (.w (.c (.bool y12) h8)), (.w .g), (.p false), (.b false), .g, (.c (.tuple #[.agg #[.int .i64 y17.1, .int .i64 y17.2.1, (sv u18_0), .int .i64 y17.2.2.2.1], .int .i64 y17.2.2.2.2]) h18), .g, .g, .g, .g, .g, .g, .g, (.c (.tuple #[.agg #[.int .i64 y20.1, .int .i64 y20.2.1, (sv u21_0), .int .i64 y20.2.2.2.1], .int .i64 y20.2.2.2.2]) h21), .g, .g, .g, .g, .g, .g, .g, .g, (.b false), .g, (.c ((sv u26_0)) h26), .g, .g, (.ln y25.length), .g, (.l F5_m1_0 [] (.exit 0) (F5_x1_0 h x1 x2 x3 v4 v5 v6 y17 u18_0 h40 w1_40 y39)), .g, .g, .g, (.b false), .g, .g, .g, (.w .g), (.w .g), (.w .g), (.w .g), (.w .g), (.p true), .g, (.w .g), (.w .g), (.w .g), (.w .g), (.w .g), (.p true), .g, (.w .g), (.w .g), (.w .g), (.w .g), (.w .g), (.p true), .g, .n, .n, .n, (.p false), .g]) (args := [.agg #[.int .i64 x1, .int .i64 x2, .bool x3, (sv v4), (sv v5), (sv v6)]]) (h := h) (h' := h40) (v := .bool false) (hC := (ai c46 (ai (g_ft c46) (ai (g_ft c46) (ai (g_ft c46) kc46))))) (hr := by kernel_rfl)⟩
              · intro hr
                obtain rfl := Option.some.inj hr
                exact ⟨h40, Heapy.pick hp40 [] (by decide), pFun_sound good tab_ok (f := 5) (its := [.g, .g, (.c (.bool y7) h8), .g, .g, (.w .g), (.w (.c (.bool y12) h8)), (.w .g), (.p false), (.b false), .g, (.c (.tuple #[.agg #[.int .i64 y17.1, .int .i64 y17.2.1, (sv u18_0), .int .i64 y17.2.2.2.1], .int .i64 y17.2.2.2.2]) h18), .g, .g, .g, .g, .g, .g, .g, (.c (.tuple #[.agg #[.int .i64 y20.1, .int .i64 y20.2.1, (sv u21_0), .int .i64 y20.2.2.2.1], .int .i64 y20.2.2.2.2]) h21), .g, .g, .g, .g, .g, .g, .g, .g, (.b false), .g, (.c ((sv u26_0)) h26), .g, .g, (.ln y25.length), .g, (.l F5_m1_0 [] (.exit 0) (F5_x1_0 h x1 x2 x3 v4 v5 v6 y17 u18_0 h40 w1_40 y39)), .g, .g, .g, (.b false), .g, .g, .g, (.w .g), (.w .g), (.w .g), (.w .g), (.w .g), (.p true), .g, (.w .g), (.w .g), (.w .g), (.w .g), (.w .g), (.p true), .g, .n, .n, .n, .n, .n, (.p false), .g, .n, .n, .n, .g, .g]) (args := [.agg #[.int .i64 x1, .int .i64 x2, .bool x3, (sv v4), (sv v5), (sv v6)]]) (h := h) (h' := h40) (v := .bool false) (hC := (ai (g_ft l_f) (ai (g_ft l_f) (ai (g_ft l_f) (ai c45 (ai (g_ft c45) (ai (g_ft c45) (ai (g_ft c45) (ai (g_ft c45) (ai (g_ft c45) kc45)))))))))) (hr := by kernel_rfl)⟩
            · intro hr
              obtain rfl := Option.some.inj hr
              exact ⟨h40, Heapy.pick hp40 [] (by decide), pFun_sound good tab_ok (f := 5) (its := [.g, .g, (.c (.bool y7) h8), .g, .g, (.w .g), (.w (.c (.bool y12) h8)), (.w .g), (.p false), (.b false), .g, (.c (.tuple #[.agg #[.int .i64 y17.1, .int .i64 y17.2.1, (sv u18_0), .int .i64 y17.2.2.2.1], .int .i64 y17.2.2.2.2]) h18), .g, .g, .g, .g, .g, .g, .g, (.c (.tuple #[.agg #[.int .i64 y20.1, .int .i64 y20.2.1, (sv u21_0), .int .i64 y20.2.2.2.1], .int .i64 y20.2.2.2.2]) h21), .g, .g, .g, .g, .g, .g, .g, .g, (.b false), .g, (.c ((sv u26_0)) h26), .g, .g, (.ln y25.length), .g, (.l F5_m1_0 [] (.exit 0) (F5_x1_0 h x1 x2 x3 v4 v5 v6 y17 u18_0 h40 w1_40 y39)), .g, .g, .g, (.b false), .g, .g, .g, (.w .g), (.w .g), (.w .g), (.w .g), (.w .g), (.p true), .g, .n, .n, .n, .n, .n, (.p false), .g, .n, .n, .n, .n, .n, .g, .g, .n, .n, .n, .g, .g]) (args := [.agg #[.int .i64 x1, .int .i64 x2, .bool x3, (sv v4), (sv v5), (sv v6)]]) (h := h) (h' := h40) (v := .bool false) (hC := (ai (g_ft l_f) (ai (g_ft l_f) (ai (g_ft l_f) (ai (g_ft l_f) (ai (g_ft l_f) (ai (g_ft l_f) (ai (g_ft l_f) (ai (g_ft l_f) (ai c44 (ai (g_ft c44) (ai (g_ft c44) (ai (g_ft c44) (ai (g_ft c44) (ai (g_ft c44) kc44))))))))))))))) (hr := by kernel_rfl)⟩
          · intro hr
            obtain rfl := Option.some.inj hr
            exact ⟨h40, Heapy.pick hp40 [] (by decide), pFun_sound good tab_ok (f := 5) (its := [.g, .g, (.c (.bool y7) h8), .g, .g, (.w .g), (.w (.c (.bool y12) h8)), (.w .g), (.p false), (.b false), .g, (.c (.tuple #[.agg #[.int .i64 y17.1, .int .i64 y17.2.1, (sv u18_0), .int .i64 y17.2.2.2.1], .int .i64 y17.2.2.2.2]) h18), .g, .g, .g, .g, .g, .g, .g, (.c (.tuple #[.agg #[.int .i64 y20.1, .int .i64 y20.2.1, (sv u21_0), .int .i64 y20.2.2.2.1], .int .i64 y20.2.2.2.2]) h21), .g, .g, .g, .g, .g, .g, .g, .g, (.b false), .g, (.c ((sv u26_0)) h26), .g, .g, (.ln y25.length), .g, (.l F5_m1_0 [] (.exit 0) (F5_x1_0 h x1 x2 x3 v4 v5 v6 y17 u18_0 h40 w1_40 y39)), .g, .g, .g, (.b false), .g, .g, .g, .n, .n, .n, .n, .n, (.p false), .g, .n, .n, .n, .n, .n, .g, .g, .n, .n, .n, .n, .n, .g, .g, .n, .n, .n, .g, .g]) (args := [.agg #[.int .i64 x1, .int .i64 x2, .bool x3, (sv v4), (sv v5), (sv v6)]]) (h := h) (h' := h40) (v := .bool false) (hC := (ai (g_ft l_f) (ai (g_ft l_f) (ai (g_ft l_f) (ai (g_ft l_f) (ai (g_ft l_f) (ai (g_ft l_f) (ai (g_ft l_f) (ai (g_ft l_f) (ai (g_ft l_f) (ai (g_ft l_f) (ai (g_ft l_f) (ai (g_ft l_f) (ai (g_ft l_f) (ai c43 (ai (g_ft c43) (ai (g_ft c43) (ai (g_ft c43) (ai (g_ft c43) (ai (g_ft c43) kc43)))))))))))))))))))) (hr := by kernel_rfl)⟩
set_option maxRecDepth 100000 in
theorem F5_law (H : ∀ (x1 : Int) (x2 : Int) (x3 : Bool) (l4 : List (Int × Int × Int × Int)) (l5 : List (Int × Int × Int × Int)) (l6 : List (Int × Int)), (Lit.int .i64 x1).wf = true → (Lit.int .i64 x2).wf = true → (l4.length ≤ maxLen ∧ l4.length * 32 ≤ reachBytes) → (∀ y ∈ l4, W57 y) → (l5.length ≤ maxLen ∧ l5.length * 32 ≤ reachBytes) → (∀ y ∈ l5, W59 y) → (l6.length ≤ maxLen ∧ l6.length * 16 ≤ reachBytes) → (∀ y ∈ l6, W61 y) → F5 x1 x2 x3 l4 l5 l6 = some true) : Law Try.prog 5 10 [26] := by
  intro s us hwf hro hT0
  obtain ⟨u0, vs0, rfl, t0, hT1⟩ := wts_cons hT0
  obtain ⟨cs0, rfl, k0⟩ := wtv_aggS 4 (ks := [.int .i64, .int .i64, .bool, .slice 57, .slice 59, .slice 61]) (by kernel_rfl) (by kernel_rfl) t0
  obtain ⟨x1, r_x1, rfl, w_x1, k0_0⟩ := sq_int k0
  obtain ⟨x2, r_x2, rfl, w_x2, k0_1⟩ := sq_int k0_0
  obtain ⟨x3, r_x3, rfl, k0_2⟩ := sq_bool k0_1
  obtain ⟨v4, r_l4, rfl, q_l4, k0_3⟩ := sq_slice k0_2
  obtain ⟨l4, a_l4, m_l4, w_l4⟩ := q_l4 E57 W57 4 (by kernel_rfl) fun n cs H => E57_wt H
  obtain ⟨v5, r_l5, rfl, q_l5, k0_4⟩ := sq_slice k0_3
  obtain ⟨l5, a_l5, m_l5, w_l5⟩ := q_l5 E59 W59 4 (by kernel_rfl) fun n cs H => E59_wt H
  obtain ⟨v6, r_l6, rfl, q_l6, k0_5⟩ := sq_slice k0_4
  obtain ⟨l6, a_l6, m_l6, w_l6⟩ := q_l6 E61 W61 2 (by kernel_rfl) fun n cs H => E61_wt H
  obtain rfl := sq_nil k0_5
  obtain rfl := wts_nil hT1
  obtain ⟨h2, _, hc⟩ := F5_spec x1 x2 x3 l4 l5 l6 v4 v5 v6 s hwf a_l4 a_l5 a_l6 _ (H x1 x2 x3 l4 l5 l6 w_x1 w_x2 m_l4 w_l4 m_l5 w_l5 m_l6 w_l6)
  refine (hc).mono ?_
  rintro v h' ⟨rfl, rfl⟩
  rfl
/-! 67 jacquard/jacquardref30.Nodes -/
def F67 (x1 : Int) : Int :=
  (if 8192 < (if 0 > x1 then 0 else x1) then 8192 else (if 0 > x1 then 0 else x1))
set_option maxRecDepth 100000 in
theorem F67_spec (x1 : Int) (h : AHeap)  (r : Int) : F67 x1 = r → ACalls Try.prog 67 [.int .i64 x1] h (fun v' h'' => v' = (.int .i64 r : Value) ∧ h'' = h) := by
  unfold F67
  intro hr
  subst hr
  exact pFun_sound good tab_ok (f := 67) (its := [.g, .g, .g, .g, .g]) (args := [.int .i64 x1]) (h := h) (h' := h) (v := .int .i64 (if 8192 < (if 0 > x1 then 0 else x1) then 8192 else (if 0 > x1 then 0 else x1))) (hC := trivial) (hr := by kernel_rfl)
/-! 55 jacquard/jacquardref30.Counts -/
def F55 (x1 : Int) (x2 : Int) (x3 : Int) (x4 : Int) (x5 : Int) : Bool :=
  (bif decide (x2 ≥ 0) then
   (bif decide (x2 < (F67 x1)) then
    (bif decide (x3 ≥ 0) then
     (decide (x3 < (F67 x1)))
    else
     false)
   else
    false)
  else
   false)
set_option maxRecDepth 100000 in
theorem F55_spec (x1 : Int) (x2 : Int) (x3 : Int) (x4 : Int) (x5 : Int) (h : AHeap)  (r : Bool) : F55 x1 x2 x3 x4 x5 = r → ACalls Try.prog 55 [.int .i64 x1, .agg #[.int .i64 x2, .int .i64 x3, .int .i64 x4, .int .i64 x5]] h (fun v' h'' => v' = (.bool r : Value) ∧ h'' = h) := by
  unfold F55
  refine dec_bif (fun c6 => ?_) (fun c6 => ?_)
  · have kc8 := (ai c6 (ai (g_tt c6) (ai (show AKeep h h from (AHeap.sub_refl h)) (ai (F67_spec x1 h _ rfl) (ai (g_tt c6) (ai (g_tt c6) (ai (g_tt c6) (ai (g_tt c6) trivial))))))))
    refine dec_bif (fun c8 => ?_) (fun c8 => ?_)
    · have kc9 := (ai c8 (ai (g_tt c8) (ai (g_tt c8) (ai (g_tt c8) kc8))))
      refine dec_bif (fun c9 => ?_) (fun c9 => ?_)
      · intro hr
        subst hr
        exact pFun_sound good tab_ok (f := 55) (its := [.g, .g, .g, .g, .g, .g, (.w .g), (.w .g), (.w .g), (.w (.c (.int .i64 (F67 x1)) h)), (.w .g), (.p true), .g, (.w .g), (.w .g), (.w .g), (.p true), .g, (.w .g), (.w .g), (.w .g), (.w (.c (.int .i64 (F67 x1)) h)), (.w .g), (.p true), .g]) (args := [.int .i64 x1, .agg #[.int .i64 x2, .int .i64 x3, .int .i64 x4, .int .i64 x5]]) (h := h) (h' := h) (v := .bool (decide (x3 < (F67 x1)))) (hC := (ai c9 (ai (g_tt c9) (ai (show AKeep h h from (AHeap.sub_refl h)) (ai (F67_spec x1 h _ rfl) (ai (g_tt c9) (ai (g_tt c9) (ai (g_tt c9) (ai (g_tt c9) kc9))))))))) (hr := by kernel_rfl)
      · intro hr
        subst hr
        exact pFun_sound good tab_ok (f := 55) (its := [.g, .g, .g, .g, .g, .g, (.w .g), (.w .g), (.w .g), (.w (.c (.int .i64 (F67 x1)) h)), (.w .g), (.p true), .g, (.w .g), (.w .g), (.w .g), (.p true), .g, .n, .n, .n, .n, .n, (.p false), .g]) (args := [.int .i64 x1, .agg #[.int .i64 x2, .int .i64 x3, .int .i64 x4, .int .i64 x5]]) (h := h) (h' := h) (v := .bool false) (hC := (ai c9 (ai (g_ft c9) (ai (g_ft c9) (ai (g_ft c9) (ai (g_ft c9) (ai (g_ft c9) kc9))))))) (hr := by kernel_rfl)
    · intro hr
      subst hr
      exact pFun_sound good tab_ok (f := 55) (its := [.g, .g, .g, .g, .g, .g, (.w .g), (.w .g), (.w .g), (.w (.c (.int .i64 (F67 x1)) h)), (.w .g), (.p true), .g, .n, .n, .n, (.p false), .g, .n, .n, .n, .n, .n, .g, .g]) (args := [.int .i64 x1, .agg #[.int .i64 x2, .int .i64 x3, .int .i64 x4, .int .i64 x5]]) (h := h) (h' := h) (v := .bool false) (hC := (ai (g_ft l_f) (ai (g_ft l_f) (ai (g_ft l_f) (ai (g_ft l_f) (ai (g_ft l_f) (ai c8 (ai (g_ft c8) (ai (g_ft c8) (ai (g_ft c8) kc8)))))))))) (hr := by kernel_rfl)
  · intro hr
    subst hr
    exact pFun_sound good tab_ok (f := 55) (its := [.g, .g, .g, .g, .g, .g, .n, .n, .n, .n, .n, (.p false), .g, .n, .n, .n, .g, .g, .n, .n, .n, .n, .n, .g, .g]) (args := [.int .i64 x1, .agg #[.int .i64 x2, .int .i64 x3, .int .i64 x4, .int .i64 x5]]) (h := h) (h' := h) (v := .bool false) (hC := (ai (g_ft l_f) (ai (g_ft l_f) (ai (g_ft l_f) (ai (g_ft l_f) (ai (g_ft l_f) (ai (g_ft l_f) (ai (g_ft l_f) (ai (g_ft l_f) (ai c6 (ai (g_ft c6) (ai (g_ft c6) (ai (g_ft c6) (ai (g_ft c6) (ai (g_ft c6) trivial))))))))))))))) (hr := by kernel_rfl)
/-! 56 jacquard/jacquardref30.Weight -/
def F56__1 (x3 : Int) : Int := (if 1048576 < (if (-1048576) > x3 then (-1048576) else x3) then 1048576 else (if (-1048576) > x3 then (-1048576) else x3))
def F56__2 (x4 : Int) : Int := (if 1048576 < (if (-1048576) > x4 then (-1048576) else x4) then 1048576 else (if (-1048576) > x4 then (-1048576) else x4))
def F56__3 (x4 : Int) (x5 : Int) : Int := (IntKind.i64.wrap ((if 256 < (if 0 > x5 then 0 else x5) then 256 else (if 0 > x5 then 0 else x5)) * (F56__2 x4)))
def F56 (x1 : Int) (x2 : Int) (x3 : Int) (x4 : Int) (x5 : Int) : Int :=
  (IntKind.i64.wrap ((F56__1 x3) - (F56__3 x4 x5)))
set_option maxRecDepth 100000 in
theorem F56_spec (x1 : Int) (x2 : Int) (x3 : Int) (x4 : Int) (x5 : Int) (h : AHeap)  (r : Int) : F56 x1 x2 x3 x4 x5 = r → ACalls Try.prog 56 [.agg #[.int .i64 x1, .int .i64 x2, .int .i64 x3, .int .i64 x4], .int .i64 x5] h (fun v' h'' => v' = (.int .i64 r : Value) ∧ h'' = h) := by
  unfold F56
  intro hr
  subst hr
  exact pFun_sound good tab_ok (f := 56) (its := [.g, .g, .g, .g, .g, .g, .g, .g, .g, .g, .g, .g, .g, .g, .g, .g, .g, .g, .g, .g, .g, .g, .g]) (args := [.agg #[.int .i64 x1, .int .i64 x2, .int .i64 x3, .int .i64 x4], .int .i64 x5]) (h := h) (h' := h) (v := .int .i64 (IntKind.i64.wrap ((F56__1 x3) - (F56__3 x4 x5)))) (hC := trivial) (hr := by kernel_rfl)
end
end Go.Proofs.Ytimeninncpmaeaa.Abs
