/-
  Contracts, written by program: for each function what its call yields, and that it yields it.
-/
import Derived.Test.YtimeninncpmaeaaBea
namespace Go.Proofs.Ytimeninncpmaeaa.Abs
open Go
set_option linter.unusedVariables false
set_option linter.unusedSimpArgs false

noncomputable section
/-! 32 jacquard/jacquardref28.Small -/
def F32_L : List Nat := [3]
def F32_D : List (Nat × List (Nat × Nat)) := []
def F32_m1_2 : List Bool := (true :: false :: false :: false :: (rp 64 true []))
def F32_m1_1 : List Bool := (true :: false :: false :: false :: (rp 7 true (false :: false :: (rp 55 true []))))
def F32_m1_0 : List Bool := (rp 6 true (false :: (rp 61 true [])))
def F32_s1 (l4 : List (Int × Int × Int × Int)) (a9 : Int) : Option (Int ⊕ Nat) :=
  (bif decide (a9 < (l4.length : Int)) then
   (Option.bind (at? l4 a9) fun y11 =>
   (bif decide (y11.2.2.1 > 60) then
    some (.inr 0)
   else
    (bif decide (y11.2.2.2 > 20) then
     some (.inr 0)
    else
     some (.inl (IntKind.i64.wrap (a9 + 1))))))
  else
   some (.inr 1))
def F32_h1 (h : AHeap) (x1 : Int) (x2 : Int) (x3 : Bool) (l4 : List (Int × Int × Int × Int)) (v4 : Hd) (v5 : Hd) (v6 : Hd) (x7 : Int) (x8 : Int)  (a9 : Int) : AS := ⟨(junk :: (.int .i64 x7) :: (.int .i64 x8) :: (.pointer (some ⟨3, 0, none⟩)) :: (rp 7 junk ((.int .i64 (l4.length : Int)) :: (.int .i64 a9) :: (rp 55 junk [])))), [(3, [.int .i64 x1, .int .i64 x2, .bool x3, (sv v4), (sv v5), (sv v6)])], h⟩
theorem F32_d1 : drawsOk F32_D (codeOf Try.prog 32 [1, 0, 1, 0, 0]) = true := by kernel_rfl
def F32_x1_0 (h : AHeap) (x1 : Int) (x2 : Int) (x3 : Bool) (v4 : Hd) (v5 : Hd) (v6 : Hd) (x7 : Int) (x8 : Int)  (r : Nat) : AS := ⟨(rp 6 junk ((.bool false) :: (rp 61 junk []))), [], h⟩
def F32_x1_1 (h : AHeap) (x1 : Int) (x2 : Int) (x3 : Bool) (v4 : Hd) (v5 : Hd) (v6 : Hd) (x7 : Int) (x8 : Int)  (r : Nat) : AS := ⟨(junk :: (.int .i64 x7) :: (.int .i64 x8) :: (.pointer (some ⟨3, 0, none⟩)) :: (rp 64 junk [])), [(3, [.int .i64 x1, .int .i64 x2, .bool x3, (sv v4), (sv v5), (sv v6)])], h⟩
def F32_x1 (h : AHeap) (x1 : Int) (x2 : Int) (x3 : Bool) (v4 : Hd) (v5 : Hd) (v6 : Hd) (x7 : Int) (x8 : Int) (r : Nat) : Exit × AS := (bif Nat.beq r 0 then (.ret, (F32_x1_0 h x1 x2 x3 v4 v5 v6 x7 x8 r)) else ((.exit 0), (F32_x1_1 h x1 x2 x3 v4 v5 v6 x7 x8 r)))
set_option maxRecDepth 100000 in
theorem F32_r1 (h : AHeap) (x1 : Int) (x2 : Int) (x3 : Bool) (l4 : List (Int × Int × Int × Int)) (v4 : Hd) (hv4 : SlE E57 4 h (sv v4) l4) (v5 : Hd) (v6 : Hd) (x7 : Int) (x8 : Int) (a9 : Int) (o : Int ⊕ Nat) : F32_s1 l4 a9 = some o → RdF Try.prog (codeOf Try.prog 32 [1, 0, 1, 0, 0]) (fun (s : Int) => (F32_h1 h x1 x2 x3 l4 v4 v5 v6 x7 x8 s)) (F32_x1 h x1 x2 x3 v4 v5 v6 x7 x8) (F32_h1 h x1 x2 x3 l4 v4 v5 v6 x7 x8 a9) o := by
  unfold F32_s1
  refine dec_bif (fun c10 => ?_) (fun c10 => ?_)
  · refine bind_opt fun y11 e11 => ?_
    obtain ⟨id11, off11, g11, cs11, ix11, at11, rfl⟩ := SlE.at hv4 e11
    have kc12 := (ai (At.one (P := Try.prog) (t := 3) (v := .int .i64 y11.2.2.1) at11 (by kernel_rfl) 2 rfl rfl) (ai ix11 (ai c10 trivial)))
    refine dec_bif (fun c12 => ?_) (fun c12 => ?_)
    · intro hr
      obtain rfl := Option.some.inj hr
      show AWp Try.prog _ (Ends1 ((F32_x1 h x1 x2 x3 v4 v5 v6 x7 x8) (0 : Nat)).1 ((F32_x1 h x1 x2 x3 v4 v5 v6 x7 x8) (0 : Nat)).2) _
      exact pEnd_sound good (L := F32_L) (D := F32_D) (its := [.g, (.b true), .g, .g, .g, .g, .g, (.ix id11 off11 g11), .g, (.ld (.int .i64 y11.2.2.1)), .g, .g, .n, .n, .n, .n, .n, .n, .n, (.p true), (.b true), .g]) (ds := F32_m1_0) (ks := [3]) (e := ((F32_x1 h x1 x2 x3 v4 v5 v6 x7 x8) (0 : Nat)).1) (s2 := ((F32_x1 h x1 x2 x3 v4 v5 v6 x7 x8) (0 : Nat)).2) (hC := (ai l_t (ai c12 (ai (g_tf c12) (ai (g_tf c12) (ai (g_tf c12) (ai (g_tf c12) (ai (g_tf c12) (ai (g_tf c12) (ai (g_tf c12) kc12)))))))))) (hd := F32_d1) (h := by kernel_rfl)
    · have kc13 := (ai c12 (ai (g_ff c12) (ai (At.one (P := Try.prog) (t := 3) (v := .int .i64 y11.2.2.2) at11 (by kernel_rfl) 3 rfl rfl) (ai (g_ff c12) (ai (g_ff c12) (ai ix11 (ai (g_ff c12) (ai (g_ff c12) (ai (g_ff c12) (ai (g_ff c12) kc12))))))))))
      refine dec_bif (fun c13 => ?_) (fun c13 => ?_)
      · intro hr
        obtain rfl := Option.some.inj hr
        show AWp Try.prog _ (Ends1 ((F32_x1 h x1 x2 x3 v4 v5 v6 x7 x8) (0 : Nat)).1 ((F32_x1 h x1 x2 x3 v4 v5 v6 x7 x8) (0 : Nat)).2) _
        exact pEnd_sound good (L := F32_L) (D := F32_D) (its := [.g, (.b true), .g, .g, .g, .g, .g, (.ix id11 off11 g11), .g, (.ld (.int .i64 y11.2.2.1)), .g, .g, (.w .g), (.w .g), (.w .g), (.w (.ix id11 off11 g11)), (.w .g), (.w (.ld (.int .i64 y11.2.2.2))), (.w .g), (.p false), (.b true), .g]) (ds := F32_m1_0) (ks := [3]) (e := ((F32_x1 h x1 x2 x3 v4 v5 v6 x7 x8) (0 : Nat)).1) (s2 := ((F32_x1 h x1 x2 x3 v4 v5 v6 x7 x8) (0 : Nat)).2) (hC := (ai c13 kc13)) (hd := F32_d1) (h := by kernel_rfl)
      · intro hr
        obtain rfl := Option.some.inj hr
        show AWp Try.prog _ (Ends1 .normal (F32_h1 h x1 x2 x3 l4 v4 v5 v6 x7 x8 (IntKind.i64.wrap (a9 + 1)))) _
        exact pEnd_sound good (L := F32_L) (D := F32_D) (its := [.g, (.b true), .g, .g, .g, .g, .g, (.ix id11 off11 g11), .g, (.ld (.int .i64 y11.2.2.1)), .g, .g, (.w .g), (.w .g), (.w .g), (.w (.ix id11 off11 g11)), (.w .g), (.w (.ld (.int .i64 y11.2.2.2))), (.w .g), (.p false), (.b false), .g, .g]) (ds := F32_m1_1) (ks := []) (e := .normal) (s2 := (F32_h1 h x1 x2 x3 l4 v4 v5 v6 x7 x8 (IntKind.i64.wrap (a9 + 1)))) (hC := (ai c13 kc13)) (hd := F32_d1) (h := by kernel_rfl)
  · intro hr
    obtain rfl := Option.some.inj hr
    show AWp Try.prog _ (Ends1 ((F32_x1 h x1 x2 x3 v4 v5 v6 x7 x8) (1 : Nat)).1 ((F32_x1 h x1 x2 x3 v4 v5 v6 x7 x8) (1 : Nat)).2) _
    exact pEnd_sound good (L := F32_L) (D := F32_D) (its := [.g, (.b false)]) (ds := F32_m1_2) (ks := []) (e := ((F32_x1 h x1 x2 x3 v4 v5 v6 x7 x8) (1 : Nat)).1) (s2 := ((F32_x1 h x1 x2 x3 v4 v5 v6 x7 x8) (1 : Nat)).2) (hC := (ai c10 trivial)) (hd := F32_d1) (h := by kernel_rfl)
theorem F32_l1_0 (h : AHeap) (x1 : Int) (x2 : Int) (x3 : Bool) (l4 : List (Int × Int × Int × Int)) (v4 : Hd) (hv4 : SlE E57 4 h (sv v4) l4) (v5 : Hd) (v6 : Hd) (x7 : Int) (x8 : Int) (x : Int) (r : Nat) (hl : loopO (fun (s : Int) => F32_s1 l4 s) x = some r) (q0 : Nat.beq r 0 = true) : AWp Try.prog (.loop (codeOf Try.prog 32 [1, 0, 1, 0, 0])) (Ends1 .ret (F32_x1_0 h x1 x2 x3 v4 v5 v6 x7 x8 r)) ((fun (s : Int) => (F32_h1 h x1 x2 x3 l4 v4 v5 v6 x7 x8 s)) x) := by
  have k := loop_fun (P := Try.prog) (c := (codeOf Try.prog 32 [1, 0, 1, 0, 0])) (step := (fun (s : Int) => F32_s1 l4 s)) (hd := (fun (s : Int) => (F32_h1 h x1 x2 x3 l4 v4 v5 v6 x7 x8 s))) (X := (F32_x1 h x1 x2 x3 v4 v5 v6 x7 x8)) (by intro t; unfold F32_x1; cases Nat.beq t 0 <;> (intro h; cases h)) (fun x => F32_r1 h x1 x2 x3 l4 v4 hv4 v5 v6 x7 x8 x) hl
  simp only [F32_x1, q0, cond_true, cond_false] at k
  exact k
theorem F32_l1_1 (h : AHeap) (x1 : Int) (x2 : Int) (x3 : Bool) (l4 : List (Int × Int × Int × Int)) (v4 : Hd) (hv4 : SlE E57 4 h (sv v4) l4) (v5 : Hd) (v6 : Hd) (x7 : Int) (x8 : Int) (x : Int) (r : Nat) (hl : loopO (fun (s : Int) => F32_s1 l4 s) x = some r) (q0 : Nat.beq r 0 = false) : AWp Try.prog (.loop (codeOf Try.prog 32 [1, 0, 1, 0, 0])) (Ends1 (.exit 0) (F32_x1_1 h x1 x2 x3 v4 v5 v6 x7 x8 r)) ((fun (s : Int) => (F32_h1 h x1 x2 x3 l4 v4 v5 v6 x7 x8 s)) x) := by
  have k := loop_fun (P := Try.prog) (c := (codeOf Try.prog 32 [1, 0, 1, 0, 0])) (step := (fun (s : Int) => F32_s1 l4 s)) (hd := (fun (s : Int) => (F32_h1 h x1 x2 x3 l4 v4 v5 v6 x7 x8 s))) (X := (F32_x1 h x1 x2 x3 v4 v5 v6 x7 x8)) (by intro t; unfold F32_x1; cases Nat.beq t 0 <;> (intro h; cases h)) (fun x => F32_r1 h x1 x2 x3 l4 v4 hv4 v5 v6 x7 x8 x) hl
  simp only [F32_x1, q0, cond_true, cond_false] at k
  exact k
def F32_m2_2 : List Bool := (true :: false :: false :: false :: (rp 64 true []))
def F32_m2_1 : List Bool := (true :: false :: false :: false :: (rp 30 true (false :: false :: (rp 32 true []))))
def F32_m2_0 : List Bool := (rp 6 true (false :: (rp 61 true [])))
def F32_s2 (l6 : List (Int × Int)) (a16 : Int) : Option (Int ⊕ Nat) :=
  (bif decide (a16 < (l6.length : Int)) then
   (Option.bind (at? l6 a16) fun y18 =>
   (bif decide (y18.2 > 20) then
    some (.inr 0)
   else
    some (.inl (IntKind.i64.wrap (a16 + 1)))))
  else
   some (.inr 1))
def F32_h2 (h : AHeap) (x1 : Int) (x2 : Int) (x3 : Bool) (v4 : Hd) (v5 : Hd) (l6 : List (Int × Int)) (v6 : Hd) (x7 : Int) (x8 : Int)  (a16 : Int) : AS := ⟨(junk :: (.int .i64 x7) :: (.int .i64 x8) :: (.pointer (some ⟨3, 0, none⟩)) :: (rp 30 junk ((.int .i64 (l6.length : Int)) :: (.int .i64 a16) :: (rp 32 junk [])))), [(3, [.int .i64 x1, .int .i64 x2, .bool x3, (sv v4), (sv v5), (sv v6)])], h⟩
theorem F32_d2 : drawsOk F32_D (codeOf Try.prog 32 [1, 1, 0, 1, 0, 0]) = true := by kernel_rfl
def F32_x2_0 (h : AHeap) (x1 : Int) (x2 : Int) (x3 : Bool) (v4 : Hd) (v5 : Hd) (v6 : Hd) (x7 : Int) (x8 : Int)  (r : Nat) : AS := ⟨(rp 6 junk ((.bool false) :: (rp 61 junk []))), [], h⟩
def F32_x2_1 (h : AHeap) (x1 : Int) (x2 : Int) (x3 : Bool) (v4 : Hd) (v5 : Hd) (v6 : Hd) (x7 : Int) (x8 : Int)  (r : Nat) : AS := ⟨(junk :: (.int .i64 x7) :: (.int .i64 x8) :: (.pointer (some ⟨3, 0, none⟩)) :: (rp 64 junk [])), [(3, [.int .i64 x1, .int .i64 x2, .bool x3, (sv v4), (sv v5), (sv v6)])], h⟩
def F32_x2 (h : AHeap) (x1 : Int) (x2 : Int) (x3 : Bool) (v4 : Hd) (v5 : Hd) (v6 : Hd) (x7 : Int) (x8 : Int) (r : Nat) : Exit × AS := (bif Nat.beq r 0 then (.ret, (F32_x2_0 h x1 x2 x3 v4 v5 v6 x7 x8 r)) else ((.exit 2), (F32_x2_1 h x1 x2 x3 v4 v5 v6 x7 x8 r)))
set_option maxRecDepth 100000 in
theorem F32_r2 (h : AHeap) (x1 : Int) (x2 : Int) (x3 : Bool) (v4 : Hd) (v5 : Hd) (l6 : List (Int × Int)) (v6 : Hd) (hv6 : SlE E61 2 h (sv v6) l6) (x7 : Int) (x8 : Int) (a16 : Int) (o : Int ⊕ Nat) : F32_s2 l6 a16 = some o → RdF Try.prog (codeOf Try.prog 32 [1, 1, 0, 1, 0, 0]) (fun (s : Int) => (F32_h2 h x1 x2 x3 v4 v5 l6 v6 x7 x8 s)) (F32_x2 h x1 x2 x3 v4 v5 v6 x7 x8) (F32_h2 h x1 x2 x3 v4 v5 l6 v6 x7 x8 a16) o := by
  unfold F32_s2
  refine dec_bif (fun c17 => ?_) (fun c17 => ?_)
  · refine bind_opt fun y18 e18 => ?_
    obtain ⟨id18, off18, g18, cs18, ix18, at18, rfl⟩ := SlE.at hv6 e18
    have kc19 := (ai (At.one (P := Try.prog) (t := 3) (v := .int .i64 y18.2) at18 (by kernel_rfl) 1 rfl rfl) (ai ix18 (ai c17 trivial)))
    refine dec_bif (fun c19 => ?_) (fun c19 => ?_)
    · intro hr
      obtain rfl := Option.some.inj hr
      show AWp Try.prog _ (Ends1 ((F32_x2 h x1 x2 x3 v4 v5 v6 x7 x8) (0 : Nat)).1 ((F32_x2 h x1 x2 x3 v4 v5 v6 x7 x8) (0 : Nat)).2) _
      exact pEnd_sound good (L := F32_L) (D := F32_D) (its := [.g, (.b true), .g, .g, .g, .g, .g, (.ix id18 off18 g18), .g, (.ld (.int .i64 y18.2)), .g, (.b true), .g]) (ds := F32_m2_0) (ks := [3]) (e := ((F32_x2 h x1 x2 x3 v4 v5 v6 x7 x8) (0 : Nat)).1) (s2 := ((F32_x2 h x1 x2 x3 v4 v5 v6 x7 x8) (0 : Nat)).2) (hC := (ai c19 kc19)) (hd := F32_d2) (h := by kernel_rfl)
    · intro hr
      obtain rfl := Option.some.inj hr
      show AWp Try.prog _ (Ends1 .normal (F32_h2 h x1 x2 x3 v4 v5 l6 v6 x7 x8 (IntKind.i64.wrap (a16 + 1)))) _
      exact pEnd_sound good (L := F32_L) (D := F32_D) (its := [.g, (.b true), .g, .g, .g, .g, .g, (.ix id18 off18 g18), .g, (.ld (.int .i64 y18.2)), .g, (.b false), .g, .g]) (ds := F32_m2_1) (ks := []) (e := .normal) (s2 := (F32_h2 h x1 x2 x3 v4 v5 l6 v6 x7 x8 (IntKind.i64.wrap (a16 + 1)))) (hC := (ai c19 kc19)) (hd := F32_d2) (h := by kernel_rfl)
  · intro hr
    obtain rfl := Option.some.inj hr
    show AWp Try.prog _ (Ends1 ((F32_x2 h x1 x2 x3 v4 v5 v6 x7 x8) (1 : Nat)).1 ((F32_x2 h x1 x2 x3 v4 v5 v6 x7 x8) (1 : Nat)).2) _
    exact pEnd_sound good (L := F32_L) (D := F32_D) (its := [.g, (.b false)]) (ds := F32_m2_2) (ks := []) (e := ((F32_x2 h x1 x2 x3 v4 v5 v6 x7 x8) (1 : Nat)).1) (s2 := ((F32_x2 h x1 x2 x3 v4 v5 v6 x7 x8) (1 : Nat)).2) (hC := (ai c17 trivial)) (hd := F32_d2) (h := by kernel_rfl)
theorem F32_l2_0 (h : AHeap) (x1 : Int) (x2 : Int) (x3 : Bool) (v4 : Hd) (v5 : Hd) (l6 : List (Int × Int)) (v6 : Hd) (hv6 : SlE E61 2 h (sv v6) l6) (x7 : Int) (x8 : Int) (x : Int) (r : Nat) (hl : loopO (fun (s : Int) => F32_s2 l6 s) x = some r) (q0 : Nat.beq r 0 = true) : AWp Try.prog (.loop (codeOf Try.prog 32 [1, 1, 0, 1, 0, 0])) (Ends1 .ret (F32_x2_0 h x1 x2 x3 v4 v5 v6 x7 x8 r)) ((fun (s : Int) => (F32_h2 h x1 x2 x3 v4 v5 l6 v6 x7 x8 s)) x) := by
  have k := loop_fun (P := Try.prog) (c := (codeOf Try.prog 32 [1, 1, 0, 1, 0, 0])) (step := (fun (s : Int) => F32_s2 l6 s)) (hd := (fun (s : Int) => (F32_h2 h x1 x2 x3 v4 v5 l6 v6 x7 x8 s))) (X := (F32_x2 h x1 x2 x3 v4 v5 v6 x7 x8)) (by intro t; unfold F32_x2; cases Nat.beq t 0 <;> (intro h; cases h)) (fun x => F32_r2 h x1 x2 x3 v4 v5 l6 v6 hv6 x7 x8 x) hl
  simp only [F32_x2, q0, cond_true, cond_false] at k
  exact k
theorem F32_l2_1 (h : AHeap) (x1 : Int) (x2 : Int) (x3 : Bool) (v4 : Hd) (v5 : Hd) (l6 : List (Int × Int)) (v6 : Hd) (hv6 : SlE E61 2 h (sv v6) l6) (x7 : Int) (x8 : Int) (x : Int) (r : Nat) (hl : loopO (fun (s : Int) => F32_s2 l6 s) x = some r) (q0 : Nat.beq r 0 = false) : AWp Try.prog (.loop (codeOf Try.prog 32 [1, 1, 0, 1, 0, 0])) (Ends1 (.exit 2) (F32_x2_1 h x1 x2 x3 v4 v5 v6 x7 x8 r)) ((fun (s : Int) => (F32_h2 h x1 x2 x3 v4 v5 l6 v6 x7 x8 s)) x) := by
  have k := loop_fun (P := Try.prog) (c := (codeOf Try.prog 32 [1, 1, 0, 1, 0, 0])) (step := (fun (s : Int) => F32_s2 l6 s)) (hd := (fun (s : Int) => (F32_h2 h x1 x2 x3 v4 v5 l6 v6 x7 x8 s))) (X := (F32_x2 h x1 x2 x3 v4 v5 v6 x7 x8)) (by intro t; unfold F32_x2; cases Nat.beq t 0 <;> (intro h; cases h)) (fun x => F32_r2 h x1 x2 x3 v4 v5 l6 v6 hv6 x7 x8 x) hl
  simp only [F32_x2, q0, cond_true, cond_false] at k
  exact k
def F32 (x1 : Int) (x2 : Int) (x3 : Bool) (l4 : List (Int × Int × Int × Int)) (l5 : List (Int × Int × Int × Int)) (l6 : List (Int × Int)) (x7 : Int) (x8 : Int) : Option (Bool) :=
  (Option.bind (loopO (fun (s : Int) => F32_s1 l4 s) 0) fun y14 =>
  (bif (Nat.beq y14 0) then
   some (false)
  else
   (Option.bind (loopO (fun (s : Int) => F32_s2 l6 s) 0) fun y20 =>
   (bif (Nat.beq y20 0) then
    some (false)
   else
    (bif decide (x1 ≤ x7) then
     (bif decide (x2 ≤ x8) then
      (bif decide ((l4.length : Int) ≤ 90) then
       some (decide ((l5.length : Int) ≤ 6))
      else
       some (false))
     else
      some (false))
    else
     some (false))))))
set_option maxRecDepth 100000 in
theorem F32_spec (x1 : Int) (x2 : Int) (x3 : Bool) (l4 : List (Int × Int × Int × Int)) (l5 : List (Int × Int × Int × Int)) (l6 : List (Int × Int)) (x7 : Int) (x8 : Int) (v4 : Hd) (v5 : Hd) (v6 : Hd) (h : AHeap) (hv4 : SlE E57 4 h (sv v4) l4) (hv5 : SlE E59 4 h (sv v5) l5) (hv6 : SlE E61 2 h (sv v6) l6) (r : Bool) : F32 x1 x2 x3 l4 l5 l6 x7 x8 = some r → ACalls Try.prog 32 [.agg #[.int .i64 x1, .int .i64 x2, .bool x3, (sv v4), (sv v5), (sv v6)], .int .i64 x7, .int .i64 x8] h (fun v' h'' => v' = (.bool r : Value) ∧ h'' = h) := by
  unfold F32
  refine bind_opt fun y14 e14 => ?_
  have kc15 := (ai (SlE.len hv4) trivial)
  refine dec_bif (fun c15 => ?_) (fun c15 => ?_)
  · intro hr
    obtain rfl := Option.some.inj hr
    exact pFun_sound good tab_ok (f := 32) (its := [.g, .g, .g, .g, (.ln l4.length), .g, (.l F32_m1_1 [] .ret (F32_x1_0 h x1 x2 x3 v4 v5 v6 x7 x8 y14))]) (args := [.agg #[.int .i64 x1, .int .i64 x2, .bool x3, (sv v4), (sv v5), (sv v6)], .int .i64 x7, .int .i64 x8]) (h := h) (h' := h) (v := .bool false) (hC := (ai (F32_l1_0 h x1 x2 x3 l4 v4 hv4 v5 v6 x7 x8 0 y14 e14 c15) kc15)) (hr := by kernel_rfl)
  · refine bind_opt fun y20 e20 => ?_
    have kc21 := (ai (SlE.len hv6) (ai (F32_l1_1 h x1 x2 x3 l4 v4 hv4 v5 v6 x7 x8 0 y14 e14 c15) kc15))
    refine dec_bif (fun c21 => ?_) (fun c21 => ?_)
    · intro hr
      obtain rfl := Option.some.inj hr
      exact pFun_sound good tab_ok (f := 32) (its := [.g, .g, .g, .g, (.ln l4.length), .g, (.l F32_m1_1 [] (.exit 0) (F32_x1_1 h x1 x2 x3 v4 v5 v6 x7 x8 y14)), .g, .g, (.ln l6.length), .g, (.l F32_m2_1 [] .ret (F32_x2_0 h x1 x2 x3 v4 v5 v6 x7 x8 y20))]) (args := [.agg #[.int .i64 x1, .int .i64 x2, .bool x3, (sv v4), (sv v5), (sv v6)], .int .i64 x7, .int .i64 x8]) (h := h) (h' := h) (v := .bool false) (hC := (ai (F32_l2_0 h x1 x2 x3 v4 v5 l6 v6 hv6 x7 x8 0 y20 e20 c21) kc21)) (hr := by kernel_rfl)
    · have kc22 := (ai (F32_l2_1 h x1 x2 x3 v4 v5 l6 v6 hv6 x7 x8 0 y20 e20 c21) kc21)
      refine dec_bif (fun c22 => ?_) (fun c22 => ?_)
      · have kc23 := (ai c22 (ai (g_tt c22) (ai (g_tt c22) (ai (g_tt c22) (ai (g_tt c22) kc22)))))
        refine dec_bif (fun c23 => ?_) (fun c23 => ?_)
        · have kc24 := (ai c23 (ai (g_tt c23) (ai (SlE.len hv4) (ai (g_tt c23) (ai (g_tt c23) (ai (g_tt c23) kc23))))))
          refine dec_bif (fun c24 => ?_) (fun c24 => ?_)
          · intro hr
            obtain rfl := Option.some.inj hr
            exact pFun_sound good tab_ok (f := 32) (its := [.g, .g, .g, .g, (.ln l4.length), .g, (.l F32_m1_1 [] (.exit 0) (F32_x1_1 h x1 x2 x3 v4 v5 v6 x7 x8 y14)), .g, .g, (.ln l6.length), .g, (.l F32_m2_1 [] (.exit 2) (F32_x2_1 h x1 x2 x3 v4 v5 v6 x7 x8 y20)), .g, .g, .g, .g, .g, (.w .g), (.w .g), (.w .g), (.w .g), (.p true), .g, (.w .g), (.w .g), (.w (.ln l4.length)), (.w .g), (.p true), .g, (.w .g), (.w .g), (.w (.ln l5.length)), (.w .g), (.p true), .g]) (args := [.agg #[.int .i64 x1, .int .i64 x2, .bool x3, (sv v4), (sv v5), (sv v6)], .int .i64 x7, .int .i64 x8]) (h := h) (h' := h) (v := .bool (decide ((l5.length : Int) ≤ 6))) (hC := (ai c24 (ai (g_tt c24) (ai (SlE.len hv5) (ai (g_tt c24) (ai (g_tt c24) (ai (g_tt c24) kc24))))))) (hr := by kernel_rfl)
          · intro hr
            obtain rfl := Option.some.inj hr
            exact pFun_sound good tab_ok (f := 32) (its := [.g, .g, .g, .g, (.ln l4.length), .g, (.l F32_m1_1 [] (.exit 0) (F32_x1_1 h x1 x2 x3 v4 v5 v6 x7 x8 y14)), .g, .g, (.ln l6.length), .g, (.l F32_m2_1 [] (.exit 2) (F32_x2_1 h x1 x2 x3 v4 v5 v6 x7 x8 y20)), .g, .g, .g, .g, .g, (.w .g), (.w .g), (.w .g), (.w .g), (.p true), .g, (.w .g), (.w .g), (.w (.ln l4.length)), (.w .g), (.p true), .g, .n, .n, .n, .n, (.p false), .g]) (args := [.agg #[.int .i64 x1, .int .i64 x2, .bool x3, (sv v4), (sv v5), (sv v6)], .int .i64 x7, .int .i64 x8]) (h := h) (h' := h) (v := .bool false) (hC := (ai c24 (ai (g_ft c24) (ai (g_ft c24) (ai (g_ft c24) (ai (g_ft c24) kc24)))))) (hr := by kernel_rfl)
        · intro hr
          obtain rfl := Option.some.inj hr
          exact pFun_sound good tab_ok (f := 32) (its := [.g, .g, .g, .g, (.ln l4.length), .g, (.l F32_m1_1 [] (.exit 0) (F32_x1_1 h x1 x2 x3 v4 v5 v6 x7 x8 y14)), .g, .g, (.ln l6.length), .g, (.l F32_m2_1 [] (.exit 2) (F32_x2_1 h x1 x2 x3 v4 v5 v6 x7 x8 y20)), .g, .g, .g, .g, .g, (.w .g), (.w .g), (.w .g), (.w .g), (.p true), .g, .n, .n, .n, .n, (.p false), .g, .n, .n, .n, .n, .g, .g]) (args := [.agg #[.int .i64 x1, .int .i64 x2, .bool x3, (sv v4), (sv v5), (sv v6)], .int .i64 x7, .int .i64 x8]) (h := h) (h' := h) (v := .bool false) (hC := (ai (g_ft l_f) (ai (g_ft l_f) (ai (g_ft l_f) (ai (g_ft l_f) (ai c23 (ai (g_ft c23) (ai (g_ft c23) (ai (g_ft c23) (ai (g_ft c23) kc23)))))))))) (hr := by kernel_rfl)
      · intro hr
        obtain rfl := Option.some.inj hr
        exact pFun_sound good tab_ok (f := 32) (its := [.g, .g, .g, .g, (.ln l4.length), .g, (.l F32_m1_1 [] (.exit 0) (F32_x1_1 h x1 x2 x3 v4 v5 v6 x7 x8 y14)), .g, .g, (.ln l6.length), .g, (.l F32_m2_1 [] (.exit 2) (F32_x2_1 h x1 x2 x3 v4 v5 v6 x7 x8 y20)), .g, .g, .g, .g, .g, .n, .n, .n, .n, (.p false), .g, .n, .n, .n, .n, .g, .g, .n, .n, .n, .n, .g, .g]) (args := [.agg #[.int .i64 x1, .int .i64 x2, .bool x3, (sv v4), (sv v5), (sv v6)], .int .i64 x7, .int .i64 x8]) (h := h) (h' := h) (v := .bool false) (hC := (ai (g_ft l_f) (ai (g_ft l_f) (ai (g_ft l_f) (ai (g_ft l_f) (ai (g_ft l_f) (ai (g_ft l_f) (ai (g_ft l_f) (ai (g_ft l_f) (ai c22 (ai (g_ft c22) (ai (g_ft c22) (ai (g_ft c22) (ai (g_ft c22) kc22)))))))))))))) (hr := by kernel_rfl)
/-! 12 jacquard/jacquardlaw31.few -/
def F12 (x1 : Int) (x2 : Int) (x3 : Bool) (l4 : List (Int × Int × Int × Int)) (l5 : List (Int × Int × Int × Int)) (l6 : List (Int × Int)) : Option (Bool) :=
  (Option.bind (F32 x1 x2 x3 l4 l5 l6 12 6) fun y7 =>
  (bif y7 then
   some (decide ((l6.length : Int) ≤ 20))
  else
   some (false)))
set_option maxRecDepth 100000 in
theorem F12_spec (x1 : Int) (x2 : Int) (x3 : Bool) (l4 : List (Int × Int × Int × Int)) (l5 : List (Int × Int × Int × Int)) (l6 : List (Int × Int)) (v4 : Hd) (v5 : Hd) (v6 : Hd) (h : AHeap) (hv4 : SlE E57 4 h (sv v4) l4) (hv5 : SlE E59 4 h (sv v5) l5) (hv6 : SlE E61 2 h (sv v6) l6) (r : Bool) : F12 x1 x2 x3 l4 l5 l6 = some r → ACalls Try.prog 12 [.agg #[.int .i64 x1, .int .i64 x2, .bool x3, (sv v4), (sv v5), (sv v6)]] h (fun v' h'' => v' = (.bool r : Value) ∧ h'' = h) := by
  unfold F12
  refine bind_opt fun y7 e7 => ?_
  have kc9 := (ai (F32_spec x1 x2 x3 l4 l5 l6 12 6 v4 v5 v6 h hv4 hv5 hv6 _ e7) trivial)
  refine dec_bif (fun c9 => ?_) (fun c9 => ?_)
  · intro hr
    obtain rfl := Option.some.inj hr
    exact pFun_sound good tab_ok (f := 12) (its := [.g, .g, .g, (.c (.bool y7) h), .g, (.w .g), (.w .g), (.w (.ln l6.length)), (.w .g), (.p true), .g]) (args := [.agg #[.int .i64 x1, .int .i64 x2, .bool x3, (sv v4), (sv v5), (sv v6)]]) (h := h) (h' := h) (v := .bool (decide ((l6.length : Int) ≤ 20))) (hC := (ai c9 (ai (g_tt c9) (ai (SlE.len hv6) (ai (g_tt c9) (ai (g_tt c9) (ai (g_tt c9) kc9))))))) (hr := by kernel_rfl)
  · intro hr
    obtain rfl := Option.some.inj hr
    exact pFun_sound good tab_ok (f := 12) (its := [.g, .g, .g, (.c (.bool y7) h), .g, .n, .n, .n, .n, (.p false), .g]) (args := [.agg #[.int .i64 x1, .int .i64 x2, .bool x3, (sv v4), (sv v5), (sv v6)]]) (h := h) (h' := h) (v := .bool false) (hC := (ai c9 (ai (g_ft c9) (ai (g_ft c9) (ai (g_ft c9) (ai (g_ft c9) kc9)))))) (hr := by kernel_rfl)
/-! 23 jacquard/bounds.Depth -/
def F23_L : List Nat := [1, 10]
def F23_D : List (Nat × List (Nat × Nat)) := [(5, [(0, 2), (2, 2), (3, 3), (1, 1), (4, 1), (5, 2), (6, 2), (7, 2), (8, 2), (9, 2)]), (13, [(0, 2), (1, 2), (2, 2), (3, 2), (4, 2), (5, 2), (6, 2), (7, 1), (8, 2), (9, 2)])]
def F23_m1_1 : List Bool := (rp 6 true (false :: (rp 51 true [])))
def F23_m1_0 : List Bool := (rp 6 true (false :: false :: (rp 32 true (false :: false :: false :: (rp 15 true [])))))
def F23_s1 (l5 : List (Int × Int × Int × Int)) (y19 : (List Int) × (List Int)) (a23 : Int) (a24 : Int) : Option ((Int × Int) ⊕ Int) :=
  (bif decide (a24 < (l5.length : Int)) then
   (Option.bind (at? l5 a24) fun y26 =>
   (Option.bind (at? y19.1 a24) fun y27 =>
   (Option.bind (F43 y27 y26.2.2.2) fun y28 =>
   some (.inl ((if y28 > a23 then y28 else a23), (IntKind.i64.wrap (a24 + 1)))))))
  else
   some (.inr a23))
def F23_h1 (l5 : List (Int × Int × Int × Int)) (v5 : Hd) (u20_0 : Hd) (h20 : AHeap)  (a23 : Int) (a24 : Int) : AS := ⟨(rp 6 junk ((.int .i64 a23) :: (sv u20_0) :: (rp 32 junk ((sv v5) :: (.int .i64 (l5.length : Int)) :: (.int .i64 a24) :: (rp 15 junk []))))), [], h20⟩
theorem F23_d1 : drawsOk F23_D (codeOf Try.prog 23 [1, 1, 1, 1, 1, 1, 0, 1, 0, 0]) = true := by kernel_rfl
def F23_x1_0 (h20 : AHeap)  (r : Int) : AS := ⟨(rp 6 junk ((.int .i64 r) :: (rp 51 junk []))), [], h20⟩
def F23_x1 (h20 : AHeap) (r : Int) : Exit × AS := ((.exit 1), (F23_x1_0 h20 r))
set_option maxRecDepth 100000 in
theorem F23_r1 (h : AHeap) (l5 : List (Int × Int × Int × Int)) (v5 : Hd) (hv5 : SlE E59 4 h (sv v5) l5) (y12 : (List Int) × (List Int)) (u13_0 : Hd) (u13_1 : Hd) (y19 : (List Int) × (List Int)) (u20_0 : Hd) (u20_1 : Hd) (h20 : AHeap) (hp20 : Heapy h h20 [⟨u20_0, 3, 1, List.flatMap enc3 y19.1⟩, ⟨u20_1, 3, 1, List.flatMap enc3 y19.2⟩, ⟨u13_0, 3, 1, List.flatMap enc3 y12.1⟩, ⟨u13_1, 3, 1, List.flatMap enc3 y12.2⟩]) (a23 : Int) (a24 : Int) (o : (Int × Int) ⊕ Int) : F23_s1 l5 y19 a23 a24 = some o → RdF Try.prog (codeOf Try.prog 23 [1, 1, 1, 1, 1, 1, 0, 1, 0, 0]) (fun (s : Int × Int) => (F23_h1 l5 v5 u20_0 h20 s.1 s.2)) (F23_x1 h20) (F23_h1 l5 v5 u20_0 h20 a23 a24) o := by
  unfold F23_s1
  refine dec_bif (fun c25 => ?_) (fun c25 => ?_)
  · refine bind_opt fun y26 e26 => ?_
    obtain ⟨id26, off26, g26, cs26, ix26, at26, rfl⟩ := SlE.at hv5 e26
    refine bind_opt fun y27 e27 => ?_
    obtain ⟨id27, off27, g27, cs27, ix27, at27, rfl⟩ := SlE.at (Heapy.sle (v := u20_0) (xs := y19.1) (enc := enc3) hp20 0 rfl (fun _ => rfl) (by decide)) e27
    refine bind_opt fun y28 e28 => ?_
    intro hr
    obtain rfl := Option.some.inj hr
    show AWp Try.prog _ (Ends1 .normal (F23_h1 l5 v5 u20_0 h20 (if y28 > a23 then y28 else a23) (IntKind.i64.wrap (a24 + 1)))) _
    exact pEnd_sound good (L := F23_L) (D := F23_D) (its := [.g, (.b true), .g, (.ix id26 off26 g26), (.ld (.agg #[.int .i64 y26.1, .int .i64 y26.2.1, .int .i64 y26.2.2.1, .int .i64 y26.2.2.2])), .g, .g, .g, .g, .g, .g, (.ix id27 off27 g27), (.ld (.int .i64 y27)), .g, .g, (.c (.int .i64 y28) h20), .g, .g, .g, .g]) (ds := F23_m1_0) (ks := [10]) (e := .normal) (s2 := (F23_h1 l5 v5 u20_0 h20 (if y28 > a23 then y28 else a23) (IntKind.i64.wrap (a24 + 1)))) (hC := (ai (show AKeep h20 h20 from (AHeap.sub_refl h20)) (ai (F43_spec y27 y26.2.2.2 h20 _ e28) (ai (At.one (P := Try.prog) (t := 3) (v := .int .i64 y27) at27 (by kernel_rfl) 0 rfl rfl) (ai ix27 (ai (At.agg (P := Try.prog) (t := 59) (v := .agg #[.int .i64 y26.1, .int .i64 y26.2.1, .int .i64 y26.2.2.1, .int .i64 y26.2.2.2]) (m := 4) (At.mono (Heapy.sub hp20) at26) (by kernel_rfl) (by kernel_rfl) 0 (by kernel_rfl) rfl) (ai ix26 (ai c25 trivial)))))))) (hd := F23_d1) (h := by kernel_rfl)
  · intro hr
    obtain rfl := Option.some.inj hr
    show AWp Try.prog _ (Ends1 ((F23_x1 h20) (a23 : Int)).1 ((F23_x1 h20) (a23 : Int)).2) _
    exact pEnd_sound good (L := F23_L) (D := F23_D) (its := [.g, (.b false)]) (ds := F23_m1_1) (ks := []) (e := ((F23_x1 h20) (a23 : Int)).1) (s2 := ((F23_x1 h20) (a23 : Int)).2) (hC := (ai c25 trivial)) (hd := F23_d1) (h := by kernel_rfl)
theorem F23_l1_0 (h : AHeap) (l5 : List (Int × Int × Int × Int)) (v5 : Hd) (hv5 : SlE E59 4 h (sv v5) l5) (y12 : (List Int) × (List Int)) (u13_0 : Hd) (u13_1 : Hd) (y19 : (List Int) × (List Int)) (u20_0 : Hd) (u20_1 : Hd) (h20 : AHeap) (hp20 : Heapy h h20 [⟨u20_0, 3, 1, List.flatMap enc3 y19.1⟩, ⟨u20_1, 3, 1, List.flatMap enc3 y19.2⟩, ⟨u13_0, 3, 1, List.flatMap enc3 y12.1⟩, ⟨u13_1, 3, 1, List.flatMap enc3 y12.2⟩]) (x : Int × Int) (r : Int) (hl : loopO (fun (s : Int × Int) => F23_s1 l5 y19 s.1 s.2) x = some r) : AWp Try.prog (.loop (codeOf Try.prog 23 [1, 1, 1, 1, 1, 1, 0, 1, 0, 0])) (Ends1 (.exit 1) (F23_x1_0 h20 r)) ((fun (s : Int × Int) => (F23_h1 l5 v5 u20_0 h20 s.1 s.2)) x) := by
  have k := loop_fun (P := Try.prog) (c := (codeOf Try.prog 23 [1, 1, 1, 1, 1, 1, 0, 1, 0, 0])) (step := (fun (s : Int × Int) => F23_s1 l5 y19 s.1 s.2)) (hd := (fun (s : Int × Int) => (F23_h1 l5 v5 u20_0 h20 s.1 s.2))) (X := (F23_x1 h20)) (by intro t; unfold F23_x1; intro h; cases h) (fun x => F23_r1 h l5 v5 hv5 y12 u13_0 u13_1 y19 u20_0 u20_1 h20 hp20 x.1 x.2) hl
  exact k
def F23 (x1 : Int) (x2 : Int) (x3 : Bool) (l4 : List (Int × Int × Int × Int)) (l5 : List (Int × Int × Int × Int)) (l6 : List (Int × Int)) : Option (Int × Int) :=
  (Option.bind (F33 x1 x2 x3 l4 l5 l6) fun y7 =>
  (bif (!y7) then
   some (0, 3)
  else
   (bif x3 then
    some (0, 1)
   else
    (Option.bind (F47 (F42 x1 x2 x3 l4 l5 l6) l4 0) fun y12 =>
    (bif (!y12.2.isEmpty) then
     some (0, 14)
    else
     (Option.bind (at? y12.1 (F48 x1 x2 x3 l4 l5 l6)) fun y18 =>
     (Option.bind (F40 x1 x2 x3 l4 l5 l6) fun y19 =>
     (Option.bind (loopO (fun (s : Int × Int) => F23_s1 l5 y19 s.1 s.2) ((if y18 > 1 then y18 else 1), 0)) fun y30 =>
     some (y30, 0)))))))))
set_option maxRecDepth 100000 in
theorem F23_spec (x1 : Int) (x2 : Int) (x3 : Bool) (l4 : List (Int × Int × Int × Int)) (l5 : List (Int × Int × Int × Int)) (l6 : List (Int × Int)) (v4 : Hd) (v5 : Hd) (v6 : Hd) (h : AHeap) (hw : h.wf) (hv4 : SlE E57 4 h (sv v4) l4) (hv5 : SlE E59 4 h (sv v5) l5) (hv6 : SlE E61 2 h (sv v6) l6) (r : Int × Int) : F23 x1 x2 x3 l4 l5 l6 = some r → ∃ (h' : AHeap), Heapy h h' [] ∧ ACalls Try.prog 23 [.agg #[.int .i64 x1, .int .i64 x2, .bool x3, (sv v4), (sv v5), (sv v6)]] h (fun v' h'' => v' = (.tuple #[.int .i64 r.1, .int .i64 r.2] : Value) ∧ h'' = h') := by
  unfold F23
  refine bind_opt fun y7 e7 => ?_
  have kc9 := (ai (F33_spec x1 x2 x3 l4 l5 l6 v4 v5 v6 h hv4 hv5 hv6 _ e7) trivial)
  refine dec_bif (fun c9 => ?_) (fun c9 => ?_)
  · intro hr
    obtain rfl := Option.some.inj hr
    exact ⟨h, Heapy.pick (Heapy.refl hw) [] (by decide), pFun_sound good tab_ok (f := 23) (its := [.g, .g, .g, .g, (.c (.bool y7) h), .g, .g, (.b true), .g, .g]) (args := [.agg #[.int .i64 x1, .int .i64 x2, .bool x3, (sv v4), (sv v5), (sv v6)]]) (h := h) (h' := h) (v := .tuple #[.int .i64 0, .int .i64 3]) (hC := (ai c9 kc9)) (hr := by kernel_rfl)⟩
  · have kc10 := (ai c9 kc9)
    refine dec_bif (fun c10 => ?_) (fun c10 => ?_)
    · intro hr
      obtain rfl := Option.some.inj hr
      exact ⟨h, Heapy.pick (Heapy.refl hw) [] (by decide), pFun_sound good tab_ok (f := 23) (its := [.g, .g, .g, .g, (.c (.bool y7) h), .g, .g, (.b false), .g, .g, .g, (.b true), .g, .g]) (args := [.agg #[.int .i64 x1, .int .i64 x2, .bool x3, (sv v4), (sv v5), (sv v6)]]) (h := h) (h' := h) (v := .tuple #[.int .i64 0, .int .i64 1]) (hC := (ai c10 kc10)) (hr := by kernel_rfl)⟩
    · refine bind_opt fun y12 e12 => ?_
      obtain ⟨u13_0, u13_1, h13, q13, zu13_1, c13⟩ := F47_spec (F42 x1 x2 x3 l4 l5 l6) l4 0 v4 h hw hv4 _ e12
      have hp13 : Heapy h h13 [⟨u13_0, 3, 1, List.flatMap enc3 y12.1⟩, ⟨u13_1, 3, 1, List.flatMap enc3 y12.2⟩] := Heapy.call (Heapy.refl hw) q13
      have kc16 := (ai (Heapy.nilE (v := u13_1) (xs := y12.2) (enc := enc3) hp13 1 rfl (fun _ => rfl) (by decide) zu13_1) (ai (show AKeep h h13 from (Heapy.sub q13)) (ai c13 (ai (show AKeep h h from (AHeap.sub_refl h)) (ai (F42_spec x1 x2 x3 l4 l5 l6 v4 v5 v6 h hv4 hv5 hv6 _ rfl) (ai c10 kc10))))))
      refine dec_bif (fun c16 => ?_) (fun c16 => ?_)
      · intro hr
        obtain rfl := Option.some.inj hr
        exact ⟨h13, Heapy.pick hp13 [] (by decide), pFun_sound good tab_ok (f := 23) (its := [.g, .g, .g, .g, (.c (.bool y7) h), .g, .g, (.b false), .g, .g, .g, (.b false), .g, .g, .g, (.c (.int .i64 (F42 x1 x2 x3 l4 l5 l6)) h), (.c (.tuple #[(sv u13_0), (sv u13_1)]) h13), .g, .g, .g, .g, .g, .g, (.nl y12.2.isEmpty), (.b true), .g, .g]) (args := [.agg #[.int .i64 x1, .int .i64 x2, .bool x3, (sv v4), (sv v5), (sv v6)]]) (h := h) (h' := h13) (v := .tuple #[.int .i64 0, .int .i64 14]) (hC := (ai c16 kc16)) (hr := by kernel_rfl)⟩
      · refine bind_opt fun y18 e18 => ?_
        obtain ⟨id18, off18, g18, cs18, ix18, at18, rfl⟩ := SlE.at (Heapy.sle (v := u13_0) (xs := y12.1) (enc := enc3) hp13 0 rfl (fun _ => rfl) (by decide)) e18
        refine bind_opt fun y19 e19 => ?_
        obtain ⟨u20_0, u20_1, h20, q20, c20⟩ := F40_spec x1 x2 x3 l4 l5 l6 v4 v5 v6 h13 (Heapy.wf hp13) (SlE.mono hv4 (Heapy.sub hp13) (E57_mono (Heapy.sub hp13))) (SlE.mono hv5 (Heapy.sub hp13) (E59_mono (Heapy.sub hp13))) (SlE.mono hv6 (Heapy.sub hp13) (E61_mono (Heapy.sub hp13))) _ e19
        have hp20 : Heapy h h20 [⟨u20_0, 3, 1, List.flatMap enc3 y19.1⟩, ⟨u20_1, 3, 1, List.flatMap enc3 y19.2⟩, ⟨u13_0, 3, 1, List.flatMap enc3 y12.1⟩, ⟨u13_1, 3, 1, List.flatMap enc3 y12.2⟩] := Heapy.call hp13 q20
        refine bind_opt fun y30 e30 => ?_
        intro hr
        obtain rfl := Option.some.inj hr
        exact ⟨h20, Heapy.pick hp20 [] (by decide), pFun_sound good tab_ok (f := 23) (its := [.g, .g, .g, .g, (.c (.bool y7) h), .g, .g, (.b false), .g, .g, .g, (.b false), .g, .g, .g, (.c (.int .i64 (F42 x1 x2 x3 l4 l5 l6)) h), (.c (.tuple #[(sv u13_0), (sv u13_1)]) h13), .g, .g, .g, .g, .g, .g, (.nl y12.2.isEmpty), (.b false), .g, .g, (.c (.int .i64 (F48 x1 x2 x3 l4 l5 l6)) h13), (.ix id18 off18 g18), (.ld (.int .i64 y18)), .g, .g, .g, (.c (.tuple #[(sv u20_0), (sv u20_1)]) h20), .g, .g, .g, .g, .g, .g, .g, (.ln l5.length), .g, (.l F23_m1_0 [1] (.exit 1) (F23_x1_0 h20 y30)), .g, .g, .g]) (args := [.agg #[.int .i64 x1, .int .i64 x2, .bool x3, (sv v4), (sv v5), (sv v6)]]) (h := h) (h' := h20) (v := .tuple #[.int .i64 y30, .int .i64 0]) (hC := (ai (F23_l1_0 h l5 v5 hv5 y12 u13_0 u13_1 y19 u20_0 u20_1 h20 hp20 ((if y18 > 1 then y18 else 1), 0) y30 e30) (ai (SlE.len hv5) (ai c20 (ai (At.one (P := Try.prog) (t := 3) (v := .int .i64 y18) at18 (by kernel_rfl) 0 rfl rfl) (ai ix18 (ai (F48_spec x1 x2 x3 l4 l5 l6 v4 v5 v6 h13 (SlE.mono hv4 (Heapy.sub hp13) (E57_mono (Heapy.sub hp13))) (SlE.mono hv5 (Heapy.sub hp13) (E59_mono (Heapy.sub hp13))) (SlE.mono hv6 (Heapy.sub hp13) (E61_mono (Heapy.sub hp13))) _ rfl) (ai c16 kc16)))))))) (hr := by kernel_rfl)⟩
/-! 28 jacquard/jacquardref28.Source -/
def F28 (x1 : Int) (x2 : Int) (x3 : Bool) (l4 : List (Int × Int × Int × Int)) (l5 : List (Int × Int × Int × Int)) (l6 : List (Int × Int)) : Int :=
  (IntKind.i64.wrap (x1 + x2))
set_option maxRecDepth 100000 in
theorem F28_spec (x1 : Int) (x2 : Int) (x3 : Bool) (l4 : List (Int × Int × Int × Int)) (l5 : List (Int × Int × Int × Int)) (l6 : List (Int × Int)) (v4 : Hd) (v5 : Hd) (v6 : Hd) (h : AHeap) (hv4 : SlE E57 4 h (sv v4) l4) (hv5 : SlE E59 4 h (sv v5) l5) (hv6 : SlE E61 2 h (sv v6) l6) (r : Int) : F28 x1 x2 x3 l4 l5 l6 = r → ACalls Try.prog 28 [.agg #[.int .i64 x1, .int .i64 x2, .bool x3, (sv v4), (sv v5), (sv v6)]] h (fun v' h'' => v' = (.int .i64 r : Value) ∧ h'' = h) := by
  unfold F28
  intro hr
  subst hr
  exact pFun_sound good tab_ok (f := 28) (its := [.g, .g, .g, .g, .g, .g, .g, .g]) (args := [.agg #[.int .i64 x1, .int .i64 x2, .bool x3, (sv v4), (sv v5), (sv v6)]]) (h := h) (h' := h) (v := .int .i64 (IntKind.i64.wrap (x1 + x2))) (hC := trivial) (hr := by kernel_rfl)
/-! 26 jacquard/jacquardref28.End -/
def F26 (x1 : Int) (x2 : Int) (x3 : Bool) (l4 : List (Int × Int × Int × Int)) (l5 : List (Int × Int × Int × Int)) (l6 : List (Int × Int)) : Int :=
  (IntKind.i64.wrap ((IntKind.i64.wrap (x1 + x2)) + 1))
set_option maxRecDepth 100000 in
theorem F26_spec (x1 : Int) (x2 : Int) (x3 : Bool) (l4 : List (Int × Int × Int × Int)) (l5 : List (Int × Int × Int × Int)) (l6 : List (Int × Int)) (v4 : Hd) (v5 : Hd) (v6 : Hd) (h : AHeap) (hv4 : SlE E57 4 h (sv v4) l4) (hv5 : SlE E59 4 h (sv v5) l5) (hv6 : SlE E61 2 h (sv v6) l6) (r : Int) : F26 x1 x2 x3 l4 l5 l6 = r → ACalls Try.prog 26 [.agg #[.int .i64 x1, .int .i64 x2, .bool x3, (sv v4), (sv v5), (sv v6)]] h (fun v' h'' => v' = (.int .i64 r : Value) ∧ h'' = h) := by
  unfold F26
  intro hr
  subst hr
  exact pFun_sound good tab_ok (f := 26) (its := [.g, .g, .g, .g, .g, .g, .g, .g, .g]) (args := [.agg #[.int .i64 x1, .int .i64 x2, .bool x3, (sv v4), (sv v5), (sv v6)]]) (h := h) (h' := h) (v := .int .i64 (IntKind.i64.wrap ((IntKind.i64.wrap (x1 + x2)) + 1))) (hC := trivial) (hr := by kernel_rfl)
/-! 14 jacquard/jacquardref28.Valid -/
def F14_L : List Nat := [1, 5, 10, 12]
def F14_D : List (Nat × List (Nat × Nat)) := [(19, [(0, 2), (2, 2), (5, 2), (7, 2), (1, 3), (3, 2), (4, 5), (6, 1), (8, 2), (9, 2)]), (32, [(0, 2), (1, 2), (2, 2), (3, 2), (4, 2), (5, 2), (7, 2), (6, 3), (8, 1), (9, 2), (10, 2), (11, 2), (12, 2), (13, 2), (14, 2), (15, 2), (16, 2), (17, 2), (18, 2), (19, 2), (20, 2), (21, 2), (22, 2), (23, 2), (24, 2), (25, 2), (26, 2), (27, 2), (28, 2), (29, 2), (30, 2), (31, 2), (32, 2), (33, 2)])]
def F14__1 (x1 : Int) (x2 : Int) (y14 : Int × Int × Int × Int) : Bool := decide (y14.1 ≥ (IntKind.i64.wrap ((IntKind.i64.wrap ((IntKind.i64.wrap (x1 + x2)) + 2)) - 1)))
def F14__2 (x1 : Int) (x2 : Int) : Int := (IntKind.i64.wrap ((IntKind.i64.wrap (2 * (IntKind.i64.wrap ((IntKind.i64.wrap (x1 + x2)) + 2)))) - 3))
def F14__3 (x1 : Int) (x2 : Int) (a28 : Int) : Bool := decide (a28 < (IntKind.i64.wrap ((IntKind.i64.wrap ((IntKind.i64.wrap (x1 + x2)) + 2)) - 1)))
def F14__4 (x1 : Int) (x2 : Int) (x3 : Bool) (l4 : List (Int × Int × Int × Int)) (l5 : List (Int × Int × Int × Int)) (l6 : List (Int × Int)) (a28 : Int) (y32 : Int × Int × Int × Int) : Bool := (!((y32.1 == (F28 x1 x2 x3 l4 l5 l6)) && ((y32.2.1 == (IntKind.i64.wrap (a28 + 1))) && ((y32.2.2.1 == 0) && ((y32.2.2.2 == 0) && true)))))
def F14__5 (x1 : Int) (x2 : Int) (x3 : Bool) (l4 : List (Int × Int × Int × Int)) (l5 : List (Int × Int × Int × Int)) (l6 : List (Int × Int)) (a28 : Int) (y35 : Int × Int × Int × Int) : Bool := (!((y35.1 == (F28 x1 x2 x3 l4 l5 l6)) && ((y35.2.1 == a28) && ((y35.2.2.1 == 0) && ((y35.2.2.2 == 0) && true)))))
def F14__6 (x1 : Int) (x2 : Int) (a49 : Int) : Bool := decide (a49 < (IntKind.i64.wrap ((IntKind.i64.wrap ((IntKind.i64.wrap (x1 + x2)) + 2)) - 2)))
def F14__7 (x1 : Int) (x2 : Int) (a49 : Int) : Int := (IntKind.i64.wrap ((IntKind.i64.wrap ((IntKind.i64.wrap ((IntKind.i64.wrap (x1 + x2)) + 2)) - 1)) + a49))
def F14_m1_2 : List Bool := (true :: false :: true :: false :: (rp 271 true []))
def F14_m1_1 : List Bool := (true :: false :: true :: false :: (rp 43 true (false :: false :: (rp 226 true []))))
def F14_m1_0 : List Bool := (true :: true :: false :: (rp 272 true []))
def F14_s1 (x1 : Int) (x2 : Int) (x3 : Bool) (l4 : List (Int × Int × Int × Int)) (a12 : Int) : Option (Int ⊕ Nat) :=
  (bif decide (a12 < (l4.length : Int)) then
   (Option.bind (at? l4 a12) fun y14 =>
   (bif decide (y14.1 < 0) then
    some (.inr 0)
   else
    (bif (F14__1 x1 x2 y14) then
     some (.inr 0)
    else
     (bif decide (y14.2.1 < 0) then
      some (.inr 0)
     else
      (bif decide (y14.2.1 ≥ (IntKind.i64.wrap ((IntKind.i64.wrap (x1 + x2)) + 2))) then
       some (.inr 0)
      else
       (bif decide (y14.2.2.1 < 0) then
        some (.inr 0)
       else
        (bif decide (y14.2.2.1 > 4096) then
         some (.inr 0)
        else
         (bif decide (y14.2.2.2 < 0) then
          some (.inr 0)
         else
          (bif decide (y14.2.2.2 > 256) then
           some (.inr 0)
          else
           (bif decide (y14.2.2.2 > 0) then
            (bif (!x3) then
             some (.inr 0)
            else
             some (.inl (IntKind.i64.wrap (a12 + 1))))
           else
            some (.inl (IntKind.i64.wrap (a12 + 1)))))))))))))
  else
   some (.inr 1))
def F14_h1 (h : AHeap) (x1 : Int) (x2 : Int) (x3 : Bool) (l4 : List (Int × Int × Int × Int)) (v4 : Hd) (v5 : Hd) (v6 : Hd)  (a12 : Int) : AS := ⟨(junk :: (.pointer (some ⟨1, 0, none⟩)) :: junk :: (.int .i64 (IntKind.i64.wrap ((IntKind.i64.wrap (x1 + x2)) + 2))) :: (rp 43 junk ((.int .i64 (l4.length : Int)) :: (.int .i64 a12) :: (rp 226 junk [])))), [(1, [.int .i64 x1, .int .i64 x2, .bool x3, (sv v4), (sv v5), (sv v6)])], h⟩
theorem F14_d1 : drawsOk F14_D (codeOf Try.prog 14 [1, 1, 1, 0, 1, 0, 0]) = true := by kernel_rfl
def F14_x1_0 (h : AHeap) (x1 : Int) (x2 : Int) (x3 : Bool) (v4 : Hd) (v5 : Hd) (v6 : Hd)  (r : Nat) : AS := ⟨(junk :: junk :: (.bool false) :: (rp 272 junk [])), [], h⟩
def F14_x1_1 (h : AHeap) (x1 : Int) (x2 : Int) (x3 : Bool) (v4 : Hd) (v5 : Hd) (v6 : Hd)  (r : Nat) : AS := ⟨(junk :: (.pointer (some ⟨1, 0, none⟩)) :: junk :: (.int .i64 (IntKind.i64.wrap ((IntKind.i64.wrap (x1 + x2)) + 2))) :: (rp 271 junk [])), [(1, [.int .i64 x1, .int .i64 x2, .bool x3, (sv v4), (sv v5), (sv v6)])], h⟩
def F14_x1 (h : AHeap) (x1 : Int) (x2 : Int) (x3 : Bool) (v4 : Hd) (v5 : Hd) (v6 : Hd) (r : Nat) : Exit × AS := (bif Nat.beq r 0 then (.ret, (F14_x1_0 h x1 x2 x3 v4 v5 v6 r)) else ((.exit 0), (F14_x1_1 h x1 x2 x3 v4 v5 v6 r)))
set_option maxRecDepth 100000 in
theorem F14_r1 (h : AHeap) (x1 : Int) (x2 : Int) (x3 : Bool) (l4 : List (Int × Int × Int × Int)) (v4 : Hd) (hv4 : SlE E57 4 h (sv v4) l4) (v5 : Hd) (v6 : Hd) (a12 : Int) (o : Int ⊕ Nat) : F14_s1 x1 x2 x3 l4 a12 = some o → RdF Try.prog (codeOf Try.prog 14 [1, 1, 1, 0, 1, 0, 0]) (fun (s : Int) => (F14_h1 h x1 x2 x3 l4 v4 v5 v6 s)) (F14_x1 h x1 x2 x3 v4 v5 v6) (F14_h1 h x1 x2 x3 l4 v4 v5 v6 a12) o := by
  unfold F14_s1
  refine dec_bif (fun c13 => ?_) (fun c13 => ?_)
  · refine bind_opt fun y14 e14 => ?_
    obtain ⟨id14, off14, g14, cs14, ix14, at14, rfl⟩ := SlE.at hv4 e14
    have kc15 := (ai (At.agg (P := Try.prog) (t := 57) (v := .agg #[.int .i64 y14.1, .int .i64 y14.2.1, .int .i64 y14.2.2.1, .int .i64 y14.2.2.2]) (m := 4) at14 (by kernel_rfl) (by kernel_rfl) 0 (by kernel_rfl) rfl) (ai ix14 (ai c13 trivial)))
    refine dec_bif (fun c15 => ?_) (fun c15 => ?_)
    · intro hr
      obtain rfl := Option.some.inj hr
      show AWp Try.prog _ (Ends1 ((F14_x1 h x1 x2 x3 v4 v5 v6) (0 : Nat)).1 ((F14_x1 h x1 x2 x3 v4 v5 v6) (0 : Nat)).2) _
      exact pEnd_sound good (L := F14_L) (D := F14_D) (its := [.g, (.b true), .g, .g, .g, .g, .g, (.ix id14 off14 g14), (.ld (.agg #[.int .i64 y14.1, .int .i64 y14.2.1, .int .i64 y14.2.2.1, .int .i64 y14.2.2.2])), .g, .g, .g, .g, .g, .g, .n, .n, .n, .n, .n, (.p true), .g, .n, .n, .n, .g, .g, .n, .n, .n, .n, .g, .g, .n, .n, .n, .g, .g, .n, .n, .n, .g, .g, .n, .n, .n, .g, .g, .n, .n, .n, .g, .g, .n, .n, .n, .n, .n, .n, .n, .n, .g, (.b true), .g]) (ds := F14_m1_0) (ks := [1, 5]) (e := ((F14_x1 h x1 x2 x3 v4 v5 v6) (0 : Nat)).1) (s2 := ((F14_x1 h x1 x2 x3 v4 v5 v6) (0 : Nat)).2) (hC := (ai l_t (ai (g_tf l_t) (ai l_f (ai l_f (ai l_f (ai (g_tf l_t) (ai (g_tf l_t) (ai (g_tf l_t) (ai (g_tf l_t) (ai (g_tf l_t) (ai (g_tf l_t) (ai (g_tf l_t) (ai (g_tf l_t) (ai (g_tf l_t) (ai (g_tf l_t) (ai (g_tf l_t) (ai (g_tf l_t) (ai (g_tf l_t) (ai (g_tf l_t) (ai (g_tf l_t) (ai (g_tf l_t) (ai (g_tf l_t) (ai (g_tf l_t) (ai (g_tf l_t) (ai (g_tf l_t) (ai (g_tf l_t) (ai (g_tf l_t) (ai (g_tf l_t) (ai c15 (ai (g_tf c15) (ai (g_tf c15) (ai (g_tf c15) (ai (g_tf c15) (ai (g_tf c15) kc15))))))))))))))))))))))))))))))))))) (hd := F14_d1) (h := by kernel_rfl)
    · have kc16 := (ai c15 (ai (g_ff c15) (ai (g_ff c15) (ai (g_ff c15) (ai (g_ff c15) (ai (g_ff c15) kc15))))))
      refine dec_bif (fun c16 => ?_) (fun c16 => ?_)
      · intro hr
        obtain rfl := Option.some.inj hr
        show AWp Try.prog _ (Ends1 ((F14_x1 h x1 x2 x3 v4 v5 v6) (0 : Nat)).1 ((F14_x1 h x1 x2 x3 v4 v5 v6) (0 : Nat)).2) _
        exact pEnd_sound good (L := F14_L) (D := F14_D) (its := [.g, (.b true), .g, .g, .g, .g, .g, (.ix id14 off14 g14), (.ld (.agg #[.int .i64 y14.1, .int .i64 y14.2.1, .int .i64 y14.2.2.1, .int .i64 y14.2.2.2])), .g, .g, .g, .g, .g, .g, (.w .g), (.w .g), (.w .g), (.w .g), (.w .g), (.p false), .g, .n, .n, .n, (.p true), .g, .n, .n, .n, .n, .g, .g, .n, .n, .n, .g, .g, .n, .n, .n, .g, .g, .n, .n, .n, .g, .g, .n, .n, .n, .g, .g, .n, .n, .n, .n, .n, .n, .n, .n, .g, (.b true), .g]) (ds := F14_m1_0) (ks := [1, 5]) (e := ((F14_x1 h x1 x2 x3 v4 v5 v6) (0 : Nat)).1) (s2 := ((F14_x1 h x1 x2 x3 v4 v5 v6) (0 : Nat)).2) (hC := (ai l_t (ai (g_tf l_t) (ai l_f (ai l_f (ai l_f (ai (g_tf l_t) (ai (g_tf l_t) (ai (g_tf l_t) (ai (g_tf l_t) (ai (g_tf l_t) (ai (g_tf l_t) (ai (g_tf l_t) (ai (g_tf l_t) (ai (g_tf l_t) (ai (g_tf l_t) (ai (g_tf l_t) (ai (g_tf l_t) (ai (g_tf l_t) (ai (g_tf l_t) (ai (g_tf l_t) (ai (g_tf l_t) (ai (g_tf l_t) (ai (g_tf l_t) (ai (g_tf l_t) (ai (g_tf l_t) (ai c16 (ai (g_tf c16) (ai (g_tf c16) (ai (g_tf c16) kc16)))))))))))))))))))))))))))))) (hd := F14_d1) (h := by kernel_rfl)
      · have kc17 := (ai c16 (ai (g_ff c16) (ai (g_ff c16) (ai (g_ff c16) kc16))))
        refine dec_bif (fun c17 => ?_) (fun c17 => ?_)
        · intro hr
          obtain rfl := Option.some.inj hr
          show AWp Try.prog _ (Ends1 ((F14_x1 h x1 x2 x3 v4 v5 v6) (0 : Nat)).1 ((F14_x1 h x1 x2 x3 v4 v5 v6) (0 : Nat)).2) _
          exact pEnd_sound good (L := F14_L) (D := F14_D) (its := [.g, (.b true), .g, .g, .g, .g, .g, (.ix id14 off14 g14), (.ld (.agg #[.int .i64 y14.1, .int .i64 y14.2.1, .int .i64 y14.2.2.1, .int .i64 y14.2.2.2])), .g, .g, .g, .g, .g, .g, (.w .g), (.w .g), (.w .g), (.w .g), (.w .g), (.p false), .g, (.w .g), (.w .g), (.w .g), (.p false), .g, .n, .n, .n, .n, (.p true), .g, .n, .n, .n, .g, .g, .n, .n, .n, .g, .g, .n, .n, .n, .g, .g, .n, .n, .n, .g, .g, .n, .n, .n, .n, .n, .n, .n, .n, .g, (.b true), .g]) (ds := F14_m1_0) (ks := [1, 5]) (e := ((F14_x1 h x1 x2 x3 v4 v5 v6) (0 : Nat)).1) (s2 := ((F14_x1 h x1 x2 x3 v4 v5 v6) (0 : Nat)).2) (hC := (ai l_t (ai (g_tf l_t) (ai l_f (ai l_f (ai l_f (ai (g_tf l_t) (ai (g_tf l_t) (ai (g_tf l_t) (ai (g_tf l_t) (ai (g_tf l_t) (ai (g_tf l_t) (ai (g_tf l_t) (ai (g_tf l_t) (ai (g_tf l_t) (ai (g_tf l_t) (ai (g_tf l_t) (ai (g_tf l_t) (ai (g_tf l_t) (ai (g_tf l_t) (ai (g_tf l_t) (ai (g_tf l_t) (ai c17 (ai (g_tf c17) (ai (g_tf c17) (ai (g_tf c17) (ai (g_tf c17) kc17))))))))))))))))))))))))))) (hd := F14_d1) (h := by kernel_rfl)
        · have kc18 := (ai c17 (ai (g_ff c17) (ai (g_ff c17) (ai (g_ff c17) (ai (g_ff c17) kc17)))))
          refine dec_bif (fun c18 => ?_) (fun c18 => ?_)
          · intro hr
            obtain rfl := Option.some.inj hr
            show AWp Try.prog _ (Ends1 ((F14_x1 h x1 x2 x3 v4 v5 v6) (0 : Nat)).1 ((F14_x1 h x1 x2 x3 v4 v5 v6) (0 : Nat)).2) _
            exact pEnd_sound good (L := F14_L) (D := F14_D) (its := [.g, (.b true), .g, .g, .g, .g, .g, (.ix id14 off14 g14), (.ld (.agg #[.int .i64 y14.1, .int .i64 y14.2.1, .int .i64 y14.2.2.1, .int .i64 y14.2.2.2])), .g, .g, .g, .g, .g, .g, (.w .g), (.w .g), (.w .g), (.w .g), (.w .g), (.p false), .g, (.w .g), (.w .g), (.w .g), (.p false), .g, (.w .g), (.w .g), (.w .g), (.w .g), (.p false), .g, .n, .n, .n, (.p true), .g, .n, .n, .n, .g, .g, .n, .n, .n, .g, .g, .n, .n, .n, .g, .g, .n, .n, .n, .n, .n, .n, .n, .n, .g, (.b true), .g]) (ds := F14_m1_0) (ks := [1, 5]) (e := ((F14_x1 h x1 x2 x3 v4 v5 v6) (0 : Nat)).1) (s2 := ((F14_x1 h x1 x2 x3 v4 v5 v6) (0 : Nat)).2) (hC := (ai l_t (ai (g_tf l_t) (ai l_f (ai l_f (ai l_f (ai (g_tf l_t) (ai (g_tf l_t) (ai (g_tf l_t) (ai (g_tf l_t) (ai (g_tf l_t) (ai (g_tf l_t) (ai (g_tf l_t) (ai (g_tf l_t) (ai (g_tf l_t) (ai (g_tf l_t) (ai (g_tf l_t) (ai (g_tf l_t) (ai (g_tf l_t) (ai c18 (ai (g_tf c18) (ai (g_tf c18) (ai (g_tf c18) kc18))))))))))))))))))))))) (hd := F14_d1) (h := by kernel_rfl)
          · have kc19 := (ai c18 (ai (g_ff c18) (ai (g_ff c18) (ai (g_ff c18) kc18))))
            refine dec_bif (fun c19 => ?_) (fun c19 => ?_)
            · intro hr
              obtain rfl := Option.some.inj hr
              show AWp Try.prog _ (Ends1 ((F14_x1 h x1 x2 x3 v4 v5 v6) (0 : Nat)).1 ((F14_x1 h x1 x2 x3 v4 v5 v6) (0 : Nat)).2) _
              exact pEnd_sound good (L := F14_L) (D := F14_D) (its := [.g, (.b true), .g, .g, .g, .g, .g, (.ix id14 off14 g14), (.ld (.agg #[.int .i64 y14.1, .int .i64 y14.2.1, .int .i64 y14.2.2.1, .int .i64 y14.2.2.2])), .g, .g, .g, .g, .g, .g, (.w .g), (.w .g), (.w .g), (.w .g), (.w .g), (.p false), .g, (.w .g), (.w .g), (.w .g), (.p false), .g, (.w .g), (.w .g), (.w .g), (.w .g), (.p false), .g, (.w .g), (.w .g), (.w .g), (.p false), .g, .n, .n, .n, (.p true), .g, .n, .n, .n, .g, .g, .n, .n, .n, .g, .g, .n, .n, .n, .n, .n, .n, .n, .n, .g, (.b true), .g]) (ds := F14_m1_0) (ks := [1, 5]) (e := ((F14_x1 h x1 x2 x3 v4 v5 v6) (0 : Nat)).1) (s2 := ((F14_x1 h x1 x2 x3 v4 v5 v6) (0 : Nat)).2) (hC := (ai l_t (ai (g_tf l_t) (ai l_f (ai l_f (ai l_f (ai (g_tf l_t) (ai (g_tf l_t) (ai (g_tf l_t) (ai (g_tf l_t) (ai (g_tf l_t) (ai (g_tf l_t) (ai (g_tf l_t) (ai (g_tf l_t) (ai (g_tf l_t) (ai (g_tf l_t) (ai c19 (ai (g_tf c19) (ai (g_tf c19) (ai (g_tf c19) kc19)))))))))))))))))))) (hd := F14_d1) (h := by kernel_rfl)
            · have kc20 := (ai c19 (ai (g_ff c19) (ai (g_ff c19) (ai (g_ff c19) kc19))))
              refine dec_bif (fun c20 => ?_) (fun c20 => ?_)
              · intro hr
                obtain rfl := Option.some.inj hr
                show AWp Try.prog _ (Ends1 ((F14_x1 h x1 x2 x3 v4 v5 v6) (0 : Nat)).1 ((F14_x1 h x1 x2 x3 v4 v5 v6) (0 : Nat)).2) _
                exact pEnd_sound good (L := F14_L) (D := F14_D) (its := [.g, (.b true), .g, .g, .g, .g, .g, (.ix id14 off14 g14), (.ld (.agg #[.int .i64 y14.1, .int .i64 y14.2.1, .int .i64 y14.2.2.1, .int .i64 y14.2.2.2])), .g, .g, .g, .g, .g, .g, (.w .g), (.w .g), (.w .g), (.w .g), (.w .g), (.p false), .g, (.w .g), (.w .g), (.w .g), (.p false), .g, (.w .g), (.w .g), (.w .g), (.w .g), (.p false), .g, (.w .g), (.w .g), (.w .g), (.p false), .g, (.w .g), (.w .g), (.w .g), (.p false), .g, .n, .n, .n, (.p true), .g, .n, .n, .n, .g, .g, .n, .n, .n, .n, .n, .n, .n, .n, .g, (.b true), .g]) (ds := F14_m1_0) (ks := [1, 5]) (e := ((F14_x1 h x1 x2 x3 v4 v5 v6) (0 : Nat)).1) (s2 := ((F14_x1 h x1 x2 x3 v4 v5 v6) (0 : Nat)).2) (hC := (ai l_t (ai (g_tf l_t) (ai l_f (ai l_f (ai l_f (ai (g_tf l_t) (ai (g_tf l_t) (ai (g_tf l_t) (ai (g_tf l_t) (ai (g_tf l_t) (ai (g_tf l_t) (ai (g_tf l_t) (ai c20 (ai (g_tf c20) (ai (g_tf c20) (ai (g_tf c20) kc20))))))))))))))))) (hd := F14_d1) (h := by kernel_rfl)
              · have kc21 := (ai c20 (ai (g_ff c20) (ai (g_ff c20) (ai (g_ff c20) kc20))))
                refine dec_bif (fun c21 => ?_) (fun c21 => ?_)
                · intro hr
                  obtain rfl := Option.some.inj hr
                  show AWp Try.prog _ (Ends1 ((F14_x1 h x1 x2 x3 v4 v5 v6) (0 : Nat)).1 ((F14_x1 h x1 x2 x3 v4 v5 v6) (0 : Nat)).2) _
                  exact pEnd_sound good (L := F14_L) (D := F14_D) (its := [.g, (.b true), .g, .g, .g, .g, .g, (.ix id14 off14 g14), (.ld (.agg #[.int .i64 y14.1, .int .i64 y14.2.1, .int .i64 y14.2.2.1, .int .i64 y14.2.2.2])), .g, .g, .g, .g, .g, .g, (.w .g), (.w .g), (.w .g), (.w .g), (.w .g), (.p false), .g, (.w .g), (.w .g), (.w .g), (.p false), .g, (.w .g), (.w .g), (.w .g), (.w .g), (.p false), .g, (.w .g), (.w .g), (.w .g), (.p false), .g, (.w .g), (.w .g), (.w .g), (.p false), .g, (.w .g), (.w .g), (.w .g), (.p false), .g, .n, .n, .n, (.p true), .g, .n, .n, .n, .n, .n, .n, .n, .n, .g, (.b true), .g]) (ds := F14_m1_0) (ks := [1, 5]) (e := ((F14_x1 h x1 x2 x3 v4 v5 v6) (0 : Nat)).1) (s2 := ((F14_x1 h x1 x2 x3 v4 v5 v6) (0 : Nat)).2) (hC := (ai l_t (ai (g_tf l_t) (ai l_f (ai l_f (ai l_f (ai (g_tf l_t) (ai (g_tf l_t) (ai (g_tf l_t) (ai (g_tf l_t) (ai c21 (ai (g_tf c21) (ai (g_tf c21) (ai (g_tf c21) kc21)))))))))))))) (hd := F14_d1) (h := by kernel_rfl)
                · have kc22 := (ai c21 (ai (g_ff c21) (ai (g_ff c21) (ai (g_ff c21) kc21))))
                  refine dec_bif (fun c22 => ?_) (fun c22 => ?_)
                  · intro hr
                    obtain rfl := Option.some.inj hr
                    show AWp Try.prog _ (Ends1 ((F14_x1 h x1 x2 x3 v4 v5 v6) (0 : Nat)).1 ((F14_x1 h x1 x2 x3 v4 v5 v6) (0 : Nat)).2) _
                    exact pEnd_sound good (L := F14_L) (D := F14_D) (its := [.g, (.b true), .g, .g, .g, .g, .g, (.ix id14 off14 g14), (.ld (.agg #[.int .i64 y14.1, .int .i64 y14.2.1, .int .i64 y14.2.2.1, .int .i64 y14.2.2.2])), .g, .g, .g, .g, .g, .g, (.w .g), (.w .g), (.w .g), (.w .g), (.w .g), (.p false), .g, (.w .g), (.w .g), (.w .g), (.p false), .g, (.w .g), (.w .g), (.w .g), (.w .g), (.p false), .g, (.w .g), (.w .g), (.w .g), (.p false), .g, (.w .g), (.w .g), (.w .g), (.p false), .g, (.w .g), (.w .g), (.w .g), (.p false), .g, (.w .g), (.w .g), (.w .g), (.p false), .g, .n, .n, .n, .n, .n, .n, .n, .n, (.p true), (.b true), .g]) (ds := F14_m1_0) (ks := [1, 5]) (e := ((F14_x1 h x1 x2 x3 v4 v5 v6) (0 : Nat)).1) (s2 := ((F14_x1 h x1 x2 x3 v4 v5 v6) (0 : Nat)).2) (hC := (ai l_t (ai c22 (ai (g_tf c22) (ai l_f (ai l_f (ai l_f (ai (g_tf c22) (ai (g_tf c22) (ai (g_tf c22) (ai (g_tf c22) kc22))))))))))) (hd := F14_d1) (h := by kernel_rfl)
                  · have kc23 := (ai (g_ff c22) (ai (g_ff c22) (ai (g_ff c22) (ai (g_ff c22) kc22))))
                    refine dec_bif (fun c23 => ?_) (fun c23 => ?_)
                    · have kc24 := (ai c22 (ai c23 (ai (g_ff c22) (ai (g_tt c23) (ai (g_tt c23) (ai (g_tt c23) kc23))))))
                      refine dec_bif (fun c24 => ?_) (fun c24 => ?_)
                      · intro hr
                        obtain rfl := Option.some.inj hr
                        show AWp Try.prog _ (Ends1 ((F14_x1 h x1 x2 x3 v4 v5 v6) (0 : Nat)).1 ((F14_x1 h x1 x2 x3 v4 v5 v6) (0 : Nat)).2) _
                        exact pEnd_sound good (L := F14_L) (D := F14_D) (its := [.g, (.b true), .g, .g, .g, .g, .g, (.ix id14 off14 g14), (.ld (.agg #[.int .i64 y14.1, .int .i64 y14.2.1, .int .i64 y14.2.2.1, .int .i64 y14.2.2.2])), .g, .g, .g, .g, .g, .g, (.w .g), (.w .g), (.w .g), (.w .g), (.w .g), (.p false), .g, (.w .g), (.w .g), (.w .g), (.p false), .g, (.w .g), (.w .g), (.w .g), (.w .g), (.p false), .g, (.w .g), (.w .g), (.w .g), (.p false), .g, (.w .g), (.w .g), (.w .g), (.p false), .g, (.w .g), (.w .g), (.w .g), (.p false), .g, (.w .g), (.w .g), (.w .g), (.p false), .g, (.w .g), (.w .g), (.w .g), (.w .g), (.w .g), (.w .g), (.w .g), (.w (.p true)), (.p false), (.b true), .g]) (ds := F14_m1_0) (ks := [1, 5]) (e := ((F14_x1 h x1 x2 x3 v4 v5 v6) (0 : Nat)).1) (s2 := ((F14_x1 h x1 x2 x3 v4 v5 v6) (0 : Nat)).2) (hC := (ai c24 kc24)) (hd := F14_d1) (h := by kernel_rfl)
                      · intro hr
                        obtain rfl := Option.some.inj hr
                        show AWp Try.prog _ (Ends1 .normal (F14_h1 h x1 x2 x3 l4 v4 v5 v6 (IntKind.i64.wrap (a12 + 1)))) _
                        exact pEnd_sound good (L := F14_L) (D := F14_D) (its := [.g, (.b true), .g, .g, .g, .g, .g, (.ix id14 off14 g14), (.ld (.agg #[.int .i64 y14.1, .int .i64 y14.2.1, .int .i64 y14.2.2.1, .int .i64 y14.2.2.2])), .g, .g, .g, .g, .g, .g, (.w .g), (.w .g), (.w .g), (.w .g), (.w .g), (.p false), .g, (.w .g), (.w .g), (.w .g), (.p false), .g, (.w .g), (.w .g), (.w .g), (.w .g), (.p false), .g, (.w .g), (.w .g), (.w .g), (.p false), .g, (.w .g), (.w .g), (.w .g), (.p false), .g, (.w .g), (.w .g), (.w .g), (.p false), .g, (.w .g), (.w .g), (.w .g), (.p false), .g, (.w .g), (.w .g), (.w .g), (.w .g), (.w .g), (.w .g), (.w .g), (.w (.p true)), (.p false), (.b false), .g, .g]) (ds := F14_m1_1) (ks := [5]) (e := .normal) (s2 := (F14_h1 h x1 x2 x3 l4 v4 v5 v6 (IntKind.i64.wrap (a12 + 1)))) (hC := (ai c24 kc24)) (hd := F14_d1) (h := by kernel_rfl)
                    · intro hr
                      obtain rfl := Option.some.inj hr
                      show AWp Try.prog _ (Ends1 .normal (F14_h1 h x1 x2 x3 l4 v4 v5 v6 (IntKind.i64.wrap (a12 + 1)))) _
                      exact pEnd_sound good (L := F14_L) (D := F14_D) (its := [.g, (.b true), .g, .g, .g, .g, .g, (.ix id14 off14 g14), (.ld (.agg #[.int .i64 y14.1, .int .i64 y14.2.1, .int .i64 y14.2.2.1, .int .i64 y14.2.2.2])), .g, .g, .g, .g, .g, .g, (.w .g), (.w .g), (.w .g), (.w .g), (.w .g), (.p false), .g, (.w .g), (.w .g), (.w .g), (.p false), .g, (.w .g), (.w .g), (.w .g), (.w .g), (.p false), .g, (.w .g), (.w .g), (.w .g), (.p false), .g, (.w .g), (.w .g), (.w .g), (.p false), .g, (.w .g), (.w .g), (.w .g), (.p false), .g, (.w .g), (.w .g), (.w .g), (.p false), .g, (.w .g), (.w .g), (.w .g), (.w .g), .n, .n, .n, (.w (.p false)), (.p false), (.b false), .g, .g]) (ds := F14_m1_1) (ks := [5]) (e := .normal) (s2 := (F14_h1 h x1 x2 x3 l4 v4 v5 v6 (IntKind.i64.wrap (a12 + 1)))) (hC := (ai l_f (ai c22 (ai c23 (ai (g_ff c22) (ai (g_ft c23) (ai (g_ft c23) (ai (g_ft c23) kc23)))))))) (hd := F14_d1) (h := by kernel_rfl)
  · intro hr
    obtain rfl := Option.some.inj hr
    show AWp Try.prog _ (Ends1 ((F14_x1 h x1 x2 x3 v4 v5 v6) (1 : Nat)).1 ((F14_x1 h x1 x2 x3 v4 v5 v6) (1 : Nat)).2) _
    exact pEnd_sound good (L := F14_L) (D := F14_D) (its := [.g, (.b false)]) (ds := F14_m1_2) (ks := []) (e := ((F14_x1 h x1 x2 x3 v4 v5 v6) (1 : Nat)).1) (s2 := ((F14_x1 h x1 x2 x3 v4 v5 v6) (1 : Nat)).2) (hC := (ai c13 trivial)) (hd := F14_d1) (h := by kernel_rfl)
theorem F14_l1_0 (h : AHeap) (x1 : Int) (x2 : Int) (x3 : Bool) (l4 : List (Int × Int × Int × Int)) (v4 : Hd) (hv4 : SlE E57 4 h (sv v4) l4) (v5 : Hd) (v6 : Hd) (x : Int) (r : Nat) (hl : loopO (fun (s : Int) => F14_s1 x1 x2 x3 l4 s) x = some r) (q0 : Nat.beq r 0 = true) : AWp Try.prog (.loop (codeOf Try.prog 14 [1, 1, 1, 0, 1, 0, 0])) (Ends1 .ret (F14_x1_0 h x1 x2 x3 v4 v5 v6 r)) ((fun (s : Int) => (F14_h1 h x1 x2 x3 l4 v4 v5 v6 s)) x) := by
  have k := loop_fun (P := Try.prog) (c := (codeOf Try.prog 14 [1, 1, 1, 0, 1, 0, 0])) (step := (fun (s : Int) => F14_s1 x1 x2 x3 l4 s)) (hd := (fun (s : Int) => (F14_h1 h x1 x2 x3 l4 v4 v5 v6 s))) (X := (F14_x1 h x1 x2 x3 v4 v5 v6)) (by intro t; unfold F14_x1; cases Nat.beq t 0 <;> (intro h; cases h)) (fun x => F14_r1 h x1 x2 x3 l4 v4 hv4 v5 v6 x) hl
  simp only [F14_x1, q0, cond_true, cond_false] at k
  exact k
theorem F14_l1_1 (h : AHeap) (x1 : Int) (x2 : Int) (x3 : Bool) (l4 : List (Int × Int × Int × Int)) (v4 : Hd) (hv4 : SlE E57 4 h (sv v4) l4) (v5 : Hd) (v6 : Hd) (x : Int) (r : Nat) (hl : loopO (fun (s : Int) => F14_s1 x1 x2 x3 l4 s) x = some r) (q0 : Nat.beq r 0 = false) : AWp Try.prog (.loop (codeOf Try.prog 14 [1, 1, 1, 0, 1, 0, 0])) (Ends1 (.exit 0) (F14_x1_1 h x1 x2 x3 v4 v5 v6 r)) ((fun (s : Int) => (F14_h1 h x1 x2 x3 l4 v4 v5 v6 s)) x) := by
  have k := loop_fun (P := Try.prog) (c := (codeOf Try.prog 14 [1, 1, 1, 0, 1, 0, 0])) (step := (fun (s : Int) => F14_s1 x1 x2 x3 l4 s)) (hd := (fun (s : Int) => (F14_h1 h x1 x2 x3 l4 v4 v5 v6 s))) (X := (F14_x1 h x1 x2 x3 v4 v5 v6)) (by intro t; unfold F14_x1; cases Nat.beq t 0 <;> (intro h; cases h)) (fun x => F14_r1 h x1 x2 x3 l4 v4 hv4 v5 v6 x) hl
  simp only [F14_x1, q0, cond_true, cond_false] at k
  exact k
def F14_m2_2 : List Bool := (true :: false :: true :: false :: (rp 271 true []))
def F14_m2_1 : List Bool := (true :: false :: true :: false :: (rp 112 true (false :: false :: (rp 157 true []))))
def F14_m2_0 : List Bool := (true :: true :: false :: (rp 272 true []))
def F14_s2 (x1 : Int) (x2 : Int) (x3 : Bool) (l4 : List (Int × Int × Int × Int)) (l5 : List (Int × Int × Int × Int)) (l6 : List (Int × Int)) (a28 : Int) : Option (Int ⊕ Nat) :=
  (bif (F14__3 x1 x2 a28) then
   (bif decide (a28 ≥ (F28 x1 x2 x3 l4 l5 l6)) then
    (Option.bind (at? l4 a28) fun y32 =>
    (bif (F14__4 x1 x2 x3 l4 l5 l6 a28 y32) then
     some (.inr 0)
    else
     some (.inl (IntKind.i64.wrap (a28 + 1)))))
   else
    (Option.bind (at? l4 a28) fun y35 =>
    (bif (F14__5 x1 x2 x3 l4 l5 l6 a28 y35) then
     some (.inr 0)
    else
     some (.inl (IntKind.i64.wrap (a28 + 1))))))
  else
   some (.inr 1))
def F14_h2 (h : AHeap) (x1 : Int) (x2 : Int) (x3 : Bool) (v4 : Hd) (v5 : Hd) (v6 : Hd)  (a28 : Int) : AS := ⟨(junk :: (.pointer (some ⟨1, 0, none⟩)) :: junk :: (.int .i64 (IntKind.i64.wrap ((IntKind.i64.wrap (x1 + x2)) + 2))) :: (rp 112 junk ((.int .i64 (IntKind.i64.wrap ((IntKind.i64.wrap ((IntKind.i64.wrap (x1 + x2)) + 2)) - 1))) :: (.int .i64 a28) :: (rp 157 junk [])))), [(1, [.int .i64 x1, .int .i64 x2, .bool x3, (sv v4), (sv v5), (sv v6)])], h⟩
theorem F14_d2 : drawsOk F14_D (codeOf Try.prog 14 [1, 1, 1, 1, 1, 0, 1, 0, 0]) = true := by kernel_rfl
def F14_x2_0 (h : AHeap) (x1 : Int) (x2 : Int) (x3 : Bool) (v4 : Hd) (v5 : Hd) (v6 : Hd)  (r : Nat) : AS := ⟨(junk :: junk :: (.bool false) :: (rp 272 junk [])), [], h⟩
def F14_x2_1 (h : AHeap) (x1 : Int) (x2 : Int) (x3 : Bool) (v4 : Hd) (v5 : Hd) (v6 : Hd)  (r : Nat) : AS := ⟨(junk :: (.pointer (some ⟨1, 0, none⟩)) :: junk :: (.int .i64 (IntKind.i64.wrap ((IntKind.i64.wrap (x1 + x2)) + 2))) :: (rp 271 junk [])), [(1, [.int .i64 x1, .int .i64 x2, .bool x3, (sv v4), (sv v5), (sv v6)])], h⟩
def F14_x2 (h : AHeap) (x1 : Int) (x2 : Int) (x3 : Bool) (v4 : Hd) (v5 : Hd) (v6 : Hd) (r : Nat) : Exit × AS := (bif Nat.beq r 0 then (.ret, (F14_x2_0 h x1 x2 x3 v4 v5 v6 r)) else ((.exit 2), (F14_x2_1 h x1 x2 x3 v4 v5 v6 r)))
set_option maxRecDepth 100000 in
theorem F14_r2 (h : AHeap) (x1 : Int) (x2 : Int) (x3 : Bool) (l4 : List (Int × Int × Int × Int)) (v4 : Hd) (hv4 : SlE E57 4 h (sv v4) l4) (l5 : List (Int × Int × Int × Int)) (v5 : Hd) (hv5 : SlE E59 4 h (sv v5) l5) (l6 : List (Int × Int)) (v6 : Hd) (hv6 : SlE E61 2 h (sv v6) l6) (a28 : Int) (o : Int ⊕ Nat) : F14_s2 x1 x2 x3 l4 l5 l6 a28 = some o → RdF Try.prog (codeOf Try.prog 14 [1, 1, 1, 1, 1, 0, 1, 0, 0]) (fun (s : Int) => (F14_h2 h x1 x2 x3 v4 v5 v6 s)) (F14_x2 h x1 x2 x3 v4 v5 v6) (F14_h2 h x1 x2 x3 v4 v5 v6 a28) o := by
  unfold F14_s2
  refine dec_bif (fun c29 => ?_) (fun c29 => ?_)
  · have kc31 := (ai (F28_spec x1 x2 x3 l4 l5 l6 v4 v5 v6 h hv4 hv5 hv6 _ rfl) (ai c29 trivial))
    refine dec_bif (fun c31 => ?_) (fun c31 => ?_)
    · refine bind_opt fun y32 e32 => ?_
      obtain ⟨id32, off32, g32, cs32, ix32, at32, rfl⟩ := SlE.at hv4 e32
      have kc34 := (ai (show aggEq Try.prog 57 #[.int .i64 y32.1, .int .i64 y32.2.1, .int .i64 y32.2.2.1, .int .i64 y32.2.2.2] #[.int .i64 (F28 x1 x2 x3 l4 l5 l6), .int .i64 (IntKind.i64.wrap (a28 + 1)), .int .i64 0, .int .i64 0] = some ((y32.1 == (F28 x1 x2 x3 l4 l5 l6)) && ((y32.2.1 == (IntKind.i64.wrap (a28 + 1))) && ((y32.2.2.1 == 0) && ((y32.2.2.2 == 0) && true)))) by kernel_rfl) (ai (show AKeep h h from (AHeap.sub_refl h)) (ai (F28_spec x1 x2 x3 l4 l5 l6 v4 v5 v6 h hv4 hv5 hv6 _ rfl) (ai (At.agg (P := Try.prog) (t := 57) (v := .agg #[.int .i64 y32.1, .int .i64 y32.2.1, .int .i64 y32.2.2.1, .int .i64 y32.2.2.2]) (m := 4) at32 (by kernel_rfl) (by kernel_rfl) 0 (by kernel_rfl) rfl) (ai ix32 (ai c31 kc31))))))
      refine dec_bif (fun c34 => ?_) (fun c34 => ?_)
      · intro hr
        obtain rfl := Option.some.inj hr
        show AWp Try.prog _ (Ends1 ((F14_x2 h x1 x2 x3 v4 v5 v6) (0 : Nat)).1 ((F14_x2 h x1 x2 x3 v4 v5 v6) (0 : Nat)).2) _
        exact pEnd_sound good (L := F14_L) (D := F14_D) (its := [.g, (.b true), .g, .g, .g, .g, .g, .g, (.c (.int .i64 (F28 x1 x2 x3 l4 l5 l6)) h), .g, (.b true), .g, .g, .g, .g, .g, .g, .g, .g, (.ix id32 off32 g32), (.ld (.agg #[.int .i64 y32.1, .int .i64 y32.2.1, .int .i64 y32.2.2.1, .int .i64 y32.2.2.2])), (.c (.int .i64 (F28 x1 x2 x3 l4 l5 l6)) h), .g, (.eq ((y32.1 == (F28 x1 x2 x3 l4 l5 l6)) && ((y32.2.1 == (IntKind.i64.wrap (a28 + 1))) && ((y32.2.2.1 == 0) && ((y32.2.2.2 == 0) && true))))), (.b true), .g]) (ds := F14_m2_0) (ks := [1]) (e := ((F14_x2 h x1 x2 x3 v4 v5 v6) (0 : Nat)).1) (s2 := ((F14_x2 h x1 x2 x3 v4 v5 v6) (0 : Nat)).2) (hC := (ai c34 kc34)) (hd := F14_d2) (h := by kernel_rfl)
      · intro hr
        obtain rfl := Option.some.inj hr
        show AWp Try.prog _ (Ends1 .normal (F14_h2 h x1 x2 x3 v4 v5 v6 (IntKind.i64.wrap (a28 + 1)))) _
        exact pEnd_sound good (L := F14_L) (D := F14_D) (its := [.g, (.b true), .g, .g, .g, .g, .g, .g, (.c (.int .i64 (F28 x1 x2 x3 l4 l5 l6)) h), .g, (.b true), .g, .g, .g, .g, .g, .g, .g, .g, (.ix id32 off32 g32), (.ld (.agg #[.int .i64 y32.1, .int .i64 y32.2.1, .int .i64 y32.2.2.1, .int .i64 y32.2.2.2])), (.c (.int .i64 (F28 x1 x2 x3 l4 l5 l6)) h), .g, (.eq ((y32.1 == (F28 x1 x2 x3 l4 l5 l6)) && ((y32.2.1 == (IntKind.i64.wrap (a28 + 1))) && ((y32.2.2.1 == 0) && ((y32.2.2.2 == 0) && true))))), (.b false), .g, .g]) (ds := F14_m2_1) (ks := []) (e := .normal) (s2 := (F14_h2 h x1 x2 x3 v4 v5 v6 (IntKind.i64.wrap (a28 + 1)))) (hC := (ai c34 kc34)) (hd := F14_d2) (h := by kernel_rfl)
    · refine bind_opt fun y35 e35 => ?_
      obtain ⟨id35, off35, g35, cs35, ix35, at35, rfl⟩ := SlE.at hv4 e35
      have kc37 := (ai (show aggEq Try.prog 57 #[.int .i64 y35.1, .int .i64 y35.2.1, .int .i64 y35.2.2.1, .int .i64 y35.2.2.2] #[.int .i64 (F28 x1 x2 x3 l4 l5 l6), .int .i64 a28, .int .i64 0, .int .i64 0] = some ((y35.1 == (F28 x1 x2 x3 l4 l5 l6)) && ((y35.2.1 == a28) && ((y35.2.2.1 == 0) && ((y35.2.2.2 == 0) && true)))) by kernel_rfl) (ai (show AKeep h h from (AHeap.sub_refl h)) (ai (F28_spec x1 x2 x3 l4 l5 l6 v4 v5 v6 h hv4 hv5 hv6 _ rfl) (ai (At.agg (P := Try.prog) (t := 57) (v := .agg #[.int .i64 y35.1, .int .i64 y35.2.1, .int .i64 y35.2.2.1, .int .i64 y35.2.2.2]) (m := 4) at35 (by kernel_rfl) (by kernel_rfl) 0 (by kernel_rfl) rfl) (ai ix35 (ai c31 kc31))))))
      refine dec_bif (fun c37 => ?_) (fun c37 => ?_)
      · intro hr
        obtain rfl := Option.some.inj hr
        show AWp Try.prog _ (Ends1 ((F14_x2 h x1 x2 x3 v4 v5 v6) (0 : Nat)).1 ((F14_x2 h x1 x2 x3 v4 v5 v6) (0 : Nat)).2) _
        exact pEnd_sound good (L := F14_L) (D := F14_D) (its := [.g, (.b true), .g, .g, .g, .g, .g, .g, (.c (.int .i64 (F28 x1 x2 x3 l4 l5 l6)) h), .g, (.b false), .g, .g, .g, .g, .g, (.ix id35 off35 g35), (.ld (.agg #[.int .i64 y35.1, .int .i64 y35.2.1, .int .i64 y35.2.2.1, .int .i64 y35.2.2.2])), (.c (.int .i64 (F28 x1 x2 x3 l4 l5 l6)) h), .g, (.eq ((y35.1 == (F28 x1 x2 x3 l4 l5 l6)) && ((y35.2.1 == a28) && ((y35.2.2.1 == 0) && ((y35.2.2.2 == 0) && true))))), (.b true), .g]) (ds := F14_m2_0) (ks := [1]) (e := ((F14_x2 h x1 x2 x3 v4 v5 v6) (0 : Nat)).1) (s2 := ((F14_x2 h x1 x2 x3 v4 v5 v6) (0 : Nat)).2) (hC := (ai c37 kc37)) (hd := F14_d2) (h := by kernel_rfl)
      · intro hr
        obtain rfl := Option.some.inj hr
        show AWp Try.prog _ (Ends1 .normal (F14_h2 h x1 x2 x3 v4 v5 v6 (IntKind.i64.wrap (a28 + 1)))) _
        exact pEnd_sound good (L := F14_L) (D := F14_D) (its := [.g, (.b true), .g, .g, .g, .g, .g, .g, (.c (.int .i64 (F28 x1 x2 x3 l4 l5 l6)) h), .g, (.b false), .g, .g, .g, .g, .g, (.ix id35 off35 g35), (.ld (.agg #[.int .i64 y35.1, .int .i64 y35.2.1, .int .i64 y35.2.2.1, .int .i64 y35.2.2.2])), (.c (.int .i64 (F28 x1 x2 x3 l4 l5 l6)) h), .g, (.eq ((y35.1 == (F28 x1 x2 x3 l4 l5 l6)) && ((y35.2.1 == a28) && ((y35.2.2.1 == 0) && ((y35.2.2.2 == 0) && true))))), (.b false), .g, .g]) (ds := F14_m2_1) (ks := []) (e := .normal) (s2 := (F14_h2 h x1 x2 x3 v4 v5 v6 (IntKind.i64.wrap (a28 + 1)))) (hC := (ai c37 kc37)) (hd := F14_d2) (h := by kernel_rfl)
  · intro hr
    obtain rfl := Option.some.inj hr
    show AWp Try.prog _ (Ends1 ((F14_x2 h x1 x2 x3 v4 v5 v6) (1 : Nat)).1 ((F14_x2 h x1 x2 x3 v4 v5 v6) (1 : Nat)).2) _
    exact pEnd_sound good (L := F14_L) (D := F14_D) (its := [.g, (.b false)]) (ds := F14_m2_2) (ks := []) (e := ((F14_x2 h x1 x2 x3 v4 v5 v6) (1 : Nat)).1) (s2 := ((F14_x2 h x1 x2 x3 v4 v5 v6) (1 : Nat)).2) (hC := (ai c29 trivial)) (hd := F14_d2) (h := by kernel_rfl)
theorem F14_l2_0 (h : AHeap) (x1 : Int) (x2 : Int) (x3 : Bool) (l4 : List (Int × Int × Int × Int)) (v4 : Hd) (hv4 : SlE E57 4 h (sv v4) l4) (l5 : List (Int × Int × Int × Int)) (v5 : Hd) (hv5 : SlE E59 4 h (sv v5) l5) (l6 : List (Int × Int)) (v6 : Hd) (hv6 : SlE E61 2 h (sv v6) l6) (x : Int) (r : Nat) (hl : loopO (fun (s : Int) => F14_s2 x1 x2 x3 l4 l5 l6 s) x = some r) (q0 : Nat.beq r 0 = true) : AWp Try.prog (.loop (codeOf Try.prog 14 [1, 1, 1, 1, 1, 0, 1, 0, 0])) (Ends1 .ret (F14_x2_0 h x1 x2 x3 v4 v5 v6 r)) ((fun (s : Int) => (F14_h2 h x1 x2 x3 v4 v5 v6 s)) x) := by
  have k := loop_fun (P := Try.prog) (c := (codeOf Try.prog 14 [1, 1, 1, 1, 1, 0, 1, 0, 0])) (step := (fun (s : Int) => F14_s2 x1 x2 x3 l4 l5 l6 s)) (hd := (fun (s : Int) => (F14_h2 h x1 x2 x3 v4 v5 v6 s))) (X := (F14_x2 h x1 x2 x3 v4 v5 v6)) (by intro t; unfold F14_x2; cases Nat.beq t 0 <;> (intro h; cases h)) (fun x => F14_r2 h x1 x2 x3 l4 v4 hv4 l5 v5 hv5 l6 v6 hv6 x) hl
  simp only [F14_x2, q0, cond_true, cond_false] at k
  exact k
theorem F14_l2_1 (h : AHeap) (x1 : Int) (x2 : Int) (x3 : Bool) (l4 : List (Int × Int × Int × Int)) (v4 : Hd) (hv4 : SlE E57 4 h (sv v4) l4) (l5 : List (Int × Int × Int × Int)) (v5 : Hd) (hv5 : SlE E59 4 h (sv v5) l5) (l6 : List (Int × Int)) (v6 : Hd) (hv6 : SlE E61 2 h (sv v6) l6) (x : Int) (r : Nat) (hl : loopO (fun (s : Int) => F14_s2 x1 x2 x3 l4 l5 l6 s) x = some r) (q0 : Nat.beq r 0 = false) : AWp Try.prog (.loop (codeOf Try.prog 14 [1, 1, 1, 1, 1, 0, 1, 0, 0])) (Ends1 (.exit 2) (F14_x2_1 h x1 x2 x3 v4 v5 v6 r)) ((fun (s : Int) => (F14_h2 h x1 x2 x3 v4 v5 v6 s)) x) := by
  have k := loop_fun (P := Try.prog) (c := (codeOf Try.prog 14 [1, 1, 1, 1, 1, 0, 1, 0, 0])) (step := (fun (s : Int) => F14_s2 x1 x2 x3 l4 l5 l6 s)) (hd := (fun (s : Int) => (F14_h2 h x1 x2 x3 v4 v5 v6 s))) (X := (F14_x2 h x1 x2 x3 v4 v5 v6)) (by intro t; unfold F14_x2; cases Nat.beq t 0 <;> (intro h; cases h)) (fun x => F14_r2 h x1 x2 x3 l4 v4 hv4 l5 v5 hv5 l6 v6 hv6 x) hl
  simp only [F14_x2, q0, cond_true, cond_false] at k
  exact k
def F14_m3_2 : List Bool := (true :: false :: true :: false :: (rp 271 true []))
def F14_m3_1 : List Bool := (true :: false :: true :: false :: (rp 136 true (false :: false :: (rp 133 true []))))
def F14_m3_0 : List Bool := (true :: true :: false :: (rp 272 true []))
def F14_s3 (l5 : List (Int × Int × Int × Int)) (a40 : Int) : Option (Int ⊕ Nat) :=
  (bif decide (a40 < (l5.length : Int)) then
   (Option.bind (at? l5 a40) fun y42 =>
   (bif decide (y42.1 < 1) then
    some (.inr 0)
   else
    (bif decide (y42.1 > 4) then
     some (.inr 0)
    else
     (bif decide (y42.2.2.2 < 1) then
      some (.inr 0)
     else
      (bif decide (y42.2.2.2 > 1024) then
       some (.inr 0)
      else
       some (.inl (IntKind.i64.wrap (a40 + 1))))))))
  else
   some (.inr 1))
def F14_h3 (h : AHeap) (x1 : Int) (x2 : Int) (x3 : Bool) (v4 : Hd) (l5 : List (Int × Int × Int × Int)) (v5 : Hd) (v6 : Hd)  (a40 : Int) : AS := ⟨(junk :: (.pointer (some ⟨1, 0, none⟩)) :: junk :: (.int .i64 (IntKind.i64.wrap ((IntKind.i64.wrap (x1 + x2)) + 2))) :: (rp 136 junk ((.int .i64 (l5.length : Int)) :: (.int .i64 a40) :: (rp 133 junk [])))), [(1, [.int .i64 x1, .int .i64 x2, .bool x3, (sv v4), (sv v5), (sv v6)])], h⟩
theorem F14_d3 : drawsOk F14_D (codeOf Try.prog 14 [1, 1, 1, 1, 1, 1, 0, 1, 0, 0]) = true := by kernel_rfl
def F14_x3_0 (h : AHeap) (x1 : Int) (x2 : Int) (x3 : Bool) (v4 : Hd) (v5 : Hd) (v6 : Hd)  (r : Nat) : AS := ⟨(junk :: junk :: (.bool false) :: (rp 272 junk [])), [], h⟩
def F14_x3_1 (h : AHeap) (x1 : Int) (x2 : Int) (x3 : Bool) (v4 : Hd) (v5 : Hd) (v6 : Hd)  (r : Nat) : AS := ⟨(junk :: (.pointer (some ⟨1, 0, none⟩)) :: junk :: (.int .i64 (IntKind.i64.wrap ((IntKind.i64.wrap (x1 + x2)) + 2))) :: (rp 271 junk [])), [(1, [.int .i64 x1, .int .i64 x2, .bool x3, (sv v4), (sv v5), (sv v6)])], h⟩
def F14_x3 (h : AHeap) (x1 : Int) (x2 : Int) (x3 : Bool) (v4 : Hd) (v5 : Hd) (v6 : Hd) (r : Nat) : Exit × AS := (bif Nat.beq r 0 then (.ret, (F14_x3_0 h x1 x2 x3 v4 v5 v6 r)) else ((.exit 4), (F14_x3_1 h x1 x2 x3 v4 v5 v6 r)))
set_option maxRecDepth 100000 in
theorem F14_r3 (h : AHeap) (x1 : Int) (x2 : Int) (x3 : Bool) (v4 : Hd) (l5 : List (Int × Int × Int × Int)) (v5 : Hd) (hv5 : SlE E59 4 h (sv v5) l5) (v6 : Hd) (a40 : Int) (o : Int ⊕ Nat) : F14_s3 l5 a40 = some o → RdF Try.prog (codeOf Try.prog 14 [1, 1, 1, 1, 1, 1, 0, 1, 0, 0]) (fun (s : Int) => (F14_h3 h x1 x2 x3 v4 l5 v5 v6 s)) (F14_x3 h x1 x2 x3 v4 v5 v6) (F14_h3 h x1 x2 x3 v4 l5 v5 v6 a40) o := by
  unfold F14_s3
  refine dec_bif (fun c41 => ?_) (fun c41 => ?_)
  · refine bind_opt fun y42 e42 => ?_
    obtain ⟨id42, off42, g42, cs42, ix42, at42, rfl⟩ := SlE.at hv5 e42
    have kc43 := (ai (At.one (P := Try.prog) (t := 3) (v := .int .i64 y42.1) at42 (by kernel_rfl) 0 rfl rfl) (ai ix42 (ai c41 trivial)))
    refine dec_bif (fun c43 => ?_) (fun c43 => ?_)
    · intro hr
      obtain rfl := Option.some.inj hr
      show AWp Try.prog _ (Ends1 ((F14_x3 h x1 x2 x3 v4 v5 v6) (0 : Nat)).1 ((F14_x3 h x1 x2 x3 v4 v5 v6) (0 : Nat)).2) _
      exact pEnd_sound good (L := F14_L) (D := F14_D) (its := [.g, (.b true), .g, .g, .g, .g, .g, (.ix id42 off42 g42), .g, (.ld (.int .i64 y42.1)), .g, .g, .n, .n, .n, .n, .n, .n, .n, (.p true), .g, .n, .n, .n, .n, .n, .n, .n, .g, .g, .n, .n, .n, .n, .n, .n, .n, .g, (.b true), .g]) (ds := F14_m3_0) (ks := [1]) (e := ((F14_x3 h x1 x2 x3 v4 v5 v6) (0 : Nat)).1) (s2 := ((F14_x3 h x1 x2 x3 v4 v5 v6) (0 : Nat)).2) (hC := (ai l_t (ai (g_tf l_t) (ai (g_tf l_t) (ai (g_tf l_t) (ai (g_tf l_t) (ai (g_tf l_t) (ai (g_tf l_t) (ai (g_tf l_t) (ai (g_tf l_t) (ai (g_tf l_t) (ai (g_tf l_t) (ai (g_tf l_t) (ai (g_tf l_t) (ai (g_tf l_t) (ai (g_tf l_t) (ai c43 (ai (g_tf c43) (ai (g_tf c43) (ai (g_tf c43) (ai (g_tf c43) (ai (g_tf c43) (ai (g_tf c43) (ai (g_tf c43) kc43)))))))))))))))))))))))) (hd := F14_d3) (h := by kernel_rfl)
    · have kc44 := (ai c43 (ai (g_ff c43) (ai (At.one (P := Try.prog) (t := 3) (v := .int .i64 y42.1) at42 (by kernel_rfl) 0 rfl rfl) (ai (g_ff c43) (ai (g_ff c43) (ai ix42 (ai (g_ff c43) (ai (g_ff c43) (ai (g_ff c43) (ai (g_ff c43) kc43))))))))))
      refine dec_bif (fun c44 => ?_) (fun c44 => ?_)
      · intro hr
        obtain rfl := Option.some.inj hr
        show AWp Try.prog _ (Ends1 ((F14_x3 h x1 x2 x3 v4 v5 v6) (0 : Nat)).1 ((F14_x3 h x1 x2 x3 v4 v5 v6) (0 : Nat)).2) _
        exact pEnd_sound good (L := F14_L) (D := F14_D) (its := [.g, (.b true), .g, .g, .g, .g, .g, (.ix id42 off42 g42), .g, (.ld (.int .i64 y42.1)), .g, .g, (.w .g), (.w .g), (.w .g), (.w (.ix id42 off42 g42)), (.w .g), (.w (.ld (.int .i64 y42.1))), (.w .g), (.p false), .g, .n, .n, .n, .n, .n, .n, .n, (.p true), .g, .n, .n, .n, .n, .n, .n, .n, .g, (.b true), .g]) (ds := F14_m3_0) (ks := [1]) (e := ((F14_x3 h x1 x2 x3 v4 v5 v6) (0 : Nat)).1) (s2 := ((F14_x3 h x1 x2 x3 v4 v5 v6) (0 : Nat)).2) (hC := (ai l_t (ai (g_tf l_t) (ai (g_tf l_t) (ai (g_tf l_t) (ai (g_tf l_t) (ai (g_tf l_t) (ai (g_tf l_t) (ai (g_tf l_t) (ai c44 (ai (g_tf c44) (ai (g_tf c44) (ai (g_tf c44) (ai (g_tf c44) (ai (g_tf c44) (ai (g_tf c44) (ai (g_tf c44) kc44))))))))))))))))) (hd := F14_d3) (h := by kernel_rfl)
      · have kc45 := (ai c44 (ai (g_ff c44) (ai (At.one (P := Try.prog) (t := 3) (v := .int .i64 y42.2.2.2) at42 (by kernel_rfl) 3 rfl rfl) (ai (g_ff c44) (ai (g_ff c44) (ai ix42 (ai (g_ff c44) (ai (g_ff c44) (ai (g_ff c44) (ai (g_ff c44) kc44))))))))))
        refine dec_bif (fun c45 => ?_) (fun c45 => ?_)
        · intro hr
          obtain rfl := Option.some.inj hr
          show AWp Try.prog _ (Ends1 ((F14_x3 h x1 x2 x3 v4 v5 v6) (0 : Nat)).1 ((F14_x3 h x1 x2 x3 v4 v5 v6) (0 : Nat)).2) _
          exact pEnd_sound good (L := F14_L) (D := F14_D) (its := [.g, (.b true), .g, .g, .g, .g, .g, (.ix id42 off42 g42), .g, (.ld (.int .i64 y42.1)), .g, .g, (.w .g), (.w .g), (.w .g), (.w (.ix id42 off42 g42)), (.w .g), (.w (.ld (.int .i64 y42.1))), (.w .g), (.p false), .g, (.w .g), (.w .g), (.w .g), (.w (.ix id42 off42 g42)), (.w .g), (.w (.ld (.int .i64 y42.2.2.2))), (.w .g), (.p false), .g, .n, .n, .n, .n, .n, .n, .n, (.p true), (.b true), .g]) (ds := F14_m3_0) (ks := [1]) (e := ((F14_x3 h x1 x2 x3 v4 v5 v6) (0 : Nat)).1) (s2 := ((F14_x3 h x1 x2 x3 v4 v5 v6) (0 : Nat)).2) (hC := (ai l_t (ai c45 (ai (g_tf c45) (ai (g_tf c45) (ai (g_tf c45) (ai (g_tf c45) (ai (g_tf c45) (ai (g_tf c45) (ai (g_tf c45) kc45)))))))))) (hd := F14_d3) (h := by kernel_rfl)
        · have kc46 := (ai c45 (ai (g_ff c45) (ai (At.one (P := Try.prog) (t := 3) (v := .int .i64 y42.2.2.2) at42 (by kernel_rfl) 3 rfl rfl) (ai (g_ff c45) (ai (g_ff c45) (ai ix42 (ai (g_ff c45) (ai (g_ff c45) (ai (g_ff c45) (ai (g_ff c45) kc45))))))))))
          refine dec_bif (fun c46 => ?_) (fun c46 => ?_)
          · intro hr
            obtain rfl := Option.some.inj hr
            show AWp Try.prog _ (Ends1 ((F14_x3 h x1 x2 x3 v4 v5 v6) (0 : Nat)).1 ((F14_x3 h x1 x2 x3 v4 v5 v6) (0 : Nat)).2) _
            exact pEnd_sound good (L := F14_L) (D := F14_D) (its := [.g, (.b true), .g, .g, .g, .g, .g, (.ix id42 off42 g42), .g, (.ld (.int .i64 y42.1)), .g, .g, (.w .g), (.w .g), (.w .g), (.w (.ix id42 off42 g42)), (.w .g), (.w (.ld (.int .i64 y42.1))), (.w .g), (.p false), .g, (.w .g), (.w .g), (.w .g), (.w (.ix id42 off42 g42)), (.w .g), (.w (.ld (.int .i64 y42.2.2.2))), (.w .g), (.p false), .g, (.w .g), (.w .g), (.w .g), (.w (.ix id42 off42 g42)), (.w .g), (.w (.ld (.int .i64 y42.2.2.2))), (.w .g), (.p false), (.b true), .g]) (ds := F14_m3_0) (ks := [1]) (e := ((F14_x3 h x1 x2 x3 v4 v5 v6) (0 : Nat)).1) (s2 := ((F14_x3 h x1 x2 x3 v4 v5 v6) (0 : Nat)).2) (hC := (ai c46 kc46)) (hd := F14_d3) (h := by kernel_rfl)
          · intro hr
            obtain rfl := Option.some.inj hr
            show AWp Try.prog _ (Ends1 .normal (F14_h3 h x1 x2 x3 v4 l5 v5 v6 (IntKind.i64.wrap (a40 + 1)))) _
            exact pEnd_sound good (L := F14_L) (D := F14_D) (its := [.g, (.b true), .g, .g, .g, .g, .g, (.ix id42 off42 g42), .g, (.ld (.int .i64 y42.1)), .g, .g, (.w .g), (.w .g), (.w .g), (.w (.ix id42 off42 g42)), (.w .g), (.w (.ld (.int .i64 y42.1))), (.w .g), (.p false), .g, (.w .g), (.w .g), (.w .g), (.w (.ix id42 off42 g42)), (.w .g), (.w (.ld (.int .i64 y42.2.2.2))), (.w .g), (.p false), .g, (.w .g), (.w .g), (.w .g), (.w (.ix id42 off42 g42)), (.w .g), (.w (.ld (.int .i64 y42.2.2.2))), (.w .g), (.p false), (.b false), .g, .g]) (ds := F14_m3_1) (ks := []) (e := .normal) (s2 := (F14_h3 h x1 x2 x3 v4 l5 v5 v6 (IntKind.i64.wrap (a40 + 1)))) (hC := (ai c46 kc46)) (hd := F14_d3) (h := by kernel_rfl)
  · intro hr
    obtain rfl := Option.some.inj hr
    show AWp Try.prog _ (Ends1 ((F14_x3 h x1 x2 x3 v4 v5 v6) (1 : Nat)).1 ((F14_x3 h x1 x2 x3 v4 v5 v6) (1 : Nat)).2) _
    exact pEnd_sound good (L := F14_L) (D := F14_D) (its := [.g, (.b false)]) (ds := F14_m3_2) (ks := []) (e := ((F14_x3 h x1 x2 x3 v4 v5 v6) (1 : Nat)).1) (s2 := ((F14_x3 h x1 x2 x3 v4 v5 v6) (1 : Nat)).2) (hC := (ai c41 trivial)) (hd := F14_d3) (h := by kernel_rfl)
theorem F14_l3_0 (h : AHeap) (x1 : Int) (x2 : Int) (x3 : Bool) (v4 : Hd) (l5 : List (Int × Int × Int × Int)) (v5 : Hd) (hv5 : SlE E59 4 h (sv v5) l5) (v6 : Hd) (x : Int) (r : Nat) (hl : loopO (fun (s : Int) => F14_s3 l5 s) x = some r) (q0 : Nat.beq r 0 = true) : AWp Try.prog (.loop (codeOf Try.prog 14 [1, 1, 1, 1, 1, 1, 0, 1, 0, 0])) (Ends1 .ret (F14_x3_0 h x1 x2 x3 v4 v5 v6 r)) ((fun (s : Int) => (F14_h3 h x1 x2 x3 v4 l5 v5 v6 s)) x) := by
  have k := loop_fun (P := Try.prog) (c := (codeOf Try.prog 14 [1, 1, 1, 1, 1, 1, 0, 1, 0, 0])) (step := (fun (s : Int) => F14_s3 l5 s)) (hd := (fun (s : Int) => (F14_h3 h x1 x2 x3 v4 l5 v5 v6 s))) (X := (F14_x3 h x1 x2 x3 v4 v5 v6)) (by intro t; unfold F14_x3; cases Nat.beq t 0 <;> (intro h; cases h)) (fun x => F14_r3 h x1 x2 x3 v4 l5 v5 hv5 v6 x) hl
  simp only [F14_x3, q0, cond_true, cond_false] at k
  exact k
theorem F14_l3_1 (h : AHeap) (x1 : Int) (x2 : Int) (x3 : Bool) (v4 : Hd) (l5 : List (Int × Int × Int × Int)) (v5 : Hd) (hv5 : SlE E59 4 h (sv v5) l5) (v6 : Hd) (x : Int) (r : Nat) (hl : loopO (fun (s : Int) => F14_s3 l5 s) x = some r) (q0 : Nat.beq r 0 = false) : AWp Try.prog (.loop (codeOf Try.prog 14 [1, 1, 1, 1, 1, 1, 0, 1, 0, 0])) (Ends1 (.exit 4) (F14_x3_1 h x1 x2 x3 v4 v5 v6 r)) ((fun (s : Int) => (F14_h3 h x1 x2 x3 v4 l5 v5 v6 s)) x) := by
  have k := loop_fun (P := Try.prog) (c := (codeOf Try.prog 14 [1, 1, 1, 1, 1, 1, 0, 1, 0, 0])) (step := (fun (s : Int) => F14_s3 l5 s)) (hd := (fun (s : Int) => (F14_h3 h x1 x2 x3 v4 l5 v5 v6 s))) (X := (F14_x3 h x1 x2 x3 v4 v5 v6)) (by intro t; unfold F14_x3; cases Nat.beq t 0 <;> (intro h; cases h)) (fun x => F14_r3 h x1 x2 x3 v4 l5 v5 hv5 v6 x) hl
  simp only [F14_x3, q0, cond_true, cond_false] at k
  exact k
def F14_m4_2 : List Bool := (true :: false :: (rp 273 true []))
def F14_m4_1 : List Bool := (true :: false :: true :: false :: (rp 176 true (false :: false :: (rp 93 true []))))
def F14_m4_0 : List Bool := (true :: true :: false :: (rp 272 true []))
def F14_s4 (x1 : Int) (x2 : Int) (x3 : Bool) (l4 : List (Int × Int × Int × Int)) (l5 : List (Int × Int × Int × Int)) (l6 : List (Int × Int)) (a49 : Int) : Option (Int ⊕ Nat) :=
  (bif (F14__6 x1 x2 a49) then
   (Option.bind (at? l4 (F14__7 x1 x2 a49)) fun y51 =>
   (bif (y51.1 != a49) then
    some (.inr 0)
   else
    (bif (y51.2.1 != (F26 x1 x2 x3 l4 l5 l6)) then
     some (.inr 0)
    else
     (bif (y51.2.2.2 != 0) then
      some (.inr 0)
     else
      (bif decide (a49 < x1) then
       (Option.bind (at? l6 a49) fun y57 =>
       (bif decide (y51.2.2.1 < (if y57.2 > 1 then y57.2 else 1)) then
        some (.inr 0)
       else
        some (.inl (IntKind.i64.wrap (a49 + 1)))))
      else
       some (.inl (IntKind.i64.wrap (a49 + 1))))))))
  else
   some (.inr 1))
def F14_h4 (h : AHeap) (x1 : Int) (x2 : Int) (x3 : Bool) (v4 : Hd) (v5 : Hd) (v6 : Hd)  (a49 : Int) : AS := ⟨(junk :: (.pointer (some ⟨1, 0, none⟩)) :: junk :: (.int .i64 (IntKind.i64.wrap ((IntKind.i64.wrap (x1 + x2)) + 2))) :: (rp 176 junk ((.int .i64 (IntKind.i64.wrap ((IntKind.i64.wrap ((IntKind.i64.wrap (x1 + x2)) + 2)) - 2))) :: (.int .i64 a49) :: (rp 93 junk [])))), [(1, [.int .i64 x1, .int .i64 x2, .bool x3, (sv v4), (sv v5), (sv v6)])], h⟩
theorem F14_d4 : drawsOk F14_D (codeOf Try.prog 14 [1, 1, 1, 1, 1, 1, 1, 0, 1, 0, 0]) = true := by kernel_rfl
def F14_x4_0 (h : AHeap) (x1 : Int) (x2 : Int) (x3 : Bool) (v4 : Hd) (v5 : Hd) (v6 : Hd)  (r : Nat) : AS := ⟨(junk :: junk :: (.bool false) :: (rp 272 junk [])), [], h⟩
def F14_x4_1 (h : AHeap) (x1 : Int) (x2 : Int) (x3 : Bool) (v4 : Hd) (v5 : Hd) (v6 : Hd)  (r : Nat) : AS := ⟨(junk :: (.pointer (some ⟨1, 0, none⟩)) :: (rp 273 junk [])), [(1, [.int .i64 x1, .int .i64 x2, .bool x3, (sv v4), (sv v5), (sv v6)])], h⟩
def F14_x4 (h : AHeap) (x1 : Int) (x2 : Int) (x3 : Bool) (v4 : Hd) (v5 : Hd) (v6 : Hd) (r : Nat) : Exit × AS := (bif Nat.beq r 0 then (.ret, (F14_x4_0 h x1 x2 x3 v4 v5 v6 r)) else ((.exit 6), (F14_x4_1 h x1 x2 x3 v4 v5 v6 r)))
set_option maxRecDepth 100000 in
theorem F14_r4 (h : AHeap) (x1 : Int) (x2 : Int) (x3 : Bool) (l4 : List (Int × Int × Int × Int)) (v4 : Hd) (hv4 : SlE E57 4 h (sv v4) l4) (l5 : List (Int × Int × Int × Int)) (v5 : Hd) (hv5 : SlE E59 4 h (sv v5) l5) (l6 : List (Int × Int)) (v6 : Hd) (hv6 : SlE E61 2 h (sv v6) l6) (a49 : Int) (o : Int ⊕ Nat) : F14_s4 x1 x2 x3 l4 l5 l6 a49 = some o → RdF Try.prog (codeOf Try.prog 14 [1, 1, 1, 1, 1, 1, 1, 0, 1, 0, 0]) (fun (s : Int) => (F14_h4 h x1 x2 x3 v4 v5 v6 s)) (F14_x4 h x1 x2 x3 v4 v5 v6) (F14_h4 h x1 x2 x3 v4 v5 v6 a49) o := by
  unfold F14_s4
  refine dec_bif (fun c50 => ?_) (fun c50 => ?_)
  · refine bind_opt fun y51 e51 => ?_
    obtain ⟨id51, off51, g51, cs51, ix51, at51, rfl⟩ := SlE.at hv4 e51
    have kc52 := (ai (At.agg (P := Try.prog) (t := 57) (v := .agg #[.int .i64 y51.1, .int .i64 y51.2.1, .int .i64 y51.2.2.1, .int .i64 y51.2.2.2]) (m := 4) at51 (by kernel_rfl) (by kernel_rfl) 0 (by kernel_rfl) rfl) (ai ix51 (ai c50 trivial)))
    refine dec_bif (fun c52 => ?_) (fun c52 => ?_)
    · intro hr
      obtain rfl := Option.some.inj hr
      show AWp Try.prog _ (Ends1 ((F14_x4 h x1 x2 x3 v4 v5 v6) (0 : Nat)).1 ((F14_x4 h x1 x2 x3 v4 v5 v6) (0 : Nat)).2) _
      exact pEnd_sound good (L := F14_L) (D := F14_D) (its := [.g, (.b true), .g, .g, .g, .g, .g, .g, .g, .g, (.ix id51 off51 g51), (.ld (.agg #[.int .i64 y51.1, .int .i64 y51.2.1, .int .i64 y51.2.2.1, .int .i64 y51.2.2.2])), .g, .g, .g, .g, .g, .g, .g, .n, .n, .n, .n, .n, (.p true), .g, .n, .n, .n, .g, .g, .n, .n, .n, .n, .n, .n, .n, .n, .n, .n, .n, .n, .n, .n, .n, .n, .g, (.b true), .g]) (ds := F14_m4_0) (ks := [1, 10]) (e := ((F14_x4 h x1 x2 x3 v4 v5 v6) (0 : Nat)).1) (s2 := ((F14_x4 h x1 x2 x3 v4 v5 v6) (0 : Nat)).2) (hC := (ai l_t (ai (g_tf l_t) (ai l_f (ai l_f (ai l_f (ai l_f (ai l_f (ai l_f (ai l_f (ai l_f (ai l_f (ai l_f (ai (g_tf l_t) (ai (g_tf l_t) (ai (g_tf l_t) (ai (g_tf l_t) (ai (g_tf l_t) (ai (g_tf l_t) (ai (g_tf l_t) (ai (g_tf l_t) (ai c52 (ai (g_tf c52) (ai (g_tf c52) (ai (g_tf c52) (ai (g_tf c52) (ai (g_tf c52) kc52))))))))))))))))))))))))))) (hd := F14_d4) (h := by kernel_rfl)
    · have kc54 := (ai c52 (ai (g_ff c52) (ai (show AKeep h h from (AHeap.sub_refl h)) (ai (F26_spec x1 x2 x3 l4 l5 l6 v4 v5 v6 h hv4 hv5 hv6 _ rfl) (ai (g_ff c52) (ai (g_ff c52) (ai (g_ff c52) (ai (g_ff c52) kc52))))))))
      refine dec_bif (fun c54 => ?_) (fun c54 => ?_)
      · intro hr
        obtain rfl := Option.some.inj hr
        show AWp Try.prog _ (Ends1 ((F14_x4 h x1 x2 x3 v4 v5 v6) (0 : Nat)).1 ((F14_x4 h x1 x2 x3 v4 v5 v6) (0 : Nat)).2) _
        exact pEnd_sound good (L := F14_L) (D := F14_D) (its := [.g, (.b true), .g, .g, .g, .g, .g, .g, .g, .g, (.ix id51 off51 g51), (.ld (.agg #[.int .i64 y51.1, .int .i64 y51.2.1, .int .i64 y51.2.2.1, .int .i64 y51.2.2.2])), .g, .g, .g, .g, .g, .g, .g, (.w .g), (.w .g), (.w .g), (.w (.c (.int .i64 (F26 x1 x2 x3 l4 l5 l6)) h)), (.w .g), (.p false), .g, .n, .n, .n, (.p true), .g, .n, .n, .n, .n, .n, .n, .n, .n, .n, .n, .n, .n, .n, .n, .n, .n, .g, (.b true), .g]) (ds := F14_m4_0) (ks := [1, 10]) (e := ((F14_x4 h x1 x2 x3 v4 v5 v6) (0 : Nat)).1) (s2 := ((F14_x4 h x1 x2 x3 v4 v5 v6) (0 : Nat)).2) (hC := (ai l_t (ai (g_tf l_t) (ai l_f (ai l_f (ai l_f (ai l_f (ai l_f (ai l_f (ai l_f (ai l_f (ai l_f (ai l_f (ai (g_tf l_t) (ai (g_tf l_t) (ai (g_tf l_t) (ai (g_tf l_t) (ai (g_tf l_t) (ai c54 (ai (g_tf c54) (ai (g_tf c54) (ai (g_tf c54) kc54)))))))))))))))))))))) (hd := F14_d4) (h := by kernel_rfl)
      · have kc55 := (ai c54 (ai (g_ff c54) (ai (g_ff c54) (ai (g_ff c54) kc54))))
        refine dec_bif (fun c55 => ?_) (fun c55 => ?_)
        · intro hr
          obtain rfl := Option.some.inj hr
          show AWp Try.prog _ (Ends1 ((F14_x4 h x1 x2 x3 v4 v5 v6) (0 : Nat)).1 ((F14_x4 h x1 x2 x3 v4 v5 v6) (0 : Nat)).2) _
          exact pEnd_sound good (L := F14_L) (D := F14_D) (its := [.g, (.b true), .g, .g, .g, .g, .g, .g, .g, .g, (.ix id51 off51 g51), (.ld (.agg #[.int .i64 y51.1, .int .i64 y51.2.1, .int .i64 y51.2.2.1, .int .i64 y51.2.2.2])), .g, .g, .g, .g, .g, .g, .g, (.w .g), (.w .g), (.w .g), (.w (.c (.int .i64 (F26 x1 x2 x3 l4 l5 l6)) h)), (.w .g), (.p false), .g, (.w .g), (.w .g), (.w .g), (.p false), .g, .n, .n, .n, .n, .n, .n, .n, .n, .n, .n, .n, .n, .n, .n, .n, .n, (.p true), (.b true), .g]) (ds := F14_m4_0) (ks := [1, 10]) (e := ((F14_x4 h x1 x2 x3 v4 v5 v6) (0 : Nat)).1) (s2 := ((F14_x4 h x1 x2 x3 v4 v5 v6) (0 : Nat)).2) (hC := (ai l_t (ai c55 (ai (g_tf c55) (ai l_f (ai l_f (ai l_f (ai l_f (ai l_f (ai l_f (ai l_f (ai l_f (ai l_f (ai l_f (ai (g_tf c55) (ai (g_tf c55) (ai (g_tf c55) (ai (g_tf c55) (ai (g_tf c55) kc55))))))))))))))))))) (hd := F14_d4) (h := by kernel_rfl)
        · have kc56 := (ai (g_ff c55) (ai (g_ff c55) (ai (g_ff c55) (ai (g_ff c55) (ai (g_ff c55) kc55)))))
          refine dec_bif (fun c56 => ?_) (fun c56 => ?_)
          · refine bind_opt fun y57 e57 => ?_
            obtain ⟨id57, off57, g57, cs57, ix57, at57, rfl⟩ := SlE.at hv6 e57
            have kc58 := (ai c55 (ai c56 (ai (g_ff c55) (ai (g_tt c56) (ai (g_tt c56) (ai (At.one (P := Try.prog) (t := 3) (v := .int .i64 y57.2) at57 (by kernel_rfl) 1 rfl rfl) (ai (g_tt c56) (ai (g_tt c56) (ai ix57 (ai (g_tt c56) (ai (g_tt c56) (ai (g_tt c56) (ai (g_tt c56) (ai (g_tt c56) (ai (g_tt c56) kc56)))))))))))))))
            refine dec_bif (fun c58 => ?_) (fun c58 => ?_)
            · intro hr
              obtain rfl := Option.some.inj hr
              show AWp Try.prog _ (Ends1 ((F14_x4 h x1 x2 x3 v4 v5 v6) (0 : Nat)).1 ((F14_x4 h x1 x2 x3 v4 v5 v6) (0 : Nat)).2) _
              exact pEnd_sound good (L := F14_L) (D := F14_D) (its := [.g, (.b true), .g, .g, .g, .g, .g, .g, .g, .g, (.ix id51 off51 g51), (.ld (.agg #[.int .i64 y51.1, .int .i64 y51.2.1, .int .i64 y51.2.2.1, .int .i64 y51.2.2.2])), .g, .g, .g, .g, .g, .g, .g, (.w .g), (.w .g), (.w .g), (.w (.c (.int .i64 (F26 x1 x2 x3 l4 l5 l6)) h)), (.w .g), (.p false), .g, (.w .g), (.w .g), (.w .g), (.p false), .g, (.w .g), (.w .g), (.w .g), (.w .g), (.w .g), (.w .g), (.w .g), (.w .g), (.w .g), (.w .g), (.w (.ix id57 off57 g57)), (.w .g), (.w (.ld (.int .i64 y57.2))), (.w .g), (.w .g), (.w (.p true)), (.p false), (.b true), .g]) (ds := F14_m4_0) (ks := [1, 10]) (e := ((F14_x4 h x1 x2 x3 v4 v5 v6) (0 : Nat)).1) (s2 := ((F14_x4 h x1 x2 x3 v4 v5 v6) (0 : Nat)).2) (hC := (ai c58 kc58)) (hd := F14_d4) (h := by kernel_rfl)
            · intro hr
              obtain rfl := Option.some.inj hr
              show AWp Try.prog _ (Ends1 .normal (F14_h4 h x1 x2 x3 v4 v5 v6 (IntKind.i64.wrap (a49 + 1)))) _
              exact pEnd_sound good (L := F14_L) (D := F14_D) (its := [.g, (.b true), .g, .g, .g, .g, .g, .g, .g, .g, (.ix id51 off51 g51), (.ld (.agg #[.int .i64 y51.1, .int .i64 y51.2.1, .int .i64 y51.2.2.1, .int .i64 y51.2.2.2])), .g, .g, .g, .g, .g, .g, .g, (.w .g), (.w .g), (.w .g), (.w (.c (.int .i64 (F26 x1 x2 x3 l4 l5 l6)) h)), (.w .g), (.p false), .g, (.w .g), (.w .g), (.w .g), (.p false), .g, (.w .g), (.w .g), (.w .g), (.w .g), (.w .g), (.w .g), (.w .g), (.w .g), (.w .g), (.w .g), (.w (.ix id57 off57 g57)), (.w .g), (.w (.ld (.int .i64 y57.2))), (.w .g), (.w .g), (.w (.p true)), (.p false), (.b false), .g, .g]) (ds := F14_m4_1) (ks := [10]) (e := .normal) (s2 := (F14_h4 h x1 x2 x3 v4 v5 v6 (IntKind.i64.wrap (a49 + 1)))) (hC := (ai c58 kc58)) (hd := F14_d4) (h := by kernel_rfl)
          · intro hr
            obtain rfl := Option.some.inj hr
            show AWp Try.prog _ (Ends1 .normal (F14_h4 h x1 x2 x3 v4 v5 v6 (IntKind.i64.wrap (a49 + 1)))) _
            exact pEnd_sound good (L := F14_L) (D := F14_D) (its := [.g, (.b true), .g, .g, .g, .g, .g, .g, .g, .g, (.ix id51 off51 g51), (.ld (.agg #[.int .i64 y51.1, .int .i64 y51.2.1, .int .i64 y51.2.2.1, .int .i64 y51.2.2.2])), .g, .g, .g, .g, .g, .g, .g, (.w .g), (.w .g), (.w .g), (.w (.c (.int .i64 (F26 x1 x2 x3 l4 l5 l6)) h)), (.w .g), (.p false), .g, (.w .g), (.w .g), (.w .g), (.p false), .g, (.w .g), (.w .g), (.w .g), (.w .g), (.w .g), .n, .n, .n, .n, .n, .n, .n, .n, .n, .n, (.w (.p false)), (.p false), (.b false), .g, .g]) (ds := F14_m4_1) (ks := [10]) (e := .normal) (s2 := (F14_h4 h x1 x2 x3 v4 v5 v6 (IntKind.i64.wrap (a49 + 1)))) (hC := (ai l_f (ai c55 (ai c56 (ai (g_ff c55) (ai (g_ft c56) (ai (g_ft c56) (ai (g_ft c56) (ai (g_ft c56) (ai (g_ft c56) (ai (g_ft c56) (ai (g_ft c56) (ai (g_ft c56) (ai (g_ft c56) (ai (g_ft c56) kc56))))))))))))))) (hd := F14_d4) (h := by kernel_rfl)
  · intro hr
    obtain rfl := Option.some.inj hr
    show AWp Try.prog _ (Ends1 ((F14_x4 h x1 x2 x3 v4 v5 v6) (1 : Nat)).1 ((F14_x4 h x1 x2 x3 v4 v5 v6) (1 : Nat)).2) _
    exact pEnd_sound good (L := F14_L) (D := F14_D) (its := [.g, (.b false)]) (ds := F14_m4_2) (ks := []) (e := ((F14_x4 h x1 x2 x3 v4 v5 v6) (1 : Nat)).1) (s2 := ((F14_x4 h x1 x2 x3 v4 v5 v6) (1 : Nat)).2) (hC := (ai c50 trivial)) (hd := F14_d4) (h := by kernel_rfl)
theorem F14_l4_0 (h : AHeap) (x1 : Int) (x2 : Int) (x3 : Bool) (l4 : List (Int × Int × Int × Int)) (v4 : Hd) (hv4 : SlE E57 4 h (sv v4) l4) (l5 : List (Int × Int × Int × Int)) (v5 : Hd) (hv5 : SlE E59 4 h (sv v5) l5) (l6 : List (Int × Int)) (v6 : Hd) (hv6 : SlE E61 2 h (sv v6) l6) (x : Int) (r : Nat) (hl : loopO (fun (s : Int) => F14_s4 x1 x2 x3 l4 l5 l6 s) x = some r) (q0 : Nat.beq r 0 = true) : AWp Try.prog (.loop (codeOf Try.prog 14 [1, 1, 1, 1, 1, 1, 1, 0, 1, 0, 0])) (Ends1 .ret (F14_x4_0 h x1 x2 x3 v4 v5 v6 r)) ((fun (s : Int) => (F14_h4 h x1 x2 x3 v4 v5 v6 s)) x) := by
  have k := loop_fun (P := Try.prog) (c := (codeOf Try.prog 14 [1, 1, 1, 1, 1, 1, 1, 0, 1, 0, 0])) (step := (fun (s : Int) => F14_s4 x1 x2 x3 l4 l5 l6 s)) (hd := (fun (s : Int) => (F14_h4 h x1 x2 x3 v4 v5 v6 s))) (X := (F14_x4 h x1 x2 x3 v4 v5 v6)) (by intro t; unfold F14_x4; cases Nat.beq t 0 <;> (intro h; cases h)) (fun x => F14_r4 h x1 x2 x3 l4 v4 hv4 l5 v5 hv5 l6 v6 hv6 x) hl
  simp only [F14_x4, q0, cond_true, cond_false] at k
  exact k
theorem F14_l4_1 (h : AHeap) (x1 : Int) (x2 : Int) (x3 : Bool) (l4 : List (Int × Int × Int × Int)) (v4 : Hd) (hv4 : SlE E57 4 h (sv v4) l4) (l5 : List (Int × Int × Int × Int)) (v5 : Hd) (hv5 : SlE E59 4 h (sv v5) l5) (l6 : List (Int × Int)) (v6 : Hd) (hv6 : SlE E61 2 h (sv v6) l6) (x : Int) (r : Nat) (hl : loopO (fun (s : Int) => F14_s4 x1 x2 x3 l4 l5 l6 s) x = some r) (q0 : Nat.beq r 0 = false) : AWp Try.prog (.loop (codeOf Try.prog 14 [1, 1, 1, 1, 1, 1, 1, 0, 1, 0, 0])) (Ends1 (.exit 6) (F14_x4_1 h x1 x2 x3 v4 v5 v6 r)) ((fun (s : Int) => (F14_h4 h x1 x2 x3 v4 v5 v6 s)) x) := by
  have k := loop_fun (P := Try.prog) (c := (codeOf Try.prog 14 [1, 1, 1, 1, 1, 1, 1, 0, 1, 0, 0])) (step := (fun (s : Int) => F14_s4 x1 x2 x3 l4 l5 l6 s)) (hd := (fun (s : Int) => (F14_h4 h x1 x2 x3 v4 v5 v6 s))) (X := (F14_x4 h x1 x2 x3 v4 v5 v6)) (by intro t; unfold F14_x4; cases Nat.beq t 0 <;> (intro h; cases h)) (fun x => F14_r4 h x1 x2 x3 l4 v4 hv4 l5 v5 hv5 l6 v6 hv6 x) hl
  simp only [F14_x4, q0, cond_true, cond_false] at k
  exact k
def F14_m5_2 : List Bool := (rp 275 true [])
def F14_m5_1 : List Bool := (true :: false :: (rp 227 true (false :: false :: (rp 44 true []))))
def F14_m5_0 : List Bool := (true :: true :: false :: (rp 272 true []))
def F14_s5 (l5 : List (Int × Int × Int × Int)) (l6 : List (Int × Int)) (a61 : Int) : Option (Int ⊕ Nat) :=
  (bif decide (a61 < (l6.length : Int)) then
   (Option.bind (at? l6 a61) fun y63 =>
   (bif decide (y63.1 < (-1)) then
    some (.inr 0)
   else
    (bif decide (y63.1 ≥ (l5.length : Int)) then
     some (.inr 0)
    else
     (bif (y63.1 == (-1)) then
      (bif (y63.2 != 0) then
       some (.inr 0)
      else
       (bif decide (y63.1 ≥ 0) then
        (bif decide (y63.2 < 1) then
         some (.inr 0)
        else
         (bif decide (y63.2 > 256) then
          some (.inr 0)
         else
          some (.inl (IntKind.i64.wrap (a61 + 1)))))
       else
        some (.inl (IntKind.i64.wrap (a61 + 1)))))
     else
      (bif decide (y63.1 ≥ 0) then
       (bif decide (y63.2 < 1) then
        some (.inr 0)
       else
        (bif decide (y63.2 > 256) then
         some (.inr 0)
        else
         some (.inl (IntKind.i64.wrap (a61 + 1)))))
      else
       some (.inl (IntKind.i64.wrap (a61 + 1))))))))
  else
   some (.inr 1))
def F14_h5 (h : AHeap) (x1 : Int) (x2 : Int) (x3 : Bool) (v4 : Hd) (v5 : Hd) (l6 : List (Int × Int)) (v6 : Hd)  (a61 : Int) : AS := ⟨(junk :: (.pointer (some ⟨1, 0, none⟩)) :: (rp 227 junk ((.int .i64 (l6.length : Int)) :: (.int .i64 a61) :: (rp 44 junk [])))), [(1, [.int .i64 x1, .int .i64 x2, .bool x3, (sv v4), (sv v5), (sv v6)])], h⟩
theorem F14_d5 : drawsOk F14_D (codeOf Try.prog 14 [1, 1, 1, 1, 1, 1, 1, 1, 0, 1, 0, 0]) = true := by kernel_rfl
def F14_x5_0 (h : AHeap)  (r : Nat) : AS := ⟨(junk :: junk :: (.bool false) :: (rp 272 junk [])), [], h⟩
def F14_x5_1 (h : AHeap)  (r : Nat) : AS := ⟨(rp 275 junk []), [], h⟩
def F14_x5 (h : AHeap) (r : Nat) : Exit × AS := (bif Nat.beq r 0 then (.ret, (F14_x5_0 h r)) else ((.exit 8), (F14_x5_1 h r)))
set_option maxRecDepth 100000 in
theorem F14_r5 (h : AHeap) (x1 : Int) (x2 : Int) (x3 : Bool) (v4 : Hd) (l5 : List (Int × Int × Int × Int)) (v5 : Hd) (hv5 : SlE E59 4 h (sv v5) l5) (l6 : List (Int × Int)) (v6 : Hd) (hv6 : SlE E61 2 h (sv v6) l6) (a61 : Int) (o : Int ⊕ Nat) : F14_s5 l5 l6 a61 = some o → RdF Try.prog (codeOf Try.prog 14 [1, 1, 1, 1, 1, 1, 1, 1, 0, 1, 0, 0]) (fun (s : Int) => (F14_h5 h x1 x2 x3 v4 v5 l6 v6 s)) (F14_x5 h) (F14_h5 h x1 x2 x3 v4 v5 l6 v6 a61) o := by
  unfold F14_s5
  refine dec_bif (fun c62 => ?_) (fun c62 => ?_)
  · refine bind_opt fun y63 e63 => ?_
    obtain ⟨id63, off63, g63, cs63, ix63, at63, rfl⟩ := SlE.at hv6 e63
    have kc64 := (ai (At.agg (P := Try.prog) (t := 61) (v := .agg #[.int .i64 y63.1, .int .i64 y63.2]) (m := 2) at63 (by kernel_rfl) (by kernel_rfl) 0 (by kernel_rfl) rfl) (ai ix63 (ai c62 trivial)))
    refine dec_bif (fun c64 => ?_) (fun c64 => ?_)
    · intro hr
      obtain rfl := Option.some.inj hr
      show AWp Try.prog _ (Ends1 ((F14_x5 h) (0 : Nat)).1 ((F14_x5 h) (0 : Nat)).2) _
      exact pEnd_sound good (L := F14_L) (D := F14_D) (its := [.g, (.b true), .g, .g, .g, .g, .g, (.ix id63 off63 g63), (.ld (.agg #[.int .i64 y63.1, .int .i64 y63.2])), .g, .g, .g, .g, .g, .g, .n, .n, .n, .n, .n, .n, (.p true), .g, .n, .n, .n, .n, .n, .n, .n, .n, .g, .g, .n, .n, .n, .n, .n, .n, .n, .n, .n, .n, .n, .n, .n, .g, (.b true), .g]) (ds := F14_m5_0) (ks := [1, 12]) (e := ((F14_x5 h) (0 : Nat)).1) (s2 := ((F14_x5 h) (0 : Nat)).2) (hC := (ai l_t (ai (g_tf l_t) (ai l_f (ai l_f (ai l_f (ai l_f (ai l_f (ai l_f (ai l_f (ai l_f (ai (g_tf l_t) (ai (g_tf l_t) (ai (g_tf l_t) (ai (g_tf l_t) (ai (g_tf l_t) (ai l_f (ai l_f (ai l_f (ai (g_tf l_t) (ai (g_tf l_t) (ai (g_tf l_t) (ai (g_tf l_t) (ai c64 (ai (g_tf c64) (ai (g_tf c64) (ai (g_tf c64) (ai (g_tf c64) (ai (g_tf c64) (ai (g_tf c64) kc64)))))))))))))))))))))))))))))) (hd := F14_d5) (h := by kernel_rfl)
    · have kc65 := (ai c64 (ai (g_ff c64) (ai (SlE.len hv5) (ai (g_ff c64) (ai (g_ff c64) (ai (g_ff c64) (ai (g_ff c64) (ai (g_ff c64) kc64))))))))
      refine dec_bif (fun c65 => ?_) (fun c65 => ?_)
      · intro hr
        obtain rfl := Option.some.inj hr
        show AWp Try.prog _ (Ends1 ((F14_x5 h) (0 : Nat)).1 ((F14_x5 h) (0 : Nat)).2) _
        exact pEnd_sound good (L := F14_L) (D := F14_D) (its := [.g, (.b true), .g, .g, .g, .g, .g, (.ix id63 off63 g63), (.ld (.agg #[.int .i64 y63.1, .int .i64 y63.2])), .g, .g, .g, .g, .g, .g, (.w .g), (.w .g), (.w .g), (.w .g), (.w (.ln l5.length)), (.w .g), (.p false), .g, .n, .n, .n, .n, .n, .n, .n, .n, (.p true), .g, .n, .n, .n, .n, .n, .n, .n, .n, .n, .n, .n, .n, .n, .g, (.b true), .g]) (ds := F14_m5_0) (ks := [1, 12]) (e := ((F14_x5 h) (0 : Nat)).1) (s2 := ((F14_x5 h) (0 : Nat)).2) (hC := (ai l_t (ai (g_tf l_t) (ai l_f (ai l_f (ai l_f (ai l_f (ai l_f (ai l_f (ai l_f (ai l_f (ai (g_tf l_t) (ai (g_tf l_t) (ai (g_tf l_t) (ai (g_tf l_t) (ai c65 (ai (g_tf c65) (ai l_f (ai l_f (ai l_f (ai (g_tf c65) (ai (g_tf c65) (ai (g_tf c65) (ai (g_tf c65) kc65)))))))))))))))))))))))) (hd := F14_d5) (h := by kernel_rfl)
      · have kc66 := (ai (g_ff c65) (ai (g_ff c65) (ai (g_ff c65) (ai (g_ff c65) kc65))))
        refine dec_bif (fun c66 => ?_) (fun c66 => ?_)
        · have kc67 := (ai c65 (ai c66 (ai (g_ff c65) (ai (g_tt c66) (ai (g_tt c66) (ai (g_tt c66) kc66))))))
          refine dec_bif (fun c67 => ?_) (fun c67 => ?_)
          · intro hr
            obtain rfl := Option.some.inj hr
            show AWp Try.prog _ (Ends1 ((F14_x5 h) (0 : Nat)).1 ((F14_x5 h) (0 : Nat)).2) _
            exact pEnd_sound good (L := F14_L) (D := F14_D) (its := [.g, (.b true), .g, .g, .g, .g, .g, (.ix id63 off63 g63), (.ld (.agg #[.int .i64 y63.1, .int .i64 y63.2])), .g, .g, .g, .g, .g, .g, (.w .g), (.w .g), (.w .g), (.w .g), (.w (.ln l5.length)), (.w .g), (.p false), .g, (.w .g), (.w .g), (.w .g), (.w .g), (.w .g), (.w .g), (.w .g), (.w (.p true)), (.p false), .g, .n, .n, .n, .n, .n, .n, .n, .n, .n, .n, .n, .n, .n, (.p true), (.b true), .g]) (ds := F14_m5_0) (ks := [1, 12]) (e := ((F14_x5 h) (0 : Nat)).1) (s2 := ((F14_x5 h) (0 : Nat)).2) (hC := (ai l_t (ai c67 (ai (g_tf c67) (ai l_f (ai l_f (ai l_f (ai l_f (ai l_f (ai l_f (ai l_f (ai l_f (ai (g_tf c67) (ai (g_tf c67) (ai (g_tf c67) (ai (g_tf c67) kc67)))))))))))))))) (hd := F14_d5) (h := by kernel_rfl)
          · have kc68 := (ai (g_ff c67) (ai (g_ff c67) (ai (g_ff c67) (ai (g_ff c67) kc67))))
            refine dec_bif (fun c68 => ?_) (fun c68 => ?_)
            · have kc69 := (ai (g_tt c68) (ai (g_tt c68) (ai (g_tt c68) (ai (g_tt c68) kc68))))
              refine dec_bif (fun c69 => ?_) (fun c69 => ?_)
              · intro hr
                obtain rfl := Option.some.inj hr
                show AWp Try.prog _ (Ends1 ((F14_x5 h) (0 : Nat)).1 ((F14_x5 h) (0 : Nat)).2) _
                exact pEnd_sound good (L := F14_L) (D := F14_D) (its := [.g, (.b true), .g, .g, .g, .g, .g, (.ix id63 off63 g63), (.ld (.agg #[.int .i64 y63.1, .int .i64 y63.2])), .g, .g, .g, .g, .g, .g, (.w .g), (.w .g), (.w .g), (.w .g), (.w (.ln l5.length)), (.w .g), (.p false), .g, (.w .g), (.w .g), (.w .g), (.w .g), (.w .g), (.w .g), (.w .g), (.w (.p true)), (.p false), .g, (.w .g), (.w .g), (.w .g), (.w .g), (.w .g), (.w .g), (.w .g), (.w .g), .n, .n, .n, (.w (.p true)), (.w (.p true)), (.p false), (.b true), .g]) (ds := F14_m5_0) (ks := [1, 12]) (e := ((F14_x5 h) (0 : Nat)).1) (s2 := ((F14_x5 h) (0 : Nat)).2) (hC := (ai l_t (ai c67 (ai c68 (ai (g_ff c67) (ai c69 (ai (g_tt c68) (ai (g_tf c69) (ai (g_tf c69) (ai (g_tf c69) kc69)))))))))) (hd := F14_d5) (h := by kernel_rfl)
              · have kc70 := (ai c67 (ai c68 (ai (g_ff c67) (ai c69 (ai (g_tt c68) (ai (g_ff c69) (ai (g_ff c69) (ai (g_ff c69) kc69))))))))
                refine dec_bif (fun c70 => ?_) (fun c70 => ?_)
                · intro hr
                  obtain rfl := Option.some.inj hr
                  show AWp Try.prog _ (Ends1 ((F14_x5 h) (0 : Nat)).1 ((F14_x5 h) (0 : Nat)).2) _
                  exact pEnd_sound good (L := F14_L) (D := F14_D) (its := [.g, (.b true), .g, .g, .g, .g, .g, (.ix id63 off63 g63), (.ld (.agg #[.int .i64 y63.1, .int .i64 y63.2])), .g, .g, .g, .g, .g, .g, (.w .g), (.w .g), (.w .g), (.w .g), (.w (.ln l5.length)), (.w .g), (.p false), .g, (.w .g), (.w .g), (.w .g), (.w .g), (.w .g), (.w .g), (.w .g), (.w (.p true)), (.p false), .g, (.w .g), (.w .g), (.w .g), (.w .g), (.w .g), (.w .g), (.w .g), (.w .g), (.w .g), (.w .g), (.w .g), (.w (.p false)), (.w (.p true)), (.p false), (.b true), .g]) (ds := F14_m5_0) (ks := [1, 12]) (e := ((F14_x5 h) (0 : Nat)).1) (s2 := ((F14_x5 h) (0 : Nat)).2) (hC := (ai c70 kc70)) (hd := F14_d5) (h := by kernel_rfl)
                · intro hr
                  obtain rfl := Option.some.inj hr
                  show AWp Try.prog _ (Ends1 .normal (F14_h5 h x1 x2 x3 v4 v5 l6 v6 (IntKind.i64.wrap (a61 + 1)))) _
                  exact pEnd_sound good (L := F14_L) (D := F14_D) (its := [.g, (.b true), .g, .g, .g, .g, .g, (.ix id63 off63 g63), (.ld (.agg #[.int .i64 y63.1, .int .i64 y63.2])), .g, .g, .g, .g, .g, .g, (.w .g), (.w .g), (.w .g), (.w .g), (.w (.ln l5.length)), (.w .g), (.p false), .g, (.w .g), (.w .g), (.w .g), (.w .g), (.w .g), (.w .g), (.w .g), (.w (.p true)), (.p false), .g, (.w .g), (.w .g), (.w .g), (.w .g), (.w .g), (.w .g), (.w .g), (.w .g), (.w .g), (.w .g), (.w .g), (.w (.p false)), (.w (.p true)), (.p false), (.b false), .g, .g]) (ds := F14_m5_1) (ks := [12]) (e := .normal) (s2 := (F14_h5 h x1 x2 x3 v4 v5 l6 v6 (IntKind.i64.wrap (a61 + 1)))) (hC := (ai c70 kc70)) (hd := F14_d5) (h := by kernel_rfl)
            · intro hr
              obtain rfl := Option.some.inj hr
              show AWp Try.prog _ (Ends1 .normal (F14_h5 h x1 x2 x3 v4 v5 l6 v6 (IntKind.i64.wrap (a61 + 1)))) _
              exact pEnd_sound good (L := F14_L) (D := F14_D) (its := [.g, (.b true), .g, .g, .g, .g, .g, (.ix id63 off63 g63), (.ld (.agg #[.int .i64 y63.1, .int .i64 y63.2])), .g, .g, .g, .g, .g, .g, (.w .g), (.w .g), (.w .g), (.w .g), (.w (.ln l5.length)), (.w .g), (.p false), .g, (.w .g), (.w .g), (.w .g), (.w .g), (.w .g), (.w .g), (.w .g), (.w (.p true)), (.p false), .g, (.w .g), (.w .g), (.w .g), (.w .g), .n, .n, .n, .n, .n, .n, .n, .n, (.w (.p false)), (.p false), (.b false), .g, .g]) (ds := F14_m5_1) (ks := [12]) (e := .normal) (s2 := (F14_h5 h x1 x2 x3 v4 v5 l6 v6 (IntKind.i64.wrap (a61 + 1)))) (hC := (ai l_f (ai c67 (ai c68 (ai (g_ff c67) (ai (g_ft c68) (ai l_f (ai l_f (ai l_f (ai (g_ft c68) (ai (g_ft c68) (ai (g_ft c68) (ai (g_ft c68) kc68))))))))))))) (hd := F14_d5) (h := by kernel_rfl)
        · have kc71 := (ai (g_ff l_f) (ai (g_ff l_f) (ai (g_ff l_f) (ai (g_ff l_f) (ai c65 (ai c66 (ai (g_ff c65) (ai (g_ft c66) (ai (g_ft c66) (ai (g_ft c66) kc66))))))))))
          refine dec_bif (fun c71 => ?_) (fun c71 => ?_)
          · have kc72 := (ai (g_tt c71) (ai (g_tt c71) (ai (g_tt c71) (ai (g_tt c71) kc71))))
            refine dec_bif (fun c72 => ?_) (fun c72 => ?_)
            · intro hr
              obtain rfl := Option.some.inj hr
              show AWp Try.prog _ (Ends1 ((F14_x5 h) (0 : Nat)).1 ((F14_x5 h) (0 : Nat)).2) _
              exact pEnd_sound good (L := F14_L) (D := F14_D) (its := [.g, (.b true), .g, .g, .g, .g, .g, (.ix id63 off63 g63), (.ld (.agg #[.int .i64 y63.1, .int .i64 y63.2])), .g, .g, .g, .g, .g, .g, (.w .g), (.w .g), (.w .g), (.w .g), (.w (.ln l5.length)), (.w .g), (.p false), .g, (.w .g), (.w .g), (.w .g), (.w .g), .n, .n, .n, (.w (.p false)), (.p false), .g, (.w .g), (.w .g), (.w .g), (.w .g), (.w .g), (.w .g), (.w .g), (.w .g), .n, .n, .n, (.w (.p true)), (.w (.p true)), .g, (.b true), .g]) (ds := F14_m5_0) (ks := [1, 12]) (e := ((F14_x5 h) (0 : Nat)).1) (s2 := ((F14_x5 h) (0 : Nat)).2) (hC := (ai l_t (ai c71 (ai (g_ff l_f) (ai c72 (ai (g_tt c71) (ai (g_tf c72) (ai (g_tf c72) (ai (g_tf c72) kc72))))))))) (hd := F14_d5) (h := by kernel_rfl)
            · have kc73 := (ai c71 (ai (g_ff l_f) (ai c72 (ai (g_tt c71) (ai (g_ff c72) (ai (g_ff c72) (ai (g_ff c72) kc72)))))))
              refine dec_bif (fun c73 => ?_) (fun c73 => ?_)
              · intro hr
                obtain rfl := Option.some.inj hr
                show AWp Try.prog _ (Ends1 ((F14_x5 h) (0 : Nat)).1 ((F14_x5 h) (0 : Nat)).2) _
                exact pEnd_sound good (L := F14_L) (D := F14_D) (its := [.g, (.b true), .g, .g, .g, .g, .g, (.ix id63 off63 g63), (.ld (.agg #[.int .i64 y63.1, .int .i64 y63.2])), .g, .g, .g, .g, .g, .g, (.w .g), (.w .g), (.w .g), (.w .g), (.w (.ln l5.length)), (.w .g), (.p false), .g, (.w .g), (.w .g), (.w .g), (.w .g), .n, .n, .n, (.w (.p false)), (.p false), .g, (.w .g), (.w .g), (.w .g), (.w .g), (.w .g), (.w .g), (.w .g), (.w .g), (.w .g), (.w .g), (.w .g), (.w (.p false)), (.w (.p true)), .g, (.b true), .g]) (ds := F14_m5_0) (ks := [1, 12]) (e := ((F14_x5 h) (0 : Nat)).1) (s2 := ((F14_x5 h) (0 : Nat)).2) (hC := (ai c73 kc73)) (hd := F14_d5) (h := by kernel_rfl)
              · intro hr
                obtain rfl := Option.some.inj hr
                show AWp Try.prog _ (Ends1 .normal (F14_h5 h x1 x2 x3 v4 v5 l6 v6 (IntKind.i64.wrap (a61 + 1)))) _
                exact pEnd_sound good (L := F14_L) (D := F14_D) (its := [.g, (.b true), .g, .g, .g, .g, .g, (.ix id63 off63 g63), (.ld (.agg #[.int .i64 y63.1, .int .i64 y63.2])), .g, .g, .g, .g, .g, .g, (.w .g), (.w .g), (.w .g), (.w .g), (.w (.ln l5.length)), (.w .g), (.p false), .g, (.w .g), (.w .g), (.w .g), (.w .g), .n, .n, .n, (.w (.p false)), (.p false), .g, (.w .g), (.w .g), (.w .g), (.w .g), (.w .g), (.w .g), (.w .g), (.w .g), (.w .g), (.w .g), (.w .g), (.w (.p false)), (.w (.p true)), .g, (.b false), .g, .g]) (ds := F14_m5_1) (ks := [12]) (e := .normal) (s2 := (F14_h5 h x1 x2 x3 v4 v5 l6 v6 (IntKind.i64.wrap (a61 + 1)))) (hC := (ai c73 kc73)) (hd := F14_d5) (h := by kernel_rfl)
          · intro hr
            obtain rfl := Option.some.inj hr
            show AWp Try.prog _ (Ends1 .normal (F14_h5 h x1 x2 x3 v4 v5 l6 v6 (IntKind.i64.wrap (a61 + 1)))) _
            exact pEnd_sound good (L := F14_L) (D := F14_D) (its := [.g, (.b true), .g, .g, .g, .g, .g, (.ix id63 off63 g63), (.ld (.agg #[.int .i64 y63.1, .int .i64 y63.2])), .g, .g, .g, .g, .g, .g, (.w .g), (.w .g), (.w .g), (.w .g), (.w (.ln l5.length)), (.w .g), (.p false), .g, (.w .g), (.w .g), (.w .g), (.w .g), .n, .n, .n, (.w (.p false)), (.p false), .g, (.w .g), (.w .g), (.w .g), (.w .g), .n, .n, .n, .n, .n, .n, .n, .n, (.w (.p false)), .g, (.b false), .g, .g]) (ds := F14_m5_1) (ks := [12]) (e := .normal) (s2 := (F14_h5 h x1 x2 x3 v4 v5 l6 v6 (IntKind.i64.wrap (a61 + 1)))) (hC := (ai l_f (ai c71 (ai (g_ff l_f) (ai (g_ft c71) (ai l_f (ai l_f (ai l_f (ai (g_ft c71) (ai (g_ft c71) (ai (g_ft c71) (ai (g_ft c71) kc71)))))))))))) (hd := F14_d5) (h := by kernel_rfl)
  · intro hr
    obtain rfl := Option.some.inj hr
    show AWp Try.prog _ (Ends1 ((F14_x5 h) (1 : Nat)).1 ((F14_x5 h) (1 : Nat)).2) _
    exact pEnd_sound good (L := F14_L) (D := F14_D) (its := [.g, (.b false)]) (ds := F14_m5_2) (ks := [1]) (e := ((F14_x5 h) (1 : Nat)).1) (s2 := ((F14_x5 h) (1 : Nat)).2) (hC := (ai c62 trivial)) (hd := F14_d5) (h := by kernel_rfl)
theorem F14_l5_0 (h : AHeap) (x1 : Int) (x2 : Int) (x3 : Bool) (v4 : Hd) (l5 : List (Int × Int × Int × Int)) (v5 : Hd) (hv5 : SlE E59 4 h (sv v5) l5) (l6 : List (Int × Int)) (v6 : Hd) (hv6 : SlE E61 2 h (sv v6) l6) (x : Int) (r : Nat) (hl : loopO (fun (s : Int) => F14_s5 l5 l6 s) x = some r) (q0 : Nat.beq r 0 = true) : AWp Try.prog (.loop (codeOf Try.prog 14 [1, 1, 1, 1, 1, 1, 1, 1, 0, 1, 0, 0])) (Ends1 .ret (F14_x5_0 h r)) ((fun (s : Int) => (F14_h5 h x1 x2 x3 v4 v5 l6 v6 s)) x) := by
  have k := loop_fun (P := Try.prog) (c := (codeOf Try.prog 14 [1, 1, 1, 1, 1, 1, 1, 1, 0, 1, 0, 0])) (step := (fun (s : Int) => F14_s5 l5 l6 s)) (hd := (fun (s : Int) => (F14_h5 h x1 x2 x3 v4 v5 l6 v6 s))) (X := (F14_x5 h)) (by intro t; unfold F14_x5; cases Nat.beq t 0 <;> (intro h; cases h)) (fun x => F14_r5 h x1 x2 x3 v4 l5 v5 hv5 l6 v6 hv6 x) hl
  simp only [F14_x5, q0, cond_true, cond_false] at k
  exact k
theorem F14_l5_1 (h : AHeap) (x1 : Int) (x2 : Int) (x3 : Bool) (v4 : Hd) (l5 : List (Int × Int × Int × Int)) (v5 : Hd) (hv5 : SlE E59 4 h (sv v5) l5) (l6 : List (Int × Int)) (v6 : Hd) (hv6 : SlE E61 2 h (sv v6) l6) (x : Int) (r : Nat) (hl : loopO (fun (s : Int) => F14_s5 l5 l6 s) x = some r) (q0 : Nat.beq r 0 = false) : AWp Try.prog (.loop (codeOf Try.prog 14 [1, 1, 1, 1, 1, 1, 1, 1, 0, 1, 0, 0])) (Ends1 (.exit 8) (F14_x5_1 h r)) ((fun (s : Int) => (F14_h5 h x1 x2 x3 v4 v5 l6 v6 s)) x) := by
  have k := loop_fun (P := Try.prog) (c := (codeOf Try.prog 14 [1, 1, 1, 1, 1, 1, 1, 1, 0, 1, 0, 0])) (step := (fun (s : Int) => F14_s5 l5 l6 s)) (hd := (fun (s : Int) => (F14_h5 h x1 x2 x3 v4 v5 l6 v6 s))) (X := (F14_x5 h)) (by intro t; unfold F14_x5; cases Nat.beq t 0 <;> (intro h; cases h)) (fun x => F14_r5 h x1 x2 x3 v4 l5 v5 hv5 l6 v6 hv6 x) hl
  simp only [F14_x5, q0, cond_true, cond_false] at k
  exact k
def F14 (x1 : Int) (x2 : Int) (x3 : Bool) (l4 : List (Int × Int × Int × Int)) (l5 : List (Int × Int × Int × Int)) (l6 : List (Int × Int)) : Option (Bool) :=
  (bif decide (x1 < 0) then
   some (false)
  else
   (bif decide (x1 > 4096) then
    some (false)
   else
    (bif decide (x2 < 0) then
     some (false)
    else
     (bif decide (x2 > 4094) then
      some (false)
     else
      (bif ((l6.length : Int) != x1) then
       some (false)
      else
       (Option.bind (loopO (fun (s : Int) => F14_s1 x1 x2 x3 l4 s) 0) fun y25 =>
       (bif (Nat.beq y25 0) then
        some (false)
       else
        (bif decide ((l4.length : Int) < (F14__2 x1 x2)) then
         some (false)
        else
         (Option.bind (loopO (fun (s : Int) => F14_s2 x1 x2 x3 l4 l5 l6 s) 0) fun y38 =>
         (bif (Nat.beq y38 0) then
          some (false)
         else
          (Option.bind (loopO (fun (s : Int) => F14_s3 l5 s) 0) fun y47 =>
          (bif (Nat.beq y47 0) then
           some (false)
          else
           (Option.bind (loopO (fun (s : Int) => F14_s4 x1 x2 x3 l4 l5 l6 s) 0) fun y59 =>
           (bif (Nat.beq y59 0) then
            some (false)
           else
            (Option.bind (loopO (fun (s : Int) => F14_s5 l5 l6 s) 0) fun y74 =>
            (bif (Nat.beq y74 0) then
             some (false)
            else
             some (true)))))))))))))))))
set_option maxRecDepth 100000 in
theorem F14_spec (x1 : Int) (x2 : Int) (x3 : Bool) (l4 : List (Int × Int × Int × Int)) (l5 : List (Int × Int × Int × Int)) (l6 : List (Int × Int)) (v4 : Hd) (v5 : Hd) (v6 : Hd) (h : AHeap) (hv4 : SlE E57 4 h (sv v4) l4) (hv5 : SlE E59 4 h (sv v5) l5) (hv6 : SlE E61 2 h (sv v6) l6) (r : Bool) : F14 x1 x2 x3 l4 l5 l6 = some r → ACalls Try.prog 14 [.agg #[.int .i64 x1, .int .i64 x2, .bool x3, (sv v4), (sv v5), (sv v6)]] h (fun v' h'' => v' = (.bool r : Value) ∧ h'' = h) := by
  unfold F14
  refine dec_bif (fun c7 => ?_) (fun c7 => ?_)
  · intro hr
    obtain rfl := Option.some.inj hr
    exact pFun_sound good tab_ok (f := 14) (its := [.g, .g, .g, .g, .g, .g, .n, .n, .n, (.p true), .g, .n, .n, .n, .g, .g, .n, .n, .n, .g, .g, .n, .n, .n, .n, .n, .n, .g, (.b true), .g]) (args := [.agg #[.int .i64 x1, .int .i64 x2, .bool x3, (sv v4), (sv v5), (sv v6)]]) (h := h) (h' := h) (v := .bool false) (hC := (ai l_t (ai (g_tf l_t) (ai (g_tf l_t) (ai (g_tf l_t) (ai (g_tf l_t) (ai (g_tf l_t) (ai (g_tf l_t) (ai (g_tf l_t) (ai (g_tf l_t) (ai (g_tf l_t) (ai (g_tf l_t) (ai (g_tf l_t) (ai (g_tf l_t) (ai c7 (ai (g_tf c7) (ai (g_tf c7) (ai (g_tf c7) trivial)))))))))))))))))) (hr := by kernel_rfl)
  · have kc8 := (ai c7 (ai (g_ff c7) (ai (g_ff c7) (ai (g_ff c7) trivial))))
    refine dec_bif (fun c8 => ?_) (fun c8 => ?_)
    · intro hr
      obtain rfl := Option.some.inj hr
      exact pFun_sound good tab_ok (f := 14) (its := [.g, .g, .g, .g, .g, .g, (.w .g), (.w .g), (.w .g), (.p false), .g, .n, .n, .n, (.p true), .g, .n, .n, .n, .g, .g, .n, .n, .n, .n, .n, .n, .g, (.b true), .g]) (args := [.agg #[.int .i64 x1, .int .i64 x2, .bool x3, (sv v4), (sv v5), (sv v6)]]) (h := h) (h' := h) (v := .bool false) (hC := (ai l_t (ai (g_tf l_t) (ai (g_tf l_t) (ai (g_tf l_t) (ai (g_tf l_t) (ai (g_tf l_t) (ai (g_tf l_t) (ai (g_tf l_t) (ai (g_tf l_t) (ai (g_tf l_t) (ai c8 (ai (g_tf c8) (ai (g_tf c8) (ai (g_tf c8) kc8))))))))))))))) (hr := by kernel_rfl)
    · have kc9 := (ai c8 (ai (g_ff c8) (ai (g_ff c8) (ai (g_ff c8) kc8))))
      refine dec_bif (fun c9 => ?_) (fun c9 => ?_)
      · intro hr
        obtain rfl := Option.some.inj hr
        exact pFun_sound good tab_ok (f := 14) (its := [.g, .g, .g, .g, .g, .g, (.w .g), (.w .g), (.w .g), (.p false), .g, (.w .g), (.w .g), (.w .g), (.p false), .g, .n, .n, .n, (.p true), .g, .n, .n, .n, .n, .n, .n, .g, (.b true), .g]) (args := [.agg #[.int .i64 x1, .int .i64 x2, .bool x3, (sv v4), (sv v5), (sv v6)]]) (h := h) (h' := h) (v := .bool false) (hC := (ai l_t (ai (g_tf l_t) (ai (g_tf l_t) (ai (g_tf l_t) (ai (g_tf l_t) (ai (g_tf l_t) (ai (g_tf l_t) (ai c9 (ai (g_tf c9) (ai (g_tf c9) (ai (g_tf c9) kc9)))))))))))) (hr := by kernel_rfl)
      · have kc10 := (ai c9 (ai (g_ff c9) (ai (g_ff c9) (ai (g_ff c9) kc9))))
        refine dec_bif (fun c10 => ?_) (fun c10 => ?_)
        · intro hr
          obtain rfl := Option.some.inj hr
          exact pFun_sound good tab_ok (f := 14) (its := [.g, .g, .g, .g, .g, .g, (.w .g), (.w .g), (.w .g), (.p false), .g, (.w .g), (.w .g), (.w .g), (.p false), .g, (.w .g), (.w .g), (.w .g), (.p false), .g, .n, .n, .n, .n, .n, .n, (.p true), (.b true), .g]) (args := [.agg #[.int .i64 x1, .int .i64 x2, .bool x3, (sv v4), (sv v5), (sv v6)]]) (h := h) (h' := h) (v := .bool false) (hC := (ai l_t (ai c10 (ai (g_tf c10) (ai (g_tf c10) (ai (g_tf c10) (ai (g_tf c10) (ai (g_tf c10) (ai (g_tf c10) kc10))))))))) (hr := by kernel_rfl)
        · have kc11 := (ai c10 (ai (g_ff c10) (ai (g_ff c10) (ai (g_ff c10) (ai (SlE.len hv6) (ai (g_ff c10) (ai (g_ff c10) (ai (g_ff c10) kc10))))))))
          refine dec_bif (fun c11 => ?_) (fun c11 => ?_)
          · intro hr
            obtain rfl := Option.some.inj hr
            exact pFun_sound good tab_ok (f := 14) (its := [.g, .g, .g, .g, .g, .g, (.w .g), (.w .g), (.w .g), (.p false), .g, (.w .g), (.w .g), (.w .g), (.p false), .g, (.w .g), (.w .g), (.w .g), (.p false), .g, (.w .g), (.w .g), (.w (.ln l6.length)), (.w .g), (.w .g), (.w .g), (.p false), (.b true), .g]) (args := [.agg #[.int .i64 x1, .int .i64 x2, .bool x3, (sv v4), (sv v5), (sv v6)]]) (h := h) (h' := h) (v := .bool false) (hC := (ai c11 kc11)) (hr := by kernel_rfl)
          · refine bind_opt fun y25 e25 => ?_
            have kc26 := (ai (SlE.len hv4) (ai c11 kc11))
            refine dec_bif (fun c26 => ?_) (fun c26 => ?_)
            · intro hr
              obtain rfl := Option.some.inj hr
              exact pFun_sound good tab_ok (f := 14) (its := [.g, .g, .g, .g, .g, .g, (.w .g), (.w .g), (.w .g), (.p false), .g, (.w .g), (.w .g), (.w .g), (.p false), .g, (.w .g), (.w .g), (.w .g), (.p false), .g, (.w .g), (.w .g), (.w (.ln l6.length)), (.w .g), (.w .g), (.w .g), (.p false), (.b false), .g, .g, .g, .g, .g, .g, .g, .g, .g, (.ln l4.length), .g, (.l F14_m1_1 [] .ret (F14_x1_0 h x1 x2 x3 v4 v5 v6 y25))]) (args := [.agg #[.int .i64 x1, .int .i64 x2, .bool x3, (sv v4), (sv v5), (sv v6)]]) (h := h) (h' := h) (v := .bool false) (hC := (ai (F14_l1_0 h x1 x2 x3 l4 v4 hv4 v5 v6 0 y25 e25 c26) kc26)) (hr := by kernel_rfl)
            · have kc27 := (ai (SlE.len hv4) (ai (F14_l1_1 h x1 x2 x3 l4 v4 hv4 v5 v6 0 y25 e25 c26) kc26))
              refine dec_bif (fun c27 => ?_) (fun c27 => ?_)
              · intro hr
                obtain rfl := Option.some.inj hr
                exact pFun_sound good tab_ok (f := 14) (its := [.g, .g, .g, .g, .g, .g, (.w .g), (.w .g), (.w .g), (.p false), .g, (.w .g), (.w .g), (.w .g), (.p false), .g, (.w .g), (.w .g), (.w .g), (.p false), .g, (.w .g), (.w .g), (.w (.ln l6.length)), (.w .g), (.w .g), (.w .g), (.p false), (.b false), .g, .g, .g, .g, .g, .g, .g, .g, .g, (.ln l4.length), .g, (.l F14_m1_1 [] (.exit 0) (F14_x1_1 h x1 x2 x3 v4 v5 v6 y25)), .g, .g, (.ln l4.length), .g, .g, .g, .g, (.b true), .g]) (args := [.agg #[.int .i64 x1, .int .i64 x2, .bool x3, (sv v4), (sv v5), (sv v6)]]) (h := h) (h' := h) (v := .bool false) (hC := (ai c27 kc27)) (hr := by kernel_rfl)
              · refine bind_opt fun y38 e38 => ?_
                have kc39 := (ai c27 kc27)
                refine dec_bif (fun c39 => ?_) (fun c39 => ?_)
                · intro hr
                  obtain rfl := Option.some.inj hr
                  exact pFun_sound good tab_ok (f := 14) (its := [.g, .g, .g, .g, .g, .g, (.w .g), (.w .g), (.w .g), (.p false), .g, (.w .g), (.w .g), (.w .g), (.p false), .g, (.w .g), (.w .g), (.w .g), (.p false), .g, (.w .g), (.w .g), (.w (.ln l6.length)), (.w .g), (.w .g), (.w .g), (.p false), (.b false), .g, .g, .g, .g, .g, .g, .g, .g, .g, (.ln l4.length), .g, (.l F14_m1_1 [] (.exit 0) (F14_x1_1 h x1 x2 x3 v4 v5 v6 y25)), .g, .g, (.ln l4.length), .g, .g, .g, .g, (.b false), .g, .g, .g, (.l F14_m2_1 [] .ret (F14_x2_0 h x1 x2 x3 v4 v5 v6 y38))]) (args := [.agg #[.int .i64 x1, .int .i64 x2, .bool x3, (sv v4), (sv v5), (sv v6)]]) (h := h) (h' := h) (v := .bool false) (hC := (ai (F14_l2_0 h x1 x2 x3 l4 v4 hv4 l5 v5 hv5 l6 v6 hv6 0 y38 e38 c39) kc39)) (hr := by kernel_rfl)
                · refine bind_opt fun y47 e47 => ?_
                  have kc48 := (ai (SlE.len hv5) (ai (F14_l2_1 h x1 x2 x3 l4 v4 hv4 l5 v5 hv5 l6 v6 hv6 0 y38 e38 c39) kc39))
                  refine dec_bif (fun c48 => ?_) (fun c48 => ?_)
                  · intro hr
                    obtain rfl := Option.some.inj hr
                    exact pFun_sound good tab_ok (f := 14) (its := [.g, .g, .g, .g, .g, .g, (.w .g), (.w .g), (.w .g), (.p false), .g, (.w .g), (.w .g), (.w .g), (.p false), .g, (.w .g), (.w .g), (.w .g), (.p false), .g, (.w .g), (.w .g), (.w (.ln l6.length)), (.w .g), (.w .g), (.w .g), (.p false), (.b false), .g, .g, .g, .g, .g, .g, .g, .g, .g, (.ln l4.length), .g, (.l F14_m1_1 [] (.exit 0) (F14_x1_1 h x1 x2 x3 v4 v5 v6 y25)), .g, .g, (.ln l4.length), .g, .g, .g, .g, (.b false), .g, .g, .g, (.l F14_m2_1 [] (.exit 2) (F14_x2_1 h x1 x2 x3 v4 v5 v6 y38)), .g, .g, (.ln l5.length), .g, (.l F14_m3_1 [] .ret (F14_x3_0 h x1 x2 x3 v4 v5 v6 y47))]) (args := [.agg #[.int .i64 x1, .int .i64 x2, .bool x3, (sv v4), (sv v5), (sv v6)]]) (h := h) (h' := h) (v := .bool false) (hC := (ai (F14_l3_0 h x1 x2 x3 v4 l5 v5 hv5 v6 0 y47 e47 c48) kc48)) (hr := by kernel_rfl)
                  · refine bind_opt fun y59 e59 => ?_
                    have kc60 := (ai (F14_l3_1 h x1 x2 x3 v4 l5 v5 hv5 v6 0 y47 e47 c48) kc48)
                    refine dec_bif (fun c60 => ?_) (fun c60 => ?_)
                    · intro hr
                      obtain rfl := Option.some.inj hr
                      exact pFun_sound good tab_ok (f := 14) (its := [.g, .g, .g, .g, .g, .g, (.w .g), (.w .g), (.w .g), (.p false), .g, (.w .g), (.w .g), (.w .g), (.p false), .g, (.w .g), (.w .g), (.w .g), (.p false), .g, (.w .g), (.w .g), (.w (.ln l6.length)), (.w .g), (.w .g), (.w .g), (.p false), (.b false), .g, .g, .g, .g, .g, .g, .g, .g, .g, (.ln l4.length), .g, (.l F14_m1_1 [] (.exit 0) (F14_x1_1 h x1 x2 x3 v4 v5 v6 y25)), .g, .g, (.ln l4.length), .g, .g, .g, .g, (.b false), .g, .g, .g, (.l F14_m2_1 [] (.exit 2) (F14_x2_1 h x1 x2 x3 v4 v5 v6 y38)), .g, .g, (.ln l5.length), .g, (.l F14_m3_1 [] (.exit 4) (F14_x3_1 h x1 x2 x3 v4 v5 v6 y47)), .g, .g, .g, (.l F14_m4_1 [] .ret (F14_x4_0 h x1 x2 x3 v4 v5 v6 y59))]) (args := [.agg #[.int .i64 x1, .int .i64 x2, .bool x3, (sv v4), (sv v5), (sv v6)]]) (h := h) (h' := h) (v := .bool false) (hC := (ai (F14_l4_0 h x1 x2 x3 l4 v4 hv4 l5 v5 hv5 l6 v6 hv6 0 y59 e59 c60) kc60)) (hr := by kernel_rfl)
                    · refine bind_opt fun y74 e74 => ?_
                      have kc75 := (ai (SlE.len hv6) (ai (F14_l4_1 h x1 x2 x3 l4 v4 hv4 l5 v5 hv5 l6 v6 hv6 0 y59 e59 c60) kc60))
                      refine dec_bif (fun c75 => ?_) (fun c75 => ?_)
                      · intro hr
                        obtain rfl := Option.some.inj hr
                        exact pFun_sound good tab_ok (f := 14) (its := [.g, .g, .g, .g, .g, .g, (.w .g), (.w .g), (.w .g), (.p false), .g, (.w .g), (.w .g), (.w .g), (.p false), .g, (.w .g), (.w .g), (.w .g), (.p false), .g, (.w .g), (.w .g), (.w (.ln l6.length)), (.w .g), (.w .g), (.w .g), (.p false), (.b false), .g, .g, .g, .g, .g, .g, .g, .g, .g, (.ln l4.length), .g, (.l F14_m1_1 [] (.exit 0) (F14_x1_1 h x1 x2 x3 v4 v5 v6 y25)), .g, .g, (.ln l4.length), .g, .g, .g, .g, (.b false), .g, .g, .g, (.l F14_m2_1 [] (.exit 2) (F14_x2_1 h x1 x2 x3 v4 v5 v6 y38)), .g, .g, (.ln l5.length), .g, (.l F14_m3_1 [] (.exit 4) (F14_x3_1 h x1 x2 x3 v4 v5 v6 y47)), .g, .g, .g, (.l F14_m4_1 [] (.exit 6) (F14_x4_1 h x1 x2 x3 v4 v5 v6 y59)), .g, .g, (.ln l6.length), .g, (.l F14_m5_1 [] .ret (F14_x5_0 h y74))]) (args := [.agg #[.int .i64 x1, .int .i64 x2, .bool x3, (sv v4), (sv v5), (sv v6)]]) (h := h) (h' := h) (v := .bool false) (hC := (ai (F14_l5_0 h x1 x2 x3 v4 l5 v5 hv5 l6 v6 hv6 0 y74 e74 c75) kc75)) (hr := by kernel_rfl)
                      · intro hr
                        obtain rfl := Option.some.inj hr
                        exact pFun_sound good tab_ok (f := 14) (its := [.g, .g, .g, .g, .g, .g, (.w .g), (.w .g), (.w .g), (.p false), .g, (.w .g), (.w .g), (.w .g), (.p false), .g, (.w .g), (.w .g), (.w .g), (.p false), .g, (.w .g), (.w .g), (.w (.ln l6.length)), (.w .g), (.w .g), (.w .g), (.p false), (.b false), .g, .g, .g, .g, .g, .g, .g, .g, .g, (.ln l4.length), .g, (.l F14_m1_1 [] (.exit 0) (F14_x1_1 h x1 x2 x3 v4 v5 v6 y25)), .g, .g, (.ln l4.length), .g, .g, .g, .g, (.b false), .g, .g, .g, (.l F14_m2_1 [] (.exit 2) (F14_x2_1 h x1 x2 x3 v4 v5 v6 y38)), .g, .g, (.ln l5.length), .g, (.l F14_m3_1 [] (.exit 4) (F14_x3_1 h x1 x2 x3 v4 v5 v6 y47)), .g, .g, .g, (.l F14_m4_1 [] (.exit 6) (F14_x4_1 h x1 x2 x3 v4 v5 v6 y59)), .g, .g, (.ln l6.length), .g, (.l F14_m5_1 [] (.exit 8) (F14_x5_1 h y74)), .g]) (args := [.agg #[.int .i64 x1, .int .i64 x2, .bool x3, (sv v4), (sv v5), (sv v6)]]) (h := h) (h' := h) (v := .bool true) (hC := (ai (F14_l5_1 h x1 x2 x3 v4 l5 v5 hv5 l6 v6 hv6 0 y74 e74 c75) kc75)) (hr := by kernel_rfl)
/-! 67 jacquard/jacquardref30.Nodes -/
def F67 (x1 : Int) : Int :=
  (if 8192 < (if 0 > x1 then 0 else x1) then 8192 else (if 0 > x1 then 0 else x1))
set_option maxRecDepth 100000 in
theorem F67_spec (x1 : Int) (h : AHeap)  (r : Int) : F67 x1 = r → ACalls Try.prog 67 [.int .i64 x1] h (fun v' h'' => v' = (.int .i64 r : Value) ∧ h'' = h) := by
  unfold F67
  intro hr
  subst hr
  exact pFun_sound good tab_ok (f := 67) (its := [.g, .g, .g, .g, .g]) (args := [.int .i64 x1]) (h := h) (h' := h) (v := .int .i64 (if 8192 < (if 0 > x1 then 0 else x1) then 8192 else (if 0 > x1 then 0 else x1))) (hC := trivial) (hr := by kernel_rfl)
/-! 55 jacquard/jacquardref30.Counts -/
def F55 (x1 : Int) (x2 : Int) (x3 : Int) (x4 : Int) (x5 : Int) : Bool :=
  (bif decide (x2 ≥ 0) then
   (bif decide (x2 < (F67 x1)) then
    (bif decide (x3 ≥ 0) then
     (decide (x3 < (F67 x1)))
    else
     false)
   else
    false)
  else
   false)
set_option maxRecDepth 100000 in
theorem F55_spec (x1 : Int) (x2 : Int) (x3 : Int) (x4 : Int) (x5 : Int) (h : AHeap)  (r : Bool) : F55 x1 x2 x3 x4 x5 = r → ACalls Try.prog 55 [.int .i64 x1, .agg #[.int .i64 x2, .int .i64 x3, .int .i64 x4, .int .i64 x5]] h (fun v' h'' => v' = (.bool r : Value) ∧ h'' = h) := by
  unfold F55
  refine dec_bif (fun c6 => ?_) (fun c6 => ?_)
  · have kc8 := (ai c6 (ai (g_tt c6) (ai (show AKeep h h from (AHeap.sub_refl h)) (ai (F67_spec x1 h _ rfl) (ai (g_tt c6) (ai (g_tt c6) (ai (g_tt c6) (ai (g_tt c6) trivial))))))))
    refine dec_bif (fun c8 => ?_) (fun c8 => ?_)
    · have kc9 := (ai c8 (ai (g_tt c8) (ai (g_tt c8) (ai (g_tt c8) kc8))))
      refine dec_bif (fun c9 => ?_) (fun c9 => ?_)
      · intro hr
        subst hr
        exact pFun_sound good tab_ok (f := 55) (its := [.g, .g, .g, .g, .g, .g, (.w .g), (.w .g), (.w .g), (.w (.c (.int .i64 (F67 x1)) h)), (.w .g), (.p true), .g, (.w .g), (.w .g), (.w .g), (.p true), .g, (.w .g), (.w .g), (.w .g), (.w (.c (.int .i64 (F67 x1)) h)), (.w .g), (.p true), .g]) (args := [.int .i64 x1, .agg #[.int .i64 x2, .int .i64 x3, .int .i64 x4, .int .i64 x5]]) (h := h) (h' := h) (v := .bool (decide (x3 < (F67 x1)))) (hC := (ai c9 (ai (g_tt c9) (ai (show AKeep h h from (AHeap.sub_refl h)) (ai (F67_spec x1 h _ rfl) (ai (g_tt c9) (ai (g_tt c9) (ai (g_tt c9) (ai (g_tt c9) kc9))))))))) (hr := by kernel_rfl)
      · intro hr
        subst hr
        exact pFun_sound good tab_ok (f := 55) (its := [.g, .g, .g, .g, .g, .g, (.w .g), (.w .g), (.w .g), (.w (.c (.int .i64 (F67 x1)) h)), (.w .g), (.p true), .g, (.w .g), (.w .g), (.w .g), (.p true), .g, .n, .n, .n, .n, .n, (.p false), .g]) (args := [.int .i64 x1, .agg #[.int .i64 x2, .int .i64 x3, .int .i64 x4, .int .i64 x5]]) (h := h) (h' := h) (v := .bool false) (hC := (ai c9 (ai (g_ft c9) (ai (g_ft c9) (ai (g_ft c9) (ai (g_ft c9) (ai (g_ft c9) kc9))))))) (hr := by kernel_rfl)
    · intro hr
      subst hr
      exact pFun_sound good tab_ok (f := 55) (its := [.g, .g, .g, .g, .g, .g, (.w .g), (.w .g), (.w .g), (.w (.c (.int .i64 (F67 x1)) h)), (.w .g), (.p true), .g, .n, .n, .n, (.p false), .g, .n, .n, .n, .n, .n, .g, .g]) (args := [.int .i64 x1, .agg #[.int .i64 x2, .int .i64 x3, .int .i64 x4, .int .i64 x5]]) (h := h) (h' := h) (v := .bool false) (hC := (ai (g_ft l_f) (ai (g_ft l_f) (ai (g_ft l_f) (ai (g_ft l_f) (ai (g_ft l_f) (ai c8 (ai (g_ft c8) (ai (g_ft c8) (ai (g_ft c8) kc8)))))))))) (hr := by kernel_rfl)
  · intro hr
    subst hr
    exact pFun_sound good tab_ok (f := 55) (its := [.g, .g, .g, .g, .g, .g, .n, .n, .n, .n, .n, (.p false), .g, .n, .n, .n, .g, .g, .n, .n, .n, .n, .n, .g, .g]) (args := [.int .i64 x1, .agg #[.int .i64 x2, .int .i64 x3, .int .i64 x4, .int .i64 x5]]) (h := h) (h' := h) (v := .bool false) (hC := (ai (g_ft l_f) (ai (g_ft l_f) (ai (g_ft l_f) (ai (g_ft l_f) (ai (g_ft l_f) (ai (g_ft l_f) (ai (g_ft l_f) (ai (g_ft l_f) (ai c6 (ai (g_ft c6) (ai (g_ft c6) (ai (g_ft c6) (ai (g_ft c6) (ai (g_ft c6) trivial))))))))))))))) (hr := by kernel_rfl)
/-! 56 jacquard/jacquardref30.Weight -/
def F56__1 (x3 : Int) : Int := (if 1048576 < (if (-1048576) > x3 then (-1048576) else x3) then 1048576 else (if (-1048576) > x3 then (-1048576) else x3))
def F56__2 (x4 : Int) : Int := (if 1048576 < (if (-1048576) > x4 then (-1048576) else x4) then 1048576 else (if (-1048576) > x4 then (-1048576) else x4))
def F56__3 (x4 : Int) (x5 : Int) : Int := (IntKind.i64.wrap ((if 256 < (if 0 > x5 then 0 else x5) then 256 else (if 0 > x5 then 0 else x5)) * (F56__2 x4)))
def F56 (x1 : Int) (x2 : Int) (x3 : Int) (x4 : Int) (x5 : Int) : Int :=
  (IntKind.i64.wrap ((F56__1 x3) - (F56__3 x4 x5)))
set_option maxRecDepth 100000 in
theorem F56_spec (x1 : Int) (x2 : Int) (x3 : Int) (x4 : Int) (x5 : Int) (h : AHeap)  (r : Int) : F56 x1 x2 x3 x4 x5 = r → ACalls Try.prog 56 [.agg #[.int .i64 x1, .int .i64 x2, .int .i64 x3, .int .i64 x4], .int .i64 x5] h (fun v' h'' => v' = (.int .i64 r : Value) ∧ h'' = h) := by
  unfold F56
  intro hr
  subst hr
  exact pFun_sound good tab_ok (f := 56) (its := [.g, .g, .g, .g, .g, .g, .g, .g, .g, .g, .g, .g, .g, .g, .g, .g, .g, .g, .g, .g, .g, .g, .g]) (args := [.agg #[.int .i64 x1, .int .i64 x2, .int .i64 x3, .int .i64 x4], .int .i64 x5]) (h := h) (h' := h) (v := .int .i64 (IntKind.i64.wrap ((F56__1 x3) - (F56__3 x4 x5)))) (hC := trivial) (hr := by kernel_rfl)
/-! 51 jacquard/jacquardref30.Walks -/
def F51_L : List Nat := []
def F51_D : List (Nat × List (Nat × Nat)) := [(19, [(0, 2), (1, 2), (2, 2), (3, 2), (4, 2), (8, 2), (9, 2), (10, 2), (11, 2), (13, 2), (14, 2), (15, 2), (16, 2), (17, 2), (21, 2), (22, 2), (23, 2), (24, 2), (28, 2), (29, 2), (30, 2), (31, 2), (32, 2), (5, 6), (6, 2), (7, 6), (12, 6), (18, 6), (19, 2), (20, 6), (25, 6), (26, 2), (27, 6), (33, 1), (34, 2), (35, 2), (36, 0)]), (33, [(0, 2), (1, 2), (2, 2), (3, 2), (4, 2), (5, 2), (6, 2), (7, 2), (8, 2), (9, 2), (10, 2), (11, 2), (12, 2), (13, 2), (14, 2), (15, 2), (16, 2), (17, 2), (18, 2), (19, 2), (20, 2), (21, 2), (22, 2), (23, 2), (24, 2), (25, 2), (26, 2), (27, 2), (28, 2), (29, 0)])]
def F51__1 (x3 : Int) (y35 : Int × Int × Int × Int) (y41 : Int) : Int := (if (F56 y35.1 y35.2.1 y35.2.2.1 y35.2.2.2 x3) > y41 then (F56 y35.1 y35.2.1 y35.2.2.1 y35.2.2.2 x3) else y41)
def F51_m1_1 : List Bool := (false :: false :: false :: (rp 5 true (false :: false :: false :: (rp 8 true (false :: false :: (rp 152 true []))))))
def F51_m1_0 : List Bool := (false :: false :: false :: (rp 5 true (false :: false :: false :: (rp 8 true (false :: false :: (rp 4 true (false :: false :: (rp 146 true []))))))))
def F51_s1 (x1 : Int) (a14 : Int) (l15 : List Int) : Option ((Int × (List Int)) ⊕ (List Int)) :=
  (bif decide (a14 < (F67 x1)) then
   (Option.bind (at? l15 a14) fun y18 =>
   some (.inl ((IntKind.i64.wrap (a14 + 1)), (setI l15 a14 (-1152921504606846976)))))
  else
   some (.inr l15))
def F51_h1 (x1 : Int) (v2 : Hd) (x3 : Int) (a7 : Int) (u8 : List Hd) (v12 : Hd) (h16 : AHeap) (a14 : Int) (l15 : List Int) : AS := ⟨((.int .i64 (F67 x1)) :: (sv v2) :: (.int .i64 x3) :: (rp 5 junk ((sv (hov u8)) :: (.int .i64 a7) :: (sv v12) :: (rp 8 junk ((.int .i64 (F67 x1)) :: (.int .i64 a7) :: (rp 4 junk ((.int .i64 (F67 x1)) :: (.int .i64 a14) :: (rp 146 junk [])))))))), [], h16⟩
theorem F51_d1 : drawsOk F51_D (codeOf Try.prog 51 [1, 1, 1, 0, 1, 0, 0, 1, 1, 0, 0, 1, 1, 0, 1, 0, 0]) = true := by kernel_rfl
def F51_x1_0 (h : AHeap) (x1 : Int) (v2 : Hd) (x3 : Int) (a7 : Int) (l8 : List (List Int)) (u8 : List Hd) (v12 : Hd) (hx : AHeap) (r : (List Int)) : AS := ⟨((.int .i64 (F67 x1)) :: (sv v2) :: (.int .i64 x3) :: (rp 5 junk ((sv (hov u8)) :: (.int .i64 a7) :: (sv v12) :: (rp 8 junk ((.int .i64 (F67 x1)) :: (.int .i64 a7) :: (rp 152 junk [])))))), [], hx⟩
def F51_i1 (h : AHeap) (x1 : Int) (v2 : Hd) (x3 : Int) (a7 : Int) (l8 : List (List Int)) (u8 : List Hd) (v12 : Hd) (s : Int × (List Int)) (S : AS) : Prop := ∃ (h16 : AHeap), Heapy h h16 ([⟨(hov u8), 29, 1, List.flatMap encH (List.tail u8)⟩, ⟨v12, 3, 1, List.flatMap enc3 s.2⟩] ++ NIn 3 1 enc3 (List.tail u8) l8) ∧ S = (F51_h1 x1 v2 x3 a7 u8 v12 h16 s.1 s.2)
def F51_x1 (h : AHeap) (x1 : Int) (v2 : Hd) (x3 : Int) (a7 : Int) (l8 : List (List Int)) (u8 : List Hd) (v12 : Hd) (r : (List Int)) (e : Exit) (S : AS) : Prop := e = (.exit 2) ∧ ∃ (hx : AHeap), Heapy h hx ([⟨(hov u8), 29, 1, List.flatMap encH (List.tail u8)⟩, ⟨v12, 3, 1, List.flatMap enc3 r⟩] ++ NIn 3 1 enc3 (List.tail u8) l8) ∧ S = (F51_x1_0 h x1 v2 x3 a7 l8 u8 v12 hx r)
set_option maxRecDepth 100000 in
theorem F51_r1 (h : AHeap) (x1 : Int) (v2 : Hd) (x3 : Int) (a7 : Int) (l8 : List (List Int)) (u8 : List Hd) (v12 : Hd) (a14 : Int) (l15 : List Int) (S : AS) (hI : (F51_i1 h x1 v2 x3 a7 l8 u8 v12) (a14, l15) S) (o : (Int × (List Int)) ⊕ (List Int)) : F51_s1 x1 a14 l15 = some o → Rd Try.prog (codeOf Try.prog 51 [1, 1, 1, 0, 1, 0, 0, 1, 1, 0, 0, 1, 1, 0, 1, 0, 0]) (F51_i1 h x1 v2 x3 a7 l8 u8 v12) (F51_x1 h x1 v2 x3 a7 l8 u8 v12) S o := by
  obtain ⟨h16, hp16, rfl⟩ := hI
  unfold F51_s1
  refine dec_bif (fun c17 => ?_) (fun c17 => ?_)
  · refine bind_opt fun y18 e18 => ?_
    obtain ⟨id18, off18, g18, cs18, ix18, at18, rfl⟩ := SlE.at (Heapy.sle (v := v12) (xs := l15) (enc := enc3) hp16 1 rfl (fun _ => rfl) (by decide)) e18
    obtain ⟨h19, m19, hp19⟩ := Heapy.store (P := Try.prog) hp16 1 (v := v12) (xs := l15) (enc := enc3) rfl (fun _ => rfl) e18 (y' := (-1152921504606846976)) ix18 (t := 3) (x := .int .i64 (-1152921504606846976)) 0 (vs := [.int .i64 (-1152921504606846976)]) rfl (by kernel_rfl) rfl rfl rfl rfl
    intro hr
    obtain rfl := Option.some.inj hr
    exact ⟨(F51_h1 x1 v2 x3 a7 u8 v12 h19 (IntKind.i64.wrap (a14 + 1)) (setI l15 a14 (-1152921504606846976))), ⟨h19, (Heapy.pickN2 (A := [⟨(hov u8), 29, 1, List.flatMap encH (List.tail u8)⟩, ⟨v12, 3, 1, List.flatMap enc3 (setI l15 a14 (-1152921504606846976))⟩]) (N := NIn 3 1 enc3 (List.tail u8) l8) hp19 2 rfl [0, 1] (by decide) rfl), rfl⟩, pEnd_sound good (L := F51_L) (D := F51_D) (its := [.g, (.b true), .g, .g, .g, .g, (.ix id18 off18 g18), (.mm undef h19), .g, .g]) (ds := F51_m1_0) (ks := []) (e := .normal) (s2 := (F51_h1 x1 v2 x3 a7 u8 v12 h19 (IntKind.i64.wrap (a14 + 1)) (setI l15 a14 (-1152921504606846976)))) (hC := (ai m19 (ai ix18 (ai c17 trivial)))) (hd := F51_d1) (h := by kernel_rfl)⟩
  · intro hr
    obtain rfl := Option.some.inj hr
    refine ⟨(.exit 2), (F51_x1_0 h x1 v2 x3 a7 l8 u8 v12 h16 (l15 : (List Int))), (by intro hh; cases hh), ?_, pEnd_sound good (L := F51_L) (D := F51_D) (its := [.g, (.b false)]) (ds := F51_m1_1) (ks := []) (e := (.exit 2)) (s2 := (F51_x1_0 h x1 v2 x3 a7 l8 u8 v12 h16 (l15 : (List Int)))) (hC := (ai c17 trivial)) (hd := F51_d1) (h := by kernel_rfl)⟩
    exact ⟨rfl, h16, (Heapy.pickN2 (A := [⟨(hov u8), 29, 1, List.flatMap encH (List.tail u8)⟩, ⟨v12, 3, 1, List.flatMap enc3 l15⟩]) (N := NIn 3 1 enc3 (List.tail u8) l8) hp16 2 rfl [0, 1] (by decide) rfl), rfl⟩
theorem F51_l1 (h : AHeap) (x1 : Int) (v2 : Hd) (x3 : Int) (a7 : Int) (l8 : List (List Int)) (u8 : List Hd) (v12 : Hd) (x : Int × (List Int)) (r : (List Int)) (hl : loopO (fun (s : Int × (List Int)) => F51_s1 x1 s.1 s.2) x = some r) (S : AS) (hI : (F51_i1 h x1 v2 x3 a7 l8 u8 v12) x S) : ∃ e S', (F51_x1 h x1 v2 x3 a7 l8 u8 v12) r e S' ∧ AWp Try.prog (.loop (codeOf Try.prog 51 [1, 1, 1, 0, 1, 0, 0, 1, 1, 0, 0, 1, 1, 0, 1, 0, 0])) (Ends1 e S') S :=
  loop_rel (fun x S hI => F51_r1 h x1 v2 x3 a7 l8 u8 v12 x.1 x.2 S hI) hl hI
def F51_m2_1 : List Bool := (false :: false :: false :: (rp 5 true (false :: (rp 164 true []))))
def F51_m2_0 : List Bool := (false :: false :: false :: (rp 5 true (false :: (rp 10 true (false :: false :: (rp 152 true []))))))
def F51_s2 (x1 : Int) (a7 : Int) (l8 : List (List Int)) : Option ((Int × (List (List Int))) ⊕ (List (List Int))) :=
  (bif decide (a7 < (F67 x1)) then
   (bif (!(okLen (F67 x1) (F67 x1) 8)) then none else
   (Option.bind (loopO (fun (s : Int × (List Int)) => F51_s1 x1 s.1 s.2) (0, (List.replicate (F67 x1).toNat (0 : Int)))) fun y20 =>
   (Option.bind (at? y20 a7) fun y22 =>
   (bif (!(okApp (l8.length + 1) 24)) then none else
   some (.inl ((IntKind.i64.wrap (a7 + 1)), (l8 ++ [(setI y20 a7 0)])))))))
  else
   some (.inr l8))
def F51_h2 (x1 : Int) (v2 : Hd) (x3 : Int) (h9 : AHeap) (u8 : List Hd) (a7 : Int) (l8 : List (List Int)) : AS := ⟨((.int .i64 (F67 x1)) :: (sv v2) :: (.int .i64 x3) :: (rp 5 junk ((sv (hov u8)) :: (rp 10 junk ((.int .i64 (F67 x1)) :: (.int .i64 a7) :: (rp 152 junk [])))))), [], h9⟩
theorem F51_d2 : drawsOk F51_D (codeOf Try.prog 51 [1, 1, 1, 0, 1, 0, 0]) = true := by kernel_rfl
def F51_x2_0 (h : AHeap) (x1 : Int) (v2 : Hd) (x3 : Int) (hx : AHeap) (w0 : List Hd) (r : (List (List Int))) : AS := ⟨((.int .i64 (F67 x1)) :: (sv v2) :: (.int .i64 x3) :: (rp 5 junk ((sv (hov w0)) :: (rp 164 junk [])))), [], hx⟩
def F51_i2 (h : AHeap) (x1 : Int) (v2 : Hd) (x3 : Int) (s : Int × (List (List Int))) (S : AS) : Prop := ∃ (h9 : AHeap) (u8 : List Hd), Heapy h h9 ([⟨(hov u8), 29, 1, List.flatMap encH (List.tail u8)⟩] ++ NIn 3 1 enc3 (List.tail u8) s.2) ∧ S = (F51_h2 x1 v2 x3 h9 u8 s.1 s.2)
def F51_x2 (h : AHeap) (x1 : Int) (v2 : Hd) (x3 : Int) (r : (List (List Int))) (e : Exit) (S : AS) : Prop := e = (.exit 0) ∧ ∃ (hx : AHeap) (w0 : List Hd), Heapy h hx ([⟨(hov w0), 29, 1, List.flatMap encH (List.tail w0)⟩] ++ NIn 3 1 enc3 (List.tail w0) r) ∧ S = (F51_x2_0 h x1 v2 x3 hx w0 r)
set_option maxRecDepth 100000 in
theorem F51_r2 (h : AHeap) (x1 : Int) (v2 : Hd) (x3 : Int) (a7 : Int) (l8 : List (List Int)) (S : AS) (hI : (F51_i2 h x1 v2 x3) (a7, l8) S) (o : (Int × (List (List Int))) ⊕ (List (List Int))) : F51_s2 x1 a7 l8 = some o → Rd Try.prog (codeOf Try.prog 51 [1, 1, 1, 0, 1, 0, 0]) (F51_i2 h x1 v2 x3) (F51_x2 h x1 v2 x3) S o := by
  obtain ⟨h9, u8, hp9, rfl⟩ := hI
  unfold F51_s2
  refine dec_bif (fun c10 => ?_) (fun c10 => ?_)
  · refine guard_ok fun g11 => ?_
    obtain ⟨v12, h12, m12, hp12, _⟩ := Heapy.make hp9 (show mkInfo Try.prog 29 = some (3, 1, 8, [.int .i64 0]) by kernel_rfl) (a := (F67 x1)) (b := (F67 x1)) (by simpa using g11) (enc := enc3) (x := 0) rfl rfl
    refine bind_opt fun y20 e20 => ?_
    obtain ⟨ee20, SS20, hX20, hA20⟩ := F51_l1 h x1 v2 x3 a7 l8 u8 v12 (0, (List.replicate (F67 x1).toNat (0 : Int))) y20 e20 (F51_h1 x1 v2 x3 a7 u8 v12 h12 0 (List.replicate (F67 x1).toNat (0 : Int))) ⟨h12, (Heapy.pickN2 (A := [⟨v12, 3, 1, List.flatMap enc3 (List.replicate (F67 x1).toNat (0 : Int))⟩, ⟨(hov u8), 29, 1, List.flatMap encH (List.tail u8)⟩]) (N := NIn 3 1 enc3 (List.tail u8) l8) hp12 2 rfl [1, 0] (by decide) rfl), rfl⟩
    obtain ⟨rfl, h21, hp21, rfl⟩ := hX20
    refine bind_opt fun y22 e22 => ?_
    obtain ⟨id22, off22, g22, cs22, ix22, at22, rfl⟩ := SlE.at (Heapy.sle (v := v12) (xs := y20) (enc := enc3) hp21 1 rfl (fun _ => rfl) (by decide)) e22
    obtain ⟨h23, m23, hp23⟩ := Heapy.store (P := Try.prog) hp21 1 (v := v12) (xs := y20) (enc := enc3) rfl (fun _ => rfl) e22 (y' := 0) ix22 (t := 3) (x := .int .i64 0) 0 (vs := [.int .i64 0]) rfl (by kernel_rfl) rfl rfl rfl rfl
    obtain ⟨v24, h24, m24, hq24, _⟩ := Heapy.build (P := Try.prog) hp23 (t := 75) (e := 29) (len := 1) (n := 1) (parts := [(0, (sv v12))]) (cells := List.flatMap encH [v12]) (by kernel_rfl) rfl
    have hp24 : Heapy h h24 ([⟨v24, 29, 1, List.flatMap encH [v12]⟩, ⟨(hov u8), 29, 1, List.flatMap encH (List.tail u8)⟩, ⟨v12, 3, 1, List.flatMap enc3 (setI y20 a7 0)⟩] ++ NIn 3 1 enc3 (List.tail u8) l8) := hq24
    refine guard_ok fun g26 => ?_
    obtain ⟨v27, h27, m27, hq27⟩ := Heapy.nipush (P := Try.prog) (A := [⟨v24, 29, 1, List.flatMap encH [v12]⟩, ⟨(hov u8), 29, 1, List.flatMap encH (List.tail u8)⟩, ⟨v12, 3, 1, List.flatMap enc3 (setI y20 a7 0)⟩]) (el := 3) (c := 1) (enc := enc3) (hs := (List.tail u8)) (xss := l8) hp24 1 (show 1 < 3 by decide) (ov := (hov u8)) (eo := 29) rfl 2 (show 2 < 3 by decide) (by decide) (w := v12) (ys := (setI y20 a7 0)) rfl (t := 75) (show mkInfo Try.prog 75 = some (29, 1, 24, [.slice none 0 0]) by kernel_rfl) (Y := (sv v24)) (SlE.src (enc := encH) (c := 1) (Heapy.sle (v := v24) (xs := [v12]) (enc := encH) hp24 0 rfl (fun _ => rfl) (by decide)) (fun _ => rfl)) (by simpa using g26)
    have hp27 : Heapy h h27 ([⟨v24, 29, 1, List.flatMap encH [v12]⟩, ⟨v27, 29, 1, List.flatMap encH ((List.tail u8) ++ [v12])⟩] ++ NIn 3 1 enc3 ((List.tail u8) ++ [v12]) (l8 ++ [(setI y20 a7 0)])) := hq27
    intro hr
    obtain rfl := Option.some.inj hr
    exact ⟨(F51_h2 x1 v2 x3 h27 (v27 :: ((List.tail u8) ++ [v12])) (IntKind.i64.wrap (a7 + 1)) (l8 ++ [(setI y20 a7 0)])), ⟨h27, (v27 :: ((List.tail u8) ++ [v12])), (Heapy.pickN2 (A := [⟨v24, 29, 1, List.flatMap encH [v12]⟩, ⟨v27, 29, 1, List.flatMap encH ((List.tail u8) ++ [v12])⟩]) (N := NIn 3 1 enc3 ((List.tail u8) ++ [v12]) (l8 ++ [(setI y20 a7 0)])) hp27 2 rfl [1] (by decide) rfl), rfl⟩, pEnd_sound good (L := F51_L) (D := F51_D) (its := [.g, (.b true), .g, .g, .g, (.mm (sv v12) h12), .g, .g, .g, (.l F51_m1_0 [] (.exit 2) (F51_x1_0 h x1 v2 x3 a7 l8 u8 v12 h21 y20)), .g, .g, (.ix id22 off22 g22), (.mm undef h23), .g, .g, (.mm (sv v24) h24), (.mm (sv v27) h27), .g, .g, .g]) (ds := F51_m2_0) (ks := []) (e := .normal) (s2 := (F51_h2 x1 v2 x3 h27 (v27 :: ((List.tail u8) ++ [v12])) (IntKind.i64.wrap (a7 + 1)) (l8 ++ [(setI y20 a7 0)]))) (hC := (ai m27 (ai m24 (ai m23 (ai ix22 (ai hA20 (ai m12 (ai c10 trivial)))))))) (hd := F51_d2) (h := by kernel_rfl)⟩
  · intro hr
    obtain rfl := Option.some.inj hr
    refine ⟨(.exit 0), (F51_x2_0 h x1 v2 x3 h9 u8 (l8 : (List (List Int)))), (by intro hh; cases hh), ?_, pEnd_sound good (L := F51_L) (D := F51_D) (its := [.g, (.b false)]) (ds := F51_m2_1) (ks := []) (e := (.exit 0)) (s2 := (F51_x2_0 h x1 v2 x3 h9 u8 (l8 : (List (List Int))))) (hC := (ai c10 trivial)) (hd := F51_d2) (h := by kernel_rfl)⟩
    exact ⟨rfl, h9, u8, (Heapy.pickN2 (A := [⟨(hov u8), 29, 1, List.flatMap encH (List.tail u8)⟩]) (N := NIn 3 1 enc3 (List.tail u8) l8) hp9 1 rfl [0] (by decide) rfl), rfl⟩
theorem F51_l2 (h : AHeap) (x1 : Int) (v2 : Hd) (x3 : Int) (x : Int × (List (List Int))) (r : (List (List Int))) (hl : loopO (fun (s : Int × (List (List Int))) => F51_s2 x1 s.1 s.2) x = some r) (S : AS) (hI : (F51_i2 h x1 v2 x3) x S) : ∃ e S', (F51_x2 h x1 v2 x3) r e S' ∧ AWp Try.prog (.loop (codeOf Try.prog 51 [1, 1, 1, 0, 1, 0, 0])) (Ends1 e S') S :=
  loop_rel (fun x S hI => F51_r2 h x1 v2 x3 x.1 x.2 S hI) hl hI
def F51_m3_1 : List Bool := (false :: (rp 7 true (false :: (rp 164 true []))))
def F51_m3_0 : List Bool := (false :: false :: false :: (rp 5 true (false :: (rp 33 true (false :: false :: (rp 129 true []))))))
def F51_s3 (x1 : Int) (l2 : List (Int × Int × Int × Int)) (x3 : Int) (a31 : Int) (l32 : List (List Int)) : Option ((Int × (List (List Int))) ⊕ (List (List Int))) :=
  (bif decide (a31 < (l2.length : Int)) then
   (Option.bind (at? l2 a31) fun y35 =>
   (bif (F55 (F67 x1) y35.1 y35.2.1 y35.2.2.1 y35.2.2.2) then
    (Option.bind (at? l32 y35.1) fun y38 =>
    (Option.bind (at? y38 y35.2.1) fun y41 =>
    some (.inl ((IntKind.i64.wrap (a31 + 1)), (setI l32 y35.1 (setI y38 y35.2.1 (F51__1 x3 y35 y41)))))))
   else
    some (.inl ((IntKind.i64.wrap (a31 + 1)), l32))))
  else
   some (.inr l32))
def F51_h3 (x1 : Int) (l2 : List (Int × Int × Int × Int)) (v2 : Hd) (x3 : Int) (h33 : AHeap) (u32 : List Hd) (a31 : Int) (l32 : List (List Int)) : AS := ⟨((.int .i64 (F67 x1)) :: (sv v2) :: (.int .i64 x3) :: (rp 5 junk ((sv (hov u32)) :: (rp 33 junk ((.int .i64 (l2.length : Int)) :: (.int .i64 a31) :: (rp 129 junk [])))))), [], h33⟩
theorem F51_d3 : drawsOk F51_D (codeOf Try.prog 51 [1, 1, 1, 1, 0, 1, 0, 0]) = true := by kernel_rfl
def F51_x3_0 (h : AHeap) (x1 : Int) (hx : AHeap) (w0 : List Hd) (r : (List (List Int))) : AS := ⟨((.int .i64 (F67 x1)) :: (rp 7 junk ((sv (hov w0)) :: (rp 164 junk [])))), [], hx⟩
def F51_i3 (h : AHeap) (x1 : Int) (l2 : List (Int × Int × Int × Int)) (v2 : Hd) (x3 : Int) (s : Int × (List (List Int))) (S : AS) : Prop := ∃ (h33 : AHeap) (u32 : List Hd), Heapy h h33 ([⟨(hov u32), 29, 1, List.flatMap encH (List.tail u32)⟩] ++ NIn 3 1 enc3 (List.tail u32) s.2) ∧ S = (F51_h3 x1 l2 v2 x3 h33 u32 s.1 s.2)
def F51_x3 (h : AHeap) (x1 : Int) (r : (List (List Int))) (e : Exit) (S : AS) : Prop := e = (.exit 4) ∧ ∃ (hx : AHeap) (w0 : List Hd), Heapy h hx ([⟨(hov w0), 29, 1, List.flatMap encH (List.tail w0)⟩] ++ NIn 3 1 enc3 (List.tail w0) r) ∧ S = (F51_x3_0 h x1 hx w0 r)
set_option maxRecDepth 100000 in
theorem F51_r3 (h : AHeap) (x1 : Int) (l2 : List (Int × Int × Int × Int)) (v2 : Hd) (hv2 : SlE E57 4 h (sv v2) l2) (x3 : Int) (a31 : Int) (l32 : List (List Int)) (S : AS) (hI : (F51_i3 h x1 l2 v2 x3) (a31, l32) S) (o : (Int × (List (List Int))) ⊕ (List (List Int))) : F51_s3 x1 l2 x3 a31 l32 = some o → Rd Try.prog (codeOf Try.prog 51 [1, 1, 1, 1, 0, 1, 0, 0]) (F51_i3 h x1 l2 v2 x3) (F51_x3 h x1) S o := by
  obtain ⟨h33, u32, hp33, rfl⟩ := hI
  unfold F51_s3
  refine dec_bif (fun c34 => ?_) (fun c34 => ?_)
  · refine bind_opt fun y35 e35 => ?_
    obtain ⟨id35, off35, g35, cs35, ix35, at35, rfl⟩ := SlE.at hv2 e35
    have kc37 := (ai (F55_spec (F67 x1) y35.1 y35.2.1 y35.2.2.1 y35.2.2.2 h33 _ rfl) (ai (At.agg (P := Try.prog) (t := 57) (v := .agg #[.int .i64 y35.1, .int .i64 y35.2.1, .int .i64 y35.2.2.1, .int .i64 y35.2.2.2]) (m := 4) (At.mono (Heapy.sub hp33) at35) (by kernel_rfl) (by kernel_rfl) 0 (by kernel_rfl) rfl) (ai ix35 (ai c34 trivial))))
    refine dec_bif (fun c37 => ?_) (fun c37 => ?_)
    · refine bind_opt fun y38 e38 => ?_
      obtain ⟨id38, off38, g38, cs38, ix38, _, _⟩ := SlE.at (Heapy.sle (v := (hov u32)) (xs := (List.tail u32)) (enc := encH) hp33 0 rfl (fun _ => rfl) (by decide)) (Heapy.niat (A := [⟨(hov u32), 29, 1, List.flatMap encH (List.tail u32)⟩]) (hs := (List.tail u32)) (xss := l32) hp33 e38)
      have at39 : At h33 id38 off38 g38 (encH (hnth (List.tail u32) y35.1)) := (SlE.atp (Heapy.sle (v := (hov u32)) (xs := (List.tail u32)) (enc := encH) hp33 0 rfl (fun _ => rfl) (by decide)) ix38 (Heapy.niat (A := [⟨(hov u32), 29, 1, List.flatMap encH (List.tail u32)⟩]) (hs := (List.tail u32)) (xss := l32) hp33 e38)).elim fun cs k => by obtain ⟨k1, rfl⟩ := k; exact k1
      have at40 : At h33 id38 off38 g38 (encH (hnth (List.tail u32) y35.1)) := (SlE.atp (Heapy.sle (v := (hov u32)) (xs := (List.tail u32)) (enc := encH) hp33 0 rfl (fun _ => rfl) (by decide)) ix38 (Heapy.niat (A := [⟨(hov u32), 29, 1, List.flatMap encH (List.tail u32)⟩]) (hs := (List.tail u32)) (xss := l32) hp33 e38)).elim fun cs k => by obtain ⟨k1, rfl⟩ := k; exact k1
      refine bind_opt fun y41 e41 => ?_
      obtain ⟨id41, off41, g41, cs41, ix41, at41, rfl⟩ := SlE.at (Heapy.nisle (A := [⟨(hov u32), 29, 1, List.flatMap encH (List.tail u32)⟩]) (el := 3) (c := 1) (enc := enc3) (hs := (List.tail u32)) (xss := l32) hp33 e38 (fun _ => rfl) (by decide)) e41
      obtain ⟨h43, m43, hp43⟩ := Heapy.nistore (P := Try.prog) (A := [⟨(hov u32), 29, 1, List.flatMap encH (List.tail u32)⟩]) (el := 3) (c := 1) (enc := enc3) (hs := (List.tail u32)) (xss := l32) hp33 e38 (fun _ => rfl) e41 (y' := (F51__1 x3 y35 y41)) ix41 (t := 3) (x := .int .i64 (F51__1 x3 y35 y41)) 0 (vs := [.int .i64 (F51__1 x3 y35 y41)]) rfl (by kernel_rfl) rfl rfl rfl rfl
      intro hr
      obtain rfl := Option.some.inj hr
      exact ⟨(F51_h3 x1 l2 v2 x3 h43 ((hov u32) :: (List.tail u32)) (IntKind.i64.wrap (a31 + 1)) (setI l32 y35.1 (setI y38 y35.2.1 (F51__1 x3 y35 y41)))), ⟨h43, ((hov u32) :: (List.tail u32)), (Heapy.pickN2 (A := [⟨(hov u32), 29, 1, List.flatMap encH (List.tail u32)⟩]) (N := NIn 3 1 enc3 (List.tail u32) (setI l32 y35.1 (setI y38 y35.2.1 (F51__1 x3 y35 y41)))) hp43 1 rfl [0] (by decide) rfl), rfl⟩, pEnd_sound good (L := F51_L) (D := F51_D) (its := [.g, (.b true), .g, .g, .g, .g, .g, (.ix id35 off35 g35), (.ld (.agg #[.int .i64 y35.1, .int .i64 y35.2.1, .int .i64 y35.2.2.1, .int .i64 y35.2.2.2])), (.c (.bool (F55 (F67 x1) y35.1 y35.2.1 y35.2.2.1 y35.2.2.2)) h33), (.b true), .g, .g, .g, (.ix id35 off35 g35), .g, .g, .g, (.ix id35 off35 g35), .g, .g, .g, .g, (.ix id35 off35 g35), .g, .g, .g, (.ix id35 off35 g35), .g, .g, .g, (.ix id35 off35 g35), (.ld (.agg #[.int .i64 y35.1, .int .i64 y35.2.1, .int .i64 y35.2.2.1, .int .i64 y35.2.2.2])), .g, (.ld (.int .i64 y35.1)), (.ix id38 off38 g38), (.ld ((sv (hnth (List.tail u32) y35.1)))), (.ld (.int .i64 y35.2.1)), (.ld (.int .i64 y35.1)), (.ix id38 off38 g38), (.ld ((sv (hnth (List.tail u32) y35.1)))), (.ld (.int .i64 y35.2.1)), (.ix id41 off41 g41), (.ld (.int .i64 y41)), (.c (.int .i64 (F56 y35.1 y35.2.1 y35.2.2.1 y35.2.2.2 x3)) h33), .g, (.ix id41 off41 g41), (.mm undef h43), .g, .g]) (ds := F51_m3_0) (ks := []) (e := .normal) (s2 := (F51_h3 x1 l2 v2 x3 h43 ((hov u32) :: (List.tail u32)) (IntKind.i64.wrap (a31 + 1)) (setI l32 y35.1 (setI y38 y35.2.1 (F51__1 x3 y35 y41))))) (hC := (ai m43 (ai ix41 (ai (show AKeep h33 h33 from (AHeap.sub_refl h33)) (ai (F56_spec y35.1 y35.2.1 y35.2.2.1 y35.2.2.2 x3 h33 _ rfl) (ai (At.one (P := Try.prog) (t := 3) (v := .int .i64 y41) at41 (by kernel_rfl) 0 rfl rfl) (ai ix41 (ai (At.one (P := Try.prog) (t := 3) (v := .int .i64 y35.2.1) (At.mono (Heapy.sub hp33) at35) (by kernel_rfl) 1 rfl rfl) (ai (At.one (P := Try.prog) (t := 29) (v := (sv (hnth (List.tail u32) y35.1))) at40 (by kernel_rfl) 0 rfl rfl) (ai ix38 (ai (At.one (P := Try.prog) (t := 3) (v := .int .i64 y35.1) (At.mono (Heapy.sub hp33) at35) (by kernel_rfl) 0 rfl rfl) (ai (At.one (P := Try.prog) (t := 3) (v := .int .i64 y35.2.1) (At.mono (Heapy.sub hp33) at35) (by kernel_rfl) 1 rfl rfl) (ai (At.one (P := Try.prog) (t := 29) (v := (sv (hnth (List.tail u32) y35.1))) at39 (by kernel_rfl) 0 rfl rfl) (ai ix38 (ai (At.one (P := Try.prog) (t := 3) (v := .int .i64 y35.1) (At.mono (Heapy.sub hp33) at35) (by kernel_rfl) 0 rfl rfl) (ai (At.agg (P := Try.prog) (t := 57) (v := .agg #[.int .i64 y35.1, .int .i64 y35.2.1, .int .i64 y35.2.2.1, .int .i64 y35.2.2.2]) (m := 4) (At.mono (Heapy.sub hp33) at35) (by kernel_rfl) (by kernel_rfl) 0 (by kernel_rfl) rfl) (ai ix35 (ai ix35 (ai ix35 (ai ix35 (ai ix35 (ai c37 kc37)))))))))))))))))))))) (hd := F51_d3) (h := by kernel_rfl)⟩
    · intro hr
      obtain rfl := Option.some.inj hr
      exact ⟨(F51_h3 x1 l2 v2 x3 h33 u32 (IntKind.i64.wrap (a31 + 1)) l32), ⟨h33, u32, (Heapy.pickN2 (A := [⟨(hov u32), 29, 1, List.flatMap encH (List.tail u32)⟩]) (N := NIn 3 1 enc3 (List.tail u32) l32) hp33 1 rfl [0] (by decide) rfl), rfl⟩, pEnd_sound good (L := F51_L) (D := F51_D) (its := [.g, (.b true), .g, .g, .g, .g, .g, (.ix id35 off35 g35), (.ld (.agg #[.int .i64 y35.1, .int .i64 y35.2.1, .int .i64 y35.2.2.1, .int .i64 y35.2.2.2])), (.c (.bool (F55 (F67 x1) y35.1 y35.2.1 y35.2.2.1 y35.2.2.2)) h33), (.b false), .g, .g]) (ds := F51_m3_0) (ks := []) (e := .normal) (s2 := (F51_h3 x1 l2 v2 x3 h33 u32 (IntKind.i64.wrap (a31 + 1)) l32)) (hC := (ai c37 kc37)) (hd := F51_d3) (h := by kernel_rfl)⟩
  · intro hr
    obtain rfl := Option.some.inj hr
    refine ⟨(.exit 4), (F51_x3_0 h x1 h33 u32 (l32 : (List (List Int)))), (by intro hh; cases hh), ?_, pEnd_sound good (L := F51_L) (D := F51_D) (its := [.g, (.b false)]) (ds := F51_m3_1) (ks := []) (e := (.exit 4)) (s2 := (F51_x3_0 h x1 h33 u32 (l32 : (List (List Int))))) (hC := (ai c34 trivial)) (hd := F51_d3) (h := by kernel_rfl)⟩
    exact ⟨rfl, h33, u32, (Heapy.pickN2 (A := [⟨(hov u32), 29, 1, List.flatMap encH (List.tail u32)⟩]) (N := NIn 3 1 enc3 (List.tail u32) l32) hp33 1 rfl [0] (by decide) rfl), rfl⟩
theorem F51_l3 (h : AHeap) (x1 : Int) (l2 : List (Int × Int × Int × Int)) (v2 : Hd) (hv2 : SlE E57 4 h (sv v2) l2) (x3 : Int) (x : Int × (List (List Int))) (r : (List (List Int))) (hl : loopO (fun (s : Int × (List (List Int))) => F51_s3 x1 l2 x3 s.1 s.2) x = some r) (S : AS) (hI : (F51_i3 h x1 l2 v2 x3) x S) : ∃ e S', (F51_x3 h x1) r e S' ∧ AWp Try.prog (.loop (codeOf Try.prog 51 [1, 1, 1, 1, 0, 1, 0, 0])) (Ends1 e S') S :=
  loop_rel (fun x S hI => F51_r3 h x1 l2 v2 hv2 x3 x.1 x.2 S hI) hl hI
def F51_m4_1 : List Bool := (false :: (rp 7 true (false :: (rp 4 true (false :: (rp 75 true (false :: false :: (rp 10 true (false :: false :: (rp 70 true []))))))))))
def F51_m4_0 : List Bool := (false :: (rp 7 true (false :: (rp 4 true (false :: false :: (rp 74 true (false :: false :: (rp 10 true (false :: false :: true :: true :: false :: false :: (rp 66 true []))))))))))
def F51_s4 (x1 : Int) (a46 : Int) (a54 : Int) (a58 : Int) (l59 : List (List Int)) : Option ((Int × (List (List Int))) ⊕ (List (List Int))) :=
  (bif decide (a58 < (F67 x1)) then
   (Option.bind (at? l59 a54) fun y62 =>
   (Option.bind (at? y62 a46) fun y64 =>
   (bif decide (y64 > (-1152921504606846976)) then
    (Option.bind (at? l59 a46) fun y66 =>
    (Option.bind (at? y66 a58) fun y68 =>
    (bif decide (y68 > (-1152921504606846976)) then
     (Option.bind (at? y62 a58) fun y72 =>
     some (.inl ((IntKind.i64.wrap (a58 + 1)), (setI l59 a54 (setI y62 a58 (if (IntKind.i64.wrap (y64 + y68)) > y72 then (IntKind.i64.wrap (y64 + y68)) else y72))))))
    else
     some (.inl ((IntKind.i64.wrap (a58 + 1)), l59)))))
   else
    some (.inl ((IntKind.i64.wrap (a58 + 1)), l59)))))
  else
   some (.inr l59))
def F51_h4 (x1 : Int) (a46 : Int) (a54 : Int) (h60 : AHeap) (u59 : List Hd) (a58 : Int) (l59 : List (List Int)) : AS := ⟨((.int .i64 (F67 x1)) :: (rp 7 junk ((sv (hov u59)) :: (rp 4 junk ((.int .i64 a46) :: (.int .i64 a54) :: (rp 74 junk ((.int .i64 (F67 x1)) :: (.int .i64 a46) :: (rp 10 junk ((.int .i64 (F67 x1)) :: (.int .i64 a54) :: junk :: junk :: (.int .i64 (F67 x1)) :: (.int .i64 a58) :: (rp 66 junk [])))))))))), [], h60⟩
theorem F51_d4 : drawsOk F51_D (codeOf Try.prog 51 [1, 1, 1, 1, 1, 0, 1, 0, 0, 1, 1, 0, 0, 1, 1, 0, 1, 0, 0, 1, 1, 0, 0, 1, 1, 0, 0]) = true := by kernel_rfl
def F51_x4_0 (h : AHeap) (x1 : Int) (a46 : Int) (a54 : Int) (hx : AHeap) (w0 : List Hd) (r : (List (List Int))) : AS := ⟨((.int .i64 (F67 x1)) :: (rp 7 junk ((sv (hov w0)) :: (rp 4 junk ((.int .i64 a46) :: (rp 75 junk ((.int .i64 (F67 x1)) :: (.int .i64 a46) :: (rp 10 junk ((.int .i64 (F67 x1)) :: (.int .i64 a54) :: (rp 70 junk [])))))))))), [], hx⟩
def F51_i4 (h : AHeap) (x1 : Int) (a46 : Int) (a54 : Int) (s : Int × (List (List Int))) (S : AS) : Prop := ∃ (h60 : AHeap) (u59 : List Hd), Heapy h h60 ([⟨(hov u59), 29, 1, List.flatMap encH (List.tail u59)⟩] ++ NIn 3 1 enc3 (List.tail u59) s.2) ∧ S = (F51_h4 x1 a46 a54 h60 u59 s.1 s.2)
def F51_x4 (h : AHeap) (x1 : Int) (a46 : Int) (a54 : Int) (r : (List (List Int))) (e : Exit) (S : AS) : Prop := e = (.exit 10) ∧ ∃ (hx : AHeap) (w0 : List Hd), Heapy h hx ([⟨(hov w0), 29, 1, List.flatMap encH (List.tail w0)⟩] ++ NIn 3 1 enc3 (List.tail w0) r) ∧ S = (F51_x4_0 h x1 a46 a54 hx w0 r)
set_option maxRecDepth 100000 in
theorem F51_r4 (h : AHeap) (x1 : Int) (a46 : Int) (a54 : Int) (a58 : Int) (l59 : List (List Int)) (S : AS) (hI : (F51_i4 h x1 a46 a54) (a58, l59) S) (o : (Int × (List (List Int))) ⊕ (List (List Int))) : F51_s4 x1 a46 a54 a58 l59 = some o → Rd Try.prog (codeOf Try.prog 51 [1, 1, 1, 1, 1, 0, 1, 0, 0, 1, 1, 0, 0, 1, 1, 0, 1, 0, 0, 1, 1, 0, 0, 1, 1, 0, 0]) (F51_i4 h x1 a46 a54) (F51_x4 h x1 a46 a54) S o := by
  obtain ⟨h60, u59, hp60, rfl⟩ := hI
  unfold F51_s4
  refine dec_bif (fun c61 => ?_) (fun c61 => ?_)
  · refine bind_opt fun y62 e62 => ?_
    obtain ⟨id62, off62, g62, cs62, ix62, _, _⟩ := SlE.at (Heapy.sle (v := (hov u59)) (xs := (List.tail u59)) (enc := encH) hp60 0 rfl (fun _ => rfl) (by decide)) (Heapy.niat (A := [⟨(hov u59), 29, 1, List.flatMap encH (List.tail u59)⟩]) (hs := (List.tail u59)) (xss := l59) hp60 e62)
    have at63 : At h60 id62 off62 g62 (encH (hnth (List.tail u59) a54)) := (SlE.atp (Heapy.sle (v := (hov u59)) (xs := (List.tail u59)) (enc := encH) hp60 0 rfl (fun _ => rfl) (by decide)) ix62 (Heapy.niat (A := [⟨(hov u59), 29, 1, List.flatMap encH (List.tail u59)⟩]) (hs := (List.tail u59)) (xss := l59) hp60 e62)).elim fun cs k => by obtain ⟨k1, rfl⟩ := k; exact k1
    refine bind_opt fun y64 e64 => ?_
    obtain ⟨id64, off64, g64, cs64, ix64, at64, rfl⟩ := SlE.at (Heapy.nisle (A := [⟨(hov u59), 29, 1, List.flatMap encH (List.tail u59)⟩]) (el := 3) (c := 1) (enc := enc3) (hs := (List.tail u59)) (xss := l59) hp60 e62 (fun _ => rfl) (by decide)) e64
    have kc65 := (ai (At.one (P := Try.prog) (t := 3) (v := .int .i64 y64) at64 (by kernel_rfl) 0 rfl rfl) (ai ix64 (ai (At.one (P := Try.prog) (t := 29) (v := (sv (hnth (List.tail u59) a54))) at63 (by kernel_rfl) 0 rfl rfl) (ai ix62 (ai c61 trivial)))))
    refine dec_bif (fun c65 => ?_) (fun c65 => ?_)
    · refine bind_opt fun y66 e66 => ?_
      obtain ⟨id66, off66, g66, cs66, ix66, _, _⟩ := SlE.at (Heapy.sle (v := (hov u59)) (xs := (List.tail u59)) (enc := encH) hp60 0 rfl (fun _ => rfl) (by decide)) (Heapy.niat (A := [⟨(hov u59), 29, 1, List.flatMap encH (List.tail u59)⟩]) (hs := (List.tail u59)) (xss := l59) hp60 e66)
      have at67 : At h60 id66 off66 g66 (encH (hnth (List.tail u59) a46)) := (SlE.atp (Heapy.sle (v := (hov u59)) (xs := (List.tail u59)) (enc := encH) hp60 0 rfl (fun _ => rfl) (by decide)) ix66 (Heapy.niat (A := [⟨(hov u59), 29, 1, List.flatMap encH (List.tail u59)⟩]) (hs := (List.tail u59)) (xss := l59) hp60 e66)).elim fun cs k => by obtain ⟨k1, rfl⟩ := k; exact k1
      refine bind_opt fun y68 e68 => ?_
      obtain ⟨id68, off68, g68, cs68, ix68, at68, rfl⟩ := SlE.at (Heapy.nisle (A := [⟨(hov u59), 29, 1, List.flatMap encH (List.tail u59)⟩]) (el := 3) (c := 1) (enc := enc3) (hs := (List.tail u59)) (xss := l59) hp60 e66 (fun _ => rfl) (by decide)) e68
      have kc69 := (ai c65 (ai (g_tt c65) (ai (At.one (P := Try.prog) (t := 3) (v := .int .i64 y68) at68 (by kernel_rfl) 0 rfl rfl) (ai (g_tt c65) (ai ix68 (ai (g_tt c65) (ai (g_tt c65) (ai (At.one (P := Try.prog) (t := 29) (v := (sv (hnth (List.tail u59) a46))) at67 (by kernel_rfl) 0 rfl rfl) (ai (g_tt c65) (ai ix66 (ai (g_tt c65) (ai (g_tt c65) (ai (g_tt c65) kc65)))))))))))))
      refine dec_bif (fun c69 => ?_) (fun c69 => ?_)
      · have at70 : At h60 id62 off62 g62 (encH (hnth (List.tail u59) a54)) := (SlE.atp (Heapy.sle (v := (hov u59)) (xs := (List.tail u59)) (enc := encH) hp60 0 rfl (fun _ => rfl) (by decide)) ix62 (Heapy.niat (A := [⟨(hov u59), 29, 1, List.flatMap encH (List.tail u59)⟩]) (hs := (List.tail u59)) (xss := l59) hp60 e62)).elim fun cs k => by obtain ⟨k1, rfl⟩ := k; exact k1
        have at71 : At h60 id62 off62 g62 (encH (hnth (List.tail u59) a54)) := (SlE.atp (Heapy.sle (v := (hov u59)) (xs := (List.tail u59)) (enc := encH) hp60 0 rfl (fun _ => rfl) (by decide)) ix62 (Heapy.niat (A := [⟨(hov u59), 29, 1, List.flatMap encH (List.tail u59)⟩]) (hs := (List.tail u59)) (xss := l59) hp60 e62)).elim fun cs k => by obtain ⟨k1, rfl⟩ := k; exact k1
        refine bind_opt fun y72 e72 => ?_
        obtain ⟨id72, off72, g72, cs72, ix72, at72, rfl⟩ := SlE.at (Heapy.nisle (A := [⟨(hov u59), 29, 1, List.flatMap encH (List.tail u59)⟩]) (el := 3) (c := 1) (enc := enc3) (hs := (List.tail u59)) (xss := l59) hp60 e62 (fun _ => rfl) (by decide)) e72
        have at73 : At h60 id62 off62 g62 (encH (hnth (List.tail u59) a54)) := (SlE.atp (Heapy.sle (v := (hov u59)) (xs := (List.tail u59)) (enc := encH) hp60 0 rfl (fun _ => rfl) (by decide)) ix62 (Heapy.niat (A := [⟨(hov u59), 29, 1, List.flatMap encH (List.tail u59)⟩]) (hs := (List.tail u59)) (xss := l59) hp60 e62)).elim fun cs k => by obtain ⟨k1, rfl⟩ := k; exact k1
        have at74 : At h60 id66 off66 g66 (encH (hnth (List.tail u59) a46)) := (SlE.atp (Heapy.sle (v := (hov u59)) (xs := (List.tail u59)) (enc := encH) hp60 0 rfl (fun _ => rfl) (by decide)) ix66 (Heapy.niat (A := [⟨(hov u59), 29, 1, List.flatMap encH (List.tail u59)⟩]) (hs := (List.tail u59)) (xss := l59) hp60 e66)).elim fun cs k => by obtain ⟨k1, rfl⟩ := k; exact k1
        obtain ⟨h75, m75, hp75⟩ := Heapy.nistore (P := Try.prog) (A := [⟨(hov u59), 29, 1, List.flatMap encH (List.tail u59)⟩]) (el := 3) (c := 1) (enc := enc3) (hs := (List.tail u59)) (xss := l59) hp60 e62 (fun _ => rfl) e72 (y' := (if (IntKind.i64.wrap (y64 + y68)) > y72 then (IntKind.i64.wrap (y64 + y68)) else y72)) ix72 (t := 3) (x := .int .i64 (if (IntKind.i64.wrap (y64 + y68)) > y72 then (IntKind.i64.wrap (y64 + y68)) else y72)) 0 (vs := [.int .i64 (if (IntKind.i64.wrap (y64 + y68)) > y72 then (IntKind.i64.wrap (y64 + y68)) else y72)]) rfl (by kernel_rfl) rfl rfl rfl rfl
        intro hr
        obtain rfl := Option.some.inj hr
        exact ⟨(F51_h4 x1 a46 a54 h75 ((hov u59) :: (List.tail u59)) (IntKind.i64.wrap (a58 + 1)) (setI l59 a54 (setI y62 a58 (if (IntKind.i64.wrap (y64 + y68)) > y72 then (IntKind.i64.wrap (y64 + y68)) else y72)))), ⟨h75, ((hov u59) :: (List.tail u59)), (Heapy.pickN2 (A := [⟨(hov u59), 29, 1, List.flatMap encH (List.tail u59)⟩]) (N := NIn 3 1 enc3 (List.tail u59) (setI l59 a54 (setI y62 a58 (if (IntKind.i64.wrap (y64 + y68)) > y72 then (IntKind.i64.wrap (y64 + y68)) else y72)))) hp75 1 rfl [0] (by decide) rfl), rfl⟩, pEnd_sound good (L := F51_L) (D := F51_D) (its := [.g, (.b true), .g, .g, .g, .g, (.ix id62 off62 g62), (.ld ((sv (hnth (List.tail u59) a54)))), .g, (.ix id64 off64 g64), (.ld (.int .i64 y64)), .g, .g, (.w .g), (.w .g), (.w (.ix id66 off66 g66)), (.w (.ld ((sv (hnth (List.tail u59) a46))))), (.w .g), (.w (.ix id68 off68 g68)), (.w (.ld (.int .i64 y68))), (.w .g), (.p true), (.b true), .g, .g, (.ix id62 off62 g62), (.ld ((sv (hnth (List.tail u59) a54)))), .g, .g, .g, (.ix id62 off62 g62), (.ld ((sv (hnth (List.tail u59) a54)))), .g, (.ix id72 off72 g72), (.ld (.int .i64 y72)), .g, .g, (.ix id62 off62 g62), (.ld ((sv (hnth (List.tail u59) a54)))), .g, (.ix id64 off64 g64), (.ld (.int .i64 y64)), .g, .g, (.ix id66 off66 g66), (.ld ((sv (hnth (List.tail u59) a46)))), .g, (.ix id68 off68 g68), (.ld (.int .i64 y68)), .g, .g, (.ix id72 off72 g72), (.mm undef h75), .g, .g]) (ds := F51_m4_0) (ks := []) (e := .normal) (s2 := (F51_h4 x1 a46 a54 h75 ((hov u59) :: (List.tail u59)) (IntKind.i64.wrap (a58 + 1)) (setI l59 a54 (setI y62 a58 (if (IntKind.i64.wrap (y64 + y68)) > y72 then (IntKind.i64.wrap (y64 + y68)) else y72))))) (hC := (ai m75 (ai ix72 (ai (At.one (P := Try.prog) (t := 3) (v := .int .i64 y68) at68 (by kernel_rfl) 0 rfl rfl) (ai ix68 (ai (At.one (P := Try.prog) (t := 29) (v := (sv (hnth (List.tail u59) a46))) at74 (by kernel_rfl) 0 rfl rfl) (ai ix66 (ai (At.one (P := Try.prog) (t := 3) (v := .int .i64 y64) at64 (by kernel_rfl) 0 rfl rfl) (ai ix64 (ai (At.one (P := Try.prog) (t := 29) (v := (sv (hnth (List.tail u59) a54))) at73 (by kernel_rfl) 0 rfl rfl) (ai ix62 (ai (At.one (P := Try.prog) (t := 3) (v := .int .i64 y72) at72 (by kernel_rfl) 0 rfl rfl) (ai ix72 (ai (At.one (P := Try.prog) (t := 29) (v := (sv (hnth (List.tail u59) a54))) at71 (by kernel_rfl) 0 rfl rfl) (ai ix62 (ai (At.one (P := Try.prog) (t := 29) (v := (sv (hnth (List.tail u59) a54))) at70 (by kernel_rfl) 0 rfl rfl) (ai ix62 (ai c69 kc69)))))))))))))))))) (hd := F51_d4) (h := by kernel_rfl)⟩
      · intro hr
        obtain rfl := Option.some.inj hr
        exact ⟨(F51_h4 x1 a46 a54 h60 u59 (IntKind.i64.wrap (a58 + 1)) l59), ⟨h60, u59, (Heapy.pickN2 (A := [⟨(hov u59), 29, 1, List.flatMap encH (List.tail u59)⟩]) (N := NIn 3 1 enc3 (List.tail u59) l59) hp60 1 rfl [0] (by decide) rfl), rfl⟩, pEnd_sound good (L := F51_L) (D := F51_D) (its := [.g, (.b true), .g, .g, .g, .g, (.ix id62 off62 g62), (.ld ((sv (hnth (List.tail u59) a54)))), .g, (.ix id64 off64 g64), (.ld (.int .i64 y64)), .g, .g, (.w .g), (.w .g), (.w (.ix id66 off66 g66)), (.w (.ld ((sv (hnth (List.tail u59) a46))))), (.w .g), (.w (.ix id68 off68 g68)), (.w (.ld (.int .i64 y68))), (.w .g), (.p true), (.b false), .g, .g]) (ds := F51_m4_0) (ks := []) (e := .normal) (s2 := (F51_h4 x1 a46 a54 h60 u59 (IntKind.i64.wrap (a58 + 1)) l59)) (hC := (ai c69 kc69)) (hd := F51_d4) (h := by kernel_rfl)⟩
    · intro hr
      obtain rfl := Option.some.inj hr
      exact ⟨(F51_h4 x1 a46 a54 h60 u59 (IntKind.i64.wrap (a58 + 1)) l59), ⟨h60, u59, (Heapy.pickN2 (A := [⟨(hov u59), 29, 1, List.flatMap encH (List.tail u59)⟩]) (N := NIn 3 1 enc3 (List.tail u59) l59) hp60 1 rfl [0] (by decide) rfl), rfl⟩, pEnd_sound good (L := F51_L) (D := F51_D) (its := [.g, (.b true), .g, .g, .g, .g, (.ix id62 off62 g62), (.ld ((sv (hnth (List.tail u59) a54)))), .g, (.ix id64 off64 g64), (.ld (.int .i64 y64)), .g, .g, .n, .n, .n, .n, .n, .n, .n, .n, (.p false), (.b false), .g, .g]) (ds := F51_m4_0) (ks := []) (e := .normal) (s2 := (F51_h4 x1 a46 a54 h60 u59 (IntKind.i64.wrap (a58 + 1)) l59)) (hC := (ai l_f (ai c65 (ai (g_ft c65) (ai (g_ft c65) (ai (g_ft c65) (ai (g_ft c65) (ai (g_ft c65) (ai (g_ft c65) (ai (g_ft c65) (ai (g_ft c65) kc65))))))))))) (hd := F51_d4) (h := by kernel_rfl)⟩
  · intro hr
    obtain rfl := Option.some.inj hr
    refine ⟨(.exit 10), (F51_x4_0 h x1 a46 a54 h60 u59 (l59 : (List (List Int)))), (by intro hh; cases hh), ?_, pEnd_sound good (L := F51_L) (D := F51_D) (its := [.g, (.b false)]) (ds := F51_m4_1) (ks := []) (e := (.exit 10)) (s2 := (F51_x4_0 h x1 a46 a54 h60 u59 (l59 : (List (List Int))))) (hC := (ai c61 trivial)) (hd := F51_d4) (h := by kernel_rfl)⟩
    exact ⟨rfl, h60, u59, (Heapy.pickN2 (A := [⟨(hov u59), 29, 1, List.flatMap encH (List.tail u59)⟩]) (N := NIn 3 1 enc3 (List.tail u59) l59) hp60 1 rfl [0] (by decide) rfl), rfl⟩
theorem F51_l4 (h : AHeap) (x1 : Int) (a46 : Int) (a54 : Int) (x : Int × (List (List Int))) (r : (List (List Int))) (hl : loopO (fun (s : Int × (List (List Int))) => F51_s4 x1 a46 a54 s.1 s.2) x = some r) (S : AS) (hI : (F51_i4 h x1 a46 a54) x S) : ∃ e S', (F51_x4 h x1 a46 a54) r e S' ∧ AWp Try.prog (.loop (codeOf Try.prog 51 [1, 1, 1, 1, 1, 0, 1, 0, 0, 1, 1, 0, 0, 1, 1, 0, 1, 0, 0, 1, 1, 0, 0, 1, 1, 0, 0])) (Ends1 e S') S :=
  loop_rel (fun x S hI => F51_r4 h x1 a46 a54 x.1 x.2 S hI) hl hI
def F51_m5_1 : List Bool := (false :: (rp 7 true (false :: (rp 80 true (false :: false :: (rp 82 true []))))))
def F51_m5_0 : List Bool := (false :: (rp 7 true (false :: (rp 4 true (false :: (rp 75 true (false :: false :: (rp 10 true (false :: false :: (rp 70 true []))))))))))
def F51_s5 (x1 : Int) (a46 : Int) (a54 : Int) (l55 : List (List Int)) : Option ((Int × (List (List Int))) ⊕ (List (List Int))) :=
  (bif decide (a54 < (F67 x1)) then
   (Option.bind (loopO (fun (s : Int × (List (List Int))) => F51_s4 x1 a46 a54 s.1 s.2) (0, l55)) fun y76 =>
   some (.inl ((IntKind.i64.wrap (a54 + 1)), y76)))
  else
   some (.inr l55))
def F51_h5 (x1 : Int) (a46 : Int) (h56 : AHeap) (u55 : List Hd) (a54 : Int) (l55 : List (List Int)) : AS := ⟨((.int .i64 (F67 x1)) :: (rp 7 junk ((sv (hov u55)) :: (rp 4 junk ((.int .i64 a46) :: (rp 75 junk ((.int .i64 (F67 x1)) :: (.int .i64 a46) :: (rp 10 junk ((.int .i64 (F67 x1)) :: (.int .i64 a54) :: (rp 70 junk [])))))))))), [], h56⟩
theorem F51_d5 : drawsOk F51_D (codeOf Try.prog 51 [1, 1, 1, 1, 1, 0, 1, 0, 0, 1, 1, 0, 0, 1, 1, 0, 1, 0, 0]) = true := by kernel_rfl
def F51_x5_0 (h : AHeap) (x1 : Int) (a46 : Int) (hx : AHeap) (w0 : List Hd) (r : (List (List Int))) : AS := ⟨((.int .i64 (F67 x1)) :: (rp 7 junk ((sv (hov w0)) :: (rp 80 junk ((.int .i64 (F67 x1)) :: (.int .i64 a46) :: (rp 82 junk [])))))), [], hx⟩
def F51_i5 (h : AHeap) (x1 : Int) (a46 : Int) (s : Int × (List (List Int))) (S : AS) : Prop := ∃ (h56 : AHeap) (u55 : List Hd), Heapy h h56 ([⟨(hov u55), 29, 1, List.flatMap encH (List.tail u55)⟩] ++ NIn 3 1 enc3 (List.tail u55) s.2) ∧ S = (F51_h5 x1 a46 h56 u55 s.1 s.2)
def F51_x5 (h : AHeap) (x1 : Int) (a46 : Int) (r : (List (List Int))) (e : Exit) (S : AS) : Prop := e = (.exit 8) ∧ ∃ (hx : AHeap) (w0 : List Hd), Heapy h hx ([⟨(hov w0), 29, 1, List.flatMap encH (List.tail w0)⟩] ++ NIn 3 1 enc3 (List.tail w0) r) ∧ S = (F51_x5_0 h x1 a46 hx w0 r)
set_option maxRecDepth 100000 in
theorem F51_r5 (h : AHeap) (x1 : Int) (a46 : Int) (a54 : Int) (l55 : List (List Int)) (S : AS) (hI : (F51_i5 h x1 a46) (a54, l55) S) (o : (Int × (List (List Int))) ⊕ (List (List Int))) : F51_s5 x1 a46 a54 l55 = some o → Rd Try.prog (codeOf Try.prog 51 [1, 1, 1, 1, 1, 0, 1, 0, 0, 1, 1, 0, 0, 1, 1, 0, 1, 0, 0]) (F51_i5 h x1 a46) (F51_x5 h x1 a46) S o := by
  obtain ⟨h56, u55, hp56, rfl⟩ := hI
  unfold F51_s5
  refine dec_bif (fun c57 => ?_) (fun c57 => ?_)
  · refine bind_opt fun y76 e76 => ?_
    obtain ⟨ee76, SS76, hX76, hA76⟩ := F51_l4 h x1 a46 a54 (0, l55) y76 e76 (F51_h4 x1 a46 a54 h56 u55 0 l55) ⟨h56, u55, (Heapy.pickN2 (A := [⟨(hov u55), 29, 1, List.flatMap encH (List.tail u55)⟩]) (N := NIn 3 1 enc3 (List.tail u55) l55) hp56 1 rfl [0] (by decide) rfl), rfl⟩
    obtain ⟨rfl, h77, w0_77, hp77, rfl⟩ := hX76
    intro hr
    obtain rfl := Option.some.inj hr
    exact ⟨(F51_h5 x1 a46 h77 w0_77 (IntKind.i64.wrap (a54 + 1)) y76), ⟨h77, w0_77, (Heapy.pickN2 (A := [⟨(hov w0_77), 29, 1, List.flatMap encH (List.tail w0_77)⟩]) (N := NIn 3 1 enc3 (List.tail w0_77) y76) hp77 1 rfl [0] (by decide) rfl), rfl⟩, pEnd_sound good (L := F51_L) (D := F51_D) (its := [.g, (.b true), .g, .g, .g, .g, (.l F51_m4_0 [] (.exit 10) (F51_x4_0 h x1 a46 a54 h77 w0_77 y76)), .g, .g]) (ds := F51_m5_0) (ks := []) (e := .normal) (s2 := (F51_h5 x1 a46 h77 w0_77 (IntKind.i64.wrap (a54 + 1)) y76)) (hC := (ai hA76 (ai c57 trivial))) (hd := F51_d5) (h := by kernel_rfl)⟩
  · intro hr
    obtain rfl := Option.some.inj hr
    refine ⟨(.exit 8), (F51_x5_0 h x1 a46 h56 u55 (l55 : (List (List Int)))), (by intro hh; cases hh), ?_, pEnd_sound good (L := F51_L) (D := F51_D) (its := [.g, (.b false)]) (ds := F51_m5_1) (ks := []) (e := (.exit 8)) (s2 := (F51_x5_0 h x1 a46 h56 u55 (l55 : (List (List Int))))) (hC := (ai c57 trivial)) (hd := F51_d5) (h := by kernel_rfl)⟩
    exact ⟨rfl, h56, u55, (Heapy.pickN2 (A := [⟨(hov u55), 29, 1, List.flatMap encH (List.tail u55)⟩]) (N := NIn 3 1 enc3 (List.tail u55) l55) hp56 1 rfl [0] (by decide) rfl), rfl⟩
theorem F51_l5 (h : AHeap) (x1 : Int) (a46 : Int) (x : Int × (List (List Int))) (r : (List (List Int))) (hl : loopO (fun (s : Int × (List (List Int))) => F51_s5 x1 a46 s.1 s.2) x = some r) (S : AS) (hI : (F51_i5 h x1 a46) x S) : ∃ e S', (F51_x5 h x1 a46) r e S' ∧ AWp Try.prog (.loop (codeOf Try.prog 51 [1, 1, 1, 1, 1, 0, 1, 0, 0, 1, 1, 0, 0, 1, 1, 0, 1, 0, 0])) (Ends1 e S') S :=
  loop_rel (fun x S hI => F51_r5 h x1 a46 x.1 x.2 S hI) hl hI
def F51_m6_2 : List Bool := (false :: (rp 7 true (false :: (rp 80 true (false :: false :: (rp 82 true []))))))
def F51_m6_1 : List Bool := (false :: (rp 7 true (false :: (rp 80 true (false :: false :: (rp 67 true (false :: false :: (rp 13 true []))))))))
def F51_m6_0 : List Bool := (rp 6 true (false :: false :: (rp 165 true [])))
def F51_s6 (x1 : Int) (y78 : (List (List Int))) (a80 : Int) : Option (Int ⊕ Nat) :=
  (bif decide (a80 < (F67 x1)) then
   (Option.bind (at? y78 a80) fun y82 =>
   (Option.bind (at? y82 a80) fun y84 =>
   (bif decide (y84 > 0) then
    some (.inr 0)
   else
    some (.inl (IntKind.i64.wrap (a80 + 1))))))
  else
   some (.inr 1))
def F51_h6 (x1 : Int) (a46 : Int) (w0_79 : List Hd) (h79 : AHeap)  (a80 : Int) : AS := ⟨((.int .i64 (F67 x1)) :: (rp 7 junk ((sv (hov w0_79)) :: (rp 80 junk ((.int .i64 (F67 x1)) :: (.int .i64 a46) :: (rp 67 junk ((.int .i64 (F67 x1)) :: (.int .i64 a80) :: (rp 13 junk [])))))))), [], h79⟩
theorem F51_d6 : drawsOk F51_D (codeOf Try.prog 51 [1, 1, 1, 1, 1, 0, 1, 0, 0, 1, 1, 0, 0, 1, 1, 1, 1, 0, 0]) = true := by kernel_rfl
def F51_x6_0 (x1 : Int) (a46 : Int) (w0_79 : List Hd) (h79 : AHeap)  (r : Nat) : AS := ⟨(rp 6 junk ((.slice none 0 0) :: (.bool false) :: (rp 165 junk []))), [], h79⟩
def F51_x6_1 (x1 : Int) (a46 : Int) (w0_79 : List Hd) (h79 : AHeap)  (r : Nat) : AS := ⟨((.int .i64 (F67 x1)) :: (rp 7 junk ((sv (hov w0_79)) :: (rp 80 junk ((.int .i64 (F67 x1)) :: (.int .i64 a46) :: (rp 82 junk [])))))), [], h79⟩
def F51_x6 (x1 : Int) (a46 : Int) (w0_79 : List Hd) (h79 : AHeap) (r : Nat) : Exit × AS := (bif Nat.beq r 0 then (.ret, (F51_x6_0 x1 a46 w0_79 h79 r)) else ((.exit 12), (F51_x6_1 x1 a46 w0_79 h79 r)))
set_option maxRecDepth 100000 in
theorem F51_r6 (h : AHeap) (x1 : Int) (a46 : Int) (y78 : (List (List Int))) (w0_79 : List Hd) (h79 : AHeap) (hp79 : Heapy h h79 ([⟨(hov w0_79), 29, 1, List.flatMap encH (List.tail w0_79)⟩] ++ NIn 3 1 enc3 (List.tail w0_79) y78)) (a80 : Int) (o : Int ⊕ Nat) : F51_s6 x1 y78 a80 = some o → RdF Try.prog (codeOf Try.prog 51 [1, 1, 1, 1, 1, 0, 1, 0, 0, 1, 1, 0, 0, 1, 1, 1, 1, 0, 0]) (fun (s : Int) => (F51_h6 x1 a46 w0_79 h79 s)) (F51_x6 x1 a46 w0_79 h79) (F51_h6 x1 a46 w0_79 h79 a80) o := by
  unfold F51_s6
  refine dec_bif (fun c81 => ?_) (fun c81 => ?_)
  · refine bind_opt fun y82 e82 => ?_
    obtain ⟨id82, off82, g82, cs82, ix82, _, _⟩ := SlE.at (Heapy.sle (v := (hov w0_79)) (xs := (List.tail w0_79)) (enc := encH) hp79 0 rfl (fun _ => rfl) (by decide)) (Heapy.niat (A := [⟨(hov w0_79), 29, 1, List.flatMap encH (List.tail w0_79)⟩]) (hs := (List.tail w0_79)) (xss := y78) hp79 e82)
    have at83 : At h79 id82 off82 g82 (encH (hnth (List.tail w0_79) a80)) := (SlE.atp (Heapy.sle (v := (hov w0_79)) (xs := (List.tail w0_79)) (enc := encH) hp79 0 rfl (fun _ => rfl) (by decide)) ix82 (Heapy.niat (A := [⟨(hov w0_79), 29, 1, List.flatMap encH (List.tail w0_79)⟩]) (hs := (List.tail w0_79)) (xss := y78) hp79 e82)).elim fun cs k => by obtain ⟨k1, rfl⟩ := k; exact k1
    refine bind_opt fun y84 e84 => ?_
    obtain ⟨id84, off84, g84, cs84, ix84, at84, rfl⟩ := SlE.at (Heapy.nisle (A := [⟨(hov w0_79), 29, 1, List.flatMap encH (List.tail w0_79)⟩]) (el := 3) (c := 1) (enc := enc3) (hs := (List.tail w0_79)) (xss := y78) hp79 e82 (fun _ => rfl) (by decide)) e84
    have kc85 := (ai (At.one (P := Try.prog) (t := 3) (v := .int .i64 y84) at84 (by kernel_rfl) 0 rfl rfl) (ai ix84 (ai (At.one (P := Try.prog) (t := 29) (v := (sv (hnth (List.tail w0_79) a80))) at83 (by kernel_rfl) 0 rfl rfl) (ai ix82 (ai c81 trivial)))))
    refine dec_bif (fun c85 => ?_) (fun c85 => ?_)
    · intro hr
      obtain rfl := Option.some.inj hr
      show AWp Try.prog _ (Ends1 ((F51_x6 x1 a46 w0_79 h79) (0 : Nat)).1 ((F51_x6 x1 a46 w0_79 h79) (0 : Nat)).2) _
      exact pEnd_sound good (L := F51_L) (D := F51_D) (its := [.g, (.b true), .g, .g, .g, .g, (.ix id82 off82 g82), (.ld ((sv (hnth (List.tail w0_79) a80)))), .g, (.ix id84 off84 g84), (.ld (.int .i64 y84)), .g, (.b true), .g, .g]) (ds := F51_m6_0) (ks := []) (e := ((F51_x6 x1 a46 w0_79 h79) (0 : Nat)).1) (s2 := ((F51_x6 x1 a46 w0_79 h79) (0 : Nat)).2) (hC := (ai c85 kc85)) (hd := F51_d6) (h := by kernel_rfl)
    · intro hr
      obtain rfl := Option.some.inj hr
      show AWp Try.prog _ (Ends1 .normal (F51_h6 x1 a46 w0_79 h79 (IntKind.i64.wrap (a80 + 1)))) _
      exact pEnd_sound good (L := F51_L) (D := F51_D) (its := [.g, (.b true), .g, .g, .g, .g, (.ix id82 off82 g82), (.ld ((sv (hnth (List.tail w0_79) a80)))), .g, (.ix id84 off84 g84), (.ld (.int .i64 y84)), .g, (.b false), .g, .g]) (ds := F51_m6_1) (ks := []) (e := .normal) (s2 := (F51_h6 x1 a46 w0_79 h79 (IntKind.i64.wrap (a80 + 1)))) (hC := (ai c85 kc85)) (hd := F51_d6) (h := by kernel_rfl)
  · intro hr
    obtain rfl := Option.some.inj hr
    show AWp Try.prog _ (Ends1 ((F51_x6 x1 a46 w0_79 h79) (1 : Nat)).1 ((F51_x6 x1 a46 w0_79 h79) (1 : Nat)).2) _
    exact pEnd_sound good (L := F51_L) (D := F51_D) (its := [.g, (.b false)]) (ds := F51_m6_2) (ks := []) (e := ((F51_x6 x1 a46 w0_79 h79) (1 : Nat)).1) (s2 := ((F51_x6 x1 a46 w0_79 h79) (1 : Nat)).2) (hC := (ai c81 trivial)) (hd := F51_d6) (h := by kernel_rfl)
theorem F51_l6_0 (h : AHeap) (x1 : Int) (a46 : Int) (y78 : (List (List Int))) (w0_79 : List Hd) (h79 : AHeap) (hp79 : Heapy h h79 ([⟨(hov w0_79), 29, 1, List.flatMap encH (List.tail w0_79)⟩] ++ NIn 3 1 enc3 (List.tail w0_79) y78)) (x : Int) (r : Nat) (hl : loopO (fun (s : Int) => F51_s6 x1 y78 s) x = some r) (q0 : Nat.beq r 0 = true) : AWp Try.prog (.loop (codeOf Try.prog 51 [1, 1, 1, 1, 1, 0, 1, 0, 0, 1, 1, 0, 0, 1, 1, 1, 1, 0, 0])) (Ends1 .ret (F51_x6_0 x1 a46 w0_79 h79 r)) ((fun (s : Int) => (F51_h6 x1 a46 w0_79 h79 s)) x) := by
  have k := loop_fun (P := Try.prog) (c := (codeOf Try.prog 51 [1, 1, 1, 1, 1, 0, 1, 0, 0, 1, 1, 0, 0, 1, 1, 1, 1, 0, 0])) (step := (fun (s : Int) => F51_s6 x1 y78 s)) (hd := (fun (s : Int) => (F51_h6 x1 a46 w0_79 h79 s))) (X := (F51_x6 x1 a46 w0_79 h79)) (by intro t; unfold F51_x6; cases Nat.beq t 0 <;> (intro h; cases h)) (fun x => F51_r6 h x1 a46 y78 w0_79 h79 hp79 x) hl
  simp only [F51_x6, q0, cond_true, cond_false] at k
  exact k
theorem F51_l6_1 (h : AHeap) (x1 : Int) (a46 : Int) (y78 : (List (List Int))) (w0_79 : List Hd) (h79 : AHeap) (hp79 : Heapy h h79 ([⟨(hov w0_79), 29, 1, List.flatMap encH (List.tail w0_79)⟩] ++ NIn 3 1 enc3 (List.tail w0_79) y78)) (x : Int) (r : Nat) (hl : loopO (fun (s : Int) => F51_s6 x1 y78 s) x = some r) (q0 : Nat.beq r 0 = false) : AWp Try.prog (.loop (codeOf Try.prog 51 [1, 1, 1, 1, 1, 0, 1, 0, 0, 1, 1, 0, 0, 1, 1, 1, 1, 0, 0])) (Ends1 (.exit 12) (F51_x6_1 x1 a46 w0_79 h79 r)) ((fun (s : Int) => (F51_h6 x1 a46 w0_79 h79 s)) x) := by
  have k := loop_fun (P := Try.prog) (c := (codeOf Try.prog 51 [1, 1, 1, 1, 1, 0, 1, 0, 0, 1, 1, 0, 0, 1, 1, 1, 1, 0, 0])) (step := (fun (s : Int) => F51_s6 x1 y78 s)) (hd := (fun (s : Int) => (F51_h6 x1 a46 w0_79 h79 s))) (X := (F51_x6 x1 a46 w0_79 h79)) (by intro t; unfold F51_x6; cases Nat.beq t 0 <;> (intro h; cases h)) (fun x => F51_r6 h x1 a46 y78 w0_79 h79 hp79 x) hl
  simp only [F51_x6, q0, cond_true, cond_false] at k
  exact k
def F51_m7_2 : List Bool := (rp 8 true (false :: (rp 164 true [])))
def F51_m7_1 : List Bool := (false :: (rp 7 true (false :: (rp 80 true (false :: false :: (rp 82 true []))))))
def F51_m7_0 : List Bool := (rp 6 true (false :: false :: (rp 165 true [])))
def F51_s7 (x1 : Int) (a46 : Int) (l47 : List (List Int)) : Option ((Int × (List (List Int))) ⊕ (Nat × (List (List Int)))) :=
  (bif decide (a46 < (F67 x1)) then
   (Option.bind (at? l47 a46) fun y50 =>
   (Option.bind (at? y50 a46) fun y52 =>
   (bif decide (y52 > 0) then
    some (.inr (0, []))
   else
    (Option.bind (loopO (fun (s : Int × (List (List Int))) => F51_s5 x1 a46 s.1 s.2) (0, l47)) fun y78 =>
    (Option.bind (loopO (fun (s : Int) => F51_s6 x1 y78 s) 0) fun y86 =>
    (bif (Nat.beq y86 0) then
     some (.inr (0, []))
    else
     some (.inl ((IntKind.i64.wrap (a46 + 1)), y78))))))))
  else
   some (.inr (1, l47)))
def F51_h7 (x1 : Int) (h48 : AHeap) (u47 : List Hd) (a46 : Int) (l47 : List (List Int)) : AS := ⟨((.int .i64 (F67 x1)) :: (rp 7 junk ((sv (hov u47)) :: (rp 80 junk ((.int .i64 (F67 x1)) :: (.int .i64 a46) :: (rp 82 junk [])))))), [], h48⟩
theorem F51_d7 : drawsOk F51_D (codeOf Try.prog 51 [1, 1, 1, 1, 1, 0, 1, 0, 0]) = true := by kernel_rfl
def F51_x7_0 (h : AHeap) (hx : AHeap) (r : Nat × (List (List Int))) : AS := ⟨(rp 6 junk ((.slice none 0 0) :: (.bool false) :: (rp 165 junk []))), [], hx⟩
def F51_x7_1 (h : AHeap) (hx : AHeap) (w0 : List Hd) (r : Nat × (List (List Int))) : AS := ⟨(rp 8 junk ((sv (hov w0)) :: (rp 164 junk []))), [], hx⟩
def F51_i7 (h : AHeap) (x1 : Int) (s : Int × (List (List Int))) (S : AS) : Prop := ∃ (h48 : AHeap) (u47 : List Hd), Heapy h h48 ([⟨(hov u47), 29, 1, List.flatMap encH (List.tail u47)⟩] ++ NIn 3 1 enc3 (List.tail u47) s.2) ∧ S = (F51_h7 x1 h48 u47 s.1 s.2)
def F51_x7 (h : AHeap) (r : Nat × (List (List Int))) (e : Exit) (S : AS) : Prop := (bif Nat.beq r.1 0 then (e = .ret ∧ ∃ (hx : AHeap), Heapy h hx [] ∧ S = (F51_x7_0 h hx r)) else (e = (.exit 6) ∧ ∃ (hx : AHeap) (w0 : List Hd), Heapy h hx ([⟨(hov w0), 29, 1, List.flatMap encH (List.tail w0)⟩] ++ NIn 3 1 enc3 (List.tail w0) r.2) ∧ S = (F51_x7_1 h hx w0 r)))
set_option maxRecDepth 100000 in
theorem F51_r7 (h : AHeap) (x1 : Int) (a46 : Int) (l47 : List (List Int)) (S : AS) (hI : (F51_i7 h x1) (a46, l47) S) (o : (Int × (List (List Int))) ⊕ (Nat × (List (List Int)))) : F51_s7 x1 a46 l47 = some o → Rd Try.prog (codeOf Try.prog 51 [1, 1, 1, 1, 1, 0, 1, 0, 0]) (F51_i7 h x1) (F51_x7 h) S o := by
  obtain ⟨h48, u47, hp48, rfl⟩ := hI
  unfold F51_s7
  refine dec_bif (fun c49 => ?_) (fun c49 => ?_)
  · refine bind_opt fun y50 e50 => ?_
    obtain ⟨id50, off50, g50, cs50, ix50, _, _⟩ := SlE.at (Heapy.sle (v := (hov u47)) (xs := (List.tail u47)) (enc := encH) hp48 0 rfl (fun _ => rfl) (by decide)) (Heapy.niat (A := [⟨(hov u47), 29, 1, List.flatMap encH (List.tail u47)⟩]) (hs := (List.tail u47)) (xss := l47) hp48 e50)
    have at51 : At h48 id50 off50 g50 (encH (hnth (List.tail u47) a46)) := (SlE.atp (Heapy.sle (v := (hov u47)) (xs := (List.tail u47)) (enc := encH) hp48 0 rfl (fun _ => rfl) (by decide)) ix50 (Heapy.niat (A := [⟨(hov u47), 29, 1, List.flatMap encH (List.tail u47)⟩]) (hs := (List.tail u47)) (xss := l47) hp48 e50)).elim fun cs k => by obtain ⟨k1, rfl⟩ := k; exact k1
    refine bind_opt fun y52 e52 => ?_
    obtain ⟨id52, off52, g52, cs52, ix52, at52, rfl⟩ := SlE.at (Heapy.nisle (A := [⟨(hov u47), 29, 1, List.flatMap encH (List.tail u47)⟩]) (el := 3) (c := 1) (enc := enc3) (hs := (List.tail u47)) (xss := l47) hp48 e50 (fun _ => rfl) (by decide)) e52
    have kc53 := (ai (At.one (P := Try.prog) (t := 3) (v := .int .i64 y52) at52 (by kernel_rfl) 0 rfl rfl) (ai ix52 (ai (At.one (P := Try.prog) (t := 29) (v := (sv (hnth (List.tail u47) a46))) at51 (by kernel_rfl) 0 rfl rfl) (ai ix50 (ai c49 trivial)))))
    refine dec_bif (fun c53 => ?_) (fun c53 => ?_)
    · intro hr
      obtain rfl := Option.some.inj hr
      refine ⟨.ret, (F51_x7_0 h h48 ((0, []) : Nat × (List (List Int)))), (by intro hh; cases hh), ?_, pEnd_sound good (L := F51_L) (D := F51_D) (its := [.g, (.b true), .g, .g, .g, .g, (.ix id50 off50 g50), (.ld ((sv (hnth (List.tail u47) a46)))), .g, (.ix id52 off52 g52), (.ld (.int .i64 y52)), .g, (.b true), .g, .g]) (ds := F51_m7_0) (ks := []) (e := .ret) (s2 := (F51_x7_0 h h48 ((0, []) : Nat × (List (List Int))))) (hC := (ai c53 kc53)) (hd := F51_d7) (h := by kernel_rfl)⟩
      exact ⟨rfl, h48, (Heapy.pick (Heapy.head (A := [⟨(hov u47), 29, 1, List.flatMap encH (List.tail u47)⟩]) (N := NIn 3 1 enc3 (List.tail u47) l47) hp48) [] (by decide)), rfl⟩
    · refine bind_opt fun y78 e78 => ?_
      obtain ⟨ee78, SS78, hX78, hA78⟩ := F51_l5 h x1 a46 (0, l47) y78 e78 (F51_h5 x1 a46 h48 u47 0 l47) ⟨h48, u47, (Heapy.pickN2 (A := [⟨(hov u47), 29, 1, List.flatMap encH (List.tail u47)⟩]) (N := NIn 3 1 enc3 (List.tail u47) l47) hp48 1 rfl [0] (by decide) rfl), rfl⟩
      obtain ⟨rfl, h79, w0_79, hp79, rfl⟩ := hX78
      refine bind_opt fun y86 e86 => ?_
      have kc87 := (ai hA78 (ai c53 kc53))
      refine dec_bif (fun c87 => ?_) (fun c87 => ?_)
      · intro hr
        obtain rfl := Option.some.inj hr
        refine ⟨.ret, (F51_x7_0 h h79 ((0, []) : Nat × (List (List Int)))), (by intro hh; cases hh), ?_, pEnd_sound good (L := F51_L) (D := F51_D) (its := [.g, (.b true), .g, .g, .g, .g, (.ix id50 off50 g50), (.ld ((sv (hnth (List.tail u47) a46)))), .g, (.ix id52 off52 g52), (.ld (.int .i64 y52)), .g, (.b false), .g, .g, (.l F51_m5_0 [] (.exit 8) (F51_x5_0 h x1 a46 h79 w0_79 y78)), .g, .g, (.l F51_m6_1 [] .ret (F51_x6_0 x1 a46 w0_79 h79 y86))]) (ds := F51_m7_0) (ks := []) (e := .ret) (s2 := (F51_x7_0 h h79 ((0, []) : Nat × (List (List Int))))) (hC := (ai (F51_l6_0 h x1 a46 y78 w0_79 h79 hp79 0 y86 e86 c87) kc87)) (hd := F51_d7) (h := by kernel_rfl)⟩
        exact ⟨rfl, h79, (Heapy.pick (Heapy.head (A := [⟨(hov w0_79), 29, 1, List.flatMap encH (List.tail w0_79)⟩]) (N := NIn 3 1 enc3 (List.tail w0_79) y78) hp79) [] (by decide)), rfl⟩
      · intro hr
        obtain rfl := Option.some.inj hr
        exact ⟨(F51_h7 x1 h79 w0_79 (IntKind.i64.wrap (a46 + 1)) y78), ⟨h79, w0_79, (Heapy.pickN2 (A := [⟨(hov w0_79), 29, 1, List.flatMap encH (List.tail w0_79)⟩]) (N := NIn 3 1 enc3 (List.tail w0_79) y78) hp79 1 rfl [0] (by decide) rfl), rfl⟩, pEnd_sound good (L := F51_L) (D := F51_D) (its := [.g, (.b true), .g, .g, .g, .g, (.ix id50 off50 g50), (.ld ((sv (hnth (List.tail u47) a46)))), .g, (.ix id52 off52 g52), (.ld (.int .i64 y52)), .g, (.b false), .g, .g, (.l F51_m5_0 [] (.exit 8) (F51_x5_0 h x1 a46 h79 w0_79 y78)), .g, .g, (.l F51_m6_1 [] (.exit 12) (F51_x6_1 x1 a46 w0_79 h79 y86)), .g, .g]) (ds := F51_m7_1) (ks := []) (e := .normal) (s2 := (F51_h7 x1 h79 w0_79 (IntKind.i64.wrap (a46 + 1)) y78)) (hC := (ai (F51_l6_1 h x1 a46 y78 w0_79 h79 hp79 0 y86 e86 c87) kc87)) (hd := F51_d7) (h := by kernel_rfl)⟩
  · intro hr
    obtain rfl := Option.some.inj hr
    refine ⟨(.exit 6), (F51_x7_1 h h48 u47 ((1, l47) : Nat × (List (List Int)))), (by intro hh; cases hh), ?_, pEnd_sound good (L := F51_L) (D := F51_D) (its := [.g, (.b false)]) (ds := F51_m7_2) (ks := []) (e := (.exit 6)) (s2 := (F51_x7_1 h h48 u47 ((1, l47) : Nat × (List (List Int))))) (hC := (ai c49 trivial)) (hd := F51_d7) (h := by kernel_rfl)⟩
    exact ⟨rfl, h48, u47, (Heapy.pickN2 (A := [⟨(hov u47), 29, 1, List.flatMap encH (List.tail u47)⟩]) (N := NIn 3 1 enc3 (List.tail u47) l47) hp48 1 rfl [0] (by decide) rfl), rfl⟩
theorem F51_l7 (h : AHeap) (x1 : Int) (x : Int × (List (List Int))) (r : Nat × (List (List Int))) (hl : loopO (fun (s : Int × (List (List Int))) => F51_s7 x1 s.1 s.2) x = some r) (S : AS) (hI : (F51_i7 h x1) x S) : ∃ e S', (F51_x7 h) r e S' ∧ AWp Try.prog (.loop (codeOf Try.prog 51 [1, 1, 1, 1, 1, 0, 1, 0, 0])) (Ends1 e S') S :=
  loop_rel (fun x S hI => F51_r7 h x1 x.1 x.2 S hI) hl hI
def F51 (x1 : Int) (l2 : List (Int × Int × Int × Int)) (x3 : Int) : Option ((List (List Int)) × Bool) :=
  (Option.bind (loopO (fun (s : Int × (List (List Int))) => F51_s2 x1 s.1 s.2) (0, ([] : List (List Int)))) fun y29 =>
  (Option.bind (loopO (fun (s : Int × (List (List Int))) => F51_s3 x1 l2 x3 s.1 s.2) (0, y29)) fun y44 =>
  (Option.bind (loopO (fun (s : Int × (List (List Int))) => F51_s7 x1 s.1 s.2) (0, y44)) fun y88 =>
  (bif (Nat.beq y88.1 0) then
   some ([], false)
  else
   some (y88.2, true)))))
set_option maxRecDepth 100000 in
theorem F51_spec (x1 : Int) (l2 : List (Int × Int × Int × Int)) (x3 : Int) (v2 : Hd) (h : AHeap) (hw : h.wf) (hv2 : SlE E57 4 h (sv v2) l2) (r : (List (List Int)) × Bool) : F51 x1 l2 x3 = some r → ∃ (ur0 : Hd) (ur0h : List Hd) (h' : AHeap), Heapy h h' ([⟨ur0, 29, 1, List.flatMap encH ur0h⟩] ++ NIn 3 1 enc3 ur0h r.1) ∧ ACalls Try.prog 51 [.int .i64 x1, (sv v2), .int .i64 x3] h (fun v' h'' => v' = (.tuple #[(sv ur0), .bool r.2] : Value) ∧ h'' = h') := by
  unfold F51
  refine bind_opt fun y29 e29 => ?_
  have hp5 : Heapy h h ([⟨⟨none, 0, 0⟩, 29, 1, List.flatMap encH ([] : List Hd)⟩] ++ NIn 3 1 enc3 ([] : List Hd) ([] : List (List Int))) := Heapy.nilO (el := 3) (c := 1) (enc := enc3) (Heapy.refl hw) 29
  obtain ⟨ee29, SS29, hX29, hA29⟩ := F51_l2 h x1 v2 x3 (0, ([] : List (List Int))) y29 e29 (F51_h2 x1 v2 x3 h ((⟨none, 0, 0⟩ : Hd) :: ([] : List Hd)) 0 ([] : List (List Int))) ⟨h, ((⟨none, 0, 0⟩ : Hd) :: ([] : List Hd)), (Heapy.pickN2 (A := [⟨⟨none, 0, 0⟩, 29, 1, List.flatMap encH ([] : List Hd)⟩]) (N := NIn 3 1 enc3 ([] : List Hd) ([] : List (List Int))) hp5 1 rfl [0] (by decide) rfl), rfl⟩
  obtain ⟨rfl, h30, w0_30, hp30, rfl⟩ := hX29
  refine bind_opt fun y44 e44 => ?_
  obtain ⟨ee44, SS44, hX44, hA44⟩ := F51_l3 h x1 l2 v2 hv2 x3 (0, y29) y44 e44 (F51_h3 x1 l2 v2 x3 h30 w0_30 0 y29) ⟨h30, w0_30, (Heapy.pickN2 (A := [⟨(hov w0_30), 29, 1, List.flatMap encH (List.tail w0_30)⟩]) (N := NIn 3 1 enc3 (List.tail w0_30) y29) hp30 1 rfl [0] (by decide) rfl), rfl⟩
  obtain ⟨rfl, h45, w0_45, hp45, rfl⟩ := hX44
  refine bind_opt fun y88 e88 => ?_
  obtain ⟨ee88, SS88, hX88, hA88⟩ := F51_l7 h x1 (0, y44) y88 e88 (F51_h7 x1 h45 w0_45 0 y44) ⟨h45, w0_45, (Heapy.pickN2 (A := [⟨(hov w0_45), 29, 1, List.flatMap encH (List.tail w0_45)⟩]) (N := NIn 3 1 enc3 (List.tail w0_45) y44) hp45 1 rfl [0] (by decide) rfl), rfl⟩
  have kc89 := (ai hA44 (ai (SlE.len hv2) (ai hA29 (ai (F67_spec x1 h _ rfl) trivial))))
  refine dec_bif (fun c89 => ?_) (fun c89 => ?_)
  · simp only [F51_x7, c89, cond_true, cond_false] at hX88
    obtain ⟨rfl, h90, hp90, rfl⟩ := hX88
    intro hr
    obtain rfl := Option.some.inj hr
    exact ⟨⟨none, 0, 0⟩, [], h90, Heapy.nilN (el := 3) (c := 1) (enc := enc3) (Heapy.drop hp90) 29, pFun_sound good tab_ok (f := 51) (its := [.g, .g, .g, (.c (.int .i64 (F67 x1)) h), .g, .g, .g, .g, (.l F51_m2_0 [] (.exit 0) (F51_x2_0 h x1 v2 x3 h30 w0_30 y29)), .g, (.ln l2.length), .g, (.l F51_m3_0 [] (.exit 4) (F51_x3_0 h x1 h45 w0_45 y44)), .g, .g, (.l F51_m7_1 [] .ret (F51_x7_0 h h90 y88))]) (args := [.int .i64 x1, (sv v2), .int .i64 x3]) (h := h) (h' := h90) (v := .tuple #[.slice none 0 0, .bool false]) (hC := (ai hA88 kc89)) (hr := by kernel_rfl)⟩
  · simp only [F51_x7, c89, cond_true, cond_false] at hX88
    obtain ⟨rfl, h91, w0_91, hp91, rfl⟩ := hX88
    intro hr
    obtain rfl := Option.some.inj hr
    exact ⟨(hov w0_91), (List.tail w0_91), h91, (Heapy.pickN2 (A := [⟨(hov w0_91), 29, 1, List.flatMap encH (List.tail w0_91)⟩]) (N := NIn 3 1 enc3 (List.tail w0_91) y88.2) hp91 1 rfl [0] (by decide) rfl), pFun_sound good tab_ok (f := 51) (its := [.g, .g, .g, (.c (.int .i64 (F67 x1)) h), .g, .g, .g, .g, (.l F51_m2_0 [] (.exit 0) (F51_x2_0 h x1 v2 x3 h30 w0_30 y29)), .g, (.ln l2.length), .g, (.l F51_m3_0 [] (.exit 4) (F51_x3_0 h x1 h45 w0_45 y44)), .g, .g, (.l F51_m7_1 [] (.exit 6) (F51_x7_1 h h91 w0_91 y88)), .g, .g, .g]) (args := [.int .i64 x1, (sv v2), .int .i64 x3]) (h := h) (h' := h91) (v := .tuple #[(sv (hov w0_91)), .bool true]) (hC := (ai hA88 kc89)) (hr := by kernel_rfl)⟩
/-! 52 jacquard/jacquardref30.Bound -/
def F52__1 (y4 : Int) : Int := (if 1073741824 < (if (-1073741824) > y4 then (-1073741824) else y4) then 1073741824 else (if (-1073741824) > y4 then (-1073741824) else y4))
def F52 (l1 : List Int) (x2 : Int) : Option (Int) :=
  (bif decide (x2 ≥ (l1.length : Int)) then
   some (0)
  else
   (Option.bind (at? l1 x2) fun y4 =>
   some (F52__1 y4)))
set_option maxRecDepth 100000 in
theorem F52_spec (l1 : List Int) (x2 : Int) (v1 : Hd) (h : AHeap) (hv1 : SlE E3 1 h (sv v1) l1) (r : Int) : F52 l1 x2 = some r → ACalls Try.prog 52 [(sv v1), .int .i64 x2] h (fun v' h'' => v' = (.int .i64 r : Value) ∧ h'' = h) := by
  unfold F52
  have kc3 := (ai (SlE.len hv1) trivial)
  refine dec_bif (fun c3 => ?_) (fun c3 => ?_)
  · intro hr
    obtain rfl := Option.some.inj hr
    exact pFun_sound good tab_ok (f := 52) (its := [.g, .g, .g, (.ln l1.length), .g, (.b true), .g]) (args := [(sv v1), .int .i64 x2]) (h := h) (h' := h) (v := .int .i64 0) (hC := (ai c3 kc3)) (hr := by kernel_rfl)
  · refine bind_opt fun y4 e4 => ?_
    obtain ⟨id4, off4, g4, cs4, ix4, at4, rfl⟩ := SlE.at hv1 e4
    intro hr
    obtain rfl := Option.some.inj hr
    exact pFun_sound good tab_ok (f := 52) (its := [.g, .g, .g, (.ln l1.length), .g, (.b false), .g, .g, (.ix id4 off4 g4), (.ld (.int .i64 y4)), .g, .g, .g]) (args := [(sv v1), .int .i64 x2]) (h := h) (h' := h) (v := .int .i64 (F52__1 y4)) (hC := (ai (At.one (P := Try.prog) (t := 3) (v := .int .i64 y4) at4 (by kernel_rfl) 0 rfl rfl) (ai ix4 (ai c3 kc3)))) (hr := by kernel_rfl)
/-! 27 jacquard/jacquardref30.After -/
def F27_L : List Nat := []
def F27_D : List (Nat × List (Nat × Nat)) := [(13, [(0, 2), (1, 2), (2, 2), (4, 2), (5, 2), (6, 2), (8, 2), (7, 5), (9, 2), (10, 5), (3, 1), (11, 2), (12, 2), (13, 2)])]
def F27_m1_1 : List Bool := (true :: true :: true :: false :: (rp 6 true (false :: true :: false :: true :: false :: (rp 11 true (false :: false :: (rp 38 true []))))))
def F27_m1_0 : List Bool := (true :: true :: true :: false :: (rp 6 true (false :: true :: false :: false :: false :: (rp 11 true (false :: false :: (rp 6 true (false :: false :: (rp 30 true []))))))))
def F27_s1 (l4 : List Int) (y5 : (List (List Int)) × Bool) (a11 : Int) (a17 : Int) (a18 : Int) : Option ((Int × Int) ⊕ Int) :=
  (bif decide (a18 < (y5.1.length : Int)) then
   (Option.bind (at? y5.1 a18) fun y20 =>
   (Option.bind (at? y20 a11) fun y22 =>
   (bif decide (y22 > (-1152921504606846976)) then
    (Option.bind (F52 l4 a18) fun y25 =>
    some (.inl ((if (IntKind.i64.wrap (y25 + y22)) > a17 then (IntKind.i64.wrap (y25 + y22)) else a17), (IntKind.i64.wrap (a18 + 1)))))
   else
    some (.inl (a17, (IntKind.i64.wrap (a18 + 1)))))))
  else
   some (.inr a17))
def F27_h1 (v4 : Hd) (y5 : (List (List Int)) × Bool) (u6_0 : Hd) (a11 : Int) (u12 : Hd) (h13 : AHeap)  (a17 : Int) (a18 : Int) : AS := ⟨(junk :: junk :: junk :: (sv v4) :: (rp 6 junk ((sv u6_0) :: junk :: (sv u12) :: (.int .i64 a11) :: (.int .i64 a17) :: (rp 11 junk ((.int .i64 (y5.1.length : Int)) :: (.int .i64 a11) :: (rp 6 junk ((.int .i64 (y5.1.length : Int)) :: (.int .i64 a18) :: (rp 30 junk [])))))))), [], h13⟩
theorem F27_d1 : drawsOk F27_D (codeOf Try.prog 27 [1, 1, 1, 1, 0, 1, 0, 0, 1, 1, 0, 0, 1, 1, 0, 1, 0, 0]) = true := by kernel_rfl
def F27_x1_0 (v4 : Hd) (y5 : (List (List Int)) × Bool) (u6_0 : Hd) (a11 : Int) (u12 : Hd) (h13 : AHeap)  (r : Int) : AS := ⟨(junk :: junk :: junk :: (sv v4) :: (rp 6 junk ((sv u6_0) :: junk :: (sv u12) :: junk :: (.int .i64 r) :: (rp 11 junk ((.int .i64 (y5.1.length : Int)) :: (.int .i64 a11) :: (rp 38 junk [])))))), [], h13⟩
def F27_x1 (v4 : Hd) (y5 : (List (List Int)) × Bool) (u6_0 : Hd) (a11 : Int) (u12 : Hd) (h13 : AHeap) (r : Int) : Exit × AS := ((.exit 2), (F27_x1_0 v4 y5 u6_0 a11 u12 h13 r))
set_option maxRecDepth 100000 in
theorem F27_r1 (h : AHeap) (l4 : List Int) (v4 : Hd) (hv4 : SlE E3 1 h (sv v4) l4) (y5 : (List (List Int)) × Bool) (u6_0 : Hd) (u6_0h : List Hd) (a11 : Int) (l12 : List Int) (u12 : Hd) (h13 : AHeap) (hp13 : Heapy h h13 ([⟨u6_0, 29, 1, List.flatMap encH u6_0h⟩, ⟨u12, 3, 1, List.flatMap enc3 l12⟩] ++ NIn 3 1 enc3 u6_0h y5.1)) (a17 : Int) (a18 : Int) (o : (Int × Int) ⊕ Int) : F27_s1 l4 y5 a11 a17 a18 = some o → RdF Try.prog (codeOf Try.prog 27 [1, 1, 1, 1, 0, 1, 0, 0, 1, 1, 0, 0, 1, 1, 0, 1, 0, 0]) (fun (s : Int × Int) => (F27_h1 v4 y5 u6_0 a11 u12 h13 s.1 s.2)) (F27_x1 v4 y5 u6_0 a11 u12 h13) (F27_h1 v4 y5 u6_0 a11 u12 h13 a17 a18) o := by
  unfold F27_s1
  refine dec_bif (fun c19 => ?_) (fun c19 => ?_)
  · refine bind_opt fun y20 e20 => ?_
    obtain ⟨id20, off20, g20, cs20, ix20, _, _⟩ := SlE.at (Heapy.sle (v := u6_0) (xs := u6_0h) (enc := encH) hp13 0 rfl (fun _ => rfl) (by decide)) (Heapy.niat (A := [⟨u6_0, 29, 1, List.flatMap encH u6_0h⟩, ⟨u12, 3, 1, List.flatMap enc3 l12⟩]) (hs := u6_0h) (xss := y5.1) hp13 e20)
    have at21 : At h13 id20 off20 g20 (encH (hnth u6_0h a18)) := (SlE.atp (Heapy.sle (v := u6_0) (xs := u6_0h) (enc := encH) hp13 0 rfl (fun _ => rfl) (by decide)) ix20 (Heapy.niat (A := [⟨u6_0, 29, 1, List.flatMap encH u6_0h⟩, ⟨u12, 3, 1, List.flatMap enc3 l12⟩]) (hs := u6_0h) (xss := y5.1) hp13 e20)).elim fun cs k => by obtain ⟨k1, rfl⟩ := k; exact k1
    refine bind_opt fun y22 e22 => ?_
    obtain ⟨id22, off22, g22, cs22, ix22, at22, rfl⟩ := SlE.at (Heapy.nisle (A := [⟨u6_0, 29, 1, List.flatMap encH u6_0h⟩, ⟨u12, 3, 1, List.flatMap enc3 l12⟩]) (el := 3) (c := 1) (enc := enc3) (hs := u6_0h) (xss := y5.1) hp13 e20 (fun _ => rfl) (by decide)) e22
    have kc23 := (ai (At.one (P := Try.prog) (t := 3) (v := .int .i64 y22) at22 (by kernel_rfl) 0 rfl rfl) (ai ix22 (ai (At.one (P := Try.prog) (t := 29) (v := (sv (hnth u6_0h a18))) at21 (by kernel_rfl) 0 rfl rfl) (ai ix20 (ai c19 trivial)))))
    refine dec_bif (fun c23 => ?_) (fun c23 => ?_)
    · have at24 : At h13 id20 off20 g20 (encH (hnth u6_0h a18)) := (SlE.atp (Heapy.sle (v := u6_0) (xs := u6_0h) (enc := encH) hp13 0 rfl (fun _ => rfl) (by decide)) ix20 (Heapy.niat (A := [⟨u6_0, 29, 1, List.flatMap encH u6_0h⟩, ⟨u12, 3, 1, List.flatMap enc3 l12⟩]) (hs := u6_0h) (xss := y5.1) hp13 e20)).elim fun cs k => by obtain ⟨k1, rfl⟩ := k; exact k1
      refine bind_opt fun y25 e25 => ?_
      intro hr
      obtain rfl := Option.some.inj hr
      show AWp Try.prog _ (Ends1 .normal (F27_h1 v4 y5 u6_0 a11 u12 h13 (if (IntKind.i64.wrap (y25 + y22)) > a17 then (IntKind.i64.wrap (y25 + y22)) else a17) (IntKind.i64.wrap (a18 + 1)))) _
      exact pEnd_sound good (L := F27_L) (D := F27_D) (its := [.g, (.b true), .g, .g, .g, .g, (.ix id20 off20 g20), (.ld ((sv (hnth u6_0h a18)))), .g, (.ix id22 off22 g22), (.ld (.int .i64 y22)), .g, (.b true), .g, .g, .g, .g, .g, (.ix id20 off20 g20), .g, (.ld ((sv (hnth u6_0h a18)))), (.ix id22 off22 g22), (.ld (.int .i64 y22)), (.c (.int .i64 y25) h13), .g, .g, .g, .g, .g]) (ds := F27_m1_0) (ks := []) (e := .normal) (s2 := (F27_h1 v4 y5 u6_0 a11 u12 h13 (if (IntKind.i64.wrap (y25 + y22)) > a17 then (IntKind.i64.wrap (y25 + y22)) else a17) (IntKind.i64.wrap (a18 + 1)))) (hC := (ai (show AKeep h13 h13 from (AHeap.sub_refl h13)) (ai (F52_spec l4 a18 v4 h13 (SlE.mono hv4 (Heapy.sub hp13) (E3_mono (Heapy.sub hp13))) _ e25) (ai (At.one (P := Try.prog) (t := 3) (v := .int .i64 y22) at22 (by kernel_rfl) 0 rfl rfl) (ai ix22 (ai (At.one (P := Try.prog) (t := 29) (v := (sv (hnth u6_0h a18))) at24 (by kernel_rfl) 0 rfl rfl) (ai ix20 (ai c23 kc23)))))))) (hd := F27_d1) (h := by kernel_rfl)
    · intro hr
      obtain rfl := Option.some.inj hr
      show AWp Try.prog _ (Ends1 .normal (F27_h1 v4 y5 u6_0 a11 u12 h13 a17 (IntKind.i64.wrap (a18 + 1)))) _
      exact pEnd_sound good (L := F27_L) (D := F27_D) (its := [.g, (.b true), .g, .g, .g, .g, (.ix id20 off20 g20), (.ld ((sv (hnth u6_0h a18)))), .g, (.ix id22 off22 g22), (.ld (.int .i64 y22)), .g, (.b false), .g, .g]) (ds := F27_m1_0) (ks := []) (e := .normal) (s2 := (F27_h1 v4 y5 u6_0 a11 u12 h13 a17 (IntKind.i64.wrap (a18 + 1)))) (hC := (ai c23 kc23)) (hd := F27_d1) (h := by kernel_rfl)
  · intro hr
    obtain rfl := Option.some.inj hr
    show AWp Try.prog _ (Ends1 ((F27_x1 v4 y5 u6_0 a11 u12 h13) (a17 : Int)).1 ((F27_x1 v4 y5 u6_0 a11 u12 h13) (a17 : Int)).2) _
    exact pEnd_sound good (L := F27_L) (D := F27_D) (its := [.g, (.b false)]) (ds := F27_m1_1) (ks := []) (e := ((F27_x1 v4 y5 u6_0 a11 u12 h13) (a17 : Int)).1) (s2 := ((F27_x1 v4 y5 u6_0 a11 u12 h13) (a17 : Int)).2) (hC := (ai c19 trivial)) (hd := F27_d1) (h := by kernel_rfl)
theorem F27_l1_0 (h : AHeap) (l4 : List Int) (v4 : Hd) (hv4 : SlE E3 1 h (sv v4) l4) (y5 : (List (List Int)) × Bool) (u6_0 : Hd) (u6_0h : List Hd) (a11 : Int) (l12 : List Int) (u12 : Hd) (h13 : AHeap) (hp13 : Heapy h h13 ([⟨u6_0, 29, 1, List.flatMap encH u6_0h⟩, ⟨u12, 3, 1, List.flatMap enc3 l12⟩] ++ NIn 3 1 enc3 u6_0h y5.1)) (x : Int × Int) (r : Int) (hl : loopO (fun (s : Int × Int) => F27_s1 l4 y5 a11 s.1 s.2) x = some r) : AWp Try.prog (.loop (codeOf Try.prog 27 [1, 1, 1, 1, 0, 1, 0, 0, 1, 1, 0, 0, 1, 1, 0, 1, 0, 0])) (Ends1 (.exit 2) (F27_x1_0 v4 y5 u6_0 a11 u12 h13 r)) ((fun (s : Int × Int) => (F27_h1 v4 y5 u6_0 a11 u12 h13 s.1 s.2)) x) := by
  have k := loop_fun (P := Try.prog) (c := (codeOf Try.prog 27 [1, 1, 1, 1, 0, 1, 0, 0, 1, 1, 0, 0, 1, 1, 0, 1, 0, 0])) (step := (fun (s : Int × Int) => F27_s1 l4 y5 a11 s.1 s.2)) (hd := (fun (s : Int × Int) => (F27_h1 v4 y5 u6_0 a11 u12 h13 s.1 s.2))) (X := (F27_x1 v4 y5 u6_0 a11 u12 h13)) (by intro t; unfold F27_x1; intro h; cases h) (fun x => F27_r1 h l4 v4 hv4 y5 u6_0 u6_0h a11 l12 u12 h13 hp13 x.1 x.2) hl
  exact k
def F27_m2_1 : List Bool := (rp 12 true (false :: (rp 53 true [])))
def F27_m2_0 : List Bool := (true :: true :: true :: false :: (rp 6 true (false :: true :: false :: (rp 13 true (false :: false :: (rp 38 true []))))))
def F27_s2 (l4 : List Int) (y5 : (List (List Int)) × Bool) (a11 : Int) (l12 : List Int) : Option ((Int × (List Int)) ⊕ (List Int)) :=
  (bif decide (a11 < (y5.1.length : Int)) then
   (Option.bind (F52 l4 a11) fun y15 =>
   (Option.bind (loopO (fun (s : Int × Int) => F27_s1 l4 y5 a11 s.1 s.2) (y15, 0)) fun y27 =>
   (bif (!(okApp (l12.length + ([y27] : List Int).length) 8)) then none else
   some (.inl ((IntKind.i64.wrap (a11 + 1)), (l12 ++ ([y27] : List Int)))))))
  else
   some (.inr l12))
def F27_h2 (v4 : Hd) (y5 : (List (List Int)) × Bool) (u6_0 : Hd) (h13 : AHeap) (u12 : Hd) (a11 : Int) (l12 : List Int) : AS := ⟨(junk :: junk :: junk :: (sv v4) :: (rp 6 junk ((sv u6_0) :: junk :: (sv u12) :: (rp 13 junk ((.int .i64 (y5.1.length : Int)) :: (.int .i64 a11) :: (rp 38 junk [])))))), [], h13⟩
theorem F27_d2 : drawsOk F27_D (codeOf Try.prog 27 [1, 1, 1, 1, 0, 1, 0, 0]) = true := by kernel_rfl
def F27_x2_0 (h : AHeap) (hx : AHeap) (w0 : Hd) (r : (List Int)) : AS := ⟨(rp 12 junk ((sv w0) :: (rp 53 junk []))), [], hx⟩
def F27_i2 (h : AHeap) (v4 : Hd) (y5 : (List (List Int)) × Bool) (u6_0 : Hd) (u6_0h : List Hd) (s : Int × (List Int)) (S : AS) : Prop := ∃ (h13 : AHeap) (u12 : Hd), Heapy h h13 ([⟨u6_0, 29, 1, List.flatMap encH u6_0h⟩, ⟨u12, 3, 1, List.flatMap enc3 s.2⟩] ++ NIn 3 1 enc3 u6_0h y5.1) ∧ Strict u12 ∧ S = (F27_h2 v4 y5 u6_0 h13 u12 s.1 s.2)
def F27_x2 (h : AHeap) (r : (List Int)) (e : Exit) (S : AS) : Prop := e = (.exit 0) ∧ ∃ (hx : AHeap) (w0 : Hd), Heapy h hx [⟨w0, 3, 1, List.flatMap enc3 r⟩] ∧ Strict w0 ∧ S = (F27_x2_0 h hx w0 r)
set_option maxRecDepth 100000 in
theorem F27_r2 (h : AHeap) (l4 : List Int) (v4 : Hd) (hv4 : SlE E3 1 h (sv v4) l4) (y5 : (List (List Int)) × Bool) (u6_0 : Hd) (u6_0h : List Hd) (a11 : Int) (l12 : List Int) (S : AS) (hI : (F27_i2 h v4 y5 u6_0 u6_0h) (a11, l12) S) (o : (Int × (List Int)) ⊕ (List Int)) : F27_s2 l4 y5 a11 l12 = some o → Rd Try.prog (codeOf Try.prog 27 [1, 1, 1, 1, 0, 1, 0, 0]) (F27_i2 h v4 y5 u6_0 u6_0h) (F27_x2 h) S o := by
  obtain ⟨h13, u12, hp13, z12, rfl⟩ := hI
  unfold F27_s2
  refine dec_bif (fun c14 => ?_) (fun c14 => ?_)
  · refine bind_opt fun y15 e15 => ?_
    refine bind_opt fun y27 e27 => ?_
    obtain ⟨v28, h28, m28, hp28, _⟩ := Heapy.build (P := Try.prog) hp13 (t := 29) (e := 3) (len := 1) (n := 1) (parts := [(0, .int .i64 y27)]) (cells := List.flatMap enc3 ([y27] : List Int)) (by kernel_rfl) rfl
    refine guard_ok fun g30 => ?_
    obtain ⟨v31, h31, m31, q31, _, w31⟩ := Heapy.append hp28 (show mkInfo Try.prog 29 = some (3, 1, 8, [.int .i64 0]) by kernel_rfl) 2 (v := u12) (cells := List.flatMap enc3 l12) rfl (Y := (sv v28)) (SlE.src (enc := enc3) (c := 1) (Heapy.sle (v := v28) (xs := ([y27] : List Int)) (enc := enc3) hp28 0 rfl (fun _ => rfl) (by decide)) (fun _ => rfl)) (flatMap_length (enc := enc3) (c := 1) (fun _ => rfl) _) (by rw [Heapy.vn (v := u12) (xs := l12) (enc := enc3) hp28 2 rfl (fun _ => rfl) (by decide)]; simpa using g30)
    have z31 : Strict v31 := w31 z12
    have hp31 : Heapy h h31 ([⟨v28, 3, 1, List.flatMap enc3 ([y27] : List Int)⟩, ⟨u6_0, 29, 1, List.flatMap encH u6_0h⟩, ⟨v31, 3, 1, List.flatMap enc3 (l12 ++ ([y27] : List Int))⟩] ++ NIn 3 1 enc3 u6_0h y5.1) := by rw [← List.flatMap_append] at q31; exact q31
    intro hr
    obtain rfl := Option.some.inj hr
    exact ⟨(F27_h2 v4 y5 u6_0 h31 v31 (IntKind.i64.wrap (a11 + 1)) (l12 ++ ([y27] : List Int))), ⟨h31, v31, (Heapy.pickN2 (A := [⟨v28, 3, 1, List.flatMap enc3 ([y27] : List Int)⟩, ⟨u6_0, 29, 1, List.flatMap encH u6_0h⟩, ⟨v31, 3, 1, List.flatMap enc3 (l12 ++ ([y27] : List Int))⟩]) (N := NIn 3 1 enc3 u6_0h y5.1) hp31 3 rfl [1, 2] (by decide) rfl), z31, rfl⟩, pEnd_sound good (L := F27_L) (D := F27_D) (its := [.g, (.b true), .g, .g, .g, .g, (.c (.int .i64 y15) h13), .g, .g, (.ln y5.1.length), .g, (.l F27_m1_0 [] (.exit 2) (F27_x1_0 v4 y5 u6_0 a11 u12 h13 y27)), .g, .g, (.mm (sv v28) h28), (.mm (sv v31) h31), .g, .g, .g]) (ds := F27_m2_0) (ks := []) (e := .normal) (s2 := (F27_h2 v4 y5 u6_0 h31 v31 (IntKind.i64.wrap (a11 + 1)) (l12 ++ ([y27] : List Int)))) (hC := (ai m31 (ai m28 (ai (F27_l1_0 h l4 v4 hv4 y5 u6_0 u6_0h a11 l12 u12 h13 hp13 (y15, 0) y27 e27) (ai (Heapy.nivn (A := [⟨u6_0, 29, 1, List.flatMap encH u6_0h⟩, ⟨u12, 3, 1, List.flatMap enc3 l12⟩]) (hs := u6_0h) (xss := y5.1) (eo := 29) hp13 0 rfl) (ai (F52_spec l4 a11 v4 h13 (SlE.mono hv4 (Heapy.sub hp13) (E3_mono (Heapy.sub hp13))) _ e15) (ai c14 trivial))))))) (hd := F27_d2) (h := by kernel_rfl)⟩
  · intro hr
    obtain rfl := Option.some.inj hr
    refine ⟨(.exit 0), (F27_x2_0 h h13 u12 (l12 : (List Int))), (by intro hh; cases hh), ?_, pEnd_sound good (L := F27_L) (D := F27_D) (its := [.g, (.b false)]) (ds := F27_m2_1) (ks := []) (e := (.exit 0)) (s2 := (F27_x2_0 h h13 u12 (l12 : (List Int)))) (hC := (ai c14 trivial)) (hd := F27_d2) (h := by kernel_rfl)⟩
    exact ⟨rfl, h13, u12, (Heapy.pick (Heapy.head (A := [⟨u6_0, 29, 1, List.flatMap encH u6_0h⟩, ⟨u12, 3, 1, List.flatMap enc3 l12⟩]) (N := NIn 3 1 enc3 u6_0h y5.1) hp13) [1] (by decide)), z12, rfl⟩
theorem F27_l2 (h : AHeap) (l4 : List Int) (v4 : Hd) (hv4 : SlE E3 1 h (sv v4) l4) (y5 : (List (List Int)) × Bool) (u6_0 : Hd) (u6_0h : List Hd) (x : Int × (List Int)) (r : (List Int)) (hl : loopO (fun (s : Int × (List Int)) => F27_s2 l4 y5 s.1 s.2) x = some r) (S : AS) (hI : (F27_i2 h v4 y5 u6_0 u6_0h) x S) : ∃ e S', (F27_x2 h) r e S' ∧ AWp Try.prog (.loop (codeOf Try.prog 27 [1, 1, 1, 1, 0, 1, 0, 0])) (Ends1 e S') S :=
  loop_rel (fun x S hI => F27_r2 h l4 v4 hv4 y5 u6_0 u6_0h x.1 x.2 S hI) hl hI
def F27 (x1 : Int) (l2 : List (Int × Int × Int × Int)) (x3 : Int) (l4 : List Int) : Option ((List Int) × Bool) :=
  (Option.bind (F51 x1 l2 x3) fun y5 =>
  (bif (!y5.2) then
   some ([], false)
  else
   (Option.bind (loopO (fun (s : Int × (List Int)) => F27_s2 l4 y5 s.1 s.2) (0, ([] : List Int))) fun y33 =>
   some (y33, true))))
set_option maxRecDepth 100000 in
theorem F27_spec (x1 : Int) (l2 : List (Int × Int × Int × Int)) (x3 : Int) (l4 : List Int) (v2 : Hd) (v4 : Hd) (h : AHeap) (hw : h.wf) (hv2 : SlE E57 4 h (sv v2) l2) (hv4 : SlE E3 1 h (sv v4) l4) (r : (List Int) × Bool) : F27 x1 l2 x3 l4 = some r → ∃ (ur0 : Hd) (h' : AHeap), Heapy h h' [⟨ur0, 3, 1, List.flatMap enc3 r.1⟩] ∧ Strict ur0 ∧ ACalls Try.prog 27 [.int .i64 x1, (sv v2), .int .i64 x3, (sv v4)] h (fun v' h'' => v' = (.tuple #[(sv ur0), .bool r.2] : Value) ∧ h'' = h') := by
  unfold F27
  refine bind_opt fun y5 e5 => ?_
  obtain ⟨u6_0, u6_0h, h6, q6, c6⟩ := F51_spec x1 l2 x3 v2 h hw hv2 _ e5
  have hp6 : Heapy h h6 ([⟨u6_0, 29, 1, List.flatMap encH u6_0h⟩] ++ NIn 3 1 enc3 u6_0h y5.1) := Heapy.callN (Heapy.refl hw) q6
  have kc8 := (ai c6 trivial)
  refine dec_bif (fun c8 => ?_) (fun c8 => ?_)
  · intro hr
    obtain rfl := Option.some.inj hr
    exact ⟨⟨none, 0, 0⟩, h6, Heapy.pick (Heapy.nil (Heapy.head (A := [⟨u6_0, 29, 1, List.flatMap encH u6_0h⟩]) (N := NIn 3 1 enc3 u6_0h y5.1) hp6) 3 1) [0] (by decide), Strict.nil, pFun_sound good tab_ok (f := 27) (its := [.g, .g, .g, .g, .g, (.c (.tuple #[(sv u6_0), .bool y5.2]) h6), .g, .g, .g, .g, .g, .g, .g, (.b true), .g, .g]) (args := [.int .i64 x1, (sv v2), .int .i64 x3, (sv v4)]) (h := h) (h' := h6) (v := .tuple #[.slice none 0 0, .bool false]) (hC := (ai c8 kc8)) (hr := by kernel_rfl)⟩
  · refine bind_opt fun y33 e33 => ?_
    have hp9 : Heapy h h6 ([⟨⟨none, 0, 0⟩, 3, 1, List.flatMap enc3 ([] : List Int)⟩, ⟨u6_0, 29, 1, List.flatMap encH u6_0h⟩] ++ NIn 3 1 enc3 u6_0h y5.1) := Heapy.nil hp6 3 1
    obtain ⟨ee33, SS33, hX33, hA33⟩ := F27_l2 h l4 v4 hv4 y5 u6_0 u6_0h (0, ([] : List Int)) y33 e33 (F27_h2 v4 y5 u6_0 h6 ⟨none, 0, 0⟩ 0 ([] : List Int)) ⟨h6, ⟨none, 0, 0⟩, (Heapy.pickN2 (A := [⟨⟨none, 0, 0⟩, 3, 1, List.flatMap enc3 ([] : List Int)⟩, ⟨u6_0, 29, 1, List.flatMap encH u6_0h⟩]) (N := NIn 3 1 enc3 u6_0h y5.1) hp9 2 rfl [1, 0] (by decide) rfl), Strict.nil, rfl⟩
    obtain ⟨rfl, h34, w0_34, hp34, zw0_34, rfl⟩ := hX33
    intro hr
    obtain rfl := Option.some.inj hr
    exact ⟨w0_34, h34, Heapy.pick hp34 [0] (by decide), zw0_34, pFun_sound good tab_ok (f := 27) (its := [.g, .g, .g, .g, .g, (.c (.tuple #[(sv u6_0), .bool y5.2]) h6), .g, .g, .g, .g, .g, .g, .g, (.b false), .g, .g, (.ln y5.1.length), .g, (.l F27_m2_0 [] (.exit 0) (F27_x2_0 h h34 w0_34 y33)), .g, .g, .g]) (args := [.int .i64 x1, (sv v2), .int .i64 x3, (sv v4)]) (h := h) (h' := h34) (v := .tuple #[(sv w0_34), .bool true]) (hC := (ai hA33 (ai (Heapy.nivn (A := [⟨u6_0, 29, 1, List.flatMap encH u6_0h⟩]) (hs := u6_0h) (xss := y5.1) (eo := 29) hp6 0 rfl) (ai c8 kc8)))) (hr := by kernel_rfl)⟩
/-! 39 jacquard/jacquardref31.Sum -/
def F39_L : List Nat := [2]
def F39_D : List (Nat × List (Nat × Nat)) := []
def F39_m1_1 : List Bool := (rp 6 true (false :: false :: (rp 34 true [])))
def F39_m1_0 : List Bool := (true :: false :: false :: true :: true :: true :: false :: false :: true :: true :: true :: false :: false :: (rp 29 true []))
def F39_s1 (l6 : List (Int × Int)) (x7 : Int) (a8 : Int) (a9 : Int) (a10 : Int) : Option ((Int × Int × Int) ⊕ (Int × Int)) :=
  (bif decide (a10 < (l6.length : Int)) then
   (Option.bind (at? l6 a10) fun y12 =>
   (bif (y12.1 == x7) then
    some (.inl ((IntKind.i64.wrap (a8 + y12.2)), (if y12.2 > a9 then y12.2 else a9), (IntKind.i64.wrap (a10 + 1))))
   else
    some (.inl (a8, a9, (IntKind.i64.wrap (a10 + 1))))))
  else
   some (.inr (a8, a9)))
def F39_h1 (h : AHeap) (x1 : Int) (x2 : Int) (x3 : Bool) (v4 : Hd) (v5 : Hd) (l6 : List (Int × Int)) (v6 : Hd) (x7 : Int)  (a8 : Int) (a9 : Int) (a10 : Int) : AS := ⟨(junk :: (.int .i64 x7) :: (.pointer (some ⟨2, 0, none⟩)) :: junk :: junk :: junk :: (.int .i64 a8) :: (.int .i64 a9) :: junk :: junk :: junk :: (.int .i64 (l6.length : Int)) :: (.int .i64 a10) :: (rp 29 junk [])), [(2, [.int .i64 x1, .int .i64 x2, .bool x3, (sv v4), (sv v5), (sv v6)])], h⟩
theorem F39_d1 : drawsOk F39_D (codeOf Try.prog 39 [1, 1, 0, 1, 0, 0]) = true := by kernel_rfl
def F39_x1_0 (h : AHeap)  (r : Int × Int) : AS := ⟨(rp 6 junk ((.int .i64 r.1) :: (.int .i64 r.2) :: (rp 34 junk []))), [], h⟩
def F39_x1 (h : AHeap) (r : Int × Int) : Exit × AS := ((.exit 0), (F39_x1_0 h r))
set_option maxRecDepth 100000 in
theorem F39_r1 (h : AHeap) (x1 : Int) (x2 : Int) (x3 : Bool) (v4 : Hd) (v5 : Hd) (l6 : List (Int × Int)) (v6 : Hd) (hv6 : SlE E61 2 h (sv v6) l6) (x7 : Int) (a8 : Int) (a9 : Int) (a10 : Int) (o : (Int × Int × Int) ⊕ (Int × Int)) : F39_s1 l6 x7 a8 a9 a10 = some o → RdF Try.prog (codeOf Try.prog 39 [1, 1, 0, 1, 0, 0]) (fun (s : Int × Int × Int) => (F39_h1 h x1 x2 x3 v4 v5 l6 v6 x7 s.1 s.2.1 s.2.2)) (F39_x1 h) (F39_h1 h x1 x2 x3 v4 v5 l6 v6 x7 a8 a9 a10) o := by
  unfold F39_s1
  refine dec_bif (fun c11 => ?_) (fun c11 => ?_)
  · refine bind_opt fun y12 e12 => ?_
    obtain ⟨id12, off12, g12, cs12, ix12, at12, rfl⟩ := SlE.at hv6 e12
    have kc13 := (ai (At.one (P := Try.prog) (t := 3) (v := .int .i64 y12.1) at12 (by kernel_rfl) 0 rfl rfl) (ai ix12 (ai c11 trivial)))
    refine dec_bif (fun c13 => ?_) (fun c13 => ?_)
    · intro hr
      obtain rfl := Option.some.inj hr
      show AWp Try.prog _ (Ends1 .normal (F39_h1 h x1 x2 x3 v4 v5 l6 v6 x7 (IntKind.i64.wrap (a8 + y12.2)) (if y12.2 > a9 then y12.2 else a9) (IntKind.i64.wrap (a10 + 1)))) _
      exact pEnd_sound good (L := F39_L) (D := F39_D) (its := [.g, (.b true), .g, .g, .g, .g, .g, (.ix id12 off12 g12), .g, (.ld (.int .i64 y12.1)), .g, .g, (.b true), .g, .g, .g, .g, (.ix id12 off12 g12), .g, (.ld (.int .i64 y12.2)), .g, .g, .g, .g, .g, .g, (.ix id12 off12 g12), .g, (.ld (.int .i64 y12.2)), .g, .g, .g, .g]) (ds := F39_m1_0) (ks := []) (e := .normal) (s2 := (F39_h1 h x1 x2 x3 v4 v5 l6 v6 x7 (IntKind.i64.wrap (a8 + y12.2)) (if y12.2 > a9 then y12.2 else a9) (IntKind.i64.wrap (a10 + 1)))) (hC := (ai (At.one (P := Try.prog) (t := 3) (v := .int .i64 y12.2) at12 (by kernel_rfl) 1 rfl rfl) (ai ix12 (ai (At.one (P := Try.prog) (t := 3) (v := .int .i64 y12.2) at12 (by kernel_rfl) 1 rfl rfl) (ai ix12 (ai c13 kc13)))))) (hd := F39_d1) (h := by kernel_rfl)
    · intro hr
      obtain rfl := Option.some.inj hr
      show AWp Try.prog _ (Ends1 .normal (F39_h1 h x1 x2 x3 v4 v5 l6 v6 x7 a8 a9 (IntKind.i64.wrap (a10 + 1)))) _
      exact pEnd_sound good (L := F39_L) (D := F39_D) (its := [.g, (.b true), .g, .g, .g, .g, .g, (.ix id12 off12 g12), .g, (.ld (.int .i64 y12.1)), .g, .g, (.b false), .g, .g]) (ds := F39_m1_0) (ks := []) (e := .normal) (s2 := (F39_h1 h x1 x2 x3 v4 v5 l6 v6 x7 a8 a9 (IntKind.i64.wrap (a10 + 1)))) (hC := (ai c13 kc13)) (hd := F39_d1) (h := by kernel_rfl)
  · intro hr
    obtain rfl := Option.some.inj hr
    show AWp Try.prog _ (Ends1 ((F39_x1 h) ((a8, a9) : Int × Int)).1 ((F39_x1 h) ((a8, a9) : Int × Int)).2) _
    exact pEnd_sound good (L := F39_L) (D := F39_D) (its := [.g, (.b false)]) (ds := F39_m1_1) (ks := [2]) (e := ((F39_x1 h) ((a8, a9) : Int × Int)).1) (s2 := ((F39_x1 h) ((a8, a9) : Int × Int)).2) (hC := (ai c11 trivial)) (hd := F39_d1) (h := by kernel_rfl)
theorem F39_l1_0 (h : AHeap) (x1 : Int) (x2 : Int) (x3 : Bool) (v4 : Hd) (v5 : Hd) (l6 : List (Int × Int)) (v6 : Hd) (hv6 : SlE E61 2 h (sv v6) l6) (x7 : Int) (x : Int × Int × Int) (r : Int × Int) (hl : loopO (fun (s : Int × Int × Int) => F39_s1 l6 x7 s.1 s.2.1 s.2.2) x = some r) : AWp Try.prog (.loop (codeOf Try.prog 39 [1, 1, 0, 1, 0, 0])) (Ends1 (.exit 0) (F39_x1_0 h r)) ((fun (s : Int × Int × Int) => (F39_h1 h x1 x2 x3 v4 v5 l6 v6 x7 s.1 s.2.1 s.2.2)) x) := by
  have k := loop_fun (P := Try.prog) (c := (codeOf Try.prog 39 [1, 1, 0, 1, 0, 0])) (step := (fun (s : Int × Int × Int) => F39_s1 l6 x7 s.1 s.2.1 s.2.2)) (hd := (fun (s : Int × Int × Int) => (F39_h1 h x1 x2 x3 v4 v5 l6 v6 x7 s.1 s.2.1 s.2.2))) (X := (F39_x1 h)) (by intro t; unfold F39_x1; intro h; cases h) (fun x => F39_r1 h x1 x2 x3 v4 v5 l6 v6 hv6 x7 x.1 x.2.1 x.2.2) hl
  exact k
def F39 (x1 : Int) (x2 : Int) (x3 : Bool) (l4 : List (Int × Int × Int × Int)) (l5 : List (Int × Int × Int × Int)) (l6 : List (Int × Int)) (x7 : Int) : Option (Int × Int) :=
  (Option.bind (loopO (fun (s : Int × Int × Int) => F39_s1 l6 x7 s.1 s.2.1 s.2.2) (0, 0, 0)) fun y14 =>
  some (y14.1, y14.2))
set_option maxRecDepth 100000 in
theorem F39_spec (x1 : Int) (x2 : Int) (x3 : Bool) (l4 : List (Int × Int × Int × Int)) (l5 : List (Int × Int × Int × Int)) (l6 : List (Int × Int)) (x7 : Int) (v4 : Hd) (v5 : Hd) (v6 : Hd) (h : AHeap) (hv4 : SlE E57 4 h (sv v4) l4) (hv5 : SlE E59 4 h (sv v5) l5) (hv6 : SlE E61 2 h (sv v6) l6) (r : Int × Int) : F39 x1 x2 x3 l4 l5 l6 x7 = some r → ACalls Try.prog 39 [.agg #[.int .i64 x1, .int .i64 x2, .bool x3, (sv v4), (sv v5), (sv v6)], .int .i64 x7] h (fun v' h'' => v' = (.tuple #[.int .i64 r.1, .int .i64 r.2] : Value) ∧ h'' = h) := by
  unfold F39
  refine bind_opt fun y14 e14 => ?_
  intro hr
  obtain rfl := Option.some.inj hr
  exact pFun_sound good tab_ok (f := 39) (its := [.g, .g, .g, .g, .g, .g, .g, (.ln l6.length), .g, (.l F39_m1_0 [] (.exit 0) (F39_x1_0 h y14)), .g, .g, .g, .g]) (args := [.agg #[.int .i64 x1, .int .i64 x2, .bool x3, (sv v4), (sv v5), (sv v6)], .int .i64 x7]) (h := h) (h' := h) (v := .tuple #[.int .i64 y14.1, .int .i64 y14.2]) (hC := (ai (F39_l1_0 h x1 x2 x3 v4 v5 l6 v6 hv6 x7 (0, 0, 0) y14 e14) (ai (SlE.len hv6) trivial))) (hr := by kernel_rfl)
/-! 24 jacquard/jacquardref31.Depth -/
def F24_L : List Nat := [1]
def F24_D : List (Nat × List (Nat × Nat)) := [(1, [(0, 2), (3, 2), (4, 3), (1, 1), (2, 2), (5, 1), (6, 2), (7, 2), (8, 2), (9, 2), (10, 2)]), (9, [(0, 2), (1, 2), (2, 2), (3, 2), (4, 2), (5, 2), (6, 2), (7, 2), (8, 2), (9, 2), (10, 2), (11, 2), (12, 2), (13, 2), (14, 2), (15, 2), (16, 2), (17, 2), (18, 2)])]
def F24__1 (y17 : Int × Int) (y19 : Int × Int × Int × Int) : Int := (IntKind.i64.wrap ((IntKind.i64.wrap ((IntKind.i64.wrap (y17.1 + y19.2.2.2)) - 1)).tdiv y19.2.2.2))
def F24_m1_1 : List Bool := (rp 5 true (false :: (rp 52 true [])))
def F24_m1_0 : List Bool := (true :: false :: true :: true :: true :: false :: (rp 22 true (false :: false :: (rp 28 true []))))
def F24_s1 (x1 : Int) (x2 : Int) (x3 : Bool) (l4 : List (Int × Int × Int × Int)) (l5 : List (Int × Int × Int × Int)) (l6 : List (Int × Int)) (a14 : Int) (a15 : Int) : Option ((Int × Int) ⊕ Int) :=
  (bif decide (a15 < (l5.length : Int)) then
   (Option.bind (F39 x1 x2 x3 l4 l5 l6 a15) fun y17 =>
   (Option.bind (at? l5 a15) fun y19 =>
   (bif (y19.2.2.2 == 0) then none else
   some (.inl ((if (F24__1 y17 y19) > a14 then (F24__1 y17 y19) else a14), (IntKind.i64.wrap (a15 + 1)))))))
  else
   some (.inr a14))
def F24_h1 (x1 : Int) (x2 : Int) (x3 : Bool) (v4 : Hd) (l5 : List (Int × Int × Int × Int)) (v5 : Hd) (v6 : Hd) (h9 : AHeap)  (a14 : Int) (a15 : Int) : AS := ⟨(junk :: (.pointer (some ⟨1, 0, none⟩)) :: junk :: junk :: junk :: (.int .i64 a14) :: (rp 22 junk ((.int .i64 (l5.length : Int)) :: (.int .i64 a15) :: (rp 28 junk [])))), [(1, [.int .i64 x1, .int .i64 x2, .bool x3, (sv v4), (sv v5), (sv v6)])], h9⟩
theorem F24_d1 : drawsOk F24_D (codeOf Try.prog 24 [1, 1, 1, 1, 0, 1, 0, 0]) = true := by kernel_rfl
def F24_x1_0 (h9 : AHeap)  (r : Int) : AS := ⟨(rp 5 junk ((.int .i64 r) :: (rp 52 junk []))), [], h9⟩
def F24_x1 (h9 : AHeap) (r : Int) : Exit × AS := ((.exit 0), (F24_x1_0 h9 r))
set_option maxRecDepth 100000 in
theorem F24_r1 (h : AHeap) (x1 : Int) (x2 : Int) (x3 : Bool) (l4 : List (Int × Int × Int × Int)) (v4 : Hd) (hv4 : SlE E57 4 h (sv v4) l4) (l5 : List (Int × Int × Int × Int)) (v5 : Hd) (hv5 : SlE E59 4 h (sv v5) l5) (l6 : List (Int × Int)) (v6 : Hd) (hv6 : SlE E61 2 h (sv v6) l6) (y8 : (List Int) × Bool) (u9_0 : Hd) (h9 : AHeap) (hp9 : Heapy h h9 [⟨u9_0, 3, 1, List.flatMap enc3 y8.1⟩]) (a14 : Int) (a15 : Int) (o : (Int × Int) ⊕ Int) : F24_s1 x1 x2 x3 l4 l5 l6 a14 a15 = some o → RdF Try.prog (codeOf Try.prog 24 [1, 1, 1, 1, 0, 1, 0, 0]) (fun (s : Int × Int) => (F24_h1 x1 x2 x3 v4 l5 v5 v6 h9 s.1 s.2)) (F24_x1 h9) (F24_h1 x1 x2 x3 v4 l5 v5 v6 h9 a14 a15) o := by
  unfold F24_s1
  refine dec_bif (fun c16 => ?_) (fun c16 => ?_)
  · refine bind_opt fun y17 e17 => ?_
    refine bind_opt fun y19 e19 => ?_
    obtain ⟨id19, off19, g19, cs19, ix19, at19, rfl⟩ := SlE.at hv5 e19
    refine guard_ok fun g20 => ?_
    intro hr
    obtain rfl := Option.some.inj hr
    show AWp Try.prog _ (Ends1 .normal (F24_h1 x1 x2 x3 v4 l5 v5 v6 h9 (if (F24__1 y17 y19) > a14 then (F24__1 y17 y19) else a14) (IntKind.i64.wrap (a15 + 1)))) _
    exact pEnd_sound good (L := F24_L) (D := F24_D) (its := [.g, (.b true), .g, .g, .g, .g, (.c (.tuple #[.int .i64 y17.1, .int .i64 y17.2]) h9), .g, .g, .g, .g, .g, .g, .g, .g, .g, .g, (.ix id19 off19 g19), .g, (.ld (.int .i64 y19.2.2.2)), .g, .g, .g, .g, .g, (.ix id19 off19 g19), .g, (.ld (.int .i64 y19.2.2.2)), .d, .g, .g, .g, .g]) (ds := F24_m1_0) (ks := []) (e := .normal) (s2 := (F24_h1 x1 x2 x3 v4 l5 v5 v6 h9 (if (F24__1 y17 y19) > a14 then (F24__1 y17 y19) else a14) (IntKind.i64.wrap (a15 + 1)))) (hC := (ai (nz g20) (ai (At.one (P := Try.prog) (t := 3) (v := .int .i64 y19.2.2.2) (At.mono (Heapy.sub hp9) at19) (by kernel_rfl) 3 rfl rfl) (ai ix19 (ai (At.one (P := Try.prog) (t := 3) (v := .int .i64 y19.2.2.2) (At.mono (Heapy.sub hp9) at19) (by kernel_rfl) 3 rfl rfl) (ai ix19 (ai (F39_spec x1 x2 x3 l4 l5 l6 a15 v4 v5 v6 h9 (SlE.mono hv4 (Heapy.sub hp9) (E57_mono (Heapy.sub hp9))) (SlE.mono hv5 (Heapy.sub hp9) (E59_mono (Heapy.sub hp9))) (SlE.mono hv6 (Heapy.sub hp9) (E61_mono (Heapy.sub hp9))) _ e17) (ai c16 trivial)))))))) (hd := F24_d1) (h := by kernel_rfl)
  · intro hr
    obtain rfl := Option.some.inj hr
    show AWp Try.prog _ (Ends1 ((F24_x1 h9) (a14 : Int)).1 ((F24_x1 h9) (a14 : Int)).2) _
    exact pEnd_sound good (L := F24_L) (D := F24_D) (its := [.g, (.b false)]) (ds := F24_m1_1) (ks := [1]) (e := ((F24_x1 h9) (a14 : Int)).1) (s2 := ((F24_x1 h9) (a14 : Int)).2) (hC := (ai c16 trivial)) (hd := F24_d1) (h := by kernel_rfl)
theorem F24_l1_0 (h : AHeap) (x1 : Int) (x2 : Int) (x3 : Bool) (l4 : List (Int × Int × Int × Int)) (v4 : Hd) (hv4 : SlE E57 4 h (sv v4) l4) (l5 : List (Int × Int × Int × Int)) (v5 : Hd) (hv5 : SlE E59 4 h (sv v5) l5) (l6 : List (Int × Int)) (v6 : Hd) (hv6 : SlE E61 2 h (sv v6) l6) (y8 : (List Int) × Bool) (u9_0 : Hd) (h9 : AHeap) (hp9 : Heapy h h9 [⟨u9_0, 3, 1, List.flatMap enc3 y8.1⟩]) (x : Int × Int) (r : Int) (hl : loopO (fun (s : Int × Int) => F24_s1 x1 x2 x3 l4 l5 l6 s.1 s.2) x = some r) : AWp Try.prog (.loop (codeOf Try.prog 24 [1, 1, 1, 1, 0, 1, 0, 0])) (Ends1 (.exit 0) (F24_x1_0 h9 r)) ((fun (s : Int × Int) => (F24_h1 x1 x2 x3 v4 l5 v5 v6 h9 s.1 s.2)) x) := by
  have k := loop_fun (P := Try.prog) (c := (codeOf Try.prog 24 [1, 1, 1, 1, 0, 1, 0, 0])) (step := (fun (s : Int × Int) => F24_s1 x1 x2 x3 l4 l5 l6 s.1 s.2)) (hd := (fun (s : Int × Int) => (F24_h1 x1 x2 x3 v4 l5 v5 v6 h9 s.1 s.2))) (X := (F24_x1 h9)) (by intro t; unfold F24_x1; intro h; cases h) (fun x => F24_r1 h x1 x2 x3 l4 v4 hv4 l5 v5 hv5 l6 v6 hv6 y8 u9_0 h9 hp9 x.1 x.2) hl
  exact k
def F24 (x1 : Int) (x2 : Int) (x3 : Bool) (l4 : List (Int × Int × Int × Int)) (l5 : List (Int × Int × Int × Int)) (l6 : List (Int × Int)) : Option (Int) :=
  (Option.bind (F27 (IntKind.i64.wrap ((F26 x1 x2 x3 l4 l5 l6) + 1)) l4 0 []) fun y8 =>
  (bif (!y8.2) then
   some (0)
  else
   (Option.bind (at? y8.1 (F26 x1 x2 x3 l4 l5 l6)) fun y13 =>
   (Option.bind (loopO (fun (s : Int × Int) => F24_s1 x1 x2 x3 l4 l5 l6 s.1 s.2) ((if y13 > 1 then y13 else 1), 0)) fun y21 =>
   some (y21)))))
set_option maxRecDepth 100000 in
theorem F24_spec (x1 : Int) (x2 : Int) (x3 : Bool) (l4 : List (Int × Int × Int × Int)) (l5 : List (Int × Int × Int × Int)) (l6 : List (Int × Int)) (v4 : Hd) (v5 : Hd) (v6 : Hd) (h : AHeap) (hw : h.wf) (hv4 : SlE E57 4 h (sv v4) l4) (hv5 : SlE E59 4 h (sv v5) l5) (hv6 : SlE E61 2 h (sv v6) l6) (r : Int) : F24 x1 x2 x3 l4 l5 l6 = some r → ∃ (h' : AHeap), Heapy h h' [] ∧ ACalls Try.prog 24 [.agg #[.int .i64 x1, .int .i64 x2, .bool x3, (sv v4), (sv v5), (sv v6)]] h (fun v' h'' => v' = (.int .i64 r : Value) ∧ h'' = h') := by
  unfold F24
  refine bind_opt fun y8 e8 => ?_
  obtain ⟨u9_0, h9, q9, zu9_0, c9⟩ := F27_spec (IntKind.i64.wrap ((F26 x1 x2 x3 l4 l5 l6) + 1)) l4 0 [] v4 ⟨none, 0, 0⟩ h hw hv4 SlE.nil _ e8
  have hp9 : Heapy h h9 [⟨u9_0, 3, 1, List.flatMap enc3 y8.1⟩] := Heapy.call (Heapy.refl hw) q9
  have kc11 := (ai (show AKeep h h9 from (Heapy.sub q9)) (ai c9 (ai (show AKeep h h from (AHeap.sub_refl h)) (ai (F26_spec x1 x2 x3 l4 l5 l6 v4 v5 v6 h hv4 hv5 hv6 _ rfl) trivial))))
  refine dec_bif (fun c11 => ?_) (fun c11 => ?_)
  · intro hr
    obtain rfl := Option.some.inj hr
    exact ⟨h9, Heapy.pick hp9 [] (by decide), pFun_sound good tab_ok (f := 24) (its := [.g, .g, .g, .g, .g, (.c (.int .i64 (F26 x1 x2 x3 l4 l5 l6)) h), .g, (.c (.tuple #[(sv u9_0), .bool y8.2]) h9), .g, .g, .g, .g, .g, .g, .g, (.b true), .g]) (args := [.agg #[.int .i64 x1, .int .i64 x2, .bool x3, (sv v4), (sv v5), (sv v6)]]) (h := h) (h' := h9) (v := .int .i64 0) (hC := (ai c11 kc11)) (hr := by kernel_rfl)⟩
  · refine bind_opt fun y13 e13 => ?_
    obtain ⟨id13, off13, g13, cs13, ix13, at13, rfl⟩ := SlE.at (Heapy.sle (v := u9_0) (xs := y8.1) (enc := enc3) hp9 0 rfl (fun _ => rfl) (by decide)) e13
    refine bind_opt fun y21 e21 => ?_
    intro hr
    obtain rfl := Option.some.inj hr
    exact ⟨h9, Heapy.pick hp9 [] (by decide), pFun_sound good tab_ok (f := 24) (its := [.g, .g, .g, .g, .g, (.c (.int .i64 (F26 x1 x2 x3 l4 l5 l6)) h), .g, (.c (.tuple #[(sv u9_0), .bool y8.2]) h9), .g, .g, .g, .g, .g, .g, .g, (.b false), .g, .g, (.c (.int .i64 (F26 x1 x2 x3 l4 l5 l6)) h9), (.ix id13 off13 g13), (.ld (.int .i64 y13)), .g, .g, .g, .g, (.ln l5.length), .g, (.l F24_m1_0 [] (.exit 0) (F24_x1_0 h9 y21)), .g, .g]) (args := [.agg #[.int .i64 x1, .int .i64 x2, .bool x3, (sv v4), (sv v5), (sv v6)]]) (h := h) (h' := h9) (v := .int .i64 y21) (hC := (ai (F24_l1_0 h x1 x2 x3 l4 v4 hv4 l5 v5 hv5 l6 v6 hv6 y8 u9_0 h9 hp9 ((if y13 > 1 then y13 else 1), 0) y21 e21) (ai (SlE.len hv5) (ai (At.one (P := Try.prog) (t := 3) (v := .int .i64 y13) at13 (by kernel_rfl) 0 rfl rfl) (ai ix13 (ai (F26_spec x1 x2 x3 l4 l5 l6 v4 v5 v6 h9 (SlE.mono hv4 (Heapy.sub hp9) (E57_mono (Heapy.sub hp9))) (SlE.mono hv5 (Heapy.sub hp9) (E59_mono (Heapy.sub hp9))) (SlE.mono hv6 (Heapy.sub hp9) (E61_mono (Heapy.sub hp9))) _ rfl) (ai c11 kc11))))))) (hr := by kernel_rfl)⟩
end
end Go.Proofs.Ytimeninncpmaeaa.Abs
