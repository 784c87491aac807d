/-
  Contracts, written by program: for each function what its call yields, and that it yields it.
-/
import Derived.Test.YtimeninncpmaeaaBfa
namespace Go.Proofs.Ytimeninncpmaeaa.Abs
open Go
set_option linter.unusedVariables false
set_option linter.unusedSimpArgs false

noncomputable section
/-! 32 jacquard/jacquardref28.Small -/
def F32_L : List Nat := [3]
def F32_D : List (Nat × List (Nat × Nat)) := []
def F32_m1_2 : List Bool := (true :: false :: false :: false :: (rp 64 true []))
def F32_m1_1 : List Bool := (true :: false :: false :: false :: (rp 7 true (false :: false :: (rp 55 true []))))
def F32_m1_0 : List Bool := (rp 6 true (false :: (rp 61 true [])))
def F32_s1 (l4 : List (Int × Int × Int × Int)) (a9 : Int) : Option (Int ⊕ Nat) :=
  (bif decide (a9 < (l4.length : Int)) then
   (Option.bind (at? l4 a9) fun y11 =>
   (bif decide (y11.2.2.1 > 60) then
    some (.inr 0)
   else
    (bif decide (y11.2.2.2 > 20) then
     some (.inr 0)
    else
     some (.inl (IntKind.i64.wrap (a9 + 1))))))
  else
   some (.inr 1))
def F32_h1 (h : AHeap) (x1 : Int) (x2 : Int) (x3 : Bool) (l4 : List (Int × Int × Int × Int)) (v4 : Hd) (v5 : Hd) (v6 : Hd) (x7 : Int) (x8 : Int)  (a9 : Int) : AS := ⟨(junk :: (.int .i64 x7) :: (.int .i64 x8) :: (.pointer (some ⟨3, 0, none⟩)) :: (rp 7 junk ((.int .i64 (l4.length : Int)) :: (.int .i64 a9) :: (rp 55 junk [])))), [(3, [.int .i64 x1, .int .i64 x2, .bool x3, (sv v4), (sv v5), (sv v6)])], h⟩
theorem F32_d1 : drawsOk F32_D (codeOf Try.prog 32 [1, 0, 1, 0, 0]) = true := by kernel_rfl
def F32_x1_0 (h : AHeap) (x1 : Int) (x2 : Int) (x3 : Bool) (v4 : Hd) (v5 : Hd) (v6 : Hd) (x7 : Int) (x8 : Int)  (r : Nat) : AS := ⟨(rp 6 junk ((.bool false) :: (rp 61 junk []))), [], h⟩
def F32_x1_1 (h : AHeap) (x1 : Int) (x2 : Int) (x3 : Bool) (v4 : Hd) (v5 : Hd) (v6 : Hd) (x7 : Int) (x8 : Int)  (r : Nat) : AS := ⟨(junk :: (.int .i64 x7) :: (.int .i64 x8) :: (.pointer (some ⟨3, 0, none⟩)) :: (rp 64 junk [])), [(3, [.int .i64 x1, .int .i64 x2, .bool x3, (sv v4), (sv v5), (sv v6)])], h⟩
def F32_x1 (h : AHeap) (x1 : Int) (x2 : Int) (x3 : Bool) (v4 : Hd) (v5 : Hd) (v6 : Hd) (x7 : Int) (x8 : Int) (r : Nat) : Exit × AS := (bif Nat.beq r 0 then (.ret, (F32_x1_0 h x1 x2 x3 v4 v5 v6 x7 x8 r)) else ((.exit 0), (F32_x1_1 h x1 x2 x3 v4 v5 v6 x7 x8 r)))
set_option maxRecDepth 100000 in
theorem F32_r1 (h : AHeap) (x1 : Int) (x2 : Int) (x3 : Bool) (l4 : List (Int × Int × Int × Int)) (v4 : Hd) (hv4 : SlE E57 4 h (sv v4) l4) (v5 : Hd) (v6 : Hd) (x7 : Int) (x8 : Int) (a9 : Int) (o : Int ⊕ Nat) : F32_s1 l4 a9 = some o → RdF Try.prog (codeOf Try.prog 32 [1, 0, 1, 0, 0]) (fun (s : Int) => (F32_h1 h x1 x2 x3 l4 v4 v5 v6 x7 x8 s)) (F32_x1 h x1 x2 x3 v4 v5 v6 x7 x8) (F32_h1 h x1 x2 x3 l4 v4 v5 v6 x7 x8 a9) o := by
  unfold F32_s1
  refine dec_bif (fun c10 => ?_) (fun c10 => ?_)
  · refine bind_opt fun y11 e11 => ?_
    obtain ⟨id11, off11, g11, cs11, ix11, at11, rfl⟩ := SlE.at hv4 e11
    have kc12 := (ai (At.one (P := Try.prog) (t := 3) (v := .int .i64 y11.2.2.1) at11 (by kernel_rfl) 2 rfl rfl) (ai ix11 (ai c10 trivial)))
    refine dec_bif (fun c12 => ?_) (fun c12 => ?_)
    · intro hr
      obtain rfl := Option.some.inj hr
      show AWp Try.prog _ (Ends1 ((F32_x1 h x1 x2 x3 v4 v5 v6 x7 x8) (0 : Nat)).1 ((F32_x1 h x1 x2 x3 v4 v5 v6 x7 x8) (0 : Nat)).2) _
      exact pEnd_sound good (L := F32_L) (D := F32_D) (its := [.g, (.b true), .g, .g, .g, .g, .g, (.ix id11 off11 g11), .g, (.ld (.int .i64 y11.2.2.1)), .g, .g, .n, .n, .n, .n, .n, .n, .n, (.p true), (.b true), .g]) (ds := F32_m1_0) (ks := [3]) (e := ((F32_x1 h x1 x2 x3 v4 v5 v6 x7 x8) (0 : Nat)).1) (s2 := ((F32_x1 h x1 x2 x3 v4 v5 v6 x7 x8) (0 : Nat)).2) (hC := (ai l_t (ai c12 (ai (g_tf c12) (ai (g_tf c12) (ai (g_tf c12) (ai (g_tf c12) (ai (g_tf c12) (ai (g_tf c12) (ai (g_tf c12) kc12)))))))))) (hd := F32_d1) (h := by kernel_rfl)
    · have kc13 := (ai c12 (ai (g_ff c12) (ai (At.one (P := Try.prog) (t := 3) (v := .int .i64 y11.2.2.2) at11 (by kernel_rfl) 3 rfl rfl) (ai (g_ff c12) (ai (g_ff c12) (ai ix11 (ai (g_ff c12) (ai (g_ff c12) (ai (g_ff c12) (ai (g_ff c12) kc12))))))))))
      refine dec_bif (fun c13 => ?_) (fun c13 => ?_)
      · intro hr
        obtain rfl := Option.some.inj hr
        show AWp Try.prog _ (Ends1 ((F32_x1 h x1 x2 x3 v4 v5 v6 x7 x8) (0 : Nat)).1 ((F32_x1 h x1 x2 x3 v4 v5 v6 x7 x8) (0 : Nat)).2) _
        exact pEnd_sound good (L := F32_L) (D := F32_D) (its := [.g, (.b true), .g, .g, .g, .g, .g, (.ix id11 off11 g11), .g, (.ld (.int .i64 y11.2.2.1)), .g, .g, (.w .g), (.w .g), (.w .g), (.w (.ix id11 off11 g11)), (.w .g), (.w (.ld (.int .i64 y11.2.2.2))), (.w .g), (.p false), (.b true), .g]) (ds := F32_m1_0) (ks := [3]) (e := ((F32_x1 h x1 x2 x3 v4 v5 v6 x7 x8) (0 : Nat)).1) (s2 := ((F32_x1 h x1 x2 x3 v4 v5 v6 x7 x8) (0 : Nat)).2) (hC := (ai c13 kc13)) (hd := F32_d1) (h := by kernel_rfl)
      · intro hr
        obtain rfl := Option.some.inj hr
        show AWp Try.prog _ (Ends1 .normal (F32_h1 h x1 x2 x3 l4 v4 v5 v6 x7 x8 (IntKind.i64.wrap (a9 + 1)))) _
        exact pEnd_sound good (L := F32_L) (D := F32_D) (its := [.g, (.b true), .g, .g, .g, .g, .g, (.ix id11 off11 g11), .g, (.ld (.int .i64 y11.2.2.1)), .g, .g, (.w .g), (.w .g), (.w .g), (.w (.ix id11 off11 g11)), (.w .g), (.w (.ld (.int .i64 y11.2.2.2))), (.w .g), (.p false), (.b false), .g, .g]) (ds := F32_m1_1) (ks := []) (e := .normal) (s2 := (F32_h1 h x1 x2 x3 l4 v4 v5 v6 x7 x8 (IntKind.i64.wrap (a9 + 1)))) (hC := (ai c13 kc13)) (hd := F32_d1) (h := by kernel_rfl)
  · intro hr
    obtain rfl := Option.some.inj hr
    show AWp Try.prog _ (Ends1 ((F32_x1 h x1 x2 x3 v4 v5 v6 x7 x8) (1 : Nat)).1 ((F32_x1 h x1 x2 x3 v4 v5 v6 x7 x8) (1 : Nat)).2) _
    exact pEnd_sound good (L := F32_L) (D := F32_D) (its := [.g, (.b false)]) (ds := F32_m1_2) (ks := []) (e := ((F32_x1 h x1 x2 x3 v4 v5 v6 x7 x8) (1 : Nat)).1) (s2 := ((F32_x1 h x1 x2 x3 v4 v5 v6 x7 x8) (1 : Nat)).2) (hC := (ai c10 trivial)) (hd := F32_d1) (h := by kernel_rfl)
theorem F32_l1_0 (h : AHeap) (x1 : Int) (x2 : Int) (x3 : Bool) (l4 : List (Int × Int × Int × Int)) (v4 : Hd) (hv4 : SlE E57 4 h (sv v4) l4) (v5 : Hd) (v6 : Hd) (x7 : Int) (x8 : Int) (x : Int) (r : Nat) (hl : loopO (fun (s : Int) => F32_s1 l4 s) x = some r) (q0 : Nat.beq r 0 = true) : AWp Try.prog (.loop (codeOf Try.prog 32 [1, 0, 1, 0, 0])) (Ends1 .ret (F32_x1_0 h x1 x2 x3 v4 v5 v6 x7 x8 r)) ((fun (s : Int) => (F32_h1 h x1 x2 x3 l4 v4 v5 v6 x7 x8 s)) x) := by
  have k := loop_fun (P := Try.prog) (c := (codeOf Try.prog 32 [1, 0, 1, 0, 0])) (step := (fun (s : Int) => F32_s1 l4 s)) (hd := (fun (s : Int) => (F32_h1 h x1 x2 x3 l4 v4 v5 v6 x7 x8 s))) (X := (F32_x1 h x1 x2 x3 v4 v5 v6 x7 x8)) (by intro t; unfold F32_x1; cases Nat.beq t 0 <;> (intro h; cases h)) (fun x => F32_r1 h x1 x2 x3 l4 v4 hv4 v5 v6 x7 x8 x) hl
  simp only [F32_x1, q0, cond_true, cond_false] at k
  exact k
theorem F32_l1_1 (h : AHeap) (x1 : Int) (x2 : Int) (x3 : Bool) (l4 : List (Int × Int × Int × Int)) (v4 : Hd) (hv4 : SlE E57 4 h (sv v4) l4) (v5 : Hd) (v6 : Hd) (x7 : Int) (x8 : Int) (x : Int) (r : Nat) (hl : loopO (fun (s : Int) => F32_s1 l4 s) x = some r) (q0 : Nat.beq r 0 = false) : AWp Try.prog (.loop (codeOf Try.prog 32 [1, 0, 1, 0, 0])) (Ends1 (.exit 0) (F32_x1_1 h x1 x2 x3 v4 v5 v6 x7 x8 r)) ((fun (s : Int) => (F32_h1 h x1 x2 x3 l4 v4 v5 v6 x7 x8 s)) x) := by
  have k := loop_fun (P := Try.prog) (c := (codeOf Try.prog 32 [1, 0, 1, 0, 0])) (step := (fun (s : Int) => F32_s1 l4 s)) (hd := (fun (s : Int) => (F32_h1 h x1 x2 x3 l4 v4 v5 v6 x7 x8 s))) (X := (F32_x1 h x1 x2 x3 v4 v5 v6 x7 x8)) (by intro t; unfold F32_x1; cases Nat.beq t 0 <;> (intro h; cases h)) (fun x => F32_r1 h x1 x2 x3 l4 v4 hv4 v5 v6 x7 x8 x) hl
  simp only [F32_x1, q0, cond_true, cond_false] at k
  exact k
def F32_m2_2 : List Bool := (true :: false :: false :: false :: (rp 64 true []))
def F32_m2_1 : List Bool := (true :: false :: false :: false :: (rp 30 true (false :: false :: (rp 32 true []))))
def F32_m2_0 : List Bool := (rp 6 true (false :: (rp 61 true [])))
def F32_s2 (l6 : List (Int × Int)) (a16 : Int) : Option (Int ⊕ Nat) :=
  (bif decide (a16 < (l6.length : Int)) then
   (Option.bind (at? l6 a16) fun y18 =>
   (bif decide (y18.2 > 20) then
    some (.inr 0)
   else
    some (.inl (IntKind.i64.wrap (a16 + 1)))))
  else
   some (.inr 1))
def F32_h2 (h : AHeap) (x1 : Int) (x2 : Int) (x3 : Bool) (v4 : Hd) (v5 : Hd) (l6 : List (Int × Int)) (v6 : Hd) (x7 : Int) (x8 : Int)  (a16 : Int) : AS := ⟨(junk :: (.int .i64 x7) :: (.int .i64 x8) :: (.pointer (some ⟨3, 0, none⟩)) :: (rp 30 junk ((.int .i64 (l6.length : Int)) :: (.int .i64 a16) :: (rp 32 junk [])))), [(3, [.int .i64 x1, .int .i64 x2, .bool x3, (sv v4), (sv v5), (sv v6)])], h⟩
theorem F32_d2 : drawsOk F32_D (codeOf Try.prog 32 [1, 1, 0, 1, 0, 0]) = true := by kernel_rfl
def F32_x2_0 (h : AHeap) (x1 : Int) (x2 : Int) (x3 : Bool) (v4 : Hd) (v5 : Hd) (v6 : Hd) (x7 : Int) (x8 : Int)  (r : Nat) : AS := ⟨(rp 6 junk ((.bool false) :: (rp 61 junk []))), [], h⟩
def F32_x2_1 (h : AHeap) (x1 : Int) (x2 : Int) (x3 : Bool) (v4 : Hd) (v5 : Hd) (v6 : Hd) (x7 : Int) (x8 : Int)  (r : Nat) : AS := ⟨(junk :: (.int .i64 x7) :: (.int .i64 x8) :: (.pointer (some ⟨3, 0, none⟩)) :: (rp 64 junk [])), [(3, [.int .i64 x1, .int .i64 x2, .bool x3, (sv v4), (sv v5), (sv v6)])], h⟩
def F32_x2 (h : AHeap) (x1 : Int) (x2 : Int) (x3 : Bool) (v4 : Hd) (v5 : Hd) (v6 : Hd) (x7 : Int) (x8 : Int) (r : Nat) : Exit × AS := (bif Nat.beq r 0 then (.ret, (F32_x2_0 h x1 x2 x3 v4 v5 v6 x7 x8 r)) else ((.exit 2), (F32_x2_1 h x1 x2 x3 v4 v5 v6 x7 x8 r)))
set_option maxRecDepth 100000 in
theorem F32_r2 (h : AHeap) (x1 : Int) (x2 : Int) (x3 : Bool) (v4 : Hd) (v5 : Hd) (l6 : List (Int × Int)) (v6 : Hd) (hv6 : SlE E61 2 h (sv v6) l6) (x7 : Int) (x8 : Int) (a16 : Int) (o : Int ⊕ Nat) : F32_s2 l6 a16 = some o → RdF Try.prog (codeOf Try.prog 32 [1, 1, 0, 1, 0, 0]) (fun (s : Int) => (F32_h2 h x1 x2 x3 v4 v5 l6 v6 x7 x8 s)) (F32_x2 h x1 x2 x3 v4 v5 v6 x7 x8) (F32_h2 h x1 x2 x3 v4 v5 l6 v6 x7 x8 a16) o := by
  unfold F32_s2
  refine dec_bif (fun c17 => ?_) (fun c17 => ?_)
  · refine bind_opt fun y18 e18 => ?_
    obtain ⟨id18, off18, g18, cs18, ix18, at18, rfl⟩ := SlE.at hv6 e18
    have kc19 := (ai (At.one (P := Try.prog) (t := 3) (v := .int .i64 y18.2) at18 (by kernel_rfl) 1 rfl rfl) (ai ix18 (ai c17 trivial)))
    refine dec_bif (fun c19 => ?_) (fun c19 => ?_)
    · intro hr
      obtain rfl := Option.some.inj hr
      show AWp Try.prog _ (Ends1 ((F32_x2 h x1 x2 x3 v4 v5 v6 x7 x8) (0 : Nat)).1 ((F32_x2 h x1 x2 x3 v4 v5 v6 x7 x8) (0 : Nat)).2) _
      exact pEnd_sound good (L := F32_L) (D := F32_D) (its := [.g, (.b true), .g, .g, .g, .g, .g, (.ix id18 off18 g18), .g, (.ld (.int .i64 y18.2)), .g, (.b true), .g]) (ds := F32_m2_0) (ks := [3]) (e := ((F32_x2 h x1 x2 x3 v4 v5 v6 x7 x8) (0 : Nat)).1) (s2 := ((F32_x2 h x1 x2 x3 v4 v5 v6 x7 x8) (0 : Nat)).2) (hC := (ai c19 kc19)) (hd := F32_d2) (h := by kernel_rfl)
    · intro hr
      obtain rfl := Option.some.inj hr
      show AWp Try.prog _ (Ends1 .normal (F32_h2 h x1 x2 x3 v4 v5 l6 v6 x7 x8 (IntKind.i64.wrap (a16 + 1)))) _
      exact pEnd_sound good (L := F32_L) (D := F32_D) (its := [.g, (.b true), .g, .g, .g, .g, .g, (.ix id18 off18 g18), .g, (.ld (.int .i64 y18.2)), .g, (.b false), .g, .g]) (ds := F32_m2_1) (ks := []) (e := .normal) (s2 := (F32_h2 h x1 x2 x3 v4 v5 l6 v6 x7 x8 (IntKind.i64.wrap (a16 + 1)))) (hC := (ai c19 kc19)) (hd := F32_d2) (h := by kernel_rfl)
  · intro hr
    obtain rfl := Option.some.inj hr
    show AWp Try.prog _ (Ends1 ((F32_x2 h x1 x2 x3 v4 v5 v6 x7 x8) (1 : Nat)).1 ((F32_x2 h x1 x2 x3 v4 v5 v6 x7 x8) (1 : Nat)).2) _
    exact pEnd_sound good (L := F32_L) (D := F32_D) (its := [.g, (.b false)]) (ds := F32_m2_2) (ks := []) (e := ((F32_x2 h x1 x2 x3 v4 v5 v6 x7 x8) (1 : Nat)).1) (s2 := ((F32_x2 h x1 x2 x3 v4 v5 v6 x7 x8) (1 : Nat)).2) (hC := (ai c17 trivial)) (hd := F32_d2) (h := by kernel_rfl)
theorem F32_l2_0 (h : AHeap) (x1 : Int) (x2 : Int) (x3 : Bool) (v4 : Hd) (v5 : Hd) (l6 : List (Int × Int)) (v6 : Hd) (hv6 : SlE E61 2 h (sv v6) l6) (x7 : Int) (x8 : Int) (x : Int) (r : Nat) (hl : loopO (fun (s : Int) => F32_s2 l6 s) x = some r) (q0 : Nat.beq r 0 = true) : AWp Try.prog (.loop (codeOf Try.prog 32 [1, 1, 0, 1, 0, 0])) (Ends1 .ret (F32_x2_0 h x1 x2 x3 v4 v5 v6 x7 x8 r)) ((fun (s : Int) => (F32_h2 h x1 x2 x3 v4 v5 l6 v6 x7 x8 s)) x) := by
  have k := loop_fun (P := Try.prog) (c := (codeOf Try.prog 32 [1, 1, 0, 1, 0, 0])) (step := (fun (s : Int) => F32_s2 l6 s)) (hd := (fun (s : Int) => (F32_h2 h x1 x2 x3 v4 v5 l6 v6 x7 x8 s))) (X := (F32_x2 h x1 x2 x3 v4 v5 v6 x7 x8)) (by intro t; unfold F32_x2; cases Nat.beq t 0 <;> (intro h; cases h)) (fun x => F32_r2 h x1 x2 x3 v4 v5 l6 v6 hv6 x7 x8 x) hl
  simp only [F32_x2, q0, cond_true, cond_false] at k
  exact k
theorem F32_l2_1 (h : AHeap) (x1 : Int) (x2 : Int) (x3 : Bool) (v4 : Hd) (v5 : Hd) (l6 : List (Int × Int)) (v6 : Hd) (hv6 : SlE E61 2 h (sv v6) l6) (x7 : Int) (x8 : Int) (x : Int) (r : Nat) (hl : loopO (fun (s : Int) => F32_s2 l6 s) x = some r) (q0 : Nat.beq r 0 = false) : AWp Try.prog (.loop (codeOf Try.prog 32 [1, 1, 0, 1, 0, 0])) (Ends1 (.exit 2) (F32_x2_1 h x1 x2 x3 v4 v5 v6 x7 x8 r)) ((fun (s : Int) => (F32_h2 h x1 x2 x3 v4 v5 l6 v6 x7 x8 s)) x) := by
  have k := loop_fun (P := Try.prog) (c := (codeOf Try.prog 32 [1, 1, 0, 1, 0, 0])) (step := (fun (s : Int) => F32_s2 l6 s)) (hd := (fun (s : Int) => (F32_h2 h x1 x2 x3 v4 v5 l6 v6 x7 x8 s))) (X := (F32_x2 h x1 x2 x3 v4 v5 v6 x7 x8)) (by intro t; unfold F32_x2; cases Nat.beq t 0 <;> (intro h; cases h)) (fun x => F32_r2 h x1 x2 x3 v4 v5 l6 v6 hv6 x7 x8 x) hl
  simp only [F32_x2, q0, cond_true, cond_false] at k
  exact k
def F32 (x1 : Int) (x2 : Int) (x3 : Bool) (l4 : List (Int × Int × Int × Int)) (l5 : List (Int × Int × Int × Int)) (l6 : List (Int × Int)) (x7 : Int) (x8 : Int) : Option (Bool) :=
  (Option.bind (loopO (fun (s : Int) => F32_s1 l4 s) 0) fun y14 =>
  (bif (Nat.beq y14 0) then
   some (false)
  else
   (Option.bind (loopO (fun (s : Int) => F32_s2 l6 s) 0) fun y20 =>
   (bif (Nat.beq y20 0) then
    some (false)
   else
    (bif decide (x1 ≤ x7) then
     (bif decide (x2 ≤ x8) then
      (bif decide ((l4.length : Int) ≤ 90) then
       some (decide ((l5.length : Int) ≤ 6))
      else
       some (false))
     else
      some (false))
    else
     some (false))))))
set_option maxRecDepth 100000 in
theorem F32_spec (x1 : Int) (x2 : Int) (x3 : Bool) (l4 : List (Int × Int × Int × Int)) (l5 : List (Int × Int × Int × Int)) (l6 : List (Int × Int)) (x7 : Int) (x8 : Int) (v4 : Hd) (v5 : Hd) (v6 : Hd) (h : AHeap) (hv4 : SlE E57 4 h (sv v4) l4) (hv5 : SlE E59 4 h (sv v5) l5) (hv6 : SlE E61 2 h (sv v6) l6) (r : Bool) : F32 x1 x2 x3 l4 l5 l6 x7 x8 = some r → ACalls Try.prog 32 [.agg #[.int .i64 x1, .int .i64 x2, .bool x3, (sv v4), (sv v5), (sv v6)], .int .i64 x7, .int .i64 x8] h (fun v' h'' => v' = (.bool r : Value) ∧ h'' = h) := by
  unfold F32
  refine bind_opt fun y14 e14 => ?_
  have kc15 := (ai (SlE.len hv4) trivial)
  refine dec_bif (fun c15 => ?_) (fun c15 => ?_)
  · intro hr
    obtain rfl := Option.some.inj hr
    exact pFun_sound good tab_ok (f := 32) (its := [.g, .g, .g, .g, (.ln l4.length), .g, (.l F32_m1_1 [] .ret (F32_x1_0 h x1 x2 x3 v4 v5 v6 x7 x8 y14))]) (args := [.agg #[.int .i64 x1, .int .i64 x2, .bool x3, (sv v4), (sv v5), (sv v6)], .int .i64 x7, .int .i64 x8]) (h := h) (h' := h) (v := .bool false) (hC := (ai (F32_l1_0 h x1 x2 x3 l4 v4 hv4 v5 v6 x7 x8 0 y14 e14 c15) kc15)) (hr := by kernel_rfl)
  · refine bind_opt fun y20 e20 => ?_
    have kc21 := (ai (SlE.len hv6) (ai (F32_l1_1 h x1 x2 x3 l4 v4 hv4 v5 v6 x7 x8 0 y14 e14 c15) kc15))
    refine dec_bif (fun c21 => ?_) (fun c21 => ?_)
    · intro hr
      obtain rfl := Option.some.inj hr
      exact pFun_sound good tab_ok (f := 32) (its := [.g, .g, .g, .g, (.ln l4.length), .g, (.l F32_m1_1 [] (.exit 0) (F32_x1_1 h x1 x2 x3 v4 v5 v6 x7 x8 y14)), .g, .g, (.ln l6.length), .g, (.l F32_m2_1 [] .ret (F32_x2_0 h x1 x2 x3 v4 v5 v6 x7 x8 y20))]) (args := [.agg #[.int .i64 x1, .int .i64 x2, .bool x3, (sv v4), (sv v5), (sv v6)], .int .i64 x7, .int .i64 x8]) (h := h) (h' := h) (v := .bool false) (hC := (ai (F32_l2_0 h x1 x2 x3 v4 v5 l6 v6 hv6 x7 x8 0 y20 e20 c21) kc21)) (hr := by kernel_rfl)
    · have kc22 := (ai (F32_l2_1 h x1 x2 x3 v4 v5 l6 v6 hv6 x7 x8 0 y20 e20 c21) kc21)
      refine dec_bif (fun c22 => ?_) (fun c22 => ?_)
      · have kc23 := (ai c22 (ai (g_tt c22) (ai (g_tt c22) (ai (g_tt c22) (ai (g_tt c22) kc22)))))
        refine dec_bif (fun c23 => ?_) (fun c23 => ?_)
        · have kc24 := (ai c23 (ai (g_tt c23) (ai (SlE.len hv4) (ai (g_tt c23) (ai (g_tt c23) (ai (g_tt c23) kc23))))))
          refine dec_bif (fun c24 => ?_) (fun c24 => ?_)
          · intro hr
            obtain rfl := Option.some.inj hr
            exact pFun_sound good tab_ok (f := 32) (its := [.g, .g, .g, .g, (.ln l4.length), .g, (.l F32_m1_1 [] (.exit 0) (F32_x1_1 h x1 x2 x3 v4 v5 v6 x7 x8 y14)), .g, .g, (.ln l6.length), .g, (.l F32_m2_1 [] (.exit 2) (F32_x2_1 h x1 x2 x3 v4 v5 v6 x7 x8 y20)), .g, .g, .g, .g, .g, (.w .g), (.w .g), (.w .g), (.w .g), (.p true), .g, (.w .g), (.w .g), (.w (.ln l4.length)), (.w .g), (.p true), .g, (.w .g), (.w .g), (.w (.ln l5.length)), (.w .g), (.p true), .g]) (args := [.agg #[.int .i64 x1, .int .i64 x2, .bool x3, (sv v4), (sv v5), (sv v6)], .int .i64 x7, .int .i64 x8]) (h := h) (h' := h) (v := .bool (decide ((l5.length : Int) ≤ 6))) (hC := (ai c24 (ai (g_tt c24) (ai (SlE.len hv5) (ai (g_tt c24) (ai (g_tt c24) (ai (g_tt c24) kc24))))))) (hr := by kernel_rfl)
          · intro hr
            obtain rfl := Option.some.inj hr
            exact pFun_sound good tab_ok (f := 32) (its := [.g, .g, .g, .g, (.ln l4.length), .g, (.l F32_m1_1 [] (.exit 0) (F32_x1_1 h x1 x2 x3 v4 v5 v6 x7 x8 y14)), .g, .g, (.ln l6.length), .g, (.l F32_m2_1 [] (.exit 2) (F32_x2_1 h x1 x2 x3 v4 v5 v6 x7 x8 y20)), .g, .g, .g, .g, .g, (.w .g), (.w .g), (.w .g), (.w .g), (.p true), .g, (.w .g), (.w .g), (.w (.ln l4.length)), (.w .g), (.p true), .g, .n, .n, .n, .n, (.p false), .g]) (args := [.agg #[.int .i64 x1, .int .i64 x2, .bool x3, (sv v4), (sv v5), (sv v6)], .int .i64 x7, .int .i64 x8]) (h := h) (h' := h) (v := .bool false) (hC := (ai c24 (ai (g_ft c24) (ai (g_ft c24) (ai (g_ft c24) (ai (g_ft c24) kc24)))))) (hr := by kernel_rfl)
        · intro hr
          obtain rfl := Option.some.inj hr
          exact pFun_sound good tab_ok (f := 32) (its := [.g, .g, .g, .g, (.ln l4.length), .g, (.l F32_m1_1 [] (.exit 0) (F32_x1_1 h x1 x2 x3 v4 v5 v6 x7 x8 y14)), .g, .g, (.ln l6.length), .g, (.l F32_m2_1 [] (.exit 2) (F32_x2_1 h x1 x2 x3 v4 v5 v6 x7 x8 y20)), .g, .g, .g, .g, .g, (.w .g), (.w .g), (.w .g), (.w .g), (.p true), .g, .n, .n, .n, .n, (.p false), .g, .n, .n, .n, .n, .g, .g]) (args := [.agg #[.int .i64 x1, .int .i64 x2, .bool x3, (sv v4), (sv v5), (sv v6)], .int .i64 x7, .int .i64 x8]) (h := h) (h' := h) (v := .bool false) (hC := (ai (g_ft l_f) (ai (g_ft l_f) (ai (g_ft l_f) (ai (g_ft l_f) (ai c23 (ai (g_ft c23) (ai (g_ft c23) (ai (g_ft c23) (ai (g_ft c23) kc23)))))))))) (hr := by kernel_rfl)
      · intro hr
        obtain rfl := Option.some.inj hr
        exact pFun_sound good tab_ok (f := 32) (its := [.g, .g, .g, .g, (.ln l4.length), .g, (.l F32_m1_1 [] (.exit 0) (F32_x1_1 h x1 x2 x3 v4 v5 v6 x7 x8 y14)), .g, .g, (.ln l6.length), .g, (.l F32_m2_1 [] (.exit 2) (F32_x2_1 h x1 x2 x3 v4 v5 v6 x7 x8 y20)), .g, .g, .g, .g, .g, .n, .n, .n, .n, (.p false), .g, .n, .n, .n, .n, .g, .g, .n, .n, .n, .n, .g, .g]) (args := [.agg #[.int .i64 x1, .int .i64 x2, .bool x3, (sv v4), (sv v5), (sv v6)], .int .i64 x7, .int .i64 x8]) (h := h) (h' := h) (v := .bool false) (hC := (ai (g_ft l_f) (ai (g_ft l_f) (ai (g_ft l_f) (ai (g_ft l_f) (ai (g_ft l_f) (ai (g_ft l_f) (ai (g_ft l_f) (ai (g_ft l_f) (ai c22 (ai (g_ft c22) (ai (g_ft c22) (ai (g_ft c22) (ai (g_ft c22) kc22)))))))))))))) (hr := by kernel_rfl)
/-! 12 jacquard/jacquardlaw31.few -/
def F12 (x1 : Int) (x2 : Int) (x3 : Bool) (l4 : List (Int × Int × Int × Int)) (l5 : List (Int × Int × Int × Int)) (l6 : List (Int × Int)) : Option (Bool) :=
  (Option.bind (F32 x1 x2 x3 l4 l5 l6 12 6) fun y7 =>
  (bif y7 then
   some (decide ((l6.length : Int) ≤ 20))
  else
   some (false)))
set_option maxRecDepth 100000 in
theorem F12_spec (x1 : Int) (x2 : Int) (x3 : Bool) (l4 : List (Int × Int × Int × Int)) (l5 : List (Int × Int × Int × Int)) (l6 : List (Int × Int)) (v4 : Hd) (v5 : Hd) (v6 : Hd) (h : AHeap) (hv4 : SlE E57 4 h (sv v4) l4) (hv5 : SlE E59 4 h (sv v5) l5) (hv6 : SlE E61 2 h (sv v6) l6) (r : Bool) : F12 x1 x2 x3 l4 l5 l6 = some r → ACalls Try.prog 12 [.agg #[.int .i64 x1, .int .i64 x2, .bool x3, (sv v4), (sv v5), (sv v6)]] h (fun v' h'' => v' = (.bool r : Value) ∧ h'' = h) := by
  unfold F12
  refine bind_opt fun y7 e7 => ?_
  have kc9 := (ai (F32_spec x1 x2 x3 l4 l5 l6 12 6 v4 v5 v6 h hv4 hv5 hv6 _ e7) trivial)
  refine dec_bif (fun c9 => ?_) (fun c9 => ?_)
  · intro hr
    obtain rfl := Option.some.inj hr
    exact pFun_sound good tab_ok (f := 12) (its := [.g, .g, .g, (.c (.bool y7) h), .g, (.w .g), (.w .g), (.w (.ln l6.length)), (.w .g), (.p true), .g]) (args := [.agg #[.int .i64 x1, .int .i64 x2, .bool x3, (sv v4), (sv v5), (sv v6)]]) (h := h) (h' := h) (v := .bool (decide ((l6.length : Int) ≤ 20))) (hC := (ai c9 (ai (g_tt c9) (ai (SlE.len hv6) (ai (g_tt c9) (ai (g_tt c9) (ai (g_tt c9) kc9))))))) (hr := by kernel_rfl)
  · intro hr
    obtain rfl := Option.some.inj hr
    exact pFun_sound good tab_ok (f := 12) (its := [.g, .g, .g, (.c (.bool y7) h), .g, .n, .n, .n, .n, (.p false), .g]) (args := [.agg #[.int .i64 x1, .int .i64 x2, .bool x3, (sv v4), (sv v5), (sv v6)]]) (h := h) (h' := h) (v := .bool false) (hC := (ai c9 (ai (g_ft c9) (ai (g_ft c9) (ai (g_ft c9) (ai (g_ft c9) kc9)))))) (hr := by kernel_rfl)
/-! 50 jacquard/diffcons.Latest -/
def F50_L : List Nat := []
def F50_D : List (Nat × List (Nat × Nat)) := []
def F50_m1_1 : List Bool := (rp 8 true (false :: true :: false :: (rp 46 true [])))
def F50_m1_0 : List Bool := (true :: true :: true :: false :: (rp 4 true (false :: true :: false :: (rp 11 true (false :: false :: (rp 33 true []))))))
def F50_s1 (x1 : Int) (l4 : List Int) (a12 : Int) (l13 : List Int) : Option ((Int × (List Int)) ⊕ (List Int)) :=
  (bif decide (a12 < ((List.replicate (F57 x1).toNat (0 : Int)).length : Int)) then
   (Option.bind (F64 l4 a12) fun y16 =>
   (Option.bind (at? l13 a12) fun y18 =>
   some (.inl ((IntKind.i64.wrap (a12 + 1)), (setI l13 a12 (IntKind.i64.wrap (0 - y16)))))))
  else
   some (.inr l13))
def F50_h1 (x1 : Int) (v4 : Hd) (u7_0 : Hd) (v10 : Hd) (h14 : AHeap) (a12 : Int) (l13 : List Int) : AS := ⟨(junk :: junk :: junk :: (sv v4) :: (rp 4 junk ((sv v10) :: junk :: (sv u7_0) :: (rp 11 junk ((.int .i64 ((List.replicate (F57 x1).toNat (0 : Int)).length : Int)) :: (.int .i64 a12) :: (rp 33 junk [])))))), [], h14⟩
theorem F50_d1 : drawsOk F50_D (codeOf Try.prog 50 [1, 1, 1, 1, 0, 1, 0, 0]) = true := by kernel_rfl
def F50_x1_0 (h : AHeap) (y6 : (List (Int × Int × Int × Int))) (u7_0 : Hd) (v10 : Hd) (hx : AHeap) (r : (List Int)) : AS := ⟨(rp 8 junk ((sv v10) :: junk :: (sv u7_0) :: (rp 46 junk []))), [], hx⟩
def F50_i1 (h : AHeap) (x1 : Int) (v4 : Hd) (y6 : (List (Int × Int × Int × Int))) (u7_0 : Hd) (v10 : Hd) (s : Int × (List Int)) (S : AS) : Prop := ∃ (h14 : AHeap), Heapy h h14 [⟨v10, 3, 1, List.flatMap enc3 s.2⟩, ⟨u7_0, 92, 4, List.flatMap enc92 y6⟩] ∧ S = (F50_h1 x1 v4 u7_0 v10 h14 s.1 s.2)
def F50_x1 (h : AHeap) (y6 : (List (Int × Int × Int × Int))) (u7_0 : Hd) (v10 : Hd) (r : (List Int)) (e : Exit) (S : AS) : Prop := e = (.exit 0) ∧ ∃ (hx : AHeap), Heapy h hx [⟨v10, 3, 1, List.flatMap enc3 r⟩, ⟨u7_0, 92, 4, List.flatMap enc92 y6⟩] ∧ S = (F50_x1_0 h y6 u7_0 v10 hx r)
set_option maxRecDepth 100000 in
theorem F50_r1 (h : AHeap) (x1 : Int) (l4 : List Int) (v4 : Hd) (hv4 : SlE E3 1 h (sv v4) l4) (y6 : (List (Int × Int × Int × Int))) (u7_0 : Hd) (v10 : Hd) (a12 : Int) (l13 : List Int) (S : AS) (hI : (F50_i1 h x1 v4 y6 u7_0 v10) (a12, l13) S) (o : (Int × (List Int)) ⊕ (List Int)) : F50_s1 x1 l4 a12 l13 = some o → Rd Try.prog (codeOf Try.prog 50 [1, 1, 1, 1, 0, 1, 0, 0]) (F50_i1 h x1 v4 y6 u7_0 v10) (F50_x1 h y6 u7_0 v10) S o := by
  obtain ⟨h14, hp14, rfl⟩ := hI
  unfold F50_s1
  refine dec_bif (fun c15 => ?_) (fun c15 => ?_)
  · refine bind_opt fun y16 e16 => ?_
    refine bind_opt fun y18 e18 => ?_
    obtain ⟨id18, off18, g18, cs18, ix18, at18, rfl⟩ := SlE.at (Heapy.sle (v := v10) (xs := l13) (enc := enc3) hp14 0 rfl (fun _ => rfl) (by decide)) e18
    obtain ⟨h19, m19, hp19⟩ := Heapy.store (P := Try.prog) hp14 0 (v := v10) (xs := l13) (enc := enc3) rfl (fun _ => rfl) e18 (y' := (IntKind.i64.wrap (0 - y16))) ix18 (t := 3) (x := .int .i64 (IntKind.i64.wrap (0 - y16))) 0 (vs := [.int .i64 (IntKind.i64.wrap (0 - y16))]) rfl (by kernel_rfl) rfl rfl rfl rfl
    intro hr
    obtain rfl := Option.some.inj hr
    exact ⟨(F50_h1 x1 v4 u7_0 v10 h19 (IntKind.i64.wrap (a12 + 1)) (setI l13 a12 (IntKind.i64.wrap (0 - y16)))), ⟨h19, (Heapy.pick hp19 [0, 1] (by decide)), rfl⟩, pEnd_sound good (L := F50_L) (D := F50_D) (its := [.g, (.b true), .g, .g, .g, .g, .g, .g, (.c (.int .i64 y16) h14), .g, (.ix id18 off18 g18), (.mm undef h19), .g, .g]) (ds := F50_m1_0) (ks := []) (e := .normal) (s2 := (F50_h1 x1 v4 u7_0 v10 h19 (IntKind.i64.wrap (a12 + 1)) (setI l13 a12 (IntKind.i64.wrap (0 - y16))))) (hC := (ai m19 (ai ix18 (ai (F64_spec l4 a12 v4 h14 (SlE.mono hv4 (Heapy.sub hp14) (E3_mono (Heapy.sub hp14))) _ e16) (ai c15 trivial))))) (hd := F50_d1) (h := by kernel_rfl)⟩
  · intro hr
    obtain rfl := Option.some.inj hr
    refine ⟨(.exit 0), (F50_x1_0 h y6 u7_0 v10 h14 (l13 : (List Int))), (by intro hh; cases hh), ?_, pEnd_sound good (L := F50_L) (D := F50_D) (its := [.g, (.b false)]) (ds := F50_m1_1) (ks := []) (e := (.exit 0)) (s2 := (F50_x1_0 h y6 u7_0 v10 h14 (l13 : (List Int)))) (hC := (ai c15 trivial)) (hd := F50_d1) (h := by kernel_rfl)⟩
    exact ⟨rfl, h14, (Heapy.pick hp14 [0, 1] (by decide)), rfl⟩
theorem F50_l1 (h : AHeap) (x1 : Int) (l4 : List Int) (v4 : Hd) (hv4 : SlE E3 1 h (sv v4) l4) (y6 : (List (Int × Int × Int × Int))) (u7_0 : Hd) (v10 : Hd) (x : Int × (List Int)) (r : (List Int)) (hl : loopO (fun (s : Int × (List Int)) => F50_s1 x1 l4 s.1 s.2) x = some r) (S : AS) (hI : (F50_i1 h x1 v4 y6 u7_0 v10) x S) : ∃ e S', (F50_x1 h y6 u7_0 v10) r e S' ∧ AWp Try.prog (.loop (codeOf Try.prog 50 [1, 1, 1, 1, 0, 1, 0, 0])) (Ends1 e S') S :=
  loop_rel (fun x S hI => F50_r1 h x1 l4 v4 hv4 y6 u7_0 v10 x.1 x.2 S hI) hl hI
def F50_m2_1 : List Bool := (rp 8 true (false :: (rp 48 true [])))
def F50_m2_0 : List Bool := (rp 8 true (false :: (rp 34 true (false :: false :: (rp 12 true [])))))
def F50_s2 (y23 : (List Int) × (List Int)) (a30 : Int) (l31 : List Int) : Option ((Int × (List Int)) ⊕ (List Int)) :=
  (bif decide (a30 < (y23.2.length : Int)) then
   (Option.bind (at? l31 a30) fun y34 =>
   some (.inl ((IntKind.i64.wrap (a30 + 1)), (setI l31 a30 (IntKind.i64.wrap (0 - y34))))))
  else
   some (.inr l31))
def F50_h2 (v10 : Hd) (y23 : (List Int) × (List Int)) (h32 : AHeap) (a30 : Int) (l31 : List Int) : AS := ⟨(rp 8 junk ((sv v10) :: (rp 34 junk ((.int .i64 (y23.2.length : Int)) :: (.int .i64 a30) :: (rp 12 junk []))))), [], h32⟩
theorem F50_d2 : drawsOk F50_D (codeOf Try.prog 50 [1, 1, 1, 1, 1, 1, 0, 1, 0, 0]) = true := by kernel_rfl
def F50_x2_0 (h : AHeap) (v10 : Hd) (hx : AHeap) (r : (List Int)) : AS := ⟨(rp 8 junk ((sv v10) :: (rp 48 junk []))), [], hx⟩
def F50_i2 (h : AHeap) (v10 : Hd) (y23 : (List Int) × (List Int)) (s : Int × (List Int)) (S : AS) : Prop := ∃ (h32 : AHeap), Heapy h h32 [⟨v10, 3, 1, List.flatMap enc3 s.2⟩] ∧ S = (F50_h2 v10 y23 h32 s.1 s.2)
def F50_x2 (h : AHeap) (v10 : Hd) (r : (List Int)) (e : Exit) (S : AS) : Prop := e = (.exit 2) ∧ ∃ (hx : AHeap), Heapy h hx [⟨v10, 3, 1, List.flatMap enc3 r⟩] ∧ S = (F50_x2_0 h v10 hx r)
set_option maxRecDepth 100000 in
theorem F50_r2 (h : AHeap) (v10 : Hd) (y23 : (List Int) × (List Int)) (a30 : Int) (l31 : List Int) (S : AS) (hI : (F50_i2 h v10 y23) (a30, l31) S) (o : (Int × (List Int)) ⊕ (List Int)) : F50_s2 y23 a30 l31 = some o → Rd Try.prog (codeOf Try.prog 50 [1, 1, 1, 1, 1, 1, 0, 1, 0, 0]) (F50_i2 h v10 y23) (F50_x2 h v10) S o := by
  obtain ⟨h32, hp32, rfl⟩ := hI
  unfold F50_s2
  refine dec_bif (fun c33 => ?_) (fun c33 => ?_)
  · refine bind_opt fun y34 e34 => ?_
    obtain ⟨id34, off34, g34, cs34, ix34, at34, rfl⟩ := SlE.at (Heapy.sle (v := v10) (xs := l31) (enc := enc3) hp32 0 rfl (fun _ => rfl) (by decide)) e34
    obtain ⟨h35, m35, hp35⟩ := Heapy.store (P := Try.prog) hp32 0 (v := v10) (xs := l31) (enc := enc3) rfl (fun _ => rfl) e34 (y' := (IntKind.i64.wrap (0 - y34))) ix34 (t := 3) (x := .int .i64 (IntKind.i64.wrap (0 - y34))) 0 (vs := [.int .i64 (IntKind.i64.wrap (0 - y34))]) rfl (by kernel_rfl) rfl rfl rfl rfl
    intro hr
    obtain rfl := Option.some.inj hr
    exact ⟨(F50_h2 v10 y23 h35 (IntKind.i64.wrap (a30 + 1)) (setI l31 a30 (IntKind.i64.wrap (0 - y34)))), ⟨h35, (Heapy.pick hp35 [0] (by decide)), rfl⟩, pEnd_sound good (L := F50_L) (D := F50_D) (its := [.g, (.b true), .g, .g, .g, .g, .g, .g, (.ix id34 off34 g34), (.ld (.int .i64 y34)), .g, (.ix id34 off34 g34), (.mm undef h35), .g, .g]) (ds := F50_m2_0) (ks := []) (e := .normal) (s2 := (F50_h2 v10 y23 h35 (IntKind.i64.wrap (a30 + 1)) (setI l31 a30 (IntKind.i64.wrap (0 - y34))))) (hC := (ai m35 (ai ix34 (ai (At.one (P := Try.prog) (t := 3) (v := .int .i64 y34) at34 (by kernel_rfl) 0 rfl rfl) (ai ix34 (ai c33 trivial)))))) (hd := F50_d2) (h := by kernel_rfl)⟩
  · intro hr
    obtain rfl := Option.some.inj hr
    refine ⟨(.exit 2), (F50_x2_0 h v10 h32 (l31 : (List Int))), (by intro hh; cases hh), ?_, pEnd_sound good (L := F50_L) (D := F50_D) (its := [.g, (.b false)]) (ds := F50_m2_1) (ks := []) (e := (.exit 2)) (s2 := (F50_x2_0 h v10 h32 (l31 : (List Int)))) (hC := (ai c33 trivial)) (hd := F50_d2) (h := by kernel_rfl)⟩
    exact ⟨rfl, h32, (Heapy.pick hp32 [0] (by decide)), rfl⟩
theorem F50_l2 (h : AHeap) (v10 : Hd) (y23 : (List Int) × (List Int)) (x : Int × (List Int)) (r : (List Int)) (hl : loopO (fun (s : Int × (List Int)) => F50_s2 y23 s.1 s.2) x = some r) (S : AS) (hI : (F50_i2 h v10 y23) x S) : ∃ e S', (F50_x2 h v10) r e S' ∧ AWp Try.prog (.loop (codeOf Try.prog 50 [1, 1, 1, 1, 1, 1, 0, 1, 0, 0])) (Ends1 e S') S :=
  loop_rel (fun x S hI => F50_r2 h v10 y23 x.1 x.2 S hI) hl hI
def F50 (x1 : Int) (l2 : List (Int × Int × Int × Int)) (x3 : Int) (l4 : List Int) : Option ((List Int) × (List Int)) :=
  (Option.bind (F63 (F57 x1) l2 x3 true) fun y6 =>
  (bif (!(okLen (F57 x1) (F57 x1) 8)) then none else
  (Option.bind (loopO (fun (s : Int × (List Int)) => F50_s1 x1 l4 s.1 s.2) (0, (List.replicate (F57 x1).toNat (0 : Int)))) fun y20 =>
  (Option.bind (F65 y20 y6) fun y23 =>
  (bif (!y23.1.isEmpty) then
   (Option.bind (F66 y23.1) fun y28 =>
   some ([], y28))
  else
   (Option.bind (loopO (fun (s : Int × (List Int)) => F50_s2 y23 s.1 s.2) (0, y23.2)) fun y36 =>
   some (y36, [])))))))
set_option maxRecDepth 100000 in
theorem F50_spec (x1 : Int) (l2 : List (Int × Int × Int × Int)) (x3 : Int) (l4 : List Int) (v2 : Hd) (v4 : Hd) (h : AHeap) (hw : h.wf) (hv2 : SlE E57 4 h (sv v2) l2) (hv4 : SlE E3 1 h (sv v4) l4) (r : (List Int) × (List Int)) : F50 x1 l2 x3 l4 = some r → ∃ (ur0 : Hd) (ur1 : Hd) (h' : AHeap), Heapy h h' [⟨ur0, 3, 1, List.flatMap enc3 r.1⟩, ⟨ur1, 3, 1, List.flatMap enc3 r.2⟩] ∧ Strict ur1 ∧ ACalls Try.prog 50 [.int .i64 x1, (sv v2), .int .i64 x3, (sv v4)] h (fun v' h'' => v' = (.tuple #[(sv ur0), (sv ur1)] : Value) ∧ h'' = h') := by
  unfold F50
  refine bind_opt fun y6 e6 => ?_
  obtain ⟨u7_0, h7, q7, zu7_0, c7⟩ := F63_spec (F57 x1) l2 x3 true v2 h hw hv2 _ e6
  have hp7 : Heapy h h7 [⟨u7_0, 92, 4, List.flatMap enc92 y6⟩] := Heapy.call (Heapy.refl hw) q7
  refine guard_ok fun g9 => ?_
  obtain ⟨v10, h10, m10, hp10, _⟩ := Heapy.make hp7 (show mkInfo Try.prog 29 = some (3, 1, 8, [.int .i64 0]) by kernel_rfl) (a := (F57 x1)) (b := (F57 x1)) (by simpa using g9) (enc := enc3) (x := 0) rfl rfl
  refine bind_opt fun y20 e20 => ?_
  obtain ⟨ee20, SS20, hX20, hA20⟩ := F50_l1 h x1 l4 v4 hv4 y6 u7_0 v10 (0, (List.replicate (F57 x1).toNat (0 : Int))) y20 e20 (F50_h1 x1 v4 u7_0 v10 h10 0 (List.replicate (F57 x1).toNat (0 : Int))) ⟨h10, (Heapy.pick hp10 [0, 1] (by decide)), rfl⟩
  obtain ⟨rfl, h21, hp21, rfl⟩ := hX20
  refine bind_opt fun y23 e23 => ?_
  obtain ⟨b22, pb22, ob22, jb22⟩ := Heapy.io hp21 0 (s := ⟨v10, 3, 1, List.flatMap enc3 y20⟩) rfl
  obtain ⟨u24_0, h24, q24, zu24_0, c24⟩ := F65_spec y20 y6 v10 u7_0 h21 b22 (Heapy.wf ob22) (Heapy.sle (v := u7_0) (xs := y6) (enc := enc92) ob22 0 rfl (fun _ => rfl) (by decide)) pb22 _ e23
  have hp24 : Heapy h h24 [⟨u24_0, 3, 1, List.flatMap enc3 y23.1⟩, ⟨v10, 3, 1, List.flatMap enc3 y23.2⟩, ⟨u7_0, 92, 4, List.flatMap enc92 y6⟩] := jb22 (r := [⟨u24_0, 3, 1, List.flatMap enc3 y23.1⟩]) (s' := ⟨v10, 3, 1, List.flatMap enc3 y23.2⟩) q24
  have kc26 := (ai (Heapy.nilE (v := u24_0) (xs := y23.1) (enc := enc3) hp24 0 rfl (fun _ => rfl) (by decide) zu24_0) (ai c24 (ai hA20 (ai (SlE.len (Heapy.sle (v := v10) (xs := (List.replicate (F57 x1).toNat (0 : Int))) (enc := enc3) hp10 0 rfl (fun _ => rfl) (by decide))) (ai m10 (ai c7 (ai (F57_spec x1 h _ rfl) trivial)))))))
  refine dec_bif (fun c26 => ?_) (fun c26 => ?_)
  · refine bind_opt fun y28 e28 => ?_
    obtain ⟨b27, pb27, ob27, jb27⟩ := Heapy.io hp24 0 (s := ⟨u24_0, 3, 1, List.flatMap enc3 y23.1⟩) rfl
    obtain ⟨h29, q29, c29⟩ := F66_spec y23.1 u24_0 h24 b27 (Heapy.wf ob27) pb27 _ e28
    have hp29 : Heapy h h29 [⟨u24_0, 3, 1, List.flatMap enc3 y28⟩, ⟨v10, 3, 1, List.flatMap enc3 y23.2⟩, ⟨u7_0, 92, 4, List.flatMap enc92 y6⟩] := jb27 (r := []) (s' := ⟨u24_0, 3, 1, List.flatMap enc3 y28⟩) q29
    intro hr
    obtain rfl := Option.some.inj hr
    exact ⟨⟨none, 0, 0⟩, u24_0, h29, Heapy.pick (Heapy.nil hp29 3 1) [0, 1] (by decide), zu24_0, pFun_sound good tab_ok (f := 50) (its := [.g, .g, .g, (.c (.int .i64 (F57 x1)) h), .g, .g, .g, .g, (.c ((sv u7_0)) h7), .g, .g, (.mm (sv v10) h10), .g, .g, (.ln (List.replicate (F57 x1).toNat (0 : Int)).length), .g, (.l F50_m1_0 [] (.exit 0) (F50_x1_0 h y6 u7_0 v10 h21 y20)), .g, .g, (.c ((sv u24_0)) h24), .g, .g, (.nl y23.1.isEmpty), (.b true), .g, (.c (.tuple #[]) h29), .g, .g, .g]) (args := [.int .i64 x1, (sv v2), .int .i64 x3, (sv v4)]) (h := h) (h' := h29) (v := .tuple #[.slice none 0 0, (sv u24_0)]) (hC := (ai c29 (ai c26 kc26))) (hr := by kernel_rfl)⟩
  · refine bind_opt fun y36 e36 => ?_
    obtain ⟨ee36, SS36, hX36, hA36⟩ := F50_l2 h v10 y23 (0, y23.2) y36 e36 (F50_h2 v10 y23 h24 0 y23.2) ⟨h24, (Heapy.pick hp24 [1] (by decide)), rfl⟩
    obtain ⟨rfl, h37, hp37, rfl⟩ := hX36
    intro hr
    obtain rfl := Option.some.inj hr
    exact ⟨v10, ⟨none, 0, 0⟩, h37, Heapy.pick (Heapy.nil hp37 3 1) [1, 0] (by decide), Strict.nil, pFun_sound good tab_ok (f := 50) (its := [.g, .g, .g, (.c (.int .i64 (F57 x1)) h), .g, .g, .g, .g, (.c ((sv u7_0)) h7), .g, .g, (.mm (sv v10) h10), .g, .g, (.ln (List.replicate (F57 x1).toNat (0 : Int)).length), .g, (.l F50_m1_0 [] (.exit 0) (F50_x1_0 h y6 u7_0 v10 h21 y20)), .g, .g, (.c ((sv u24_0)) h24), .g, .g, (.nl y23.1.isEmpty), (.b false), .g, (.ln y23.2.length), .g, (.l F50_m2_0 [] (.exit 2) (F50_x2_0 h v10 h37 y36)), .g, .g, .g]) (args := [.int .i64 x1, (sv v2), .int .i64 x3, (sv v4)]) (h := h) (h' := h37) (v := .tuple #[(sv v10), .slice none 0 0]) (hC := (ai hA36 (ai (SlE.len (Heapy.sle (v := v10) (xs := y23.2) (enc := enc3) hp24 1 rfl (fun _ => rfl) (by decide))) (ai c26 kc26)))) (hr := by kernel_rfl)⟩
/-! 25 jacquard/bounds.Window -/
def F25_L : List Nat := [3]
def F25_D : List (Nat × List (Nat × Nat)) := []
def F25_m1_1 : List Bool := (true :: false :: false :: false :: (rp 86 true []))
def F25_m1_0 : List Bool := (rp 6 true (false :: false :: false :: (rp 81 true [])))
def F25_s1 (x1 : Int) (x2 : Int) (x3 : Bool) (l4 : List (Int × Int × Int × Int)) (l5 : List (Int × Int × Int × Int)) (l6 : List (Int × Int)) (x7 : Int) (x8 : Int)  : Option Nat :=
  (Option.bind (F33 x1 x2 x3 l4 l5 l6) fun y9 =>
  (bif (!y9) then
   some (0)
  else
   (bif (!x3) then
    (bif (x7 != 0) then
     some (0)
    else
     (bif x3 then
      (bif decide (x7 < 1) then
       some (0)
      else
       (bif decide (x7 > 256) then
        some (0)
       else
        (bif decide (x8 < 0) then
         some (0)
        else
         (bif decide (x8 > 4096) then
          some (0)
         else
          some (1)))))
     else
      (bif decide (x8 < 0) then
       some (0)
      else
       (bif decide (x8 > 4096) then
        some (0)
       else
        some (1)))))
   else
    (bif x3 then
     (bif decide (x7 < 1) then
      some (0)
     else
      (bif decide (x7 > 256) then
       some (0)
      else
       (bif decide (x8 < 0) then
        some (0)
       else
        (bif decide (x8 > 4096) then
         some (0)
        else
         some (1)))))
    else
     (bif decide (x8 < 0) then
      some (0)
     else
      (bif decide (x8 > 4096) then
       some (0)
      else
       some (1)))))))
def F25_h1 (h : AHeap) (x1 : Int) (x2 : Int) (x3 : Bool) (v4 : Hd) (v5 : Hd) (v6 : Hd) (x7 : Int) (x8 : Int)   : AS := ⟨(junk :: (.int .i64 x7) :: (.int .i64 x8) :: (.pointer (some ⟨3, 0, none⟩)) :: (rp 86 junk [])), [(3, [.int .i64 x1, .int .i64 x2, .bool x3, (sv v4), (sv v5), (sv v6)])], h⟩
theorem F25_d1 : drawsOk F25_D (codeOf Try.prog 25 [1, 0]) = true := by kernel_rfl
def F25_x1_0 (h : AHeap) (x1 : Int) (x2 : Int) (x3 : Bool) (v4 : Hd) (v5 : Hd) (v6 : Hd) (x7 : Int) (x8 : Int)  (r : Nat) : AS := ⟨(rp 6 junk ((.slice none 0 0) :: (.slice none 0 0) :: (.int .i64 3) :: (rp 81 junk []))), [], h⟩
def F25_x1_1 (h : AHeap) (x1 : Int) (x2 : Int) (x3 : Bool) (v4 : Hd) (v5 : Hd) (v6 : Hd) (x7 : Int) (x8 : Int)  (r : Nat) : AS := ⟨(junk :: (.int .i64 x7) :: (.int .i64 x8) :: (.pointer (some ⟨3, 0, none⟩)) :: (rp 86 junk [])), [(3, [.int .i64 x1, .int .i64 x2, .bool x3, (sv v4), (sv v5), (sv v6)])], h⟩
def F25_x1 (h : AHeap) (x1 : Int) (x2 : Int) (x3 : Bool) (v4 : Hd) (v5 : Hd) (v6 : Hd) (x7 : Int) (x8 : Int) (r : Nat) : Exit × AS := (bif Nat.beq r 0 then (.ret, (F25_x1_0 h x1 x2 x3 v4 v5 v6 x7 x8 r)) else (.normal, (F25_x1_1 h x1 x2 x3 v4 v5 v6 x7 x8 r)))
set_option maxRecDepth 100000 in
theorem F25_r1 (h : AHeap) (x1 : Int) (x2 : Int) (x3 : Bool) (l4 : List (Int × Int × Int × Int)) (v4 : Hd) (hv4 : SlE E57 4 h (sv v4) l4) (l5 : List (Int × Int × Int × Int)) (v5 : Hd) (hv5 : SlE E59 4 h (sv v5) l5) (l6 : List (Int × Int)) (v6 : Hd) (hv6 : SlE E61 2 h (sv v6) l6) (x7 : Int) (x8 : Int) (r : Nat) : F25_s1 x1 x2 x3 l4 l5 l6 x7 x8 = some r → AWp Try.prog (codeOf Try.prog 25 [1, 0]) (Ends1 ((F25_x1 h x1 x2 x3 v4 v5 v6 x7 x8) r).1 ((F25_x1 h x1 x2 x3 v4 v5 v6 x7 x8) r).2) (F25_h1 h x1 x2 x3 v4 v5 v6 x7 x8) := by
  unfold F25_s1
  refine bind_opt fun y9 e9 => ?_
  have kc11 := (ai (F33_spec x1 x2 x3 l4 l5 l6 v4 v5 v6 h hv4 hv5 hv6 _ e9) trivial)
  refine dec_bif (fun c11 => ?_) (fun c11 => ?_)
  · intro hr
    obtain rfl := Option.some.inj hr
    show AWp Try.prog _ (Ends1 ((F25_x1 h x1 x2 x3 v4 v5 v6 x7 x8) (0 : Nat)).1 ((F25_x1 h x1 x2 x3 v4 v5 v6 x7 x8) (0 : Nat)).2) _
    exact pEnd_sound good (L := F25_L) (D := F25_D) (its := [.g, (.c (.bool y9) h), .g, .g, .n, .n, .n, .n, .n, .n, .n, (.p true), .g, .n, .n, .n, .n, .n, .n, .n, .n, .n, .n, .g, .g, .n, .n, .g, .g, .n, .n, .g, (.b true), .g, .g, .g]) (ds := F25_m1_0) (ks := [3]) (e := ((F25_x1 h x1 x2 x3 v4 v5 v6 x7 x8) (0 : Nat)).1) (s2 := ((F25_x1 h x1 x2 x3 v4 v5 v6 x7 x8) (0 : Nat)).2) (hC := (ai l_t (ai (g_tf l_t) (ai (g_tf l_t) (ai (g_tf l_t) (ai (g_tf l_t) (ai (g_tf l_t) (ai l_f (ai l_f (ai l_f (ai l_f (ai l_f (ai l_f (ai (g_tf l_t) (ai (g_tf l_t) (ai (g_tf l_t) (ai c11 (ai (g_tf c11) (ai l_f (ai l_f (ai (g_tf c11) (ai (g_tf c11) (ai (g_tf c11) (ai (g_tf c11) kc11)))))))))))))))))))))))) (hd := F25_d1) (h := by kernel_rfl)
  · have kc12 := (ai (g_ff c11) (ai (g_ff c11) (ai (g_ff c11) (ai (g_ff c11) kc11))))
    refine dec_bif (fun c12 => ?_) (fun c12 => ?_)
    · have kc13 := (ai c11 (ai c12 (ai (g_ff c11) (ai (g_tt c12) (ai (g_tt c12) kc12)))))
      refine dec_bif (fun c13 => ?_) (fun c13 => ?_)
      · intro hr
        obtain rfl := Option.some.inj hr
        show AWp Try.prog _ (Ends1 ((F25_x1 h x1 x2 x3 v4 v5 v6 x7 x8) (0 : Nat)).1 ((F25_x1 h x1 x2 x3 v4 v5 v6 x7 x8) (0 : Nat)).2) _
        exact pEnd_sound good (L := F25_L) (D := F25_D) (its := [.g, (.c (.bool y9) h), .g, .g, (.w .g), (.w .g), (.w .g), (.w .g), (.w .g), (.w .g), (.w (.p true)), (.p false), .g, .n, .n, .n, .n, .n, .n, .n, .n, .n, .n, (.p true), .g, .n, .n, .g, .g, .n, .n, .g, (.b true), .g, .g, .g]) (ds := F25_m1_0) (ks := [3]) (e := ((F25_x1 h x1 x2 x3 v4 v5 v6 x7 x8) (0 : Nat)).1) (s2 := ((F25_x1 h x1 x2 x3 v4 v5 v6 x7 x8) (0 : Nat)).2) (hC := (ai l_t (ai (g_tf l_t) (ai (g_tf l_t) (ai (g_tf l_t) (ai (g_tf l_t) (ai c13 (ai (g_tf c13) (ai l_f (ai l_f (ai l_f (ai l_f (ai l_f (ai l_f (ai (g_tf c13) (ai (g_tf c13) (ai (g_tf c13) kc13))))))))))))))))) (hd := F25_d1) (h := by kernel_rfl)
      · have kc14 := (ai (g_ff c13) (ai (g_ff c13) (ai (g_ff c13) kc13)))
        refine dec_bif (fun c14 => ?_) (fun c14 => ?_)
        · have kc15 := (ai (g_tt c14) (ai (g_tt c14) (ai (g_tt c14) kc14)))
          refine dec_bif (fun c15 => ?_) (fun c15 => ?_)
          · intro hr
            obtain rfl := Option.some.inj hr
            show AWp Try.prog _ (Ends1 ((F25_x1 h x1 x2 x3 v4 v5 v6 x7 x8) (0 : Nat)).1 ((F25_x1 h x1 x2 x3 v4 v5 v6 x7 x8) (0 : Nat)).2) _
            exact pEnd_sound good (L := F25_L) (D := F25_D) (its := [.g, (.c (.bool y9) h), .g, .g, (.w .g), (.w .g), (.w .g), (.w .g), (.w .g), (.w .g), (.w (.p true)), (.p false), .g, (.w .g), (.w .g), (.w .g), (.w .g), (.w .g), (.w .g), .n, .n, (.w (.p true)), (.w (.p true)), (.p false), .g, .n, .n, .g, .g, .n, .n, .g, (.b true), .g, .g, .g]) (ds := F25_m1_0) (ks := [3]) (e := ((F25_x1 h x1 x2 x3 v4 v5 v6 x7 x8) (0 : Nat)).1) (s2 := ((F25_x1 h x1 x2 x3 v4 v5 v6 x7 x8) (0 : Nat)).2) (hC := (ai l_t (ai (g_tf l_t) (ai (g_tf l_t) (ai (g_tf l_t) (ai (g_tf l_t) (ai c13 (ai c14 (ai (g_ff c13) (ai c15 (ai (g_tt c14) (ai (g_tf c15) (ai (g_tf c15) kc15))))))))))))) (hd := F25_d1) (h := by kernel_rfl)
          · have kc16 := (ai c13 (ai c14 (ai (g_ff c13) (ai c15 (ai (g_tt c14) (ai (g_ff c15) (ai (g_ff c15) kc15)))))))
            refine dec_bif (fun c16 => ?_) (fun c16 => ?_)
            · intro hr
              obtain rfl := Option.some.inj hr
              show AWp Try.prog _ (Ends1 ((F25_x1 h x1 x2 x3 v4 v5 v6 x7 x8) (0 : Nat)).1 ((F25_x1 h x1 x2 x3 v4 v5 v6 x7 x8) (0 : Nat)).2) _
              exact pEnd_sound good (L := F25_L) (D := F25_D) (its := [.g, (.c (.bool y9) h), .g, .g, (.w .g), (.w .g), (.w .g), (.w .g), (.w .g), (.w .g), (.w (.p true)), (.p false), .g, (.w .g), (.w .g), (.w .g), (.w .g), (.w .g), (.w .g), (.w .g), (.w .g), (.w (.p false)), (.w (.p true)), (.p false), .g, .n, .n, (.p true), .g, .n, .n, .g, (.b true), .g, .g, .g]) (ds := F25_m1_0) (ks := [3]) (e := ((F25_x1 h x1 x2 x3 v4 v5 v6 x7 x8) (0 : Nat)).1) (s2 := ((F25_x1 h x1 x2 x3 v4 v5 v6 x7 x8) (0 : Nat)).2) (hC := (ai l_t (ai (g_tf l_t) (ai (g_tf l_t) (ai c16 (ai (g_tf c16) (ai (g_tf c16) kc16))))))) (hd := F25_d1) (h := by kernel_rfl)
            · have kc17 := (ai c16 (ai (g_ff c16) (ai (g_ff c16) kc16)))
              refine dec_bif (fun c17 => ?_) (fun c17 => ?_)
              · intro hr
                obtain rfl := Option.some.inj hr
                show AWp Try.prog _ (Ends1 ((F25_x1 h x1 x2 x3 v4 v5 v6 x7 x8) (0 : Nat)).1 ((F25_x1 h x1 x2 x3 v4 v5 v6 x7 x8) (0 : Nat)).2) _
                exact pEnd_sound good (L := F25_L) (D := F25_D) (its := [.g, (.c (.bool y9) h), .g, .g, (.w .g), (.w .g), (.w .g), (.w .g), (.w .g), (.w .g), (.w (.p true)), (.p false), .g, (.w .g), (.w .g), (.w .g), (.w .g), (.w .g), (.w .g), (.w .g), (.w .g), (.w (.p false)), (.w (.p true)), (.p false), .g, (.w .g), (.w .g), (.p false), .g, .n, .n, (.p true), (.b true), .g, .g, .g]) (ds := F25_m1_0) (ks := [3]) (e := ((F25_x1 h x1 x2 x3 v4 v5 v6 x7 x8) (0 : Nat)).1) (s2 := ((F25_x1 h x1 x2 x3 v4 v5 v6 x7 x8) (0 : Nat)).2) (hC := (ai l_t (ai c17 (ai (g_tf c17) (ai (g_tf c17) kc17))))) (hd := F25_d1) (h := by kernel_rfl)
              · have kc18 := (ai c17 (ai (g_ff c17) (ai (g_ff c17) kc17)))
                refine dec_bif (fun c18 => ?_) (fun c18 => ?_)
                · intro hr
                  obtain rfl := Option.some.inj hr
                  show AWp Try.prog _ (Ends1 ((F25_x1 h x1 x2 x3 v4 v5 v6 x7 x8) (0 : Nat)).1 ((F25_x1 h x1 x2 x3 v4 v5 v6 x7 x8) (0 : Nat)).2) _
                  exact pEnd_sound good (L := F25_L) (D := F25_D) (its := [.g, (.c (.bool y9) h), .g, .g, (.w .g), (.w .g), (.w .g), (.w .g), (.w .g), (.w .g), (.w (.p true)), (.p false), .g, (.w .g), (.w .g), (.w .g), (.w .g), (.w .g), (.w .g), (.w .g), (.w .g), (.w (.p false)), (.w (.p true)), (.p false), .g, (.w .g), (.w .g), (.p false), .g, (.w .g), (.w .g), (.p false), (.b true), .g, .g, .g]) (ds := F25_m1_0) (ks := [3]) (e := ((F25_x1 h x1 x2 x3 v4 v5 v6 x7 x8) (0 : Nat)).1) (s2 := ((F25_x1 h x1 x2 x3 v4 v5 v6 x7 x8) (0 : Nat)).2) (hC := (ai c18 kc18)) (hd := F25_d1) (h := by kernel_rfl)
                · intro hr
                  obtain rfl := Option.some.inj hr
                  show AWp Try.prog _ (Ends1 ((F25_x1 h x1 x2 x3 v4 v5 v6 x7 x8) (1 : Nat)).1 ((F25_x1 h x1 x2 x3 v4 v5 v6 x7 x8) (1 : Nat)).2) _
                  exact pEnd_sound good (L := F25_L) (D := F25_D) (its := [.g, (.c (.bool y9) h), .g, .g, (.w .g), (.w .g), (.w .g), (.w .g), (.w .g), (.w .g), (.w (.p true)), (.p false), .g, (.w .g), (.w .g), (.w .g), (.w .g), (.w .g), (.w .g), (.w .g), (.w .g), (.w (.p false)), (.w (.p true)), (.p false), .g, (.w .g), (.w .g), (.p false), .g, (.w .g), (.w .g), (.p false), (.b false)]) (ds := F25_m1_1) (ks := []) (e := ((F25_x1 h x1 x2 x3 v4 v5 v6 x7 x8) (1 : Nat)).1) (s2 := ((F25_x1 h x1 x2 x3 v4 v5 v6 x7 x8) (1 : Nat)).2) (hC := (ai c18 kc18)) (hd := F25_d1) (h := by kernel_rfl)
        · have kc19 := (ai (g_ff l_f) (ai (g_ff l_f) (ai c13 (ai c14 (ai (g_ff c13) (ai (g_ft c14) (ai l_f (ai l_f (ai (g_ft c14) (ai (g_ft c14) (ai (g_ft c14) kc14)))))))))))
          refine dec_bif (fun c19 => ?_) (fun c19 => ?_)
          · intro hr
            obtain rfl := Option.some.inj hr
            show AWp Try.prog _ (Ends1 ((F25_x1 h x1 x2 x3 v4 v5 v6 x7 x8) (0 : Nat)).1 ((F25_x1 h x1 x2 x3 v4 v5 v6 x7 x8) (0 : Nat)).2) _
            exact pEnd_sound good (L := F25_L) (D := F25_D) (its := [.g, (.c (.bool y9) h), .g, .g, (.w .g), (.w .g), (.w .g), (.w .g), (.w .g), (.w .g), (.w (.p true)), (.p false), .g, (.w .g), (.w .g), (.w .g), .n, .n, .n, .n, .n, .n, (.w (.p false)), (.p false), .g, (.w .g), (.w .g), .g, .g, .n, .n, (.p true), (.b true), .g, .g, .g]) (ds := F25_m1_0) (ks := [3]) (e := ((F25_x1 h x1 x2 x3 v4 v5 v6 x7 x8) (0 : Nat)).1) (s2 := ((F25_x1 h x1 x2 x3 v4 v5 v6 x7 x8) (0 : Nat)).2) (hC := (ai l_t (ai c19 (ai (g_tf c19) (ai (g_tf c19) kc19))))) (hd := F25_d1) (h := by kernel_rfl)
          · have kc20 := (ai c19 (ai (g_ff c19) (ai (g_ff c19) kc19)))
            refine dec_bif (fun c20 => ?_) (fun c20 => ?_)
            · intro hr
              obtain rfl := Option.some.inj hr
              show AWp Try.prog _ (Ends1 ((F25_x1 h x1 x2 x3 v4 v5 v6 x7 x8) (0 : Nat)).1 ((F25_x1 h x1 x2 x3 v4 v5 v6 x7 x8) (0 : Nat)).2) _
              exact pEnd_sound good (L := F25_L) (D := F25_D) (its := [.g, (.c (.bool y9) h), .g, .g, (.w .g), (.w .g), (.w .g), (.w .g), (.w .g), (.w .g), (.w (.p true)), (.p false), .g, (.w .g), (.w .g), (.w .g), .n, .n, .n, .n, .n, .n, (.w (.p false)), (.p false), .g, (.w .g), (.w .g), .g, .g, (.w .g), (.w .g), (.p false), (.b true), .g, .g, .g]) (ds := F25_m1_0) (ks := [3]) (e := ((F25_x1 h x1 x2 x3 v4 v5 v6 x7 x8) (0 : Nat)).1) (s2 := ((F25_x1 h x1 x2 x3 v4 v5 v6 x7 x8) (0 : Nat)).2) (hC := (ai c20 kc20)) (hd := F25_d1) (h := by kernel_rfl)
            · intro hr
              obtain rfl := Option.some.inj hr
              show AWp Try.prog _ (Ends1 ((F25_x1 h x1 x2 x3 v4 v5 v6 x7 x8) (1 : Nat)).1 ((F25_x1 h x1 x2 x3 v4 v5 v6 x7 x8) (1 : Nat)).2) _
              exact pEnd_sound good (L := F25_L) (D := F25_D) (its := [.g, (.c (.bool y9) h), .g, .g, (.w .g), (.w .g), (.w .g), (.w .g), (.w .g), (.w .g), (.w (.p true)), (.p false), .g, (.w .g), (.w .g), (.w .g), .n, .n, .n, .n, .n, .n, (.w (.p false)), (.p false), .g, (.w .g), (.w .g), .g, .g, (.w .g), (.w .g), (.p false), (.b false)]) (ds := F25_m1_1) (ks := []) (e := ((F25_x1 h x1 x2 x3 v4 v5 v6 x7 x8) (1 : Nat)).1) (s2 := ((F25_x1 h x1 x2 x3 v4 v5 v6 x7 x8) (1 : Nat)).2) (hC := (ai c20 kc20)) (hd := F25_d1) (h := by kernel_rfl)
    · have kc21 := (ai (g_ff l_f) (ai (g_ff l_f) (ai (g_ff l_f) (ai c11 (ai c12 (ai (g_ff c11) (ai (g_ft c12) (ai (g_ft c12) kc12))))))))
      refine dec_bif (fun c21 => ?_) (fun c21 => ?_)
      · have kc22 := (ai (g_tt c21) (ai (g_tt c21) (ai (g_tt c21) kc21)))
        refine dec_bif (fun c22 => ?_) (fun c22 => ?_)
        · intro hr
          obtain rfl := Option.some.inj hr
          show AWp Try.prog _ (Ends1 ((F25_x1 h x1 x2 x3 v4 v5 v6 x7 x8) (0 : Nat)).1 ((F25_x1 h x1 x2 x3 v4 v5 v6 x7 x8) (0 : Nat)).2) _
          exact pEnd_sound good (L := F25_L) (D := F25_D) (its := [.g, (.c (.bool y9) h), .g, .g, (.w .g), (.w .g), (.w .g), (.w .g), .n, .n, (.w (.p false)), (.p false), .g, (.w .g), (.w .g), (.w .g), (.w .g), (.w .g), (.w .g), .n, .n, (.w (.p true)), (.w (.p true)), .g, .g, .n, .n, .g, .g, .n, .n, .g, (.b true), .g, .g, .g]) (ds := F25_m1_0) (ks := [3]) (e := ((F25_x1 h x1 x2 x3 v4 v5 v6 x7 x8) (0 : Nat)).1) (s2 := ((F25_x1 h x1 x2 x3 v4 v5 v6 x7 x8) (0 : Nat)).2) (hC := (ai l_t (ai (g_tf l_t) (ai (g_tf l_t) (ai (g_tf l_t) (ai (g_tf l_t) (ai c21 (ai (g_ff l_f) (ai c22 (ai (g_tt c21) (ai (g_tf c22) (ai (g_tf c22) kc22)))))))))))) (hd := F25_d1) (h := by kernel_rfl)
        · have kc23 := (ai c21 (ai (g_ff l_f) (ai c22 (ai (g_tt c21) (ai (g_ff c22) (ai (g_ff c22) kc22))))))
          refine dec_bif (fun c23 => ?_) (fun c23 => ?_)
          · intro hr
            obtain rfl := Option.some.inj hr
            show AWp Try.prog _ (Ends1 ((F25_x1 h x1 x2 x3 v4 v5 v6 x7 x8) (0 : Nat)).1 ((F25_x1 h x1 x2 x3 v4 v5 v6 x7 x8) (0 : Nat)).2) _
            exact pEnd_sound good (L := F25_L) (D := F25_D) (its := [.g, (.c (.bool y9) h), .g, .g, (.w .g), (.w .g), (.w .g), (.w .g), .n, .n, (.w (.p false)), (.p false), .g, (.w .g), (.w .g), (.w .g), (.w .g), (.w .g), (.w .g), (.w .g), (.w .g), (.w (.p false)), (.w (.p true)), .g, .g, .n, .n, (.p true), .g, .n, .n, .g, (.b true), .g, .g, .g]) (ds := F25_m1_0) (ks := [3]) (e := ((F25_x1 h x1 x2 x3 v4 v5 v6 x7 x8) (0 : Nat)).1) (s2 := ((F25_x1 h x1 x2 x3 v4 v5 v6 x7 x8) (0 : Nat)).2) (hC := (ai l_t (ai (g_tf l_t) (ai (g_tf l_t) (ai c23 (ai (g_tf c23) (ai (g_tf c23) kc23))))))) (hd := F25_d1) (h := by kernel_rfl)
          · have kc24 := (ai c23 (ai (g_ff c23) (ai (g_ff c23) kc23)))
            refine dec_bif (fun c24 => ?_) (fun c24 => ?_)
            · intro hr
              obtain rfl := Option.some.inj hr
              show AWp Try.prog _ (Ends1 ((F25_x1 h x1 x2 x3 v4 v5 v6 x7 x8) (0 : Nat)).1 ((F25_x1 h x1 x2 x3 v4 v5 v6 x7 x8) (0 : Nat)).2) _
              exact pEnd_sound good (L := F25_L) (D := F25_D) (its := [.g, (.c (.bool y9) h), .g, .g, (.w .g), (.w .g), (.w .g), (.w .g), .n, .n, (.w (.p false)), (.p false), .g, (.w .g), (.w .g), (.w .g), (.w .g), (.w .g), (.w .g), (.w .g), (.w .g), (.w (.p false)), (.w (.p true)), .g, .g, (.w .g), (.w .g), (.p false), .g, .n, .n, (.p true), (.b true), .g, .g, .g]) (ds := F25_m1_0) (ks := [3]) (e := ((F25_x1 h x1 x2 x3 v4 v5 v6 x7 x8) (0 : Nat)).1) (s2 := ((F25_x1 h x1 x2 x3 v4 v5 v6 x7 x8) (0 : Nat)).2) (hC := (ai l_t (ai c24 (ai (g_tf c24) (ai (g_tf c24) kc24))))) (hd := F25_d1) (h := by kernel_rfl)
            · have kc25 := (ai c24 (ai (g_ff c24) (ai (g_ff c24) kc24)))
              refine dec_bif (fun c25 => ?_) (fun c25 => ?_)
              · intro hr
                obtain rfl := Option.some.inj hr
                show AWp Try.prog _ (Ends1 ((F25_x1 h x1 x2 x3 v4 v5 v6 x7 x8) (0 : Nat)).1 ((F25_x1 h x1 x2 x3 v4 v5 v6 x7 x8) (0 : Nat)).2) _
                exact pEnd_sound good (L := F25_L) (D := F25_D) (its := [.g, (.c (.bool y9) h), .g, .g, (.w .g), (.w .g), (.w .g), (.w .g), .n, .n, (.w (.p false)), (.p false), .g, (.w .g), (.w .g), (.w .g), (.w .g), (.w .g), (.w .g), (.w .g), (.w .g), (.w (.p false)), (.w (.p true)), .g, .g, (.w .g), (.w .g), (.p false), .g, (.w .g), (.w .g), (.p false), (.b true), .g, .g, .g]) (ds := F25_m1_0) (ks := [3]) (e := ((F25_x1 h x1 x2 x3 v4 v5 v6 x7 x8) (0 : Nat)).1) (s2 := ((F25_x1 h x1 x2 x3 v4 v5 v6 x7 x8) (0 : Nat)).2) (hC := (ai c25 kc25)) (hd := F25_d1) (h := by kernel_rfl)
              · intro hr
                obtain rfl := Option.some.inj hr
                show AWp Try.prog _ (Ends1 ((F25_x1 h x1 x2 x3 v4 v5 v6 x7 x8) (1 : Nat)).1 ((F25_x1 h x1 x2 x3 v4 v5 v6 x7 x8) (1 : Nat)).2) _
                exact pEnd_sound good (L := F25_L) (D := F25_D) (its := [.g, (.c (.bool y9) h), .g, .g, (.w .g), (.w .g), (.w .g), (.w .g), .n, .n, (.w (.p false)), (.p false), .g, (.w .g), (.w .g), (.w .g), (.w .g), (.w .g), (.w .g), (.w .g), (.w .g), (.w (.p false)), (.w (.p true)), .g, .g, (.w .g), (.w .g), (.p false), .g, (.w .g), (.w .g), (.p false), (.b false)]) (ds := F25_m1_1) (ks := []) (e := ((F25_x1 h x1 x2 x3 v4 v5 v6 x7 x8) (1 : Nat)).1) (s2 := ((F25_x1 h x1 x2 x3 v4 v5 v6 x7 x8) (1 : Nat)).2) (hC := (ai c25 kc25)) (hd := F25_d1) (h := by kernel_rfl)
      · have kc26 := (ai (g_ff l_f) (ai (g_ff l_f) (ai c21 (ai (g_ff l_f) (ai (g_ft c21) (ai l_f (ai l_f (ai (g_ft c21) (ai (g_ft c21) (ai (g_ft c21) kc21))))))))))
        refine dec_bif (fun c26 => ?_) (fun c26 => ?_)
        · intro hr
          obtain rfl := Option.some.inj hr
          show AWp Try.prog _ (Ends1 ((F25_x1 h x1 x2 x3 v4 v5 v6 x7 x8) (0 : Nat)).1 ((F25_x1 h x1 x2 x3 v4 v5 v6 x7 x8) (0 : Nat)).2) _
          exact pEnd_sound good (L := F25_L) (D := F25_D) (its := [.g, (.c (.bool y9) h), .g, .g, (.w .g), (.w .g), (.w .g), (.w .g), .n, .n, (.w (.p false)), (.p false), .g, (.w .g), (.w .g), (.w .g), .n, .n, .n, .n, .n, .n, (.w (.p false)), .g, .g, (.w .g), (.w .g), .g, .g, .n, .n, (.p true), (.b true), .g, .g, .g]) (ds := F25_m1_0) (ks := [3]) (e := ((F25_x1 h x1 x2 x3 v4 v5 v6 x7 x8) (0 : Nat)).1) (s2 := ((F25_x1 h x1 x2 x3 v4 v5 v6 x7 x8) (0 : Nat)).2) (hC := (ai l_t (ai c26 (ai (g_tf c26) (ai (g_tf c26) kc26))))) (hd := F25_d1) (h := by kernel_rfl)
        · have kc27 := (ai c26 (ai (g_ff c26) (ai (g_ff c26) kc26)))
          refine dec_bif (fun c27 => ?_) (fun c27 => ?_)
          · intro hr
            obtain rfl := Option.some.inj hr
            show AWp Try.prog _ (Ends1 ((F25_x1 h x1 x2 x3 v4 v5 v6 x7 x8) (0 : Nat)).1 ((F25_x1 h x1 x2 x3 v4 v5 v6 x7 x8) (0 : Nat)).2) _
            exact pEnd_sound good (L := F25_L) (D := F25_D) (its := [.g, (.c (.bool y9) h), .g, .g, (.w .g), (.w .g), (.w .g), (.w .g), .n, .n, (.w (.p false)), (.p false), .g, (.w .g), (.w .g), (.w .g), .n, .n, .n, .n, .n, .n, (.w (.p false)), .g, .g, (.w .g), (.w .g), .g, .g, (.w .g), (.w .g), (.p false), (.b true), .g, .g, .g]) (ds := F25_m1_0) (ks := [3]) (e := ((F25_x1 h x1 x2 x3 v4 v5 v6 x7 x8) (0 : Nat)).1) (s2 := ((F25_x1 h x1 x2 x3 v4 v5 v6 x7 x8) (0 : Nat)).2) (hC := (ai c27 kc27)) (hd := F25_d1) (h := by kernel_rfl)
          · intro hr
            obtain rfl := Option.some.inj hr
            show AWp Try.prog _ (Ends1 ((F25_x1 h x1 x2 x3 v4 v5 v6 x7 x8) (1 : Nat)).1 ((F25_x1 h x1 x2 x3 v4 v5 v6 x7 x8) (1 : Nat)).2) _
            exact pEnd_sound good (L := F25_L) (D := F25_D) (its := [.g, (.c (.bool y9) h), .g, .g, (.w .g), (.w .g), (.w .g), (.w .g), .n, .n, (.w (.p false)), (.p false), .g, (.w .g), (.w .g), (.w .g), .n, .n, .n, .n, .n, .n, (.w (.p false)), .g, .g, (.w .g), (.w .g), .g, .g, (.w .g), (.w .g), (.p false), (.b false)]) (ds := F25_m1_1) (ks := []) (e := ((F25_x1 h x1 x2 x3 v4 v5 v6 x7 x8) (1 : Nat)).1) (s2 := ((F25_x1 h x1 x2 x3 v4 v5 v6 x7 x8) (1 : Nat)).2) (hC := (ai c27 kc27)) (hd := F25_d1) (h := by kernel_rfl)
theorem F25_l1_0 (h : AHeap) (x1 : Int) (x2 : Int) (x3 : Bool) (l4 : List (Int × Int × Int × Int)) (v4 : Hd) (hv4 : SlE E57 4 h (sv v4) l4) (l5 : List (Int × Int × Int × Int)) (v5 : Hd) (hv5 : SlE E59 4 h (sv v5) l5) (l6 : List (Int × Int)) (v6 : Hd) (hv6 : SlE E61 2 h (sv v6) l6) (x7 : Int) (x8 : Int) (r : Nat) (hl : F25_s1 x1 x2 x3 l4 l5 l6 x7 x8 = some r) (q0 : Nat.beq r 0 = true) : AWp Try.prog (codeOf Try.prog 25 [1, 0]) (Ends1 .ret (F25_x1_0 h x1 x2 x3 v4 v5 v6 x7 x8 r)) (F25_h1 h x1 x2 x3 v4 v5 v6 x7 x8) := by
  have k := F25_r1 h x1 x2 x3 l4 v4 hv4 l5 v5 hv5 l6 v6 hv6 x7 x8 r hl
  simp only [F25_x1, q0, cond_true, cond_false] at k
  exact k
theorem F25_l1_1 (h : AHeap) (x1 : Int) (x2 : Int) (x3 : Bool) (l4 : List (Int × Int × Int × Int)) (v4 : Hd) (hv4 : SlE E57 4 h (sv v4) l4) (l5 : List (Int × Int × Int × Int)) (v5 : Hd) (hv5 : SlE E59 4 h (sv v5) l5) (l6 : List (Int × Int)) (v6 : Hd) (hv6 : SlE E61 2 h (sv v6) l6) (x7 : Int) (x8 : Int) (r : Nat) (hl : F25_s1 x1 x2 x3 l4 l5 l6 x7 x8 = some r) (q0 : Nat.beq r 0 = false) : AWp Try.prog (codeOf Try.prog 25 [1, 0]) (Ends1 .normal (F25_x1_1 h x1 x2 x3 v4 v5 v6 x7 x8 r)) (F25_h1 h x1 x2 x3 v4 v5 v6 x7 x8) := by
  have k := F25_r1 h x1 x2 x3 l4 v4 hv4 l5 v5 hv5 l6 v6 hv6 x7 x8 r hl
  simp only [F25_x1, q0, cond_true, cond_false] at k
  exact k
def F25_m2_2 : List Bool := (true :: false :: true :: false :: true :: true :: false :: true :: true :: false :: true :: false :: (rp 78 true []))
def F25_m2_1 : List Bool := (true :: false :: false :: false :: true :: true :: false :: true :: true :: false :: true :: false :: (rp 48 true (false :: false :: false :: (rp 27 true []))))
def F25_m2_0 : List Bool := (rp 6 true (false :: false :: false :: (rp 81 true [])))
def F25_s2 (x1 : Int) (x2 : Int) (x3 : Bool) (l4 : List (Int × Int × Int × Int)) (l5 : List (Int × Int × Int × Int)) (l6 : List (Int × Int)) (x8 : Int) (y31 : (List Int) × (List Int)) (a39 : Int) (l40 : List Int) : Option ((Int × (List Int)) ⊕ (Nat × (List Int))) :=
  (bif decide (a39 < (y31.1.length : Int)) then
   (Option.bind (at? y31.1 a39) fun y43 =>
   (bif decide (y43 > x8) then
    some (.inr (0, []))
   else
    (bif (a39 != (F49 x1 x2 x3 l4 l5 l6)) then
     (Option.bind (at? l40 a39) fun y47 =>
     some (.inl ((IntKind.i64.wrap (a39 + 1)), (setI l40 a39 x8))))
    else
     some (.inl ((IntKind.i64.wrap (a39 + 1)), l40)))))
  else
   some (.inr (1, l40)))
def F25_h2 (x1 : Int) (x2 : Int) (x3 : Bool) (l4 : List (Int × Int × Int × Int)) (v4 : Hd) (l5 : List (Int × Int × Int × Int)) (v5 : Hd) (l6 : List (Int × Int)) (v6 : Hd) (x7 : Int) (x8 : Int) (y31 : (List Int) × (List Int)) (u32_0 : Hd) (v37 : Hd) (h41 : AHeap) (a39 : Int) (l40 : List Int) : AS := ⟨(junk :: (.int .i64 x7) :: (.int .i64 x8) :: (.pointer (some ⟨3, 0, none⟩)) :: junk :: junk :: (sv u32_0) :: junk :: junk :: (.int .i64 (F42 x1 x2 x3 l4 l5 l6)) :: junk :: (sv v37) :: (rp 48 junk ((sv u32_0) :: (.int .i64 (y31.1.length : Int)) :: (.int .i64 a39) :: (rp 27 junk [])))), [(3, [.int .i64 x1, .int .i64 x2, .bool x3, (sv v4), (sv v5), (sv v6)])], h41⟩
theorem F25_d2 : drawsOk F25_D (codeOf Try.prog 25 [1, 1, 1, 1, 1, 1, 0, 1, 0, 0]) = true := by kernel_rfl
def F25_x2_0 (h : AHeap) (x1 : Int) (x2 : Int) (x3 : Bool) (l4 : List (Int × Int × Int × Int)) (v4 : Hd) (l5 : List (Int × Int × Int × Int)) (v5 : Hd) (l6 : List (Int × Int)) (v6 : Hd) (x7 : Int) (y31 : (List Int) × (List Int)) (u32_0 : Hd) (v37 : Hd) (hx : AHeap) (r : Nat × (List Int)) : AS := ⟨(rp 6 junk ((.slice none 0 0) :: (.slice none 0 0) :: (.int .i64 14) :: (rp 81 junk []))), [], hx⟩
def F25_x2_1 (h : AHeap) (x1 : Int) (x2 : Int) (x3 : Bool) (l4 : List (Int × Int × Int × Int)) (v4 : Hd) (l5 : List (Int × Int × Int × Int)) (v5 : Hd) (l6 : List (Int × Int)) (v6 : Hd) (x7 : Int) (y31 : (List Int) × (List Int)) (u32_0 : Hd) (v37 : Hd) (hx : AHeap) (r : Nat × (List Int)) : AS := ⟨(junk :: (.int .i64 x7) :: junk :: (.pointer (some ⟨3, 0, none⟩)) :: junk :: junk :: (sv u32_0) :: junk :: junk :: (.int .i64 (F42 x1 x2 x3 l4 l5 l6)) :: junk :: (sv v37) :: (rp 78 junk [])), [(3, [.int .i64 x1, .int .i64 x2, .bool x3, (sv v4), (sv v5), (sv v6)])], hx⟩
def F25_i2 (h : AHeap) (x1 : Int) (x2 : Int) (x3 : Bool) (l4 : List (Int × Int × Int × Int)) (v4 : Hd) (l5 : List (Int × Int × Int × Int)) (v5 : Hd) (l6 : List (Int × Int)) (v6 : Hd) (x7 : Int) (x8 : Int) (y31 : (List Int) × (List Int)) (u32_0 : Hd) (v37 : Hd) (s : Int × (List Int)) (S : AS) : Prop := ∃ (h41 : AHeap), Heapy h h41 [⟨u32_0, 3, 1, List.flatMap enc3 y31.1⟩, ⟨v37, 3, 1, List.flatMap enc3 s.2⟩] ∧ S = (F25_h2 x1 x2 x3 l4 v4 l5 v5 l6 v6 x7 x8 y31 u32_0 v37 h41 s.1 s.2)
def F25_x2 (h : AHeap) (x1 : Int) (x2 : Int) (x3 : Bool) (l4 : List (Int × Int × Int × Int)) (v4 : Hd) (l5 : List (Int × Int × Int × Int)) (v5 : Hd) (l6 : List (Int × Int)) (v6 : Hd) (x7 : Int) (y31 : (List Int) × (List Int)) (u32_0 : Hd) (v37 : Hd) (r : Nat × (List Int)) (e : Exit) (S : AS) : Prop := (bif Nat.beq r.1 0 then (e = .ret ∧ ∃ (hx : AHeap), Heapy h hx [] ∧ S = (F25_x2_0 h x1 x2 x3 l4 v4 l5 v5 l6 v6 x7 y31 u32_0 v37 hx r)) else (e = (.exit 0) ∧ ∃ (hx : AHeap), Heapy h hx [⟨u32_0, 3, 1, List.flatMap enc3 y31.1⟩, ⟨v37, 3, 1, List.flatMap enc3 r.2⟩] ∧ S = (F25_x2_1 h x1 x2 x3 l4 v4 l5 v5 l6 v6 x7 y31 u32_0 v37 hx r)))
set_option maxRecDepth 100000 in
theorem F25_r2 (h : AHeap) (x1 : Int) (x2 : Int) (x3 : Bool) (l4 : List (Int × Int × Int × Int)) (v4 : Hd) (hv4 : SlE E57 4 h (sv v4) l4) (l5 : List (Int × Int × Int × Int)) (v5 : Hd) (hv5 : SlE E59 4 h (sv v5) l5) (l6 : List (Int × Int)) (v6 : Hd) (hv6 : SlE E61 2 h (sv v6) l6) (x7 : Int) (x8 : Int) (y31 : (List Int) × (List Int)) (u32_0 : Hd) (v37 : Hd) (a39 : Int) (l40 : List Int) (S : AS) (hI : (F25_i2 h x1 x2 x3 l4 v4 l5 v5 l6 v6 x7 x8 y31 u32_0 v37) (a39, l40) S) (o : (Int × (List Int)) ⊕ (Nat × (List Int))) : F25_s2 x1 x2 x3 l4 l5 l6 x8 y31 a39 l40 = some o → Rd Try.prog (codeOf Try.prog 25 [1, 1, 1, 1, 1, 1, 0, 1, 0, 0]) (F25_i2 h x1 x2 x3 l4 v4 l5 v5 l6 v6 x7 x8 y31 u32_0 v37) (F25_x2 h x1 x2 x3 l4 v4 l5 v5 l6 v6 x7 y31 u32_0 v37) S o := by
  obtain ⟨h41, hp41, rfl⟩ := hI
  unfold F25_s2
  refine dec_bif (fun c42 => ?_) (fun c42 => ?_)
  · refine bind_opt fun y43 e43 => ?_
    obtain ⟨id43, off43, g43, cs43, ix43, at43, rfl⟩ := SlE.at (Heapy.sle (v := u32_0) (xs := y31.1) (enc := enc3) hp41 0 rfl (fun _ => rfl) (by decide)) e43
    have kc44 := (ai (At.one (P := Try.prog) (t := 3) (v := .int .i64 y43) at43 (by kernel_rfl) 0 rfl rfl) (ai ix43 (ai c42 trivial)))
    refine dec_bif (fun c44 => ?_) (fun c44 => ?_)
    · intro hr
      obtain rfl := Option.some.inj hr
      refine ⟨.ret, (F25_x2_0 h x1 x2 x3 l4 v4 l5 v5 l6 v6 x7 y31 u32_0 v37 h41 ((0, []) : Nat × (List Int))), (by intro hh; cases hh), ?_, pEnd_sound good (L := F25_L) (D := F25_D) (its := [.g, (.b true), .g, (.ix id43 off43 g43), (.ld (.int .i64 y43)), .g, .g, .g, .g, .g, (.b true), .g, .g, .g]) (ds := F25_m2_0) (ks := [3]) (e := .ret) (s2 := (F25_x2_0 h x1 x2 x3 l4 v4 l5 v5 l6 v6 x7 y31 u32_0 v37 h41 ((0, []) : Nat × (List Int)))) (hC := (ai c44 kc44)) (hd := F25_d2) (h := by kernel_rfl)⟩
      exact ⟨rfl, h41, (Heapy.pick hp41 [] (by decide)), rfl⟩
    · have kc46 := (ai (F49_spec x1 x2 x3 l4 l5 l6 v4 v5 v6 h41 (SlE.mono hv4 (Heapy.sub hp41) (E57_mono (Heapy.sub hp41))) (SlE.mono hv5 (Heapy.sub hp41) (E59_mono (Heapy.sub hp41))) (SlE.mono hv6 (Heapy.sub hp41) (E61_mono (Heapy.sub hp41))) _ rfl) (ai c44 kc44))
      refine dec_bif (fun c46 => ?_) (fun c46 => ?_)
      · refine bind_opt fun y47 e47 => ?_
        obtain ⟨id47, off47, g47, cs47, ix47, at47, rfl⟩ := SlE.at (Heapy.sle (v := v37) (xs := l40) (enc := enc3) hp41 1 rfl (fun _ => rfl) (by decide)) e47
        obtain ⟨h48, m48, hp48⟩ := Heapy.store (P := Try.prog) hp41 1 (v := v37) (xs := l40) (enc := enc3) rfl (fun _ => rfl) e47 (y' := x8) ix47 (t := 3) (x := .int .i64 x8) 0 (vs := [.int .i64 x8]) rfl (by kernel_rfl) rfl rfl rfl rfl
        intro hr
        obtain rfl := Option.some.inj hr
        exact ⟨(F25_h2 x1 x2 x3 l4 v4 l5 v5 l6 v6 x7 x8 y31 u32_0 v37 h48 (IntKind.i64.wrap (a39 + 1)) (setI l40 a39 x8)), ⟨h48, (Heapy.pick hp48 [0, 1] (by decide)), rfl⟩, pEnd_sound good (L := F25_L) (D := F25_D) (its := [.g, (.b true), .g, (.ix id43 off43 g43), (.ld (.int .i64 y43)), .g, .g, .g, .g, .g, (.b false), .g, .g, (.c (.int .i64 (F49 x1 x2 x3 l4 l5 l6)) h41), .g, (.b true), .g, .g, .g, (.ix id47 off47 g47), (.mm undef h48), .g, .g]) (ds := F25_m2_1) (ks := []) (e := .normal) (s2 := (F25_h2 x1 x2 x3 l4 v4 l5 v5 l6 v6 x7 x8 y31 u32_0 v37 h48 (IntKind.i64.wrap (a39 + 1)) (setI l40 a39 x8))) (hC := (ai m48 (ai ix47 (ai c46 kc46)))) (hd := F25_d2) (h := by kernel_rfl)⟩
      · intro hr
        obtain rfl := Option.some.inj hr
        exact ⟨(F25_h2 x1 x2 x3 l4 v4 l5 v5 l6 v6 x7 x8 y31 u32_0 v37 h41 (IntKind.i64.wrap (a39 + 1)) l40), ⟨h41, (Heapy.pick hp41 [0, 1] (by decide)), rfl⟩, pEnd_sound good (L := F25_L) (D := F25_D) (its := [.g, (.b true), .g, (.ix id43 off43 g43), (.ld (.int .i64 y43)), .g, .g, .g, .g, .g, (.b false), .g, .g, (.c (.int .i64 (F49 x1 x2 x3 l4 l5 l6)) h41), .g, (.b false), .g, .g]) (ds := F25_m2_1) (ks := []) (e := .normal) (s2 := (F25_h2 x1 x2 x3 l4 v4 l5 v5 l6 v6 x7 x8 y31 u32_0 v37 h41 (IntKind.i64.wrap (a39 + 1)) l40)) (hC := (ai c46 kc46)) (hd := F25_d2) (h := by kernel_rfl)⟩
  · intro hr
    obtain rfl := Option.some.inj hr
    refine ⟨(.exit 0), (F25_x2_1 h x1 x2 x3 l4 v4 l5 v5 l6 v6 x7 y31 u32_0 v37 h41 ((1, l40) : Nat × (List Int))), (by intro hh; cases hh), ?_, pEnd_sound good (L := F25_L) (D := F25_D) (its := [.g, (.b false)]) (ds := F25_m2_2) (ks := []) (e := (.exit 0)) (s2 := (F25_x2_1 h x1 x2 x3 l4 v4 l5 v5 l6 v6 x7 y31 u32_0 v37 h41 ((1, l40) : Nat × (List Int)))) (hC := (ai c42 trivial)) (hd := F25_d2) (h := by kernel_rfl)⟩
    exact ⟨rfl, h41, (Heapy.pick hp41 [0, 1] (by decide)), rfl⟩
theorem F25_l2 (h : AHeap) (x1 : Int) (x2 : Int) (x3 : Bool) (l4 : List (Int × Int × Int × Int)) (v4 : Hd) (hv4 : SlE E57 4 h (sv v4) l4) (l5 : List (Int × Int × Int × Int)) (v5 : Hd) (hv5 : SlE E59 4 h (sv v5) l5) (l6 : List (Int × Int)) (v6 : Hd) (hv6 : SlE E61 2 h (sv v6) l6) (x7 : Int) (x8 : Int) (y31 : (List Int) × (List Int)) (u32_0 : Hd) (v37 : Hd) (x : Int × (List Int)) (r : Nat × (List Int)) (hl : loopO (fun (s : Int × (List Int)) => F25_s2 x1 x2 x3 l4 l5 l6 x8 y31 s.1 s.2) x = some r) (S : AS) (hI : (F25_i2 h x1 x2 x3 l4 v4 l5 v5 l6 v6 x7 x8 y31 u32_0 v37) x S) : ∃ e S', (F25_x2 h x1 x2 x3 l4 v4 l5 v5 l6 v6 x7 y31 u32_0 v37) r e S' ∧ AWp Try.prog (.loop (codeOf Try.prog 25 [1, 1, 1, 1, 1, 1, 0, 1, 0, 0])) (Ends1 e S') S :=
  loop_rel (fun x S hI => F25_r2 h x1 x2 x3 l4 v4 hv4 l5 v5 hv5 l6 v6 hv6 x7 x8 y31 u32_0 v37 x.1 x.2 S hI) hl hI
def F25 (x1 : Int) (x2 : Int) (x3 : Bool) (l4 : List (Int × Int × Int × Int)) (l5 : List (Int × Int × Int × Int)) (l6 : List (Int × Int)) (x7 : Int) (x8 : Int) : Option ((List Int) × (List Int) × Int) :=
  (Option.bind (F25_s1 x1 x2 x3 l4 l5 l6 x7 x8) fun y28 =>
  (bif (Nat.beq y28 0) then
   some ([], [], 3)
  else
   (Option.bind (F47 (F42 x1 x2 x3 l4 l5 l6) l4 x7) fun y31 =>
   (bif (!y31.2.isEmpty) then
    some ([], [], 14)
   else
    (bif (!(okLen (F42 x1 x2 x3 l4 l5 l6) (F42 x1 x2 x3 l4 l5 l6) 8)) then none else
    (Option.bind (loopO (fun (s : Int × (List Int)) => F25_s2 x1 x2 x3 l4 l5 l6 x8 y31 s.1 s.2) (0, (List.replicate (F42 x1 x2 x3 l4 l5 l6).toNat (0 : Int)))) fun y49 =>
    (bif (Nat.beq y49.1 0) then
     some ([], [], 14)
    else
     (Option.bind (F50 (F42 x1 x2 x3 l4 l5 l6) l4 x7 y49.2) fun y53 =>
     some (y31.1, y53.1, 0)))))))))
set_option maxRecDepth 100000 in
theorem F25_spec (x1 : Int) (x2 : Int) (x3 : Bool) (l4 : List (Int × Int × Int × Int)) (l5 : List (Int × Int × Int × Int)) (l6 : List (Int × Int)) (x7 : Int) (x8 : Int) (v4 : Hd) (v5 : Hd) (v6 : Hd) (h : AHeap) (hw : h.wf) (hv4 : SlE E57 4 h (sv v4) l4) (hv5 : SlE E59 4 h (sv v5) l5) (hv6 : SlE E61 2 h (sv v6) l6) (r : (List Int) × (List Int) × Int) : F25 x1 x2 x3 l4 l5 l6 x7 x8 = some r → ∃ (ur0 : Hd) (ur1 : Hd) (h' : AHeap), Heapy h h' [⟨ur0, 3, 1, List.flatMap enc3 r.1⟩, ⟨ur1, 3, 1, List.flatMap enc3 r.2.1⟩] ∧ ACalls Try.prog 25 [.agg #[.int .i64 x1, .int .i64 x2, .bool x3, (sv v4), (sv v5), (sv v6)], .int .i64 x7, .int .i64 x8] h (fun v' h'' => v' = (.tuple #[(sv ur0), (sv ur1), .int .i64 r.2.2] : Value) ∧ h'' = h') := by
  unfold F25
  refine bind_opt fun y28 e28 => ?_
  refine dec_bif (fun c29 => ?_) (fun c29 => ?_)
  · intro hr
    obtain rfl := Option.some.inj hr
    exact ⟨⟨none, 0, 0⟩, ⟨none, 0, 0⟩, h, Heapy.pick (Heapy.nil (Heapy.nil (Heapy.refl hw) 3 1) 3 1) [1, 0] (by decide), pFun_sound good tab_ok (f := 25) (its := [.g, .g, .g, .g, (.j F25_m1_1 [] .ret (F25_x1_0 h x1 x2 x3 v4 v5 v6 x7 x8 y28))]) (args := [.agg #[.int .i64 x1, .int .i64 x2, .bool x3, (sv v4), (sv v5), (sv v6)], .int .i64 x7, .int .i64 x8]) (h := h) (h' := h) (v := .tuple #[.slice none 0 0, .slice none 0 0, .int .i64 3]) (hC := (ai (F25_l1_0 h x1 x2 x3 l4 v4 hv4 l5 v5 hv5 l6 v6 hv6 x7 x8 y28 e28 c29) trivial)) (hr := by kernel_rfl)⟩
  · refine bind_opt fun y31 e31 => ?_
    obtain ⟨u32_0, u32_1, h32, q32, zu32_1, c32⟩ := F47_spec (F42 x1 x2 x3 l4 l5 l6) l4 x7 v4 h hw hv4 _ e31
    have hp32 : Heapy h h32 [⟨u32_0, 3, 1, List.flatMap enc3 y31.1⟩, ⟨u32_1, 3, 1, List.flatMap enc3 y31.2⟩] := Heapy.call (Heapy.refl hw) q32
    have kc35 := (ai (Heapy.nilE (v := u32_1) (xs := y31.2) (enc := enc3) hp32 1 rfl (fun _ => rfl) (by decide) zu32_1) (ai c32 (ai (F42_spec x1 x2 x3 l4 l5 l6 v4 v5 v6 h hv4 hv5 hv6 _ rfl) (ai (F25_l1_1 h x1 x2 x3 l4 v4 hv4 l5 v5 hv5 l6 v6 hv6 x7 x8 y28 e28 c29) trivial))))
    refine dec_bif (fun c35 => ?_) (fun c35 => ?_)
    · intro hr
      obtain rfl := Option.some.inj hr
      exact ⟨⟨none, 0, 0⟩, ⟨none, 0, 0⟩, h32, Heapy.pick (Heapy.nil (Heapy.nil hp32 3 1) 3 1) [1, 0] (by decide), pFun_sound good tab_ok (f := 25) (its := [.g, .g, .g, .g, (.j F25_m1_1 [] .normal (F25_x1_1 h x1 x2 x3 v4 v5 v6 x7 x8 y28)), .g, (.c (.int .i64 (F42 x1 x2 x3 l4 l5 l6)) h), .g, .g, .g, .g, .g, (.c (.tuple #[(sv u32_0), (sv u32_1)]) h32), .g, .g, .g, .g, .g, .g, (.nl y31.2.isEmpty), (.b true), .g, .g, .g]) (args := [.agg #[.int .i64 x1, .int .i64 x2, .bool x3, (sv v4), (sv v5), (sv v6)], .int .i64 x7, .int .i64 x8]) (h := h) (h' := h32) (v := .tuple #[.slice none 0 0, .slice none 0 0, .int .i64 14]) (hC := (ai c35 kc35)) (hr := by kernel_rfl)⟩
    · refine guard_ok fun g36 => ?_
      obtain ⟨v37, h37, m37, hp37, _⟩ := Heapy.make hp32 (show mkInfo Try.prog 29 = some (3, 1, 8, [.int .i64 0]) by kernel_rfl) (a := (F42 x1 x2 x3 l4 l5 l6)) (b := (F42 x1 x2 x3 l4 l5 l6)) (by simpa using g36) (enc := enc3) (x := 0) rfl rfl
      refine bind_opt fun y49 e49 => ?_
      obtain ⟨ee49, SS49, hX49, hA49⟩ := F25_l2 h x1 x2 x3 l4 v4 hv4 l5 v5 hv5 l6 v6 hv6 x7 x8 y31 u32_0 v37 (0, (List.replicate (F42 x1 x2 x3 l4 l5 l6).toNat (0 : Int))) y49 e49 (F25_h2 x1 x2 x3 l4 v4 l5 v5 l6 v6 x7 x8 y31 u32_0 v37 h37 0 (List.replicate (F42 x1 x2 x3 l4 l5 l6).toNat (0 : Int))) ⟨h37, (Heapy.pick hp37 [1, 0] (by decide)), rfl⟩
      have kc50 := (ai (SlE.len (Heapy.sle (v := u32_0) (xs := y31.1) (enc := enc3) hp37 1 rfl (fun _ => rfl) (by decide))) (ai m37 (ai c35 kc35)))
      refine dec_bif (fun c50 => ?_) (fun c50 => ?_)
      · simp only [F25_x2, c50, cond_true, cond_false] at hX49
        obtain ⟨rfl, h51, hp51, rfl⟩ := hX49
        intro hr
        obtain rfl := Option.some.inj hr
        exact ⟨⟨none, 0, 0⟩, ⟨none, 0, 0⟩, h51, Heapy.pick (Heapy.nil (Heapy.nil hp51 3 1) 3 1) [1, 0] (by decide), pFun_sound good tab_ok (f := 25) (its := [.g, .g, .g, .g, (.j F25_m1_1 [] .normal (F25_x1_1 h x1 x2 x3 v4 v5 v6 x7 x8 y28)), .g, (.c (.int .i64 (F42 x1 x2 x3 l4 l5 l6)) h), .g, .g, .g, .g, .g, (.c (.tuple #[(sv u32_0), (sv u32_1)]) h32), .g, .g, .g, .g, .g, .g, (.nl y31.2.isEmpty), (.b false), .g, (.mm (sv v37) h37), .g, .g, (.ln y31.1.length), .g, (.l F25_m2_1 [] .ret (F25_x2_0 h x1 x2 x3 l4 v4 l5 v5 l6 v6 x7 y31 u32_0 v37 h51 y49))]) (args := [.agg #[.int .i64 x1, .int .i64 x2, .bool x3, (sv v4), (sv v5), (sv v6)], .int .i64 x7, .int .i64 x8]) (h := h) (h' := h51) (v := .tuple #[.slice none 0 0, .slice none 0 0, .int .i64 14]) (hC := (ai hA49 kc50)) (hr := by kernel_rfl)⟩
      · simp only [F25_x2, c50, cond_true, cond_false] at hX49
        obtain ⟨rfl, h52, hp52, rfl⟩ := hX49
        refine bind_opt fun y53 e53 => ?_
        obtain ⟨u54_0, u54_1, h54, q54, zu54_1, c54⟩ := F50_spec (F42 x1 x2 x3 l4 l5 l6) l4 x7 y49.2 v4 v37 h52 (Heapy.wf hp52) (SlE.mono hv4 (Heapy.sub hp52) (E57_mono (Heapy.sub hp52))) (Heapy.sle (v := v37) (xs := y49.2) (enc := enc3) hp52 1 rfl (fun _ => rfl) (by decide)) _ e53
        have hp54 : Heapy h h54 [⟨u54_0, 3, 1, List.flatMap enc3 y53.1⟩, ⟨u54_1, 3, 1, List.flatMap enc3 y53.2⟩, ⟨u32_0, 3, 1, List.flatMap enc3 y31.1⟩, ⟨v37, 3, 1, List.flatMap enc3 y49.2⟩] := Heapy.call hp52 q54
        intro hr
        obtain rfl := Option.some.inj hr
        exact ⟨u32_0, u54_0, h54, Heapy.pick hp54 [2, 0] (by decide), pFun_sound good tab_ok (f := 25) (its := [.g, .g, .g, .g, (.j F25_m1_1 [] .normal (F25_x1_1 h x1 x2 x3 v4 v5 v6 x7 x8 y28)), .g, (.c (.int .i64 (F42 x1 x2 x3 l4 l5 l6)) h), .g, .g, .g, .g, .g, (.c (.tuple #[(sv u32_0), (sv u32_1)]) h32), .g, .g, .g, .g, .g, .g, (.nl y31.2.isEmpty), (.b false), .g, (.mm (sv v37) h37), .g, .g, (.ln y31.1.length), .g, (.l F25_m2_1 [] (.exit 0) (F25_x2_1 h x1 x2 x3 l4 v4 l5 v5 l6 v6 x7 y31 u32_0 v37 h52 y49)), .g, .g, .g, .g, .g, (.c (.tuple #[(sv u54_0), (sv u54_1)]) h54), .g, .g, .g, .g, .g, .g, .g, .g, .g]) (args := [.agg #[.int .i64 x1, .int .i64 x2, .bool x3, (sv v4), (sv v5), (sv v6)], .int .i64 x7, .int .i64 x8]) (h := h) (h' := h54) (v := .tuple #[(sv u32_0), (sv u54_0), .int .i64 0]) (hC := (ai c54 (ai hA49 kc50))) (hr := by kernel_rfl)⟩
/-! 28 jacquard/jacquardref28.Source -/
def F28 (x1 : Int) (x2 : Int) (x3 : Bool) (l4 : List (Int × Int × Int × Int)) (l5 : List (Int × Int × Int × Int)) (l6 : List (Int × Int)) : Int :=
  (IntKind.i64.wrap (x1 + x2))
set_option maxRecDepth 100000 in
theorem F28_spec (x1 : Int) (x2 : Int) (x3 : Bool) (l4 : List (Int × Int × Int × Int)) (l5 : List (Int × Int × Int × Int)) (l6 : List (Int × Int)) (v4 : Hd) (v5 : Hd) (v6 : Hd) (h : AHeap) (hv4 : SlE E57 4 h (sv v4) l4) (hv5 : SlE E59 4 h (sv v5) l5) (hv6 : SlE E61 2 h (sv v6) l6) (r : Int) : F28 x1 x2 x3 l4 l5 l6 = r → ACalls Try.prog 28 [.agg #[.int .i64 x1, .int .i64 x2, .bool x3, (sv v4), (sv v5), (sv v6)]] h (fun v' h'' => v' = (.int .i64 r : Value) ∧ h'' = h) := by
  unfold F28
  intro hr
  subst hr
  exact pFun_sound good tab_ok (f := 28) (its := [.g, .g, .g, .g, .g, .g, .g, .g]) (args := [.agg #[.int .i64 x1, .int .i64 x2, .bool x3, (sv v4), (sv v5), (sv v6)]]) (h := h) (h' := h) (v := .int .i64 (IntKind.i64.wrap (x1 + x2))) (hC := trivial) (hr := by kernel_rfl)
/-! 26 jacquard/jacquardref28.End -/
def F26 (x1 : Int) (x2 : Int) (x3 : Bool) (l4 : List (Int × Int × Int × Int)) (l5 : List (Int × Int × Int × Int)) (l6 : List (Int × Int)) : Int :=
  (IntKind.i64.wrap ((IntKind.i64.wrap (x1 + x2)) + 1))
set_option maxRecDepth 100000 in
theorem F26_spec (x1 : Int) (x2 : Int) (x3 : Bool) (l4 : List (Int × Int × Int × Int)) (l5 : List (Int × Int × Int × Int)) (l6 : List (Int × Int)) (v4 : Hd) (v5 : Hd) (v6 : Hd) (h : AHeap) (hv4 : SlE E57 4 h (sv v4) l4) (hv5 : SlE E59 4 h (sv v5) l5) (hv6 : SlE E61 2 h (sv v6) l6) (r : Int) : F26 x1 x2 x3 l4 l5 l6 = r → ACalls Try.prog 26 [.agg #[.int .i64 x1, .int .i64 x2, .bool x3, (sv v4), (sv v5), (sv v6)]] h (fun v' h'' => v' = (.int .i64 r : Value) ∧ h'' = h) := by
  unfold F26
  intro hr
  subst hr
  exact pFun_sound good tab_ok (f := 26) (its := [.g, .g, .g, .g, .g, .g, .g, .g, .g]) (args := [.agg #[.int .i64 x1, .int .i64 x2, .bool x3, (sv v4), (sv v5), (sv v6)]]) (h := h) (h' := h) (v := .int .i64 (IntKind.i64.wrap ((IntKind.i64.wrap (x1 + x2)) + 1))) (hC := trivial) (hr := by kernel_rfl)
/-! 14 jacquard/jacquardref28.Valid -/
def F14_L : List Nat := [1, 5, 10, 12]
def F14_D : List (Nat × List (Nat × Nat)) := [(19, [(0, 2), (2, 2), (5, 2), (7, 2), (1, 3), (3, 2), (4, 5), (6, 1), (8, 2), (9, 2)]), (32, [(0, 2), (1, 2), (2, 2), (3, 2), (4, 2), (5, 2), (7, 2), (6, 3), (8, 1), (9, 2), (10, 2), (11, 2), (12, 2), (13, 2), (14, 2), (15, 2), (16, 2), (17, 2), (18, 2), (19, 2), (20, 2), (21, 2), (22, 2), (23, 2), (24, 2), (25, 2), (26, 2), (27, 2), (28, 2), (29, 2), (30, 2), (31, 2), (32, 2), (33, 2)])]
def F14__1 (x1 : Int) (x2 : Int) (y14 : Int × Int × Int × Int) : Bool := decide (y14.1 ≥ (IntKind.i64.wrap ((IntKind.i64.wrap ((IntKind.i64.wrap (x1 + x2)) + 2)) - 1)))
def F14__2 (x1 : Int) (x2 : Int) : Int := (IntKind.i64.wrap ((IntKind.i64.wrap (2 * (IntKind.i64.wrap ((IntKind.i64.wrap (x1 + x2)) + 2)))) - 3))
def F14__3 (x1 : Int) (x2 : Int) (a28 : Int) : Bool := decide (a28 < (IntKind.i64.wrap ((IntKind.i64.wrap ((IntKind.i64.wrap (x1 + x2)) + 2)) - 1)))
def F14__4 (x1 : Int) (x2 : Int) (x3 : Bool) (l4 : List (Int × Int × Int × Int)) (l5 : List (Int × Int × Int × Int)) (l6 : List (Int × Int)) (a28 : Int) (y32 : Int × Int × Int × Int) : Bool := (!((y32.1 == (F28 x1 x2 x3 l4 l5 l6)) && ((y32.2.1 == (IntKind.i64.wrap (a28 + 1))) && ((y32.2.2.1 == 0) && ((y32.2.2.2 == 0) && true)))))
def F14__5 (x1 : Int) (x2 : Int) (x3 : Bool) (l4 : List (Int × Int × Int × Int)) (l5 : List (Int × Int × Int × Int)) (l6 : List (Int × Int)) (a28 : Int) (y35 : Int × Int × Int × Int) : Bool := (!((y35.1 == (F28 x1 x2 x3 l4 l5 l6)) && ((y35.2.1 == a28) && ((y35.2.2.1 == 0) && ((y35.2.2.2 == 0) && true)))))
def F14__6 (x1 : Int) (x2 : Int) (a49 : Int) : Bool := decide (a49 < (IntKind.i64.wrap ((IntKind.i64.wrap ((IntKind.i64.wrap (x1 + x2)) + 2)) - 2)))
def F14__7 (x1 : Int) (x2 : Int) (a49 : Int) : Int := (IntKind.i64.wrap ((IntKind.i64.wrap ((IntKind.i64.wrap ((IntKind.i64.wrap (x1 + x2)) + 2)) - 1)) + a49))
def F14_m1_2 : List Bool := (true :: false :: true :: false :: (rp 271 true []))
def F14_m1_1 : List Bool := (true :: false :: true :: false :: (rp 43 true (false :: false :: (rp 226 true []))))
def F14_m1_0 : List Bool := (true :: true :: false :: (rp 272 true []))
def F14_s1 (x1 : Int) (x2 : Int) (x3 : Bool) (l4 : List (Int × Int × Int × Int)) (a12 : Int) : Option (Int ⊕ Nat) :=
  (bif decide (a12 < (l4.length : Int)) then
   (Option.bind (at? l4 a12) fun y14 =>
   (bif decide (y14.1 < 0) then
    some (.inr 0)
   else
    (bif (F14__1 x1 x2 y14) then
     some (.inr 0)
    else
     (bif decide (y14.2.1 < 0) then
      some (.inr 0)
     else
      (bif decide (y14.2.1 ≥ (IntKind.i64.wrap ((IntKind.i64.wrap (x1 + x2)) + 2))) then
       some (.inr 0)
      else
       (bif decide (y14.2.2.1 < 0) then
        some (.inr 0)
       else
        (bif decide (y14.2.2.1 > 4096) then
         some (.inr 0)
        else
         (bif decide (y14.2.2.2 < 0) then
          some (.inr 0)
         else
          (bif decide (y14.2.2.2 > 256) then
           some (.inr 0)
          else
           (bif decide (y14.2.2.2 > 0) then
            (bif (!x3) then
             some (.inr 0)
            else
             some (.inl (IntKind.i64.wrap (a12 + 1))))
           else
            some (.inl (IntKind.i64.wrap (a12 + 1)))))))))))))
  else
   some (.inr 1))
def F14_h1 (h : AHeap) (x1 : Int) (x2 : Int) (x3 : Bool) (l4 : List (Int × Int × Int × Int)) (v4 : Hd) (v5 : Hd) (v6 : Hd)  (a12 : Int) : AS := ⟨(junk :: (.pointer (some ⟨1, 0, none⟩)) :: junk :: (.int .i64 (IntKind.i64.wrap ((IntKind.i64.wrap (x1 + x2)) + 2))) :: (rp 43 junk ((.int .i64 (l4.length : Int)) :: (.int .i64 a12) :: (rp 226 junk [])))), [(1, [.int .i64 x1, .int .i64 x2, .bool x3, (sv v4), (sv v5), (sv v6)])], h⟩
theorem F14_d1 : drawsOk F14_D (codeOf Try.prog 14 [1, 1, 1, 0, 1, 0, 0]) = true := by kernel_rfl
def F14_x1_0 (h : AHeap) (x1 : Int) (x2 : Int) (x3 : Bool) (v4 : Hd) (v5 : Hd) (v6 : Hd)  (r : Nat) : AS := ⟨(junk :: junk :: (.bool false) :: (rp 272 junk [])), [], h⟩
def F14_x1_1 (h : AHeap) (x1 : Int) (x2 : Int) (x3 : Bool) (v4 : Hd) (v5 : Hd) (v6 : Hd)  (r : Nat) : AS := ⟨(junk :: (.pointer (some ⟨1, 0, none⟩)) :: junk :: (.int .i64 (IntKind.i64.wrap ((IntKind.i64.wrap (x1 + x2)) + 2))) :: (rp 271 junk [])), [(1, [.int .i64 x1, .int .i64 x2, .bool x3, (sv v4), (sv v5), (sv v6)])], h⟩
def F14_x1 (h : AHeap) (x1 : Int) (x2 : Int) (x3 : Bool) (v4 : Hd) (v5 : Hd) (v6 : Hd) (r : Nat) : Exit × AS := (bif Nat.beq r 0 then (.ret, (F14_x1_0 h x1 x2 x3 v4 v5 v6 r)) else ((.exit 0), (F14_x1_1 h x1 x2 x3 v4 v5 v6 r)))
set_option maxRecDepth 100000 in
theorem F14_r1 (h : AHeap) (x1 : Int) (x2 : Int) (x3 : Bool) (l4 : List (Int × Int × Int × Int)) (v4 : Hd) (hv4 : SlE E57 4 h (sv v4) l4) (v5 : Hd) (v6 : Hd) (a12 : Int) (o : Int ⊕ Nat) : F14_s1 x1 x2 x3 l4 a12 = some o → RdF Try.prog (codeOf Try.prog 14 [1, 1, 1, 0, 1, 0, 0]) (fun (s : Int) => (F14_h1 h x1 x2 x3 l4 v4 v5 v6 s)) (F14_x1 h x1 x2 x3 v4 v5 v6) (F14_h1 h x1 x2 x3 l4 v4 v5 v6 a12) o := by
  unfold F14_s1
  refine dec_bif (fun c13 => ?_) (fun c13 => ?_)
  · refine bind_opt fun y14 e14 => ?_
    obtain ⟨id14, off14, g14, cs14, ix14, at14, rfl⟩ := SlE.at hv4 e14
    have kc15 := (ai (At.agg (P := Try.prog) (t := 57) (v := .agg #[.int .i64 y14.1, .int .i64 y14.2.1, .int .i64 y14.2.2.1, .int .i64 y14.2.2.2]) (m := 4) at14 (by kernel_rfl) (by kernel_rfl) 0 (by kernel_rfl) rfl) (ai ix14 (ai c13 trivial)))
    refine dec_bif (fun c15 => ?_) (fun c15 => ?_)
    · intro hr
      obtain rfl := Option.some.inj hr
      show AWp Try.prog _ (Ends1 ((F14_x1 h x1 x2 x3 v4 v5 v6) (0 : Nat)).1 ((F14_x1 h x1 x2 x3 v4 v5 v6) (0 : Nat)).2) _
      exact pEnd_sound good (L := F14_L) (D := F14_D) (its := [.g, (.b true), .g, .g, .g, .g, .g, (.ix id14 off14 g14), (.ld (.agg #[.int .i64 y14.1, .int .i64 y14.2.1, .int .i64 y14.2.2.1, .int .i64 y14.2.2.2])), .g, .g, .g, .g, .g, .g, .n, .n, .n, .n, .n, (.p true), .g, .n, .n, .n, .g, .g, .n, .n, .n, .n, .g, .g, .n, .n, .n, .g, .g, .n, .n, .n, .g, .g, .n, .n, .n, .g, .g, .n, .n, .n, .g, .g, .n, .n, .n, .n, .n, .n, .n, .n, .g, (.b true), .g]) (ds := F14_m1_0) (ks := [1, 5]) (e := ((F14_x1 h x1 x2 x3 v4 v5 v6) (0 : Nat)).1) (s2 := ((F14_x1 h x1 x2 x3 v4 v5 v6) (0 : Nat)).2) (hC := (ai l_t (ai (g_tf l_t) (ai l_f (ai l_f (ai l_f (ai (g_tf l_t) (ai (g_tf l_t) (ai (g_tf l_t) (ai (g_tf l_t) (ai (g_tf l_t) (ai (g_tf l_t) (ai (g_tf l_t) (ai (g_tf l_t) (ai (g_tf l_t) (ai (g_tf l_t) (ai (g_tf l_t) (ai (g_tf l_t) (ai (g_tf l_t) (ai (g_tf l_t) (ai (g_tf l_t) (ai (g_tf l_t) (ai (g_tf l_t) (ai (g_tf l_t) (ai (g_tf l_t) (ai (g_tf l_t) (ai (g_tf l_t) (ai (g_tf l_t) (ai (g_tf l_t) (ai c15 (ai (g_tf c15) (ai (g_tf c15) (ai (g_tf c15) (ai (g_tf c15) (ai (g_tf c15) kc15))))))))))))))))))))))))))))))))))) (hd := F14_d1) (h := by kernel_rfl)
    · have kc16 := (ai c15 (ai (g_ff c15) (ai (g_ff c15) (ai (g_ff c15) (ai (g_ff c15) (ai (g_ff c15) kc15))))))
      refine dec_bif (fun c16 => ?_) (fun c16 => ?_)
      · intro hr
        obtain rfl := Option.some.inj hr
        show AWp Try.prog _ (Ends1 ((F14_x1 h x1 x2 x3 v4 v5 v6) (0 : Nat)).1 ((F14_x1 h x1 x2 x3 v4 v5 v6) (0 : Nat)).2) _
        exact pEnd_sound good (L := F14_L) (D := F14_D) (its := [.g, (.b true), .g, .g, .g, .g, .g, (.ix id14 off14 g14), (.ld (.agg #[.int .i64 y14.1, .int .i64 y14.2.1, .int .i64 y14.2.2.1, .int .i64 y14.2.2.2])), .g, .g, .g, .g, .g, .g, (.w .g), (.w .g), (.w .g), (.w .g), (.w .g), (.p false), .g, .n, .n, .n, (.p true), .g, .n, .n, .n, .n, .g, .g, .n, .n, .n, .g, .g, .n, .n, .n, .g, .g, .n, .n, .n, .g, .g, .n, .n, .n, .g, .g, .n, .n, .n, .n, .n, .n, .n, .n, .g, (.b true), .g]) (ds := F14_m1_0) (ks := [1, 5]) (e := ((F14_x1 h x1 x2 x3 v4 v5 v6) (0 : Nat)).1) (s2 := ((F14_x1 h x1 x2 x3 v4 v5 v6) (0 : Nat)).2) (hC := (ai l_t (ai (g_tf l_t) (ai l_f (ai l_f (ai l_f (ai (g_tf l_t) (ai (g_tf l_t) (ai (g_tf l_t) (ai (g_tf l_t) (ai (g_tf l_t) (ai (g_tf l_t) (ai (g_tf l_t) (ai (g_tf l_t) (ai (g_tf l_t) (ai (g_tf l_t) (ai (g_tf l_t) (ai (g_tf l_t) (ai (g_tf l_t) (ai (g_tf l_t) (ai (g_tf l_t) (ai (g_tf l_t) (ai (g_tf l_t) (ai (g_tf l_t) (ai (g_tf l_t) (ai (g_tf l_t) (ai c16 (ai (g_tf c16) (ai (g_tf c16) (ai (g_tf c16) kc16)))))))))))))))))))))))))))))) (hd := F14_d1) (h := by kernel_rfl)
      · have kc17 := (ai c16 (ai (g_ff c16) (ai (g_ff c16) (ai (g_ff c16) kc16))))
        refine dec_bif (fun c17 => ?_) (fun c17 => ?_)
        · intro hr
          obtain rfl := Option.some.inj hr
          show AWp Try.prog _ (Ends1 ((F14_x1 h x1 x2 x3 v4 v5 v6) (0 : Nat)).1 ((F14_x1 h x1 x2 x3 v4 v5 v6) (0 : Nat)).2) _
          exact pEnd_sound good (L := F14_L) (D := F14_D) (its := [.g, (.b true), .g, .g, .g, .g, .g, (.ix id14 off14 g14), (.ld (.agg #[.int .i64 y14.1, .int .i64 y14.2.1, .int .i64 y14.2.2.1, .int .i64 y14.2.2.2])), .g, .g, .g, .g, .g, .g, (.w .g), (.w .g), (.w .g), (.w .g), (.w .g), (.p false), .g, (.w .g), (.w .g), (.w .g), (.p false), .g, .n, .n, .n, .n, (.p true), .g, .n, .n, .n, .g, .g, .n, .n, .n, .g, .g, .n, .n, .n, .g, .g, .n, .n, .n, .g, .g, .n, .n, .n, .n, .n, .n, .n, .n, .g, (.b true), .g]) (ds := F14_m1_0) (ks := [1, 5]) (e := ((F14_x1 h x1 x2 x3 v4 v5 v6) (0 : Nat)).1) (s2 := ((F14_x1 h x1 x2 x3 v4 v5 v6) (0 : Nat)).2) (hC := (ai l_t (ai (g_tf l_t) (ai l_f (ai l_f (ai l_f (ai (g_tf l_t) (ai (g_tf l_t) (ai (g_tf l_t) (ai (g_tf l_t) (ai (g_tf l_t) (ai (g_tf l_t) (ai (g_tf l_t) (ai (g_tf l_t) (ai (g_tf l_t) (ai (g_tf l_t) (ai (g_tf l_t) (ai (g_tf l_t) (ai (g_tf l_t) (ai (g_tf l_t) (ai (g_tf l_t) (ai (g_tf l_t) (ai c17 (ai (g_tf c17) (ai (g_tf c17) (ai (g_tf c17) (ai (g_tf c17) kc17))))))))))))))))))))))))))) (hd := F14_d1) (h := by kernel_rfl)
        · have kc18 := (ai c17 (ai (g_ff c17) (ai (g_ff c17) (ai (g_ff c17) (ai (g_ff c17) kc17)))))
          refine dec_bif (fun c18 => ?_) (fun c18 => ?_)
          · intro hr
            obtain rfl := Option.some.inj hr
            show AWp Try.prog _ (Ends1 ((F14_x1 h x1 x2 x3 v4 v5 v6) (0 : Nat)).1 ((F14_x1 h x1 x2 x3 v4 v5 v6) (0 : Nat)).2) _
            exact pEnd_sound good (L := F14_L) (D := F14_D) (its := [.g, (.b true), .g, .g, .g, .g, .g, (.ix id14 off14 g14), (.ld (.agg #[.int .i64 y14.1, .int .i64 y14.2.1, .int .i64 y14.2.2.1, .int .i64 y14.2.2.2])), .g, .g, .g, .g, .g, .g, (.w .g), (.w .g), (.w .g), (.w .g), (.w .g), (.p false), .g, (.w .g), (.w .g), (.w .g), (.p false), .g, (.w .g), (.w .g), (.w .g), (.w .g), (.p false), .g, .n, .n, .n, (.p true), .g, .n, .n, .n, .g, .g, .n, .n, .n, .g, .g, .n, .n, .n, .g, .g, .n, .n, .n, .n, .n, .n, .n, .n, .g, (.b true), .g]) (ds := F14_m1_0) (ks := [1, 5]) (e := ((F14_x1 h x1 x2 x3 v4 v5 v6) (0 : Nat)).1) (s2 := ((F14_x1 h x1 x2 x3 v4 v5 v6) (0 : Nat)).2) (hC := (ai l_t (ai (g_tf l_t) (ai l_f (ai l_f (ai l_f (ai (g_tf l_t) (ai (g_tf l_t) (ai (g_tf l_t) (ai (g_tf l_t) (ai (g_tf l_t) (ai (g_tf l_t) (ai (g_tf l_t) (ai (g_tf l_t) (ai (g_tf l_t) (ai (g_tf l_t) (ai (g_tf l_t) (ai (g_tf l_t) (ai (g_tf l_t) (ai c18 (ai (g_tf c18) (ai (g_tf c18) (ai (g_tf c18) kc18))))))))))))))))))))))) (hd := F14_d1) (h := by kernel_rfl)
          · have kc19 := (ai c18 (ai (g_ff c18) (ai (g_ff c18) (ai (g_ff c18) kc18))))
            refine dec_bif (fun c19 => ?_) (fun c19 => ?_)
            · intro hr
              obtain rfl := Option.some.inj hr
              show AWp Try.prog _ (Ends1 ((F14_x1 h x1 x2 x3 v4 v5 v6) (0 : Nat)).1 ((F14_x1 h x1 x2 x3 v4 v5 v6) (0 : Nat)).2) _
              exact pEnd_sound good (L := F14_L) (D := F14_D) (its := [.g, (.b true), .g, .g, .g, .g, .g, (.ix id14 off14 g14), (.ld (.agg #[.int .i64 y14.1, .int .i64 y14.2.1, .int .i64 y14.2.2.1, .int .i64 y14.2.2.2])), .g, .g, .g, .g, .g, .g, (.w .g), (.w .g), (.w .g), (.w .g), (.w .g), (.p false), .g, (.w .g), (.w .g), (.w .g), (.p false), .g, (.w .g), (.w .g), (.w .g), (.w .g), (.p false), .g, (.w .g), (.w .g), (.w .g), (.p false), .g, .n, .n, .n, (.p true), .g, .n, .n, .n, .g, .g, .n, .n, .n, .g, .g, .n, .n, .n, .n, .n, .n, .n, .n, .g, (.b true), .g]) (ds := F14_m1_0) (ks := [1, 5]) (e := ((F14_x1 h x1 x2 x3 v4 v5 v6) (0 : Nat)).1) (s2 := ((F14_x1 h x1 x2 x3 v4 v5 v6) (0 : Nat)).2) (hC := (ai l_t (ai (g_tf l_t) (ai l_f (ai l_f (ai l_f (ai (g_tf l_t) (ai (g_tf l_t) (ai (g_tf l_t) (ai (g_tf l_t) (ai (g_tf l_t) (ai (g_tf l_t) (ai (g_tf l_t) (ai (g_tf l_t) (ai (g_tf l_t) (ai (g_tf l_t) (ai c19 (ai (g_tf c19) (ai (g_tf c19) (ai (g_tf c19) kc19)))))))))))))))))))) (hd := F14_d1) (h := by kernel_rfl)
            · have kc20 := (ai c19 (ai (g_ff c19) (ai (g_ff c19) (ai (g_ff c19) kc19))))
              refine dec_bif (fun c20 => ?_) (fun c20 => ?_)
              · intro hr
                obtain rfl := Option.some.inj hr
                show AWp Try.prog _ (Ends1 ((F14_x1 h x1 x2 x3 v4 v5 v6) (0 : Nat)).1 ((F14_x1 h x1 x2 x3 v4 v5 v6) (0 : Nat)).2) _
                exact pEnd_sound good (L := F14_L) (D := F14_D) (its := [.g, (.b true), .g, .g, .g, .g, .g, (.ix id14 off14 g14), (.ld (.agg #[.int .i64 y14.1, .int .i64 y14.2.1, .int .i64 y14.2.2.1, .int .i64 y14.2.2.2])), .g, .g, .g, .g, .g, .g, (.w .g), (.w .g), (.w .g), (.w .g), (.w .g), (.p false), .g, (.w .g), (.w .g), (.w .g), (.p false), .g, (.w .g), (.w .g), (.w .g), (.w .g), (.p false), .g, (.w .g), (.w .g), (.w .g), (.p false), .g, (.w .g), (.w .g), (.w .g), (.p false), .g, .n, .n, .n, (.p true), .g, .n, .n, .n, .g, .g, .n, .n, .n, .n, .n, .n, .n, .n, .g, (.b true), .g]) (ds := F14_m1_0) (ks := [1, 5]) (e := ((F14_x1 h x1 x2 x3 v4 v5 v6) (0 : Nat)).1) (s2 := ((F14_x1 h x1 x2 x3 v4 v5 v6) (0 : Nat)).2) (hC := (ai l_t (ai (g_tf l_t) (ai l_f (ai l_f (ai l_f (ai (g_tf l_t) (ai (g_tf l_t) (ai (g_tf l_t) (ai (g_tf l_t) (ai (g_tf l_t) (ai (g_tf l_t) (ai (g_tf l_t) (ai c20 (ai (g_tf c20) (ai (g_tf c20) (ai (g_tf c20) kc20))))))))))))))))) (hd := F14_d1) (h := by kernel_rfl)
              · have kc21 := (ai c20 (ai (g_ff c20) (ai (g_ff c20) (ai (g_ff c20) kc20))))
                refine dec_bif (fun c21 => ?_) (fun c21 => ?_)
                · intro hr
                  obtain rfl := Option.some.inj hr
                  show AWp Try.prog _ (Ends1 ((F14_x1 h x1 x2 x3 v4 v5 v6) (0 : Nat)).1 ((F14_x1 h x1 x2 x3 v4 v5 v6) (0 : Nat)).2) _
                  exact pEnd_sound good (L := F14_L) (D := F14_D) (its := [.g, (.b true), .g, .g, .g, .g, .g, (.ix id14 off14 g14), (.ld (.agg #[.int .i64 y14.1, .int .i64 y14.2.1, .int .i64 y14.2.2.1, .int .i64 y14.2.2.2])), .g, .g, .g, .g, .g, .g, (.w .g), (.w .g), (.w .g), (.w .g), (.w .g), (.p false), .g, (.w .g), (.w .g), (.w .g), (.p false), .g, (.w .g), (.w .g), (.w .g), (.w .g), (.p false), .g, (.w .g), (.w .g), (.w .g), (.p false), .g, (.w .g), (.w .g), (.w .g), (.p false), .g, (.w .g), (.w .g), (.w .g), (.p false), .g, .n, .n, .n, (.p true), .g, .n, .n, .n, .n, .n, .n, .n, .n, .g, (.b true), .g]) (ds := F14_m1_0) (ks := [1, 5]) (e := ((F14_x1 h x1 x2 x3 v4 v5 v6) (0 : Nat)).1) (s2 := ((F14_x1 h x1 x2 x3 v4 v5 v6) (0 : Nat)).2) (hC := (ai l_t (ai (g_tf l_t) (ai l_f (ai l_f (ai l_f (ai (g_tf l_t) (ai (g_tf l_t) (ai (g_tf l_t) (ai (g_tf l_t) (ai c21 (ai (g_tf c21) (ai (g_tf c21) (ai (g_tf c21) kc21)))))))))))))) (hd := F14_d1) (h := by kernel_rfl)
                · have kc22 := (ai c21 (ai (g_ff c21) (ai (g_ff c21) (ai (g_ff c21) kc21))))
                  refine dec_bif (fun c22 => ?_) (fun c22 => ?_)
                  · intro hr
                    obtain rfl := Option.some.inj hr
                    show AWp Try.prog _ (Ends1 ((F14_x1 h x1 x2 x3 v4 v5 v6) (0 : Nat)).1 ((F14_x1 h x1 x2 x3 v4 v5 v6) (0 : Nat)).2) _
                    exact pEnd_sound good (L := F14_L) (D := F14_D) (its := [.g, (.b true), .g, .g, .g, .g, .g, (.ix id14 off14 g14), (.ld (.agg #[.int .i64 y14.1, .int .i64 y14.2.1, .int .i64 y14.2.2.1, .int .i64 y14.2.2.2])), .g, .g, .g, .g, .g, .g, (.w .g), (.w .g), (.w .g), (.w .g), (.w .g), (.p false), .g, (.w .g), (.w .g), (.w .g), (.p false), .g, (.w .g), (.w .g), (.w .g), (.w .g), (.p false), .g, (.w .g), (.w .g), (.w .g), (.p false), .g, (.w .g), (.w .g), (.w .g), (.p false), .g, (.w .g), (.w .g), (.w .g), (.p false), .g, (.w .g), (.w .g), (.w .g), (.p false), .g, .n, .n, .n, .n, .n, .n, .n, .n, (.p true), (.b true), .g]) (ds := F14_m1_0) (ks := [1, 5]) (e := ((F14_x1 h x1 x2 x3 v4 v5 v6) (0 : Nat)).1) (s2 := ((F14_x1 h x1 x2 x3 v4 v5 v6) (0 : Nat)).2) (hC := (ai l_t (ai c22 (ai (g_tf c22) (ai l_f (ai l_f (ai l_f (ai (g_tf c22) (ai (g_tf c22) (ai (g_tf c22) (ai (g_tf c22) kc22))))))))))) (hd := F14_d1) (h := by kernel_rfl)
                  · have kc23 := (ai (g_ff c22) (ai (g_ff c22) (ai (g_ff c22) (ai (g_ff c22) kc22))))
                    refine dec_bif (fun c23 => ?_) (fun c23 => ?_)
                    · have kc24 := (ai c22 (ai c23 (ai (g_ff c22) (ai (g_tt c23) (ai (g_tt c23) (ai (g_tt c23) kc23))))))
                      refine dec_bif (fun c24 => ?_) (fun c24 => ?_)
                      · intro hr
                        obtain rfl := Option.some.inj hr
                        show AWp Try.prog _ (Ends1 ((F14_x1 h x1 x2 x3 v4 v5 v6) (0 : Nat)).1 ((F14_x1 h x1 x2 x3 v4 v5 v6) (0 : Nat)).2) _
                        exact pEnd_sound good (L := F14_L) (D := F14_D) (its := [.g, (.b true), .g, .g, .g, .g, .g, (.ix id14 off14 g14), (.ld (.agg #[.int .i64 y14.1, .int .i64 y14.2.1, .int .i64 y14.2.2.1, .int .i64 y14.2.2.2])), .g, .g, .g, .g, .g, .g, (.w .g), (.w .g), (.w .g), (.w .g), (.w .g), (.p false), .g, (.w .g), (.w .g), (.w .g), (.p false), .g, (.w .g), (.w .g), (.w .g), (.w .g), (.p false), .g, (.w .g), (.w .g), (.w .g), (.p false), .g, (.w .g), (.w .g), (.w .g), (.p false), .g, (.w .g), (.w .g), (.w .g), (.p false), .g, (.w .g), (.w .g), (.w .g), (.p false), .g, (.w .g), (.w .g), (.w .g), (.w .g), (.w .g), (.w .g), (.w .g), (.w (.p true)), (.p false), (.b true), .g]) (ds := F14_m1_0) (ks := [1, 5]) (e := ((F14_x1 h x1 x2 x3 v4 v5 v6) (0 : Nat)).1) (s2 := ((F14_x1 h x1 x2 x3 v4 v5 v6) (0 : Nat)).2) (hC := (ai c24 kc24)) (hd := F14_d1) (h := by kernel_rfl)
                      · intro hr
                        obtain rfl := Option.some.inj hr
                        show AWp Try.prog _ (Ends1 .normal (F14_h1 h x1 x2 x3 l4 v4 v5 v6 (IntKind.i64.wrap (a12 + 1)))) _
                        exact pEnd_sound good (L := F14_L) (D := F14_D) (its := [.g, (.b true), .g, .g, .g, .g, .g, (.ix id14 off14 g14), (.ld (.agg #[.int .i64 y14.1, .int .i64 y14.2.1, .int .i64 y14.2.2.1, .int .i64 y14.2.2.2])), .g, .g, .g, .g, .g, .g, (.w .g), (.w .g), (.w .g), (.w .g), (.w .g), (.p false), .g, (.w .g), (.w .g), (.w .g), (.p false), .g, (.w .g), (.w .g), (.w .g), (.w .g), (.p false), .g, (.w .g), (.w .g), (.w .g), (.p false), .g, (.w .g), (.w .g), (.w .g), (.p false), .g, (.w .g), (.w .g), (.w .g), (.p false), .g, (.w .g), (.w .g), (.w .g), (.p false), .g, (.w .g), (.w .g), (.w .g), (.w .g), (.w .g), (.w .g), (.w .g), (.w (.p true)), (.p false), (.b false), .g, .g]) (ds := F14_m1_1) (ks := [5]) (e := .normal) (s2 := (F14_h1 h x1 x2 x3 l4 v4 v5 v6 (IntKind.i64.wrap (a12 + 1)))) (hC := (ai c24 kc24)) (hd := F14_d1) (h := by kernel_rfl)
                    · intro hr
                      obtain rfl := Option.some.inj hr
                      show AWp Try.prog _ (Ends1 .normal (F14_h1 h x1 x2 x3 l4 v4 v5 v6 (IntKind.i64.wrap (a12 + 1)))) _
                      exact pEnd_sound good (L := F14_L) (D := F14_D) (its := [.g, (.b true), .g, .g, .g, .g, .g, (.ix id14 off14 g14), (.ld (.agg #[.int .i64 y14.1, .int .i64 y14.2.1, .int .i64 y14.2.2.1, .int .i64 y14.2.2.2])), .g, .g, .g, .g, .g, .g, (.w .g), (.w .g), (.w .g), (.w .g), (.w .g), (.p false), .g, (.w .g), (.w .g), (.w .g), (.p false), .g, (.w .g), (.w .g), (.w .g), (.w .g), (.p false), .g, (.w .g), (.w .g), (.w .g), (.p false), .g, (.w .g), (.w .g), (.w .g), (.p false), .g, (.w .g), (.w .g), (.w .g), (.p false), .g, (.w .g), (.w .g), (.w .g), (.p false), .g, (.w .g), (.w .g), (.w .g), (.w .g), .n, .n, .n, (.w (.p false)), (.p false), (.b false), .g, .g]) (ds := F14_m1_1) (ks := [5]) (e := .normal) (s2 := (F14_h1 h x1 x2 x3 l4 v4 v5 v6 (IntKind.i64.wrap (a12 + 1)))) (hC := (ai l_f (ai c22 (ai c23 (ai (g_ff c22) (ai (g_ft c23) (ai (g_ft c23) (ai (g_ft c23) kc23)))))))) (hd := F14_d1) (h := by kernel_rfl)
  · intro hr
    obtain rfl := Option.some.inj hr
    show AWp Try.prog _ (Ends1 ((F14_x1 h x1 x2 x3 v4 v5 v6) (1 : Nat)).1 ((F14_x1 h x1 x2 x3 v4 v5 v6) (1 : Nat)).2) _
    exact pEnd_sound good (L := F14_L) (D := F14_D) (its := [.g, (.b false)]) (ds := F14_m1_2) (ks := []) (e := ((F14_x1 h x1 x2 x3 v4 v5 v6) (1 : Nat)).1) (s2 := ((F14_x1 h x1 x2 x3 v4 v5 v6) (1 : Nat)).2) (hC := (ai c13 trivial)) (hd := F14_d1) (h := by kernel_rfl)
theorem F14_l1_0 (h : AHeap) (x1 : Int) (x2 : Int) (x3 : Bool) (l4 : List (Int × Int × Int × Int)) (v4 : Hd) (hv4 : SlE E57 4 h (sv v4) l4) (v5 : Hd) (v6 : Hd) (x : Int) (r : Nat) (hl : loopO (fun (s : Int) => F14_s1 x1 x2 x3 l4 s) x = some r) (q0 : Nat.beq r 0 = true) : AWp Try.prog (.loop (codeOf Try.prog 14 [1, 1, 1, 0, 1, 0, 0])) (Ends1 .ret (F14_x1_0 h x1 x2 x3 v4 v5 v6 r)) ((fun (s : Int) => (F14_h1 h x1 x2 x3 l4 v4 v5 v6 s)) x) := by
  have k := loop_fun (P := Try.prog) (c := (codeOf Try.prog 14 [1, 1, 1, 0, 1, 0, 0])) (step := (fun (s : Int) => F14_s1 x1 x2 x3 l4 s)) (hd := (fun (s : Int) => (F14_h1 h x1 x2 x3 l4 v4 v5 v6 s))) (X := (F14_x1 h x1 x2 x3 v4 v5 v6)) (by intro t; unfold F14_x1; cases Nat.beq t 0 <;> (intro h; cases h)) (fun x => F14_r1 h x1 x2 x3 l4 v4 hv4 v5 v6 x) hl
  simp only [F14_x1, q0, cond_true, cond_false] at k
  exact k
theorem F14_l1_1 (h : AHeap) (x1 : Int) (x2 : Int) (x3 : Bool) (l4 : List (Int × Int × Int × Int)) (v4 : Hd) (hv4 : SlE E57 4 h (sv v4) l4) (v5 : Hd) (v6 : Hd) (x : Int) (r : Nat) (hl : loopO (fun (s : Int) => F14_s1 x1 x2 x3 l4 s) x = some r) (q0 : Nat.beq r 0 = false) : AWp Try.prog (.loop (codeOf Try.prog 14 [1, 1, 1, 0, 1, 0, 0])) (Ends1 (.exit 0) (F14_x1_1 h x1 x2 x3 v4 v5 v6 r)) ((fun (s : Int) => (F14_h1 h x1 x2 x3 l4 v4 v5 v6 s)) x) := by
  have k := loop_fun (P := Try.prog) (c := (codeOf Try.prog 14 [1, 1, 1, 0, 1, 0, 0])) (step := (fun (s : Int) => F14_s1 x1 x2 x3 l4 s)) (hd := (fun (s : Int) => (F14_h1 h x1 x2 x3 l4 v4 v5 v6 s))) (X := (F14_x1 h x1 x2 x3 v4 v5 v6)) (by intro t; unfold F14_x1; cases Nat.beq t 0 <;> (intro h; cases h)) (fun x => F14_r1 h x1 x2 x3 l4 v4 hv4 v5 v6 x) hl
  simp only [F14_x1, q0, cond_true, cond_false] at k
  exact k
def F14_m2_2 : List Bool := (true :: false :: true :: false :: (rp 271 true []))
def F14_m2_1 : List Bool := (true :: false :: true :: false :: (rp 112 true (false :: false :: (rp 157 true []))))
def F14_m2_0 : List Bool := (true :: true :: false :: (rp 272 true []))
def F14_s2 (x1 : Int) (x2 : Int) (x3 : Bool) (l4 : List (Int × Int × Int × Int)) (l5 : List (Int × Int × Int × Int)) (l6 : List (Int × Int)) (a28 : Int) : Option (Int ⊕ Nat) :=
  (bif (F14__3 x1 x2 a28) then
   (bif decide (a28 ≥ (F28 x1 x2 x3 l4 l5 l6)) then
    (Option.bind (at? l4 a28) fun y32 =>
    (bif (F14__4 x1 x2 x3 l4 l5 l6 a28 y32) then
     some (.inr 0)
    else
     some (.inl (IntKind.i64.wrap (a28 + 1)))))
   else
    (Option.bind (at? l4 a28) fun y35 =>
    (bif (F14__5 x1 x2 x3 l4 l5 l6 a28 y35) then
     some (.inr 0)
    else
     some (.inl (IntKind.i64.wrap (a28 + 1))))))
  else
   some (.inr 1))
def F14_h2 (h : AHeap) (x1 : Int) (x2 : Int) (x3 : Bool) (v4 : Hd) (v5 : Hd) (v6 : Hd)  (a28 : Int) : AS := ⟨(junk :: (.pointer (some ⟨1, 0, none⟩)) :: junk :: (.int .i64 (IntKind.i64.wrap ((IntKind.i64.wrap (x1 + x2)) + 2))) :: (rp 112 junk ((.int .i64 (IntKind.i64.wrap ((IntKind.i64.wrap ((IntKind.i64.wrap (x1 + x2)) + 2)) - 1))) :: (.int .i64 a28) :: (rp 157 junk [])))), [(1, [.int .i64 x1, .int .i64 x2, .bool x3, (sv v4), (sv v5), (sv v6)])], h⟩
theorem F14_d2 : drawsOk F14_D (codeOf Try.prog 14 [1, 1, 1, 1, 1, 0, 1, 0, 0]) = true := by kernel_rfl
def F14_x2_0 (h : AHeap) (x1 : Int) (x2 : Int) (x3 : Bool) (v4 : Hd) (v5 : Hd) (v6 : Hd)  (r : Nat) : AS := ⟨(junk :: junk :: (.bool false) :: (rp 272 junk [])), [], h⟩
def F14_x2_1 (h : AHeap) (x1 : Int) (x2 : Int) (x3 : Bool) (v4 : Hd) (v5 : Hd) (v6 : Hd)  (r : Nat) : AS := ⟨(junk :: (.pointer (some ⟨1, 0, none⟩)) :: junk :: (.int .i64 (IntKind.i64.wrap ((IntKind.i64.wrap (x1 + x2)) + 2))) :: (rp 271 junk [])), [(1, [.int .i64 x1, .int .i64 x2, .bool x3, (sv v4), (sv v5), (sv v6)])], h⟩
def F14_x2 (h : AHeap) (x1 : Int) (x2 : Int) (x3 : Bool) (v4 : Hd) (v5 : Hd) (v6 : Hd) (r : Nat) : Exit × AS := (bif Nat.beq r 0 then (.ret, (F14_x2_0 h x1 x2 x3 v4 v5 v6 r)) else ((.exit 2), (F14_x2_1 h x1 x2 x3 v4 v5 v6 r)))
set_option maxRecDepth 100000 in
theorem F14_r2 (h : AHeap) (x1 : Int) (x2 : Int) (x3 : Bool) (l4 : List (Int × Int × Int × Int)) (v4 : Hd) (hv4 : SlE E57 4 h (sv v4) l4) (l5 : List (Int × Int × Int × Int)) (v5 : Hd) (hv5 : SlE E59 4 h (sv v5) l5) (l6 : List (Int × Int)) (v6 : Hd) (hv6 : SlE E61 2 h (sv v6) l6) (a28 : Int) (o : Int ⊕ Nat) : F14_s2 x1 x2 x3 l4 l5 l6 a28 = some o → RdF Try.prog (codeOf Try.prog 14 [1, 1, 1, 1, 1, 0, 1, 0, 0]) (fun (s : Int) => (F14_h2 h x1 x2 x3 v4 v5 v6 s)) (F14_x2 h x1 x2 x3 v4 v5 v6) (F14_h2 h x1 x2 x3 v4 v5 v6 a28) o := by
  unfold F14_s2
  refine dec_bif (fun c29 => ?_) (fun c29 => ?_)
  · have kc31 := (ai (F28_spec x1 x2 x3 l4 l5 l6 v4 v5 v6 h hv4 hv5 hv6 _ rfl) (ai c29 trivial))
    refine dec_bif (fun c31 => ?_) (fun c31 => ?_)
    · refine bind_opt fun y32 e32 => ?_
      obtain ⟨id32, off32, g32, cs32, ix32, at32, rfl⟩ := SlE.at hv4 e32
      have kc34 := (ai (show aggEq Try.prog 57 #[.int .i64 y32.1, .int .i64 y32.2.1, .int .i64 y32.2.2.1, .int .i64 y32.2.2.2] #[.int .i64 (F28 x1 x2 x3 l4 l5 l6), .int .i64 (IntKind.i64.wrap (a28 + 1)), .int .i64 0, .int .i64 0] = some ((y32.1 == (F28 x1 x2 x3 l4 l5 l6)) && ((y32.2.1 == (IntKind.i64.wrap (a28 + 1))) && ((y32.2.2.1 == 0) && ((y32.2.2.2 == 0) && true)))) by kernel_rfl) (ai (show AKeep h h from (AHeap.sub_refl h)) (ai (F28_spec x1 x2 x3 l4 l5 l6 v4 v5 v6 h hv4 hv5 hv6 _ rfl) (ai (At.agg (P := Try.prog) (t := 57) (v := .agg #[.int .i64 y32.1, .int .i64 y32.2.1, .int .i64 y32.2.2.1, .int .i64 y32.2.2.2]) (m := 4) at32 (by kernel_rfl) (by kernel_rfl) 0 (by kernel_rfl) rfl) (ai ix32 (ai c31 kc31))))))
      refine dec_bif (fun c34 => ?_) (fun c34 => ?_)
      · intro hr
        obtain rfl := Option.some.inj hr
        show AWp Try.prog _ (Ends1 ((F14_x2 h x1 x2 x3 v4 v5 v6) (0 : Nat)).1 ((F14_x2 h x1 x2 x3 v4 v5 v6) (0 : Nat)).2) _
        exact pEnd_sound good (L := F14_L) (D := F14_D) (its := [.g, (.b true), .g, .g, .g, .g, .g, .g, (.c (.int .i64 (F28 x1 x2 x3 l4 l5 l6)) h), .g, (.b true), .g, .g, .g, .g, .g, .g, .g, .g, (.ix id32 off32 g32), (.ld (.agg #[.int .i64 y32.1, .int .i64 y32.2.1, .int .i64 y32.2.2.1, .int .i64 y32.2.2.2])), (.c (.int .i64 (F28 x1 x2 x3 l4 l5 l6)) h), .g, (.eq ((y32.1 == (F28 x1 x2 x3 l4 l5 l6)) && ((y32.2.1 == (IntKind.i64.wrap (a28 + 1))) && ((y32.2.2.1 == 0) && ((y32.2.2.2 == 0) && true))))), (.b true), .g]) (ds := F14_m2_0) (ks := [1]) (e := ((F14_x2 h x1 x2 x3 v4 v5 v6) (0 : Nat)).1) (s2 := ((F14_x2 h x1 x2 x3 v4 v5 v6) (0 : Nat)).2) (hC := (ai c34 kc34)) (hd := F14_d2) (h := by kernel_rfl)
      · intro hr
        obtain rfl := Option.some.inj hr
        show AWp Try.prog _ (Ends1 .normal (F14_h2 h x1 x2 x3 v4 v5 v6 (IntKind.i64.wrap (a28 + 1)))) _
        exact pEnd_sound good (L := F14_L) (D := F14_D) (its := [.g, (.b true), .g, .g, .g, .g, .g, .g, (.c (.int .i64 (F28 x1 x2 x3 l4 l5 l6)) h), .g, (.b true), .g, .g, .g, .g, .g, .g, .g, .g, (.ix id32 off32 g32), (.ld (.agg #[.int .i64 y32.1, .int .i64 y32.2.1, .int .i64 y32.2.2.1, .int .i64 y32.2.2.2])), (.c (.int .i64 (F28 x1 x2 x3 l4 l5 l6)) h), .g, (.eq ((y32.1 == (F28 x1 x2 x3 l4 l5 l6)) && ((y32.2.1 == (IntKind.i64.wrap (a28 + 1))) && ((y32.2.2.1 == 0) && ((y32.2.2.2 == 0) && true))))), (.b false), .g, .g]) (ds := F14_m2_1) (ks := []) (e := .normal) (s2 := (F14_h2 h x1 x2 x3 v4 v5 v6 (IntKind.i64.wrap (a28 + 1)))) (hC := (ai c34 kc34)) (hd := F14_d2) (h := by kernel_rfl)
    · refine bind_opt fun y35 e35 => ?_
      obtain ⟨id35, off35, g35, cs35, ix35, at35, rfl⟩ := SlE.at hv4 e35
      have kc37 := (ai (show aggEq Try.prog 57 #[.int .i64 y35.1, .int .i64 y35.2.1, .int .i64 y35.2.2.1, .int .i64 y35.2.2.2] #[.int .i64 (F28 x1 x2 x3 l4 l5 l6), .int .i64 a28, .int .i64 0, .int .i64 0] = some ((y35.1 == (F28 x1 x2 x3 l4 l5 l6)) && ((y35.2.1 == a28) && ((y35.2.2.1 == 0) && ((y35.2.2.2 == 0) && true)))) by kernel_rfl) (ai (show AKeep h h from (AHeap.sub_refl h)) (ai (F28_spec x1 x2 x3 l4 l5 l6 v4 v5 v6 h hv4 hv5 hv6 _ rfl) (ai (At.agg (P := Try.prog) (t := 57) (v := .agg #[.int .i64 y35.1, .int .i64 y35.2.1, .int .i64 y35.2.2.1, .int .i64 y35.2.2.2]) (m := 4) at35 (by kernel_rfl) (by kernel_rfl) 0 (by kernel_rfl) rfl) (ai ix35 (ai c31 kc31))))))
      refine dec_bif (fun c37 => ?_) (fun c37 => ?_)
      · intro hr
        obtain rfl := Option.some.inj hr
        show AWp Try.prog _ (Ends1 ((F14_x2 h x1 x2 x3 v4 v5 v6) (0 : Nat)).1 ((F14_x2 h x1 x2 x3 v4 v5 v6) (0 : Nat)).2) _
        exact pEnd_sound good (L := F14_L) (D := F14_D) (its := [.g, (.b true), .g, .g, .g, .g, .g, .g, (.c (.int .i64 (F28 x1 x2 x3 l4 l5 l6)) h), .g, (.b false), .g, .g, .g, .g, .g, (.ix id35 off35 g35), (.ld (.agg #[.int .i64 y35.1, .int .i64 y35.2.1, .int .i64 y35.2.2.1, .int .i64 y35.2.2.2])), (.c (.int .i64 (F28 x1 x2 x3 l4 l5 l6)) h), .g, (.eq ((y35.1 == (F28 x1 x2 x3 l4 l5 l6)) && ((y35.2.1 == a28) && ((y35.2.2.1 == 0) && ((y35.2.2.2 == 0) && true))))), (.b true), .g]) (ds := F14_m2_0) (ks := [1]) (e := ((F14_x2 h x1 x2 x3 v4 v5 v6) (0 : Nat)).1) (s2 := ((F14_x2 h x1 x2 x3 v4 v5 v6) (0 : Nat)).2) (hC := (ai c37 kc37)) (hd := F14_d2) (h := by kernel_rfl)
      · intro hr
        obtain rfl := Option.some.inj hr
        show AWp Try.prog _ (Ends1 .normal (F14_h2 h x1 x2 x3 v4 v5 v6 (IntKind.i64.wrap (a28 + 1)))) _
        exact pEnd_sound good (L := F14_L) (D := F14_D) (its := [.g, (.b true), .g, .g, .g, .g, .g, .g, (.c (.int .i64 (F28 x1 x2 x3 l4 l5 l6)) h), .g, (.b false), .g, .g, .g, .g, .g, (.ix id35 off35 g35), (.ld (.agg #[.int .i64 y35.1, .int .i64 y35.2.1, .int .i64 y35.2.2.1, .int .i64 y35.2.2.2])), (.c (.int .i64 (F28 x1 x2 x3 l4 l5 l6)) h), .g, (.eq ((y35.1 == (F28 x1 x2 x3 l4 l5 l6)) && ((y35.2.1 == a28) && ((y35.2.2.1 == 0) && ((y35.2.2.2 == 0) && true))))), (.b false), .g, .g]) (ds := F14_m2_1) (ks := []) (e := .normal) (s2 := (F14_h2 h x1 x2 x3 v4 v5 v6 (IntKind.i64.wrap (a28 + 1)))) (hC := (ai c37 kc37)) (hd := F14_d2) (h := by kernel_rfl)
  · intro hr
    obtain rfl := Option.some.inj hr
    show AWp Try.prog _ (Ends1 ((F14_x2 h x1 x2 x3 v4 v5 v6) (1 : Nat)).1 ((F14_x2 h x1 x2 x3 v4 v5 v6) (1 : Nat)).2) _
    exact pEnd_sound good (L := F14_L) (D := F14_D) (its := [.g, (.b false)]) (ds := F14_m2_2) (ks := []) (e := ((F14_x2 h x1 x2 x3 v4 v5 v6) (1 : Nat)).1) (s2 := ((F14_x2 h x1 x2 x3 v4 v5 v6) (1 : Nat)).2) (hC := (ai c29 trivial)) (hd := F14_d2) (h := by kernel_rfl)
theorem F14_l2_0 (h : AHeap) (x1 : Int) (x2 : Int) (x3 : Bool) (l4 : List (Int × Int × Int × Int)) (v4 : Hd) (hv4 : SlE E57 4 h (sv v4) l4) (l5 : List (Int × Int × Int × Int)) (v5 : Hd) (hv5 : SlE E59 4 h (sv v5) l5) (l6 : List (Int × Int)) (v6 : Hd) (hv6 : SlE E61 2 h (sv v6) l6) (x : Int) (r : Nat) (hl : loopO (fun (s : Int) => F14_s2 x1 x2 x3 l4 l5 l6 s) x = some r) (q0 : Nat.beq r 0 = true) : AWp Try.prog (.loop (codeOf Try.prog 14 [1, 1, 1, 1, 1, 0, 1, 0, 0])) (Ends1 .ret (F14_x2_0 h x1 x2 x3 v4 v5 v6 r)) ((fun (s : Int) => (F14_h2 h x1 x2 x3 v4 v5 v6 s)) x) := by
  have k := loop_fun (P := Try.prog) (c := (codeOf Try.prog 14 [1, 1, 1, 1, 1, 0, 1, 0, 0])) (step := (fun (s : Int) => F14_s2 x1 x2 x3 l4 l5 l6 s)) (hd := (fun (s : Int) => (F14_h2 h x1 x2 x3 v4 v5 v6 s))) (X := (F14_x2 h x1 x2 x3 v4 v5 v6)) (by intro t; unfold F14_x2; cases Nat.beq t 0 <;> (intro h; cases h)) (fun x => F14_r2 h x1 x2 x3 l4 v4 hv4 l5 v5 hv5 l6 v6 hv6 x) hl
  simp only [F14_x2, q0, cond_true, cond_false] at k
  exact k
theorem F14_l2_1 (h : AHeap) (x1 : Int) (x2 : Int) (x3 : Bool) (l4 : List (Int × Int × Int × Int)) (v4 : Hd) (hv4 : SlE E57 4 h (sv v4) l4) (l5 : List (Int × Int × Int × Int)) (v5 : Hd) (hv5 : SlE E59 4 h (sv v5) l5) (l6 : List (Int × Int)) (v6 : Hd) (hv6 : SlE E61 2 h (sv v6) l6) (x : Int) (r : Nat) (hl : loopO (fun (s : Int) => F14_s2 x1 x2 x3 l4 l5 l6 s) x = some r) (q0 : Nat.beq r 0 = false) : AWp Try.prog (.loop (codeOf Try.prog 14 [1, 1, 1, 1, 1, 0, 1, 0, 0])) (Ends1 (.exit 2) (F14_x2_1 h x1 x2 x3 v4 v5 v6 r)) ((fun (s : Int) => (F14_h2 h x1 x2 x3 v4 v5 v6 s)) x) := by
  have k := loop_fun (P := Try.prog) (c := (codeOf Try.prog 14 [1, 1, 1, 1, 1, 0, 1, 0, 0])) (step := (fun (s : Int) => F14_s2 x1 x2 x3 l4 l5 l6 s)) (hd := (fun (s : Int) => (F14_h2 h x1 x2 x3 v4 v5 v6 s))) (X := (F14_x2 h x1 x2 x3 v4 v5 v6)) (by intro t; unfold F14_x2; cases Nat.beq t 0 <;> (intro h; cases h)) (fun x => F14_r2 h x1 x2 x3 l4 v4 hv4 l5 v5 hv5 l6 v6 hv6 x) hl
  simp only [F14_x2, q0, cond_true, cond_false] at k
  exact k
def F14_m3_2 : List Bool := (true :: false :: true :: false :: (rp 271 true []))
def F14_m3_1 : List Bool := (true :: false :: true :: false :: (rp 136 true (false :: false :: (rp 133 true []))))
def F14_m3_0 : List Bool := (true :: true :: false :: (rp 272 true []))
def F14_s3 (l5 : List (Int × Int × Int × Int)) (a40 : Int) : Option (Int ⊕ Nat) :=
  (bif decide (a40 < (l5.length : Int)) then
   (Option.bind (at? l5 a40) fun y42 =>
   (bif decide (y42.1 < 1) then
    some (.inr 0)
   else
    (bif decide (y42.1 > 4) then
     some (.inr 0)
    else
     (bif decide (y42.2.2.2 < 1) then
      some (.inr 0)
     else
      (bif decide (y42.2.2.2 > 1024) then
       some (.inr 0)
      else
       some (.inl (IntKind.i64.wrap (a40 + 1))))))))
  else
   some (.inr 1))
def F14_h3 (h : AHeap) (x1 : Int) (x2 : Int) (x3 : Bool) (v4 : Hd) (l5 : List (Int × Int × Int × Int)) (v5 : Hd) (v6 : Hd)  (a40 : Int) : AS := ⟨(junk :: (.pointer (some ⟨1, 0, none⟩)) :: junk :: (.int .i64 (IntKind.i64.wrap ((IntKind.i64.wrap (x1 + x2)) + 2))) :: (rp 136 junk ((.int .i64 (l5.length : Int)) :: (.int .i64 a40) :: (rp 133 junk [])))), [(1, [.int .i64 x1, .int .i64 x2, .bool x3, (sv v4), (sv v5), (sv v6)])], h⟩
theorem F14_d3 : drawsOk F14_D (codeOf Try.prog 14 [1, 1, 1, 1, 1, 1, 0, 1, 0, 0]) = true := by kernel_rfl
def F14_x3_0 (h : AHeap) (x1 : Int) (x2 : Int) (x3 : Bool) (v4 : Hd) (v5 : Hd) (v6 : Hd)  (r : Nat) : AS := ⟨(junk :: junk :: (.bool false) :: (rp 272 junk [])), [], h⟩
def F14_x3_1 (h : AHeap) (x1 : Int) (x2 : Int) (x3 : Bool) (v4 : Hd) (v5 : Hd) (v6 : Hd)  (r : Nat) : AS := ⟨(junk :: (.pointer (some ⟨1, 0, none⟩)) :: junk :: (.int .i64 (IntKind.i64.wrap ((IntKind.i64.wrap (x1 + x2)) + 2))) :: (rp 271 junk [])), [(1, [.int .i64 x1, .int .i64 x2, .bool x3, (sv v4), (sv v5), (sv v6)])], h⟩
def F14_x3 (h : AHeap) (x1 : Int) (x2 : Int) (x3 : Bool) (v4 : Hd) (v5 : Hd) (v6 : Hd) (r : Nat) : Exit × AS := (bif Nat.beq r 0 then (.ret, (F14_x3_0 h x1 x2 x3 v4 v5 v6 r)) else ((.exit 4), (F14_x3_1 h x1 x2 x3 v4 v5 v6 r)))
set_option maxRecDepth 100000 in
theorem F14_r3 (h : AHeap) (x1 : Int) (x2 : Int) (x3 : Bool) (v4 : Hd) (l5 : List (Int × Int × Int × Int)) (v5 : Hd) (hv5 : SlE E59 4 h (sv v5) l5) (v6 : Hd) (a40 : Int) (o : Int ⊕ Nat) : F14_s3 l5 a40 = some o → RdF Try.prog (codeOf Try.prog 14 [1, 1, 1, 1, 1, 1, 0, 1, 0, 0]) (fun (s : Int) => (F14_h3 h x1 x2 x3 v4 l5 v5 v6 s)) (F14_x3 h x1 x2 x3 v4 v5 v6) (F14_h3 h x1 x2 x3 v4 l5 v5 v6 a40) o := by
  unfold F14_s3
  refine dec_bif (fun c41 => ?_) (fun c41 => ?_)
  · refine bind_opt fun y42 e42 => ?_
    obtain ⟨id42, off42, g42, cs42, ix42, at42, rfl⟩ := SlE.at hv5 e42
    have kc43 := (ai (At.one (P := Try.prog) (t := 3) (v := .int .i64 y42.1) at42 (by kernel_rfl) 0 rfl rfl) (ai ix42 (ai c41 trivial)))
    refine dec_bif (fun c43 => ?_) (fun c43 => ?_)
    · intro hr
      obtain rfl := Option.some.inj hr
      show AWp Try.prog _ (Ends1 ((F14_x3 h x1 x2 x3 v4 v5 v6) (0 : Nat)).1 ((F14_x3 h x1 x2 x3 v4 v5 v6) (0 : Nat)).2) _
      exact pEnd_sound good (L := F14_L) (D := F14_D) (its := [.g, (.b true), .g, .g, .g, .g, .g, (.ix id42 off42 g42), .g, (.ld (.int .i64 y42.1)), .g, .g, .n, .n, .n, .n, .n, .n, .n, (.p true), .g, .n, .n, .n, .n, .n, .n, .n, .g, .g, .n, .n, .n, .n, .n, .n, .n, .g, (.b true), .g]) (ds := F14_m3_0) (ks := [1]) (e := ((F14_x3 h x1 x2 x3 v4 v5 v6) (0 : Nat)).1) (s2 := ((F14_x3 h x1 x2 x3 v4 v5 v6) (0 : Nat)).2) (hC := (ai l_t (ai (g_tf l_t) (ai (g_tf l_t) (ai (g_tf l_t) (ai (g_tf l_t) (ai (g_tf l_t) (ai (g_tf l_t) (ai (g_tf l_t) (ai (g_tf l_t) (ai (g_tf l_t) (ai (g_tf l_t) (ai (g_tf l_t) (ai (g_tf l_t) (ai (g_tf l_t) (ai (g_tf l_t) (ai c43 (ai (g_tf c43) (ai (g_tf c43) (ai (g_tf c43) (ai (g_tf c43) (ai (g_tf c43) (ai (g_tf c43) (ai (g_tf c43) kc43)))))))))))))))))))))))) (hd := F14_d3) (h := by kernel_rfl)
    · have kc44 := (ai c43 (ai (g_ff c43) (ai (At.one (P := Try.prog) (t := 3) (v := .int .i64 y42.1) at42 (by kernel_rfl) 0 rfl rfl) (ai (g_ff c43) (ai (g_ff c43) (ai ix42 (ai (g_ff c43) (ai (g_ff c43) (ai (g_ff c43) (ai (g_ff c43) kc43))))))))))
      refine dec_bif (fun c44 => ?_) (fun c44 => ?_)
      · intro hr
        obtain rfl := Option.some.inj hr
        show AWp Try.prog _ (Ends1 ((F14_x3 h x1 x2 x3 v4 v5 v6) (0 : Nat)).1 ((F14_x3 h x1 x2 x3 v4 v5 v6) (0 : Nat)).2) _
        exact pEnd_sound good (L := F14_L) (D := F14_D) (its := [.g, (.b true), .g, .g, .g, .g, .g, (.ix id42 off42 g42), .g, (.ld (.int .i64 y42.1)), .g, .g, (.w .g), (.w .g), (.w .g), (.w (.ix id42 off42 g42)), (.w .g), (.w (.ld (.int .i64 y42.1))), (.w .g), (.p false), .g, .n, .n, .n, .n, .n, .n, .n, (.p true), .g, .n, .n, .n, .n, .n, .n, .n, .g, (.b true), .g]) (ds := F14_m3_0) (ks := [1]) (e := ((F14_x3 h x1 x2 x3 v4 v5 v6) (0 : Nat)).1) (s2 := ((F14_x3 h x1 x2 x3 v4 v5 v6) (0 : Nat)).2) (hC := (ai l_t (ai (g_tf l_t) (ai (g_tf l_t) (ai (g_tf l_t) (ai (g_tf l_t) (ai (g_tf l_t) (ai (g_tf l_t) (ai (g_tf l_t) (ai c44 (ai (g_tf c44) (ai (g_tf c44) (ai (g_tf c44) (ai (g_tf c44) (ai (g_tf c44) (ai (g_tf c44) (ai (g_tf c44) kc44))))))))))))))))) (hd := F14_d3) (h := by kernel_rfl)
      · have kc45 := (ai c44 (ai (g_ff c44) (ai (At.one (P := Try.prog) (t := 3) (v := .int .i64 y42.2.2.2) at42 (by kernel_rfl) 3 rfl rfl) (ai (g_ff c44) (ai (g_ff c44) (ai ix42 (ai (g_ff c44) (ai (g_ff c44) (ai (g_ff c44) (ai (g_ff c44) kc44))))))))))
        refine dec_bif (fun c45 => ?_) (fun c45 => ?_)
        · intro hr
          obtain rfl := Option.some.inj hr
          show AWp Try.prog _ (Ends1 ((F14_x3 h x1 x2 x3 v4 v5 v6) (0 : Nat)).1 ((F14_x3 h x1 x2 x3 v4 v5 v6) (0 : Nat)).2) _
          exact pEnd_sound good (L := F14_L) (D := F14_D) (its := [.g, (.b true), .g, .g, .g, .g, .g, (.ix id42 off42 g42), .g, (.ld (.int .i64 y42.1)), .g, .g, (.w .g), (.w .g), (.w .g), (.w (.ix id42 off42 g42)), (.w .g), (.w (.ld (.int .i64 y42.1))), (.w .g), (.p false), .g, (.w .g), (.w .g), (.w .g), (.w (.ix id42 off42 g42)), (.w .g), (.w (.ld (.int .i64 y42.2.2.2))), (.w .g), (.p false), .g, .n, .n, .n, .n, .n, .n, .n, (.p true), (.b true), .g]) (ds := F14_m3_0) (ks := [1]) (e := ((F14_x3 h x1 x2 x3 v4 v5 v6) (0 : Nat)).1) (s2 := ((F14_x3 h x1 x2 x3 v4 v5 v6) (0 : Nat)).2) (hC := (ai l_t (ai c45 (ai (g_tf c45) (ai (g_tf c45) (ai (g_tf c45) (ai (g_tf c45) (ai (g_tf c45) (ai (g_tf c45) (ai (g_tf c45) kc45)))))))))) (hd := F14_d3) (h := by kernel_rfl)
        · have kc46 := (ai c45 (ai (g_ff c45) (ai (At.one (P := Try.prog) (t := 3) (v := .int .i64 y42.2.2.2) at42 (by kernel_rfl) 3 rfl rfl) (ai (g_ff c45) (ai (g_ff c45) (ai ix42 (ai (g_ff c45) (ai (g_ff c45) (ai (g_ff c45) (ai (g_ff c45) kc45))))))))))
          refine dec_bif (fun c46 => ?_) (fun c46 => ?_)
          · intro hr
            obtain rfl := Option.some.inj hr
            show AWp Try.prog _ (Ends1 ((F14_x3 h x1 x2 x3 v4 v5 v6) (0 : Nat)).1 ((F14_x3 h x1 x2 x3 v4 v5 v6) (0 : Nat)).2) _
            exact pEnd_sound good (L := F14_L) (D := F14_D) (its := [.g, (.b true), .g, .g, .g, .g, .g, (.ix id42 off42 g42), .g, (.ld (.int .i64 y42.1)), .g, .g, (.w .g), (.w .g), (.w .g), (.w (.ix id42 off42 g42)), (.w .g), (.w (.ld (.int .i64 y42.1))), (.w .g), (.p false), .g, (.w .g), (.w .g), (.w .g), (.w (.ix id42 off42 g42)), (.w .g), (.w (.ld (.int .i64 y42.2.2.2))), (.w .g), (.p false), .g, (.w .g), (.w .g), (.w .g), (.w (.ix id42 off42 g42)), (.w .g), (.w (.ld (.int .i64 y42.2.2.2))), (.w .g), (.p false), (.b true), .g]) (ds := F14_m3_0) (ks := [1]) (e := ((F14_x3 h x1 x2 x3 v4 v5 v6) (0 : Nat)).1) (s2 := ((F14_x3 h x1 x2 x3 v4 v5 v6) (0 : Nat)).2) (hC := (ai c46 kc46)) (hd := F14_d3) (h := by kernel_rfl)
          · intro hr
            obtain rfl := Option.some.inj hr
            show AWp Try.prog _ (Ends1 .normal (F14_h3 h x1 x2 x3 v4 l5 v5 v6 (IntKind.i64.wrap (a40 + 1)))) _
            exact pEnd_sound good (L := F14_L) (D := F14_D) (its := [.g, (.b true), .g, .g, .g, .g, .g, (.ix id42 off42 g42), .g, (.ld (.int .i64 y42.1)), .g, .g, (.w .g), (.w .g), (.w .g), (.w (.ix id42 off42 g42)), (.w .g), (.w (.ld (.int .i64 y42.1))), (.w .g), (.p false), .g, (.w .g), (.w .g), (.w .g), (.w (.ix id42 off42 g42)), (.w .g), (.w (.ld (.int .i64 y42.2.2.2))), (.w .g), (.p false), .g, (.w .g), (.w .g), (.w .g), (.w (.ix id42 off42 g42)), (.w .g), (.w (.ld (.int .i64 y42.2.2.2))), (.w .g), (.p false), (.b false), .g, .g]) (ds := F14_m3_1) (ks := []) (e := .normal) (s2 := (F14_h3 h x1 x2 x3 v4 l5 v5 v6 (IntKind.i64.wrap (a40 + 1)))) (hC := (ai c46 kc46)) (hd := F14_d3) (h := by kernel_rfl)
  · intro hr
    obtain rfl := Option.some.inj hr
    show AWp Try.prog _ (Ends1 ((F14_x3 h x1 x2 x3 v4 v5 v6) (1 : Nat)).1 ((F14_x3 h x1 x2 x3 v4 v5 v6) (1 : Nat)).2) _
    exact pEnd_sound good (L := F14_L) (D := F14_D) (its := [.g, (.b false)]) (ds := F14_m3_2) (ks := []) (e := ((F14_x3 h x1 x2 x3 v4 v5 v6) (1 : Nat)).1) (s2 := ((F14_x3 h x1 x2 x3 v4 v5 v6) (1 : Nat)).2) (hC := (ai c41 trivial)) (hd := F14_d3) (h := by kernel_rfl)
theorem F14_l3_0 (h : AHeap) (x1 : Int) (x2 : Int) (x3 : Bool) (v4 : Hd) (l5 : List (Int × Int × Int × Int)) (v5 : Hd) (hv5 : SlE E59 4 h (sv v5) l5) (v6 : Hd) (x : Int) (r : Nat) (hl : loopO (fun (s : Int) => F14_s3 l5 s) x = some r) (q0 : Nat.beq r 0 = true) : AWp Try.prog (.loop (codeOf Try.prog 14 [1, 1, 1, 1, 1, 1, 0, 1, 0, 0])) (Ends1 .ret (F14_x3_0 h x1 x2 x3 v4 v5 v6 r)) ((fun (s : Int) => (F14_h3 h x1 x2 x3 v4 l5 v5 v6 s)) x) := by
  have k := loop_fun (P := Try.prog) (c := (codeOf Try.prog 14 [1, 1, 1, 1, 1, 1, 0, 1, 0, 0])) (step := (fun (s : Int) => F14_s3 l5 s)) (hd := (fun (s : Int) => (F14_h3 h x1 x2 x3 v4 l5 v5 v6 s))) (X := (F14_x3 h x1 x2 x3 v4 v5 v6)) (by intro t; unfold F14_x3; cases Nat.beq t 0 <;> (intro h; cases h)) (fun x => F14_r3 h x1 x2 x3 v4 l5 v5 hv5 v6 x) hl
  simp only [F14_x3, q0, cond_true, cond_false] at k
  exact k
theorem F14_l3_1 (h : AHeap) (x1 : Int) (x2 : Int) (x3 : Bool) (v4 : Hd) (l5 : List (Int × Int × Int × Int)) (v5 : Hd) (hv5 : SlE E59 4 h (sv v5) l5) (v6 : Hd) (x : Int) (r : Nat) (hl : loopO (fun (s : Int) => F14_s3 l5 s) x = some r) (q0 : Nat.beq r 0 = false) : AWp Try.prog (.loop (codeOf Try.prog 14 [1, 1, 1, 1, 1, 1, 0, 1, 0, 0])) (Ends1 (.exit 4) (F14_x3_1 h x1 x2 x3 v4 v5 v6 r)) ((fun (s : Int) => (F14_h3 h x1 x2 x3 v4 l5 v5 v6 s)) x) := by
  have k := loop_fun (P := Try.prog) (c := (codeOf Try.prog 14 [1, 1, 1, 1, 1, 1, 0, 1, 0, 0])) (step := (fun (s : Int) => F14_s3 l5 s)) (hd := (fun (s : Int) => (F14_h3 h x1 x2 x3 v4 l5 v5 v6 s))) (X := (F14_x3 h x1 x2 x3 v4 v5 v6)) (by intro t; unfold F14_x3; cases Nat.beq t 0 <;> (intro h; cases h)) (fun x => F14_r3 h x1 x2 x3 v4 l5 v5 hv5 v6 x) hl
  simp only [F14_x3, q0, cond_true, cond_false] at k
  exact k
def F14_m4_2 : List Bool := (true :: false :: (rp 273 true []))
def F14_m4_1 : List Bool := (true :: false :: true :: false :: (rp 176 true (false :: false :: (rp 93 true []))))
def F14_m4_0 : List Bool := (true :: true :: false :: (rp 272 true []))
def F14_s4 (x1 : Int) (x2 : Int) (x3 : Bool) (l4 : List (Int × Int × Int × Int)) (l5 : List (Int × Int × Int × Int)) (l6 : List (Int × Int)) (a49 : Int) : Option (Int ⊕ Nat) :=
  (bif (F14__6 x1 x2 a49) then
   (Option.bind (at? l4 (F14__7 x1 x2 a49)) fun y51 =>
   (bif (y51.1 != a49) then
    some (.inr 0)
   else
    (bif (y51.2.1 != (F26 x1 x2 x3 l4 l5 l6)) then
     some (.inr 0)
    else
     (bif (y51.2.2.2 != 0) then
      some (.inr 0)
     else
      (bif decide (a49 < x1) then
       (Option.bind (at? l6 a49) fun y57 =>
       (bif decide (y51.2.2.1 < (if y57.2 > 1 then y57.2 else 1)) then
        some (.inr 0)
       else
        some (.inl (IntKind.i64.wrap (a49 + 1)))))
      else
       some (.inl (IntKind.i64.wrap (a49 + 1))))))))
  else
   some (.inr 1))
def F14_h4 (h : AHeap) (x1 : Int) (x2 : Int) (x3 : Bool) (v4 : Hd) (v5 : Hd) (v6 : Hd)  (a49 : Int) : AS := ⟨(junk :: (.pointer (some ⟨1, 0, none⟩)) :: junk :: (.int .i64 (IntKind.i64.wrap ((IntKind.i64.wrap (x1 + x2)) + 2))) :: (rp 176 junk ((.int .i64 (IntKind.i64.wrap ((IntKind.i64.wrap ((IntKind.i64.wrap (x1 + x2)) + 2)) - 2))) :: (.int .i64 a49) :: (rp 93 junk [])))), [(1, [.int .i64 x1, .int .i64 x2, .bool x3, (sv v4), (sv v5), (sv v6)])], h⟩
theorem F14_d4 : drawsOk F14_D (codeOf Try.prog 14 [1, 1, 1, 1, 1, 1, 1, 0, 1, 0, 0]) = true := by kernel_rfl
def F14_x4_0 (h : AHeap) (x1 : Int) (x2 : Int) (x3 : Bool) (v4 : Hd) (v5 : Hd) (v6 : Hd)  (r : Nat) : AS := ⟨(junk :: junk :: (.bool false) :: (rp 272 junk [])), [], h⟩
def F14_x4_1 (h : AHeap) (x1 : Int) (x2 : Int) (x3 : Bool) (v4 : Hd) (v5 : Hd) (v6 : Hd)  (r : Nat) : AS := ⟨(junk :: (.pointer (some ⟨1, 0, none⟩)) :: (rp 273 junk [])), [(1, [.int .i64 x1, .int .i64 x2, .bool x3, (sv v4), (sv v5), (sv v6)])], h⟩
def F14_x4 (h : AHeap) (x1 : Int) (x2 : Int) (x3 : Bool) (v4 : Hd) (v5 : Hd) (v6 : Hd) (r : Nat) : Exit × AS := (bif Nat.beq r 0 then (.ret, (F14_x4_0 h x1 x2 x3 v4 v5 v6 r)) else ((.exit 6), (F14_x4_1 h x1 x2 x3 v4 v5 v6 r)))
set_option maxRecDepth 100000 in
theorem F14_r4 (h : AHeap) (x1 : Int) (x2 : Int) (x3 : Bool) (l4 : List (Int × Int × Int × Int)) (v4 : Hd) (hv4 : SlE E57 4 h (sv v4) l4) (l5 : List (Int × Int × Int × Int)) (v5 : Hd) (hv5 : SlE E59 4 h (sv v5) l5) (l6 : List (Int × Int)) (v6 : Hd) (hv6 : SlE E61 2 h (sv v6) l6) (a49 : Int) (o : Int ⊕ Nat) : F14_s4 x1 x2 x3 l4 l5 l6 a49 = some o → RdF Try.prog (codeOf Try.prog 14 [1, 1, 1, 1, 1, 1, 1, 0, 1, 0, 0]) (fun (s : Int) => (F14_h4 h x1 x2 x3 v4 v5 v6 s)) (F14_x4 h x1 x2 x3 v4 v5 v6) (F14_h4 h x1 x2 x3 v4 v5 v6 a49) o := by
  unfold F14_s4
  refine dec_bif (fun c50 => ?_) (fun c50 => ?_)
  · refine bind_opt fun y51 e51 => ?_
    obtain ⟨id51, off51, g51, cs51, ix51, at51, rfl⟩ := SlE.at hv4 e51
    have kc52 := (ai (At.agg (P := Try.prog) (t := 57) (v := .agg #[.int .i64 y51.1, .int .i64 y51.2.1, .int .i64 y51.2.2.1, .int .i64 y51.2.2.2]) (m := 4) at51 (by kernel_rfl) (by kernel_rfl) 0 (by kernel_rfl) rfl) (ai ix51 (ai c50 trivial)))
    refine dec_bif (fun c52 => ?_) (fun c52 => ?_)
    · intro hr
      obtain rfl := Option.some.inj hr
      show AWp Try.prog _ (Ends1 ((F14_x4 h x1 x2 x3 v4 v5 v6) (0 : Nat)).1 ((F14_x4 h x1 x2 x3 v4 v5 v6) (0 : Nat)).2) _
      exact pEnd_sound good (L := F14_L) (D := F14_D) (its := [.g, (.b true), .g, .g, .g, .g, .g, .g, .g, .g, (.ix id51 off51 g51), (.ld (.agg #[.int .i64 y51.1, .int .i64 y51.2.1, .int .i64 y51.2.2.1, .int .i64 y51.2.2.2])), .g, .g, .g, .g, .g, .g, .g, .n, .n, .n, .n, .n, (.p true), .g, .n, .n, .n, .g, .g, .n, .n, .n, .n, .n, .n, .n, .n, .n, .n, .n, .n, .n, .n, .n, .n, .g, (.b true), .g]) (ds := F14_m4_0) (ks := [1, 10]) (e := ((F14_x4 h x1 x2 x3 v4 v5 v6) (0 : Nat)).1) (s2 := ((F14_x4 h x1 x2 x3 v4 v5 v6) (0 : Nat)).2) (hC := (ai l_t (ai (g_tf l_t) (ai l_f (ai l_f (ai l_f (ai l_f (ai l_f (ai l_f (ai l_f (ai l_f (ai l_f (ai l_f (ai (g_tf l_t) (ai (g_tf l_t) (ai (g_tf l_t) (ai (g_tf l_t) (ai (g_tf l_t) (ai (g_tf l_t) (ai (g_tf l_t) (ai (g_tf l_t) (ai c52 (ai (g_tf c52) (ai (g_tf c52) (ai (g_tf c52) (ai (g_tf c52) (ai (g_tf c52) kc52))))))))))))))))))))))))))) (hd := F14_d4) (h := by kernel_rfl)
    · have kc54 := (ai c52 (ai (g_ff c52) (ai (show AKeep h h from (AHeap.sub_refl h)) (ai (F26_spec x1 x2 x3 l4 l5 l6 v4 v5 v6 h hv4 hv5 hv6 _ rfl) (ai (g_ff c52) (ai (g_ff c52) (ai (g_ff c52) (ai (g_ff c52) kc52))))))))
      refine dec_bif (fun c54 => ?_) (fun c54 => ?_)
      · intro hr
        obtain rfl := Option.some.inj hr
        show AWp Try.prog _ (Ends1 ((F14_x4 h x1 x2 x3 v4 v5 v6) (0 : Nat)).1 ((F14_x4 h x1 x2 x3 v4 v5 v6) (0 : Nat)).2) _
        exact pEnd_sound good (L := F14_L) (D := F14_D) (its := [.g, (.b true), .g, .g, .g, .g, .g, .g, .g, .g, (.ix id51 off51 g51), (.ld (.agg #[.int .i64 y51.1, .int .i64 y51.2.1, .int .i64 y51.2.2.1, .int .i64 y51.2.2.2])), .g, .g, .g, .g, .g, .g, .g, (.w .g), (.w .g), (.w .g), (.w (.c (.int .i64 (F26 x1 x2 x3 l4 l5 l6)) h)), (.w .g), (.p false), .g, .n, .n, .n, (.p true), .g, .n, .n, .n, .n, .n, .n, .n, .n, .n, .n, .n, .n, .n, .n, .n, .n, .g, (.b true), .g]) (ds := F14_m4_0) (ks := [1, 10]) (e := ((F14_x4 h x1 x2 x3 v4 v5 v6) (0 : Nat)).1) (s2 := ((F14_x4 h x1 x2 x3 v4 v5 v6) (0 : Nat)).2) (hC := (ai l_t (ai (g_tf l_t) (ai l_f (ai l_f (ai l_f (ai l_f (ai l_f (ai l_f (ai l_f (ai l_f (ai l_f (ai l_f (ai (g_tf l_t) (ai (g_tf l_t) (ai (g_tf l_t) (ai (g_tf l_t) (ai (g_tf l_t) (ai c54 (ai (g_tf c54) (ai (g_tf c54) (ai (g_tf c54) kc54)))))))))))))))))))))) (hd := F14_d4) (h := by kernel_rfl)
      · have kc55 := (ai c54 (ai (g_ff c54) (ai (g_ff c54) (ai (g_ff c54) kc54))))
        refine dec_bif (fun c55 => ?_) (fun c55 => ?_)
        · intro hr
          obtain rfl := Option.some.inj hr
          show AWp Try.prog _ (Ends1 ((F14_x4 h x1 x2 x3 v4 v5 v6) (0 : Nat)).1 ((F14_x4 h x1 x2 x3 v4 v5 v6) (0 : Nat)).2) _
          exact pEnd_sound good (L := F14_L) (D := F14_D) (its := [.g, (.b true), .g, .g, .g, .g, .g, .g, .g, .g, (.ix id51 off51 g51), (.ld (.agg #[.int .i64 y51.1, .int .i64 y51.2.1, .int .i64 y51.2.2.1, .int .i64 y51.2.2.2])), .g, .g, .g, .g, .g, .g, .g, (.w .g), (.w .g), (.w .g), (.w (.c (.int .i64 (F26 x1 x2 x3 l4 l5 l6)) h)), (.w .g), (.p false), .g, (.w .g), (.w .g), (.w .g), (.p false), .g, .n, .n, .n, .n, .n, .n, .n, .n, .n, .n, .n, .n, .n, .n, .n, .n, (.p true), (.b true), .g]) (ds := F14_m4_0) (ks := [1, 10]) (e := ((F14_x4 h x1 x2 x3 v4 v5 v6) (0 : Nat)).1) (s2 := ((F14_x4 h x1 x2 x3 v4 v5 v6) (0 : Nat)).2) (hC := (ai l_t (ai c55 (ai (g_tf c55) (ai l_f (ai l_f (ai l_f (ai l_f (ai l_f (ai l_f (ai l_f (ai l_f (ai l_f (ai l_f (ai (g_tf c55) (ai (g_tf c55) (ai (g_tf c55) (ai (g_tf c55) (ai (g_tf c55) kc55))))))))))))))))))) (hd := F14_d4) (h := by kernel_rfl)
        · have kc56 := (ai (g_ff c55) (ai (g_ff c55) (ai (g_ff c55) (ai (g_ff c55) (ai (g_ff c55) kc55)))))
          refine dec_bif (fun c56 => ?_) (fun c56 => ?_)
          · refine bind_opt fun y57 e57 => ?_
            obtain ⟨id57, off57, g57, cs57, ix57, at57, rfl⟩ := SlE.at hv6 e57
            have kc58 := (ai c55 (ai c56 (ai (g_ff c55) (ai (g_tt c56) (ai (g_tt c56) (ai (At.one (P := Try.prog) (t := 3) (v := .int .i64 y57.2) at57 (by kernel_rfl) 1 rfl rfl) (ai (g_tt c56) (ai (g_tt c56) (ai ix57 (ai (g_tt c56) (ai (g_tt c56) (ai (g_tt c56) (ai (g_tt c56) (ai (g_tt c56) (ai (g_tt c56) kc56)))))))))))))))
            refine dec_bif (fun c58 => ?_) (fun c58 => ?_)
            · intro hr
              obtain rfl := Option.some.inj hr
              show AWp Try.prog _ (Ends1 ((F14_x4 h x1 x2 x3 v4 v5 v6) (0 : Nat)).1 ((F14_x4 h x1 x2 x3 v4 v5 v6) (0 : Nat)).2) _
              exact pEnd_sound good (L := F14_L) (D := F14_D) (its := [.g, (.b true), .g, .g, .g, .g, .g, .g, .g, .g, (.ix id51 off51 g51), (.ld (.agg #[.int .i64 y51.1, .int .i64 y51.2.1, .int .i64 y51.2.2.1, .int .i64 y51.2.2.2])), .g, .g, .g, .g, .g, .g, .g, (.w .g), (.w .g), (.w .g), (.w (.c (.int .i64 (F26 x1 x2 x3 l4 l5 l6)) h)), (.w .g), (.p false), .g, (.w .g), (.w .g), (.w .g), (.p false), .g, (.w .g), (.w .g), (.w .g), (.w .g), (.w .g), (.w .g), (.w .g), (.w .g), (.w .g), (.w .g), (.w (.ix id57 off57 g57)), (.w .g), (.w (.ld (.int .i64 y57.2))), (.w .g), (.w .g), (.w (.p true)), (.p false), (.b true), .g]) (ds := F14_m4_0) (ks := [1, 10]) (e := ((F14_x4 h x1 x2 x3 v4 v5 v6) (0 : Nat)).1) (s2 := ((F14_x4 h x1 x2 x3 v4 v5 v6) (0 : Nat)).2) (hC := (ai c58 kc58)) (hd := F14_d4) (h := by kernel_rfl)
            · intro hr
              obtain rfl := Option.some.inj hr
              show AWp Try.prog _ (Ends1 .normal (F14_h4 h x1 x2 x3 v4 v5 v6 (IntKind.i64.wrap (a49 + 1)))) _
              exact pEnd_sound good (L := F14_L) (D := F14_D) (its := [.g, (.b true), .g, .g, .g, .g, .g, .g, .g, .g, (.ix id51 off51 g51), (.ld (.agg #[.int .i64 y51.1, .int .i64 y51.2.1, .int .i64 y51.2.2.1, .int .i64 y51.2.2.2])), .g, .g, .g, .g, .g, .g, .g, (.w .g), (.w .g), (.w .g), (.w (.c (.int .i64 (F26 x1 x2 x3 l4 l5 l6)) h)), (.w .g), (.p false), .g, (.w .g), (.w .g), (.w .g), (.p false), .g, (.w .g), (.w .g), (.w .g), (.w .g), (.w .g), (.w .g), (.w .g), (.w .g), (.w .g), (.w .g), (.w (.ix id57 off57 g57)), (.w .g), (.w (.ld (.int .i64 y57.2))), (.w .g), (.w .g), (.w (.p true)), (.p false), (.b false), .g, .g]) (ds := F14_m4_1) (ks := [10]) (e := .normal) (s2 := (F14_h4 h x1 x2 x3 v4 v5 v6 (IntKind.i64.wrap (a49 + 1)))) (hC := (ai c58 kc58)) (hd := F14_d4) (h := by kernel_rfl)
          · intro hr
            obtain rfl := Option.some.inj hr
            show AWp Try.prog _ (Ends1 .normal (F14_h4 h x1 x2 x3 v4 v5 v6 (IntKind.i64.wrap (a49 + 1)))) _
            exact pEnd_sound good (L := F14_L) (D := F14_D) (its := [.g, (.b true), .g, .g, .g, .g, .g, .g, .g, .g, (.ix id51 off51 g51), (.ld (.agg #[.int .i64 y51.1, .int .i64 y51.2.1, .int .i64 y51.2.2.1, .int .i64 y51.2.2.2])), .g, .g, .g, .g, .g, .g, .g, (.w .g), (.w .g), (.w .g), (.w (.c (.int .i64 (F26 x1 x2 x3 l4 l5 l6)) h)), (.w .g), (.p false), .g, (.w .g), (.w .g), (.w .g), (.p false), .g, (.w .g), (.w .g), (.w .g), (.w .g), (.w .g), .n, .n, .n, .n, .n, .n, .n, .n, .n, .n, (.w (.p false)), (.p false), (.b false), .g, .g]) (ds := F14_m4_1) (ks := [10]) (e := .normal) (s2 := (F14_h4 h x1 x2 x3 v4 v5 v6 (IntKind.i64.wrap (a49 + 1)))) (hC := (ai l_f (ai c55 (ai c56 (ai (g_ff c55) (ai (g_ft c56) (ai (g_ft c56) (ai (g_ft c56) (ai (g_ft c56) (ai (g_ft c56) (ai (g_ft c56) (ai (g_ft c56) (ai (g_ft c56) (ai (g_ft c56) (ai (g_ft c56) kc56))))))))))))))) (hd := F14_d4) (h := by kernel_rfl)
  · intro hr
    obtain rfl := Option.some.inj hr
    show AWp Try.prog _ (Ends1 ((F14_x4 h x1 x2 x3 v4 v5 v6) (1 : Nat)).1 ((F14_x4 h x1 x2 x3 v4 v5 v6) (1 : Nat)).2) _
    exact pEnd_sound good (L := F14_L) (D := F14_D) (its := [.g, (.b false)]) (ds := F14_m4_2) (ks := []) (e := ((F14_x4 h x1 x2 x3 v4 v5 v6) (1 : Nat)).1) (s2 := ((F14_x4 h x1 x2 x3 v4 v5 v6) (1 : Nat)).2) (hC := (ai c50 trivial)) (hd := F14_d4) (h := by kernel_rfl)
theorem F14_l4_0 (h : AHeap) (x1 : Int) (x2 : Int) (x3 : Bool) (l4 : List (Int × Int × Int × Int)) (v4 : Hd) (hv4 : SlE E57 4 h (sv v4) l4) (l5 : List (Int × Int × Int × Int)) (v5 : Hd) (hv5 : SlE E59 4 h (sv v5) l5) (l6 : List (Int × Int)) (v6 : Hd) (hv6 : SlE E61 2 h (sv v6) l6) (x : Int) (r : Nat) (hl : loopO (fun (s : Int) => F14_s4 x1 x2 x3 l4 l5 l6 s) x = some r) (q0 : Nat.beq r 0 = true) : AWp Try.prog (.loop (codeOf Try.prog 14 [1, 1, 1, 1, 1, 1, 1, 0, 1, 0, 0])) (Ends1 .ret (F14_x4_0 h x1 x2 x3 v4 v5 v6 r)) ((fun (s : Int) => (F14_h4 h x1 x2 x3 v4 v5 v6 s)) x) := by
  have k := loop_fun (P := Try.prog) (c := (codeOf Try.prog 14 [1, 1, 1, 1, 1, 1, 1, 0, 1, 0, 0])) (step := (fun (s : Int) => F14_s4 x1 x2 x3 l4 l5 l6 s)) (hd := (fun (s : Int) => (F14_h4 h x1 x2 x3 v4 v5 v6 s))) (X := (F14_x4 h x1 x2 x3 v4 v5 v6)) (by intro t; unfold F14_x4; cases Nat.beq t 0 <;> (intro h; cases h)) (fun x => F14_r4 h x1 x2 x3 l4 v4 hv4 l5 v5 hv5 l6 v6 hv6 x) hl
  simp only [F14_x4, q0, cond_true, cond_false] at k
  exact k
theorem F14_l4_1 (h : AHeap) (x1 : Int) (x2 : Int) (x3 : Bool) (l4 : List (Int × Int × Int × Int)) (v4 : Hd) (hv4 : SlE E57 4 h (sv v4) l4) (l5 : List (Int × Int × Int × Int)) (v5 : Hd) (hv5 : SlE E59 4 h (sv v5) l5) (l6 : List (Int × Int)) (v6 : Hd) (hv6 : SlE E61 2 h (sv v6) l6) (x : Int) (r : Nat) (hl : loopO (fun (s : Int) => F14_s4 x1 x2 x3 l4 l5 l6 s) x = some r) (q0 : Nat.beq r 0 = false) : AWp Try.prog (.loop (codeOf Try.prog 14 [1, 1, 1, 1, 1, 1, 1, 0, 1, 0, 0])) (Ends1 (.exit 6) (F14_x4_1 h x1 x2 x3 v4 v5 v6 r)) ((fun (s : Int) => (F14_h4 h x1 x2 x3 v4 v5 v6 s)) x) := by
  have k := loop_fun (P := Try.prog) (c := (codeOf Try.prog 14 [1, 1, 1, 1, 1, 1, 1, 0, 1, 0, 0])) (step := (fun (s : Int) => F14_s4 x1 x2 x3 l4 l5 l6 s)) (hd := (fun (s : Int) => (F14_h4 h x1 x2 x3 v4 v5 v6 s))) (X := (F14_x4 h x1 x2 x3 v4 v5 v6)) (by intro t; unfold F14_x4; cases Nat.beq t 0 <;> (intro h; cases h)) (fun x => F14_r4 h x1 x2 x3 l4 v4 hv4 l5 v5 hv5 l6 v6 hv6 x) hl
  simp only [F14_x4, q0, cond_true, cond_false] at k
  exact k
def F14_m5_2 : List Bool := (rp 275 true [])
def F14_m5_1 : List Bool := (true :: false :: (rp 227 true (false :: false :: (rp 44 true []))))
def F14_m5_0 : List Bool := (true :: true :: false :: (rp 272 true []))
def F14_s5 (l5 : List (Int × Int × Int × Int)) (l6 : List (Int × Int)) (a61 : Int) : Option (Int ⊕ Nat) :=
  (bif decide (a61 < (l6.length : Int)) then
   (Option.bind (at? l6 a61) fun y63 =>
   (bif decide (y63.1 < (-1)) then
    some (.inr 0)
   else
    (bif decide (y63.1 ≥ (l5.length : Int)) then
     some (.inr 0)
    else
     (bif (y63.1 == (-1)) then
      (bif (y63.2 != 0) then
       some (.inr 0)
      else
       (bif decide (y63.1 ≥ 0) then
        (bif decide (y63.2 < 1) then
         some (.inr 0)
        else
         (bif decide (y63.2 > 256) then
          some (.inr 0)
         else
          some (.inl (IntKind.i64.wrap (a61 + 1)))))
       else
        some (.inl (IntKind.i64.wrap (a61 + 1)))))
     else
      (bif decide (y63.1 ≥ 0) then
       (bif decide (y63.2 < 1) then
        some (.inr 0)
       else
        (bif decide (y63.2 > 256) then
         some (.inr 0)
        else
         some (.inl (IntKind.i64.wrap (a61 + 1)))))
      else
       some (.inl (IntKind.i64.wrap (a61 + 1))))))))
  else
   some (.inr 1))
def F14_h5 (h : AHeap) (x1 : Int) (x2 : Int) (x3 : Bool) (v4 : Hd) (v5 : Hd) (l6 : List (Int × Int)) (v6 : Hd)  (a61 : Int) : AS := ⟨(junk :: (.pointer (some ⟨1, 0, none⟩)) :: (rp 227 junk ((.int .i64 (l6.length : Int)) :: (.int .i64 a61) :: (rp 44 junk [])))), [(1, [.int .i64 x1, .int .i64 x2, .bool x3, (sv v4), (sv v5), (sv v6)])], h⟩
theorem F14_d5 : drawsOk F14_D (codeOf Try.prog 14 [1, 1, 1, 1, 1, 1, 1, 1, 0, 1, 0, 0]) = true := by kernel_rfl
def F14_x5_0 (h : AHeap)  (r : Nat) : AS := ⟨(junk :: junk :: (.bool false) :: (rp 272 junk [])), [], h⟩
def F14_x5_1 (h : AHeap)  (r : Nat) : AS := ⟨(rp 275 junk []), [], h⟩
def F14_x5 (h : AHeap) (r : Nat) : Exit × AS := (bif Nat.beq r 0 then (.ret, (F14_x5_0 h r)) else ((.exit 8), (F14_x5_1 h r)))
set_option maxRecDepth 100000 in
theorem F14_r5 (h : AHeap) (x1 : Int) (x2 : Int) (x3 : Bool) (v4 : Hd) (l5 : List (Int × Int × Int × Int)) (v5 : Hd) (hv5 : SlE E59 4 h (sv v5) l5) (l6 : List (Int × Int)) (v6 : Hd) (hv6 : SlE E61 2 h (sv v6) l6) (a61 : Int) (o : Int ⊕ Nat) : F14_s5 l5 l6 a61 = some o → RdF Try.prog (codeOf Try.prog 14 [1, 1, 1, 1, 1, 1, 1, 1, 0, 1, 0, 0]) (fun (s : Int) => (F14_h5 h x1 x2 x3 v4 v5 l6 v6 s)) (F14_x5 h) (F14_h5 h x1 x2 x3 v4 v5 l6 v6 a61) o := by
  unfold F14_s5
  refine dec_bif (fun c62 => ?_) (fun c62 => ?_)
  · refine bind_opt fun y63 e63 => ?_
    obtain ⟨id63, off63, g63, cs63, ix63, at63, rfl⟩ := SlE.at hv6 e63
    have kc64 := (ai (At.agg (P := Try.prog) (t := 61) (v := .agg #[.int .i64 y63.1, .int .i64 y63.2]) (m := 2) at63 (by kernel_rfl) (by kernel_rfl) 0 (by kernel_rfl) rfl) (ai ix63 (ai c62 trivial)))
    refine dec_bif (fun c64 => ?_) (fun c64 => ?_)
    · intro hr
      obtain rfl := Option.some.inj hr
      show AWp Try.prog _ (Ends1 ((F14_x5 h) (0 : Nat)).1 ((F14_x5 h) (0 : Nat)).2) _
      exact pEnd_sound good (L := F14_L) (D := F14_D) (its := [.g, (.b true), .g, .g, .g, .g, .g, (.ix id63 off63 g63), (.ld (.agg #[.int .i64 y63.1, .int .i64 y63.2])), .g, .g, .g, .g, .g, .g, .n, .n, .n, .n, .n, .n, (.p true), .g, .n, .n, .n, .n, .n, .n, .n, .n, .g, .g, .n, .n, .n, .n, .n, .n, .n, .n, .n, .n, .n, .n, .n, .g, (.b true), .g]) (ds := F14_m5_0) (ks := [1, 12]) (e := ((F14_x5 h) (0 : Nat)).1) (s2 := ((F14_x5 h) (0 : Nat)).2) (hC := (ai l_t (ai (g_tf l_t) (ai l_f (ai l_f (ai l_f (ai l_f (ai l_f (ai l_f (ai l_f (ai l_f (ai (g_tf l_t) (ai (g_tf l_t) (ai (g_tf l_t) (ai (g_tf l_t) (ai (g_tf l_t) (ai l_f (ai l_f (ai l_f (ai (g_tf l_t) (ai (g_tf l_t) (ai (g_tf l_t) (ai (g_tf l_t) (ai c64 (ai (g_tf c64) (ai (g_tf c64) (ai (g_tf c64) (ai (g_tf c64) (ai (g_tf c64) (ai (g_tf c64) kc64)))))))))))))))))))))))))))))) (hd := F14_d5) (h := by kernel_rfl)
    · have kc65 := (ai c64 (ai (g_ff c64) (ai (SlE.len hv5) (ai (g_ff c64) (ai (g_ff c64) (ai (g_ff c64) (ai (g_ff c64) (ai (g_ff c64) kc64))))))))
      refine dec_bif (fun c65 => ?_) (fun c65 => ?_)
      · intro hr
        obtain rfl := Option.some.inj hr
        show AWp Try.prog _ (Ends1 ((F14_x5 h) (0 : Nat)).1 ((F14_x5 h) (0 : Nat)).2) _
        exact pEnd_sound good (L := F14_L) (D := F14_D) (its := [.g, (.b true), .g, .g, .g, .g, .g, (.ix id63 off63 g63), (.ld (.agg #[.int .i64 y63.1, .int .i64 y63.2])), .g, .g, .g, .g, .g, .g, (.w .g), (.w .g), (.w .g), (.w .g), (.w (.ln l5.length)), (.w .g), (.p false), .g, .n, .n, .n, .n, .n, .n, .n, .n, (.p true), .g, .n, .n, .n, .n, .n, .n, .n, .n, .n, .n, .n, .n, .n, .g, (.b true), .g]) (ds := F14_m5_0) (ks := [1, 12]) (e := ((F14_x5 h) (0 : Nat)).1) (s2 := ((F14_x5 h) (0 : Nat)).2) (hC := (ai l_t (ai (g_tf l_t) (ai l_f (ai l_f (ai l_f (ai l_f (ai l_f (ai l_f (ai l_f (ai l_f (ai (g_tf l_t) (ai (g_tf l_t) (ai (g_tf l_t) (ai (g_tf l_t) (ai c65 (ai (g_tf c65) (ai l_f (ai l_f (ai l_f (ai (g_tf c65) (ai (g_tf c65) (ai (g_tf c65) (ai (g_tf c65) kc65)))))))))))))))))))))))) (hd := F14_d5) (h := by kernel_rfl)
      · have kc66 := (ai (g_ff c65) (ai (g_ff c65) (ai (g_ff c65) (ai (g_ff c65) kc65))))
        refine dec_bif (fun c66 => ?_) (fun c66 => ?_)
        · have kc67 := (ai c65 (ai c66 (ai (g_ff c65) (ai (g_tt c66) (ai (g_tt c66) (ai (g_tt c66) kc66))))))
          refine dec_bif (fun c67 => ?_) (fun c67 => ?_)
          · intro hr
            obtain rfl := Option.some.inj hr
            show AWp Try.prog _ (Ends1 ((F14_x5 h) (0 : Nat)).1 ((F14_x5 h) (0 : Nat)).2) _
            exact pEnd_sound good (L := F14_L) (D := F14_D) (its := [.g, (.b true), .g, .g, .g, .g, .g, (.ix id63 off63 g63), (.ld (.agg #[.int .i64 y63.1, .int .i64 y63.2])), .g, .g, .g, .g, .g, .g, (.w .g), (.w .g), (.w .g), (.w .g), (.w (.ln l5.length)), (.w .g), (.p false), .g, (.w .g), (.w .g), (.w .g), (.w .g), (.w .g), (.w .g), (.w .g), (.w (.p true)), (.p false), .g, .n, .n, .n, .n, .n, .n, .n, .n, .n, .n, .n, .n, .n, (.p true), (.b true), .g]) (ds := F14_m5_0) (ks := [1, 12]) (e := ((F14_x5 h) (0 : Nat)).1) (s2 := ((F14_x5 h) (0 : Nat)).2) (hC := (ai l_t (ai c67 (ai (g_tf c67) (ai l_f (ai l_f (ai l_f (ai l_f (ai l_f (ai l_f (ai l_f (ai l_f (ai (g_tf c67) (ai (g_tf c67) (ai (g_tf c67) (ai (g_tf c67) kc67)))))))))))))))) (hd := F14_d5) (h := by kernel_rfl)
          · have kc68 := (ai (g_ff c67) (ai (g_ff c67) (ai (g_ff c67) (ai (g_ff c67) kc67))))
            refine dec_bif (fun c68 => ?_) (fun c68 => ?_)
            · have kc69 := (ai (g_tt c68) (ai (g_tt c68) (ai (g_tt c68) (ai (g_tt c68) kc68))))
              refine dec_bif (fun c69 => ?_) (fun c69 => ?_)
              · intro hr
                obtain rfl := Option.some.inj hr
                show AWp Try.prog _ (Ends1 ((F14_x5 h) (0 : Nat)).1 ((F14_x5 h) (0 : Nat)).2) _
                exact pEnd_sound good (L := F14_L) (D := F14_D) (its := [.g, (.b true), .g, .g, .g, .g, .g, (.ix id63 off63 g63), (.ld (.agg #[.int .i64 y63.1, .int .i64 y63.2])), .g, .g, .g, .g, .g, .g, (.w .g), (.w .g), (.w .g), (.w .g), (.w (.ln l5.length)), (.w .g), (.p false), .g, (.w .g), (.w .g), (.w .g), (.w .g), (.w .g), (.w .g), (.w .g), (.w (.p true)), (.p false), .g, (.w .g), (.w .g), (.w .g), (.w .g), (.w .g), (.w .g), (.w .g), (.w .g), .n, .n, .n, (.w (.p true)), (.w (.p true)), (.p false), (.b true), .g]) (ds := F14_m5_0) (ks := [1, 12]) (e := ((F14_x5 h) (0 : Nat)).1) (s2 := ((F14_x5 h) (0 : Nat)).2) (hC := (ai l_t (ai c67 (ai c68 (ai (g_ff c67) (ai c69 (ai (g_tt c68) (ai (g_tf c69) (ai (g_tf c69) (ai (g_tf c69) kc69)))))))))) (hd := F14_d5) (h := by kernel_rfl)
              · have kc70 := (ai c67 (ai c68 (ai (g_ff c67) (ai c69 (ai (g_tt c68) (ai (g_ff c69) (ai (g_ff c69) (ai (g_ff c69) kc69))))))))
                refine dec_bif (fun c70 => ?_) (fun c70 => ?_)
                · intro hr
                  obtain rfl := Option.some.inj hr
                  show AWp Try.prog _ (Ends1 ((F14_x5 h) (0 : Nat)).1 ((F14_x5 h) (0 : Nat)).2) _
                  exact pEnd_sound good (L := F14_L) (D := F14_D) (its := [.g, (.b true), .g, .g, .g, .g, .g, (.ix id63 off63 g63), (.ld (.agg #[.int .i64 y63.1, .int .i64 y63.2])), .g, .g, .g, .g, .g, .g, (.w .g), (.w .g), (.w .g), (.w .g), (.w (.ln l5.length)), (.w .g), (.p false), .g, (.w .g), (.w .g), (.w .g), (.w .g), (.w .g), (.w .g), (.w .g), (.w (.p true)), (.p false), .g, (.w .g), (.w .g), (.w .g), (.w .g), (.w .g), (.w .g), (.w .g), (.w .g), (.w .g), (.w .g), (.w .g), (.w (.p false)), (.w (.p true)), (.p false), (.b true), .g]) (ds := F14_m5_0) (ks := [1, 12]) (e := ((F14_x5 h) (0 : Nat)).1) (s2 := ((F14_x5 h) (0 : Nat)).2) (hC := (ai c70 kc70)) (hd := F14_d5) (h := by kernel_rfl)
                · intro hr
                  obtain rfl := Option.some.inj hr
                  show AWp Try.prog _ (Ends1 .normal (F14_h5 h x1 x2 x3 v4 v5 l6 v6 (IntKind.i64.wrap (a61 + 1)))) _
                  exact pEnd_sound good (L := F14_L) (D := F14_D) (its := [.g, (.b true), .g, .g, .g, .g, .g, (.ix id63 off63 g63), (.ld (.agg #[.int .i64 y63.1, .int .i64 y63.2])), .g, .g, .g, .g, .g, .g, (.w .g), (.w .g), (.w .g), (.w .g), (.w (.ln l5.length)), (.w .g), (.p false), .g, (.w .g), (.w .g), (.w .g), (.w .g), (.w .g), (.w .g), (.w .g), (.w (.p true)), (.p false), .g, (.w .g), (.w .g), (.w .g), (.w .g), (.w .g), (.w .g), (.w .g), (.w .g), (.w .g), (.w .g), (.w .g), (.w (.p false)), (.w (.p true)), (.p false), (.b false), .g, .g]) (ds := F14_m5_1) (ks := [12]) (e := .normal) (s2 := (F14_h5 h x1 x2 x3 v4 v5 l6 v6 (IntKind.i64.wrap (a61 + 1)))) (hC := (ai c70 kc70)) (hd := F14_d5) (h := by kernel_rfl)
            · intro hr
              obtain rfl := Option.some.inj hr
              show AWp Try.prog _ (Ends1 .normal (F14_h5 h x1 x2 x3 v4 v5 l6 v6 (IntKind.i64.wrap (a61 + 1)))) _
              exact pEnd_sound good (L := F14_L) (D := F14_D) (its := [.g, (.b true), .g, .g, .g, .g, .g, (.ix id63 off63 g63), (.ld (.agg #[.int .i64 y63.1, .int .i64 y63.2])), .g, .g, .g, .g, .g, .g, (.w .g), (.w .g), (.w .g), (.w .g), (.w (.ln l5.length)), (.w .g), (.p false), .g, (.w .g), (.w .g), (.w .g), (.w .g), (.w .g), (.w .g), (.w .g), (.w (.p true)), (.p false), .g, (.w .g), (.w .g), (.w .g), (.w .g), .n, .n, .n, .n, .n, .n, .n, .n, (.w (.p false)), (.p false), (.b false), .g, .g]) (ds := F14_m5_1) (ks := [12]) (e := .normal) (s2 := (F14_h5 h x1 x2 x3 v4 v5 l6 v6 (IntKind.i64.wrap (a61 + 1)))) (hC := (ai l_f (ai c67 (ai c68 (ai (g_ff c67) (ai (g_ft c68) (ai l_f (ai l_f (ai l_f (ai (g_ft c68) (ai (g_ft c68) (ai (g_ft c68) (ai (g_ft c68) kc68))))))))))))) (hd := F14_d5) (h := by kernel_rfl)
        · have kc71 := (ai (g_ff l_f) (ai (g_ff l_f) (ai (g_ff l_f) (ai (g_ff l_f) (ai c65 (ai c66 (ai (g_ff c65) (ai (g_ft c66) (ai (g_ft c66) (ai (g_ft c66) kc66))))))))))
          refine dec_bif (fun c71 => ?_) (fun c71 => ?_)
          · have kc72 := (ai (g_tt c71) (ai (g_tt c71) (ai (g_tt c71) (ai (g_tt c71) kc71))))
            refine dec_bif (fun c72 => ?_) (fun c72 => ?_)
            · intro hr
              obtain rfl := Option.some.inj hr
              show AWp Try.prog _ (Ends1 ((F14_x5 h) (0 : Nat)).1 ((F14_x5 h) (0 : Nat)).2) _
              exact pEnd_sound good (L := F14_L) (D := F14_D) (its := [.g, (.b true), .g, .g, .g, .g, .g, (.ix id63 off63 g63), (.ld (.agg #[.int .i64 y63.1, .int .i64 y63.2])), .g, .g, .g, .g, .g, .g, (.w .g), (.w .g), (.w .g), (.w .g), (.w (.ln l5.length)), (.w .g), (.p false), .g, (.w .g), (.w .g), (.w .g), (.w .g), .n, .n, .n, (.w (.p false)), (.p false), .g, (.w .g), (.w .g), (.w .g), (.w .g), (.w .g), (.w .g), (.w .g), (.w .g), .n, .n, .n, (.w (.p true)), (.w (.p true)), .g, (.b true), .g]) (ds := F14_m5_0) (ks := [1, 12]) (e := ((F14_x5 h) (0 : Nat)).1) (s2 := ((F14_x5 h) (0 : Nat)).2) (hC := (ai l_t (ai c71 (ai (g_ff l_f) (ai c72 (ai (g_tt c71) (ai (g_tf c72) (ai (g_tf c72) (ai (g_tf c72) kc72))))))))) (hd := F14_d5) (h := by kernel_rfl)
            · have kc73 := (ai c71 (ai (g_ff l_f) (ai c72 (ai (g_tt c71) (ai (g_ff c72) (ai (g_ff c72) (ai (g_ff c72) kc72)))))))
              refine dec_bif (fun c73 => ?_) (fun c73 => ?_)
              · intro hr
                obtain rfl := Option.some.inj hr
                show AWp Try.prog _ (Ends1 ((F14_x5 h) (0 : Nat)).1 ((F14_x5 h) (0 : Nat)).2) _
                exact pEnd_sound good (L := F14_L) (D := F14_D) (its := [.g, (.b true), .g, .g, .g, .g, .g, (.ix id63 off63 g63), (.ld (.agg #[.int .i64 y63.1, .int .i64 y63.2])), .g, .g, .g, .g, .g, .g, (.w .g), (.w .g), (.w .g), (.w .g), (.w (.ln l5.length)), (.w .g), (.p false), .g, (.w .g), (.w .g), (.w .g), (.w .g), .n, .n, .n, (.w (.p false)), (.p false), .g, (.w .g), (.w .g), (.w .g), (.w .g), (.w .g), (.w .g), (.w .g), (.w .g), (.w .g), (.w .g), (.w .g), (.w (.p false)), (.w (.p true)), .g, (.b true), .g]) (ds := F14_m5_0) (ks := [1, 12]) (e := ((F14_x5 h) (0 : Nat)).1) (s2 := ((F14_x5 h) (0 : Nat)).2) (hC := (ai c73 kc73)) (hd := F14_d5) (h := by kernel_rfl)
              · intro hr
                obtain rfl := Option.some.inj hr
                show AWp Try.prog _ (Ends1 .normal (F14_h5 h x1 x2 x3 v4 v5 l6 v6 (IntKind.i64.wrap (a61 + 1)))) _
                exact pEnd_sound good (L := F14_L) (D := F14_D) (its := [.g, (.b true), .g, .g, .g, .g, .g, (.ix id63 off63 g63), (.ld (.agg #[.int .i64 y63.1, .int .i64 y63.2])), .g, .g, .g, .g, .g, .g, (.w .g), (.w .g), (.w .g), (.w .g), (.w (.ln l5.length)), (.w .g), (.p false), .g, (.w .g), (.w .g), (.w .g), (.w .g), .n, .n, .n, (.w (.p false)), (.p false), .g, (.w .g), (.w .g), (.w .g), (.w .g), (.w .g), (.w .g), (.w .g), (.w .g), (.w .g), (.w .g), (.w .g), (.w (.p false)), (.w (.p true)), .g, (.b false), .g, .g]) (ds := F14_m5_1) (ks := [12]) (e := .normal) (s2 := (F14_h5 h x1 x2 x3 v4 v5 l6 v6 (IntKind.i64.wrap (a61 + 1)))) (hC := (ai c73 kc73)) (hd := F14_d5) (h := by kernel_rfl)
          · intro hr
            obtain rfl := Option.some.inj hr
            show AWp Try.prog _ (Ends1 .normal (F14_h5 h x1 x2 x3 v4 v5 l6 v6 (IntKind.i64.wrap (a61 + 1)))) _
            exact pEnd_sound good (L := F14_L) (D := F14_D) (its := [.g, (.b true), .g, .g, .g, .g, .g, (.ix id63 off63 g63), (.ld (.agg #[.int .i64 y63.1, .int .i64 y63.2])), .g, .g, .g, .g, .g, .g, (.w .g), (.w .g), (.w .g), (.w .g), (.w (.ln l5.length)), (.w .g), (.p false), .g, (.w .g), (.w .g), (.w .g), (.w .g), .n, .n, .n, (.w (.p false)), (.p false), .g, (.w .g), (.w .g), (.w .g), (.w .g), .n, .n, .n, .n, .n, .n, .n, .n, (.w (.p false)), .g, (.b false), .g, .g]) (ds := F14_m5_1) (ks := [12]) (e := .normal) (s2 := (F14_h5 h x1 x2 x3 v4 v5 l6 v6 (IntKind.i64.wrap (a61 + 1)))) (hC := (ai l_f (ai c71 (ai (g_ff l_f) (ai (g_ft c71) (ai l_f (ai l_f (ai l_f (ai (g_ft c71) (ai (g_ft c71) (ai (g_ft c71) (ai (g_ft c71) kc71)))))))))))) (hd := F14_d5) (h := by kernel_rfl)
  · intro hr
    obtain rfl := Option.some.inj hr
    show AWp Try.prog _ (Ends1 ((F14_x5 h) (1 : Nat)).1 ((F14_x5 h) (1 : Nat)).2) _
    exact pEnd_sound good (L := F14_L) (D := F14_D) (its := [.g, (.b false)]) (ds := F14_m5_2) (ks := [1]) (e := ((F14_x5 h) (1 : Nat)).1) (s2 := ((F14_x5 h) (1 : Nat)).2) (hC := (ai c62 trivial)) (hd := F14_d5) (h := by kernel_rfl)
theorem F14_l5_0 (h : AHeap) (x1 : Int) (x2 : Int) (x3 : Bool) (v4 : Hd) (l5 : List (Int × Int × Int × Int)) (v5 : Hd) (hv5 : SlE E59 4 h (sv v5) l5) (l6 : List (Int × Int)) (v6 : Hd) (hv6 : SlE E61 2 h (sv v6) l6) (x : Int) (r : Nat) (hl : loopO (fun (s : Int) => F14_s5 l5 l6 s) x = some r) (q0 : Nat.beq r 0 = true) : AWp Try.prog (.loop (codeOf Try.prog 14 [1, 1, 1, 1, 1, 1, 1, 1, 0, 1, 0, 0])) (Ends1 .ret (F14_x5_0 h r)) ((fun (s : Int) => (F14_h5 h x1 x2 x3 v4 v5 l6 v6 s)) x) := by
  have k := loop_fun (P := Try.prog) (c := (codeOf Try.prog 14 [1, 1, 1, 1, 1, 1, 1, 1, 0, 1, 0, 0])) (step := (fun (s : Int) => F14_s5 l5 l6 s)) (hd := (fun (s : Int) => (F14_h5 h x1 x2 x3 v4 v5 l6 v6 s))) (X := (F14_x5 h)) (by intro t; unfold F14_x5; cases Nat.beq t 0 <;> (intro h; cases h)) (fun x => F14_r5 h x1 x2 x3 v4 l5 v5 hv5 l6 v6 hv6 x) hl
  simp only [F14_x5, q0, cond_true, cond_false] at k
  exact k
theorem F14_l5_1 (h : AHeap) (x1 : Int) (x2 : Int) (x3 : Bool) (v4 : Hd) (l5 : List (Int × Int × Int × Int)) (v5 : Hd) (hv5 : SlE E59 4 h (sv v5) l5) (l6 : List (Int × Int)) (v6 : Hd) (hv6 : SlE E61 2 h (sv v6) l6) (x : Int) (r : Nat) (hl : loopO (fun (s : Int) => F14_s5 l5 l6 s) x = some r) (q0 : Nat.beq r 0 = false) : AWp Try.prog (.loop (codeOf Try.prog 14 [1, 1, 1, 1, 1, 1, 1, 1, 0, 1, 0, 0])) (Ends1 (.exit 8) (F14_x5_1 h r)) ((fun (s : Int) => (F14_h5 h x1 x2 x3 v4 v5 l6 v6 s)) x) := by
  have k := loop_fun (P := Try.prog) (c := (codeOf Try.prog 14 [1, 1, 1, 1, 1, 1, 1, 1, 0, 1, 0, 0])) (step := (fun (s : Int) => F14_s5 l5 l6 s)) (hd := (fun (s : Int) => (F14_h5 h x1 x2 x3 v4 v5 l6 v6 s))) (X := (F14_x5 h)) (by intro t; unfold F14_x5; cases Nat.beq t 0 <;> (intro h; cases h)) (fun x => F14_r5 h x1 x2 x3 v4 l5 v5 hv5 l6 v6 hv6 x) hl
  simp only [F14_x5, q0, cond_true, cond_false] at k
  exact k
def F14 (x1 : Int) (x2 : Int) (x3 : Bool) (l4 : List (Int × Int × Int × Int)) (l5 : List (Int × Int × Int × Int)) (l6 : List (Int × Int)) : Option (Bool) :=
  (bif decide (x1 < 0) then
   some (false)
  else
   (bif decide (x1 > 4096) then
    some (false)
   else
    (bif decide (x2 < 0) then
     some (false)
    else
     (bif decide (x2 > 4094) then
      some (false)
     else
      (bif ((l6.length : Int) != x1) then
       some (false)
      else
       (Option.bind (loopO (fun (s : Int) => F14_s1 x1 x2 x3 l4 s) 0) fun y25 =>
       (bif (Nat.beq y25 0) then
        some (false)
       else
        (bif decide ((l4.length : Int) < (F14__2 x1 x2)) then
         some (false)
        else
         (Option.bind (loopO (fun (s : Int) => F14_s2 x1 x2 x3 l4 l5 l6 s) 0) fun y38 =>
         (bif (Nat.beq y38 0) then
          some (false)
         else
          (Option.bind (loopO (fun (s : Int) => F14_s3 l5 s) 0) fun y47 =>
          (bif (Nat.beq y47 0) then
           some (false)
          else
           (Option.bind (loopO (fun (s : Int) => F14_s4 x1 x2 x3 l4 l5 l6 s) 0) fun y59 =>
           (bif (Nat.beq y59 0) then
            some (false)
           else
            (Option.bind (loopO (fun (s : Int) => F14_s5 l5 l6 s) 0) fun y74 =>
            (bif (Nat.beq y74 0) then
             some (false)
            else
             some (true)))))))))))))))))
set_option maxRecDepth 100000 in
theorem F14_spec (x1 : Int) (x2 : Int) (x3 : Bool) (l4 : List (Int × Int × Int × Int)) (l5 : List (Int × Int × Int × Int)) (l6 : List (Int × Int)) (v4 : Hd) (v5 : Hd) (v6 : Hd) (h : AHeap) (hv4 : SlE E57 4 h (sv v4) l4) (hv5 : SlE E59 4 h (sv v5) l5) (hv6 : SlE E61 2 h (sv v6) l6) (r : Bool) : F14 x1 x2 x3 l4 l5 l6 = some r → ACalls Try.prog 14 [.agg #[.int .i64 x1, .int .i64 x2, .bool x3, (sv v4), (sv v5), (sv v6)]] h (fun v' h'' => v' = (.bool r : Value) ∧ h'' = h) := by
  unfold F14
  refine dec_bif (fun c7 => ?_) (fun c7 => ?_)
  · intro hr
    obtain rfl := Option.some.inj hr
    exact pFun_sound good tab_ok (f := 14) (its := [.g, .g, .g, .g, .g, .g, .n, .n, .n, (.p true), .g, .n, .n, .n, .g, .g, .n, .n, .n, .g, .g, .n, .n, .n, .n, .n, .n, .g, (.b true), .g]) (args := [.agg #[.int .i64 x1, .int .i64 x2, .bool x3, (sv v4), (sv v5), (sv v6)]]) (h := h) (h' := h) (v := .bool false) (hC := (ai l_t (ai (g_tf l_t) (ai (g_tf l_t) (ai (g_tf l_t) (ai (g_tf l_t) (ai (g_tf l_t) (ai (g_tf l_t) (ai (g_tf l_t) (ai (g_tf l_t) (ai (g_tf l_t) (ai (g_tf l_t) (ai (g_tf l_t) (ai (g_tf l_t) (ai c7 (ai (g_tf c7) (ai (g_tf c7) (ai (g_tf c7) trivial)))))))))))))))))) (hr := by kernel_rfl)
  · have kc8 := (ai c7 (ai (g_ff c7) (ai (g_ff c7) (ai (g_ff c7) trivial))))
    refine dec_bif (fun c8 => ?_) (fun c8 => ?_)
    · intro hr
      obtain rfl := Option.some.inj hr
      exact pFun_sound good tab_ok (f := 14) (its := [.g, .g, .g, .g, .g, .g, (.w .g), (.w .g), (.w .g), (.p false), .g, .n, .n, .n, (.p true), .g, .n, .n, .n, .g, .g, .n, .n, .n, .n, .n, .n, .g, (.b true), .g]) (args := [.agg #[.int .i64 x1, .int .i64 x2, .bool x3, (sv v4), (sv v5), (sv v6)]]) (h := h) (h' := h) (v := .bool false) (hC := (ai l_t (ai (g_tf l_t) (ai (g_tf l_t) (ai (g_tf l_t) (ai (g_tf l_t) (ai (g_tf l_t) (ai (g_tf l_t) (ai (g_tf l_t) (ai (g_tf l_t) (ai (g_tf l_t) (ai c8 (ai (g_tf c8) (ai (g_tf c8) (ai (g_tf c8) kc8))))))))))))))) (hr := by kernel_rfl)
    · have kc9 := (ai c8 (ai (g_ff c8) (ai (g_ff c8) (ai (g_ff c8) kc8))))
      refine dec_bif (fun c9 => ?_) (fun c9 => ?_)
      · intro hr
        obtain rfl := Option.some.inj hr
        exact pFun_sound good tab_ok (f := 14) (its := [.g, .g, .g, .g, .g, .g, (.w .g), (.w .g), (.w .g), (.p false), .g, (.w .g), (.w .g), (.w .g), (.p false), .g, .n, .n, .n, (.p true), .g, .n, .n, .n, .n, .n, .n, .g, (.b true), .g]) (args := [.agg #[.int .i64 x1, .int .i64 x2, .bool x3, (sv v4), (sv v5), (sv v6)]]) (h := h) (h' := h) (v := .bool false) (hC := (ai l_t (ai (g_tf l_t) (ai (g_tf l_t) (ai (g_tf l_t) (ai (g_tf l_t) (ai (g_tf l_t) (ai (g_tf l_t) (ai c9 (ai (g_tf c9) (ai (g_tf c9) (ai (g_tf c9) kc9)))))))))))) (hr := by kernel_rfl)
      · have kc10 := (ai c9 (ai (g_ff c9) (ai (g_ff c9) (ai (g_ff c9) kc9))))
        refine dec_bif (fun c10 => ?_) (fun c10 => ?_)
        · intro hr
          obtain rfl := Option.some.inj hr
          exact pFun_sound good tab_ok (f := 14) (its := [.g, .g, .g, .g, .g, .g, (.w .g), (.w .g), (.w .g), (.p false), .g, (.w .g), (.w .g), (.w .g), (.p false), .g, (.w .g), (.w .g), (.w .g), (.p false), .g, .n, .n, .n, .n, .n, .n, (.p true), (.b true), .g]) (args := [.agg #[.int .i64 x1, .int .i64 x2, .bool x3, (sv v4), (sv v5), (sv v6)]]) (h := h) (h' := h) (v := .bool false) (hC := (ai l_t (ai c10 (ai (g_tf c10) (ai (g_tf c10) (ai (g_tf c10) (ai (g_tf c10) (ai (g_tf c10) (ai (g_tf c10) kc10))))))))) (hr := by kernel_rfl)
        · have kc11 := (ai c10 (ai (g_ff c10) (ai (g_ff c10) (ai (g_ff c10) (ai (SlE.len hv6) (ai (g_ff c10) (ai (g_ff c10) (ai (g_ff c10) kc10))))))))
          refine dec_bif (fun c11 => ?_) (fun c11 => ?_)
          · intro hr
            obtain rfl := Option.some.inj hr
            exact pFun_sound good tab_ok (f := 14) (its := [.g, .g, .g, .g, .g, .g, (.w .g), (.w .g), (.w .g), (.p false), .g, (.w .g), (.w .g), (.w .g), (.p false), .g, (.w .g), (.w .g), (.w .g), (.p false), .g, (.w .g), (.w .g), (.w (.ln l6.length)), (.w .g), (.w .g), (.w .g), (.p false), (.b true), .g]) (args := [.agg #[.int .i64 x1, .int .i64 x2, .bool x3, (sv v4), (sv v5), (sv v6)]]) (h := h) (h' := h) (v := .bool false) (hC := (ai c11 kc11)) (hr := by kernel_rfl)
          · refine bind_opt fun y25 e25 => ?_
            have kc26 := (ai (SlE.len hv4) (ai c11 kc11))
            refine dec_bif (fun c26 => ?_) (fun c26 => ?_)
            · intro hr
              obtain rfl := Option.some.inj hr
              exact pFun_sound good tab_ok (f := 14) (its := [.g, .g, .g, .g, .g, .g, (.w .g), (.w .g), (.w .g), (.p false), .g, (.w .g), (.w .g), (.w .g), (.p false), .g, (.w .g), (.w .g), (.w .g), (.p false), .g, (.w .g), (.w .g), (.w (.ln l6.length)), (.w .g), (.w .g), (.w .g), (.p false), (.b false), .g, .g, .g, .g, .g, .g, .g, .g, .g, (.ln l4.length), .g, (.l F14_m1_1 [] .ret (F14_x1_0 h x1 x2 x3 v4 v5 v6 y25))]) (args := [.agg #[.int .i64 x1, .int .i64 x2, .bool x3, (sv v4), (sv v5), (sv v6)]]) (h := h) (h' := h) (v := .bool false) (hC := (ai (F14_l1_0 h x1 x2 x3 l4 v4 hv4 v5 v6 0 y25 e25 c26) kc26)) (hr := by kernel_rfl)
            · have kc27 := (ai (SlE.len hv4) (ai (F14_l1_1 h x1 x2 x3 l4 v4 hv4 v5 v6 0 y25 e25 c26) kc26))
              refine dec_bif (fun c27 => ?_) (fun c27 => ?_)
              · intro hr
                obtain rfl := Option.some.inj hr
                exact pFun_sound good tab_ok (f := 14) (its := [.g, .g, .g, .g, .g, .g, (.w .g), (.w .g), (.w .g), (.p false), .g, (.w .g), (.w .g), (.w .g), (.p false), .g, (.w .g), (.w .g), (.w .g), (.p false), .g, (.w .g), (.w .g), (.w (.ln l6.length)), (.w .g), (.w .g), (.w .g), (.p false), (.b false), .g, .g, .g, .g, .g, .g, .g, .g, .g, (.ln l4.length), .g, (.l F14_m1_1 [] (.exit 0) (F14_x1_1 h x1 x2 x3 v4 v5 v6 y25)), .g, .g, (.ln l4.length), .g, .g, .g, .g, (.b true), .g]) (args := [.agg #[.int .i64 x1, .int .i64 x2, .bool x3, (sv v4), (sv v5), (sv v6)]]) (h := h) (h' := h) (v := .bool false) (hC := (ai c27 kc27)) (hr := by kernel_rfl)
              · refine bind_opt fun y38 e38 => ?_
                have kc39 := (ai c27 kc27)
                refine dec_bif (fun c39 => ?_) (fun c39 => ?_)
                · intro hr
                  obtain rfl := Option.some.inj hr
                  exact pFun_sound good tab_ok (f := 14) (its := [.g, .g, .g, .g, .g, .g, (.w .g), (.w .g), (.w .g), (.p false), .g, (.w .g), (.w .g), (.w .g), (.p false), .g, (.w .g), (.w .g), (.w .g), (.p false), .g, (.w .g), (.w .g), (.w (.ln l6.length)), (.w .g), (.w .g), (.w .g), (.p false), (.b false), .g, .g, .g, .g, .g, .g, .g, .g, .g, (.ln l4.length), .g, (.l F14_m1_1 [] (.exit 0) (F14_x1_1 h x1 x2 x3 v4 v5 v6 y25)), .g, .g, (.ln l4.length), .g, .g, .g, .g, (.b false), .g, .g, .g, (.l F14_m2_1 [] .ret (F14_x2_0 h x1 x2 x3 v4 v5 v6 y38))]) (args := [.agg #[.int .i64 x1, .int .i64 x2, .bool x3, (sv v4), (sv v5), (sv v6)]]) (h := h) (h' := h) (v := .bool false) (hC := (ai (F14_l2_0 h x1 x2 x3 l4 v4 hv4 l5 v5 hv5 l6 v6 hv6 0 y38 e38 c39) kc39)) (hr := by kernel_rfl)
                · refine bind_opt fun y47 e47 => ?_
                  have kc48 := (ai (SlE.len hv5) (ai (F14_l2_1 h x1 x2 x3 l4 v4 hv4 l5 v5 hv5 l6 v6 hv6 0 y38 e38 c39) kc39))
                  refine dec_bif (fun c48 => ?_) (fun c48 => ?_)
                  · intro hr
                    obtain rfl := Option.some.inj hr
                    exact pFun_sound good tab_ok (f := 14) (its := [.g, .g, .g, .g, .g, .g, (.w .g), (.w .g), (.w .g), (.p false), .g, (.w .g), (.w .g), (.w .g), (.p false), .g, (.w .g), (.w .g), (.w .g), (.p false), .g, (.w .g), (.w .g), (.w (.ln l6.length)), (.w .g), (.w .g), (.w .g), (.p false), (.b false), .g, .g, .g, .g, .g, .g, .g, .g, .g, (.ln l4.length), .g, (.l F14_m1_1 [] (.exit 0) (F14_x1_1 h x1 x2 x3 v4 v5 v6 y25)), .g, .g, (.ln l4.length), .g, .g, .g, .g, (.b false), .g, .g, .g, (.l F14_m2_1 [] (.exit 2) (F14_x2_1 h x1 x2 x3 v4 v5 v6 y38)), .g, .g, (.ln l5.length), .g, (.l F14_m3_1 [] .ret (F14_x3_0 h x1 x2 x3 v4 v5 v6 y47))]) (args := [.agg #[.int .i64 x1, .int .i64 x2, .bool x3, (sv v4), (sv v5), (sv v6)]]) (h := h) (h' := h) (v := .bool false) (hC := (ai (F14_l3_0 h x1 x2 x3 v4 l5 v5 hv5 v6 0 y47 e47 c48) kc48)) (hr := by kernel_rfl)
                  · refine bind_opt fun y59 e59 => ?_
                    have kc60 := (ai (F14_l3_1 h x1 x2 x3 v4 l5 v5 hv5 v6 0 y47 e47 c48) kc48)
                    refine dec_bif (fun c60 => ?_) (fun c60 => ?_)
                    · intro hr
                      obtain rfl := Option.some.inj hr
                      exact pFun_sound good tab_ok (f := 14) (its := [.g, .g, .g, .g, .g, .g, (.w .g), (.w .g), (.w .g), (.p false), .g, (.w .g), (.w .g), (.w .g), (.p false), .g, (.w .g), (.w .g), (.w .g), (.p false), .g, (.w .g), (.w .g), (.w (.ln l6.length)), (.w .g), (.w .g), (.w .g), (.p false), (.b false), .g, .g, .g, .g, .g, .g, .g, .g, .g, (.ln l4.length), .g, (.l F14_m1_1 [] (.exit 0) (F14_x1_1 h x1 x2 x3 v4 v5 v6 y25)), .g, .g, (.ln l4.length), .g, .g, .g, .g, (.b false), .g, .g, .g, (.l F14_m2_1 [] (.exit 2) (F14_x2_1 h x1 x2 x3 v4 v5 v6 y38)), .g, .g, (.ln l5.length), .g, (.l F14_m3_1 [] (.exit 4) (F14_x3_1 h x1 x2 x3 v4 v5 v6 y47)), .g, .g, .g, (.l F14_m4_1 [] .ret (F14_x4_0 h x1 x2 x3 v4 v5 v6 y59))]) (args := [.agg #[.int .i64 x1, .int .i64 x2, .bool x3, (sv v4), (sv v5), (sv v6)]]) (h := h) (h' := h) (v := .bool false) (hC := (ai (F14_l4_0 h x1 x2 x3 l4 v4 hv4 l5 v5 hv5 l6 v6 hv6 0 y59 e59 c60) kc60)) (hr := by kernel_rfl)
                    · refine bind_opt fun y74 e74 => ?_
                      have kc75 := (ai (SlE.len hv6) (ai (F14_l4_1 h x1 x2 x3 l4 v4 hv4 l5 v5 hv5 l6 v6 hv6 0 y59 e59 c60) kc60))
                      refine dec_bif (fun c75 => ?_) (fun c75 => ?_)
                      · intro hr
                        obtain rfl := Option.some.inj hr
                        exact pFun_sound good tab_ok (f := 14) (its := [.g, .g, .g, .g, .g, .g, (.w .g), (.w .g), (.w .g), (.p false), .g, (.w .g), (.w .g), (.w .g), (.p false), .g, (.w .g), (.w .g), (.w .g), (.p false), .g, (.w .g), (.w .g), (.w (.ln l6.length)), (.w .g), (.w .g), (.w .g), (.p false), (.b false), .g, .g, .g, .g, .g, .g, .g, .g, .g, (.ln l4.length), .g, (.l F14_m1_1 [] (.exit 0) (F14_x1_1 h x1 x2 x3 v4 v5 v6 y25)), .g, .g, (.ln l4.length), .g, .g, .g, .g, (.b false), .g, .g, .g, (.l F14_m2_1 [] (.exit 2) (F14_x2_1 h x1 x2 x3 v4 v5 v6 y38)), .g, .g, (.ln l5.length), .g, (.l F14_m3_1 [] (.exit 4) (F14_x3_1 h x1 x2 x3 v4 v5 v6 y47)), .g, .g, .g, (.l F14_m4_1 [] (.exit 6) (F14_x4_1 h x1 x2 x3 v4 v5 v6 y59)), .g, .g, (.ln l6.length), .g, (.l F14_m5_1 [] .ret (F14_x5_0 h y74))]) (args := [.agg #[.int .i64 x1, .int .i64 x2, .bool x3, (sv v4), (sv v5), (sv v6)]]) (h := h) (h' := h) (v := .bool false) (hC := (ai (F14_l5_0 h x1 x2 x3 v4 l5 v5 hv5 l6 v6 hv6 0 y74 e74 c75) kc75)) (hr := by kernel_rfl)
                      · intro hr
                        obtain rfl := Option.some.inj hr
                        exact pFun_sound good tab_ok (f := 14) (its := [.g, .g, .g, .g, .g, .g, (.w .g), (.w .g), (.w .g), (.p false), .g, (.w .g), (.w .g), (.w .g), (.p false), .g, (.w .g), (.w .g), (.w .g), (.p false), .g, (.w .g), (.w .g), (.w (.ln l6.length)), (.w .g), (.w .g), (.w .g), (.p false), (.b false), .g, .g, .g, .g, .g, .g, .g, .g, .g, (.ln l4.length), .g, (.l F14_m1_1 [] (.exit 0) (F14_x1_1 h x1 x2 x3 v4 v5 v6 y25)), .g, .g, (.ln l4.length), .g, .g, .g, .g, (.b false), .g, .g, .g, (.l F14_m2_1 [] (.exit 2) (F14_x2_1 h x1 x2 x3 v4 v5 v6 y38)), .g, .g, (.ln l5.length), .g, (.l F14_m3_1 [] (.exit 4) (F14_x3_1 h x1 x2 x3 v4 v5 v6 y47)), .g, .g, .g, (.l F14_m4_1 [] (.exit 6) (F14_x4_1 h x1 x2 x3 v4 v5 v6 y59)), .g, .g, (.ln l6.length), .g, (.l F14_m5_1 [] (.exit 8) (F14_x5_1 h y74)), .g]) (args := [.agg #[.int .i64 x1, .int .i64 x2, .bool x3, (sv v4), (sv v5), (sv v6)]]) (h := h) (h' := h) (v := .bool true) (hC := (ai (F14_l5_1 h x1 x2 x3 v4 l5 v5 hv5 l6 v6 hv6 0 y74 e74 c75) kc75)) (hr := by kernel_rfl)
/-! 67 jacquard/jacquardref30.Nodes -/
def F67 (x1 : Int) : Int :=
  (if 8192 < (if 0 > x1 then 0 else x1) then 8192 else (if 0 > x1 then 0 else x1))
set_option maxRecDepth 100000 in
theorem F67_spec (x1 : Int) (h : AHeap)  (r : Int) : F67 x1 = r → ACalls Try.prog 67 [.int .i64 x1] h (fun v' h'' => v' = (.int .i64 r : Value) ∧ h'' = h) := by
  unfold F67
  intro hr
  subst hr
  exact pFun_sound good tab_ok (f := 67) (its := [.g, .g, .g, .g, .g]) (args := [.int .i64 x1]) (h := h) (h' := h) (v := .int .i64 (if 8192 < (if 0 > x1 then 0 else x1) then 8192 else (if 0 > x1 then 0 else x1))) (hC := trivial) (hr := by kernel_rfl)
/-! 55 jacquard/jacquardref30.Counts -/
def F55 (x1 : Int) (x2 : Int) (x3 : Int) (x4 : Int) (x5 : Int) : Bool :=
  (bif decide (x2 ≥ 0) then
   (bif decide (x2 < (F67 x1)) then
    (bif decide (x3 ≥ 0) then
     (decide (x3 < (F67 x1)))
    else
     false)
   else
    false)
  else
   false)
set_option maxRecDepth 100000 in
theorem F55_spec (x1 : Int) (x2 : Int) (x3 : Int) (x4 : Int) (x5 : Int) (h : AHeap)  (r : Bool) : F55 x1 x2 x3 x4 x5 = r → ACalls Try.prog 55 [.int .i64 x1, .agg #[.int .i64 x2, .int .i64 x3, .int .i64 x4, .int .i64 x5]] h (fun v' h'' => v' = (.bool r : Value) ∧ h'' = h) := by
  unfold F55
  refine dec_bif (fun c6 => ?_) (fun c6 => ?_)
  · have kc8 := (ai c6 (ai (g_tt c6) (ai (show AKeep h h from (AHeap.sub_refl h)) (ai (F67_spec x1 h _ rfl) (ai (g_tt c6) (ai (g_tt c6) (ai (g_tt c6) (ai (g_tt c6) trivial))))))))
    refine dec_bif (fun c8 => ?_) (fun c8 => ?_)
    · have kc9 := (ai c8 (ai (g_tt c8) (ai (g_tt c8) (ai (g_tt c8) kc8))))
      refine dec_bif (fun c9 => ?_) (fun c9 => ?_)
      · intro hr
        subst hr
        exact pFun_sound good tab_ok (f := 55) (its := [.g, .g, .g, .g, .g, .g, (.w .g), (.w .g), (.w .g), (.w (.c (.int .i64 (F67 x1)) h)), (.w .g), (.p true), .g, (.w .g), (.w .g), (.w .g), (.p true), .g, (.w .g), (.w .g), (.w .g), (.w (.c (.int .i64 (F67 x1)) h)), (.w .g), (.p true), .g]) (args := [.int .i64 x1, .agg #[.int .i64 x2, .int .i64 x3, .int .i64 x4, .int .i64 x5]]) (h := h) (h' := h) (v := .bool (decide (x3 < (F67 x1)))) (hC := (ai c9 (ai (g_tt c9) (ai (show AKeep h h from (AHeap.sub_refl h)) (ai (F67_spec x1 h _ rfl) (ai (g_tt c9) (ai (g_tt c9) (ai (g_tt c9) (ai (g_tt c9) kc9))))))))) (hr := by kernel_rfl)
      · intro hr
        subst hr
        exact pFun_sound good tab_ok (f := 55) (its := [.g, .g, .g, .g, .g, .g, (.w .g), (.w .g), (.w .g), (.w (.c (.int .i64 (F67 x1)) h)), (.w .g), (.p true), .g, (.w .g), (.w .g), (.w .g), (.p true), .g, .n, .n, .n, .n, .n, (.p false), .g]) (args := [.int .i64 x1, .agg #[.int .i64 x2, .int .i64 x3, .int .i64 x4, .int .i64 x5]]) (h := h) (h' := h) (v := .bool false) (hC := (ai c9 (ai (g_ft c9) (ai (g_ft c9) (ai (g_ft c9) (ai (g_ft c9) (ai (g_ft c9) kc9))))))) (hr := by kernel_rfl)
    · intro hr
      subst hr
      exact pFun_sound good tab_ok (f := 55) (its := [.g, .g, .g, .g, .g, .g, (.w .g), (.w .g), (.w .g), (.w (.c (.int .i64 (F67 x1)) h)), (.w .g), (.p true), .g, .n, .n, .n, (.p false), .g, .n, .n, .n, .n, .n, .g, .g]) (args := [.int .i64 x1, .agg #[.int .i64 x2, .int .i64 x3, .int .i64 x4, .int .i64 x5]]) (h := h) (h' := h) (v := .bool false) (hC := (ai (g_ft l_f) (ai (g_ft l_f) (ai (g_ft l_f) (ai (g_ft l_f) (ai (g_ft l_f) (ai c8 (ai (g_ft c8) (ai (g_ft c8) (ai (g_ft c8) kc8)))))))))) (hr := by kernel_rfl)
  · intro hr
    subst hr
    exact pFun_sound good tab_ok (f := 55) (its := [.g, .g, .g, .g, .g, .g, .n, .n, .n, .n, .n, (.p false), .g, .n, .n, .n, .g, .g, .n, .n, .n, .n, .n, .g, .g]) (args := [.int .i64 x1, .agg #[.int .i64 x2, .int .i64 x3, .int .i64 x4, .int .i64 x5]]) (h := h) (h' := h) (v := .bool false) (hC := (ai (g_ft l_f) (ai (g_ft l_f) (ai (g_ft l_f) (ai (g_ft l_f) (ai (g_ft l_f) (ai (g_ft l_f) (ai (g_ft l_f) (ai (g_ft l_f) (ai c6 (ai (g_ft c6) (ai (g_ft c6) (ai (g_ft c6) (ai (g_ft c6) (ai (g_ft c6) trivial))))))))))))))) (hr := by kernel_rfl)
/-! 56 jacquard/jacquardref30.Weight -/
def F56__1 (x3 : Int) : Int := (if 1048576 < (if (-1048576) > x3 then (-1048576) else x3) then 1048576 else (if (-1048576) > x3 then (-1048576) else x3))
def F56__2 (x4 : Int) : Int := (if 1048576 < (if (-1048576) > x4 then (-1048576) else x4) then 1048576 else (if (-1048576) > x4 then (-1048576) else x4))
def F56__3 (x4 : Int) (x5 : Int) : Int := (IntKind.i64.wrap ((if 256 < (if 0 > x5 then 0 else x5) then 256 else (if 0 > x5 then 0 else x5)) * (F56__2 x4)))
def F56 (x1 : Int) (x2 : Int) (x3 : Int) (x4 : Int) (x5 : Int) : Int :=
  (IntKind.i64.wrap ((F56__1 x3) - (F56__3 x4 x5)))
set_option maxRecDepth 100000 in
theorem F56_spec (x1 : Int) (x2 : Int) (x3 : Int) (x4 : Int) (x5 : Int) (h : AHeap)  (r : Int) : F56 x1 x2 x3 x4 x5 = r → ACalls Try.prog 56 [.agg #[.int .i64 x1, .int .i64 x2, .int .i64 x3, .int .i64 x4], .int .i64 x5] h (fun v' h'' => v' = (.int .i64 r : Value) ∧ h'' = h) := by
  unfold F56
  intro hr
  subst hr
  exact pFun_sound good tab_ok (f := 56) (its := [.g, .g, .g, .g, .g, .g, .g, .g, .g, .g, .g, .g, .g, .g, .g, .g, .g, .g, .g, .g, .g, .g, .g]) (args := [.agg #[.int .i64 x1, .int .i64 x2, .int .i64 x3, .int .i64 x4], .int .i64 x5]) (h := h) (h' := h) (v := .int .i64 (IntKind.i64.wrap ((F56__1 x3) - (F56__3 x4 x5)))) (hC := trivial) (hr := by kernel_rfl)
/-! 51 jacquard/jacquardref30.Walks -/
def F51_L : List Nat := []
def F51_D : List (Nat × List (Nat × Nat)) := [(19, [(0, 2), (1, 2), (2, 2), (3, 2), (4, 2), (8, 2), (9, 2), (10, 2), (11, 2), (13, 2), (14, 2), (15, 2), (16, 2), (17, 2), (21, 2), (22, 2), (23, 2), (24, 2), (28, 2), (29, 2), (30, 2), (31, 2), (32, 2), (5, 6), (6, 2), (7, 6), (12, 6), (18, 6), (19, 2), (20, 6), (25, 6), (26, 2), (27, 6), (33, 1), (34, 2), (35, 2), (36, 0)]), (33, [(0, 2), (1, 2), (2, 2), (3, 2), (4, 2), (5, 2), (6, 2), (7, 2), (8, 2), (9, 2), (10, 2), (11, 2), (12, 2), (13, 2), (14, 2), (15, 2), (16, 2), (17, 2), (18, 2), (19, 2), (20, 2), (21, 2), (22, 2), (23, 2), (24, 2), (25, 2), (26, 2), (27, 2), (28, 2), (29, 0)])]
def F51__1 (x3 : Int) (y35 : Int × Int × Int × Int) (y41 : Int) : Int := (if (F56 y35.1 y35.2.1 y35.2.2.1 y35.2.2.2 x3) > y41 then (F56 y35.1 y35.2.1 y35.2.2.1 y35.2.2.2 x3) else y41)
def F51_m1_1 : List Bool := (false :: false :: false :: (rp 5 true (false :: false :: false :: (rp 8 true (false :: false :: (rp 152 true []))))))
def F51_m1_0 : List Bool := (false :: false :: false :: (rp 5 true (false :: false :: false :: (rp 8 true (false :: false :: (rp 4 true (false :: false :: (rp 146 true []))))))))
def F51_s1 (x1 : Int) (a14 : Int) (l15 : List Int) : Option ((Int × (List Int)) ⊕ (List Int)) :=
  (bif decide (a14 < (F67 x1)) then
   (Option.bind (at? l15 a14) fun y18 =>
   some (.inl ((IntKind.i64.wrap (a14 + 1)), (setI l15 a14 (-1152921504606846976)))))
  else
   some (.inr l15))
def F51_h1 (x1 : Int) (v2 : Hd) (x3 : Int) (a7 : Int) (u8 : List Hd) (v12 : Hd) (h16 : AHeap) (a14 : Int) (l15 : List Int) : AS := ⟨((.int .i64 (F67 x1)) :: (sv v2) :: (.int .i64 x3) :: (rp 5 junk ((sv (hov u8)) :: (.int .i64 a7) :: (sv v12) :: (rp 8 junk ((.int .i64 (F67 x1)) :: (.int .i64 a7) :: (rp 4 junk ((.int .i64 (F67 x1)) :: (.int .i64 a14) :: (rp 146 junk [])))))))), [], h16⟩
theorem F51_d1 : drawsOk F51_D (codeOf Try.prog 51 [1, 1, 1, 0, 1, 0, 0, 1, 1, 0, 0, 1, 1, 0, 1, 0, 0]) = true := by kernel_rfl
def F51_x1_0 (h : AHeap) (x1 : Int) (v2 : Hd) (x3 : Int) (a7 : Int) (l8 : List (List Int)) (u8 : List Hd) (v12 : Hd) (hx : AHeap) (r : (List Int)) : AS := ⟨((.int .i64 (F67 x1)) :: (sv v2) :: (.int .i64 x3) :: (rp 5 junk ((sv (hov u8)) :: (.int .i64 a7) :: (sv v12) :: (rp 8 junk ((.int .i64 (F67 x1)) :: (.int .i64 a7) :: (rp 152 junk [])))))), [], hx⟩
def F51_i1 (h : AHeap) (x1 : Int) (v2 : Hd) (x3 : Int) (a7 : Int) (l8 : List (List Int)) (u8 : List Hd) (v12 : Hd) (s : Int × (List Int)) (S : AS) : Prop := ∃ (h16 : AHeap), Heapy h h16 ([⟨(hov u8), 29, 1, List.flatMap encH (List.tail u8)⟩, ⟨v12, 3, 1, List.flatMap enc3 s.2⟩] ++ NIn 3 1 enc3 (List.tail u8) l8) ∧ S = (F51_h1 x1 v2 x3 a7 u8 v12 h16 s.1 s.2)
def F51_x1 (h : AHeap) (x1 : Int) (v2 : Hd) (x3 : Int) (a7 : Int) (l8 : List (List Int)) (u8 : List Hd) (v12 : Hd) (r : (List Int)) (e : Exit) (S : AS) : Prop := e = (.exit 2) ∧ ∃ (hx : AHeap), Heapy h hx ([⟨(hov u8), 29, 1, List.flatMap encH (List.tail u8)⟩, ⟨v12, 3, 1, List.flatMap enc3 r⟩] ++ NIn 3 1 enc3 (List.tail u8) l8) ∧ S = (F51_x1_0 h x1 v2 x3 a7 l8 u8 v12 hx r)
set_option maxRecDepth 100000 in
theorem F51_r1 (h : AHeap) (x1 : Int) (v2 : Hd) (x3 : Int) (a7 : Int) (l8 : List (List Int)) (u8 : List Hd) (v12 : Hd) (a14 : Int) (l15 : List Int) (S : AS) (hI : (F51_i1 h x1 v2 x3 a7 l8 u8 v12) (a14, l15) S) (o : (Int × (List Int)) ⊕ (List Int)) : F51_s1 x1 a14 l15 = some o → Rd Try.prog (codeOf Try.prog 51 [1, 1, 1, 0, 1, 0, 0, 1, 1, 0, 0, 1, 1, 0, 1, 0, 0]) (F51_i1 h x1 v2 x3 a7 l8 u8 v12) (F51_x1 h x1 v2 x3 a7 l8 u8 v12) S o := by
  obtain ⟨h16, hp16, rfl⟩ := hI
  unfold F51_s1
  refine dec_bif (fun c17 => ?_) (fun c17 => ?_)
  · refine bind_opt fun y18 e18 => ?_
    obtain ⟨id18, off18, g18, cs18, ix18, at18, rfl⟩ := SlE.at (Heapy.sle (v := v12) (xs := l15) (enc := enc3) hp16 1 rfl (fun _ => rfl) (by decide)) e18
    obtain ⟨h19, m19, hp19⟩ := Heapy.store (P := Try.prog) hp16 1 (v := v12) (xs := l15) (enc := enc3) rfl (fun _ => rfl) e18 (y' := (-1152921504606846976)) ix18 (t := 3) (x := .int .i64 (-1152921504606846976)) 0 (vs := [.int .i64 (-1152921504606846976)]) rfl (by kernel_rfl) rfl rfl rfl rfl
    intro hr
    obtain rfl := Option.some.inj hr
    exact ⟨(F51_h1 x1 v2 x3 a7 u8 v12 h19 (IntKind.i64.wrap (a14 + 1)) (setI l15 a14 (-1152921504606846976))), ⟨h19, (Heapy.pickN2 (A := [⟨(hov u8), 29, 1, List.flatMap encH (List.tail u8)⟩, ⟨v12, 3, 1, List.flatMap enc3 (setI l15 a14 (-1152921504606846976))⟩]) (N := NIn 3 1 enc3 (List.tail u8) l8) hp19 2 rfl [0, 1] (by decide) rfl), rfl⟩, pEnd_sound good (L := F51_L) (D := F51_D) (its := [.g, (.b true), .g, .g, .g, .g, (.ix id18 off18 g18), (.mm undef h19), .g, .g]) (ds := F51_m1_0) (ks := []) (e := .normal) (s2 := (F51_h1 x1 v2 x3 a7 u8 v12 h19 (IntKind.i64.wrap (a14 + 1)) (setI l15 a14 (-1152921504606846976)))) (hC := (ai m19 (ai ix18 (ai c17 trivial)))) (hd := F51_d1) (h := by kernel_rfl)⟩
  · intro hr
    obtain rfl := Option.some.inj hr
    refine ⟨(.exit 2), (F51_x1_0 h x1 v2 x3 a7 l8 u8 v12 h16 (l15 : (List Int))), (by intro hh; cases hh), ?_, pEnd_sound good (L := F51_L) (D := F51_D) (its := [.g, (.b false)]) (ds := F51_m1_1) (ks := []) (e := (.exit 2)) (s2 := (F51_x1_0 h x1 v2 x3 a7 l8 u8 v12 h16 (l15 : (List Int)))) (hC := (ai c17 trivial)) (hd := F51_d1) (h := by kernel_rfl)⟩
    exact ⟨rfl, h16, (Heapy.pickN2 (A := [⟨(hov u8), 29, 1, List.flatMap encH (List.tail u8)⟩, ⟨v12, 3, 1, List.flatMap enc3 l15⟩]) (N := NIn 3 1 enc3 (List.tail u8) l8) hp16 2 rfl [0, 1] (by decide) rfl), rfl⟩
theorem F51_l1 (h : AHeap) (x1 : Int) (v2 : Hd) (x3 : Int) (a7 : Int) (l8 : List (List Int)) (u8 : List Hd) (v12 : Hd) (x : Int × (List Int)) (r : (List Int)) (hl : loopO (fun (s : Int × (List Int)) => F51_s1 x1 s.1 s.2) x = some r) (S : AS) (hI : (F51_i1 h x1 v2 x3 a7 l8 u8 v12) x S) : ∃ e S', (F51_x1 h x1 v2 x3 a7 l8 u8 v12) r e S' ∧ AWp Try.prog (.loop (codeOf Try.prog 51 [1, 1, 1, 0, 1, 0, 0, 1, 1, 0, 0, 1, 1, 0, 1, 0, 0])) (Ends1 e S') S :=
  loop_rel (fun x S hI => F51_r1 h x1 v2 x3 a7 l8 u8 v12 x.1 x.2 S hI) hl hI
def F51_m2_1 : List Bool := (false :: false :: false :: (rp 5 true (false :: (rp 164 true []))))
def F51_m2_0 : List Bool := (false :: false :: false :: (rp 5 true (false :: (rp 10 true (false :: false :: (rp 152 true []))))))
def F51_s2 (x1 : Int) (a7 : Int) (l8 : List (List Int)) : Option ((Int × (List (List Int))) ⊕ (List (List Int))) :=
  (bif decide (a7 < (F67 x1)) then
   (bif (!(okLen (F67 x1) (F67 x1) 8)) then none else
   (Option.bind (loopO (fun (s : Int × (List Int)) => F51_s1 x1 s.1 s.2) (0, (List.replicate (F67 x1).toNat (0 : Int)))) fun y20 =>
   (Option.bind (at? y20 a7) fun y22 =>
   (bif (!(okApp (l8.length + 1) 24)) then none else
   some (.inl ((IntKind.i64.wrap (a7 + 1)), (l8 ++ [(setI y20 a7 0)])))))))
  else
   some (.inr l8))
def F51_h2 (x1 : Int) (v2 : Hd) (x3 : Int) (h9 : AHeap) (u8 : List Hd) (a7 : Int) (l8 : List (List Int)) : AS := ⟨((.int .i64 (F67 x1)) :: (sv v2) :: (.int .i64 x3) :: (rp 5 junk ((sv (hov u8)) :: (rp 10 junk ((.int .i64 (F67 x1)) :: (.int .i64 a7) :: (rp 152 junk [])))))), [], h9⟩
theorem F51_d2 : drawsOk F51_D (codeOf Try.prog 51 [1, 1, 1, 0, 1, 0, 0]) = true := by kernel_rfl
def F51_x2_0 (h : AHeap) (x1 : Int) (v2 : Hd) (x3 : Int) (hx : AHeap) (w0 : List Hd) (r : (List (List Int))) : AS := ⟨((.int .i64 (F67 x1)) :: (sv v2) :: (.int .i64 x3) :: (rp 5 junk ((sv (hov w0)) :: (rp 164 junk [])))), [], hx⟩
def F51_i2 (h : AHeap) (x1 : Int) (v2 : Hd) (x3 : Int) (s : Int × (List (List Int))) (S : AS) : Prop := ∃ (h9 : AHeap) (u8 : List Hd), Heapy h h9 ([⟨(hov u8), 29, 1, List.flatMap encH (List.tail u8)⟩] ++ NIn 3 1 enc3 (List.tail u8) s.2) ∧ S = (F51_h2 x1 v2 x3 h9 u8 s.1 s.2)
def F51_x2 (h : AHeap) (x1 : Int) (v2 : Hd) (x3 : Int) (r : (List (List Int))) (e : Exit) (S : AS) : Prop := e = (.exit 0) ∧ ∃ (hx : AHeap) (w0 : List Hd), Heapy h hx ([⟨(hov w0), 29, 1, List.flatMap encH (List.tail w0)⟩] ++ NIn 3 1 enc3 (List.tail w0) r) ∧ S = (F51_x2_0 h x1 v2 x3 hx w0 r)
set_option maxRecDepth 100000 in
theorem F51_r2 (h : AHeap) (x1 : Int) (v2 : Hd) (x3 : Int) (a7 : Int) (l8 : List (List Int)) (S : AS) (hI : (F51_i2 h x1 v2 x3) (a7, l8) S) (o : (Int × (List (List Int))) ⊕ (List (List Int))) : F51_s2 x1 a7 l8 = some o → Rd Try.prog (codeOf Try.prog 51 [1, 1, 1, 0, 1, 0, 0]) (F51_i2 h x1 v2 x3) (F51_x2 h x1 v2 x3) S o := by
  obtain ⟨h9, u8, hp9, rfl⟩ := hI
  unfold F51_s2
  refine dec_bif (fun c10 => ?_) (fun c10 => ?_)
  · refine guard_ok fun g11 => ?_
    obtain ⟨v12, h12, m12, hp12, _⟩ := Heapy.make hp9 (show mkInfo Try.prog 29 = some (3, 1, 8, [.int .i64 0]) by kernel_rfl) (a := (F67 x1)) (b := (F67 x1)) (by simpa using g11) (enc := enc3) (x := 0) rfl rfl
    refine bind_opt fun y20 e20 => ?_
    obtain ⟨ee20, SS20, hX20, hA20⟩ := F51_l1 h x1 v2 x3 a7 l8 u8 v12 (0, (List.replicate (F67 x1).toNat (0 : Int))) y20 e20 (F51_h1 x1 v2 x3 a7 u8 v12 h12 0 (List.replicate (F67 x1).toNat (0 : Int))) ⟨h12, (Heapy.pickN2 (A := [⟨v12, 3, 1, List.flatMap enc3 (List.replicate (F67 x1).toNat (0 : Int))⟩, ⟨(hov u8), 29, 1, List.flatMap encH (List.tail u8)⟩]) (N := NIn 3 1 enc3 (List.tail u8) l8) hp12 2 rfl [1, 0] (by decide) rfl), rfl⟩
    obtain ⟨rfl, h21, hp21, rfl⟩ := hX20
    refine bind_opt fun y22 e22 => ?_
    obtain ⟨id22, off22, g22, cs22, ix22, at22, rfl⟩ := SlE.at (Heapy.sle (v := v12) (xs := y20) (enc := enc3) hp21 1 rfl (fun _ => rfl) (by decide)) e22
    obtain ⟨h23, m23, hp23⟩ := Heapy.store (P := Try.prog) hp21 1 (v := v12) (xs := y20) (enc := enc3) rfl (fun _ => rfl) e22 (y' := 0) ix22 (t := 3) (x := .int .i64 0) 0 (vs := [.int .i64 0]) rfl (by kernel_rfl) rfl rfl rfl rfl
    obtain ⟨v24, h24, m24, hq24, _⟩ := Heapy.build (P := Try.prog) hp23 (t := 75) (e := 29) (len := 1) (n := 1) (parts := [(0, (sv v12))]) (cells := List.flatMap encH [v12]) (by kernel_rfl) rfl
    have hp24 : Heapy h h24 ([⟨v24, 29, 1, List.flatMap encH [v12]⟩, ⟨(hov u8), 29, 1, List.flatMap encH (List.tail u8)⟩, ⟨v12, 3, 1, List.flatMap enc3 (setI y20 a7 0)⟩] ++ NIn 3 1 enc3 (List.tail u8) l8) := hq24
    refine guard_ok fun g26 => ?_
    obtain ⟨v27, h27, m27, hq27⟩ := Heapy.nipush (P := Try.prog) (A := [⟨v24, 29, 1, List.flatMap encH [v12]⟩, ⟨(hov u8), 29, 1, List.flatMap encH (List.tail u8)⟩, ⟨v12, 3, 1, List.flatMap enc3 (setI y20 a7 0)⟩]) (el := 3) (c := 1) (enc := enc3) (hs := (List.tail u8)) (xss := l8) hp24 1 (show 1 < 3 by decide) (ov := (hov u8)) (eo := 29) rfl 2 (show 2 < 3 by decide) (by decide) (w := v12) (ys := (setI y20 a7 0)) rfl (t := 75) (show mkInfo Try.prog 75 = some (29, 1, 24, [.slice none 0 0]) by kernel_rfl) (Y := (sv v24)) (SlE.src (enc := encH) (c := 1) (Heapy.sle (v := v24) (xs := [v12]) (enc := encH) hp24 0 rfl (fun _ => rfl) (by decide)) (fun _ => rfl)) (by simpa using g26)
    have hp27 : Heapy h h27 ([⟨v24, 29, 1, List.flatMap encH [v12]⟩, ⟨v27, 29, 1, List.flatMap encH ((List.tail u8) ++ [v12])⟩] ++ NIn 3 1 enc3 ((List.tail u8) ++ [v12]) (l8 ++ [(setI y20 a7 0)])) := hq27
    intro hr
    obtain rfl := Option.some.inj hr
    exact ⟨(F51_h2 x1 v2 x3 h27 (v27 :: ((List.tail u8) ++ [v12])) (IntKind.i64.wrap (a7 + 1)) (l8 ++ [(setI y20 a7 0)])), ⟨h27, (v27 :: ((List.tail u8) ++ [v12])), (Heapy.pickN2 (A := [⟨v24, 29, 1, List.flatMap encH [v12]⟩, ⟨v27, 29, 1, List.flatMap encH ((List.tail u8) ++ [v12])⟩]) (N := NIn 3 1 enc3 ((List.tail u8) ++ [v12]) (l8 ++ [(setI y20 a7 0)])) hp27 2 rfl [1] (by decide) rfl), rfl⟩, pEnd_sound good (L := F51_L) (D := F51_D) (its := [.g, (.b true), .g, .g, .g, (.mm (sv v12) h12), .g, .g, .g, (.l F51_m1_0 [] (.exit 2) (F51_x1_0 h x1 v2 x3 a7 l8 u8 v12 h21 y20)), .g, .g, (.ix id22 off22 g22), (.mm undef h23), .g, .g, (.mm (sv v24) h24), (.mm (sv v27) h27), .g, .g, .g]) (ds := F51_m2_0) (ks := []) (e := .normal) (s2 := (F51_h2 x1 v2 x3 h27 (v27 :: ((List.tail u8) ++ [v12])) (IntKind.i64.wrap (a7 + 1)) (l8 ++ [(setI y20 a7 0)]))) (hC := (ai m27 (ai m24 (ai m23 (ai ix22 (ai hA20 (ai m12 (ai c10 trivial)))))))) (hd := F51_d2) (h := by kernel_rfl)⟩
  · intro hr
    obtain rfl := Option.some.inj hr
    refine ⟨(.exit 0), (F51_x2_0 h x1 v2 x3 h9 u8 (l8 : (List (List Int)))), (by intro hh; cases hh), ?_, pEnd_sound good (L := F51_L) (D := F51_D) (its := [.g, (.b false)]) (ds := F51_m2_1) (ks := []) (e := (.exit 0)) (s2 := (F51_x2_0 h x1 v2 x3 h9 u8 (l8 : (List (List Int))))) (hC := (ai c10 trivial)) (hd := F51_d2) (h := by kernel_rfl)⟩
    exact ⟨rfl, h9, u8, (Heapy.pickN2 (A := [⟨(hov u8), 29, 1, List.flatMap encH (List.tail u8)⟩]) (N := NIn 3 1 enc3 (List.tail u8) l8) hp9 1 rfl [0] (by decide) rfl), rfl⟩
theorem F51_l2 (h : AHeap) (x1 : Int) (v2 : Hd) (x3 : Int) (x : Int × (List (List Int))) (r : (List (List Int))) (hl : loopO (fun (s : Int × (List (List Int))) => F51_s2 x1 s.1 s.2) x = some r) (S : AS) (hI : (F51_i2 h x1 v2 x3) x S) : ∃ e S', (F51_x2 h x1 v2 x3) r e S' ∧ AWp Try.prog (.loop (codeOf Try.prog 51 [1, 1, 1, 0, 1, 0, 0])) (Ends1 e S') S :=
  loop_rel (fun x S hI => F51_r2 h x1 v2 x3 x.1 x.2 S hI) hl hI
def F51_m3_1 : List Bool := (false :: (rp 7 true (false :: (rp 164 true []))))
def F51_m3_0 : List Bool := (false :: false :: false :: (rp 5 true (false :: (rp 33 true (false :: false :: (rp 129 true []))))))
def F51_s3 (x1 : Int) (l2 : List (Int × Int × Int × Int)) (x3 : Int) (a31 : Int) (l32 : List (List Int)) : Option ((Int × (List (List Int))) ⊕ (List (List Int))) :=
  (bif decide (a31 < (l2.length : Int)) then
   (Option.bind (at? l2 a31) fun y35 =>
   (bif (F55 (F67 x1) y35.1 y35.2.1 y35.2.2.1 y35.2.2.2) then
    (Option.bind (at? l32 y35.1) fun y38 =>
    (Option.bind (at? y38 y35.2.1) fun y41 =>
    some (.inl ((IntKind.i64.wrap (a31 + 1)), (setI l32 y35.1 (setI y38 y35.2.1 (F51__1 x3 y35 y41)))))))
   else
    some (.inl ((IntKind.i64.wrap (a31 + 1)), l32))))
  else
   some (.inr l32))
def F51_h3 (x1 : Int) (l2 : List (Int × Int × Int × Int)) (v2 : Hd) (x3 : Int) (h33 : AHeap) (u32 : List Hd) (a31 : Int) (l32 : List (List Int)) : AS := ⟨((.int .i64 (F67 x1)) :: (sv v2) :: (.int .i64 x3) :: (rp 5 junk ((sv (hov u32)) :: (rp 33 junk ((.int .i64 (l2.length : Int)) :: (.int .i64 a31) :: (rp 129 junk [])))))), [], h33⟩
theorem F51_d3 : drawsOk F51_D (codeOf Try.prog 51 [1, 1, 1, 1, 0, 1, 0, 0]) = true := by kernel_rfl
def F51_x3_0 (h : AHeap) (x1 : Int) (hx : AHeap) (w0 : List Hd) (r : (List (List Int))) : AS := ⟨((.int .i64 (F67 x1)) :: (rp 7 junk ((sv (hov w0)) :: (rp 164 junk [])))), [], hx⟩
def F51_i3 (h : AHeap) (x1 : Int) (l2 : List (Int × Int × Int × Int)) (v2 : Hd) (x3 : Int) (s : Int × (List (List Int))) (S : AS) : Prop := ∃ (h33 : AHeap) (u32 : List Hd), Heapy h h33 ([⟨(hov u32), 29, 1, List.flatMap encH (List.tail u32)⟩] ++ NIn 3 1 enc3 (List.tail u32) s.2) ∧ S = (F51_h3 x1 l2 v2 x3 h33 u32 s.1 s.2)
def F51_x3 (h : AHeap) (x1 : Int) (r : (List (List Int))) (e : Exit) (S : AS) : Prop := e = (.exit 4) ∧ ∃ (hx : AHeap) (w0 : List Hd), Heapy h hx ([⟨(hov w0), 29, 1, List.flatMap encH (List.tail w0)⟩] ++ NIn 3 1 enc3 (List.tail w0) r) ∧ S = (F51_x3_0 h x1 hx w0 r)
set_option maxRecDepth 100000 in
theorem F51_r3 (h : AHeap) (x1 : Int) (l2 : List (Int × Int × Int × Int)) (v2 : Hd) (hv2 : SlE E57 4 h (sv v2) l2) (x3 : Int) (a31 : Int) (l32 : List (List Int)) (S : AS) (hI : (F51_i3 h x1 l2 v2 x3) (a31, l32) S) (o : (Int × (List (List Int))) ⊕ (List (List Int))) : F51_s3 x1 l2 x3 a31 l32 = some o → Rd Try.prog (codeOf Try.prog 51 [1, 1, 1, 1, 0, 1, 0, 0]) (F51_i3 h x1 l2 v2 x3) (F51_x3 h x1) S o := by
  obtain ⟨h33, u32, hp33, rfl⟩ := hI
  unfold F51_s3
  refine dec_bif (fun c34 => ?_) (fun c34 => ?_)
  · refine bind_opt fun y35 e35 => ?_
    obtain ⟨id35, off35, g35, cs35, ix35, at35, rfl⟩ := SlE.at hv2 e35
    have kc37 := (ai (F55_spec (F67 x1) y35.1 y35.2.1 y35.2.2.1 y35.2.2.2 h33 _ rfl) (ai (At.agg (P := Try.prog) (t := 57) (v := .agg #[.int .i64 y35.1, .int .i64 y35.2.1, .int .i64 y35.2.2.1, .int .i64 y35.2.2.2]) (m := 4) (At.mono (Heapy.sub hp33) at35) (by kernel_rfl) (by kernel_rfl) 0 (by kernel_rfl) rfl) (ai ix35 (ai c34 trivial))))
    refine dec_bif (fun c37 => ?_) (fun c37 => ?_)
    · refine bind_opt fun y38 e38 => ?_
      obtain ⟨id38, off38, g38, cs38, ix38, _, _⟩ := SlE.at (Heapy.sle (v := (hov u32)) (xs := (List.tail u32)) (enc := encH) hp33 0 rfl (fun _ => rfl) (by decide)) (Heapy.niat (A := [⟨(hov u32), 29, 1, List.flatMap encH (List.tail u32)⟩]) (hs := (List.tail u32)) (xss := l32) hp33 e38)
      have at39 : At h33 id38 off38 g38 (encH (hnth (List.tail u32) y35.1)) := (SlE.atp (Heapy.sle (v := (hov u32)) (xs := (List.tail u32)) (enc := encH) hp33 0 rfl (fun _ => rfl) (by decide)) ix38 (Heapy.niat (A := [⟨(hov u32), 29, 1, List.flatMap encH (List.tail u32)⟩]) (hs := (List.tail u32)) (xss := l32) hp33 e38)).elim fun cs k => by obtain ⟨k1, rfl⟩ := k; exact k1
      have at40 : At h33 id38 off38 g38 (encH (hnth (List.tail u32) y35.1)) := (SlE.atp (Heapy.sle (v := (hov u32)) (xs := (List.tail u32)) (enc := encH) hp33 0 rfl (fun _ => rfl) (by decide)) ix38 (Heapy.niat (A := [⟨(hov u32), 29, 1, List.flatMap encH (List.tail u32)⟩]) (hs := (List.tail u32)) (xss := l32) hp33 e38)).elim fun cs k => by obtain ⟨k1, rfl⟩ := k; exact k1
      refine bind_opt fun y41 e41 => ?_
      obtain ⟨id41, off41, g41, cs41, ix41, at41, rfl⟩ := SlE.at (Heapy.nisle (A := [⟨(hov u32), 29, 1, List.flatMap encH (List.tail u32)⟩]) (el := 3) (c := 1) (enc := enc3) (hs := (List.tail u32)) (xss := l32) hp33 e38 (fun _ => rfl) (by decide)) e41
      obtain ⟨h43, m43, hp43⟩ := Heapy.nistore (P := Try.prog) (A := [⟨(hov u32), 29, 1, List.flatMap encH (List.tail u32)⟩]) (el := 3) (c := 1) (enc := enc3) (hs := (List.tail u32)) (xss := l32) hp33 e38 (fun _ => rfl) e41 (y' := (F51__1 x3 y35 y41)) ix41 (t := 3) (x := .int .i64 (F51__1 x3 y35 y41)) 0 (vs := [.int .i64 (F51__1 x3 y35 y41)]) rfl (by kernel_rfl) rfl rfl rfl rfl
      intro hr
      obtain rfl := Option.some.inj hr
      exact ⟨(F51_h3 x1 l2 v2 x3 h43 ((hov u32) :: (List.tail u32)) (IntKind.i64.wrap (a31 + 1)) (setI l32 y35.1 (setI y38 y35.2.1 (F51__1 x3 y35 y41)))), ⟨h43, ((hov u32) :: (List.tail u32)), (Heapy.pickN2 (A := [⟨(hov u32), 29, 1, List.flatMap encH (List.tail u32)⟩]) (N := NIn 3 1 enc3 (List.tail u32) (setI l32 y35.1 (setI y38 y35.2.1 (F51__1 x3 y35 y41)))) hp43 1 rfl [0] (by decide) rfl), rfl⟩, pEnd_sound good (L := F51_L) (D := F51_D) (its := [.g, (.b true), .g, .g, .g, .g, .g, (.ix id35 off35 g35), (.ld (.agg #[.int .i64 y35.1, .int .i64 y35.2.1, .int .i64 y35.2.2.1, .int .i64 y35.2.2.2])), (.c (.bool (F55 (F67 x1) y35.1 y35.2.1 y35.2.2.1 y35.2.2.2)) h33), (.b true), .g, .g, .g, (.ix id35 off35 g35), .g, .g, .g, (.ix id35 off35 g35), .g, .g, .g, .g, (.ix id35 off35 g35), .g, .g, .g, (.ix id35 off35 g35), .g, .g, .g, (.ix id35 off35 g35), (.ld (.agg #[.int .i64 y35.1, .int .i64 y35.2.1, .int .i64 y35.2.2.1, .int .i64 y35.2.2.2])), .g, (.ld (.int .i64 y35.1)), (.ix id38 off38 g38), (.ld ((sv (hnth (List.tail u32) y35.1)))), (.ld (.int .i64 y35.2.1)), (.ld (.int .i64 y35.1)), (.ix id38 off38 g38), (.ld ((sv (hnth (List.tail u32) y35.1)))), (.ld (.int .i64 y35.2.1)), (.ix id41 off41 g41), (.ld (.int .i64 y41)), (.c (.int .i64 (F56 y35.1 y35.2.1 y35.2.2.1 y35.2.2.2 x3)) h33), .g, (.ix id41 off41 g41), (.mm undef h43), .g, .g]) (ds := F51_m3_0) (ks := []) (e := .normal) (s2 := (F51_h3 x1 l2 v2 x3 h43 ((hov u32) :: (List.tail u32)) (IntKind.i64.wrap (a31 + 1)) (setI l32 y35.1 (setI y38 y35.2.1 (F51__1 x3 y35 y41))))) (hC := (ai m43 (ai ix41 (ai (show AKeep h33 h33 from (AHeap.sub_refl h33)) (ai (F56_spec y35.1 y35.2.1 y35.2.2.1 y35.2.2.2 x3 h33 _ rfl) (ai (At.one (P := Try.prog) (t := 3) (v := .int .i64 y41) at41 (by kernel_rfl) 0 rfl rfl) (ai ix41 (ai (At.one (P := Try.prog) (t := 3) (v := .int .i64 y35.2.1) (At.mono (Heapy.sub hp33) at35) (by kernel_rfl) 1 rfl rfl) (ai (At.one (P := Try.prog) (t := 29) (v := (sv (hnth (List.tail u32) y35.1))) at40 (by kernel_rfl) 0 rfl rfl) (ai ix38 (ai (At.one (P := Try.prog) (t := 3) (v := .int .i64 y35.1) (At.mono (Heapy.sub hp33) at35) (by kernel_rfl) 0 rfl rfl) (ai (At.one (P := Try.prog) (t := 3) (v := .int .i64 y35.2.1) (At.mono (Heapy.sub hp33) at35) (by kernel_rfl) 1 rfl rfl) (ai (At.one (P := Try.prog) (t := 29) (v := (sv (hnth (List.tail u32) y35.1))) at39 (by kernel_rfl) 0 rfl rfl) (ai ix38 (ai (At.one (P := Try.prog) (t := 3) (v := .int .i64 y35.1) (At.mono (Heapy.sub hp33) at35) (by kernel_rfl) 0 rfl rfl) (ai (At.agg (P := Try.prog) (t := 57) (v := .agg #[.int .i64 y35.1, .int .i64 y35.2.1, .int .i64 y35.2.2.1, .int .i64 y35.2.2.2]) (m := 4) (At.mono (Heapy.sub hp33) at35) (by kernel_rfl) (by kernel_rfl) 0 (by kernel_rfl) rfl) (ai ix35 (ai ix35 (ai ix35 (ai ix35 (ai ix35 (ai c37 kc37)))))))))))))))))))))) (hd := F51_d3) (h := by kernel_rfl)⟩
    · intro hr
      obtain rfl := Option.some.inj hr
      exact ⟨(F51_h3 x1 l2 v2 x3 h33 u32 (IntKind.i64.wrap (a31 + 1)) l32), ⟨h33, u32, (Heapy.pickN2 (A := [⟨(hov u32), 29, 1, List.flatMap encH (List.tail u32)⟩]) (N := NIn 3 1 enc3 (List.tail u32) l32) hp33 1 rfl [0] (by decide) rfl), rfl⟩, pEnd_sound good (L := F51_L) (D := F51_D) (its := [.g, (.b true), .g, .g, .g, .g, .g, (.ix id35 off35 g35), (.ld (.agg #[.int .i64 y35.1, .int .i64 y35.2.1, .int .i64 y35.2.2.1, .int .i64 y35.2.2.2])), (.c (.bool (F55 (F67 x1) y35.1 y35.2.1 y35.2.2.1 y35.2.2.2)) h33), (.b false), .g, .g]) (ds := F51_m3_0) (ks := []) (e := .normal) (s2 := (F51_h3 x1 l2 v2 x3 h33 u32 (IntKind.i64.wrap (a31 + 1)) l32)) (hC := (ai c37 kc37)) (hd := F51_d3) (h := by kernel_rfl)⟩
  · intro hr
    obtain rfl := Option.some.inj hr
    refine ⟨(.exit 4), (F51_x3_0 h x1 h33 u32 (l32 : (List (List Int)))), (by intro hh; cases hh), ?_, pEnd_sound good (L := F51_L) (D := F51_D) (its := [.g, (.b false)]) (ds := F51_m3_1) (ks := []) (e := (.exit 4)) (s2 := (F51_x3_0 h x1 h33 u32 (l32 : (List (List Int))))) (hC := (ai c34 trivial)) (hd := F51_d3) (h := by kernel_rfl)⟩
    exact ⟨rfl, h33, u32, (Heapy.pickN2 (A := [⟨(hov u32), 29, 1, List.flatMap encH (List.tail u32)⟩]) (N := NIn 3 1 enc3 (List.tail u32) l32) hp33 1 rfl [0] (by decide) rfl), rfl⟩
theorem F51_l3 (h : AHeap) (x1 : Int) (l2 : List (Int × Int × Int × Int)) (v2 : Hd) (hv2 : SlE E57 4 h (sv v2) l2) (x3 : Int) (x : Int × (List (List Int))) (r : (List (List Int))) (hl : loopO (fun (s : Int × (List (List Int))) => F51_s3 x1 l2 x3 s.1 s.2) x = some r) (S : AS) (hI : (F51_i3 h x1 l2 v2 x3) x S) : ∃ e S', (F51_x3 h x1) r e S' ∧ AWp Try.prog (.loop (codeOf Try.prog 51 [1, 1, 1, 1, 0, 1, 0, 0])) (Ends1 e S') S :=
  loop_rel (fun x S hI => F51_r3 h x1 l2 v2 hv2 x3 x.1 x.2 S hI) hl hI
def F51_m4_1 : List Bool := (false :: (rp 7 true (false :: (rp 4 true (false :: (rp 75 true (false :: false :: (rp 10 true (false :: false :: (rp 70 true []))))))))))
def F51_m4_0 : List Bool := (false :: (rp 7 true (false :: (rp 4 true (false :: false :: (rp 74 true (false :: false :: (rp 10 true (false :: false :: true :: true :: false :: false :: (rp 66 true []))))))))))
def F51_s4 (x1 : Int) (a46 : Int) (a54 : Int) (a58 : Int) (l59 : List (List Int)) : Option ((Int × (List (List Int))) ⊕ (List (List Int))) :=
  (bif decide (a58 < (F67 x1)) then
   (Option.bind (at? l59 a54) fun y62 =>
   (Option.bind (at? y62 a46) fun y64 =>
   (bif decide (y64 > (-1152921504606846976)) then
    (Option.bind (at? l59 a46) fun y66 =>
    (Option.bind (at? y66 a58) fun y68 =>
    (bif decide (y68 > (-1152921504606846976)) then
     (Option.bind (at? y62 a58) fun y72 =>
     some (.inl ((IntKind.i64.wrap (a58 + 1)), (setI l59 a54 (setI y62 a58 (if (IntKind.i64.wrap (y64 + y68)) > y72 then (IntKind.i64.wrap (y64 + y68)) else y72))))))
    else
     some (.inl ((IntKind.i64.wrap (a58 + 1)), l59)))))
   else
    some (.inl ((IntKind.i64.wrap (a58 + 1)), l59)))))
  else
   some (.inr l59))
def F51_h4 (x1 : Int) (a46 : Int) (a54 : Int) (h60 : AHeap) (u59 : List Hd) (a58 : Int) (l59 : List (List Int)) : AS := ⟨((.int .i64 (F67 x1)) :: (rp 7 junk ((sv (hov u59)) :: (rp 4 junk ((.int .i64 a46) :: (.int .i64 a54) :: (rp 74 junk ((.int .i64 (F67 x1)) :: (.int .i64 a46) :: (rp 10 junk ((.int .i64 (F67 x1)) :: (.int .i64 a54) :: junk :: junk :: (.int .i64 (F67 x1)) :: (.int .i64 a58) :: (rp 66 junk [])))))))))), [], h60⟩
theorem F51_d4 : drawsOk F51_D (codeOf Try.prog 51 [1, 1, 1, 1, 1, 0, 1, 0, 0, 1, 1, 0, 0, 1, 1, 0, 1, 0, 0, 1, 1, 0, 0, 1, 1, 0, 0]) = true := by kernel_rfl
def F51_x4_0 (h : AHeap) (x1 : Int) (a46 : Int) (a54 : Int) (hx : AHeap) (w0 : List Hd) (r : (List (List Int))) : AS := ⟨((.int .i64 (F67 x1)) :: (rp 7 junk ((sv (hov w0)) :: (rp 4 junk ((.int .i64 a46) :: (rp 75 junk ((.int .i64 (F67 x1)) :: (.int .i64 a46) :: (rp 10 junk ((.int .i64 (F67 x1)) :: (.int .i64 a54) :: (rp 70 junk [])))))))))), [], hx⟩
def F51_i4 (h : AHeap) (x1 : Int) (a46 : Int) (a54 : Int) (s : Int × (List (List Int))) (S : AS) : Prop := ∃ (h60 : AHeap) (u59 : List Hd), Heapy h h60 ([⟨(hov u59), 29, 1, List.flatMap encH (List.tail u59)⟩] ++ NIn 3 1 enc3 (List.tail u59) s.2) ∧ S = (F51_h4 x1 a46 a54 h60 u59 s.1 s.2)
def F51_x4 (h : AHeap) (x1 : Int) (a46 : Int) (a54 : Int) (r : (List (List Int))) (e : Exit) (S : AS) : Prop := e = (.exit 10) ∧ ∃ (hx : AHeap) (w0 : List Hd), Heapy h hx ([⟨(hov w0), 29, 1, List.flatMap encH (List.tail w0)⟩] ++ NIn 3 1 enc3 (List.tail w0) r) ∧ S = (F51_x4_0 h x1 a46 a54 hx w0 r)
set_option maxRecDepth 100000 in
theorem F51_r4 (h : AHeap) (x1 : Int) (a46 : Int) (a54 : Int) (a58 : Int) (l59 : List (List Int)) (S : AS) (hI : (F51_i4 h x1 a46 a54) (a58, l59) S) (o : (Int × (List (List Int))) ⊕ (List (List Int))) : F51_s4 x1 a46 a54 a58 l59 = some o → Rd Try.prog (codeOf Try.prog 51 [1, 1, 1, 1, 1, 0, 1, 0, 0, 1, 1, 0, 0, 1, 1, 0, 1, 0, 0, 1, 1, 0, 0, 1, 1, 0, 0]) (F51_i4 h x1 a46 a54) (F51_x4 h x1 a46 a54) S o := by
  obtain ⟨h60, u59, hp60, rfl⟩ := hI
  unfold F51_s4
  refine dec_bif (fun c61 => ?_) (fun c61 => ?_)
  · refine bind_opt fun y62 e62 => ?_
    obtain ⟨id62, off62, g62, cs62, ix62, _, _⟩ := SlE.at (Heapy.sle (v := (hov u59)) (xs := (List.tail u59)) (enc := encH) hp60 0 rfl (fun _ => rfl) (by decide)) (Heapy.niat (A := [⟨(hov u59), 29, 1, List.flatMap encH (List.tail u59)⟩]) (hs := (List.tail u59)) (xss := l59) hp60 e62)
    have at63 : At h60 id62 off62 g62 (encH (hnth (List.tail u59) a54)) := (SlE.atp (Heapy.sle (v := (hov u59)) (xs := (List.tail u59)) (enc := encH) hp60 0 rfl (fun _ => rfl) (by decide)) ix62 (Heapy.niat (A := [⟨(hov u59), 29, 1, List.flatMap encH (List.tail u59)⟩]) (hs := (List.tail u59)) (xss := l59) hp60 e62)).elim fun cs k => by obtain ⟨k1, rfl⟩ := k; exact k1
    refine bind_opt fun y64 e64 => ?_
    obtain ⟨id64, off64, g64, cs64, ix64, at64, rfl⟩ := SlE.at (Heapy.nisle (A := [⟨(hov u59), 29, 1, List.flatMap encH (List.tail u59)⟩]) (el := 3) (c := 1) (enc := enc3) (hs := (List.tail u59)) (xss := l59) hp60 e62 (fun _ => rfl) (by decide)) e64
    have kc65 := (ai (At.one (P := Try.prog) (t := 3) (v := .int .i64 y64) at64 (by kernel_rfl) 0 rfl rfl) (ai ix64 (ai (At.one (P := Try.prog) (t := 29) (v := (sv (hnth (List.tail u59) a54))) at63 (by kernel_rfl) 0 rfl rfl) (ai ix62 (ai c61 trivial)))))
    refine dec_bif (fun c65 => ?_) (fun c65 => ?_)
    · refine bind_opt fun y66 e66 => ?_
      obtain ⟨id66, off66, g66, cs66, ix66, _, _⟩ := SlE.at (Heapy.sle (v := (hov u59)) (xs := (List.tail u59)) (enc := encH) hp60 0 rfl (fun _ => rfl) (by decide)) (Heapy.niat (A := [⟨(hov u59), 29, 1, List.flatMap encH (List.tail u59)⟩]) (hs := (List.tail u59)) (xss := l59) hp60 e66)
      have at67 : At h60 id66 off66 g66 (encH (hnth (List.tail u59) a46)) := (SlE.atp (Heapy.sle (v := (hov u59)) (xs := (List.tail u59)) (enc := encH) hp60 0 rfl (fun _ => rfl) (by decide)) ix66 (Heapy.niat (A := [⟨(hov u59), 29, 1, List.flatMap encH (List.tail u59)⟩]) (hs := (List.tail u59)) (xss := l59) hp60 e66)).elim fun cs k => by obtain ⟨k1, rfl⟩ := k; exact k1
      refine bind_opt fun y68 e68 => ?_
      obtain ⟨id68, off68, g68, cs68, ix68, at68, rfl⟩ := SlE.at (Heapy.nisle (A := [⟨(hov u59), 29, 1, List.flatMap encH (List.tail u59)⟩]) (el := 3) (c := 1) (enc := enc3) (hs := (List.tail u59)) (xss := l59) hp60 e66 (fun _ => rfl) (by decide)) e68
      have kc69 := (ai c65 (ai (g_tt c65) (ai (At.one (P := Try.prog) (t := 3) (v := .int .i64 y68) at68 (by kernel_rfl) 0 rfl rfl) (ai (g_tt c65) (ai ix68 (ai (g_tt c65) (ai (g_tt c65) (ai (At.one (P := Try.prog) (t := 29) (v := (sv (hnth (List.tail u59) a46))) at67 (by kernel_rfl) 0 rfl rfl) (ai (g_tt c65) (ai ix66 (ai (g_tt c65) (ai (g_tt c65) (ai (g_tt c65) kc65)))))))))))))
      refine dec_bif (fun c69 => ?_) (fun c69 => ?_)
      · have at70 : At h60 id62 off62 g62 (encH (hnth (List.tail u59) a54)) := (SlE.atp (Heapy.sle (v := (hov u59)) (xs := (List.tail u59)) (enc := encH) hp60 0 rfl (fun _ => rfl) (by decide)) ix62 (Heapy.niat (A := [⟨(hov u59), 29, 1, List.flatMap encH (List.tail u59)⟩]) (hs := (List.tail u59)) (xss := l59) hp60 e62)).elim fun cs k => by obtain ⟨k1, rfl⟩ := k; exact k1
        have at71 : At h60 id62 off62 g62 (encH (hnth (List.tail u59) a54)) := (SlE.atp (Heapy.sle (v := (hov u59)) (xs := (List.tail u59)) (enc := encH) hp60 0 rfl (fun _ => rfl) (by decide)) ix62 (Heapy.niat (A := [⟨(hov u59), 29, 1, List.flatMap encH (List.tail u59)⟩]) (hs := (List.tail u59)) (xss := l59) hp60 e62)).elim fun cs k => by obtain ⟨k1, rfl⟩ := k; exact k1
        refine bind_opt fun y72 e72 => ?_
        obtain ⟨id72, off72, g72, cs72, ix72, at72, rfl⟩ := SlE.at (Heapy.nisle (A := [⟨(hov u59), 29, 1, List.flatMap encH (List.tail u59)⟩]) (el := 3) (c := 1) (enc := enc3) (hs := (List.tail u59)) (xss := l59) hp60 e62 (fun _ => rfl) (by decide)) e72
        have at73 : At h60 id62 off62 g62 (encH (hnth (List.tail u59) a54)) := (SlE.atp (Heapy.sle (v := (hov u59)) (xs := (List.tail u59)) (enc := encH) hp60 0 rfl (fun _ => rfl) (by decide)) ix62 (Heapy.niat (A := [⟨(hov u59), 29, 1, List.flatMap encH (List.tail u59)⟩]) (hs := (List.tail u59)) (xss := l59) hp60 e62)).elim fun cs k => by obtain ⟨k1, rfl⟩ := k; exact k1
        have at74 : At h60 id66 off66 g66 (encH (hnth (List.tail u59) a46)) := (SlE.atp (Heapy.sle (v := (hov u59)) (xs := (List.tail u59)) (enc := encH) hp60 0 rfl (fun _ => rfl) (by decide)) ix66 (Heapy.niat (A := [⟨(hov u59), 29, 1, List.flatMap encH (List.tail u59)⟩]) (hs := (List.tail u59)) (xss := l59) hp60 e66)).elim fun cs k => by obtain ⟨k1, rfl⟩ := k; exact k1
        obtain ⟨h75, m75, hp75⟩ := Heapy.nistore (P := Try.prog) (A := [⟨(hov u59), 29, 1, List.flatMap encH (List.tail u59)⟩]) (el := 3) (c := 1) (enc := enc3) (hs := (List.tail u59)) (xss := l59) hp60 e62 (fun _ => rfl) e72 (y' := (if (IntKind.i64.wrap (y64 + y68)) > y72 then (IntKind.i64.wrap (y64 + y68)) else y72)) ix72 (t := 3) (x := .int .i64 (if (IntKind.i64.wrap (y64 + y68)) > y72 then (IntKind.i64.wrap (y64 + y68)) else y72)) 0 (vs := [.int .i64 (if (IntKind.i64.wrap (y64 + y68)) > y72 then (IntKind.i64.wrap (y64 + y68)) else y72)]) rfl (by kernel_rfl) rfl rfl rfl rfl
        intro hr
        obtain rfl := Option.some.inj hr
        exact ⟨(F51_h4 x1 a46 a54 h75 ((hov u59) :: (List.tail u59)) (IntKind.i64.wrap (a58 + 1)) (setI l59 a54 (setI y62 a58 (if (IntKind.i64.wrap (y64 + y68)) > y72 then (IntKind.i64.wrap (y64 + y68)) else y72)))), ⟨h75, ((hov u59) :: (List.tail u59)), (Heapy.pickN2 (A := [⟨(hov u59), 29, 1, List.flatMap encH (List.tail u59)⟩]) (N := NIn 3 1 enc3 (List.tail u59) (setI l59 a54 (setI y62 a58 (if (IntKind.i64.wrap (y64 + y68)) > y72 then (IntKind.i64.wrap (y64 + y68)) else y72)))) hp75 1 rfl [0] (by decide) rfl), rfl⟩, pEnd_sound good (L := F51_L) (D := F51_D) (its := [.g, (.b true), .g, .g, .g, .g, (.ix id62 off62 g62), (.ld ((sv (hnth (List.tail u59) a54)))), .g, (.ix id64 off64 g64), (.ld (.int .i64 y64)), .g, .g, (.w .g), (.w .g), (.w (.ix id66 off66 g66)), (.w (.ld ((sv (hnth (List.tail u59) a46))))), (.w .g), (.w (.ix id68 off68 g68)), (.w (.ld (.int .i64 y68))), (.w .g), (.p true), (.b true), .g, .g, (.ix id62 off62 g62), (.ld ((sv (hnth (List.tail u59) a54)))), .g, .g, .g, (.ix id62 off62 g62), (.ld ((sv (hnth (List.tail u59) a54)))), .g, (.ix id72 off72 g72), (.ld (.int .i64 y72)), .g, .g, (.ix id62 off62 g62), (.ld ((sv (hnth (List.tail u59) a54)))), .g, (.ix id64 off64 g64), (.ld (.int .i64 y64)), .g, .g, (.ix id66 off66 g66), (.ld ((sv (hnth (List.tail u59) a46)))), .g, (.ix id68 off68 g68), (.ld (.int .i64 y68)), .g, .g, (.ix id72 off72 g72), (.mm undef h75), .g, .g]) (ds := F51_m4_0) (ks := []) (e := .normal) (s2 := (F51_h4 x1 a46 a54 h75 ((hov u59) :: (List.tail u59)) (IntKind.i64.wrap (a58 + 1)) (setI l59 a54 (setI y62 a58 (if (IntKind.i64.wrap (y64 + y68)) > y72 then (IntKind.i64.wrap (y64 + y68)) else y72))))) (hC := (ai m75 (ai ix72 (ai (At.one (P := Try.prog) (t := 3) (v := .int .i64 y68) at68 (by kernel_rfl) 0 rfl rfl) (ai ix68 (ai (At.one (P := Try.prog) (t := 29) (v := (sv (hnth (List.tail u59) a46))) at74 (by kernel_rfl) 0 rfl rfl) (ai ix66 (ai (At.one (P := Try.prog) (t := 3) (v := .int .i64 y64) at64 (by kernel_rfl) 0 rfl rfl) (ai ix64 (ai (At.one (P := Try.prog) (t := 29) (v := (sv (hnth (List.tail u59) a54))) at73 (by kernel_rfl) 0 rfl rfl) (ai ix62 (ai (At.one (P := Try.prog) (t := 3) (v := .int .i64 y72) at72 (by kernel_rfl) 0 rfl rfl) (ai ix72 (ai (At.one (P := Try.prog) (t := 29) (v := (sv (hnth (List.tail u59) a54))) at71 (by kernel_rfl) 0 rfl rfl) (ai ix62 (ai (At.one (P := Try.prog) (t := 29) (v := (sv (hnth (List.tail u59) a54))) at70 (by kernel_rfl) 0 rfl rfl) (ai ix62 (ai c69 kc69)))))))))))))))))) (hd := F51_d4) (h := by kernel_rfl)⟩
      · intro hr
        obtain rfl := Option.some.inj hr
        exact ⟨(F51_h4 x1 a46 a54 h60 u59 (IntKind.i64.wrap (a58 + 1)) l59), ⟨h60, u59, (Heapy.pickN2 (A := [⟨(hov u59), 29, 1, List.flatMap encH (List.tail u59)⟩]) (N := NIn 3 1 enc3 (List.tail u59) l59) hp60 1 rfl [0] (by decide) rfl), rfl⟩, pEnd_sound good (L := F51_L) (D := F51_D) (its := [.g, (.b true), .g, .g, .g, .g, (.ix id62 off62 g62), (.ld ((sv (hnth (List.tail u59) a54)))), .g, (.ix id64 off64 g64), (.ld (.int .i64 y64)), .g, .g, (.w .g), (.w .g), (.w (.ix id66 off66 g66)), (.w (.ld ((sv (hnth (List.tail u59) a46))))), (.w .g), (.w (.ix id68 off68 g68)), (.w (.ld (.int .i64 y68))), (.w .g), (.p true), (.b false), .g, .g]) (ds := F51_m4_0) (ks := []) (e := .normal) (s2 := (F51_h4 x1 a46 a54 h60 u59 (IntKind.i64.wrap (a58 + 1)) l59)) (hC := (ai c69 kc69)) (hd := F51_d4) (h := by kernel_rfl)⟩
    · intro hr
      obtain rfl := Option.some.inj hr
      exact ⟨(F51_h4 x1 a46 a54 h60 u59 (IntKind.i64.wrap (a58 + 1)) l59), ⟨h60, u59, (Heapy.pickN2 (A := [⟨(hov u59), 29, 1, List.flatMap encH (List.tail u59)⟩]) (N := NIn 3 1 enc3 (List.tail u59) l59) hp60 1 rfl [0] (by decide) rfl), rfl⟩, pEnd_sound good (L := F51_L) (D := F51_D) (its := [.g, (.b true), .g, .g, .g, .g, (.ix id62 off62 g62), (.ld ((sv (hnth (List.tail u59) a54)))), .g, (.ix id64 off64 g64), (.ld (.int .i64 y64)), .g, .g, .n, .n, .n, .n, .n, .n, .n, .n, (.p false), (.b false), .g, .g]) (ds := F51_m4_0) (ks := []) (e := .normal) (s2 := (F51_h4 x1 a46 a54 h60 u59 (IntKind.i64.wrap (a58 + 1)) l59)) (hC := (ai l_f (ai c65 (ai (g_ft c65) (ai (g_ft c65) (ai (g_ft c65) (ai (g_ft c65) (ai (g_ft c65) (ai (g_ft c65) (ai (g_ft c65) (ai (g_ft c65) kc65))))))))))) (hd := F51_d4) (h := by kernel_rfl)⟩
  · intro hr
    obtain rfl := Option.some.inj hr
    refine ⟨(.exit 10), (F51_x4_0 h x1 a46 a54 h60 u59 (l59 : (List (List Int)))), (by intro hh; cases hh), ?_, pEnd_sound good (L := F51_L) (D := F51_D) (its := [.g, (.b false)]) (ds := F51_m4_1) (ks := []) (e := (.exit 10)) (s2 := (F51_x4_0 h x1 a46 a54 h60 u59 (l59 : (List (List Int))))) (hC := (ai c61 trivial)) (hd := F51_d4) (h := by kernel_rfl)⟩
    exact ⟨rfl, h60, u59, (Heapy.pickN2 (A := [⟨(hov u59), 29, 1, List.flatMap encH (List.tail u59)⟩]) (N := NIn 3 1 enc3 (List.tail u59) l59) hp60 1 rfl [0] (by decide) rfl), rfl⟩
theorem F51_l4 (h : AHeap) (x1 : Int) (a46 : Int) (a54 : Int) (x : Int × (List (List Int))) (r : (List (List Int))) (hl : loopO (fun (s : Int × (List (List Int))) => F51_s4 x1 a46 a54 s.1 s.2) x = some r) (S : AS) (hI : (F51_i4 h x1 a46 a54) x S) : ∃ e S', (F51_x4 h x1 a46 a54) r e S' ∧ AWp Try.prog (.loop (codeOf Try.prog 51 [1, 1, 1, 1, 1, 0, 1, 0, 0, 1, 1, 0, 0, 1, 1, 0, 1, 0, 0, 1, 1, 0, 0, 1, 1, 0, 0])) (Ends1 e S') S :=
  loop_rel (fun x S hI => F51_r4 h x1 a46 a54 x.1 x.2 S hI) hl hI
def F51_m5_1 : List Bool := (false :: (rp 7 true (false :: (rp 80 true (false :: false :: (rp 82 true []))))))
def F51_m5_0 : List Bool := (false :: (rp 7 true (false :: (rp 4 true (false :: (rp 75 true (false :: false :: (rp 10 true (false :: false :: (rp 70 true []))))))))))
def F51_s5 (x1 : Int) (a46 : Int) (a54 : Int) (l55 : List (List Int)) : Option ((Int × (List (List Int))) ⊕ (List (List Int))) :=
  (bif decide (a54 < (F67 x1)) then
   (Option.bind (loopO (fun (s : Int × (List (List Int))) => F51_s4 x1 a46 a54 s.1 s.2) (0, l55)) fun y76 =>
   some (.inl ((IntKind.i64.wrap (a54 + 1)), y76)))
  else
   some (.inr l55))
def F51_h5 (x1 : Int) (a46 : Int) (h56 : AHeap) (u55 : List Hd) (a54 : Int) (l55 : List (List Int)) : AS := ⟨((.int .i64 (F67 x1)) :: (rp 7 junk ((sv (hov u55)) :: (rp 4 junk ((.int .i64 a46) :: (rp 75 junk ((.int .i64 (F67 x1)) :: (.int .i64 a46) :: (rp 10 junk ((.int .i64 (F67 x1)) :: (.int .i64 a54) :: (rp 70 junk [])))))))))), [], h56⟩
theorem F51_d5 : drawsOk F51_D (codeOf Try.prog 51 [1, 1, 1, 1, 1, 0, 1, 0, 0, 1, 1, 0, 0, 1, 1, 0, 1, 0, 0]) = true := by kernel_rfl
def F51_x5_0 (h : AHeap) (x1 : Int) (a46 : Int) (hx : AHeap) (w0 : List Hd) (r : (List (List Int))) : AS := ⟨((.int .i64 (F67 x1)) :: (rp 7 junk ((sv (hov w0)) :: (rp 80 junk ((.int .i64 (F67 x1)) :: (.int .i64 a46) :: (rp 82 junk [])))))), [], hx⟩
def F51_i5 (h : AHeap) (x1 : Int) (a46 : Int) (s : Int × (List (List Int))) (S : AS) : Prop := ∃ (h56 : AHeap) (u55 : List Hd), Heapy h h56 ([⟨(hov u55), 29, 1, List.flatMap encH (List.tail u55)⟩] ++ NIn 3 1 enc3 (List.tail u55) s.2) ∧ S = (F51_h5 x1 a46 h56 u55 s.1 s.2)
def F51_x5 (h : AHeap) (x1 : Int) (a46 : Int) (r : (List (List Int))) (e : Exit) (S : AS) : Prop := e = (.exit 8) ∧ ∃ (hx : AHeap) (w0 : List Hd), Heapy h hx ([⟨(hov w0), 29, 1, List.flatMap encH (List.tail w0)⟩] ++ NIn 3 1 enc3 (List.tail w0) r) ∧ S = (F51_x5_0 h x1 a46 hx w0 r)
set_option maxRecDepth 100000 in
theorem F51_r5 (h : AHeap) (x1 : Int) (a46 : Int) (a54 : Int) (l55 : List (List Int)) (S : AS) (hI : (F51_i5 h x1 a46) (a54, l55) S) (o : (Int × (List (List Int))) ⊕ (List (List Int))) : F51_s5 x1 a46 a54 l55 = some o → Rd Try.prog (codeOf Try.prog 51 [1, 1, 1, 1, 1, 0, 1, 0, 0, 1, 1, 0, 0, 1, 1, 0, 1, 0, 0]) (F51_i5 h x1 a46) (F51_x5 h x1 a46) S o := by
  obtain ⟨h56, u55, hp56, rfl⟩ := hI
  unfold F51_s5
  refine dec_bif (fun c57 => ?_) (fun c57 => ?_)
  · refine bind_opt fun y76 e76 => ?_
    obtain ⟨ee76, SS76, hX76, hA76⟩ := F51_l4 h x1 a46 a54 (0, l55) y76 e76 (F51_h4 x1 a46 a54 h56 u55 0 l55) ⟨h56, u55, (Heapy.pickN2 (A := [⟨(hov u55), 29, 1, List.flatMap encH (List.tail u55)⟩]) (N := NIn 3 1 enc3 (List.tail u55) l55) hp56 1 rfl [0] (by decide) rfl), rfl⟩
    obtain ⟨rfl, h77, w0_77, hp77, rfl⟩ := hX76
    intro hr
    obtain rfl := Option.some.inj hr
    exact ⟨(F51_h5 x1 a46 h77 w0_77 (IntKind.i64.wrap (a54 + 1)) y76), ⟨h77, w0_77, (Heapy.pickN2 (A := [⟨(hov w0_77), 29, 1, List.flatMap encH (List.tail w0_77)⟩]) (N := NIn 3 1 enc3 (List.tail w0_77) y76) hp77 1 rfl [0] (by decide) rfl), rfl⟩, pEnd_sound good (L := F51_L) (D := F51_D) (its := [.g, (.b true), .g, .g, .g, .g, (.l F51_m4_0 [] (.exit 10) (F51_x4_0 h x1 a46 a54 h77 w0_77 y76)), .g, .g]) (ds := F51_m5_0) (ks := []) (e := .normal) (s2 := (F51_h5 x1 a46 h77 w0_77 (IntKind.i64.wrap (a54 + 1)) y76)) (hC := (ai hA76 (ai c57 trivial))) (hd := F51_d5) (h := by kernel_rfl)⟩
  · intro hr
    obtain rfl := Option.some.inj hr
    refine ⟨(.exit 8), (F51_x5_0 h x1 a46 h56 u55 (l55 : (List (List Int)))), (by intro hh; cases hh), ?_, pEnd_sound good (L := F51_L) (D := F51_D) (its := [.g, (.b false)]) (ds := F51_m5_1) (ks := []) (e := (.exit 8)) (s2 := (F51_x5_0 h x1 a46 h56 u55 (l55 : (List (List Int))))) (hC := (ai c57 trivial)) (hd := F51_d5) (h := by kernel_rfl)⟩
    exact ⟨rfl, h56, u55, (Heapy.pickN2 (A := [⟨(hov u55), 29, 1, List.flatMap encH (List.tail u55)⟩]) (N := NIn 3 1 enc3 (List.tail u55) l55) hp56 1 rfl [0] (by decide) rfl), rfl⟩
theorem F51_l5 (h : AHeap) (x1 : Int) (a46 : Int) (x : Int × (List (List Int))) (r : (List (List Int))) (hl : loopO (fun (s : Int × (List (List Int))) => F51_s5 x1 a46 s.1 s.2) x = some r) (S : AS) (hI : (F51_i5 h x1 a46) x S) : ∃ e S', (F51_x5 h x1 a46) r e S' ∧ AWp Try.prog (.loop (codeOf Try.prog 51 [1, 1, 1, 1, 1, 0, 1, 0, 0, 1, 1, 0, 0, 1, 1, 0, 1, 0, 0])) (Ends1 e S') S :=
  loop_rel (fun x S hI => F51_r5 h x1 a46 x.1 x.2 S hI) hl hI
def F51_m6_2 : List Bool := (false :: (rp 7 true (false :: (rp 80 true (false :: false :: (rp 82 true []))))))
def F51_m6_1 : List Bool := (false :: (rp 7 true (false :: (rp 80 true (false :: false :: (rp 67 true (false :: false :: (rp 13 true []))))))))
def F51_m6_0 : List Bool := (rp 6 true (false :: false :: (rp 165 true [])))
def F51_s6 (x1 : Int) (y78 : (List (List Int))) (a80 : Int) : Option (Int ⊕ Nat) :=
  (bif decide (a80 < (F67 x1)) then
   (Option.bind (at? y78 a80) fun y82 =>
   (Option.bind (at? y82 a80) fun y84 =>
   (bif decide (y84 > 0) then
    some (.inr 0)
   else
    some (.inl (IntKind.i64.wrap (a80 + 1))))))
  else
   some (.inr 1))
def F51_h6 (x1 : Int) (a46 : Int) (w0_79 : List Hd) (h79 : AHeap)  (a80 : Int) : AS := ⟨((.int .i64 (F67 x1)) :: (rp 7 junk ((sv (hov w0_79)) :: (rp 80 junk ((.int .i64 (F67 x1)) :: (.int .i64 a46) :: (rp 67 junk ((.int .i64 (F67 x1)) :: (.int .i64 a80) :: (rp 13 junk [])))))))), [], h79⟩
theorem F51_d6 : drawsOk F51_D (codeOf Try.prog 51 [1, 1, 1, 1, 1, 0, 1, 0, 0, 1, 1, 0, 0, 1, 1, 1, 1, 0, 0]) = true := by kernel_rfl
def F51_x6_0 (x1 : Int) (a46 : Int) (w0_79 : List Hd) (h79 : AHeap)  (r : Nat) : AS := ⟨(rp 6 junk ((.slice none 0 0) :: (.bool false) :: (rp 165 junk []))), [], h79⟩
def F51_x6_1 (x1 : Int) (a46 : Int) (w0_79 : List Hd) (h79 : AHeap)  (r : Nat) : AS := ⟨((.int .i64 (F67 x1)) :: (rp 7 junk ((sv (hov w0_79)) :: (rp 80 junk ((.int .i64 (F67 x1)) :: (.int .i64 a46) :: (rp 82 junk [])))))), [], h79⟩
def F51_x6 (x1 : Int) (a46 : Int) (w0_79 : List Hd) (h79 : AHeap) (r : Nat) : Exit × AS := (bif Nat.beq r 0 then (.ret, (F51_x6_0 x1 a46 w0_79 h79 r)) else ((.exit 12), (F51_x6_1 x1 a46 w0_79 h79 r)))
set_option maxRecDepth 100000 in
theorem F51_r6 (h : AHeap) (x1 : Int) (a46 : Int) (y78 : (List (List Int))) (w0_79 : List Hd) (h79 : AHeap) (hp79 : Heapy h h79 ([⟨(hov w0_79), 29, 1, List.flatMap encH (List.tail w0_79)⟩] ++ NIn 3 1 enc3 (List.tail w0_79) y78)) (a80 : Int) (o : Int ⊕ Nat) : F51_s6 x1 y78 a80 = some o → RdF Try.prog (codeOf Try.prog 51 [1, 1, 1, 1, 1, 0, 1, 0, 0, 1, 1, 0, 0, 1, 1, 1, 1, 0, 0]) (fun (s : Int) => (F51_h6 x1 a46 w0_79 h79 s)) (F51_x6 x1 a46 w0_79 h79) (F51_h6 x1 a46 w0_79 h79 a80) o := by
  unfold F51_s6
  refine dec_bif (fun c81 => ?_) (fun c81 => ?_)
  · refine bind_opt fun y82 e82 => ?_
    obtain ⟨id82, off82, g82, cs82, ix82, _, _⟩ := SlE.at (Heapy.sle (v := (hov w0_79)) (xs := (List.tail w0_79)) (enc := encH) hp79 0 rfl (fun _ => rfl) (by decide)) (Heapy.niat (A := [⟨(hov w0_79), 29, 1, List.flatMap encH (List.tail w0_79)⟩]) (hs := (List.tail w0_79)) (xss := y78) hp79 e82)
    have at83 : At h79 id82 off82 g82 (encH (hnth (List.tail w0_79) a80)) := (SlE.atp (Heapy.sle (v := (hov w0_79)) (xs := (List.tail w0_79)) (enc := encH) hp79 0 rfl (fun _ => rfl) (by decide)) ix82 (Heapy.niat (A := [⟨(hov w0_79), 29, 1, List.flatMap encH (List.tail w0_79)⟩]) (hs := (List.tail w0_79)) (xss := y78) hp79 e82)).elim fun cs k => by obtain ⟨k1, rfl⟩ := k; exact k1
    refine bind_opt fun y84 e84 => ?_
    obtain ⟨id84, off84, g84, cs84, ix84, at84, rfl⟩ := SlE.at (Heapy.nisle (A := [⟨(hov w0_79), 29, 1, List.flatMap encH (List.tail w0_79)⟩]) (el := 3) (c := 1) (enc := enc3) (hs := (List.tail w0_79)) (xss := y78) hp79 e82 (fun _ => rfl) (by decide)) e84
    have kc85 := (ai (At.one (P := Try.prog) (t := 3) (v := .int .i64 y84) at84 (by kernel_rfl) 0 rfl rfl) (ai ix84 (ai (At.one (P := Try.prog) (t := 29) (v := (sv (hnth (List.tail w0_79) a80))) at83 (by kernel_rfl) 0 rfl rfl) (ai ix82 (ai c81 trivial)))))
    refine dec_bif (fun c85 => ?_) (fun c85 => ?_)
    · intro hr
      obtain rfl := Option.some.inj hr
      show AWp Try.prog _ (Ends1 ((F51_x6 x1 a46 w0_79 h79) (0 : Nat)).1 ((F51_x6 x1 a46 w0_79 h79) (0 : Nat)).2) _
      exact pEnd_sound good (L := F51_L) (D := F51_D) (its := [.g, (.b true), .g, .g, .g, .g, (.ix id82 off82 g82), (.ld ((sv (hnth (List.tail w0_79) a80)))), .g, (.ix id84 off84 g84), (.ld (.int .i64 y84)), .g, (.b true), .g, .g]) (ds := F51_m6_0) (ks := []) (e := ((F51_x6 x1 a46 w0_79 h79) (0 : Nat)).1) (s2 := ((F51_x6 x1 a46 w0_79 h79) (0 : Nat)).2) (hC := (ai c85 kc85)) (hd := F51_d6) (h := by kernel_rfl)
    · intro hr
      obtain rfl := Option.some.inj hr
      show AWp Try.prog _ (Ends1 .normal (F51_h6 x1 a46 w0_79 h79 (IntKind.i64.wrap (a80 + 1)))) _
      exact pEnd_sound good (L := F51_L) (D := F51_D) (its := [.g, (.b true), .g, .g, .g, .g, (.ix id82 off82 g82), (.ld ((sv (hnth (List.tail w0_79) a80)))), .g, (.ix id84 off84 g84), (.ld (.int .i64 y84)), .g, (.b false), .g, .g]) (ds := F51_m6_1) (ks := []) (e := .normal) (s2 := (F51_h6 x1 a46 w0_79 h79 (IntKind.i64.wrap (a80 + 1)))) (hC := (ai c85 kc85)) (hd := F51_d6) (h := by kernel_rfl)
  · intro hr
    obtain rfl := Option.some.inj hr
    show AWp Try.prog _ (Ends1 ((F51_x6 x1 a46 w0_79 h79) (1 : Nat)).1 ((F51_x6 x1 a46 w0_79 h79) (1 : Nat)).2) _
    exact pEnd_sound good (L := F51_L) (D := F51_D) (its := [.g, (.b false)]) (ds := F51_m6_2) (ks := []) (e := ((F51_x6 x1 a46 w0_79 h79) (1 : Nat)).1) (s2 := ((F51_x6 x1 a46 w0_79 h79) (1 : Nat)).2) (hC := (ai c81 trivial)) (hd := F51_d6) (h := by kernel_rfl)
theorem F51_l6_0 (h : AHeap) (x1 : Int) (a46 : Int) (y78 : (List (List Int))) (w0_79 : List Hd) (h79 : AHeap) (hp79 : Heapy h h79 ([⟨(hov w0_79), 29, 1, List.flatMap encH (List.tail w0_79)⟩] ++ NIn 3 1 enc3 (List.tail w0_79) y78)) (x : Int) (r : Nat) (hl : loopO (fun (s : Int) => F51_s6 x1 y78 s) x = some r) (q0 : Nat.beq r 0 = true) : AWp Try.prog (.loop (codeOf Try.prog 51 [1, 1, 1, 1, 1, 0, 1, 0, 0, 1, 1, 0, 0, 1, 1, 1, 1, 0, 0])) (Ends1 .ret (F51_x6_0 x1 a46 w0_79 h79 r)) ((fun (s : Int) => (F51_h6 x1 a46 w0_79 h79 s)) x) := by
  have k := loop_fun (P := Try.prog) (c := (codeOf Try.prog 51 [1, 1, 1, 1, 1, 0, 1, 0, 0, 1, 1, 0, 0, 1, 1, 1, 1, 0, 0])) (step := (fun (s : Int) => F51_s6 x1 y78 s)) (hd := (fun (s : Int) => (F51_h6 x1 a46 w0_79 h79 s))) (X := (F51_x6 x1 a46 w0_79 h79)) (by intro t; unfold F51_x6; cases Nat.beq t 0 <;> (intro h; cases h)) (fun x => F51_r6 h x1 a46 y78 w0_79 h79 hp79 x) hl
  simp only [F51_x6, q0, cond_true, cond_false] at k
  exact k
theorem F51_l6_1 (h : AHeap) (x1 : Int) (a46 : Int) (y78 : (List (List Int))) (w0_79 : List Hd) (h79 : AHeap) (hp79 : Heapy h h79 ([⟨(hov w0_79), 29, 1, List.flatMap encH (List.tail w0_79)⟩] ++ NIn 3 1 enc3 (List.tail w0_79) y78)) (x : Int) (r : Nat) (hl : loopO (fun (s : Int) => F51_s6 x1 y78 s) x = some r) (q0 : Nat.beq r 0 = false) : AWp Try.prog (.loop (codeOf Try.prog 51 [1, 1, 1, 1, 1, 0, 1, 0, 0, 1, 1, 0, 0, 1, 1, 1, 1, 0, 0])) (Ends1 (.exit 12) (F51_x6_1 x1 a46 w0_79 h79 r)) ((fun (s : Int) => (F51_h6 x1 a46 w0_79 h79 s)) x) := by
  have k := loop_fun (P := Try.prog) (c := (codeOf Try.prog 51 [1, 1, 1, 1, 1, 0, 1, 0, 0, 1, 1, 0, 0, 1, 1, 1, 1, 0, 0])) (step := (fun (s : Int) => F51_s6 x1 y78 s)) (hd := (fun (s : Int) => (F51_h6 x1 a46 w0_79 h79 s))) (X := (F51_x6 x1 a46 w0_79 h79)) (by intro t; unfold F51_x6; cases Nat.beq t 0 <;> (intro h; cases h)) (fun x => F51_r6 h x1 a46 y78 w0_79 h79 hp79 x) hl
  simp only [F51_x6, q0, cond_true, cond_false] at k
  exact k
def F51_m7_2 : List Bool := (rp 8 true (false :: (rp 164 true [])))
def F51_m7_1 : List Bool := (false :: (rp 7 true (false :: (rp 80 true (false :: false :: (rp 82 true []))))))
def F51_m7_0 : List Bool := (rp 6 true (false :: false :: (rp 165 true [])))
def F51_s7 (x1 : Int) (a46 : Int) (l47 : List (List Int)) : Option ((Int × (List (List Int))) ⊕ (Nat × (List (List Int)))) :=
  (bif decide (a46 < (F67 x1)) then
   (Option.bind (at? l47 a46) fun y50 =>
   (Option.bind (at? y50 a46) fun y52 =>
   (bif decide (y52 > 0) then
    some (.inr (0, []))
   else
    (Option.bind (loopO (fun (s : Int × (List (List Int))) => F51_s5 x1 a46 s.1 s.2) (0, l47)) fun y78 =>
    (Option.bind (loopO (fun (s : Int) => F51_s6 x1 y78 s) 0) fun y86 =>
    (bif (Nat.beq y86 0) then
     some (.inr (0, []))
    else
     some (.inl ((IntKind.i64.wrap (a46 + 1)), y78))))))))
  else
   some (.inr (1, l47)))
def F51_h7 (x1 : Int) (h48 : AHeap) (u47 : List Hd) (a46 : Int) (l47 : List (List Int)) : AS := ⟨((.int .i64 (F67 x1)) :: (rp 7 junk ((sv (hov u47)) :: (rp 80 junk ((.int .i64 (F67 x1)) :: (.int .i64 a46) :: (rp 82 junk [])))))), [], h48⟩
theorem F51_d7 : drawsOk F51_D (codeOf Try.prog 51 [1, 1, 1, 1, 1, 0, 1, 0, 0]) = true := by kernel_rfl
def F51_x7_0 (h : AHeap) (hx : AHeap) (r : Nat × (List (List Int))) : AS := ⟨(rp 6 junk ((.slice none 0 0) :: (.bool false) :: (rp 165 junk []))), [], hx⟩
def F51_x7_1 (h : AHeap) (hx : AHeap) (w0 : List Hd) (r : Nat × (List (List Int))) : AS := ⟨(rp 8 junk ((sv (hov w0)) :: (rp 164 junk []))), [], hx⟩
def F51_i7 (h : AHeap) (x1 : Int) (s : Int × (List (List Int))) (S : AS) : Prop := ∃ (h48 : AHeap) (u47 : List Hd), Heapy h h48 ([⟨(hov u47), 29, 1, List.flatMap encH (List.tail u47)⟩] ++ NIn 3 1 enc3 (List.tail u47) s.2) ∧ S = (F51_h7 x1 h48 u47 s.1 s.2)
def F51_x7 (h : AHeap) (r : Nat × (List (List Int))) (e : Exit) (S : AS) : Prop := (bif Nat.beq r.1 0 then (e = .ret ∧ ∃ (hx : AHeap), Heapy h hx [] ∧ S = (F51_x7_0 h hx r)) else (e = (.exit 6) ∧ ∃ (hx : AHeap) (w0 : List Hd), Heapy h hx ([⟨(hov w0), 29, 1, List.flatMap encH (List.tail w0)⟩] ++ NIn 3 1 enc3 (List.tail w0) r.2) ∧ S = (F51_x7_1 h hx w0 r)))
set_option maxRecDepth 100000 in
theorem F51_r7 (h : AHeap) (x1 : Int) (a46 : Int) (l47 : List (List Int)) (S : AS) (hI : (F51_i7 h x1) (a46, l47) S) (o : (Int × (List (List Int))) ⊕ (Nat × (List (List Int)))) : F51_s7 x1 a46 l47 = some o → Rd Try.prog (codeOf Try.prog 51 [1, 1, 1, 1, 1, 0, 1, 0, 0]) (F51_i7 h x1) (F51_x7 h) S o := by
  obtain ⟨h48, u47, hp48, rfl⟩ := hI
  unfold F51_s7
  refine dec_bif (fun c49 => ?_) (fun c49 => ?_)
  · refine bind_opt fun y50 e50 => ?_
    obtain ⟨id50, off50, g50, cs50, ix50, _, _⟩ := SlE.at (Heapy.sle (v := (hov u47)) (xs := (List.tail u47)) (enc := encH) hp48 0 rfl (fun _ => rfl) (by decide)) (Heapy.niat (A := [⟨(hov u47), 29, 1, List.flatMap encH (List.tail u47)⟩]) (hs := (List.tail u47)) (xss := l47) hp48 e50)
    have at51 : At h48 id50 off50 g50 (encH (hnth (List.tail u47) a46)) := (SlE.atp (Heapy.sle (v := (hov u47)) (xs := (List.tail u47)) (enc := encH) hp48 0 rfl (fun _ => rfl) (by decide)) ix50 (Heapy.niat (A := [⟨(hov u47), 29, 1, List.flatMap encH (List.tail u47)⟩]) (hs := (List.tail u47)) (xss := l47) hp48 e50)).elim fun cs k => by obtain ⟨k1, rfl⟩ := k; exact k1
    refine bind_opt fun y52 e52 => ?_
    obtain ⟨id52, off52, g52, cs52, ix52, at52, rfl⟩ := SlE.at (Heapy.nisle (A := [⟨(hov u47), 29, 1, List.flatMap encH (List.tail u47)⟩]) (el := 3) (c := 1) (enc := enc3) (hs := (List.tail u47)) (xss := l47) hp48 e50 (fun _ => rfl) (by decide)) e52
    have kc53 := (ai (At.one (P := Try.prog) (t := 3) (v := .int .i64 y52) at52 (by kernel_rfl) 0 rfl rfl) (ai ix52 (ai (At.one (P := Try.prog) (t := 29) (v := (sv (hnth (List.tail u47) a46))) at51 (by kernel_rfl) 0 rfl rfl) (ai ix50 (ai c49 trivial)))))
    refine dec_bif (fun c53 => ?_) (fun c53 => ?_)
    · intro hr
      obtain rfl := Option.some.inj hr
      refine ⟨.ret, (F51_x7_0 h h48 ((0, []) : Nat × (List (List Int)))), (by intro hh; cases hh), ?_, pEnd_sound good (L := F51_L) (D := F51_D) (its := [.g, (.b true), .g, .g, .g, .g, (.ix id50 off50 g50), (.ld ((sv (hnth (List.tail u47) a46)))), .g, (.ix id52 off52 g52), (.ld (.int .i64 y52)), .g, (.b true), .g, .g]) (ds := F51_m7_0) (ks := []) (e := .ret) (s2 := (F51_x7_0 h h48 ((0, []) : Nat × (List (List Int))))) (hC := (ai c53 kc53)) (hd := F51_d7) (h := by kernel_rfl)⟩
      exact ⟨rfl, h48, (Heapy.pick (Heapy.head (A := [⟨(hov u47), 29, 1, List.flatMap encH (List.tail u47)⟩]) (N := NIn 3 1 enc3 (List.tail u47) l47) hp48) [] (by decide)), rfl⟩
    · refine bind_opt fun y78 e78 => ?_
      obtain ⟨ee78, SS78, hX78, hA78⟩ := F51_l5 h x1 a46 (0, l47) y78 e78 (F51_h5 x1 a46 h48 u47 0 l47) ⟨h48, u47, (Heapy.pickN2 (A := [⟨(hov u47), 29, 1, List.flatMap encH (List.tail u47)⟩]) (N := NIn 3 1 enc3 (List.tail u47) l47) hp48 1 rfl [0] (by decide) rfl), rfl⟩
      obtain ⟨rfl, h79, w0_79, hp79, rfl⟩ := hX78
      refine bind_opt fun y86 e86 => ?_
      have kc87 := (ai hA78 (ai c53 kc53))
      refine dec_bif (fun c87 => ?_) (fun c87 => ?_)
      · intro hr
        obtain rfl := Option.some.inj hr
        refine ⟨.ret, (F51_x7_0 h h79 ((0, []) : Nat × (List (List Int)))), (by intro hh; cases hh), ?_, pEnd_sound good (L := F51_L) (D := F51_D) (its := [.g, (.b true), .g, .g, .g, .g, (.ix id50 off50 g50), (.ld ((sv (hnth (List.tail u47) a46)))), .g, (.ix id52 off52 g52), (.ld (.int .i64 y52)), .g, (.b false), .g, .g, (.l F51_m5_0 [] (.exit 8) (F51_x5_0 h x1 a46 h79 w0_79 y78)), .g, .g, (.l F51_m6_1 [] .ret (F51_x6_0 x1 a46 w0_79 h79 y86))]) (ds := F51_m7_0) (ks := []) (e := .ret) (s2 := (F51_x7_0 h h79 ((0, []) : Nat × (List (List Int))))) (hC := (ai (F51_l6_0 h x1 a46 y78 w0_79 h79 hp79 0 y86 e86 c87) kc87)) (hd := F51_d7) (h := by kernel_rfl)⟩
        exact ⟨rfl, h79, (Heapy.pick (Heapy.head (A := [⟨(hov w0_79), 29, 1, List.flatMap encH (List.tail w0_79)⟩]) (N := NIn 3 1 enc3 (List.tail w0_79) y78) hp79) [] (by decide)), rfl⟩
      · intro hr
        obtain rfl := Option.some.inj hr
        exact ⟨(F51_h7 x1 h79 w0_79 (IntKind.i64.wrap (a46 + 1)) y78), ⟨h79, w0_79, (Heapy.pickN2 (A := [⟨(hov w0_79), 29, 1, List.flatMap encH (List.tail w0_79)⟩]) (N := NIn 3 1 enc3 (List.tail w0_79) y78) hp79 1 rfl [0] (by decide) rfl), rfl⟩, pEnd_sound good (L := F51_L) (D := F51_D) (its := [.g, (.b true), .g, .g, .g, .g, (.ix id50 off50 g50), (.ld ((sv (hnth (List.tail u47) a46)))), .g, (.ix id52 off52 g52), (.ld (.int .i64 y52)), .g, (.b false), .g, .g, (.l F51_m5_0 [] (.exit 8) (F51_x5_0 h x1 a46 h79 w0_79 y78)), .g, .g, (.l F51_m6_1 [] (.exit 12) (F51_x6_1 x1 a46 w0_79 h79 y86)), .g, .g]) (ds := F51_m7_1) (ks := []) (e := .normal) (s2 := (F51_h7 x1 h79 w0_79 (IntKind.i64.wrap (a46 + 1)) y78)) (hC := (ai (F51_l6_1 h x1 a46 y78 w0_79 h79 hp79 0 y86 e86 c87) kc87)) (hd := F51_d7) (h := by kernel_rfl)⟩
  · intro hr
    obtain rfl := Option.some.inj hr
    refine ⟨(.exit 6), (F51_x7_1 h h48 u47 ((1, l47) : Nat × (List (List Int)))), (by intro hh; cases hh), ?_, pEnd_sound good (L := F51_L) (D := F51_D) (its := [.g, (.b false)]) (ds := F51_m7_2) (ks := []) (e := (.exit 6)) (s2 := (F51_x7_1 h h48 u47 ((1, l47) : Nat × (List (List Int))))) (hC := (ai c49 trivial)) (hd := F51_d7) (h := by kernel_rfl)⟩
    exact ⟨rfl, h48, u47, (Heapy.pickN2 (A := [⟨(hov u47), 29, 1, List.flatMap encH (List.tail u47)⟩]) (N := NIn 3 1 enc3 (List.tail u47) l47) hp48 1 rfl [0] (by decide) rfl), rfl⟩
theorem F51_l7 (h : AHeap) (x1 : Int) (x : Int × (List (List Int))) (r : Nat × (List (List Int))) (hl : loopO (fun (s : Int × (List (List Int))) => F51_s7 x1 s.1 s.2) x = some r) (S : AS) (hI : (F51_i7 h x1) x S) : ∃ e S', (F51_x7 h) r e S' ∧ AWp Try.prog (.loop (codeOf Try.prog 51 [1, 1, 1, 1, 1, 0, 1, 0, 0])) (Ends1 e S') S :=
  loop_rel (fun x S hI => F51_r7 h x1 x.1 x.2 S hI) hl hI
def F51 (x1 : Int) (l2 : List (Int × Int × Int × Int)) (x3 : Int) : Option ((List (List Int)) × Bool) :=
  (Option.bind (loopO (fun (s : Int × (List (List Int))) => F51_s2 x1 s.1 s.2) (0, ([] : List (List Int)))) fun y29 =>
  (Option.bind (loopO (fun (s : Int × (List (List Int))) => F51_s3 x1 l2 x3 s.1 s.2) (0, y29)) fun y44 =>
  (Option.bind (loopO (fun (s : Int × (List (List Int))) => F51_s7 x1 s.1 s.2) (0, y44)) fun y88 =>
  (bif (Nat.beq y88.1 0) then
   some ([], false)
  else
   some (y88.2, true)))))
set_option maxRecDepth 100000 in
theorem F51_spec (x1 : Int) (l2 : List (Int × Int × Int × Int)) (x3 : Int) (v2 : Hd) (h : AHeap) (hw : h.wf) (hv2 : SlE E57 4 h (sv v2) l2) (r : (List (List Int)) × Bool) : F51 x1 l2 x3 = some r → ∃ (ur0 : Hd) (ur0h : List Hd) (h' : AHeap), Heapy h h' ([⟨ur0, 29, 1, List.flatMap encH ur0h⟩] ++ NIn 3 1 enc3 ur0h r.1) ∧ ACalls Try.prog 51 [.int .i64 x1, (sv v2), .int .i64 x3] h (fun v' h'' => v' = (.tuple #[(sv ur0), .bool r.2] : Value) ∧ h'' = h') := by
  unfold F51
  refine bind_opt fun y29 e29 => ?_
  have hp5 : Heapy h h ([⟨⟨none, 0, 0⟩, 29, 1, List.flatMap encH ([] : List Hd)⟩] ++ NIn 3 1 enc3 ([] : List Hd) ([] : List (List Int))) := Heapy.nilO (el := 3) (c := 1) (enc := enc3) (Heapy.refl hw) 29
  obtain ⟨ee29, SS29, hX29, hA29⟩ := F51_l2 h x1 v2 x3 (0, ([] : List (List Int))) y29 e29 (F51_h2 x1 v2 x3 h ((⟨none, 0, 0⟩ : Hd) :: ([] : List Hd)) 0 ([] : List (List Int))) ⟨h, ((⟨none, 0, 0⟩ : Hd) :: ([] : List Hd)), (Heapy.pickN2 (A := [⟨⟨none, 0, 0⟩, 29, 1, List.flatMap encH ([] : List Hd)⟩]) (N := NIn 3 1 enc3 ([] : List Hd) ([] : List (List Int))) hp5 1 rfl [0] (by decide) rfl), rfl⟩
  obtain ⟨rfl, h30, w0_30, hp30, rfl⟩ := hX29
  refine bind_opt fun y44 e44 => ?_
  obtain ⟨ee44, SS44, hX44, hA44⟩ := F51_l3 h x1 l2 v2 hv2 x3 (0, y29) y44 e44 (F51_h3 x1 l2 v2 x3 h30 w0_30 0 y29) ⟨h30, w0_30, (Heapy.pickN2 (A := [⟨(hov w0_30), 29, 1, List.flatMap encH (List.tail w0_30)⟩]) (N := NIn 3 1 enc3 (List.tail w0_30) y29) hp30 1 rfl [0] (by decide) rfl), rfl⟩
  obtain ⟨rfl, h45, w0_45, hp45, rfl⟩ := hX44
  refine bind_opt fun y88 e88 => ?_
  obtain ⟨ee88, SS88, hX88, hA88⟩ := F51_l7 h x1 (0, y44) y88 e88 (F51_h7 x1 h45 w0_45 0 y44) ⟨h45, w0_45, (Heapy.pickN2 (A := [⟨(hov w0_45), 29, 1, List.flatMap encH (List.tail w0_45)⟩]) (N := NIn 3 1 enc3 (List.tail w0_45) y44) hp45 1 rfl [0] (by decide) rfl), rfl⟩
  have kc89 := (ai hA44 (ai (SlE.len hv2) (ai hA29 (ai (F67_spec x1 h _ rfl) trivial))))
  refine dec_bif (fun c89 => ?_) (fun c89 => ?_)
  · simp only [F51_x7, c89, cond_true, cond_false] at hX88
    obtain ⟨rfl, h90, hp90, rfl⟩ := hX88
    intro hr
    obtain rfl := Option.some.inj hr
    exact ⟨⟨none, 0, 0⟩, [], h90, Heapy.nilN (el := 3) (c := 1) (enc := enc3) (Heapy.drop hp90) 29, pFun_sound good tab_ok (f := 51) (its := [.g, .g, .g, (.c (.int .i64 (F67 x1)) h), .g, .g, .g, .g, (.l F51_m2_0 [] (.exit 0) (F51_x2_0 h x1 v2 x3 h30 w0_30 y29)), .g, (.ln l2.length), .g, (.l F51_m3_0 [] (.exit 4) (F51_x3_0 h x1 h45 w0_45 y44)), .g, .g, (.l F51_m7_1 [] .ret (F51_x7_0 h h90 y88))]) (args := [.int .i64 x1, (sv v2), .int .i64 x3]) (h := h) (h' := h90) (v := .tuple #[.slice none 0 0, .bool false]) (hC := (ai hA88 kc89)) (hr := by kernel_rfl)⟩
  · simp only [F51_x7, c89, cond_true, cond_false] at hX88
    obtain ⟨rfl, h91, w0_91, hp91, rfl⟩ := hX88
    intro hr
    obtain rfl := Option.some.inj hr
    exact ⟨(hov w0_91), (List.tail w0_91), h91, (Heapy.pickN2 (A := [⟨(hov w0_91), 29, 1, List.flatMap encH (List.tail w0_91)⟩]) (N := NIn 3 1 enc3 (List.tail w0_91) y88.2) hp91 1 rfl [0] (by decide) rfl), pFun_sound good tab_ok (f := 51) (its := [.g, .g, .g, (.c (.int .i64 (F67 x1)) h), .g, .g, .g, .g, (.l F51_m2_0 [] (.exit 0) (F51_x2_0 h x1 v2 x3 h30 w0_30 y29)), .g, (.ln l2.length), .g, (.l F51_m3_0 [] (.exit 4) (F51_x3_0 h x1 h45 w0_45 y44)), .g, .g, (.l F51_m7_1 [] (.exit 6) (F51_x7_1 h h91 w0_91 y88)), .g, .g, .g]) (args := [.int .i64 x1, (sv v2), .int .i64 x3]) (h := h) (h' := h91) (v := .tuple #[(sv (hov w0_91)), .bool true]) (hC := (ai hA88 kc89)) (hr := by kernel_rfl)⟩
end
end Go.Proofs.Ytimeninncpmaeaa.Abs
