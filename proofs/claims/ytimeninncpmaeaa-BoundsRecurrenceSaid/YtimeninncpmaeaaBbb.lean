/-
  Contracts, written by program: for each function what its call yields, and that it yields it.
-/
import Derived.Test.YtimeninncpmaeaaBba
namespace Go.Proofs.Ytimeninncpmaeaa.Abs
open Go
set_option linter.unusedVariables false
set_option linter.unusedSimpArgs false

noncomputable section
/-! 32 jacquard/jacquardref28.Small -/
def F32_L : List Nat := [3]
def F32_D : List (Nat × List (Nat × Nat)) := []
def F32_m1_2 : List Bool := (true :: false :: false :: false :: (rp 64 true []))
def F32_m1_1 : List Bool := (true :: false :: false :: false :: (rp 7 true (false :: false :: (rp 55 true []))))
def F32_m1_0 : List Bool := (rp 6 true (false :: (rp 61 true [])))
def F32_s1 (l4 : List (Int × Int × Int × Int)) (a9 : Int) : Option (Int ⊕ Nat) :=
  (bif decide (a9 < (l4.length : Int)) then
   (Option.bind (at? l4 a9) fun y11 =>
   (bif decide (y11.2.2.1 > 60) then
    some (.inr 0)
   else
    (bif decide (y11.2.2.2 > 20) then
     some (.inr 0)
    else
     some (.inl (IntKind.i64.wrap (a9 + 1))))))
  else
   some (.inr 1))
def F32_h1 (h : AHeap) (x1 : Int) (x2 : Int) (x3 : Bool) (l4 : List (Int × Int × Int × Int)) (v4 : Hd) (v5 : Hd) (v6 : Hd) (x7 : Int) (x8 : Int)  (a9 : Int) : AS := ⟨(junk :: (.int .i64 x7) :: (.int .i64 x8) :: (.pointer (some ⟨3, 0, none⟩)) :: (rp 7 junk ((.int .i64 (l4.length : Int)) :: (.int .i64 a9) :: (rp 55 junk [])))), [(3, [.int .i64 x1, .int .i64 x2, .bool x3, (sv v4), (sv v5), (sv v6)])], h⟩
theorem F32_d1 : drawsOk F32_D (codeOf Try.prog 32 [1, 0, 1, 0, 0]) = true := by kernel_rfl
def F32_x1_0 (h : AHeap) (x1 : Int) (x2 : Int) (x3 : Bool) (v4 : Hd) (v5 : Hd) (v6 : Hd) (x7 : Int) (x8 : Int)  (r : Nat) : AS := ⟨(rp 6 junk ((.bool false) :: (rp 61 junk []))), [], h⟩
def F32_x1_1 (h : AHeap) (x1 : Int) (x2 : Int) (x3 : Bool) (v4 : Hd) (v5 : Hd) (v6 : Hd) (x7 : Int) (x8 : Int)  (r : Nat) : AS := ⟨(junk :: (.int .i64 x7) :: (.int .i64 x8) :: (.pointer (some ⟨3, 0, none⟩)) :: (rp 64 junk [])), [(3, [.int .i64 x1, .int .i64 x2, .bool x3, (sv v4), (sv v5), (sv v6)])], h⟩
def F32_x1 (h : AHeap) (x1 : Int) (x2 : Int) (x3 : Bool) (v4 : Hd) (v5 : Hd) (v6 : Hd) (x7 : Int) (x8 : Int) (r : Nat) : Exit × AS := (bif Nat.beq r 0 then (.ret, (F32_x1_0 h x1 x2 x3 v4 v5 v6 x7 x8 r)) else ((.exit 0), (F32_x1_1 h x1 x2 x3 v4 v5 v6 x7 x8 r)))
set_option maxRecDepth 100000 in
theorem F32_r1 (h : AHeap) (x1 : Int) (x2 : Int) (x3 : Bool) (l4 : List (Int × Int × Int × Int)) (v4 : Hd) (hv4 : SlE E57 4 h (sv v4) l4) (v5 : Hd) (v6 : Hd) (x7 : Int) (x8 : Int) (a9 : Int) (o : Int ⊕ Nat) : F32_s1 l4 a9 = some o → RdF Try.prog (codeOf Try.prog 32 [1, 0, 1, 0, 0]) (fun (s : Int) => (F32_h1 h x1 x2 x3 l4 v4 v5 v6 x7 x8 s)) (F32_x1 h x1 x2 x3 v4 v5 v6 x7 x8) (F32_h1 h x1 x2 x3 l4 v4 v5 v6 x7 x8 a9) o := by
  unfold F32_s1
  refine dec_bif (fun c10 => ?_) (fun c10 => ?_)
  · refine bind_opt fun y11 e11 => ?_
    obtain ⟨id11, off11, g11, cs11, ix11, at11, rfl⟩ := SlE.at hv4 e11
    have kc12 := (ai (At.one (P := Try.prog) (t := 3) (v := .int .i64 y11.2.2.1) at11 (by kernel_rfl) 2 rfl rfl) (ai ix11 (ai c10 trivial)))
    refine dec_bif (fun c12 => ?_) (fun c12 => ?_)
    · intro hr
      obtain rfl := Option.some.inj hr
      show AWp Try.prog _ (Ends1 ((F32_x1 h x1 x2 x3 v4 v5 v6 x7 x8) (0 : Nat)).1 ((F32_x1 h x1 x2 x3 v4 v5 v6 x7 x8) (0 : Nat)).2) _
      exact pEnd_sound good (L := F32_L) (D := F32_D) (its := [.g, (.b true), .g, .g, .g, .g, .g, (.ix id11 off11 g11), .g, (.ld (.int .i64 y11.2.2.1)), .g, .g, .n, .n, .n, .n, .n, .n, .n, (.p true), (.b true), .g]) (ds := F32_m1_0) (ks := [3]) (e := ((F32_x1 h x1 x2 x3 v4 v5 v6 x7 x8) (0 : Nat)).1) (s2 := ((F32_x1 h x1 x2 x3 v4 v5 v6 x7 x8) (0 : Nat)).2) (hC := (ai l_t (ai c12 (ai (g_tf c12) (ai (g_tf c12) (ai (g_tf c12) (ai (g_tf c12) (ai (g_tf c12) (ai (g_tf c12) (ai (g_tf c12) kc12)))))))))) (hd := F32_d1) (h := by kernel_rfl)
    · have kc13 := (ai c12 (ai (g_ff c12) (ai (At.one (P := Try.prog) (t := 3) (v := .int .i64 y11.2.2.2) at11 (by kernel_rfl) 3 rfl rfl) (ai (g_ff c12) (ai (g_ff c12) (ai ix11 (ai (g_ff c12) (ai (g_ff c12) (ai (g_ff c12) (ai (g_ff c12) kc12))))))))))
      refine dec_bif (fun c13 => ?_) (fun c13 => ?_)
      · intro hr
        obtain rfl := Option.some.inj hr
        show AWp Try.prog _ (Ends1 ((F32_x1 h x1 x2 x3 v4 v5 v6 x7 x8) (0 : Nat)).1 ((F32_x1 h x1 x2 x3 v4 v5 v6 x7 x8) (0 : Nat)).2) _
        exact pEnd_sound good (L := F32_L) (D := F32_D) (its := [.g, (.b true), .g, .g, .g, .g, .g, (.ix id11 off11 g11), .g, (.ld (.int .i64 y11.2.2.1)), .g, .g, (.w .g), (.w .g), (.w .g), (.w (.ix id11 off11 g11)), (.w .g), (.w (.ld (.int .i64 y11.2.2.2))), (.w .g), (.p false), (.b true), .g]) (ds := F32_m1_0) (ks := [3]) (e := ((F32_x1 h x1 x2 x3 v4 v5 v6 x7 x8) (0 : Nat)).1) (s2 := ((F32_x1 h x1 x2 x3 v4 v5 v6 x7 x8) (0 : Nat)).2) (hC := (ai c13 kc13)) (hd := F32_d1) (h := by kernel_rfl)
      · intro hr
        obtain rfl := Option.some.inj hr
        show AWp Try.prog _ (Ends1 .normal (F32_h1 h x1 x2 x3 l4 v4 v5 v6 x7 x8 (IntKind.i64.wrap (a9 + 1)))) _
        exact pEnd_sound good (L := F32_L) (D := F32_D) (its := [.g, (.b true), .g, .g, .g, .g, .g, (.ix id11 off11 g11), .g, (.ld (.int .i64 y11.2.2.1)), .g, .g, (.w .g), (.w .g), (.w .g), (.w (.ix id11 off11 g11)), (.w .g), (.w (.ld (.int .i64 y11.2.2.2))), (.w .g), (.p false), (.b false), .g, .g]) (ds := F32_m1_1) (ks := []) (e := .normal) (s2 := (F32_h1 h x1 x2 x3 l4 v4 v5 v6 x7 x8 (IntKind.i64.wrap (a9 + 1)))) (hC := (ai c13 kc13)) (hd := F32_d1) (h := by kernel_rfl)
  · intro hr
    obtain rfl := Option.some.inj hr
    show AWp Try.prog _ (Ends1 ((F32_x1 h x1 x2 x3 v4 v5 v6 x7 x8) (1 : Nat)).1 ((F32_x1 h x1 x2 x3 v4 v5 v6 x7 x8) (1 : Nat)).2) _
    exact pEnd_sound good (L := F32_L) (D := F32_D) (its := [.g, (.b false)]) (ds := F32_m1_2) (ks := []) (e := ((F32_x1 h x1 x2 x3 v4 v5 v6 x7 x8) (1 : Nat)).1) (s2 := ((F32_x1 h x1 x2 x3 v4 v5 v6 x7 x8) (1 : Nat)).2) (hC := (ai c10 trivial)) (hd := F32_d1) (h := by kernel_rfl)
theorem F32_l1_0 (h : AHeap) (x1 : Int) (x2 : Int) (x3 : Bool) (l4 : List (Int × Int × Int × Int)) (v4 : Hd) (hv4 : SlE E57 4 h (sv v4) l4) (v5 : Hd) (v6 : Hd) (x7 : Int) (x8 : Int) (x : Int) (r : Nat) (hl : loopO (fun (s : Int) => F32_s1 l4 s) x = some r) (q0 : Nat.beq r 0 = true) : AWp Try.prog (.loop (codeOf Try.prog 32 [1, 0, 1, 0, 0])) (Ends1 .ret (F32_x1_0 h x1 x2 x3 v4 v5 v6 x7 x8 r)) ((fun (s : Int) => (F32_h1 h x1 x2 x3 l4 v4 v5 v6 x7 x8 s)) x) := by
  have k := loop_fun (P := Try.prog) (c := (codeOf Try.prog 32 [1, 0, 1, 0, 0])) (step := (fun (s : Int) => F32_s1 l4 s)) (hd := (fun (s : Int) => (F32_h1 h x1 x2 x3 l4 v4 v5 v6 x7 x8 s))) (X := (F32_x1 h x1 x2 x3 v4 v5 v6 x7 x8)) (by intro t; unfold F32_x1; cases Nat.beq t 0 <;> (intro h; cases h)) (fun x => F32_r1 h x1 x2 x3 l4 v4 hv4 v5 v6 x7 x8 x) hl
  simp only [F32_x1, q0, cond_true, cond_false] at k
  exact k
theorem F32_l1_1 (h : AHeap) (x1 : Int) (x2 : Int) (x3 : Bool) (l4 : List (Int × Int × Int × Int)) (v4 : Hd) (hv4 : SlE E57 4 h (sv v4) l4) (v5 : Hd) (v6 : Hd) (x7 : Int) (x8 : Int) (x : Int) (r : Nat) (hl : loopO (fun (s : Int) => F32_s1 l4 s) x = some r) (q0 : Nat.beq r 0 = false) : AWp Try.prog (.loop (codeOf Try.prog 32 [1, 0, 1, 0, 0])) (Ends1 (.exit 0) (F32_x1_1 h x1 x2 x3 v4 v5 v6 x7 x8 r)) ((fun (s : Int) => (F32_h1 h x1 x2 x3 l4 v4 v5 v6 x7 x8 s)) x) := by
  have k := loop_fun (P := Try.prog) (c := (codeOf Try.prog 32 [1, 0, 1, 0, 0])) (step := (fun (s : Int) => F32_s1 l4 s)) (hd := (fun (s : Int) => (F32_h1 h x1 x2 x3 l4 v4 v5 v6 x7 x8 s))) (X := (F32_x1 h x1 x2 x3 v4 v5 v6 x7 x8)) (by intro t; unfold F32_x1; cases Nat.beq t 0 <;> (intro h; cases h)) (fun x => F32_r1 h x1 x2 x3 l4 v4 hv4 v5 v6 x7 x8 x) hl
  simp only [F32_x1, q0, cond_true, cond_false] at k
  exact k
def F32_m2_2 : List Bool := (true :: false :: false :: false :: (rp 64 true []))
def F32_m2_1 : List Bool := (true :: false :: false :: false :: (rp 30 true (false :: false :: (rp 32 true []))))
def F32_m2_0 : List Bool := (rp 6 true (false :: (rp 61 true [])))
def F32_s2 (l6 : List (Int × Int)) (a16 : Int) : Option (Int ⊕ Nat) :=
  (bif decide (a16 < (l6.length : Int)) then
   (Option.bind (at? l6 a16) fun y18 =>
   (bif decide (y18.2 > 20) then
    some (.inr 0)
   else
    some (.inl (IntKind.i64.wrap (a16 + 1)))))
  else
   some (.inr 1))
def F32_h2 (h : AHeap) (x1 : Int) (x2 : Int) (x3 : Bool) (v4 : Hd) (v5 : Hd) (l6 : List (Int × Int)) (v6 : Hd) (x7 : Int) (x8 : Int)  (a16 : Int) : AS := ⟨(junk :: (.int .i64 x7) :: (.int .i64 x8) :: (.pointer (some ⟨3, 0, none⟩)) :: (rp 30 junk ((.int .i64 (l6.length : Int)) :: (.int .i64 a16) :: (rp 32 junk [])))), [(3, [.int .i64 x1, .int .i64 x2, .bool x3, (sv v4), (sv v5), (sv v6)])], h⟩
theorem F32_d2 : drawsOk F32_D (codeOf Try.prog 32 [1, 1, 0, 1, 0, 0]) = true := by kernel_rfl
def F32_x2_0 (h : AHeap) (x1 : Int) (x2 : Int) (x3 : Bool) (v4 : Hd) (v5 : Hd) (v6 : Hd) (x7 : Int) (x8 : Int)  (r : Nat) : AS := ⟨(rp 6 junk ((.bool false) :: (rp 61 junk []))), [], h⟩
def F32_x2_1 (h : AHeap) (x1 : Int) (x2 : Int) (x3 : Bool) (v4 : Hd) (v5 : Hd) (v6 : Hd) (x7 : Int) (x8 : Int)  (r : Nat) : AS := ⟨(junk :: (.int .i64 x7) :: (.int .i64 x8) :: (.pointer (some ⟨3, 0, none⟩)) :: (rp 64 junk [])), [(3, [.int .i64 x1, .int .i64 x2, .bool x3, (sv v4), (sv v5), (sv v6)])], h⟩
def F32_x2 (h : AHeap) (x1 : Int) (x2 : Int) (x3 : Bool) (v4 : Hd) (v5 : Hd) (v6 : Hd) (x7 : Int) (x8 : Int) (r : Nat) : Exit × AS := (bif Nat.beq r 0 then (.ret, (F32_x2_0 h x1 x2 x3 v4 v5 v6 x7 x8 r)) else ((.exit 2), (F32_x2_1 h x1 x2 x3 v4 v5 v6 x7 x8 r)))
set_option maxRecDepth 100000 in
theorem F32_r2 (h : AHeap) (x1 : Int) (x2 : Int) (x3 : Bool) (v4 : Hd) (v5 : Hd) (l6 : List (Int × Int)) (v6 : Hd) (hv6 : SlE E61 2 h (sv v6) l6) (x7 : Int) (x8 : Int) (a16 : Int) (o : Int ⊕ Nat) : F32_s2 l6 a16 = some o → RdF Try.prog (codeOf Try.prog 32 [1, 1, 0, 1, 0, 0]) (fun (s : Int) => (F32_h2 h x1 x2 x3 v4 v5 l6 v6 x7 x8 s)) (F32_x2 h x1 x2 x3 v4 v5 v6 x7 x8) (F32_h2 h x1 x2 x3 v4 v5 l6 v6 x7 x8 a16) o := by
  unfold F32_s2
  refine dec_bif (fun c17 => ?_) (fun c17 => ?_)
  · refine bind_opt fun y18 e18 => ?_
    obtain ⟨id18, off18, g18, cs18, ix18, at18, rfl⟩ := SlE.at hv6 e18
    have kc19 := (ai (At.one (P := Try.prog) (t := 3) (v := .int .i64 y18.2) at18 (by kernel_rfl) 1 rfl rfl) (ai ix18 (ai c17 trivial)))
    refine dec_bif (fun c19 => ?_) (fun c19 => ?_)
    · intro hr
      obtain rfl := Option.some.inj hr
      show AWp Try.prog _ (Ends1 ((F32_x2 h x1 x2 x3 v4 v5 v6 x7 x8) (0 : Nat)).1 ((F32_x2 h x1 x2 x3 v4 v5 v6 x7 x8) (0 : Nat)).2) _
      exact pEnd_sound good (L := F32_L) (D := F32_D) (its := [.g, (.b true), .g, .g, .g, .g, .g, (.ix id18 off18 g18), .g, (.ld (.int .i64 y18.2)), .g, (.b true), .g]) (ds := F32_m2_0) (ks := [3]) (e := ((F32_x2 h x1 x2 x3 v4 v5 v6 x7 x8) (0 : Nat)).1) (s2 := ((F32_x2 h x1 x2 x3 v4 v5 v6 x7 x8) (0 : Nat)).2) (hC := (ai c19 kc19)) (hd := F32_d2) (h := by kernel_rfl)
    · intro hr
      obtain rfl := Option.some.inj hr
      show AWp Try.prog _ (Ends1 .normal (F32_h2 h x1 x2 x3 v4 v5 l6 v6 x7 x8 (IntKind.i64.wrap (a16 + 1)))) _
      exact pEnd_sound good (L := F32_L) (D := F32_D) (its := [.g, (.b true), .g, .g, .g, .g, .g, (.ix id18 off18 g18), .g, (.ld (.int .i64 y18.2)), .g, (.b false), .g, .g]) (ds := F32_m2_1) (ks := []) (e := .normal) (s2 := (F32_h2 h x1 x2 x3 v4 v5 l6 v6 x7 x8 (IntKind.i64.wrap (a16 + 1)))) (hC := (ai c19 kc19)) (hd := F32_d2) (h := by kernel_rfl)
  · intro hr
    obtain rfl := Option.some.inj hr
    show AWp Try.prog _ (Ends1 ((F32_x2 h x1 x2 x3 v4 v5 v6 x7 x8) (1 : Nat)).1 ((F32_x2 h x1 x2 x3 v4 v5 v6 x7 x8) (1 : Nat)).2) _
    exact pEnd_sound good (L := F32_L) (D := F32_D) (its := [.g, (.b false)]) (ds := F32_m2_2) (ks := []) (e := ((F32_x2 h x1 x2 x3 v4 v5 v6 x7 x8) (1 : Nat)).1) (s2 := ((F32_x2 h x1 x2 x3 v4 v5 v6 x7 x8) (1 : Nat)).2) (hC := (ai c17 trivial)) (hd := F32_d2) (h := by kernel_rfl)
theorem F32_l2_0 (h : AHeap) (x1 : Int) (x2 : Int) (x3 : Bool) (v4 : Hd) (v5 : Hd) (l6 : List (Int × Int)) (v6 : Hd) (hv6 : SlE E61 2 h (sv v6) l6) (x7 : Int) (x8 : Int) (x : Int) (r : Nat) (hl : loopO (fun (s : Int) => F32_s2 l6 s) x = some r) (q0 : Nat.beq r 0 = true) : AWp Try.prog (.loop (codeOf Try.prog 32 [1, 1, 0, 1, 0, 0])) (Ends1 .ret (F32_x2_0 h x1 x2 x3 v4 v5 v6 x7 x8 r)) ((fun (s : Int) => (F32_h2 h x1 x2 x3 v4 v5 l6 v6 x7 x8 s)) x) := by
  have k := loop_fun (P := Try.prog) (c := (codeOf Try.prog 32 [1, 1, 0, 1, 0, 0])) (step := (fun (s : Int) => F32_s2 l6 s)) (hd := (fun (s : Int) => (F32_h2 h x1 x2 x3 v4 v5 l6 v6 x7 x8 s))) (X := (F32_x2 h x1 x2 x3 v4 v5 v6 x7 x8)) (by intro t; unfold F32_x2; cases Nat.beq t 0 <;> (intro h; cases h)) (fun x => F32_r2 h x1 x2 x3 v4 v5 l6 v6 hv6 x7 x8 x) hl
  simp only [F32_x2, q0, cond_true, cond_false] at k
  exact k
theorem F32_l2_1 (h : AHeap) (x1 : Int) (x2 : Int) (x3 : Bool) (v4 : Hd) (v5 : Hd) (l6 : List (Int × Int)) (v6 : Hd) (hv6 : SlE E61 2 h (sv v6) l6) (x7 : Int) (x8 : Int) (x : Int) (r : Nat) (hl : loopO (fun (s : Int) => F32_s2 l6 s) x = some r) (q0 : Nat.beq r 0 = false) : AWp Try.prog (.loop (codeOf Try.prog 32 [1, 1, 0, 1, 0, 0])) (Ends1 (.exit 2) (F32_x2_1 h x1 x2 x3 v4 v5 v6 x7 x8 r)) ((fun (s : Int) => (F32_h2 h x1 x2 x3 v4 v5 l6 v6 x7 x8 s)) x) := by
  have k := loop_fun (P := Try.prog) (c := (codeOf Try.prog 32 [1, 1, 0, 1, 0, 0])) (step := (fun (s : Int) => F32_s2 l6 s)) (hd := (fun (s : Int) => (F32_h2 h x1 x2 x3 v4 v5 l6 v6 x7 x8 s))) (X := (F32_x2 h x1 x2 x3 v4 v5 v6 x7 x8)) (by intro t; unfold F32_x2; cases Nat.beq t 0 <;> (intro h; cases h)) (fun x => F32_r2 h x1 x2 x3 v4 v5 l6 v6 hv6 x7 x8 x) hl
  simp only [F32_x2, q0, cond_true, cond_false] at k
  exact k
def F32 (x1 : Int) (x2 : Int) (x3 : Bool) (l4 : List (Int × Int × Int × Int)) (l5 : List (Int × Int × Int × Int)) (l6 : List (Int × Int)) (x7 : Int) (x8 : Int) : Option (Bool) :=
  (Option.bind (loopO (fun (s : Int) => F32_s1 l4 s) 0) fun y14 =>
  (bif (Nat.beq y14 0) then
   some (false)
  else
   (Option.bind (loopO (fun (s : Int) => F32_s2 l6 s) 0) fun y20 =>
   (bif (Nat.beq y20 0) then
    some (false)
   else
    (bif decide (x1 ≤ x7) then
     (bif decide (x2 ≤ x8) then
      (bif decide ((l4.length : Int) ≤ 90) then
       some (decide ((l5.length : Int) ≤ 6))
      else
       some (false))
     else
      some (false))
    else
     some (false))))))
set_option maxRecDepth 100000 in
theorem F32_spec (x1 : Int) (x2 : Int) (x3 : Bool) (l4 : List (Int × Int × Int × Int)) (l5 : List (Int × Int × Int × Int)) (l6 : List (Int × Int)) (x7 : Int) (x8 : Int) (v4 : Hd) (v5 : Hd) (v6 : Hd) (h : AHeap) (hv4 : SlE E57 4 h (sv v4) l4) (hv5 : SlE E59 4 h (sv v5) l5) (hv6 : SlE E61 2 h (sv v6) l6) (r : Bool) : F32 x1 x2 x3 l4 l5 l6 x7 x8 = some r → ACalls Try.prog 32 [.agg #[.int .i64 x1, .int .i64 x2, .bool x3, (sv v4), (sv v5), (sv v6)], .int .i64 x7, .int .i64 x8] h (fun v' h'' => v' = (.bool r : Value) ∧ h'' = h) := by
  unfold F32
  refine bind_opt fun y14 e14 => ?_
  have kc15 := (ai (SlE.len hv4) trivial)
  refine dec_bif (fun c15 => ?_) (fun c15 => ?_)
  · intro hr
    obtain rfl := Option.some.inj hr
    exact pFun_sound good tab_ok (f := 32) (its := [.g, .g, .g, .g, (.ln l4.length), .g, (.l F32_m1_1 [] .ret (F32_x1_0 h x1 x2 x3 v4 v5 v6 x7 x8 y14))]) (args := [.agg #[.int .i64 x1, .int .i64 x2, .bool x3, (sv v4), (sv v5), (sv v6)], .int .i64 x7, .int .i64 x8]) (h := h) (h' := h) (v := .bool false) (hC := (ai (F32_l1_0 h x1 x2 x3 l4 v4 hv4 v5 v6 x7 x8 0 y14 e14 c15) kc15)) (hr := by kernel_rfl)
  · refine bind_opt fun y20 e20 => ?_
    have kc21 := (ai (SlE.len hv6) (ai (F32_l1_1 h x1 x2 x3 l4 v4 hv4 v5 v6 x7 x8 0 y14 e14 c15) kc15))
    refine dec_bif (fun c21 => ?_) (fun c21 => ?_)
    · intro hr
      obtain rfl := Option.some.inj hr
      exact pFun_sound good tab_ok (f := 32) (its := [.g, .g, .g, .g, (.ln l4.length), .g, (.l F32_m1_1 [] (.exit 0) (F32_x1_1 h x1 x2 x3 v4 v5 v6 x7 x8 y14)), .g, .g, (.ln l6.length), .g, (.l F32_m2_1 [] .ret (F32_x2_0 h x1 x2 x3 v4 v5 v6 x7 x8 y20))]) (args := [.agg #[.int .i64 x1, .int .i64 x2, .bool x3, (sv v4), (sv v5), (sv v6)], .int .i64 x7, .int .i64 x8]) (h := h) (h' := h) (v := .bool false) (hC := (ai (F32_l2_0 h x1 x2 x3 v4 v5 l6 v6 hv6 x7 x8 0 y20 e20 c21) kc21)) (hr := by kernel_rfl)
    · have kc22 := (ai (F32_l2_1 h x1 x2 x3 v4 v5 l6 v6 hv6 x7 x8 0 y20 e20 c21) kc21)
      refine dec_bif (fun c22 => ?_) (fun c22 => ?_)
      · have kc23 := (ai c22 (ai (g_tt c22) (ai (g_tt c22) (ai (g_tt c22) (ai (g_tt c22) kc22)))))
        refine dec_bif (fun c23 => ?_) (fun c23 => ?_)
        · have kc24 := (ai c23 (ai (g_tt c23) (ai (SlE.len hv4) (ai (g_tt c23) (ai (g_tt c23) (ai (g_tt c23) kc23))))))
          refine dec_bif (fun c24 => ?_) (fun c24 => ?_)
          · intro hr
            obtain rfl := Option.some.inj hr
            exact pFun_sound good tab_ok (f := 32) (its := [.g, .g, .g, .g, (.ln l4.length), .g, (.l F32_m1_1 [] (.exit 0) (F32_x1_1 h x1 x2 x3 v4 v5 v6 x7 x8 y14)), .g, .g, (.ln l6.length), .g, (.l F32_m2_1 [] (.exit 2) (F32_x2_1 h x1 x2 x3 v4 v5 v6 x7 x8 y20)), .g, .g, .g, .g, .g, (.w .g), (.w .g), (.w .g), (.w .g), (.p true), .g, (.w .g), (.w .g), (.w (.ln l4.length)), (.w .g), (.p true), .g, (.w .g), (.w .g), (.w (.ln l5.length)), (.w .g), (.p true), .g]) (args := [.agg #[.int .i64 x1, .int .i64 x2, .bool x3, (sv v4), (sv v5), (sv v6)], .int .i64 x7, .int .i64 x8]) (h := h) (h' := h) (v := .bool (decide ((l5.length : Int) ≤ 6))) (hC := (ai c24 (ai (g_tt c24) (ai (SlE.len hv5) (ai (g_tt c24) (ai (g_tt c24) (ai (g_tt c24) kc24))))))) (hr := by kernel_rfl)
          · intro hr
            obtain rfl := Option.some.inj hr
            exact pFun_sound good tab_ok (f := 32) (its := [.g, .g, .g, .g, (.ln l4.length), .g, (.l F32_m1_1 [] (.exit 0) (F32_x1_1 h x1 x2 x3 v4 v5 v6 x7 x8 y14)), .g, .g, (.ln l6.length), .g, (.l F32_m2_1 [] (.exit 2) (F32_x2_1 h x1 x2 x3 v4 v5 v6 x7 x8 y20)), .g, .g, .g, .g, .g, (.w .g), (.w .g), (.w .g), (.w .g), (.p true), .g, (.w .g), (.w .g), (.w (.ln l4.length)), (.w .g), (.p true), .g, .n, .n, .n, .n, (.p false), .g]) (args := [.agg #[.int .i64 x1, .int .i64 x2, .bool x3, (sv v4), (sv v5), (sv v6)], .int .i64 x7, .int .i64 x8]) (h := h) (h' := h) (v := .bool false) (hC := (ai c24 (ai (g_ft c24) (ai (g_ft c24) (ai (g_ft c24) (ai (g_ft c24) kc24)))))) (hr := by kernel_rfl)
        · intro hr
          obtain rfl := Option.some.inj hr
          exact pFun_sound good tab_ok (f := 32) (its := [.g, .g, .g, .g, (.ln l4.length), .g, (.l F32_m1_1 [] (.exit 0) (F32_x1_1 h x1 x2 x3 v4 v5 v6 x7 x8 y14)), .g, .g, (.ln l6.length), .g, (.l F32_m2_1 [] (.exit 2) (F32_x2_1 h x1 x2 x3 v4 v5 v6 x7 x8 y20)), .g, .g, .g, .g, .g, (.w .g), (.w .g), (.w .g), (.w .g), (.p true), .g, .n, .n, .n, .n, (.p false), .g, .n, .n, .n, .n, .g, .g]) (args := [.agg #[.int .i64 x1, .int .i64 x2, .bool x3, (sv v4), (sv v5), (sv v6)], .int .i64 x7, .int .i64 x8]) (h := h) (h' := h) (v := .bool false) (hC := (ai (g_ft l_f) (ai (g_ft l_f) (ai (g_ft l_f) (ai (g_ft l_f) (ai c23 (ai (g_ft c23) (ai (g_ft c23) (ai (g_ft c23) (ai (g_ft c23) kc23)))))))))) (hr := by kernel_rfl)
      · intro hr
        obtain rfl := Option.some.inj hr
        exact pFun_sound good tab_ok (f := 32) (its := [.g, .g, .g, .g, (.ln l4.length), .g, (.l F32_m1_1 [] (.exit 0) (F32_x1_1 h x1 x2 x3 v4 v5 v6 x7 x8 y14)), .g, .g, (.ln l6.length), .g, (.l F32_m2_1 [] (.exit 2) (F32_x2_1 h x1 x2 x3 v4 v5 v6 x7 x8 y20)), .g, .g, .g, .g, .g, .n, .n, .n, .n, (.p false), .g, .n, .n, .n, .n, .g, .g, .n, .n, .n, .n, .g, .g]) (args := [.agg #[.int .i64 x1, .int .i64 x2, .bool x3, (sv v4), (sv v5), (sv v6)], .int .i64 x7, .int .i64 x8]) (h := h) (h' := h) (v := .bool false) (hC := (ai (g_ft l_f) (ai (g_ft l_f) (ai (g_ft l_f) (ai (g_ft l_f) (ai (g_ft l_f) (ai (g_ft l_f) (ai (g_ft l_f) (ai (g_ft l_f) (ai c22 (ai (g_ft c22) (ai (g_ft c22) (ai (g_ft c22) (ai (g_ft c22) kc22)))))))))))))) (hr := by kernel_rfl)
/-! 12 jacquard/jacquardlaw31.few -/
def F12 (x1 : Int) (x2 : Int) (x3 : Bool) (l4 : List (Int × Int × Int × Int)) (l5 : List (Int × Int × Int × Int)) (l6 : List (Int × Int)) : Option (Bool) :=
  (Option.bind (F32 x1 x2 x3 l4 l5 l6 12 6) fun y7 =>
  (bif y7 then
   some (decide ((l6.length : Int) ≤ 20))
  else
   some (false)))
set_option maxRecDepth 100000 in
theorem F12_spec (x1 : Int) (x2 : Int) (x3 : Bool) (l4 : List (Int × Int × Int × Int)) (l5 : List (Int × Int × Int × Int)) (l6 : List (Int × Int)) (v4 : Hd) (v5 : Hd) (v6 : Hd) (h : AHeap) (hv4 : SlE E57 4 h (sv v4) l4) (hv5 : SlE E59 4 h (sv v5) l5) (hv6 : SlE E61 2 h (sv v6) l6) (r : Bool) : F12 x1 x2 x3 l4 l5 l6 = some r → ACalls Try.prog 12 [.agg #[.int .i64 x1, .int .i64 x2, .bool x3, (sv v4), (sv v5), (sv v6)]] h (fun v' h'' => v' = (.bool r : Value) ∧ h'' = h) := by
  unfold F12
  refine bind_opt fun y7 e7 => ?_
  have kc9 := (ai (F32_spec x1 x2 x3 l4 l5 l6 12 6 v4 v5 v6 h hv4 hv5 hv6 _ e7) trivial)
  refine dec_bif (fun c9 => ?_) (fun c9 => ?_)
  · intro hr
    obtain rfl := Option.some.inj hr
    exact pFun_sound good tab_ok (f := 12) (its := [.g, .g, .g, (.c (.bool y7) h), .g, (.w .g), (.w .g), (.w (.ln l6.length)), (.w .g), (.p true), .g]) (args := [.agg #[.int .i64 x1, .int .i64 x2, .bool x3, (sv v4), (sv v5), (sv v6)]]) (h := h) (h' := h) (v := .bool (decide ((l6.length : Int) ≤ 20))) (hC := (ai c9 (ai (g_tt c9) (ai (SlE.len hv6) (ai (g_tt c9) (ai (g_tt c9) (ai (g_tt c9) kc9))))))) (hr := by kernel_rfl)
  · intro hr
    obtain rfl := Option.some.inj hr
    exact pFun_sound good tab_ok (f := 12) (its := [.g, .g, .g, (.c (.bool y7) h), .g, .n, .n, .n, .n, (.p false), .g]) (args := [.agg #[.int .i64 x1, .int .i64 x2, .bool x3, (sv v4), (sv v5), (sv v6)]]) (h := h) (h' := h) (v := .bool false) (hC := (ai c9 (ai (g_ft c9) (ai (g_ft c9) (ai (g_ft c9) (ai (g_ft c9) kc9)))))) (hr := by kernel_rfl)
/-! 28 jacquard/jacquardref28.Source -/
def F28 (x1 : Int) (x2 : Int) (x3 : Bool) (l4 : List (Int × Int × Int × Int)) (l5 : List (Int × Int × Int × Int)) (l6 : List (Int × Int)) : Int :=
  (IntKind.i64.wrap (x1 + x2))
set_option maxRecDepth 100000 in
theorem F28_spec (x1 : Int) (x2 : Int) (x3 : Bool) (l4 : List (Int × Int × Int × Int)) (l5 : List (Int × Int × Int × Int)) (l6 : List (Int × Int)) (v4 : Hd) (v5 : Hd) (v6 : Hd) (h : AHeap) (hv4 : SlE E57 4 h (sv v4) l4) (hv5 : SlE E59 4 h (sv v5) l5) (hv6 : SlE E61 2 h (sv v6) l6) (r : Int) : F28 x1 x2 x3 l4 l5 l6 = r → ACalls Try.prog 28 [.agg #[.int .i64 x1, .int .i64 x2, .bool x3, (sv v4), (sv v5), (sv v6)]] h (fun v' h'' => v' = (.int .i64 r : Value) ∧ h'' = h) := by
  unfold F28
  intro hr
  subst hr
  exact pFun_sound good tab_ok (f := 28) (its := [.g, .g, .g, .g, .g, .g, .g, .g]) (args := [.agg #[.int .i64 x1, .int .i64 x2, .bool x3, (sv v4), (sv v5), (sv v6)]]) (h := h) (h' := h) (v := .int .i64 (IntKind.i64.wrap (x1 + x2))) (hC := trivial) (hr := by kernel_rfl)
/-! 26 jacquard/jacquardref28.End -/
def F26 (x1 : Int) (x2 : Int) (x3 : Bool) (l4 : List (Int × Int × Int × Int)) (l5 : List (Int × Int × Int × Int)) (l6 : List (Int × Int)) : Int :=
  (IntKind.i64.wrap ((IntKind.i64.wrap (x1 + x2)) + 1))
set_option maxRecDepth 100000 in
theorem F26_spec (x1 : Int) (x2 : Int) (x3 : Bool) (l4 : List (Int × Int × Int × Int)) (l5 : List (Int × Int × Int × Int)) (l6 : List (Int × Int)) (v4 : Hd) (v5 : Hd) (v6 : Hd) (h : AHeap) (hv4 : SlE E57 4 h (sv v4) l4) (hv5 : SlE E59 4 h (sv v5) l5) (hv6 : SlE E61 2 h (sv v6) l6) (r : Int) : F26 x1 x2 x3 l4 l5 l6 = r → ACalls Try.prog 26 [.agg #[.int .i64 x1, .int .i64 x2, .bool x3, (sv v4), (sv v5), (sv v6)]] h (fun v' h'' => v' = (.int .i64 r : Value) ∧ h'' = h) := by
  unfold F26
  intro hr
  subst hr
  exact pFun_sound good tab_ok (f := 26) (its := [.g, .g, .g, .g, .g, .g, .g, .g, .g]) (args := [.agg #[.int .i64 x1, .int .i64 x2, .bool x3, (sv v4), (sv v5), (sv v6)]]) (h := h) (h' := h) (v := .int .i64 (IntKind.i64.wrap ((IntKind.i64.wrap (x1 + x2)) + 1))) (hC := trivial) (hr := by kernel_rfl)
/-! 14 jacquard/jacquardref28.Valid -/
def F14_L : List Nat := [1, 5, 10, 12]
def F14_D : List (Nat × List (Nat × Nat)) := [(19, [(0, 2), (2, 2), (5, 2), (7, 2), (1, 3), (3, 2), (4, 5), (6, 1), (8, 2), (9, 2)]), (32, [(0, 2), (1, 2), (2, 2), (3, 2), (4, 2), (5, 2), (7, 2), (6, 3), (8, 1), (9, 2), (10, 2), (11, 2), (12, 2), (13, 2), (14, 2), (15, 2), (16, 2), (17, 2), (18, 2), (19, 2), (20, 2), (21, 2), (22, 2), (23, 2), (24, 2), (25, 2), (26, 2), (27, 2), (28, 2), (29, 2), (30, 2), (31, 2), (32, 2), (33, 2)])]
def F14__1 (x1 : Int) (x2 : Int) (y14 : Int × Int × Int × Int) : Bool := decide (y14.1 ≥ (IntKind.i64.wrap ((IntKind.i64.wrap ((IntKind.i64.wrap (x1 + x2)) + 2)) - 1)))
def F14__2 (x1 : Int) (x2 : Int) : Int := (IntKind.i64.wrap ((IntKind.i64.wrap (2 * (IntKind.i64.wrap ((IntKind.i64.wrap (x1 + x2)) + 2)))) - 3))
def F14__3 (x1 : Int) (x2 : Int) (a28 : Int) : Bool := decide (a28 < (IntKind.i64.wrap ((IntKind.i64.wrap ((IntKind.i64.wrap (x1 + x2)) + 2)) - 1)))
def F14__4 (x1 : Int) (x2 : Int) (x3 : Bool) (l4 : List (Int × Int × Int × Int)) (l5 : List (Int × Int × Int × Int)) (l6 : List (Int × Int)) (a28 : Int) (y32 : Int × Int × Int × Int) : Bool := (!((y32.1 == (F28 x1 x2 x3 l4 l5 l6)) && ((y32.2.1 == (IntKind.i64.wrap (a28 + 1))) && ((y32.2.2.1 == 0) && ((y32.2.2.2 == 0) && true)))))
def F14__5 (x1 : Int) (x2 : Int) (x3 : Bool) (l4 : List (Int × Int × Int × Int)) (l5 : List (Int × Int × Int × Int)) (l6 : List (Int × Int)) (a28 : Int) (y35 : Int × Int × Int × Int) : Bool := (!((y35.1 == (F28 x1 x2 x3 l4 l5 l6)) && ((y35.2.1 == a28) && ((y35.2.2.1 == 0) && ((y35.2.2.2 == 0) && true)))))
def F14__6 (x1 : Int) (x2 : Int) (a49 : Int) : Bool := decide (a49 < (IntKind.i64.wrap ((IntKind.i64.wrap ((IntKind.i64.wrap (x1 + x2)) + 2)) - 2)))
def F14__7 (x1 : Int) (x2 : Int) (a49 : Int) : Int := (IntKind.i64.wrap ((IntKind.i64.wrap ((IntKind.i64.wrap ((IntKind.i64.wrap (x1 + x2)) + 2)) - 1)) + a49))
def F14_m1_2 : List Bool := (true :: false :: true :: false :: (rp 271 true []))
def F14_m1_1 : List Bool := (true :: false :: true :: false :: (rp 43 true (false :: false :: (rp 226 true []))))
def F14_m1_0 : List Bool := (true :: true :: false :: (rp 272 true []))
def F14_s1 (x1 : Int) (x2 : Int) (x3 : Bool) (l4 : List (Int × Int × Int × Int)) (a12 : Int) : Option (Int ⊕ Nat) :=
  (bif decide (a12 < (l4.length : Int)) then
   (Option.bind (at? l4 a12) fun y14 =>
   (bif decide (y14.1 < 0) then
    some (.inr 0)
   else
    (bif (F14__1 x1 x2 y14) then
     some (.inr 0)
    else
     (bif decide (y14.2.1 < 0) then
      some (.inr 0)
     else
      (bif decide (y14.2.1 ≥ (IntKind.i64.wrap ((IntKind.i64.wrap (x1 + x2)) + 2))) then
       some (.inr 0)
      else
       (bif decide (y14.2.2.1 < 0) then
        some (.inr 0)
       else
        (bif decide (y14.2.2.1 > 4096) then
         some (.inr 0)
        else
         (bif decide (y14.2.2.2 < 0) then
          some (.inr 0)
         else
          (bif decide (y14.2.2.2 > 256) then
           some (.inr 0)
          else
           (bif decide (y14.2.2.2 > 0) then
            (bif (!x3) then
             some (.inr 0)
            else
             some (.inl (IntKind.i64.wrap (a12 + 1))))
           else
            some (.inl (IntKind.i64.wrap (a12 + 1)))))))))))))
  else
   some (.inr 1))
def F14_h1 (h : AHeap) (x1 : Int) (x2 : Int) (x3 : Bool) (l4 : List (Int × Int × Int × Int)) (v4 : Hd) (v5 : Hd) (v6 : Hd)  (a12 : Int) : AS := ⟨(junk :: (.pointer (some ⟨1, 0, none⟩)) :: junk :: (.int .i64 (IntKind.i64.wrap ((IntKind.i64.wrap (x1 + x2)) + 2))) :: (rp 43 junk ((.int .i64 (l4.length : Int)) :: (.int .i64 a12) :: (rp 226 junk [])))), [(1, [.int .i64 x1, .int .i64 x2, .bool x3, (sv v4), (sv v5), (sv v6)])], h⟩
theorem F14_d1 : drawsOk F14_D (codeOf Try.prog 14 [1, 1, 1, 0, 1, 0, 0]) = true := by kernel_rfl
def F14_x1_0 (h : AHeap) (x1 : Int) (x2 : Int) (x3 : Bool) (v4 : Hd) (v5 : Hd) (v6 : Hd)  (r : Nat) : AS := ⟨(junk :: junk :: (.bool false) :: (rp 272 junk [])), [], h⟩
def F14_x1_1 (h : AHeap) (x1 : Int) (x2 : Int) (x3 : Bool) (v4 : Hd) (v5 : Hd) (v6 : Hd)  (r : Nat) : AS := ⟨(junk :: (.pointer (some ⟨1, 0, none⟩)) :: junk :: (.int .i64 (IntKind.i64.wrap ((IntKind.i64.wrap (x1 + x2)) + 2))) :: (rp 271 junk [])), [(1, [.int .i64 x1, .int .i64 x2, .bool x3, (sv v4), (sv v5), (sv v6)])], h⟩
def F14_x1 (h : AHeap) (x1 : Int) (x2 : Int) (x3 : Bool) (v4 : Hd) (v5 : Hd) (v6 : Hd) (r : Nat) : Exit × AS := (bif Nat.beq r 0 then (.ret, (F14_x1_0 h x1 x2 x3 v4 v5 v6 r)) else ((.exit 0), (F14_x1_1 h x1 x2 x3 v4 v5 v6 r)))
set_option maxRecDepth 100000 in
theorem F14_r1 (h : AHeap) (x1 : Int) (x2 : Int) (x3 : Bool) (l4 : List (Int × Int × Int × Int)) (v4 : Hd) (hv4 : SlE E57 4 h (sv v4) l4) (v5 : Hd) (v6 : Hd) (a12 : Int) (o : Int ⊕ Nat) : F14_s1 x1 x2 x3 l4 a12 = some o → RdF Try.prog (codeOf Try.prog 14 [1, 1, 1, 0, 1, 0, 0]) (fun (s : Int) => (F14_h1 h x1 x2 x3 l4 v4 v5 v6 s)) (F14_x1 h x1 x2 x3 v4 v5 v6) (F14_h1 h x1 x2 x3 l4 v4 v5 v6 a12) o := by
  unfold F14_s1
  refine dec_bif (fun c13 => ?_) (fun c13 => ?_)
  · refine bind_opt fun y14 e14 => ?_
    obtain ⟨id14, off14, g14, cs14, ix14, at14, rfl⟩ := SlE.at hv4 e14
    have kc15 := (ai (At.agg (P := Try.prog) (t := 57) (v := .agg #[.int .i64 y14.1, .int .i64 y14.2.1, .int .i64 y14.2.2.1, .int .i64 y14.2.2.2]) (m := 4) at14 (by kernel_rfl) (by kernel_rfl) 0 (by kernel_rfl) rfl) (ai ix14 (ai c13 trivial)))
    refine dec_bif (fun c15 => ?_) (fun c15 => ?_)
    · intro hr
      obtain rfl := Option.some.inj hr
      show AWp Try.prog _ (Ends1 ((F14_x1 h x1 x2 x3 v4 v5 v6) (0 : Nat)).1 ((F14_x1 h x1 x2 x3 v4 v5 v6) (0 : Nat)).2) _
      exact pEnd_sound good (L := F14_L) (D := F14_D) (its := [.g, (.b true), .g, .g, .g, .g, .g, (.ix id14 off14 g14), (.ld (.agg #[.int .i64 y14.1, .int .i64 y14.2.1, .int .i64 y14.2.2.1, .int .i64 y14.2.2.2])), .g, .g, .g, .g, .g, .g, .n, .n, .n, .n, .n, (.p true), .g, .n, .n, .n, .g, .g, .n, .n, .n, .n, .g, .g, .n, .n, .n, .g, .g, .n, .n, .n, .g, .g, .n, .n, .n, .g, .g, .n, .n, .n, .g, .g, .n, .n, .n, .n, .n, .n, .n, .n, .g, (.b true), .g]) (ds := F14_m1_0) (ks := [1, 5]) (e := ((F14_x1 h x1 x2 x3 v4 v5 v6) (0 : Nat)).1) (s2 := ((F14_x1 h x1 x2 x3 v4 v5 v6) (0 : Nat)).2) (hC := (ai l_t (ai (g_tf l_t) (ai l_f (ai l_f (ai l_f (ai (g_tf l_t) (ai (g_tf l_t) (ai (g_tf l_t) (ai (g_tf l_t) (ai (g_tf l_t) (ai (g_tf l_t) (ai (g_tf l_t) (ai (g_tf l_t) (ai (g_tf l_t) (ai (g_tf l_t) (ai (g_tf l_t) (ai (g_tf l_t) (ai (g_tf l_t) (ai (g_tf l_t) (ai (g_tf l_t) (ai (g_tf l_t) (ai (g_tf l_t) (ai (g_tf l_t) (ai (g_tf l_t) (ai (g_tf l_t) (ai (g_tf l_t) (ai (g_tf l_t) (ai (g_tf l_t) (ai c15 (ai (g_tf c15) (ai (g_tf c15) (ai (g_tf c15) (ai (g_tf c15) (ai (g_tf c15) kc15))))))))))))))))))))))))))))))))))) (hd := F14_d1) (h := by kernel_rfl)
    · have kc16 := (ai c15 (ai (g_ff c15) (ai (g_ff c15) (ai (g_ff c15) (ai (g_ff c15) (ai (g_ff c15) kc15))))))
      refine dec_bif (fun c16 => ?_) (fun c16 => ?_)
      · intro hr
        obtain rfl := Option.some.inj hr
        show AWp Try.prog _ (Ends1 ((F14_x1 h x1 x2 x3 v4 v5 v6) (0 : Nat)).1 ((F14_x1 h x1 x2 x3 v4 v5 v6) (0 : Nat)).2) _
        exact pEnd_sound good (L := F14_L) (D := F14_D) (its := [.g, (.b true), .g, .g, .g, .g, .g, (.ix id14 off14 g14), (.ld (.agg #[.int .i64 y14.1, .int .i64 y14.2.1, .int .i64 y14.2.2.1, .int .i64 y14.2.2.2])), .g, .g, .g, .g, .g, .g, (.w .g), (.w .g), (.w .g), (.w .g), (.w .g), (.p false), .g, .n, .n, .n, (.p true), .g, .n, .n, .n, .n, .g, .g, .n, .n, .n, .g, .g, .n, .n, .n, .g, .g, .n, .n, .n, .g, .g, .n, .n, .n, .g, .g, .n, .n, .n, .n, .n, .n, .n, .n, .g, (.b true), .g]) (ds := F14_m1_0) (ks := [1, 5]) (e := ((F14_x1 h x1 x2 x3 v4 v5 v6) (0 : Nat)).1) (s2 := ((F14_x1 h x1 x2 x3 v4 v5 v6) (0 : Nat)).2) (hC := (ai l_t (ai (g_tf l_t) (ai l_f (ai l_f (ai l_f (ai (g_tf l_t) (ai (g_tf l_t) (ai (g_tf l_t) (ai (g_tf l_t) (ai (g_tf l_t) (ai (g_tf l_t) (ai (g_tf l_t) (ai (g_tf l_t) (ai (g_tf l_t) (ai (g_tf l_t) (ai (g_tf l_t) (ai (g_tf l_t) (ai (g_tf l_t) (ai (g_tf l_t) (ai (g_tf l_t) (ai (g_tf l_t) (ai (g_tf l_t) (ai (g_tf l_t) (ai (g_tf l_t) (ai (g_tf l_t) (ai c16 (ai (g_tf c16) (ai (g_tf c16) (ai (g_tf c16) kc16)))))))))))))))))))))))))))))) (hd := F14_d1) (h := by kernel_rfl)
      · have kc17 := (ai c16 (ai (g_ff c16) (ai (g_ff c16) (ai (g_ff c16) kc16))))
        refine dec_bif (fun c17 => ?_) (fun c17 => ?_)
        · intro hr
          obtain rfl := Option.some.inj hr
          show AWp Try.prog _ (Ends1 ((F14_x1 h x1 x2 x3 v4 v5 v6) (0 : Nat)).1 ((F14_x1 h x1 x2 x3 v4 v5 v6) (0 : Nat)).2) _
          exact pEnd_sound good (L := F14_L) (D := F14_D) (its := [.g, (.b true), .g, .g, .g, .g, .g, (.ix id14 off14 g14), (.ld (.agg #[.int .i64 y14.1, .int .i64 y14.2.1, .int .i64 y14.2.2.1, .int .i64 y14.2.2.2])), .g, .g, .g, .g, .g, .g, (.w .g), (.w .g), (.w .g), (.w .g), (.w .g), (.p false), .g, (.w .g), (.w .g), (.w .g), (.p false), .g, .n, .n, .n, .n, (.p true), .g, .n, .n, .n, .g, .g, .n, .n, .n, .g, .g, .n, .n, .n, .g, .g, .n, .n, .n, .g, .g, .n, .n, .n, .n, .n, .n, .n, .n, .g, (.b true), .g]) (ds := F14_m1_0) (ks := [1, 5]) (e := ((F14_x1 h x1 x2 x3 v4 v5 v6) (0 : Nat)).1) (s2 := ((F14_x1 h x1 x2 x3 v4 v5 v6) (0 : Nat)).2) (hC := (ai l_t (ai (g_tf l_t) (ai l_f (ai l_f (ai l_f (ai (g_tf l_t) (ai (g_tf l_t) (ai (g_tf l_t) (ai (g_tf l_t) (ai (g_tf l_t) (ai (g_tf l_t) (ai (g_tf l_t) (ai (g_tf l_t) (ai (g_tf l_t) (ai (g_tf l_t) (ai (g_tf l_t) (ai (g_tf l_t) (ai (g_tf l_t) (ai (g_tf l_t) (ai (g_tf l_t) (ai (g_tf l_t) (ai c17 (ai (g_tf c17) (ai (g_tf c17) (ai (g_tf c17) (ai (g_tf c17) kc17))))))))))))))))))))))))))) (hd := F14_d1) (h := by kernel_rfl)
        · have kc18 := (ai c17 (ai (g_ff c17) (ai (g_ff c17) (ai (g_ff c17) (ai (g_ff c17) kc17)))))
          refine dec_bif (fun c18 => ?_) (fun c18 => ?_)
          · intro hr
            obtain rfl := Option.some.inj hr
            show AWp Try.prog _ (Ends1 ((F14_x1 h x1 x2 x3 v4 v5 v6) (0 : Nat)).1 ((F14_x1 h x1 x2 x3 v4 v5 v6) (0 : Nat)).2) _
            exact pEnd_sound good (L := F14_L) (D := F14_D) (its := [.g, (.b true), .g, .g, .g, .g, .g, (.ix id14 off14 g14), (.ld (.agg #[.int .i64 y14.1, .int .i64 y14.2.1, .int .i64 y14.2.2.1, .int .i64 y14.2.2.2])), .g, .g, .g, .g, .g, .g, (.w .g), (.w .g), (.w .g), (.w .g), (.w .g), (.p false), .g, (.w .g), (.w .g), (.w .g), (.p false), .g, (.w .g), (.w .g), (.w .g), (.w .g), (.p false), .g, .n, .n, .n, (.p true), .g, .n, .n, .n, .g, .g, .n, .n, .n, .g, .g, .n, .n, .n, .g, .g, .n, .n, .n, .n, .n, .n, .n, .n, .g, (.b true), .g]) (ds := F14_m1_0) (ks := [1, 5]) (e := ((F14_x1 h x1 x2 x3 v4 v5 v6) (0 : Nat)).1) (s2 := ((F14_x1 h x1 x2 x3 v4 v5 v6) (0 : Nat)).2) (hC := (ai l_t (ai (g_tf l_t) (ai l_f (ai l_f (ai l_f (ai (g_tf l_t) (ai (g_tf l_t) (ai (g_tf l_t) (ai (g_tf l_t) (ai (g_tf l_t) (ai (g_tf l_t) (ai (g_tf l_t) (ai (g_tf l_t) (ai (g_tf l_t) (ai (g_tf l_t) (ai (g_tf l_t) (ai (g_tf l_t) (ai (g_tf l_t) (ai c18 (ai (g_tf c18) (ai (g_tf c18) (ai (g_tf c18) kc18))))))))))))))))))))))) (hd := F14_d1) (h := by kernel_rfl)
          · have kc19 := (ai c18 (ai (g_ff c18) (ai (g_ff c18) (ai (g_ff c18) kc18))))
            refine dec_bif (fun c19 => ?_) (fun c19 => ?_)
            · intro hr
              obtain rfl := Option.some.inj hr
              show AWp Try.prog _ (Ends1 ((F14_x1 h x1 x2 x3 v4 v5 v6) (0 : Nat)).1 ((F14_x1 h x1 x2 x3 v4 v5 v6) (0 : Nat)).2) _
              exact pEnd_sound good (L := F14_L) (D := F14_D) (its := [.g, (.b true), .g, .g, .g, .g, .g, (.ix id14 off14 g14), (.ld (.agg #[.int .i64 y14.1, .int .i64 y14.2.1, .int .i64 y14.2.2.1, .int .i64 y14.2.2.2])), .g, .g, .g, .g, .g, .g, (.w .g), (.w .g), (.w .g), (.w .g), (.w .g), (.p false), .g, (.w .g), (.w .g), (.w .g), (.p false), .g, (.w .g), (.w .g), (.w .g), (.w .g), (.p false), .g, (.w .g), (.w .g), (.w .g), (.p false), .g, .n, .n, .n, (.p true), .g, .n, .n, .n, .g, .g, .n, .n, .n, .g, .g, .n, .n, .n, .n, .n, .n, .n, .n, .g, (.b true), .g]) (ds := F14_m1_0) (ks := [1, 5]) (e := ((F14_x1 h x1 x2 x3 v4 v5 v6) (0 : Nat)).1) (s2 := ((F14_x1 h x1 x2 x3 v4 v5 v6) (0 : Nat)).2) (hC := (ai l_t (ai (g_tf l_t) (ai l_f (ai l_f (ai l_f (ai (g_tf l_t) (ai (g_tf l_t) (ai (g_tf l_t) (ai (g_tf l_t) (ai (g_tf l_t) (ai (g_tf l_t) (ai (g_tf l_t) (ai (g_tf l_t) (ai (g_tf l_t) (ai (g_tf l_t) (ai c19 (ai (g_tf c19) (ai (g_tf c19) (ai (g_tf c19) kc19)))))))))))))))))))) (hd := F14_d1) (h := by kernel_rfl)
            · have kc20 := (ai c19 (ai (g_ff c19) (ai (g_ff c19) (ai (g_ff c19) kc19))))
              refine dec_bif (fun c20 => ?_) (fun c20 => ?_)
              · intro hr
                obtain rfl := Option.some.inj hr
                show AWp Try.prog _ (Ends1 ((F14_x1 h x1 x2 x3 v4 v5 v6) (0 : Nat)).1 ((F14_x1 h x1 x2 x3 v4 v5 v6) (0 : Nat)).2) _
                exact pEnd_sound good (L := F14_L) (D := F14_D) (its := [.g, (.b true), .g, .g, .g, .g, .g, (.ix id14 off14 g14), (.ld (.agg #[.int .i64 y14.1, .int .i64 y14.2.1, .int .i64 y14.2.2.1, .int .i64 y14.2.2.2])), .g, .g, .g, .g, .g, .g, (.w .g), (.w .g), (.w .g), (.w .g), (.w .g), (.p false), .g, (.w .g), (.w .g), (.w .g), (.p false), .g, (.w .g), (.w .g), (.w .g), (.w .g), (.p false), .g, (.w .g), (.w .g), (.w .g), (.p false), .g, (.w .g), (.w .g), (.w .g), (.p false), .g, .n, .n, .n, (.p true), .g, .n, .n, .n, .g, .g, .n, .n, .n, .n, .n, .n, .n, .n, .g, (.b true), .g]) (ds := F14_m1_0) (ks := [1, 5]) (e := ((F14_x1 h x1 x2 x3 v4 v5 v6) (0 : Nat)).1) (s2 := ((F14_x1 h x1 x2 x3 v4 v5 v6) (0 : Nat)).2) (hC := (ai l_t (ai (g_tf l_t) (ai l_f (ai l_f (ai l_f (ai (g_tf l_t) (ai (g_tf l_t) (ai (g_tf l_t) (ai (g_tf l_t) (ai (g_tf l_t) (ai (g_tf l_t) (ai (g_tf l_t) (ai c20 (ai (g_tf c20) (ai (g_tf c20) (ai (g_tf c20) kc20))))))))))))))))) (hd := F14_d1) (h := by kernel_rfl)
              · have kc21 := (ai c20 (ai (g_ff c20) (ai (g_ff c20) (ai (g_ff c20) kc20))))
                refine dec_bif (fun c21 => ?_) (fun c21 => ?_)
                · intro hr
                  obtain rfl := Option.some.inj hr
                  show AWp Try.prog _ (Ends1 ((F14_x1 h x1 x2 x3 v4 v5 v6) (0 : Nat)).1 ((F14_x1 h x1 x2 x3 v4 v5 v6) (0 : Nat)).2) _
                  exact pEnd_sound good (L := F14_L) (D := F14_D) (its := [.g, (.b true), .g, .g, .g, .g, .g, (.ix id14 off14 g14), (.ld (.agg #[.int .i64 y14.1, .int .i64 y14.2.1, .int .i64 y14.2.2.1, .int .i64 y14.2.2.2])), .g, .g, .g, .g, .g, .g, (.w .g), (.w .g), (.w .g), (.w .g), (.w .g), (.p false), .g, (.w .g), (.w .g), (.w .g), (.p false), .g, (.w .g), (.w .g), (.w .g), (.w .g), (.p false), .g, (.w .g), (.w .g), (.w .g), (.p false), .g, (.w .g), (.w .g), (.w .g), (.p false), .g, (.w .g), (.w .g), (.w .g), (.p false), .g, .n, .n, .n, (.p true), .g, .n, .n, .n, .n, .n, .n, .n, .n, .g, (.b true), .g]) (ds := F14_m1_0) (ks := [1, 5]) (e := ((F14_x1 h x1 x2 x3 v4 v5 v6) (0 : Nat)).1) (s2 := ((F14_x1 h x1 x2 x3 v4 v5 v6) (0 : Nat)).2) (hC := (ai l_t (ai (g_tf l_t) (ai l_f (ai l_f (ai l_f (ai (g_tf l_t) (ai (g_tf l_t) (ai (g_tf l_t) (ai (g_tf l_t) (ai c21 (ai (g_tf c21) (ai (g_tf c21) (ai (g_tf c21) kc21)))))))))))))) (hd := F14_d1) (h := by kernel_rfl)
                · have kc22 := (ai c21 (ai (g_ff c21) (ai (g_ff c21) (ai (g_ff c21) kc21))))
                  refine dec_bif (fun c22 => ?_) (fun c22 => ?_)
                  · intro hr
                    obtain rfl := Option.some.inj hr
                    show AWp Try.prog _ (Ends1 ((F14_x1 h x1 x2 x3 v4 v5 v6) (0 : Nat)).1 ((F14_x1 h x1 x2 x3 v4 v5 v6) (0 : Nat)).2) _
                    exact pEnd_sound good (L := F14_L) (D := F14_D) (its := [.g, (.b true), .g, .g, .g, .g, .g, (.ix id14 off14 g14), (.ld (.agg #[.int .i64 y14.1, .int .i64 y14.2.1, .int .i64 y14.2.2.1, .int .i64 y14.2.2.2])), .g, .g, .g, .g, .g, .g, (.w .g), (.w .g), (.w .g), (.w .g), (.w .g), (.p false), .g, (.w .g), (.w .g), (.w .g), (.p false), .g, (.w .g), (.w .g), (.w .g), (.w .g), (.p false), .g, (.w .g), (.w .g), (.w .g), (.p false), .g, (.w .g), (.w .g), (.w .g), (.p false), .g, (.w .g), (.w .g), (.w .g), (.p false), .g, (.w .g), (.w .g), (.w .g), (.p false), .g, .n, .n, .n, .n, .n, .n, .n, .n, (.p true), (.b true), .g]) (ds := F14_m1_0) (ks := [1, 5]) (e := ((F14_x1 h x1 x2 x3 v4 v5 v6) (0 : Nat)).1) (s2 := ((F14_x1 h x1 x2 x3 v4 v5 v6) (0 : Nat)).2) (hC := (ai l_t (ai c22 (ai (g_tf c22) (ai l_f (ai l_f (ai l_f (ai (g_tf c22) (ai (g_tf c22) (ai (g_tf c22) (ai (g_tf c22) kc22))))))))))) (hd := F14_d1) (h := by kernel_rfl)
                  · have kc23 := (ai (g_ff c22) (ai (g_ff c22) (ai (g_ff c22) (ai (g_ff c22) kc22))))
                    refine dec_bif (fun c23 => ?_) (fun c23 => ?_)
                    · have kc24 := (ai c22 (ai c23 (ai (g_ff c22) (ai (g_tt c23) (ai (g_tt c23) (ai (g_tt c23) kc23))))))
                      refine dec_bif (fun c24 => ?_) (fun c24 => ?_)
                      · intro hr
                        obtain rfl := Option.some.inj hr
                        show AWp Try.prog _ (Ends1 ((F14_x1 h x1 x2 x3 v4 v5 v6) (0 : Nat)).1 ((F14_x1 h x1 x2 x3 v4 v5 v6) (0 : Nat)).2) _
                        exact pEnd_sound good (L := F14_L) (D := F14_D) (its := [.g, (.b true), .g, .g, .g, .g, .g, (.ix id14 off14 g14), (.ld (.agg #[.int .i64 y14.1, .int .i64 y14.2.1, .int .i64 y14.2.2.1, .int .i64 y14.2.2.2])), .g, .g, .g, .g, .g, .g, (.w .g), (.w .g), (.w .g), (.w .g), (.w .g), (.p false), .g, (.w .g), (.w .g), (.w .g), (.p false), .g, (.w .g), (.w .g), (.w .g), (.w .g), (.p false), .g, (.w .g), (.w .g), (.w .g), (.p false), .g, (.w .g), (.w .g), (.w .g), (.p false), .g, (.w .g), (.w .g), (.w .g), (.p false), .g, (.w .g), (.w .g), (.w .g), (.p false), .g, (.w .g), (.w .g), (.w .g), (.w .g), (.w .g), (.w .g), (.w .g), (.w (.p true)), (.p false), (.b true), .g]) (ds := F14_m1_0) (ks := [1, 5]) (e := ((F14_x1 h x1 x2 x3 v4 v5 v6) (0 : Nat)).1) (s2 := ((F14_x1 h x1 x2 x3 v4 v5 v6) (0 : Nat)).2) (hC := (ai c24 kc24)) (hd := F14_d1) (h := by kernel_rfl)
                      · intro hr
                        obtain rfl := Option.some.inj hr
                        show AWp Try.prog _ (Ends1 .normal (F14_h1 h x1 x2 x3 l4 v4 v5 v6 (IntKind.i64.wrap (a12 + 1)))) _
                        exact pEnd_sound good (L := F14_L) (D := F14_D) (its := [.g, (.b true), .g, .g, .g, .g, .g, (.ix id14 off14 g14), (.ld (.agg #[.int .i64 y14.1, .int .i64 y14.2.1, .int .i64 y14.2.2.1, .int .i64 y14.2.2.2])), .g, .g, .g, .g, .g, .g, (.w .g), (.w .g), (.w .g), (.w .g), (.w .g), (.p false), .g, (.w .g), (.w .g), (.w .g), (.p false), .g, (.w .g), (.w .g), (.w .g), (.w .g), (.p false), .g, (.w .g), (.w .g), (.w .g), (.p false), .g, (.w .g), (.w .g), (.w .g), (.p false), .g, (.w .g), (.w .g), (.w .g), (.p false), .g, (.w .g), (.w .g), (.w .g), (.p false), .g, (.w .g), (.w .g), (.w .g), (.w .g), (.w .g), (.w .g), (.w .g), (.w (.p true)), (.p false), (.b false), .g, .g]) (ds := F14_m1_1) (ks := [5]) (e := .normal) (s2 := (F14_h1 h x1 x2 x3 l4 v4 v5 v6 (IntKind.i64.wrap (a12 + 1)))) (hC := (ai c24 kc24)) (hd := F14_d1) (h := by kernel_rfl)
                    · intro hr
                      obtain rfl := Option.some.inj hr
                      show AWp Try.prog _ (Ends1 .normal (F14_h1 h x1 x2 x3 l4 v4 v5 v6 (IntKind.i64.wrap (a12 + 1)))) _
                      exact pEnd_sound good (L := F14_L) (D := F14_D) (its := [.g, (.b true), .g, .g, .g, .g, .g, (.ix id14 off14 g14), (.ld (.agg #[.int .i64 y14.1, .int .i64 y14.2.1, .int .i64 y14.2.2.1, .int .i64 y14.2.2.2])), .g, .g, .g, .g, .g, .g, (.w .g), (.w .g), (.w .g), (.w .g), (.w .g), (.p false), .g, (.w .g), (.w .g), (.w .g), (.p false), .g, (.w .g), (.w .g), (.w .g), (.w .g), (.p false), .g, (.w .g), (.w .g), (.w .g), (.p false), .g, (.w .g), (.w .g), (.w .g), (.p false), .g, (.w .g), (.w .g), (.w .g), (.p false), .g, (.w .g), (.w .g), (.w .g), (.p false), .g, (.w .g), (.w .g), (.w .g), (.w .g), .n, .n, .n, (.w (.p false)), (.p false), (.b false), .g, .g]) (ds := F14_m1_1) (ks := [5]) (e := .normal) (s2 := (F14_h1 h x1 x2 x3 l4 v4 v5 v6 (IntKind.i64.wrap (a12 + 1)))) (hC := (ai l_f (ai c22 (ai c23 (ai (g_ff c22) (ai (g_ft c23) (ai (g_ft c23) (ai (g_ft c23) kc23)))))))) (hd := F14_d1) (h := by kernel_rfl)
  · intro hr
    obtain rfl := Option.some.inj hr
    show AWp Try.prog _ (Ends1 ((F14_x1 h x1 x2 x3 v4 v5 v6) (1 : Nat)).1 ((F14_x1 h x1 x2 x3 v4 v5 v6) (1 : Nat)).2) _
    exact pEnd_sound good (L := F14_L) (D := F14_D) (its := [.g, (.b false)]) (ds := F14_m1_2) (ks := []) (e := ((F14_x1 h x1 x2 x3 v4 v5 v6) (1 : Nat)).1) (s2 := ((F14_x1 h x1 x2 x3 v4 v5 v6) (1 : Nat)).2) (hC := (ai c13 trivial)) (hd := F14_d1) (h := by kernel_rfl)
theorem F14_l1_0 (h : AHeap) (x1 : Int) (x2 : Int) (x3 : Bool) (l4 : List (Int × Int × Int × Int)) (v4 : Hd) (hv4 : SlE E57 4 h (sv v4) l4) (v5 : Hd) (v6 : Hd) (x : Int) (r : Nat) (hl : loopO (fun (s : Int) => F14_s1 x1 x2 x3 l4 s) x = some r) (q0 : Nat.beq r 0 = true) : AWp Try.prog (.loop (codeOf Try.prog 14 [1, 1, 1, 0, 1, 0, 0])) (Ends1 .ret (F14_x1_0 h x1 x2 x3 v4 v5 v6 r)) ((fun (s : Int) => (F14_h1 h x1 x2 x3 l4 v4 v5 v6 s)) x) := by
  have k := loop_fun (P := Try.prog) (c := (codeOf Try.prog 14 [1, 1, 1, 0, 1, 0, 0])) (step := (fun (s : Int) => F14_s1 x1 x2 x3 l4 s)) (hd := (fun (s : Int) => (F14_h1 h x1 x2 x3 l4 v4 v5 v6 s))) (X := (F14_x1 h x1 x2 x3 v4 v5 v6)) (by intro t; unfold F14_x1; cases Nat.beq t 0 <;> (intro h; cases h)) (fun x => F14_r1 h x1 x2 x3 l4 v4 hv4 v5 v6 x) hl
  simp only [F14_x1, q0, cond_true, cond_false] at k
  exact k
theorem F14_l1_1 (h : AHeap) (x1 : Int) (x2 : Int) (x3 : Bool) (l4 : List (Int × Int × Int × Int)) (v4 : Hd) (hv4 : SlE E57 4 h (sv v4) l4) (v5 : Hd) (v6 : Hd) (x : Int) (r : Nat) (hl : loopO (fun (s : Int) => F14_s1 x1 x2 x3 l4 s) x = some r) (q0 : Nat.beq r 0 = false) : AWp Try.prog (.loop (codeOf Try.prog 14 [1, 1, 1, 0, 1, 0, 0])) (Ends1 (.exit 0) (F14_x1_1 h x1 x2 x3 v4 v5 v6 r)) ((fun (s : Int) => (F14_h1 h x1 x2 x3 l4 v4 v5 v6 s)) x) := by
  have k := loop_fun (P := Try.prog) (c := (codeOf Try.prog 14 [1, 1, 1, 0, 1, 0, 0])) (step := (fun (s : Int) => F14_s1 x1 x2 x3 l4 s)) (hd := (fun (s : Int) => (F14_h1 h x1 x2 x3 l4 v4 v5 v6 s))) (X := (F14_x1 h x1 x2 x3 v4 v5 v6)) (by intro t; unfold F14_x1; cases Nat.beq t 0 <;> (intro h; cases h)) (fun x => F14_r1 h x1 x2 x3 l4 v4 hv4 v5 v6 x) hl
  simp only [F14_x1, q0, cond_true, cond_false] at k
  exact k
def F14_m2_2 : List Bool := (true :: false :: true :: false :: (rp 271 true []))
def F14_m2_1 : List Bool := (true :: false :: true :: false :: (rp 112 true (false :: false :: (rp 157 true []))))
def F14_m2_0 : List Bool := (true :: true :: false :: (rp 272 true []))
def F14_s2 (x1 : Int) (x2 : Int) (x3 : Bool) (l4 : List (Int × Int × Int × Int)) (l5 : List (Int × Int × Int × Int)) (l6 : List (Int × Int)) (a28 : Int) : Option (Int ⊕ Nat) :=
  (bif (F14__3 x1 x2 a28) then
   (bif decide (a28 ≥ (F28 x1 x2 x3 l4 l5 l6)) then
    (Option.bind (at? l4 a28) fun y32 =>
    (bif (F14__4 x1 x2 x3 l4 l5 l6 a28 y32) then
     some (.inr 0)
    else
     some (.inl (IntKind.i64.wrap (a28 + 1)))))
   else
    (Option.bind (at? l4 a28) fun y35 =>
    (bif (F14__5 x1 x2 x3 l4 l5 l6 a28 y35) then
     some (.inr 0)
    else
     some (.inl (IntKind.i64.wrap (a28 + 1))))))
  else
   some (.inr 1))
def F14_h2 (h : AHeap) (x1 : Int) (x2 : Int) (x3 : Bool) (v4 : Hd) (v5 : Hd) (v6 : Hd)  (a28 : Int) : AS := ⟨(junk :: (.pointer (some ⟨1, 0, none⟩)) :: junk :: (.int .i64 (IntKind.i64.wrap ((IntKind.i64.wrap (x1 + x2)) + 2))) :: (rp 112 junk ((.int .i64 (IntKind.i64.wrap ((IntKind.i64.wrap ((IntKind.i64.wrap (x1 + x2)) + 2)) - 1))) :: (.int .i64 a28) :: (rp 157 junk [])))), [(1, [.int .i64 x1, .int .i64 x2, .bool x3, (sv v4), (sv v5), (sv v6)])], h⟩
theorem F14_d2 : drawsOk F14_D (codeOf Try.prog 14 [1, 1, 1, 1, 1, 0, 1, 0, 0]) = true := by kernel_rfl
def F14_x2_0 (h : AHeap) (x1 : Int) (x2 : Int) (x3 : Bool) (v4 : Hd) (v5 : Hd) (v6 : Hd)  (r : Nat) : AS := ⟨(junk :: junk :: (.bool false) :: (rp 272 junk [])), [], h⟩
def F14_x2_1 (h : AHeap) (x1 : Int) (x2 : Int) (x3 : Bool) (v4 : Hd) (v5 : Hd) (v6 : Hd)  (r : Nat) : AS := ⟨(junk :: (.pointer (some ⟨1, 0, none⟩)) :: junk :: (.int .i64 (IntKind.i64.wrap ((IntKind.i64.wrap (x1 + x2)) + 2))) :: (rp 271 junk [])), [(1, [.int .i64 x1, .int .i64 x2, .bool x3, (sv v4), (sv v5), (sv v6)])], h⟩
def F14_x2 (h : AHeap) (x1 : Int) (x2 : Int) (x3 : Bool) (v4 : Hd) (v5 : Hd) (v6 : Hd) (r : Nat) : Exit × AS := (bif Nat.beq r 0 then (.ret, (F14_x2_0 h x1 x2 x3 v4 v5 v6 r)) else ((.exit 2), (F14_x2_1 h x1 x2 x3 v4 v5 v6 r)))
set_option maxRecDepth 100000 in
theorem F14_r2 (h : AHeap) (x1 : Int) (x2 : Int) (x3 : Bool) (l4 : List (Int × Int × Int × Int)) (v4 : Hd) (hv4 : SlE E57 4 h (sv v4) l4) (l5 : List (Int × Int × Int × Int)) (v5 : Hd) (hv5 : SlE E59 4 h (sv v5) l5) (l6 : List (Int × Int)) (v6 : Hd) (hv6 : SlE E61 2 h (sv v6) l6) (a28 : Int) (o : Int ⊕ Nat) : F14_s2 x1 x2 x3 l4 l5 l6 a28 = some o → RdF Try.prog (codeOf Try.prog 14 [1, 1, 1, 1, 1, 0, 1, 0, 0]) (fun (s : Int) => (F14_h2 h x1 x2 x3 v4 v5 v6 s)) (F14_x2 h x1 x2 x3 v4 v5 v6) (F14_h2 h x1 x2 x3 v4 v5 v6 a28) o := by
  unfold F14_s2
  refine dec_bif (fun c29 => ?_) (fun c29 => ?_)
  · have kc31 := (ai (F28_spec x1 x2 x3 l4 l5 l6 v4 v5 v6 h hv4 hv5 hv6 _ rfl) (ai c29 trivial))
    refine dec_bif (fun c31 => ?_) (fun c31 => ?_)
    · refine bind_opt fun y32 e32 => ?_
      obtain ⟨id32, off32, g32, cs32, ix32, at32, rfl⟩ := SlE.at hv4 e32
      have kc34 := (ai (show aggEq Try.prog 57 #[.int .i64 y32.1, .int .i64 y32.2.1, .int .i64 y32.2.2.1, .int .i64 y32.2.2.2] #[.int .i64 (F28 x1 x2 x3 l4 l5 l6), .int .i64 (IntKind.i64.wrap (a28 + 1)), .int .i64 0, .int .i64 0] = some ((y32.1 == (F28 x1 x2 x3 l4 l5 l6)) && ((y32.2.1 == (IntKind.i64.wrap (a28 + 1))) && ((y32.2.2.1 == 0) && ((y32.2.2.2 == 0) && true)))) by kernel_rfl) (ai (show AKeep h h from (AHeap.sub_refl h)) (ai (F28_spec x1 x2 x3 l4 l5 l6 v4 v5 v6 h hv4 hv5 hv6 _ rfl) (ai (At.agg (P := Try.prog) (t := 57) (v := .agg #[.int .i64 y32.1, .int .i64 y32.2.1, .int .i64 y32.2.2.1, .int .i64 y32.2.2.2]) (m := 4) at32 (by kernel_rfl) (by kernel_rfl) 0 (by kernel_rfl) rfl) (ai ix32 (ai c31 kc31))))))
      refine dec_bif (fun c34 => ?_) (fun c34 => ?_)
      · intro hr
        obtain rfl := Option.some.inj hr
        show AWp Try.prog _ (Ends1 ((F14_x2 h x1 x2 x3 v4 v5 v6) (0 : Nat)).1 ((F14_x2 h x1 x2 x3 v4 v5 v6) (0 : Nat)).2) _
        exact pEnd_sound good (L := F14_L) (D := F14_D) (its := [.g, (.b true), .g, .g, .g, .g, .g, .g, (.c (.int .i64 (F28 x1 x2 x3 l4 l5 l6)) h), .g, (.b true), .g, .g, .g, .g, .g, .g, .g, .g, (.ix id32 off32 g32), (.ld (.agg #[.int .i64 y32.1, .int .i64 y32.2.1, .int .i64 y32.2.2.1, .int .i64 y32.2.2.2])), (.c (.int .i64 (F28 x1 x2 x3 l4 l5 l6)) h), .g, (.eq ((y32.1 == (F28 x1 x2 x3 l4 l5 l6)) && ((y32.2.1 == (IntKind.i64.wrap (a28 + 1))) && ((y32.2.2.1 == 0) && ((y32.2.2.2 == 0) && true))))), (.b true), .g]) (ds := F14_m2_0) (ks := [1]) (e := ((F14_x2 h x1 x2 x3 v4 v5 v6) (0 : Nat)).1) (s2 := ((F14_x2 h x1 x2 x3 v4 v5 v6) (0 : Nat)).2) (hC := (ai c34 kc34)) (hd := F14_d2) (h := by kernel_rfl)
      · intro hr
        obtain rfl := Option.some.inj hr
        show AWp Try.prog _ (Ends1 .normal (F14_h2 h x1 x2 x3 v4 v5 v6 (IntKind.i64.wrap (a28 + 1)))) _
        exact pEnd_sound good (L := F14_L) (D := F14_D) (its := [.g, (.b true), .g, .g, .g, .g, .g, .g, (.c (.int .i64 (F28 x1 x2 x3 l4 l5 l6)) h), .g, (.b true), .g, .g, .g, .g, .g, .g, .g, .g, (.ix id32 off32 g32), (.ld (.agg #[.int .i64 y32.1, .int .i64 y32.2.1, .int .i64 y32.2.2.1, .int .i64 y32.2.2.2])), (.c (.int .i64 (F28 x1 x2 x3 l4 l5 l6)) h), .g, (.eq ((y32.1 == (F28 x1 x2 x3 l4 l5 l6)) && ((y32.2.1 == (IntKind.i64.wrap (a28 + 1))) && ((y32.2.2.1 == 0) && ((y32.2.2.2 == 0) && true))))), (.b false), .g, .g]) (ds := F14_m2_1) (ks := []) (e := .normal) (s2 := (F14_h2 h x1 x2 x3 v4 v5 v6 (IntKind.i64.wrap (a28 + 1)))) (hC := (ai c34 kc34)) (hd := F14_d2) (h := by kernel_rfl)
    · refine bind_opt fun y35 e35 => ?_
      obtain ⟨id35, off35, g35, cs35, ix35, at35, rfl⟩ := SlE.at hv4 e35
      have kc37 := (ai (show aggEq Try.prog 57 #[.int .i64 y35.1, .int .i64 y35.2.1, .int .i64 y35.2.2.1, .int .i64 y35.2.2.2] #[.int .i64 (F28 x1 x2 x3 l4 l5 l6), .int .i64 a28, .int .i64 0, .int .i64 0] = some ((y35.1 == (F28 x1 x2 x3 l4 l5 l6)) && ((y35.2.1 == a28) && ((y35.2.2.1 == 0) && ((y35.2.2.2 == 0) && true)))) by kernel_rfl) (ai (show AKeep h h from (AHeap.sub_refl h)) (ai (F28_spec x1 x2 x3 l4 l5 l6 v4 v5 v6 h hv4 hv5 hv6 _ rfl) (ai (At.agg (P := Try.prog) (t := 57) (v := .agg #[.int .i64 y35.1, .int .i64 y35.2.1, .int .i64 y35.2.2.1, .int .i64 y35.2.2.2]) (m := 4) at35 (by kernel_rfl) (by kernel_rfl) 0 (by kernel_rfl) rfl) (ai ix35 (ai c31 kc31))))))
      refine dec_bif (fun c37 => ?_) (fun c37 => ?_)
      · intro hr
        obtain rfl := Option.some.inj hr
        show AWp Try.prog _ (Ends1 ((F14_x2 h x1 x2 x3 v4 v5 v6) (0 : Nat)).1 ((F14_x2 h x1 x2 x3 v4 v5 v6) (0 : Nat)).2) _
        exact pEnd_sound good (L := F14_L) (D := F14_D) (its := [.g, (.b true), .g, .g, .g, .g, .g, .g, (.c (.int .i64 (F28 x1 x2 x3 l4 l5 l6)) h), .g, (.b false), .g, .g, .g, .g, .g, (.ix id35 off35 g35), (.ld (.agg #[.int .i64 y35.1, .int .i64 y35.2.1, .int .i64 y35.2.2.1, .int .i64 y35.2.2.2])), (.c (.int .i64 (F28 x1 x2 x3 l4 l5 l6)) h), .g, (.eq ((y35.1 == (F28 x1 x2 x3 l4 l5 l6)) && ((y35.2.1 == a28) && ((y35.2.2.1 == 0) && ((y35.2.2.2 == 0) && true))))), (.b true), .g]) (ds := F14_m2_0) (ks := [1]) (e := ((F14_x2 h x1 x2 x3 v4 v5 v6) (0 : Nat)).1) (s2 := ((F14_x2 h x1 x2 x3 v4 v5 v6) (0 : Nat)).2) (hC := (ai c37 kc37)) (hd := F14_d2) (h := by kernel_rfl)
      · intro hr
        obtain rfl := Option.some.inj hr
        show AWp Try.prog _ (Ends1 .normal (F14_h2 h x1 x2 x3 v4 v5 v6 (IntKind.i64.wrap (a28 + 1)))) _
        exact pEnd_sound good (L := F14_L) (D := F14_D) (its := [.g, (.b true), .g, .g, .g, .g, .g, .g, (.c (.int .i64 (F28 x1 x2 x3 l4 l5 l6)) h), .g, (.b false), .g, .g, .g, .g, .g, (.ix id35 off35 g35), (.ld (.agg #[.int .i64 y35.1, .int .i64 y35.2.1, .int .i64 y35.2.2.1, .int .i64 y35.2.2.2])), (.c (.int .i64 (F28 x1 x2 x3 l4 l5 l6)) h), .g, (.eq ((y35.1 == (F28 x1 x2 x3 l4 l5 l6)) && ((y35.2.1 == a28) && ((y35.2.2.1 == 0) && ((y35.2.2.2 == 0) && true))))), (.b false), .g, .g]) (ds := F14_m2_1) (ks := []) (e := .normal) (s2 := (F14_h2 h x1 x2 x3 v4 v5 v6 (IntKind.i64.wrap (a28 + 1)))) (hC := (ai c37 kc37)) (hd := F14_d2) (h := by kernel_rfl)
  · intro hr
    obtain rfl := Option.some.inj hr
    show AWp Try.prog _ (Ends1 ((F14_x2 h x1 x2 x3 v4 v5 v6) (1 : Nat)).1 ((F14_x2 h x1 x2 x3 v4 v5 v6) (1 : Nat)).2) _
    exact pEnd_sound good (L := F14_L) (D := F14_D) (its := [.g, (.b false)]) (ds := F14_m2_2) (ks := []) (e := ((F14_x2 h x1 x2 x3 v4 v5 v6) (1 : Nat)).1) (s2 := ((F14_x2 h x1 x2 x3 v4 v5 v6) (1 : Nat)).2) (hC := (ai c29 trivial)) (hd := F14_d2) (h := by kernel_rfl)
theorem F14_l2_0 (h : AHeap) (x1 : Int) (x2 : Int) (x3 : Bool) (l4 : List (Int × Int × Int × Int)) (v4 : Hd) (hv4 : SlE E57 4 h (sv v4) l4) (l5 : List (Int × Int × Int × Int)) (v5 : Hd) (hv5 : SlE E59 4 h (sv v5) l5) (l6 : List (Int × Int)) (v6 : Hd) (hv6 : SlE E61 2 h (sv v6) l6) (x : Int) (r : Nat) (hl : loopO (fun (s : Int) => F14_s2 x1 x2 x3 l4 l5 l6 s) x = some r) (q0 : Nat.beq r 0 = true) : AWp Try.prog (.loop (codeOf Try.prog 14 [1, 1, 1, 1, 1, 0, 1, 0, 0])) (Ends1 .ret (F14_x2_0 h x1 x2 x3 v4 v5 v6 r)) ((fun (s : Int) => (F14_h2 h x1 x2 x3 v4 v5 v6 s)) x) := by
  have k := loop_fun (P := Try.prog) (c := (codeOf Try.prog 14 [1, 1, 1, 1, 1, 0, 1, 0, 0])) (step := (fun (s : Int) => F14_s2 x1 x2 x3 l4 l5 l6 s)) (hd := (fun (s : Int) => (F14_h2 h x1 x2 x3 v4 v5 v6 s))) (X := (F14_x2 h x1 x2 x3 v4 v5 v6)) (by intro t; unfold F14_x2; cases Nat.beq t 0 <;> (intro h; cases h)) (fun x => F14_r2 h x1 x2 x3 l4 v4 hv4 l5 v5 hv5 l6 v6 hv6 x) hl
  simp only [F14_x2, q0, cond_true, cond_false] at k
  exact k
theorem F14_l2_1 (h : AHeap) (x1 : Int) (x2 : Int) (x3 : Bool) (l4 : List (Int × Int × Int × Int)) (v4 : Hd) (hv4 : SlE E57 4 h (sv v4) l4) (l5 : List (Int × Int × Int × Int)) (v5 : Hd) (hv5 : SlE E59 4 h (sv v5) l5) (l6 : List (Int × Int)) (v6 : Hd) (hv6 : SlE E61 2 h (sv v6) l6) (x : Int) (r : Nat) (hl : loopO (fun (s : Int) => F14_s2 x1 x2 x3 l4 l5 l6 s) x = some r) (q0 : Nat.beq r 0 = false) : AWp Try.prog (.loop (codeOf Try.prog 14 [1, 1, 1, 1, 1, 0, 1, 0, 0])) (Ends1 (.exit 2) (F14_x2_1 h x1 x2 x3 v4 v5 v6 r)) ((fun (s : Int) => (F14_h2 h x1 x2 x3 v4 v5 v6 s)) x) := by
  have k := loop_fun (P := Try.prog) (c := (codeOf Try.prog 14 [1, 1, 1, 1, 1, 0, 1, 0, 0])) (step := (fun (s : Int) => F14_s2 x1 x2 x3 l4 l5 l6 s)) (hd := (fun (s : Int) => (F14_h2 h x1 x2 x3 v4 v5 v6 s))) (X := (F14_x2 h x1 x2 x3 v4 v5 v6)) (by intro t; unfold F14_x2; cases Nat.beq t 0 <;> (intro h; cases h)) (fun x => F14_r2 h x1 x2 x3 l4 v4 hv4 l5 v5 hv5 l6 v6 hv6 x) hl
  simp only [F14_x2, q0, cond_true, cond_false] at k
  exact k
def F14_m3_2 : List Bool := (true :: false :: true :: false :: (rp 271 true []))
def F14_m3_1 : List Bool := (true :: false :: true :: false :: (rp 136 true (false :: false :: (rp 133 true []))))
def F14_m3_0 : List Bool := (true :: true :: false :: (rp 272 true []))
def F14_s3 (l5 : List (Int × Int × Int × Int)) (a40 : Int) : Option (Int ⊕ Nat) :=
  (bif decide (a40 < (l5.length : Int)) then
   (Option.bind (at? l5 a40) fun y42 =>
   (bif decide (y42.1 < 1) then
    some (.inr 0)
   else
    (bif decide (y42.1 > 4) then
     some (.inr 0)
    else
     (bif decide (y42.2.2.2 < 1) then
      some (.inr 0)
     else
      (bif decide (y42.2.2.2 > 1024) then
       some (.inr 0)
      else
       some (.inl (IntKind.i64.wrap (a40 + 1))))))))
  else
   some (.inr 1))
def F14_h3 (h : AHeap) (x1 : Int) (x2 : Int) (x3 : Bool) (v4 : Hd) (l5 : List (Int × Int × Int × Int)) (v5 : Hd) (v6 : Hd)  (a40 : Int) : AS := ⟨(junk :: (.pointer (some ⟨1, 0, none⟩)) :: junk :: (.int .i64 (IntKind.i64.wrap ((IntKind.i64.wrap (x1 + x2)) + 2))) :: (rp 136 junk ((.int .i64 (l5.length : Int)) :: (.int .i64 a40) :: (rp 133 junk [])))), [(1, [.int .i64 x1, .int .i64 x2, .bool x3, (sv v4), (sv v5), (sv v6)])], h⟩
theorem F14_d3 : drawsOk F14_D (codeOf Try.prog 14 [1, 1, 1, 1, 1, 1, 0, 1, 0, 0]) = true := by kernel_rfl
def F14_x3_0 (h : AHeap) (x1 : Int) (x2 : Int) (x3 : Bool) (v4 : Hd) (v5 : Hd) (v6 : Hd)  (r : Nat) : AS := ⟨(junk :: junk :: (.bool false) :: (rp 272 junk [])), [], h⟩
def F14_x3_1 (h : AHeap) (x1 : Int) (x2 : Int) (x3 : Bool) (v4 : Hd) (v5 : Hd) (v6 : Hd)  (r : Nat) : AS := ⟨(junk :: (.pointer (some ⟨1, 0, none⟩)) :: junk :: (.int .i64 (IntKind.i64.wrap ((IntKind.i64.wrap (x1 + x2)) + 2))) :: (rp 271 junk [])), [(1, [.int .i64 x1, .int .i64 x2, .bool x3, (sv v4), (sv v5), (sv v6)])], h⟩
def F14_x3 (h : AHeap) (x1 : Int) (x2 : Int) (x3 : Bool) (v4 : Hd) (v5 : Hd) (v6 : Hd) (r : Nat) : Exit × AS := (bif Nat.beq r 0 then (.ret, (F14_x3_0 h x1 x2 x3 v4 v5 v6 r)) else ((.exit 4), (F14_x3_1 h x1 x2 x3 v4 v5 v6 r)))
set_option maxRecDepth 100000 in
theorem F14_r3 (h : AHeap) (x1 : Int) (x2 : Int) (x3 : Bool) (v4 : Hd) (l5 : List (Int × Int × Int × Int)) (v5 : Hd) (hv5 : SlE E59 4 h (sv v5) l5) (v6 : Hd) (a40 : Int) (o : Int ⊕ Nat) : F14_s3 l5 a40 = some o → RdF Try.prog (codeOf Try.prog 14 [1, 1, 1, 1, 1, 1, 0, 1, 0, 0]) (fun (s : Int) => (F14_h3 h x1 x2 x3 v4 l5 v5 v6 s)) (F14_x3 h x1 x2 x3 v4 v5 v6) (F14_h3 h x1 x2 x3 v4 l5 v5 v6 a40) o := by
  unfold F14_s3
  refine dec_bif (fun c41 => ?_) (fun c41 => ?_)
  · refine bind_opt fun y42 e42 => ?_
    obtain ⟨id42, off42, g42, cs42, ix42, at42, rfl⟩ := SlE.at hv5 e42
    have kc43 := (ai (At.one (P := Try.prog) (t := 3) (v := .int .i64 y42.1) at42 (by kernel_rfl) 0 rfl rfl) (ai ix42 (ai c41 trivial)))
    refine dec_bif (fun c43 => ?_) (fun c43 => ?_)
    · intro hr
      obtain rfl := Option.some.inj hr
      show AWp Try.prog _ (Ends1 ((F14_x3 h x1 x2 x3 v4 v5 v6) (0 : Nat)).1 ((F14_x3 h x1 x2 x3 v4 v5 v6) (0 : Nat)).2) _
      exact pEnd_sound good (L := F14_L) (D := F14_D) (its := [.g, (.b true), .g, .g, .g, .g, .g, (.ix id42 off42 g42), .g, (.ld (.int .i64 y42.1)), .g, .g, .n, .n, .n, .n, .n, .n, .n, (.p true), .g, .n, .n, .n, .n, .n, .n, .n, .g, .g, .n, .n, .n, .n, .n, .n, .n, .g, (.b true), .g]) (ds := F14_m3_0) (ks := [1]) (e := ((F14_x3 h x1 x2 x3 v4 v5 v6) (0 : Nat)).1) (s2 := ((F14_x3 h x1 x2 x3 v4 v5 v6) (0 : Nat)).2) (hC := (ai l_t (ai (g_tf l_t) (ai (g_tf l_t) (ai (g_tf l_t) (ai (g_tf l_t) (ai (g_tf l_t) (ai (g_tf l_t) (ai (g_tf l_t) (ai (g_tf l_t) (ai (g_tf l_t) (ai (g_tf l_t) (ai (g_tf l_t) (ai (g_tf l_t) (ai (g_tf l_t) (ai (g_tf l_t) (ai c43 (ai (g_tf c43) (ai (g_tf c43) (ai (g_tf c43) (ai (g_tf c43) (ai (g_tf c43) (ai (g_tf c43) (ai (g_tf c43) kc43)))))))))))))))))))))))) (hd := F14_d3) (h := by kernel_rfl)
    · have kc44 := (ai c43 (ai (g_ff c43) (ai (At.one (P := Try.prog) (t := 3) (v := .int .i64 y42.1) at42 (by kernel_rfl) 0 rfl rfl) (ai (g_ff c43) (ai (g_ff c43) (ai ix42 (ai (g_ff c43) (ai (g_ff c43) (ai (g_ff c43) (ai (g_ff c43) kc43))))))))))
      refine dec_bif (fun c44 => ?_) (fun c44 => ?_)
      · intro hr
        obtain rfl := Option.some.inj hr
        show AWp Try.prog _ (Ends1 ((F14_x3 h x1 x2 x3 v4 v5 v6) (0 : Nat)).1 ((F14_x3 h x1 x2 x3 v4 v5 v6) (0 : Nat)).2) _
        exact pEnd_sound good (L := F14_L) (D := F14_D) (its := [.g, (.b true), .g, .g, .g, .g, .g, (.ix id42 off42 g42), .g, (.ld (.int .i64 y42.1)), .g, .g, (.w .g), (.w .g), (.w .g), (.w (.ix id42 off42 g42)), (.w .g), (.w (.ld (.int .i64 y42.1))), (.w .g), (.p false), .g, .n, .n, .n, .n, .n, .n, .n, (.p true), .g, .n, .n, .n, .n, .n, .n, .n, .g, (.b true), .g]) (ds := F14_m3_0) (ks := [1]) (e := ((F14_x3 h x1 x2 x3 v4 v5 v6) (0 : Nat)).1) (s2 := ((F14_x3 h x1 x2 x3 v4 v5 v6) (0 : Nat)).2) (hC := (ai l_t (ai (g_tf l_t) (ai (g_tf l_t) (ai (g_tf l_t) (ai (g_tf l_t) (ai (g_tf l_t) (ai (g_tf l_t) (ai (g_tf l_t) (ai c44 (ai (g_tf c44) (ai (g_tf c44) (ai (g_tf c44) (ai (g_tf c44) (ai (g_tf c44) (ai (g_tf c44) (ai (g_tf c44) kc44))))))))))))))))) (hd := F14_d3) (h := by kernel_rfl)
      · have kc45 := (ai c44 (ai (g_ff c44) (ai (At.one (P := Try.prog) (t := 3) (v := .int .i64 y42.2.2.2) at42 (by kernel_rfl) 3 rfl rfl) (ai (g_ff c44) (ai (g_ff c44) (ai ix42 (ai (g_ff c44) (ai (g_ff c44) (ai (g_ff c44) (ai (g_ff c44) kc44))))))))))
        refine dec_bif (fun c45 => ?_) (fun c45 => ?_)
        · intro hr
          obtain rfl := Option.some.inj hr
          show AWp Try.prog _ (Ends1 ((F14_x3 h x1 x2 x3 v4 v5 v6) (0 : Nat)).1 ((F14_x3 h x1 x2 x3 v4 v5 v6) (0 : Nat)).2) _
          exact pEnd_sound good (L := F14_L) (D := F14_D) (its := [.g, (.b true), .g, .g, .g, .g, .g, (.ix id42 off42 g42), .g, (.ld (.int .i64 y42.1)), .g, .g, (.w .g), (.w .g), (.w .g), (.w (.ix id42 off42 g42)), (.w .g), (.w (.ld (.int .i64 y42.1))), (.w .g), (.p false), .g, (.w .g), (.w .g), (.w .g), (.w (.ix id42 off42 g42)), (.w .g), (.w (.ld (.int .i64 y42.2.2.2))), (.w .g), (.p false), .g, .n, .n, .n, .n, .n, .n, .n, (.p true), (.b true), .g]) (ds := F14_m3_0) (ks := [1]) (e := ((F14_x3 h x1 x2 x3 v4 v5 v6) (0 : Nat)).1) (s2 := ((F14_x3 h x1 x2 x3 v4 v5 v6) (0 : Nat)).2) (hC := (ai l_t (ai c45 (ai (g_tf c45) (ai (g_tf c45) (ai (g_tf c45) (ai (g_tf c45) (ai (g_tf c45) (ai (g_tf c45) (ai (g_tf c45) kc45)))))))))) (hd := F14_d3) (h := by kernel_rfl)
        · have kc46 := (ai c45 (ai (g_ff c45) (ai (At.one (P := Try.prog) (t := 3) (v := .int .i64 y42.2.2.2) at42 (by kernel_rfl) 3 rfl rfl) (ai (g_ff c45) (ai (g_ff c45) (ai ix42 (ai (g_ff c45) (ai (g_ff c45) (ai (g_ff c45) (ai (g_ff c45) kc45))))))))))
          refine dec_bif (fun c46 => ?_) (fun c46 => ?_)
          · intro hr
            obtain rfl := Option.some.inj hr
            show AWp Try.prog _ (Ends1 ((F14_x3 h x1 x2 x3 v4 v5 v6) (0 : Nat)).1 ((F14_x3 h x1 x2 x3 v4 v5 v6) (0 : Nat)).2) _
            exact pEnd_sound good (L := F14_L) (D := F14_D) (its := [.g, (.b true), .g, .g, .g, .g, .g, (.ix id42 off42 g42), .g, (.ld (.int .i64 y42.1)), .g, .g, (.w .g), (.w .g), (.w .g), (.w (.ix id42 off42 g42)), (.w .g), (.w (.ld (.int .i64 y42.1))), (.w .g), (.p false), .g, (.w .g), (.w .g), (.w .g), (.w (.ix id42 off42 g42)), (.w .g), (.w (.ld (.int .i64 y42.2.2.2))), (.w .g), (.p false), .g, (.w .g), (.w .g), (.w .g), (.w (.ix id42 off42 g42)), (.w .g), (.w (.ld (.int .i64 y42.2.2.2))), (.w .g), (.p false), (.b true), .g]) (ds := F14_m3_0) (ks := [1]) (e := ((F14_x3 h x1 x2 x3 v4 v5 v6) (0 : Nat)).1) (s2 := ((F14_x3 h x1 x2 x3 v4 v5 v6) (0 : Nat)).2) (hC := (ai c46 kc46)) (hd := F14_d3) (h := by kernel_rfl)
          · intro hr
            obtain rfl := Option.some.inj hr
            show AWp Try.prog _ (Ends1 .normal (F14_h3 h x1 x2 x3 v4 l5 v5 v6 (IntKind.i64.wrap (a40 + 1)))) _
            exact pEnd_sound good (L := F14_L) (D := F14_D) (its := [.g, (.b true), .g, .g, .g, .g, .g, (.ix id42 off42 g42), .g, (.ld (.int .i64 y42.1)), .g, .g, (.w .g), (.w .g), (.w .g), (.w (.ix id42 off42 g42)), (.w .g), (.w (.ld (.int .i64 y42.1))), (.w .g), (.p false), .g, (.w .g), (.w .g), (.w .g), (.w (.ix id42 off42 g42)), (.w .g), (.w (.ld (.int .i64 y42.2.2.2))), (.w .g), (.p false), .g, (.w .g), (.w .g), (.w .g), (.w (.ix id42 off42 g42)), (.w .g), (.w (.ld (.int .i64 y42.2.2.2))), (.w .g), (.p false), (.b false), .g, .g]) (ds := F14_m3_1) (ks := []) (e := .normal) (s2 := (F14_h3 h x1 x2 x3 v4 l5 v5 v6 (IntKind.i64.wrap (a40 + 1)))) (hC := (ai c46 kc46)) (hd := F14_d3) (h := by kernel_rfl)
  · intro hr
    obtain rfl := Option.some.inj hr
    show AWp Try.prog _ (Ends1 ((F14_x3 h x1 x2 x3 v4 v5 v6) (1 : Nat)).1 ((F14_x3 h x1 x2 x3 v4 v5 v6) (1 : Nat)).2) _
    exact pEnd_sound good (L := F14_L) (D := F14_D) (its := [.g, (.b false)]) (ds := F14_m3_2) (ks := []) (e := ((F14_x3 h x1 x2 x3 v4 v5 v6) (1 : Nat)).1) (s2 := ((F14_x3 h x1 x2 x3 v4 v5 v6) (1 : Nat)).2) (hC := (ai c41 trivial)) (hd := F14_d3) (h := by kernel_rfl)
theorem F14_l3_0 (h : AHeap) (x1 : Int) (x2 : Int) (x3 : Bool) (v4 : Hd) (l5 : List (Int × Int × Int × Int)) (v5 : Hd) (hv5 : SlE E59 4 h (sv v5) l5) (v6 : Hd) (x : Int) (r : Nat) (hl : loopO (fun (s : Int) => F14_s3 l5 s) x = some r) (q0 : Nat.beq r 0 = true) : AWp Try.prog (.loop (codeOf Try.prog 14 [1, 1, 1, 1, 1, 1, 0, 1, 0, 0])) (Ends1 .ret (F14_x3_0 h x1 x2 x3 v4 v5 v6 r)) ((fun (s : Int) => (F14_h3 h x1 x2 x3 v4 l5 v5 v6 s)) x) := by
  have k := loop_fun (P := Try.prog) (c := (codeOf Try.prog 14 [1, 1, 1, 1, 1, 1, 0, 1, 0, 0])) (step := (fun (s : Int) => F14_s3 l5 s)) (hd := (fun (s : Int) => (F14_h3 h x1 x2 x3 v4 l5 v5 v6 s))) (X := (F14_x3 h x1 x2 x3 v4 v5 v6)) (by intro t; unfold F14_x3; cases Nat.beq t 0 <;> (intro h; cases h)) (fun x => F14_r3 h x1 x2 x3 v4 l5 v5 hv5 v6 x) hl
  simp only [F14_x3, q0, cond_true, cond_false] at k
  exact k
theorem F14_l3_1 (h : AHeap) (x1 : Int) (x2 : Int) (x3 : Bool) (v4 : Hd) (l5 : List (Int × Int × Int × Int)) (v5 : Hd) (hv5 : SlE E59 4 h (sv v5) l5) (v6 : Hd) (x : Int) (r : Nat) (hl : loopO (fun (s : Int) => F14_s3 l5 s) x = some r) (q0 : Nat.beq r 0 = false) : AWp Try.prog (.loop (codeOf Try.prog 14 [1, 1, 1, 1, 1, 1, 0, 1, 0, 0])) (Ends1 (.exit 4) (F14_x3_1 h x1 x2 x3 v4 v5 v6 r)) ((fun (s : Int) => (F14_h3 h x1 x2 x3 v4 l5 v5 v6 s)) x) := by
  have k := loop_fun (P := Try.prog) (c := (codeOf Try.prog 14 [1, 1, 1, 1, 1, 1, 0, 1, 0, 0])) (step := (fun (s : Int) => F14_s3 l5 s)) (hd := (fun (s : Int) => (F14_h3 h x1 x2 x3 v4 l5 v5 v6 s))) (X := (F14_x3 h x1 x2 x3 v4 v5 v6)) (by intro t; unfold F14_x3; cases Nat.beq t 0 <;> (intro h; cases h)) (fun x => F14_r3 h x1 x2 x3 v4 l5 v5 hv5 v6 x) hl
  simp only [F14_x3, q0, cond_true, cond_false] at k
  exact k
def F14_m4_2 : List Bool := (true :: false :: (rp 273 true []))
def F14_m4_1 : List Bool := (true :: false :: true :: false :: (rp 176 true (false :: false :: (rp 93 true []))))
def F14_m4_0 : List Bool := (true :: true :: false :: (rp 272 true []))
def F14_s4 (x1 : Int) (x2 : Int) (x3 : Bool) (l4 : List (Int × Int × Int × Int)) (l5 : List (Int × Int × Int × Int)) (l6 : List (Int × Int)) (a49 : Int) : Option (Int ⊕ Nat) :=
  (bif (F14__6 x1 x2 a49) then
   (Option.bind (at? l4 (F14__7 x1 x2 a49)) fun y51 =>
   (bif (y51.1 != a49) then
    some (.inr 0)
   else
    (bif (y51.2.1 != (F26 x1 x2 x3 l4 l5 l6)) then
     some (.inr 0)
    else
     (bif (y51.2.2.2 != 0) then
      some (.inr 0)
     else
      (bif decide (a49 < x1) then
       (Option.bind (at? l6 a49) fun y57 =>
       (bif decide (y51.2.2.1 < (if y57.2 > 1 then y57.2 else 1)) then
        some (.inr 0)
       else
        some (.inl (IntKind.i64.wrap (a49 + 1)))))
      else
       some (.inl (IntKind.i64.wrap (a49 + 1))))))))
  else
   some (.inr 1))
def F14_h4 (h : AHeap) (x1 : Int) (x2 : Int) (x3 : Bool) (v4 : Hd) (v5 : Hd) (v6 : Hd)  (a49 : Int) : AS := ⟨(junk :: (.pointer (some ⟨1, 0, none⟩)) :: junk :: (.int .i64 (IntKind.i64.wrap ((IntKind.i64.wrap (x1 + x2)) + 2))) :: (rp 176 junk ((.int .i64 (IntKind.i64.wrap ((IntKind.i64.wrap ((IntKind.i64.wrap (x1 + x2)) + 2)) - 2))) :: (.int .i64 a49) :: (rp 93 junk [])))), [(1, [.int .i64 x1, .int .i64 x2, .bool x3, (sv v4), (sv v5), (sv v6)])], h⟩
theorem F14_d4 : drawsOk F14_D (codeOf Try.prog 14 [1, 1, 1, 1, 1, 1, 1, 0, 1, 0, 0]) = true := by kernel_rfl
def F14_x4_0 (h : AHeap) (x1 : Int) (x2 : Int) (x3 : Bool) (v4 : Hd) (v5 : Hd) (v6 : Hd)  (r : Nat) : AS := ⟨(junk :: junk :: (.bool false) :: (rp 272 junk [])), [], h⟩
def F14_x4_1 (h : AHeap) (x1 : Int) (x2 : Int) (x3 : Bool) (v4 : Hd) (v5 : Hd) (v6 : Hd)  (r : Nat) : AS := ⟨(junk :: (.pointer (some ⟨1, 0, none⟩)) :: (rp 273 junk [])), [(1, [.int .i64 x1, .int .i64 x2, .bool x3, (sv v4), (sv v5), (sv v6)])], h⟩
def F14_x4 (h : AHeap) (x1 : Int) (x2 : Int) (x3 : Bool) (v4 : Hd) (v5 : Hd) (v6 : Hd) (r : Nat) : Exit × AS := (bif Nat.beq r 0 then (.ret, (F14_x4_0 h x1 x2 x3 v4 v5 v6 r)) else ((.exit 6), (F14_x4_1 h x1 x2 x3 v4 v5 v6 r)))
set_option maxRecDepth 100000 in
theorem F14_r4 (h : AHeap) (x1 : Int) (x2 : Int) (x3 : Bool) (l4 : List (Int × Int × Int × Int)) (v4 : Hd) (hv4 : SlE E57 4 h (sv v4) l4) (l5 : List (Int × Int × Int × Int)) (v5 : Hd) (hv5 : SlE E59 4 h (sv v5) l5) (l6 : List (Int × Int)) (v6 : Hd) (hv6 : SlE E61 2 h (sv v6) l6) (a49 : Int) (o : Int ⊕ Nat) : F14_s4 x1 x2 x3 l4 l5 l6 a49 = some o → RdF Try.prog (codeOf Try.prog 14 [1, 1, 1, 1, 1, 1, 1, 0, 1, 0, 0]) (fun (s : Int) => (F14_h4 h x1 x2 x3 v4 v5 v6 s)) (F14_x4 h x1 x2 x3 v4 v5 v6) (F14_h4 h x1 x2 x3 v4 v5 v6 a49) o := by
  unfold F14_s4
  refine dec_bif (fun c50 => ?_) (fun c50 => ?_)
  · refine bind_opt fun y51 e51 => ?_
    obtain ⟨id51, off51, g51, cs51, ix51, at51, rfl⟩ := SlE.at hv4 e51
    have kc52 := (ai (At.agg (P := Try.prog) (t := 57) (v := .agg #[.int .i64 y51.1, .int .i64 y51.2.1, .int .i64 y51.2.2.1, .int .i64 y51.2.2.2]) (m := 4) at51 (by kernel_rfl) (by kernel_rfl) 0 (by kernel_rfl) rfl) (ai ix51 (ai c50 trivial)))
    refine dec_bif (fun c52 => ?_) (fun c52 => ?_)
    · intro hr
      obtain rfl := Option.some.inj hr
      show AWp Try.prog _ (Ends1 ((F14_x4 h x1 x2 x3 v4 v5 v6) (0 : Nat)).1 ((F14_x4 h x1 x2 x3 v4 v5 v6) (0 : Nat)).2) _
      exact pEnd_sound good (L := F14_L) (D := F14_D) (its := [.g, (.b true), .g, .g, .g, .g, .g, .g, .g, .g, (.ix id51 off51 g51), (.ld (.agg #[.int .i64 y51.1, .int .i64 y51.2.1, .int .i64 y51.2.2.1, .int .i64 y51.2.2.2])), .g, .g, .g, .g, .g, .g, .g, .n, .n, .n, .n, .n, (.p true), .g, .n, .n, .n, .g, .g, .n, .n, .n, .n, .n, .n, .n, .n, .n, .n, .n, .n, .n, .n, .n, .n, .g, (.b true), .g]) (ds := F14_m4_0) (ks := [1, 10]) (e := ((F14_x4 h x1 x2 x3 v4 v5 v6) (0 : Nat)).1) (s2 := ((F14_x4 h x1 x2 x3 v4 v5 v6) (0 : Nat)).2) (hC := (ai l_t (ai (g_tf l_t) (ai l_f (ai l_f (ai l_f (ai l_f (ai l_f (ai l_f (ai l_f (ai l_f (ai l_f (ai l_f (ai (g_tf l_t) (ai (g_tf l_t) (ai (g_tf l_t) (ai (g_tf l_t) (ai (g_tf l_t) (ai (g_tf l_t) (ai (g_tf l_t) (ai (g_tf l_t) (ai c52 (ai (g_tf c52) (ai (g_tf c52) (ai (g_tf c52) (ai (g_tf c52) (ai (g_tf c52) kc52))))))))))))))))))))))))))) (hd := F14_d4) (h := by kernel_rfl)
    · have kc54 := (ai c52 (ai (g_ff c52) (ai (show AKeep h h from (AHeap.sub_refl h)) (ai (F26_spec x1 x2 x3 l4 l5 l6 v4 v5 v6 h hv4 hv5 hv6 _ rfl) (ai (g_ff c52) (ai (g_ff c52) (ai (g_ff c52) (ai (g_ff c52) kc52))))))))
      refine dec_bif (fun c54 => ?_) (fun c54 => ?_)
      · intro hr
        obtain rfl := Option.some.inj hr
        show AWp Try.prog _ (Ends1 ((F14_x4 h x1 x2 x3 v4 v5 v6) (0 : Nat)).1 ((F14_x4 h x1 x2 x3 v4 v5 v6) (0 : Nat)).2) _
        exact pEnd_sound good (L := F14_L) (D := F14_D) (its := [.g, (.b true), .g, .g, .g, .g, .g, .g, .g, .g, (.ix id51 off51 g51), (.ld (.agg #[.int .i64 y51.1, .int .i64 y51.2.1, .int .i64 y51.2.2.1, .int .i64 y51.2.2.2])), .g, .g, .g, .g, .g, .g, .g, (.w .g), (.w .g), (.w .g), (.w (.c (.int .i64 (F26 x1 x2 x3 l4 l5 l6)) h)), (.w .g), (.p false), .g, .n, .n, .n, (.p true), .g, .n, .n, .n, .n, .n, .n, .n, .n, .n, .n, .n, .n, .n, .n, .n, .n, .g, (.b true), .g]) (ds := F14_m4_0) (ks := [1, 10]) (e := ((F14_x4 h x1 x2 x3 v4 v5 v6) (0 : Nat)).1) (s2 := ((F14_x4 h x1 x2 x3 v4 v5 v6) (0 : Nat)).2) (hC := (ai l_t (ai (g_tf l_t) (ai l_f (ai l_f (ai l_f (ai l_f (ai l_f (ai l_f (ai l_f (ai l_f (ai l_f (ai l_f (ai (g_tf l_t) (ai (g_tf l_t) (ai (g_tf l_t) (ai (g_tf l_t) (ai (g_tf l_t) (ai c54 (ai (g_tf c54) (ai (g_tf c54) (ai (g_tf c54) kc54)))))))))))))))))))))) (hd := F14_d4) (h := by kernel_rfl)
      · have kc55 := (ai c54 (ai (g_ff c54) (ai (g_ff c54) (ai (g_ff c54) kc54))))
        refine dec_bif (fun c55 => ?_) (fun c55 => ?_)
        · intro hr
          obtain rfl := Option.some.inj hr
          show AWp Try.prog _ (Ends1 ((F14_x4 h x1 x2 x3 v4 v5 v6) (0 : Nat)).1 ((F14_x4 h x1 x2 x3 v4 v5 v6) (0 : Nat)).2) _
          exact pEnd_sound good (L := F14_L) (D := F14_D) (its := [.g, (.b true), .g, .g, .g, .g, .g, .g, .g, .g, (.ix id51 off51 g51), (.ld (.agg #[.int .i64 y51.1, .int .i64 y51.2.1, .int .i64 y51.2.2.1, .int .i64 y51.2.2.2])), .g, .g, .g, .g, .g, .g, .g, (.w .g), (.w .g), (.w .g), (.w (.c (.int .i64 (F26 x1 x2 x3 l4 l5 l6)) h)), (.w .g), (.p false), .g, (.w .g), (.w .g), (.w .g), (.p false), .g, .n, .n, .n, .n, .n, .n, .n, .n, .n, .n, .n, .n, .n, .n, .n, .n, (.p true), (.b true), .g]) (ds := F14_m4_0) (ks := [1, 10]) (e := ((F14_x4 h x1 x2 x3 v4 v5 v6) (0 : Nat)).1) (s2 := ((F14_x4 h x1 x2 x3 v4 v5 v6) (0 : Nat)).2) (hC := (ai l_t (ai c55 (ai (g_tf c55) (ai l_f (ai l_f (ai l_f (ai l_f (ai l_f (ai l_f (ai l_f (ai l_f (ai l_f (ai l_f (ai (g_tf c55) (ai (g_tf c55) (ai (g_tf c55) (ai (g_tf c55) (ai (g_tf c55) kc55))))))))))))))))))) (hd := F14_d4) (h := by kernel_rfl)
        · have kc56 := (ai (g_ff c55) (ai (g_ff c55) (ai (g_ff c55) (ai (g_ff c55) (ai (g_ff c55) kc55)))))
          refine dec_bif (fun c56 => ?_) (fun c56 => ?_)
          · refine bind_opt fun y57 e57 => ?_
            obtain ⟨id57, off57, g57, cs57, ix57, at57, rfl⟩ := SlE.at hv6 e57
            have kc58 := (ai c55 (ai c56 (ai (g_ff c55) (ai (g_tt c56) (ai (g_tt c56) (ai (At.one (P := Try.prog) (t := 3) (v := .int .i64 y57.2) at57 (by kernel_rfl) 1 rfl rfl) (ai (g_tt c56) (ai (g_tt c56) (ai ix57 (ai (g_tt c56) (ai (g_tt c56) (ai (g_tt c56) (ai (g_tt c56) (ai (g_tt c56) (ai (g_tt c56) kc56)))))))))))))))
            refine dec_bif (fun c58 => ?_) (fun c58 => ?_)
            · intro hr
              obtain rfl := Option.some.inj hr
              show AWp Try.prog _ (Ends1 ((F14_x4 h x1 x2 x3 v4 v5 v6) (0 : Nat)).1 ((F14_x4 h x1 x2 x3 v4 v5 v6) (0 : Nat)).2) _
              exact pEnd_sound good (L := F14_L) (D := F14_D) (its := [.g, (.b true), .g, .g, .g, .g, .g, .g, .g, .g, (.ix id51 off51 g51), (.ld (.agg #[.int .i64 y51.1, .int .i64 y51.2.1, .int .i64 y51.2.2.1, .int .i64 y51.2.2.2])), .g, .g, .g, .g, .g, .g, .g, (.w .g), (.w .g), (.w .g), (.w (.c (.int .i64 (F26 x1 x2 x3 l4 l5 l6)) h)), (.w .g), (.p false), .g, (.w .g), (.w .g), (.w .g), (.p false), .g, (.w .g), (.w .g), (.w .g), (.w .g), (.w .g), (.w .g), (.w .g), (.w .g), (.w .g), (.w .g), (.w (.ix id57 off57 g57)), (.w .g), (.w (.ld (.int .i64 y57.2))), (.w .g), (.w .g), (.w (.p true)), (.p false), (.b true), .g]) (ds := F14_m4_0) (ks := [1, 10]) (e := ((F14_x4 h x1 x2 x3 v4 v5 v6) (0 : Nat)).1) (s2 := ((F14_x4 h x1 x2 x3 v4 v5 v6) (0 : Nat)).2) (hC := (ai c58 kc58)) (hd := F14_d4) (h := by kernel_rfl)
            · intro hr
              obtain rfl := Option.some.inj hr
              show AWp Try.prog _ (Ends1 .normal (F14_h4 h x1 x2 x3 v4 v5 v6 (IntKind.i64.wrap (a49 + 1)))) _
              exact pEnd_sound good (L := F14_L) (D := F14_D) (its := [.g, (.b true), .g, .g, .g, .g, .g, .g, .g, .g, (.ix id51 off51 g51), (.ld (.agg #[.int .i64 y51.1, .int .i64 y51.2.1, .int .i64 y51.2.2.1, .int .i64 y51.2.2.2])), .g, .g, .g, .g, .g, .g, .g, (.w .g), (.w .g), (.w .g), (.w (.c (.int .i64 (F26 x1 x2 x3 l4 l5 l6)) h)), (.w .g), (.p false), .g, (.w .g), (.w .g), (.w .g), (.p false), .g, (.w .g), (.w .g), (.w .g), (.w .g), (.w .g), (.w .g), (.w .g), (.w .g), (.w .g), (.w .g), (.w (.ix id57 off57 g57)), (.w .g), (.w (.ld (.int .i64 y57.2))), (.w .g), (.w .g), (.w (.p true)), (.p false), (.b false), .g, .g]) (ds := F14_m4_1) (ks := [10]) (e := .normal) (s2 := (F14_h4 h x1 x2 x3 v4 v5 v6 (IntKind.i64.wrap (a49 + 1)))) (hC := (ai c58 kc58)) (hd := F14_d4) (h := by kernel_rfl)
          · intro hr
            obtain rfl := Option.some.inj hr
            show AWp Try.prog _ (Ends1 .normal (F14_h4 h x1 x2 x3 v4 v5 v6 (IntKind.i64.wrap (a49 + 1)))) _
            exact pEnd_sound good (L := F14_L) (D := F14_D) (its := [.g, (.b true), .g, .g, .g, .g, .g, .g, .g, .g, (.ix id51 off51 g51), (.ld (.agg #[.int .i64 y51.1, .int .i64 y51.2.1, .int .i64 y51.2.2.1, .int .i64 y51.2.2.2])), .g, .g, .g, .g, .g, .g, .g, (.w .g), (.w .g), (.w .g), (.w (.c (.int .i64 (F26 x1 x2 x3 l4 l5 l6)) h)), (.w .g), (.p false), .g, (.w .g), (.w .g), (.w .g), (.p false), .g, (.w .g), (.w .g), (.w .g), (.w .g), (.w .g), .n, .n, .n, .n, .n, .n, .n, .n, .n, .n, (.w (.p false)), (.p false), (.b false), .g, .g]) (ds := F14_m4_1) (ks := [10]) (e := .normal) (s2 := (F14_h4 h x1 x2 x3 v4 v5 v6 (IntKind.i64.wrap (a49 + 1)))) (hC := (ai l_f (ai c55 (ai c56 (ai (g_ff c55) (ai (g_ft c56) (ai (g_ft c56) (ai (g_ft c56) (ai (g_ft c56) (ai (g_ft c56) (ai (g_ft c56) (ai (g_ft c56) (ai (g_ft c56) (ai (g_ft c56) (ai (g_ft c56) kc56))))))))))))))) (hd := F14_d4) (h := by kernel_rfl)
  · intro hr
    obtain rfl := Option.some.inj hr
    show AWp Try.prog _ (Ends1 ((F14_x4 h x1 x2 x3 v4 v5 v6) (1 : Nat)).1 ((F14_x4 h x1 x2 x3 v4 v5 v6) (1 : Nat)).2) _
    exact pEnd_sound good (L := F14_L) (D := F14_D) (its := [.g, (.b false)]) (ds := F14_m4_2) (ks := []) (e := ((F14_x4 h x1 x2 x3 v4 v5 v6) (1 : Nat)).1) (s2 := ((F14_x4 h x1 x2 x3 v4 v5 v6) (1 : Nat)).2) (hC := (ai c50 trivial)) (hd := F14_d4) (h := by kernel_rfl)
theorem F14_l4_0 (h : AHeap) (x1 : Int) (x2 : Int) (x3 : Bool) (l4 : List (Int × Int × Int × Int)) (v4 : Hd) (hv4 : SlE E57 4 h (sv v4) l4) (l5 : List (Int × Int × Int × Int)) (v5 : Hd) (hv5 : SlE E59 4 h (sv v5) l5) (l6 : List (Int × Int)) (v6 : Hd) (hv6 : SlE E61 2 h (sv v6) l6) (x : Int) (r : Nat) (hl : loopO (fun (s : Int) => F14_s4 x1 x2 x3 l4 l5 l6 s) x = some r) (q0 : Nat.beq r 0 = true) : AWp Try.prog (.loop (codeOf Try.prog 14 [1, 1, 1, 1, 1, 1, 1, 0, 1, 0, 0])) (Ends1 .ret (F14_x4_0 h x1 x2 x3 v4 v5 v6 r)) ((fun (s : Int) => (F14_h4 h x1 x2 x3 v4 v5 v6 s)) x) := by
  have k := loop_fun (P := Try.prog) (c := (codeOf Try.prog 14 [1, 1, 1, 1, 1, 1, 1, 0, 1, 0, 0])) (step := (fun (s : Int) => F14_s4 x1 x2 x3 l4 l5 l6 s)) (hd := (fun (s : Int) => (F14_h4 h x1 x2 x3 v4 v5 v6 s))) (X := (F14_x4 h x1 x2 x3 v4 v5 v6)) (by intro t; unfold F14_x4; cases Nat.beq t 0 <;> (intro h; cases h)) (fun x => F14_r4 h x1 x2 x3 l4 v4 hv4 l5 v5 hv5 l6 v6 hv6 x) hl
  simp only [F14_x4, q0, cond_true, cond_false] at k
  exact k
theorem F14_l4_1 (h : AHeap) (x1 : Int) (x2 : Int) (x3 : Bool) (l4 : List (Int × Int × Int × Int)) (v4 : Hd) (hv4 : SlE E57 4 h (sv v4) l4) (l5 : List (Int × Int × Int × Int)) (v5 : Hd) (hv5 : SlE E59 4 h (sv v5) l5) (l6 : List (Int × Int)) (v6 : Hd) (hv6 : SlE E61 2 h (sv v6) l6) (x : Int) (r : Nat) (hl : loopO (fun (s : Int) => F14_s4 x1 x2 x3 l4 l5 l6 s) x = some r) (q0 : Nat.beq r 0 = false) : AWp Try.prog (.loop (codeOf Try.prog 14 [1, 1, 1, 1, 1, 1, 1, 0, 1, 0, 0])) (Ends1 (.exit 6) (F14_x4_1 h x1 x2 x3 v4 v5 v6 r)) ((fun (s : Int) => (F14_h4 h x1 x2 x3 v4 v5 v6 s)) x) := by
  have k := loop_fun (P := Try.prog) (c := (codeOf Try.prog 14 [1, 1, 1, 1, 1, 1, 1, 0, 1, 0, 0])) (step := (fun (s : Int) => F14_s4 x1 x2 x3 l4 l5 l6 s)) (hd := (fun (s : Int) => (F14_h4 h x1 x2 x3 v4 v5 v6 s))) (X := (F14_x4 h x1 x2 x3 v4 v5 v6)) (by intro t; unfold F14_x4; cases Nat.beq t 0 <;> (intro h; cases h)) (fun x => F14_r4 h x1 x2 x3 l4 v4 hv4 l5 v5 hv5 l6 v6 hv6 x) hl
  simp only [F14_x4, q0, cond_true, cond_false] at k
  exact k
def F14_m5_2 : List Bool := (rp 275 true [])
def F14_m5_1 : List Bool := (true :: false :: (rp 227 true (false :: false :: (rp 44 true []))))
def F14_m5_0 : List Bool := (true :: true :: false :: (rp 272 true []))
def F14_s5 (l5 : List (Int × Int × Int × Int)) (l6 : List (Int × Int)) (a61 : Int) : Option (Int ⊕ Nat) :=
  (bif decide (a61 < (l6.length : Int)) then
   (Option.bind (at? l6 a61) fun y63 =>
   (bif decide (y63.1 < (-1)) then
    some (.inr 0)
   else
    (bif decide (y63.1 ≥ (l5.length : Int)) then
     some (.inr 0)
    else
     (bif (y63.1 == (-1)) then
      (bif (y63.2 != 0) then
       some (.inr 0)
      else
       (bif decide (y63.1 ≥ 0) then
        (bif decide (y63.2 < 1) then
         some (.inr 0)
        else
         (bif decide (y63.2 > 256) then
          some (.inr 0)
         else
          some (.inl (IntKind.i64.wrap (a61 + 1)))))
       else
        some (.inl (IntKind.i64.wrap (a61 + 1)))))
     else
      (bif decide (y63.1 ≥ 0) then
       (bif decide (y63.2 < 1) then
        some (.inr 0)
       else
        (bif decide (y63.2 > 256) then
         some (.inr 0)
        else
         some (.inl (IntKind.i64.wrap (a61 + 1)))))
      else
       some (.inl (IntKind.i64.wrap (a61 + 1))))))))
  else
   some (.inr 1))
def F14_h5 (h : AHeap) (x1 : Int) (x2 : Int) (x3 : Bool) (v4 : Hd) (v5 : Hd) (l6 : List (Int × Int)) (v6 : Hd)  (a61 : Int) : AS := ⟨(junk :: (.pointer (some ⟨1, 0, none⟩)) :: (rp 227 junk ((.int .i64 (l6.length : Int)) :: (.int .i64 a61) :: (rp 44 junk [])))), [(1, [.int .i64 x1, .int .i64 x2, .bool x3, (sv v4), (sv v5), (sv v6)])], h⟩
theorem F14_d5 : drawsOk F14_D (codeOf Try.prog 14 [1, 1, 1, 1, 1, 1, 1, 1, 0, 1, 0, 0]) = true := by kernel_rfl
def F14_x5_0 (h : AHeap)  (r : Nat) : AS := ⟨(junk :: junk :: (.bool false) :: (rp 272 junk [])), [], h⟩
def F14_x5_1 (h : AHeap)  (r : Nat) : AS := ⟨(rp 275 junk []), [], h⟩
def F14_x5 (h : AHeap) (r : Nat) : Exit × AS := (bif Nat.beq r 0 then (.ret, (F14_x5_0 h r)) else ((.exit 8), (F14_x5_1 h r)))
set_option maxRecDepth 100000 in
theorem F14_r5 (h : AHeap) (x1 : Int) (x2 : Int) (x3 : Bool) (v4 : Hd) (l5 : List (Int × Int × Int × Int)) (v5 : Hd) (hv5 : SlE E59 4 h (sv v5) l5) (l6 : List (Int × Int)) (v6 : Hd) (hv6 : SlE E61 2 h (sv v6) l6) (a61 : Int) (o : Int ⊕ Nat) : F14_s5 l5 l6 a61 = some o → RdF Try.prog (codeOf Try.prog 14 [1, 1, 1, 1, 1, 1, 1, 1, 0, 1, 0, 0]) (fun (s : Int) => (F14_h5 h x1 x2 x3 v4 v5 l6 v6 s)) (F14_x5 h) (F14_h5 h x1 x2 x3 v4 v5 l6 v6 a61) o := by
  unfold F14_s5
  refine dec_bif (fun c62 => ?_) (fun c62 => ?_)
  · refine bind_opt fun y63 e63 => ?_
    obtain ⟨id63, off63, g63, cs63, ix63, at63, rfl⟩ := SlE.at hv6 e63
    have kc64 := (ai (At.agg (P := Try.prog) (t := 61) (v := .agg #[.int .i64 y63.1, .int .i64 y63.2]) (m := 2) at63 (by kernel_rfl) (by kernel_rfl) 0 (by kernel_rfl) rfl) (ai ix63 (ai c62 trivial)))
    refine dec_bif (fun c64 => ?_) (fun c64 => ?_)
    · intro hr
      obtain rfl := Option.some.inj hr
      show AWp Try.prog _ (Ends1 ((F14_x5 h) (0 : Nat)).1 ((F14_x5 h) (0 : Nat)).2) _
      exact pEnd_sound good (L := F14_L) (D := F14_D) (its := [.g, (.b true), .g, .g, .g, .g, .g, (.ix id63 off63 g63), (.ld (.agg #[.int .i64 y63.1, .int .i64 y63.2])), .g, .g, .g, .g, .g, .g, .n, .n, .n, .n, .n, .n, (.p true), .g, .n, .n, .n, .n, .n, .n, .n, .n, .g, .g, .n, .n, .n, .n, .n, .n, .n, .n, .n, .n, .n, .n, .n, .g, (.b true), .g]) (ds := F14_m5_0) (ks := [1, 12]) (e := ((F14_x5 h) (0 : Nat)).1) (s2 := ((F14_x5 h) (0 : Nat)).2) (hC := (ai l_t (ai (g_tf l_t) (ai l_f (ai l_f (ai l_f (ai l_f (ai l_f (ai l_f (ai l_f (ai l_f (ai (g_tf l_t) (ai (g_tf l_t) (ai (g_tf l_t) (ai (g_tf l_t) (ai (g_tf l_t) (ai l_f (ai l_f (ai l_f (ai (g_tf l_t) (ai (g_tf l_t) (ai (g_tf l_t) (ai (g_tf l_t) (ai c64 (ai (g_tf c64) (ai (g_tf c64) (ai (g_tf c64) (ai (g_tf c64) (ai (g_tf c64) (ai (g_tf c64) kc64)))))))))))))))))))))))))))))) (hd := F14_d5) (h := by kernel_rfl)
    · have kc65 := (ai c64 (ai (g_ff c64) (ai (SlE.len hv5) (ai (g_ff c64) (ai (g_ff c64) (ai (g_ff c64) (ai (g_ff c64) (ai (g_ff c64) kc64))))))))
      refine dec_bif (fun c65 => ?_) (fun c65 => ?_)
      · intro hr
        obtain rfl := Option.some.inj hr
        show AWp Try.prog _ (Ends1 ((F14_x5 h) (0 : Nat)).1 ((F14_x5 h) (0 : Nat)).2) _
        exact pEnd_sound good (L := F14_L) (D := F14_D) (its := [.g, (.b true), .g, .g, .g, .g, .g, (.ix id63 off63 g63), (.ld (.agg #[.int .i64 y63.1, .int .i64 y63.2])), .g, .g, .g, .g, .g, .g, (.w .g), (.w .g), (.w .g), (.w .g), (.w (.ln l5.length)), (.w .g), (.p false), .g, .n, .n, .n, .n, .n, .n, .n, .n, (.p true), .g, .n, .n, .n, .n, .n, .n, .n, .n, .n, .n, .n, .n, .n, .g, (.b true), .g]) (ds := F14_m5_0) (ks := [1, 12]) (e := ((F14_x5 h) (0 : Nat)).1) (s2 := ((F14_x5 h) (0 : Nat)).2) (hC := (ai l_t (ai (g_tf l_t) (ai l_f (ai l_f (ai l_f (ai l_f (ai l_f (ai l_f (ai l_f (ai l_f (ai (g_tf l_t) (ai (g_tf l_t) (ai (g_tf l_t) (ai (g_tf l_t) (ai c65 (ai (g_tf c65) (ai l_f (ai l_f (ai l_f (ai (g_tf c65) (ai (g_tf c65) (ai (g_tf c65) (ai (g_tf c65) kc65)))))))))))))))))))))))) (hd := F14_d5) (h := by kernel_rfl)
      · have kc66 := (ai (g_ff c65) (ai (g_ff c65) (ai (g_ff c65) (ai (g_ff c65) kc65))))
        refine dec_bif (fun c66 => ?_) (fun c66 => ?_)
        · have kc67 := (ai c65 (ai c66 (ai (g_ff c65) (ai (g_tt c66) (ai (g_tt c66) (ai (g_tt c66) kc66))))))
          refine dec_bif (fun c67 => ?_) (fun c67 => ?_)
          · intro hr
            obtain rfl := Option.some.inj hr
            show AWp Try.prog _ (Ends1 ((F14_x5 h) (0 : Nat)).1 ((F14_x5 h) (0 : Nat)).2) _
            exact pEnd_sound good (L := F14_L) (D := F14_D) (its := [.g, (.b true), .g, .g, .g, .g, .g, (.ix id63 off63 g63), (.ld (.agg #[.int .i64 y63.1, .int .i64 y63.2])), .g, .g, .g, .g, .g, .g, (.w .g), (.w .g), (.w .g), (.w .g), (.w (.ln l5.length)), (.w .g), (.p false), .g, (.w .g), (.w .g), (.w .g), (.w .g), (.w .g), (.w .g), (.w .g), (.w (.p true)), (.p false), .g, .n, .n, .n, .n, .n, .n, .n, .n, .n, .n, .n, .n, .n, (.p true), (.b true), .g]) (ds := F14_m5_0) (ks := [1, 12]) (e := ((F14_x5 h) (0 : Nat)).1) (s2 := ((F14_x5 h) (0 : Nat)).2) (hC := (ai l_t (ai c67 (ai (g_tf c67) (ai l_f (ai l_f (ai l_f (ai l_f (ai l_f (ai l_f (ai l_f (ai l_f (ai (g_tf c67) (ai (g_tf c67) (ai (g_tf c67) (ai (g_tf c67) kc67)))))))))))))))) (hd := F14_d5) (h := by kernel_rfl)
          · have kc68 := (ai (g_ff c67) (ai (g_ff c67) (ai (g_ff c67) (ai (g_ff c67) kc67))))
            refine dec_bif (fun c68 => ?_) (fun c68 => ?_)
            · have kc69 := (ai (g_tt c68) (ai (g_tt c68) (ai (g_tt c68) (ai (g_tt c68) kc68))))
              refine dec_bif (fun c69 => ?_) (fun c69 => ?_)
              · intro hr
                obtain rfl := Option.some.inj hr
                show AWp Try.prog _ (Ends1 ((F14_x5 h) (0 : Nat)).1 ((F14_x5 h) (0 : Nat)).2) _
                exact pEnd_sound good (L := F14_L) (D := F14_D) (its := [.g, (.b true), .g, .g, .g, .g, .g, (.ix id63 off63 g63), (.ld (.agg #[.int .i64 y63.1, .int .i64 y63.2])), .g, .g, .g, .g, .g, .g, (.w .g), (.w .g), (.w .g), (.w .g), (.w (.ln l5.length)), (.w .g), (.p false), .g, (.w .g), (.w .g), (.w .g), (.w .g), (.w .g), (.w .g), (.w .g), (.w (.p true)), (.p false), .g, (.w .g), (.w .g), (.w .g), (.w .g), (.w .g), (.w .g), (.w .g), (.w .g), .n, .n, .n, (.w (.p true)), (.w (.p true)), (.p false), (.b true), .g]) (ds := F14_m5_0) (ks := [1, 12]) (e := ((F14_x5 h) (0 : Nat)).1) (s2 := ((F14_x5 h) (0 : Nat)).2) (hC := (ai l_t (ai c67 (ai c68 (ai (g_ff c67) (ai c69 (ai (g_tt c68) (ai (g_tf c69) (ai (g_tf c69) (ai (g_tf c69) kc69)))))))))) (hd := F14_d5) (h := by kernel_rfl)
              · have kc70 := (ai c67 (ai c68 (ai (g_ff c67) (ai c69 (ai (g_tt c68) (ai (g_ff c69) (ai (g_ff c69) (ai (g_ff c69) kc69))))))))
                refine dec_bif (fun c70 => ?_) (fun c70 => ?_)
                · intro hr
                  obtain rfl := Option.some.inj hr
                  show AWp Try.prog _ (Ends1 ((F14_x5 h) (0 : Nat)).1 ((F14_x5 h) (0 : Nat)).2) _
                  exact pEnd_sound good (L := F14_L) (D := F14_D) (its := [.g, (.b true), .g, .g, .g, .g, .g, (.ix id63 off63 g63), (.ld (.agg #[.int .i64 y63.1, .int .i64 y63.2])), .g, .g, .g, .g, .g, .g, (.w .g), (.w .g), (.w .g), (.w .g), (.w (.ln l5.length)), (.w .g), (.p false), .g, (.w .g), (.w .g), (.w .g), (.w .g), (.w .g), (.w .g), (.w .g), (.w (.p true)), (.p false), .g, (.w .g), (.w .g), (.w .g), (.w .g), (.w .g), (.w .g), (.w .g), (.w .g), (.w .g), (.w .g), (.w .g), (.w (.p false)), (.w (.p true)), (.p false), (.b true), .g]) (ds := F14_m5_0) (ks := [1, 12]) (e := ((F14_x5 h) (0 : Nat)).1) (s2 := ((F14_x5 h) (0 : Nat)).2) (hC := (ai c70 kc70)) (hd := F14_d5) (h := by kernel_rfl)
                · intro hr
                  obtain rfl := Option.some.inj hr
                  show AWp Try.prog _ (Ends1 .normal (F14_h5 h x1 x2 x3 v4 v5 l6 v6 (IntKind.i64.wrap (a61 + 1)))) _
                  exact pEnd_sound good (L := F14_L) (D := F14_D) (its := [.g, (.b true), .g, .g, .g, .g, .g, (.ix id63 off63 g63), (.ld (.agg #[.int .i64 y63.1, .int .i64 y63.2])), .g, .g, .g, .g, .g, .g, (.w .g), (.w .g), (.w .g), (.w .g), (.w (.ln l5.length)), (.w .g), (.p false), .g, (.w .g), (.w .g), (.w .g), (.w .g), (.w .g), (.w .g), (.w .g), (.w (.p true)), (.p false), .g, (.w .g), (.w .g), (.w .g), (.w .g), (.w .g), (.w .g), (.w .g), (.w .g), (.w .g), (.w .g), (.w .g), (.w (.p false)), (.w (.p true)), (.p false), (.b false), .g, .g]) (ds := F14_m5_1) (ks := [12]) (e := .normal) (s2 := (F14_h5 h x1 x2 x3 v4 v5 l6 v6 (IntKind.i64.wrap (a61 + 1)))) (hC := (ai c70 kc70)) (hd := F14_d5) (h := by kernel_rfl)
            · intro hr
              obtain rfl := Option.some.inj hr
              show AWp Try.prog _ (Ends1 .normal (F14_h5 h x1 x2 x3 v4 v5 l6 v6 (IntKind.i64.wrap (a61 + 1)))) _
              exact pEnd_sound good (L := F14_L) (D := F14_D) (its := [.g, (.b true), .g, .g, .g, .g, .g, (.ix id63 off63 g63), (.ld (.agg #[.int .i64 y63.1, .int .i64 y63.2])), .g, .g, .g, .g, .g, .g, (.w .g), (.w .g), (.w .g), (.w .g), (.w (.ln l5.length)), (.w .g), (.p false), .g, (.w .g), (.w .g), (.w .g), (.w .g), (.w .g), (.w .g), (.w .g), (.w (.p true)), (.p false), .g, (.w .g), (.w .g), (.w .g), (.w .g), .n, .n, .n, .n, .n, .n, .n, .n, (.w (.p false)), (.p false), (.b false), .g, .g]) (ds := F14_m5_1) (ks := [12]) (e := .normal) (s2 := (F14_h5 h x1 x2 x3 v4 v5 l6 v6 (IntKind.i64.wrap (a61 + 1)))) (hC := (ai l_f (ai c67 (ai c68 (ai (g_ff c67) (ai (g_ft c68) (ai l_f (ai l_f (ai l_f (ai (g_ft c68) (ai (g_ft c68) (ai (g_ft c68) (ai (g_ft c68) kc68))))))))))))) (hd := F14_d5) (h := by kernel_rfl)
        · have kc71 := (ai (g_ff l_f) (ai (g_ff l_f) (ai (g_ff l_f) (ai (g_ff l_f) (ai c65 (ai c66 (ai (g_ff c65) (ai (g_ft c66) (ai (g_ft c66) (ai (g_ft c66) kc66))))))))))
          refine dec_bif (fun c71 => ?_) (fun c71 => ?_)
          · have kc72 := (ai (g_tt c71) (ai (g_tt c71) (ai (g_tt c71) (ai (g_tt c71) kc71))))
            refine dec_bif (fun c72 => ?_) (fun c72 => ?_)
            · intro hr
              obtain rfl := Option.some.inj hr
              show AWp Try.prog _ (Ends1 ((F14_x5 h) (0 : Nat)).1 ((F14_x5 h) (0 : Nat)).2) _
              exact pEnd_sound good (L := F14_L) (D := F14_D) (its := [.g, (.b true), .g, .g, .g, .g, .g, (.ix id63 off63 g63), (.ld (.agg #[.int .i64 y63.1, .int .i64 y63.2])), .g, .g, .g, .g, .g, .g, (.w .g), (.w .g), (.w .g), (.w .g), (.w (.ln l5.length)), (.w .g), (.p false), .g, (.w .g), (.w .g), (.w .g), (.w .g), .n, .n, .n, (.w (.p false)), (.p false), .g, (.w .g), (.w .g), (.w .g), (.w .g), (.w .g), (.w .g), (.w .g), (.w .g), .n, .n, .n, (.w (.p true)), (.w (.p true)), .g, (.b true), .g]) (ds := F14_m5_0) (ks := [1, 12]) (e := ((F14_x5 h) (0 : Nat)).1) (s2 := ((F14_x5 h) (0 : Nat)).2) (hC := (ai l_t (ai c71 (ai (g_ff l_f) (ai c72 (ai (g_tt c71) (ai (g_tf c72) (ai (g_tf c72) (ai (g_tf c72) kc72))))))))) (hd := F14_d5) (h := by kernel_rfl)
            · have kc73 := (ai c71 (ai (g_ff l_f) (ai c72 (ai (g_tt c71) (ai (g_ff c72) (ai (g_ff c72) (ai (g_ff c72) kc72)))))))
              refine dec_bif (fun c73 => ?_) (fun c73 => ?_)
              · intro hr
                obtain rfl := Option.some.inj hr
                show AWp Try.prog _ (Ends1 ((F14_x5 h) (0 : Nat)).1 ((F14_x5 h) (0 : Nat)).2) _
                exact pEnd_sound good (L := F14_L) (D := F14_D) (its := [.g, (.b true), .g, .g, .g, .g, .g, (.ix id63 off63 g63), (.ld (.agg #[.int .i64 y63.1, .int .i64 y63.2])), .g, .g, .g, .g, .g, .g, (.w .g), (.w .g), (.w .g), (.w .g), (.w (.ln l5.length)), (.w .g), (.p false), .g, (.w .g), (.w .g), (.w .g), (.w .g), .n, .n, .n, (.w (.p false)), (.p false), .g, (.w .g), (.w .g), (.w .g), (.w .g), (.w .g), (.w .g), (.w .g), (.w .g), (.w .g), (.w .g), (.w .g), (.w (.p false)), (.w (.p true)), .g, (.b true), .g]) (ds := F14_m5_0) (ks := [1, 12]) (e := ((F14_x5 h) (0 : Nat)).1) (s2 := ((F14_x5 h) (0 : Nat)).2) (hC := (ai c73 kc73)) (hd := F14_d5) (h := by kernel_rfl)
              · intro hr
                obtain rfl := Option.some.inj hr
                show AWp Try.prog _ (Ends1 .normal (F14_h5 h x1 x2 x3 v4 v5 l6 v6 (IntKind.i64.wrap (a61 + 1)))) _
                exact pEnd_sound good (L := F14_L) (D := F14_D) (its := [.g, (.b true), .g, .g, .g, .g, .g, (.ix id63 off63 g63), (.ld (.agg #[.int .i64 y63.1, .int .i64 y63.2])), .g, .g, .g, .g, .g, .g, (.w .g), (.w .g), (.w .g), (.w .g), (.w (.ln l5.length)), (.w .g), (.p false), .g, (.w .g), (.w .g), (.w .g), (.w .g), .n, .n, .n, (.w (.p false)), (.p false), .g, (.w .g), (.w .g), (.w .g), (.w .g), (.w .g), (.w .g), (.w .g), (.w .g), (.w .g), (.w .g), (.w .g), (.w (.p false)), (.w (.p true)), .g, (.b false), .g, .g]) (ds := F14_m5_1) (ks := [12]) (e := .normal) (s2 := (F14_h5 h x1 x2 x3 v4 v5 l6 v6 (IntKind.i64.wrap (a61 + 1)))) (hC := (ai c73 kc73)) (hd := F14_d5) (h := by kernel_rfl)
          · intro hr
            obtain rfl := Option.some.inj hr
            show AWp Try.prog _ (Ends1 .normal (F14_h5 h x1 x2 x3 v4 v5 l6 v6 (IntKind.i64.wrap (a61 + 1)))) _
            exact pEnd_sound good (L := F14_L) (D := F14_D) (its := [.g, (.b true), .g, .g, .g, .g, .g, (.ix id63 off63 g63), (.ld (.agg #[.int .i64 y63.1, .int .i64 y63.2])), .g, .g, .g, .g, .g, .g, (.w .g), (.w .g), (.w .g), (.w .g), (.w (.ln l5.length)), (.w .g), (.p false), .g, (.w .g), (.w .g), (.w .g), (.w .g), .n, .n, .n, (.w (.p false)), (.p false), .g, (.w .g), (.w .g), (.w .g), (.w .g), .n, .n, .n, .n, .n, .n, .n, .n, (.w (.p false)), .g, (.b false), .g, .g]) (ds := F14_m5_1) (ks := [12]) (e := .normal) (s2 := (F14_h5 h x1 x2 x3 v4 v5 l6 v6 (IntKind.i64.wrap (a61 + 1)))) (hC := (ai l_f (ai c71 (ai (g_ff l_f) (ai (g_ft c71) (ai l_f (ai l_f (ai l_f (ai (g_ft c71) (ai (g_ft c71) (ai (g_ft c71) (ai (g_ft c71) kc71)))))))))))) (hd := F14_d5) (h := by kernel_rfl)
  · intro hr
    obtain rfl := Option.some.inj hr
    show AWp Try.prog _ (Ends1 ((F14_x5 h) (1 : Nat)).1 ((F14_x5 h) (1 : Nat)).2) _
    exact pEnd_sound good (L := F14_L) (D := F14_D) (its := [.g, (.b false)]) (ds := F14_m5_2) (ks := [1]) (e := ((F14_x5 h) (1 : Nat)).1) (s2 := ((F14_x5 h) (1 : Nat)).2) (hC := (ai c62 trivial)) (hd := F14_d5) (h := by kernel_rfl)
theorem F14_l5_0 (h : AHeap) (x1 : Int) (x2 : Int) (x3 : Bool) (v4 : Hd) (l5 : List (Int × Int × Int × Int)) (v5 : Hd) (hv5 : SlE E59 4 h (sv v5) l5) (l6 : List (Int × Int)) (v6 : Hd) (hv6 : SlE E61 2 h (sv v6) l6) (x : Int) (r : Nat) (hl : loopO (fun (s : Int) => F14_s5 l5 l6 s) x = some r) (q0 : Nat.beq r 0 = true) : AWp Try.prog (.loop (codeOf Try.prog 14 [1, 1, 1, 1, 1, 1, 1, 1, 0, 1, 0, 0])) (Ends1 .ret (F14_x5_0 h r)) ((fun (s : Int) => (F14_h5 h x1 x2 x3 v4 v5 l6 v6 s)) x) := by
  have k := loop_fun (P := Try.prog) (c := (codeOf Try.prog 14 [1, 1, 1, 1, 1, 1, 1, 1, 0, 1, 0, 0])) (step := (fun (s : Int) => F14_s5 l5 l6 s)) (hd := (fun (s : Int) => (F14_h5 h x1 x2 x3 v4 v5 l6 v6 s))) (X := (F14_x5 h)) (by intro t; unfold F14_x5; cases Nat.beq t 0 <;> (intro h; cases h)) (fun x => F14_r5 h x1 x2 x3 v4 l5 v5 hv5 l6 v6 hv6 x) hl
  simp only [F14_x5, q0, cond_true, cond_false] at k
  exact k
theorem F14_l5_1 (h : AHeap) (x1 : Int) (x2 : Int) (x3 : Bool) (v4 : Hd) (l5 : List (Int × Int × Int × Int)) (v5 : Hd) (hv5 : SlE E59 4 h (sv v5) l5) (l6 : List (Int × Int)) (v6 : Hd) (hv6 : SlE E61 2 h (sv v6) l6) (x : Int) (r : Nat) (hl : loopO (fun (s : Int) => F14_s5 l5 l6 s) x = some r) (q0 : Nat.beq r 0 = false) : AWp Try.prog (.loop (codeOf Try.prog 14 [1, 1, 1, 1, 1, 1, 1, 1, 0, 1, 0, 0])) (Ends1 (.exit 8) (F14_x5_1 h r)) ((fun (s : Int) => (F14_h5 h x1 x2 x3 v4 v5 l6 v6 s)) x) := by
  have k := loop_fun (P := Try.prog) (c := (codeOf Try.prog 14 [1, 1, 1, 1, 1, 1, 1, 1, 0, 1, 0, 0])) (step := (fun (s : Int) => F14_s5 l5 l6 s)) (hd := (fun (s : Int) => (F14_h5 h x1 x2 x3 v4 v5 l6 v6 s))) (X := (F14_x5 h)) (by intro t; unfold F14_x5; cases Nat.beq t 0 <;> (intro h; cases h)) (fun x => F14_r5 h x1 x2 x3 v4 l5 v5 hv5 l6 v6 hv6 x) hl
  simp only [F14_x5, q0, cond_true, cond_false] at k
  exact k
def F14 (x1 : Int) (x2 : Int) (x3 : Bool) (l4 : List (Int × Int × Int × Int)) (l5 : List (Int × Int × Int × Int)) (l6 : List (Int × Int)) : Option (Bool) :=
  (bif decide (x1 < 0) then
   some (false)
  else
   (bif decide (x1 > 4096) then
    some (false)
   else
    (bif decide (x2 < 0) then
     some (false)
    else
     (bif decide (x2 > 4094) then
      some (false)
     else
      (bif ((l6.length : Int) != x1) then
       some (false)
      else
       (Option.bind (loopO (fun (s : Int) => F14_s1 x1 x2 x3 l4 s) 0) fun y25 =>
       (bif (Nat.beq y25 0) then
        some (false)
       else
        (bif decide ((l4.length : Int) < (F14__2 x1 x2)) then
         some (false)
        else
         (Option.bind (loopO (fun (s : Int) => F14_s2 x1 x2 x3 l4 l5 l6 s) 0) fun y38 =>
         (bif (Nat.beq y38 0) then
          some (false)
         else
          (Option.bind (loopO (fun (s : Int) => F14_s3 l5 s) 0) fun y47 =>
          (bif (Nat.beq y47 0) then
           some (false)
          else
           (Option.bind (loopO (fun (s : Int) => F14_s4 x1 x2 x3 l4 l5 l6 s) 0) fun y59 =>
           (bif (Nat.beq y59 0) then
            some (false)
           else
            (Option.bind (loopO (fun (s : Int) => F14_s5 l5 l6 s) 0) fun y74 =>
            (bif (Nat.beq y74 0) then
             some (false)
            else
             some (true)))))))))))))))))
set_option maxRecDepth 100000 in
theorem F14_spec (x1 : Int) (x2 : Int) (x3 : Bool) (l4 : List (Int × Int × Int × Int)) (l5 : List (Int × Int × Int × Int)) (l6 : List (Int × Int)) (v4 : Hd) (v5 : Hd) (v6 : Hd) (h : AHeap) (hv4 : SlE E57 4 h (sv v4) l4) (hv5 : SlE E59 4 h (sv v5) l5) (hv6 : SlE E61 2 h (sv v6) l6) (r : Bool) : F14 x1 x2 x3 l4 l5 l6 = some r → ACalls Try.prog 14 [.agg #[.int .i64 x1, .int .i64 x2, .bool x3, (sv v4), (sv v5), (sv v6)]] h (fun v' h'' => v' = (.bool r : Value) ∧ h'' = h) := by
  unfold F14
  refine dec_bif (fun c7 => ?_) (fun c7 => ?_)
  · intro hr
    obtain rfl := Option.some.inj hr
    exact pFun_sound good tab_ok (f := 14) (its := [.g, .g, .g, .g, .g, .g, .n, .n, .n, (.p true), .g, .n, .n, .n, .g, .g, .n, .n, .n, .g, .g, .n, .n, .n, .n, .n, .n, .g, (.b true), .g]) (args := [.agg #[.int .i64 x1, .int .i64 x2, .bool x3, (sv v4), (sv v5), (sv v6)]]) (h := h) (h' := h) (v := .bool false) (hC := (ai l_t (ai (g_tf l_t) (ai (g_tf l_t) (ai (g_tf l_t) (ai (g_tf l_t) (ai (g_tf l_t) (ai (g_tf l_t) (ai (g_tf l_t) (ai (g_tf l_t) (ai (g_tf l_t) (ai (g_tf l_t) (ai (g_tf l_t) (ai (g_tf l_t) (ai c7 (ai (g_tf c7) (ai (g_tf c7) (ai (g_tf c7) trivial)))))))))))))))))) (hr := by kernel_rfl)
  · have kc8 := (ai c7 (ai (g_ff c7) (ai (g_ff c7) (ai (g_ff c7) trivial))))
    refine dec_bif (fun c8 => ?_) (fun c8 => ?_)
    · intro hr
      obtain rfl := Option.some.inj hr
      exact pFun_sound good tab_ok (f := 14) (its := [.g, .g, .g, .g, .g, .g, (.w .g), (.w .g), (.w .g), (.p false), .g, .n, .n, .n, (.p true), .g, .n, .n, .n, .g, .g, .n, .n, .n, .n, .n, .n, .g, (.b true), .g]) (args := [.agg #[.int .i64 x1, .int .i64 x2, .bool x3, (sv v4), (sv v5), (sv v6)]]) (h := h) (h' := h) (v := .bool false) (hC := (ai l_t (ai (g_tf l_t) (ai (g_tf l_t) (ai (g_tf l_t) (ai (g_tf l_t) (ai (g_tf l_t) (ai (g_tf l_t) (ai (g_tf l_t) (ai (g_tf l_t) (ai (g_tf l_t) (ai c8 (ai (g_tf c8) (ai (g_tf c8) (ai (g_tf c8) kc8))))))))))))))) (hr := by kernel_rfl)
    · have kc9 := (ai c8 (ai (g_ff c8) (ai (g_ff c8) (ai (g_ff c8) kc8))))
      refine dec_bif (fun c9 => ?_) (fun c9 => ?_)
      · intro hr
        obtain rfl := Option.some.inj hr
        exact pFun_sound good tab_ok (f := 14) (its := [.g, .g, .g, .g, .g, .g, (.w .g), (.w .g), (.w .g), (.p false), .g, (.w .g), (.w .g), (.w .g), (.p false), .g, .n, .n, .n, (.p true), .g, .n, .n, .n, .n, .n, .n, .g, (.b true), .g]) (args := [.agg #[.int .i64 x1, .int .i64 x2, .bool x3, (sv v4), (sv v5), (sv v6)]]) (h := h) (h' := h) (v := .bool false) (hC := (ai l_t (ai (g_tf l_t) (ai (g_tf l_t) (ai (g_tf l_t) (ai (g_tf l_t) (ai (g_tf l_t) (ai (g_tf l_t) (ai c9 (ai (g_tf c9) (ai (g_tf c9) (ai (g_tf c9) kc9)))))))))))) (hr := by kernel_rfl)
      · have kc10 := (ai c9 (ai (g_ff c9) (ai (g_ff c9) (ai (g_ff c9) kc9))))
        refine dec_bif (fun c10 => ?_) (fun c10 => ?_)
        · intro hr
          obtain rfl := Option.some.inj hr
          exact pFun_sound good tab_ok (f := 14) (its := [.g, .g, .g, .g, .g, .g, (.w .g), (.w .g), (.w .g), (.p false), .g, (.w .g), (.w .g), (.w .g), (.p false), .g, (.w .g), (.w .g), (.w .g), (.p false), .g, .n, .n, .n, .n, .n, .n, (.p true), (.b true), .g]) (args := [.agg #[.int .i64 x1, .int .i64 x2, .bool x3, (sv v4), (sv v5), (sv v6)]]) (h := h) (h' := h) (v := .bool false) (hC := (ai l_t (ai c10 (ai (g_tf c10) (ai (g_tf c10) (ai (g_tf c10) (ai (g_tf c10) (ai (g_tf c10) (ai (g_tf c10) kc10))))))))) (hr := by kernel_rfl)
        · have kc11 := (ai c10 (ai (g_ff c10) (ai (g_ff c10) (ai (g_ff c10) (ai (SlE.len hv6) (ai (g_ff c10) (ai (g_ff c10) (ai (g_ff c10) kc10))))))))
          refine dec_bif (fun c11 => ?_) (fun c11 => ?_)
          · intro hr
            obtain rfl := Option.some.inj hr
            exact pFun_sound good tab_ok (f := 14) (its := [.g, .g, .g, .g, .g, .g, (.w .g), (.w .g), (.w .g), (.p false), .g, (.w .g), (.w .g), (.w .g), (.p false), .g, (.w .g), (.w .g), (.w .g), (.p false), .g, (.w .g), (.w .g), (.w (.ln l6.length)), (.w .g), (.w .g), (.w .g), (.p false), (.b true), .g]) (args := [.agg #[.int .i64 x1, .int .i64 x2, .bool x3, (sv v4), (sv v5), (sv v6)]]) (h := h) (h' := h) (v := .bool false) (hC := (ai c11 kc11)) (hr := by kernel_rfl)
          · refine bind_opt fun y25 e25 => ?_
            have kc26 := (ai (SlE.len hv4) (ai c11 kc11))
            refine dec_bif (fun c26 => ?_) (fun c26 => ?_)
            · intro hr
              obtain rfl := Option.some.inj hr
              exact pFun_sound good tab_ok (f := 14) (its := [.g, .g, .g, .g, .g, .g, (.w .g), (.w .g), (.w .g), (.p false), .g, (.w .g), (.w .g), (.w .g), (.p false), .g, (.w .g), (.w .g), (.w .g), (.p false), .g, (.w .g), (.w .g), (.w (.ln l6.length)), (.w .g), (.w .g), (.w .g), (.p false), (.b false), .g, .g, .g, .g, .g, .g, .g, .g, .g, (.ln l4.length), .g, (.l F14_m1_1 [] .ret (F14_x1_0 h x1 x2 x3 v4 v5 v6 y25))]) (args := [.agg #[.int .i64 x1, .int .i64 x2, .bool x3, (sv v4), (sv v5), (sv v6)]]) (h := h) (h' := h) (v := .bool false) (hC := (ai (F14_l1_0 h x1 x2 x3 l4 v4 hv4 v5 v6 0 y25 e25 c26) kc26)) (hr := by kernel_rfl)
            · have kc27 := (ai (SlE.len hv4) (ai (F14_l1_1 h x1 x2 x3 l4 v4 hv4 v5 v6 0 y25 e25 c26) kc26))
              refine dec_bif (fun c27 => ?_) (fun c27 => ?_)
              · intro hr
                obtain rfl := Option.some.inj hr
                exact pFun_sound good tab_ok (f := 14) (its := [.g, .g, .g, .g, .g, .g, (.w .g), (.w .g), (.w .g), (.p false), .g, (.w .g), (.w .g), (.w .g), (.p false), .g, (.w .g), (.w .g), (.w .g), (.p false), .g, (.w .g), (.w .g), (.w (.ln l6.length)), (.w .g), (.w .g), (.w .g), (.p false), (.b false), .g, .g, .g, .g, .g, .g, .g, .g, .g, (.ln l4.length), .g, (.l F14_m1_1 [] (.exit 0) (F14_x1_1 h x1 x2 x3 v4 v5 v6 y25)), .g, .g, (.ln l4.length), .g, .g, .g, .g, (.b true), .g]) (args := [.agg #[.int .i64 x1, .int .i64 x2, .bool x3, (sv v4), (sv v5), (sv v6)]]) (h := h) (h' := h) (v := .bool false) (hC := (ai c27 kc27)) (hr := by kernel_rfl)
              · refine bind_opt fun y38 e38 => ?_
                have kc39 := (ai c27 kc27)
                refine dec_bif (fun c39 => ?_) (fun c39 => ?_)
                · intro hr
                  obtain rfl := Option.some.inj hr
                  exact pFun_sound good tab_ok (f := 14) (its := [.g, .g, .g, .g, .g, .g, (.w .g), (.w .g), (.w .g), (.p false), .g, (.w .g), (.w .g), (.w .g), (.p false), .g, (.w .g), (.w .g), (.w .g), (.p false), .g, (.w .g), (.w .g), (.w (.ln l6.length)), (.w .g), (.w .g), (.w .g), (.p false), (.b false), .g, .g, .g, .g, .g, .g, .g, .g, .g, (.ln l4.length), .g, (.l F14_m1_1 [] (.exit 0) (F14_x1_1 h x1 x2 x3 v4 v5 v6 y25)), .g, .g, (.ln l4.length), .g, .g, .g, .g, (.b false), .g, .g, .g, (.l F14_m2_1 [] .ret (F14_x2_0 h x1 x2 x3 v4 v5 v6 y38))]) (args := [.agg #[.int .i64 x1, .int .i64 x2, .bool x3, (sv v4), (sv v5), (sv v6)]]) (h := h) (h' := h) (v := .bool false) (hC := (ai (F14_l2_0 h x1 x2 x3 l4 v4 hv4 l5 v5 hv5 l6 v6 hv6 0 y38 e38 c39) kc39)) (hr := by kernel_rfl)
                · refine bind_opt fun y47 e47 => ?_
                  have kc48 := (ai (SlE.len hv5) (ai (F14_l2_1 h x1 x2 x3 l4 v4 hv4 l5 v5 hv5 l6 v6 hv6 0 y38 e38 c39) kc39))
                  refine dec_bif (fun c48 => ?_) (fun c48 => ?_)
                  · intro hr
                    obtain rfl := Option.some.inj hr
                    exact pFun_sound good tab_ok (f := 14) (its := [.g, .g, .g, .g, .g, .g, (.w .g), (.w .g), (.w .g), (.p false), .g, (.w .g), (.w .g), (.w .g), (.p false), .g, (.w .g), (.w .g), (.w .g), (.p false), .g, (.w .g), (.w .g), (.w (.ln l6.length)), (.w .g), (.w .g), (.w .g), (.p false), (.b false), .g, .g, .g, .g, .g, .g, .g, .g, .g, (.ln l4.length), .g, (.l F14_m1_1 [] (.exit 0) (F14_x1_1 h x1 x2 x3 v4 v5 v6 y25)), .g, .g, (.ln l4.length), .g, .g, .g, .g, (.b false), .g, .g, .g, (.l F14_m2_1 [] (.exit 2) (F14_x2_1 h x1 x2 x3 v4 v5 v6 y38)), .g, .g, (.ln l5.length), .g, (.l F14_m3_1 [] .ret (F14_x3_0 h x1 x2 x3 v4 v5 v6 y47))]) (args := [.agg #[.int .i64 x1, .int .i64 x2, .bool x3, (sv v4), (sv v5), (sv v6)]]) (h := h) (h' := h) (v := .bool false) (hC := (ai (F14_l3_0 h x1 x2 x3 v4 l5 v5 hv5 v6 0 y47 e47 c48) kc48)) (hr := by kernel_rfl)
                  · refine bind_opt fun y59 e59 => ?_
                    have kc60 := (ai (F14_l3_1 h x1 x2 x3 v4 l5 v5 hv5 v6 0 y47 e47 c48) kc48)
                    refine dec_bif (fun c60 => ?_) (fun c60 => ?_)
                    · intro hr
                      obtain rfl := Option.some.inj hr
                      exact pFun_sound good tab_ok (f := 14) (its := [.g, .g, .g, .g, .g, .g, (.w .g), (.w .g), (.w .g), (.p false), .g, (.w .g), (.w .g), (.w .g), (.p false), .g, (.w .g), (.w .g), (.w .g), (.p false), .g, (.w .g), (.w .g), (.w (.ln l6.length)), (.w .g), (.w .g), (.w .g), (.p false), (.b false), .g, .g, .g, .g, .g, .g, .g, .g, .g, (.ln l4.length), .g, (.l F14_m1_1 [] (.exit 0) (F14_x1_1 h x1 x2 x3 v4 v5 v6 y25)), .g, .g, (.ln l4.length), .g, .g, .g, .g, (.b false), .g, .g, .g, (.l F14_m2_1 [] (.exit 2) (F14_x2_1 h x1 x2 x3 v4 v5 v6 y38)), .g, .g, (.ln l5.length), .g, (.l F14_m3_1 [] (.exit 4) (F14_x3_1 h x1 x2 x3 v4 v5 v6 y47)), .g, .g, .g, (.l F14_m4_1 [] .ret (F14_x4_0 h x1 x2 x3 v4 v5 v6 y59))]) (args := [.agg #[.int .i64 x1, .int .i64 x2, .bool x3, (sv v4), (sv v5), (sv v6)]]) (h := h) (h' := h) (v := .bool false) (hC := (ai (F14_l4_0 h x1 x2 x3 l4 v4 hv4 l5 v5 hv5 l6 v6 hv6 0 y59 e59 c60) kc60)) (hr := by kernel_rfl)
                    · refine bind_opt fun y74 e74 => ?_
                      have kc75 := (ai (SlE.len hv6) (ai (F14_l4_1 h x1 x2 x3 l4 v4 hv4 l5 v5 hv5 l6 v6 hv6 0 y59 e59 c60) kc60))
                      refine dec_bif (fun c75 => ?_) (fun c75 => ?_)
                      · intro hr
                        obtain rfl := Option.some.inj hr
                        exact pFun_sound good tab_ok (f := 14) (its := [.g, .g, .g, .g, .g, .g, (.w .g), (.w .g), (.w .g), (.p false), .g, (.w .g), (.w .g), (.w .g), (.p false), .g, (.w .g), (.w .g), (.w .g), (.p false), .g, (.w .g), (.w .g), (.w (.ln l6.length)), (.w .g), (.w .g), (.w .g), (.p false), (.b false), .g, .g, .g, .g, .g, .g, .g, .g, .g, (.ln l4.length), .g, (.l F14_m1_1 [] (.exit 0) (F14_x1_1 h x1 x2 x3 v4 v5 v6 y25)), .g, .g, (.ln l4.length), .g, .g, .g, .g, (.b false), .g, .g, .g, (.l F14_m2_1 [] (.exit 2) (F14_x2_1 h x1 x2 x3 v4 v5 v6 y38)), .g, .g, (.ln l5.length), .g, (.l F14_m3_1 [] (.exit 4) (F14_x3_1 h x1 x2 x3 v4 v5 v6 y47)), .g, .g, .g, (.l F14_m4_1 [] (.exit 6) (F14_x4_1 h x1 x2 x3 v4 v5 v6 y59)), .g, .g, (.ln l6.length), .g, (.l F14_m5_1 [] .ret (F14_x5_0 h y74))]) (args := [.agg #[.int .i64 x1, .int .i64 x2, .bool x3, (sv v4), (sv v5), (sv v6)]]) (h := h) (h' := h) (v := .bool false) (hC := (ai (F14_l5_0 h x1 x2 x3 v4 l5 v5 hv5 l6 v6 hv6 0 y74 e74 c75) kc75)) (hr := by kernel_rfl)
                      · intro hr
                        obtain rfl := Option.some.inj hr
                        exact pFun_sound good tab_ok (f := 14) (its := [.g, .g, .g, .g, .g, .g, (.w .g), (.w .g), (.w .g), (.p false), .g, (.w .g), (.w .g), (.w .g), (.p false), .g, (.w .g), (.w .g), (.w .g), (.p false), .g, (.w .g), (.w .g), (.w (.ln l6.length)), (.w .g), (.w .g), (.w .g), (.p false), (.b false), .g, .g, .g, .g, .g, .g, .g, .g, .g, (.ln l4.length), .g, (.l F14_m1_1 [] (.exit 0) (F14_x1_1 h x1 x2 x3 v4 v5 v6 y25)), .g, .g, (.ln l4.length), .g, .g, .g, .g, (.b false), .g, .g, .g, (.l F14_m2_1 [] (.exit 2) (F14_x2_1 h x1 x2 x3 v4 v5 v6 y38)), .g, .g, (.ln l5.length), .g, (.l F14_m3_1 [] (.exit 4) (F14_x3_1 h x1 x2 x3 v4 v5 v6 y47)), .g, .g, .g, (.l F14_m4_1 [] (.exit 6) (F14_x4_1 h x1 x2 x3 v4 v5 v6 y59)), .g, .g, (.ln l6.length), .g, (.l F14_m5_1 [] (.exit 8) (F14_x5_1 h y74)), .g]) (args := [.agg #[.int .i64 x1, .int .i64 x2, .bool x3, (sv v4), (sv v5), (sv v6)]]) (h := h) (h' := h) (v := .bool true) (hC := (ai (F14_l5_1 h x1 x2 x3 v4 l5 v5 hv5 l6 v6 hv6 0 y74 e74 c75) kc75)) (hr := by kernel_rfl)
/-! 67 jacquard/jacquardref30.Nodes -/
def F67 (x1 : Int) : Int :=
  (if 8192 < (if 0 > x1 then 0 else x1) then 8192 else (if 0 > x1 then 0 else x1))
set_option maxRecDepth 100000 in
theorem F67_spec (x1 : Int) (h : AHeap)  (r : Int) : F67 x1 = r → ACalls Try.prog 67 [.int .i64 x1] h (fun v' h'' => v' = (.int .i64 r : Value) ∧ h'' = h) := by
  unfold F67
  intro hr
  subst hr
  exact pFun_sound good tab_ok (f := 67) (its := [.g, .g, .g, .g, .g]) (args := [.int .i64 x1]) (h := h) (h' := h) (v := .int .i64 (if 8192 < (if 0 > x1 then 0 else x1) then 8192 else (if 0 > x1 then 0 else x1))) (hC := trivial) (hr := by kernel_rfl)
/-! 55 jacquard/jacquardref30.Counts -/
def F55 (x1 : Int) (x2 : Int) (x3 : Int) (x4 : Int) (x5 : Int) : Bool :=
  (bif decide (x2 ≥ 0) then
   (bif decide (x2 < (F67 x1)) then
    (bif decide (x3 ≥ 0) then
     (decide (x3 < (F67 x1)))
    else
     false)
   else
    false)
  else
   false)
set_option maxRecDepth 100000 in
theorem F55_spec (x1 : Int) (x2 : Int) (x3 : Int) (x4 : Int) (x5 : Int) (h : AHeap)  (r : Bool) : F55 x1 x2 x3 x4 x5 = r → ACalls Try.prog 55 [.int .i64 x1, .agg #[.int .i64 x2, .int .i64 x3, .int .i64 x4, .int .i64 x5]] h (fun v' h'' => v' = (.bool r : Value) ∧ h'' = h) := by
  unfold F55
  refine dec_bif (fun c6 => ?_) (fun c6 => ?_)
  · have kc8 := (ai c6 (ai (g_tt c6) (ai (show AKeep h h from (AHeap.sub_refl h)) (ai (F67_spec x1 h _ rfl) (ai (g_tt c6) (ai (g_tt c6) (ai (g_tt c6) (ai (g_tt c6) trivial))))))))
    refine dec_bif (fun c8 => ?_) (fun c8 => ?_)
    · have kc9 := (ai c8 (ai (g_tt c8) (ai (g_tt c8) (ai (g_tt c8) kc8))))
      refine dec_bif (fun c9 => ?_) (fun c9 => ?_)
      · intro hr
        subst hr
        exact pFun_sound good tab_ok (f := 55) (its := [.g, .g, .g, .g, .g, .g, (.w .g), (.w .g), (.w .g), (.w (.c (.int .i64 (F67 x1)) h)), (.w .g), (.p true), .g, (.w .g), (.w .g), (.w .g), (.p true), .g, (.w .g), (.w .g), (.w .g), (.w (.c (.int .i64 (F67 x1)) h)), (.w .g), (.p true), .g]) (args := [.int .i64 x1, .agg #[.int .i64 x2, .int .i64 x3, .int .i64 x4, .int .i64 x5]]) (h := h) (h' := h) (v := .bool (decide (x3 < (F67 x1)))) (hC := (ai c9 (ai (g_tt c9) (ai (show AKeep h h from (AHeap.sub_refl h)) (ai (F67_spec x1 h _ rfl) (ai (g_tt c9) (ai (g_tt c9) (ai (g_tt c9) (ai (g_tt c9) kc9))))))))) (hr := by kernel_rfl)
      · intro hr
        subst hr
        exact pFun_sound good tab_ok (f := 55) (its := [.g, .g, .g, .g, .g, .g, (.w .g), (.w .g), (.w .g), (.w (.c (.int .i64 (F67 x1)) h)), (.w .g), (.p true), .g, (.w .g), (.w .g), (.w .g), (.p true), .g, .n, .n, .n, .n, .n, (.p false), .g]) (args := [.int .i64 x1, .agg #[.int .i64 x2, .int .i64 x3, .int .i64 x4, .int .i64 x5]]) (h := h) (h' := h) (v := .bool false) (hC := (ai c9 (ai (g_ft c9) (ai (g_ft c9) (ai (g_ft c9) (ai (g_ft c9) (ai (g_ft c9) kc9))))))) (hr := by kernel_rfl)
    · intro hr
      subst hr
      exact pFun_sound good tab_ok (f := 55) (its := [.g, .g, .g, .g, .g, .g, (.w .g), (.w .g), (.w .g), (.w (.c (.int .i64 (F67 x1)) h)), (.w .g), (.p true), .g, .n, .n, .n, (.p false), .g, .n, .n, .n, .n, .n, .g, .g]) (args := [.int .i64 x1, .agg #[.int .i64 x2, .int .i64 x3, .int .i64 x4, .int .i64 x5]]) (h := h) (h' := h) (v := .bool false) (hC := (ai (g_ft l_f) (ai (g_ft l_f) (ai (g_ft l_f) (ai (g_ft l_f) (ai (g_ft l_f) (ai c8 (ai (g_ft c8) (ai (g_ft c8) (ai (g_ft c8) kc8)))))))))) (hr := by kernel_rfl)
  · intro hr
    subst hr
    exact pFun_sound good tab_ok (f := 55) (its := [.g, .g, .g, .g, .g, .g, .n, .n, .n, .n, .n, (.p false), .g, .n, .n, .n, .g, .g, .n, .n, .n, .n, .n, .g, .g]) (args := [.int .i64 x1, .agg #[.int .i64 x2, .int .i64 x3, .int .i64 x4, .int .i64 x5]]) (h := h) (h' := h) (v := .bool false) (hC := (ai (g_ft l_f) (ai (g_ft l_f) (ai (g_ft l_f) (ai (g_ft l_f) (ai (g_ft l_f) (ai (g_ft l_f) (ai (g_ft l_f) (ai (g_ft l_f) (ai c6 (ai (g_ft c6) (ai (g_ft c6) (ai (g_ft c6) (ai (g_ft c6) (ai (g_ft c6) trivial))))))))))))))) (hr := by kernel_rfl)
/-! 56 jacquard/jacquardref30.Weight -/
def F56__1 (x3 : Int) : Int := (if 1048576 < (if (-1048576) > x3 then (-1048576) else x3) then 1048576 else (if (-1048576) > x3 then (-1048576) else x3))
def F56__2 (x4 : Int) : Int := (if 1048576 < (if (-1048576) > x4 then (-1048576) else x4) then 1048576 else (if (-1048576) > x4 then (-1048576) else x4))
def F56__3 (x4 : Int) (x5 : Int) : Int := (IntKind.i64.wrap ((if 256 < (if 0 > x5 then 0 else x5) then 256 else (if 0 > x5 then 0 else x5)) * (F56__2 x4)))
def F56 (x1 : Int) (x2 : Int) (x3 : Int) (x4 : Int) (x5 : Int) : Int :=
  (IntKind.i64.wrap ((F56__1 x3) - (F56__3 x4 x5)))
set_option maxRecDepth 100000 in
theorem F56_spec (x1 : Int) (x2 : Int) (x3 : Int) (x4 : Int) (x5 : Int) (h : AHeap)  (r : Int) : F56 x1 x2 x3 x4 x5 = r → ACalls Try.prog 56 [.agg #[.int .i64 x1, .int .i64 x2, .int .i64 x3, .int .i64 x4], .int .i64 x5] h (fun v' h'' => v' = (.int .i64 r : Value) ∧ h'' = h) := by
  unfold F56
  intro hr
  subst hr
  exact pFun_sound good tab_ok (f := 56) (its := [.g, .g, .g, .g, .g, .g, .g, .g, .g, .g, .g, .g, .g, .g, .g, .g, .g, .g, .g, .g, .g, .g, .g]) (args := [.agg #[.int .i64 x1, .int .i64 x2, .int .i64 x3, .int .i64 x4], .int .i64 x5]) (h := h) (h' := h) (v := .int .i64 (IntKind.i64.wrap ((F56__1 x3) - (F56__3 x4 x5)))) (hC := trivial) (hr := by kernel_rfl)
/-! 51 jacquard/jacquardref30.Walks -/
def F51_L : List Nat := []
def F51_D : List (Nat × List (Nat × Nat)) := [(19, [(0, 2), (1, 2), (2, 2), (3, 2), (4, 2), (8, 2), (9, 2), (10, 2), (11, 2), (13, 2), (14, 2), (15, 2), (16, 2), (17, 2), (21, 2), (22, 2), (23, 2), (24, 2), (28, 2), (29, 2), (30, 2), (31, 2), (32, 2), (5, 6), (6, 2), (7, 6), (12, 6), (18, 6), (19, 2), (20, 6), (25, 6), (26, 2), (27, 6), (33, 1), (34, 2), (35, 2), (36, 0)]), (33, [(0, 2), (1, 2), (2, 2), (3, 2), (4, 2), (5, 2), (6, 2), (7, 2), (8, 2), (9, 2), (10, 2), (11, 2), (12, 2), (13, 2), (14, 2), (15, 2), (16, 2), (17, 2), (18, 2), (19, 2), (20, 2), (21, 2), (22, 2), (23, 2), (24, 2), (25, 2), (26, 2), (27, 2), (28, 2), (29, 0)])]
def F51__1 (x3 : Int) (y35 : Int × Int × Int × Int) (y41 : Int) : Int := (if (F56 y35.1 y35.2.1 y35.2.2.1 y35.2.2.2 x3) > y41 then (F56 y35.1 y35.2.1 y35.2.2.1 y35.2.2.2 x3) else y41)
def F51_m1_1 : List Bool := (false :: false :: false :: (rp 5 true (false :: false :: false :: (rp 8 true (false :: false :: (rp 152 true []))))))
def F51_m1_0 : List Bool := (false :: false :: false :: (rp 5 true (false :: false :: false :: (rp 8 true (false :: false :: (rp 4 true (false :: false :: (rp 146 true []))))))))
def F51_s1 (x1 : Int) (a14 : Int) (l15 : List Int) : Option ((Int × (List Int)) ⊕ (List Int)) :=
  (bif decide (a14 < (F67 x1)) then
   (Option.bind (at? l15 a14) fun y18 =>
   some (.inl ((IntKind.i64.wrap (a14 + 1)), (setI l15 a14 (-1152921504606846976)))))
  else
   some (.inr l15))
def F51_h1 (x1 : Int) (v2 : Hd) (x3 : Int) (a7 : Int) (u8 : List Hd) (v12 : Hd) (h16 : AHeap) (a14 : Int) (l15 : List Int) : AS := ⟨((.int .i64 (F67 x1)) :: (sv v2) :: (.int .i64 x3) :: (rp 5 junk ((sv (hov u8)) :: (.int .i64 a7) :: (sv v12) :: (rp 8 junk ((.int .i64 (F67 x1)) :: (.int .i64 a7) :: (rp 4 junk ((.int .i64 (F67 x1)) :: (.int .i64 a14) :: (rp 146 junk [])))))))), [], h16⟩
theorem F51_d1 : drawsOk F51_D (codeOf Try.prog 51 [1, 1, 1, 0, 1, 0, 0, 1, 1, 0, 0, 1, 1, 0, 1, 0, 0]) = true := by kernel_rfl
def F51_x1_0 (h : AHeap) (x1 : Int) (v2 : Hd) (x3 : Int) (a7 : Int) (l8 : List (List Int)) (u8 : List Hd) (v12 : Hd) (hx : AHeap) (r : (List Int)) : AS := ⟨((.int .i64 (F67 x1)) :: (sv v2) :: (.int .i64 x3) :: (rp 5 junk ((sv (hov u8)) :: (.int .i64 a7) :: (sv v12) :: (rp 8 junk ((.int .i64 (F67 x1)) :: (.int .i64 a7) :: (rp 152 junk [])))))), [], hx⟩
def F51_i1 (h : AHeap) (x1 : Int) (v2 : Hd) (x3 : Int) (a7 : Int) (l8 : List (List Int)) (u8 : List Hd) (v12 : Hd) (s : Int × (List Int)) (S : AS) : Prop := ∃ (h16 : AHeap), Heapy h h16 ([⟨(hov u8), 29, 1, List.flatMap encH (List.tail u8)⟩, ⟨v12, 3, 1, List.flatMap enc3 s.2⟩] ++ NIn 3 1 enc3 (List.tail u8) l8) ∧ S = (F51_h1 x1 v2 x3 a7 u8 v12 h16 s.1 s.2)
def F51_x1 (h : AHeap) (x1 : Int) (v2 : Hd) (x3 : Int) (a7 : Int) (l8 : List (List Int)) (u8 : List Hd) (v12 : Hd) (r : (List Int)) (e : Exit) (S : AS) : Prop := e = (.exit 2) ∧ ∃ (hx : AHeap), Heapy h hx ([⟨(hov u8), 29, 1, List.flatMap encH (List.tail u8)⟩, ⟨v12, 3, 1, List.flatMap enc3 r⟩] ++ NIn 3 1 enc3 (List.tail u8) l8) ∧ S = (F51_x1_0 h x1 v2 x3 a7 l8 u8 v12 hx r)
set_option maxRecDepth 100000 in
theorem F51_r1 (h : AHeap) (x1 : Int) (v2 : Hd) (x3 : Int) (a7 : Int) (l8 : List (List Int)) (u8 : List Hd) (v12 : Hd) (a14 : Int) (l15 : List Int) (S : AS) (hI : (F51_i1 h x1 v2 x3 a7 l8 u8 v12) (a14, l15) S) (o : (Int × (List Int)) ⊕ (List Int)) : F51_s1 x1 a14 l15 = some o → Rd Try.prog (codeOf Try.prog 51 [1, 1, 1, 0, 1, 0, 0, 1, 1, 0, 0, 1, 1, 0, 1, 0, 0]) (F51_i1 h x1 v2 x3 a7 l8 u8 v12) (F51_x1 h x1 v2 x3 a7 l8 u8 v12) S o := by
  obtain ⟨h16, hp16, rfl⟩ := hI
  unfold F51_s1
  refine dec_bif (fun c17 => ?_) (fun c17 => ?_)
  · refine bind_opt fun y18 e18 => ?_
    obtain ⟨id18, off18, g18, cs18, ix18, at18, rfl⟩ := SlE.at (Heapy.sle (v := v12) (xs := l15) (enc := enc3) hp16 1 rfl (fun _ => rfl) (by decide)) e18
    obtain ⟨h19, m19, hp19⟩ := Heapy.store (P := Try.prog) hp16 1 (v := v12) (xs := l15) (enc := enc3) rfl (fun _ => rfl) e18 (y' := (-1152921504606846976)) ix18 (t := 3) (x := .int .i64 (-1152921504606846976)) 0 (vs := [.int .i64 (-1152921504606846976)]) rfl (by kernel_rfl) rfl rfl rfl rfl
    intro hr
    obtain rfl := Option.some.inj hr
    exact ⟨(F51_h1 x1 v2 x3 a7 u8 v12 h19 (IntKind.i64.wrap (a14 + 1)) (setI l15 a14 (-1152921504606846976))), ⟨h19, (Heapy.pickN2 (A := [⟨(hov u8), 29, 1, List.flatMap encH (List.tail u8)⟩, ⟨v12, 3, 1, List.flatMap enc3 (setI l15 a14 (-1152921504606846976))⟩]) (N := NIn 3 1 enc3 (List.tail u8) l8) hp19 2 rfl [0, 1] (by decide) rfl), rfl⟩, pEnd_sound good (L := F51_L) (D := F51_D) (its := [.g, (.b true), .g, .g, .g, .g, (.ix id18 off18 g18), (.mm undef h19), .g, .g]) (ds := F51_m1_0) (ks := []) (e := .normal) (s2 := (F51_h1 x1 v2 x3 a7 u8 v12 h19 (IntKind.i64.wrap (a14 + 1)) (setI l15 a14 (-1152921504606846976)))) (hC := (ai m19 (ai ix18 (ai c17 trivial)))) (hd := F51_d1) (h := by kernel_rfl)⟩
  · intro hr
    obtain rfl := Option.some.inj hr
    refine ⟨(.exit 2), (F51_x1_0 h x1 v2 x3 a7 l8 u8 v12 h16 (l15 : (List Int))), (by intro hh; cases hh), ?_, pEnd_sound good (L := F51_L) (D := F51_D) (its := [.g, (.b false)]) (ds := F51_m1_1) (ks := []) (e := (.exit 2)) (s2 := (F51_x1_0 h x1 v2 x3 a7 l8 u8 v12 h16 (l15 : (List Int)))) (hC := (ai c17 trivial)) (hd := F51_d1) (h := by kernel_rfl)⟩
    exact ⟨rfl, h16, (Heapy.pickN2 (A := [⟨(hov u8), 29, 1, List.flatMap encH (List.tail u8)⟩, ⟨v12, 3, 1, List.flatMap enc3 l15⟩]) (N := NIn 3 1 enc3 (List.tail u8) l8) hp16 2 rfl [0, 1] (by decide) rfl), rfl⟩
theorem F51_l1 (h : AHeap) (x1 : Int) (v2 : Hd) (x3 : Int) (a7 : Int) (l8 : List (List Int)) (u8 : List Hd) (v12 : Hd) (x : Int × (List Int)) (r : (List Int)) (hl : loopO (fun (s : Int × (List Int)) => F51_s1 x1 s.1 s.2) x = some r) (S : AS) (hI : (F51_i1 h x1 v2 x3 a7 l8 u8 v12) x S) : ∃ e S', (F51_x1 h x1 v2 x3 a7 l8 u8 v12) r e S' ∧ AWp Try.prog (.loop (codeOf Try.prog 51 [1, 1, 1, 0, 1, 0, 0, 1, 1, 0, 0, 1, 1, 0, 1, 0, 0])) (Ends1 e S') S :=
  loop_rel (fun x S hI => F51_r1 h x1 v2 x3 a7 l8 u8 v12 x.1 x.2 S hI) hl hI
def F51_m2_1 : List Bool := (false :: false :: false :: (rp 5 true (false :: (rp 164 true []))))
def F51_m2_0 : List Bool := (false :: false :: false :: (rp 5 true (false :: (rp 10 true (false :: false :: (rp 152 true []))))))
def F51_s2 (x1 : Int) (a7 : Int) (l8 : List (List Int)) : Option ((Int × (List (List Int))) ⊕ (List (List Int))) :=
  (bif decide (a7 < (F67 x1)) then
   (bif (!(okLen (F67 x1) (F67 x1) 8)) then none else
   (Option.bind (loopO (fun (s : Int × (List Int)) => F51_s1 x1 s.1 s.2) (0, (List.replicate (F67 x1).toNat (0 : Int)))) fun y20 =>
   (Option.bind (at? y20 a7) fun y22 =>
   (bif (!(okApp (l8.length + 1) 24)) then none else
   some (.inl ((IntKind.i64.wrap (a7 + 1)), (l8 ++ [(setI y20 a7 0)])))))))
  else
   some (.inr l8))
def F51_h2 (x1 : Int) (v2 : Hd) (x3 : Int) (h9 : AHeap) (u8 : List Hd) (a7 : Int) (l8 : List (List Int)) : AS := ⟨((.int .i64 (F67 x1)) :: (sv v2) :: (.int .i64 x3) :: (rp 5 junk ((sv (hov u8)) :: (rp 10 junk ((.int .i64 (F67 x1)) :: (.int .i64 a7) :: (rp 152 junk [])))))), [], h9⟩
theorem F51_d2 : drawsOk F51_D (codeOf Try.prog 51 [1, 1, 1, 0, 1, 0, 0]) = true := by kernel_rfl
def F51_x2_0 (h : AHeap) (x1 : Int) (v2 : Hd) (x3 : Int) (hx : AHeap) (w0 : List Hd) (r : (List (List Int))) : AS := ⟨((.int .i64 (F67 x1)) :: (sv v2) :: (.int .i64 x3) :: (rp 5 junk ((sv (hov w0)) :: (rp 164 junk [])))), [], hx⟩
def F51_i2 (h : AHeap) (x1 : Int) (v2 : Hd) (x3 : Int) (s : Int × (List (List Int))) (S : AS) : Prop := ∃ (h9 : AHeap) (u8 : List Hd), Heapy h h9 ([⟨(hov u8), 29, 1, List.flatMap encH (List.tail u8)⟩] ++ NIn 3 1 enc3 (List.tail u8) s.2) ∧ S = (F51_h2 x1 v2 x3 h9 u8 s.1 s.2)
def F51_x2 (h : AHeap) (x1 : Int) (v2 : Hd) (x3 : Int) (r : (List (List Int))) (e : Exit) (S : AS) : Prop := e = (.exit 0) ∧ ∃ (hx : AHeap) (w0 : List Hd), Heapy h hx ([⟨(hov w0), 29, 1, List.flatMap encH (List.tail w0)⟩] ++ NIn 3 1 enc3 (List.tail w0) r) ∧ S = (F51_x2_0 h x1 v2 x3 hx w0 r)
set_option maxRecDepth 100000 in
theorem F51_r2 (h : AHeap) (x1 : Int) (v2 : Hd) (x3 : Int) (a7 : Int) (l8 : List (List Int)) (S : AS) (hI : (F51_i2 h x1 v2 x3) (a7, l8) S) (o : (Int × (List (List Int))) ⊕ (List (List Int))) : F51_s2 x1 a7 l8 = some o → Rd Try.prog (codeOf Try.prog 51 [1, 1, 1, 0, 1, 0, 0]) (F51_i2 h x1 v2 x3) (F51_x2 h x1 v2 x3) S o := by
  obtain ⟨h9, u8, hp9, rfl⟩ := hI
  unfold F51_s2
  refine dec_bif (fun c10 => ?_) (fun c10 => ?_)
  · refine guard_ok fun g11 => ?_
    obtain ⟨v12, h12, m12, hp12, _⟩ := Heapy.make hp9 (show mkInfo Try.prog 29 = some (3, 1, 8, [.int .i64 0]) by kernel_rfl) (a := (F67 x1)) (b := (F67 x1)) (by simpa using g11) (enc := enc3) (x := 0) rfl rfl
    refine bind_opt fun y20 e20 => ?_
    obtain ⟨ee20, SS20, hX20, hA20⟩ := F51_l1 h x1 v2 x3 a7 l8 u8 v12 (0, (List.replicate (F67 x1).toNat (0 : Int))) y20 e20 (F51_h1 x1 v2 x3 a7 u8 v12 h12 0 (List.replicate (F67 x1).toNat (0 : Int))) ⟨h12, (Heapy.pickN2 (A := [⟨v12, 3, 1, List.flatMap enc3 (List.replicate (F67 x1).toNat (0 : Int))⟩, ⟨(hov u8), 29, 1, List.flatMap encH (List.tail u8)⟩]) (N := NIn 3 1 enc3 (List.tail u8) l8) hp12 2 rfl [1, 0] (by decide) rfl), rfl⟩
    obtain ⟨rfl, h21, hp21, rfl⟩ := hX20
    refine bind_opt fun y22 e22 => ?_
    obtain ⟨id22, off22, g22, cs22, ix22, at22, rfl⟩ := SlE.at (Heapy.sle (v := v12) (xs := y20) (enc := enc3) hp21 1 rfl (fun _ => rfl) (by decide)) e22
    obtain ⟨h23, m23, hp23⟩ := Heapy.store (P := Try.prog) hp21 1 (v := v12) (xs := y20) (enc := enc3) rfl (fun _ => rfl) e22 (y' := 0) ix22 (t := 3) (x := .int .i64 0) 0 (vs := [.int .i64 0]) rfl (by kernel_rfl) rfl rfl rfl rfl
    obtain ⟨v24, h24, m24, hq24, _⟩ := Heapy.build (P := Try.prog) hp23 (t := 75) (e := 29) (len := 1) (n := 1) (parts := [(0, (sv v12))]) (cells := List.flatMap encH [v12]) (by kernel_rfl) rfl
    have hp24 : Heapy h h24 ([⟨v24, 29, 1, List.flatMap encH [v12]⟩, ⟨(hov u8), 29, 1, List.flatMap encH (List.tail u8)⟩, ⟨v12, 3, 1, List.flatMap enc3 (setI y20 a7 0)⟩] ++ NIn 3 1 enc3 (List.tail u8) l8) := hq24
    refine guard_ok fun g26 => ?_
    obtain ⟨v27, h27, m27, hq27⟩ := Heapy.nipush (P := Try.prog) (A := [⟨v24, 29, 1, List.flatMap encH [v12]⟩, ⟨(hov u8), 29, 1, List.flatMap encH (List.tail u8)⟩, ⟨v12, 3, 1, List.flatMap enc3 (setI y20 a7 0)⟩]) (el := 3) (c := 1) (enc := enc3) (hs := (List.tail u8)) (xss := l8) hp24 1 (show 1 < 3 by decide) (ov := (hov u8)) (eo := 29) rfl 2 (show 2 < 3 by decide) (by decide) (w := v12) (ys := (setI y20 a7 0)) rfl (t := 75) (show mkInfo Try.prog 75 = some (29, 1, 24, [.slice none 0 0]) by kernel_rfl) (Y := (sv v24)) (SlE.src (enc := encH) (c := 1) (Heapy.sle (v := v24) (xs := [v12]) (enc := encH) hp24 0 rfl (fun _ => rfl) (by decide)) (fun _ => rfl)) (by simpa using g26)
    have hp27 : Heapy h h27 ([⟨v24, 29, 1, List.flatMap encH [v12]⟩, ⟨v27, 29, 1, List.flatMap encH ((List.tail u8) ++ [v12])⟩] ++ NIn 3 1 enc3 ((List.tail u8) ++ [v12]) (l8 ++ [(setI y20 a7 0)])) := hq27
    intro hr
    obtain rfl := Option.some.inj hr
    exact ⟨(F51_h2 x1 v2 x3 h27 (v27 :: ((List.tail u8) ++ [v12])) (IntKind.i64.wrap (a7 + 1)) (l8 ++ [(setI y20 a7 0)])), ⟨h27, (v27 :: ((List.tail u8) ++ [v12])), (Heapy.pickN2 (A := [⟨v24, 29, 1, List.flatMap encH [v12]⟩, ⟨v27, 29, 1, List.flatMap encH ((List.tail u8) ++ [v12])⟩]) (N := NIn 3 1 enc3 ((List.tail u8) ++ [v12]) (l8 ++ [(setI y20 a7 0)])) hp27 2 rfl [1] (by decide) rfl), rfl⟩, pEnd_sound good (L := F51_L) (D := F51_D) (its := [.g, (.b true), .g, .g, .g, (.mm (sv v12) h12), .g, .g, .g, (.l F51_m1_0 [] (.exit 2) (F51_x1_0 h x1 v2 x3 a7 l8 u8 v12 h21 y20)), .g, .g, (.ix id22 off22 g22), (.mm undef h23), .g, .g, (.mm (sv v24) h24), (.mm (sv v27) h27), .g, .g, .g]) (ds := F51_m2_0) (ks := []) (e := .normal) (s2 := (F51_h2 x1 v2 x3 h27 (v27 :: ((List.tail u8) ++ [v12])) (IntKind.i64.wrap (a7 + 1)) (l8 ++ [(setI y20 a7 0)]))) (hC := (ai m27 (ai m24 (ai m23 (ai ix22 (ai hA20 (ai m12 (ai c10 trivial)))))))) (hd := F51_d2) (h := by kernel_rfl)⟩
  · intro hr
    obtain rfl := Option.some.inj hr
    refine ⟨(.exit 0), (F51_x2_0 h x1 v2 x3 h9 u8 (l8 : (List (List Int)))), (by intro hh; cases hh), ?_, pEnd_sound good (L := F51_L) (D := F51_D) (its := [.g, (.b false)]) (ds := F51_m2_1) (ks := []) (e := (.exit 0)) (s2 := (F51_x2_0 h x1 v2 x3 h9 u8 (l8 : (List (List Int))))) (hC := (ai c10 trivial)) (hd := F51_d2) (h := by kernel_rfl)⟩
    exact ⟨rfl, h9, u8, (Heapy.pickN2 (A := [⟨(hov u8), 29, 1, List.flatMap encH (List.tail u8)⟩]) (N := NIn 3 1 enc3 (List.tail u8) l8) hp9 1 rfl [0] (by decide) rfl), rfl⟩
theorem F51_l2 (h : AHeap) (x1 : Int) (v2 : Hd) (x3 : Int) (x : Int × (List (List Int))) (r : (List (List Int))) (hl : loopO (fun (s : Int × (List (List Int))) => F51_s2 x1 s.1 s.2) x = some r) (S : AS) (hI : (F51_i2 h x1 v2 x3) x S) : ∃ e S', (F51_x2 h x1 v2 x3) r e S' ∧ AWp Try.prog (.loop (codeOf Try.prog 51 [1, 1, 1, 0, 1, 0, 0])) (Ends1 e S') S :=
  loop_rel (fun x S hI => F51_r2 h x1 v2 x3 x.1 x.2 S hI) hl hI
def F51_m3_1 : List Bool := (false :: (rp 7 true (false :: (rp 164 true []))))
def F51_m3_0 : List Bool := (false :: false :: false :: (rp 5 true (false :: (rp 33 true (false :: false :: (rp 129 true []))))))
def F51_s3 (x1 : Int) (l2 : List (Int × Int × Int × Int)) (x3 : Int) (a31 : Int) (l32 : List (List Int)) : Option ((Int × (List (List Int))) ⊕ (List (List Int))) :=
  (bif decide (a31 < (l2.length : Int)) then
   (Option.bind (at? l2 a31) fun y35 =>
   (bif (F55 (F67 x1) y35.1 y35.2.1 y35.2.2.1 y35.2.2.2) then
    (Option.bind (at? l32 y35.1) fun y38 =>
    (Option.bind (at? y38 y35.2.1) fun y41 =>
    some (.inl ((IntKind.i64.wrap (a31 + 1)), (setI l32 y35.1 (setI y38 y35.2.1 (F51__1 x3 y35 y41)))))))
   else
    some (.inl ((IntKind.i64.wrap (a31 + 1)), l32))))
  else
   some (.inr l32))
def F51_h3 (x1 : Int) (l2 : List (Int × Int × Int × Int)) (v2 : Hd) (x3 : Int) (h33 : AHeap) (u32 : List Hd) (a31 : Int) (l32 : List (List Int)) : AS := ⟨((.int .i64 (F67 x1)) :: (sv v2) :: (.int .i64 x3) :: (rp 5 junk ((sv (hov u32)) :: (rp 33 junk ((.int .i64 (l2.length : Int)) :: (.int .i64 a31) :: (rp 129 junk [])))))), [], h33⟩
theorem F51_d3 : drawsOk F51_D (codeOf Try.prog 51 [1, 1, 1, 1, 0, 1, 0, 0]) = true := by kernel_rfl
def F51_x3_0 (h : AHeap) (x1 : Int) (hx : AHeap) (w0 : List Hd) (r : (List (List Int))) : AS := ⟨((.int .i64 (F67 x1)) :: (rp 7 junk ((sv (hov w0)) :: (rp 164 junk [])))), [], hx⟩
def F51_i3 (h : AHeap) (x1 : Int) (l2 : List (Int × Int × Int × Int)) (v2 : Hd) (x3 : Int) (s : Int × (List (List Int))) (S : AS) : Prop := ∃ (h33 : AHeap) (u32 : List Hd), Heapy h h33 ([⟨(hov u32), 29, 1, List.flatMap encH (List.tail u32)⟩] ++ NIn 3 1 enc3 (List.tail u32) s.2) ∧ S = (F51_h3 x1 l2 v2 x3 h33 u32 s.1 s.2)
def F51_x3 (h : AHeap) (x1 : Int) (r : (List (List Int))) (e : Exit) (S : AS) : Prop := e = (.exit 4) ∧ ∃ (hx : AHeap) (w0 : List Hd), Heapy h hx ([⟨(hov w0), 29, 1, List.flatMap encH (List.tail w0)⟩] ++ NIn 3 1 enc3 (List.tail w0) r) ∧ S = (F51_x3_0 h x1 hx w0 r)
set_option maxRecDepth 100000 in
theorem F51_r3 (h : AHeap) (x1 : Int) (l2 : List (Int × Int × Int × Int)) (v2 : Hd) (hv2 : SlE E57 4 h (sv v2) l2) (x3 : Int) (a31 : Int) (l32 : List (List Int)) (S : AS) (hI : (F51_i3 h x1 l2 v2 x3) (a31, l32) S) (o : (Int × (List (List Int))) ⊕ (List (List Int))) : F51_s3 x1 l2 x3 a31 l32 = some o → Rd Try.prog (codeOf Try.prog 51 [1, 1, 1, 1, 0, 1, 0, 0]) (F51_i3 h x1 l2 v2 x3) (F51_x3 h x1) S o := by
  obtain ⟨h33, u32, hp33, rfl⟩ := hI
  unfold F51_s3
  refine dec_bif (fun c34 => ?_) (fun c34 => ?_)
  · refine bind_opt fun y35 e35 => ?_
    obtain ⟨id35, off35, g35, cs35, ix35, at35, rfl⟩ := SlE.at hv2 e35
    have kc37 := (ai (F55_spec (F67 x1) y35.1 y35.2.1 y35.2.2.1 y35.2.2.2 h33 _ rfl) (ai (At.agg (P := Try.prog) (t := 57) (v := .agg #[.int .i64 y35.1, .int .i64 y35.2.1, .int .i64 y35.2.2.1, .int .i64 y35.2.2.2]) (m := 4) (At.mono (Heapy.sub hp33) at35) (by kernel_rfl) (by kernel_rfl) 0 (by kernel_rfl) rfl) (ai ix35 (ai c34 trivial))))
    refine dec_bif (fun c37 => ?_) (fun c37 => ?_)
    · refine bind_opt fun y38 e38 => ?_
      obtain ⟨id38, off38, g38, cs38, ix38, _, _⟩ := SlE.at (Heapy.sle (v := (hov u32)) (xs := (List.tail u32)) (enc := encH) hp33 0 rfl (fun _ => rfl) (by decide)) (Heapy.niat (A := [⟨(hov u32), 29, 1, List.flatMap encH (List.tail u32)⟩]) (hs := (List.tail u32)) (xss := l32) hp33 e38)
      have at39 : At h33 id38 off38 g38 (encH (hnth (List.tail u32) y35.1)) := (SlE.atp (Heapy.sle (v := (hov u32)) (xs := (List.tail u32)) (enc := encH) hp33 0 rfl (fun _ => rfl) (by decide)) ix38 (Heapy.niat (A := [⟨(hov u32), 29, 1, List.flatMap encH (List.tail u32)⟩]) (hs := (List.tail u32)) (xss := l32) hp33 e38)).elim fun cs k => by obtain ⟨k1, rfl⟩ := k; exact k1
      have at40 : At h33 id38 off38 g38 (encH (hnth (List.tail u32) y35.1)) := (SlE.atp (Heapy.sle (v := (hov u32)) (xs := (List.tail u32)) (enc := encH) hp33 0 rfl (fun _ => rfl) (by decide)) ix38 (Heapy.niat (A := [⟨(hov u32), 29, 1, List.flatMap encH (List.tail u32)⟩]) (hs := (List.tail u32)) (xss := l32) hp33 e38)).elim fun cs k => by obtain ⟨k1, rfl⟩ := k; exact k1
      refine bind_opt fun y41 e41 => ?_
      obtain ⟨id41, off41, g41, cs41, ix41, at41, rfl⟩ := SlE.at (Heapy.nisle (A := [⟨(hov u32), 29, 1, List.flatMap encH (List.tail u32)⟩]) (el := 3) (c := 1) (enc := enc3) (hs := (List.tail u32)) (xss := l32) hp33 e38 (fun _ => rfl) (by decide)) e41
      obtain ⟨h43, m43, hp43⟩ := Heapy.nistore (P := Try.prog) (A := [⟨(hov u32), 29, 1, List.flatMap encH (List.tail u32)⟩]) (el := 3) (c := 1) (enc := enc3) (hs := (List.tail u32)) (xss := l32) hp33 e38 (fun _ => rfl) e41 (y' := (F51__1 x3 y35 y41)) ix41 (t := 3) (x := .int .i64 (F51__1 x3 y35 y41)) 0 (vs := [.int .i64 (F51__1 x3 y35 y41)]) rfl (by kernel_rfl) rfl rfl rfl rfl
      intro hr
      obtain rfl := Option.some.inj hr
      exact ⟨(F51_h3 x1 l2 v2 x3 h43 ((hov u32) :: (List.tail u32)) (IntKind.i64.wrap (a31 + 1)) (setI l32 y35.1 (setI y38 y35.2.1 (F51__1 x3 y35 y41)))), ⟨h43, ((hov u32) :: (List.tail u32)), (Heapy.pickN2 (A := [⟨(hov u32), 29, 1, List.flatMap encH (List.tail u32)⟩]) (N := NIn 3 1 enc3 (List.tail u32) (setI l32 y35.1 (setI y38 y35.2.1 (F51__1 x3 y35 y41)))) hp43 1 rfl [0] (by decide) rfl), rfl⟩, pEnd_sound good (L := F51_L) (D := F51_D) (its := [.g, (.b true), .g, .g, .g, .g, .g, (.ix id35 off35 g35), (.ld (.agg #[.int .i64 y35.1, .int .i64 y35.2.1, .int .i64 y35.2.2.1, .int .i64 y35.2.2.2])), (.c (.bool (F55 (F67 x1) y35.1 y35.2.1 y35.2.2.1 y35.2.2.2)) h33), (.b true), .g, .g, .g, (.ix id35 off35 g35), .g, .g, .g, (.ix id35 off35 g35), .g, .g, .g, .g, (.ix id35 off35 g35), .g, .g, .g, (.ix id35 off35 g35), .g, .g, .g, (.ix id35 off35 g35), (.ld (.agg #[.int .i64 y35.1, .int .i64 y35.2.1, .int .i64 y35.2.2.1, .int .i64 y35.2.2.2])), .g, (.ld (.int .i64 y35.1)), (.ix id38 off38 g38), (.ld ((sv (hnth (List.tail u32) y35.1)))), (.ld (.int .i64 y35.2.1)), (.ld (.int .i64 y35.1)), (.ix id38 off38 g38), (.ld ((sv (hnth (List.tail u32) y35.1)))), (.ld (.int .i64 y35.2.1)), (.ix id41 off41 g41), (.ld (.int .i64 y41)), (.c (.int .i64 (F56 y35.1 y35.2.1 y35.2.2.1 y35.2.2.2 x3)) h33), .g, (.ix id41 off41 g41), (.mm undef h43), .g, .g]) (ds := F51_m3_0) (ks := []) (e := .normal) (s2 := (F51_h3 x1 l2 v2 x3 h43 ((hov u32) :: (List.tail u32)) (IntKind.i64.wrap (a31 + 1)) (setI l32 y35.1 (setI y38 y35.2.1 (F51__1 x3 y35 y41))))) (hC := (ai m43 (ai ix41 (ai (show AKeep h33 h33 from (AHeap.sub_refl h33)) (ai (F56_spec y35.1 y35.2.1 y35.2.2.1 y35.2.2.2 x3 h33 _ rfl) (ai (At.one (P := Try.prog) (t := 3) (v := .int .i64 y41) at41 (by kernel_rfl) 0 rfl rfl) (ai ix41 (ai (At.one (P := Try.prog) (t := 3) (v := .int .i64 y35.2.1) (At.mono (Heapy.sub hp33) at35) (by kernel_rfl) 1 rfl rfl) (ai (At.one (P := Try.prog) (t := 29) (v := (sv (hnth (List.tail u32) y35.1))) at40 (by kernel_rfl) 0 rfl rfl) (ai ix38 (ai (At.one (P := Try.prog) (t := 3) (v := .int .i64 y35.1) (At.mono (Heapy.sub hp33) at35) (by kernel_rfl) 0 rfl rfl) (ai (At.one (P := Try.prog) (t := 3) (v := .int .i64 y35.2.1) (At.mono (Heapy.sub hp33) at35) (by kernel_rfl) 1 rfl rfl) (ai (At.one (P := Try.prog) (t := 29) (v := (sv (hnth (List.tail u32) y35.1))) at39 (by kernel_rfl) 0 rfl rfl) (ai ix38 (ai (At.one (P := Try.prog) (t := 3) (v := .int .i64 y35.1) (At.mono (Heapy.sub hp33) at35) (by kernel_rfl) 0 rfl rfl) (ai (At.agg (P := Try.prog) (t := 57) (v := .agg #[.int .i64 y35.1, .int .i64 y35.2.1, .int .i64 y35.2.2.1, .int .i64 y35.2.2.2]) (m := 4) (At.mono (Heapy.sub hp33) at35) (by kernel_rfl) (by kernel_rfl) 0 (by kernel_rfl) rfl) (ai ix35 (ai ix35 (ai ix35 (ai ix35 (ai ix35 (ai c37 kc37)))))))))))))))))))))) (hd := F51_d3) (h := by kernel_rfl)⟩
    · intro hr
      obtain rfl := Option.some.inj hr
      exact ⟨(F51_h3 x1 l2 v2 x3 h33 u32 (IntKind.i64.wrap (a31 + 1)) l32), ⟨h33, u32, (Heapy.pickN2 (A := [⟨(hov u32), 29, 1, List.flatMap encH (List.tail u32)⟩]) (N := NIn 3 1 enc3 (List.tail u32) l32) hp33 1 rfl [0] (by decide) rfl), rfl⟩, pEnd_sound good (L := F51_L) (D := F51_D) (its := [.g, (.b true), .g, .g, .g, .g, .g, (.ix id35 off35 g35), (.ld (.agg #[.int .i64 y35.1, .int .i64 y35.2.1, .int .i64 y35.2.2.1, .int .i64 y35.2.2.2])), (.c (.bool (F55 (F67 x1) y35.1 y35.2.1 y35.2.2.1 y35.2.2.2)) h33), (.b false), .g, .g]) (ds := F51_m3_0) (ks := []) (e := .normal) (s2 := (F51_h3 x1 l2 v2 x3 h33 u32 (IntKind.i64.wrap (a31 + 1)) l32)) (hC := (ai c37 kc37)) (hd := F51_d3) (h := by kernel_rfl)⟩
  · intro hr
    obtain rfl := Option.some.inj hr
    refine ⟨(.exit 4), (F51_x3_0 h x1 h33 u32 (l32 : (List (List Int)))), (by intro hh; cases hh), ?_, pEnd_sound good (L := F51_L) (D := F51_D) (its := [.g, (.b false)]) (ds := F51_m3_1) (ks := []) (e := (.exit 4)) (s2 := (F51_x3_0 h x1 h33 u32 (l32 : (List (List Int))))) (hC := (ai c34 trivial)) (hd := F51_d3) (h := by kernel_rfl)⟩
    exact ⟨rfl, h33, u32, (Heapy.pickN2 (A := [⟨(hov u32), 29, 1, List.flatMap encH (List.tail u32)⟩]) (N := NIn 3 1 enc3 (List.tail u32) l32) hp33 1 rfl [0] (by decide) rfl), rfl⟩
theorem F51_l3 (h : AHeap) (x1 : Int) (l2 : List (Int × Int × Int × Int)) (v2 : Hd) (hv2 : SlE E57 4 h (sv v2) l2) (x3 : Int) (x : Int × (List (List Int))) (r : (List (List Int))) (hl : loopO (fun (s : Int × (List (List Int))) => F51_s3 x1 l2 x3 s.1 s.2) x = some r) (S : AS) (hI : (F51_i3 h x1 l2 v2 x3) x S) : ∃ e S', (F51_x3 h x1) r e S' ∧ AWp Try.prog (.loop (codeOf Try.prog 51 [1, 1, 1, 1, 0, 1, 0, 0])) (Ends1 e S') S :=
  loop_rel (fun x S hI => F51_r3 h x1 l2 v2 hv2 x3 x.1 x.2 S hI) hl hI
def F51_m4_1 : List Bool := (false :: (rp 7 true (false :: (rp 4 true (false :: (rp 75 true (false :: false :: (rp 10 true (false :: false :: (rp 70 true []))))))))))
def F51_m4_0 : List Bool := (false :: (rp 7 true (false :: (rp 4 true (false :: false :: (rp 74 true (false :: false :: (rp 10 true (false :: false :: true :: true :: false :: false :: (rp 66 true []))))))))))
def F51_s4 (x1 : Int) (a46 : Int) (a54 : Int) (a58 : Int) (l59 : List (List Int)) : Option ((Int × (List (List Int))) ⊕ (List (List Int))) :=
  (bif decide (a58 < (F67 x1)) then
   (Option.bind (at? l59 a54) fun y62 =>
   (Option.bind (at? y62 a46) fun y64 =>
   (bif decide (y64 > (-1152921504606846976)) then
    (Option.bind (at? l59 a46) fun y66 =>
    (Option.bind (at? y66 a58) fun y68 =>
    (bif decide (y68 > (-1152921504606846976)) then
     (Option.bind (at? y62 a58) fun y72 =>
     some (.inl ((IntKind.i64.wrap (a58 + 1)), (setI l59 a54 (setI y62 a58 (if (IntKind.i64.wrap (y64 + y68)) > y72 then (IntKind.i64.wrap (y64 + y68)) else y72))))))
    else
     some (.inl ((IntKind.i64.wrap (a58 + 1)), l59)))))
   else
    some (.inl ((IntKind.i64.wrap (a58 + 1)), l59)))))
  else
   some (.inr l59))
def F51_h4 (x1 : Int) (a46 : Int) (a54 : Int) (h60 : AHeap) (u59 : List Hd) (a58 : Int) (l59 : List (List Int)) : AS := ⟨((.int .i64 (F67 x1)) :: (rp 7 junk ((sv (hov u59)) :: (rp 4 junk ((.int .i64 a46) :: (.int .i64 a54) :: (rp 74 junk ((.int .i64 (F67 x1)) :: (.int .i64 a46) :: (rp 10 junk ((.int .i64 (F67 x1)) :: (.int .i64 a54) :: junk :: junk :: (.int .i64 (F67 x1)) :: (.int .i64 a58) :: (rp 66 junk [])))))))))), [], h60⟩
theorem F51_d4 : drawsOk F51_D (codeOf Try.prog 51 [1, 1, 1, 1, 1, 0, 1, 0, 0, 1, 1, 0, 0, 1, 1, 0, 1, 0, 0, 1, 1, 0, 0, 1, 1, 0, 0]) = true := by kernel_rfl
def F51_x4_0 (h : AHeap) (x1 : Int) (a46 : Int) (a54 : Int) (hx : AHeap) (w0 : List Hd) (r : (List (List Int))) : AS := ⟨((.int .i64 (F67 x1)) :: (rp 7 junk ((sv (hov w0)) :: (rp 4 junk ((.int .i64 a46) :: (rp 75 junk ((.int .i64 (F67 x1)) :: (.int .i64 a46) :: (rp 10 junk ((.int .i64 (F67 x1)) :: (.int .i64 a54) :: (rp 70 junk [])))))))))), [], hx⟩
def F51_i4 (h : AHeap) (x1 : Int) (a46 : Int) (a54 : Int) (s : Int × (List (List Int))) (S : AS) : Prop := ∃ (h60 : AHeap) (u59 : List Hd), Heapy h h60 ([⟨(hov u59), 29, 1, List.flatMap encH (List.tail u59)⟩] ++ NIn 3 1 enc3 (List.tail u59) s.2) ∧ S = (F51_h4 x1 a46 a54 h60 u59 s.1 s.2)
def F51_x4 (h : AHeap) (x1 : Int) (a46 : Int) (a54 : Int) (r : (List (List Int))) (e : Exit) (S : AS) : Prop := e = (.exit 10) ∧ ∃ (hx : AHeap) (w0 : List Hd), Heapy h hx ([⟨(hov w0), 29, 1, List.flatMap encH (List.tail w0)⟩] ++ NIn 3 1 enc3 (List.tail w0) r) ∧ S = (F51_x4_0 h x1 a46 a54 hx w0 r)
set_option maxRecDepth 100000 in
theorem F51_r4 (h : AHeap) (x1 : Int) (a46 : Int) (a54 : Int) (a58 : Int) (l59 : List (List Int)) (S : AS) (hI : (F51_i4 h x1 a46 a54) (a58, l59) S) (o : (Int × (List (List Int))) ⊕ (List (List Int))) : F51_s4 x1 a46 a54 a58 l59 = some o → Rd Try.prog (codeOf Try.prog 51 [1, 1, 1, 1, 1, 0, 1, 0, 0, 1, 1, 0, 0, 1, 1, 0, 1, 0, 0, 1, 1, 0, 0, 1, 1, 0, 0]) (F51_i4 h x1 a46 a54) (F51_x4 h x1 a46 a54) S o := by
  obtain ⟨h60, u59, hp60, rfl⟩ := hI
  unfold F51_s4
  refine dec_bif (fun c61 => ?_) (fun c61 => ?_)
  · refine bind_opt fun y62 e62 => ?_
    obtain ⟨id62, off62, g62, cs62, ix62, _, _⟩ := SlE.at (Heapy.sle (v := (hov u59)) (xs := (List.tail u59)) (enc := encH) hp60 0 rfl (fun _ => rfl) (by decide)) (Heapy.niat (A := [⟨(hov u59), 29, 1, List.flatMap encH (List.tail u59)⟩]) (hs := (List.tail u59)) (xss := l59) hp60 e62)
    have at63 : At h60 id62 off62 g62 (encH (hnth (List.tail u59) a54)) := (SlE.atp (Heapy.sle (v := (hov u59)) (xs := (List.tail u59)) (enc := encH) hp60 0 rfl (fun _ => rfl) (by decide)) ix62 (Heapy.niat (A := [⟨(hov u59), 29, 1, List.flatMap encH (List.tail u59)⟩]) (hs := (List.tail u59)) (xss := l59) hp60 e62)).elim fun cs k => by obtain ⟨k1, rfl⟩ := k; exact k1
    refine bind_opt fun y64 e64 => ?_
    obtain ⟨id64, off64, g64, cs64, ix64, at64, rfl⟩ := SlE.at (Heapy.nisle (A := [⟨(hov u59), 29, 1, List.flatMap encH (List.tail u59)⟩]) (el := 3) (c := 1) (enc := enc3) (hs := (List.tail u59)) (xss := l59) hp60 e62 (fun _ => rfl) (by decide)) e64
    have kc65 := (ai (At.one (P := Try.prog) (t := 3) (v := .int .i64 y64) at64 (by kernel_rfl) 0 rfl rfl) (ai ix64 (ai (At.one (P := Try.prog) (t := 29) (v := (sv (hnth (List.tail u59) a54))) at63 (by kernel_rfl) 0 rfl rfl) (ai ix62 (ai c61 trivial)))))
    refine dec_bif (fun c65 => ?_) (fun c65 => ?_)
    · refine bind_opt fun y66 e66 => ?_
      obtain ⟨id66, off66, g66, cs66, ix66, _, _⟩ := SlE.at (Heapy.sle (v := (hov u59)) (xs := (List.tail u59)) (enc := encH) hp60 0 rfl (fun _ => rfl) (by decide)) (Heapy.niat (A := [⟨(hov u59), 29, 1, List.flatMap encH (List.tail u59)⟩]) (hs := (List.tail u59)) (xss := l59) hp60 e66)
      have at67 : At h60 id66 off66 g66 (encH (hnth (List.tail u59) a46)) := (SlE.atp (Heapy.sle (v := (hov u59)) (xs := (List.tail u59)) (enc := encH) hp60 0 rfl (fun _ => rfl) (by decide)) ix66 (Heapy.niat (A := [⟨(hov u59), 29, 1, List.flatMap encH (List.tail u59)⟩]) (hs := (List.tail u59)) (xss := l59) hp60 e66)).elim fun cs k => by obtain ⟨k1, rfl⟩ := k; exact k1
      refine bind_opt fun y68 e68 => ?_
      obtain ⟨id68, off68, g68, cs68, ix68, at68, rfl⟩ := SlE.at (Heapy.nisle (A := [⟨(hov u59), 29, 1, List.flatMap encH (List.tail u59)⟩]) (el := 3) (c := 1) (enc := enc3) (hs := (List.tail u59)) (xss := l59) hp60 e66 (fun _ => rfl) (by decide)) e68
      have kc69 := (ai c65 (ai (g_tt c65) (ai (At.one (P := Try.prog) (t := 3) (v := .int .i64 y68) at68 (by kernel_rfl) 0 rfl rfl) (ai (g_tt c65) (ai ix68 (ai (g_tt c65) (ai (g_tt c65) (ai (At.one (P := Try.prog) (t := 29) (v := (sv (hnth (List.tail u59) a46))) at67 (by kernel_rfl) 0 rfl rfl) (ai (g_tt c65) (ai ix66 (ai (g_tt c65) (ai (g_tt c65) (ai (g_tt c65) kc65)))))))))))))
      refine dec_bif (fun c69 => ?_) (fun c69 => ?_)
      · have at70 : At h60 id62 off62 g62 (encH (hnth (List.tail u59) a54)) := (SlE.atp (Heapy.sle (v := (hov u59)) (xs := (List.tail u59)) (enc := encH) hp60 0 rfl (fun _ => rfl) (by decide)) ix62 (Heapy.niat (A := [⟨(hov u59), 29, 1, List.flatMap encH (List.tail u59)⟩]) (hs := (List.tail u59)) (xss := l59) hp60 e62)).elim fun cs k => by obtain ⟨k1, rfl⟩ := k; exact k1
        have at71 : At h60 id62 off62 g62 (encH (hnth (List.tail u59) a54)) := (SlE.atp (Heapy.sle (v := (hov u59)) (xs := (List.tail u59)) (enc := encH) hp60 0 rfl (fun _ => rfl) (by decide)) ix62 (Heapy.niat (A := [⟨(hov u59), 29, 1, List.flatMap encH (List.tail u59)⟩]) (hs := (List.tail u59)) (xss := l59) hp60 e62)).elim fun cs k => by obtain ⟨k1, rfl⟩ := k; exact k1
        refine bind_opt fun y72 e72 => ?_
        obtain ⟨id72, off72, g72, cs72, ix72, at72, rfl⟩ := SlE.at (Heapy.nisle (A := [⟨(hov u59), 29, 1, List.flatMap encH (List.tail u59)⟩]) (el := 3) (c := 1) (enc := enc3) (hs := (List.tail u59)) (xss := l59) hp60 e62 (fun _ => rfl) (by decide)) e72
        have at73 : At h60 id62 off62 g62 (encH (hnth (List.tail u59) a54)) := (SlE.atp (Heapy.sle (v := (hov u59)) (xs := (List.tail u59)) (enc := encH) hp60 0 rfl (fun _ => rfl) (by decide)) ix62 (Heapy.niat (A := [⟨(hov u59), 29, 1, List.flatMap encH (List.tail u59)⟩]) (hs := (List.tail u59)) (xss := l59) hp60 e62)).elim fun cs k => by obtain ⟨k1, rfl⟩ := k; exact k1
        have at74 : At h60 id66 off66 g66 (encH (hnth (List.tail u59) a46)) := (SlE.atp (Heapy.sle (v := (hov u59)) (xs := (List.tail u59)) (enc := encH) hp60 0 rfl (fun _ => rfl) (by decide)) ix66 (Heapy.niat (A := [⟨(hov u59), 29, 1, List.flatMap encH (List.tail u59)⟩]) (hs := (List.tail u59)) (xss := l59) hp60 e66)).elim fun cs k => by obtain ⟨k1, rfl⟩ := k; exact k1
        obtain ⟨h75, m75, hp75⟩ := Heapy.nistore (P := Try.prog) (A := [⟨(hov u59), 29, 1, List.flatMap encH (List.tail u59)⟩]) (el := 3) (c := 1) (enc := enc3) (hs := (List.tail u59)) (xss := l59) hp60 e62 (fun _ => rfl) e72 (y' := (if (IntKind.i64.wrap (y64 + y68)) > y72 then (IntKind.i64.wrap (y64 + y68)) else y72)) ix72 (t := 3) (x := .int .i64 (if (IntKind.i64.wrap (y64 + y68)) > y72 then (IntKind.i64.wrap (y64 + y68)) else y72)) 0 (vs := [.int .i64 (if (IntKind.i64.wrap (y64 + y68)) > y72 then (IntKind.i64.wrap (y64 + y68)) else y72)]) rfl (by kernel_rfl) rfl rfl rfl rfl
        intro hr
        obtain rfl := Option.some.inj hr
        exact ⟨(F51_h4 x1 a46 a54 h75 ((hov u59) :: (List.tail u59)) (IntKind.i64.wrap (a58 + 1)) (setI l59 a54 (setI y62 a58 (if (IntKind.i64.wrap (y64 + y68)) > y72 then (IntKind.i64.wrap (y64 + y68)) else y72)))), ⟨h75, ((hov u59) :: (List.tail u59)), (Heapy.pickN2 (A := [⟨(hov u59), 29, 1, List.flatMap encH (List.tail u59)⟩]) (N := NIn 3 1 enc3 (List.tail u59) (setI l59 a54 (setI y62 a58 (if (IntKind.i64.wrap (y64 + y68)) > y72 then (IntKind.i64.wrap (y64 + y68)) else y72)))) hp75 1 rfl [0] (by decide) rfl), rfl⟩, pEnd_sound good (L := F51_L) (D := F51_D) (its := [.g, (.b true), .g, .g, .g, .g, (.ix id62 off62 g62), (.ld ((sv (hnth (List.tail u59) a54)))), .g, (.ix id64 off64 g64), (.ld (.int .i64 y64)), .g, .g, (.w .g), (.w .g), (.w (.ix id66 off66 g66)), (.w (.ld ((sv (hnth (List.tail u59) a46))))), (.w .g), (.w (.ix id68 off68 g68)), (.w (.ld (.int .i64 y68))), (.w .g), (.p true), (.b true), .g, .g, (.ix id62 off62 g62), (.ld ((sv (hnth (List.tail u59) a54)))), .g, .g, .g, (.ix id62 off62 g62), (.ld ((sv (hnth (List.tail u59) a54)))), .g, (.ix id72 off72 g72), (.ld (.int .i64 y72)), .g, .g, (.ix id62 off62 g62), (.ld ((sv (hnth (List.tail u59) a54)))), .g, (.ix id64 off64 g64), (.ld (.int .i64 y64)), .g, .g, (.ix id66 off66 g66), (.ld ((sv (hnth (List.tail u59) a46)))), .g, (.ix id68 off68 g68), (.ld (.int .i64 y68)), .g, .g, (.ix id72 off72 g72), (.mm undef h75), .g, .g]) (ds := F51_m4_0) (ks := []) (e := .normal) (s2 := (F51_h4 x1 a46 a54 h75 ((hov u59) :: (List.tail u59)) (IntKind.i64.wrap (a58 + 1)) (setI l59 a54 (setI y62 a58 (if (IntKind.i64.wrap (y64 + y68)) > y72 then (IntKind.i64.wrap (y64 + y68)) else y72))))) (hC := (ai m75 (ai ix72 (ai (At.one (P := Try.prog) (t := 3) (v := .int .i64 y68) at68 (by kernel_rfl) 0 rfl rfl) (ai ix68 (ai (At.one (P := Try.prog) (t := 29) (v := (sv (hnth (List.tail u59) a46))) at74 (by kernel_rfl) 0 rfl rfl) (ai ix66 (ai (At.one (P := Try.prog) (t := 3) (v := .int .i64 y64) at64 (by kernel_rfl) 0 rfl rfl) (ai ix64 (ai (At.one (P := Try.prog) (t := 29) (v := (sv (hnth (List.tail u59) a54))) at73 (by kernel_rfl) 0 rfl rfl) (ai ix62 (ai (At.one (P := Try.prog) (t := 3) (v := .int .i64 y72) at72 (by kernel_rfl) 0 rfl rfl) (ai ix72 (ai (At.one (P := Try.prog) (t := 29) (v := (sv (hnth (List.tail u59) a54))) at71 (by kernel_rfl) 0 rfl rfl) (ai ix62 (ai (At.one (P := Try.prog) (t := 29) (v := (sv (hnth (List.tail u59) a54))) at70 (by kernel_rfl) 0 rfl rfl) (ai ix62 (ai c69 kc69)))))))))))))))))) (hd := F51_d4) (h := by kernel_rfl)⟩
      · intro hr
        obtain rfl := Option.some.inj hr
        exact ⟨(F51_h4 x1 a46 a54 h60 u59 (IntKind.i64.wrap (a58 + 1)) l59), ⟨h60, u59, (Heapy.pickN2 (A := [⟨(hov u59), 29, 1, List.flatMap encH (List.tail u59)⟩]) (N := NIn 3 1 enc3 (List.tail u59) l59) hp60 1 rfl [0] (by decide) rfl), rfl⟩, pEnd_sound good (L := F51_L) (D := F51_D) (its := [.g, (.b true), .g, .g, .g, .g, (.ix id62 off62 g62), (.ld ((sv (hnth (List.tail u59) a54)))), .g, (.ix id64 off64 g64), (.ld (.int .i64 y64)), .g, .g, (.w .g), (.w .g), (.w (.ix id66 off66 g66)), (.w (.ld ((sv (hnth (List.tail u59) a46))))), (.w .g), (.w (.ix id68 off68 g68)), (.w (.ld (.int .i64 y68))), (.w .g), (.p true), (.b false), .g, .g]) (ds := F51_m4_0) (ks := []) (e := .normal) (s2 := (F51_h4 x1 a46 a54 h60 u59 (IntKind.i64.wrap (a58 + 1)) l59)) (hC := (ai c69 kc69)) (hd := F51_d4) (h := by kernel_rfl)⟩
    · intro hr
      obtain rfl := Option.some.inj hr
      exact ⟨(F51_h4 x1 a46 a54 h60 u59 (IntKind.i64.wrap (a58 + 1)) l59), ⟨h60, u59, (Heapy.pickN2 (A := [⟨(hov u59), 29, 1, List.flatMap encH (List.tail u59)⟩]) (N := NIn 3 1 enc3 (List.tail u59) l59) hp60 1 rfl [0] (by decide) rfl), rfl⟩, pEnd_sound good (L := F51_L) (D := F51_D) (its := [.g, (.b true), .g, .g, .g, .g, (.ix id62 off62 g62), (.ld ((sv (hnth (List.tail u59) a54)))), .g, (.ix id64 off64 g64), (.ld (.int .i64 y64)), .g, .g, .n, .n, .n, .n, .n, .n, .n, .n, (.p false), (.b false), .g, .g]) (ds := F51_m4_0) (ks := []) (e := .normal) (s2 := (F51_h4 x1 a46 a54 h60 u59 (IntKind.i64.wrap (a58 + 1)) l59)) (hC := (ai l_f (ai c65 (ai (g_ft c65) (ai (g_ft c65) (ai (g_ft c65) (ai (g_ft c65) (ai (g_ft c65) (ai (g_ft c65) (ai (g_ft c65) (ai (g_ft c65) kc65))))))))))) (hd := F51_d4) (h := by kernel_rfl)⟩
  · intro hr
    obtain rfl := Option.some.inj hr
    refine ⟨(.exit 10), (F51_x4_0 h x1 a46 a54 h60 u59 (l59 : (List (List Int)))), (by intro hh; cases hh), ?_, pEnd_sound good (L := F51_L) (D := F51_D) (its := [.g, (.b false)]) (ds := F51_m4_1) (ks := []) (e := (.exit 10)) (s2 := (F51_x4_0 h x1 a46 a54 h60 u59 (l59 : (List (List Int))))) (hC := (ai c61 trivial)) (hd := F51_d4) (h := by kernel_rfl)⟩
    exact ⟨rfl, h60, u59, (Heapy.pickN2 (A := [⟨(hov u59), 29, 1, List.flatMap encH (List.tail u59)⟩]) (N := NIn 3 1 enc3 (List.tail u59) l59) hp60 1 rfl [0] (by decide) rfl), rfl⟩
theorem F51_l4 (h : AHeap) (x1 : Int) (a46 : Int) (a54 : Int) (x : Int × (List (List Int))) (r : (List (List Int))) (hl : loopO (fun (s : Int × (List (List Int))) => F51_s4 x1 a46 a54 s.1 s.2) x = some r) (S : AS) (hI : (F51_i4 h x1 a46 a54) x S) : ∃ e S', (F51_x4 h x1 a46 a54) r e S' ∧ AWp Try.prog (.loop (codeOf Try.prog 51 [1, 1, 1, 1, 1, 0, 1, 0, 0, 1, 1, 0, 0, 1, 1, 0, 1, 0, 0, 1, 1, 0, 0, 1, 1, 0, 0])) (Ends1 e S') S :=
  loop_rel (fun x S hI => F51_r4 h x1 a46 a54 x.1 x.2 S hI) hl hI
def F51_m5_1 : List Bool := (false :: (rp 7 true (false :: (rp 80 true (false :: false :: (rp 82 true []))))))
def F51_m5_0 : List Bool := (false :: (rp 7 true (false :: (rp 4 true (false :: (rp 75 true (false :: false :: (rp 10 true (false :: false :: (rp 70 true []))))))))))
def F51_s5 (x1 : Int) (a46 : Int) (a54 : Int) (l55 : List (List Int)) : Option ((Int × (List (List Int))) ⊕ (List (List Int))) :=
  (bif decide (a54 < (F67 x1)) then
   (Option.bind (loopO (fun (s : Int × (List (List Int))) => F51_s4 x1 a46 a54 s.1 s.2) (0, l55)) fun y76 =>
   some (.inl ((IntKind.i64.wrap (a54 + 1)), y76)))
  else
   some (.inr l55))
def F51_h5 (x1 : Int) (a46 : Int) (h56 : AHeap) (u55 : List Hd) (a54 : Int) (l55 : List (List Int)) : AS := ⟨((.int .i64 (F67 x1)) :: (rp 7 junk ((sv (hov u55)) :: (rp 4 junk ((.int .i64 a46) :: (rp 75 junk ((.int .i64 (F67 x1)) :: (.int .i64 a46) :: (rp 10 junk ((.int .i64 (F67 x1)) :: (.int .i64 a54) :: (rp 70 junk [])))))))))), [], h56⟩
theorem F51_d5 : drawsOk F51_D (codeOf Try.prog 51 [1, 1, 1, 1, 1, 0, 1, 0, 0, 1, 1, 0, 0, 1, 1, 0, 1, 0, 0]) = true := by kernel_rfl
def F51_x5_0 (h : AHeap) (x1 : Int) (a46 : Int) (hx : AHeap) (w0 : List Hd) (r : (List (List Int))) : AS := ⟨((.int .i64 (F67 x1)) :: (rp 7 junk ((sv (hov w0)) :: (rp 80 junk ((.int .i64 (F67 x1)) :: (.int .i64 a46) :: (rp 82 junk [])))))), [], hx⟩
def F51_i5 (h : AHeap) (x1 : Int) (a46 : Int) (s : Int × (List (List Int))) (S : AS) : Prop := ∃ (h56 : AHeap) (u55 : List Hd), Heapy h h56 ([⟨(hov u55), 29, 1, List.flatMap encH (List.tail u55)⟩] ++ NIn 3 1 enc3 (List.tail u55) s.2) ∧ S = (F51_h5 x1 a46 h56 u55 s.1 s.2)
def F51_x5 (h : AHeap) (x1 : Int) (a46 : Int) (r : (List (List Int))) (e : Exit) (S : AS) : Prop := e = (.exit 8) ∧ ∃ (hx : AHeap) (w0 : List Hd), Heapy h hx ([⟨(hov w0), 29, 1, List.flatMap encH (List.tail w0)⟩] ++ NIn 3 1 enc3 (List.tail w0) r) ∧ S = (F51_x5_0 h x1 a46 hx w0 r)
set_option maxRecDepth 100000 in
theorem F51_r5 (h : AHeap) (x1 : Int) (a46 : Int) (a54 : Int) (l55 : List (List Int)) (S : AS) (hI : (F51_i5 h x1 a46) (a54, l55) S) (o : (Int × (List (List Int))) ⊕ (List (List Int))) : F51_s5 x1 a46 a54 l55 = some o → Rd Try.prog (codeOf Try.prog 51 [1, 1, 1, 1, 1, 0, 1, 0, 0, 1, 1, 0, 0, 1, 1, 0, 1, 0, 0]) (F51_i5 h x1 a46) (F51_x5 h x1 a46) S o := by
  obtain ⟨h56, u55, hp56, rfl⟩ := hI
  unfold F51_s5
  refine dec_bif (fun c57 => ?_) (fun c57 => ?_)
  · refine bind_opt fun y76 e76 => ?_
    obtain ⟨ee76, SS76, hX76, hA76⟩ := F51_l4 h x1 a46 a54 (0, l55) y76 e76 (F51_h4 x1 a46 a54 h56 u55 0 l55) ⟨h56, u55, (Heapy.pickN2 (A := [⟨(hov u55), 29, 1, List.flatMap encH (List.tail u55)⟩]) (N := NIn 3 1 enc3 (List.tail u55) l55) hp56 1 rfl [0] (by decide) rfl), rfl⟩
    obtain ⟨rfl, h77, w0_77, hp77, rfl⟩ := hX76
    intro hr
    obtain rfl := Option.some.inj hr
    exact ⟨(F51_h5 x1 a46 h77 w0_77 (IntKind.i64.wrap (a54 + 1)) y76), ⟨h77, w0_77, (Heapy.pickN2 (A := [⟨(hov w0_77), 29, 1, List.flatMap encH (List.tail w0_77)⟩]) (N := NIn 3 1 enc3 (List.tail w0_77) y76) hp77 1 rfl [0] (by decide) rfl), rfl⟩, pEnd_sound good (L := F51_L) (D := F51_D) (its := [.g, (.b true), .g, .g, .g, .g, (.l F51_m4_0 [] (.exit 10) (F51_x4_0 h x1 a46 a54 h77 w0_77 y76)), .g, .g]) (ds := F51_m5_0) (ks := []) (e := .normal) (s2 := (F51_h5 x1 a46 h77 w0_77 (IntKind.i64.wrap (a54 + 1)) y76)) (hC := (ai hA76 (ai c57 trivial))) (hd := F51_d5) (h := by kernel_rfl)⟩
  · intro hr
    obtain rfl := Option.some.inj hr
    refine ⟨(.exit 8), (F51_x5_0 h x1 a46 h56 u55 (l55 : (List (List Int)))), (by intro hh; cases hh), ?_, pEnd_sound good (L := F51_L) (D := F51_D) (its := [.g, (.b false)]) (ds := F51_m5_1) (ks := []) (e := (.exit 8)) (s2 := (F51_x5_0 h x1 a46 h56 u55 (l55 : (List (List Int))))) (hC := (ai c57 trivial)) (hd := F51_d5) (h := by kernel_rfl)⟩
    exact ⟨rfl, h56, u55, (Heapy.pickN2 (A := [⟨(hov u55), 29, 1, List.flatMap encH (List.tail u55)⟩]) (N := NIn 3 1 enc3 (List.tail u55) l55) hp56 1 rfl [0] (by decide) rfl), rfl⟩
theorem F51_l5 (h : AHeap) (x1 : Int) (a46 : Int) (x : Int × (List (List Int))) (r : (List (List Int))) (hl : loopO (fun (s : Int × (List (List Int))) => F51_s5 x1 a46 s.1 s.2) x = some r) (S : AS) (hI : (F51_i5 h x1 a46) x S) : ∃ e S', (F51_x5 h x1 a46) r e S' ∧ AWp Try.prog (.loop (codeOf Try.prog 51 [1, 1, 1, 1, 1, 0, 1, 0, 0, 1, 1, 0, 0, 1, 1, 0, 1, 0, 0])) (Ends1 e S') S :=
  loop_rel (fun x S hI => F51_r5 h x1 a46 x.1 x.2 S hI) hl hI
def F51_m6_2 : List Bool := (false :: (rp 7 true (false :: (rp 80 true (false :: false :: (rp 82 true []))))))
def F51_m6_1 : List Bool := (false :: (rp 7 true (false :: (rp 80 true (false :: false :: (rp 67 true (false :: false :: (rp 13 true []))))))))
def F51_m6_0 : List Bool := (rp 6 true (false :: false :: (rp 165 true [])))
def F51_s6 (x1 : Int) (y78 : (List (List Int))) (a80 : Int) : Option (Int ⊕ Nat) :=
  (bif decide (a80 < (F67 x1)) then
   (Option.bind (at? y78 a80) fun y82 =>
   (Option.bind (at? y82 a80) fun y84 =>
   (bif decide (y84 > 0) then
    some (.inr 0)
   else
    some (.inl (IntKind.i64.wrap (a80 + 1))))))
  else
   some (.inr 1))
def F51_h6 (x1 : Int) (a46 : Int) (w0_79 : List Hd) (h79 : AHeap)  (a80 : Int) : AS := ⟨((.int .i64 (F67 x1)) :: (rp 7 junk ((sv (hov w0_79)) :: (rp 80 junk ((.int .i64 (F67 x1)) :: (.int .i64 a46) :: (rp 67 junk ((.int .i64 (F67 x1)) :: (.int .i64 a80) :: (rp 13 junk [])))))))), [], h79⟩
theorem F51_d6 : drawsOk F51_D (codeOf Try.prog 51 [1, 1, 1, 1, 1, 0, 1, 0, 0, 1, 1, 0, 0, 1, 1, 1, 1, 0, 0]) = true := by kernel_rfl
def F51_x6_0 (x1 : Int) (a46 : Int) (w0_79 : List Hd) (h79 : AHeap)  (r : Nat) : AS := ⟨(rp 6 junk ((.slice none 0 0) :: (.bool false) :: (rp 165 junk []))), [], h79⟩
def F51_x6_1 (x1 : Int) (a46 : Int) (w0_79 : List Hd) (h79 : AHeap)  (r : Nat) : AS := ⟨((.int .i64 (F67 x1)) :: (rp 7 junk ((sv (hov w0_79)) :: (rp 80 junk ((.int .i64 (F67 x1)) :: (.int .i64 a46) :: (rp 82 junk [])))))), [], h79⟩
def F51_x6 (x1 : Int) (a46 : Int) (w0_79 : List Hd) (h79 : AHeap) (r : Nat) : Exit × AS := (bif Nat.beq r 0 then (.ret, (F51_x6_0 x1 a46 w0_79 h79 r)) else ((.exit 12), (F51_x6_1 x1 a46 w0_79 h79 r)))
set_option maxRecDepth 100000 in
theorem F51_r6 (h : AHeap) (x1 : Int) (a46 : Int) (y78 : (List (List Int))) (w0_79 : List Hd) (h79 : AHeap) (hp79 : Heapy h h79 ([⟨(hov w0_79), 29, 1, List.flatMap encH (List.tail w0_79)⟩] ++ NIn 3 1 enc3 (List.tail w0_79) y78)) (a80 : Int) (o : Int ⊕ Nat) : F51_s6 x1 y78 a80 = some o → RdF Try.prog (codeOf Try.prog 51 [1, 1, 1, 1, 1, 0, 1, 0, 0, 1, 1, 0, 0, 1, 1, 1, 1, 0, 0]) (fun (s : Int) => (F51_h6 x1 a46 w0_79 h79 s)) (F51_x6 x1 a46 w0_79 h79) (F51_h6 x1 a46 w0_79 h79 a80) o := by
  unfold F51_s6
  refine dec_bif (fun c81 => ?_) (fun c81 => ?_)
  · refine bind_opt fun y82 e82 => ?_
    obtain ⟨id82, off82, g82, cs82, ix82, _, _⟩ := SlE.at (Heapy.sle (v := (hov w0_79)) (xs := (List.tail w0_79)) (enc := encH) hp79 0 rfl (fun _ => rfl) (by decide)) (Heapy.niat (A := [⟨(hov w0_79), 29, 1, List.flatMap encH (List.tail w0_79)⟩]) (hs := (List.tail w0_79)) (xss := y78) hp79 e82)
    have at83 : At h79 id82 off82 g82 (encH (hnth (List.tail w0_79) a80)) := (SlE.atp (Heapy.sle (v := (hov w0_79)) (xs := (List.tail w0_79)) (enc := encH) hp79 0 rfl (fun _ => rfl) (by decide)) ix82 (Heapy.niat (A := [⟨(hov w0_79), 29, 1, List.flatMap encH (List.tail w0_79)⟩]) (hs := (List.tail w0_79)) (xss := y78) hp79 e82)).elim fun cs k => by obtain ⟨k1, rfl⟩ := k; exact k1
    refine bind_opt fun y84 e84 => ?_
    obtain ⟨id84, off84, g84, cs84, ix84, at84, rfl⟩ := SlE.at (Heapy.nisle (A := [⟨(hov w0_79), 29, 1, List.flatMap encH (List.tail w0_79)⟩]) (el := 3) (c := 1) (enc := enc3) (hs := (List.tail w0_79)) (xss := y78) hp79 e82 (fun _ => rfl) (by decide)) e84
    have kc85 := (ai (At.one (P := Try.prog) (t := 3) (v := .int .i64 y84) at84 (by kernel_rfl) 0 rfl rfl) (ai ix84 (ai (At.one (P := Try.prog) (t := 29) (v := (sv (hnth (List.tail w0_79) a80))) at83 (by kernel_rfl) 0 rfl rfl) (ai ix82 (ai c81 trivial)))))
    refine dec_bif (fun c85 => ?_) (fun c85 => ?_)
    · intro hr
      obtain rfl := Option.some.inj hr
      show AWp Try.prog _ (Ends1 ((F51_x6 x1 a46 w0_79 h79) (0 : Nat)).1 ((F51_x6 x1 a46 w0_79 h79) (0 : Nat)).2) _
      exact pEnd_sound good (L := F51_L) (D := F51_D) (its := [.g, (.b true), .g, .g, .g, .g, (.ix id82 off82 g82), (.ld ((sv (hnth (List.tail w0_79) a80)))), .g, (.ix id84 off84 g84), (.ld (.int .i64 y84)), .g, (.b true), .g, .g]) (ds := F51_m6_0) (ks := []) (e := ((F51_x6 x1 a46 w0_79 h79) (0 : Nat)).1) (s2 := ((F51_x6 x1 a46 w0_79 h79) (0 : Nat)).2) (hC := (ai c85 kc85)) (hd := F51_d6) (h := by kernel_rfl)
    · intro hr
      obtain rfl := Option.some.inj hr
      show AWp Try.prog _ (Ends1 .normal (F51_h6 x1 a46 w0_79 h79 (IntKind.i64.wrap (a80 + 1)))) _
      exact pEnd_sound good (L := F51_L) (D := F51_D) (its := [.g, (.b true), .g, .g, .g, .g, (.ix id82 off82 g82), (.ld ((sv (hnth (List.tail w0_79) a80)))), .g, (.ix id84 off84 g84), (.ld (.int .i64 y84)), .g, (.b false), .g, .g]) (ds := F51_m6_1) (ks := []) (e := .normal) (s2 := (F51_h6 x1 a46 w0_79 h79 (IntKind.i64.wrap (a80 + 1)))) (hC := (ai c85 kc85)) (hd := F51_d6) (h := by kernel_rfl)
  · intro hr
    obtain rfl := Option.some.inj hr
    show AWp Try.prog _ (Ends1 ((F51_x6 x1 a46 w0_79 h79) (1 : Nat)).1 ((F51_x6 x1 a46 w0_79 h79) (1 : Nat)).2) _
    exact pEnd_sound good (L := F51_L) (D := F51_D) (its := [.g, (.b false)]) (ds := F51_m6_2) (ks := []) (e := ((F51_x6 x1 a46 w0_79 h79) (1 : Nat)).1) (s2 := ((F51_x6 x1 a46 w0_79 h79) (1 : Nat)).2) (hC := (ai c81 trivial)) (hd := F51_d6) (h := by kernel_rfl)
theorem F51_l6_0 (h : AHeap) (x1 : Int) (a46 : Int) (y78 : (List (List Int))) (w0_79 : List Hd) (h79 : AHeap) (hp79 : Heapy h h79 ([⟨(hov w0_79), 29, 1, List.flatMap encH (List.tail w0_79)⟩] ++ NIn 3 1 enc3 (List.tail w0_79) y78)) (x : Int) (r : Nat) (hl : loopO (fun (s : Int) => F51_s6 x1 y78 s) x = some r) (q0 : Nat.beq r 0 = true) : AWp Try.prog (.loop (codeOf Try.prog 51 [1, 1, 1, 1, 1, 0, 1, 0, 0, 1, 1, 0, 0, 1, 1, 1, 1, 0, 0])) (Ends1 .ret (F51_x6_0 x1 a46 w0_79 h79 r)) ((fun (s : Int) => (F51_h6 x1 a46 w0_79 h79 s)) x) := by
  have k := loop_fun (P := Try.prog) (c := (codeOf Try.prog 51 [1, 1, 1, 1, 1, 0, 1, 0, 0, 1, 1, 0, 0, 1, 1, 1, 1, 0, 0])) (step := (fun (s : Int) => F51_s6 x1 y78 s)) (hd := (fun (s : Int) => (F51_h6 x1 a46 w0_79 h79 s))) (X := (F51_x6 x1 a46 w0_79 h79)) (by intro t; unfold F51_x6; cases Nat.beq t 0 <;> (intro h; cases h)) (fun x => F51_r6 h x1 a46 y78 w0_79 h79 hp79 x) hl
  simp only [F51_x6, q0, cond_true, cond_false] at k
  exact k
theorem F51_l6_1 (h : AHeap) (x1 : Int) (a46 : Int) (y78 : (List (List Int))) (w0_79 : List Hd) (h79 : AHeap) (hp79 : Heapy h h79 ([⟨(hov w0_79), 29, 1, List.flatMap encH (List.tail w0_79)⟩] ++ NIn 3 1 enc3 (List.tail w0_79) y78)) (x : Int) (r : Nat) (hl : loopO (fun (s : Int) => F51_s6 x1 y78 s) x = some r) (q0 : Nat.beq r 0 = false) : AWp Try.prog (.loop (codeOf Try.prog 51 [1, 1, 1, 1, 1, 0, 1, 0, 0, 1, 1, 0, 0, 1, 1, 1, 1, 0, 0])) (Ends1 (.exit 12) (F51_x6_1 x1 a46 w0_79 h79 r)) ((fun (s : Int) => (F51_h6 x1 a46 w0_79 h79 s)) x) := by
  have k := loop_fun (P := Try.prog) (c := (codeOf Try.prog 51 [1, 1, 1, 1, 1, 0, 1, 0, 0, 1, 1, 0, 0, 1, 1, 1, 1, 0, 0])) (step := (fun (s : Int) => F51_s6 x1 y78 s)) (hd := (fun (s : Int) => (F51_h6 x1 a46 w0_79 h79 s))) (X := (F51_x6 x1 a46 w0_79 h79)) (by intro t; unfold F51_x6; cases Nat.beq t 0 <;> (intro h; cases h)) (fun x => F51_r6 h x1 a46 y78 w0_79 h79 hp79 x) hl
  simp only [F51_x6, q0, cond_true, cond_false] at k
  exact k
def F51_m7_2 : List Bool := (rp 8 true (false :: (rp 164 true [])))
def F51_m7_1 : List Bool := (false :: (rp 7 true (false :: (rp 80 true (false :: false :: (rp 82 true []))))))
def F51_m7_0 : List Bool := (rp 6 true (false :: false :: (rp 165 true [])))
def F51_s7 (x1 : Int) (a46 : Int) (l47 : List (List Int)) : Option ((Int × (List (List Int))) ⊕ (Nat × (List (List Int)))) :=
  (bif decide (a46 < (F67 x1)) then
   (Option.bind (at? l47 a46) fun y50 =>
   (Option.bind (at? y50 a46) fun y52 =>
   (bif decide (y52 > 0) then
    some (.inr (0, []))
   else
    (Option.bind (loopO (fun (s : Int × (List (List Int))) => F51_s5 x1 a46 s.1 s.2) (0, l47)) fun y78 =>
    (Option.bind (loopO (fun (s : Int) => F51_s6 x1 y78 s) 0) fun y86 =>
    (bif (Nat.beq y86 0) then
     some (.inr (0, []))
    else
     some (.inl ((IntKind.i64.wrap (a46 + 1)), y78))))))))
  else
   some (.inr (1, l47)))
def F51_h7 (x1 : Int) (h48 : AHeap) (u47 : List Hd) (a46 : Int) (l47 : List (List Int)) : AS := ⟨((.int .i64 (F67 x1)) :: (rp 7 junk ((sv (hov u47)) :: (rp 80 junk ((.int .i64 (F67 x1)) :: (.int .i64 a46) :: (rp 82 junk [])))))), [], h48⟩
theorem F51_d7 : drawsOk F51_D (codeOf Try.prog 51 [1, 1, 1, 1, 1, 0, 1, 0, 0]) = true := by kernel_rfl
def F51_x7_0 (h : AHeap) (hx : AHeap) (r : Nat × (List (List Int))) : AS := ⟨(rp 6 junk ((.slice none 0 0) :: (.bool false) :: (rp 165 junk []))), [], hx⟩
def F51_x7_1 (h : AHeap) (hx : AHeap) (w0 : List Hd) (r : Nat × (List (List Int))) : AS := ⟨(rp 8 junk ((sv (hov w0)) :: (rp 164 junk []))), [], hx⟩
def F51_i7 (h : AHeap) (x1 : Int) (s : Int × (List (List Int))) (S : AS) : Prop := ∃ (h48 : AHeap) (u47 : List Hd), Heapy h h48 ([⟨(hov u47), 29, 1, List.flatMap encH (List.tail u47)⟩] ++ NIn 3 1 enc3 (List.tail u47) s.2) ∧ S = (F51_h7 x1 h48 u47 s.1 s.2)
def F51_x7 (h : AHeap) (r : Nat × (List (List Int))) (e : Exit) (S : AS) : Prop := (bif Nat.beq r.1 0 then (e = .ret ∧ ∃ (hx : AHeap), Heapy h hx [] ∧ S = (F51_x7_0 h hx r)) else (e = (.exit 6) ∧ ∃ (hx : AHeap) (w0 : List Hd), Heapy h hx ([⟨(hov w0), 29, 1, List.flatMap encH (List.tail w0)⟩] ++ NIn 3 1 enc3 (List.tail w0) r.2) ∧ S = (F51_x7_1 h hx w0 r)))
set_option maxRecDepth 100000 in
theorem F51_r7 (h : AHeap) (x1 : Int) (a46 : Int) (l47 : List (List Int)) (S : AS) (hI : (F51_i7 h x1) (a46, l47) S) (o : (Int × (List (List Int))) ⊕ (Nat × (List (List Int)))) : F51_s7 x1 a46 l47 = some o → Rd Try.prog (codeOf Try.prog 51 [1, 1, 1, 1, 1, 0, 1, 0, 0]) (F51_i7 h x1) (F51_x7 h) S o := by
  obtain ⟨h48, u47, hp48, rfl⟩ := hI
  unfold F51_s7
  refine dec_bif (fun c49 => ?_) (fun c49 => ?_)
  · refine bind_opt fun y50 e50 => ?_
    obtain ⟨id50, off50, g50, cs50, ix50, _, _⟩ := SlE.at (Heapy.sle (v := (hov u47)) (xs := (List.tail u47)) (enc := encH) hp48 0 rfl (fun _ => rfl) (by decide)) (Heapy.niat (A := [⟨(hov u47), 29, 1, List.flatMap encH (List.tail u47)⟩]) (hs := (List.tail u47)) (xss := l47) hp48 e50)
    have at51 : At h48 id50 off50 g50 (encH (hnth (List.tail u47) a46)) := (SlE.atp (Heapy.sle (v := (hov u47)) (xs := (List.tail u47)) (enc := encH) hp48 0 rfl (fun _ => rfl) (by decide)) ix50 (Heapy.niat (A := [⟨(hov u47), 29, 1, List.flatMap encH (List.tail u47)⟩]) (hs := (List.tail u47)) (xss := l47) hp48 e50)).elim fun cs k => by obtain ⟨k1, rfl⟩ := k; exact k1
    refine bind_opt fun y52 e52 => ?_
    obtain ⟨id52, off52, g52, cs52, ix52, at52, rfl⟩ := SlE.at (Heapy.nisle (A := [⟨(hov u47), 29, 1, List.flatMap encH (List.tail u47)⟩]) (el := 3) (c := 1) (enc := enc3) (hs := (List.tail u47)) (xss := l47) hp48 e50 (fun _ => rfl) (by decide)) e52
    have kc53 := (ai (At.one (P := Try.prog) (t := 3) (v := .int .i64 y52) at52 (by kernel_rfl) 0 rfl rfl) (ai ix52 (ai (At.one (P := Try.prog) (t := 29) (v := (sv (hnth (List.tail u47) a46))) at51 (by kernel_rfl) 0 rfl rfl) (ai ix50 (ai c49 trivial)))))
    refine dec_bif (fun c53 => ?_) (fun c53 => ?_)
    · intro hr
      obtain rfl := Option.some.inj hr
      refine ⟨.ret, (F51_x7_0 h h48 ((0, []) : Nat × (List (List Int)))), (by intro hh; cases hh), ?_, pEnd_sound good (L := F51_L) (D := F51_D) (its := [.g, (.b true), .g, .g, .g, .g, (.ix id50 off50 g50), (.ld ((sv (hnth (List.tail u47) a46)))), .g, (.ix id52 off52 g52), (.ld (.int .i64 y52)), .g, (.b true), .g, .g]) (ds := F51_m7_0) (ks := []) (e := .ret) (s2 := (F51_x7_0 h h48 ((0, []) : Nat × (List (List Int))))) (hC := (ai c53 kc53)) (hd := F51_d7) (h := by kernel_rfl)⟩
      exact ⟨rfl, h48, (Heapy.pick (Heapy.head (A := [⟨(hov u47), 29, 1, List.flatMap encH (List.tail u47)⟩]) (N := NIn 3 1 enc3 (List.tail u47) l47) hp48) [] (by decide)), rfl⟩
    · refine bind_opt fun y78 e78 => ?_
      obtain ⟨ee78, SS78, hX78, hA78⟩ := F51_l5 h x1 a46 (0, l47) y78 e78 (F51_h5 x1 a46 h48 u47 0 l47) ⟨h48, u47, (Heapy.pickN2 (A := [⟨(hov u47), 29, 1, List.flatMap encH (List.tail u47)⟩]) (N := NIn 3 1 enc3 (List.tail u47) l47) hp48 1 rfl [0] (by decide) rfl), rfl⟩
      obtain ⟨rfl, h79, w0_79, hp79, rfl⟩ := hX78
      refine bind_opt fun y86 e86 => ?_
      have kc87 := (ai hA78 (ai c53 kc53))
      refine dec_bif (fun c87 => ?_) (fun c87 => ?_)
      · intro hr
        obtain rfl := Option.some.inj hr
        refine ⟨.ret, (F51_x7_0 h h79 ((0, []) : Nat × (List (List Int)))), (by intro hh; cases hh), ?_, pEnd_sound good (L := F51_L) (D := F51_D) (its := [.g, (.b true), .g, .g, .g, .g, (.ix id50 off50 g50), (.ld ((sv (hnth (List.tail u47) a46)))), .g, (.ix id52 off52 g52), (.ld (.int .i64 y52)), .g, (.b false), .g, .g, (.l F51_m5_0 [] (.exit 8) (F51_x5_0 h x1 a46 h79 w0_79 y78)), .g, .g, (.l F51_m6_1 [] .ret (F51_x6_0 x1 a46 w0_79 h79 y86))]) (ds := F51_m7_0) (ks := []) (e := .ret) (s2 := (F51_x7_0 h h79 ((0, []) : Nat × (List (List Int))))) (hC := (ai (F51_l6_0 h x1 a46 y78 w0_79 h79 hp79 0 y86 e86 c87) kc87)) (hd := F51_d7) (h := by kernel_rfl)⟩
        exact ⟨rfl, h79, (Heapy.pick (Heapy.head (A := [⟨(hov w0_79), 29, 1, List.flatMap encH (List.tail w0_79)⟩]) (N := NIn 3 1 enc3 (List.tail w0_79) y78) hp79) [] (by decide)), rfl⟩
      · intro hr
        obtain rfl := Option.some.inj hr
        exact ⟨(F51_h7 x1 h79 w0_79 (IntKind.i64.wrap (a46 + 1)) y78), ⟨h79, w0_79, (Heapy.pickN2 (A := [⟨(hov w0_79), 29, 1, List.flatMap encH (List.tail w0_79)⟩]) (N := NIn 3 1 enc3 (List.tail w0_79) y78) hp79 1 rfl [0] (by decide) rfl), rfl⟩, pEnd_sound good (L := F51_L) (D := F51_D) (its := [.g, (.b true), .g, .g, .g, .g, (.ix id50 off50 g50), (.ld ((sv (hnth (List.tail u47) a46)))), .g, (.ix id52 off52 g52), (.ld (.int .i64 y52)), .g, (.b false), .g, .g, (.l F51_m5_0 [] (.exit 8) (F51_x5_0 h x1 a46 h79 w0_79 y78)), .g, .g, (.l F51_m6_1 [] (.exit 12) (F51_x6_1 x1 a46 w0_79 h79 y86)), .g, .g]) (ds := F51_m7_1) (ks := []) (e := .normal) (s2 := (F51_h7 x1 h79 w0_79 (IntKind.i64.wrap (a46 + 1)) y78)) (hC := (ai (F51_l6_1 h x1 a46 y78 w0_79 h79 hp79 0 y86 e86 c87) kc87)) (hd := F51_d7) (h := by kernel_rfl)⟩
  · intro hr
    obtain rfl := Option.some.inj hr
    refine ⟨(.exit 6), (F51_x7_1 h h48 u47 ((1, l47) : Nat × (List (List Int)))), (by intro hh; cases hh), ?_, pEnd_sound good (L := F51_L) (D := F51_D) (its := [.g, (.b false)]) (ds := F51_m7_2) (ks := []) (e := (.exit 6)) (s2 := (F51_x7_1 h h48 u47 ((1, l47) : Nat × (List (List Int))))) (hC := (ai c49 trivial)) (hd := F51_d7) (h := by kernel_rfl)⟩
    exact ⟨rfl, h48, u47, (Heapy.pickN2 (A := [⟨(hov u47), 29, 1, List.flatMap encH (List.tail u47)⟩]) (N := NIn 3 1 enc3 (List.tail u47) l47) hp48 1 rfl [0] (by decide) rfl), rfl⟩
theorem F51_l7 (h : AHeap) (x1 : Int) (x : Int × (List (List Int))) (r : Nat × (List (List Int))) (hl : loopO (fun (s : Int × (List (List Int))) => F51_s7 x1 s.1 s.2) x = some r) (S : AS) (hI : (F51_i7 h x1) x S) : ∃ e S', (F51_x7 h) r e S' ∧ AWp Try.prog (.loop (codeOf Try.prog 51 [1, 1, 1, 1, 1, 0, 1, 0, 0])) (Ends1 e S') S :=
  loop_rel (fun x S hI => F51_r7 h x1 x.1 x.2 S hI) hl hI
def F51 (x1 : Int) (l2 : List (Int × Int × Int × Int)) (x3 : Int) : Option ((List (List Int)) × Bool) :=
  (Option.bind (loopO (fun (s : Int × (List (List Int))) => F51_s2 x1 s.1 s.2) (0, ([] : List (List Int)))) fun y29 =>
  (Option.bind (loopO (fun (s : Int × (List (List Int))) => F51_s3 x1 l2 x3 s.1 s.2) (0, y29)) fun y44 =>
  (Option.bind (loopO (fun (s : Int × (List (List Int))) => F51_s7 x1 s.1 s.2) (0, y44)) fun y88 =>
  (bif (Nat.beq y88.1 0) then
   some ([], false)
  else
   some (y88.2, true)))))
set_option maxRecDepth 100000 in
theorem F51_spec (x1 : Int) (l2 : List (Int × Int × Int × Int)) (x3 : Int) (v2 : Hd) (h : AHeap) (hw : h.wf) (hv2 : SlE E57 4 h (sv v2) l2) (r : (List (List Int)) × Bool) : F51 x1 l2 x3 = some r → ∃ (ur0 : Hd) (ur0h : List Hd) (h' : AHeap), Heapy h h' ([⟨ur0, 29, 1, List.flatMap encH ur0h⟩] ++ NIn 3 1 enc3 ur0h r.1) ∧ ACalls Try.prog 51 [.int .i64 x1, (sv v2), .int .i64 x3] h (fun v' h'' => v' = (.tuple #[(sv ur0), .bool r.2] : Value) ∧ h'' = h') := by
  unfold F51
  refine bind_opt fun y29 e29 => ?_
  have hp5 : Heapy h h ([⟨⟨none, 0, 0⟩, 29, 1, List.flatMap encH ([] : List Hd)⟩] ++ NIn 3 1 enc3 ([] : List Hd) ([] : List (List Int))) := Heapy.nilO (el := 3) (c := 1) (enc := enc3) (Heapy.refl hw) 29
  obtain ⟨ee29, SS29, hX29, hA29⟩ := F51_l2 h x1 v2 x3 (0, ([] : List (List Int))) y29 e29 (F51_h2 x1 v2 x3 h ((⟨none, 0, 0⟩ : Hd) :: ([] : List Hd)) 0 ([] : List (List Int))) ⟨h, ((⟨none, 0, 0⟩ : Hd) :: ([] : List Hd)), (Heapy.pickN2 (A := [⟨⟨none, 0, 0⟩, 29, 1, List.flatMap encH ([] : List Hd)⟩]) (N := NIn 3 1 enc3 ([] : List Hd) ([] : List (List Int))) hp5 1 rfl [0] (by decide) rfl), rfl⟩
  obtain ⟨rfl, h30, w0_30, hp30, rfl⟩ := hX29
  refine bind_opt fun y44 e44 => ?_
  obtain ⟨ee44, SS44, hX44, hA44⟩ := F51_l3 h x1 l2 v2 hv2 x3 (0, y29) y44 e44 (F51_h3 x1 l2 v2 x3 h30 w0_30 0 y29) ⟨h30, w0_30, (Heapy.pickN2 (A := [⟨(hov w0_30), 29, 1, List.flatMap encH (List.tail w0_30)⟩]) (N := NIn 3 1 enc3 (List.tail w0_30) y29) hp30 1 rfl [0] (by decide) rfl), rfl⟩
  obtain ⟨rfl, h45, w0_45, hp45, rfl⟩ := hX44
  refine bind_opt fun y88 e88 => ?_
  obtain ⟨ee88, SS88, hX88, hA88⟩ := F51_l7 h x1 (0, y44) y88 e88 (F51_h7 x1 h45 w0_45 0 y44) ⟨h45, w0_45, (Heapy.pickN2 (A := [⟨(hov w0_45), 29, 1, List.flatMap encH (List.tail w0_45)⟩]) (N := NIn 3 1 enc3 (List.tail w0_45) y44) hp45 1 rfl [0] (by decide) rfl), rfl⟩
  have kc89 := (ai hA44 (ai (SlE.len hv2) (ai hA29 (ai (F67_spec x1 h _ rfl) trivial))))
  refine dec_bif (fun c89 => ?_) (fun c89 => ?_)
  · simp only [F51_x7, c89, cond_true, cond_false] at hX88
    obtain ⟨rfl, h90, hp90, rfl⟩ := hX88
    intro hr
    obtain rfl := Option.some.inj hr
    exact ⟨⟨none, 0, 0⟩, [], h90, Heapy.nilN (el := 3) (c := 1) (enc := enc3) (Heapy.drop hp90) 29, pFun_sound good tab_ok (f := 51) (its := [.g, .g, .g, (.c (.int .i64 (F67 x1)) h), .g, .g, .g, .g, (.l F51_m2_0 [] (.exit 0) (F51_x2_0 h x1 v2 x3 h30 w0_30 y29)), .g, (.ln l2.length), .g, (.l F51_m3_0 [] (.exit 4) (F51_x3_0 h x1 h45 w0_45 y44)), .g, .g, (.l F51_m7_1 [] .ret (F51_x7_0 h h90 y88))]) (args := [.int .i64 x1, (sv v2), .int .i64 x3]) (h := h) (h' := h90) (v := .tuple #[.slice none 0 0, .bool false]) (hC := (ai hA88 kc89)) (hr := by kernel_rfl)⟩
  · simp only [F51_x7, c89, cond_true, cond_false] at hX88
    obtain ⟨rfl, h91, w0_91, hp91, rfl⟩ := hX88
    intro hr
    obtain rfl := Option.some.inj hr
    exact ⟨(hov w0_91), (List.tail w0_91), h91, (Heapy.pickN2 (A := [⟨(hov w0_91), 29, 1, List.flatMap encH (List.tail w0_91)⟩]) (N := NIn 3 1 enc3 (List.tail w0_91) y88.2) hp91 1 rfl [0] (by decide) rfl), pFun_sound good tab_ok (f := 51) (its := [.g, .g, .g, (.c (.int .i64 (F67 x1)) h), .g, .g, .g, .g, (.l F51_m2_0 [] (.exit 0) (F51_x2_0 h x1 v2 x3 h30 w0_30 y29)), .g, (.ln l2.length), .g, (.l F51_m3_0 [] (.exit 4) (F51_x3_0 h x1 h45 w0_45 y44)), .g, .g, (.l F51_m7_1 [] (.exit 6) (F51_x7_1 h h91 w0_91 y88)), .g, .g, .g]) (args := [.int .i64 x1, (sv v2), .int .i64 x3]) (h := h) (h' := h91) (v := .tuple #[(sv (hov w0_91)), .bool true]) (hC := (ai hA88 kc89)) (hr := by kernel_rfl)⟩
/-! 37 jacquard/jacquardref31.Feasible -/
def F37 (x1 : Int) (x2 : Int) (x3 : Bool) (l4 : List (Int × Int × Int × Int)) (l5 : List (Int × Int × Int × Int)) (l6 : List (Int × Int)) (x7 : Int) : Option (Bool) :=
  (Option.bind (F51 (IntKind.i64.wrap ((F26 x1 x2 x3 l4 l5 l6) + 1)) l4 x7) fun y9 =>
  some (y9.2))
set_option maxRecDepth 100000 in
theorem F37_spec (x1 : Int) (x2 : Int) (x3 : Bool) (l4 : List (Int × Int × Int × Int)) (l5 : List (Int × Int × Int × Int)) (l6 : List (Int × Int)) (x7 : Int) (v4 : Hd) (v5 : Hd) (v6 : Hd) (h : AHeap) (hw : h.wf) (hv4 : SlE E57 4 h (sv v4) l4) (hv5 : SlE E59 4 h (sv v5) l5) (hv6 : SlE E61 2 h (sv v6) l6) (r : Bool) : F37 x1 x2 x3 l4 l5 l6 x7 = some r → ∃ (h' : AHeap), Heapy h h' [] ∧ ACalls Try.prog 37 [.agg #[.int .i64 x1, .int .i64 x2, .bool x3, (sv v4), (sv v5), (sv v6)], .int .i64 x7] h (fun v' h'' => v' = (.bool r : Value) ∧ h'' = h') := by
  unfold F37
  refine bind_opt fun y9 e9 => ?_
  obtain ⟨u10_0, u10_0h, h10, q10, c10⟩ := F51_spec (IntKind.i64.wrap ((F26 x1 x2 x3 l4 l5 l6) + 1)) l4 x7 v4 h hw hv4 _ e9
  have hp10 : Heapy h h10 ([⟨u10_0, 29, 1, List.flatMap encH u10_0h⟩] ++ NIn 3 1 enc3 u10_0h y9.1) := Heapy.callN (Heapy.refl hw) q10
  intro hr
  obtain rfl := Option.some.inj hr
  exact ⟨h10, Heapy.pick (Heapy.head (A := [⟨u10_0, 29, 1, List.flatMap encH u10_0h⟩]) (N := NIn 3 1 enc3 u10_0h y9.1) hp10) [] (by decide), pFun_sound good tab_ok (f := 37) (its := [.g, .g, .g, .g, .g, .g, (.c (.int .i64 (F26 x1 x2 x3 l4 l5 l6)) h), .g, (.c (.tuple #[(sv u10_0), .bool y9.2]) h10), .g, .g, .g, .g, .g, .g, .g]) (args := [.agg #[.int .i64 x1, .int .i64 x2, .bool x3, (sv v4), (sv v5), (sv v6)], .int .i64 x7]) (h := h) (h' := h10) (v := .bool y9.2) (hC := (ai (show AKeep h h10 from (Heapy.sub q10)) (ai c10 (ai (show AKeep h h from (AHeap.sub_refl h)) (ai (F26_spec x1 x2 x3 l4 l5 l6 v4 v5 v6 h hv4 hv5 hv6 _ rfl) trivial))))) (hr := by kernel_rfl)⟩
/-! 15 jacquard/jacquardref31.Recurrence -/
def F15_L : List Nat := [1]
def F15_D : List (Nat × List (Nat × Nat)) := []
def F15_m1_2 : List Bool := (rp 15 true [])
def F15_m1_1 : List Bool := (true :: false :: true :: false :: (rp 11 true []))
def F15_m1_0 : List Bool := (true :: true :: false :: (rp 12 true []))
def F15_s1 (x1 : Int) (x2 : Int) (x3 : Bool) (l4 : List (Int × Int × Int × Int)) (l5 : List (Int × Int × Int × Int)) (l6 : List (Int × Int)) (a10 : Int) : Option (Int ⊕ (Nat × Int)) :=
  (bif decide (a10 < 256) then
   (Option.bind (F37 x1 x2 x3 l4 l5 l6 a10) fun y13 =>
   (bif y13 then
    some (.inr (0, a10))
   else
    some (.inl (IntKind.i64.wrap (a10 + 1)))))
  else
   some (.inr (1, 0)))
def F15_h1 (x1 : Int) (x2 : Int) (x3 : Bool) (v4 : Hd) (v5 : Hd) (v6 : Hd) (h11 : AHeap) (a10 : Int) : AS := ⟨(junk :: (.pointer (some ⟨1, 0, none⟩)) :: junk :: (.int .i64 a10) :: (rp 11 junk [])), [(1, [.int .i64 x1, .int .i64 x2, .bool x3, (sv v4), (sv v5), (sv v6)])], h11⟩
theorem F15_d1 : drawsOk F15_D (codeOf Try.prog 15 [1, 1, 0, 1, 0, 0]) = true := by kernel_rfl
def F15_x1_0 (h : AHeap) (hx : AHeap) (r : Nat × Int) : AS := ⟨(junk :: junk :: (.int .i64 r.2) :: (rp 12 junk [])), [], hx⟩
def F15_x1_1 (h : AHeap) (hx : AHeap) (r : Nat × Int) : AS := ⟨(rp 15 junk []), [], hx⟩
def F15_i1 (h : AHeap) (x1 : Int) (x2 : Int) (x3 : Bool) (v4 : Hd) (v5 : Hd) (v6 : Hd) (s : Int) (S : AS) : Prop := ∃ (h11 : AHeap), Heapy h h11 [] ∧ S = (F15_h1 x1 x2 x3 v4 v5 v6 h11 s)
def F15_x1 (h : AHeap) (r : Nat × Int) (e : Exit) (S : AS) : Prop := (bif Nat.beq r.1 0 then (e = .ret ∧ ∃ (hx : AHeap), Heapy h hx [] ∧ S = (F15_x1_0 h hx r)) else (e = (.exit 0) ∧ ∃ (hx : AHeap), Heapy h hx [] ∧ S = (F15_x1_1 h hx r)))
set_option maxRecDepth 100000 in
theorem F15_r1 (h : AHeap) (x1 : Int) (x2 : Int) (x3 : Bool) (l4 : List (Int × Int × Int × Int)) (v4 : Hd) (hv4 : SlE E57 4 h (sv v4) l4) (l5 : List (Int × Int × Int × Int)) (v5 : Hd) (hv5 : SlE E59 4 h (sv v5) l5) (l6 : List (Int × Int)) (v6 : Hd) (hv6 : SlE E61 2 h (sv v6) l6) (a10 : Int) (S : AS) (hI : (F15_i1 h x1 x2 x3 v4 v5 v6) a10 S) (o : Int ⊕ (Nat × Int)) : F15_s1 x1 x2 x3 l4 l5 l6 a10 = some o → Rd Try.prog (codeOf Try.prog 15 [1, 1, 0, 1, 0, 0]) (F15_i1 h x1 x2 x3 v4 v5 v6) (F15_x1 h) S o := by
  obtain ⟨h11, hp11, rfl⟩ := hI
  unfold F15_s1
  refine dec_bif (fun c12 => ?_) (fun c12 => ?_)
  · refine bind_opt fun y13 e13 => ?_
    obtain ⟨h14, q14, c14⟩ := F37_spec x1 x2 x3 l4 l5 l6 a10 v4 v5 v6 h11 (Heapy.wf hp11) (SlE.mono hv4 (Heapy.sub hp11) (E57_mono (Heapy.sub hp11))) (SlE.mono hv5 (Heapy.sub hp11) (E59_mono (Heapy.sub hp11))) (SlE.mono hv6 (Heapy.sub hp11) (E61_mono (Heapy.sub hp11))) _ e13
    have hp14 : Heapy h h14 [] := Heapy.call hp11 q14
    have kc15 := (ai c14 (ai c12 trivial))
    refine dec_bif (fun c15 => ?_) (fun c15 => ?_)
    · intro hr
      obtain rfl := Option.some.inj hr
      refine ⟨.ret, (F15_x1_0 h h14 ((0, a10) : Nat × Int)), (by intro hh; cases hh), ?_, pEnd_sound good (L := F15_L) (D := F15_D) (its := [.g, .g, (.b true), .g, .g, (.c (.bool y13) h14), (.b true), .g, .g]) (ds := F15_m1_0) (ks := [1]) (e := .ret) (s2 := (F15_x1_0 h h14 ((0, a10) : Nat × Int))) (hC := (ai c15 kc15)) (hd := F15_d1) (h := by kernel_rfl)⟩
      exact ⟨rfl, h14, (Heapy.pick hp14 [] (by decide)), rfl⟩
    · intro hr
      obtain rfl := Option.some.inj hr
      exact ⟨(F15_h1 x1 x2 x3 v4 v5 v6 h14 (IntKind.i64.wrap (a10 + 1))), ⟨h14, (Heapy.pick hp14 [] (by decide)), rfl⟩, pEnd_sound good (L := F15_L) (D := F15_D) (its := [.g, .g, (.b true), .g, .g, (.c (.bool y13) h14), (.b false), .g, .g, .g]) (ds := F15_m1_1) (ks := []) (e := .normal) (s2 := (F15_h1 x1 x2 x3 v4 v5 v6 h14 (IntKind.i64.wrap (a10 + 1)))) (hC := (ai c15 kc15)) (hd := F15_d1) (h := by kernel_rfl)⟩
  · intro hr
    obtain rfl := Option.some.inj hr
    refine ⟨(.exit 0), (F15_x1_1 h h11 ((1, 0) : Nat × Int)), (by intro hh; cases hh), ?_, pEnd_sound good (L := F15_L) (D := F15_D) (its := [.g, .g, (.b false)]) (ds := F15_m1_2) (ks := [1]) (e := (.exit 0)) (s2 := (F15_x1_1 h h11 ((1, 0) : Nat × Int))) (hC := (ai c12 trivial)) (hd := F15_d1) (h := by kernel_rfl)⟩
    exact ⟨rfl, h11, (Heapy.pick hp11 [] (by decide)), rfl⟩
theorem F15_l1 (h : AHeap) (x1 : Int) (x2 : Int) (x3 : Bool) (l4 : List (Int × Int × Int × Int)) (v4 : Hd) (hv4 : SlE E57 4 h (sv v4) l4) (l5 : List (Int × Int × Int × Int)) (v5 : Hd) (hv5 : SlE E59 4 h (sv v5) l5) (l6 : List (Int × Int)) (v6 : Hd) (hv6 : SlE E61 2 h (sv v6) l6) (x : Int) (r : Nat × Int) (hl : loopO (fun (s : Int) => F15_s1 x1 x2 x3 l4 l5 l6 s) x = some r) (S : AS) (hI : (F15_i1 h x1 x2 x3 v4 v5 v6) x S) : ∃ e S', (F15_x1 h) r e S' ∧ AWp Try.prog (.loop (codeOf Try.prog 15 [1, 1, 0, 1, 0, 0])) (Ends1 e S') S :=
  loop_rel (fun x S hI => F15_r1 h x1 x2 x3 l4 v4 hv4 l5 v5 hv5 l6 v6 hv6 x S hI) hl hI
def F15 (x1 : Int) (x2 : Int) (x3 : Bool) (l4 : List (Int × Int × Int × Int)) (l5 : List (Int × Int × Int × Int)) (l6 : List (Int × Int)) : Option (Int) :=
  (Option.bind (F37 x1 x2 x3 l4 l5 l6 256) fun y7 =>
  (bif (!y7) then
   some (0)
  else
   (Option.bind (loopO (fun (s : Int) => F15_s1 x1 x2 x3 l4 l5 l6 s) 1) fun y16 =>
   (bif (Nat.beq y16.1 0) then
    some (y16.2)
   else
    some (256)))))
set_option maxRecDepth 100000 in
theorem F15_spec (x1 : Int) (x2 : Int) (x3 : Bool) (l4 : List (Int × Int × Int × Int)) (l5 : List (Int × Int × Int × Int)) (l6 : List (Int × Int)) (v4 : Hd) (v5 : Hd) (v6 : Hd) (h : AHeap) (hw : h.wf) (hv4 : SlE E57 4 h (sv v4) l4) (hv5 : SlE E59 4 h (sv v5) l5) (hv6 : SlE E61 2 h (sv v6) l6) (r : Int) : F15 x1 x2 x3 l4 l5 l6 = some r → ∃ (h' : AHeap), Heapy h h' [] ∧ ACalls Try.prog 15 [.agg #[.int .i64 x1, .int .i64 x2, .bool x3, (sv v4), (sv v5), (sv v6)]] h (fun v' h'' => v' = (.int .i64 r : Value) ∧ h'' = h') := by
  unfold F15
  refine bind_opt fun y7 e7 => ?_
  obtain ⟨h8, q8, c8⟩ := F37_spec x1 x2 x3 l4 l5 l6 256 v4 v5 v6 h hw hv4 hv5 hv6 _ e7
  have hp8 : Heapy h h8 [] := Heapy.call (Heapy.refl hw) q8
  have kc9 := (ai c8 trivial)
  refine dec_bif (fun c9 => ?_) (fun c9 => ?_)
  · intro hr
    obtain rfl := Option.some.inj hr
    exact ⟨h8, Heapy.pick hp8 [] (by decide), pFun_sound good tab_ok (f := 15) (its := [.g, .g, .g, (.c (.bool y7) h8), .g, (.b true), .g]) (args := [.agg #[.int .i64 x1, .int .i64 x2, .bool x3, (sv v4), (sv v5), (sv v6)]]) (h := h) (h' := h8) (v := .int .i64 0) (hC := (ai c9 kc9)) (hr := by kernel_rfl)⟩
  · refine bind_opt fun y16 e16 => ?_
    obtain ⟨ee16, SS16, hX16, hA16⟩ := F15_l1 h x1 x2 x3 l4 v4 hv4 l5 v5 hv5 l6 v6 hv6 1 y16 e16 (F15_h1 x1 x2 x3 v4 v5 v6 h8 1) ⟨h8, (Heapy.pick hp8 [] (by decide)), rfl⟩
    have kc17 := (ai c9 kc9)
    refine dec_bif (fun c17 => ?_) (fun c17 => ?_)
    · simp only [F15_x1, c17, cond_true, cond_false] at hX16
      obtain ⟨rfl, h18, hp18, rfl⟩ := hX16
      intro hr
      obtain rfl := Option.some.inj hr
      exact ⟨h18, Heapy.pick hp18 [] (by decide), pFun_sound good tab_ok (f := 15) (its := [.g, .g, .g, (.c (.bool y7) h8), .g, (.b false), .g, (.l F15_m1_1 [] .ret (F15_x1_0 h h18 y16))]) (args := [.agg #[.int .i64 x1, .int .i64 x2, .bool x3, (sv v4), (sv v5), (sv v6)]]) (h := h) (h' := h18) (v := .int .i64 y16.2) (hC := (ai hA16 kc17)) (hr := by kernel_rfl)⟩
    · simp only [F15_x1, c17, cond_true, cond_false] at hX16
      obtain ⟨rfl, h19, hp19, rfl⟩ := hX16
      intro hr
      obtain rfl := Option.some.inj hr
      exact ⟨h19, Heapy.pick hp19 [] (by decide), pFun_sound good tab_ok (f := 15) (its := [.g, .g, .g, (.c (.bool y7) h8), .g, (.b false), .g, (.l F15_m1_1 [] (.exit 0) (F15_x1_1 h h19 y16)), .g]) (args := [.agg #[.int .i64 x1, .int .i64 x2, .bool x3, (sv v4), (sv v5), (sv v6)]]) (h := h) (h' := h19) (v := .int .i64 256) (hC := (ai hA16 kc17)) (hr := by kernel_rfl)⟩
/-! 38 jacquard/jacquardref30.Positive -/
def F38_L : List Nat := []
def F38_D : List (Nat × List (Nat × Nat)) := [(13, [(0, 2), (1, 2), (2, 2), (3, 2), (4, 2), (5, 2), (6, 2), (7, 2), (8, 2), (9, 2), (10, 2), (11, 2), (12, 2), (13, 2)]), (18, [(0, 2), (1, 2), (2, 2), (3, 2), (4, 2), (5, 2), (6, 2), (7, 2), (8, 2), (9, 2), (10, 2), (11, 2), (12, 2), (13, 2), (14, 2), (15, 2), (16, 2)])]
def F38_m1_2 : List Bool := (true :: false :: true :: false :: (rp 6 true (false :: (rp 100 true []))))
def F38_m1_1 : List Bool := (false :: false :: false :: false :: (rp 6 true (false :: (rp 5 true (false :: false :: (rp 93 true []))))))
def F38_m1_0 : List Bool := (rp 8 true (false :: false :: (rp 101 true [])))
def F38_s1 (x1 : Int) (l2 : List (Int × Int × Int × Int)) (x3 : Int) (l4 : List Int) (a5 : Int) (a6 : Int) : Option ((Int × Int) ⊕ (Nat × Int)) :=
  (bif decide (a6 < (l4.length : Int)) then
   (Option.bind (at? l4 a6) fun y8 =>
   (bif decide (y8 < 0) then
    some (.inr (0, 0))
   else
    (bif decide (y8 ≥ (l2.length : Int)) then
     some (.inr (0, 0))
    else
     (Option.bind (at? l2 y8) fun y11 =>
     (bif (!(F55 x1 y11.1 y11.2.1 y11.2.2.1 y11.2.2.2)) then
      some (.inr (0, 0))
     else
      some (.inl ((IntKind.i64.wrap (a5 + (F56 y11.1 y11.2.1 y11.2.2.1 y11.2.2.2 x3))), (IntKind.i64.wrap (a6 + 1)))))))))
  else
   some (.inr (1, a5)))
def F38_h1 (h : AHeap) (x1 : Int) (v2 : Hd) (x3 : Int) (l4 : List Int) (v4 : Hd)  (a5 : Int) (a6 : Int) : AS := ⟨((.int .i64 x1) :: (sv v2) :: (.int .i64 x3) :: (sv v4) :: (rp 6 junk ((.int .i64 a5) :: (rp 5 junk ((.int .i64 (l4.length : Int)) :: (.int .i64 a6) :: (rp 93 junk [])))))), [], h⟩
theorem F38_d1 : drawsOk F38_D (codeOf Try.prog 38 [1, 1, 0, 1, 0, 0]) = true := by kernel_rfl
def F38_x1_0 (h : AHeap) (v2 : Hd) (v4 : Hd)  (r : Nat × Int) : AS := ⟨(rp 8 junk ((.int .i64 0) :: (.bool false) :: (rp 101 junk []))), [], h⟩
def F38_x1_1 (h : AHeap) (v2 : Hd) (v4 : Hd)  (r : Nat × Int) : AS := ⟨(junk :: (sv v2) :: junk :: (sv v4) :: (rp 6 junk ((.int .i64 r.2) :: (rp 100 junk [])))), [], h⟩
def F38_x1 (h : AHeap) (v2 : Hd) (v4 : Hd) (r : Nat × Int) : Exit × AS := (bif Nat.beq r.1 0 then (.ret, (F38_x1_0 h v2 v4 r)) else ((.exit 0), (F38_x1_1 h v2 v4 r)))
set_option maxRecDepth 100000 in
theorem F38_r1 (h : AHeap) (x1 : Int) (l2 : List (Int × Int × Int × Int)) (v2 : Hd) (hv2 : SlE E57 4 h (sv v2) l2) (x3 : Int) (l4 : List Int) (v4 : Hd) (hv4 : SlE E3 1 h (sv v4) l4) (a5 : Int) (a6 : Int) (o : (Int × Int) ⊕ (Nat × Int)) : F38_s1 x1 l2 x3 l4 a5 a6 = some o → RdF Try.prog (codeOf Try.prog 38 [1, 1, 0, 1, 0, 0]) (fun (s : Int × Int) => (F38_h1 h x1 v2 x3 l4 v4 s.1 s.2)) (F38_x1 h v2 v4) (F38_h1 h x1 v2 x3 l4 v4 a5 a6) o := by
  unfold F38_s1
  refine dec_bif (fun c7 => ?_) (fun c7 => ?_)
  · refine bind_opt fun y8 e8 => ?_
    obtain ⟨id8, off8, g8, cs8, ix8, at8, rfl⟩ := SlE.at hv4 e8
    have kc9 := (ai (At.one (P := Try.prog) (t := 3) (v := .int .i64 y8) at8 (by kernel_rfl) 0 rfl rfl) (ai ix8 (ai c7 trivial)))
    refine dec_bif (fun c9 => ?_) (fun c9 => ?_)
    · intro hr
      obtain rfl := Option.some.inj hr
      show AWp Try.prog _ (Ends1 ((F38_x1 h v2 v4) ((0, 0) : Nat × Int)).1 ((F38_x1 h v2 v4) ((0, 0) : Nat × Int)).2) _
      exact pEnd_sound good (L := F38_L) (D := F38_D) (its := [.g, (.b true), .g, .g, .g, .g, (.ix id8 off8 g8), (.ld (.int .i64 y8)), .g, .g, .n, .n, .n, .n, .n, .n, .n, (.p true), .g, .n, .n, .n, .n, .n, .n, .n, .n, .n, .n, .g, (.b true), .g, .g]) (ds := F38_m1_0) (ks := []) (e := ((F38_x1 h v2 v4) ((0, 0) : Nat × Int)).1) (s2 := ((F38_x1 h v2 v4) ((0, 0) : Nat × Int)).2) (hC := (ai l_t (ai (g_tf l_t) (ai (g_tf l_t) (ai (g_tf l_t) (ai (g_tf l_t) (ai (g_tf l_t) (ai (g_tf l_t) (ai (g_tf l_t) (ai (g_tf l_t) (ai (g_tf l_t) (ai (g_tf l_t) (ai c9 (ai (g_tf c9) (ai (g_tf c9) (ai (g_tf c9) (ai (g_tf c9) (ai (g_tf c9) (ai (g_tf c9) (ai (g_tf c9) kc9)))))))))))))))))))) (hd := F38_d1) (h := by kernel_rfl)
    · have kc10 := (ai c9 (ai (g_ff c9) (ai (SlE.len hv2) (ai (g_ff c9) (ai (g_ff c9) (ai (At.one (P := Try.prog) (t := 3) (v := .int .i64 y8) at8 (by kernel_rfl) 0 rfl rfl) (ai (g_ff c9) (ai ix8 (ai (g_ff c9) (ai (g_ff c9) (ai (g_ff c9) kc9)))))))))))
      refine dec_bif (fun c10 => ?_) (fun c10 => ?_)
      · intro hr
        obtain rfl := Option.some.inj hr
        show AWp Try.prog _ (Ends1 ((F38_x1 h v2 v4) ((0, 0) : Nat × Int)).1 ((F38_x1 h v2 v4) ((0, 0) : Nat × Int)).2) _
        exact pEnd_sound good (L := F38_L) (D := F38_D) (its := [.g, (.b true), .g, .g, .g, .g, (.ix id8 off8 g8), (.ld (.int .i64 y8)), .g, .g, (.w .g), (.w .g), (.w (.ix id8 off8 g8)), (.w (.ld (.int .i64 y8))), (.w .g), (.w (.ln l2.length)), (.w .g), (.p false), .g, .n, .n, .n, .n, .n, .n, .n, .n, .n, .n, (.p true), (.b true), .g, .g]) (ds := F38_m1_0) (ks := []) (e := ((F38_x1 h v2 v4) ((0, 0) : Nat × Int)).1) (s2 := ((F38_x1 h v2 v4) ((0, 0) : Nat × Int)).2) (hC := (ai l_t (ai c10 (ai (g_tf c10) (ai (g_tf c10) (ai (g_tf c10) (ai (g_tf c10) (ai (g_tf c10) (ai (g_tf c10) (ai (g_tf c10) (ai (g_tf c10) (ai (g_tf c10) (ai (g_tf c10) kc10))))))))))))) (hd := F38_d1) (h := by kernel_rfl)
      · refine bind_opt fun y11 e11 => ?_
        obtain ⟨id11, off11, g11, cs11, ix11, at11, rfl⟩ := SlE.at hv2 e11
        have kc13 := (ai c10 (ai (g_ff c10) (ai (F55_spec x1 y11.1 y11.2.1 y11.2.2.1 y11.2.2.2 h _ rfl) (ai (g_ff c10) (ai (At.agg (P := Try.prog) (t := 57) (v := .agg #[.int .i64 y11.1, .int .i64 y11.2.1, .int .i64 y11.2.2.1, .int .i64 y11.2.2.2]) (m := 4) at11 (by kernel_rfl) (by kernel_rfl) 0 (by kernel_rfl) rfl) (ai (g_ff c10) (ai ix11 (ai (g_ff c10) (ai (At.one (P := Try.prog) (t := 3) (v := .int .i64 y8) at8 (by kernel_rfl) 0 rfl rfl) (ai (g_ff c10) (ai ix8 (ai (g_ff c10) (ai (g_ff c10) (ai (g_ff c10) (ai (g_ff c10) (ai (g_ff c10) kc10))))))))))))))))
        refine dec_bif (fun c13 => ?_) (fun c13 => ?_)
        · intro hr
          obtain rfl := Option.some.inj hr
          show AWp Try.prog _ (Ends1 ((F38_x1 h v2 v4) ((0, 0) : Nat × Int)).1 ((F38_x1 h v2 v4) ((0, 0) : Nat × Int)).2) _
          exact pEnd_sound good (L := F38_L) (D := F38_D) (its := [.g, (.b true), .g, .g, .g, .g, (.ix id8 off8 g8), (.ld (.int .i64 y8)), .g, .g, (.w .g), (.w .g), (.w (.ix id8 off8 g8)), (.w (.ld (.int .i64 y8))), (.w .g), (.w (.ln l2.length)), (.w .g), (.p false), .g, (.w .g), (.w .g), (.w .g), (.w .g), (.w (.ix id8 off8 g8)), (.w (.ld (.int .i64 y8))), (.w (.ix id11 off11 g11)), (.w (.ld (.agg #[.int .i64 y11.1, .int .i64 y11.2.1, .int .i64 y11.2.2.1, .int .i64 y11.2.2.2]))), (.w (.c (.bool (F55 x1 y11.1 y11.2.1 y11.2.2.1 y11.2.2.2)) h)), (.w .g), (.p false), (.b true), .g, .g]) (ds := F38_m1_0) (ks := []) (e := ((F38_x1 h v2 v4) ((0, 0) : Nat × Int)).1) (s2 := ((F38_x1 h v2 v4) ((0, 0) : Nat × Int)).2) (hC := (ai c13 kc13)) (hd := F38_d1) (h := by kernel_rfl)
        · intro hr
          obtain rfl := Option.some.inj hr
          show AWp Try.prog _ (Ends1 .normal (F38_h1 h x1 v2 x3 l4 v4 (IntKind.i64.wrap (a5 + (F56 y11.1 y11.2.1 y11.2.2.1 y11.2.2.2 x3))) (IntKind.i64.wrap (a6 + 1)))) _
          exact pEnd_sound good (L := F38_L) (D := F38_D) (its := [.g, (.b true), .g, .g, .g, .g, (.ix id8 off8 g8), (.ld (.int .i64 y8)), .g, .g, (.w .g), (.w .g), (.w (.ix id8 off8 g8)), (.w (.ld (.int .i64 y8))), (.w .g), (.w (.ln l2.length)), (.w .g), (.p false), .g, (.w .g), (.w .g), (.w .g), (.w .g), (.w (.ix id8 off8 g8)), (.w (.ld (.int .i64 y8))), (.w (.ix id11 off11 g11)), (.w (.ld (.agg #[.int .i64 y11.1, .int .i64 y11.2.1, .int .i64 y11.2.2.1, .int .i64 y11.2.2.2]))), (.w (.c (.bool (F55 x1 y11.1 y11.2.1 y11.2.2.1 y11.2.2.2)) h)), (.w .g), (.p false), (.b false), .g, .g, .g, .g, (.ix id8 off8 g8), (.ld (.int .i64 y8)), (.ix id11 off11 g11), (.ld (.agg #[.int .i64 y11.1, .int .i64 y11.2.1, .int .i64 y11.2.2.1, .int .i64 y11.2.2.2])), .g, (.c (.int .i64 (F56 y11.1 y11.2.1 y11.2.2.1 y11.2.2.2 x3)) h), .g, .g, .g, .g]) (ds := F38_m1_1) (ks := []) (e := .normal) (s2 := (F38_h1 h x1 v2 x3 l4 v4 (IntKind.i64.wrap (a5 + (F56 y11.1 y11.2.1 y11.2.2.1 y11.2.2.2 x3))) (IntKind.i64.wrap (a6 + 1)))) (hC := (ai (F56_spec y11.1 y11.2.1 y11.2.2.1 y11.2.2.2 x3 h _ rfl) (ai (At.agg (P := Try.prog) (t := 57) (v := .agg #[.int .i64 y11.1, .int .i64 y11.2.1, .int .i64 y11.2.2.1, .int .i64 y11.2.2.2]) (m := 4) at11 (by kernel_rfl) (by kernel_rfl) 0 (by kernel_rfl) rfl) (ai ix11 (ai (At.one (P := Try.prog) (t := 3) (v := .int .i64 y8) at8 (by kernel_rfl) 0 rfl rfl) (ai ix8 (ai c13 kc13))))))) (hd := F38_d1) (h := by kernel_rfl)
  · intro hr
    obtain rfl := Option.some.inj hr
    show AWp Try.prog _ (Ends1 ((F38_x1 h v2 v4) ((1, a5) : Nat × Int)).1 ((F38_x1 h v2 v4) ((1, a5) : Nat × Int)).2) _
    exact pEnd_sound good (L := F38_L) (D := F38_D) (its := [.g, (.b false)]) (ds := F38_m1_2) (ks := []) (e := ((F38_x1 h v2 v4) ((1, a5) : Nat × Int)).1) (s2 := ((F38_x1 h v2 v4) ((1, a5) : Nat × Int)).2) (hC := (ai c7 trivial)) (hd := F38_d1) (h := by kernel_rfl)
theorem F38_l1_0 (h : AHeap) (x1 : Int) (l2 : List (Int × Int × Int × Int)) (v2 : Hd) (hv2 : SlE E57 4 h (sv v2) l2) (x3 : Int) (l4 : List Int) (v4 : Hd) (hv4 : SlE E3 1 h (sv v4) l4) (x : Int × Int) (r : Nat × Int) (hl : loopO (fun (s : Int × Int) => F38_s1 x1 l2 x3 l4 s.1 s.2) x = some r) (q0 : Nat.beq r.1 0 = true) : AWp Try.prog (.loop (codeOf Try.prog 38 [1, 1, 0, 1, 0, 0])) (Ends1 .ret (F38_x1_0 h v2 v4 r)) ((fun (s : Int × Int) => (F38_h1 h x1 v2 x3 l4 v4 s.1 s.2)) x) := by
  have k := loop_fun (P := Try.prog) (c := (codeOf Try.prog 38 [1, 1, 0, 1, 0, 0])) (step := (fun (s : Int × Int) => F38_s1 x1 l2 x3 l4 s.1 s.2)) (hd := (fun (s : Int × Int) => (F38_h1 h x1 v2 x3 l4 v4 s.1 s.2))) (X := (F38_x1 h v2 v4)) (by intro t; unfold F38_x1; cases Nat.beq t.1 0 <;> (intro h; cases h)) (fun x => F38_r1 h x1 l2 v2 hv2 x3 l4 v4 hv4 x.1 x.2) hl
  simp only [F38_x1, q0, cond_true, cond_false] at k
  exact k
theorem F38_l1_1 (h : AHeap) (x1 : Int) (l2 : List (Int × Int × Int × Int)) (v2 : Hd) (hv2 : SlE E57 4 h (sv v2) l2) (x3 : Int) (l4 : List Int) (v4 : Hd) (hv4 : SlE E3 1 h (sv v4) l4) (x : Int × Int) (r : Nat × Int) (hl : loopO (fun (s : Int × Int) => F38_s1 x1 l2 x3 l4 s.1 s.2) x = some r) (q0 : Nat.beq r.1 0 = false) : AWp Try.prog (.loop (codeOf Try.prog 38 [1, 1, 0, 1, 0, 0])) (Ends1 (.exit 0) (F38_x1_1 h v2 v4 r)) ((fun (s : Int × Int) => (F38_h1 h x1 v2 x3 l4 v4 s.1 s.2)) x) := by
  have k := loop_fun (P := Try.prog) (c := (codeOf Try.prog 38 [1, 1, 0, 1, 0, 0])) (step := (fun (s : Int × Int) => F38_s1 x1 l2 x3 l4 s.1 s.2)) (hd := (fun (s : Int × Int) => (F38_h1 h x1 v2 x3 l4 v4 s.1 s.2))) (X := (F38_x1 h v2 v4)) (by intro t; unfold F38_x1; cases Nat.beq t.1 0 <;> (intro h; cases h)) (fun x => F38_r1 h x1 l2 v2 hv2 x3 l4 v4 hv4 x.1 x.2) hl
  simp only [F38_x1, q0, cond_true, cond_false] at k
  exact k
def F38_m2_2 : List Bool := (true :: false :: true :: false :: (rp 6 true (false :: (rp 48 true (false :: false :: (rp 50 true []))))))
def F38_m2_1 : List Bool := (true :: false :: true :: false :: (rp 6 true (false :: true :: false :: (rp 46 true (false :: false :: (rp 24 true (false :: false :: (rp 24 true []))))))))
def F38_m2_0 : List Bool := (rp 8 true (false :: false :: (rp 101 true [])))
def F38_s2 (l2 : List (Int × Int × Int × Int)) (l4 : List Int) (a17 : Int) (y22 : Int × Int × Int × Int) (a25 : Int) : Option (Int ⊕ Nat) :=
  (bif decide (a25 < a17) then
   (Option.bind (at? l4 a25) fun y27 =>
   (Option.bind (at? l2 y27) fun y28 =>
   (bif (y28.1 == y22.1) then
    some (.inr 0)
   else
    some (.inl (IntKind.i64.wrap (a25 + 1))))))
  else
   some (.inr 1))
def F38_h2 (h : AHeap) (v2 : Hd) (l4 : List Int) (v4 : Hd) (y15 : Nat × Int) (a17 : Int)  (a25 : Int) : AS := ⟨(junk :: (sv v2) :: junk :: (sv v4) :: (rp 6 junk ((.int .i64 y15.2) :: junk :: (.int .i64 a17) :: (rp 46 junk ((.int .i64 (l4.length : Int)) :: (.int .i64 a17) :: (rp 24 junk ((.int .i64 a17) :: (.int .i64 a25) :: (rp 24 junk [])))))))), [], h⟩
theorem F38_d2 : drawsOk F38_D (codeOf Try.prog 38 [1, 1, 1, 0, 1, 0, 0, 1, 1, 0, 0, 1, 1, 1, 1, 0, 0]) = true := by kernel_rfl
def F38_x2_0 (h : AHeap) (v2 : Hd) (l4 : List Int) (v4 : Hd) (y15 : Nat × Int) (a17 : Int)  (r : Nat) : AS := ⟨(rp 8 junk ((.int .i64 0) :: (.bool false) :: (rp 101 junk []))), [], h⟩
def F38_x2_1 (h : AHeap) (v2 : Hd) (l4 : List Int) (v4 : Hd) (y15 : Nat × Int) (a17 : Int)  (r : Nat) : AS := ⟨(junk :: (sv v2) :: junk :: (sv v4) :: (rp 6 junk ((.int .i64 y15.2) :: (rp 48 junk ((.int .i64 (l4.length : Int)) :: (.int .i64 a17) :: (rp 50 junk [])))))), [], h⟩
def F38_x2 (h : AHeap) (v2 : Hd) (l4 : List Int) (v4 : Hd) (y15 : Nat × Int) (a17 : Int) (r : Nat) : Exit × AS := (bif Nat.beq r 0 then (.ret, (F38_x2_0 h v2 l4 v4 y15 a17 r)) else ((.exit 4), (F38_x2_1 h v2 l4 v4 y15 a17 r)))
set_option maxRecDepth 100000 in
theorem F38_r2 (h : AHeap) (l2 : List (Int × Int × Int × Int)) (v2 : Hd) (hv2 : SlE E57 4 h (sv v2) l2) (l4 : List Int) (v4 : Hd) (hv4 : SlE E3 1 h (sv v4) l4) (y15 : Nat × Int) (a17 : Int) (y21 : Int) (id21 : Nat) (off21 : Nat) (g21 : Nat) (ix21 : ixv 1 (sv v4) a17 = some (id21, off21, g21)) (at21 : At h id21 off21 g21 (enc3 y21)) (y22 : Int × Int × Int × Int) (id22 : Nat) (off22 : Nat) (g22 : Nat) (ix22 : ixv 4 (sv v2) y21 = some (id22, off22, g22)) (at22 : At h id22 off22 g22 (enc57 y22)) (a25 : Int) (o : Int ⊕ Nat) : F38_s2 l2 l4 a17 y22 a25 = some o → RdF Try.prog (codeOf Try.prog 38 [1, 1, 1, 0, 1, 0, 0, 1, 1, 0, 0, 1, 1, 1, 1, 0, 0]) (fun (s : Int) => (F38_h2 h v2 l4 v4 y15 a17 s)) (F38_x2 h v2 l4 v4 y15 a17) (F38_h2 h v2 l4 v4 y15 a17 a25) o := by
  unfold F38_s2
  refine dec_bif (fun c26 => ?_) (fun c26 => ?_)
  · refine bind_opt fun y27 e27 => ?_
    obtain ⟨id27, off27, g27, cs27, ix27, at27, rfl⟩ := SlE.at hv4 e27
    refine bind_opt fun y28 e28 => ?_
    obtain ⟨id28, off28, g28, cs28, ix28, at28, rfl⟩ := SlE.at hv2 e28
    have kc29 := (ai (At.one (P := Try.prog) (t := 3) (v := .int .i64 y22.1) at22 (by kernel_rfl) 0 rfl rfl) (ai ix22 (ai (At.one (P := Try.prog) (t := 3) (v := .int .i64 y21) at21 (by kernel_rfl) 0 rfl rfl) (ai ix21 (ai (At.one (P := Try.prog) (t := 3) (v := .int .i64 y28.1) at28 (by kernel_rfl) 0 rfl rfl) (ai ix28 (ai (At.one (P := Try.prog) (t := 3) (v := .int .i64 y27) at27 (by kernel_rfl) 0 rfl rfl) (ai ix27 (ai c26 trivial)))))))))
    refine dec_bif (fun c29 => ?_) (fun c29 => ?_)
    · intro hr
      obtain rfl := Option.some.inj hr
      show AWp Try.prog _ (Ends1 ((F38_x2 h v2 l4 v4 y15 a17) (0 : Nat)).1 ((F38_x2 h v2 l4 v4 y15 a17) (0 : Nat)).2) _
      exact pEnd_sound good (L := F38_L) (D := F38_D) (its := [.g, (.b true), .g, .g, .g, .g, .g, (.ix id27 off27 g27), (.ld (.int .i64 y27)), (.ix id28 off28 g28), .g, (.ld (.int .i64 y28.1)), .g, .g, .g, (.ix id21 off21 g21), (.ld (.int .i64 y21)), (.ix id22 off22 g22), .g, (.ld (.int .i64 y22.1)), .g, (.b true), .g, .g]) (ds := F38_m2_0) (ks := []) (e := ((F38_x2 h v2 l4 v4 y15 a17) (0 : Nat)).1) (s2 := ((F38_x2 h v2 l4 v4 y15 a17) (0 : Nat)).2) (hC := (ai c29 kc29)) (hd := F38_d2) (h := by kernel_rfl)
    · intro hr
      obtain rfl := Option.some.inj hr
      show AWp Try.prog _ (Ends1 .normal (F38_h2 h v2 l4 v4 y15 a17 (IntKind.i64.wrap (a25 + 1)))) _
      exact pEnd_sound good (L := F38_L) (D := F38_D) (its := [.g, (.b true), .g, .g, .g, .g, .g, (.ix id27 off27 g27), (.ld (.int .i64 y27)), (.ix id28 off28 g28), .g, (.ld (.int .i64 y28.1)), .g, .g, .g, (.ix id21 off21 g21), (.ld (.int .i64 y21)), (.ix id22 off22 g22), .g, (.ld (.int .i64 y22.1)), .g, (.b false), .g, .g]) (ds := F38_m2_1) (ks := []) (e := .normal) (s2 := (F38_h2 h v2 l4 v4 y15 a17 (IntKind.i64.wrap (a25 + 1)))) (hC := (ai c29 kc29)) (hd := F38_d2) (h := by kernel_rfl)
  · intro hr
    obtain rfl := Option.some.inj hr
    show AWp Try.prog _ (Ends1 ((F38_x2 h v2 l4 v4 y15 a17) (1 : Nat)).1 ((F38_x2 h v2 l4 v4 y15 a17) (1 : Nat)).2) _
    exact pEnd_sound good (L := F38_L) (D := F38_D) (its := [.g, (.b false)]) (ds := F38_m2_2) (ks := []) (e := ((F38_x2 h v2 l4 v4 y15 a17) (1 : Nat)).1) (s2 := ((F38_x2 h v2 l4 v4 y15 a17) (1 : Nat)).2) (hC := (ai c26 trivial)) (hd := F38_d2) (h := by kernel_rfl)
theorem F38_l2_0 (h : AHeap) (l2 : List (Int × Int × Int × Int)) (v2 : Hd) (hv2 : SlE E57 4 h (sv v2) l2) (l4 : List Int) (v4 : Hd) (hv4 : SlE E3 1 h (sv v4) l4) (y15 : Nat × Int) (a17 : Int) (y21 : Int) (id21 : Nat) (off21 : Nat) (g21 : Nat) (ix21 : ixv 1 (sv v4) a17 = some (id21, off21, g21)) (at21 : At h id21 off21 g21 (enc3 y21)) (y22 : Int × Int × Int × Int) (id22 : Nat) (off22 : Nat) (g22 : Nat) (ix22 : ixv 4 (sv v2) y21 = some (id22, off22, g22)) (at22 : At h id22 off22 g22 (enc57 y22)) (x : Int) (r : Nat) (hl : loopO (fun (s : Int) => F38_s2 l2 l4 a17 y22 s) x = some r) (q0 : Nat.beq r 0 = true) : AWp Try.prog (.loop (codeOf Try.prog 38 [1, 1, 1, 0, 1, 0, 0, 1, 1, 0, 0, 1, 1, 1, 1, 0, 0])) (Ends1 .ret (F38_x2_0 h v2 l4 v4 y15 a17 r)) ((fun (s : Int) => (F38_h2 h v2 l4 v4 y15 a17 s)) x) := by
  have k := loop_fun (P := Try.prog) (c := (codeOf Try.prog 38 [1, 1, 1, 0, 1, 0, 0, 1, 1, 0, 0, 1, 1, 1, 1, 0, 0])) (step := (fun (s : Int) => F38_s2 l2 l4 a17 y22 s)) (hd := (fun (s : Int) => (F38_h2 h v2 l4 v4 y15 a17 s))) (X := (F38_x2 h v2 l4 v4 y15 a17)) (by intro t; unfold F38_x2; cases Nat.beq t 0 <;> (intro h; cases h)) (fun x => F38_r2 h l2 v2 hv2 l4 v4 hv4 y15 a17 y21 id21 off21 g21 ix21 at21 y22 id22 off22 g22 ix22 at22 x) hl
  simp only [F38_x2, q0, cond_true, cond_false] at k
  exact k
theorem F38_l2_1 (h : AHeap) (l2 : List (Int × Int × Int × Int)) (v2 : Hd) (hv2 : SlE E57 4 h (sv v2) l2) (l4 : List Int) (v4 : Hd) (hv4 : SlE E3 1 h (sv v4) l4) (y15 : Nat × Int) (a17 : Int) (y21 : Int) (id21 : Nat) (off21 : Nat) (g21 : Nat) (ix21 : ixv 1 (sv v4) a17 = some (id21, off21, g21)) (at21 : At h id21 off21 g21 (enc3 y21)) (y22 : Int × Int × Int × Int) (id22 : Nat) (off22 : Nat) (g22 : Nat) (ix22 : ixv 4 (sv v2) y21 = some (id22, off22, g22)) (at22 : At h id22 off22 g22 (enc57 y22)) (x : Int) (r : Nat) (hl : loopO (fun (s : Int) => F38_s2 l2 l4 a17 y22 s) x = some r) (q0 : Nat.beq r 0 = false) : AWp Try.prog (.loop (codeOf Try.prog 38 [1, 1, 1, 0, 1, 0, 0, 1, 1, 0, 0, 1, 1, 1, 1, 0, 0])) (Ends1 (.exit 4) (F38_x2_1 h v2 l4 v4 y15 a17 r)) ((fun (s : Int) => (F38_h2 h v2 l4 v4 y15 a17 s)) x) := by
  have k := loop_fun (P := Try.prog) (c := (codeOf Try.prog 38 [1, 1, 1, 0, 1, 0, 0, 1, 1, 0, 0, 1, 1, 1, 1, 0, 0])) (step := (fun (s : Int) => F38_s2 l2 l4 a17 y22 s)) (hd := (fun (s : Int) => (F38_h2 h v2 l4 v4 y15 a17 s))) (X := (F38_x2 h v2 l4 v4 y15 a17)) (by intro t; unfold F38_x2; cases Nat.beq t 0 <;> (intro h; cases h)) (fun x => F38_r2 h l2 v2 hv2 l4 v4 hv4 y15 a17 y21 id21 off21 g21 ix21 at21 y22 id22 off22 g22 ix22 at22 x) hl
  simp only [F38_x2, q0, cond_true, cond_false] at k
  exact k
def F38_m3_2 : List Bool := (rp 10 true (false :: (rp 100 true [])))
def F38_m3_1 : List Bool := (true :: false :: true :: false :: (rp 6 true (false :: (rp 48 true (false :: false :: (rp 50 true []))))))
def F38_m3_0 : List Bool := (rp 8 true (false :: false :: (rp 101 true [])))
def F38_s3 (l2 : List (Int × Int × Int × Int)) (l4 : List Int) (a17 : Int) : Option (Int ⊕ Nat) :=
  (bif decide (a17 < (l4.length : Int)) then
   (bif ((l4.length : Int) == 0) then none else
   (Option.bind (at? l4 ((IntKind.i64.wrap (a17 + 1)).tmod (l4.length : Int))) fun y20 =>
   (Option.bind (at? l4 a17) fun y21 =>
   (Option.bind (at? l2 y21) fun y22 =>
   (Option.bind (at? l2 y20) fun y23 =>
   (bif (y22.2.1 != y23.1) then
    some (.inr 0)
   else
    (Option.bind (loopO (fun (s : Int) => F38_s2 l2 l4 a17 y22 s) 0) fun y30 =>
    (bif (Nat.beq y30 0) then
     some (.inr 0)
    else
     some (.inl (IntKind.i64.wrap (a17 + 1)))))))))))
  else
   some (.inr 1))
def F38_h3 (h : AHeap) (v2 : Hd) (l4 : List Int) (v4 : Hd) (y15 : Nat × Int)  (a17 : Int) : AS := ⟨(junk :: (sv v2) :: junk :: (sv v4) :: (rp 6 junk ((.int .i64 y15.2) :: (rp 48 junk ((.int .i64 (l4.length : Int)) :: (.int .i64 a17) :: (rp 50 junk [])))))), [], h⟩
theorem F38_d3 : drawsOk F38_D (codeOf Try.prog 38 [1, 1, 1, 0, 1, 0, 0]) = true := by kernel_rfl
def F38_x3_0 (h : AHeap) (y15 : Nat × Int)  (r : Nat) : AS := ⟨(rp 8 junk ((.int .i64 0) :: (.bool false) :: (rp 101 junk []))), [], h⟩
def F38_x3_1 (h : AHeap) (y15 : Nat × Int)  (r : Nat) : AS := ⟨(rp 10 junk ((.int .i64 y15.2) :: (rp 100 junk []))), [], h⟩
def F38_x3 (h : AHeap) (y15 : Nat × Int) (r : Nat) : Exit × AS := (bif Nat.beq r 0 then (.ret, (F38_x3_0 h y15 r)) else ((.exit 2), (F38_x3_1 h y15 r)))
set_option maxRecDepth 100000 in
theorem F38_r3 (h : AHeap) (l2 : List (Int × Int × Int × Int)) (v2 : Hd) (hv2 : SlE E57 4 h (sv v2) l2) (l4 : List Int) (v4 : Hd) (hv4 : SlE E3 1 h (sv v4) l4) (y15 : Nat × Int) (a17 : Int) (o : Int ⊕ Nat) : F38_s3 l2 l4 a17 = some o → RdF Try.prog (codeOf Try.prog 38 [1, 1, 1, 0, 1, 0, 0]) (fun (s : Int) => (F38_h3 h v2 l4 v4 y15 s)) (F38_x3 h y15) (F38_h3 h v2 l4 v4 y15 a17) o := by
  unfold F38_s3
  refine dec_bif (fun c18 => ?_) (fun c18 => ?_)
  · refine guard_ok fun g19 => ?_
    refine bind_opt fun y20 e20 => ?_
    obtain ⟨id20, off20, g20, cs20, ix20, at20, rfl⟩ := SlE.at hv4 e20
    refine bind_opt fun y21 e21 => ?_
    obtain ⟨id21, off21, g21, cs21, ix21, at21, rfl⟩ := SlE.at hv4 e21
    refine bind_opt fun y22 e22 => ?_
    obtain ⟨id22, off22, g22, cs22, ix22, at22, rfl⟩ := SlE.at hv2 e22
    refine bind_opt fun y23 e23 => ?_
    obtain ⟨id23, off23, g23, cs23, ix23, at23, rfl⟩ := SlE.at hv2 e23
    have kc24 := (ai (At.one (P := Try.prog) (t := 3) (v := .int .i64 y23.1) at23 (by kernel_rfl) 0 rfl rfl) (ai ix23 (ai (At.one (P := Try.prog) (t := 3) (v := .int .i64 y22.2.1) at22 (by kernel_rfl) 1 rfl rfl) (ai ix22 (ai (At.one (P := Try.prog) (t := 3) (v := .int .i64 y21) at21 (by kernel_rfl) 0 rfl rfl) (ai ix21 (ai (At.one (P := Try.prog) (t := 3) (v := .int .i64 y20) at20 (by kernel_rfl) 0 rfl rfl) (ai ix20 (ai (nz g19) (ai (SlE.len hv4) (ai c18 trivial)))))))))))
    refine dec_bif (fun c24 => ?_) (fun c24 => ?_)
    · intro hr
      obtain rfl := Option.some.inj hr
      show AWp Try.prog _ (Ends1 ((F38_x3 h y15) (0 : Nat)).1 ((F38_x3 h y15) (0 : Nat)).2) _
      exact pEnd_sound good (L := F38_L) (D := F38_D) (its := [.g, (.b true), .g, .g, .g, .g, .g, .g, (.ln l4.length), .d, (.ix id20 off20 g20), (.ld (.int .i64 y20)), .g, .g, .g, .g, (.ix id21 off21 g21), (.ld (.int .i64 y21)), (.ix id22 off22 g22), .g, (.ld (.int .i64 y22.2.1)), .g, .g, (.ix id23 off23 g23), .g, (.ld (.int .i64 y23.1)), .g, (.b true), .g, .g]) (ds := F38_m3_0) (ks := []) (e := ((F38_x3 h y15) (0 : Nat)).1) (s2 := ((F38_x3 h y15) (0 : Nat)).2) (hC := (ai c24 kc24)) (hd := F38_d3) (h := by kernel_rfl)
    · refine bind_opt fun y30 e30 => ?_
      have kc31 := (ai c24 kc24)
      refine dec_bif (fun c31 => ?_) (fun c31 => ?_)
      · intro hr
        obtain rfl := Option.some.inj hr
        show AWp Try.prog _ (Ends1 ((F38_x3 h y15) (0 : Nat)).1 ((F38_x3 h y15) (0 : Nat)).2) _
        exact pEnd_sound good (L := F38_L) (D := F38_D) (its := [.g, (.b true), .g, .g, .g, .g, .g, .g, (.ln l4.length), .d, (.ix id20 off20 g20), (.ld (.int .i64 y20)), .g, .g, .g, .g, (.ix id21 off21 g21), (.ld (.int .i64 y21)), (.ix id22 off22 g22), .g, (.ld (.int .i64 y22.2.1)), .g, .g, (.ix id23 off23 g23), .g, (.ld (.int .i64 y23.1)), .g, (.b false), .g, .g, (.l F38_m2_1 [] .ret (F38_x2_0 h v2 l4 v4 y15 a17 y30))]) (ds := F38_m3_0) (ks := []) (e := ((F38_x3 h y15) (0 : Nat)).1) (s2 := ((F38_x3 h y15) (0 : Nat)).2) (hC := (ai (F38_l2_0 h l2 v2 hv2 l4 v4 hv4 y15 a17 y21 id21 off21 g21 ix21 at21 y22 id22 off22 g22 ix22 at22 0 y30 e30 c31) kc31)) (hd := F38_d3) (h := by kernel_rfl)
      · intro hr
        obtain rfl := Option.some.inj hr
        show AWp Try.prog _ (Ends1 .normal (F38_h3 h v2 l4 v4 y15 (IntKind.i64.wrap (a17 + 1)))) _
        exact pEnd_sound good (L := F38_L) (D := F38_D) (its := [.g, (.b true), .g, .g, .g, .g, .g, .g, (.ln l4.length), .d, (.ix id20 off20 g20), (.ld (.int .i64 y20)), .g, .g, .g, .g, (.ix id21 off21 g21), (.ld (.int .i64 y21)), (.ix id22 off22 g22), .g, (.ld (.int .i64 y22.2.1)), .g, .g, (.ix id23 off23 g23), .g, (.ld (.int .i64 y23.1)), .g, (.b false), .g, .g, (.l F38_m2_1 [] (.exit 4) (F38_x2_1 h v2 l4 v4 y15 a17 y30)), .g, .g]) (ds := F38_m3_1) (ks := []) (e := .normal) (s2 := (F38_h3 h v2 l4 v4 y15 (IntKind.i64.wrap (a17 + 1)))) (hC := (ai (F38_l2_1 h l2 v2 hv2 l4 v4 hv4 y15 a17 y21 id21 off21 g21 ix21 at21 y22 id22 off22 g22 ix22 at22 0 y30 e30 c31) kc31)) (hd := F38_d3) (h := by kernel_rfl)
  · intro hr
    obtain rfl := Option.some.inj hr
    show AWp Try.prog _ (Ends1 ((F38_x3 h y15) (1 : Nat)).1 ((F38_x3 h y15) (1 : Nat)).2) _
    exact pEnd_sound good (L := F38_L) (D := F38_D) (its := [.g, (.b false)]) (ds := F38_m3_2) (ks := []) (e := ((F38_x3 h y15) (1 : Nat)).1) (s2 := ((F38_x3 h y15) (1 : Nat)).2) (hC := (ai c18 trivial)) (hd := F38_d3) (h := by kernel_rfl)
theorem F38_l3_0 (h : AHeap) (l2 : List (Int × Int × Int × Int)) (v2 : Hd) (hv2 : SlE E57 4 h (sv v2) l2) (l4 : List Int) (v4 : Hd) (hv4 : SlE E3 1 h (sv v4) l4) (y15 : Nat × Int) (x : Int) (r : Nat) (hl : loopO (fun (s : Int) => F38_s3 l2 l4 s) x = some r) (q0 : Nat.beq r 0 = true) : AWp Try.prog (.loop (codeOf Try.prog 38 [1, 1, 1, 0, 1, 0, 0])) (Ends1 .ret (F38_x3_0 h y15 r)) ((fun (s : Int) => (F38_h3 h v2 l4 v4 y15 s)) x) := by
  have k := loop_fun (P := Try.prog) (c := (codeOf Try.prog 38 [1, 1, 1, 0, 1, 0, 0])) (step := (fun (s : Int) => F38_s3 l2 l4 s)) (hd := (fun (s : Int) => (F38_h3 h v2 l4 v4 y15 s))) (X := (F38_x3 h y15)) (by intro t; unfold F38_x3; cases Nat.beq t 0 <;> (intro h; cases h)) (fun x => F38_r3 h l2 v2 hv2 l4 v4 hv4 y15 x) hl
  simp only [F38_x3, q0, cond_true, cond_false] at k
  exact k
theorem F38_l3_1 (h : AHeap) (l2 : List (Int × Int × Int × Int)) (v2 : Hd) (hv2 : SlE E57 4 h (sv v2) l2) (l4 : List Int) (v4 : Hd) (hv4 : SlE E3 1 h (sv v4) l4) (y15 : Nat × Int) (x : Int) (r : Nat) (hl : loopO (fun (s : Int) => F38_s3 l2 l4 s) x = some r) (q0 : Nat.beq r 0 = false) : AWp Try.prog (.loop (codeOf Try.prog 38 [1, 1, 1, 0, 1, 0, 0])) (Ends1 (.exit 2) (F38_x3_1 h y15 r)) ((fun (s : Int) => (F38_h3 h v2 l4 v4 y15 s)) x) := by
  have k := loop_fun (P := Try.prog) (c := (codeOf Try.prog 38 [1, 1, 1, 0, 1, 0, 0])) (step := (fun (s : Int) => F38_s3 l2 l4 s)) (hd := (fun (s : Int) => (F38_h3 h v2 l4 v4 y15 s))) (X := (F38_x3 h y15)) (by intro t; unfold F38_x3; cases Nat.beq t 0 <;> (intro h; cases h)) (fun x => F38_r3 h l2 v2 hv2 l4 v4 hv4 y15 x) hl
  simp only [F38_x3, q0, cond_true, cond_false] at k
  exact k
def F38 (x1 : Int) (l2 : List (Int × Int × Int × Int)) (x3 : Int) (l4 : List Int) : Option (Int × Bool) :=
  (Option.bind (loopO (fun (s : Int × Int) => F38_s1 x1 l2 x3 l4 s.1 s.2) (0, 0)) fun y15 =>
  (bif (Nat.beq y15.1 0) then
   some (0, false)
  else
   (Option.bind (loopO (fun (s : Int) => F38_s3 l2 l4 s) 0) fun y32 =>
   (bif (Nat.beq y32 0) then
    some (0, false)
   else
    some (y15.2, (decide (y15.2 > 0)))))))
set_option maxRecDepth 100000 in
theorem F38_spec (x1 : Int) (l2 : List (Int × Int × Int × Int)) (x3 : Int) (l4 : List Int) (v2 : Hd) (v4 : Hd) (h : AHeap) (hv2 : SlE E57 4 h (sv v2) l2) (hv4 : SlE E3 1 h (sv v4) l4) (r : Int × Bool) : F38 x1 l2 x3 l4 = some r → ACalls Try.prog 38 [.int .i64 x1, (sv v2), .int .i64 x3, (sv v4)] h (fun v' h'' => v' = (.tuple #[.int .i64 r.1, .bool r.2] : Value) ∧ h'' = h) := by
  unfold F38
  refine bind_opt fun y15 e15 => ?_
  have kc16 := (ai (SlE.len hv4) trivial)
  refine dec_bif (fun c16 => ?_) (fun c16 => ?_)
  · intro hr
    obtain rfl := Option.some.inj hr
    exact pFun_sound good tab_ok (f := 38) (its := [.g, .g, .g, .g, (.ln l4.length), .g, (.l F38_m1_1 [] .ret (F38_x1_0 h v2 v4 y15))]) (args := [.int .i64 x1, (sv v2), .int .i64 x3, (sv v4)]) (h := h) (h' := h) (v := .tuple #[.int .i64 0, .bool false]) (hC := (ai (F38_l1_0 h x1 l2 v2 hv2 x3 l4 v4 hv4 (0, 0) y15 e15 c16) kc16)) (hr := by kernel_rfl)
  · refine bind_opt fun y32 e32 => ?_
    have kc33 := (ai (SlE.len hv4) (ai (F38_l1_1 h x1 l2 v2 hv2 x3 l4 v4 hv4 (0, 0) y15 e15 c16) kc16))
    refine dec_bif (fun c33 => ?_) (fun c33 => ?_)
    · intro hr
      obtain rfl := Option.some.inj hr
      exact pFun_sound good tab_ok (f := 38) (its := [.g, .g, .g, .g, (.ln l4.length), .g, (.l F38_m1_1 [] (.exit 0) (F38_x1_1 h v2 v4 y15)), .g, (.ln l4.length), .g, (.l F38_m3_1 [] .ret (F38_x3_0 h y15 y32))]) (args := [.int .i64 x1, (sv v2), .int .i64 x3, (sv v4)]) (h := h) (h' := h) (v := .tuple #[.int .i64 0, .bool false]) (hC := (ai (F38_l3_0 h l2 v2 hv2 l4 v4 hv4 y15 0 y32 e32 c33) kc33)) (hr := by kernel_rfl)
    · intro hr
      obtain rfl := Option.some.inj hr
      exact pFun_sound good tab_ok (f := 38) (its := [.g, .g, .g, .g, (.ln l4.length), .g, (.l F38_m1_1 [] (.exit 0) (F38_x1_1 h v2 v4 y15)), .g, (.ln l4.length), .g, (.l F38_m3_1 [] (.exit 2) (F38_x3_1 h y15 y32)), .g, .g, .g, .g, .g]) (args := [.int .i64 x1, (sv v2), .int .i64 x3, (sv v4)]) (h := h) (h' := h) (v := .tuple #[.int .i64 y15.2, .bool (decide (y15.2 > 0))]) (hC := (ai (F38_l3_1 h l2 v2 hv2 l4 v4 hv4 y15 0 y32 e32 c33) kc33)) (hr := by kernel_rfl)
/-! 39 jacquard/jacquardref31.Sum -/
def F39_L : List Nat := [2]
def F39_D : List (Nat × List (Nat × Nat)) := []
def F39_m1_1 : List Bool := (rp 6 true (false :: false :: (rp 34 true [])))
def F39_m1_0 : List Bool := (true :: false :: false :: true :: true :: true :: false :: false :: true :: true :: true :: false :: false :: (rp 29 true []))
def F39_s1 (l6 : List (Int × Int)) (x7 : Int) (a8 : Int) (a9 : Int) (a10 : Int) : Option ((Int × Int × Int) ⊕ (Int × Int)) :=
  (bif decide (a10 < (l6.length : Int)) then
   (Option.bind (at? l6 a10) fun y12 =>
   (bif (y12.1 == x7) then
    some (.inl ((IntKind.i64.wrap (a8 + y12.2)), (if y12.2 > a9 then y12.2 else a9), (IntKind.i64.wrap (a10 + 1))))
   else
    some (.inl (a8, a9, (IntKind.i64.wrap (a10 + 1))))))
  else
   some (.inr (a8, a9)))
def F39_h1 (h : AHeap) (x1 : Int) (x2 : Int) (x3 : Bool) (v4 : Hd) (v5 : Hd) (l6 : List (Int × Int)) (v6 : Hd) (x7 : Int)  (a8 : Int) (a9 : Int) (a10 : Int) : AS := ⟨(junk :: (.int .i64 x7) :: (.pointer (some ⟨2, 0, none⟩)) :: junk :: junk :: junk :: (.int .i64 a8) :: (.int .i64 a9) :: junk :: junk :: junk :: (.int .i64 (l6.length : Int)) :: (.int .i64 a10) :: (rp 29 junk [])), [(2, [.int .i64 x1, .int .i64 x2, .bool x3, (sv v4), (sv v5), (sv v6)])], h⟩
theorem F39_d1 : drawsOk F39_D (codeOf Try.prog 39 [1, 1, 0, 1, 0, 0]) = true := by kernel_rfl
def F39_x1_0 (h : AHeap)  (r : Int × Int) : AS := ⟨(rp 6 junk ((.int .i64 r.1) :: (.int .i64 r.2) :: (rp 34 junk []))), [], h⟩
def F39_x1 (h : AHeap) (r : Int × Int) : Exit × AS := ((.exit 0), (F39_x1_0 h r))
set_option maxRecDepth 100000 in
theorem F39_r1 (h : AHeap) (x1 : Int) (x2 : Int) (x3 : Bool) (v4 : Hd) (v5 : Hd) (l6 : List (Int × Int)) (v6 : Hd) (hv6 : SlE E61 2 h (sv v6) l6) (x7 : Int) (a8 : Int) (a9 : Int) (a10 : Int) (o : (Int × Int × Int) ⊕ (Int × Int)) : F39_s1 l6 x7 a8 a9 a10 = some o → RdF Try.prog (codeOf Try.prog 39 [1, 1, 0, 1, 0, 0]) (fun (s : Int × Int × Int) => (F39_h1 h x1 x2 x3 v4 v5 l6 v6 x7 s.1 s.2.1 s.2.2)) (F39_x1 h) (F39_h1 h x1 x2 x3 v4 v5 l6 v6 x7 a8 a9 a10) o := by
  unfold F39_s1
  refine dec_bif (fun c11 => ?_) (fun c11 => ?_)
  · refine bind_opt fun y12 e12 => ?_
    obtain ⟨id12, off12, g12, cs12, ix12, at12, rfl⟩ := SlE.at hv6 e12
    have kc13 := (ai (At.one (P := Try.prog) (t := 3) (v := .int .i64 y12.1) at12 (by kernel_rfl) 0 rfl rfl) (ai ix12 (ai c11 trivial)))
    refine dec_bif (fun c13 => ?_) (fun c13 => ?_)
    · intro hr
      obtain rfl := Option.some.inj hr
      show AWp Try.prog _ (Ends1 .normal (F39_h1 h x1 x2 x3 v4 v5 l6 v6 x7 (IntKind.i64.wrap (a8 + y12.2)) (if y12.2 > a9 then y12.2 else a9) (IntKind.i64.wrap (a10 + 1)))) _
      exact pEnd_sound good (L := F39_L) (D := F39_D) (its := [.g, (.b true), .g, .g, .g, .g, .g, (.ix id12 off12 g12), .g, (.ld (.int .i64 y12.1)), .g, .g, (.b true), .g, .g, .g, .g, (.ix id12 off12 g12), .g, (.ld (.int .i64 y12.2)), .g, .g, .g, .g, .g, .g, (.ix id12 off12 g12), .g, (.ld (.int .i64 y12.2)), .g, .g, .g, .g]) (ds := F39_m1_0) (ks := []) (e := .normal) (s2 := (F39_h1 h x1 x2 x3 v4 v5 l6 v6 x7 (IntKind.i64.wrap (a8 + y12.2)) (if y12.2 > a9 then y12.2 else a9) (IntKind.i64.wrap (a10 + 1)))) (hC := (ai (At.one (P := Try.prog) (t := 3) (v := .int .i64 y12.2) at12 (by kernel_rfl) 1 rfl rfl) (ai ix12 (ai (At.one (P := Try.prog) (t := 3) (v := .int .i64 y12.2) at12 (by kernel_rfl) 1 rfl rfl) (ai ix12 (ai c13 kc13)))))) (hd := F39_d1) (h := by kernel_rfl)
    · intro hr
      obtain rfl := Option.some.inj hr
      show AWp Try.prog _ (Ends1 .normal (F39_h1 h x1 x2 x3 v4 v5 l6 v6 x7 a8 a9 (IntKind.i64.wrap (a10 + 1)))) _
      exact pEnd_sound good (L := F39_L) (D := F39_D) (its := [.g, (.b true), .g, .g, .g, .g, .g, (.ix id12 off12 g12), .g, (.ld (.int .i64 y12.1)), .g, .g, (.b false), .g, .g]) (ds := F39_m1_0) (ks := []) (e := .normal) (s2 := (F39_h1 h x1 x2 x3 v4 v5 l6 v6 x7 a8 a9 (IntKind.i64.wrap (a10 + 1)))) (hC := (ai c13 kc13)) (hd := F39_d1) (h := by kernel_rfl)
  · intro hr
    obtain rfl := Option.some.inj hr
    show AWp Try.prog _ (Ends1 ((F39_x1 h) ((a8, a9) : Int × Int)).1 ((F39_x1 h) ((a8, a9) : Int × Int)).2) _
    exact pEnd_sound good (L := F39_L) (D := F39_D) (its := [.g, (.b false)]) (ds := F39_m1_1) (ks := [2]) (e := ((F39_x1 h) ((a8, a9) : Int × Int)).1) (s2 := ((F39_x1 h) ((a8, a9) : Int × Int)).2) (hC := (ai c11 trivial)) (hd := F39_d1) (h := by kernel_rfl)
theorem F39_l1_0 (h : AHeap) (x1 : Int) (x2 : Int) (x3 : Bool) (v4 : Hd) (v5 : Hd) (l6 : List (Int × Int)) (v6 : Hd) (hv6 : SlE E61 2 h (sv v6) l6) (x7 : Int) (x : Int × Int × Int) (r : Int × Int) (hl : loopO (fun (s : Int × Int × Int) => F39_s1 l6 x7 s.1 s.2.1 s.2.2) x = some r) : AWp Try.prog (.loop (codeOf Try.prog 39 [1, 1, 0, 1, 0, 0])) (Ends1 (.exit 0) (F39_x1_0 h r)) ((fun (s : Int × Int × Int) => (F39_h1 h x1 x2 x3 v4 v5 l6 v6 x7 s.1 s.2.1 s.2.2)) x) := by
  have k := loop_fun (P := Try.prog) (c := (codeOf Try.prog 39 [1, 1, 0, 1, 0, 0])) (step := (fun (s : Int × Int × Int) => F39_s1 l6 x7 s.1 s.2.1 s.2.2)) (hd := (fun (s : Int × Int × Int) => (F39_h1 h x1 x2 x3 v4 v5 l6 v6 x7 s.1 s.2.1 s.2.2))) (X := (F39_x1 h)) (by intro t; unfold F39_x1; intro h; cases h) (fun x => F39_r1 h x1 x2 x3 v4 v5 l6 v6 hv6 x7 x.1 x.2.1 x.2.2) hl
  exact k
def F39 (x1 : Int) (x2 : Int) (x3 : Bool) (l4 : List (Int × Int × Int × Int)) (l5 : List (Int × Int × Int × Int)) (l6 : List (Int × Int)) (x7 : Int) : Option (Int × Int) :=
  (Option.bind (loopO (fun (s : Int × Int × Int) => F39_s1 l6 x7 s.1 s.2.1 s.2.2) (0, 0, 0)) fun y14 =>
  some (y14.1, y14.2))
set_option maxRecDepth 100000 in
theorem F39_spec (x1 : Int) (x2 : Int) (x3 : Bool) (l4 : List (Int × Int × Int × Int)) (l5 : List (Int × Int × Int × Int)) (l6 : List (Int × Int)) (x7 : Int) (v4 : Hd) (v5 : Hd) (v6 : Hd) (h : AHeap) (hv4 : SlE E57 4 h (sv v4) l4) (hv5 : SlE E59 4 h (sv v5) l5) (hv6 : SlE E61 2 h (sv v6) l6) (r : Int × Int) : F39 x1 x2 x3 l4 l5 l6 x7 = some r → ACalls Try.prog 39 [.agg #[.int .i64 x1, .int .i64 x2, .bool x3, (sv v4), (sv v5), (sv v6)], .int .i64 x7] h (fun v' h'' => v' = (.tuple #[.int .i64 r.1, .int .i64 r.2] : Value) ∧ h'' = h) := by
  unfold F39
  refine bind_opt fun y14 e14 => ?_
  intro hr
  obtain rfl := Option.some.inj hr
  exact pFun_sound good tab_ok (f := 39) (its := [.g, .g, .g, .g, .g, .g, .g, (.ln l6.length), .g, (.l F39_m1_0 [] (.exit 0) (F39_x1_0 h y14)), .g, .g, .g, .g]) (args := [.agg #[.int .i64 x1, .int .i64 x2, .bool x3, (sv v4), (sv v5), (sv v6)], .int .i64 x7]) (h := h) (h' := h) (v := .tuple #[.int .i64 y14.1, .int .i64 y14.2]) (hC := (ai (F39_l1_0 h x1 x2 x3 v4 v5 l6 v6 hv6 x7 (0, 0, 0) y14 e14) (ai (SlE.len hv6) trivial))) (hr := by kernel_rfl)
end
end Go.Proofs.Ytimeninncpmaeaa.Abs
