/-
  Contracts, written by program: for each function what its call yields, and that it yields it.
-/
import Derived.Test.YtpmbcnknnolojaaVw
import Derived.Test.YtpmbcnknnolojaaChecked
namespace Go.Proofs.Ytpmbcnknnolojaa.Abs
open Go
set_option linter.unusedVariables false
set_option linter.unusedSimpArgs false

theorem good : Good Try.prog := good_of Try.checked.mixed (by kernel_rfl)
noncomputable section
def tabC : List FEnt := [
  { f := 17, L := [], D := [] },
  { f := 18, L := [2], D := [] },
  { f := 20, L := [4], D := [] },
  { f := 22, L := [3], D := [] },
  { f := 48, L := [2, 3, 4], D := [] },
  { f := 49, L := [2], D := [] },
  { f := 52, L := [4], D := [] },
  { f := 53, L := [4], D := [] },
  { f := 56, L := [3], D := [(1, [(0, 2), (1, 2), (2, 2), (3, 2), (4, 2), (5, 2), (6, 2), (7, 2), (9, 2), (12, 2), (8, 3), (10, 3), (11, 2), (13, 0), (14, 2), (15, 2), (16, 2), (17, 2), (18, 2), (19, 2), (20, 2), (21, 2), (22, 2), (23, 2), (24, 2)])] },
  { f := 57, L := [1, 2], D := [] },
  { f := 58, L := [3], D := [(1, [(0, 2), (1, 0), (2, 2), (3, 2), (4, 2), (5, 2), (6, 2), (7, 2), (8, 2), (9, 2), (10, 2), (12, 2), (11, 3), (13, 0), (14, 2), (15, 2), (16, 2), (17, 2), (19, 2), (20, 3), (18, 0), (21, 2), (22, 2), (23, 2), (24, 2), (25, 2), (26, 2), (27, 2), (28, 2), (29, 2), (30, 2), (31, 2), (33, 2), (32, 3), (34, 0), (35, 2), (36, 2), (37, 2)])] },
  { f := 59, L := [1, 2], D := [] },
  { f := 79, L := [], D := [] },
  { f := 80, L := [], D := [] },
  { f := 92, L := [], D := [] },
  { f := 93, L := [], D := [] },
  { f := 94, L := [], D := [] },
  { f := 98, L := [], D := [] }]

theorem tabC_ok : tabOk Try.prog tabC = true := by kernel_rfl
theorem F17_run : rIs (rCall 2000 Try.prog tabC 40 17 [] AHeap.none) true = true := by kernel_rfl
theorem F17_spec0 (h : AHeap) : ACalls Try.prog 17 [] h (fun v' h'' => v' = (.bool true : Value) ∧ h'' = h) := acalls_run good 2000 40 tabC tabC_ok F17_run rfl h
def F17 : Unit := ()
theorem F17_spec (h : AHeap) (r : Unit) (_ : F17 = r) : ACalls Try.prog 17 [] h (fun v' h'' => v' = (.bool true : Value) ∧ h'' = h) := F17_spec0 h
def tab : List FEnt := [
  { f := 6, L := [4, 7, 8, 9, 11], D := [(3, [(0, 2), (1, 2), (2, 2), (4, 2), (5, 2), (3, 4), (6, 0), (7, 0)]), (4, [(0, 2), (2, 2), (1, 1), (3, 1), (4, 2), (5, 2), (6, 2), (7, 2), (9, 2), (10, 2), (8, 1), (11, 1), (12, 2), (13, 2), (14, 2), (15, 2), (16, 2), (18, 2), (19, 3), (17, 1), (20, 1), (21, 2), (22, 2), (23, 2), (24, 2), (25, 2), (26, 2), (28, 2), (30, 2), (29, 3), (27, 1), (31, 1), (32, 2), (33, 2), (34, 2), (35, 2), (36, 2), (38, 3), (39, 3), (37, 1), (40, 1), (41, 2), (42, 2), (43, 2), (44, 2), (45, 2), (47, 3), (48, 3), (46, 1), (49, 1), (50, 2), (51, 2)]), (12, [(0, 2), (1, 2), (2, 2), (4, 2), (6, 2), (5, 3), (3, 1), (7, 1), (8, 2), (9, 2)])] },
  { f := 7, L := [4, 7, 9], D := [(11, [(0, 2), (1, 2), (2, 1), (3, 2), (4, 2), (5, 2), (6, 2), (8, 2), (10, 2), (9, 3), (7, 1), (11, 1), (12, 2), (13, 2), (14, 2)])] },
  { f := 18, L := [2], D := [] },
  { f := 19, L := [2], D := [] },
  { f := 20, L := [4], D := [] },
  { f := 21, L := [4], D := [] },
  { f := 22, L := [3], D := [] },
  { f := 23, L := [3], D := [] },
  { f := 24, L := [4], D := [] },
  { f := 25, L := [4], D := [] },
  { f := 26, L := [2, 3], D := [(1, [(0, 2), (2, 3), (1, 1), (3, 1), (4, 1), (5, 2), (6, 2), (8, 3), (7, 1), (9, 1), (10, 1), (11, 2), (12, 2)])] },
  { f := 27, L := [2, 3], D := [(1, [(0, 2), (2, 3), (1, 1), (3, 1), (4, 1), (5, 2), (6, 2), (8, 3), (7, 1), (9, 1), (10, 1), (11, 2), (12, 2)])] },
  { f := 28, L := [2, 3, 4], D := [(1, [(0, 2), (2, 3), (5, 3), (7, 3), (1, 1), (3, 1), (4, 1), (6, 1), (8, 1), (9, 1), (10, 1), (11, 0)])] },
  { f := 29, L := [2, 3, 4], D := [(1, [(0, 2), (2, 3), (5, 3), (7, 3), (1, 1), (3, 1), (4, 1), (6, 1), (8, 1), (9, 1), (10, 1), (11, 0)])] },
  { f := 30, L := [4, 5, 6, 8, 10], D := [(1, [(0, 2), (8, 2), (2, 3), (1, 1), (3, 1), (4, 1), (5, 2), (6, 2), (7, 2), (9, 0), (10, 2)]), (2, [(0, 2), (8, 2), (2, 3), (1, 1), (3, 1), (4, 1), (5, 2), (6, 2), (7, 2), (9, 0), (10, 2)])] },
  { f := 31, L := [4, 5, 6, 8, 9], D := [(2, [(0, 2), (8, 2), (2, 3), (1, 1), (3, 1), (4, 1), (5, 2), (6, 2), (7, 2), (9, 0), (10, 2)])] },
  { f := 32, L := [3, 4, 9, 12], D := [(4, [(0, 2), (2, 2), (4, 2), (1, 3), (5, 3), (3, 1), (6, 2), (7, 2), (8, 2)]), (7, [(0, 2), (2, 2), (3, 2), (4, 2), (5, 2), (6, 2), (7, 2), (8, 2), (1, 3), (9, 1), (10, 2), (11, 2), (12, 0)]), (8, [(0, 2), (2, 2), (3, 2), (4, 2), (5, 2), (6, 2), (7, 2), (8, 2), (1, 3), (9, 1), (10, 2), (11, 2), (12, 0)]), (14, [(0, 2), (2, 2), (4, 2), (3, 3), (5, 3), (6, 2), (1, 1), (7, 1), (8, 1), (9, 2), (10, 2)]), (15, [(0, 2), (2, 2), (3, 2), (6, 2), (7, 2), (15, 2), (4, 3), (5, 2), (8, 3), (9, 2), (10, 2), (1, 1), (11, 1), (12, 2), (13, 2), (14, 2), (16, 0), (17, 2)])] },
  { f := 33, L := [3, 4, 6, 11, 12, 14], D := [(12, [(0, 2), (1, 2), (2, 2), (3, 2), (4, 2), (5, 2), (7, 2), (9, 2), (8, 3), (6, 1), (10, 1), (11, 2), (12, 2)]), (15, [(0, 2), (1, 2), (2, 2), (3, 2), (4, 2), (5, 2), (6, 0)]), (16, [(0, 2), (1, 2), (2, 2), (3, 2), (4, 2), (5, 2), (6, 0)])] },
  { f := 48, L := [2, 3, 4], D := [] },
  { f := 49, L := [2], D := [] },
  { f := 50, L := [2, 3, 4], D := [] },
  { f := 51, L := [2], D := [] },
  { f := 52, L := [4], D := [] },
  { f := 53, L := [4], D := [] },
  { f := 54, L := [4], D := [] },
  { f := 55, L := [4], D := [] },
  { f := 56, L := [3], D := [(1, [(0, 2), (1, 2), (2, 2), (3, 2), (4, 2), (5, 2), (6, 2), (7, 2), (9, 2), (12, 2), (8, 3), (10, 3), (11, 2), (13, 1), (14, 2), (15, 2), (16, 2), (17, 2), (18, 2), (19, 2), (20, 2), (21, 2), (22, 2), (23, 2), (24, 2)])] },
  { f := 57, L := [1, 2], D := [] },
  { f := 58, L := [3], D := [(1, [(0, 2), (1, 1), (2, 2), (3, 2), (4, 2), (5, 2), (6, 2), (7, 2), (8, 2), (9, 2), (10, 2), (12, 2), (11, 3), (13, 1), (14, 2), (15, 2), (16, 2), (17, 2), (19, 2), (20, 3), (18, 1), (21, 2), (22, 2), (23, 2), (24, 2), (25, 2), (26, 2), (27, 2), (28, 2), (29, 2), (30, 2), (31, 2), (33, 2), (32, 3), (34, 1), (35, 2), (36, 2), (37, 2)])] },
  { f := 59, L := [1, 2], D := [] },
  { f := 60, L := [3], D := [(1, [(0, 2), (1, 2), (2, 2), (3, 2), (4, 2), (5, 2), (6, 2), (7, 2), (9, 2), (12, 2), (8, 3), (10, 3), (11, 2), (13, 1), (14, 2), (15, 2), (16, 2), (17, 2), (18, 2), (19, 2), (20, 2), (21, 2), (22, 2), (23, 2), (24, 2), (25, 2)])] },
  { f := 61, L := [1, 2], D := [] },
  { f := 62, L := [3], D := [(1, [(0, 2), (1, 2), (2, 2), (3, 2), (4, 2), (5, 2), (6, 2), (7, 2), (8, 2), (9, 2), (10, 2), (11, 2), (12, 2), (13, 2), (14, 2), (16, 2), (15, 3), (17, 1), (18, 2), (19, 2), (20, 2), (21, 2), (23, 2), (24, 3), (22, 1), (25, 2), (26, 2), (27, 2), (28, 2), (29, 2), (30, 2), (31, 2), (32, 2), (33, 2), (34, 2), (35, 2), (37, 2), (36, 3), (38, 1), (39, 2), (40, 2), (41, 2)])] },
  { f := 63, L := [1, 2], D := [] },
  { f := 64, L := [2], D := [] },
  { f := 65, L := [4], D := [] },
  { f := 66, L := [2], D := [] },
  { f := 67, L := [4], D := [] },
  { f := 68, L := [2, 3], D := [] },
  { f := 69, L := [2, 3], D := [] },
  { f := 70, L := [2, 3], D := [] },
  { f := 71, L := [2, 3], D := [] },
  { f := 72, L := [2, 3, 4], D := [] },
  { f := 73, L := [2, 3, 4], D := [] },
  { f := 74, L := [2, 3, 4], D := [] },
  { f := 75, L := [2, 3, 4], D := [] },
  { f := 76, L := [2, 3, 4, 6], D := [] },
  { f := 77, L := [2, 3, 4, 6], D := [] },
  { f := 78, L := [2, 3, 4, 6], D := [] },
  { f := 79, L := [], D := [] },
  { f := 80, L := [], D := [] },
  { f := 81, L := [3, 4], D := [(4, [(0, 2), (1, 2), (2, 2), (3, 2), (4, 2), (5, 2)]), (9, [(0, 2), (1, 2), (2, 2), (3, 2), (4, 2), (5, 2), (6, 2), (7, 2), (8, 2), (9, 2), (10, 2), (11, 2), (12, 2)])] },
  { f := 82, L := [], D := [] },
  { f := 83, L := [3], D := [(1, [(0, 2), (2, 2), (4, 2), (1, 3), (5, 3), (3, 1), (6, 2), (7, 2), (8, 2)])] },
  { f := 84, L := [3], D := [(2, [(0, 2), (2, 2), (3, 3), (1, 1), (4, 2), (5, 2)])] },
  { f := 85, L := [3, 4], D := [(12, [(0, 2), (2, 2), (3, 2), (4, 2), (7, 2), (1, 3), (5, 3), (6, 2), (8, 1), (9, 2), (10, 2), (11, 2)]), (15, [(0, 2), (1, 2), (4, 2), (2, 3), (3, 2), (5, 1), (6, 2), (7, 2), (8, 2)])] },
  { f := 86, L := [], D := [] },
  { f := 92, L := [], D := [] },
  { f := 93, L := [], D := [] },
  { f := 94, L := [], D := [] },
  { f := 95, L := [], D := [] },
  { f := 96, L := [], D := [] },
  { f := 97, L := [], D := [] },
  { f := 98, L := [], D := [] },
  { f := 99, L := [], D := [] },
  { f := 100, L := [], D := [] },
  { f := 101, L := [], D := [] },
  { f := 102, L := [], D := [] },
  { f := 103, L := [2], D := [] },
  { f := 104, L := [6], D := [] }]

theorem tab_ok : tabOk Try.prog tab = true := by kernel_rfl
/-! 57 jacquard/facts.bitsOf -/
def F57 (x1 : Int) (x2 : Int) (x3 : Int) (x4 : Int) (x5 : Int) (x6 : Int) : Int × Int :=
  (x1, x2)
set_option maxRecDepth 100000 in
theorem F57_spec (x1 : Int) (x2 : Int) (x3 : Int) (x4 : Int) (x5 : Int) (x6 : Int) (h : AHeap)  (r : Int × Int) : F57 x1 x2 x3 x4 x5 x6 = r → ACalls Try.prog 57 [.agg #[.int .u64 x1, .int .u64 x2, .int .u64 x3, .int .u64 x4, .int .i64 x5, .int .i64 x6]] h (fun v' h'' => v' = (.agg #[.int .u64 r.1, .int .u64 r.2] : Value) ∧ h'' = h) := by
  unfold F57
  intro hr
  subst hr
  exact pFun_sound good tab_ok (f := 57) (its := [.g, .g, .g, .g, .g, .g, .g, .g]) (args := [.agg #[.int .u64 x1, .int .u64 x2, .int .u64 x3, .int .u64 x4, .int .i64 x5, .int .i64 x6]]) (h := h) (h' := h) (v := .agg #[.int .u64 x1, .int .u64 x2]) (hC := trivial) (hr := by kernel_rfl)
/-! 79 jacquard/bits.Mask -/
def F79__1 (x1 : Int) : Int := (IntKind.u64.wrap ((IntKind.u64.wrap (1 * 2 ^ (min ((IntKind.u64.wrap (x1))).toNat 64))) - 1))
def F79 (x1 : Int) : Option (Int) :=
  (bif decide (x1 ≤ 0) then
   some (0)
  else
   (bif decide (x1 ≥ 64) then
    some (18446744073709551615)
   else
    (bif decide ((IntKind.u64.wrap (x1)) < 0) then none else
    some (F79__1 x1))))
set_option maxRecDepth 100000 in
theorem F79_spec (x1 : Int) (h : AHeap)  (r : Int) : F79 x1 = some r → ACalls Try.prog 79 [.int .i64 x1] h (fun v' h'' => v' = (.int .u64 r : Value) ∧ h'' = h) := by
  unfold F79
  refine dec_bif (fun c2 => ?_) (fun c2 => ?_)
  · intro hr
    obtain rfl := Option.some.inj hr
    exact pFun_sound good tab_ok (f := 79) (its := [.g, .g, .g, .g, (.b true), .g]) (args := [.int .i64 x1]) (h := h) (h' := h) (v := .int .u64 0) (hC := (And.intro c2 trivial)) (hr := by kernel_rfl)
  · refine dec_bif (fun c3 => ?_) (fun c3 => ?_)
    · intro hr
      obtain rfl := Option.some.inj hr
      exact pFun_sound good tab_ok (f := 79) (its := [.g, .g, .g, .g, (.b false), .g, .g, .g, (.b true), .g]) (args := [.int .i64 x1]) (h := h) (h' := h) (v := .int .u64 18446744073709551615) (hC := (And.intro c3 (And.intro c2 trivial))) (hr := by kernel_rfl)
    · refine guard_ok fun g4 => ?_
      intro hr
      obtain rfl := Option.some.inj hr
      exact pFun_sound good tab_ok (f := 79) (its := [.g, .g, .g, .g, (.b false), .g, .g, .g, (.b false), .g, .g, .s, .g, .g]) (args := [.int .i64 x1]) (h := h) (h' := h) (v := .int .u64 (F79__1 x1)) (hC := (And.intro (nl g4) (And.intro c3 (And.intro c2 trivial)))) (hr := by kernel_rfl)
/-! 56 jacquard/knownbits.Valid -/
def F56 (x1 : Int) (x2 : Int) (x3 : Int) : Option (Bool) :=
  (bif decide (x1 ≥ 1) then
   (bif decide (x1 ≤ 64) then
    (Option.bind (F79 x1) fun y6 =>
    (bif decide ((IntKind.u64.wrap (((BitVec.ofInt 64 x2 ||| BitVec.ofInt 64 x3)).toNat)) ≤ y6) then
     some ((IntKind.u64.wrap (((BitVec.ofInt 64 x2 &&& BitVec.ofInt 64 x3)).toNat)) == 0)
    else
     some (false)))
   else
    some (false))
  else
   some (false))
set_option maxRecDepth 100000 in
theorem F56_spec (x1 : Int) (x2 : Int) (x3 : Int) (h : AHeap)  (r : Bool) : F56 x1 x2 x3 = some r → ACalls Try.prog 56 [.int .i64 x1, .agg #[.int .u64 x2, .int .u64 x3]] h (fun v' h'' => v' = (.bool r : Value) ∧ h'' = h) := by
  unfold F56
  refine dec_bif (fun c4 => ?_) (fun c4 => ?_)
  · refine dec_bif (fun c5 => ?_) (fun c5 => ?_)
    · refine bind_opt fun y6 e6 => ?_
      refine dec_bif (fun c8 => ?_) (fun c8 => ?_)
      · intro hr
        obtain rfl := Option.some.inj hr
        exact pFun_sound good tab_ok (f := 56) (its := [.g, .g, .g, .g, .g, (.w .g), (.w .g), (.p true), .g, (.w .g), (.w .g), (.w .g), (.w .g), (.w .g), (.w .g), (.w (.c (.int .u64 y6) h)), (.w .g), (.p true), .g, (.w .g), (.w .g), (.w .g), (.w .g), (.w .g), (.w .g), (.p true), .g]) (args := [.int .i64 x1, .agg #[.int .u64 x2, .int .u64 x3]]) (h := h) (h' := h) (v := .bool ((IntKind.u64.wrap (((BitVec.ofInt 64 x2 &&& BitVec.ofInt 64 x3)).toNat)) == 0)) (hC := (And.intro c8 (And.intro (g_tt c8) (And.intro (g_tt c8) (And.intro (g_tt c8) (And.intro (g_tt c8) (And.intro (g_tt c8) (And.intro (g_tt c8) (And.intro c5 (And.intro (g_tt c5) (And.intro (show AKeep h h from (AHeap.sub_refl h)) (And.intro (F79_spec x1 h _ e6) (And.intro (g_tt c5) (And.intro (g_tt c5) (And.intro (g_tt c5) (And.intro (g_tt c5) (And.intro (g_tt c5) (And.intro (g_tt c5) (And.intro (g_tt c5) (And.intro c4 (And.intro (g_tt c4) (And.intro (g_tt c4) trivial)))))))))))))))))))))) (hr := by kernel_rfl)
      · intro hr
        obtain rfl := Option.some.inj hr
        exact pFun_sound good tab_ok (f := 56) (its := [.g, .g, .g, .g, .g, (.w .g), (.w .g), (.p true), .g, (.w .g), (.w .g), (.w .g), (.w .g), (.w .g), (.w .g), (.w (.c (.int .u64 y6) h)), (.w .g), (.p true), .g, .n, .n, .n, .n, .n, .n, (.p false), .g]) (args := [.int .i64 x1, .agg #[.int .u64 x2, .int .u64 x3]]) (h := h) (h' := h) (v := .bool false) (hC := (And.intro c8 (And.intro (g_ft c8) (And.intro (g_ft c8) (And.intro (g_ft c8) (And.intro (g_ft c8) (And.intro (g_ft c8) (And.intro (g_ft c8) (And.intro c5 (And.intro (g_tt c5) (And.intro (show AKeep h h from (AHeap.sub_refl h)) (And.intro (F79_spec x1 h _ e6) (And.intro (g_tt c5) (And.intro (g_tt c5) (And.intro (g_tt c5) (And.intro (g_tt c5) (And.intro (g_tt c5) (And.intro (g_tt c5) (And.intro (g_tt c5) (And.intro c4 (And.intro (g_tt c4) (And.intro (g_tt c4) trivial)))))))))))))))))))))) (hr := by kernel_rfl)
    · intro hr
      obtain rfl := Option.some.inj hr
      exact pFun_sound good tab_ok (f := 56) (its := [.g, .g, .g, .g, .g, (.w .g), (.w .g), (.p true), .g, .n, .n, .n, .n, .n, .n, .n, .n, (.p false), .g, .n, .n, .n, .n, .n, .n, .g, .g]) (args := [.int .i64 x1, .agg #[.int .u64 x2, .int .u64 x3]]) (h := h) (h' := h) (v := .bool false) (hC := (And.intro (g_ft l_f) (And.intro (g_ft l_f) (And.intro (g_ft l_f) (And.intro (g_ft l_f) (And.intro (g_ft l_f) (And.intro (g_ft l_f) (And.intro c5 (And.intro (g_ft c5) (And.intro (g_ft c5) (And.intro (g_ft c5) (And.intro (g_ft c5) (And.intro (g_ft c5) (And.intro (g_ft c5) (And.intro (g_ft c5) (And.intro (g_ft c5) (And.intro c4 (And.intro (g_tt c4) (And.intro (g_tt c4) trivial))))))))))))))))))) (hr := by kernel_rfl)
  · intro hr
    obtain rfl := Option.some.inj hr
    exact pFun_sound good tab_ok (f := 56) (its := [.g, .g, .g, .g, .g, .n, .n, (.p false), .g, .n, .n, .n, .n, .n, .n, .n, .n, .g, .g, .n, .n, .n, .n, .n, .n, .g, .g]) (args := [.int .i64 x1, .agg #[.int .u64 x2, .int .u64 x3]]) (h := h) (h' := h) (v := .bool false) (hC := (And.intro (g_ft l_f) (And.intro (g_ft l_f) (And.intro (g_ft l_f) (And.intro (g_ft l_f) (And.intro (g_ft l_f) (And.intro (g_ft l_f) (And.intro (g_ft l_f) (And.intro (g_ft l_f) (And.intro (g_ft l_f) (And.intro (g_ft l_f) (And.intro (g_ft l_f) (And.intro (g_ft l_f) (And.intro (g_ft l_f) (And.intro (g_ft l_f) (And.intro c4 (And.intro (g_ft c4) (And.intro (g_ft c4) trivial)))))))))))))))))) (hr := by kernel_rfl)
/-! 59 jacquard/facts.rangeOf -/
def F59 (x1 : Int) (x2 : Int) (x3 : Int) (x4 : Int) (x5 : Int) (x6 : Int) : Int × Int × Int × Int :=
  (x3, x4, x5, x6)
set_option maxRecDepth 100000 in
theorem F59_spec (x1 : Int) (x2 : Int) (x3 : Int) (x4 : Int) (x5 : Int) (x6 : Int) (h : AHeap)  (r : Int × Int × Int × Int) : F59 x1 x2 x3 x4 x5 x6 = r → ACalls Try.prog 59 [.agg #[.int .u64 x1, .int .u64 x2, .int .u64 x3, .int .u64 x4, .int .i64 x5, .int .i64 x6]] h (fun v' h'' => v' = (.agg #[.int .u64 r.1, .int .u64 r.2.1, .int .i64 r.2.2.1, .int .i64 r.2.2.2] : Value) ∧ h'' = h) := by
  unfold F59
  intro hr
  subst hr
  exact pFun_sound good tab_ok (f := 59) (its := [.g, .g, .g, .g, .g, .g, .g, .g, .g, .g, .g, .g]) (args := [.agg #[.int .u64 x1, .int .u64 x2, .int .u64 x3, .int .u64 x4, .int .i64 x5, .int .i64 x6]]) (h := h) (h' := h) (v := .agg #[.int .u64 x3, .int .u64 x4, .int .i64 x5, .int .i64 x6]) (hC := trivial) (hr := by kernel_rfl)
/-! 92 jacquard/interval.isWidth -/
def F92 (x1 : Int) : Bool :=
  (bif decide (x1 ≥ 1) then
   (decide (x1 ≤ 64))
  else
   false)
set_option maxRecDepth 100000 in
theorem F92_spec (x1 : Int) (h : AHeap)  (r : Bool) : F92 x1 = r → ACalls Try.prog 92 [.int .i64 x1] h (fun v' h'' => v' = (.bool r : Value) ∧ h'' = h) := by
  unfold F92
  refine dec_bif (fun c2 => ?_) (fun c2 => ?_)
  · intro hr
    subst hr
    exact pFun_sound good tab_ok (f := 92) (its := [.g, .g, .g, .g, (.w .g), (.w .g), (.p true), .g]) (args := [.int .i64 x1]) (h := h) (h' := h) (v := .bool (decide (x1 ≤ 64))) (hC := (And.intro c2 (And.intro (g_tt c2) (And.intro (g_tt c2) trivial)))) (hr := by kernel_rfl)
  · intro hr
    subst hr
    exact pFun_sound good tab_ok (f := 92) (its := [.g, .g, .g, .g, .n, .n, (.p false), .g]) (args := [.int .i64 x1]) (h := h) (h' := h) (v := .bool false) (hC := (And.intro c2 (And.intro (g_ft c2) (And.intro (g_ft c2) trivial)))) (hr := by kernel_rfl)
/-! 93 jacquard/interval.least -/
def F93__1 (x1 : Int) : Int := (IntKind.i64.wrap ((-1) * 2 ^ (min ((IntKind.u64.wrap ((IntKind.i64.wrap (x1 - 1))))).toNat 64)))
def F93 (x1 : Int) : Option (Int) :=
  (bif decide ((IntKind.u64.wrap ((IntKind.i64.wrap (x1 - 1)))) < 0) then none else
  some (F93__1 x1))
set_option maxRecDepth 100000 in
theorem F93_spec (x1 : Int) (h : AHeap)  (r : Int) : F93 x1 = some r → ACalls Try.prog 93 [.int .i64 x1] h (fun v' h'' => v' = (.int .i64 r : Value) ∧ h'' = h) := by
  unfold F93
  refine guard_ok fun g2 => ?_
  intro hr
  obtain rfl := Option.some.inj hr
  exact pFun_sound good tab_ok (f := 93) (its := [.g, .g, .g, .g, .s, .g]) (args := [.int .i64 x1]) (h := h) (h' := h) (v := .int .i64 (F93__1 x1)) (hC := (And.intro (nl g2) trivial)) (hr := by kernel_rfl)
/-! 94 jacquard/interval.most -/
def F94 (x1 : Int) : Option (Int) :=
  (Option.bind (F79 (IntKind.i64.wrap (x1 - 1))) fun y2 =>
  some (IntKind.i64.wrap (y2)))
set_option maxRecDepth 100000 in
theorem F94_spec (x1 : Int) (h : AHeap)  (r : Int) : F94 x1 = some r → ACalls Try.prog 94 [.int .i64 x1] h (fun v' h'' => v' = (.int .i64 r : Value) ∧ h'' = h) := by
  unfold F94
  refine bind_opt fun y2 e2 => ?_
  intro hr
  obtain rfl := Option.some.inj hr
  exact pFun_sound good tab_ok (f := 94) (its := [.g, .g, .g, (.c (.int .u64 y2) h), .g, .g]) (args := [.int .i64 x1]) (h := h) (h' := h) (v := .int .i64 (IntKind.i64.wrap (y2))) (hC := (And.intro (F79_spec (IntKind.i64.wrap (x1 - 1)) h _ e2) trivial)) (hr := by kernel_rfl)
/-! 58 jacquard/interval.Valid -/
def F58 (x1 : Int) (x2 : Int) (x3 : Int) (x4 : Int) (x5 : Int) : Option (Bool) :=
  (bif (F92 x1) then
   (bif decide (x2 ≤ x3) then
    (Option.bind (F79 x1) fun y9 =>
    (bif decide (x3 ≤ y9) then
     (Option.bind (F93 x1) fun y12 =>
     (bif decide (y12 ≤ x4) then
      (bif decide (x4 ≤ x5) then
       (Option.bind (F94 x1) fun y16 =>
       some (decide (x5 ≤ y16)))
      else
       some (false))
     else
      some (false)))
    else
     some (false)))
   else
    some (false))
  else
   some (false))
set_option maxRecDepth 100000 in
theorem F58_spec (x1 : Int) (x2 : Int) (x3 : Int) (x4 : Int) (x5 : Int) (h : AHeap)  (r : Bool) : F58 x1 x2 x3 x4 x5 = some r → ACalls Try.prog 58 [.int .i64 x1, .agg #[.int .u64 x2, .int .u64 x3, .int .i64 x4, .int .i64 x5]] h (fun v' h'' => v' = (.bool r : Value) ∧ h'' = h) := by
  unfold F58
  refine dec_bif (fun c7 => ?_) (fun c7 => ?_)
  · refine dec_bif (fun c8 => ?_) (fun c8 => ?_)
    · refine bind_opt fun y9 e9 => ?_
      refine dec_bif (fun c11 => ?_) (fun c11 => ?_)
      · refine bind_opt fun y12 e12 => ?_
        refine dec_bif (fun c14 => ?_) (fun c14 => ?_)
        · refine dec_bif (fun c15 => ?_) (fun c15 => ?_)
          · refine bind_opt fun y16 e16 => ?_
            intro hr
            obtain rfl := Option.some.inj hr
            exact pFun_sound good tab_ok (f := 58) (its := [.g, .g, .g, (.c (.bool (F92 x1)) h), .g, (.w .g), (.w .g), (.w .g), (.w .g), (.w .g), (.p true), .g, (.w .g), (.w .g), (.w .g), (.w (.c (.int .u64 y9) h)), (.w .g), (.p true), .g, (.w .g), (.w .g), (.w .g), (.w (.c (.int .i64 y12) h)), (.w .g), (.p true), .g, (.w .g), (.w .g), (.w .g), (.w .g), (.w .g), (.p true), .g, (.w .g), (.w .g), (.w .g), (.w (.c (.int .i64 y16) h)), (.w .g), (.p true), .g]) (args := [.int .i64 x1, .agg #[.int .u64 x2, .int .u64 x3, .int .i64 x4, .int .i64 x5]]) (h := h) (h' := h) (v := .bool (decide (x5 ≤ y16))) (hC := (And.intro c15 (And.intro (g_tt c15) (And.intro (show AKeep h h from (AHeap.sub_refl h)) (And.intro (F94_spec x1 h _ e16) (And.intro (g_tt c15) (And.intro (g_tt c15) (And.intro (g_tt c15) (And.intro (g_tt c15) (And.intro c14 (And.intro (g_tt c14) (And.intro (g_tt c14) (And.intro (g_tt c14) (And.intro (g_tt c14) (And.intro (g_tt c14) (And.intro c11 (And.intro (g_tt c11) (And.intro (show AKeep h h from (AHeap.sub_refl h)) (And.intro (F93_spec x1 h _ e12) (And.intro (g_tt c11) (And.intro (g_tt c11) (And.intro (g_tt c11) (And.intro (g_tt c11) (And.intro c8 (And.intro (g_tt c8) (And.intro (show AKeep h h from (AHeap.sub_refl h)) (And.intro (F79_spec x1 h _ e9) (And.intro (g_tt c8) (And.intro (g_tt c8) (And.intro (g_tt c8) (And.intro (g_tt c8) (And.intro c7 (And.intro (g_tt c7) (And.intro (g_tt c7) (And.intro (g_tt c7) (And.intro (g_tt c7) (And.intro (g_tt c7) (And.intro (show AKeep h h from (AHeap.sub_refl h)) (And.intro (F92_spec x1 h _ rfl) trivial))))))))))))))))))))))))))))))))))))))) (hr := by kernel_rfl)
          · intro hr
            obtain rfl := Option.some.inj hr
            exact pFun_sound good tab_ok (f := 58) (its := [.g, .g, .g, (.c (.bool (F92 x1)) h), .g, (.w .g), (.w .g), (.w .g), (.w .g), (.w .g), (.p true), .g, (.w .g), (.w .g), (.w .g), (.w (.c (.int .u64 y9) h)), (.w .g), (.p true), .g, (.w .g), (.w .g), (.w .g), (.w (.c (.int .i64 y12) h)), (.w .g), (.p true), .g, (.w .g), (.w .g), (.w .g), (.w .g), (.w .g), (.p true), .g, .n, .n, .n, .n, .n, (.p false), .g]) (args := [.int .i64 x1, .agg #[.int .u64 x2, .int .u64 x3, .int .i64 x4, .int .i64 x5]]) (h := h) (h' := h) (v := .bool false) (hC := (And.intro c15 (And.intro (g_ft c15) (And.intro (g_ft c15) (And.intro (g_ft c15) (And.intro (g_ft c15) (And.intro (g_ft c15) (And.intro c14 (And.intro (g_tt c14) (And.intro (g_tt c14) (And.intro (g_tt c14) (And.intro (g_tt c14) (And.intro (g_tt c14) (And.intro c11 (And.intro (g_tt c11) (And.intro (show AKeep h h from (AHeap.sub_refl h)) (And.intro (F93_spec x1 h _ e12) (And.intro (g_tt c11) (And.intro (g_tt c11) (And.intro (g_tt c11) (And.intro (g_tt c11) (And.intro c8 (And.intro (g_tt c8) (And.intro (show AKeep h h from (AHeap.sub_refl h)) (And.intro (F79_spec x1 h _ e9) (And.intro (g_tt c8) (And.intro (g_tt c8) (And.intro (g_tt c8) (And.intro (g_tt c8) (And.intro c7 (And.intro (g_tt c7) (And.intro (g_tt c7) (And.intro (g_tt c7) (And.intro (g_tt c7) (And.intro (g_tt c7) (And.intro (show AKeep h h from (AHeap.sub_refl h)) (And.intro (F92_spec x1 h _ rfl) trivial))))))))))))))))))))))))))))))))))))) (hr := by kernel_rfl)
        · intro hr
          obtain rfl := Option.some.inj hr
          exact pFun_sound good tab_ok (f := 58) (its := [.g, .g, .g, (.c (.bool (F92 x1)) h), .g, (.w .g), (.w .g), (.w .g), (.w .g), (.w .g), (.p true), .g, (.w .g), (.w .g), (.w .g), (.w (.c (.int .u64 y9) h)), (.w .g), (.p true), .g, (.w .g), (.w .g), (.w .g), (.w (.c (.int .i64 y12) h)), (.w .g), (.p true), .g, .n, .n, .n, .n, .n, (.p false), .g, .n, .n, .n, .n, .n, .g, .g]) (args := [.int .i64 x1, .agg #[.int .u64 x2, .int .u64 x3, .int .i64 x4, .int .i64 x5]]) (h := h) (h' := h) (v := .bool false) (hC := (And.intro (g_ft l_f) (And.intro (g_ft l_f) (And.intro (g_ft l_f) (And.intro (g_ft l_f) (And.intro (g_ft l_f) (And.intro c14 (And.intro (g_ft c14) (And.intro (g_ft c14) (And.intro (g_ft c14) (And.intro (g_ft c14) (And.intro (g_ft c14) (And.intro c11 (And.intro (g_tt c11) (And.intro (show AKeep h h from (AHeap.sub_refl h)) (And.intro (F93_spec x1 h _ e12) (And.intro (g_tt c11) (And.intro (g_tt c11) (And.intro (g_tt c11) (And.intro (g_tt c11) (And.intro c8 (And.intro (g_tt c8) (And.intro (show AKeep h h from (AHeap.sub_refl h)) (And.intro (F79_spec x1 h _ e9) (And.intro (g_tt c8) (And.intro (g_tt c8) (And.intro (g_tt c8) (And.intro (g_tt c8) (And.intro c7 (And.intro (g_tt c7) (And.intro (g_tt c7) (And.intro (g_tt c7) (And.intro (g_tt c7) (And.intro (g_tt c7) (And.intro (show AKeep h h from (AHeap.sub_refl h)) (And.intro (F92_spec x1 h _ rfl) trivial)))))))))))))))))))))))))))))))))))) (hr := by kernel_rfl)
      · intro hr
        obtain rfl := Option.some.inj hr
        exact pFun_sound good tab_ok (f := 58) (its := [.g, .g, .g, (.c (.bool (F92 x1)) h), .g, (.w .g), (.w .g), (.w .g), (.w .g), (.w .g), (.p true), .g, (.w .g), (.w .g), (.w .g), (.w (.c (.int .u64 y9) h)), (.w .g), (.p true), .g, .n, .n, .n, .n, .n, (.p false), .g, .n, .n, .n, .n, .n, .g, .g, .n, .n, .n, .n, .n, .g, .g]) (args := [.int .i64 x1, .agg #[.int .u64 x2, .int .u64 x3, .int .i64 x4, .int .i64 x5]]) (h := h) (h' := h) (v := .bool false) (hC := (And.intro (g_ft l_f) (And.intro (g_ft l_f) (And.intro (g_ft l_f) (And.intro (g_ft l_f) (And.intro (g_ft l_f) (And.intro (g_ft l_f) (And.intro (g_ft l_f) (And.intro (g_ft l_f) (And.intro (g_ft l_f) (And.intro (g_ft l_f) (And.intro c11 (And.intro (g_ft c11) (And.intro (g_ft c11) (And.intro (g_ft c11) (And.intro (g_ft c11) (And.intro (g_ft c11) (And.intro c8 (And.intro (g_tt c8) (And.intro (show AKeep h h from (AHeap.sub_refl h)) (And.intro (F79_spec x1 h _ e9) (And.intro (g_tt c8) (And.intro (g_tt c8) (And.intro (g_tt c8) (And.intro (g_tt c8) (And.intro c7 (And.intro (g_tt c7) (And.intro (g_tt c7) (And.intro (g_tt c7) (And.intro (g_tt c7) (And.intro (g_tt c7) (And.intro (show AKeep h h from (AHeap.sub_refl h)) (And.intro (F92_spec x1 h _ rfl) trivial))))))))))))))))))))))))))))))))) (hr := by kernel_rfl)
    · intro hr
      obtain rfl := Option.some.inj hr
      exact pFun_sound good tab_ok (f := 58) (its := [.g, .g, .g, (.c (.bool (F92 x1)) h), .g, (.w .g), (.w .g), (.w .g), (.w .g), (.w .g), (.p true), .g, .n, .n, .n, .n, .n, (.p false), .g, .n, .n, .n, .n, .n, .g, .g, .n, .n, .n, .n, .n, .g, .g, .n, .n, .n, .n, .n, .g, .g]) (args := [.int .i64 x1, .agg #[.int .u64 x2, .int .u64 x3, .int .i64 x4, .int .i64 x5]]) (h := h) (h' := h) (v := .bool false) (hC := (And.intro (g_ft l_f) (And.intro (g_ft l_f) (And.intro (g_ft l_f) (And.intro (g_ft l_f) (And.intro (g_ft l_f) (And.intro (g_ft l_f) (And.intro (g_ft l_f) (And.intro (g_ft l_f) (And.intro (g_ft l_f) (And.intro (g_ft l_f) (And.intro (g_ft l_f) (And.intro (g_ft l_f) (And.intro (g_ft l_f) (And.intro (g_ft l_f) (And.intro (g_ft l_f) (And.intro c8 (And.intro (g_ft c8) (And.intro (g_ft c8) (And.intro (g_ft c8) (And.intro (g_ft c8) (And.intro (g_ft c8) (And.intro c7 (And.intro (g_tt c7) (And.intro (g_tt c7) (And.intro (g_tt c7) (And.intro (g_tt c7) (And.intro (g_tt c7) (And.intro (show AKeep h h from (AHeap.sub_refl h)) (And.intro (F92_spec x1 h _ rfl) trivial)))))))))))))))))))))))))))))) (hr := by kernel_rfl)
  · intro hr
    obtain rfl := Option.some.inj hr
    exact pFun_sound good tab_ok (f := 58) (its := [.g, .g, .g, (.c (.bool (F92 x1)) h), .g, .n, .n, .n, .n, .n, (.p false), .g, .n, .n, .n, .n, .n, .g, .g, .n, .n, .n, .n, .n, .g, .g, .n, .n, .n, .n, .n, .g, .g, .n, .n, .n, .n, .n, .g, .g]) (args := [.int .i64 x1, .agg #[.int .u64 x2, .int .u64 x3, .int .i64 x4, .int .i64 x5]]) (h := h) (h' := h) (v := .bool false) (hC := (And.intro (g_ft l_f) (And.intro (g_ft l_f) (And.intro (g_ft l_f) (And.intro (g_ft l_f) (And.intro (g_ft l_f) (And.intro (g_ft l_f) (And.intro (g_ft l_f) (And.intro (g_ft l_f) (And.intro (g_ft l_f) (And.intro (g_ft l_f) (And.intro (g_ft l_f) (And.intro (g_ft l_f) (And.intro (g_ft l_f) (And.intro (g_ft l_f) (And.intro (g_ft l_f) (And.intro (g_ft l_f) (And.intro (g_ft l_f) (And.intro (g_ft l_f) (And.intro (g_ft l_f) (And.intro (g_ft l_f) (And.intro c7 (And.intro (g_ft c7) (And.intro (g_ft c7) (And.intro (g_ft c7) (And.intro (g_ft c7) (And.intro (g_ft c7) (And.intro (show AKeep h h from (AHeap.sub_refl h)) (And.intro (F92_spec x1 h _ rfl) trivial))))))))))))))))))))))))))))) (hr := by kernel_rfl)
/-! 22 jacquard/facts.Valid -/
def F22 (x1 : Int) (x2 : Int) (x3 : Int) (x4 : Int) (x5 : Int) (x6 : Int) (x7 : Int) : Option (Bool) :=
  (Option.bind (F56 x1 ((F57 x2 x3 x4 x5 x6 x7).1) ((F57 x2 x3 x4 x5 x6 x7).2)) fun y9 =>
  (bif y9 then
   (Option.bind (F58 x1 ((F59 x2 x3 x4 x5 x6 x7).1) ((F59 x2 x3 x4 x5 x6 x7).2.1) ((F59 x2 x3 x4 x5 x6 x7).2.2.1) ((F59 x2 x3 x4 x5 x6 x7).2.2.2)) fun y13 =>
   some (y13))
  else
   some (false)))
set_option maxRecDepth 100000 in
theorem F22_spec (x1 : Int) (x2 : Int) (x3 : Int) (x4 : Int) (x5 : Int) (x6 : Int) (x7 : Int) (h : AHeap)  (r : Bool) : F22 x1 x2 x3 x4 x5 x6 x7 = some r → ACalls Try.prog 22 [.int .i64 x1, .agg #[.int .u64 x2, .int .u64 x3, .int .u64 x4, .int .u64 x5, .int .i64 x6, .int .i64 x7]] h (fun v' h'' => v' = (.bool r : Value) ∧ h'' = h) := by
  unfold F22
  refine bind_opt fun y9 e9 => ?_
  refine dec_bif (fun c11 => ?_) (fun c11 => ?_)
  · refine bind_opt fun y13 e13 => ?_
    intro hr
    obtain rfl := Option.some.inj hr
    exact pFun_sound good tab_ok (f := 22) (its := [.g, .g, .g, .g, (.c (.agg #[.int .u64 ((F57 x2 x3 x4 x5 x6 x7).1), .int .u64 ((F57 x2 x3 x4 x5 x6 x7).2)]) h), (.c (.bool y9) h), .g, (.w .g), (.w .g), (.w (.c (.agg #[.int .u64 ((F59 x2 x3 x4 x5 x6 x7).1), .int .u64 ((F59 x2 x3 x4 x5 x6 x7).2.1), .int .i64 ((F59 x2 x3 x4 x5 x6 x7).2.2.1), .int .i64 ((F59 x2 x3 x4 x5 x6 x7).2.2.2)]) h)), (.w (.c (.bool y13) h)), (.p true), .g]) (args := [.int .i64 x1, .agg #[.int .u64 x2, .int .u64 x3, .int .u64 x4, .int .u64 x5, .int .i64 x6, .int .i64 x7]]) (h := h) (h' := h) (v := .bool y13) (hC := (And.intro c11 (And.intro (F58_spec x1 ((F59 x2 x3 x4 x5 x6 x7).1) ((F59 x2 x3 x4 x5 x6 x7).2.1) ((F59 x2 x3 x4 x5 x6 x7).2.2.1) ((F59 x2 x3 x4 x5 x6 x7).2.2.2) h _ e13) (And.intro (g_tt c11) (And.intro (F59_spec x2 x3 x4 x5 x6 x7 h _ rfl) (And.intro (g_tt c11) (And.intro (g_tt c11) (And.intro (g_tt c11) (And.intro (F56_spec x1 ((F57 x2 x3 x4 x5 x6 x7).1) ((F57 x2 x3 x4 x5 x6 x7).2) h _ e9) (And.intro (F57_spec x2 x3 x4 x5 x6 x7 h _ rfl) trivial)))))))))) (hr := by kernel_rfl)
  · intro hr
    obtain rfl := Option.some.inj hr
    exact pFun_sound good tab_ok (f := 22) (its := [.g, .g, .g, .g, (.c (.agg #[.int .u64 ((F57 x2 x3 x4 x5 x6 x7).1), .int .u64 ((F57 x2 x3 x4 x5 x6 x7).2)]) h), (.c (.bool y9) h), .g, .n, .n, .n, .n, (.p false), .g]) (args := [.int .i64 x1, .agg #[.int .u64 x2, .int .u64 x3, .int .u64 x4, .int .u64 x5, .int .i64 x6, .int .i64 x7]]) (h := h) (h' := h) (v := .bool false) (hC := (And.intro c11 (And.intro (g_ft c11) (And.intro (g_ft c11) (And.intro (g_ft c11) (And.intro (g_ft c11) (And.intro (F56_spec x1 ((F57 x2 x3 x4 x5 x6 x7).1) ((F57 x2 x3 x4 x5 x6 x7).2) h _ e9) (And.intro (F57_spec x2 x3 x4 x5 x6 x7 h _ rfl) trivial)))))))) (hr := by kernel_rfl)
/-! 98 jacquard/bits.Fit -/
def F98 (x1 : Int) (x2 : Int) : Option (Int) :=
  (Option.bind (F79 x1) fun y3 =>
  some (IntKind.u64.wrap (((BitVec.ofInt 64 x2 &&& BitVec.ofInt 64 y3)).toNat)))
set_option maxRecDepth 100000 in
theorem F98_spec (x1 : Int) (x2 : Int) (h : AHeap)  (r : Int) : F98 x1 x2 = some r → ACalls Try.prog 98 [.int .i64 x1, .int .u64 x2] h (fun v' h'' => v' = (.int .u64 r : Value) ∧ h'' = h) := by
  unfold F98
  refine bind_opt fun y3 e3 => ?_
  intro hr
  obtain rfl := Option.some.inj hr
  exact pFun_sound good tab_ok (f := 98) (its := [.g, .g, .g, (.c (.int .u64 y3) h), .g, .g]) (args := [.int .i64 x1, .int .u64 x2]) (h := h) (h' := h) (v := .int .u64 (IntKind.u64.wrap (((BitVec.ofInt 64 x2 &&& BitVec.ofInt 64 y3)).toNat))) (hC := (And.intro (F79_spec x1 h _ e3) trivial)) (hr := by kernel_rfl)
/-! 80 jacquard/bits.Signed -/
def F80__1 (y5 : Int) (y9 : Int) : Int := (IntKind.u64.wrap (((BitVec.ofInt 64 y5 ||| BitVec.ofInt 64 (IntKind.u64.wrap (((BitVec.ofInt 64 18446744073709551615 ^^^ BitVec.ofInt 64 y9)).toNat)))).toNat))
def F80 (x1 : Int) (x2 : Int) : Option (Int) :=
  (bif decide (x1 ≤ 0) then
   some (0)
  else
   (bif decide (x1 ≥ 64) then
    some (IntKind.i64.wrap (x2))
   else
    (Option.bind (F98 x1 x2) fun y5 =>
    (bif decide ((IntKind.u64.wrap ((IntKind.i64.wrap (x1 - 1)))) < 0) then none else
    (bif ((y5.fdiv (2 ^ (min ((IntKind.u64.wrap ((IntKind.i64.wrap (x1 - 1))))).toNat 64))) != 0) then
     (Option.bind (F79 x1) fun y9 =>
     some (IntKind.i64.wrap ((F80__1 y5 y9))))
    else
     some (IntKind.i64.wrap (y5)))))))
set_option maxRecDepth 100000 in
theorem F80_spec (x1 : Int) (x2 : Int) (h : AHeap)  (r : Int) : F80 x1 x2 = some r → ACalls Try.prog 80 [.int .i64 x1, .int .u64 x2] h (fun v' h'' => v' = (.int .i64 r : Value) ∧ h'' = h) := by
  unfold F80
  refine dec_bif (fun c3 => ?_) (fun c3 => ?_)
  · intro hr
    obtain rfl := Option.some.inj hr
    exact pFun_sound good tab_ok (f := 80) (its := [.g, .g, .g, (.b true), .g]) (args := [.int .i64 x1, .int .u64 x2]) (h := h) (h' := h) (v := .int .i64 0) (hC := (And.intro c3 trivial)) (hr := by kernel_rfl)
  · refine dec_bif (fun c4 => ?_) (fun c4 => ?_)
    · intro hr
      obtain rfl := Option.some.inj hr
      exact pFun_sound good tab_ok (f := 80) (its := [.g, .g, .g, (.b false), .g, .g, (.b true), .g, .g, .g]) (args := [.int .i64 x1, .int .u64 x2]) (h := h) (h' := h) (v := .int .i64 (IntKind.i64.wrap (x2))) (hC := (And.intro c4 (And.intro c3 trivial))) (hr := by kernel_rfl)
    · refine bind_opt fun y5 e5 => ?_
      refine guard_ok fun g7 => ?_
      refine dec_bif (fun c8 => ?_) (fun c8 => ?_)
      · refine bind_opt fun y9 e9 => ?_
        intro hr
        obtain rfl := Option.some.inj hr
        exact pFun_sound good tab_ok (f := 80) (its := [.g, .g, .g, (.b false), .g, .g, (.b false), .g, .g, (.c (.int .u64 y5) h), .g, .g, .g, .g, .g, .s, .g, (.b true), .g, .g, (.c (.int .u64 y9) h), .g, .g, .g, .g, .g, .g]) (args := [.int .i64 x1, .int .u64 x2]) (h := h) (h' := h) (v := .int .i64 (IntKind.i64.wrap ((F80__1 y5 y9)))) (hC := (And.intro (F79_spec x1 h _ e9) (And.intro c8 (And.intro (nl g7) (And.intro (F98_spec x1 x2 h _ e5) (And.intro c4 (And.intro c3 trivial))))))) (hr := by kernel_rfl)
      · intro hr
        obtain rfl := Option.some.inj hr
        exact pFun_sound good tab_ok (f := 80) (its := [.g, .g, .g, (.b false), .g, .g, (.b false), .g, .g, (.c (.int .u64 y5) h), .g, .g, .g, .g, .g, .s, .g, (.b false), .g, .g, .g]) (args := [.int .i64 x1, .int .u64 x2]) (h := h) (h' := h) (v := .int .i64 (IntKind.i64.wrap (y5))) (hC := (And.intro c8 (And.intro (nl g7) (And.intro (F98_spec x1 x2 h _ e5) (And.intro c4 (And.intro c3 trivial)))))) (hr := by kernel_rfl)
/-! 101 jacquard/bits.From -/
def F101 (x1 : Int) (x2 : Int) : Option (Int) :=
  (Option.bind (F98 x1 (IntKind.u64.wrap (x2))) fun y3 =>
  some (y3))
set_option maxRecDepth 100000 in
theorem F101_spec (x1 : Int) (x2 : Int) (h : AHeap)  (r : Int) : F101 x1 x2 = some r → ACalls Try.prog 101 [.int .i64 x1, .int .i64 x2] h (fun v' h'' => v' = (.int .u64 r : Value) ∧ h'' = h) := by
  unfold F101
  refine bind_opt fun y3 e3 => ?_
  intro hr
  obtain rfl := Option.some.inj hr
  exact pFun_sound good tab_ok (f := 101) (its := [.g, .g, .g, .g, (.c (.int .u64 y3) h), .g]) (args := [.int .i64 x1, .int .i64 x2]) (h := h) (h' := h) (v := .int .u64 y3) (hC := (And.intro (F98_spec x1 (IntKind.u64.wrap (x2)) h _ e3) trivial)) (hr := by kernel_rfl)
/-! 81 jacquard/interval.Tighten -/
def F81__1 (x2 : Int) (x4 : Int) : Int := (if (IntKind.u64.wrap ((if 0 > x4 then 0 else x4))) > x2 then (IntKind.u64.wrap ((if 0 > x4 then 0 else x4))) else x2)
def F81__2 (x2 : Int) (x3 : Int) (x4 : Int) (x5 : Int) : Bool := decide ((F81__1 x2 x4) > (if (IntKind.u64.wrap (x5)) < x3 then (IntKind.u64.wrap (x5)) else x3))
def F81__3 (x2 : Int) (y9 : Int) (y26 : Int) : Int := (if (IntKind.u64.wrap ((IntKind.u64.wrap (y9)) + 1)) > (if y26 > x2 then y26 else x2) then (IntKind.u64.wrap ((IntKind.u64.wrap (y9)) + 1)) else (if y26 > x2 then y26 else x2))
def F81__4 (x2 : Int) (y9 : Int) (y42 : Int) : Int := (if (IntKind.u64.wrap ((IntKind.u64.wrap (y9)) + 1)) > (if y42 > x2 then y42 else x2) then (IntKind.u64.wrap ((IntKind.u64.wrap (y9)) + 1)) else (if y42 > x2 then y42 else x2))
def F81 (x1 : Int) (x2 : Int) (x3 : Int) (x4 : Int) (x5 : Int) : Option (Int × Int × Int × Int × Bool) :=
  (Option.bind (F58 x1 x2 x3 x4 x5) fun y6 =>
  (bif (!y6) then
   some (0, 0, 0, 0, false)
  else
   (Option.bind (F94 x1) fun y9 =>
   (bif decide (x3 ≤ (IntKind.u64.wrap (y9))) then
    (bif decide (x5 < 0) then
     some (0, 0, 0, 0, false)
    else
     (bif (F81__2 x2 x3 x4 x5) then
      some (0, 0, 0, 0, false)
     else
      (Option.bind (F80 x1 (F81__1 x2 x4)) fun y14 =>
      (Option.bind (F80 x1 (if (IntKind.u64.wrap (x5)) < x3 then (IntKind.u64.wrap (x5)) else x3)) fun y16 =>
      some ((F81__1 x2 x4), (if (IntKind.u64.wrap (x5)) < x3 then (IntKind.u64.wrap (x5)) else x3), y14, y16, true)))))
   else
    (bif decide (x4 ≥ 0) then
     (bif decide (x5 < 0) then
      some (0, 0, 0, 0, false)
     else
      (bif (F81__2 x2 x3 x4 x5) then
       some (0, 0, 0, 0, false)
      else
       (Option.bind (F80 x1 (F81__1 x2 x4)) fun y21 =>
       (Option.bind (F80 x1 (if (IntKind.u64.wrap (x5)) < x3 then (IntKind.u64.wrap (x5)) else x3)) fun y23 =>
       some ((F81__1 x2 x4), (if (IntKind.u64.wrap (x5)) < x3 then (IntKind.u64.wrap (x5)) else x3), y21, y23, true)))))
    else
     (bif decide (x2 > (IntKind.u64.wrap (y9))) then
      (Option.bind (F101 x1 x4) fun y26 =>
      (bif decide (x5 < 0) then
       (Option.bind (F101 x1 x5) fun y29 =>
       (bif decide ((F81__3 x2 y9 y26) > (if y29 < x3 then y29 else x3)) then
        some (0, 0, 0, 0, false)
       else
        (Option.bind (F80 x1 (F81__3 x2 y9 y26)) fun y32 =>
        (Option.bind (F80 x1 (if y29 < x3 then y29 else x3)) fun y34 =>
        some ((F81__3 x2 y9 y26), (if y29 < x3 then y29 else x3), y32, y34, true)))))
      else
       (bif decide ((F81__3 x2 y9 y26) > x3) then
        some (0, 0, 0, 0, false)
       else
        (Option.bind (F80 x1 (F81__3 x2 y9 y26)) fun y37 =>
        (Option.bind (F80 x1 x3) fun y39 =>
        some ((F81__3 x2 y9 y26), x3, y37, y39, true))))))
     else
      (bif decide (x5 < 0) then
       (Option.bind (F101 x1 x4) fun y42 =>
       (Option.bind (F101 x1 x5) fun y44 =>
       (bif decide ((F81__4 x2 y9 y42) > (if y44 < x3 then y44 else x3)) then
        some (0, 0, 0, 0, false)
       else
        (Option.bind (F80 x1 (F81__4 x2 y9 y42)) fun y47 =>
        (Option.bind (F80 x1 (if y44 < x3 then y44 else x3)) fun y49 =>
        some ((F81__4 x2 y9 y42), (if y44 < x3 then y44 else x3), y47, y49, true))))))
      else
       some (x2, x3, x4, x5, true))))))))
set_option maxRecDepth 100000 in
theorem F81_spec (x1 : Int) (x2 : Int) (x3 : Int) (x4 : Int) (x5 : Int) (h : AHeap)  (r : Int × Int × Int × Int × Bool) : F81 x1 x2 x3 x4 x5 = some r → ACalls Try.prog 81 [.int .i64 x1, .agg #[.int .u64 x2, .int .u64 x3, .int .i64 x4, .int .i64 x5]] h (fun v' h'' => v' = (.tuple #[.agg #[.int .u64 r.1, .int .u64 r.2.1, .int .i64 r.2.2.1, .int .i64 r.2.2.2.1], .bool r.2.2.2.2] : Value) ∧ h'' = h) := by
  unfold F81
  refine bind_opt fun y6 e6 => ?_
  refine dec_bif (fun c8 => ?_) (fun c8 => ?_)
  · intro hr
    obtain rfl := Option.some.inj hr
    exact pFun_sound good tab_ok (f := 81) (its := [.g, .g, .g, .g, .g, (.c (.bool y6) h), .g, (.b true), .g, .g, .g]) (args := [.int .i64 x1, .agg #[.int .u64 x2, .int .u64 x3, .int .i64 x4, .int .i64 x5]]) (h := h) (h' := h) (v := .tuple #[.agg #[.int .u64 0, .int .u64 0, .int .i64 0, .int .i64 0], .bool false]) (hC := (And.intro c8 (And.intro (F58_spec x1 x2 x3 x4 x5 h _ e6) trivial))) (hr := by kernel_rfl)
  · refine bind_opt fun y9 e9 => ?_
    refine dec_bif (fun c11 => ?_) (fun c11 => ?_)
    · refine dec_bif (fun c12 => ?_) (fun c12 => ?_)
      · intro hr
        obtain rfl := Option.some.inj hr
        exact pFun_sound good tab_ok (f := 81) (its := [.g, .g, .g, .g, .g, (.c (.bool y6) h), .g, (.b false), .g, (.c (.int .i64 y9) h), .g, .g, .g, .g, .g, .g, .g, .g, .g, .g, .g, .g, .g, .n, .n, .n, (.p true), .g, (.b true), .g, .g, .g, (.b true), .g, .g, .g]) (args := [.int .i64 x1, .agg #[.int .u64 x2, .int .u64 x3, .int .i64 x4, .int .i64 x5]]) (h := h) (h' := h) (v := .tuple #[.agg #[.int .u64 0, .int .u64 0, .int .i64 0, .int .i64 0], .bool false]) (hC := (And.intro c12 (And.intro l_t (And.intro c11 (And.intro (g_tf c11) (And.intro (g_tf c11) (And.intro (g_tf c11) (And.intro (F94_spec x1 h _ e9) (And.intro c8 (And.intro (F58_spec x1 x2 x3 x4 x5 h _ e6) trivial)))))))))) (hr := by kernel_rfl)
      · refine dec_bif (fun c13 => ?_) (fun c13 => ?_)
        · intro hr
          obtain rfl := Option.some.inj hr
          exact pFun_sound good tab_ok (f := 81) (its := [.g, .g, .g, .g, .g, (.c (.bool y6) h), .g, (.b false), .g, (.c (.int .i64 y9) h), .g, .g, .g, .g, .g, .g, .g, .g, .g, .g, .g, .g, .g, .n, .n, .n, (.p true), .g, (.b true), .g, .g, .g, (.b false), .g, .g, .g, .g, .g, .g, .g, .g, .g, .g, .g, .g, .g, .g, .g, .g, (.b true), .g, .g, .g]) (args := [.int .i64 x1, .agg #[.int .u64 x2, .int .u64 x3, .int .i64 x4, .int .i64 x5]]) (h := h) (h' := h) (v := .tuple #[.agg #[.int .u64 0, .int .u64 0, .int .i64 0, .int .i64 0], .bool false]) (hC := (And.intro c13 (And.intro c12 (And.intro l_t (And.intro c11 (And.intro (g_tf c11) (And.intro (g_tf c11) (And.intro (g_tf c11) (And.intro (F94_spec x1 h _ e9) (And.intro c8 (And.intro (F58_spec x1 x2 x3 x4 x5 h _ e6) trivial))))))))))) (hr := by kernel_rfl)
        · refine bind_opt fun y14 e14 => ?_
          refine bind_opt fun y16 e16 => ?_
          intro hr
          obtain rfl := Option.some.inj hr
          exact pFun_sound good tab_ok (f := 81) (its := [.g, .g, .g, .g, .g, (.c (.bool y6) h), .g, (.b false), .g, (.c (.int .i64 y9) h), .g, .g, .g, .g, .g, .g, .g, .g, .g, .g, .g, .g, .g, .n, .n, .n, (.p true), .g, (.b true), .g, .g, .g, (.b false), .g, .g, .g, .g, .g, .g, .g, .g, .g, .g, .g, .g, .g, .g, .g, .g, (.b false), .g, .g, .g, .g, (.c (.int .i64 y14) h), .g, .g, (.c (.int .i64 y16) h), .g, .g, .g]) (args := [.int .i64 x1, .agg #[.int .u64 x2, .int .u64 x3, .int .i64 x4, .int .i64 x5]]) (h := h) (h' := h) (v := .tuple #[.agg #[.int .u64 (F81__1 x2 x4), .int .u64 (if (IntKind.u64.wrap (x5)) < x3 then (IntKind.u64.wrap (x5)) else x3), .int .i64 y14, .int .i64 y16], .bool true]) (hC := (And.intro (F80_spec x1 (if (IntKind.u64.wrap (x5)) < x3 then (IntKind.u64.wrap (x5)) else x3) h _ e16) (And.intro (F80_spec x1 (F81__1 x2 x4) h _ e14) (And.intro c13 (And.intro c12 (And.intro l_t (And.intro c11 (And.intro (g_tf c11) (And.intro (g_tf c11) (And.intro (g_tf c11) (And.intro (F94_spec x1 h _ e9) (And.intro c8 (And.intro (F58_spec x1 x2 x3 x4 x5 h _ e6) trivial))))))))))))) (hr := by kernel_rfl)
    · refine dec_bif (fun c18 => ?_) (fun c18 => ?_)
      · refine dec_bif (fun c19 => ?_) (fun c19 => ?_)
        · intro hr
          obtain rfl := Option.some.inj hr
          exact pFun_sound good tab_ok (f := 81) (its := [.g, .g, .g, .g, .g, (.c (.bool y6) h), .g, (.b false), .g, (.c (.int .i64 y9) h), .g, .g, .g, .g, .g, .g, .g, .g, .g, .g, .g, .g, .g, (.w .g), (.w .g), (.w .g), (.p false), .g, (.b true), .g, .g, .g, (.b true), .g, .g, .g]) (args := [.int .i64 x1, .agg #[.int .u64 x2, .int .u64 x3, .int .i64 x4, .int .i64 x5]]) (h := h) (h' := h) (v := .tuple #[.agg #[.int .u64 0, .int .u64 0, .int .i64 0, .int .i64 0], .bool false]) (hC := (And.intro c19 (And.intro c18 (And.intro c11 (And.intro (g_ff c11) (And.intro (g_ff c11) (And.intro (g_ff c11) (And.intro (F94_spec x1 h _ e9) (And.intro c8 (And.intro (F58_spec x1 x2 x3 x4 x5 h _ e6) trivial)))))))))) (hr := by kernel_rfl)
        · refine dec_bif (fun c20 => ?_) (fun c20 => ?_)
          · intro hr
            obtain rfl := Option.some.inj hr
            exact pFun_sound good tab_ok (f := 81) (its := [.g, .g, .g, .g, .g, (.c (.bool y6) h), .g, (.b false), .g, (.c (.int .i64 y9) h), .g, .g, .g, .g, .g, .g, .g, .g, .g, .g, .g, .g, .g, (.w .g), (.w .g), (.w .g), (.p false), .g, (.b true), .g, .g, .g, (.b false), .g, .g, .g, .g, .g, .g, .g, .g, .g, .g, .g, .g, .g, .g, .g, .g, (.b true), .g, .g, .g]) (args := [.int .i64 x1, .agg #[.int .u64 x2, .int .u64 x3, .int .i64 x4, .int .i64 x5]]) (h := h) (h' := h) (v := .tuple #[.agg #[.int .u64 0, .int .u64 0, .int .i64 0, .int .i64 0], .bool false]) (hC := (And.intro c20 (And.intro c19 (And.intro c18 (And.intro c11 (And.intro (g_ff c11) (And.intro (g_ff c11) (And.intro (g_ff c11) (And.intro (F94_spec x1 h _ e9) (And.intro c8 (And.intro (F58_spec x1 x2 x3 x4 x5 h _ e6) trivial))))))))))) (hr := by kernel_rfl)
          · refine bind_opt fun y21 e21 => ?_
            refine bind_opt fun y23 e23 => ?_
            intro hr
            obtain rfl := Option.some.inj hr
            exact pFun_sound good tab_ok (f := 81) (its := [.g, .g, .g, .g, .g, (.c (.bool y6) h), .g, (.b false), .g, (.c (.int .i64 y9) h), .g, .g, .g, .g, .g, .g, .g, .g, .g, .g, .g, .g, .g, (.w .g), (.w .g), (.w .g), (.p false), .g, (.b true), .g, .g, .g, (.b false), .g, .g, .g, .g, .g, .g, .g, .g, .g, .g, .g, .g, .g, .g, .g, .g, (.b false), .g, .g, .g, .g, (.c (.int .i64 y21) h), .g, .g, (.c (.int .i64 y23) h), .g, .g, .g]) (args := [.int .i64 x1, .agg #[.int .u64 x2, .int .u64 x3, .int .i64 x4, .int .i64 x5]]) (h := h) (h' := h) (v := .tuple #[.agg #[.int .u64 (F81__1 x2 x4), .int .u64 (if (IntKind.u64.wrap (x5)) < x3 then (IntKind.u64.wrap (x5)) else x3), .int .i64 y21, .int .i64 y23], .bool true]) (hC := (And.intro (F80_spec x1 (if (IntKind.u64.wrap (x5)) < x3 then (IntKind.u64.wrap (x5)) else x3) h _ e23) (And.intro (F80_spec x1 (F81__1 x2 x4) h _ e21) (And.intro c20 (And.intro c19 (And.intro c18 (And.intro c11 (And.intro (g_ff c11) (And.intro (g_ff c11) (And.intro (g_ff c11) (And.intro (F94_spec x1 h _ e9) (And.intro c8 (And.intro (F58_spec x1 x2 x3 x4 x5 h _ e6) trivial))))))))))))) (hr := by kernel_rfl)
      · refine dec_bif (fun c25 => ?_) (fun c25 => ?_)
        · refine bind_opt fun y26 e26 => ?_
          refine dec_bif (fun c28 => ?_) (fun c28 => ?_)
          · refine bind_opt fun y29 e29 => ?_
            refine dec_bif (fun c31 => ?_) (fun c31 => ?_)
            · intro hr
              obtain rfl := Option.some.inj hr
              exact pFun_sound good tab_ok (f := 81) (its := [.g, .g, .g, .g, .g, (.c (.bool y6) h), .g, (.b false), .g, (.c (.int .i64 y9) h), .g, .g, .g, .g, .g, .g, .g, .g, .g, .g, .g, .g, .g, (.w .g), (.w .g), (.w .g), (.p false), .g, (.b false), .g, .g, .g, .g, .g, .n, .n, .n, (.p true), .g, (.b true), .g, .g, .g, .g, (.c (.int .u64 y26) h), .g, .g, .g, .g, .g, .g, .g, (.b true), .g, .g, .g, .g, (.c (.int .u64 y29) h), .g, .g, .g, .g, .g, (.b true), .g, .g, .g]) (args := [.int .i64 x1, .agg #[.int .u64 x2, .int .u64 x3, .int .i64 x4, .int .i64 x5]]) (h := h) (h' := h) (v := .tuple #[.agg #[.int .u64 0, .int .u64 0, .int .i64 0, .int .i64 0], .bool false]) (hC := (And.intro c31 (And.intro (F101_spec x1 x5 h _ e29) (And.intro c28 (And.intro (F101_spec x1 x4 h _ e26) (And.intro l_t (And.intro c25 (And.intro (g_tf c25) (And.intro (g_tf c25) (And.intro (g_tf c25) (And.intro c18 (And.intro c11 (And.intro (g_ff c11) (And.intro (g_ff c11) (And.intro (g_ff c11) (And.intro (F94_spec x1 h _ e9) (And.intro c8 (And.intro (F58_spec x1 x2 x3 x4 x5 h _ e6) trivial)))))))))))))))))) (hr := by kernel_rfl)
            · refine bind_opt fun y32 e32 => ?_
              refine bind_opt fun y34 e34 => ?_
              intro hr
              obtain rfl := Option.some.inj hr
              exact pFun_sound good tab_ok (f := 81) (its := [.g, .g, .g, .g, .g, (.c (.bool y6) h), .g, (.b false), .g, (.c (.int .i64 y9) h), .g, .g, .g, .g, .g, .g, .g, .g, .g, .g, .g, .g, .g, (.w .g), (.w .g), (.w .g), (.p false), .g, (.b false), .g, .g, .g, .g, .g, .n, .n, .n, (.p true), .g, (.b true), .g, .g, .g, .g, (.c (.int .u64 y26) h), .g, .g, .g, .g, .g, .g, .g, (.b true), .g, .g, .g, .g, (.c (.int .u64 y29) h), .g, .g, .g, .g, .g, (.b false), .g, .g, .g, .g, (.c (.int .i64 y32) h), .g, .g, (.c (.int .i64 y34) h), .g, .g, .g]) (args := [.int .i64 x1, .agg #[.int .u64 x2, .int .u64 x3, .int .i64 x4, .int .i64 x5]]) (h := h) (h' := h) (v := .tuple #[.agg #[.int .u64 (F81__3 x2 y9 y26), .int .u64 (if y29 < x3 then y29 else x3), .int .i64 y32, .int .i64 y34], .bool true]) (hC := (And.intro (F80_spec x1 (if y29 < x3 then y29 else x3) h _ e34) (And.intro (F80_spec x1 (F81__3 x2 y9 y26) h _ e32) (And.intro c31 (And.intro (F101_spec x1 x5 h _ e29) (And.intro c28 (And.intro (F101_spec x1 x4 h _ e26) (And.intro l_t (And.intro c25 (And.intro (g_tf c25) (And.intro (g_tf c25) (And.intro (g_tf c25) (And.intro c18 (And.intro c11 (And.intro (g_ff c11) (And.intro (g_ff c11) (And.intro (g_ff c11) (And.intro (F94_spec x1 h _ e9) (And.intro c8 (And.intro (F58_spec x1 x2 x3 x4 x5 h _ e6) trivial)))))))))))))))))))) (hr := by kernel_rfl)
          · refine dec_bif (fun c36 => ?_) (fun c36 => ?_)
            · intro hr
              obtain rfl := Option.some.inj hr
              exact pFun_sound good tab_ok (f := 81) (its := [.g, .g, .g, .g, .g, (.c (.bool y6) h), .g, (.b false), .g, (.c (.int .i64 y9) h), .g, .g, .g, .g, .g, .g, .g, .g, .g, .g, .g, .g, .g, (.w .g), (.w .g), (.w .g), (.p false), .g, (.b false), .g, .g, .g, .g, .g, .n, .n, .n, (.p true), .g, (.b true), .g, .g, .g, .g, (.c (.int .u64 y26) h), .g, .g, .g, .g, .g, .g, .g, (.b false), .g, .g, .g, (.b true), .g, .g, .g]) (args := [.int .i64 x1, .agg #[.int .u64 x2, .int .u64 x3, .int .i64 x4, .int .i64 x5]]) (h := h) (h' := h) (v := .tuple #[.agg #[.int .u64 0, .int .u64 0, .int .i64 0, .int .i64 0], .bool false]) (hC := (And.intro c36 (And.intro c28 (And.intro (F101_spec x1 x4 h _ e26) (And.intro l_t (And.intro c25 (And.intro (g_tf c25) (And.intro (g_tf c25) (And.intro (g_tf c25) (And.intro c18 (And.intro c11 (And.intro (g_ff c11) (And.intro (g_ff c11) (And.intro (g_ff c11) (And.intro (F94_spec x1 h _ e9) (And.intro c8 (And.intro (F58_spec x1 x2 x3 x4 x5 h _ e6) trivial))))))))))))))))) (hr := by kernel_rfl)
            · refine bind_opt fun y37 e37 => ?_
              refine bind_opt fun y39 e39 => ?_
              intro hr
              obtain rfl := Option.some.inj hr
              exact pFun_sound good tab_ok (f := 81) (its := [.g, .g, .g, .g, .g, (.c (.bool y6) h), .g, (.b false), .g, (.c (.int .i64 y9) h), .g, .g, .g, .g, .g, .g, .g, .g, .g, .g, .g, .g, .g, (.w .g), (.w .g), (.w .g), (.p false), .g, (.b false), .g, .g, .g, .g, .g, .n, .n, .n, (.p true), .g, (.b true), .g, .g, .g, .g, (.c (.int .u64 y26) h), .g, .g, .g, .g, .g, .g, .g, (.b false), .g, .g, .g, (.b false), .g, .g, .g, .g, (.c (.int .i64 y37) h), .g, .g, (.c (.int .i64 y39) h), .g, .g, .g]) (args := [.int .i64 x1, .agg #[.int .u64 x2, .int .u64 x3, .int .i64 x4, .int .i64 x5]]) (h := h) (h' := h) (v := .tuple #[.agg #[.int .u64 (F81__3 x2 y9 y26), .int .u64 x3, .int .i64 y37, .int .i64 y39], .bool true]) (hC := (And.intro (F80_spec x1 x3 h _ e39) (And.intro (F80_spec x1 (F81__3 x2 y9 y26) h _ e37) (And.intro c36 (And.intro c28 (And.intro (F101_spec x1 x4 h _ e26) (And.intro l_t (And.intro c25 (And.intro (g_tf c25) (And.intro (g_tf c25) (And.intro (g_tf c25) (And.intro c18 (And.intro c11 (And.intro (g_ff c11) (And.intro (g_ff c11) (And.intro (g_ff c11) (And.intro (F94_spec x1 h _ e9) (And.intro c8 (And.intro (F58_spec x1 x2 x3 x4 x5 h _ e6) trivial))))))))))))))))))) (hr := by kernel_rfl)
        · refine dec_bif (fun c41 => ?_) (fun c41 => ?_)
          · refine bind_opt fun y42 e42 => ?_
            refine bind_opt fun y44 e44 => ?_
            refine dec_bif (fun c46 => ?_) (fun c46 => ?_)
            · intro hr
              obtain rfl := Option.some.inj hr
              exact pFun_sound good tab_ok (f := 81) (its := [.g, .g, .g, .g, .g, (.c (.bool y6) h), .g, (.b false), .g, (.c (.int .i64 y9) h), .g, .g, .g, .g, .g, .g, .g, .g, .g, .g, .g, .g, .g, (.w .g), (.w .g), (.w .g), (.p false), .g, (.b false), .g, .g, .g, .g, .g, (.w .g), (.w .g), (.w .g), (.p false), .g, (.b true), .g, .g, .g, .g, (.c (.int .u64 y42) h), .g, .g, .g, .g, .g, .g, .g, (.b true), .g, .g, .g, .g, (.c (.int .u64 y44) h), .g, .g, .g, .g, .g, (.b true), .g, .g, .g]) (args := [.int .i64 x1, .agg #[.int .u64 x2, .int .u64 x3, .int .i64 x4, .int .i64 x5]]) (h := h) (h' := h) (v := .tuple #[.agg #[.int .u64 0, .int .u64 0, .int .i64 0, .int .i64 0], .bool false]) (hC := (And.intro c46 (And.intro (F101_spec x1 x5 h _ e44) (And.intro c41 (And.intro (F101_spec x1 x4 h _ e42) (And.intro c41 (And.intro c25 (And.intro (g_ff c25) (And.intro (g_ff c25) (And.intro (g_ff c25) (And.intro c18 (And.intro c11 (And.intro (g_ff c11) (And.intro (g_ff c11) (And.intro (g_ff c11) (And.intro (F94_spec x1 h _ e9) (And.intro c8 (And.intro (F58_spec x1 x2 x3 x4 x5 h _ e6) trivial)))))))))))))))))) (hr := by kernel_rfl)
            · refine bind_opt fun y47 e47 => ?_
              refine bind_opt fun y49 e49 => ?_
              intro hr
              obtain rfl := Option.some.inj hr
              exact pFun_sound good tab_ok (f := 81) (its := [.g, .g, .g, .g, .g, (.c (.bool y6) h), .g, (.b false), .g, (.c (.int .i64 y9) h), .g, .g, .g, .g, .g, .g, .g, .g, .g, .g, .g, .g, .g, (.w .g), (.w .g), (.w .g), (.p false), .g, (.b false), .g, .g, .g, .g, .g, (.w .g), (.w .g), (.w .g), (.p false), .g, (.b true), .g, .g, .g, .g, (.c (.int .u64 y42) h), .g, .g, .g, .g, .g, .g, .g, (.b true), .g, .g, .g, .g, (.c (.int .u64 y44) h), .g, .g, .g, .g, .g, (.b false), .g, .g, .g, .g, (.c (.int .i64 y47) h), .g, .g, (.c (.int .i64 y49) h), .g, .g, .g]) (args := [.int .i64 x1, .agg #[.int .u64 x2, .int .u64 x3, .int .i64 x4, .int .i64 x5]]) (h := h) (h' := h) (v := .tuple #[.agg #[.int .u64 (F81__4 x2 y9 y42), .int .u64 (if y44 < x3 then y44 else x3), .int .i64 y47, .int .i64 y49], .bool true]) (hC := (And.intro (F80_spec x1 (if y44 < x3 then y44 else x3) h _ e49) (And.intro (F80_spec x1 (F81__4 x2 y9 y42) h _ e47) (And.intro c46 (And.intro (F101_spec x1 x5 h _ e44) (And.intro c41 (And.intro (F101_spec x1 x4 h _ e42) (And.intro c41 (And.intro c25 (And.intro (g_ff c25) (And.intro (g_ff c25) (And.intro (g_ff c25) (And.intro c18 (And.intro c11 (And.intro (g_ff c11) (And.intro (g_ff c11) (And.intro (g_ff c11) (And.intro (F94_spec x1 h _ e9) (And.intro c8 (And.intro (F58_spec x1 x2 x3 x4 x5 h _ e6) trivial)))))))))))))))))))) (hr := by kernel_rfl)
          · intro hr
            obtain rfl := Option.some.inj hr
            exact pFun_sound good tab_ok (f := 81) (its := [.g, .g, .g, .g, .g, (.c (.bool y6) h), .g, (.b false), .g, (.c (.int .i64 y9) h), .g, .g, .g, .g, .g, .g, .g, .g, .g, .g, .g, .g, .g, (.w .g), (.w .g), (.w .g), (.p false), .g, (.b false), .g, .g, .g, .g, .g, (.w .g), (.w .g), (.w .g), (.p false), .g, (.b false), .g, .g, .g]) (args := [.int .i64 x1, .agg #[.int .u64 x2, .int .u64 x3, .int .i64 x4, .int .i64 x5]]) (h := h) (h' := h) (v := .tuple #[.agg #[.int .u64 x2, .int .u64 x3, .int .i64 x4, .int .i64 x5], .bool true]) (hC := (And.intro c41 (And.intro c25 (And.intro (g_ff c25) (And.intro (g_ff c25) (And.intro (g_ff c25) (And.intro c18 (And.intro c11 (And.intro (g_ff c11) (And.intro (g_ff c11) (And.intro (g_ff c11) (And.intro (F94_spec x1 h _ e9) (And.intro c8 (And.intro (F58_spec x1 x2 x3 x4 x5 h _ e6) trivial)))))))))))))) (hr := by kernel_rfl)
def str0 : ByteArray := ⟨⟨[0, 1, 2, 2, 3, 3, 3, 3, 4, 4, 4, 4, 4, 4, 4, 4, 5, 5, 5, 5, 5, 5, 5, 5, 5, 5, 5, 5, 5, 5, 5, 5, 6, 6, 6, 6, 6, 6, 6, 6, 6, 6, 6, 6, 6, 6, 6, 6, 6, 6, 6, 6, 6, 6, 6, 6, 6, 6, 6, 6, 6, 6, 6, 6, 7, 7, 7, 7, 7, 7, 7, 7, 7, 7, 7, 7, 7, 7, 7, 7, 7, 7, 7, 7, 7, 7, 7, 7, 7, 7, 7, 7, 7, 7, 7, 7, 7, 7, 7, 7, 7, 7, 7, 7, 7, 7, 7, 7, 7, 7, 7, 7, 7, 7, 7, 7, 7, 7, 7, 7, 7, 7, 7, 7, 7, 7, 7, 7, 8, 8, 8, 8, 8, 8, 8, 8, 8, 8, 8, 8, 8, 8, 8, 8, 8, 8, 8, 8, 8, 8, 8, 8, 8, 8, 8, 8, 8, 8, 8, 8, 8, 8, 8, 8, 8, 8, 8, 8, 8, 8, 8, 8, 8, 8, 8, 8, 8, 8, 8, 8, 8, 8, 8, 8, 8, 8, 8, 8, 8, 8, 8, 8, 8, 8, 8, 8, 8, 8, 8, 8, 8, 8, 8, 8, 8, 8, 8, 8, 8, 8, 8, 8, 8, 8, 8, 8, 8, 8, 8, 8, 8, 8, 8, 8, 8, 8, 8, 8, 8, 8, 8, 8, 8, 8, 8, 8, 8, 8, 8, 8, 8, 8, 8, 8, 8, 8, 8, 8, 8, 8, 8, 8, 8, 8, 8, 8]⟩⟩
/-! 102 math/bits.Len64 -/
def F102 (x1 : Int) : Option (Int) :=
  (bif decide (x1 ≥ 4294967296) then
   (bif decide ((x1.fdiv (2 ^ 32)) ≥ 65536) then
    (bif decide (((x1.fdiv (2 ^ 32)).fdiv (2 ^ 16)) ≥ 256) then
     (Option.bind (at? (bytesL str0) (IntKind.u8.wrap ((((x1.fdiv (2 ^ 32)).fdiv (2 ^ 16)).fdiv (2 ^ 8))))) fun y5 =>
     some (IntKind.i64.wrap (56 + (IntKind.i64.wrap (y5)))))
    else
     (Option.bind (at? (bytesL str0) (IntKind.u8.wrap (((x1.fdiv (2 ^ 32)).fdiv (2 ^ 16))))) fun y6 =>
     some (IntKind.i64.wrap (48 + (IntKind.i64.wrap (y6))))))
   else
    (bif decide ((x1.fdiv (2 ^ 32)) ≥ 256) then
     (Option.bind (at? (bytesL str0) (IntKind.u8.wrap (((x1.fdiv (2 ^ 32)).fdiv (2 ^ 8))))) fun y8 =>
     some (IntKind.i64.wrap (40 + (IntKind.i64.wrap (y8)))))
    else
     (Option.bind (at? (bytesL str0) (IntKind.u8.wrap ((x1.fdiv (2 ^ 32))))) fun y9 =>
     some (IntKind.i64.wrap (32 + (IntKind.i64.wrap (y9)))))))
  else
   (bif decide (x1 ≥ 65536) then
    (bif decide ((x1.fdiv (2 ^ 16)) ≥ 256) then
     (Option.bind (at? (bytesL str0) (IntKind.u8.wrap (((x1.fdiv (2 ^ 16)).fdiv (2 ^ 8))))) fun y12 =>
     some (IntKind.i64.wrap (24 + (IntKind.i64.wrap (y12)))))
    else
     (Option.bind (at? (bytesL str0) (IntKind.u8.wrap ((x1.fdiv (2 ^ 16))))) fun y13 =>
     some (IntKind.i64.wrap (16 + (IntKind.i64.wrap (y13))))))
   else
    (bif decide (x1 ≥ 256) then
     (Option.bind (at? (bytesL str0) (IntKind.u8.wrap ((x1.fdiv (2 ^ 8))))) fun y15 =>
     some (IntKind.i64.wrap (8 + (IntKind.i64.wrap (y15)))))
    else
     (Option.bind (at? (bytesL str0) (IntKind.u8.wrap (x1))) fun y16 =>
     some (IntKind.i64.wrap (0 + (IntKind.i64.wrap (y16))))))))
set_option maxRecDepth 100000 in
theorem F102_spec (x1 : Int) (h : AHeap)  (r : Int) : F102 x1 = some r → ACalls Try.prog 102 [.int .u64 x1] h (fun v' h'' => v' = (.int .i64 r : Value) ∧ h'' = h) := by
  unfold F102
  refine dec_bif (fun c2 => ?_) (fun c2 => ?_)
  · refine dec_bif (fun c3 => ?_) (fun c3 => ?_)
    · refine dec_bif (fun c4 => ?_) (fun c4 => ?_)
      · refine bind_opt fun y5 e5 => ?_
        intro hr
        obtain rfl := Option.some.inj hr
        exact pFun_sound good tab_ok (f := 102) (its := [.g, .g, .g, (.b true), .g, .g, .g, .g, .g, .g, (.b true), .g, .g, .g, .g, .g, .g, .g, .g, (.b true), .g, .g, .g, .g, .g, .g, .g, .g, .g, (.si y5), .g, .g, .g]) (args := [.int .u64 x1]) (h := h) (h' := h) (v := .int .i64 (IntKind.i64.wrap (56 + (IntKind.i64.wrap (y5))))) (hC := (And.intro (sread_at e5) (And.intro c4 (And.intro c3 (And.intro c2 trivial))))) (hr := by kernel_rfl)
      · refine bind_opt fun y6 e6 => ?_
        intro hr
        obtain rfl := Option.some.inj hr
        exact pFun_sound good tab_ok (f := 102) (its := [.g, .g, .g, (.b true), .g, .g, .g, .g, .g, .g, (.b true), .g, .g, .g, .g, .g, .g, .g, .g, (.b false), .g, .g, .g, (.si y6), .g, .g, .g]) (args := [.int .u64 x1]) (h := h) (h' := h) (v := .int .i64 (IntKind.i64.wrap (48 + (IntKind.i64.wrap (y6))))) (hC := (And.intro (sread_at e6) (And.intro c4 (And.intro c3 (And.intro c2 trivial))))) (hr := by kernel_rfl)
    · refine dec_bif (fun c7 => ?_) (fun c7 => ?_)
      · refine bind_opt fun y8 e8 => ?_
        intro hr
        obtain rfl := Option.some.inj hr
        exact pFun_sound good tab_ok (f := 102) (its := [.g, .g, .g, (.b true), .g, .g, .g, .g, .g, .g, (.b false), .g, .g, (.b true), .g, .g, .g, .g, .g, .g, .g, .g, .g, (.si y8), .g, .g, .g]) (args := [.int .u64 x1]) (h := h) (h' := h) (v := .int .i64 (IntKind.i64.wrap (40 + (IntKind.i64.wrap (y8))))) (hC := (And.intro (sread_at e8) (And.intro c7 (And.intro c3 (And.intro c2 trivial))))) (hr := by kernel_rfl)
      · refine bind_opt fun y9 e9 => ?_
        intro hr
        obtain rfl := Option.some.inj hr
        exact pFun_sound good tab_ok (f := 102) (its := [.g, .g, .g, (.b true), .g, .g, .g, .g, .g, .g, (.b false), .g, .g, (.b false), .g, .g, .g, (.si y9), .g, .g, .g]) (args := [.int .u64 x1]) (h := h) (h' := h) (v := .int .i64 (IntKind.i64.wrap (32 + (IntKind.i64.wrap (y9))))) (hC := (And.intro (sread_at e9) (And.intro c7 (And.intro c3 (And.intro c2 trivial))))) (hr := by kernel_rfl)
  · refine dec_bif (fun c10 => ?_) (fun c10 => ?_)
    · refine dec_bif (fun c11 => ?_) (fun c11 => ?_)
      · refine bind_opt fun y12 e12 => ?_
        intro hr
        obtain rfl := Option.some.inj hr
        exact pFun_sound good tab_ok (f := 102) (its := [.g, .g, .g, (.b false), .g, .g, (.b true), .g, .g, .g, .g, .g, .g, .g, .g, (.b true), .g, .g, .g, .g, .g, .g, .g, .g, .g, (.si y12), .g, .g, .g]) (args := [.int .u64 x1]) (h := h) (h' := h) (v := .int .i64 (IntKind.i64.wrap (24 + (IntKind.i64.wrap (y12))))) (hC := (And.intro (sread_at e12) (And.intro c11 (And.intro c10 (And.intro c2 trivial))))) (hr := by kernel_rfl)
      · refine bind_opt fun y13 e13 => ?_
        intro hr
        obtain rfl := Option.some.inj hr
        exact pFun_sound good tab_ok (f := 102) (its := [.g, .g, .g, (.b false), .g, .g, (.b true), .g, .g, .g, .g, .g, .g, .g, .g, (.b false), .g, .g, .g, (.si y13), .g, .g, .g]) (args := [.int .u64 x1]) (h := h) (h' := h) (v := .int .i64 (IntKind.i64.wrap (16 + (IntKind.i64.wrap (y13))))) (hC := (And.intro (sread_at e13) (And.intro c11 (And.intro c10 (And.intro c2 trivial))))) (hr := by kernel_rfl)
    · refine dec_bif (fun c14 => ?_) (fun c14 => ?_)
      · refine bind_opt fun y15 e15 => ?_
        intro hr
        obtain rfl := Option.some.inj hr
        exact pFun_sound good tab_ok (f := 102) (its := [.g, .g, .g, (.b false), .g, .g, (.b false), .g, .g, (.b true), .g, .g, .g, .g, .g, .g, .g, .g, .g, (.si y15), .g, .g, .g]) (args := [.int .u64 x1]) (h := h) (h' := h) (v := .int .i64 (IntKind.i64.wrap (8 + (IntKind.i64.wrap (y15))))) (hC := (And.intro (sread_at e15) (And.intro c14 (And.intro c10 (And.intro c2 trivial))))) (hr := by kernel_rfl)
      · refine bind_opt fun y16 e16 => ?_
        intro hr
        obtain rfl := Option.some.inj hr
        exact pFun_sound good tab_ok (f := 102) (its := [.g, .g, .g, (.b false), .g, .g, (.b false), .g, .g, (.b false), .g, .g, .g, (.si y16), .g, .g, .g]) (args := [.int .u64 x1]) (h := h) (h' := h) (v := .int .i64 (IntKind.i64.wrap (0 + (IntKind.i64.wrap (y16))))) (hC := (And.intro (sread_at e16) (And.intro c14 (And.intro c10 (And.intro c2 trivial))))) (hr := by kernel_rfl)
/-! 82 jacquard/bits.Length -/
def F82 (x1 : Int) : Option (Int) :=
  (Option.bind (F102 x1) fun y2 =>
  some (y2))
set_option maxRecDepth 100000 in
theorem F82_spec (x1 : Int) (h : AHeap)  (r : Int) : F82 x1 = some r → ACalls Try.prog 82 [.int .u64 x1] h (fun v' h'' => v' = (.int .i64 r : Value) ∧ h'' = h) := by
  unfold F82
  refine bind_opt fun y2 e2 => ?_
  intro hr
  obtain rfl := Option.some.inj hr
  exact pFun_sound good tab_ok (f := 82) (its := [.g, .g, (.c (.int .i64 y2) h), .g]) (args := [.int .u64 x1]) (h := h) (h' := h) (v := .int .i64 y2) (hC := (And.intro (F102_spec x1 h _ e2) trivial)) (hr := by kernel_rfl)
/-! 76 jacquard/knownbits.Meet -/
def F76__1 (x1 : Int) (x2 : Int) (x3 : Int) (x4 : Int) : Int := (IntKind.u64.wrap (((BitVec.ofInt 64 (IntKind.u64.wrap (((BitVec.ofInt 64 x1 ||| BitVec.ofInt 64 x3)).toNat)) &&& BitVec.ofInt 64 (IntKind.u64.wrap (((BitVec.ofInt 64 x2 ||| BitVec.ofInt 64 x4)).toNat)))).toNat))
def F76 (x1 : Int) (x2 : Int) (x3 : Int) (x4 : Int) : Int × Int × Bool :=
  (bif ((F76__1 x1 x2 x3 x4) != 0) then
   (0, 0, false)
  else
   ((IntKind.u64.wrap (((BitVec.ofInt 64 x1 ||| BitVec.ofInt 64 x3)).toNat)), (IntKind.u64.wrap (((BitVec.ofInt 64 x2 ||| BitVec.ofInt 64 x4)).toNat)), true))
set_option maxRecDepth 100000 in
theorem F76_spec (x1 : Int) (x2 : Int) (x3 : Int) (x4 : Int) (h : AHeap)  (r : Int × Int × Bool) : F76 x1 x2 x3 x4 = r → ACalls Try.prog 76 [.agg #[.int .u64 x1, .int .u64 x2], .agg #[.int .u64 x3, .int .u64 x4]] h (fun v' h'' => v' = (.tuple #[.agg #[.int .u64 r.1, .int .u64 r.2.1], .bool r.2.2] : Value) ∧ h'' = h) := by
  unfold F76
  refine dec_bif (fun c5 => ?_) (fun c5 => ?_)
  · intro hr
    subst hr
    exact pFun_sound good tab_ok (f := 76) (its := [.g, .g, .g, .g, .g, .g, .g, .g, .g, .g, .g, .g, .g, .g, .g, .g, .g, .g, .g, .g, .g, .g, .g, (.b true), .g, .g, .g]) (args := [.agg #[.int .u64 x1, .int .u64 x2], .agg #[.int .u64 x3, .int .u64 x4]]) (h := h) (h' := h) (v := .tuple #[.agg #[.int .u64 0, .int .u64 0], .bool false]) (hC := (And.intro c5 trivial)) (hr := by kernel_rfl)
  · intro hr
    subst hr
    exact pFun_sound good tab_ok (f := 76) (its := [.g, .g, .g, .g, .g, .g, .g, .g, .g, .g, .g, .g, .g, .g, .g, .g, .g, .g, .g, .g, .g, .g, .g, (.b false), .g, .g, .g]) (args := [.agg #[.int .u64 x1, .int .u64 x2], .agg #[.int .u64 x3, .int .u64 x4]]) (h := h) (h' := h) (v := .tuple #[.agg #[.int .u64 (IntKind.u64.wrap (((BitVec.ofInt 64 x1 ||| BitVec.ofInt 64 x3)).toNat)), .int .u64 (IntKind.u64.wrap (((BitVec.ofInt 64 x2 ||| BitVec.ofInt 64 x4)).toNat))], .bool true]) (hC := (And.intro c5 trivial)) (hr := by kernel_rfl)
/-! 48 jacquard/facts.of -/
def F48 (x1 : Int) (x2 : Int) (x3 : Int) (x4 : Int) (x5 : Int) (x6 : Int) : Int × Int × Int × Int × Int × Int :=
  (x1, x2, x3, x4, x5, x6)
set_option maxRecDepth 100000 in
theorem F48_spec (x1 : Int) (x2 : Int) (x3 : Int) (x4 : Int) (x5 : Int) (x6 : Int) (h : AHeap)  (r : Int × Int × Int × Int × Int × Int) : F48 x1 x2 x3 x4 x5 x6 = r → ACalls Try.prog 48 [.agg #[.int .u64 x1, .int .u64 x2], .agg #[.int .u64 x3, .int .u64 x4, .int .i64 x5, .int .i64 x6]] h (fun v' h'' => v' = (.agg #[.int .u64 r.1, .int .u64 r.2.1, .int .u64 r.2.2.1, .int .u64 r.2.2.2.1, .int .i64 r.2.2.2.2.1, .int .i64 r.2.2.2.2.2] : Value) ∧ h'' = h) := by
  unfold F48
  intro hr
  subst hr
  exact pFun_sound good tab_ok (f := 48) (its := [.g, .g, .g, .g, .g, .g, .g, .g, .g, .g, .g, .g, .g, .g, .g, .g, .g]) (args := [.agg #[.int .u64 x1, .int .u64 x2], .agg #[.int .u64 x3, .int .u64 x4, .int .i64 x5, .int .i64 x6]]) (h := h) (h' := h) (v := .agg #[.int .u64 x1, .int .u64 x2, .int .u64 x3, .int .u64 x4, .int .i64 x5, .int .i64 x6]) (hC := trivial) (hr := by kernel_rfl)
/-! 32 jacquard/facts.Tighten -/
def F32__1 (x1 : Int) : Int := (IntKind.u64.wrap (1 * 2 ^ (min ((IntKind.u64.wrap ((IntKind.i64.wrap (x1 - 1))))).toNat 64)))
def F32__2 (x2 : Int) (x3 : Int) (x4 : Int) (x5 : Int) (x6 : Int) (x7 : Int) (y12 : Int) : Int := (if (IntKind.u64.wrap (((BitVec.ofInt 64 y12 &&& ~~~(BitVec.ofInt 64 x2))).toNat)) < (F59 x2 x3 x4 x5 x6 x7).2.1 then (IntKind.u64.wrap (((BitVec.ofInt 64 y12 &&& ~~~(BitVec.ofInt 64 x2))).toNat)) else (F59 x2 x3 x4 x5 x6 x7).2.1)
def F32__3 (x1 : Int) (x2 : Int) (x3 : Int) : Int := (IntKind.u64.wrap (((BitVec.ofInt 64 x3 ||| BitVec.ofInt 64 (IntKind.u64.wrap (((BitVec.ofInt 64 (F32__1 x1) &&& ~~~(BitVec.ofInt 64 x2))).toNat)))).toNat))
def F32__4 (x1 : Int) (x2 : Int) (x3 : Int) (y12 : Int) : Int := (IntKind.u64.wrap (((BitVec.ofInt 64 (IntKind.u64.wrap (((BitVec.ofInt 64 y12 &&& ~~~(BitVec.ofInt 64 x2))).toNat)) &&& ~~~(BitVec.ofInt 64 (IntKind.u64.wrap (((BitVec.ofInt 64 (F32__1 x1) &&& ~~~(BitVec.ofInt 64 x3))).toNat))))).toNat))
def F32__5 (x2 : Int) (x3 : Int) (x4 : Int) (x5 : Int) (x6 : Int) (x7 : Int) (y12 : Int) : Bool := decide ((if x3 > (F59 x2 x3 x4 x5 x6 x7).1 then x3 else (F59 x2 x3 x4 x5 x6 x7).1) > (F32__2 x2 x3 x4 x5 x6 x7 y12))
def F32__6 (x2 : Int) (x3 : Int) (x4 : Int) (x5 : Int) (x6 : Int) (x7 : Int) (y15 : Int) (y17 : Int) : Bool := decide ((if y15 > (F59 x2 x3 x4 x5 x6 x7).2.2.1 then y15 else (F59 x2 x3 x4 x5 x6 x7).2.2.1) > (if y17 < (F59 x2 x3 x4 x5 x6 x7).2.2.2 then y17 else (F59 x2 x3 x4 x5 x6 x7).2.2.2))
def F32__7 (y21 : Int × Int × Int × Int × Bool) (y24 : Int) (y28 : Int) : Int := (IntKind.u64.wrap (((BitVec.ofInt 64 (IntKind.u64.wrap (((BitVec.ofInt 64 y24 &&& ~~~(BitVec.ofInt 64 y28))).toNat)) &&& ~~~(BitVec.ofInt 64 y21.1))).toNat))
def F32__8 (y21 : Int × Int × Int × Int × Bool) (y24 : Int) (y28 : Int) : Int := (IntKind.u64.wrap (((BitVec.ofInt 64 (IntKind.u64.wrap (((BitVec.ofInt 64 y24 &&& ~~~(BitVec.ofInt 64 y28))).toNat)) &&& BitVec.ofInt 64 y21.1)).toNat))
def F32__9 (x2 : Int) (x3 : Int) (x4 : Int) (x5 : Int) (x6 : Int) (x7 : Int) (y21 : Int × Int × Int × Int × Bool) (y24 : Int) (y28 : Int) : Bool := (!((F76 ((F57 x2 x3 x4 x5 x6 x7).1) ((F57 x2 x3 x4 x5 x6 x7).2) (F32__7 y21 y24 y28) (F32__8 y21 y24 y28)).2.2))
def F32 (x1 : Int) (x2 : Int) (x3 : Int) (x4 : Int) (x5 : Int) (x6 : Int) (x7 : Int) : Option (Int × Int × Int × Int × Int × Int × Bool) :=
  (Option.bind (F22 x1 x2 x3 x4 x5 x6 x7) fun y8 =>
  (bif (!y8) then
   some (0, 0, 0, 0, 0, 0, false)
  else
   (bif decide ((IntKind.u64.wrap ((IntKind.i64.wrap (x1 - 1)))) < 0) then none else
   (Option.bind (F79 x1) fun y12 =>
   (Option.bind (F80 x1 (F32__3 x1 x2 x3)) fun y15 =>
   (Option.bind (F80 x1 (F32__4 x1 x2 x3 y12)) fun y17 =>
   (bif (F32__5 x2 x3 x4 x5 x6 x7 y12) then
    some (0, 0, 0, 0, 0, 0, false)
   else
    (bif (F32__6 x2 x3 x4 x5 x6 x7 y15 y17) then
     some (0, 0, 0, 0, 0, 0, false)
    else
     (Option.bind (F81 x1 (if x3 > (F59 x2 x3 x4 x5 x6 x7).1 then x3 else (F59 x2 x3 x4 x5 x6 x7).1) (F32__2 x2 x3 x4 x5 x6 x7 y12) (if y15 > (F59 x2 x3 x4 x5 x6 x7).2.2.1 then y15 else (F59 x2 x3 x4 x5 x6 x7).2.2.1) (if y17 < (F59 x2 x3 x4 x5 x6 x7).2.2.2 then y17 else (F59 x2 x3 x4 x5 x6 x7).2.2.2)) fun y21 =>
     (bif (!y21.2.2.2.2) then
      some (0, 0, 0, 0, 0, 0, false)
     else
      (Option.bind (F79 x1) fun y24 =>
      (Option.bind (F82 (IntKind.u64.wrap (((BitVec.ofInt 64 y21.1 ^^^ BitVec.ofInt 64 y21.2.1)).toNat))) fun y26 =>
      (Option.bind (F79 y26) fun y28 =>
      (bif (F32__9 x2 x3 x4 x5 x6 x7 y21 y24 y28) then
       some (0, 0, 0, 0, 0, 0, false)
      else
       some (((F48 ((F76 ((F57 x2 x3 x4 x5 x6 x7).1) ((F57 x2 x3 x4 x5 x6 x7).2) (F32__7 y21 y24 y28) (F32__8 y21 y24 y28)).1) ((F76 ((F57 x2 x3 x4 x5 x6 x7).1) ((F57 x2 x3 x4 x5 x6 x7).2) (F32__7 y21 y24 y28) (F32__8 y21 y24 y28)).2.1) y21.1 y21.2.1 y21.2.2.1 y21.2.2.2.1).1), ((F48 ((F76 ((F57 x2 x3 x4 x5 x6 x7).1) ((F57 x2 x3 x4 x5 x6 x7).2) (F32__7 y21 y24 y28) (F32__8 y21 y24 y28)).1) ((F76 ((F57 x2 x3 x4 x5 x6 x7).1) ((F57 x2 x3 x4 x5 x6 x7).2) (F32__7 y21 y24 y28) (F32__8 y21 y24 y28)).2.1) y21.1 y21.2.1 y21.2.2.1 y21.2.2.2.1).2.1), ((F48 ((F76 ((F57 x2 x3 x4 x5 x6 x7).1) ((F57 x2 x3 x4 x5 x6 x7).2) (F32__7 y21 y24 y28) (F32__8 y21 y24 y28)).1) ((F76 ((F57 x2 x3 x4 x5 x6 x7).1) ((F57 x2 x3 x4 x5 x6 x7).2) (F32__7 y21 y24 y28) (F32__8 y21 y24 y28)).2.1) y21.1 y21.2.1 y21.2.2.1 y21.2.2.2.1).2.2.1), ((F48 ((F76 ((F57 x2 x3 x4 x5 x6 x7).1) ((F57 x2 x3 x4 x5 x6 x7).2) (F32__7 y21 y24 y28) (F32__8 y21 y24 y28)).1) ((F76 ((F57 x2 x3 x4 x5 x6 x7).1) ((F57 x2 x3 x4 x5 x6 x7).2) (F32__7 y21 y24 y28) (F32__8 y21 y24 y28)).2.1) y21.1 y21.2.1 y21.2.2.1 y21.2.2.2.1).2.2.2.1), ((F48 ((F76 ((F57 x2 x3 x4 x5 x6 x7).1) ((F57 x2 x3 x4 x5 x6 x7).2) (F32__7 y21 y24 y28) (F32__8 y21 y24 y28)).1) ((F76 ((F57 x2 x3 x4 x5 x6 x7).1) ((F57 x2 x3 x4 x5 x6 x7).2) (F32__7 y21 y24 y28) (F32__8 y21 y24 y28)).2.1) y21.1 y21.2.1 y21.2.2.1 y21.2.2.2.1).2.2.2.2.1), ((F48 ((F76 ((F57 x2 x3 x4 x5 x6 x7).1) ((F57 x2 x3 x4 x5 x6 x7).2) (F32__7 y21 y24 y28) (F32__8 y21 y24 y28)).1) ((F76 ((F57 x2 x3 x4 x5 x6 x7).1) ((F57 x2 x3 x4 x5 x6 x7).2) (F32__7 y21 y24 y28) (F32__8 y21 y24 y28)).2.1) y21.1 y21.2.1 y21.2.2.1 y21.2.2.2.1).2.2.2.2.2), true)))))))))))))))
set_option maxRecDepth 100000 in
theorem F32_spec (x1 : Int) (x2 : Int) (x3 : Int) (x4 : Int) (x5 : Int) (x6 : Int) (x7 : Int) (h : AHeap)  (r : Int × Int × Int × Int × Int × Int × Bool) : F32 x1 x2 x3 x4 x5 x6 x7 = some r → ACalls Try.prog 32 [.int .i64 x1, .agg #[.int .u64 x2, .int .u64 x3, .int .u64 x4, .int .u64 x5, .int .i64 x6, .int .i64 x7]] h (fun v' h'' => v' = (.tuple #[.agg #[.int .u64 r.1, .int .u64 r.2.1, .int .u64 r.2.2.1, .int .u64 r.2.2.2.1, .int .i64 r.2.2.2.2.1, .int .i64 r.2.2.2.2.2.1], .bool r.2.2.2.2.2.2] : Value) ∧ h'' = h) := by
  unfold F32
  refine bind_opt fun y8 e8 => ?_
  refine dec_bif (fun c10 => ?_) (fun c10 => ?_)
  · intro hr
    obtain rfl := Option.some.inj hr
    exact pFun_sound good tab_ok (f := 32) (its := [.g, .g, .g, .g, .g, (.c (.bool y8) h), .g, (.b true), .g, .g, .g]) (args := [.int .i64 x1, .agg #[.int .u64 x2, .int .u64 x3, .int .u64 x4, .int .u64 x5, .int .i64 x6, .int .i64 x7]]) (h := h) (h' := h) (v := .tuple #[.agg #[.int .u64 0, .int .u64 0, .int .u64 0, .int .u64 0, .int .i64 0, .int .i64 0], .bool false]) (hC := (And.intro c10 (And.intro (F22_spec x1 x2 x3 x4 x5 x6 x7 h _ e8) trivial))) (hr := by kernel_rfl)
  · refine guard_ok fun g11 => ?_
    refine bind_opt fun y12 e12 => ?_
    refine bind_opt fun y15 e15 => ?_
    refine bind_opt fun y17 e17 => ?_
    refine dec_bif (fun c19 => ?_) (fun c19 => ?_)
    · intro hr
      obtain rfl := Option.some.inj hr
      exact pFun_sound good tab_ok (f := 32) (its := [.g, .g, .g, .g, .g, (.c (.bool y8) h), .g, (.b false), .g, .g, .g, .s, .g, .g, .g, .g, .g, .g, (.c (.int .u64 y12) h), .g, .g, .g, .g, (.c (.agg #[.int .u64 ((F59 x2 x3 x4 x5 x6 x7).1), .int .u64 ((F59 x2 x3 x4 x5 x6 x7).2.1), .int .i64 ((F59 x2 x3 x4 x5 x6 x7).2.2.1), .int .i64 ((F59 x2 x3 x4 x5 x6 x7).2.2.2)]) h), .g, .g, .g, .g, .g, .g, .g, .g, .g, .g, .g, .g, .g, .g, .g, .g, .g, .g, .g, .g, .g, .g, .g, (.c (.int .i64 y15) h), .g, .g, .g, .g, .g, .g, .g, .g, .g, .g, .g, .g, (.c (.int .i64 y17) h), .g, .g, .g, .g, .g, .g, .g, .g, .g, .n, .n, .n, .n, .n, (.p true), (.b true), .g, .g, .g]) (args := [.int .i64 x1, .agg #[.int .u64 x2, .int .u64 x3, .int .u64 x4, .int .u64 x5, .int .i64 x6, .int .i64 x7]]) (h := h) (h' := h) (v := .tuple #[.agg #[.int .u64 0, .int .u64 0, .int .u64 0, .int .u64 0, .int .i64 0, .int .i64 0], .bool false]) (hC := (And.intro l_t (And.intro c19 (And.intro (g_tf c19) (And.intro (g_tf c19) (And.intro (g_tf c19) (And.intro (g_tf c19) (And.intro (g_tf c19) (And.intro (show AKeep h h from (AHeap.sub_refl h)) (And.intro (F80_spec x1 (F32__4 x1 x2 x3 y12) h _ e17) (And.intro (show AKeep h h from (AHeap.sub_refl h)) (And.intro (F80_spec x1 (F32__3 x1 x2 x3) h _ e15) (And.intro (F59_spec x2 x3 x4 x5 x6 x7 h _ rfl) (And.intro (show AKeep h h from (AHeap.sub_refl h)) (And.intro (F79_spec x1 h _ e12) (And.intro (nl g11) (And.intro c10 (And.intro (F22_spec x1 x2 x3 x4 x5 x6 x7 h _ e8) trivial)))))))))))))))))) (hr := by kernel_rfl)
    · refine dec_bif (fun c20 => ?_) (fun c20 => ?_)
      · intro hr
        obtain rfl := Option.some.inj hr
        exact pFun_sound good tab_ok (f := 32) (its := [.g, .g, .g, .g, .g, (.c (.bool y8) h), .g, (.b false), .g, .g, .g, .s, .g, .g, .g, .g, .g, .g, (.c (.int .u64 y12) h), .g, .g, .g, .g, (.c (.agg #[.int .u64 ((F59 x2 x3 x4 x5 x6 x7).1), .int .u64 ((F59 x2 x3 x4 x5 x6 x7).2.1), .int .i64 ((F59 x2 x3 x4 x5 x6 x7).2.2.1), .int .i64 ((F59 x2 x3 x4 x5 x6 x7).2.2.2)]) h), .g, .g, .g, .g, .g, .g, .g, .g, .g, .g, .g, .g, .g, .g, .g, .g, .g, .g, .g, .g, .g, .g, .g, (.c (.int .i64 y15) h), .g, .g, .g, .g, .g, .g, .g, .g, .g, .g, .g, .g, (.c (.int .i64 y17) h), .g, .g, .g, .g, .g, .g, .g, .g, .g, (.w .g), (.w .g), (.w .g), (.w .g), (.w .g), (.p false), (.b true), .g, .g, .g]) (args := [.int .i64 x1, .agg #[.int .u64 x2, .int .u64 x3, .int .u64 x4, .int .u64 x5, .int .i64 x6, .int .i64 x7]]) (h := h) (h' := h) (v := .tuple #[.agg #[.int .u64 0, .int .u64 0, .int .u64 0, .int .u64 0, .int .i64 0, .int .i64 0], .bool false]) (hC := (And.intro c20 (And.intro c19 (And.intro (g_ff c19) (And.intro (g_ff c19) (And.intro (g_ff c19) (And.intro (g_ff c19) (And.intro (g_ff c19) (And.intro (show AKeep h h from (AHeap.sub_refl h)) (And.intro (F80_spec x1 (F32__4 x1 x2 x3 y12) h _ e17) (And.intro (show AKeep h h from (AHeap.sub_refl h)) (And.intro (F80_spec x1 (F32__3 x1 x2 x3) h _ e15) (And.intro (F59_spec x2 x3 x4 x5 x6 x7 h _ rfl) (And.intro (show AKeep h h from (AHeap.sub_refl h)) (And.intro (F79_spec x1 h _ e12) (And.intro (nl g11) (And.intro c10 (And.intro (F22_spec x1 x2 x3 x4 x5 x6 x7 h _ e8) trivial)))))))))))))))))) (hr := by kernel_rfl)
      · refine bind_opt fun y21 e21 => ?_
        refine dec_bif (fun c23 => ?_) (fun c23 => ?_)
        · intro hr
          obtain rfl := Option.some.inj hr
          exact pFun_sound good tab_ok (f := 32) (its := [.g, .g, .g, .g, .g, (.c (.bool y8) h), .g, (.b false), .g, .g, .g, .s, .g, .g, .g, .g, .g, .g, (.c (.int .u64 y12) h), .g, .g, .g, .g, (.c (.agg #[.int .u64 ((F59 x2 x3 x4 x5 x6 x7).1), .int .u64 ((F59 x2 x3 x4 x5 x6 x7).2.1), .int .i64 ((F59 x2 x3 x4 x5 x6 x7).2.2.1), .int .i64 ((F59 x2 x3 x4 x5 x6 x7).2.2.2)]) h), .g, .g, .g, .g, .g, .g, .g, .g, .g, .g, .g, .g, .g, .g, .g, .g, .g, .g, .g, .g, .g, .g, .g, (.c (.int .i64 y15) h), .g, .g, .g, .g, .g, .g, .g, .g, .g, .g, .g, .g, (.c (.int .i64 y17) h), .g, .g, .g, .g, .g, .g, .g, .g, .g, (.w .g), (.w .g), (.w .g), (.w .g), (.w .g), (.p false), (.b false), .g, .g, (.c (.tuple #[.agg #[.int .u64 y21.1, .int .u64 y21.2.1, .int .i64 y21.2.2.1, .int .i64 y21.2.2.2.1], .bool y21.2.2.2.2]) h), .g, .g, .g, .g, .g, .g, .g, (.b true), .g, .g, .g]) (args := [.int .i64 x1, .agg #[.int .u64 x2, .int .u64 x3, .int .u64 x4, .int .u64 x5, .int .i64 x6, .int .i64 x7]]) (h := h) (h' := h) (v := .tuple #[.agg #[.int .u64 0, .int .u64 0, .int .u64 0, .int .u64 0, .int .i64 0, .int .i64 0], .bool false]) (hC := (And.intro c23 (And.intro (F81_spec x1 (if x3 > (F59 x2 x3 x4 x5 x6 x7).1 then x3 else (F59 x2 x3 x4 x5 x6 x7).1) (F32__2 x2 x3 x4 x5 x6 x7 y12) (if y15 > (F59 x2 x3 x4 x5 x6 x7).2.2.1 then y15 else (F59 x2 x3 x4 x5 x6 x7).2.2.1) (if y17 < (F59 x2 x3 x4 x5 x6 x7).2.2.2 then y17 else (F59 x2 x3 x4 x5 x6 x7).2.2.2) h _ e21) (And.intro c20 (And.intro c19 (And.intro (g_ff c19) (And.intro (g_ff c19) (And.intro (g_ff c19) (And.intro (g_ff c19) (And.intro (g_ff c19) (And.intro (show AKeep h h from (AHeap.sub_refl h)) (And.intro (F80_spec x1 (F32__4 x1 x2 x3 y12) h _ e17) (And.intro (show AKeep h h from (AHeap.sub_refl h)) (And.intro (F80_spec x1 (F32__3 x1 x2 x3) h _ e15) (And.intro (F59_spec x2 x3 x4 x5 x6 x7 h _ rfl) (And.intro (show AKeep h h from (AHeap.sub_refl h)) (And.intro (F79_spec x1 h _ e12) (And.intro (nl g11) (And.intro c10 (And.intro (F22_spec x1 x2 x3 x4 x5 x6 x7 h _ e8) trivial)))))))))))))))))))) (hr := by kernel_rfl)
        · refine bind_opt fun y24 e24 => ?_
          refine bind_opt fun y26 e26 => ?_
          refine bind_opt fun y28 e28 => ?_
          refine dec_bif (fun c32 => ?_) (fun c32 => ?_)
          · intro hr
            obtain rfl := Option.some.inj hr
            exact pFun_sound good tab_ok (f := 32) (its := [.g, .g, .g, .g, .g, (.c (.bool y8) h), .g, (.b false), .g, .g, .g, .s, .g, .g, .g, .g, .g, .g, (.c (.int .u64 y12) h), .g, .g, .g, .g, (.c (.agg #[.int .u64 ((F59 x2 x3 x4 x5 x6 x7).1), .int .u64 ((F59 x2 x3 x4 x5 x6 x7).2.1), .int .i64 ((F59 x2 x3 x4 x5 x6 x7).2.2.1), .int .i64 ((F59 x2 x3 x4 x5 x6 x7).2.2.2)]) h), .g, .g, .g, .g, .g, .g, .g, .g, .g, .g, .g, .g, .g, .g, .g, .g, .g, .g, .g, .g, .g, .g, .g, (.c (.int .i64 y15) h), .g, .g, .g, .g, .g, .g, .g, .g, .g, .g, .g, .g, (.c (.int .i64 y17) h), .g, .g, .g, .g, .g, .g, .g, .g, .g, (.w .g), (.w .g), (.w .g), (.w .g), (.w .g), (.p false), (.b false), .g, .g, (.c (.tuple #[.agg #[.int .u64 y21.1, .int .u64 y21.2.1, .int .i64 y21.2.2.1, .int .i64 y21.2.2.2.1], .bool y21.2.2.2.2]) h), .g, .g, .g, .g, .g, .g, .g, (.b false), .g, .g, .g, .g, .g, .g, (.c (.int .u64 y24) h), (.c (.int .i64 y26) h), (.c (.int .u64 y28) h), .g, .g, .g, .g, .g, .g, .g, .g, .g, .g, .g, .g, .g, (.c (.agg #[.int .u64 ((F57 x2 x3 x4 x5 x6 x7).1), .int .u64 ((F57 x2 x3 x4 x5 x6 x7).2)]) h), (.c (.tuple #[.agg #[.int .u64 ((F76 ((F57 x2 x3 x4 x5 x6 x7).1) ((F57 x2 x3 x4 x5 x6 x7).2) (F32__7 y21 y24 y28) (F32__8 y21 y24 y28)).1), .int .u64 ((F76 ((F57 x2 x3 x4 x5 x6 x7).1) ((F57 x2 x3 x4 x5 x6 x7).2) (F32__7 y21 y24 y28) (F32__8 y21 y24 y28)).2.1)], .bool ((F76 ((F57 x2 x3 x4 x5 x6 x7).1) ((F57 x2 x3 x4 x5 x6 x7).2) (F32__7 y21 y24 y28) (F32__8 y21 y24 y28)).2.2)]) h), .g, .g, .g, .g, .g, .g, .g, (.b true), .g, .g, .g]) (args := [.int .i64 x1, .agg #[.int .u64 x2, .int .u64 x3, .int .u64 x4, .int .u64 x5, .int .i64 x6, .int .i64 x7]]) (h := h) (h' := h) (v := .tuple #[.agg #[.int .u64 0, .int .u64 0, .int .u64 0, .int .u64 0, .int .i64 0, .int .i64 0], .bool false]) (hC := (And.intro c32 (And.intro (show AKeep h h from (AHeap.sub_refl h)) (And.intro (F76_spec ((F57 x2 x3 x4 x5 x6 x7).1) ((F57 x2 x3 x4 x5 x6 x7).2) (F32__7 y21 y24 y28) (F32__8 y21 y24 y28) h _ rfl) (And.intro (show AKeep h h from (AHeap.sub_refl h)) (And.intro (F57_spec x2 x3 x4 x5 x6 x7 h _ rfl) (And.intro (show AKeep h h from (AHeap.sub_refl h)) (And.intro (F79_spec y26 h _ e28) (And.intro (show AKeep h h from (AHeap.sub_refl h)) (And.intro (F82_spec (IntKind.u64.wrap (((BitVec.ofInt 64 y21.1 ^^^ BitVec.ofInt 64 y21.2.1)).toNat)) h _ e26) (And.intro (show AKeep h h from (AHeap.sub_refl h)) (And.intro (F79_spec x1 h _ e24) (And.intro c23 (And.intro (F81_spec x1 (if x3 > (F59 x2 x3 x4 x5 x6 x7).1 then x3 else (F59 x2 x3 x4 x5 x6 x7).1) (F32__2 x2 x3 x4 x5 x6 x7 y12) (if y15 > (F59 x2 x3 x4 x5 x6 x7).2.2.1 then y15 else (F59 x2 x3 x4 x5 x6 x7).2.2.1) (if y17 < (F59 x2 x3 x4 x5 x6 x7).2.2.2 then y17 else (F59 x2 x3 x4 x5 x6 x7).2.2.2) h _ e21) (And.intro c20 (And.intro c19 (And.intro (g_ff c19) (And.intro (g_ff c19) (And.intro (g_ff c19) (And.intro (g_ff c19) (And.intro (g_ff c19) (And.intro (show AKeep h h from (AHeap.sub_refl h)) (And.intro (F80_spec x1 (F32__4 x1 x2 x3 y12) h _ e17) (And.intro (show AKeep h h from (AHeap.sub_refl h)) (And.intro (F80_spec x1 (F32__3 x1 x2 x3) h _ e15) (And.intro (F59_spec x2 x3 x4 x5 x6 x7 h _ rfl) (And.intro (show AKeep h h from (AHeap.sub_refl h)) (And.intro (F79_spec x1 h _ e12) (And.intro (nl g11) (And.intro c10 (And.intro (F22_spec x1 x2 x3 x4 x5 x6 x7 h _ e8) trivial))))))))))))))))))))))))))))))) (hr := by kernel_rfl)
          · intro hr
            obtain rfl := Option.some.inj hr
            exact pFun_sound good tab_ok (f := 32) (its := [.g, .g, .g, .g, .g, (.c (.bool y8) h), .g, (.b false), .g, .g, .g, .s, .g, .g, .g, .g, .g, .g, (.c (.int .u64 y12) h), .g, .g, .g, .g, (.c (.agg #[.int .u64 ((F59 x2 x3 x4 x5 x6 x7).1), .int .u64 ((F59 x2 x3 x4 x5 x6 x7).2.1), .int .i64 ((F59 x2 x3 x4 x5 x6 x7).2.2.1), .int .i64 ((F59 x2 x3 x4 x5 x6 x7).2.2.2)]) h), .g, .g, .g, .g, .g, .g, .g, .g, .g, .g, .g, .g, .g, .g, .g, .g, .g, .g, .g, .g, .g, .g, .g, (.c (.int .i64 y15) h), .g, .g, .g, .g, .g, .g, .g, .g, .g, .g, .g, .g, (.c (.int .i64 y17) h), .g, .g, .g, .g, .g, .g, .g, .g, .g, (.w .g), (.w .g), (.w .g), (.w .g), (.w .g), (.p false), (.b false), .g, .g, (.c (.tuple #[.agg #[.int .u64 y21.1, .int .u64 y21.2.1, .int .i64 y21.2.2.1, .int .i64 y21.2.2.2.1], .bool y21.2.2.2.2]) h), .g, .g, .g, .g, .g, .g, .g, (.b false), .g, .g, .g, .g, .g, .g, (.c (.int .u64 y24) h), (.c (.int .i64 y26) h), (.c (.int .u64 y28) h), .g, .g, .g, .g, .g, .g, .g, .g, .g, .g, .g, .g, .g, (.c (.agg #[.int .u64 ((F57 x2 x3 x4 x5 x6 x7).1), .int .u64 ((F57 x2 x3 x4 x5 x6 x7).2)]) h), (.c (.tuple #[.agg #[.int .u64 ((F76 ((F57 x2 x3 x4 x5 x6 x7).1) ((F57 x2 x3 x4 x5 x6 x7).2) (F32__7 y21 y24 y28) (F32__8 y21 y24 y28)).1), .int .u64 ((F76 ((F57 x2 x3 x4 x5 x6 x7).1) ((F57 x2 x3 x4 x5 x6 x7).2) (F32__7 y21 y24 y28) (F32__8 y21 y24 y28)).2.1)], .bool ((F76 ((F57 x2 x3 x4 x5 x6 x7).1) ((F57 x2 x3 x4 x5 x6 x7).2) (F32__7 y21 y24 y28) (F32__8 y21 y24 y28)).2.2)]) h), .g, .g, .g, .g, .g, .g, .g, (.b false), .g, .g, (.c (.agg #[.int .u64 ((F48 ((F76 ((F57 x2 x3 x4 x5 x6 x7).1) ((F57 x2 x3 x4 x5 x6 x7).2) (F32__7 y21 y24 y28) (F32__8 y21 y24 y28)).1) ((F76 ((F57 x2 x3 x4 x5 x6 x7).1) ((F57 x2 x3 x4 x5 x6 x7).2) (F32__7 y21 y24 y28) (F32__8 y21 y24 y28)).2.1) y21.1 y21.2.1 y21.2.2.1 y21.2.2.2.1).1), .int .u64 ((F48 ((F76 ((F57 x2 x3 x4 x5 x6 x7).1) ((F57 x2 x3 x4 x5 x6 x7).2) (F32__7 y21 y24 y28) (F32__8 y21 y24 y28)).1) ((F76 ((F57 x2 x3 x4 x5 x6 x7).1) ((F57 x2 x3 x4 x5 x6 x7).2) (F32__7 y21 y24 y28) (F32__8 y21 y24 y28)).2.1) y21.1 y21.2.1 y21.2.2.1 y21.2.2.2.1).2.1), .int .u64 ((F48 ((F76 ((F57 x2 x3 x4 x5 x6 x7).1) ((F57 x2 x3 x4 x5 x6 x7).2) (F32__7 y21 y24 y28) (F32__8 y21 y24 y28)).1) ((F76 ((F57 x2 x3 x4 x5 x6 x7).1) ((F57 x2 x3 x4 x5 x6 x7).2) (F32__7 y21 y24 y28) (F32__8 y21 y24 y28)).2.1) y21.1 y21.2.1 y21.2.2.1 y21.2.2.2.1).2.2.1), .int .u64 ((F48 ((F76 ((F57 x2 x3 x4 x5 x6 x7).1) ((F57 x2 x3 x4 x5 x6 x7).2) (F32__7 y21 y24 y28) (F32__8 y21 y24 y28)).1) ((F76 ((F57 x2 x3 x4 x5 x6 x7).1) ((F57 x2 x3 x4 x5 x6 x7).2) (F32__7 y21 y24 y28) (F32__8 y21 y24 y28)).2.1) y21.1 y21.2.1 y21.2.2.1 y21.2.2.2.1).2.2.2.1), .int .i64 ((F48 ((F76 ((F57 x2 x3 x4 x5 x6 x7).1) ((F57 x2 x3 x4 x5 x6 x7).2) (F32__7 y21 y24 y28) (F32__8 y21 y24 y28)).1) ((F76 ((F57 x2 x3 x4 x5 x6 x7).1) ((F57 x2 x3 x4 x5 x6 x7).2) (F32__7 y21 y24 y28) (F32__8 y21 y24 y28)).2.1) y21.1 y21.2.1 y21.2.2.1 y21.2.2.2.1).2.2.2.2.1), .int .i64 ((F48 ((F76 ((F57 x2 x3 x4 x5 x6 x7).1) ((F57 x2 x3 x4 x5 x6 x7).2) (F32__7 y21 y24 y28) (F32__8 y21 y24 y28)).1) ((F76 ((F57 x2 x3 x4 x5 x6 x7).1) ((F57 x2 x3 x4 x5 x6 x7).2) (F32__7 y21 y24 y28) (F32__8 y21 y24 y28)).2.1) y21.1 y21.2.1 y21.2.2.1 y21.2.2.2.1).2.2.2.2.2)]) h), .g, .g]) (args := [.int .i64 x1, .agg #[.int .u64 x2, .int .u64 x3, .int .u64 x4, .int .u64 x5, .int .i64 x6, .int .i64 x7]]) (h := h) (h' := h) (v := .tuple #[.agg #[.int .u64 ((F48 ((F76 ((F57 x2 x3 x4 x5 x6 x7).1) ((F57 x2 x3 x4 x5 x6 x7).2) (F32__7 y21 y24 y28) (F32__8 y21 y24 y28)).1) ((F76 ((F57 x2 x3 x4 x5 x6 x7).1) ((F57 x2 x3 x4 x5 x6 x7).2) (F32__7 y21 y24 y28) (F32__8 y21 y24 y28)).2.1) y21.1 y21.2.1 y21.2.2.1 y21.2.2.2.1).1), .int .u64 ((F48 ((F76 ((F57 x2 x3 x4 x5 x6 x7).1) ((F57 x2 x3 x4 x5 x6 x7).2) (F32__7 y21 y24 y28) (F32__8 y21 y24 y28)).1) ((F76 ((F57 x2 x3 x4 x5 x6 x7).1) ((F57 x2 x3 x4 x5 x6 x7).2) (F32__7 y21 y24 y28) (F32__8 y21 y24 y28)).2.1) y21.1 y21.2.1 y21.2.2.1 y21.2.2.2.1).2.1), .int .u64 ((F48 ((F76 ((F57 x2 x3 x4 x5 x6 x7).1) ((F57 x2 x3 x4 x5 x6 x7).2) (F32__7 y21 y24 y28) (F32__8 y21 y24 y28)).1) ((F76 ((F57 x2 x3 x4 x5 x6 x7).1) ((F57 x2 x3 x4 x5 x6 x7).2) (F32__7 y21 y24 y28) (F32__8 y21 y24 y28)).2.1) y21.1 y21.2.1 y21.2.2.1 y21.2.2.2.1).2.2.1), .int .u64 ((F48 ((F76 ((F57 x2 x3 x4 x5 x6 x7).1) ((F57 x2 x3 x4 x5 x6 x7).2) (F32__7 y21 y24 y28) (F32__8 y21 y24 y28)).1) ((F76 ((F57 x2 x3 x4 x5 x6 x7).1) ((F57 x2 x3 x4 x5 x6 x7).2) (F32__7 y21 y24 y28) (F32__8 y21 y24 y28)).2.1) y21.1 y21.2.1 y21.2.2.1 y21.2.2.2.1).2.2.2.1), .int .i64 ((F48 ((F76 ((F57 x2 x3 x4 x5 x6 x7).1) ((F57 x2 x3 x4 x5 x6 x7).2) (F32__7 y21 y24 y28) (F32__8 y21 y24 y28)).1) ((F76 ((F57 x2 x3 x4 x5 x6 x7).1) ((F57 x2 x3 x4 x5 x6 x7).2) (F32__7 y21 y24 y28) (F32__8 y21 y24 y28)).2.1) y21.1 y21.2.1 y21.2.2.1 y21.2.2.2.1).2.2.2.2.1), .int .i64 ((F48 ((F76 ((F57 x2 x3 x4 x5 x6 x7).1) ((F57 x2 x3 x4 x5 x6 x7).2) (F32__7 y21 y24 y28) (F32__8 y21 y24 y28)).1) ((F76 ((F57 x2 x3 x4 x5 x6 x7).1) ((F57 x2 x3 x4 x5 x6 x7).2) (F32__7 y21 y24 y28) (F32__8 y21 y24 y28)).2.1) y21.1 y21.2.1 y21.2.2.1 y21.2.2.2.1).2.2.2.2.2)], .bool true]) (hC := (And.intro (F48_spec ((F76 ((F57 x2 x3 x4 x5 x6 x7).1) ((F57 x2 x3 x4 x5 x6 x7).2) (F32__7 y21 y24 y28) (F32__8 y21 y24 y28)).1) ((F76 ((F57 x2 x3 x4 x5 x6 x7).1) ((F57 x2 x3 x4 x5 x6 x7).2) (F32__7 y21 y24 y28) (F32__8 y21 y24 y28)).2.1) y21.1 y21.2.1 y21.2.2.1 y21.2.2.2.1 h _ rfl) (And.intro c32 (And.intro (show AKeep h h from (AHeap.sub_refl h)) (And.intro (F76_spec ((F57 x2 x3 x4 x5 x6 x7).1) ((F57 x2 x3 x4 x5 x6 x7).2) (F32__7 y21 y24 y28) (F32__8 y21 y24 y28) h _ rfl) (And.intro (show AKeep h h from (AHeap.sub_refl h)) (And.intro (F57_spec x2 x3 x4 x5 x6 x7 h _ rfl) (And.intro (show AKeep h h from (AHeap.sub_refl h)) (And.intro (F79_spec y26 h _ e28) (And.intro (show AKeep h h from (AHeap.sub_refl h)) (And.intro (F82_spec (IntKind.u64.wrap (((BitVec.ofInt 64 y21.1 ^^^ BitVec.ofInt 64 y21.2.1)).toNat)) h _ e26) (And.intro (show AKeep h h from (AHeap.sub_refl h)) (And.intro (F79_spec x1 h _ e24) (And.intro c23 (And.intro (F81_spec x1 (if x3 > (F59 x2 x3 x4 x5 x6 x7).1 then x3 else (F59 x2 x3 x4 x5 x6 x7).1) (F32__2 x2 x3 x4 x5 x6 x7 y12) (if y15 > (F59 x2 x3 x4 x5 x6 x7).2.2.1 then y15 else (F59 x2 x3 x4 x5 x6 x7).2.2.1) (if y17 < (F59 x2 x3 x4 x5 x6 x7).2.2.2 then y17 else (F59 x2 x3 x4 x5 x6 x7).2.2.2) h _ e21) (And.intro c20 (And.intro c19 (And.intro (g_ff c19) (And.intro (g_ff c19) (And.intro (g_ff c19) (And.intro (g_ff c19) (And.intro (g_ff c19) (And.intro (show AKeep h h from (AHeap.sub_refl h)) (And.intro (F80_spec x1 (F32__4 x1 x2 x3 y12) h _ e17) (And.intro (show AKeep h h from (AHeap.sub_refl h)) (And.intro (F80_spec x1 (F32__3 x1 x2 x3) h _ e15) (And.intro (F59_spec x2 x3 x4 x5 x6 x7 h _ rfl) (And.intro (show AKeep h h from (AHeap.sub_refl h)) (And.intro (F79_spec x1 h _ e12) (And.intro (nl g11) (And.intro c10 (And.intro (F22_spec x1 x2 x3 x4 x5 x6 x7 h _ e8) trivial)))))))))))))))))))))))))))))))) (hr := by kernel_rfl)
/-! 61 jacquard/jacquardref14.bits -/
def F61 (x1 : Int) (x2 : Int) (x3 : Int) (x4 : Int) (x5 : Int) (x6 : Int) : Int × Int :=
  (x1, x2)
set_option maxRecDepth 100000 in
theorem F61_spec (x1 : Int) (x2 : Int) (x3 : Int) (x4 : Int) (x5 : Int) (x6 : Int) (h : AHeap)  (r : Int × Int) : F61 x1 x2 x3 x4 x5 x6 = r → ACalls Try.prog 61 [.agg #[.int .u64 x1, .int .u64 x2, .int .u64 x3, .int .u64 x4, .int .i64 x5, .int .i64 x6]] h (fun v' h'' => v' = (.agg #[.int .u64 r.1, .int .u64 r.2] : Value) ∧ h'' = h) := by
  unfold F61
  intro hr
  subst hr
  exact pFun_sound good tab_ok (f := 61) (its := [.g, .g, .g, .g, .g, .g, .g, .g]) (args := [.agg #[.int .u64 x1, .int .u64 x2, .int .u64 x3, .int .u64 x4, .int .i64 x5, .int .i64 x6]]) (h := h) (h' := h) (v := .agg #[.int .u64 x1, .int .u64 x2]) (hC := trivial) (hr := by kernel_rfl)
/-! 99 jacquard/jacquardref12.Mask -/
def F99_L : List Nat := []
def F99_D : List (Nat × List (Nat × Nat)) := []
def F99_m1_1 : List Bool := [true, true, true, false, true, true, true, true, true, true, true, true, true, true]
def F99_m1_0 : List Bool := [false, true, true, false, false, true, true, true, true, true, true, true, true, true]
def F99_s1 (x1 : Int) (a2 : Int) (a3 : Int) : Option ((Int × Int) ⊕ Int) :=
  (bif decide (a3 < x1) then
   some (.inl ((IntKind.u64.wrap ((IntKind.u64.wrap (a2 * 2)) + 1)), (IntKind.i64.wrap (a3 + 1))))
  else
   some (.inr a2))
def F99_h1 (h : AHeap) (x1 : Int)  (a2 : Int) (a3 : Int) : AS := ⟨[.int .i64 x1, junk, junk, .int .u64 a2, .int .i64 a3, junk, junk, junk, junk, junk, junk, junk, junk, junk], [], h⟩
theorem F99_d1 : drawsOk F99_D (codeOf Try.prog 99 [1, 1, 0, 1, 0, 0]) = true := by kernel_rfl
def F99_x1_0 (h : AHeap)  (r : Int) : AS := ⟨[junk, junk, junk, .int .u64 r, junk, junk, junk, junk, junk, junk, junk, junk, junk, junk], [], h⟩
def F99_x1 (h : AHeap) (r : Int) : Exit × AS := ((.exit 0), (F99_x1_0 h r))
set_option maxRecDepth 100000 in
theorem F99_r1 (h : AHeap) (x1 : Int) (a2 : Int) (a3 : Int) (o : (Int × Int) ⊕ Int) : F99_s1 x1 a2 a3 = some o → RdF Try.prog (codeOf Try.prog 99 [1, 1, 0, 1, 0, 0]) (fun (s : Int × Int) => (F99_h1 h x1 s.1 s.2)) (F99_x1 h) (F99_h1 h x1 a2 a3) o := by
  unfold F99_s1
  refine dec_bif (fun c4 => ?_) (fun c4 => ?_)
  · intro hr
    obtain rfl := Option.some.inj hr
    show AWp Try.prog _ (Ends1 .normal (F99_h1 h x1 (IntKind.u64.wrap ((IntKind.u64.wrap (a2 * 2)) + 1)) (IntKind.i64.wrap (a3 + 1)))) _
    exact pEnd_sound good (L := F99_L) (D := F99_D) (its := [.g, .g, .g, (.b true), .g, .g, .g, .g, .g, .g, .g]) (ds := F99_m1_0) (ks := []) (e := .normal) (s2 := (F99_h1 h x1 (IntKind.u64.wrap ((IntKind.u64.wrap (a2 * 2)) + 1)) (IntKind.i64.wrap (a3 + 1)))) (hC := (And.intro c4 trivial)) (hd := F99_d1) (h := by kernel_rfl)
  · intro hr
    obtain rfl := Option.some.inj hr
    show AWp Try.prog _ (Ends1 ((F99_x1 h) (a2 : Int)).1 ((F99_x1 h) (a2 : Int)).2) _
    exact pEnd_sound good (L := F99_L) (D := F99_D) (its := [.g, .g, .g, (.b false)]) (ds := F99_m1_1) (ks := []) (e := ((F99_x1 h) (a2 : Int)).1) (s2 := ((F99_x1 h) (a2 : Int)).2) (hC := (And.intro c4 trivial)) (hd := F99_d1) (h := by kernel_rfl)
theorem F99_l1_0 (h : AHeap) (x1 : Int) (x : Int × Int) (r : Int) (hl : loopO (fun (s : Int × Int) => F99_s1 x1 s.1 s.2) x = some r) : AWp Try.prog (.loop (codeOf Try.prog 99 [1, 1, 0, 1, 0, 0])) (Ends1 (.exit 0) (F99_x1_0 h r)) ((fun (s : Int × Int) => (F99_h1 h x1 s.1 s.2)) x) := by
  have k := loop_fun (P := Try.prog) (c := (codeOf Try.prog 99 [1, 1, 0, 1, 0, 0])) (step := (fun (s : Int × Int) => F99_s1 x1 s.1 s.2)) (hd := (fun (s : Int × Int) => (F99_h1 h x1 s.1 s.2))) (X := (F99_x1 h)) (by intro t; unfold F99_x1; intro h; cases h) (fun x => F99_r1 h x1 x.1 x.2) hl
  exact k
def F99 (x1 : Int) : Option (Int) :=
  (Option.bind (loopO (fun (s : Int × Int) => F99_s1 x1 s.1 s.2) (0, 0)) fun y5 =>
  some (y5))
set_option maxRecDepth 100000 in
theorem F99_spec (x1 : Int) (h : AHeap)  (r : Int) : F99 x1 = some r → ACalls Try.prog 99 [.int .i64 x1] h (fun v' h'' => v' = (.int .u64 r : Value) ∧ h'' = h) := by
  unfold F99
  refine bind_opt fun y5 e5 => ?_
  intro hr
  obtain rfl := Option.some.inj hr
  exact pFun_sound good tab_ok (f := 99) (its := [.g, .g, .g, (.l F99_m1_0 [] (.exit 0) (F99_x1_0 h y5)), .g, .g]) (args := [.int .i64 x1]) (h := h) (h' := h) (v := .int .u64 y5) (hC := (And.intro (F99_l1_0 h x1 (0, 0) y5 e5) trivial)) (hr := by kernel_rfl)
/-! 60 jacquard/jacquardref12.Valid -/
def F60__1 (x2 : Int) (x3 : Int) (y6 : Int) : Int := (IntKind.u64.wrap (((BitVec.ofInt 64 (IntKind.u64.wrap (((BitVec.ofInt 64 x2 ||| BitVec.ofInt 64 x3)).toNat)) &&& ~~~(BitVec.ofInt 64 y6))).toNat))
def F60 (x1 : Int) (x2 : Int) (x3 : Int) : Option (Bool) :=
  (bif decide (x1 ≥ 1) then
   (bif decide (x1 ≤ 64) then
    (Option.bind (F99 x1) fun y6 =>
    (bif ((F60__1 x2 x3 y6) == 0) then
     some ((IntKind.u64.wrap (((BitVec.ofInt 64 x2 &&& BitVec.ofInt 64 x3)).toNat)) == 0)
    else
     some (false)))
   else
    some (false))
  else
   some (false))
set_option maxRecDepth 100000 in
theorem F60_spec (x1 : Int) (x2 : Int) (x3 : Int) (h : AHeap)  (r : Bool) : F60 x1 x2 x3 = some r → ACalls Try.prog 60 [.int .i64 x1, .agg #[.int .u64 x2, .int .u64 x3]] h (fun v' h'' => v' = (.bool r : Value) ∧ h'' = h) := by
  unfold F60
  refine dec_bif (fun c4 => ?_) (fun c4 => ?_)
  · refine dec_bif (fun c5 => ?_) (fun c5 => ?_)
    · refine bind_opt fun y6 e6 => ?_
      refine dec_bif (fun c8 => ?_) (fun c8 => ?_)
      · intro hr
        obtain rfl := Option.some.inj hr
        exact pFun_sound good tab_ok (f := 60) (its := [.g, .g, .g, .g, .g, (.w .g), (.w .g), (.p true), .g, (.w .g), (.w .g), (.w .g), (.w .g), (.w .g), (.w .g), (.w (.c (.int .u64 y6) h)), (.w .g), (.w .g), (.p true), .g, (.w .g), (.w .g), (.w .g), (.w .g), (.w .g), (.w .g), (.p true), .g]) (args := [.int .i64 x1, .agg #[.int .u64 x2, .int .u64 x3]]) (h := h) (h' := h) (v := .bool ((IntKind.u64.wrap (((BitVec.ofInt 64 x2 &&& BitVec.ofInt 64 x3)).toNat)) == 0)) (hC := (And.intro c8 (And.intro (g_tt c8) (And.intro (g_tt c8) (And.intro (g_tt c8) (And.intro (g_tt c8) (And.intro (g_tt c8) (And.intro (g_tt c8) (And.intro c5 (And.intro (g_tt c5) (And.intro (g_tt c5) (And.intro (show AKeep h h from (AHeap.sub_refl h)) (And.intro (F99_spec x1 h _ e6) (And.intro (g_tt c5) (And.intro (g_tt c5) (And.intro (g_tt c5) (And.intro (g_tt c5) (And.intro (g_tt c5) (And.intro (g_tt c5) (And.intro (g_tt c5) (And.intro c4 (And.intro (g_tt c4) (And.intro (g_tt c4) trivial))))))))))))))))))))))) (hr := by kernel_rfl)
      · intro hr
        obtain rfl := Option.some.inj hr
        exact pFun_sound good tab_ok (f := 60) (its := [.g, .g, .g, .g, .g, (.w .g), (.w .g), (.p true), .g, (.w .g), (.w .g), (.w .g), (.w .g), (.w .g), (.w .g), (.w (.c (.int .u64 y6) h)), (.w .g), (.w .g), (.p true), .g, .n, .n, .n, .n, .n, .n, (.p false), .g]) (args := [.int .i64 x1, .agg #[.int .u64 x2, .int .u64 x3]]) (h := h) (h' := h) (v := .bool false) (hC := (And.intro c8 (And.intro (g_ft c8) (And.intro (g_ft c8) (And.intro (g_ft c8) (And.intro (g_ft c8) (And.intro (g_ft c8) (And.intro (g_ft c8) (And.intro c5 (And.intro (g_tt c5) (And.intro (g_tt c5) (And.intro (show AKeep h h from (AHeap.sub_refl h)) (And.intro (F99_spec x1 h _ e6) (And.intro (g_tt c5) (And.intro (g_tt c5) (And.intro (g_tt c5) (And.intro (g_tt c5) (And.intro (g_tt c5) (And.intro (g_tt c5) (And.intro (g_tt c5) (And.intro c4 (And.intro (g_tt c4) (And.intro (g_tt c4) trivial))))))))))))))))))))))) (hr := by kernel_rfl)
    · intro hr
      obtain rfl := Option.some.inj hr
      exact pFun_sound good tab_ok (f := 60) (its := [.g, .g, .g, .g, .g, (.w .g), (.w .g), (.p true), .g, .n, .n, .n, .n, .n, .n, .n, .n, .n, (.p false), .g, .n, .n, .n, .n, .n, .n, .g, .g]) (args := [.int .i64 x1, .agg #[.int .u64 x2, .int .u64 x3]]) (h := h) (h' := h) (v := .bool false) (hC := (And.intro (g_ft l_f) (And.intro (g_ft l_f) (And.intro (g_ft l_f) (And.intro (g_ft l_f) (And.intro (g_ft l_f) (And.intro (g_ft l_f) (And.intro c5 (And.intro (g_ft c5) (And.intro (g_ft c5) (And.intro (g_ft c5) (And.intro (g_ft c5) (And.intro (g_ft c5) (And.intro (g_ft c5) (And.intro (g_ft c5) (And.intro (g_ft c5) (And.intro (g_ft c5) (And.intro c4 (And.intro (g_tt c4) (And.intro (g_tt c4) trivial)))))))))))))))))))) (hr := by kernel_rfl)
  · intro hr
    obtain rfl := Option.some.inj hr
    exact pFun_sound good tab_ok (f := 60) (its := [.g, .g, .g, .g, .g, .n, .n, (.p false), .g, .n, .n, .n, .n, .n, .n, .n, .n, .n, .g, .g, .n, .n, .n, .n, .n, .n, .g, .g]) (args := [.int .i64 x1, .agg #[.int .u64 x2, .int .u64 x3]]) (h := h) (h' := h) (v := .bool false) (hC := (And.intro (g_ft l_f) (And.intro (g_ft l_f) (And.intro (g_ft l_f) (And.intro (g_ft l_f) (And.intro (g_ft l_f) (And.intro (g_ft l_f) (And.intro (g_ft l_f) (And.intro (g_ft l_f) (And.intro (g_ft l_f) (And.intro (g_ft l_f) (And.intro (g_ft l_f) (And.intro (g_ft l_f) (And.intro (g_ft l_f) (And.intro (g_ft l_f) (And.intro (g_ft l_f) (And.intro c4 (And.intro (g_ft c4) (And.intro (g_ft c4) trivial))))))))))))))))))) (hr := by kernel_rfl)
/-! 63 jacquard/jacquardref14.span -/
def F63 (x1 : Int) (x2 : Int) (x3 : Int) (x4 : Int) (x5 : Int) (x6 : Int) : Int × Int × Int × Int :=
  (x3, x4, x5, x6)
set_option maxRecDepth 100000 in
theorem F63_spec (x1 : Int) (x2 : Int) (x3 : Int) (x4 : Int) (x5 : Int) (x6 : Int) (h : AHeap)  (r : Int × Int × Int × Int) : F63 x1 x2 x3 x4 x5 x6 = r → ACalls Try.prog 63 [.agg #[.int .u64 x1, .int .u64 x2, .int .u64 x3, .int .u64 x4, .int .i64 x5, .int .i64 x6]] h (fun v' h'' => v' = (.agg #[.int .u64 r.1, .int .u64 r.2.1, .int .i64 r.2.2.1, .int .i64 r.2.2.2] : Value) ∧ h'' = h) := by
  unfold F63
  intro hr
  subst hr
  exact pFun_sound good tab_ok (f := 63) (its := [.g, .g, .g, .g, .g, .g, .g, .g, .g, .g, .g, .g]) (args := [.agg #[.int .u64 x1, .int .u64 x2, .int .u64 x3, .int .u64 x4, .int .i64 x5, .int .i64 x6]]) (h := h) (h' := h) (v := .agg #[.int .u64 x3, .int .u64 x4, .int .i64 x5, .int .i64 x6]) (hC := trivial) (hr := by kernel_rfl)
/-! 95 jacquard/jacquardref13.Umax -/
def F95 (x1 : Int) : Option (Int) :=
  (Option.bind (F99 x1) fun y2 =>
  some (y2))
set_option maxRecDepth 100000 in
theorem F95_spec (x1 : Int) (h : AHeap)  (r : Int) : F95 x1 = some r → ACalls Try.prog 95 [.int .i64 x1] h (fun v' h'' => v' = (.int .u64 r : Value) ∧ h'' = h) := by
  unfold F95
  refine bind_opt fun y2 e2 => ?_
  intro hr
  obtain rfl := Option.some.inj hr
  exact pFun_sound good tab_ok (f := 95) (its := [.g, .g, (.c (.int .u64 y2) h), .g]) (args := [.int .i64 x1]) (h := h) (h' := h) (v := .int .u64 y2) (hC := (And.intro (F99_spec x1 h _ e2) trivial)) (hr := by kernel_rfl)
/-! 97 jacquard/jacquardref13.Smax -/
def F97 (x1 : Int) : Option (Int) :=
  (Option.bind (F95 x1) fun y2 =>
  some (IntKind.i64.wrap ((y2.fdiv (2 ^ 1)))))
set_option maxRecDepth 100000 in
theorem F97_spec (x1 : Int) (h : AHeap)  (r : Int) : F97 x1 = some r → ACalls Try.prog 97 [.int .i64 x1] h (fun v' h'' => v' = (.int .i64 r : Value) ∧ h'' = h) := by
  unfold F97
  refine bind_opt fun y2 e2 => ?_
  intro hr
  obtain rfl := Option.some.inj hr
  exact pFun_sound good tab_ok (f := 97) (its := [.g, .g, (.c (.int .u64 y2) h), .g, .g, .g]) (args := [.int .i64 x1]) (h := h) (h' := h) (v := .int .i64 (IntKind.i64.wrap ((y2.fdiv (2 ^ 1))))) (hC := (And.intro (F95_spec x1 h _ e2) trivial)) (hr := by kernel_rfl)
/-! 96 jacquard/jacquardref13.Smin -/
def F96 (x1 : Int) : Option (Int) :=
  (Option.bind (F97 x1) fun y2 =>
  some (IntKind.i64.wrap ((IntKind.i64.wrap (0 - y2)) - 1)))
set_option maxRecDepth 100000 in
theorem F96_spec (x1 : Int) (h : AHeap)  (r : Int) : F96 x1 = some r → ACalls Try.prog 96 [.int .i64 x1] h (fun v' h'' => v' = (.int .i64 r : Value) ∧ h'' = h) := by
  unfold F96
  refine bind_opt fun y2 e2 => ?_
  intro hr
  obtain rfl := Option.some.inj hr
  exact pFun_sound good tab_ok (f := 96) (its := [.g, .g, (.c (.int .i64 y2) h), .g, .g, .g]) (args := [.int .i64 x1]) (h := h) (h' := h) (v := .int .i64 (IntKind.i64.wrap ((IntKind.i64.wrap (0 - y2)) - 1))) (hC := (And.intro (F97_spec x1 h _ e2) trivial)) (hr := by kernel_rfl)
/-! 62 jacquard/jacquardref13.Valid -/
def F62 (x1 : Int) (x2 : Int) (x3 : Int) (x4 : Int) (x5 : Int) : Option (Bool) :=
  (bif decide (x1 ≥ 1) then
   (bif decide (x1 ≤ 64) then
    (bif decide (x2 ≤ x3) then
     (Option.bind (F95 x1) fun y9 =>
     (bif decide (x3 ≤ y9) then
      (Option.bind (F96 x1) fun y12 =>
      (bif decide (y12 ≤ x4) then
       (bif decide (x4 ≤ x5) then
        (Option.bind (F97 x1) fun y16 =>
        some (decide (x5 ≤ y16)))
       else
        some (false))
      else
       some (false)))
     else
      some (false)))
    else
     some (false))
   else
    some (false))
  else
   some (false))
set_option maxRecDepth 100000 in
theorem F62_spec (x1 : Int) (x2 : Int) (x3 : Int) (x4 : Int) (x5 : Int) (h : AHeap)  (r : Bool) : F62 x1 x2 x3 x4 x5 = some r → ACalls Try.prog 62 [.int .i64 x1, .agg #[.int .u64 x2, .int .u64 x3, .int .i64 x4, .int .i64 x5]] h (fun v' h'' => v' = (.bool r : Value) ∧ h'' = h) := by
  unfold F62
  refine dec_bif (fun c6 => ?_) (fun c6 => ?_)
  · refine dec_bif (fun c7 => ?_) (fun c7 => ?_)
    · refine dec_bif (fun c8 => ?_) (fun c8 => ?_)
      · refine bind_opt fun y9 e9 => ?_
        refine dec_bif (fun c11 => ?_) (fun c11 => ?_)
        · refine bind_opt fun y12 e12 => ?_
          refine dec_bif (fun c14 => ?_) (fun c14 => ?_)
          · refine dec_bif (fun c15 => ?_) (fun c15 => ?_)
            · refine bind_opt fun y16 e16 => ?_
              intro hr
              obtain rfl := Option.some.inj hr
              exact pFun_sound good tab_ok (f := 62) (its := [.g, .g, .g, .g, .g, (.w .g), (.w .g), (.p true), .g, (.w .g), (.w .g), (.w .g), (.w .g), (.w .g), (.p true), .g, (.w .g), (.w .g), (.w .g), (.w (.c (.int .u64 y9) h)), (.w .g), (.p true), .g, (.w .g), (.w .g), (.w .g), (.w (.c (.int .i64 y12) h)), (.w .g), (.p true), .g, (.w .g), (.w .g), (.w .g), (.w .g), (.w .g), (.p true), .g, (.w .g), (.w .g), (.w .g), (.w (.c (.int .i64 y16) h)), (.w .g), (.p true), .g]) (args := [.int .i64 x1, .agg #[.int .u64 x2, .int .u64 x3, .int .i64 x4, .int .i64 x5]]) (h := h) (h' := h) (v := .bool (decide (x5 ≤ y16))) (hC := (And.intro c15 (And.intro (g_tt c15) (And.intro (show AKeep h h from (AHeap.sub_refl h)) (And.intro (F97_spec x1 h _ e16) (And.intro (g_tt c15) (And.intro (g_tt c15) (And.intro (g_tt c15) (And.intro (g_tt c15) (And.intro c14 (And.intro (g_tt c14) (And.intro (g_tt c14) (And.intro (g_tt c14) (And.intro (g_tt c14) (And.intro (g_tt c14) (And.intro c11 (And.intro (g_tt c11) (And.intro (show AKeep h h from (AHeap.sub_refl h)) (And.intro (F96_spec x1 h _ e12) (And.intro (g_tt c11) (And.intro (g_tt c11) (And.intro (g_tt c11) (And.intro (g_tt c11) (And.intro c8 (And.intro (g_tt c8) (And.intro (show AKeep h h from (AHeap.sub_refl h)) (And.intro (F95_spec x1 h _ e9) (And.intro (g_tt c8) (And.intro (g_tt c8) (And.intro (g_tt c8) (And.intro (g_tt c8) (And.intro c7 (And.intro (g_tt c7) (And.intro (g_tt c7) (And.intro (g_tt c7) (And.intro (g_tt c7) (And.intro (g_tt c7) (And.intro c6 (And.intro (g_tt c6) (And.intro (g_tt c6) trivial)))))))))))))))))))))))))))))))))))))))) (hr := by kernel_rfl)
            · intro hr
              obtain rfl := Option.some.inj hr
              exact pFun_sound good tab_ok (f := 62) (its := [.g, .g, .g, .g, .g, (.w .g), (.w .g), (.p true), .g, (.w .g), (.w .g), (.w .g), (.w .g), (.w .g), (.p true), .g, (.w .g), (.w .g), (.w .g), (.w (.c (.int .u64 y9) h)), (.w .g), (.p true), .g, (.w .g), (.w .g), (.w .g), (.w (.c (.int .i64 y12) h)), (.w .g), (.p true), .g, (.w .g), (.w .g), (.w .g), (.w .g), (.w .g), (.p true), .g, .n, .n, .n, .n, .n, (.p false), .g]) (args := [.int .i64 x1, .agg #[.int .u64 x2, .int .u64 x3, .int .i64 x4, .int .i64 x5]]) (h := h) (h' := h) (v := .bool false) (hC := (And.intro c15 (And.intro (g_ft c15) (And.intro (g_ft c15) (And.intro (g_ft c15) (And.intro (g_ft c15) (And.intro (g_ft c15) (And.intro c14 (And.intro (g_tt c14) (And.intro (g_tt c14) (And.intro (g_tt c14) (And.intro (g_tt c14) (And.intro (g_tt c14) (And.intro c11 (And.intro (g_tt c11) (And.intro (show AKeep h h from (AHeap.sub_refl h)) (And.intro (F96_spec x1 h _ e12) (And.intro (g_tt c11) (And.intro (g_tt c11) (And.intro (g_tt c11) (And.intro (g_tt c11) (And.intro c8 (And.intro (g_tt c8) (And.intro (show AKeep h h from (AHeap.sub_refl h)) (And.intro (F95_spec x1 h _ e9) (And.intro (g_tt c8) (And.intro (g_tt c8) (And.intro (g_tt c8) (And.intro (g_tt c8) (And.intro c7 (And.intro (g_tt c7) (And.intro (g_tt c7) (And.intro (g_tt c7) (And.intro (g_tt c7) (And.intro (g_tt c7) (And.intro c6 (And.intro (g_tt c6) (And.intro (g_tt c6) trivial)))))))))))))))))))))))))))))))))))))) (hr := by kernel_rfl)
          · intro hr
            obtain rfl := Option.some.inj hr
            exact pFun_sound good tab_ok (f := 62) (its := [.g, .g, .g, .g, .g, (.w .g), (.w .g), (.p true), .g, (.w .g), (.w .g), (.w .g), (.w .g), (.w .g), (.p true), .g, (.w .g), (.w .g), (.w .g), (.w (.c (.int .u64 y9) h)), (.w .g), (.p true), .g, (.w .g), (.w .g), (.w .g), (.w (.c (.int .i64 y12) h)), (.w .g), (.p true), .g, .n, .n, .n, .n, .n, (.p false), .g, .n, .n, .n, .n, .n, .g, .g]) (args := [.int .i64 x1, .agg #[.int .u64 x2, .int .u64 x3, .int .i64 x4, .int .i64 x5]]) (h := h) (h' := h) (v := .bool false) (hC := (And.intro (g_ft l_f) (And.intro (g_ft l_f) (And.intro (g_ft l_f) (And.intro (g_ft l_f) (And.intro (g_ft l_f) (And.intro c14 (And.intro (g_ft c14) (And.intro (g_ft c14) (And.intro (g_ft c14) (And.intro (g_ft c14) (And.intro (g_ft c14) (And.intro c11 (And.intro (g_tt c11) (And.intro (show AKeep h h from (AHeap.sub_refl h)) (And.intro (F96_spec x1 h _ e12) (And.intro (g_tt c11) (And.intro (g_tt c11) (And.intro (g_tt c11) (And.intro (g_tt c11) (And.intro c8 (And.intro (g_tt c8) (And.intro (show AKeep h h from (AHeap.sub_refl h)) (And.intro (F95_spec x1 h _ e9) (And.intro (g_tt c8) (And.intro (g_tt c8) (And.intro (g_tt c8) (And.intro (g_tt c8) (And.intro c7 (And.intro (g_tt c7) (And.intro (g_tt c7) (And.intro (g_tt c7) (And.intro (g_tt c7) (And.intro (g_tt c7) (And.intro c6 (And.intro (g_tt c6) (And.intro (g_tt c6) trivial))))))))))))))))))))))))))))))))))))) (hr := by kernel_rfl)
        · intro hr
          obtain rfl := Option.some.inj hr
          exact pFun_sound good tab_ok (f := 62) (its := [.g, .g, .g, .g, .g, (.w .g), (.w .g), (.p true), .g, (.w .g), (.w .g), (.w .g), (.w .g), (.w .g), (.p true), .g, (.w .g), (.w .g), (.w .g), (.w (.c (.int .u64 y9) h)), (.w .g), (.p true), .g, .n, .n, .n, .n, .n, (.p false), .g, .n, .n, .n, .n, .n, .g, .g, .n, .n, .n, .n, .n, .g, .g]) (args := [.int .i64 x1, .agg #[.int .u64 x2, .int .u64 x3, .int .i64 x4, .int .i64 x5]]) (h := h) (h' := h) (v := .bool false) (hC := (And.intro (g_ft l_f) (And.intro (g_ft l_f) (And.intro (g_ft l_f) (And.intro (g_ft l_f) (And.intro (g_ft l_f) (And.intro (g_ft l_f) (And.intro (g_ft l_f) (And.intro (g_ft l_f) (And.intro (g_ft l_f) (And.intro (g_ft l_f) (And.intro c11 (And.intro (g_ft c11) (And.intro (g_ft c11) (And.intro (g_ft c11) (And.intro (g_ft c11) (And.intro (g_ft c11) (And.intro c8 (And.intro (g_tt c8) (And.intro (show AKeep h h from (AHeap.sub_refl h)) (And.intro (F95_spec x1 h _ e9) (And.intro (g_tt c8) (And.intro (g_tt c8) (And.intro (g_tt c8) (And.intro (g_tt c8) (And.intro c7 (And.intro (g_tt c7) (And.intro (g_tt c7) (And.intro (g_tt c7) (And.intro (g_tt c7) (And.intro (g_tt c7) (And.intro c6 (And.intro (g_tt c6) (And.intro (g_tt c6) trivial)))))))))))))))))))))))))))))))))) (hr := by kernel_rfl)
      · intro hr
        obtain rfl := Option.some.inj hr
        exact pFun_sound good tab_ok (f := 62) (its := [.g, .g, .g, .g, .g, (.w .g), (.w .g), (.p true), .g, (.w .g), (.w .g), (.w .g), (.w .g), (.w .g), (.p true), .g, .n, .n, .n, .n, .n, (.p false), .g, .n, .n, .n, .n, .n, .g, .g, .n, .n, .n, .n, .n, .g, .g, .n, .n, .n, .n, .n, .g, .g]) (args := [.int .i64 x1, .agg #[.int .u64 x2, .int .u64 x3, .int .i64 x4, .int .i64 x5]]) (h := h) (h' := h) (v := .bool false) (hC := (And.intro (g_ft l_f) (And.intro (g_ft l_f) (And.intro (g_ft l_f) (And.intro (g_ft l_f) (And.intro (g_ft l_f) (And.intro (g_ft l_f) (And.intro (g_ft l_f) (And.intro (g_ft l_f) (And.intro (g_ft l_f) (And.intro (g_ft l_f) (And.intro (g_ft l_f) (And.intro (g_ft l_f) (And.intro (g_ft l_f) (And.intro (g_ft l_f) (And.intro (g_ft l_f) (And.intro c8 (And.intro (g_ft c8) (And.intro (g_ft c8) (And.intro (g_ft c8) (And.intro (g_ft c8) (And.intro (g_ft c8) (And.intro c7 (And.intro (g_tt c7) (And.intro (g_tt c7) (And.intro (g_tt c7) (And.intro (g_tt c7) (And.intro (g_tt c7) (And.intro c6 (And.intro (g_tt c6) (And.intro (g_tt c6) trivial))))))))))))))))))))))))))))))) (hr := by kernel_rfl)
    · intro hr
      obtain rfl := Option.some.inj hr
      exact pFun_sound good tab_ok (f := 62) (its := [.g, .g, .g, .g, .g, (.w .g), (.w .g), (.p true), .g, .n, .n, .n, .n, .n, (.p false), .g, .n, .n, .n, .n, .n, .g, .g, .n, .n, .n, .n, .n, .g, .g, .n, .n, .n, .n, .n, .g, .g, .n, .n, .n, .n, .n, .g, .g]) (args := [.int .i64 x1, .agg #[.int .u64 x2, .int .u64 x3, .int .i64 x4, .int .i64 x5]]) (h := h) (h' := h) (v := .bool false) (hC := (And.intro (g_ft l_f) (And.intro (g_ft l_f) (And.intro (g_ft l_f) (And.intro (g_ft l_f) (And.intro (g_ft l_f) (And.intro (g_ft l_f) (And.intro (g_ft l_f) (And.intro (g_ft l_f) (And.intro (g_ft l_f) (And.intro (g_ft l_f) (And.intro (g_ft l_f) (And.intro (g_ft l_f) (And.intro (g_ft l_f) (And.intro (g_ft l_f) (And.intro (g_ft l_f) (And.intro (g_ft l_f) (And.intro (g_ft l_f) (And.intro (g_ft l_f) (And.intro (g_ft l_f) (And.intro (g_ft l_f) (And.intro c7 (And.intro (g_ft c7) (And.intro (g_ft c7) (And.intro (g_ft c7) (And.intro (g_ft c7) (And.intro (g_ft c7) (And.intro c6 (And.intro (g_tt c6) (And.intro (g_tt c6) trivial)))))))))))))))))))))))))))))) (hr := by kernel_rfl)
  · intro hr
    obtain rfl := Option.some.inj hr
    exact pFun_sound good tab_ok (f := 62) (its := [.g, .g, .g, .g, .g, .n, .n, (.p false), .g, .n, .n, .n, .n, .n, .g, .g, .n, .n, .n, .n, .n, .g, .g, .n, .n, .n, .n, .n, .g, .g, .n, .n, .n, .n, .n, .g, .g, .n, .n, .n, .n, .n, .g, .g]) (args := [.int .i64 x1, .agg #[.int .u64 x2, .int .u64 x3, .int .i64 x4, .int .i64 x5]]) (h := h) (h' := h) (v := .bool false) (hC := (And.intro (g_ft l_f) (And.intro (g_ft l_f) (And.intro (g_ft l_f) (And.intro (g_ft l_f) (And.intro (g_ft l_f) (And.intro (g_ft l_f) (And.intro (g_ft l_f) (And.intro (g_ft l_f) (And.intro (g_ft l_f) (And.intro (g_ft l_f) (And.intro (g_ft l_f) (And.intro (g_ft l_f) (And.intro (g_ft l_f) (And.intro (g_ft l_f) (And.intro (g_ft l_f) (And.intro (g_ft l_f) (And.intro (g_ft l_f) (And.intro (g_ft l_f) (And.intro (g_ft l_f) (And.intro (g_ft l_f) (And.intro (g_ft l_f) (And.intro (g_ft l_f) (And.intro (g_ft l_f) (And.intro (g_ft l_f) (And.intro (g_ft l_f) (And.intro c6 (And.intro (g_ft c6) (And.intro (g_ft c6) trivial))))))))))))))))))))))))))))) (hr := by kernel_rfl)
/-! 23 jacquard/jacquardref14.Valid -/
def F23 (x1 : Int) (x2 : Int) (x3 : Int) (x4 : Int) (x5 : Int) (x6 : Int) (x7 : Int) : Option (Bool) :=
  (Option.bind (F60 x1 ((F61 x2 x3 x4 x5 x6 x7).1) ((F61 x2 x3 x4 x5 x6 x7).2)) fun y9 =>
  (bif y9 then
   (Option.bind (F62 x1 ((F63 x2 x3 x4 x5 x6 x7).1) ((F63 x2 x3 x4 x5 x6 x7).2.1) ((F63 x2 x3 x4 x5 x6 x7).2.2.1) ((F63 x2 x3 x4 x5 x6 x7).2.2.2)) fun y13 =>
   some (y13))
  else
   some (false)))
set_option maxRecDepth 100000 in
theorem F23_spec (x1 : Int) (x2 : Int) (x3 : Int) (x4 : Int) (x5 : Int) (x6 : Int) (x7 : Int) (h : AHeap)  (r : Bool) : F23 x1 x2 x3 x4 x5 x6 x7 = some r → ACalls Try.prog 23 [.int .i64 x1, .agg #[.int .u64 x2, .int .u64 x3, .int .u64 x4, .int .u64 x5, .int .i64 x6, .int .i64 x7]] h (fun v' h'' => v' = (.bool r : Value) ∧ h'' = h) := by
  unfold F23
  refine bind_opt fun y9 e9 => ?_
  refine dec_bif (fun c11 => ?_) (fun c11 => ?_)
  · refine bind_opt fun y13 e13 => ?_
    intro hr
    obtain rfl := Option.some.inj hr
    exact pFun_sound good tab_ok (f := 23) (its := [.g, .g, .g, .g, (.c (.agg #[.int .u64 ((F61 x2 x3 x4 x5 x6 x7).1), .int .u64 ((F61 x2 x3 x4 x5 x6 x7).2)]) h), (.c (.bool y9) h), .g, (.w .g), (.w .g), (.w (.c (.agg #[.int .u64 ((F63 x2 x3 x4 x5 x6 x7).1), .int .u64 ((F63 x2 x3 x4 x5 x6 x7).2.1), .int .i64 ((F63 x2 x3 x4 x5 x6 x7).2.2.1), .int .i64 ((F63 x2 x3 x4 x5 x6 x7).2.2.2)]) h)), (.w (.c (.bool y13) h)), (.p true), .g]) (args := [.int .i64 x1, .agg #[.int .u64 x2, .int .u64 x3, .int .u64 x4, .int .u64 x5, .int .i64 x6, .int .i64 x7]]) (h := h) (h' := h) (v := .bool y13) (hC := (And.intro c11 (And.intro (F62_spec x1 ((F63 x2 x3 x4 x5 x6 x7).1) ((F63 x2 x3 x4 x5 x6 x7).2.1) ((F63 x2 x3 x4 x5 x6 x7).2.2.1) ((F63 x2 x3 x4 x5 x6 x7).2.2.2) h _ e13) (And.intro (g_tt c11) (And.intro (F63_spec x2 x3 x4 x5 x6 x7 h _ rfl) (And.intro (g_tt c11) (And.intro (g_tt c11) (And.intro (g_tt c11) (And.intro (F60_spec x1 ((F61 x2 x3 x4 x5 x6 x7).1) ((F61 x2 x3 x4 x5 x6 x7).2) h _ e9) (And.intro (F61_spec x2 x3 x4 x5 x6 x7 h _ rfl) trivial)))))))))) (hr := by kernel_rfl)
  · intro hr
    obtain rfl := Option.some.inj hr
    exact pFun_sound good tab_ok (f := 23) (its := [.g, .g, .g, .g, (.c (.agg #[.int .u64 ((F61 x2 x3 x4 x5 x6 x7).1), .int .u64 ((F61 x2 x3 x4 x5 x6 x7).2)]) h), (.c (.bool y9) h), .g, .n, .n, .n, .n, (.p false), .g]) (args := [.int .i64 x1, .agg #[.int .u64 x2, .int .u64 x3, .int .u64 x4, .int .u64 x5, .int .i64 x6, .int .i64 x7]]) (h := h) (h' := h) (v := .bool false) (hC := (And.intro c11 (And.intro (g_ft c11) (And.intro (g_ft c11) (And.intro (g_ft c11) (And.intro (g_ft c11) (And.intro (F60_spec x1 ((F61 x2 x3 x4 x5 x6 x7).1) ((F61 x2 x3 x4 x5 x6 x7).2) h _ e9) (And.intro (F61_spec x2 x3 x4 x5 x6 x7 h _ rfl) trivial)))))))) (hr := by kernel_rfl)
/-! 83 jacquard/jacquardref12.Limits -/
def F83 (x1 : Int) (x2 : Int) (x3 : Int) : Option (Int × Int) :=
  (Option.bind (F99 x1) fun y4 =>
  some (x3, (IntKind.u64.wrap (((BitVec.ofInt 64 y4 &&& ~~~(BitVec.ofInt 64 x2))).toNat))))
set_option maxRecDepth 100000 in
theorem F83_spec (x1 : Int) (x2 : Int) (x3 : Int) (h : AHeap)  (r : Int × Int) : F83 x1 x2 x3 = some r → ACalls Try.prog 83 [.int .i64 x1, .agg #[.int .u64 x2, .int .u64 x3]] h (fun v' h'' => v' = (.tuple #[.int .u64 r.1, .int .u64 r.2] : Value) ∧ h'' = h) := by
  unfold F83
  refine bind_opt fun y4 e4 => ?_
  intro hr
  obtain rfl := Option.some.inj hr
  exact pFun_sound good tab_ok (f := 83) (its := [.g, .g, .g, .g, .g, .g, .g, .g, (.c (.int .u64 y4) h), .g, .g, .g]) (args := [.int .i64 x1, .agg #[.int .u64 x2, .int .u64 x3]]) (h := h) (h' := h) (v := .tuple #[.int .u64 x3, .int .u64 (IntKind.u64.wrap (((BitVec.ofInt 64 y4 &&& ~~~(BitVec.ofInt 64 x2))).toNat))]) (hC := (And.intro (show AKeep h h from (AHeap.sub_refl h)) (And.intro (F99_spec x1 h _ e4) trivial))) (hr := by kernel_rfl)
/-! 86 jacquard/jacquardref12.Bit -/
def F86__1 (x1 : Int) (x2 : Int) : Int := (IntKind.u64.wrap (((BitVec.ofInt 64 (x1.fdiv (2 ^ (min (x2).toNat 64))) &&& BitVec.ofInt 64 1)).toNat))
def F86 (x1 : Int) (x2 : Int) : Option (Int) :=
  (bif decide (x2 < 0) then none else
  some (IntKind.i64.wrap ((F86__1 x1 x2))))
set_option maxRecDepth 100000 in
theorem F86_spec (x1 : Int) (x2 : Int) (h : AHeap)  (r : Int) : F86 x1 x2 = some r → ACalls Try.prog 86 [.int .u64 x1, .int .i64 x2] h (fun v' h'' => v' = (.int .i64 r : Value) ∧ h'' = h) := by
  unfold F86
  refine guard_ok fun g3 => ?_
  intro hr
  obtain rfl := Option.some.inj hr
  exact pFun_sound good tab_ok (f := 86) (its := [.g, .g, .g, .s, .g, .g, .g]) (args := [.int .u64 x1, .int .i64 x2]) (h := h) (h' := h) (v := .int .i64 (IntKind.i64.wrap ((F86__1 x1 x2)))) (hC := (And.intro (nl g3) trivial)) (hr := by kernel_rfl)
/-! 103 jacquard/jacquardref12.Known -/
def F103 (x1 : Int) (x2 : Int) (x3 : Int) : Option (Int) :=
  (Option.bind (F86 x2 x3) fun y4 =>
  (bif (y4 == 1) then
   some (1)
  else
   (Option.bind (F86 x1 x3) fun y7 =>
   (bif (y7 == 1) then
    some (0)
   else
    some (-1)))))
set_option maxRecDepth 100000 in
theorem F103_spec (x1 : Int) (x2 : Int) (x3 : Int) (h : AHeap)  (r : Int) : F103 x1 x2 x3 = some r → ACalls Try.prog 103 [.agg #[.int .u64 x1, .int .u64 x2], .int .i64 x3] h (fun v' h'' => v' = (.int .i64 r : Value) ∧ h'' = h) := by
  unfold F103
  refine bind_opt fun y4 e4 => ?_
  refine dec_bif (fun c6 => ?_) (fun c6 => ?_)
  · intro hr
    obtain rfl := Option.some.inj hr
    exact pFun_sound good tab_ok (f := 103) (its := [.g, .g, .g, .g, .g, (.c (.int .i64 y4) h), .g, (.b true), .g]) (args := [.agg #[.int .u64 x1, .int .u64 x2], .int .i64 x3]) (h := h) (h' := h) (v := .int .i64 1) (hC := (And.intro c6 (And.intro (F86_spec x2 x3 h _ e4) trivial))) (hr := by kernel_rfl)
  · refine bind_opt fun y7 e7 => ?_
    refine dec_bif (fun c9 => ?_) (fun c9 => ?_)
    · intro hr
      obtain rfl := Option.some.inj hr
      exact pFun_sound good tab_ok (f := 103) (its := [.g, .g, .g, .g, .g, (.c (.int .i64 y4) h), .g, (.b false), .g, .g, .g, (.c (.int .i64 y7) h), .g, (.b true), .g]) (args := [.agg #[.int .u64 x1, .int .u64 x2], .int .i64 x3]) (h := h) (h' := h) (v := .int .i64 0) (hC := (And.intro c9 (And.intro (F86_spec x1 x3 h _ e7) (And.intro c6 (And.intro (F86_spec x2 x3 h _ e4) trivial))))) (hr := by kernel_rfl)
    · intro hr
      obtain rfl := Option.some.inj hr
      exact pFun_sound good tab_ok (f := 103) (its := [.g, .g, .g, .g, .g, (.c (.int .i64 y4) h), .g, (.b false), .g, .g, .g, (.c (.int .i64 y7) h), .g, (.b false), .g]) (args := [.agg #[.int .u64 x1, .int .u64 x2], .int .i64 x3]) (h := h) (h' := h) (v := .int .i64 (-1)) (hC := (And.intro c9 (And.intro (F86_spec x1 x3 h _ e7) (And.intro c6 (And.intro (F86_spec x2 x3 h _ e4) trivial))))) (hr := by kernel_rfl)
/-! 100 jacquard/jacquardref12.Signed -/
def F100__1 (x2 : Int) (y6 : Int) : Int := (IntKind.u64.wrap (((BitVec.ofInt 64 x2 ||| BitVec.ofInt 64 (IntKind.u64.wrap (((BitVec.ofInt 64 18446744073709551615 ^^^ BitVec.ofInt 64 y6)).toNat)))).toNat))
def F100 (x1 : Int) (x2 : Int) : Option (Int) :=
  (Option.bind (F86 x2 (IntKind.i64.wrap (x1 - 1))) fun y3 =>
  (bif (y3 == 1) then
   (Option.bind (F99 x1) fun y6 =>
   some (IntKind.i64.wrap ((F100__1 x2 y6))))
  else
   some (IntKind.i64.wrap (x2))))
set_option maxRecDepth 100000 in
theorem F100_spec (x1 : Int) (x2 : Int) (h : AHeap)  (r : Int) : F100 x1 x2 = some r → ACalls Try.prog 100 [.int .i64 x1, .int .u64 x2] h (fun v' h'' => v' = (.int .i64 r : Value) ∧ h'' = h) := by
  unfold F100
  refine bind_opt fun y3 e3 => ?_
  refine dec_bif (fun c5 => ?_) (fun c5 => ?_)
  · refine bind_opt fun y6 e6 => ?_
    intro hr
    obtain rfl := Option.some.inj hr
    exact pFun_sound good tab_ok (f := 100) (its := [.g, .g, .g, .g, (.c (.int .i64 y3) h), .g, (.b true), .g, .g, (.c (.int .u64 y6) h), .g, .g, .g, .g]) (args := [.int .i64 x1, .int .u64 x2]) (h := h) (h' := h) (v := .int .i64 (IntKind.i64.wrap ((F100__1 x2 y6)))) (hC := (And.intro (F99_spec x1 h _ e6) (And.intro c5 (And.intro (F86_spec x2 (IntKind.i64.wrap (x1 - 1)) h _ e3) trivial)))) (hr := by kernel_rfl)
  · intro hr
    obtain rfl := Option.some.inj hr
    exact pFun_sound good tab_ok (f := 100) (its := [.g, .g, .g, .g, (.c (.int .i64 y3) h), .g, (.b false), .g, .g, .g]) (args := [.int .i64 x1, .int .u64 x2]) (h := h) (h' := h) (v := .int .i64 (IntKind.i64.wrap (x2))) (hC := (And.intro c5 (And.intro (F86_spec x2 (IntKind.i64.wrap (x1 - 1)) h _ e3) trivial))) (hr := by kernel_rfl)
/-! 84 jacquard/jacquardref12.SignedLimits -/
def F84__1 (x1 : Int) (x3 : Int) : Int := (IntKind.u64.wrap (((BitVec.ofInt 64 x3 ||| BitVec.ofInt 64 (IntKind.u64.wrap (1 * 2 ^ (min ((IntKind.i64.wrap (x1 - 1))).toNat 64))))).toNat))
def F84__2 (x1 : Int) (x2 : Int) (y4 : Int) : Int := (IntKind.u64.wrap (((BitVec.ofInt 64 (IntKind.u64.wrap (((BitVec.ofInt 64 y4 &&& ~~~(BitVec.ofInt 64 x2))).toNat)) &&& ~~~(BitVec.ofInt 64 (IntKind.u64.wrap (1 * 2 ^ (min ((IntKind.i64.wrap (x1 - 1))).toNat 64)))))).toNat))
def F84 (x1 : Int) (x2 : Int) (x3 : Int) : Option (Int × Int) :=
  (Option.bind (F99 x1) fun y4 =>
  (Option.bind (F103 x2 x3 (IntKind.i64.wrap (x1 - 1))) fun y6 =>
  (bif decide (y6 < 0) then
   (bif decide ((IntKind.i64.wrap (x1 - 1)) < 0) then none else
   (Option.bind (F100 x1 (F84__1 x1 x3)) fun y10 =>
   (Option.bind (F100 x1 (F84__2 x1 x2 y4)) fun y12 =>
   some (y10, y12))))
  else
   (Option.bind (F100 x1 x3) fun y14 =>
   (Option.bind (F100 x1 (IntKind.u64.wrap (((BitVec.ofInt 64 y4 &&& ~~~(BitVec.ofInt 64 x2))).toNat))) fun y16 =>
   some (y14, y16))))))
set_option maxRecDepth 100000 in
theorem F84_spec (x1 : Int) (x2 : Int) (x3 : Int) (h : AHeap)  (r : Int × Int) : F84 x1 x2 x3 = some r → ACalls Try.prog 84 [.int .i64 x1, .agg #[.int .u64 x2, .int .u64 x3]] h (fun v' h'' => v' = (.tuple #[.int .i64 r.1, .int .i64 r.2] : Value) ∧ h'' = h) := by
  unfold F84
  refine bind_opt fun y4 e4 => ?_
  refine bind_opt fun y6 e6 => ?_
  refine dec_bif (fun c8 => ?_) (fun c8 => ?_)
  · refine guard_ok fun g9 => ?_
    refine bind_opt fun y10 e10 => ?_
    refine bind_opt fun y12 e12 => ?_
    intro hr
    obtain rfl := Option.some.inj hr
    exact pFun_sound good tab_ok (f := 84) (its := [.g, .g, .g, .g, .g, .g, .g, .g, .g, (.c (.int .u64 y4) h), .g, .g, .g, .g, .g, (.c (.int .i64 y6) h), .g, (.b true), .g, .g, .g, .s, .g, .g, .g, .g, .g, .s, .g, .g, .g, .g, (.c (.int .i64 y10) h), .g, .g, (.c (.int .i64 y12) h), .g, .g]) (args := [.int .i64 x1, .agg #[.int .u64 x2, .int .u64 x3]]) (h := h) (h' := h) (v := .tuple #[.int .i64 y10, .int .i64 y12]) (hC := (And.intro (F100_spec x1 (F84__2 x1 x2 y4) h _ e12) (And.intro (F100_spec x1 (F84__1 x1 x3) h _ e10) (And.intro (nl g9) (And.intro (nl g9) (And.intro c8 (And.intro (F103_spec x2 x3 (IntKind.i64.wrap (x1 - 1)) h _ e6) (And.intro (show AKeep h h from (AHeap.sub_refl h)) (And.intro (F99_spec x1 h _ e4) trivial))))))))) (hr := by kernel_rfl)
  · refine bind_opt fun y14 e14 => ?_
    refine bind_opt fun y16 e16 => ?_
    intro hr
    obtain rfl := Option.some.inj hr
    exact pFun_sound good tab_ok (f := 84) (its := [.g, .g, .g, .g, .g, .g, .g, .g, .g, (.c (.int .u64 y4) h), .g, .g, .g, .g, .g, (.c (.int .i64 y6) h), .g, (.b false), .g, .g, (.c (.int .i64 y14) h), .g, .g, (.c (.int .i64 y16) h), .g, .g]) (args := [.int .i64 x1, .agg #[.int .u64 x2, .int .u64 x3]]) (h := h) (h' := h) (v := .tuple #[.int .i64 y14, .int .i64 y16]) (hC := (And.intro (F100_spec x1 (IntKind.u64.wrap (((BitVec.ofInt 64 y4 &&& ~~~(BitVec.ofInt 64 x2))).toNat)) h _ e16) (And.intro (F100_spec x1 x3 h _ e14) (And.intro c8 (And.intro (F103_spec x2 x3 (IntKind.i64.wrap (x1 - 1)) h _ e6) (And.intro (show AKeep h h from (AHeap.sub_refl h)) (And.intro (F99_spec x1 h _ e4) trivial))))))) (hr := by kernel_rfl)
/-! 104 jacquard/jacquardref13.same -/
def F104 (x1 : Int) (x2 : Int) (x3 : Int) : Option (Int × Int × Int × Int × Bool) :=
  (bif decide (x2 > x3) then
   some (0, 0, 0, 0, false)
  else
   (Option.bind (F100 x1 x2) fun y5 =>
   (Option.bind (F100 x1 x3) fun y7 =>
   some (x2, x3, y5, y7, true))))
set_option maxRecDepth 100000 in
theorem F104_spec (x1 : Int) (x2 : Int) (x3 : Int) (h : AHeap)  (r : Int × Int × Int × Int × Bool) : F104 x1 x2 x3 = some r → ACalls Try.prog 104 [.int .i64 x1, .int .u64 x2, .int .u64 x3] h (fun v' h'' => v' = (.tuple #[.agg #[.int .u64 r.1, .int .u64 r.2.1, .int .i64 r.2.2.1, .int .i64 r.2.2.2.1], .bool r.2.2.2.2] : Value) ∧ h'' = h) := by
  unfold F104
  refine dec_bif (fun c4 => ?_) (fun c4 => ?_)
  · intro hr
    obtain rfl := Option.some.inj hr
    exact pFun_sound good tab_ok (f := 104) (its := [.g, .g, .g, .g, .g, (.b true), .g, .g, .g]) (args := [.int .i64 x1, .int .u64 x2, .int .u64 x3]) (h := h) (h' := h) (v := .tuple #[.agg #[.int .u64 0, .int .u64 0, .int .i64 0, .int .i64 0], .bool false]) (hC := (And.intro c4 trivial)) (hr := by kernel_rfl)
  · refine bind_opt fun y5 e5 => ?_
    refine bind_opt fun y7 e7 => ?_
    intro hr
    obtain rfl := Option.some.inj hr
    exact pFun_sound good tab_ok (f := 104) (its := [.g, .g, .g, .g, .g, (.b false), .g, .g, .g, .g, (.c (.int .i64 y5) h), .g, .g, (.c (.int .i64 y7) h), .g, .g, .g]) (args := [.int .i64 x1, .int .u64 x2, .int .u64 x3]) (h := h) (h' := h) (v := .tuple #[.agg #[.int .u64 x2, .int .u64 x3, .int .i64 y5, .int .i64 y7], .bool true]) (hC := (And.intro (F100_spec x1 x3 h _ e7) (And.intro (F100_spec x1 x2 h _ e5) (And.intro c4 trivial)))) (hr := by kernel_rfl)
/-! 85 jacquard/jacquardref13.Tighten -/
def F85__1 (x4 : Int) (y26 : Int) : Int := (IntKind.u64.wrap (((BitVec.ofInt 64 (IntKind.u64.wrap (x4)) &&& BitVec.ofInt 64 y26)).toNat))
def F85__2 (x2 : Int) (y9 : Int) : Int := (if (IntKind.u64.wrap ((IntKind.u64.wrap (y9)) + 1)) > x2 then (IntKind.u64.wrap ((IntKind.u64.wrap (y9)) + 1)) else x2)
def F85__3 (x5 : Int) (y29 : Int) : Int := (IntKind.u64.wrap (((BitVec.ofInt 64 (IntKind.u64.wrap (x5)) &&& BitVec.ofInt 64 y29)).toNat))
def F85__4 (x4 : Int) (y36 : Int) : Int := (IntKind.u64.wrap (((BitVec.ofInt 64 (IntKind.u64.wrap (x4)) &&& BitVec.ofInt 64 y36)).toNat))
def F85__5 (x5 : Int) (y38 : Int) : Int := (IntKind.u64.wrap (((BitVec.ofInt 64 (IntKind.u64.wrap (x5)) &&& BitVec.ofInt 64 y38)).toNat))
def F85 (x1 : Int) (x2 : Int) (x3 : Int) (x4 : Int) (x5 : Int) : Option (Int × Int × Int × Int × Bool) :=
  (Option.bind (F62 x1 x2 x3 x4 x5) fun y6 =>
  (bif (!y6) then
   some (0, 0, 0, 0, false)
  else
   (Option.bind (F97 x1) fun y9 =>
   (bif decide (x3 ≤ (IntKind.u64.wrap (y9))) then
    (bif decide (x5 < 0) then
     some (0, 0, 0, 0, false)
    else
     (bif decide (x4 > 0) then
      (Option.bind (F104 x1 (if (IntKind.u64.wrap (x4)) > x2 then (IntKind.u64.wrap (x4)) else x2) (if (IntKind.u64.wrap (x5)) < x3 then (IntKind.u64.wrap (x5)) else x3)) fun y14 =>
      some (y14.1, y14.2.1, y14.2.2.1, y14.2.2.2.1, y14.2.2.2.2))
     else
      (Option.bind (F104 x1 x2 (if (IntKind.u64.wrap (x5)) < x3 then (IntKind.u64.wrap (x5)) else x3)) fun y16 =>
      some (y16.1, y16.2.1, y16.2.2.1, y16.2.2.2.1, y16.2.2.2.2))))
   else
    (bif decide (x4 ≥ 0) then
     (bif decide (x5 < 0) then
      some (0, 0, 0, 0, false)
     else
      (bif decide (x4 > 0) then
       (Option.bind (F104 x1 (if (IntKind.u64.wrap (x4)) > x2 then (IntKind.u64.wrap (x4)) else x2) (if (IntKind.u64.wrap (x5)) < x3 then (IntKind.u64.wrap (x5)) else x3)) fun y21 =>
       some (y21.1, y21.2.1, y21.2.2.1, y21.2.2.2.1, y21.2.2.2.2))
      else
       (Option.bind (F104 x1 x2 (if (IntKind.u64.wrap (x5)) < x3 then (IntKind.u64.wrap (x5)) else x3)) fun y23 =>
       some (y23.1, y23.2.1, y23.2.2.1, y23.2.2.2.1, y23.2.2.2.2))))
    else
     (bif decide (x2 > (IntKind.u64.wrap (y9))) then
      (Option.bind (F95 x1) fun y26 =>
      (bif decide (x5 < 0) then
       (Option.bind (F95 x1) fun y29 =>
       (Option.bind (F104 x1 (if (F85__1 x4 y26) > (F85__2 x2 y9) then (F85__1 x4 y26) else (F85__2 x2 y9)) (if (F85__3 x5 y29) < x3 then (F85__3 x5 y29) else x3)) fun y31 =>
       some (y31.1, y31.2.1, y31.2.2.1, y31.2.2.2.1, y31.2.2.2.2)))
      else
       (Option.bind (F104 x1 (if (F85__1 x4 y26) > (F85__2 x2 y9) then (F85__1 x4 y26) else (F85__2 x2 y9)) x3) fun y33 =>
       some (y33.1, y33.2.1, y33.2.2.1, y33.2.2.2.1, y33.2.2.2.2))))
     else
      (bif decide (x5 < 0) then
       (Option.bind (F95 x1) fun y36 =>
       (Option.bind (F95 x1) fun y38 =>
       (Option.bind (F104 x1 (if (F85__4 x4 y36) > (F85__2 x2 y9) then (F85__4 x4 y36) else (F85__2 x2 y9)) (if (F85__5 x5 y38) < x3 then (F85__5 x5 y38) else x3)) fun y40 =>
       some (y40.1, y40.2.1, y40.2.2.1, y40.2.2.2.1, y40.2.2.2.2))))
      else
       some (x2, x3, x4, x5, true))))))))
set_option maxRecDepth 100000 in
theorem F85_spec (x1 : Int) (x2 : Int) (x3 : Int) (x4 : Int) (x5 : Int) (h : AHeap)  (r : Int × Int × Int × Int × Bool) : F85 x1 x2 x3 x4 x5 = some r → ACalls Try.prog 85 [.int .i64 x1, .agg #[.int .u64 x2, .int .u64 x3, .int .i64 x4, .int .i64 x5]] h (fun v' h'' => v' = (.tuple #[.agg #[.int .u64 r.1, .int .u64 r.2.1, .int .i64 r.2.2.1, .int .i64 r.2.2.2.1], .bool r.2.2.2.2] : Value) ∧ h'' = h) := by
  unfold F85
  refine bind_opt fun y6 e6 => ?_
  refine dec_bif (fun c8 => ?_) (fun c8 => ?_)
  · intro hr
    obtain rfl := Option.some.inj hr
    exact pFun_sound good tab_ok (f := 85) (its := [.g, .g, .g, .g, .g, (.c (.bool y6) h), .g, (.b true), .g, .g, .g]) (args := [.int .i64 x1, .agg #[.int .u64 x2, .int .u64 x3, .int .i64 x4, .int .i64 x5]]) (h := h) (h' := h) (v := .tuple #[.agg #[.int .u64 0, .int .u64 0, .int .i64 0, .int .i64 0], .bool false]) (hC := (And.intro c8 (And.intro (F62_spec x1 x2 x3 x4 x5 h _ e6) trivial))) (hr := by kernel_rfl)
  · refine bind_opt fun y9 e9 => ?_
    refine dec_bif (fun c11 => ?_) (fun c11 => ?_)
    · refine dec_bif (fun c12 => ?_) (fun c12 => ?_)
      · intro hr
        obtain rfl := Option.some.inj hr
        exact pFun_sound good tab_ok (f := 85) (its := [.g, .g, .g, .g, .g, (.c (.bool y6) h), .g, (.b false), .g, (.c (.int .i64 y9) h), .g, .g, .g, .g, .g, .g, .g, .n, .n, .n, (.p true), (.b true), .g, .g, .g, (.b true), .g, .g, .g]) (args := [.int .i64 x1, .agg #[.int .u64 x2, .int .u64 x3, .int .i64 x4, .int .i64 x5]]) (h := h) (h' := h) (v := .tuple #[.agg #[.int .u64 0, .int .u64 0, .int .i64 0, .int .i64 0], .bool false]) (hC := (And.intro c12 (And.intro l_t (And.intro c11 (And.intro (g_tf c11) (And.intro (g_tf c11) (And.intro (g_tf c11) (And.intro (F97_spec x1 h _ e9) (And.intro c8 (And.intro (F62_spec x1 x2 x3 x4 x5 h _ e6) trivial)))))))))) (hr := by kernel_rfl)
      · refine dec_bif (fun c13 => ?_) (fun c13 => ?_)
        · refine bind_opt fun y14 e14 => ?_
          intro hr
          obtain rfl := Option.some.inj hr
          exact pFun_sound good tab_ok (f := 85) (its := [.g, .g, .g, .g, .g, (.c (.bool y6) h), .g, (.b false), .g, (.c (.int .i64 y9) h), .g, .g, .g, .g, .g, .g, .g, .n, .n, .n, (.p true), (.b true), .g, .g, .g, (.b false), .g, .g, .g, .g, .g, .g, (.b true), .g, .g, .g, .g, .g, .g, .g, .g, .g, .g, .g, .g, .g, .g, (.c (.tuple #[.agg #[.int .u64 y14.1, .int .u64 y14.2.1, .int .i64 y14.2.2.1, .int .i64 y14.2.2.2.1], .bool y14.2.2.2.2]) h), .g, .g, .g, .g]) (args := [.int .i64 x1, .agg #[.int .u64 x2, .int .u64 x3, .int .i64 x4, .int .i64 x5]]) (h := h) (h' := h) (v := .tuple #[.agg #[.int .u64 y14.1, .int .u64 y14.2.1, .int .i64 y14.2.2.1, .int .i64 y14.2.2.2.1], .bool y14.2.2.2.2]) (hC := (And.intro (F104_spec x1 (if (IntKind.u64.wrap (x4)) > x2 then (IntKind.u64.wrap (x4)) else x2) (if (IntKind.u64.wrap (x5)) < x3 then (IntKind.u64.wrap (x5)) else x3) h _ e14) (And.intro c13 (And.intro c12 (And.intro l_t (And.intro c11 (And.intro (g_tf c11) (And.intro (g_tf c11) (And.intro (g_tf c11) (And.intro (F97_spec x1 h _ e9) (And.intro c8 (And.intro (F62_spec x1 x2 x3 x4 x5 h _ e6) trivial)))))))))))) (hr := by kernel_rfl)
        · refine bind_opt fun y16 e16 => ?_
          intro hr
          obtain rfl := Option.some.inj hr
          exact pFun_sound good tab_ok (f := 85) (its := [.g, .g, .g, .g, .g, (.c (.bool y6) h), .g, (.b false), .g, (.c (.int .i64 y9) h), .g, .g, .g, .g, .g, .g, .g, .n, .n, .n, (.p true), (.b true), .g, .g, .g, (.b false), .g, .g, .g, .g, .g, .g, (.b false), .g, .g, .g, .g, .g, .g, .g, .g, (.c (.tuple #[.agg #[.int .u64 y16.1, .int .u64 y16.2.1, .int .i64 y16.2.2.1, .int .i64 y16.2.2.2.1], .bool y16.2.2.2.2]) h), .g, .g, .g, .g]) (args := [.int .i64 x1, .agg #[.int .u64 x2, .int .u64 x3, .int .i64 x4, .int .i64 x5]]) (h := h) (h' := h) (v := .tuple #[.agg #[.int .u64 y16.1, .int .u64 y16.2.1, .int .i64 y16.2.2.1, .int .i64 y16.2.2.2.1], .bool y16.2.2.2.2]) (hC := (And.intro (F104_spec x1 x2 (if (IntKind.u64.wrap (x5)) < x3 then (IntKind.u64.wrap (x5)) else x3) h _ e16) (And.intro c13 (And.intro c12 (And.intro l_t (And.intro c11 (And.intro (g_tf c11) (And.intro (g_tf c11) (And.intro (g_tf c11) (And.intro (F97_spec x1 h _ e9) (And.intro c8 (And.intro (F62_spec x1 x2 x3 x4 x5 h _ e6) trivial)))))))))))) (hr := by kernel_rfl)
    · refine dec_bif (fun c18 => ?_) (fun c18 => ?_)
      · refine dec_bif (fun c19 => ?_) (fun c19 => ?_)
        · intro hr
          obtain rfl := Option.some.inj hr
          exact pFun_sound good tab_ok (f := 85) (its := [.g, .g, .g, .g, .g, (.c (.bool y6) h), .g, (.b false), .g, (.c (.int .i64 y9) h), .g, .g, .g, .g, .g, .g, .g, (.w .g), (.w .g), (.w .g), (.p false), (.b true), .g, .g, .g, (.b true), .g, .g, .g]) (args := [.int .i64 x1, .agg #[.int .u64 x2, .int .u64 x3, .int .i64 x4, .int .i64 x5]]) (h := h) (h' := h) (v := .tuple #[.agg #[.int .u64 0, .int .u64 0, .int .i64 0, .int .i64 0], .bool false]) (hC := (And.intro c19 (And.intro c18 (And.intro c11 (And.intro (g_ff c11) (And.intro (g_ff c11) (And.intro (g_ff c11) (And.intro (F97_spec x1 h _ e9) (And.intro c8 (And.intro (F62_spec x1 x2 x3 x4 x5 h _ e6) trivial)))))))))) (hr := by kernel_rfl)
        · refine dec_bif (fun c20 => ?_) (fun c20 => ?_)
          · refine bind_opt fun y21 e21 => ?_
            intro hr
            obtain rfl := Option.some.inj hr
            exact pFun_sound good tab_ok (f := 85) (its := [.g, .g, .g, .g, .g, (.c (.bool y6) h), .g, (.b false), .g, (.c (.int .i64 y9) h), .g, .g, .g, .g, .g, .g, .g, (.w .g), (.w .g), (.w .g), (.p false), (.b true), .g, .g, .g, (.b false), .g, .g, .g, .g, .g, .g, (.b true), .g, .g, .g, .g, .g, .g, .g, .g, .g, .g, .g, .g, .g, .g, (.c (.tuple #[.agg #[.int .u64 y21.1, .int .u64 y21.2.1, .int .i64 y21.2.2.1, .int .i64 y21.2.2.2.1], .bool y21.2.2.2.2]) h), .g, .g, .g, .g]) (args := [.int .i64 x1, .agg #[.int .u64 x2, .int .u64 x3, .int .i64 x4, .int .i64 x5]]) (h := h) (h' := h) (v := .tuple #[.agg #[.int .u64 y21.1, .int .u64 y21.2.1, .int .i64 y21.2.2.1, .int .i64 y21.2.2.2.1], .bool y21.2.2.2.2]) (hC := (And.intro (F104_spec x1 (if (IntKind.u64.wrap (x4)) > x2 then (IntKind.u64.wrap (x4)) else x2) (if (IntKind.u64.wrap (x5)) < x3 then (IntKind.u64.wrap (x5)) else x3) h _ e21) (And.intro c20 (And.intro c19 (And.intro c18 (And.intro c11 (And.intro (g_ff c11) (And.intro (g_ff c11) (And.intro (g_ff c11) (And.intro (F97_spec x1 h _ e9) (And.intro c8 (And.intro (F62_spec x1 x2 x3 x4 x5 h _ e6) trivial)))))))))))) (hr := by kernel_rfl)
          · refine bind_opt fun y23 e23 => ?_
            intro hr
            obtain rfl := Option.some.inj hr
            exact pFun_sound good tab_ok (f := 85) (its := [.g, .g, .g, .g, .g, (.c (.bool y6) h), .g, (.b false), .g, (.c (.int .i64 y9) h), .g, .g, .g, .g, .g, .g, .g, (.w .g), (.w .g), (.w .g), (.p false), (.b true), .g, .g, .g, (.b false), .g, .g, .g, .g, .g, .g, (.b false), .g, .g, .g, .g, .g, .g, .g, .g, (.c (.tuple #[.agg #[.int .u64 y23.1, .int .u64 y23.2.1, .int .i64 y23.2.2.1, .int .i64 y23.2.2.2.1], .bool y23.2.2.2.2]) h), .g, .g, .g, .g]) (args := [.int .i64 x1, .agg #[.int .u64 x2, .int .u64 x3, .int .i64 x4, .int .i64 x5]]) (h := h) (h' := h) (v := .tuple #[.agg #[.int .u64 y23.1, .int .u64 y23.2.1, .int .i64 y23.2.2.1, .int .i64 y23.2.2.2.1], .bool y23.2.2.2.2]) (hC := (And.intro (F104_spec x1 x2 (if (IntKind.u64.wrap (x5)) < x3 then (IntKind.u64.wrap (x5)) else x3) h _ e23) (And.intro c20 (And.intro c19 (And.intro c18 (And.intro c11 (And.intro (g_ff c11) (And.intro (g_ff c11) (And.intro (g_ff c11) (And.intro (F97_spec x1 h _ e9) (And.intro c8 (And.intro (F62_spec x1 x2 x3 x4 x5 h _ e6) trivial)))))))))))) (hr := by kernel_rfl)
      · refine dec_bif (fun c25 => ?_) (fun c25 => ?_)
        · refine bind_opt fun y26 e26 => ?_
          refine dec_bif (fun c28 => ?_) (fun c28 => ?_)
          · refine bind_opt fun y29 e29 => ?_
            refine bind_opt fun y31 e31 => ?_
            intro hr
            obtain rfl := Option.some.inj hr
            exact pFun_sound good tab_ok (f := 85) (its := [.g, .g, .g, .g, .g, (.c (.bool y6) h), .g, (.b false), .g, (.c (.int .i64 y9) h), .g, .g, .g, .g, .g, .g, .g, (.w .g), (.w .g), (.w .g), (.p false), (.b false), .g, .g, .g, .g, .g, .n, .n, .n, (.p true), (.b true), .g, .g, .g, .g, .g, .g, .g, .g, (.c (.int .u64 y26) h), .g, .g, .g, .g, .g, .g, .g, .g, .g, (.b true), .g, .g, .g, .g, .g, (.c (.int .u64 y29) h), .g, .g, .g, .g, .g, .g, (.c (.tuple #[.agg #[.int .u64 y31.1, .int .u64 y31.2.1, .int .i64 y31.2.2.1, .int .i64 y31.2.2.2.1], .bool y31.2.2.2.2]) h), .g, .g, .g, .g]) (args := [.int .i64 x1, .agg #[.int .u64 x2, .int .u64 x3, .int .i64 x4, .int .i64 x5]]) (h := h) (h' := h) (v := .tuple #[.agg #[.int .u64 y31.1, .int .u64 y31.2.1, .int .i64 y31.2.2.1, .int .i64 y31.2.2.2.1], .bool y31.2.2.2.2]) (hC := (And.intro (F104_spec x1 (if (F85__1 x4 y26) > (F85__2 x2 y9) then (F85__1 x4 y26) else (F85__2 x2 y9)) (if (F85__3 x5 y29) < x3 then (F85__3 x5 y29) else x3) h _ e31) (And.intro (show AKeep h h from (AHeap.sub_refl h)) (And.intro (F95_spec x1 h _ e29) (And.intro c28 (And.intro (show AKeep h h from (AHeap.sub_refl h)) (And.intro (F95_spec x1 h _ e26) (And.intro l_t (And.intro c25 (And.intro (g_tf c25) (And.intro (g_tf c25) (And.intro (g_tf c25) (And.intro c18 (And.intro c11 (And.intro (g_ff c11) (And.intro (g_ff c11) (And.intro (g_ff c11) (And.intro (F97_spec x1 h _ e9) (And.intro c8 (And.intro (F62_spec x1 x2 x3 x4 x5 h _ e6) trivial)))))))))))))))))))) (hr := by kernel_rfl)
          · refine bind_opt fun y33 e33 => ?_
            intro hr
            obtain rfl := Option.some.inj hr
            exact pFun_sound good tab_ok (f := 85) (its := [.g, .g, .g, .g, .g, (.c (.bool y6) h), .g, (.b false), .g, (.c (.int .i64 y9) h), .g, .g, .g, .g, .g, .g, .g, (.w .g), (.w .g), (.w .g), (.p false), (.b false), .g, .g, .g, .g, .g, .n, .n, .n, (.p true), (.b true), .g, .g, .g, .g, .g, .g, .g, .g, (.c (.int .u64 y26) h), .g, .g, .g, .g, .g, .g, .g, .g, .g, (.b false), .g, .g, .g, (.c (.tuple #[.agg #[.int .u64 y33.1, .int .u64 y33.2.1, .int .i64 y33.2.2.1, .int .i64 y33.2.2.2.1], .bool y33.2.2.2.2]) h), .g, .g, .g, .g]) (args := [.int .i64 x1, .agg #[.int .u64 x2, .int .u64 x3, .int .i64 x4, .int .i64 x5]]) (h := h) (h' := h) (v := .tuple #[.agg #[.int .u64 y33.1, .int .u64 y33.2.1, .int .i64 y33.2.2.1, .int .i64 y33.2.2.2.1], .bool y33.2.2.2.2]) (hC := (And.intro (F104_spec x1 (if (F85__1 x4 y26) > (F85__2 x2 y9) then (F85__1 x4 y26) else (F85__2 x2 y9)) x3 h _ e33) (And.intro c28 (And.intro (show AKeep h h from (AHeap.sub_refl h)) (And.intro (F95_spec x1 h _ e26) (And.intro l_t (And.intro c25 (And.intro (g_tf c25) (And.intro (g_tf c25) (And.intro (g_tf c25) (And.intro c18 (And.intro c11 (And.intro (g_ff c11) (And.intro (g_ff c11) (And.intro (g_ff c11) (And.intro (F97_spec x1 h _ e9) (And.intro c8 (And.intro (F62_spec x1 x2 x3 x4 x5 h _ e6) trivial)))))))))))))))))) (hr := by kernel_rfl)
        · refine dec_bif (fun c35 => ?_) (fun c35 => ?_)
          · refine bind_opt fun y36 e36 => ?_
            refine bind_opt fun y38 e38 => ?_
            refine bind_opt fun y40 e40 => ?_
            intro hr
            obtain rfl := Option.some.inj hr
            exact pFun_sound good tab_ok (f := 85) (its := [.g, .g, .g, .g, .g, (.c (.bool y6) h), .g, (.b false), .g, (.c (.int .i64 y9) h), .g, .g, .g, .g, .g, .g, .g, (.w .g), (.w .g), (.w .g), (.p false), (.b false), .g, .g, .g, .g, .g, (.w .g), (.w .g), (.w .g), (.p false), (.b true), .g, .g, .g, .g, .g, .g, .g, .g, (.c (.int .u64 y36) h), .g, .g, .g, .g, .g, .g, .g, .g, .g, (.b true), .g, .g, .g, .g, .g, (.c (.int .u64 y38) h), .g, .g, .g, .g, .g, .g, (.c (.tuple #[.agg #[.int .u64 y40.1, .int .u64 y40.2.1, .int .i64 y40.2.2.1, .int .i64 y40.2.2.2.1], .bool y40.2.2.2.2]) h), .g, .g, .g, .g]) (args := [.int .i64 x1, .agg #[.int .u64 x2, .int .u64 x3, .int .i64 x4, .int .i64 x5]]) (h := h) (h' := h) (v := .tuple #[.agg #[.int .u64 y40.1, .int .u64 y40.2.1, .int .i64 y40.2.2.1, .int .i64 y40.2.2.2.1], .bool y40.2.2.2.2]) (hC := (And.intro (F104_spec x1 (if (F85__4 x4 y36) > (F85__2 x2 y9) then (F85__4 x4 y36) else (F85__2 x2 y9)) (if (F85__5 x5 y38) < x3 then (F85__5 x5 y38) else x3) h _ e40) (And.intro (show AKeep h h from (AHeap.sub_refl h)) (And.intro (F95_spec x1 h _ e38) (And.intro c35 (And.intro (show AKeep h h from (AHeap.sub_refl h)) (And.intro (F95_spec x1 h _ e36) (And.intro c35 (And.intro c25 (And.intro (g_ff c25) (And.intro (g_ff c25) (And.intro (g_ff c25) (And.intro c18 (And.intro c11 (And.intro (g_ff c11) (And.intro (g_ff c11) (And.intro (g_ff c11) (And.intro (F97_spec x1 h _ e9) (And.intro c8 (And.intro (F62_spec x1 x2 x3 x4 x5 h _ e6) trivial)))))))))))))))))))) (hr := by kernel_rfl)
          · intro hr
            obtain rfl := Option.some.inj hr
            exact pFun_sound good tab_ok (f := 85) (its := [.g, .g, .g, .g, .g, (.c (.bool y6) h), .g, (.b false), .g, (.c (.int .i64 y9) h), .g, .g, .g, .g, .g, .g, .g, (.w .g), (.w .g), (.w .g), (.p false), (.b false), .g, .g, .g, .g, .g, (.w .g), (.w .g), (.w .g), (.p false), (.b false), .g, .g, .g]) (args := [.int .i64 x1, .agg #[.int .u64 x2, .int .u64 x3, .int .i64 x4, .int .i64 x5]]) (h := h) (h' := h) (v := .tuple #[.agg #[.int .u64 x2, .int .u64 x3, .int .i64 x4, .int .i64 x5], .bool true]) (hC := (And.intro c35 (And.intro c25 (And.intro (g_ff c25) (And.intro (g_ff c25) (And.intro (g_ff c25) (And.intro c18 (And.intro c11 (And.intro (g_ff c11) (And.intro (g_ff c11) (And.intro (g_ff c11) (And.intro (F97_spec x1 h _ e9) (And.intro c8 (And.intro (F62_spec x1 x2 x3 x4 x5 h _ e6) trivial)))))))))))))) (hr := by kernel_rfl)
/-! 50 jacquard/jacquardref14.fact -/
def F50 (x1 : Int) (x2 : Int) (x3 : Int) (x4 : Int) (x5 : Int) (x6 : Int) : Int × Int × Int × Int × Int × Int :=
  (x1, x2, x3, x4, x5, x6)
set_option maxRecDepth 100000 in
theorem F50_spec (x1 : Int) (x2 : Int) (x3 : Int) (x4 : Int) (x5 : Int) (x6 : Int) (h : AHeap)  (r : Int × Int × Int × Int × Int × Int) : F50 x1 x2 x3 x4 x5 x6 = r → ACalls Try.prog 50 [.agg #[.int .u64 x1, .int .u64 x2], .agg #[.int .u64 x3, .int .u64 x4, .int .i64 x5, .int .i64 x6]] h (fun v' h'' => v' = (.agg #[.int .u64 r.1, .int .u64 r.2.1, .int .u64 r.2.2.1, .int .u64 r.2.2.2.1, .int .i64 r.2.2.2.2.1, .int .i64 r.2.2.2.2.2] : Value) ∧ h'' = h) := by
  unfold F50
  intro hr
  subst hr
  exact pFun_sound good tab_ok (f := 50) (its := [.g, .g, .g, .g, .g, .g, .g, .g, .g, .g, .g, .g, .g, .g, .g, .g, .g]) (args := [.agg #[.int .u64 x1, .int .u64 x2], .agg #[.int .u64 x3, .int .u64 x4, .int .i64 x5, .int .i64 x6]]) (h := h) (h' := h) (v := .agg #[.int .u64 x1, .int .u64 x2, .int .u64 x3, .int .u64 x4, .int .i64 x5, .int .i64 x6]) (hC := trivial) (hr := by kernel_rfl)
/-! 33 jacquard/jacquardref14.Tighten -/
def F33_L : List Nat := [3, 4, 6, 11, 12, 14]
def F33_D : List (Nat × List (Nat × Nat)) := [(12, [(0, 2), (1, 2), (2, 2), (3, 2), (4, 2), (5, 2), (7, 2), (9, 2), (8, 3), (6, 1), (10, 1), (11, 2), (12, 2)]), (15, [(0, 2), (1, 2), (2, 2), (3, 2), (4, 2), (5, 2), (6, 0)]), (16, [(0, 2), (1, 2), (2, 2), (3, 2), (4, 2), (5, 2), (6, 0)])]
def F33__1 (a21 : Int) (a23 : Int) : Int := (IntKind.u64.wrap (((BitVec.ofInt 64 a23 ||| BitVec.ofInt 64 (IntKind.u64.wrap (1 * 2 ^ (min (a21).toNat 64))))).toNat))
def F33__2 (a21 : Int) (a22 : Int) : Int := (IntKind.u64.wrap (((BitVec.ofInt 64 a22 ||| BitVec.ofInt 64 (IntKind.u64.wrap (1 * 2 ^ (min (a21).toNat 64))))).toNat))
def F33_m1_1 : List Bool := [true, true, true, true, false, true, false, true, true, true, true, true, false, true, false, true, true, true, true, true, true, true, true, true, true, true, true, true, true, true, true, true, true, true, true, true, true, true, true, true, true, true, true, true, true, true, true, true, true, true, true, true, true, true, true, true, true, true, true, true, true, true, true, true, true, true, true, true, true, true, true, true, true, true, true, true, true, true, true, true, true, true, true, true, true, true, true, true, true, true, true, true, true, true, true, true, true, true, true, true, true, true, true, true, true, true, true]
def F33_m1_0 : List Bool := [true, true, true, true, false, true, false, true, true, true, true, true, false, true, false, false, true, true, true, true, true, true, true, true, true, true, true, true, true, true, true, true, true, true, true, true, true, true, true, true, true, true, true, true, true, true, true, true, true, true, true, true, true, true, true, true, true, true, true, true, true, true, true, true, true, true, true, true, true, true, true, true, true, true, true, true, true, true, true, true, true, true, true, true, true, true, true, true, true, true, true, true, true, true, true, true, true, true, true, true, true, true, true, true, true, true, true]
def F33_s1 (y17 : Int × Int × Int × Int × Bool) (a21 : Int) (a22 : Int) (a23 : Int) : Option ((Int × Int × Int) ⊕ (Int × Int)) :=
  (bif decide (a21 ≥ 0) then
   (Option.bind (F86 y17.1 a21) fun y25 =>
   (Option.bind (F86 y17.2.1 a21) fun y27 =>
   (bif (y25 == y27) then
    (Option.bind (F86 y17.1 a21) fun y30 =>
    (bif (y30 == 1) then
     some (.inl ((IntKind.i64.wrap (a21 - 1)), a22, (F33__1 a21 a23)))
    else
     some (.inl ((IntKind.i64.wrap (a21 - 1)), (F33__2 a21 a22), a23))))
   else
    some (.inr (a22, a23)))))
  else
   some (.inr (a22, a23)))
def F33_h1 (h : AHeap) (y17 : Int × Int × Int × Int × Bool)  (a21 : Int) (a22 : Int) (a23 : Int) : AS := ⟨[junk, junk, junk, junk, .pointer (some ⟨4, 0, none⟩), junk, .pointer (some ⟨6, 0, none⟩), junk, junk, junk, junk, junk, .pointer (some ⟨12, 0, none⟩), junk, .pointer (some ⟨14, 0, none⟩), .int .i64 a21, junk, junk, junk, junk, junk, junk, junk, junk, junk, junk, junk, junk, junk, junk, junk, junk, junk, junk, junk, junk, junk, junk, junk, junk, junk, junk, junk, junk, junk, junk, junk, junk, junk, junk, junk, junk, junk, junk, junk, junk, junk, junk, junk, junk, junk, junk, junk, junk, junk, junk, junk, junk, junk, junk, junk, junk, junk, junk, junk, junk, junk, junk, junk, junk, junk, junk, junk, junk, junk, junk, junk, junk, junk, junk, junk, junk, junk, junk, junk, junk, junk, junk, junk, junk, junk, junk, junk, junk, junk, junk, junk], [(4, [.int .u64 0, .int .u64 0, .int .u64 0, .int .u64 0, .int .i64 0, .int .i64 0]), (6, [.int .u64 0, .int .u64 0, .int .u64 0, .int .u64 0, .int .i64 0, .int .i64 0]), (12, [.int .u64 y17.1, .int .u64 y17.2.1, .int .i64 y17.2.2.1, .int .i64 y17.2.2.2.1]), (14, [.int .u64 a22, .int .u64 a23])], h⟩
theorem F33_d1 : drawsOk F33_D (codeOf Try.prog 33 [1, 1, 1, 1, 1, 1, 1, 1, 1, 0, 1, 0, 0]) = true := by kernel_rfl
def F33_x1_0 (h : AHeap) (y17 : Int × Int × Int × Int × Bool)  (r : Int × Int) : AS := ⟨[junk, junk, junk, junk, .pointer (some ⟨4, 0, none⟩), junk, .pointer (some ⟨6, 0, none⟩), junk, junk, junk, junk, junk, .pointer (some ⟨12, 0, none⟩), junk, .pointer (some ⟨14, 0, none⟩), junk, junk, junk, junk, junk, junk, junk, junk, junk, junk, junk, junk, junk, junk, junk, junk, junk, junk, junk, junk, junk, junk, junk, junk, junk, junk, junk, junk, junk, junk, junk, junk, junk, junk, junk, junk, junk, junk, junk, junk, junk, junk, junk, junk, junk, junk, junk, junk, junk, junk, junk, junk, junk, junk, junk, junk, junk, junk, junk, junk, junk, junk, junk, junk, junk, junk, junk, junk, junk, junk, junk, junk, junk, junk, junk, junk, junk, junk, junk, junk, junk, junk, junk, junk, junk, junk, junk, junk, junk, junk, junk, junk], [(4, [.int .u64 0, .int .u64 0, .int .u64 0, .int .u64 0, .int .i64 0, .int .i64 0]), (6, [.int .u64 0, .int .u64 0, .int .u64 0, .int .u64 0, .int .i64 0, .int .i64 0]), (12, [.int .u64 y17.1, .int .u64 y17.2.1, .int .i64 y17.2.2.1, .int .i64 y17.2.2.2.1]), (14, [.int .u64 r.1, .int .u64 r.2])], h⟩
def F33_x1 (h : AHeap) (y17 : Int × Int × Int × Int × Bool) (r : Int × Int) : Exit × AS := ((.exit 0), (F33_x1_0 h y17 r))
set_option maxRecDepth 100000 in
theorem F33_r1 (h : AHeap) (y17 : Int × Int × Int × Int × Bool) (a21 : Int) (a22 : Int) (a23 : Int) (o : (Int × Int × Int) ⊕ (Int × Int)) : F33_s1 y17 a21 a22 a23 = some o → RdF Try.prog (codeOf Try.prog 33 [1, 1, 1, 1, 1, 1, 1, 1, 1, 0, 1, 0, 0]) (fun (s : Int × Int × Int) => (F33_h1 h y17 s.1 s.2.1 s.2.2)) (F33_x1 h y17) (F33_h1 h y17 a21 a22 a23) o := by
  unfold F33_s1
  refine dec_bif (fun c24 => ?_) (fun c24 => ?_)
  · refine bind_opt fun y25 e25 => ?_
    refine bind_opt fun y27 e27 => ?_
    refine dec_bif (fun c29 => ?_) (fun c29 => ?_)
    · refine bind_opt fun y30 e30 => ?_
      refine dec_bif (fun c32 => ?_) (fun c32 => ?_)
      · intro hr
        obtain rfl := Option.some.inj hr
        show AWp Try.prog _ (Ends1 .normal (F33_h1 h y17 (IntKind.i64.wrap (a21 - 1)) a22 (F33__1 a21 a23))) _
        exact pEnd_sound good (L := F33_L) (D := F33_D) (its := [.g, .g, .g, (.w .g), (.w .g), (.w .g), (.w .g), (.w .g), (.w .g), (.w (.c (.int .i64 y25) h)), (.w (.c (.int .i64 y27) h)), (.w .g), (.p true), (.b true), .g, .g, .g, (.c (.int .i64 y30) h), .g, (.b true), .g, .g, .g, .s, .g, .g, .g, .g, .g, .g]) (ds := F33_m1_0) (ks := []) (e := .normal) (s2 := (F33_h1 h y17 (IntKind.i64.wrap (a21 - 1)) a22 (F33__1 a21 a23))) (hC := (And.intro (nl2 c24) (And.intro c32 (And.intro (F86_spec y17.1 a21 h _ e30) (And.intro c29 (And.intro c24 (And.intro (g_tt c24) (And.intro (show AKeep h h from (AHeap.sub_refl h)) (And.intro (F86_spec y17.2.1 a21 h _ e27) (And.intro (g_tt c24) (And.intro (show AKeep h h from (AHeap.sub_refl h)) (And.intro (F86_spec y17.1 a21 h _ e25) (And.intro (g_tt c24) (And.intro (g_tt c24) (And.intro (g_tt c24) (And.intro (g_tt c24) (And.intro (g_tt c24) (And.intro (g_tt c24) (And.intro (g_tt c24) trivial))))))))))))))))))) (hd := F33_d1) (h := by kernel_rfl)
      · intro hr
        obtain rfl := Option.some.inj hr
        show AWp Try.prog _ (Ends1 .normal (F33_h1 h y17 (IntKind.i64.wrap (a21 - 1)) (F33__2 a21 a22) a23)) _
        exact pEnd_sound good (L := F33_L) (D := F33_D) (its := [.g, .g, .g, (.w .g), (.w .g), (.w .g), (.w .g), (.w .g), (.w .g), (.w (.c (.int .i64 y25) h)), (.w (.c (.int .i64 y27) h)), (.w .g), (.p true), (.b true), .g, .g, .g, (.c (.int .i64 y30) h), .g, (.b false), .g, .g, .g, .s, .g, .g, .g, .g, .g, .g]) (ds := F33_m1_0) (ks := []) (e := .normal) (s2 := (F33_h1 h y17 (IntKind.i64.wrap (a21 - 1)) (F33__2 a21 a22) a23)) (hC := (And.intro (nl2 c24) (And.intro c32 (And.intro (F86_spec y17.1 a21 h _ e30) (And.intro c29 (And.intro c24 (And.intro (g_tt c24) (And.intro (show AKeep h h from (AHeap.sub_refl h)) (And.intro (F86_spec y17.2.1 a21 h _ e27) (And.intro (g_tt c24) (And.intro (show AKeep h h from (AHeap.sub_refl h)) (And.intro (F86_spec y17.1 a21 h _ e25) (And.intro (g_tt c24) (And.intro (g_tt c24) (And.intro (g_tt c24) (And.intro (g_tt c24) (And.intro (g_tt c24) (And.intro (g_tt c24) (And.intro (g_tt c24) trivial))))))))))))))))))) (hd := F33_d1) (h := by kernel_rfl)
    · intro hr
      obtain rfl := Option.some.inj hr
      show AWp Try.prog _ (Ends1 ((F33_x1 h y17) ((a22, a23) : Int × Int)).1 ((F33_x1 h y17) ((a22, a23) : Int × Int)).2) _
      exact pEnd_sound good (L := F33_L) (D := F33_D) (its := [.g, .g, .g, (.w .g), (.w .g), (.w .g), (.w .g), (.w .g), (.w .g), (.w (.c (.int .i64 y25) h)), (.w (.c (.int .i64 y27) h)), (.w .g), (.p true), (.b false)]) (ds := F33_m1_1) (ks := []) (e := ((F33_x1 h y17) ((a22, a23) : Int × Int)).1) (s2 := ((F33_x1 h y17) ((a22, a23) : Int × Int)).2) (hC := (And.intro c29 (And.intro c24 (And.intro (g_tt c24) (And.intro (show AKeep h h from (AHeap.sub_refl h)) (And.intro (F86_spec y17.2.1 a21 h _ e27) (And.intro (g_tt c24) (And.intro (show AKeep h h from (AHeap.sub_refl h)) (And.intro (F86_spec y17.1 a21 h _ e25) (And.intro (g_tt c24) (And.intro (g_tt c24) (And.intro (g_tt c24) (And.intro (g_tt c24) (And.intro (g_tt c24) (And.intro (g_tt c24) (And.intro (g_tt c24) trivial)))))))))))))))) (hd := F33_d1) (h := by kernel_rfl)
  · intro hr
    obtain rfl := Option.some.inj hr
    show AWp Try.prog _ (Ends1 ((F33_x1 h y17) ((a22, a23) : Int × Int)).1 ((F33_x1 h y17) ((a22, a23) : Int × Int)).2) _
    exact pEnd_sound good (L := F33_L) (D := F33_D) (its := [.g, .g, .g, .n, .n, .n, .n, .n, .n, .n, .n, .n, (.p false), (.b false)]) (ds := F33_m1_1) (ks := []) (e := ((F33_x1 h y17) ((a22, a23) : Int × Int)).1) (s2 := ((F33_x1 h y17) ((a22, a23) : Int × Int)).2) (hC := (And.intro l_f (And.intro c24 (And.intro (g_ft c24) (And.intro (g_ft c24) (And.intro (g_ft c24) (And.intro (g_ft c24) (And.intro (g_ft c24) (And.intro (g_ft c24) (And.intro (g_ft c24) (And.intro (g_ft c24) (And.intro (g_ft c24) trivial)))))))))))) (hd := F33_d1) (h := by kernel_rfl)
theorem F33_l1_0 (h : AHeap) (y17 : Int × Int × Int × Int × Bool) (x : Int × Int × Int) (r : Int × Int) (hl : loopO (fun (s : Int × Int × Int) => F33_s1 y17 s.1 s.2.1 s.2.2) x = some r) : AWp Try.prog (.loop (codeOf Try.prog 33 [1, 1, 1, 1, 1, 1, 1, 1, 1, 0, 1, 0, 0])) (Ends1 (.exit 0) (F33_x1_0 h y17 r)) ((fun (s : Int × Int × Int) => (F33_h1 h y17 s.1 s.2.1 s.2.2)) x) := by
  have k := loop_fun (P := Try.prog) (c := (codeOf Try.prog 33 [1, 1, 1, 1, 1, 1, 1, 1, 1, 0, 1, 0, 0])) (step := (fun (s : Int × Int × Int) => F33_s1 y17 s.1 s.2.1 s.2.2)) (hd := (fun (s : Int × Int × Int) => (F33_h1 h y17 s.1 s.2.1 s.2.2))) (X := (F33_x1 h y17)) (by intro t; unfold F33_x1; intro h; cases h) (fun x => F33_r1 h y17 x.1 x.2.1 x.2.2) hl
  exact k
def F33 (x1 : Int) (x2 : Int) (x3 : Int) (x4 : Int) (x5 : Int) (x6 : Int) (x7 : Int) : Option (Int × Int × Int × Int × Int × Int × Bool) :=
  (Option.bind (F23 x1 x2 x3 x4 x5 x6 x7) fun y8 =>
  (bif (!y8) then
   some (0, 0, 0, 0, 0, 0, false)
  else
   (Option.bind (F83 x1 ((F61 x2 x3 x4 x5 x6 x7).1) ((F61 x2 x3 x4 x5 x6 x7).2)) fun y12 =>
   (Option.bind (F84 x1 ((F61 x2 x3 x4 x5 x6 x7).1) ((F61 x2 x3 x4 x5 x6 x7).2)) fun y15 =>
   (Option.bind (F85 x1 (if x4 > y12.1 then x4 else y12.1) (if x5 < y12.2 then x5 else y12.2) (if x6 > y15.1 then x6 else y15.1) (if x7 < y15.2 then x7 else y15.2)) fun y17 =>
   (bif (!y17.2.2.2.2) then
    some (0, 0, 0, 0, 0, 0, false)
   else
    (Option.bind (loopO (fun (s : Int × Int × Int) => F33_s1 y17 s.1 s.2.1 s.2.2) ((IntKind.i64.wrap (x1 - 1)), ((F61 x2 x3 x4 x5 x6 x7).1), ((F61 x2 x3 x4 x5 x6 x7).2))) fun y33 =>
    (bif ((IntKind.u64.wrap (((BitVec.ofInt 64 y33.1 &&& BitVec.ofInt 64 y33.2)).toNat)) != 0) then
     some (0, 0, 0, 0, 0, 0, false)
    else
     some (((F50 y33.1 y33.2 y17.1 y17.2.1 y17.2.2.1 y17.2.2.2.1).1), ((F50 y33.1 y33.2 y17.1 y17.2.1 y17.2.2.1 y17.2.2.2.1).2.1), ((F50 y33.1 y33.2 y17.1 y17.2.1 y17.2.2.1 y17.2.2.2.1).2.2.1), ((F50 y33.1 y33.2 y17.1 y17.2.1 y17.2.2.1 y17.2.2.2.1).2.2.2.1), ((F50 y33.1 y33.2 y17.1 y17.2.1 y17.2.2.1 y17.2.2.2.1).2.2.2.2.1), ((F50 y33.1 y33.2 y17.1 y17.2.1 y17.2.2.1 y17.2.2.2.1).2.2.2.2.2), true)))))))))
set_option maxRecDepth 100000 in
theorem F33_spec (x1 : Int) (x2 : Int) (x3 : Int) (x4 : Int) (x5 : Int) (x6 : Int) (x7 : Int) (h : AHeap)  (r : Int × Int × Int × Int × Int × Int × Bool) : F33 x1 x2 x3 x4 x5 x6 x7 = some r → ACalls Try.prog 33 [.int .i64 x1, .agg #[.int .u64 x2, .int .u64 x3, .int .u64 x4, .int .u64 x5, .int .i64 x6, .int .i64 x7]] h (fun v' h'' => v' = (.tuple #[.agg #[.int .u64 r.1, .int .u64 r.2.1, .int .u64 r.2.2.1, .int .u64 r.2.2.2.1, .int .i64 r.2.2.2.2.1, .int .i64 r.2.2.2.2.2.1], .bool r.2.2.2.2.2.2] : Value) ∧ h'' = h) := by
  unfold F33
  refine bind_opt fun y8 e8 => ?_
  refine dec_bif (fun c10 => ?_) (fun c10 => ?_)
  · intro hr
    obtain rfl := Option.some.inj hr
    exact pFun_sound good tab_ok (f := 33) (its := [.g, .g, .g, .g, .g, .g, (.c (.bool y8) h), .g, (.b true), .g, .g, .g]) (args := [.int .i64 x1, .agg #[.int .u64 x2, .int .u64 x3, .int .u64 x4, .int .u64 x5, .int .i64 x6, .int .i64 x7]]) (h := h) (h' := h) (v := .tuple #[.agg #[.int .u64 0, .int .u64 0, .int .u64 0, .int .u64 0, .int .i64 0, .int .i64 0], .bool false]) (hC := (And.intro c10 (And.intro (F23_spec x1 x2 x3 x4 x5 x6 x7 h _ e8) trivial))) (hr := by kernel_rfl)
  · refine bind_opt fun y12 e12 => ?_
    refine bind_opt fun y15 e15 => ?_
    refine bind_opt fun y17 e17 => ?_
    refine dec_bif (fun c19 => ?_) (fun c19 => ?_)
    · intro hr
      obtain rfl := Option.some.inj hr
      exact pFun_sound good tab_ok (f := 33) (its := [.g, .g, .g, .g, .g, .g, (.c (.bool y8) h), .g, (.b false), .g, .g, (.c (.agg #[.int .u64 ((F61 x2 x3 x4 x5 x6 x7).1), .int .u64 ((F61 x2 x3 x4 x5 x6 x7).2)]) h), (.c (.tuple #[.int .u64 y12.1, .int .u64 y12.2]) h), .g, .g, .g, .g, .g, .g, .g, (.c (.agg #[.int .u64 ((F61 x2 x3 x4 x5 x6 x7).1), .int .u64 ((F61 x2 x3 x4 x5 x6 x7).2)]) h), (.c (.tuple #[.int .i64 y15.1, .int .i64 y15.2]) h), .g, .g, .g, .g, .g, .g, .g, .g, .g, .g, .g, .g, .g, .g, .g, .g, .g, .g, .g, .g, .g, .g, .g, .g, .g, .g, (.c (.tuple #[.agg #[.int .u64 y17.1, .int .u64 y17.2.1, .int .i64 y17.2.2.1, .int .i64 y17.2.2.2.1], .bool y17.2.2.2.2]) h), .g, .g, .g, .g, .g, .g, .g, .g, (.b true), .g, .g, .g]) (args := [.int .i64 x1, .agg #[.int .u64 x2, .int .u64 x3, .int .u64 x4, .int .u64 x5, .int .i64 x6, .int .i64 x7]]) (h := h) (h' := h) (v := .tuple #[.agg #[.int .u64 0, .int .u64 0, .int .u64 0, .int .u64 0, .int .i64 0, .int .i64 0], .bool false]) (hC := (And.intro c19 (And.intro (F85_spec x1 (if x4 > y12.1 then x4 else y12.1) (if x5 < y12.2 then x5 else y12.2) (if x6 > y15.1 then x6 else y15.1) (if x7 < y15.2 then x7 else y15.2) h _ e17) (And.intro (F84_spec x1 ((F61 x2 x3 x4 x5 x6 x7).1) ((F61 x2 x3 x4 x5 x6 x7).2) h _ e15) (And.intro (F61_spec x2 x3 x4 x5 x6 x7 h _ rfl) (And.intro (F83_spec x1 ((F61 x2 x3 x4 x5 x6 x7).1) ((F61 x2 x3 x4 x5 x6 x7).2) h _ e12) (And.intro (F61_spec x2 x3 x4 x5 x6 x7 h _ rfl) (And.intro c10 (And.intro (F23_spec x1 x2 x3 x4 x5 x6 x7 h _ e8) trivial))))))))) (hr := by kernel_rfl)
    · refine bind_opt fun y33 e33 => ?_
      refine dec_bif (fun c34 => ?_) (fun c34 => ?_)
      · intro hr
        obtain rfl := Option.some.inj hr
        exact pFun_sound good tab_ok (f := 33) (its := [.g, .g, .g, .g, .g, .g, (.c (.bool y8) h), .g, (.b false), .g, .g, (.c (.agg #[.int .u64 ((F61 x2 x3 x4 x5 x6 x7).1), .int .u64 ((F61 x2 x3 x4 x5 x6 x7).2)]) h), (.c (.tuple #[.int .u64 y12.1, .int .u64 y12.2]) h), .g, .g, .g, .g, .g, .g, .g, (.c (.agg #[.int .u64 ((F61 x2 x3 x4 x5 x6 x7).1), .int .u64 ((F61 x2 x3 x4 x5 x6 x7).2)]) h), (.c (.tuple #[.int .i64 y15.1, .int .i64 y15.2]) h), .g, .g, .g, .g, .g, .g, .g, .g, .g, .g, .g, .g, .g, .g, .g, .g, .g, .g, .g, .g, .g, .g, .g, .g, .g, .g, (.c (.tuple #[.agg #[.int .u64 y17.1, .int .u64 y17.2.1, .int .i64 y17.2.2.1, .int .i64 y17.2.2.2.1], .bool y17.2.2.2.2]) h), .g, .g, .g, .g, .g, .g, .g, .g, (.b false), .g, (.c (.agg #[.int .u64 ((F61 x2 x3 x4 x5 x6 x7).1), .int .u64 ((F61 x2 x3 x4 x5 x6 x7).2)]) h), .g, .g, .g, .g, .g, (.l F33_m1_0 [3, 11] (.exit 0) (F33_x1_0 h y17 y33)), .g, .g, .g, .g, .g, .g, (.b true), .g, .g, .g]) (args := [.int .i64 x1, .agg #[.int .u64 x2, .int .u64 x3, .int .u64 x4, .int .u64 x5, .int .i64 x6, .int .i64 x7]]) (h := h) (h' := h) (v := .tuple #[.agg #[.int .u64 0, .int .u64 0, .int .u64 0, .int .u64 0, .int .i64 0, .int .i64 0], .bool false]) (hC := (And.intro c34 (And.intro (F33_l1_0 h y17 ((IntKind.i64.wrap (x1 - 1)), ((F61 x2 x3 x4 x5 x6 x7).1), ((F61 x2 x3 x4 x5 x6 x7).2)) y33 e33) (And.intro (F61_spec x2 x3 x4 x5 x6 x7 h _ rfl) (And.intro c19 (And.intro (F85_spec x1 (if x4 > y12.1 then x4 else y12.1) (if x5 < y12.2 then x5 else y12.2) (if x6 > y15.1 then x6 else y15.1) (if x7 < y15.2 then x7 else y15.2) h _ e17) (And.intro (F84_spec x1 ((F61 x2 x3 x4 x5 x6 x7).1) ((F61 x2 x3 x4 x5 x6 x7).2) h _ e15) (And.intro (F61_spec x2 x3 x4 x5 x6 x7 h _ rfl) (And.intro (F83_spec x1 ((F61 x2 x3 x4 x5 x6 x7).1) ((F61 x2 x3 x4 x5 x6 x7).2) h _ e12) (And.intro (F61_spec x2 x3 x4 x5 x6 x7 h _ rfl) (And.intro c10 (And.intro (F23_spec x1 x2 x3 x4 x5 x6 x7 h _ e8) trivial)))))))))))) (hr := by kernel_rfl)
      · intro hr
        obtain rfl := Option.some.inj hr
        exact pFun_sound good tab_ok (f := 33) (its := [.g, .g, .g, .g, .g, .g, (.c (.bool y8) h), .g, (.b false), .g, .g, (.c (.agg #[.int .u64 ((F61 x2 x3 x4 x5 x6 x7).1), .int .u64 ((F61 x2 x3 x4 x5 x6 x7).2)]) h), (.c (.tuple #[.int .u64 y12.1, .int .u64 y12.2]) h), .g, .g, .g, .g, .g, .g, .g, (.c (.agg #[.int .u64 ((F61 x2 x3 x4 x5 x6 x7).1), .int .u64 ((F61 x2 x3 x4 x5 x6 x7).2)]) h), (.c (.tuple #[.int .i64 y15.1, .int .i64 y15.2]) h), .g, .g, .g, .g, .g, .g, .g, .g, .g, .g, .g, .g, .g, .g, .g, .g, .g, .g, .g, .g, .g, .g, .g, .g, .g, .g, (.c (.tuple #[.agg #[.int .u64 y17.1, .int .u64 y17.2.1, .int .i64 y17.2.2.1, .int .i64 y17.2.2.2.1], .bool y17.2.2.2.2]) h), .g, .g, .g, .g, .g, .g, .g, .g, (.b false), .g, (.c (.agg #[.int .u64 ((F61 x2 x3 x4 x5 x6 x7).1), .int .u64 ((F61 x2 x3 x4 x5 x6 x7).2)]) h), .g, .g, .g, .g, .g, (.l F33_m1_0 [3, 11] (.exit 0) (F33_x1_0 h y17 y33)), .g, .g, .g, .g, .g, .g, (.b false), .g, .g, (.c (.agg #[.int .u64 ((F50 y33.1 y33.2 y17.1 y17.2.1 y17.2.2.1 y17.2.2.2.1).1), .int .u64 ((F50 y33.1 y33.2 y17.1 y17.2.1 y17.2.2.1 y17.2.2.2.1).2.1), .int .u64 ((F50 y33.1 y33.2 y17.1 y17.2.1 y17.2.2.1 y17.2.2.2.1).2.2.1), .int .u64 ((F50 y33.1 y33.2 y17.1 y17.2.1 y17.2.2.1 y17.2.2.2.1).2.2.2.1), .int .i64 ((F50 y33.1 y33.2 y17.1 y17.2.1 y17.2.2.1 y17.2.2.2.1).2.2.2.2.1), .int .i64 ((F50 y33.1 y33.2 y17.1 y17.2.1 y17.2.2.1 y17.2.2.2.1).2.2.2.2.2)]) h), .g, .g]) (args := [.int .i64 x1, .agg #[.int .u64 x2, .int .u64 x3, .int .u64 x4, .int .u64 x5, .int .i64 x6, .int .i64 x7]]) (h := h) (h' := h) (v := .tuple #[.agg #[.int .u64 ((F50 y33.1 y33.2 y17.1 y17.2.1 y17.2.2.1 y17.2.2.2.1).1), .int .u64 ((F50 y33.1 y33.2 y17.1 y17.2.1 y17.2.2.1 y17.2.2.2.1).2.1), .int .u64 ((F50 y33.1 y33.2 y17.1 y17.2.1 y17.2.2.1 y17.2.2.2.1).2.2.1), .int .u64 ((F50 y33.1 y33.2 y17.1 y17.2.1 y17.2.2.1 y17.2.2.2.1).2.2.2.1), .int .i64 ((F50 y33.1 y33.2 y17.1 y17.2.1 y17.2.2.1 y17.2.2.2.1).2.2.2.2.1), .int .i64 ((F50 y33.1 y33.2 y17.1 y17.2.1 y17.2.2.1 y17.2.2.2.1).2.2.2.2.2)], .bool true]) (hC := (And.intro (F50_spec y33.1 y33.2 y17.1 y17.2.1 y17.2.2.1 y17.2.2.2.1 h _ rfl) (And.intro c34 (And.intro (F33_l1_0 h y17 ((IntKind.i64.wrap (x1 - 1)), ((F61 x2 x3 x4 x5 x6 x7).1), ((F61 x2 x3 x4 x5 x6 x7).2)) y33 e33) (And.intro (F61_spec x2 x3 x4 x5 x6 x7 h _ rfl) (And.intro c19 (And.intro (F85_spec x1 (if x4 > y12.1 then x4 else y12.1) (if x5 < y12.2 then x5 else y12.2) (if x6 > y15.1 then x6 else y15.1) (if x7 < y15.2 then x7 else y15.2) h _ e17) (And.intro (F84_spec x1 ((F61 x2 x3 x4 x5 x6 x7).1) ((F61 x2 x3 x4 x5 x6 x7).2) h _ e15) (And.intro (F61_spec x2 x3 x4 x5 x6 x7 h _ rfl) (And.intro (F83_spec x1 ((F61 x2 x3 x4 x5 x6 x7).1) ((F61 x2 x3 x4 x5 x6 x7).2) h _ e12) (And.intro (F61_spec x2 x3 x4 x5 x6 x7 h _ rfl) (And.intro c10 (And.intro (F23_spec x1 x2 x3 x4 x5 x6 x7 h _ e8) trivial))))))))))))) (hr := by kernel_rfl)
/-! 64 jacquard/knownbits.Contains -/
def F64 (x1 : Int) (x2 : Int) (x3 : Int) : Bool :=
  (bif ((IntKind.u64.wrap (((BitVec.ofInt 64 x3 &&& BitVec.ofInt 64 x1)).toNat)) == 0) then
   ((IntKind.u64.wrap (((BitVec.ofInt 64 x3 &&& BitVec.ofInt 64 x2)).toNat)) == x2)
  else
   false)
set_option maxRecDepth 100000 in
theorem F64_spec (x1 : Int) (x2 : Int) (x3 : Int) (h : AHeap)  (r : Bool) : F64 x1 x2 x3 = r → ACalls Try.prog 64 [.agg #[.int .u64 x1, .int .u64 x2], .int .u64 x3] h (fun v' h'' => v' = (.bool r : Value) ∧ h'' = h) := by
  unfold F64
  refine dec_bif (fun c4 => ?_) (fun c4 => ?_)
  · intro hr
    subst hr
    exact pFun_sound good tab_ok (f := 64) (its := [.g, .g, .g, .g, .g, .g, .g, .g, (.w .g), (.w .g), (.w .g), (.w .g), (.w .g), (.w .g), (.w .g), (.p true), .g]) (args := [.agg #[.int .u64 x1, .int .u64 x2], .int .u64 x3]) (h := h) (h' := h) (v := .bool ((IntKind.u64.wrap (((BitVec.ofInt 64 x3 &&& BitVec.ofInt 64 x2)).toNat)) == x2)) (hC := (And.intro c4 (And.intro (g_tt c4) (And.intro (g_tt c4) (And.intro (g_tt c4) (And.intro (g_tt c4) (And.intro (g_tt c4) (And.intro (g_tt c4) (And.intro (g_tt c4) trivial))))))))) (hr := by kernel_rfl)
  · intro hr
    subst hr
    exact pFun_sound good tab_ok (f := 64) (its := [.g, .g, .g, .g, .g, .g, .g, .g, .n, .n, .n, .n, .n, .n, .n, (.p false), .g]) (args := [.agg #[.int .u64 x1, .int .u64 x2], .int .u64 x3]) (h := h) (h' := h) (v := .bool false) (hC := (And.intro c4 (And.intro (g_ft c4) (And.intro (g_ft c4) (And.intro (g_ft c4) (And.intro (g_ft c4) (And.intro (g_ft c4) (And.intro (g_ft c4) (And.intro (g_ft c4) trivial))))))))) (hr := by kernel_rfl)
/-! 65 jacquard/interval.Contains -/
def F65 (x1 : Int) (x2 : Int) (x3 : Int) (x4 : Int) (x5 : Int) (x6 : Int) : Option (Bool) :=
  (bif (!(F92 x1)) then
   some (false)
  else
   (Option.bind (F79 x1) fun y9 =>
   (bif decide (x6 > y9) then
    some (false)
   else
    (Option.bind (F80 x1 x6) fun y12 =>
    (bif decide (x2 ≤ x6) then
     (bif decide (x6 ≤ x3) then
      (bif decide (x4 ≤ y12) then
       some (decide (y12 ≤ x5))
      else
       some (false))
     else
      some (false))
    else
     some (false))))))
set_option maxRecDepth 100000 in
theorem F65_spec (x1 : Int) (x2 : Int) (x3 : Int) (x4 : Int) (x5 : Int) (x6 : Int) (h : AHeap)  (r : Bool) : F65 x1 x2 x3 x4 x5 x6 = some r → ACalls Try.prog 65 [.int .i64 x1, .agg #[.int .u64 x2, .int .u64 x3, .int .i64 x4, .int .i64 x5], .int .u64 x6] h (fun v' h'' => v' = (.bool r : Value) ∧ h'' = h) := by
  unfold F65
  refine dec_bif (fun c8 => ?_) (fun c8 => ?_)
  · intro hr
    obtain rfl := Option.some.inj hr
    exact pFun_sound good tab_ok (f := 65) (its := [.g, .g, .g, (.c (.bool (F92 x1)) h), .g, .g, .n, .n, .n, .n, (.p true), (.b true), .g]) (args := [.int .i64 x1, .agg #[.int .u64 x2, .int .u64 x3, .int .i64 x4, .int .i64 x5], .int .u64 x6]) (h := h) (h' := h) (v := .bool false) (hC := (And.intro l_t (And.intro c8 (And.intro (g_tf c8) (And.intro (g_tf c8) (And.intro (g_tf c8) (And.intro (g_tf c8) (And.intro (F92_spec x1 h _ rfl) trivial)))))))) (hr := by kernel_rfl)
  · refine bind_opt fun y9 e9 => ?_
    refine dec_bif (fun c11 => ?_) (fun c11 => ?_)
    · intro hr
      obtain rfl := Option.some.inj hr
      exact pFun_sound good tab_ok (f := 65) (its := [.g, .g, .g, (.c (.bool (F92 x1)) h), .g, .g, (.w .g), (.w .g), (.w (.c (.int .u64 y9) h)), (.w .g), (.p false), (.b true), .g]) (args := [.int .i64 x1, .agg #[.int .u64 x2, .int .u64 x3, .int .i64 x4, .int .i64 x5], .int .u64 x6]) (h := h) (h' := h) (v := .bool false) (hC := (And.intro c11 (And.intro c8 (And.intro (g_ff c8) (And.intro (F79_spec x1 h _ e9) (And.intro (g_ff c8) (And.intro (g_ff c8) (And.intro (g_ff c8) (And.intro (F92_spec x1 h _ rfl) trivial))))))))) (hr := by kernel_rfl)
    · refine bind_opt fun y12 e12 => ?_
      refine dec_bif (fun c14 => ?_) (fun c14 => ?_)
      · refine dec_bif (fun c15 => ?_) (fun c15 => ?_)
        · refine dec_bif (fun c16 => ?_) (fun c16 => ?_)
          · intro hr
            obtain rfl := Option.some.inj hr
            exact pFun_sound good tab_ok (f := 65) (its := [.g, .g, .g, (.c (.bool (F92 x1)) h), .g, .g, (.w .g), (.w .g), (.w (.c (.int .u64 y9) h)), (.w .g), (.p false), (.b false), .g, .g, (.c (.int .i64 y12) h), .g, .g, .g, .g, .g, .g, (.w .g), (.w .g), (.w .g), (.w .g), (.p true), .g, (.w .g), (.w .g), (.w .g), (.w .g), (.p true), .g, (.w .g), (.w .g), (.w .g), (.w .g), (.p true), .g]) (args := [.int .i64 x1, .agg #[.int .u64 x2, .int .u64 x3, .int .i64 x4, .int .i64 x5], .int .u64 x6]) (h := h) (h' := h) (v := .bool (decide (y12 ≤ x5))) (hC := (And.intro c16 (And.intro (g_tt c16) (And.intro (g_tt c16) (And.intro (g_tt c16) (And.intro (g_tt c16) (And.intro c15 (And.intro (g_tt c15) (And.intro (g_tt c15) (And.intro (g_tt c15) (And.intro (g_tt c15) (And.intro c14 (And.intro (g_tt c14) (And.intro (g_tt c14) (And.intro (g_tt c14) (And.intro (g_tt c14) (And.intro (F80_spec x1 x6 h _ e12) (And.intro c11 (And.intro c8 (And.intro (g_ff c8) (And.intro (F79_spec x1 h _ e9) (And.intro (g_ff c8) (And.intro (g_ff c8) (And.intro (g_ff c8) (And.intro (F92_spec x1 h _ rfl) trivial))))))))))))))))))))))))) (hr := by kernel_rfl)
          · intro hr
            obtain rfl := Option.some.inj hr
            exact pFun_sound good tab_ok (f := 65) (its := [.g, .g, .g, (.c (.bool (F92 x1)) h), .g, .g, (.w .g), (.w .g), (.w (.c (.int .u64 y9) h)), (.w .g), (.p false), (.b false), .g, .g, (.c (.int .i64 y12) h), .g, .g, .g, .g, .g, .g, (.w .g), (.w .g), (.w .g), (.w .g), (.p true), .g, (.w .g), (.w .g), (.w .g), (.w .g), (.p true), .g, .n, .n, .n, .n, (.p false), .g]) (args := [.int .i64 x1, .agg #[.int .u64 x2, .int .u64 x3, .int .i64 x4, .int .i64 x5], .int .u64 x6]) (h := h) (h' := h) (v := .bool false) (hC := (And.intro c16 (And.intro (g_ft c16) (And.intro (g_ft c16) (And.intro (g_ft c16) (And.intro (g_ft c16) (And.intro c15 (And.intro (g_tt c15) (And.intro (g_tt c15) (And.intro (g_tt c15) (And.intro (g_tt c15) (And.intro c14 (And.intro (g_tt c14) (And.intro (g_tt c14) (And.intro (g_tt c14) (And.intro (g_tt c14) (And.intro (F80_spec x1 x6 h _ e12) (And.intro c11 (And.intro c8 (And.intro (g_ff c8) (And.intro (F79_spec x1 h _ e9) (And.intro (g_ff c8) (And.intro (g_ff c8) (And.intro (g_ff c8) (And.intro (F92_spec x1 h _ rfl) trivial))))))))))))))))))))))))) (hr := by kernel_rfl)
        · intro hr
          obtain rfl := Option.some.inj hr
          exact pFun_sound good tab_ok (f := 65) (its := [.g, .g, .g, (.c (.bool (F92 x1)) h), .g, .g, (.w .g), (.w .g), (.w (.c (.int .u64 y9) h)), (.w .g), (.p false), (.b false), .g, .g, (.c (.int .i64 y12) h), .g, .g, .g, .g, .g, .g, (.w .g), (.w .g), (.w .g), (.w .g), (.p true), .g, .n, .n, .n, .n, (.p false), .g, .n, .n, .n, .n, .g, .g]) (args := [.int .i64 x1, .agg #[.int .u64 x2, .int .u64 x3, .int .i64 x4, .int .i64 x5], .int .u64 x6]) (h := h) (h' := h) (v := .bool false) (hC := (And.intro (g_ft l_f) (And.intro (g_ft l_f) (And.intro (g_ft l_f) (And.intro (g_ft l_f) (And.intro c15 (And.intro (g_ft c15) (And.intro (g_ft c15) (And.intro (g_ft c15) (And.intro (g_ft c15) (And.intro c14 (And.intro (g_tt c14) (And.intro (g_tt c14) (And.intro (g_tt c14) (And.intro (g_tt c14) (And.intro (F80_spec x1 x6 h _ e12) (And.intro c11 (And.intro c8 (And.intro (g_ff c8) (And.intro (F79_spec x1 h _ e9) (And.intro (g_ff c8) (And.intro (g_ff c8) (And.intro (g_ff c8) (And.intro (F92_spec x1 h _ rfl) trivial)))))))))))))))))))))))) (hr := by kernel_rfl)
      · intro hr
        obtain rfl := Option.some.inj hr
        exact pFun_sound good tab_ok (f := 65) (its := [.g, .g, .g, (.c (.bool (F92 x1)) h), .g, .g, (.w .g), (.w .g), (.w (.c (.int .u64 y9) h)), (.w .g), (.p false), (.b false), .g, .g, (.c (.int .i64 y12) h), .g, .g, .g, .g, .g, .g, .n, .n, .n, .n, (.p false), .g, .n, .n, .n, .n, .g, .g, .n, .n, .n, .n, .g, .g]) (args := [.int .i64 x1, .agg #[.int .u64 x2, .int .u64 x3, .int .i64 x4, .int .i64 x5], .int .u64 x6]) (h := h) (h' := h) (v := .bool false) (hC := (And.intro (g_ft l_f) (And.intro (g_ft l_f) (And.intro (g_ft l_f) (And.intro (g_ft l_f) (And.intro (g_ft l_f) (And.intro (g_ft l_f) (And.intro (g_ft l_f) (And.intro (g_ft l_f) (And.intro c14 (And.intro (g_ft c14) (And.intro (g_ft c14) (And.intro (g_ft c14) (And.intro (g_ft c14) (And.intro (F80_spec x1 x6 h _ e12) (And.intro c11 (And.intro c8 (And.intro (g_ff c8) (And.intro (F79_spec x1 h _ e9) (And.intro (g_ff c8) (And.intro (g_ff c8) (And.intro (g_ff c8) (And.intro (F92_spec x1 h _ rfl) trivial))))))))))))))))))))))) (hr := by kernel_rfl)
/-! 24 jacquard/facts.Contains -/
def F24 (x1 : Int) (x2 : Int) (x3 : Int) (x4 : Int) (x5 : Int) (x6 : Int) (x7 : Int) (x8 : Int) : Option (Bool) :=
  (bif (F64 ((F57 x2 x3 x4 x5 x6 x7).1) ((F57 x2 x3 x4 x5 x6 x7).2) x8) then
   (Option.bind (F65 x1 ((F59 x2 x3 x4 x5 x6 x7).1) ((F59 x2 x3 x4 x5 x6 x7).2.1) ((F59 x2 x3 x4 x5 x6 x7).2.2.1) ((F59 x2 x3 x4 x5 x6 x7).2.2.2) x8) fun y13 =>
   some (y13))
  else
   some (false))
set_option maxRecDepth 100000 in
theorem F24_spec (x1 : Int) (x2 : Int) (x3 : Int) (x4 : Int) (x5 : Int) (x6 : Int) (x7 : Int) (x8 : Int) (h : AHeap)  (r : Bool) : F24 x1 x2 x3 x4 x5 x6 x7 x8 = some r → ACalls Try.prog 24 [.int .i64 x1, .agg #[.int .u64 x2, .int .u64 x3, .int .u64 x4, .int .u64 x5, .int .i64 x6, .int .i64 x7], .int .u64 x8] h (fun v' h'' => v' = (.bool r : Value) ∧ h'' = h) := by
  unfold F24
  refine dec_bif (fun c11 => ?_) (fun c11 => ?_)
  · refine bind_opt fun y13 e13 => ?_
    intro hr
    obtain rfl := Option.some.inj hr
    exact pFun_sound good tab_ok (f := 24) (its := [.g, .g, .g, (.c (.agg #[.int .u64 ((F57 x2 x3 x4 x5 x6 x7).1), .int .u64 ((F57 x2 x3 x4 x5 x6 x7).2)]) h), .g, (.c (.bool (F64 ((F57 x2 x3 x4 x5 x6 x7).1) ((F57 x2 x3 x4 x5 x6 x7).2) x8)) h), .g, (.w .g), (.w .g), (.w (.c (.agg #[.int .u64 ((F59 x2 x3 x4 x5 x6 x7).1), .int .u64 ((F59 x2 x3 x4 x5 x6 x7).2.1), .int .i64 ((F59 x2 x3 x4 x5 x6 x7).2.2.1), .int .i64 ((F59 x2 x3 x4 x5 x6 x7).2.2.2)]) h)), (.w .g), (.w (.c (.bool y13) h)), (.p true), .g]) (args := [.int .i64 x1, .agg #[.int .u64 x2, .int .u64 x3, .int .u64 x4, .int .u64 x5, .int .i64 x6, .int .i64 x7], .int .u64 x8]) (h := h) (h' := h) (v := .bool y13) (hC := (And.intro c11 (And.intro (F65_spec x1 ((F59 x2 x3 x4 x5 x6 x7).1) ((F59 x2 x3 x4 x5 x6 x7).2.1) ((F59 x2 x3 x4 x5 x6 x7).2.2.1) ((F59 x2 x3 x4 x5 x6 x7).2.2.2) x8 h _ e13) (And.intro (g_tt c11) (And.intro (g_tt c11) (And.intro (F59_spec x2 x3 x4 x5 x6 x7 h _ rfl) (And.intro (g_tt c11) (And.intro (g_tt c11) (And.intro (g_tt c11) (And.intro (F64_spec ((F57 x2 x3 x4 x5 x6 x7).1) ((F57 x2 x3 x4 x5 x6 x7).2) x8 h _ rfl) (And.intro (F57_spec x2 x3 x4 x5 x6 x7 h _ rfl) trivial))))))))))) (hr := by kernel_rfl)
  · intro hr
    obtain rfl := Option.some.inj hr
    exact pFun_sound good tab_ok (f := 24) (its := [.g, .g, .g, (.c (.agg #[.int .u64 ((F57 x2 x3 x4 x5 x6 x7).1), .int .u64 ((F57 x2 x3 x4 x5 x6 x7).2)]) h), .g, (.c (.bool (F64 ((F57 x2 x3 x4 x5 x6 x7).1) ((F57 x2 x3 x4 x5 x6 x7).2) x8)) h), .g, .n, .n, .n, .n, .n, (.p false), .g]) (args := [.int .i64 x1, .agg #[.int .u64 x2, .int .u64 x3, .int .u64 x4, .int .u64 x5, .int .i64 x6, .int .i64 x7], .int .u64 x8]) (h := h) (h' := h) (v := .bool false) (hC := (And.intro c11 (And.intro (g_ft c11) (And.intro (g_ft c11) (And.intro (g_ft c11) (And.intro (g_ft c11) (And.intro (g_ft c11) (And.intro (F64_spec ((F57 x2 x3 x4 x5 x6 x7).1) ((F57 x2 x3 x4 x5 x6 x7).2) x8 h _ rfl) (And.intro (F57_spec x2 x3 x4 x5 x6 x7 h _ rfl) trivial))))))))) (hr := by kernel_rfl)
/-! 68 jacquard/knownbits.Leq -/
def F68 (x1 : Int) (x2 : Int) (x3 : Int) (x4 : Int) : Bool :=
  (bif ((IntKind.u64.wrap (((BitVec.ofInt 64 x3 &&& ~~~(BitVec.ofInt 64 x1))).toNat)) == 0) then
   ((IntKind.u64.wrap (((BitVec.ofInt 64 x4 &&& ~~~(BitVec.ofInt 64 x2))).toNat)) == 0)
  else
   false)
set_option maxRecDepth 100000 in
theorem F68_spec (x1 : Int) (x2 : Int) (x3 : Int) (x4 : Int) (h : AHeap)  (r : Bool) : F68 x1 x2 x3 x4 = r → ACalls Try.prog 68 [.agg #[.int .u64 x1, .int .u64 x2], .agg #[.int .u64 x3, .int .u64 x4]] h (fun v' h'' => v' = (.bool r : Value) ∧ h'' = h) := by
  unfold F68
  refine dec_bif (fun c5 => ?_) (fun c5 => ?_)
  · intro hr
    subst hr
    exact pFun_sound good tab_ok (f := 68) (its := [.g, .g, .g, .g, .g, .g, .g, .g, .g, .g, (.w .g), (.w .g), (.w .g), (.w .g), (.w .g), (.w .g), (.p true), .g]) (args := [.agg #[.int .u64 x1, .int .u64 x2], .agg #[.int .u64 x3, .int .u64 x4]]) (h := h) (h' := h) (v := .bool ((IntKind.u64.wrap (((BitVec.ofInt 64 x4 &&& ~~~(BitVec.ofInt 64 x2))).toNat)) == 0)) (hC := (And.intro c5 (And.intro (g_tt c5) (And.intro (g_tt c5) (And.intro (g_tt c5) (And.intro (g_tt c5) (And.intro (g_tt c5) (And.intro (g_tt c5) trivial)))))))) (hr := by kernel_rfl)
  · intro hr
    subst hr
    exact pFun_sound good tab_ok (f := 68) (its := [.g, .g, .g, .g, .g, .g, .g, .g, .g, .g, .n, .n, .n, .n, .n, .n, (.p false), .g]) (args := [.agg #[.int .u64 x1, .int .u64 x2], .agg #[.int .u64 x3, .int .u64 x4]]) (h := h) (h' := h) (v := .bool false) (hC := (And.intro c5 (And.intro (g_ft c5) (And.intro (g_ft c5) (And.intro (g_ft c5) (And.intro (g_ft c5) (And.intro (g_ft c5) (And.intro (g_ft c5) trivial)))))))) (hr := by kernel_rfl)
/-! 69 jacquard/interval.Leq -/
def F69 (x1 : Int) (x2 : Int) (x3 : Int) (x4 : Int) (x5 : Int) (x6 : Int) (x7 : Int) (x8 : Int) : Bool :=
  (bif decide (x1 ≥ x5) then
   (bif decide (x2 ≤ x6) then
    (bif decide (x3 ≥ x7) then
     (decide (x4 ≤ x8))
    else
     false)
   else
    false)
  else
   false)
set_option maxRecDepth 100000 in
theorem F69_spec (x1 : Int) (x2 : Int) (x3 : Int) (x4 : Int) (x5 : Int) (x6 : Int) (x7 : Int) (x8 : Int) (h : AHeap)  (r : Bool) : F69 x1 x2 x3 x4 x5 x6 x7 x8 = r → ACalls Try.prog 69 [.agg #[.int .u64 x1, .int .u64 x2, .int .i64 x3, .int .i64 x4], .agg #[.int .u64 x5, .int .u64 x6, .int .i64 x7, .int .i64 x8]] h (fun v' h'' => v' = (.bool r : Value) ∧ h'' = h) := by
  unfold F69
  refine dec_bif (fun c9 => ?_) (fun c9 => ?_)
  · refine dec_bif (fun c10 => ?_) (fun c10 => ?_)
    · refine dec_bif (fun c11 => ?_) (fun c11 => ?_)
      · intro hr
        subst hr
        exact pFun_sound good tab_ok (f := 69) (its := [.g, .g, .g, .g, .g, .g, .g, .g, .g, (.w .g), (.w .g), (.w .g), (.w .g), (.w .g), (.p true), .g, (.w .g), (.w .g), (.w .g), (.w .g), (.w .g), (.p true), .g, (.w .g), (.w .g), (.w .g), (.w .g), (.w .g), (.p true), .g]) (args := [.agg #[.int .u64 x1, .int .u64 x2, .int .i64 x3, .int .i64 x4], .agg #[.int .u64 x5, .int .u64 x6, .int .i64 x7, .int .i64 x8]]) (h := h) (h' := h) (v := .bool (decide (x4 ≤ x8))) (hC := (And.intro c11 (And.intro (g_tt c11) (And.intro (g_tt c11) (And.intro (g_tt c11) (And.intro (g_tt c11) (And.intro (g_tt c11) (And.intro c10 (And.intro (g_tt c10) (And.intro (g_tt c10) (And.intro (g_tt c10) (And.intro (g_tt c10) (And.intro (g_tt c10) (And.intro c9 (And.intro (g_tt c9) (And.intro (g_tt c9) (And.intro (g_tt c9) (And.intro (g_tt c9) (And.intro (g_tt c9) trivial))))))))))))))))))) (hr := by kernel_rfl)
      · intro hr
        subst hr
        exact pFun_sound good tab_ok (f := 69) (its := [.g, .g, .g, .g, .g, .g, .g, .g, .g, (.w .g), (.w .g), (.w .g), (.w .g), (.w .g), (.p true), .g, (.w .g), (.w .g), (.w .g), (.w .g), (.w .g), (.p true), .g, .n, .n, .n, .n, .n, (.p false), .g]) (args := [.agg #[.int .u64 x1, .int .u64 x2, .int .i64 x3, .int .i64 x4], .agg #[.int .u64 x5, .int .u64 x6, .int .i64 x7, .int .i64 x8]]) (h := h) (h' := h) (v := .bool false) (hC := (And.intro c11 (And.intro (g_ft c11) (And.intro (g_ft c11) (And.intro (g_ft c11) (And.intro (g_ft c11) (And.intro (g_ft c11) (And.intro c10 (And.intro (g_tt c10) (And.intro (g_tt c10) (And.intro (g_tt c10) (And.intro (g_tt c10) (And.intro (g_tt c10) (And.intro c9 (And.intro (g_tt c9) (And.intro (g_tt c9) (And.intro (g_tt c9) (And.intro (g_tt c9) (And.intro (g_tt c9) trivial))))))))))))))))))) (hr := by kernel_rfl)
    · intro hr
      subst hr
      exact pFun_sound good tab_ok (f := 69) (its := [.g, .g, .g, .g, .g, .g, .g, .g, .g, (.w .g), (.w .g), (.w .g), (.w .g), (.w .g), (.p true), .g, .n, .n, .n, .n, .n, (.p false), .g, .n, .n, .n, .n, .n, .g, .g]) (args := [.agg #[.int .u64 x1, .int .u64 x2, .int .i64 x3, .int .i64 x4], .agg #[.int .u64 x5, .int .u64 x6, .int .i64 x7, .int .i64 x8]]) (h := h) (h' := h) (v := .bool false) (hC := (And.intro (g_ft l_f) (And.intro (g_ft l_f) (And.intro (g_ft l_f) (And.intro (g_ft l_f) (And.intro (g_ft l_f) (And.intro c10 (And.intro (g_ft c10) (And.intro (g_ft c10) (And.intro (g_ft c10) (And.intro (g_ft c10) (And.intro (g_ft c10) (And.intro c9 (And.intro (g_tt c9) (And.intro (g_tt c9) (And.intro (g_tt c9) (And.intro (g_tt c9) (And.intro (g_tt c9) trivial)))))))))))))))))) (hr := by kernel_rfl)
  · intro hr
    subst hr
    exact pFun_sound good tab_ok (f := 69) (its := [.g, .g, .g, .g, .g, .g, .g, .g, .g, .n, .n, .n, .n, .n, (.p false), .g, .n, .n, .n, .n, .n, .g, .g, .n, .n, .n, .n, .n, .g, .g]) (args := [.agg #[.int .u64 x1, .int .u64 x2, .int .i64 x3, .int .i64 x4], .agg #[.int .u64 x5, .int .u64 x6, .int .i64 x7, .int .i64 x8]]) (h := h) (h' := h) (v := .bool false) (hC := (And.intro (g_ft l_f) (And.intro (g_ft l_f) (And.intro (g_ft l_f) (And.intro (g_ft l_f) (And.intro (g_ft l_f) (And.intro (g_ft l_f) (And.intro (g_ft l_f) (And.intro (g_ft l_f) (And.intro (g_ft l_f) (And.intro (g_ft l_f) (And.intro c9 (And.intro (g_ft c9) (And.intro (g_ft c9) (And.intro (g_ft c9) (And.intro (g_ft c9) (And.intro (g_ft c9) trivial))))))))))))))))) (hr := by kernel_rfl)
/-! 26 jacquard/facts.Leq -/
def F26 (x1 : Int) (x2 : Int) (x3 : Int) (x4 : Int) (x5 : Int) (x6 : Int) (x7 : Int) (x8 : Int) (x9 : Int) (x10 : Int) (x11 : Int) (x12 : Int) : Bool :=
  (bif (F68 ((F57 x1 x2 x3 x4 x5 x6).1) ((F57 x1 x2 x3 x4 x5 x6).2) ((F57 x7 x8 x9 x10 x11 x12).1) ((F57 x7 x8 x9 x10 x11 x12).2)) then
   (F69 ((F59 x1 x2 x3 x4 x5 x6).1) ((F59 x1 x2 x3 x4 x5 x6).2.1) ((F59 x1 x2 x3 x4 x5 x6).2.2.1) ((F59 x1 x2 x3 x4 x5 x6).2.2.2) ((F59 x7 x8 x9 x10 x11 x12).1) ((F59 x7 x8 x9 x10 x11 x12).2.1) ((F59 x7 x8 x9 x10 x11 x12).2.2.1) ((F59 x7 x8 x9 x10 x11 x12).2.2.2))
  else
   false)
set_option maxRecDepth 100000 in
theorem F26_spec (x1 : Int) (x2 : Int) (x3 : Int) (x4 : Int) (x5 : Int) (x6 : Int) (x7 : Int) (x8 : Int) (x9 : Int) (x10 : Int) (x11 : Int) (x12 : Int) (h : AHeap)  (r : Bool) : F26 x1 x2 x3 x4 x5 x6 x7 x8 x9 x10 x11 x12 = r → ACalls Try.prog 26 [.agg #[.int .u64 x1, .int .u64 x2, .int .u64 x3, .int .u64 x4, .int .i64 x5, .int .i64 x6], .agg #[.int .u64 x7, .int .u64 x8, .int .u64 x9, .int .u64 x10, .int .i64 x11, .int .i64 x12]] h (fun v' h'' => v' = (.bool r : Value) ∧ h'' = h) := by
  unfold F26
  refine dec_bif (fun c16 => ?_) (fun c16 => ?_)
  · intro hr
    subst hr
    exact pFun_sound good tab_ok (f := 26) (its := [.g, .g, .g, .g, .g, (.c (.agg #[.int .u64 ((F57 x1 x2 x3 x4 x5 x6).1), .int .u64 ((F57 x1 x2 x3 x4 x5 x6).2)]) h), (.c (.agg #[.int .u64 ((F57 x7 x8 x9 x10 x11 x12).1), .int .u64 ((F57 x7 x8 x9 x10 x11 x12).2)]) h), (.c (.bool (F68 ((F57 x1 x2 x3 x4 x5 x6).1) ((F57 x1 x2 x3 x4 x5 x6).2) ((F57 x7 x8 x9 x10 x11 x12).1) ((F57 x7 x8 x9 x10 x11 x12).2))) h), .g, (.w .g), (.w .g), (.w (.c (.agg #[.int .u64 ((F59 x1 x2 x3 x4 x5 x6).1), .int .u64 ((F59 x1 x2 x3 x4 x5 x6).2.1), .int .i64 ((F59 x1 x2 x3 x4 x5 x6).2.2.1), .int .i64 ((F59 x1 x2 x3 x4 x5 x6).2.2.2)]) h)), (.w (.c (.agg #[.int .u64 ((F59 x7 x8 x9 x10 x11 x12).1), .int .u64 ((F59 x7 x8 x9 x10 x11 x12).2.1), .int .i64 ((F59 x7 x8 x9 x10 x11 x12).2.2.1), .int .i64 ((F59 x7 x8 x9 x10 x11 x12).2.2.2)]) h)), (.w (.c (.bool (F69 ((F59 x1 x2 x3 x4 x5 x6).1) ((F59 x1 x2 x3 x4 x5 x6).2.1) ((F59 x1 x2 x3 x4 x5 x6).2.2.1) ((F59 x1 x2 x3 x4 x5 x6).2.2.2) ((F59 x7 x8 x9 x10 x11 x12).1) ((F59 x7 x8 x9 x10 x11 x12).2.1) ((F59 x7 x8 x9 x10 x11 x12).2.2.1) ((F59 x7 x8 x9 x10 x11 x12).2.2.2))) h)), (.p true), .g]) (args := [.agg #[.int .u64 x1, .int .u64 x2, .int .u64 x3, .int .u64 x4, .int .i64 x5, .int .i64 x6], .agg #[.int .u64 x7, .int .u64 x8, .int .u64 x9, .int .u64 x10, .int .i64 x11, .int .i64 x12]]) (h := h) (h' := h) (v := .bool (F69 ((F59 x1 x2 x3 x4 x5 x6).1) ((F59 x1 x2 x3 x4 x5 x6).2.1) ((F59 x1 x2 x3 x4 x5 x6).2.2.1) ((F59 x1 x2 x3 x4 x5 x6).2.2.2) ((F59 x7 x8 x9 x10 x11 x12).1) ((F59 x7 x8 x9 x10 x11 x12).2.1) ((F59 x7 x8 x9 x10 x11 x12).2.2.1) ((F59 x7 x8 x9 x10 x11 x12).2.2.2))) (hC := (And.intro c16 (And.intro (show AKeep h h from (AHeap.sub_refl h)) (And.intro (F69_spec ((F59 x1 x2 x3 x4 x5 x6).1) ((F59 x1 x2 x3 x4 x5 x6).2.1) ((F59 x1 x2 x3 x4 x5 x6).2.2.1) ((F59 x1 x2 x3 x4 x5 x6).2.2.2) ((F59 x7 x8 x9 x10 x11 x12).1) ((F59 x7 x8 x9 x10 x11 x12).2.1) ((F59 x7 x8 x9 x10 x11 x12).2.2.1) ((F59 x7 x8 x9 x10 x11 x12).2.2.2) h _ rfl) (And.intro (g_tt c16) (And.intro (show AKeep h h from (AHeap.sub_refl h)) (And.intro (F59_spec x7 x8 x9 x10 x11 x12 h _ rfl) (And.intro (g_tt c16) (And.intro (show AKeep h h from (AHeap.sub_refl h)) (And.intro (F59_spec x1 x2 x3 x4 x5 x6 h _ rfl) (And.intro (g_tt c16) (And.intro (g_tt c16) (And.intro (g_tt c16) (And.intro (show AKeep h h from (AHeap.sub_refl h)) (And.intro (F68_spec ((F57 x1 x2 x3 x4 x5 x6).1) ((F57 x1 x2 x3 x4 x5 x6).2) ((F57 x7 x8 x9 x10 x11 x12).1) ((F57 x7 x8 x9 x10 x11 x12).2) h _ rfl) (And.intro (show AKeep h h from (AHeap.sub_refl h)) (And.intro (F57_spec x7 x8 x9 x10 x11 x12 h _ rfl) (And.intro (show AKeep h h from (AHeap.sub_refl h)) (And.intro (F57_spec x1 x2 x3 x4 x5 x6 h _ rfl) trivial))))))))))))))))))) (hr := by kernel_rfl)
  · intro hr
    subst hr
    exact pFun_sound good tab_ok (f := 26) (its := [.g, .g, .g, .g, .g, (.c (.agg #[.int .u64 ((F57 x1 x2 x3 x4 x5 x6).1), .int .u64 ((F57 x1 x2 x3 x4 x5 x6).2)]) h), (.c (.agg #[.int .u64 ((F57 x7 x8 x9 x10 x11 x12).1), .int .u64 ((F57 x7 x8 x9 x10 x11 x12).2)]) h), (.c (.bool (F68 ((F57 x1 x2 x3 x4 x5 x6).1) ((F57 x1 x2 x3 x4 x5 x6).2) ((F57 x7 x8 x9 x10 x11 x12).1) ((F57 x7 x8 x9 x10 x11 x12).2))) h), .g, .n, .n, .n, .n, .n, (.p false), .g]) (args := [.agg #[.int .u64 x1, .int .u64 x2, .int .u64 x3, .int .u64 x4, .int .i64 x5, .int .i64 x6], .agg #[.int .u64 x7, .int .u64 x8, .int .u64 x9, .int .u64 x10, .int .i64 x11, .int .i64 x12]]) (h := h) (h' := h) (v := .bool false) (hC := (And.intro c16 (And.intro (g_ft c16) (And.intro (g_ft c16) (And.intro (g_ft c16) (And.intro (g_ft c16) (And.intro (g_ft c16) (And.intro (show AKeep h h from (AHeap.sub_refl h)) (And.intro (F68_spec ((F57 x1 x2 x3 x4 x5 x6).1) ((F57 x1 x2 x3 x4 x5 x6).2) ((F57 x7 x8 x9 x10 x11 x12).1) ((F57 x7 x8 x9 x10 x11 x12).2) h _ rfl) (And.intro (show AKeep h h from (AHeap.sub_refl h)) (And.intro (F57_spec x7 x8 x9 x10 x11 x12 h _ rfl) (And.intro (show AKeep h h from (AHeap.sub_refl h)) (And.intro (F57_spec x1 x2 x3 x4 x5 x6 h _ rfl) trivial))))))))))))) (hr := by kernel_rfl)
/-! 7 jacquard/jacquardlaw14.FactsTightens -/
def F7__1 (y10 : Int × Int × Int × Int × Int × Int × Bool) (y12 : Int × Int × Int × Int × Int × Int × Bool) : Bool := (!((y10.1 == y12.1) && ((y10.2.1 == y12.2.1) && ((y10.2.2.1 == y12.2.2.1) && ((y10.2.2.2.1 == y12.2.2.2.1) && ((y10.2.2.2.2.1 == y12.2.2.2.2.1) && ((y10.2.2.2.2.2.1 == y12.2.2.2.2.2.1) && true)))))))
def F7 (x1 : Int) (x2 : Int) (x3 : Int) (x4 : Int) (x5 : Int) (x6 : Int) (x7 : Int) (x8 : Int) : Option (Bool) :=
  (Option.bind (F32 x1 x2 x3 x4 x5 x6 x7) fun y10 =>
  (Option.bind (F33 x1 x2 x3 x4 x5 x6 x7) fun y12 =>
  (bif (F7__1 y10 y12) then
   some (false)
  else
   (bif (!(y10.2.2.2.2.2.2 == y12.2.2.2.2.2.2)) then
    some (false)
   else
    (Option.bind (F23 x1 x2 x3 x4 x5 x6 x7) fun y16 =>
    (bif (!y16) then
     some (!y10.2.2.2.2.2.2)
    else
     (bif (!y10.2.2.2.2.2.2) then
      (Option.bind (F24 x1 x2 x3 x4 x5 x6 x7 x8) fun y20 =>
      some (!y20))
     else
      (bif (F26 y10.1 y10.2.1 y10.2.2.1 y10.2.2.2.1 y10.2.2.2.2.1 y10.2.2.2.2.2.1 x2 x3 x4 x5 x6 x7) then
       (Option.bind (F24 x1 y10.1 y10.2.1 y10.2.2.1 y10.2.2.2.1 y10.2.2.2.2.1 y10.2.2.2.2.2.1 x8) fun y24 =>
       (Option.bind (F24 x1 x2 x3 x4 x5 x6 x7 x8) fun y26 =>
       some (y24 == y26)))
      else
       some (false)))))))))
set_option maxRecDepth 100000 in
theorem F7_spec (x1 : Int) (x2 : Int) (x3 : Int) (x4 : Int) (x5 : Int) (x6 : Int) (x7 : Int) (x8 : Int) (h : AHeap)  (r : Bool) : F7 x1 x2 x3 x4 x5 x6 x7 x8 = some r → ACalls Try.prog 7 [.int .i64 x1, .agg #[.int .u64 x2, .int .u64 x3, .int .u64 x4, .int .u64 x5, .int .i64 x6, .int .i64 x7], .int .u64 x8] h (fun v' h'' => v' = (.bool r : Value) ∧ h'' = h) := by
  unfold F7
  refine bind_opt fun y10 e10 => ?_
  refine bind_opt fun y12 e12 => ?_
  refine dec_bif (fun c14 => ?_) (fun c14 => ?_)
  · intro hr
    obtain rfl := Option.some.inj hr
    exact pFun_sound good tab_ok (f := 7) (its := [.g, .g, (.c (.bool true) h), .g, (.b false), .g, .g, (.c (.tuple #[.agg #[.int .u64 y10.1, .int .u64 y10.2.1, .int .u64 y10.2.2.1, .int .u64 y10.2.2.2.1, .int .i64 y10.2.2.2.2.1, .int .i64 y10.2.2.2.2.2.1], .bool y10.2.2.2.2.2.2]) h), .g, .g, .g, .g, .g, .g, .g, .g, (.c (.tuple #[.agg #[.int .u64 y12.1, .int .u64 y12.2.1, .int .u64 y12.2.2.1, .int .u64 y12.2.2.2.1, .int .i64 y12.2.2.2.2.1, .int .i64 y12.2.2.2.2.2.1], .bool y12.2.2.2.2.2.2]) h), .g, .g, .g, .g, .g, .g, .g, .g, (.eq ((y10.1 == y12.1) && ((y10.2.1 == y12.2.1) && ((y10.2.2.1 == y12.2.2.1) && ((y10.2.2.2.1 == y12.2.2.2.1) && ((y10.2.2.2.2.1 == y12.2.2.2.2.1) && ((y10.2.2.2.2.2.1 == y12.2.2.2.2.2.1) && true))))))), .g, .n, .n, .n, (.p true), (.b true), .g]) (args := [.int .i64 x1, .agg #[.int .u64 x2, .int .u64 x3, .int .u64 x4, .int .u64 x5, .int .i64 x6, .int .i64 x7], .int .u64 x8]) (h := h) (h' := h) (v := .bool false) (hC := (And.intro l_t (And.intro c14 (And.intro (g_tf c14) (And.intro (g_tf c14) (And.intro (g_tf c14) (And.intro (show aggEq Try.prog 41 #[.int .u64 y10.1, .int .u64 y10.2.1, .int .u64 y10.2.2.1, .int .u64 y10.2.2.2.1, .int .i64 y10.2.2.2.2.1, .int .i64 y10.2.2.2.2.2.1] #[.int .u64 y12.1, .int .u64 y12.2.1, .int .u64 y12.2.2.1, .int .u64 y12.2.2.2.1, .int .i64 y12.2.2.2.2.1, .int .i64 y12.2.2.2.2.2.1] = some ((y10.1 == y12.1) && ((y10.2.1 == y12.2.1) && ((y10.2.2.1 == y12.2.2.1) && ((y10.2.2.2.1 == y12.2.2.2.1) && ((y10.2.2.2.2.1 == y12.2.2.2.2.1) && ((y10.2.2.2.2.2.1 == y12.2.2.2.2.2.1) && true)))))) by kernel_rfl) (And.intro (F33_spec x1 x2 x3 x4 x5 x6 x7 h _ e12) (And.intro (F32_spec x1 x2 x3 x4 x5 x6 x7 h _ e10) (And.intro l_f (And.intro (F17_spec h _ rfl) trivial))))))))))) (hr := by kernel_rfl)
  · refine dec_bif (fun c15 => ?_) (fun c15 => ?_)
    · intro hr
      obtain rfl := Option.some.inj hr
      exact pFun_sound good tab_ok (f := 7) (its := [.g, .g, (.c (.bool true) h), .g, (.b false), .g, .g, (.c (.tuple #[.agg #[.int .u64 y10.1, .int .u64 y10.2.1, .int .u64 y10.2.2.1, .int .u64 y10.2.2.2.1, .int .i64 y10.2.2.2.2.1, .int .i64 y10.2.2.2.2.2.1], .bool y10.2.2.2.2.2.2]) h), .g, .g, .g, .g, .g, .g, .g, .g, (.c (.tuple #[.agg #[.int .u64 y12.1, .int .u64 y12.2.1, .int .u64 y12.2.2.1, .int .u64 y12.2.2.2.1, .int .i64 y12.2.2.2.2.1, .int .i64 y12.2.2.2.2.2.1], .bool y12.2.2.2.2.2.2]) h), .g, .g, .g, .g, .g, .g, .g, .g, (.eq ((y10.1 == y12.1) && ((y10.2.1 == y12.2.1) && ((y10.2.2.1 == y12.2.2.1) && ((y10.2.2.2.1 == y12.2.2.2.1) && ((y10.2.2.2.2.1 == y12.2.2.2.2.1) && ((y10.2.2.2.2.2.1 == y12.2.2.2.2.2.1) && true))))))), .g, (.w .g), (.w .g), (.w .g), (.p false), (.b true), .g]) (args := [.int .i64 x1, .agg #[.int .u64 x2, .int .u64 x3, .int .u64 x4, .int .u64 x5, .int .i64 x6, .int .i64 x7], .int .u64 x8]) (h := h) (h' := h) (v := .bool false) (hC := (And.intro c15 (And.intro c14 (And.intro (g_ff c14) (And.intro (g_ff c14) (And.intro (g_ff c14) (And.intro (show aggEq Try.prog 41 #[.int .u64 y10.1, .int .u64 y10.2.1, .int .u64 y10.2.2.1, .int .u64 y10.2.2.2.1, .int .i64 y10.2.2.2.2.1, .int .i64 y10.2.2.2.2.2.1] #[.int .u64 y12.1, .int .u64 y12.2.1, .int .u64 y12.2.2.1, .int .u64 y12.2.2.2.1, .int .i64 y12.2.2.2.2.1, .int .i64 y12.2.2.2.2.2.1] = some ((y10.1 == y12.1) && ((y10.2.1 == y12.2.1) && ((y10.2.2.1 == y12.2.2.1) && ((y10.2.2.2.1 == y12.2.2.2.1) && ((y10.2.2.2.2.1 == y12.2.2.2.2.1) && ((y10.2.2.2.2.2.1 == y12.2.2.2.2.2.1) && true)))))) by kernel_rfl) (And.intro (F33_spec x1 x2 x3 x4 x5 x6 x7 h _ e12) (And.intro (F32_spec x1 x2 x3 x4 x5 x6 x7 h _ e10) (And.intro l_f (And.intro (F17_spec h _ rfl) trivial))))))))))) (hr := by kernel_rfl)
    · refine bind_opt fun y16 e16 => ?_
      refine dec_bif (fun c18 => ?_) (fun c18 => ?_)
      · intro hr
        obtain rfl := Option.some.inj hr
        exact pFun_sound good tab_ok (f := 7) (its := [.g, .g, (.c (.bool true) h), .g, (.b false), .g, .g, (.c (.tuple #[.agg #[.int .u64 y10.1, .int .u64 y10.2.1, .int .u64 y10.2.2.1, .int .u64 y10.2.2.2.1, .int .i64 y10.2.2.2.2.1, .int .i64 y10.2.2.2.2.2.1], .bool y10.2.2.2.2.2.2]) h), .g, .g, .g, .g, .g, .g, .g, .g, (.c (.tuple #[.agg #[.int .u64 y12.1, .int .u64 y12.2.1, .int .u64 y12.2.2.1, .int .u64 y12.2.2.2.1, .int .i64 y12.2.2.2.2.1, .int .i64 y12.2.2.2.2.2.1], .bool y12.2.2.2.2.2.2]) h), .g, .g, .g, .g, .g, .g, .g, .g, (.eq ((y10.1 == y12.1) && ((y10.2.1 == y12.2.1) && ((y10.2.2.1 == y12.2.2.1) && ((y10.2.2.2.1 == y12.2.2.2.1) && ((y10.2.2.2.2.1 == y12.2.2.2.2.1) && ((y10.2.2.2.2.2.1 == y12.2.2.2.2.2.1) && true))))))), .g, (.w .g), (.w .g), (.w .g), (.p false), (.b false), .g, .g, (.c (.bool y16) h), .g, (.b true), .g, .g, .g]) (args := [.int .i64 x1, .agg #[.int .u64 x2, .int .u64 x3, .int .u64 x4, .int .u64 x5, .int .i64 x6, .int .i64 x7], .int .u64 x8]) (h := h) (h' := h) (v := .bool (!y10.2.2.2.2.2.2)) (hC := (And.intro c18 (And.intro (F23_spec x1 x2 x3 x4 x5 x6 x7 h _ e16) (And.intro c15 (And.intro c14 (And.intro (g_ff c14) (And.intro (g_ff c14) (And.intro (g_ff c14) (And.intro (show aggEq Try.prog 41 #[.int .u64 y10.1, .int .u64 y10.2.1, .int .u64 y10.2.2.1, .int .u64 y10.2.2.2.1, .int .i64 y10.2.2.2.2.1, .int .i64 y10.2.2.2.2.2.1] #[.int .u64 y12.1, .int .u64 y12.2.1, .int .u64 y12.2.2.1, .int .u64 y12.2.2.2.1, .int .i64 y12.2.2.2.2.1, .int .i64 y12.2.2.2.2.2.1] = some ((y10.1 == y12.1) && ((y10.2.1 == y12.2.1) && ((y10.2.2.1 == y12.2.2.1) && ((y10.2.2.2.1 == y12.2.2.2.1) && ((y10.2.2.2.2.1 == y12.2.2.2.2.1) && ((y10.2.2.2.2.2.1 == y12.2.2.2.2.2.1) && true)))))) by kernel_rfl) (And.intro (F33_spec x1 x2 x3 x4 x5 x6 x7 h _ e12) (And.intro (F32_spec x1 x2 x3 x4 x5 x6 x7 h _ e10) (And.intro l_f (And.intro (F17_spec h _ rfl) trivial))))))))))))) (hr := by kernel_rfl)
      · refine dec_bif (fun c19 => ?_) (fun c19 => ?_)
        · refine bind_opt fun y20 e20 => ?_
          intro hr
          obtain rfl := Option.some.inj hr
          exact pFun_sound good tab_ok (f := 7) (its := [.g, .g, (.c (.bool true) h), .g, (.b false), .g, .g, (.c (.tuple #[.agg #[.int .u64 y10.1, .int .u64 y10.2.1, .int .u64 y10.2.2.1, .int .u64 y10.2.2.2.1, .int .i64 y10.2.2.2.2.1, .int .i64 y10.2.2.2.2.2.1], .bool y10.2.2.2.2.2.2]) h), .g, .g, .g, .g, .g, .g, .g, .g, (.c (.tuple #[.agg #[.int .u64 y12.1, .int .u64 y12.2.1, .int .u64 y12.2.2.1, .int .u64 y12.2.2.2.1, .int .i64 y12.2.2.2.2.1, .int .i64 y12.2.2.2.2.2.1], .bool y12.2.2.2.2.2.2]) h), .g, .g, .g, .g, .g, .g, .g, .g, (.eq ((y10.1 == y12.1) && ((y10.2.1 == y12.2.1) && ((y10.2.2.1 == y12.2.2.1) && ((y10.2.2.2.1 == y12.2.2.2.1) && ((y10.2.2.2.2.1 == y12.2.2.2.2.1) && ((y10.2.2.2.2.2.1 == y12.2.2.2.2.2.1) && true))))))), .g, (.w .g), (.w .g), (.w .g), (.p false), (.b false), .g, .g, (.c (.bool y16) h), .g, (.b false), .g, .g, (.b true), .g, .g, .g, (.c (.bool y20) h), .g, .g]) (args := [.int .i64 x1, .agg #[.int .u64 x2, .int .u64 x3, .int .u64 x4, .int .u64 x5, .int .i64 x6, .int .i64 x7], .int .u64 x8]) (h := h) (h' := h) (v := .bool (!y20)) (hC := (And.intro (F24_spec x1 x2 x3 x4 x5 x6 x7 x8 h _ e20) (And.intro c19 (And.intro c18 (And.intro (F23_spec x1 x2 x3 x4 x5 x6 x7 h _ e16) (And.intro c15 (And.intro c14 (And.intro (g_ff c14) (And.intro (g_ff c14) (And.intro (g_ff c14) (And.intro (show aggEq Try.prog 41 #[.int .u64 y10.1, .int .u64 y10.2.1, .int .u64 y10.2.2.1, .int .u64 y10.2.2.2.1, .int .i64 y10.2.2.2.2.1, .int .i64 y10.2.2.2.2.2.1] #[.int .u64 y12.1, .int .u64 y12.2.1, .int .u64 y12.2.2.1, .int .u64 y12.2.2.2.1, .int .i64 y12.2.2.2.2.1, .int .i64 y12.2.2.2.2.2.1] = some ((y10.1 == y12.1) && ((y10.2.1 == y12.2.1) && ((y10.2.2.1 == y12.2.2.1) && ((y10.2.2.2.1 == y12.2.2.2.1) && ((y10.2.2.2.2.1 == y12.2.2.2.2.1) && ((y10.2.2.2.2.2.1 == y12.2.2.2.2.2.1) && true)))))) by kernel_rfl) (And.intro (F33_spec x1 x2 x3 x4 x5 x6 x7 h _ e12) (And.intro (F32_spec x1 x2 x3 x4 x5 x6 x7 h _ e10) (And.intro l_f (And.intro (F17_spec h _ rfl) trivial))))))))))))))) (hr := by kernel_rfl)
        · refine dec_bif (fun c23 => ?_) (fun c23 => ?_)
          · refine bind_opt fun y24 e24 => ?_
            refine bind_opt fun y26 e26 => ?_
            intro hr
            obtain rfl := Option.some.inj hr
            exact pFun_sound good tab_ok (f := 7) (its := [.g, .g, (.c (.bool true) h), .g, (.b false), .g, .g, (.c (.tuple #[.agg #[.int .u64 y10.1, .int .u64 y10.2.1, .int .u64 y10.2.2.1, .int .u64 y10.2.2.2.1, .int .i64 y10.2.2.2.2.1, .int .i64 y10.2.2.2.2.2.1], .bool y10.2.2.2.2.2.2]) h), .g, .g, .g, .g, .g, .g, .g, .g, (.c (.tuple #[.agg #[.int .u64 y12.1, .int .u64 y12.2.1, .int .u64 y12.2.2.1, .int .u64 y12.2.2.2.1, .int .i64 y12.2.2.2.2.1, .int .i64 y12.2.2.2.2.2.1], .bool y12.2.2.2.2.2.2]) h), .g, .g, .g, .g, .g, .g, .g, .g, (.eq ((y10.1 == y12.1) && ((y10.2.1 == y12.2.1) && ((y10.2.2.1 == y12.2.2.1) && ((y10.2.2.2.1 == y12.2.2.2.1) && ((y10.2.2.2.2.1 == y12.2.2.2.2.1) && ((y10.2.2.2.2.2.1 == y12.2.2.2.2.2.1) && true))))))), .g, (.w .g), (.w .g), (.w .g), (.p false), (.b false), .g, .g, (.c (.bool y16) h), .g, (.b false), .g, .g, (.b false), .g, .g, (.c (.bool (F26 y10.1 y10.2.1 y10.2.2.1 y10.2.2.2.1 y10.2.2.2.2.1 y10.2.2.2.2.2.1 x2 x3 x4 x5 x6 x7)) h), .g, (.w .g), (.w .g), (.w .g), (.w .g), (.w .g), (.w .g), (.w (.c (.bool y24) h)), (.w (.c (.bool y26) h)), (.w .g), (.p true), .g]) (args := [.int .i64 x1, .agg #[.int .u64 x2, .int .u64 x3, .int .u64 x4, .int .u64 x5, .int .i64 x6, .int .i64 x7], .int .u64 x8]) (h := h) (h' := h) (v := .bool (y24 == y26)) (hC := (And.intro c23 (And.intro (g_tt c23) (And.intro (show AKeep h h from (AHeap.sub_refl h)) (And.intro (F24_spec x1 x2 x3 x4 x5 x6 x7 x8 h _ e26) (And.intro (g_tt c23) (And.intro (show AKeep h h from (AHeap.sub_refl h)) (And.intro (F24_spec x1 y10.1 y10.2.1 y10.2.2.1 y10.2.2.2.1 y10.2.2.2.2.1 y10.2.2.2.2.2.1 x8 h _ e24) (And.intro (g_tt c23) (And.intro (g_tt c23) (And.intro (g_tt c23) (And.intro (g_tt c23) (And.intro (g_tt c23) (And.intro (g_tt c23) (And.intro (g_tt c23) (And.intro (show AKeep h h from (AHeap.sub_refl h)) (And.intro (F26_spec y10.1 y10.2.1 y10.2.2.1 y10.2.2.2.1 y10.2.2.2.2.1 y10.2.2.2.2.2.1 x2 x3 x4 x5 x6 x7 h _ rfl) (And.intro c19 (And.intro c18 (And.intro (F23_spec x1 x2 x3 x4 x5 x6 x7 h _ e16) (And.intro c15 (And.intro c14 (And.intro (g_ff c14) (And.intro (g_ff c14) (And.intro (g_ff c14) (And.intro (show aggEq Try.prog 41 #[.int .u64 y10.1, .int .u64 y10.2.1, .int .u64 y10.2.2.1, .int .u64 y10.2.2.2.1, .int .i64 y10.2.2.2.2.1, .int .i64 y10.2.2.2.2.2.1] #[.int .u64 y12.1, .int .u64 y12.2.1, .int .u64 y12.2.2.1, .int .u64 y12.2.2.2.1, .int .i64 y12.2.2.2.2.1, .int .i64 y12.2.2.2.2.2.1] = some ((y10.1 == y12.1) && ((y10.2.1 == y12.2.1) && ((y10.2.2.1 == y12.2.2.1) && ((y10.2.2.2.1 == y12.2.2.2.1) && ((y10.2.2.2.2.1 == y12.2.2.2.2.1) && ((y10.2.2.2.2.2.1 == y12.2.2.2.2.2.1) && true)))))) by kernel_rfl) (And.intro (F33_spec x1 x2 x3 x4 x5 x6 x7 h _ e12) (And.intro (F32_spec x1 x2 x3 x4 x5 x6 x7 h _ e10) (And.intro l_f (And.intro (F17_spec h _ rfl) trivial)))))))))))))))))))))))))))))) (hr := by kernel_rfl)
          · intro hr
            obtain rfl := Option.some.inj hr
            exact pFun_sound good tab_ok (f := 7) (its := [.g, .g, (.c (.bool true) h), .g, (.b false), .g, .g, (.c (.tuple #[.agg #[.int .u64 y10.1, .int .u64 y10.2.1, .int .u64 y10.2.2.1, .int .u64 y10.2.2.2.1, .int .i64 y10.2.2.2.2.1, .int .i64 y10.2.2.2.2.2.1], .bool y10.2.2.2.2.2.2]) h), .g, .g, .g, .g, .g, .g, .g, .g, (.c (.tuple #[.agg #[.int .u64 y12.1, .int .u64 y12.2.1, .int .u64 y12.2.2.1, .int .u64 y12.2.2.2.1, .int .i64 y12.2.2.2.2.1, .int .i64 y12.2.2.2.2.2.1], .bool y12.2.2.2.2.2.2]) h), .g, .g, .g, .g, .g, .g, .g, .g, (.eq ((y10.1 == y12.1) && ((y10.2.1 == y12.2.1) && ((y10.2.2.1 == y12.2.2.1) && ((y10.2.2.2.1 == y12.2.2.2.1) && ((y10.2.2.2.2.1 == y12.2.2.2.2.1) && ((y10.2.2.2.2.2.1 == y12.2.2.2.2.2.1) && true))))))), .g, (.w .g), (.w .g), (.w .g), (.p false), (.b false), .g, .g, (.c (.bool y16) h), .g, (.b false), .g, .g, (.b false), .g, .g, (.c (.bool (F26 y10.1 y10.2.1 y10.2.2.1 y10.2.2.2.1 y10.2.2.2.2.1 y10.2.2.2.2.2.1 x2 x3 x4 x5 x6 x7)) h), .g, .n, .n, .n, .n, .n, .n, .n, .n, .n, (.p false), .g]) (args := [.int .i64 x1, .agg #[.int .u64 x2, .int .u64 x3, .int .u64 x4, .int .u64 x5, .int .i64 x6, .int .i64 x7], .int .u64 x8]) (h := h) (h' := h) (v := .bool false) (hC := (And.intro c23 (And.intro (g_ft c23) (And.intro (g_ft c23) (And.intro (g_ft c23) (And.intro (g_ft c23) (And.intro (g_ft c23) (And.intro (g_ft c23) (And.intro (g_ft c23) (And.intro (g_ft c23) (And.intro (g_ft c23) (And.intro (show AKeep h h from (AHeap.sub_refl h)) (And.intro (F26_spec y10.1 y10.2.1 y10.2.2.1 y10.2.2.2.1 y10.2.2.2.2.1 y10.2.2.2.2.2.1 x2 x3 x4 x5 x6 x7 h _ rfl) (And.intro c19 (And.intro c18 (And.intro (F23_spec x1 x2 x3 x4 x5 x6 x7 h _ e16) (And.intro c15 (And.intro c14 (And.intro (g_ff c14) (And.intro (g_ff c14) (And.intro (g_ff c14) (And.intro (show aggEq Try.prog 41 #[.int .u64 y10.1, .int .u64 y10.2.1, .int .u64 y10.2.2.1, .int .u64 y10.2.2.2.1, .int .i64 y10.2.2.2.2.1, .int .i64 y10.2.2.2.2.2.1] #[.int .u64 y12.1, .int .u64 y12.2.1, .int .u64 y12.2.2.1, .int .u64 y12.2.2.2.1, .int .i64 y12.2.2.2.2.1, .int .i64 y12.2.2.2.2.2.1] = some ((y10.1 == y12.1) && ((y10.2.1 == y12.2.1) && ((y10.2.2.1 == y12.2.2.1) && ((y10.2.2.2.1 == y12.2.2.2.1) && ((y10.2.2.2.2.1 == y12.2.2.2.2.1) && ((y10.2.2.2.2.2.1 == y12.2.2.2.2.2.1) && true)))))) by kernel_rfl) (And.intro (F33_spec x1 x2 x3 x4 x5 x6 x7 h _ e12) (And.intro (F32_spec x1 x2 x3 x4 x5 x6 x7 h _ e10) (And.intro l_f (And.intro (F17_spec h _ rfl) trivial)))))))))))))))))))))))))) (hr := by kernel_rfl)
set_option maxRecDepth 100000 in
theorem F7_law (H : ∀ (x1 : Int) (x2 : Int) (x3 : Int) (x4 : Int) (x5 : Int) (x6 : Int) (x7 : Int) (x8 : Int), (Lit.int .i64 x1).wf = true → (Lit.int .u64 x2).wf = true → (Lit.int .u64 x3).wf = true → (Lit.int .u64 x4).wf = true → (Lit.int .u64 x5).wf = true → (Lit.int .i64 x6).wf = true → (Lit.int .i64 x7).wf = true → (Lit.int .u64 x8).wf = true → F7 x1 x2 x3 x4 x5 x6 x7 x8 = some true) : Law Try.prog 7 10 [3, 41, 39] := by
  intro s us hwf hro hT0
  obtain ⟨u0, vs0, rfl, t0, hT1⟩ := wts_cons hT0
  have k0 := wtv_oneS 1 (ks := [.int .i64]) (by kernel_rfl) (by kernel_rfl) t0
  obtain ⟨x1, r_x1, e_x1, w_x1, k0_0⟩ := sq_int k0
  obtain ⟨rfl, rfl⟩ := List.cons.inj e_x1
  have k0_0' := sq_nil k0_0
  obtain ⟨u1, vs1, rfl, t1, hT2⟩ := wts_cons hT1
  obtain ⟨cs1, rfl, k1⟩ := wtv_aggS 2 (ks := [.int .u64, .int .u64, .int .u64, .int .u64, .int .i64, .int .i64]) (by kernel_rfl) (by kernel_rfl) t1
  obtain ⟨x2, r_x2, rfl, w_x2, k1_0⟩ := sq_int k1
  obtain ⟨x3, r_x3, rfl, w_x3, k1_1⟩ := sq_int k1_0
  obtain ⟨x4, r_x4, rfl, w_x4, k1_2⟩ := sq_int k1_1
  obtain ⟨x5, r_x5, rfl, w_x5, k1_3⟩ := sq_int k1_2
  obtain ⟨x6, r_x6, rfl, w_x6, k1_4⟩ := sq_int k1_3
  obtain ⟨x7, r_x7, rfl, w_x7, k1_5⟩ := sq_int k1_4
  obtain rfl := sq_nil k1_5
  obtain ⟨u2, vs2, rfl, t2, hT3⟩ := wts_cons hT2
  have k2 := wtv_oneS 1 (ks := [.int .u64]) (by kernel_rfl) (by kernel_rfl) t2
  obtain ⟨x8, r_x8, e_x8, w_x8, k2_0⟩ := sq_int k2
  obtain ⟨rfl, rfl⟩ := List.cons.inj e_x8
  have k2_0' := sq_nil k2_0
  obtain rfl := wts_nil hT3
  refine (F7_spec x1 x2 x3 x4 x5 x6 x7 x8 s  _ (H x1 x2 x3 x4 x5 x6 x7 x8 w_x1 w_x2 w_x3 w_x4 w_x5 w_x6 w_x7 w_x8)).mono ?_
  rintro v h' ⟨rfl, rfl⟩
  rfl
/-! 49 jacquard/interval.Top -/
def F49 (x1 : Int) : Option (Int × Int × Int × Int) :=
  (bif (!(F92 x1)) then
   some (0, 0, 0, 0)
  else
   (Option.bind (F79 x1) fun y4 =>
   (Option.bind (F93 x1) fun y6 =>
   (Option.bind (F94 x1) fun y8 =>
   some (0, y4, y6, y8)))))
set_option maxRecDepth 100000 in
theorem F49_spec (x1 : Int) (h : AHeap)  (r : Int × Int × Int × Int) : F49 x1 = some r → ACalls Try.prog 49 [.int .i64 x1] h (fun v' h'' => v' = (.agg #[.int .u64 r.1, .int .u64 r.2.1, .int .i64 r.2.2.1, .int .i64 r.2.2.2] : Value) ∧ h'' = h) := by
  unfold F49
  refine dec_bif (fun c3 => ?_) (fun c3 => ?_)
  · intro hr
    obtain rfl := Option.some.inj hr
    exact pFun_sound good tab_ok (f := 49) (its := [.g, .g, (.c (.bool (F92 x1)) h), .g, (.b true), .g, .g]) (args := [.int .i64 x1]) (h := h) (h' := h) (v := .agg #[.int .u64 0, .int .u64 0, .int .i64 0, .int .i64 0]) (hC := (And.intro c3 (And.intro (F92_spec x1 h _ rfl) trivial))) (hr := by kernel_rfl)
  · refine bind_opt fun y4 e4 => ?_
    refine bind_opt fun y6 e6 => ?_
    refine bind_opt fun y8 e8 => ?_
    intro hr
    obtain rfl := Option.some.inj hr
    exact pFun_sound good tab_ok (f := 49) (its := [.g, .g, (.c (.bool (F92 x1)) h), .g, (.b false), .g, (.c (.int .u64 y4) h), .g, (.c (.int .i64 y6) h), .g, (.c (.int .i64 y8) h), .g, .g]) (args := [.int .i64 x1]) (h := h) (h' := h) (v := .agg #[.int .u64 0, .int .u64 y4, .int .i64 y6, .int .i64 y8]) (hC := (And.intro (F94_spec x1 h _ e8) (And.intro (F93_spec x1 h _ e6) (And.intro (F79_spec x1 h _ e4) (And.intro c3 (And.intro (F92_spec x1 h _ rfl) trivial)))))) (hr := by kernel_rfl)
/-! 18 jacquard/facts.Top -/
def F18 (x1 : Int) : Option (Int × Int × Int × Int × Int × Int) :=
  (Option.bind (F49 x1) fun y2 =>
  some (((F48 0 0 y2.1 y2.2.1 y2.2.2.1 y2.2.2.2).1), ((F48 0 0 y2.1 y2.2.1 y2.2.2.1 y2.2.2.2).2.1), ((F48 0 0 y2.1 y2.2.1 y2.2.2.1 y2.2.2.2).2.2.1), ((F48 0 0 y2.1 y2.2.1 y2.2.2.1 y2.2.2.2).2.2.2.1), ((F48 0 0 y2.1 y2.2.1 y2.2.2.1 y2.2.2.2).2.2.2.2.1), ((F48 0 0 y2.1 y2.2.1 y2.2.2.1 y2.2.2.2).2.2.2.2.2)))
set_option maxRecDepth 100000 in
theorem F18_spec (x1 : Int) (h : AHeap)  (r : Int × Int × Int × Int × Int × Int) : F18 x1 = some r → ACalls Try.prog 18 [.int .i64 x1] h (fun v' h'' => v' = (.agg #[.int .u64 r.1, .int .u64 r.2.1, .int .u64 r.2.2.1, .int .u64 r.2.2.2.1, .int .i64 r.2.2.2.2.1, .int .i64 r.2.2.2.2.2] : Value) ∧ h'' = h) := by
  unfold F18
  refine bind_opt fun y2 e2 => ?_
  intro hr
  obtain rfl := Option.some.inj hr
  exact pFun_sound good tab_ok (f := 18) (its := [.g, .g, .g, (.c (.agg #[.int .u64 y2.1, .int .u64 y2.2.1, .int .i64 y2.2.2.1, .int .i64 y2.2.2.2]) h), (.c (.agg #[.int .u64 ((F48 0 0 y2.1 y2.2.1 y2.2.2.1 y2.2.2.2).1), .int .u64 ((F48 0 0 y2.1 y2.2.1 y2.2.2.1 y2.2.2.2).2.1), .int .u64 ((F48 0 0 y2.1 y2.2.1 y2.2.2.1 y2.2.2.2).2.2.1), .int .u64 ((F48 0 0 y2.1 y2.2.1 y2.2.2.1 y2.2.2.2).2.2.2.1), .int .i64 ((F48 0 0 y2.1 y2.2.1 y2.2.2.1 y2.2.2.2).2.2.2.2.1), .int .i64 ((F48 0 0 y2.1 y2.2.1 y2.2.2.1 y2.2.2.2).2.2.2.2.2)]) h), .g]) (args := [.int .i64 x1]) (h := h) (h' := h) (v := .agg #[.int .u64 ((F48 0 0 y2.1 y2.2.1 y2.2.2.1 y2.2.2.2).1), .int .u64 ((F48 0 0 y2.1 y2.2.1 y2.2.2.1 y2.2.2.2).2.1), .int .u64 ((F48 0 0 y2.1 y2.2.1 y2.2.2.1 y2.2.2.2).2.2.1), .int .u64 ((F48 0 0 y2.1 y2.2.1 y2.2.2.1 y2.2.2.2).2.2.2.1), .int .i64 ((F48 0 0 y2.1 y2.2.1 y2.2.2.1 y2.2.2.2).2.2.2.2.1), .int .i64 ((F48 0 0 y2.1 y2.2.1 y2.2.2.1 y2.2.2.2).2.2.2.2.2)]) (hC := (And.intro (F48_spec 0 0 y2.1 y2.2.1 y2.2.2.1 y2.2.2.2 h _ rfl) (And.intro (F49_spec x1 h _ e2) trivial))) (hr := by kernel_rfl)
/-! 51 jacquard/jacquardref13.Top -/
def F51 (x1 : Int) : Option (Int × Int × Int × Int) :=
  (bif decide (x1 < 1) then
   some (0, 0, 0, 0)
  else
   (bif decide (x1 > 64) then
    some (0, 0, 0, 0)
   else
    (Option.bind (F95 x1) fun y4 =>
    (Option.bind (F96 x1) fun y6 =>
    (Option.bind (F97 x1) fun y8 =>
    some (0, y4, y6, y8))))))
set_option maxRecDepth 100000 in
theorem F51_spec (x1 : Int) (h : AHeap)  (r : Int × Int × Int × Int) : F51 x1 = some r → ACalls Try.prog 51 [.int .i64 x1] h (fun v' h'' => v' = (.agg #[.int .u64 r.1, .int .u64 r.2.1, .int .i64 r.2.2.1, .int .i64 r.2.2.2] : Value) ∧ h'' = h) := by
  unfold F51
  refine dec_bif (fun c2 => ?_) (fun c2 => ?_)
  · intro hr
    obtain rfl := Option.some.inj hr
    exact pFun_sound good tab_ok (f := 51) (its := [.g, .g, .g, .g, .n, .n, (.p true), (.b true), .g, .g]) (args := [.int .i64 x1]) (h := h) (h' := h) (v := .agg #[.int .u64 0, .int .u64 0, .int .i64 0, .int .i64 0]) (hC := (And.intro l_t (And.intro c2 (And.intro (g_tf c2) (And.intro (g_tf c2) trivial))))) (hr := by kernel_rfl)
  · refine dec_bif (fun c3 => ?_) (fun c3 => ?_)
    · intro hr
      obtain rfl := Option.some.inj hr
      exact pFun_sound good tab_ok (f := 51) (its := [.g, .g, .g, .g, (.w .g), (.w .g), (.p false), (.b true), .g, .g]) (args := [.int .i64 x1]) (h := h) (h' := h) (v := .agg #[.int .u64 0, .int .u64 0, .int .i64 0, .int .i64 0]) (hC := (And.intro c3 (And.intro c2 (And.intro (g_ff c2) (And.intro (g_ff c2) trivial))))) (hr := by kernel_rfl)
    · refine bind_opt fun y4 e4 => ?_
      refine bind_opt fun y6 e6 => ?_
      refine bind_opt fun y8 e8 => ?_
      intro hr
      obtain rfl := Option.some.inj hr
      exact pFun_sound good tab_ok (f := 51) (its := [.g, .g, .g, .g, (.w .g), (.w .g), (.p false), (.b false), .g, (.c (.int .u64 y4) h), .g, (.c (.int .i64 y6) h), .g, (.c (.int .i64 y8) h), .g, .g]) (args := [.int .i64 x1]) (h := h) (h' := h) (v := .agg #[.int .u64 0, .int .u64 y4, .int .i64 y6, .int .i64 y8]) (hC := (And.intro (F97_spec x1 h _ e8) (And.intro (F96_spec x1 h _ e6) (And.intro (F95_spec x1 h _ e4) (And.intro c3 (And.intro c2 (And.intro (g_ff c2) (And.intro (g_ff c2) trivial)))))))) (hr := by kernel_rfl)
/-! 19 jacquard/jacquardref14.Top -/
def F19 (x1 : Int) : Option (Int × Int × Int × Int × Int × Int) :=
  (Option.bind (F51 x1) fun y2 =>
  some (((F50 0 0 y2.1 y2.2.1 y2.2.2.1 y2.2.2.2).1), ((F50 0 0 y2.1 y2.2.1 y2.2.2.1 y2.2.2.2).2.1), ((F50 0 0 y2.1 y2.2.1 y2.2.2.1 y2.2.2.2).2.2.1), ((F50 0 0 y2.1 y2.2.1 y2.2.2.1 y2.2.2.2).2.2.2.1), ((F50 0 0 y2.1 y2.2.1 y2.2.2.1 y2.2.2.2).2.2.2.2.1), ((F50 0 0 y2.1 y2.2.1 y2.2.2.1 y2.2.2.2).2.2.2.2.2)))
set_option maxRecDepth 100000 in
theorem F19_spec (x1 : Int) (h : AHeap)  (r : Int × Int × Int × Int × Int × Int) : F19 x1 = some r → ACalls Try.prog 19 [.int .i64 x1] h (fun v' h'' => v' = (.agg #[.int .u64 r.1, .int .u64 r.2.1, .int .u64 r.2.2.1, .int .u64 r.2.2.2.1, .int .i64 r.2.2.2.2.1, .int .i64 r.2.2.2.2.2] : Value) ∧ h'' = h) := by
  unfold F19
  refine bind_opt fun y2 e2 => ?_
  intro hr
  obtain rfl := Option.some.inj hr
  exact pFun_sound good tab_ok (f := 19) (its := [.g, .g, .g, (.c (.agg #[.int .u64 y2.1, .int .u64 y2.2.1, .int .i64 y2.2.2.1, .int .i64 y2.2.2.2]) h), (.c (.agg #[.int .u64 ((F50 0 0 y2.1 y2.2.1 y2.2.2.1 y2.2.2.2).1), .int .u64 ((F50 0 0 y2.1 y2.2.1 y2.2.2.1 y2.2.2.2).2.1), .int .u64 ((F50 0 0 y2.1 y2.2.1 y2.2.2.1 y2.2.2.2).2.2.1), .int .u64 ((F50 0 0 y2.1 y2.2.1 y2.2.2.1 y2.2.2.2).2.2.2.1), .int .i64 ((F50 0 0 y2.1 y2.2.1 y2.2.2.1 y2.2.2.2).2.2.2.2.1), .int .i64 ((F50 0 0 y2.1 y2.2.1 y2.2.2.1 y2.2.2.2).2.2.2.2.2)]) h), .g]) (args := [.int .i64 x1]) (h := h) (h' := h) (v := .agg #[.int .u64 ((F50 0 0 y2.1 y2.2.1 y2.2.2.1 y2.2.2.2).1), .int .u64 ((F50 0 0 y2.1 y2.2.1 y2.2.2.1 y2.2.2.2).2.1), .int .u64 ((F50 0 0 y2.1 y2.2.1 y2.2.2.1 y2.2.2.2).2.2.1), .int .u64 ((F50 0 0 y2.1 y2.2.1 y2.2.2.1 y2.2.2.2).2.2.2.1), .int .i64 ((F50 0 0 y2.1 y2.2.1 y2.2.2.1 y2.2.2.2).2.2.2.2.1), .int .i64 ((F50 0 0 y2.1 y2.2.1 y2.2.2.1 y2.2.2.2).2.2.2.2.2)]) (hC := (And.intro (F50_spec 0 0 y2.1 y2.2.1 y2.2.2.1 y2.2.2.2 h _ rfl) (And.intro (F51_spec x1 h _ e2) trivial))) (hr := by kernel_rfl)
/-! 52 jacquard/knownbits.Of -/
def F52 (x1 : Int) (x2 : Int) : Option (Int × Int) :=
  (bif decide (x1 < 1) then
   some (0, 0)
  else
   (bif decide (x1 > 64) then
    some (0, 0)
   else
    (Option.bind (F98 x1 x2) fun y5 =>
    (Option.bind (F79 x1) fun y7 =>
    some ((IntKind.u64.wrap (((BitVec.ofInt 64 y7 &&& ~~~(BitVec.ofInt 64 y5))).toNat)), y5)))))
set_option maxRecDepth 100000 in
theorem F52_spec (x1 : Int) (x2 : Int) (h : AHeap)  (r : Int × Int) : F52 x1 x2 = some r → ACalls Try.prog 52 [.int .i64 x1, .int .u64 x2] h (fun v' h'' => v' = (.agg #[.int .u64 r.1, .int .u64 r.2] : Value) ∧ h'' = h) := by
  unfold F52
  refine dec_bif (fun c3 => ?_) (fun c3 => ?_)
  · intro hr
    obtain rfl := Option.some.inj hr
    exact pFun_sound good tab_ok (f := 52) (its := [.g, .g, .g, .g, .n, .n, (.p true), (.b true), .g, .g]) (args := [.int .i64 x1, .int .u64 x2]) (h := h) (h' := h) (v := .agg #[.int .u64 0, .int .u64 0]) (hC := (And.intro l_t (And.intro c3 (And.intro (g_tf c3) (And.intro (g_tf c3) trivial))))) (hr := by kernel_rfl)
  · refine dec_bif (fun c4 => ?_) (fun c4 => ?_)
    · intro hr
      obtain rfl := Option.some.inj hr
      exact pFun_sound good tab_ok (f := 52) (its := [.g, .g, .g, .g, (.w .g), (.w .g), (.p false), (.b true), .g, .g]) (args := [.int .i64 x1, .int .u64 x2]) (h := h) (h' := h) (v := .agg #[.int .u64 0, .int .u64 0]) (hC := (And.intro c4 (And.intro c3 (And.intro (g_ff c3) (And.intro (g_ff c3) trivial))))) (hr := by kernel_rfl)
    · refine bind_opt fun y5 e5 => ?_
      refine bind_opt fun y7 e7 => ?_
      intro hr
      obtain rfl := Option.some.inj hr
      exact pFun_sound good tab_ok (f := 52) (its := [.g, .g, .g, .g, (.w .g), (.w .g), (.p false), (.b false), .g, .g, (.c (.int .u64 y5) h), .g, .g, (.c (.int .u64 y7) h), .g, .g, .g, .g, .g]) (args := [.int .i64 x1, .int .u64 x2]) (h := h) (h' := h) (v := .agg #[.int .u64 (IntKind.u64.wrap (((BitVec.ofInt 64 y7 &&& ~~~(BitVec.ofInt 64 y5))).toNat)), .int .u64 y5]) (hC := (And.intro (F79_spec x1 h _ e7) (And.intro (F98_spec x1 x2 h _ e5) (And.intro c4 (And.intro c3 (And.intro (g_ff c3) (And.intro (g_ff c3) trivial))))))) (hr := by kernel_rfl)
/-! 53 jacquard/interval.Of -/
def F53 (x1 : Int) (x2 : Int) : Option (Int × Int × Int × Int) :=
  (bif (!(F92 x1)) then
   some (0, 0, 0, 0)
  else
   (Option.bind (F98 x1 x2) fun y5 =>
   (Option.bind (F80 x1 y5) fun y7 =>
   (Option.bind (F80 x1 y5) fun y9 =>
   some (y5, y5, y7, y9)))))
set_option maxRecDepth 100000 in
theorem F53_spec (x1 : Int) (x2 : Int) (h : AHeap)  (r : Int × Int × Int × Int) : F53 x1 x2 = some r → ACalls Try.prog 53 [.int .i64 x1, .int .u64 x2] h (fun v' h'' => v' = (.agg #[.int .u64 r.1, .int .u64 r.2.1, .int .i64 r.2.2.1, .int .i64 r.2.2.2] : Value) ∧ h'' = h) := by
  unfold F53
  refine dec_bif (fun c4 => ?_) (fun c4 => ?_)
  · intro hr
    obtain rfl := Option.some.inj hr
    exact pFun_sound good tab_ok (f := 53) (its := [.g, .g, (.c (.bool (F92 x1)) h), .g, (.b true), .g, .g]) (args := [.int .i64 x1, .int .u64 x2]) (h := h) (h' := h) (v := .agg #[.int .u64 0, .int .u64 0, .int .i64 0, .int .i64 0]) (hC := (And.intro c4 (And.intro (F92_spec x1 h _ rfl) trivial))) (hr := by kernel_rfl)
  · refine bind_opt fun y5 e5 => ?_
    refine bind_opt fun y7 e7 => ?_
    refine bind_opt fun y9 e9 => ?_
    intro hr
    obtain rfl := Option.some.inj hr
    exact pFun_sound good tab_ok (f := 53) (its := [.g, .g, (.c (.bool (F92 x1)) h), .g, (.b false), .g, .g, (.c (.int .u64 y5) h), .g, .g, .g, .g, .g, (.c (.int .i64 y7) h), .g, .g, (.c (.int .i64 y9) h), .g, .g]) (args := [.int .i64 x1, .int .u64 x2]) (h := h) (h' := h) (v := .agg #[.int .u64 y5, .int .u64 y5, .int .i64 y7, .int .i64 y9]) (hC := (And.intro (F80_spec x1 y5 h _ e9) (And.intro (F80_spec x1 y5 h _ e7) (And.intro (F98_spec x1 x2 h _ e5) (And.intro c4 (And.intro (F92_spec x1 h _ rfl) trivial)))))) (hr := by kernel_rfl)
/-! 20 jacquard/facts.Of -/
def F20 (x1 : Int) (x2 : Int) : Option (Int × Int × Int × Int × Int × Int) :=
  (Option.bind (F52 x1 x2) fun y3 =>
  (Option.bind (F53 x1 x2) fun y5 =>
  some (((F48 y3.1 y3.2 y5.1 y5.2.1 y5.2.2.1 y5.2.2.2).1), ((F48 y3.1 y3.2 y5.1 y5.2.1 y5.2.2.1 y5.2.2.2).2.1), ((F48 y3.1 y3.2 y5.1 y5.2.1 y5.2.2.1 y5.2.2.2).2.2.1), ((F48 y3.1 y3.2 y5.1 y5.2.1 y5.2.2.1 y5.2.2.2).2.2.2.1), ((F48 y3.1 y3.2 y5.1 y5.2.1 y5.2.2.1 y5.2.2.2).2.2.2.2.1), ((F48 y3.1 y3.2 y5.1 y5.2.1 y5.2.2.1 y5.2.2.2).2.2.2.2.2))))
set_option maxRecDepth 100000 in
theorem F20_spec (x1 : Int) (x2 : Int) (h : AHeap)  (r : Int × Int × Int × Int × Int × Int) : F20 x1 x2 = some r → ACalls Try.prog 20 [.int .i64 x1, .int .u64 x2] h (fun v' h'' => v' = (.agg #[.int .u64 r.1, .int .u64 r.2.1, .int .u64 r.2.2.1, .int .u64 r.2.2.2.1, .int .i64 r.2.2.2.2.1, .int .i64 r.2.2.2.2.2] : Value) ∧ h'' = h) := by
  unfold F20
  refine bind_opt fun y3 e3 => ?_
  refine bind_opt fun y5 e5 => ?_
  intro hr
  obtain rfl := Option.some.inj hr
  exact pFun_sound good tab_ok (f := 20) (its := [.g, .g, .g, (.c (.agg #[.int .u64 y3.1, .int .u64 y3.2]) h), .g, .g, (.c (.agg #[.int .u64 y5.1, .int .u64 y5.2.1, .int .i64 y5.2.2.1, .int .i64 y5.2.2.2]) h), (.c (.agg #[.int .u64 ((F48 y3.1 y3.2 y5.1 y5.2.1 y5.2.2.1 y5.2.2.2).1), .int .u64 ((F48 y3.1 y3.2 y5.1 y5.2.1 y5.2.2.1 y5.2.2.2).2.1), .int .u64 ((F48 y3.1 y3.2 y5.1 y5.2.1 y5.2.2.1 y5.2.2.2).2.2.1), .int .u64 ((F48 y3.1 y3.2 y5.1 y5.2.1 y5.2.2.1 y5.2.2.2).2.2.2.1), .int .i64 ((F48 y3.1 y3.2 y5.1 y5.2.1 y5.2.2.1 y5.2.2.2).2.2.2.2.1), .int .i64 ((F48 y3.1 y3.2 y5.1 y5.2.1 y5.2.2.1 y5.2.2.2).2.2.2.2.2)]) h), .g]) (args := [.int .i64 x1, .int .u64 x2]) (h := h) (h' := h) (v := .agg #[.int .u64 ((F48 y3.1 y3.2 y5.1 y5.2.1 y5.2.2.1 y5.2.2.2).1), .int .u64 ((F48 y3.1 y3.2 y5.1 y5.2.1 y5.2.2.1 y5.2.2.2).2.1), .int .u64 ((F48 y3.1 y3.2 y5.1 y5.2.1 y5.2.2.1 y5.2.2.2).2.2.1), .int .u64 ((F48 y3.1 y3.2 y5.1 y5.2.1 y5.2.2.1 y5.2.2.2).2.2.2.1), .int .i64 ((F48 y3.1 y3.2 y5.1 y5.2.1 y5.2.2.1 y5.2.2.2).2.2.2.2.1), .int .i64 ((F48 y3.1 y3.2 y5.1 y5.2.1 y5.2.2.1 y5.2.2.2).2.2.2.2.2)]) (hC := (And.intro (F48_spec y3.1 y3.2 y5.1 y5.2.1 y5.2.2.1 y5.2.2.2 h _ rfl) (And.intro (F53_spec x1 x2 h _ e5) (And.intro (F52_spec x1 x2 h _ e3) trivial)))) (hr := by kernel_rfl)
/-! 54 jacquard/jacquardref12.Of -/
def F54 (x1 : Int) (x2 : Int) : Option (Int × Int) :=
  (Option.bind (F99 x1) fun y3 =>
  (Option.bind (F99 x1) fun y5 =>
  some ((IntKind.u64.wrap (((BitVec.ofInt 64 y3 &&& ~~~(BitVec.ofInt 64 x2))).toNat)), (IntKind.u64.wrap (((BitVec.ofInt 64 x2 &&& BitVec.ofInt 64 y5)).toNat)))))
set_option maxRecDepth 100000 in
theorem F54_spec (x1 : Int) (x2 : Int) (h : AHeap)  (r : Int × Int) : F54 x1 x2 = some r → ACalls Try.prog 54 [.int .i64 x1, .int .u64 x2] h (fun v' h'' => v' = (.agg #[.int .u64 r.1, .int .u64 r.2] : Value) ∧ h'' = h) := by
  unfold F54
  refine bind_opt fun y3 e3 => ?_
  refine bind_opt fun y5 e5 => ?_
  intro hr
  obtain rfl := Option.some.inj hr
  exact pFun_sound good tab_ok (f := 54) (its := [.g, .g, (.c (.int .u64 y3) h), .g, .g, .g, .g, (.c (.int .u64 y5) h), .g, .g, .g]) (args := [.int .i64 x1, .int .u64 x2]) (h := h) (h' := h) (v := .agg #[.int .u64 (IntKind.u64.wrap (((BitVec.ofInt 64 y3 &&& ~~~(BitVec.ofInt 64 x2))).toNat)), .int .u64 (IntKind.u64.wrap (((BitVec.ofInt 64 x2 &&& BitVec.ofInt 64 y5)).toNat))]) (hC := (And.intro (F99_spec x1 h _ e5) (And.intro (F99_spec x1 h _ e3) trivial))) (hr := by kernel_rfl)
/-! 55 jacquard/jacquardref13.Of -/
def F55 (x1 : Int) (x2 : Int) : Option (Int × Int × Int × Int) :=
  (bif decide (x1 < 1) then
   some (0, 0, 0, 0)
  else
   (bif decide (x1 > 64) then
    some (0, 0, 0, 0)
   else
    (Option.bind (F95 x1) fun y5 =>
    (Option.bind (F100 x1 (IntKind.u64.wrap (((BitVec.ofInt 64 x2 &&& BitVec.ofInt 64 y5)).toNat))) fun y7 =>
    some ((IntKind.u64.wrap (((BitVec.ofInt 64 x2 &&& BitVec.ofInt 64 y5)).toNat)), (IntKind.u64.wrap (((BitVec.ofInt 64 x2 &&& BitVec.ofInt 64 y5)).toNat)), y7, y7)))))
set_option maxRecDepth 100000 in
theorem F55_spec (x1 : Int) (x2 : Int) (h : AHeap)  (r : Int × Int × Int × Int) : F55 x1 x2 = some r → ACalls Try.prog 55 [.int .i64 x1, .int .u64 x2] h (fun v' h'' => v' = (.agg #[.int .u64 r.1, .int .u64 r.2.1, .int .i64 r.2.2.1, .int .i64 r.2.2.2] : Value) ∧ h'' = h) := by
  unfold F55
  refine dec_bif (fun c3 => ?_) (fun c3 => ?_)
  · intro hr
    obtain rfl := Option.some.inj hr
    exact pFun_sound good tab_ok (f := 55) (its := [.g, .g, .g, .g, .n, .n, (.p true), (.b true), .g, .g]) (args := [.int .i64 x1, .int .u64 x2]) (h := h) (h' := h) (v := .agg #[.int .u64 0, .int .u64 0, .int .i64 0, .int .i64 0]) (hC := (And.intro l_t (And.intro c3 (And.intro (g_tf c3) (And.intro (g_tf c3) trivial))))) (hr := by kernel_rfl)
  · refine dec_bif (fun c4 => ?_) (fun c4 => ?_)
    · intro hr
      obtain rfl := Option.some.inj hr
      exact pFun_sound good tab_ok (f := 55) (its := [.g, .g, .g, .g, (.w .g), (.w .g), (.p false), (.b true), .g, .g]) (args := [.int .i64 x1, .int .u64 x2]) (h := h) (h' := h) (v := .agg #[.int .u64 0, .int .u64 0, .int .i64 0, .int .i64 0]) (hC := (And.intro c4 (And.intro c3 (And.intro (g_ff c3) (And.intro (g_ff c3) trivial))))) (hr := by kernel_rfl)
    · refine bind_opt fun y5 e5 => ?_
      refine bind_opt fun y7 e7 => ?_
      intro hr
      obtain rfl := Option.some.inj hr
      exact pFun_sound good tab_ok (f := 55) (its := [.g, .g, .g, .g, (.w .g), (.w .g), (.p false), (.b false), .g, .g, (.c (.int .u64 y5) h), .g, .g, .g, .g, (.c (.int .i64 y7) h), .g, .g, .g, .g, .g, .g, .g]) (args := [.int .i64 x1, .int .u64 x2]) (h := h) (h' := h) (v := .agg #[.int .u64 (IntKind.u64.wrap (((BitVec.ofInt 64 x2 &&& BitVec.ofInt 64 y5)).toNat)), .int .u64 (IntKind.u64.wrap (((BitVec.ofInt 64 x2 &&& BitVec.ofInt 64 y5)).toNat)), .int .i64 y7, .int .i64 y7]) (hC := (And.intro (F100_spec x1 (IntKind.u64.wrap (((BitVec.ofInt 64 x2 &&& BitVec.ofInt 64 y5)).toNat)) h _ e7) (And.intro (F95_spec x1 h _ e5) (And.intro c4 (And.intro c3 (And.intro (g_ff c3) (And.intro (g_ff c3) trivial))))))) (hr := by kernel_rfl)
/-! 21 jacquard/jacquardref14.Of -/
def F21 (x1 : Int) (x2 : Int) : Option (Int × Int × Int × Int × Int × Int) :=
  (bif decide (x1 < 1) then
   some (0, 0, 0, 0, 0, 0)
  else
   (bif decide (x1 > 64) then
    some (0, 0, 0, 0, 0, 0)
   else
    (Option.bind (F54 x1 x2) fun y5 =>
    (Option.bind (F55 x1 x2) fun y7 =>
    some (((F50 y5.1 y5.2 y7.1 y7.2.1 y7.2.2.1 y7.2.2.2).1), ((F50 y5.1 y5.2 y7.1 y7.2.1 y7.2.2.1 y7.2.2.2).2.1), ((F50 y5.1 y5.2 y7.1 y7.2.1 y7.2.2.1 y7.2.2.2).2.2.1), ((F50 y5.1 y5.2 y7.1 y7.2.1 y7.2.2.1 y7.2.2.2).2.2.2.1), ((F50 y5.1 y5.2 y7.1 y7.2.1 y7.2.2.1 y7.2.2.2).2.2.2.2.1), ((F50 y5.1 y5.2 y7.1 y7.2.1 y7.2.2.1 y7.2.2.2).2.2.2.2.2))))))
set_option maxRecDepth 100000 in
theorem F21_spec (x1 : Int) (x2 : Int) (h : AHeap)  (r : Int × Int × Int × Int × Int × Int) : F21 x1 x2 = some r → ACalls Try.prog 21 [.int .i64 x1, .int .u64 x2] h (fun v' h'' => v' = (.agg #[.int .u64 r.1, .int .u64 r.2.1, .int .u64 r.2.2.1, .int .u64 r.2.2.2.1, .int .i64 r.2.2.2.2.1, .int .i64 r.2.2.2.2.2] : Value) ∧ h'' = h) := by
  unfold F21
  refine dec_bif (fun c3 => ?_) (fun c3 => ?_)
  · intro hr
    obtain rfl := Option.some.inj hr
    exact pFun_sound good tab_ok (f := 21) (its := [.g, .g, .g, .g, .n, .n, (.p true), (.b true), .g, .g]) (args := [.int .i64 x1, .int .u64 x2]) (h := h) (h' := h) (v := .agg #[.int .u64 0, .int .u64 0, .int .u64 0, .int .u64 0, .int .i64 0, .int .i64 0]) (hC := (And.intro l_t (And.intro c3 (And.intro (g_tf c3) (And.intro (g_tf c3) trivial))))) (hr := by kernel_rfl)
  · refine dec_bif (fun c4 => ?_) (fun c4 => ?_)
    · intro hr
      obtain rfl := Option.some.inj hr
      exact pFun_sound good tab_ok (f := 21) (its := [.g, .g, .g, .g, (.w .g), (.w .g), (.p false), (.b true), .g, .g]) (args := [.int .i64 x1, .int .u64 x2]) (h := h) (h' := h) (v := .agg #[.int .u64 0, .int .u64 0, .int .u64 0, .int .u64 0, .int .i64 0, .int .i64 0]) (hC := (And.intro c4 (And.intro c3 (And.intro (g_ff c3) (And.intro (g_ff c3) trivial))))) (hr := by kernel_rfl)
    · refine bind_opt fun y5 e5 => ?_
      refine bind_opt fun y7 e7 => ?_
      intro hr
      obtain rfl := Option.some.inj hr
      exact pFun_sound good tab_ok (f := 21) (its := [.g, .g, .g, .g, (.w .g), (.w .g), (.p false), (.b false), .g, .g, (.c (.agg #[.int .u64 y5.1, .int .u64 y5.2]) h), .g, .g, (.c (.agg #[.int .u64 y7.1, .int .u64 y7.2.1, .int .i64 y7.2.2.1, .int .i64 y7.2.2.2]) h), (.c (.agg #[.int .u64 ((F50 y5.1 y5.2 y7.1 y7.2.1 y7.2.2.1 y7.2.2.2).1), .int .u64 ((F50 y5.1 y5.2 y7.1 y7.2.1 y7.2.2.1 y7.2.2.2).2.1), .int .u64 ((F50 y5.1 y5.2 y7.1 y7.2.1 y7.2.2.1 y7.2.2.2).2.2.1), .int .u64 ((F50 y5.1 y5.2 y7.1 y7.2.1 y7.2.2.1 y7.2.2.2).2.2.2.1), .int .i64 ((F50 y5.1 y5.2 y7.1 y7.2.1 y7.2.2.1 y7.2.2.2).2.2.2.2.1), .int .i64 ((F50 y5.1 y5.2 y7.1 y7.2.1 y7.2.2.1 y7.2.2.2).2.2.2.2.2)]) h), .g]) (args := [.int .i64 x1, .int .u64 x2]) (h := h) (h' := h) (v := .agg #[.int .u64 ((F50 y5.1 y5.2 y7.1 y7.2.1 y7.2.2.1 y7.2.2.2).1), .int .u64 ((F50 y5.1 y5.2 y7.1 y7.2.1 y7.2.2.1 y7.2.2.2).2.1), .int .u64 ((F50 y5.1 y5.2 y7.1 y7.2.1 y7.2.2.1 y7.2.2.2).2.2.1), .int .u64 ((F50 y5.1 y5.2 y7.1 y7.2.1 y7.2.2.1 y7.2.2.2).2.2.2.1), .int .i64 ((F50 y5.1 y5.2 y7.1 y7.2.1 y7.2.2.1 y7.2.2.2).2.2.2.2.1), .int .i64 ((F50 y5.1 y5.2 y7.1 y7.2.1 y7.2.2.1 y7.2.2.2).2.2.2.2.2)]) (hC := (And.intro (F50_spec y5.1 y5.2 y7.1 y7.2.1 y7.2.2.1 y7.2.2.2 h _ rfl) (And.intro (F55_spec x1 x2 h _ e7) (And.intro (F54_spec x1 x2 h _ e5) (And.intro c4 (And.intro c3 (And.intro (g_ff c3) (And.intro (g_ff c3) trivial)))))))) (hr := by kernel_rfl)
/-! 66 jacquard/jacquardref12.Contains -/
def F66 (x1 : Int) (x2 : Int) (x3 : Int) : Bool :=
  (bif ((IntKind.u64.wrap (((BitVec.ofInt 64 x3 &&& BitVec.ofInt 64 x1)).toNat)) == 0) then
   ((IntKind.u64.wrap (((BitVec.ofInt 64 x3 &&& BitVec.ofInt 64 x2)).toNat)) == x2)
  else
   false)
set_option maxRecDepth 100000 in
theorem F66_spec (x1 : Int) (x2 : Int) (x3 : Int) (h : AHeap)  (r : Bool) : F66 x1 x2 x3 = r → ACalls Try.prog 66 [.agg #[.int .u64 x1, .int .u64 x2], .int .u64 x3] h (fun v' h'' => v' = (.bool r : Value) ∧ h'' = h) := by
  unfold F66
  refine dec_bif (fun c4 => ?_) (fun c4 => ?_)
  · intro hr
    subst hr
    exact pFun_sound good tab_ok (f := 66) (its := [.g, .g, .g, .g, .g, .g, .g, .g, (.w .g), (.w .g), (.w .g), (.w .g), (.w .g), (.w .g), (.w .g), (.p true), .g]) (args := [.agg #[.int .u64 x1, .int .u64 x2], .int .u64 x3]) (h := h) (h' := h) (v := .bool ((IntKind.u64.wrap (((BitVec.ofInt 64 x3 &&& BitVec.ofInt 64 x2)).toNat)) == x2)) (hC := (And.intro c4 (And.intro (g_tt c4) (And.intro (g_tt c4) (And.intro (g_tt c4) (And.intro (g_tt c4) (And.intro (g_tt c4) (And.intro (g_tt c4) (And.intro (g_tt c4) trivial))))))))) (hr := by kernel_rfl)
  · intro hr
    subst hr
    exact pFun_sound good tab_ok (f := 66) (its := [.g, .g, .g, .g, .g, .g, .g, .g, .n, .n, .n, .n, .n, .n, .n, (.p false), .g]) (args := [.agg #[.int .u64 x1, .int .u64 x2], .int .u64 x3]) (h := h) (h' := h) (v := .bool false) (hC := (And.intro c4 (And.intro (g_ft c4) (And.intro (g_ft c4) (And.intro (g_ft c4) (And.intro (g_ft c4) (And.intro (g_ft c4) (And.intro (g_ft c4) (And.intro (g_ft c4) trivial))))))))) (hr := by kernel_rfl)
/-! 67 jacquard/jacquardref13.Contains -/
def F67 (x1 : Int) (x2 : Int) (x3 : Int) (x4 : Int) (x5 : Int) (x6 : Int) : Option (Bool) :=
  (bif decide (x1 < 1) then
   some (false)
  else
   (bif decide (x1 > 64) then
    some (false)
   else
    (Option.bind (F95 x1) fun y9 =>
    (bif decide (x6 > y9) then
     some (false)
    else
     (Option.bind (F100 x1 x6) fun y12 =>
     (bif decide (x6 ≥ x2) then
      (bif decide (x6 ≤ x3) then
       (bif decide (y12 ≥ x4) then
        some (decide (y12 ≤ x5))
       else
        some (false))
      else
       some (false))
     else
      some (false)))))))
set_option maxRecDepth 100000 in
theorem F67_spec (x1 : Int) (x2 : Int) (x3 : Int) (x4 : Int) (x5 : Int) (x6 : Int) (h : AHeap)  (r : Bool) : F67 x1 x2 x3 x4 x5 x6 = some r → ACalls Try.prog 67 [.int .i64 x1, .agg #[.int .u64 x2, .int .u64 x3, .int .i64 x4, .int .i64 x5], .int .u64 x6] h (fun v' h'' => v' = (.bool r : Value) ∧ h'' = h) := by
  unfold F67
  refine dec_bif (fun c7 => ?_) (fun c7 => ?_)
  · intro hr
    obtain rfl := Option.some.inj hr
    exact pFun_sound good tab_ok (f := 67) (its := [.g, .g, .g, .g, .g, .n, .n, (.p true), .g, .n, .n, .n, .n, .g, (.b true), .g]) (args := [.int .i64 x1, .agg #[.int .u64 x2, .int .u64 x3, .int .i64 x4, .int .i64 x5], .int .u64 x6]) (h := h) (h' := h) (v := .bool false) (hC := (And.intro l_t (And.intro (g_tf l_t) (And.intro (g_tf l_t) (And.intro (g_tf l_t) (And.intro (g_tf l_t) (And.intro c7 (And.intro (g_tf c7) (And.intro (g_tf c7) trivial))))))))) (hr := by kernel_rfl)
  · refine dec_bif (fun c8 => ?_) (fun c8 => ?_)
    · intro hr
      obtain rfl := Option.some.inj hr
      exact pFun_sound good tab_ok (f := 67) (its := [.g, .g, .g, .g, .g, (.w .g), (.w .g), (.p false), .g, .n, .n, .n, .n, (.p true), (.b true), .g]) (args := [.int .i64 x1, .agg #[.int .u64 x2, .int .u64 x3, .int .i64 x4, .int .i64 x5], .int .u64 x6]) (h := h) (h' := h) (v := .bool false) (hC := (And.intro l_t (And.intro c8 (And.intro (g_tf c8) (And.intro (g_tf c8) (And.intro (g_tf c8) (And.intro (g_tf c8) (And.intro c7 (And.intro (g_ff c7) (And.intro (g_ff c7) trivial)))))))))) (hr := by kernel_rfl)
    · refine bind_opt fun y9 e9 => ?_
      refine dec_bif (fun c11 => ?_) (fun c11 => ?_)
      · intro hr
        obtain rfl := Option.some.inj hr
        exact pFun_sound good tab_ok (f := 67) (its := [.g, .g, .g, .g, .g, (.w .g), (.w .g), (.p false), .g, (.w .g), (.w .g), (.w (.c (.int .u64 y9) h)), (.w .g), (.p false), (.b true), .g]) (args := [.int .i64 x1, .agg #[.int .u64 x2, .int .u64 x3, .int .i64 x4, .int .i64 x5], .int .u64 x6]) (h := h) (h' := h) (v := .bool false) (hC := (And.intro c11 (And.intro c8 (And.intro (g_ff c8) (And.intro (F95_spec x1 h _ e9) (And.intro (g_ff c8) (And.intro (g_ff c8) (And.intro (g_ff c8) (And.intro c7 (And.intro (g_ff c7) (And.intro (g_ff c7) trivial))))))))))) (hr := by kernel_rfl)
      · refine bind_opt fun y12 e12 => ?_
        refine dec_bif (fun c14 => ?_) (fun c14 => ?_)
        · refine dec_bif (fun c15 => ?_) (fun c15 => ?_)
          · refine dec_bif (fun c16 => ?_) (fun c16 => ?_)
            · intro hr
              obtain rfl := Option.some.inj hr
              exact pFun_sound good tab_ok (f := 67) (its := [.g, .g, .g, .g, .g, (.w .g), (.w .g), (.p false), .g, (.w .g), (.w .g), (.w (.c (.int .u64 y9) h)), (.w .g), (.p false), (.b false), .g, .g, (.c (.int .i64 y12) h), .g, .g, .g, .g, .g, .g, (.w .g), (.w .g), (.w .g), (.w .g), (.p true), .g, (.w .g), (.w .g), (.w .g), (.w .g), (.p true), .g, (.w .g), (.w .g), (.w .g), (.w .g), (.p true), .g]) (args := [.int .i64 x1, .agg #[.int .u64 x2, .int .u64 x3, .int .i64 x4, .int .i64 x5], .int .u64 x6]) (h := h) (h' := h) (v := .bool (decide (y12 ≤ x5))) (hC := (And.intro c16 (And.intro (g_tt c16) (And.intro (g_tt c16) (And.intro (g_tt c16) (And.intro (g_tt c16) (And.intro c15 (And.intro (g_tt c15) (And.intro (g_tt c15) (And.intro (g_tt c15) (And.intro (g_tt c15) (And.intro c14 (And.intro (g_tt c14) (And.intro (g_tt c14) (And.intro (g_tt c14) (And.intro (g_tt c14) (And.intro (F100_spec x1 x6 h _ e12) (And.intro c11 (And.intro c8 (And.intro (g_ff c8) (And.intro (F95_spec x1 h _ e9) (And.intro (g_ff c8) (And.intro (g_ff c8) (And.intro (g_ff c8) (And.intro c7 (And.intro (g_ff c7) (And.intro (g_ff c7) trivial))))))))))))))))))))))))))) (hr := by kernel_rfl)
            · intro hr
              obtain rfl := Option.some.inj hr
              exact pFun_sound good tab_ok (f := 67) (its := [.g, .g, .g, .g, .g, (.w .g), (.w .g), (.p false), .g, (.w .g), (.w .g), (.w (.c (.int .u64 y9) h)), (.w .g), (.p false), (.b false), .g, .g, (.c (.int .i64 y12) h), .g, .g, .g, .g, .g, .g, (.w .g), (.w .g), (.w .g), (.w .g), (.p true), .g, (.w .g), (.w .g), (.w .g), (.w .g), (.p true), .g, .n, .n, .n, .n, (.p false), .g]) (args := [.int .i64 x1, .agg #[.int .u64 x2, .int .u64 x3, .int .i64 x4, .int .i64 x5], .int .u64 x6]) (h := h) (h' := h) (v := .bool false) (hC := (And.intro c16 (And.intro (g_ft c16) (And.intro (g_ft c16) (And.intro (g_ft c16) (And.intro (g_ft c16) (And.intro c15 (And.intro (g_tt c15) (And.intro (g_tt c15) (And.intro (g_tt c15) (And.intro (g_tt c15) (And.intro c14 (And.intro (g_tt c14) (And.intro (g_tt c14) (And.intro (g_tt c14) (And.intro (g_tt c14) (And.intro (F100_spec x1 x6 h _ e12) (And.intro c11 (And.intro c8 (And.intro (g_ff c8) (And.intro (F95_spec x1 h _ e9) (And.intro (g_ff c8) (And.intro (g_ff c8) (And.intro (g_ff c8) (And.intro c7 (And.intro (g_ff c7) (And.intro (g_ff c7) trivial))))))))))))))))))))))))))) (hr := by kernel_rfl)
          · intro hr
            obtain rfl := Option.some.inj hr
            exact pFun_sound good tab_ok (f := 67) (its := [.g, .g, .g, .g, .g, (.w .g), (.w .g), (.p false), .g, (.w .g), (.w .g), (.w (.c (.int .u64 y9) h)), (.w .g), (.p false), (.b false), .g, .g, (.c (.int .i64 y12) h), .g, .g, .g, .g, .g, .g, (.w .g), (.w .g), (.w .g), (.w .g), (.p true), .g, .n, .n, .n, .n, (.p false), .g, .n, .n, .n, .n, .g, .g]) (args := [.int .i64 x1, .agg #[.int .u64 x2, .int .u64 x3, .int .i64 x4, .int .i64 x5], .int .u64 x6]) (h := h) (h' := h) (v := .bool false) (hC := (And.intro (g_ft l_f) (And.intro (g_ft l_f) (And.intro (g_ft l_f) (And.intro (g_ft l_f) (And.intro c15 (And.intro (g_ft c15) (And.intro (g_ft c15) (And.intro (g_ft c15) (And.intro (g_ft c15) (And.intro c14 (And.intro (g_tt c14) (And.intro (g_tt c14) (And.intro (g_tt c14) (And.intro (g_tt c14) (And.intro (F100_spec x1 x6 h _ e12) (And.intro c11 (And.intro c8 (And.intro (g_ff c8) (And.intro (F95_spec x1 h _ e9) (And.intro (g_ff c8) (And.intro (g_ff c8) (And.intro (g_ff c8) (And.intro c7 (And.intro (g_ff c7) (And.intro (g_ff c7) trivial)))))))))))))))))))))))))) (hr := by kernel_rfl)
        · intro hr
          obtain rfl := Option.some.inj hr
          exact pFun_sound good tab_ok (f := 67) (its := [.g, .g, .g, .g, .g, (.w .g), (.w .g), (.p false), .g, (.w .g), (.w .g), (.w (.c (.int .u64 y9) h)), (.w .g), (.p false), (.b false), .g, .g, (.c (.int .i64 y12) h), .g, .g, .g, .g, .g, .g, .n, .n, .n, .n, (.p false), .g, .n, .n, .n, .n, .g, .g, .n, .n, .n, .n, .g, .g]) (args := [.int .i64 x1, .agg #[.int .u64 x2, .int .u64 x3, .int .i64 x4, .int .i64 x5], .int .u64 x6]) (h := h) (h' := h) (v := .bool false) (hC := (And.intro (g_ft l_f) (And.intro (g_ft l_f) (And.intro (g_ft l_f) (And.intro (g_ft l_f) (And.intro (g_ft l_f) (And.intro (g_ft l_f) (And.intro (g_ft l_f) (And.intro (g_ft l_f) (And.intro c14 (And.intro (g_ft c14) (And.intro (g_ft c14) (And.intro (g_ft c14) (And.intro (g_ft c14) (And.intro (F100_spec x1 x6 h _ e12) (And.intro c11 (And.intro c8 (And.intro (g_ff c8) (And.intro (F95_spec x1 h _ e9) (And.intro (g_ff c8) (And.intro (g_ff c8) (And.intro (g_ff c8) (And.intro c7 (And.intro (g_ff c7) (And.intro (g_ff c7) trivial))))))))))))))))))))))))) (hr := by kernel_rfl)
/-! 25 jacquard/jacquardref14.Contains -/
def F25 (x1 : Int) (x2 : Int) (x3 : Int) (x4 : Int) (x5 : Int) (x6 : Int) (x7 : Int) (x8 : Int) : Option (Bool) :=
  (bif (F66 ((F61 x2 x3 x4 x5 x6 x7).1) ((F61 x2 x3 x4 x5 x6 x7).2) x8) then
   (Option.bind (F67 x1 ((F63 x2 x3 x4 x5 x6 x7).1) ((F63 x2 x3 x4 x5 x6 x7).2.1) ((F63 x2 x3 x4 x5 x6 x7).2.2.1) ((F63 x2 x3 x4 x5 x6 x7).2.2.2) x8) fun y13 =>
   some (y13))
  else
   some (false))
set_option maxRecDepth 100000 in
theorem F25_spec (x1 : Int) (x2 : Int) (x3 : Int) (x4 : Int) (x5 : Int) (x6 : Int) (x7 : Int) (x8 : Int) (h : AHeap)  (r : Bool) : F25 x1 x2 x3 x4 x5 x6 x7 x8 = some r → ACalls Try.prog 25 [.int .i64 x1, .agg #[.int .u64 x2, .int .u64 x3, .int .u64 x4, .int .u64 x5, .int .i64 x6, .int .i64 x7], .int .u64 x8] h (fun v' h'' => v' = (.bool r : Value) ∧ h'' = h) := by
  unfold F25
  refine dec_bif (fun c11 => ?_) (fun c11 => ?_)
  · refine bind_opt fun y13 e13 => ?_
    intro hr
    obtain rfl := Option.some.inj hr
    exact pFun_sound good tab_ok (f := 25) (its := [.g, .g, .g, (.c (.agg #[.int .u64 ((F61 x2 x3 x4 x5 x6 x7).1), .int .u64 ((F61 x2 x3 x4 x5 x6 x7).2)]) h), .g, (.c (.bool (F66 ((F61 x2 x3 x4 x5 x6 x7).1) ((F61 x2 x3 x4 x5 x6 x7).2) x8)) h), .g, (.w .g), (.w .g), (.w (.c (.agg #[.int .u64 ((F63 x2 x3 x4 x5 x6 x7).1), .int .u64 ((F63 x2 x3 x4 x5 x6 x7).2.1), .int .i64 ((F63 x2 x3 x4 x5 x6 x7).2.2.1), .int .i64 ((F63 x2 x3 x4 x5 x6 x7).2.2.2)]) h)), (.w .g), (.w (.c (.bool y13) h)), (.p true), .g]) (args := [.int .i64 x1, .agg #[.int .u64 x2, .int .u64 x3, .int .u64 x4, .int .u64 x5, .int .i64 x6, .int .i64 x7], .int .u64 x8]) (h := h) (h' := h) (v := .bool y13) (hC := (And.intro c11 (And.intro (F67_spec x1 ((F63 x2 x3 x4 x5 x6 x7).1) ((F63 x2 x3 x4 x5 x6 x7).2.1) ((F63 x2 x3 x4 x5 x6 x7).2.2.1) ((F63 x2 x3 x4 x5 x6 x7).2.2.2) x8 h _ e13) (And.intro (g_tt c11) (And.intro (g_tt c11) (And.intro (F63_spec x2 x3 x4 x5 x6 x7 h _ rfl) (And.intro (g_tt c11) (And.intro (g_tt c11) (And.intro (g_tt c11) (And.intro (F66_spec ((F61 x2 x3 x4 x5 x6 x7).1) ((F61 x2 x3 x4 x5 x6 x7).2) x8 h _ rfl) (And.intro (F61_spec x2 x3 x4 x5 x6 x7 h _ rfl) trivial))))))))))) (hr := by kernel_rfl)
  · intro hr
    obtain rfl := Option.some.inj hr
    exact pFun_sound good tab_ok (f := 25) (its := [.g, .g, .g, (.c (.agg #[.int .u64 ((F61 x2 x3 x4 x5 x6 x7).1), .int .u64 ((F61 x2 x3 x4 x5 x6 x7).2)]) h), .g, (.c (.bool (F66 ((F61 x2 x3 x4 x5 x6 x7).1) ((F61 x2 x3 x4 x5 x6 x7).2) x8)) h), .g, .n, .n, .n, .n, .n, (.p false), .g]) (args := [.int .i64 x1, .agg #[.int .u64 x2, .int .u64 x3, .int .u64 x4, .int .u64 x5, .int .i64 x6, .int .i64 x7], .int .u64 x8]) (h := h) (h' := h) (v := .bool false) (hC := (And.intro c11 (And.intro (g_ft c11) (And.intro (g_ft c11) (And.intro (g_ft c11) (And.intro (g_ft c11) (And.intro (g_ft c11) (And.intro (F66_spec ((F61 x2 x3 x4 x5 x6 x7).1) ((F61 x2 x3 x4 x5 x6 x7).2) x8 h _ rfl) (And.intro (F61_spec x2 x3 x4 x5 x6 x7 h _ rfl) trivial))))))))) (hr := by kernel_rfl)
end
end Go.Proofs.Ytpmbcnknnolojaa.Abs
