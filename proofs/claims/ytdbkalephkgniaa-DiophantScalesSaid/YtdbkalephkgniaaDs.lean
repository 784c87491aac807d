/-
  Contracts, written by program: for each function what its call yields, and that it yields it.
-/
import Derived.Test.YtdbkalephkgniaaVw
import Derived.Test.YtdbkalephkgniaaChecked
namespace Go.Proofs.Ytdbkalephkgniaa.Abs
open Go
set_option linter.unusedVariables false
set_option linter.unusedSimpArgs false

theorem good : Good Try.prog := good_of Try.checked.mixed (by kernel_rfl)
noncomputable section
def tabC : List FEnt := [
  { f := 9, L := [1], D := [] },
  { f := 11, L := [1, 2, 10], D := [(10, [(0, 2), (1, 2), (3, 2), (5, 2), (7, 2), (10, 2), (4, 3), (6, 2), (2, 0), (8, 0), (9, 2), (11, 0), (12, 2)]), (11, [(0, 2), (1, 2), (2, 2), (3, 2), (4, 2), (5, 2), (6, 2), (7, 2), (8, 2), (9, 2), (10, 2), (11, 2), (12, 2), (13, 2), (14, 2), (15, 2), (16, 2), (17, 2), (18, 2), (19, 0)])] },
  { f := 15, L := [1, 5, 7, 8], D := [(7, [(0, 2), (1, 2), (2, 2), (3, 2), (4, 2), (5, 2), (6, 2), (7, 2), (8, 2), (9, 2), (10, 2), (11, 2), (12, 2), (13, 2), (14, 2)]), (17, [(0, 2), (1, 2), (2, 2), (3, 2), (4, 2), (5, 2), (6, 2), (7, 2), (8, 2), (9, 2), (10, 2), (11, 2), (12, 2), (13, 2), (14, 2), (15, 2), (16, 2)])] },
  { f := 31, L := [1], D := [] },
  { f := 33, L := [], D := [] },
  { f := 34, L := [], D := [] },
  { f := 35, L := [2, 3, 4, 6, 7], D := [] },
  { f := 36, L := [1, 2], D := [] },
  { f := 69, L := [], D := [] },
  { f := 70, L := [2, 3, 4], D := [] },
  { f := 71, L := [5, 6, 7], D := [(3, [(0, 2), (1, 2), (2, 2), (3, 2), (4, 2), (6, 2), (8, 2), (10, 2), (7, 3), (9, 2), (5, 0), (11, 0), (12, 2), (13, 0)]), (5, [(0, 2), (1, 2), (2, 2), (3, 2), (4, 2), (5, 2), (7, 2), (8, 2), (11, 2), (12, 2), (9, 3), (10, 2), (6, 0), (13, 0), (14, 2), (15, 0)])] },
  { f := 88, L := [], D := [] },
  { f := 89, L := [], D := [] }]

theorem tabC_ok : tabOk Try.prog tabC = true := by kernel_rfl
theorem F9_run : rIs (rCall 2000 Try.prog tabC 40 9 [] AHeap.none) true = true := by kernel_rfl
theorem F9_spec0 (h : AHeap) : ACalls Try.prog 9 [] h (fun v' h'' => v' = (.bool true : Value) ∧ h'' = h) := acalls_run good 2000 40 tabC tabC_ok F9_run rfl h
def F9 : Unit := ()
theorem F9_spec (h : AHeap) (r : Unit) (_ : F9 = r) : ACalls Try.prog 9 [] h (fun v' h'' => v' = (.bool true : Value) ∧ h'' = h) := F9_spec0 h
def tab : List FEnt := [
  { f := 4, L := [2, 6, 7], D := [(6, [(0, 2), (2, 3), (1, 1), (3, 1), (4, 2)]), (15, [(0, 2), (1, 2), (2, 2), (3, 2), (4, 2), (5, 2), (6, 2), (7, 2), (8, 2), (9, 2), (10, 2), (11, 2), (12, 2), (13, 2), (14, 2), (16, 3), (15, 1), (17, 1), (18, 2), (19, 2), (20, 2)])] },
  { f := 10, L := [1], D := [] },
  { f := 11, L := [1, 2, 10], D := [(10, [(0, 2), (1, 2), (3, 2), (5, 2), (7, 2), (10, 2), (4, 3), (6, 2), (2, 1), (8, 1), (9, 2), (11, 1), (12, 2)]), (11, [(0, 2), (1, 2), (2, 2), (3, 2), (4, 2), (5, 2), (6, 2), (7, 2), (8, 2), (9, 2), (10, 2), (11, 2), (12, 2), (13, 2), (14, 2), (15, 2), (16, 2), (17, 2), (18, 2), (19, 0)])] },
  { f := 13, L := [], D := [] },
  { f := 14, L := [1, 6, 8], D := [] },
  { f := 15, L := [1, 5, 7, 8], D := [(7, [(0, 2), (1, 2), (2, 2), (3, 2), (4, 2), (5, 2), (6, 2), (7, 2), (8, 2), (9, 2), (10, 2), (11, 2), (12, 2), (13, 2), (14, 2)]), (17, [(0, 2), (1, 2), (2, 2), (3, 2), (4, 2), (5, 2), (6, 2), (7, 2), (8, 2), (9, 2), (10, 2), (11, 2), (12, 2), (13, 2), (14, 2), (15, 2), (16, 2)])] },
  { f := 31, L := [1], D := [] },
  { f := 32, L := [], D := [] },
  { f := 33, L := [], D := [] },
  { f := 34, L := [], D := [] },
  { f := 35, L := [2, 3, 4, 6, 7], D := [] },
  { f := 36, L := [1, 2], D := [] },
  { f := 69, L := [], D := [] },
  { f := 70, L := [2, 3, 4], D := [] },
  { f := 71, L := [5, 6, 7], D := [(3, [(0, 2), (1, 2), (2, 2), (3, 2), (4, 2), (6, 2), (8, 2), (10, 2), (7, 3), (9, 2), (5, 1), (11, 1), (12, 2), (13, 0)]), (5, [(0, 2), (1, 2), (2, 2), (3, 2), (4, 2), (5, 2), (7, 2), (8, 2), (11, 2), (12, 2), (9, 3), (10, 2), (6, 1), (13, 1), (14, 2), (15, 0)])] },
  { f := 88, L := [], D := [] },
  { f := 89, L := [], D := [] }]

theorem tab_ok : tabOk Try.prog tab = true := by kernel_rfl
/-! 32 jacquard/jacquardref24.within -/
def F32 (x1 : Int) (x2 : Int) : Bool :=
  (bif decide (x1 ≥ (IntKind.i64.wrap (0 - x2))) then
   (decide (x1 ≤ x2))
  else
   false)
set_option maxRecDepth 100000 in
theorem F32_spec (x1 : Int) (x2 : Int) (h : AHeap)  (r : Bool) : F32 x1 x2 = r → ACalls Try.prog 32 [.int .i64 x1, .int .i64 x2] h (fun v' h'' => v' = (.bool r : Value) ∧ h'' = h) := by
  unfold F32
  refine dec_bif (fun c3 => ?_) (fun c3 => ?_)
  · intro hr
    subst hr
    exact pFun_sound good tab_ok (f := 32) (its := [.g, .g, .g, .g, .g, .g, (.w .g), (.w .g), (.w .g), (.p true), .g]) (args := [.int .i64 x1, .int .i64 x2]) (h := h) (h' := h) (v := .bool (decide (x1 ≤ x2))) (hC := (And.intro c3 (And.intro (g_tt c3) (And.intro (g_tt c3) (And.intro (g_tt c3) trivial))))) (hr := by kernel_rfl)
  · intro hr
    subst hr
    exact pFun_sound good tab_ok (f := 32) (its := [.g, .g, .g, .g, .g, .g, .n, .n, .n, (.p false), .g]) (args := [.int .i64 x1, .int .i64 x2]) (h := h) (h' := h) (v := .bool false) (hC := (And.intro c3 (And.intro (g_ft c3) (And.intro (g_ft c3) (And.intro (g_ft c3) trivial))))) (hr := by kernel_rfl)
/-! 10 jacquard/jacquardref24.Valid -/
def F10 (x1 : Int) (x2 : Int) (x3 : Int) (x4 : Int) (x5 : Int) (x6 : Int) (x7 : Int) (x8 : Int) (x9 : Int) : Bool :=
  (bif (F32 x1 2147483648) then
   (bif (F32 x2 2147483648) then
    (bif (F32 x3 2305843009213693952) then
     (bif (F32 x4 2147483648) then
      (bif (F32 x5 2147483648) then
       (bif (F32 x6 2147483648) then
        (bif (F32 x7 2147483648) then
         (bif (F32 x8 2147483648) then
          (F32 x9 2147483648)
         else
          false)
        else
         false)
       else
        false)
      else
       false)
     else
      false)
    else
     false)
   else
    false)
  else
   false)
set_option maxRecDepth 100000 in
theorem F10_spec (x1 : Int) (x2 : Int) (x3 : Int) (x4 : Int) (x5 : Int) (x6 : Int) (x7 : Int) (x8 : Int) (x9 : Int) (h : AHeap)  (r : Bool) : F10 x1 x2 x3 x4 x5 x6 x7 x8 x9 = r → ACalls Try.prog 10 [.agg #[.int .i64 x1, .int .i64 x2, .int .i64 x3, .int .i64 x4, .int .i64 x5, .int .i64 x6, .int .i64 x7, .int .i64 x8, .int .i64 x9]] h (fun v' h'' => v' = (.bool r : Value) ∧ h'' = h) := by
  unfold F10
  refine dec_bif (fun c11 => ?_) (fun c11 => ?_)
  · refine dec_bif (fun c13 => ?_) (fun c13 => ?_)
    · refine dec_bif (fun c15 => ?_) (fun c15 => ?_)
      · refine dec_bif (fun c17 => ?_) (fun c17 => ?_)
        · refine dec_bif (fun c19 => ?_) (fun c19 => ?_)
          · refine dec_bif (fun c21 => ?_) (fun c21 => ?_)
            · refine dec_bif (fun c23 => ?_) (fun c23 => ?_)
              · refine dec_bif (fun c25 => ?_) (fun c25 => ?_)
                · intro hr
                  subst hr
                  exact pFun_sound good tab_ok (f := 10) (its := [.g, .g, .g, .g, (.c (.bool (F32 x1 2147483648)) h), .g, (.w .g), (.w .g), (.w (.c (.bool (F32 x2 2147483648)) h)), (.p true), .g, (.w .g), (.w .g), (.w (.c (.bool (F32 x3 2305843009213693952)) h)), (.p true), .g, (.w .g), (.w .g), (.w .g), (.w (.c (.bool (F32 x4 2147483648)) h)), (.p true), .g, (.w .g), (.w .g), (.w .g), (.w (.c (.bool (F32 x5 2147483648)) h)), (.p true), .g, (.w .g), (.w .g), (.w .g), (.w (.c (.bool (F32 x6 2147483648)) h)), (.p true), .g, (.w .g), (.w .g), (.w .g), (.w (.c (.bool (F32 x7 2147483648)) h)), (.p true), .g, (.w .g), (.w .g), (.w .g), (.w (.c (.bool (F32 x8 2147483648)) h)), (.p true), .g, (.w .g), (.w .g), (.w .g), (.w (.c (.bool (F32 x9 2147483648)) h)), (.p true), .g]) (args := [.agg #[.int .i64 x1, .int .i64 x2, .int .i64 x3, .int .i64 x4, .int .i64 x5, .int .i64 x6, .int .i64 x7, .int .i64 x8, .int .i64 x9]]) (h := h) (h' := h) (v := .bool (F32 x9 2147483648)) (hC := (And.intro c25 (And.intro (F32_spec x9 2147483648 h _ rfl) (And.intro (g_tt c25) (And.intro (g_tt c25) (And.intro (g_tt c25) (And.intro (g_tt c25) (And.intro c23 (And.intro (F32_spec x8 2147483648 h _ rfl) (And.intro (g_tt c23) (And.intro (g_tt c23) (And.intro (g_tt c23) (And.intro (g_tt c23) (And.intro c21 (And.intro (F32_spec x7 2147483648 h _ rfl) (And.intro (g_tt c21) (And.intro (g_tt c21) (And.intro (g_tt c21) (And.intro (g_tt c21) (And.intro c19 (And.intro (F32_spec x6 2147483648 h _ rfl) (And.intro (g_tt c19) (And.intro (g_tt c19) (And.intro (g_tt c19) (And.intro (g_tt c19) (And.intro c17 (And.intro (F32_spec x5 2147483648 h _ rfl) (And.intro (g_tt c17) (And.intro (g_tt c17) (And.intro (g_tt c17) (And.intro (g_tt c17) (And.intro c15 (And.intro (F32_spec x4 2147483648 h _ rfl) (And.intro (g_tt c15) (And.intro (g_tt c15) (And.intro (g_tt c15) (And.intro (g_tt c15) (And.intro c13 (And.intro (F32_spec x3 2305843009213693952 h _ rfl) (And.intro (g_tt c13) (And.intro (g_tt c13) (And.intro (g_tt c13) (And.intro c11 (And.intro (F32_spec x2 2147483648 h _ rfl) (And.intro (g_tt c11) (And.intro (g_tt c11) (And.intro (g_tt c11) (And.intro (F32_spec x1 2147483648 h _ rfl) trivial)))))))))))))))))))))))))))))))))))))))))))))))) (hr := by kernel_rfl)
                · intro hr
                  subst hr
                  exact pFun_sound good tab_ok (f := 10) (its := [.g, .g, .g, .g, (.c (.bool (F32 x1 2147483648)) h), .g, (.w .g), (.w .g), (.w (.c (.bool (F32 x2 2147483648)) h)), (.p true), .g, (.w .g), (.w .g), (.w (.c (.bool (F32 x3 2305843009213693952)) h)), (.p true), .g, (.w .g), (.w .g), (.w .g), (.w (.c (.bool (F32 x4 2147483648)) h)), (.p true), .g, (.w .g), (.w .g), (.w .g), (.w (.c (.bool (F32 x5 2147483648)) h)), (.p true), .g, (.w .g), (.w .g), (.w .g), (.w (.c (.bool (F32 x6 2147483648)) h)), (.p true), .g, (.w .g), (.w .g), (.w .g), (.w (.c (.bool (F32 x7 2147483648)) h)), (.p true), .g, (.w .g), (.w .g), (.w .g), (.w (.c (.bool (F32 x8 2147483648)) h)), (.p true), .g, .n, .n, .n, .n, (.p false), .g]) (args := [.agg #[.int .i64 x1, .int .i64 x2, .int .i64 x3, .int .i64 x4, .int .i64 x5, .int .i64 x6, .int .i64 x7, .int .i64 x8, .int .i64 x9]]) (h := h) (h' := h) (v := .bool false) (hC := (And.intro c25 (And.intro (g_ft c25) (And.intro (g_ft c25) (And.intro (g_ft c25) (And.intro (g_ft c25) (And.intro c23 (And.intro (F32_spec x8 2147483648 h _ rfl) (And.intro (g_tt c23) (And.intro (g_tt c23) (And.intro (g_tt c23) (And.intro (g_tt c23) (And.intro c21 (And.intro (F32_spec x7 2147483648 h _ rfl) (And.intro (g_tt c21) (And.intro (g_tt c21) (And.intro (g_tt c21) (And.intro (g_tt c21) (And.intro c19 (And.intro (F32_spec x6 2147483648 h _ rfl) (And.intro (g_tt c19) (And.intro (g_tt c19) (And.intro (g_tt c19) (And.intro (g_tt c19) (And.intro c17 (And.intro (F32_spec x5 2147483648 h _ rfl) (And.intro (g_tt c17) (And.intro (g_tt c17) (And.intro (g_tt c17) (And.intro (g_tt c17) (And.intro c15 (And.intro (F32_spec x4 2147483648 h _ rfl) (And.intro (g_tt c15) (And.intro (g_tt c15) (And.intro (g_tt c15) (And.intro (g_tt c15) (And.intro c13 (And.intro (F32_spec x3 2305843009213693952 h _ rfl) (And.intro (g_tt c13) (And.intro (g_tt c13) (And.intro (g_tt c13) (And.intro c11 (And.intro (F32_spec x2 2147483648 h _ rfl) (And.intro (g_tt c11) (And.intro (g_tt c11) (And.intro (g_tt c11) (And.intro (F32_spec x1 2147483648 h _ rfl) trivial))))))))))))))))))))))))))))))))))))))))))))))) (hr := by kernel_rfl)
              · intro hr
                subst hr
                exact pFun_sound good tab_ok (f := 10) (its := [.g, .g, .g, .g, (.c (.bool (F32 x1 2147483648)) h), .g, (.w .g), (.w .g), (.w (.c (.bool (F32 x2 2147483648)) h)), (.p true), .g, (.w .g), (.w .g), (.w (.c (.bool (F32 x3 2305843009213693952)) h)), (.p true), .g, (.w .g), (.w .g), (.w .g), (.w (.c (.bool (F32 x4 2147483648)) h)), (.p true), .g, (.w .g), (.w .g), (.w .g), (.w (.c (.bool (F32 x5 2147483648)) h)), (.p true), .g, (.w .g), (.w .g), (.w .g), (.w (.c (.bool (F32 x6 2147483648)) h)), (.p true), .g, (.w .g), (.w .g), (.w .g), (.w (.c (.bool (F32 x7 2147483648)) h)), (.p true), .g, .n, .n, .n, .n, (.p false), .g, .n, .n, .n, .n, .g, .g]) (args := [.agg #[.int .i64 x1, .int .i64 x2, .int .i64 x3, .int .i64 x4, .int .i64 x5, .int .i64 x6, .int .i64 x7, .int .i64 x8, .int .i64 x9]]) (h := h) (h' := h) (v := .bool false) (hC := (And.intro (g_ft l_f) (And.intro (g_ft l_f) (And.intro (g_ft l_f) (And.intro (g_ft l_f) (And.intro c23 (And.intro (g_ft c23) (And.intro (g_ft c23) (And.intro (g_ft c23) (And.intro (g_ft c23) (And.intro c21 (And.intro (F32_spec x7 2147483648 h _ rfl) (And.intro (g_tt c21) (And.intro (g_tt c21) (And.intro (g_tt c21) (And.intro (g_tt c21) (And.intro c19 (And.intro (F32_spec x6 2147483648 h _ rfl) (And.intro (g_tt c19) (And.intro (g_tt c19) (And.intro (g_tt c19) (And.intro (g_tt c19) (And.intro c17 (And.intro (F32_spec x5 2147483648 h _ rfl) (And.intro (g_tt c17) (And.intro (g_tt c17) (And.intro (g_tt c17) (And.intro (g_tt c17) (And.intro c15 (And.intro (F32_spec x4 2147483648 h _ rfl) (And.intro (g_tt c15) (And.intro (g_tt c15) (And.intro (g_tt c15) (And.intro (g_tt c15) (And.intro c13 (And.intro (F32_spec x3 2305843009213693952 h _ rfl) (And.intro (g_tt c13) (And.intro (g_tt c13) (And.intro (g_tt c13) (And.intro c11 (And.intro (F32_spec x2 2147483648 h _ rfl) (And.intro (g_tt c11) (And.intro (g_tt c11) (And.intro (g_tt c11) (And.intro (F32_spec x1 2147483648 h _ rfl) trivial))))))))))))))))))))))))))))))))))))))))))))) (hr := by kernel_rfl)
            · intro hr
              subst hr
              exact pFun_sound good tab_ok (f := 10) (its := [.g, .g, .g, .g, (.c (.bool (F32 x1 2147483648)) h), .g, (.w .g), (.w .g), (.w (.c (.bool (F32 x2 2147483648)) h)), (.p true), .g, (.w .g), (.w .g), (.w (.c (.bool (F32 x3 2305843009213693952)) h)), (.p true), .g, (.w .g), (.w .g), (.w .g), (.w (.c (.bool (F32 x4 2147483648)) h)), (.p true), .g, (.w .g), (.w .g), (.w .g), (.w (.c (.bool (F32 x5 2147483648)) h)), (.p true), .g, (.w .g), (.w .g), (.w .g), (.w (.c (.bool (F32 x6 2147483648)) h)), (.p true), .g, .n, .n, .n, .n, (.p false), .g, .n, .n, .n, .n, .g, .g, .n, .n, .n, .n, .g, .g]) (args := [.agg #[.int .i64 x1, .int .i64 x2, .int .i64 x3, .int .i64 x4, .int .i64 x5, .int .i64 x6, .int .i64 x7, .int .i64 x8, .int .i64 x9]]) (h := h) (h' := h) (v := .bool false) (hC := (And.intro (g_ft l_f) (And.intro (g_ft l_f) (And.intro (g_ft l_f) (And.intro (g_ft l_f) (And.intro (g_ft l_f) (And.intro (g_ft l_f) (And.intro (g_ft l_f) (And.intro (g_ft l_f) (And.intro c21 (And.intro (g_ft c21) (And.intro (g_ft c21) (And.intro (g_ft c21) (And.intro (g_ft c21) (And.intro c19 (And.intro (F32_spec x6 2147483648 h _ rfl) (And.intro (g_tt c19) (And.intro (g_tt c19) (And.intro (g_tt c19) (And.intro (g_tt c19) (And.intro c17 (And.intro (F32_spec x5 2147483648 h _ rfl) (And.intro (g_tt c17) (And.intro (g_tt c17) (And.intro (g_tt c17) (And.intro (g_tt c17) (And.intro c15 (And.intro (F32_spec x4 2147483648 h _ rfl) (And.intro (g_tt c15) (And.intro (g_tt c15) (And.intro (g_tt c15) (And.intro (g_tt c15) (And.intro c13 (And.intro (F32_spec x3 2305843009213693952 h _ rfl) (And.intro (g_tt c13) (And.intro (g_tt c13) (And.intro (g_tt c13) (And.intro c11 (And.intro (F32_spec x2 2147483648 h _ rfl) (And.intro (g_tt c11) (And.intro (g_tt c11) (And.intro (g_tt c11) (And.intro (F32_spec x1 2147483648 h _ rfl) trivial))))))))))))))))))))))))))))))))))))))))))) (hr := by kernel_rfl)
          · intro hr
            subst hr
            exact pFun_sound good tab_ok (f := 10) (its := [.g, .g, .g, .g, (.c (.bool (F32 x1 2147483648)) h), .g, (.w .g), (.w .g), (.w (.c (.bool (F32 x2 2147483648)) h)), (.p true), .g, (.w .g), (.w .g), (.w (.c (.bool (F32 x3 2305843009213693952)) h)), (.p true), .g, (.w .g), (.w .g), (.w .g), (.w (.c (.bool (F32 x4 2147483648)) h)), (.p true), .g, (.w .g), (.w .g), (.w .g), (.w (.c (.bool (F32 x5 2147483648)) h)), (.p true), .g, .n, .n, .n, .n, (.p false), .g, .n, .n, .n, .n, .g, .g, .n, .n, .n, .n, .g, .g, .n, .n, .n, .n, .g, .g]) (args := [.agg #[.int .i64 x1, .int .i64 x2, .int .i64 x3, .int .i64 x4, .int .i64 x5, .int .i64 x6, .int .i64 x7, .int .i64 x8, .int .i64 x9]]) (h := h) (h' := h) (v := .bool false) (hC := (And.intro (g_ft l_f) (And.intro (g_ft l_f) (And.intro (g_ft l_f) (And.intro (g_ft l_f) (And.intro (g_ft l_f) (And.intro (g_ft l_f) (And.intro (g_ft l_f) (And.intro (g_ft l_f) (And.intro (g_ft l_f) (And.intro (g_ft l_f) (And.intro (g_ft l_f) (And.intro (g_ft l_f) (And.intro c19 (And.intro (g_ft c19) (And.intro (g_ft c19) (And.intro (g_ft c19) (And.intro (g_ft c19) (And.intro c17 (And.intro (F32_spec x5 2147483648 h _ rfl) (And.intro (g_tt c17) (And.intro (g_tt c17) (And.intro (g_tt c17) (And.intro (g_tt c17) (And.intro c15 (And.intro (F32_spec x4 2147483648 h _ rfl) (And.intro (g_tt c15) (And.intro (g_tt c15) (And.intro (g_tt c15) (And.intro (g_tt c15) (And.intro c13 (And.intro (F32_spec x3 2305843009213693952 h _ rfl) (And.intro (g_tt c13) (And.intro (g_tt c13) (And.intro (g_tt c13) (And.intro c11 (And.intro (F32_spec x2 2147483648 h _ rfl) (And.intro (g_tt c11) (And.intro (g_tt c11) (And.intro (g_tt c11) (And.intro (F32_spec x1 2147483648 h _ rfl) trivial))))))))))))))))))))))))))))))))))))))))) (hr := by kernel_rfl)
        · intro hr
          subst hr
          exact pFun_sound good tab_ok (f := 10) (its := [.g, .g, .g, .g, (.c (.bool (F32 x1 2147483648)) h), .g, (.w .g), (.w .g), (.w (.c (.bool (F32 x2 2147483648)) h)), (.p true), .g, (.w .g), (.w .g), (.w (.c (.bool (F32 x3 2305843009213693952)) h)), (.p true), .g, (.w .g), (.w .g), (.w .g), (.w (.c (.bool (F32 x4 2147483648)) h)), (.p true), .g, .n, .n, .n, .n, (.p false), .g, .n, .n, .n, .n, .g, .g, .n, .n, .n, .n, .g, .g, .n, .n, .n, .n, .g, .g, .n, .n, .n, .n, .g, .g]) (args := [.agg #[.int .i64 x1, .int .i64 x2, .int .i64 x3, .int .i64 x4, .int .i64 x5, .int .i64 x6, .int .i64 x7, .int .i64 x8, .int .i64 x9]]) (h := h) (h' := h) (v := .bool false) (hC := (And.intro (g_ft l_f) (And.intro (g_ft l_f) (And.intro (g_ft l_f) (And.intro (g_ft l_f) (And.intro (g_ft l_f) (And.intro (g_ft l_f) (And.intro (g_ft l_f) (And.intro (g_ft l_f) (And.intro (g_ft l_f) (And.intro (g_ft l_f) (And.intro (g_ft l_f) (And.intro (g_ft l_f) (And.intro (g_ft l_f) (And.intro (g_ft l_f) (And.intro (g_ft l_f) (And.intro (g_ft l_f) (And.intro c17 (And.intro (g_ft c17) (And.intro (g_ft c17) (And.intro (g_ft c17) (And.intro (g_ft c17) (And.intro c15 (And.intro (F32_spec x4 2147483648 h _ rfl) (And.intro (g_tt c15) (And.intro (g_tt c15) (And.intro (g_tt c15) (And.intro (g_tt c15) (And.intro c13 (And.intro (F32_spec x3 2305843009213693952 h _ rfl) (And.intro (g_tt c13) (And.intro (g_tt c13) (And.intro (g_tt c13) (And.intro c11 (And.intro (F32_spec x2 2147483648 h _ rfl) (And.intro (g_tt c11) (And.intro (g_tt c11) (And.intro (g_tt c11) (And.intro (F32_spec x1 2147483648 h _ rfl) trivial))))))))))))))))))))))))))))))))))))))) (hr := by kernel_rfl)
      · intro hr
        subst hr
        exact pFun_sound good tab_ok (f := 10) (its := [.g, .g, .g, .g, (.c (.bool (F32 x1 2147483648)) h), .g, (.w .g), (.w .g), (.w (.c (.bool (F32 x2 2147483648)) h)), (.p true), .g, (.w .g), (.w .g), (.w (.c (.bool (F32 x3 2305843009213693952)) h)), (.p true), .g, .n, .n, .n, .n, (.p false), .g, .n, .n, .n, .n, .g, .g, .n, .n, .n, .n, .g, .g, .n, .n, .n, .n, .g, .g, .n, .n, .n, .n, .g, .g, .n, .n, .n, .n, .g, .g]) (args := [.agg #[.int .i64 x1, .int .i64 x2, .int .i64 x3, .int .i64 x4, .int .i64 x5, .int .i64 x6, .int .i64 x7, .int .i64 x8, .int .i64 x9]]) (h := h) (h' := h) (v := .bool false) (hC := (And.intro (g_ft l_f) (And.intro (g_ft l_f) (And.intro (g_ft l_f) (And.intro (g_ft l_f) (And.intro (g_ft l_f) (And.intro (g_ft l_f) (And.intro (g_ft l_f) (And.intro (g_ft l_f) (And.intro (g_ft l_f) (And.intro (g_ft l_f) (And.intro (g_ft l_f) (And.intro (g_ft l_f) (And.intro (g_ft l_f) (And.intro (g_ft l_f) (And.intro (g_ft l_f) (And.intro (g_ft l_f) (And.intro (g_ft l_f) (And.intro (g_ft l_f) (And.intro (g_ft l_f) (And.intro (g_ft l_f) (And.intro c15 (And.intro (g_ft c15) (And.intro (g_ft c15) (And.intro (g_ft c15) (And.intro (g_ft c15) (And.intro c13 (And.intro (F32_spec x3 2305843009213693952 h _ rfl) (And.intro (g_tt c13) (And.intro (g_tt c13) (And.intro (g_tt c13) (And.intro c11 (And.intro (F32_spec x2 2147483648 h _ rfl) (And.intro (g_tt c11) (And.intro (g_tt c11) (And.intro (g_tt c11) (And.intro (F32_spec x1 2147483648 h _ rfl) trivial))))))))))))))))))))))))))))))))))))) (hr := by kernel_rfl)
    · intro hr
      subst hr
      exact pFun_sound good tab_ok (f := 10) (its := [.g, .g, .g, .g, (.c (.bool (F32 x1 2147483648)) h), .g, (.w .g), (.w .g), (.w (.c (.bool (F32 x2 2147483648)) h)), (.p true), .g, .n, .n, .n, (.p false), .g, .n, .n, .n, .n, .g, .g, .n, .n, .n, .n, .g, .g, .n, .n, .n, .n, .g, .g, .n, .n, .n, .n, .g, .g, .n, .n, .n, .n, .g, .g, .n, .n, .n, .n, .g, .g]) (args := [.agg #[.int .i64 x1, .int .i64 x2, .int .i64 x3, .int .i64 x4, .int .i64 x5, .int .i64 x6, .int .i64 x7, .int .i64 x8, .int .i64 x9]]) (h := h) (h' := h) (v := .bool false) (hC := (And.intro (g_ft l_f) (And.intro (g_ft l_f) (And.intro (g_ft l_f) (And.intro (g_ft l_f) (And.intro (g_ft l_f) (And.intro (g_ft l_f) (And.intro (g_ft l_f) (And.intro (g_ft l_f) (And.intro (g_ft l_f) (And.intro (g_ft l_f) (And.intro (g_ft l_f) (And.intro (g_ft l_f) (And.intro (g_ft l_f) (And.intro (g_ft l_f) (And.intro (g_ft l_f) (And.intro (g_ft l_f) (And.intro (g_ft l_f) (And.intro (g_ft l_f) (And.intro (g_ft l_f) (And.intro (g_ft l_f) (And.intro (g_ft l_f) (And.intro (g_ft l_f) (And.intro (g_ft l_f) (And.intro (g_ft l_f) (And.intro c13 (And.intro (g_ft c13) (And.intro (g_ft c13) (And.intro (g_ft c13) (And.intro c11 (And.intro (F32_spec x2 2147483648 h _ rfl) (And.intro (g_tt c11) (And.intro (g_tt c11) (And.intro (g_tt c11) (And.intro (F32_spec x1 2147483648 h _ rfl) trivial))))))))))))))))))))))))))))))))))) (hr := by kernel_rfl)
  · intro hr
    subst hr
    exact pFun_sound good tab_ok (f := 10) (its := [.g, .g, .g, .g, (.c (.bool (F32 x1 2147483648)) h), .g, .n, .n, .n, (.p false), .g, .n, .n, .n, .g, .g, .n, .n, .n, .n, .g, .g, .n, .n, .n, .n, .g, .g, .n, .n, .n, .n, .g, .g, .n, .n, .n, .n, .g, .g, .n, .n, .n, .n, .g, .g, .n, .n, .n, .n, .g, .g]) (args := [.agg #[.int .i64 x1, .int .i64 x2, .int .i64 x3, .int .i64 x4, .int .i64 x5, .int .i64 x6, .int .i64 x7, .int .i64 x8, .int .i64 x9]]) (h := h) (h' := h) (v := .bool false) (hC := (And.intro (g_ft l_f) (And.intro (g_ft l_f) (And.intro (g_ft l_f) (And.intro (g_ft l_f) (And.intro (g_ft l_f) (And.intro (g_ft l_f) (And.intro (g_ft l_f) (And.intro (g_ft l_f) (And.intro (g_ft l_f) (And.intro (g_ft l_f) (And.intro (g_ft l_f) (And.intro (g_ft l_f) (And.intro (g_ft l_f) (And.intro (g_ft l_f) (And.intro (g_ft l_f) (And.intro (g_ft l_f) (And.intro (g_ft l_f) (And.intro (g_ft l_f) (And.intro (g_ft l_f) (And.intro (g_ft l_f) (And.intro (g_ft l_f) (And.intro (g_ft l_f) (And.intro (g_ft l_f) (And.intro (g_ft l_f) (And.intro (g_ft l_f) (And.intro (g_ft l_f) (And.intro (g_ft l_f) (And.intro c11 (And.intro (g_ft c11) (And.intro (g_ft c11) (And.intro (g_ft c11) (And.intro (F32_spec x1 2147483648 h _ rfl) trivial))))))))))))))))))))))))))))))))) (hr := by kernel_rfl)
/-! 69 jacquard/diophant.within -/
def F69 (x1 : Int) (x2 : Int) : Bool :=
  (bif decide (x1 ≥ (IntKind.i64.wrap (0 - x2))) then
   (decide (x1 ≤ x2))
  else
   false)
set_option maxRecDepth 100000 in
theorem F69_spec (x1 : Int) (x2 : Int) (h : AHeap)  (r : Bool) : F69 x1 x2 = r → ACalls Try.prog 69 [.int .i64 x1, .int .i64 x2] h (fun v' h'' => v' = (.bool r : Value) ∧ h'' = h) := by
  unfold F69
  refine dec_bif (fun c3 => ?_) (fun c3 => ?_)
  · intro hr
    subst hr
    exact pFun_sound good tab_ok (f := 69) (its := [.g, .g, .g, .g, .g, .g, (.w .g), (.w .g), (.w .g), (.p true), .g]) (args := [.int .i64 x1, .int .i64 x2]) (h := h) (h' := h) (v := .bool (decide (x1 ≤ x2))) (hC := (And.intro c3 (And.intro (g_tt c3) (And.intro (g_tt c3) (And.intro (g_tt c3) trivial))))) (hr := by kernel_rfl)
  · intro hr
    subst hr
    exact pFun_sound good tab_ok (f := 69) (its := [.g, .g, .g, .g, .g, .g, .n, .n, .n, (.p false), .g]) (args := [.int .i64 x1, .int .i64 x2]) (h := h) (h' := h) (v := .bool false) (hC := (And.intro c3 (And.intro (g_ft c3) (And.intro (g_ft c3) (And.intro (g_ft c3) trivial))))) (hr := by kernel_rfl)
/-! 31 jacquard/diophant.Valid -/
def F31_L : List Nat := [1]
def F31_D : List (Nat × List (Nat × Nat)) := []
def F31_m1_2 : List Bool := [true, false, true, true, true, true, true, true, true, true, true, true, true, true, true, true, true, true, true, true, true, true, true, true, true, true, true, true, true, true, true, true, true, true, true, true, true, true]
def F31_m1_1 : List Bool := [true, false, true, true, true, true, true, true, true, true, true, true, true, true, true, true, true, true, true, true, true, true, true, true, true, true, true, false, false, true, true, true, true, true, true, true, true, true]
def F31_m1_0 : List Bool := [true, true, false, true, true, true, true, true, true, true, true, true, true, true, true, true, true, true, true, true, true, true, true, true, true, true, true, true, true, true, true, true, true, true, true, true, true, true]
def F31_s1 (x1 : Int) (x2 : Int) (x4 : Int) (x5 : Int) (x6 : Int) (x7 : Int) (x8 : Int) (x9 : Int) (a10 : Int) : Option (Int ⊕ Nat) :=
  (bif decide (a10 < 8) then
   (bif (!(inRange a10 8)) then none else
   (bif (!(F69 (([x1, x2, x4, x5, x6, x7, x8, x9] : List Int).getD (a10).toNat 0) 2147483648)) then
    some (.inr 0)
   else
    some (.inl (IntKind.i64.wrap (a10 + 1)))))
  else
   some (.inr 1))
def F31_h1 (h : AHeap) (x1 : Int) (x2 : Int) (x3 : Int) (x4 : Int) (x5 : Int) (x6 : Int) (x7 : Int) (x8 : Int) (x9 : Int)  (a10 : Int) : AS := ⟨[junk, .pointer (some ⟨1, 0, none⟩), junk, junk, junk, junk, junk, junk, junk, junk, junk, junk, junk, junk, junk, junk, junk, junk, junk, junk, junk, junk, junk, junk, junk, junk, junk, .agg #[.int .i64 x1, .int .i64 x2, .int .i64 x4, .int .i64 x5, .int .i64 x6, .int .i64 x7, .int .i64 x8, .int .i64 x9], .int .i64 a10, junk, junk, junk, junk, junk, junk, junk, junk, junk], [(1, [.int .i64 x1, .int .i64 x2, .int .i64 x3, .int .i64 x4, .int .i64 x5, .int .i64 x6, .int .i64 x7, .int .i64 x8, .int .i64 x9])], h⟩
theorem F31_d1 : drawsOk F31_D (codeOf Try.prog 31 [1, 0, 1, 0, 0]) = true := by kernel_rfl
def F31_x1_0 (h : AHeap) (x1 : Int) (x2 : Int) (x3 : Int) (x4 : Int) (x5 : Int) (x6 : Int) (x7 : Int) (x8 : Int) (x9 : Int)  (r : Nat) : AS := ⟨[junk, junk, .bool false, junk, junk, junk, junk, junk, junk, junk, junk, junk, junk, junk, junk, junk, junk, junk, junk, junk, junk, junk, junk, junk, junk, junk, junk, junk, junk, junk, junk, junk, junk, junk, junk, junk, junk, junk], [], h⟩
def F31_x1_1 (h : AHeap) (x1 : Int) (x2 : Int) (x3 : Int) (x4 : Int) (x5 : Int) (x6 : Int) (x7 : Int) (x8 : Int) (x9 : Int)  (r : Nat) : AS := ⟨[junk, .pointer (some ⟨1, 0, none⟩), junk, junk, junk, junk, junk, junk, junk, junk, junk, junk, junk, junk, junk, junk, junk, junk, junk, junk, junk, junk, junk, junk, junk, junk, junk, junk, junk, junk, junk, junk, junk, junk, junk, junk, junk, junk], [(1, [.int .i64 x1, .int .i64 x2, .int .i64 x3, .int .i64 x4, .int .i64 x5, .int .i64 x6, .int .i64 x7, .int .i64 x8, .int .i64 x9])], h⟩
def F31_x1 (h : AHeap) (x1 : Int) (x2 : Int) (x3 : Int) (x4 : Int) (x5 : Int) (x6 : Int) (x7 : Int) (x8 : Int) (x9 : Int) (r : Nat) : Exit × AS := (bif Nat.beq r 0 then (.ret, (F31_x1_0 h x1 x2 x3 x4 x5 x6 x7 x8 x9 r)) else ((.exit 0), (F31_x1_1 h x1 x2 x3 x4 x5 x6 x7 x8 x9 r)))
set_option maxRecDepth 100000 in
theorem F31_r1 (h : AHeap) (x1 : Int) (x2 : Int) (x3 : Int) (x4 : Int) (x5 : Int) (x6 : Int) (x7 : Int) (x8 : Int) (x9 : Int) (a10 : Int) (o : Int ⊕ Nat) : F31_s1 x1 x2 x4 x5 x6 x7 x8 x9 a10 = some o → RdF Try.prog (codeOf Try.prog 31 [1, 0, 1, 0, 0]) (fun (s : Int) => (F31_h1 h x1 x2 x3 x4 x5 x6 x7 x8 x9 s)) (F31_x1 h x1 x2 x3 x4 x5 x6 x7 x8 x9) (F31_h1 h x1 x2 x3 x4 x5 x6 x7 x8 x9 a10) o := by
  unfold F31_s1
  refine dec_bif (fun c11 => ?_) (fun c11 => ?_)
  · refine guard_ok fun g12 => ?_
    refine dec_bif (fun c14 => ?_) (fun c14 => ?_)
    · intro hr
      obtain rfl := Option.some.inj hr
      show AWp Try.prog _ (Ends1 ((F31_x1 h x1 x2 x3 x4 x5 x6 x7 x8 x9) (0 : Nat)).1 ((F31_x1 h x1 x2 x3 x4 x5 x6 x7 x8 x9) (0 : Nat)).2) _
      exact pEnd_sound good (L := F31_L) (D := F31_D) (its := [.g, (.b true), (.iv (.int .i64 (([x1, x2, x4, x5, x6, x7, x8, x9] : List Int).getD (a10).toNat 0))), .g, .g, (.c (.bool (F69 (([x1, x2, x4, x5, x6, x7, x8, x9] : List Int).getD (a10).toNat 0) 2147483648)) h), .g, (.b true), .g]) (ds := F31_m1_0) (ks := [1]) (e := ((F31_x1 h x1 x2 x3 x4 x5 x6 x7 x8 x9) (0 : Nat)).1) (s2 := ((F31_x1 h x1 x2 x3 x4 x5 x6 x7 x8 x9) (0 : Nat)).2) (hC := (And.intro c14 (And.intro (F69_spec (([x1, x2, x4, x5, x6, x7, x8, x9] : List Int).getD (a10).toNat 0) 2147483648 h _ rfl) (And.intro (iread_sel (P := Try.prog) (t := 114) (cs := #[.int .i64 x1, .int .i64 x2, .int .i64 x4, .int .i64 x5, .int .i64 x6, .int .i64 x7, .int .i64 x8, .int .i64 x9]) (nn g12) (fun jj => .int .i64 (([x1, x2, x4, x5, x6, x7, x8, x9] : List Int).getD jj 0)) (And.intro (And.intro (And.intro (And.intro (And.intro (And.intro (And.intro (And.intro trivial (by show _ = _; kernel_rfl)) (by show _ = _; kernel_rfl)) (by show _ = _; kernel_rfl)) (by show _ = _; kernel_rfl)) (by show _ = _; kernel_rfl)) (by show _ = _; kernel_rfl)) (by show _ = _; kernel_rfl)) (by show _ = _; kernel_rfl))) (And.intro c11 trivial))))) (hd := F31_d1) (h := by kernel_rfl)
    · intro hr
      obtain rfl := Option.some.inj hr
      show AWp Try.prog _ (Ends1 .normal (F31_h1 h x1 x2 x3 x4 x5 x6 x7 x8 x9 (IntKind.i64.wrap (a10 + 1)))) _
      exact pEnd_sound good (L := F31_L) (D := F31_D) (its := [.g, (.b true), (.iv (.int .i64 (([x1, x2, x4, x5, x6, x7, x8, x9] : List Int).getD (a10).toNat 0))), .g, .g, (.c (.bool (F69 (([x1, x2, x4, x5, x6, x7, x8, x9] : List Int).getD (a10).toNat 0) 2147483648)) h), .g, (.b false), .g, .g]) (ds := F31_m1_1) (ks := []) (e := .normal) (s2 := (F31_h1 h x1 x2 x3 x4 x5 x6 x7 x8 x9 (IntKind.i64.wrap (a10 + 1)))) (hC := (And.intro c14 (And.intro (F69_spec (([x1, x2, x4, x5, x6, x7, x8, x9] : List Int).getD (a10).toNat 0) 2147483648 h _ rfl) (And.intro (iread_sel (P := Try.prog) (t := 114) (cs := #[.int .i64 x1, .int .i64 x2, .int .i64 x4, .int .i64 x5, .int .i64 x6, .int .i64 x7, .int .i64 x8, .int .i64 x9]) (nn g12) (fun jj => .int .i64 (([x1, x2, x4, x5, x6, x7, x8, x9] : List Int).getD jj 0)) (And.intro (And.intro (And.intro (And.intro (And.intro (And.intro (And.intro (And.intro trivial (by show _ = _; kernel_rfl)) (by show _ = _; kernel_rfl)) (by show _ = _; kernel_rfl)) (by show _ = _; kernel_rfl)) (by show _ = _; kernel_rfl)) (by show _ = _; kernel_rfl)) (by show _ = _; kernel_rfl)) (by show _ = _; kernel_rfl))) (And.intro c11 trivial))))) (hd := F31_d1) (h := by kernel_rfl)
  · intro hr
    obtain rfl := Option.some.inj hr
    show AWp Try.prog _ (Ends1 ((F31_x1 h x1 x2 x3 x4 x5 x6 x7 x8 x9) (1 : Nat)).1 ((F31_x1 h x1 x2 x3 x4 x5 x6 x7 x8 x9) (1 : Nat)).2) _
    exact pEnd_sound good (L := F31_L) (D := F31_D) (its := [.g, (.b false)]) (ds := F31_m1_2) (ks := []) (e := ((F31_x1 h x1 x2 x3 x4 x5 x6 x7 x8 x9) (1 : Nat)).1) (s2 := ((F31_x1 h x1 x2 x3 x4 x5 x6 x7 x8 x9) (1 : Nat)).2) (hC := (And.intro c11 trivial)) (hd := F31_d1) (h := by kernel_rfl)
theorem F31_l1_0 (h : AHeap) (x1 : Int) (x2 : Int) (x3 : Int) (x4 : Int) (x5 : Int) (x6 : Int) (x7 : Int) (x8 : Int) (x9 : Int) (x : Int) (r : Nat) (hl : loopO (fun (s : Int) => F31_s1 x1 x2 x4 x5 x6 x7 x8 x9 s) x = some r) (q0 : Nat.beq r 0 = true) : AWp Try.prog (.loop (codeOf Try.prog 31 [1, 0, 1, 0, 0])) (Ends1 .ret (F31_x1_0 h x1 x2 x3 x4 x5 x6 x7 x8 x9 r)) ((fun (s : Int) => (F31_h1 h x1 x2 x3 x4 x5 x6 x7 x8 x9 s)) x) := by
  have k := loop_fun (P := Try.prog) (c := (codeOf Try.prog 31 [1, 0, 1, 0, 0])) (step := (fun (s : Int) => F31_s1 x1 x2 x4 x5 x6 x7 x8 x9 s)) (hd := (fun (s : Int) => (F31_h1 h x1 x2 x3 x4 x5 x6 x7 x8 x9 s))) (X := (F31_x1 h x1 x2 x3 x4 x5 x6 x7 x8 x9)) (by intro t; unfold F31_x1; cases Nat.beq t 0 <;> (intro h; cases h)) (fun x => F31_r1 h x1 x2 x3 x4 x5 x6 x7 x8 x9 x) hl
  simp only [F31_x1, q0, cond_true, cond_false] at k
  exact k
theorem F31_l1_1 (h : AHeap) (x1 : Int) (x2 : Int) (x3 : Int) (x4 : Int) (x5 : Int) (x6 : Int) (x7 : Int) (x8 : Int) (x9 : Int) (x : Int) (r : Nat) (hl : loopO (fun (s : Int) => F31_s1 x1 x2 x4 x5 x6 x7 x8 x9 s) x = some r) (q0 : Nat.beq r 0 = false) : AWp Try.prog (.loop (codeOf Try.prog 31 [1, 0, 1, 0, 0])) (Ends1 (.exit 0) (F31_x1_1 h x1 x2 x3 x4 x5 x6 x7 x8 x9 r)) ((fun (s : Int) => (F31_h1 h x1 x2 x3 x4 x5 x6 x7 x8 x9 s)) x) := by
  have k := loop_fun (P := Try.prog) (c := (codeOf Try.prog 31 [1, 0, 1, 0, 0])) (step := (fun (s : Int) => F31_s1 x1 x2 x4 x5 x6 x7 x8 x9 s)) (hd := (fun (s : Int) => (F31_h1 h x1 x2 x3 x4 x5 x6 x7 x8 x9 s))) (X := (F31_x1 h x1 x2 x3 x4 x5 x6 x7 x8 x9)) (by intro t; unfold F31_x1; cases Nat.beq t 0 <;> (intro h; cases h)) (fun x => F31_r1 h x1 x2 x3 x4 x5 x6 x7 x8 x9 x) hl
  simp only [F31_x1, q0, cond_true, cond_false] at k
  exact k
def F31 (x1 : Int) (x2 : Int) (x3 : Int) (x4 : Int) (x5 : Int) (x6 : Int) (x7 : Int) (x8 : Int) (x9 : Int) : Option (Bool) :=
  (Option.bind (loopO (fun (s : Int) => F31_s1 x1 x2 x4 x5 x6 x7 x8 x9 s) 0) fun y15 =>
  (bif (Nat.beq y15 0) then
   some (false)
  else
   some (F69 x3 2305843009213693952)))
set_option maxRecDepth 100000 in
theorem F31_spec (x1 : Int) (x2 : Int) (x3 : Int) (x4 : Int) (x5 : Int) (x6 : Int) (x7 : Int) (x8 : Int) (x9 : Int) (h : AHeap)  (r : Bool) : F31 x1 x2 x3 x4 x5 x6 x7 x8 x9 = some r → ACalls Try.prog 31 [.agg #[.int .i64 x1, .int .i64 x2, .int .i64 x3, .int .i64 x4, .int .i64 x5, .int .i64 x6, .int .i64 x7, .int .i64 x8, .int .i64 x9]] h (fun v' h'' => v' = (.bool r : Value) ∧ h'' = h) := by
  unfold F31
  refine bind_opt fun y15 e15 => ?_
  refine dec_bif (fun c16 => ?_) (fun c16 => ?_)
  · intro hr
    obtain rfl := Option.some.inj hr
    exact pFun_sound good tab_ok (f := 31) (its := [.g, .g, .g, .g, .g, .g, .g, .g, .g, .g, .g, .g, .g, .g, .g, .g, .g, .g, .g, .g, .g, .g, .g, .g, .g, .g, (.l F31_m1_1 [] .ret (F31_x1_0 h x1 x2 x3 x4 x5 x6 x7 x8 x9 y15))]) (args := [.agg #[.int .i64 x1, .int .i64 x2, .int .i64 x3, .int .i64 x4, .int .i64 x5, .int .i64 x6, .int .i64 x7, .int .i64 x8, .int .i64 x9]]) (h := h) (h' := h) (v := .bool false) (hC := (And.intro (F31_l1_0 h x1 x2 x3 x4 x5 x6 x7 x8 x9 0 y15 e15 c16) trivial)) (hr := by kernel_rfl)
  · intro hr
    obtain rfl := Option.some.inj hr
    exact pFun_sound good tab_ok (f := 31) (its := [.g, .g, .g, .g, .g, .g, .g, .g, .g, .g, .g, .g, .g, .g, .g, .g, .g, .g, .g, .g, .g, .g, .g, .g, .g, .g, (.l F31_m1_1 [] (.exit 0) (F31_x1_1 h x1 x2 x3 x4 x5 x6 x7 x8 x9 y15)), .g, .g, (.c (.bool (F69 x3 2305843009213693952)) h), .g]) (args := [.agg #[.int .i64 x1, .int .i64 x2, .int .i64 x3, .int .i64 x4, .int .i64 x5, .int .i64 x6, .int .i64 x7, .int .i64 x8, .int .i64 x9]]) (h := h) (h' := h) (v := .bool (F69 x3 2305843009213693952)) (hC := (And.intro (F69_spec x3 2305843009213693952 h _ rfl) (And.intro (F31_l1_1 h x1 x2 x3 x4 x5 x6 x7 x8 x9 0 y15 e15 c16) trivial))) (hr := by kernel_rfl)
/-! 36 jacquard/diophant.sumRange -/
def F36__1 (x4 : Int) (x5 : Int) (x6 : Int) (x7 : Int) (x8 : Int) (x9 : Int) : Bool := decide ((if (IntKind.i64.wrap (x8 - x5)) > x6 then (IntKind.i64.wrap (x8 - x5)) else x6) ≤ (if (IntKind.i64.wrap (x9 - x4)) < x7 then (IntKind.i64.wrap (x9 - x4)) else x7))
def F36 (x1 : Int) (x2 : Int) (x3 : Int) (x4 : Int) (x5 : Int) (x6 : Int) (x7 : Int) (x8 : Int) (x9 : Int) : Int × Int × Bool :=
  (bif decide (x4 > x5) then
   (0, 0, false)
  else
   (bif decide (x8 > x9) then
    (0, 0, false)
   else
    ((if (IntKind.i64.wrap (x8 - x5)) > x6 then (IntKind.i64.wrap (x8 - x5)) else x6), (if (IntKind.i64.wrap (x9 - x4)) < x7 then (IntKind.i64.wrap (x9 - x4)) else x7), (F36__1 x4 x5 x6 x7 x8 x9))))
set_option maxRecDepth 100000 in
theorem F36_spec (x1 : Int) (x2 : Int) (x3 : Int) (x4 : Int) (x5 : Int) (x6 : Int) (x7 : Int) (x8 : Int) (x9 : Int) (h : AHeap)  (r : Int × Int × Bool) : F36 x1 x2 x3 x4 x5 x6 x7 x8 x9 = r → ACalls Try.prog 36 [.agg #[.int .i64 x1, .int .i64 x2, .int .i64 x3, .int .i64 x4, .int .i64 x5, .int .i64 x6, .int .i64 x7, .int .i64 x8, .int .i64 x9]] h (fun v' h'' => v' = (.tuple #[.agg #[.int .i64 r.1, .int .i64 r.2.1], .bool r.2.2] : Value) ∧ h'' = h) := by
  unfold F36
  refine dec_bif (fun c10 => ?_) (fun c10 => ?_)
  · intro hr
    subst hr
    exact pFun_sound good tab_ok (f := 36) (its := [.g, .g, .g, .g, .g, .g, .g, .g, .g, .g, .g, .n, .n, .n, .n, .n, .n, .n, (.p true), (.b true), .g, .g, .g]) (args := [.agg #[.int .i64 x1, .int .i64 x2, .int .i64 x3, .int .i64 x4, .int .i64 x5, .int .i64 x6, .int .i64 x7, .int .i64 x8, .int .i64 x9]]) (h := h) (h' := h) (v := .tuple #[.agg #[.int .i64 0, .int .i64 0], .bool false]) (hC := (And.intro l_t (And.intro c10 (And.intro (g_tf c10) (And.intro (g_tf c10) (And.intro (g_tf c10) (And.intro (g_tf c10) (And.intro (g_tf c10) (And.intro (g_tf c10) (And.intro (g_tf c10) trivial)))))))))) (hr := by kernel_rfl)
  · refine dec_bif (fun c11 => ?_) (fun c11 => ?_)
    · intro hr
      subst hr
      exact pFun_sound good tab_ok (f := 36) (its := [.g, .g, .g, .g, .g, .g, .g, .g, .g, .g, .g, (.w .g), (.w .g), (.w .g), (.w .g), (.w .g), (.w .g), (.w .g), (.p false), (.b true), .g, .g, .g]) (args := [.agg #[.int .i64 x1, .int .i64 x2, .int .i64 x3, .int .i64 x4, .int .i64 x5, .int .i64 x6, .int .i64 x7, .int .i64 x8, .int .i64 x9]]) (h := h) (h' := h) (v := .tuple #[.agg #[.int .i64 0, .int .i64 0], .bool false]) (hC := (And.intro c11 (And.intro c10 (And.intro (g_ff c10) (And.intro (g_ff c10) (And.intro (g_ff c10) (And.intro (g_ff c10) (And.intro (g_ff c10) (And.intro (g_ff c10) (And.intro (g_ff c10) trivial)))))))))) (hr := by kernel_rfl)
    · intro hr
      subst hr
      exact pFun_sound good tab_ok (f := 36) (its := [.g, .g, .g, .g, .g, .g, .g, .g, .g, .g, .g, (.w .g), (.w .g), (.w .g), (.w .g), (.w .g), (.w .g), (.w .g), (.p false), (.b false), .g, .g, .g, .g, .g, .g, .g, .g, .g, .g, .g, .g, .g, .g, .g, .g, .g, .g, .g, .g, .g, .g, .g, .g, .g, .g, .g, .g, .g, .g, .g, .g]) (args := [.agg #[.int .i64 x1, .int .i64 x2, .int .i64 x3, .int .i64 x4, .int .i64 x5, .int .i64 x6, .int .i64 x7, .int .i64 x8, .int .i64 x9]]) (h := h) (h' := h) (v := .tuple #[.agg #[.int .i64 (if (IntKind.i64.wrap (x8 - x5)) > x6 then (IntKind.i64.wrap (x8 - x5)) else x6), .int .i64 (if (IntKind.i64.wrap (x9 - x4)) < x7 then (IntKind.i64.wrap (x9 - x4)) else x7)], .bool (F36__1 x4 x5 x6 x7 x8 x9)]) (hC := (And.intro c11 (And.intro c10 (And.intro (g_ff c10) (And.intro (g_ff c10) (And.intro (g_ff c10) (And.intro (g_ff c10) (And.intro (g_ff c10) (And.intro (g_ff c10) (And.intro (g_ff c10) trivial)))))))))) (hr := by kernel_rfl)
/-! 33 jacquard/diophant.Gcd -/
def F33_L : List Nat := []
def F33_D : List (Nat × List (Nat × Nat)) := []
def F33__1 (x1 : Int) : Int := (if 2147483648 < (if (-2147483648) > x1 then (-2147483648) else x1) then 2147483648 else (if (-2147483648) > x1 then (-2147483648) else x1))
def F33__2 (x2 : Int) : Int := (if 2147483648 < (if (-2147483648) > x2 then (-2147483648) else x2) then 2147483648 else (if (-2147483648) > x2 then (-2147483648) else x2))
def F33_m1_1 : List Bool := [true, true, true, true, false, false, false, true, true, true, true, true, true, true, true, true, true, true, true, true, true, true, true, true, true, true, true, true, true, true, true, true, true, true, true, true, true, true, true, true, true, true, true, true, true, true, true, true, true, true, true, true, true, true, true]
def F33_m1_0 : List Bool := [true, true, true, true, false, false, false, false, false, false, true, true, true, true, true, true, true, true, true, true, true, true, true, true, true, true, true, true, true, true, true, true, true, true, true, true, true, true, true, true, true, true, true, true, true, true, true, true, true, true, true, true, true, true, true]
def F33_s1  (a3 : Int) (a4 : Int) (a5 : Int) (a6 : Int) (a7 : Int) (a8 : Int) : Option ((Int × Int × Int × Int × Int × Int) ⊕ (Int × Int × Int)) :=
  (bif (a6 != 0) then
   some (.inl (a6, a7, a8, (IntKind.i64.wrap (a3 - (IntKind.i64.wrap ((IntKind.i64.wrap (a3.tdiv a6)) * a6)))), (IntKind.i64.wrap (a4 - (IntKind.i64.wrap ((IntKind.i64.wrap (a3.tdiv a6)) * a7)))), (IntKind.i64.wrap (a5 - (IntKind.i64.wrap ((IntKind.i64.wrap (a3.tdiv a6)) * a8))))))
  else
   some (.inr (a3, a4, a5)))
def F33_h1 (h : AHeap)  (a3 : Int) (a4 : Int) (a5 : Int) (a6 : Int) (a7 : Int) (a8 : Int) : AS := ⟨[junk, junk, junk, junk, .int .i64 a3, .int .i64 a4, .int .i64 a5, .int .i64 a6, .int .i64 a7, .int .i64 a8, junk, junk, junk, junk, junk, junk, junk, junk, junk, junk, junk, junk, junk, junk, junk, junk, junk, junk, junk, junk, junk, junk, junk, junk, junk, junk, junk, junk, junk, junk, junk, junk, junk, junk, junk, junk, junk, junk, junk, junk, junk, junk, junk, junk, junk], [], h⟩
theorem F33_d1 : drawsOk F33_D (codeOf Try.prog 33 [1, 1, 1, 1, 1, 0, 0, 0]) = true := by kernel_rfl
def F33_x1_0 (h : AHeap)  (r : Int × Int × Int) : AS := ⟨[junk, junk, junk, junk, .int .i64 r.1, .int .i64 r.2.1, .int .i64 r.2.2, junk, junk, junk, junk, junk, junk, junk, junk, junk, junk, junk, junk, junk, junk, junk, junk, junk, junk, junk, junk, junk, junk, junk, junk, junk, junk, junk, junk, junk, junk, junk, junk, junk, junk, junk, junk, junk, junk, junk, junk, junk, junk, junk, junk, junk, junk, junk, junk], [], h⟩
def F33_x1 (h : AHeap) (r : Int × Int × Int) : Exit × AS := ((.exit 0), (F33_x1_0 h r))
set_option maxRecDepth 100000 in
theorem F33_r1 (h : AHeap) (a3 : Int) (a4 : Int) (a5 : Int) (a6 : Int) (a7 : Int) (a8 : Int) (o : (Int × Int × Int × Int × Int × Int) ⊕ (Int × Int × Int)) : F33_s1 a3 a4 a5 a6 a7 a8 = some o → RdF Try.prog (codeOf Try.prog 33 [1, 1, 1, 1, 1, 0, 0, 0]) (fun (s : Int × Int × Int × Int × Int × Int) => (F33_h1 h s.1 s.2.1 s.2.2.1 s.2.2.2.1 s.2.2.2.2.1 s.2.2.2.2.2)) (F33_x1 h) (F33_h1 h a3 a4 a5 a6 a7 a8) o := by
  unfold F33_s1
  refine dec_bif (fun c9 => ?_) (fun c9 => ?_)
  · intro hr
    obtain rfl := Option.some.inj hr
    show AWp Try.prog _ (Ends1 .normal (F33_h1 h a6 a7 a8 (IntKind.i64.wrap (a3 - (IntKind.i64.wrap ((IntKind.i64.wrap (a3.tdiv a6)) * a6)))) (IntKind.i64.wrap (a4 - (IntKind.i64.wrap ((IntKind.i64.wrap (a3.tdiv a6)) * a7)))) (IntKind.i64.wrap (a5 - (IntKind.i64.wrap ((IntKind.i64.wrap (a3.tdiv a6)) * a8)))))) _
    exact pEnd_sound good (L := F33_L) (D := F33_D) (its := [.g, .g, (.b true), .g, .g, .d, .g, .g, .g, .g, .g, .g, .g, .g, .g, .g, .g, .g, .g, .g, .g, .g, .g, .g, .g, .g, .g, .g, .g, .g, .g]) (ds := F33_m1_0) (ks := []) (e := .normal) (s2 := (F33_h1 h a6 a7 a8 (IntKind.i64.wrap (a3 - (IntKind.i64.wrap ((IntKind.i64.wrap (a3.tdiv a6)) * a6)))) (IntKind.i64.wrap (a4 - (IntKind.i64.wrap ((IntKind.i64.wrap (a3.tdiv a6)) * a7)))) (IntKind.i64.wrap (a5 - (IntKind.i64.wrap ((IntKind.i64.wrap (a3.tdiv a6)) * a8)))))) (hC := (And.intro (nz2 c9) (And.intro c9 trivial))) (hd := F33_d1) (h := by kernel_rfl)
  · intro hr
    obtain rfl := Option.some.inj hr
    show AWp Try.prog _ (Ends1 ((F33_x1 h) ((a3, a4, a5) : Int × Int × Int)).1 ((F33_x1 h) ((a3, a4, a5) : Int × Int × Int)).2) _
    exact pEnd_sound good (L := F33_L) (D := F33_D) (its := [.g, .g, (.b false)]) (ds := F33_m1_1) (ks := []) (e := ((F33_x1 h) ((a3, a4, a5) : Int × Int × Int)).1) (s2 := ((F33_x1 h) ((a3, a4, a5) : Int × Int × Int)).2) (hC := (And.intro c9 trivial)) (hd := F33_d1) (h := by kernel_rfl)
theorem F33_l1_0 (h : AHeap) (x : Int × Int × Int × Int × Int × Int) (r : Int × Int × Int) (hl : loopO (fun (s : Int × Int × Int × Int × Int × Int) => F33_s1 s.1 s.2.1 s.2.2.1 s.2.2.2.1 s.2.2.2.2.1 s.2.2.2.2.2) x = some r) : AWp Try.prog (.loop (codeOf Try.prog 33 [1, 1, 1, 1, 1, 0, 0, 0])) (Ends1 (.exit 0) (F33_x1_0 h r)) ((fun (s : Int × Int × Int × Int × Int × Int) => (F33_h1 h s.1 s.2.1 s.2.2.1 s.2.2.2.1 s.2.2.2.2.1 s.2.2.2.2.2)) x) := by
  have k := loop_fun (P := Try.prog) (c := (codeOf Try.prog 33 [1, 1, 1, 1, 1, 0, 0, 0])) (step := (fun (s : Int × Int × Int × Int × Int × Int) => F33_s1 s.1 s.2.1 s.2.2.1 s.2.2.2.1 s.2.2.2.2.1 s.2.2.2.2.2)) (hd := (fun (s : Int × Int × Int × Int × Int × Int) => (F33_h1 h s.1 s.2.1 s.2.2.1 s.2.2.2.1 s.2.2.2.2.1 s.2.2.2.2.2))) (X := (F33_x1 h)) (by intro t; unfold F33_x1; intro h; cases h) (fun x => F33_r1 h x.1 x.2.1 x.2.2.1 x.2.2.2.1 x.2.2.2.2.1 x.2.2.2.2.2) hl
  exact k
def F33 (x1 : Int) (x2 : Int) : Option (Int × Int × Int) :=
  (Option.bind (loopO (fun (s : Int × Int × Int × Int × Int × Int) => F33_s1 s.1 s.2.1 s.2.2.1 s.2.2.2.1 s.2.2.2.2.1 s.2.2.2.2.2) ((F33__1 x1), 1, 0, (F33__2 x2), 0, 1)) fun y10 =>
  (bif decide (y10.1 < 0) then
   (bif ((IntKind.i64.wrap (0 - y10.1)) == 0) then
    some (0, 0, 0)
   else
    some ((IntKind.i64.wrap (0 - y10.1)), (IntKind.i64.wrap (0 - y10.2.1)), (IntKind.i64.wrap (0 - y10.2.2))))
  else
   (bif (y10.1 == 0) then
    some (0, 0, 0)
   else
    some (y10.1, y10.2.1, y10.2.2))))
set_option maxRecDepth 100000 in
theorem F33_spec (x1 : Int) (x2 : Int) (h : AHeap)  (r : Int × Int × Int) : F33 x1 x2 = some r → ACalls Try.prog 33 [.int .i64 x1, .int .i64 x2] h (fun v' h'' => v' = (.tuple #[.int .i64 r.1, .int .i64 r.2.1, .int .i64 r.2.2] : Value) ∧ h'' = h) := by
  unfold F33
  refine bind_opt fun y10 e10 => ?_
  refine dec_bif (fun c11 => ?_) (fun c11 => ?_)
  · refine dec_bif (fun c12 => ?_) (fun c12 => ?_)
    · intro hr
      obtain rfl := Option.some.inj hr
      exact pFun_sound good tab_ok (f := 33) (its := [.g, .g, .g, .g, .g, .g, .g, .g, .g, .g, .g, .g, .g, .g, .g, .g, .g, .g, .g, (.l F33_m1_0 [] (.exit 0) (F33_x1_0 h y10)), .g, .g, (.b true), .g, .g, .g, .g, .g, .g, .g, .g, .g, .g, .g, (.b true), .g, .g, .g]) (args := [.int .i64 x1, .int .i64 x2]) (h := h) (h' := h) (v := .tuple #[.int .i64 0, .int .i64 0, .int .i64 0]) (hC := (And.intro c12 (And.intro c11 (And.intro (F33_l1_0 h ((F33__1 x1), 1, 0, (F33__2 x2), 0, 1) y10 e10) trivial)))) (hr := by kernel_rfl)
    · intro hr
      obtain rfl := Option.some.inj hr
      exact pFun_sound good tab_ok (f := 33) (its := [.g, .g, .g, .g, .g, .g, .g, .g, .g, .g, .g, .g, .g, .g, .g, .g, .g, .g, .g, (.l F33_m1_0 [] (.exit 0) (F33_x1_0 h y10)), .g, .g, (.b true), .g, .g, .g, .g, .g, .g, .g, .g, .g, .g, .g, (.b false), .g, .g, .g, .g, .g, .g]) (args := [.int .i64 x1, .int .i64 x2]) (h := h) (h' := h) (v := .tuple #[.int .i64 (IntKind.i64.wrap (0 - y10.1)), .int .i64 (IntKind.i64.wrap (0 - y10.2.1)), .int .i64 (IntKind.i64.wrap (0 - y10.2.2))]) (hC := (And.intro c12 (And.intro c11 (And.intro (F33_l1_0 h ((F33__1 x1), 1, 0, (F33__2 x2), 0, 1) y10 e10) trivial)))) (hr := by kernel_rfl)
  · refine dec_bif (fun c13 => ?_) (fun c13 => ?_)
    · intro hr
      obtain rfl := Option.some.inj hr
      exact pFun_sound good tab_ok (f := 33) (its := [.g, .g, .g, .g, .g, .g, .g, .g, .g, .g, .g, .g, .g, .g, .g, .g, .g, .g, .g, (.l F33_m1_0 [] (.exit 0) (F33_x1_0 h y10)), .g, .g, (.b false), .g, .g, (.b true), .g, .g, .g]) (args := [.int .i64 x1, .int .i64 x2]) (h := h) (h' := h) (v := .tuple #[.int .i64 0, .int .i64 0, .int .i64 0]) (hC := (And.intro c13 (And.intro c11 (And.intro (F33_l1_0 h ((F33__1 x1), 1, 0, (F33__2 x2), 0, 1) y10 e10) trivial)))) (hr := by kernel_rfl)
    · intro hr
      obtain rfl := Option.some.inj hr
      exact pFun_sound good tab_ok (f := 33) (its := [.g, .g, .g, .g, .g, .g, .g, .g, .g, .g, .g, .g, .g, .g, .g, .g, .g, .g, .g, (.l F33_m1_0 [] (.exit 0) (F33_x1_0 h y10)), .g, .g, (.b false), .g, .g, (.b false), .g, .g, .g, .g, .g, .g]) (args := [.int .i64 x1, .int .i64 x2]) (h := h) (h' := h) (v := .tuple #[.int .i64 y10.1, .int .i64 y10.2.1, .int .i64 y10.2.2]) (hC := (And.intro c13 (And.intro c11 (And.intro (F33_l1_0 h ((F33__1 x1), 1, 0, (F33__2 x2), 0, 1) y10 e10) trivial)))) (hr := by kernel_rfl)
/-! 34 jacquard/diophant.remainder -/
def F34 (x1 : Int) (x2 : Int) : Option (Int) :=
  (bif (x2 == 0) then none else
  (bif decide ((x1.tmod x2) < 0) then
   some (IntKind.i64.wrap ((x1.tmod x2) + x2))
  else
   some (x1.tmod x2)))
set_option maxRecDepth 100000 in
theorem F34_spec (x1 : Int) (x2 : Int) (h : AHeap)  (r : Int) : F34 x1 x2 = some r → ACalls Try.prog 34 [.int .i64 x1, .int .i64 x2] h (fun v' h'' => v' = (.int .i64 r : Value) ∧ h'' = h) := by
  unfold F34
  refine guard_ok fun g3 => ?_
  refine dec_bif (fun c4 => ?_) (fun c4 => ?_)
  · intro hr
    obtain rfl := Option.some.inj hr
    exact pFun_sound good tab_ok (f := 34) (its := [.g, .g, .g, .d, .g, .g, .g, (.b true), .g, .g, .g, .g, .g, .g]) (args := [.int .i64 x1, .int .i64 x2]) (h := h) (h' := h) (v := .int .i64 (IntKind.i64.wrap ((x1.tmod x2) + x2))) (hC := (And.intro c4 (And.intro (nz g3) trivial))) (hr := by kernel_rfl)
  · intro hr
    obtain rfl := Option.some.inj hr
    exact pFun_sound good tab_ok (f := 34) (its := [.g, .g, .g, .d, .g, .g, .g, (.b false), .g, .g]) (args := [.int .i64 x1, .int .i64 x2]) (h := h) (h' := h) (v := .int .i64 (x1.tmod x2)) (hC := (And.intro c4 (And.intro (nz g3) trivial))) (hr := by kernel_rfl)
/-! 11 jacquard/diophant.All -/
def F11__1 (x2 : Int) (y15 : Int × Int × Int) : Int := (IntKind.i64.wrap ((if (IntKind.i64.wrap (0 - x2)) > x2 then (IntKind.i64.wrap (0 - x2)) else x2).tdiv y15.1))
def F11__2 (x2 : Int) (y26 : Int × Int × Int) : Int := (IntKind.i64.wrap ((if (IntKind.i64.wrap (0 - x2)) > x2 then (IntKind.i64.wrap (0 - x2)) else x2).tdiv y26.1))
def F11 (x1 : Int) (x2 : Int) (x3 : Int) (x4 : Int) (x5 : Int) (x6 : Int) (x7 : Int) (x8 : Int) (x9 : Int) : Option (Int × Int × Int × Int × Bool) :=
  (Option.bind (F31 x1 x2 x3 x4 x5 x6 x7 x8 x9) fun y10 =>
  (bif (!y10) then
   some (0, 0, 0, 0, false)
  else
   (bif (x1 == 0) then
    (bif (x2 == 0) then
     some (0, 0, 0, 0, false)
    else
     (Option.bind (F33 x1 x2) fun y15 =>
     (bif (y15.1 == 0) then none else
     (bif ((x3.tmod y15.1) != 0) then
      some (0, 0, 0, 0, false)
     else
      (Option.bind (F34 y15.2.1 (F11__1 x2 y15)) fun y19 =>
      (Option.bind (F34 (IntKind.i64.wrap (x3.tdiv y15.1)) (F11__1 x2 y15)) fun y21 =>
      (Option.bind (F34 (IntKind.i64.wrap (y19 * y21)) (F11__1 x2 y15)) fun y23 =>
      (bif decide (x2 < 0) then
       some (y23, (IntKind.i64.wrap ((IntKind.i64.wrap (x3 - (IntKind.i64.wrap (x1 * y23)))).tdiv x2)), (F11__1 x2 y15), (IntKind.i64.wrap (x1.tdiv y15.1)), true)
      else
       some (y23, (IntKind.i64.wrap ((IntKind.i64.wrap (x3 - (IntKind.i64.wrap (x1 * y23)))).tdiv x2)), (F11__1 x2 y15), (IntKind.i64.wrap ((IntKind.i64.wrap (0 - x1)).tdiv y15.1)), true)))))))))
   else
    (Option.bind (F33 x1 x2) fun y26 =>
    (bif (y26.1 == 0) then none else
    (bif ((x3.tmod y26.1) != 0) then
     some (0, 0, 0, 0, false)
    else
     (bif (x2 == 0) then
      some ((IntKind.i64.wrap (x3.tdiv x1)), 0, 0, 1, true)
     else
      (Option.bind (F34 y26.2.1 (F11__2 x2 y26)) fun y31 =>
      (Option.bind (F34 (IntKind.i64.wrap (x3.tdiv y26.1)) (F11__2 x2 y26)) fun y33 =>
      (Option.bind (F34 (IntKind.i64.wrap (y31 * y33)) (F11__2 x2 y26)) fun y35 =>
      (bif decide (x2 < 0) then
       some (y35, (IntKind.i64.wrap ((IntKind.i64.wrap (x3 - (IntKind.i64.wrap (x1 * y35)))).tdiv x2)), (F11__2 x2 y26), (IntKind.i64.wrap (x1.tdiv y26.1)), true)
      else
       some (y35, (IntKind.i64.wrap ((IntKind.i64.wrap (x3 - (IntKind.i64.wrap (x1 * y35)))).tdiv x2)), (F11__2 x2 y26), (IntKind.i64.wrap ((IntKind.i64.wrap (0 - x1)).tdiv y26.1)), true))))))))))))
set_option maxRecDepth 100000 in
theorem F11_spec (x1 : Int) (x2 : Int) (x3 : Int) (x4 : Int) (x5 : Int) (x6 : Int) (x7 : Int) (x8 : Int) (x9 : Int) (h : AHeap)  (r : Int × Int × Int × Int × Bool) : F11 x1 x2 x3 x4 x5 x6 x7 x8 x9 = some r → ACalls Try.prog 11 [.agg #[.int .i64 x1, .int .i64 x2, .int .i64 x3, .int .i64 x4, .int .i64 x5, .int .i64 x6, .int .i64 x7, .int .i64 x8, .int .i64 x9]] h (fun v' h'' => v' = (.tuple #[.agg #[.int .i64 r.1, .int .i64 r.2.1, .int .i64 r.2.2.1, .int .i64 r.2.2.2.1], .bool r.2.2.2.2] : Value) ∧ h'' = h) := by
  unfold F11
  refine bind_opt fun y10 e10 => ?_
  refine dec_bif (fun c12 => ?_) (fun c12 => ?_)
  · intro hr
    obtain rfl := Option.some.inj hr
    exact pFun_sound good tab_ok (f := 11) (its := [.g, .g, .g, .g, (.c (.bool y10) h), .g, .g, .n, .n, .n, .n, .n, .n, .n, .n, (.p true), (.b true), .g, .g, .g]) (args := [.agg #[.int .i64 x1, .int .i64 x2, .int .i64 x3, .int .i64 x4, .int .i64 x5, .int .i64 x6, .int .i64 x7, .int .i64 x8, .int .i64 x9]]) (h := h) (h' := h) (v := .tuple #[.agg #[.int .i64 0, .int .i64 0, .int .i64 0, .int .i64 0], .bool false]) (hC := (And.intro l_t (And.intro c12 (And.intro (g_tf c12) (And.intro l_f (And.intro l_f (And.intro l_f (And.intro (g_tf c12) (And.intro (g_tf c12) (And.intro (g_tf c12) (And.intro (g_tf c12) (And.intro (F31_spec x1 x2 x3 x4 x5 x6 x7 x8 x9 h _ e10) trivial)))))))))))) (hr := by kernel_rfl)
  · refine dec_bif (fun c13 => ?_) (fun c13 => ?_)
    · refine dec_bif (fun c14 => ?_) (fun c14 => ?_)
      · intro hr
        obtain rfl := Option.some.inj hr
        exact pFun_sound good tab_ok (f := 11) (its := [.g, .g, .g, .g, (.c (.bool y10) h), .g, .g, (.w .g), (.w .g), (.w .g), (.w .g), (.w .g), (.w .g), (.w .g), (.w (.p true)), (.p false), (.b true), .g, .g, .g]) (args := [.agg #[.int .i64 x1, .int .i64 x2, .int .i64 x3, .int .i64 x4, .int .i64 x5, .int .i64 x6, .int .i64 x7, .int .i64 x8, .int .i64 x9]]) (h := h) (h' := h) (v := .tuple #[.agg #[.int .i64 0, .int .i64 0, .int .i64 0, .int .i64 0], .bool false]) (hC := (And.intro c14 (And.intro c12 (And.intro c13 (And.intro (g_ff c12) (And.intro (g_tt c13) (And.intro (g_tt c13) (And.intro (g_tt c13) (And.intro (g_ff c12) (And.intro (g_ff c12) (And.intro (g_ff c12) (And.intro (g_ff c12) (And.intro (F31_spec x1 x2 x3 x4 x5 x6 x7 x8 x9 h _ e10) trivial))))))))))))) (hr := by kernel_rfl)
      · refine bind_opt fun y15 e15 => ?_
        refine guard_ok fun g17 => ?_
        refine dec_bif (fun c18 => ?_) (fun c18 => ?_)
        · intro hr
          obtain rfl := Option.some.inj hr
          exact pFun_sound good tab_ok (f := 11) (its := [.g, .g, .g, .g, (.c (.bool y10) h), .g, .g, (.w .g), (.w .g), (.w .g), (.w .g), (.w .g), (.w .g), (.w .g), (.w (.p true)), (.p false), (.b false), .g, .g, .g, .g, (.c (.tuple #[.int .i64 y15.1, .int .i64 y15.2.1, .int .i64 y15.2.2]) h), .g, .g, .g, .g, .g, .g, .g, .g, .g, .g, .d, .g, (.b true), .g, .g, .g]) (args := [.agg #[.int .i64 x1, .int .i64 x2, .int .i64 x3, .int .i64 x4, .int .i64 x5, .int .i64 x6, .int .i64 x7, .int .i64 x8, .int .i64 x9]]) (h := h) (h' := h) (v := .tuple #[.agg #[.int .i64 0, .int .i64 0, .int .i64 0, .int .i64 0], .bool false]) (hC := (And.intro c18 (And.intro (nz g17) (And.intro (F33_spec x1 x2 h _ e15) (And.intro c14 (And.intro c12 (And.intro c13 (And.intro (g_ff c12) (And.intro (g_tt c13) (And.intro (g_tt c13) (And.intro (g_tt c13) (And.intro (g_ff c12) (And.intro (g_ff c12) (And.intro (g_ff c12) (And.intro (g_ff c12) (And.intro (F31_spec x1 x2 x3 x4 x5 x6 x7 x8 x9 h _ e10) trivial)))))))))))))))) (hr := by kernel_rfl)
        · refine bind_opt fun y19 e19 => ?_
          refine bind_opt fun y21 e21 => ?_
          refine bind_opt fun y23 e23 => ?_
          refine dec_bif (fun c25 => ?_) (fun c25 => ?_)
          · intro hr
            obtain rfl := Option.some.inj hr
            exact pFun_sound good tab_ok (f := 11) (its := [.g, .g, .g, .g, (.c (.bool y10) h), .g, .g, (.w .g), (.w .g), (.w .g), (.w .g), (.w .g), (.w .g), (.w .g), (.w (.p true)), (.p false), (.b false), .g, .g, .g, .g, (.c (.tuple #[.int .i64 y15.1, .int .i64 y15.2.1, .int .i64 y15.2.2]) h), .g, .g, .g, .g, .g, .g, .g, .g, .g, .g, .d, .g, (.b false), .g, .g, .g, (.b false), .g, .g, .g, .g, .g, .g, .g, .g, .g, .d, .g, .g, .g, .g, .g, .g, .g, .g, .d, (.c (.int .i64 y19) h), (.c (.int .i64 y21) h), .g, (.c (.int .i64 y23) h), .g, .g, .g, .g, .g, .g, .g, .g, .g, .g, .g, .d, .g, .g, .g, .g, .g, .d, .g, .g, .g, .g, .g, .g, (.b true), .g, .g, .g, .d, .g, .g, .g, .g, .g]) (args := [.agg #[.int .i64 x1, .int .i64 x2, .int .i64 x3, .int .i64 x4, .int .i64 x5, .int .i64 x6, .int .i64 x7, .int .i64 x8, .int .i64 x9]]) (h := h) (h' := h) (v := .tuple #[.agg #[.int .i64 y23, .int .i64 (IntKind.i64.wrap ((IntKind.i64.wrap (x3 - (IntKind.i64.wrap (x1 * y23)))).tdiv x2)), .int .i64 (F11__1 x2 y15), .int .i64 (IntKind.i64.wrap (x1.tdiv y15.1))], .bool true]) (hC := (And.intro (nz g17) (And.intro c25 (And.intro (nz g17) (And.intro (nz c14) (And.intro (show AKeep h h from (AHeap.sub_refl h)) (And.intro (F34_spec (IntKind.i64.wrap (y19 * y21)) (F11__1 x2 y15) h _ e23) (And.intro (show AKeep h h from (AHeap.sub_refl h)) (And.intro (F34_spec (IntKind.i64.wrap (x3.tdiv y15.1)) (F11__1 x2 y15) h _ e21) (And.intro (show AKeep h h from (AHeap.sub_refl h)) (And.intro (F34_spec y15.2.1 (F11__1 x2 y15) h _ e19) (And.intro (nz g17) (And.intro (nz g17) (And.intro c14 (And.intro c18 (And.intro (nz g17) (And.intro (F33_spec x1 x2 h _ e15) (And.intro c14 (And.intro c12 (And.intro c13 (And.intro (g_ff c12) (And.intro (g_tt c13) (And.intro (g_tt c13) (And.intro (g_tt c13) (And.intro (g_ff c12) (And.intro (g_ff c12) (And.intro (g_ff c12) (And.intro (g_ff c12) (And.intro (F31_spec x1 x2 x3 x4 x5 x6 x7 x8 x9 h _ e10) trivial))))))))))))))))))))))))))))) (hr := by kernel_rfl)
          · intro hr
            obtain rfl := Option.some.inj hr
            exact pFun_sound good tab_ok (f := 11) (its := [.g, .g, .g, .g, (.c (.bool y10) h), .g, .g, (.w .g), (.w .g), (.w .g), (.w .g), (.w .g), (.w .g), (.w .g), (.w (.p true)), (.p false), (.b false), .g, .g, .g, .g, (.c (.tuple #[.int .i64 y15.1, .int .i64 y15.2.1, .int .i64 y15.2.2]) h), .g, .g, .g, .g, .g, .g, .g, .g, .g, .g, .d, .g, (.b false), .g, .g, .g, (.b false), .g, .g, .g, .g, .g, .g, .g, .g, .g, .d, .g, .g, .g, .g, .g, .g, .g, .g, .d, (.c (.int .i64 y19) h), (.c (.int .i64 y21) h), .g, (.c (.int .i64 y23) h), .g, .g, .g, .g, .g, .g, .g, .g, .g, .g, .g, .d, .g, .g, .g, .g, .g, .d, .g, .g, .g, .g, .g, .g, (.b false), .g, .g, .g]) (args := [.agg #[.int .i64 x1, .int .i64 x2, .int .i64 x3, .int .i64 x4, .int .i64 x5, .int .i64 x6, .int .i64 x7, .int .i64 x8, .int .i64 x9]]) (h := h) (h' := h) (v := .tuple #[.agg #[.int .i64 y23, .int .i64 (IntKind.i64.wrap ((IntKind.i64.wrap (x3 - (IntKind.i64.wrap (x1 * y23)))).tdiv x2)), .int .i64 (F11__1 x2 y15), .int .i64 (IntKind.i64.wrap ((IntKind.i64.wrap (0 - x1)).tdiv y15.1))], .bool true]) (hC := (And.intro c25 (And.intro (nz g17) (And.intro (nz c14) (And.intro (show AKeep h h from (AHeap.sub_refl h)) (And.intro (F34_spec (IntKind.i64.wrap (y19 * y21)) (F11__1 x2 y15) h _ e23) (And.intro (show AKeep h h from (AHeap.sub_refl h)) (And.intro (F34_spec (IntKind.i64.wrap (x3.tdiv y15.1)) (F11__1 x2 y15) h _ e21) (And.intro (show AKeep h h from (AHeap.sub_refl h)) (And.intro (F34_spec y15.2.1 (F11__1 x2 y15) h _ e19) (And.intro (nz g17) (And.intro (nz g17) (And.intro c14 (And.intro c18 (And.intro (nz g17) (And.intro (F33_spec x1 x2 h _ e15) (And.intro c14 (And.intro c12 (And.intro c13 (And.intro (g_ff c12) (And.intro (g_tt c13) (And.intro (g_tt c13) (And.intro (g_tt c13) (And.intro (g_ff c12) (And.intro (g_ff c12) (And.intro (g_ff c12) (And.intro (g_ff c12) (And.intro (F31_spec x1 x2 x3 x4 x5 x6 x7 x8 x9 h _ e10) trivial)))))))))))))))))))))))))))) (hr := by kernel_rfl)
    · refine bind_opt fun y26 e26 => ?_
      refine guard_ok fun g28 => ?_
      refine dec_bif (fun c29 => ?_) (fun c29 => ?_)
      · intro hr
        obtain rfl := Option.some.inj hr
        exact pFun_sound good tab_ok (f := 11) (its := [.g, .g, .g, .g, (.c (.bool y10) h), .g, .g, (.w .g), (.w .g), (.w .g), (.w .g), .n, .n, .n, (.w (.p false)), (.p false), (.b false), .g, .g, .g, .g, (.c (.tuple #[.int .i64 y26.1, .int .i64 y26.2.1, .int .i64 y26.2.2]) h), .g, .g, .g, .g, .g, .g, .g, .g, .g, .g, .d, .g, (.b true), .g, .g, .g]) (args := [.agg #[.int .i64 x1, .int .i64 x2, .int .i64 x3, .int .i64 x4, .int .i64 x5, .int .i64 x6, .int .i64 x7, .int .i64 x8, .int .i64 x9]]) (h := h) (h' := h) (v := .tuple #[.agg #[.int .i64 0, .int .i64 0, .int .i64 0, .int .i64 0], .bool false]) (hC := (And.intro c29 (And.intro (nz g28) (And.intro (F33_spec x1 x2 h _ e26) (And.intro l_f (And.intro c12 (And.intro c13 (And.intro (g_ff c12) (And.intro (g_ft c13) (And.intro (g_ft c13) (And.intro (g_ft c13) (And.intro (g_ff c12) (And.intro (g_ff c12) (And.intro (g_ff c12) (And.intro (g_ff c12) (And.intro (F31_spec x1 x2 x3 x4 x5 x6 x7 x8 x9 h _ e10) trivial)))))))))))))))) (hr := by kernel_rfl)
      · refine dec_bif (fun c30 => ?_) (fun c30 => ?_)
        · intro hr
          obtain rfl := Option.some.inj hr
          exact pFun_sound good tab_ok (f := 11) (its := [.g, .g, .g, .g, (.c (.bool y10) h), .g, .g, (.w .g), (.w .g), (.w .g), (.w .g), .n, .n, .n, (.w (.p false)), (.p false), (.b false), .g, .g, .g, .g, (.c (.tuple #[.int .i64 y26.1, .int .i64 y26.2.1, .int .i64 y26.2.2]) h), .g, .g, .g, .g, .g, .g, .g, .g, .g, .g, .d, .g, (.b false), .g, .g, .g, (.b true), .g, .g, .g, .g, .d, .g, .g, .g]) (args := [.agg #[.int .i64 x1, .int .i64 x2, .int .i64 x3, .int .i64 x4, .int .i64 x5, .int .i64 x6, .int .i64 x7, .int .i64 x8, .int .i64 x9]]) (h := h) (h' := h) (v := .tuple #[.agg #[.int .i64 (IntKind.i64.wrap (x3.tdiv x1)), .int .i64 0, .int .i64 0, .int .i64 1], .bool true]) (hC := (And.intro (nz c13) (And.intro c30 (And.intro c29 (And.intro (nz g28) (And.intro (F33_spec x1 x2 h _ e26) (And.intro l_f (And.intro c12 (And.intro c13 (And.intro (g_ff c12) (And.intro (g_ft c13) (And.intro (g_ft c13) (And.intro (g_ft c13) (And.intro (g_ff c12) (And.intro (g_ff c12) (And.intro (g_ff c12) (And.intro (g_ff c12) (And.intro (F31_spec x1 x2 x3 x4 x5 x6 x7 x8 x9 h _ e10) trivial)))))))))))))))))) (hr := by kernel_rfl)
        · refine bind_opt fun y31 e31 => ?_
          refine bind_opt fun y33 e33 => ?_
          refine bind_opt fun y35 e35 => ?_
          refine dec_bif (fun c37 => ?_) (fun c37 => ?_)
          · intro hr
            obtain rfl := Option.some.inj hr
            exact pFun_sound good tab_ok (f := 11) (its := [.g, .g, .g, .g, (.c (.bool y10) h), .g, .g, (.w .g), (.w .g), (.w .g), (.w .g), .n, .n, .n, (.w (.p false)), (.p false), (.b false), .g, .g, .g, .g, (.c (.tuple #[.int .i64 y26.1, .int .i64 y26.2.1, .int .i64 y26.2.2]) h), .g, .g, .g, .g, .g, .g, .g, .g, .g, .g, .d, .g, (.b false), .g, .g, .g, (.b false), .g, .g, .g, .g, .g, .g, .g, .g, .g, .d, .g, .g, .g, .g, .g, .g, .g, .g, .d, (.c (.int .i64 y31) h), (.c (.int .i64 y33) h), .g, (.c (.int .i64 y35) h), .g, .g, .g, .g, .g, .g, .g, .g, .g, .g, .g, .d, .g, .g, .g, .g, .g, .d, .g, .g, .g, .g, .g, .g, (.b true), .g, .g, .g, .d, .g, .g, .g, .g, .g]) (args := [.agg #[.int .i64 x1, .int .i64 x2, .int .i64 x3, .int .i64 x4, .int .i64 x5, .int .i64 x6, .int .i64 x7, .int .i64 x8, .int .i64 x9]]) (h := h) (h' := h) (v := .tuple #[.agg #[.int .i64 y35, .int .i64 (IntKind.i64.wrap ((IntKind.i64.wrap (x3 - (IntKind.i64.wrap (x1 * y35)))).tdiv x2)), .int .i64 (F11__2 x2 y26), .int .i64 (IntKind.i64.wrap (x1.tdiv y26.1))], .bool true]) (hC := (And.intro (nz g28) (And.intro c37 (And.intro (nz g28) (And.intro (nz c30) (And.intro (show AKeep h h from (AHeap.sub_refl h)) (And.intro (F34_spec (IntKind.i64.wrap (y31 * y33)) (F11__2 x2 y26) h _ e35) (And.intro (show AKeep h h from (AHeap.sub_refl h)) (And.intro (F34_spec (IntKind.i64.wrap (x3.tdiv y26.1)) (F11__2 x2 y26) h _ e33) (And.intro (show AKeep h h from (AHeap.sub_refl h)) (And.intro (F34_spec y26.2.1 (F11__2 x2 y26) h _ e31) (And.intro (nz g28) (And.intro (nz g28) (And.intro c30 (And.intro c29 (And.intro (nz g28) (And.intro (F33_spec x1 x2 h _ e26) (And.intro l_f (And.intro c12 (And.intro c13 (And.intro (g_ff c12) (And.intro (g_ft c13) (And.intro (g_ft c13) (And.intro (g_ft c13) (And.intro (g_ff c12) (And.intro (g_ff c12) (And.intro (g_ff c12) (And.intro (g_ff c12) (And.intro (F31_spec x1 x2 x3 x4 x5 x6 x7 x8 x9 h _ e10) trivial))))))))))))))))))))))))))))) (hr := by kernel_rfl)
          · intro hr
            obtain rfl := Option.some.inj hr
            exact pFun_sound good tab_ok (f := 11) (its := [.g, .g, .g, .g, (.c (.bool y10) h), .g, .g, (.w .g), (.w .g), (.w .g), (.w .g), .n, .n, .n, (.w (.p false)), (.p false), (.b false), .g, .g, .g, .g, (.c (.tuple #[.int .i64 y26.1, .int .i64 y26.2.1, .int .i64 y26.2.2]) h), .g, .g, .g, .g, .g, .g, .g, .g, .g, .g, .d, .g, (.b false), .g, .g, .g, (.b false), .g, .g, .g, .g, .g, .g, .g, .g, .g, .d, .g, .g, .g, .g, .g, .g, .g, .g, .d, (.c (.int .i64 y31) h), (.c (.int .i64 y33) h), .g, (.c (.int .i64 y35) h), .g, .g, .g, .g, .g, .g, .g, .g, .g, .g, .g, .d, .g, .g, .g, .g, .g, .d, .g, .g, .g, .g, .g, .g, (.b false), .g, .g, .g]) (args := [.agg #[.int .i64 x1, .int .i64 x2, .int .i64 x3, .int .i64 x4, .int .i64 x5, .int .i64 x6, .int .i64 x7, .int .i64 x8, .int .i64 x9]]) (h := h) (h' := h) (v := .tuple #[.agg #[.int .i64 y35, .int .i64 (IntKind.i64.wrap ((IntKind.i64.wrap (x3 - (IntKind.i64.wrap (x1 * y35)))).tdiv x2)), .int .i64 (F11__2 x2 y26), .int .i64 (IntKind.i64.wrap ((IntKind.i64.wrap (0 - x1)).tdiv y26.1))], .bool true]) (hC := (And.intro c37 (And.intro (nz g28) (And.intro (nz c30) (And.intro (show AKeep h h from (AHeap.sub_refl h)) (And.intro (F34_spec (IntKind.i64.wrap (y31 * y33)) (F11__2 x2 y26) h _ e35) (And.intro (show AKeep h h from (AHeap.sub_refl h)) (And.intro (F34_spec (IntKind.i64.wrap (x3.tdiv y26.1)) (F11__2 x2 y26) h _ e33) (And.intro (show AKeep h h from (AHeap.sub_refl h)) (And.intro (F34_spec y26.2.1 (F11__2 x2 y26) h _ e31) (And.intro (nz g28) (And.intro (nz g28) (And.intro c30 (And.intro c29 (And.intro (nz g28) (And.intro (F33_spec x1 x2 h _ e26) (And.intro l_f (And.intro c12 (And.intro c13 (And.intro (g_ff c12) (And.intro (g_ft c13) (And.intro (g_ft c13) (And.intro (g_ft c13) (And.intro (g_ff c12) (And.intro (g_ff c12) (And.intro (g_ff c12) (And.intro (g_ff c12) (And.intro (F31_spec x1 x2 x3 x4 x5 x6 x7 x8 x9 h _ e10) trivial)))))))))))))))))))))))))))) (hr := by kernel_rfl)
/-! 70 jacquard/diophant.dimensions -/
def F70 (x1 : Int) (x2 : Int) (x3 : Int) (x4 : Int) (x5 : Int) (x6 : Int) (x7 : Int) (x8 : Int) (x9 : Int) (x10 : Int) (x11 : Int) (x12 : Int) (x13 : Int) : Int × Int × Int × Int × Int × Int × Int × Int × Int × Int × Int × Int :=
  (x10, x12, x4, x5, x11, x13, x6, x7, (IntKind.i64.wrap (x10 + x11)), (IntKind.i64.wrap (x12 + x13)), x8, x9)
set_option maxRecDepth 100000 in
theorem F70_spec (x1 : Int) (x2 : Int) (x3 : Int) (x4 : Int) (x5 : Int) (x6 : Int) (x7 : Int) (x8 : Int) (x9 : Int) (x10 : Int) (x11 : Int) (x12 : Int) (x13 : Int) (h : AHeap)  (r : Int × Int × Int × Int × Int × Int × Int × Int × Int × Int × Int × Int) : F70 x1 x2 x3 x4 x5 x6 x7 x8 x9 x10 x11 x12 x13 = r → ACalls Try.prog 70 [.agg #[.int .i64 x1, .int .i64 x2, .int .i64 x3, .int .i64 x4, .int .i64 x5, .int .i64 x6, .int .i64 x7, .int .i64 x8, .int .i64 x9], .agg #[.int .i64 x10, .int .i64 x11, .int .i64 x12, .int .i64 x13]] h (fun v' h'' => v' = (.agg #[.int .i64 r.1, .int .i64 r.2.1, .int .i64 r.2.2.1, .int .i64 r.2.2.2.1, .int .i64 r.2.2.2.2.1, .int .i64 r.2.2.2.2.2.1, .int .i64 r.2.2.2.2.2.2.1, .int .i64 r.2.2.2.2.2.2.2.1, .int .i64 r.2.2.2.2.2.2.2.2.1, .int .i64 r.2.2.2.2.2.2.2.2.2.1, .int .i64 r.2.2.2.2.2.2.2.2.2.2.1, .int .i64 r.2.2.2.2.2.2.2.2.2.2.2] : Value) ∧ h'' = h) := by
  unfold F70
  intro hr
  subst hr
  exact pFun_sound good tab_ok (f := 70) (its := [.g, .g, .g, .g, .g, .g, .g, .g, .g, .g, .g, .g, .g, .g, .g, .g, .g, .g, .g, .g, .g, .g, .g, .g, .g, .g, .g, .g, .g, .g, .g, .g]) (args := [.agg #[.int .i64 x1, .int .i64 x2, .int .i64 x3, .int .i64 x4, .int .i64 x5, .int .i64 x6, .int .i64 x7, .int .i64 x8, .int .i64 x9], .agg #[.int .i64 x10, .int .i64 x11, .int .i64 x12, .int .i64 x13]]) (h := h) (h' := h) (v := .agg #[.int .i64 x10, .int .i64 x12, .int .i64 x4, .int .i64 x5, .int .i64 x11, .int .i64 x13, .int .i64 x6, .int .i64 x7, .int .i64 (IntKind.i64.wrap (x10 + x11)), .int .i64 (IntKind.i64.wrap (x12 + x13)), .int .i64 x8, .int .i64 x9]) (hC := trivial) (hr := by kernel_rfl)
/-! 89 jacquard/diophant.floor -/
def F89 (x1 : Int) (x2 : Int) : Option (Int) :=
  (bif (x2 == 0) then none else
  (bif decide ((x1.tmod x2) < 0) then
   some (IntKind.i64.wrap ((IntKind.i64.wrap (x1.tdiv x2)) - 1))
  else
   some (IntKind.i64.wrap (x1.tdiv x2))))
set_option maxRecDepth 100000 in
theorem F89_spec (x1 : Int) (x2 : Int) (h : AHeap)  (r : Int) : F89 x1 x2 = some r → ACalls Try.prog 89 [.int .i64 x1, .int .i64 x2] h (fun v' h'' => v' = (.int .i64 r : Value) ∧ h'' = h) := by
  unfold F89
  refine guard_ok fun g3 => ?_
  refine dec_bif (fun c4 => ?_) (fun c4 => ?_)
  · intro hr
    obtain rfl := Option.some.inj hr
    exact pFun_sound good tab_ok (f := 89) (its := [.g, .g, .g, .d, .g, .g, .g, .d, .g, (.b true), .g, .g, .g, .g, .g]) (args := [.int .i64 x1, .int .i64 x2]) (h := h) (h' := h) (v := .int .i64 (IntKind.i64.wrap ((IntKind.i64.wrap (x1.tdiv x2)) - 1))) (hC := (And.intro c4 (And.intro (nz g3) (And.intro (nz g3) trivial)))) (hr := by kernel_rfl)
  · intro hr
    obtain rfl := Option.some.inj hr
    exact pFun_sound good tab_ok (f := 89) (its := [.g, .g, .g, .d, .g, .g, .g, .d, .g, (.b false), .g, .g]) (args := [.int .i64 x1, .int .i64 x2]) (h := h) (h' := h) (v := .int .i64 (IntKind.i64.wrap (x1.tdiv x2))) (hC := (And.intro c4 (And.intro (nz g3) (And.intro (nz g3) trivial)))) (hr := by kernel_rfl)
/-! 88 jacquard/diophant.ceiling -/
def F88 (x1 : Int) (x2 : Int) : Option (Int) :=
  (Option.bind (F89 (IntKind.i64.wrap (0 - x1)) x2) fun y3 =>
  some (IntKind.i64.wrap (0 - y3)))
set_option maxRecDepth 100000 in
theorem F88_spec (x1 : Int) (x2 : Int) (h : AHeap)  (r : Int) : F88 x1 x2 = some r → ACalls Try.prog 88 [.int .i64 x1, .int .i64 x2] h (fun v' h'' => v' = (.int .i64 r : Value) ∧ h'' = h) := by
  unfold F88
  refine bind_opt fun y3 e3 => ?_
  intro hr
  obtain rfl := Option.some.inj hr
  exact pFun_sound good tab_ok (f := 88) (its := [.g, .g, .g, .g, (.c (.int .i64 y3) h), .g, .g]) (args := [.int .i64 x1, .int .i64 x2]) (h := h) (h' := h) (v := .int .i64 (IntKind.i64.wrap (0 - y3))) (hC := (And.intro (F89_spec (IntKind.i64.wrap (0 - x1)) x2 h _ e3) trivial)) (hr := by kernel_rfl)
/-! 71 jacquard/diophant.parameters -/
def F71 (x1 : Int) (x2 : Int) (x3 : Int) (x4 : Int) : Option (Int × Int) :=
  (bif decide (x2 > 0) then
   (Option.bind (F88 (IntKind.i64.wrap (x3 - x1)) x2) fun y6 =>
   (Option.bind (F89 (IntKind.i64.wrap (x4 - x1)) x2) fun y8 =>
   some (y6, y8)))
  else
   (bif decide (x2 < 0) then
    (Option.bind (F88 (IntKind.i64.wrap (x1 - x4)) (IntKind.i64.wrap (0 - x2))) fun y11 =>
    (Option.bind (F89 (IntKind.i64.wrap (x1 - x3)) (IntKind.i64.wrap (0 - x2))) fun y13 =>
    some (y11, y13)))
   else
    (bif decide (x1 < x3) then
     some (1, 0)
    else
     (bif decide (x1 > x4) then
      some (1, 0)
     else
      some ((-4611686018427387904), 4611686018427387904)))))
set_option maxRecDepth 100000 in
theorem F71_spec (x1 : Int) (x2 : Int) (x3 : Int) (x4 : Int) (h : AHeap)  (r : Int × Int) : F71 x1 x2 x3 x4 = some r → ACalls Try.prog 71 [.int .i64 x1, .int .i64 x2, .agg #[.int .i64 x3, .int .i64 x4]] h (fun v' h'' => v' = (.agg #[.int .i64 r.1, .int .i64 r.2] : Value) ∧ h'' = h) := by
  unfold F71
  refine dec_bif (fun c5 => ?_) (fun c5 => ?_)
  · refine bind_opt fun y6 e6 => ?_
    refine bind_opt fun y8 e8 => ?_
    intro hr
    obtain rfl := Option.some.inj hr
    exact pFun_sound good tab_ok (f := 71) (its := [.g, .g, .g, .g, .g, .g, .g, .g, (.b true), .g, .g, .g, .g, .g, .g, .g, .g, .g, .g, (.c (.int .i64 y6) h), (.c (.int .i64 y8) h), .g, .g]) (args := [.int .i64 x1, .int .i64 x2, .agg #[.int .i64 x3, .int .i64 x4]]) (h := h) (h' := h) (v := .agg #[.int .i64 y6, .int .i64 y8]) (hC := (And.intro (show AKeep h h from (AHeap.sub_refl h)) (And.intro (F89_spec (IntKind.i64.wrap (x4 - x1)) x2 h _ e8) (And.intro (show AKeep h h from (AHeap.sub_refl h)) (And.intro (F88_spec (IntKind.i64.wrap (x3 - x1)) x2 h _ e6) (And.intro c5 trivial)))))) (hr := by kernel_rfl)
  · refine dec_bif (fun c10 => ?_) (fun c10 => ?_)
    · refine bind_opt fun y11 e11 => ?_
      refine bind_opt fun y13 e13 => ?_
      intro hr
      obtain rfl := Option.some.inj hr
      exact pFun_sound good tab_ok (f := 71) (its := [.g, .g, .g, .g, .g, .g, .g, .g, (.b false), .g, .g, .g, (.b true), .g, .g, .g, .g, .g, .g, .g, .g, .g, .g, .g, .g, (.c (.int .i64 y11) h), (.c (.int .i64 y13) h), .g, .g]) (args := [.int .i64 x1, .int .i64 x2, .agg #[.int .i64 x3, .int .i64 x4]]) (h := h) (h' := h) (v := .agg #[.int .i64 y11, .int .i64 y13]) (hC := (And.intro (show AKeep h h from (AHeap.sub_refl h)) (And.intro (F89_spec (IntKind.i64.wrap (x1 - x3)) (IntKind.i64.wrap (0 - x2)) h _ e13) (And.intro (show AKeep h h from (AHeap.sub_refl h)) (And.intro (F88_spec (IntKind.i64.wrap (x1 - x4)) (IntKind.i64.wrap (0 - x2)) h _ e11) (And.intro c10 (And.intro c5 trivial))))))) (hr := by kernel_rfl)
    · refine dec_bif (fun c15 => ?_) (fun c15 => ?_)
      · intro hr
        obtain rfl := Option.some.inj hr
        exact pFun_sound good tab_ok (f := 71) (its := [.g, .g, .g, .g, .g, .g, .g, .g, (.b false), .g, .g, .g, (.b false), .g, .g, .g, .g, .g, .n, .n, .n, .n, (.p true), .g, (.b true), .g, .g]) (args := [.int .i64 x1, .int .i64 x2, .agg #[.int .i64 x3, .int .i64 x4]]) (h := h) (h' := h) (v := .agg #[.int .i64 1, .int .i64 0]) (hC := (And.intro l_t (And.intro c15 (And.intro (g_tf c15) (And.intro (g_tf c15) (And.intro (g_tf c15) (And.intro (g_tf c15) (And.intro c10 (And.intro c5 trivial))))))))) (hr := by kernel_rfl)
      · refine dec_bif (fun c16 => ?_) (fun c16 => ?_)
        · intro hr
          obtain rfl := Option.some.inj hr
          exact pFun_sound good tab_ok (f := 71) (its := [.g, .g, .g, .g, .g, .g, .g, .g, (.b false), .g, .g, .g, (.b false), .g, .g, .g, .g, .g, (.w .g), (.w .g), (.w .g), (.w .g), (.p false), .g, (.b true), .g, .g]) (args := [.int .i64 x1, .int .i64 x2, .agg #[.int .i64 x3, .int .i64 x4]]) (h := h) (h' := h) (v := .agg #[.int .i64 1, .int .i64 0]) (hC := (And.intro c16 (And.intro c15 (And.intro (g_ff c15) (And.intro (g_ff c15) (And.intro (g_ff c15) (And.intro (g_ff c15) (And.intro c10 (And.intro c5 trivial))))))))) (hr := by kernel_rfl)
        · intro hr
          obtain rfl := Option.some.inj hr
          exact pFun_sound good tab_ok (f := 71) (its := [.g, .g, .g, .g, .g, .g, .g, .g, (.b false), .g, .g, .g, (.b false), .g, .g, .g, .g, .g, (.w .g), (.w .g), (.w .g), (.w .g), (.p false), .g, (.b false), .g, .g]) (args := [.int .i64 x1, .int .i64 x2, .agg #[.int .i64 x3, .int .i64 x4]]) (h := h) (h' := h) (v := .agg #[.int .i64 (-4611686018427387904), .int .i64 4611686018427387904]) (hC := (And.intro c16 (And.intro c15 (And.intro (g_ff c15) (And.intro (g_ff c15) (And.intro (g_ff c15) (And.intro (g_ff c15) (And.intro c10 (And.intro c5 trivial))))))))) (hr := by kernel_rfl)
/-! 35 jacquard/diophant.solutions -/
def F35_L : List Nat := [2, 3, 4, 6, 7]
def F35_D : List (Nat × List (Nat × Nat)) := []
def F35__1 (x1 : Int) (x2 : Int) (x3 : Int) (x4 : Int) (x5 : Int) (x6 : Int) (x7 : Int) (x8 : Int) (x9 : Int) (x10 : Int) (x11 : Int) (x12 : Int) (x13 : Int) (a15 : Int) : Int := (([((F70 x1 x2 x3 x4 x5 x6 x7 x8 x9 x10 x11 x12 x13).1), ((F70 x1 x2 x3 x4 x5 x6 x7 x8 x9 x10 x11 x12 x13).2.2.2.2.1), ((F70 x1 x2 x3 x4 x5 x6 x7 x8 x9 x10 x11 x12 x13).2.2.2.2.2.2.2.2.1)] : List Int).getD (a15).toNat 0)
def F35__2 (x1 : Int) (x2 : Int) (x3 : Int) (x4 : Int) (x5 : Int) (x6 : Int) (x7 : Int) (x8 : Int) (x9 : Int) (x10 : Int) (x11 : Int) (x12 : Int) (x13 : Int) (a15 : Int) : Int := (([((F70 x1 x2 x3 x4 x5 x6 x7 x8 x9 x10 x11 x12 x13).2.1), ((F70 x1 x2 x3 x4 x5 x6 x7 x8 x9 x10 x11 x12 x13).2.2.2.2.2.1), ((F70 x1 x2 x3 x4 x5 x6 x7 x8 x9 x10 x11 x12 x13).2.2.2.2.2.2.2.2.2.1)] : List Int).getD (a15).toNat 0)
def F35__3 (x1 : Int) (x2 : Int) (x3 : Int) (x4 : Int) (x5 : Int) (x6 : Int) (x7 : Int) (x8 : Int) (x9 : Int) (x10 : Int) (x11 : Int) (x12 : Int) (x13 : Int) (a15 : Int) : Int := (([((F70 x1 x2 x3 x4 x5 x6 x7 x8 x9 x10 x11 x12 x13).2.2.1), ((F70 x1 x2 x3 x4 x5 x6 x7 x8 x9 x10 x11 x12 x13).2.2.2.2.2.2.1), ((F70 x1 x2 x3 x4 x5 x6 x7 x8 x9 x10 x11 x12 x13).2.2.2.2.2.2.2.2.2.2.1)] : List Int).getD (a15).toNat 0)
def F35__4 (x1 : Int) (x2 : Int) (x3 : Int) (x4 : Int) (x5 : Int) (x6 : Int) (x7 : Int) (x8 : Int) (x9 : Int) (x10 : Int) (x11 : Int) (x12 : Int) (x13 : Int) (a15 : Int) : Int := (([((F70 x1 x2 x3 x4 x5 x6 x7 x8 x9 x10 x11 x12 x13).2.2.2.1), ((F70 x1 x2 x3 x4 x5 x6 x7 x8 x9 x10 x11 x12 x13).2.2.2.2.2.2.2.1), ((F70 x1 x2 x3 x4 x5 x6 x7 x8 x9 x10 x11 x12 x13).2.2.2.2.2.2.2.2.2.2.2)] : List Int).getD (a15).toNat 0)
def F35__5 (x1 : Int) (x2 : Int) (x3 : Int) (x4 : Int) (x5 : Int) (x6 : Int) (x7 : Int) (x8 : Int) (x9 : Int) (x10 : Int) (x11 : Int) (x12 : Int) (x13 : Int) (a15 : Int) : Bool := decide ((F35__3 x1 x2 x3 x4 x5 x6 x7 x8 x9 x10 x11 x12 x13 a15) > (F35__4 x1 x2 x3 x4 x5 x6 x7 x8 x9 x10 x11 x12 x13 a15))
def F35_m1_1 : List Bool := [true, true, true, true, false, true, true, true, true, true, true, false, false, true, true, true, true, true, true, true, true, true, true, true, true, true, true, true, true, true, true, true, true, true, true, true, true, true, true, true, true, true, true]
def F35_m1_0 : List Bool := [true, true, true, true, false, true, true, true, true, true, true, true, true, true, true, true, true, true, true, true, true, true, true, true, true, true, true, true, true, true, true, true, true, true, true, true, true, true, true, true, true, true, true]
def F35_s1 (x1 : Int) (x2 : Int) (x3 : Int) (x4 : Int) (x5 : Int) (x6 : Int) (x7 : Int) (x8 : Int) (x9 : Int) (x10 : Int) (x11 : Int) (x12 : Int) (x13 : Int) (a15 : Int) (a16 : Int) (a17 : Int) : Option ((Int × Int × Int) ⊕ (Nat × Int × Int)) :=
  (bif decide (a15 < 3) then
   (bif (!(inRange a15 3)) then none else
   (bif (F35__5 x1 x2 x3 x4 x5 x6 x7 x8 x9 x10 x11 x12 x13 a15) then
    some (.inr (0, 0, 0))
   else
    (Option.bind (F71 (F35__1 x1 x2 x3 x4 x5 x6 x7 x8 x9 x10 x11 x12 x13 a15) (F35__2 x1 x2 x3 x4 x5 x6 x7 x8 x9 x10 x11 x12 x13 a15) (F35__3 x1 x2 x3 x4 x5 x6 x7 x8 x9 x10 x11 x12 x13 a15) (F35__4 x1 x2 x3 x4 x5 x6 x7 x8 x9 x10 x11 x12 x13 a15)) fun y21 =>
    some (.inl ((IntKind.i64.wrap (a15 + 1)), (if y21.1 > a16 then y21.1 else a16), (if y21.2 < a17 then y21.2 else a17))))))
  else
   some (.inr (1, a16, a17)))
def F35_h1 (h : AHeap) (x1 : Int) (x2 : Int) (x3 : Int) (x4 : Int) (x5 : Int) (x6 : Int) (x7 : Int) (x8 : Int) (x9 : Int) (x10 : Int) (x11 : Int) (x12 : Int) (x13 : Int)  (a15 : Int) (a16 : Int) (a17 : Int) : AS := ⟨[junk, junk, junk, junk, .pointer (some ⟨4, 0, none⟩), junk, junk, junk, junk, junk, junk, .agg #[.int .i64 ((F70 x1 x2 x3 x4 x5 x6 x7 x8 x9 x10 x11 x12 x13).1), .int .i64 ((F70 x1 x2 x3 x4 x5 x6 x7 x8 x9 x10 x11 x12 x13).2.1), .int .i64 ((F70 x1 x2 x3 x4 x5 x6 x7 x8 x9 x10 x11 x12 x13).2.2.1), .int .i64 ((F70 x1 x2 x3 x4 x5 x6 x7 x8 x9 x10 x11 x12 x13).2.2.2.1), .int .i64 ((F70 x1 x2 x3 x4 x5 x6 x7 x8 x9 x10 x11 x12 x13).2.2.2.2.1), .int .i64 ((F70 x1 x2 x3 x4 x5 x6 x7 x8 x9 x10 x11 x12 x13).2.2.2.2.2.1), .int .i64 ((F70 x1 x2 x3 x4 x5 x6 x7 x8 x9 x10 x11 x12 x13).2.2.2.2.2.2.1), .int .i64 ((F70 x1 x2 x3 x4 x5 x6 x7 x8 x9 x10 x11 x12 x13).2.2.2.2.2.2.2.1), .int .i64 ((F70 x1 x2 x3 x4 x5 x6 x7 x8 x9 x10 x11 x12 x13).2.2.2.2.2.2.2.2.1), .int .i64 ((F70 x1 x2 x3 x4 x5 x6 x7 x8 x9 x10 x11 x12 x13).2.2.2.2.2.2.2.2.2.1), .int .i64 ((F70 x1 x2 x3 x4 x5 x6 x7 x8 x9 x10 x11 x12 x13).2.2.2.2.2.2.2.2.2.2.1), .int .i64 ((F70 x1 x2 x3 x4 x5 x6 x7 x8 x9 x10 x11 x12 x13).2.2.2.2.2.2.2.2.2.2.2)], .int .i64 a15, junk, junk, junk, junk, junk, junk, junk, junk, junk, junk, junk, junk, junk, junk, junk, junk, junk, junk, junk, junk, junk, junk, junk, junk, junk, junk, junk, junk, junk, junk], [(4, [.int .i64 a16, .int .i64 a17])], h⟩
theorem F35_d1 : drawsOk F35_D (codeOf Try.prog 35 [1, 1, 0, 1, 0, 0]) = true := by kernel_rfl
def F35_x1_0 (h : AHeap)  (r : Nat × Int × Int) : AS := ⟨[junk, junk, junk, junk, .pointer (some ⟨4, 0, none⟩), junk, junk, junk, junk, junk, junk, junk, junk, junk, junk, junk, junk, junk, junk, junk, junk, junk, junk, junk, junk, junk, junk, junk, junk, junk, junk, junk, junk, junk, junk, junk, junk, junk, junk, junk, junk, junk, junk], [(4, [.int .i64 1, .int .i64 0])], h⟩
def F35_x1_1 (h : AHeap)  (r : Nat × Int × Int) : AS := ⟨[junk, junk, junk, junk, .pointer (some ⟨4, 0, none⟩), junk, junk, junk, junk, junk, junk, junk, junk, junk, junk, junk, junk, junk, junk, junk, junk, junk, junk, junk, junk, junk, junk, junk, junk, junk, junk, junk, junk, junk, junk, junk, junk, junk, junk, junk, junk, junk, junk], [(4, [.int .i64 r.2.1, .int .i64 r.2.2])], h⟩
def F35_x1 (h : AHeap) (r : Nat × Int × Int) : Exit × AS := (bif Nat.beq r.1 0 then (.ret, (F35_x1_0 h r)) else ((.exit 0), (F35_x1_1 h r)))
set_option maxRecDepth 100000 in
theorem F35_r1 (h : AHeap) (x1 : Int) (x2 : Int) (x3 : Int) (x4 : Int) (x5 : Int) (x6 : Int) (x7 : Int) (x8 : Int) (x9 : Int) (x10 : Int) (x11 : Int) (x12 : Int) (x13 : Int) (a15 : Int) (a16 : Int) (a17 : Int) (o : (Int × Int × Int) ⊕ (Nat × Int × Int)) : F35_s1 x1 x2 x3 x4 x5 x6 x7 x8 x9 x10 x11 x12 x13 a15 a16 a17 = some o → RdF Try.prog (codeOf Try.prog 35 [1, 1, 0, 1, 0, 0]) (fun (s : Int × Int × Int) => (F35_h1 h x1 x2 x3 x4 x5 x6 x7 x8 x9 x10 x11 x12 x13 s.1 s.2.1 s.2.2)) (F35_x1 h) (F35_h1 h x1 x2 x3 x4 x5 x6 x7 x8 x9 x10 x11 x12 x13 a15 a16 a17) o := by
  unfold F35_s1
  refine dec_bif (fun c18 => ?_) (fun c18 => ?_)
  · refine guard_ok fun g19 => ?_
    refine dec_bif (fun c20 => ?_) (fun c20 => ?_)
    · intro hr
      obtain rfl := Option.some.inj hr
      show AWp Try.prog _ (Ends1 ((F35_x1 h) ((0, 0, 0) : Nat × Int × Int)).1 ((F35_x1 h) ((0, 0, 0) : Nat × Int × Int)).2) _
      exact pEnd_sound good (L := F35_L) (D := F35_D) (its := [.g, (.b true), (.iv (.agg #[.int .i64 (F35__1 x1 x2 x3 x4 x5 x6 x7 x8 x9 x10 x11 x12 x13 a15), .int .i64 (F35__2 x1 x2 x3 x4 x5 x6 x7 x8 x9 x10 x11 x12 x13 a15), .int .i64 (F35__3 x1 x2 x3 x4 x5 x6 x7 x8 x9 x10 x11 x12 x13 a15), .int .i64 (F35__4 x1 x2 x3 x4 x5 x6 x7 x8 x9 x10 x11 x12 x13 a15)])), .g, .g, .g, .g, .g, .g, .g, .g, .g, (.b true), .g, .g]) (ds := F35_m1_0) (ks := [6]) (e := ((F35_x1 h) ((0, 0, 0) : Nat × Int × Int)).1) (s2 := ((F35_x1 h) ((0, 0, 0) : Nat × Int × Int)).2) (hC := (And.intro c20 (And.intro (iread_sel (P := Try.prog) (t := 117) (cs := #[.int .i64 ((F70 x1 x2 x3 x4 x5 x6 x7 x8 x9 x10 x11 x12 x13).1), .int .i64 ((F70 x1 x2 x3 x4 x5 x6 x7 x8 x9 x10 x11 x12 x13).2.1), .int .i64 ((F70 x1 x2 x3 x4 x5 x6 x7 x8 x9 x10 x11 x12 x13).2.2.1), .int .i64 ((F70 x1 x2 x3 x4 x5 x6 x7 x8 x9 x10 x11 x12 x13).2.2.2.1), .int .i64 ((F70 x1 x2 x3 x4 x5 x6 x7 x8 x9 x10 x11 x12 x13).2.2.2.2.1), .int .i64 ((F70 x1 x2 x3 x4 x5 x6 x7 x8 x9 x10 x11 x12 x13).2.2.2.2.2.1), .int .i64 ((F70 x1 x2 x3 x4 x5 x6 x7 x8 x9 x10 x11 x12 x13).2.2.2.2.2.2.1), .int .i64 ((F70 x1 x2 x3 x4 x5 x6 x7 x8 x9 x10 x11 x12 x13).2.2.2.2.2.2.2.1), .int .i64 ((F70 x1 x2 x3 x4 x5 x6 x7 x8 x9 x10 x11 x12 x13).2.2.2.2.2.2.2.2.1), .int .i64 ((F70 x1 x2 x3 x4 x5 x6 x7 x8 x9 x10 x11 x12 x13).2.2.2.2.2.2.2.2.2.1), .int .i64 ((F70 x1 x2 x3 x4 x5 x6 x7 x8 x9 x10 x11 x12 x13).2.2.2.2.2.2.2.2.2.2.1), .int .i64 ((F70 x1 x2 x3 x4 x5 x6 x7 x8 x9 x10 x11 x12 x13).2.2.2.2.2.2.2.2.2.2.2)]) (nn g19) (fun jj => .agg #[.int .i64 (([((F70 x1 x2 x3 x4 x5 x6 x7 x8 x9 x10 x11 x12 x13).1), ((F70 x1 x2 x3 x4 x5 x6 x7 x8 x9 x10 x11 x12 x13).2.2.2.2.1), ((F70 x1 x2 x3 x4 x5 x6 x7 x8 x9 x10 x11 x12 x13).2.2.2.2.2.2.2.2.1)] : List Int).getD jj 0), .int .i64 (([((F70 x1 x2 x3 x4 x5 x6 x7 x8 x9 x10 x11 x12 x13).2.1), ((F70 x1 x2 x3 x4 x5 x6 x7 x8 x9 x10 x11 x12 x13).2.2.2.2.2.1), ((F70 x1 x2 x3 x4 x5 x6 x7 x8 x9 x10 x11 x12 x13).2.2.2.2.2.2.2.2.2.1)] : List Int).getD jj 0), .int .i64 (([((F70 x1 x2 x3 x4 x5 x6 x7 x8 x9 x10 x11 x12 x13).2.2.1), ((F70 x1 x2 x3 x4 x5 x6 x7 x8 x9 x10 x11 x12 x13).2.2.2.2.2.2.1), ((F70 x1 x2 x3 x4 x5 x6 x7 x8 x9 x10 x11 x12 x13).2.2.2.2.2.2.2.2.2.2.1)] : List Int).getD jj 0), .int .i64 (([((F70 x1 x2 x3 x4 x5 x6 x7 x8 x9 x10 x11 x12 x13).2.2.2.1), ((F70 x1 x2 x3 x4 x5 x6 x7 x8 x9 x10 x11 x12 x13).2.2.2.2.2.2.2.1), ((F70 x1 x2 x3 x4 x5 x6 x7 x8 x9 x10 x11 x12 x13).2.2.2.2.2.2.2.2.2.2.2)] : List Int).getD jj 0)]) (And.intro (And.intro (And.intro trivial (by show _ = _; kernel_rfl)) (by show _ = _; kernel_rfl)) (by show _ = _; kernel_rfl))) (And.intro c18 trivial)))) (hd := F35_d1) (h := by kernel_rfl)
    · refine bind_opt fun y21 e21 => ?_
      intro hr
      obtain rfl := Option.some.inj hr
      show AWp Try.prog _ (Ends1 .normal (F35_h1 h x1 x2 x3 x4 x5 x6 x7 x8 x9 x10 x11 x12 x13 (IntKind.i64.wrap (a15 + 1)) (if y21.1 > a16 then y21.1 else a16) (if y21.2 < a17 then y21.2 else a17))) _
      exact pEnd_sound good (L := F35_L) (D := F35_D) (its := [.g, (.b true), (.iv (.agg #[.int .i64 (F35__1 x1 x2 x3 x4 x5 x6 x7 x8 x9 x10 x11 x12 x13 a15), .int .i64 (F35__2 x1 x2 x3 x4 x5 x6 x7 x8 x9 x10 x11 x12 x13 a15), .int .i64 (F35__3 x1 x2 x3 x4 x5 x6 x7 x8 x9 x10 x11 x12 x13 a15), .int .i64 (F35__4 x1 x2 x3 x4 x5 x6 x7 x8 x9 x10 x11 x12 x13 a15)])), .g, .g, .g, .g, .g, .g, .g, .g, .g, (.b false), .g, .g, .g, .g, .g, .g, (.c (.agg #[.int .i64 y21.1, .int .i64 y21.2]) h), .g, .g, .g, .g, .g, .g, .g, .g, .g, .g, .g, .g, .g, .g, .g, .g]) (ds := F35_m1_1) (ks := [6, 7]) (e := .normal) (s2 := (F35_h1 h x1 x2 x3 x4 x5 x6 x7 x8 x9 x10 x11 x12 x13 (IntKind.i64.wrap (a15 + 1)) (if y21.1 > a16 then y21.1 else a16) (if y21.2 < a17 then y21.2 else a17))) (hC := (And.intro (F71_spec (F35__1 x1 x2 x3 x4 x5 x6 x7 x8 x9 x10 x11 x12 x13 a15) (F35__2 x1 x2 x3 x4 x5 x6 x7 x8 x9 x10 x11 x12 x13 a15) (F35__3 x1 x2 x3 x4 x5 x6 x7 x8 x9 x10 x11 x12 x13 a15) (F35__4 x1 x2 x3 x4 x5 x6 x7 x8 x9 x10 x11 x12 x13 a15) h _ e21) (And.intro c20 (And.intro (iread_sel (P := Try.prog) (t := 117) (cs := #[.int .i64 ((F70 x1 x2 x3 x4 x5 x6 x7 x8 x9 x10 x11 x12 x13).1), .int .i64 ((F70 x1 x2 x3 x4 x5 x6 x7 x8 x9 x10 x11 x12 x13).2.1), .int .i64 ((F70 x1 x2 x3 x4 x5 x6 x7 x8 x9 x10 x11 x12 x13).2.2.1), .int .i64 ((F70 x1 x2 x3 x4 x5 x6 x7 x8 x9 x10 x11 x12 x13).2.2.2.1), .int .i64 ((F70 x1 x2 x3 x4 x5 x6 x7 x8 x9 x10 x11 x12 x13).2.2.2.2.1), .int .i64 ((F70 x1 x2 x3 x4 x5 x6 x7 x8 x9 x10 x11 x12 x13).2.2.2.2.2.1), .int .i64 ((F70 x1 x2 x3 x4 x5 x6 x7 x8 x9 x10 x11 x12 x13).2.2.2.2.2.2.1), .int .i64 ((F70 x1 x2 x3 x4 x5 x6 x7 x8 x9 x10 x11 x12 x13).2.2.2.2.2.2.2.1), .int .i64 ((F70 x1 x2 x3 x4 x5 x6 x7 x8 x9 x10 x11 x12 x13).2.2.2.2.2.2.2.2.1), .int .i64 ((F70 x1 x2 x3 x4 x5 x6 x7 x8 x9 x10 x11 x12 x13).2.2.2.2.2.2.2.2.2.1), .int .i64 ((F70 x1 x2 x3 x4 x5 x6 x7 x8 x9 x10 x11 x12 x13).2.2.2.2.2.2.2.2.2.2.1), .int .i64 ((F70 x1 x2 x3 x4 x5 x6 x7 x8 x9 x10 x11 x12 x13).2.2.2.2.2.2.2.2.2.2.2)]) (nn g19) (fun jj => .agg #[.int .i64 (([((F70 x1 x2 x3 x4 x5 x6 x7 x8 x9 x10 x11 x12 x13).1), ((F70 x1 x2 x3 x4 x5 x6 x7 x8 x9 x10 x11 x12 x13).2.2.2.2.1), ((F70 x1 x2 x3 x4 x5 x6 x7 x8 x9 x10 x11 x12 x13).2.2.2.2.2.2.2.2.1)] : List Int).getD jj 0), .int .i64 (([((F70 x1 x2 x3 x4 x5 x6 x7 x8 x9 x10 x11 x12 x13).2.1), ((F70 x1 x2 x3 x4 x5 x6 x7 x8 x9 x10 x11 x12 x13).2.2.2.2.2.1), ((F70 x1 x2 x3 x4 x5 x6 x7 x8 x9 x10 x11 x12 x13).2.2.2.2.2.2.2.2.2.1)] : List Int).getD jj 0), .int .i64 (([((F70 x1 x2 x3 x4 x5 x6 x7 x8 x9 x10 x11 x12 x13).2.2.1), ((F70 x1 x2 x3 x4 x5 x6 x7 x8 x9 x10 x11 x12 x13).2.2.2.2.2.2.1), ((F70 x1 x2 x3 x4 x5 x6 x7 x8 x9 x10 x11 x12 x13).2.2.2.2.2.2.2.2.2.2.1)] : List Int).getD jj 0), .int .i64 (([((F70 x1 x2 x3 x4 x5 x6 x7 x8 x9 x10 x11 x12 x13).2.2.2.1), ((F70 x1 x2 x3 x4 x5 x6 x7 x8 x9 x10 x11 x12 x13).2.2.2.2.2.2.2.1), ((F70 x1 x2 x3 x4 x5 x6 x7 x8 x9 x10 x11 x12 x13).2.2.2.2.2.2.2.2.2.2.2)] : List Int).getD jj 0)]) (And.intro (And.intro (And.intro trivial (by show _ = _; kernel_rfl)) (by show _ = _; kernel_rfl)) (by show _ = _; kernel_rfl))) (And.intro c18 trivial))))) (hd := F35_d1) (h := by kernel_rfl)
  · intro hr
    obtain rfl := Option.some.inj hr
    show AWp Try.prog _ (Ends1 ((F35_x1 h) ((1, a16, a17) : Nat × Int × Int)).1 ((F35_x1 h) ((1, a16, a17) : Nat × Int × Int)).2) _
    exact pEnd_sound good (L := F35_L) (D := F35_D) (its := [.g, (.b false)]) (ds := F35_m1_0) (ks := []) (e := ((F35_x1 h) ((1, a16, a17) : Nat × Int × Int)).1) (s2 := ((F35_x1 h) ((1, a16, a17) : Nat × Int × Int)).2) (hC := (And.intro c18 trivial)) (hd := F35_d1) (h := by kernel_rfl)
theorem F35_l1_0 (h : AHeap) (x1 : Int) (x2 : Int) (x3 : Int) (x4 : Int) (x5 : Int) (x6 : Int) (x7 : Int) (x8 : Int) (x9 : Int) (x10 : Int) (x11 : Int) (x12 : Int) (x13 : Int) (x : Int × Int × Int) (r : Nat × Int × Int) (hl : loopO (fun (s : Int × Int × Int) => F35_s1 x1 x2 x3 x4 x5 x6 x7 x8 x9 x10 x11 x12 x13 s.1 s.2.1 s.2.2) x = some r) (q0 : Nat.beq r.1 0 = true) : AWp Try.prog (.loop (codeOf Try.prog 35 [1, 1, 0, 1, 0, 0])) (Ends1 .ret (F35_x1_0 h r)) ((fun (s : Int × Int × Int) => (F35_h1 h x1 x2 x3 x4 x5 x6 x7 x8 x9 x10 x11 x12 x13 s.1 s.2.1 s.2.2)) x) := by
  have k := loop_fun (P := Try.prog) (c := (codeOf Try.prog 35 [1, 1, 0, 1, 0, 0])) (step := (fun (s : Int × Int × Int) => F35_s1 x1 x2 x3 x4 x5 x6 x7 x8 x9 x10 x11 x12 x13 s.1 s.2.1 s.2.2)) (hd := (fun (s : Int × Int × Int) => (F35_h1 h x1 x2 x3 x4 x5 x6 x7 x8 x9 x10 x11 x12 x13 s.1 s.2.1 s.2.2))) (X := (F35_x1 h)) (by intro t; unfold F35_x1; cases Nat.beq t.1 0 <;> (intro h; cases h)) (fun x => F35_r1 h x1 x2 x3 x4 x5 x6 x7 x8 x9 x10 x11 x12 x13 x.1 x.2.1 x.2.2) hl
  simp only [F35_x1, q0, cond_true, cond_false] at k
  exact k
theorem F35_l1_1 (h : AHeap) (x1 : Int) (x2 : Int) (x3 : Int) (x4 : Int) (x5 : Int) (x6 : Int) (x7 : Int) (x8 : Int) (x9 : Int) (x10 : Int) (x11 : Int) (x12 : Int) (x13 : Int) (x : Int × Int × Int) (r : Nat × Int × Int) (hl : loopO (fun (s : Int × Int × Int) => F35_s1 x1 x2 x3 x4 x5 x6 x7 x8 x9 x10 x11 x12 x13 s.1 s.2.1 s.2.2) x = some r) (q0 : Nat.beq r.1 0 = false) : AWp Try.prog (.loop (codeOf Try.prog 35 [1, 1, 0, 1, 0, 0])) (Ends1 (.exit 0) (F35_x1_1 h r)) ((fun (s : Int × Int × Int) => (F35_h1 h x1 x2 x3 x4 x5 x6 x7 x8 x9 x10 x11 x12 x13 s.1 s.2.1 s.2.2)) x) := by
  have k := loop_fun (P := Try.prog) (c := (codeOf Try.prog 35 [1, 1, 0, 1, 0, 0])) (step := (fun (s : Int × Int × Int) => F35_s1 x1 x2 x3 x4 x5 x6 x7 x8 x9 x10 x11 x12 x13 s.1 s.2.1 s.2.2)) (hd := (fun (s : Int × Int × Int) => (F35_h1 h x1 x2 x3 x4 x5 x6 x7 x8 x9 x10 x11 x12 x13 s.1 s.2.1 s.2.2))) (X := (F35_x1 h)) (by intro t; unfold F35_x1; cases Nat.beq t.1 0 <;> (intro h; cases h)) (fun x => F35_r1 h x1 x2 x3 x4 x5 x6 x7 x8 x9 x10 x11 x12 x13 x.1 x.2.1 x.2.2) hl
  simp only [F35_x1, q0, cond_true, cond_false] at k
  exact k
def F35 (x1 : Int) (x2 : Int) (x3 : Int) (x4 : Int) (x5 : Int) (x6 : Int) (x7 : Int) (x8 : Int) (x9 : Int) (x10 : Int) (x11 : Int) (x12 : Int) (x13 : Int) : Option (Int × Int) :=
  (Option.bind (loopO (fun (s : Int × Int × Int) => F35_s1 x1 x2 x3 x4 x5 x6 x7 x8 x9 x10 x11 x12 x13 s.1 s.2.1 s.2.2) (0, (-9223372036854775808), 9223372036854775807)) fun y23 =>
  (bif (Nat.beq y23.1 0) then
   some (1, 0)
  else
   some (y23.2.1, y23.2.2)))
set_option maxRecDepth 100000 in
theorem F35_spec (x1 : Int) (x2 : Int) (x3 : Int) (x4 : Int) (x5 : Int) (x6 : Int) (x7 : Int) (x8 : Int) (x9 : Int) (x10 : Int) (x11 : Int) (x12 : Int) (x13 : Int) (h : AHeap)  (r : Int × Int) : F35 x1 x2 x3 x4 x5 x6 x7 x8 x9 x10 x11 x12 x13 = some r → ACalls Try.prog 35 [.agg #[.int .i64 x1, .int .i64 x2, .int .i64 x3, .int .i64 x4, .int .i64 x5, .int .i64 x6, .int .i64 x7, .int .i64 x8, .int .i64 x9], .agg #[.int .i64 x10, .int .i64 x11, .int .i64 x12, .int .i64 x13]] h (fun v' h'' => v' = (.agg #[.int .i64 r.1, .int .i64 r.2] : Value) ∧ h'' = h) := by
  unfold F35
  refine bind_opt fun y23 e23 => ?_
  refine dec_bif (fun c24 => ?_) (fun c24 => ?_)
  · intro hr
    obtain rfl := Option.some.inj hr
    exact pFun_sound good tab_ok (f := 35) (its := [.g, .g, .g, .g, .g, .g, .g, (.c (.agg #[.int .i64 ((F70 x1 x2 x3 x4 x5 x6 x7 x8 x9 x10 x11 x12 x13).1), .int .i64 ((F70 x1 x2 x3 x4 x5 x6 x7 x8 x9 x10 x11 x12 x13).2.1), .int .i64 ((F70 x1 x2 x3 x4 x5 x6 x7 x8 x9 x10 x11 x12 x13).2.2.1), .int .i64 ((F70 x1 x2 x3 x4 x5 x6 x7 x8 x9 x10 x11 x12 x13).2.2.2.1), .int .i64 ((F70 x1 x2 x3 x4 x5 x6 x7 x8 x9 x10 x11 x12 x13).2.2.2.2.1), .int .i64 ((F70 x1 x2 x3 x4 x5 x6 x7 x8 x9 x10 x11 x12 x13).2.2.2.2.2.1), .int .i64 ((F70 x1 x2 x3 x4 x5 x6 x7 x8 x9 x10 x11 x12 x13).2.2.2.2.2.2.1), .int .i64 ((F70 x1 x2 x3 x4 x5 x6 x7 x8 x9 x10 x11 x12 x13).2.2.2.2.2.2.2.1), .int .i64 ((F70 x1 x2 x3 x4 x5 x6 x7 x8 x9 x10 x11 x12 x13).2.2.2.2.2.2.2.2.1), .int .i64 ((F70 x1 x2 x3 x4 x5 x6 x7 x8 x9 x10 x11 x12 x13).2.2.2.2.2.2.2.2.2.1), .int .i64 ((F70 x1 x2 x3 x4 x5 x6 x7 x8 x9 x10 x11 x12 x13).2.2.2.2.2.2.2.2.2.2.1), .int .i64 ((F70 x1 x2 x3 x4 x5 x6 x7 x8 x9 x10 x11 x12 x13).2.2.2.2.2.2.2.2.2.2.2)]) h), .g, (.l F35_m1_1 [2, 3] .ret (F35_x1_0 h y23))]) (args := [.agg #[.int .i64 x1, .int .i64 x2, .int .i64 x3, .int .i64 x4, .int .i64 x5, .int .i64 x6, .int .i64 x7, .int .i64 x8, .int .i64 x9], .agg #[.int .i64 x10, .int .i64 x11, .int .i64 x12, .int .i64 x13]]) (h := h) (h' := h) (v := .agg #[.int .i64 1, .int .i64 0]) (hC := (And.intro (F35_l1_0 h x1 x2 x3 x4 x5 x6 x7 x8 x9 x10 x11 x12 x13 (0, (-9223372036854775808), 9223372036854775807) y23 e23 c24) (And.intro (F70_spec x1 x2 x3 x4 x5 x6 x7 x8 x9 x10 x11 x12 x13 h _ rfl) trivial))) (hr := by kernel_rfl)
  · intro hr
    obtain rfl := Option.some.inj hr
    exact pFun_sound good tab_ok (f := 35) (its := [.g, .g, .g, .g, .g, .g, .g, (.c (.agg #[.int .i64 ((F70 x1 x2 x3 x4 x5 x6 x7 x8 x9 x10 x11 x12 x13).1), .int .i64 ((F70 x1 x2 x3 x4 x5 x6 x7 x8 x9 x10 x11 x12 x13).2.1), .int .i64 ((F70 x1 x2 x3 x4 x5 x6 x7 x8 x9 x10 x11 x12 x13).2.2.1), .int .i64 ((F70 x1 x2 x3 x4 x5 x6 x7 x8 x9 x10 x11 x12 x13).2.2.2.1), .int .i64 ((F70 x1 x2 x3 x4 x5 x6 x7 x8 x9 x10 x11 x12 x13).2.2.2.2.1), .int .i64 ((F70 x1 x2 x3 x4 x5 x6 x7 x8 x9 x10 x11 x12 x13).2.2.2.2.2.1), .int .i64 ((F70 x1 x2 x3 x4 x5 x6 x7 x8 x9 x10 x11 x12 x13).2.2.2.2.2.2.1), .int .i64 ((F70 x1 x2 x3 x4 x5 x6 x7 x8 x9 x10 x11 x12 x13).2.2.2.2.2.2.2.1), .int .i64 ((F70 x1 x2 x3 x4 x5 x6 x7 x8 x9 x10 x11 x12 x13).2.2.2.2.2.2.2.2.1), .int .i64 ((F70 x1 x2 x3 x4 x5 x6 x7 x8 x9 x10 x11 x12 x13).2.2.2.2.2.2.2.2.2.1), .int .i64 ((F70 x1 x2 x3 x4 x5 x6 x7 x8 x9 x10 x11 x12 x13).2.2.2.2.2.2.2.2.2.2.1), .int .i64 ((F70 x1 x2 x3 x4 x5 x6 x7 x8 x9 x10 x11 x12 x13).2.2.2.2.2.2.2.2.2.2.2)]) h), .g, (.l F35_m1_1 [2, 3] (.exit 0) (F35_x1_1 h y23)), .g, .g]) (args := [.agg #[.int .i64 x1, .int .i64 x2, .int .i64 x3, .int .i64 x4, .int .i64 x5, .int .i64 x6, .int .i64 x7, .int .i64 x8, .int .i64 x9], .agg #[.int .i64 x10, .int .i64 x11, .int .i64 x12, .int .i64 x13]]) (h := h) (h' := h) (v := .agg #[.int .i64 y23.2.1, .int .i64 y23.2.2]) (hC := (And.intro (F35_l1_1 h x1 x2 x3 x4 x5 x6 x7 x8 x9 x10 x11 x12 x13 (0, (-9223372036854775808), 9223372036854775807) y23 e23 c24) (And.intro (F70_spec x1 x2 x3 x4 x5 x6 x7 x8 x9 x10 x11 x12 x13 h _ rfl) trivial))) (hr := by kernel_rfl)
/-! 15 jacquard/diophant.Solve -/
def F15__1 (x1 : Int) (x2 : Int) (x3 : Int) (x4 : Int) (x5 : Int) (x6 : Int) (x7 : Int) (x8 : Int) (x9 : Int) : Int := (if (IntKind.i64.wrap (x8 - (F36 x1 x2 x3 x4 x5 x6 x7 x8 x9).1)) > x4 then (IntKind.i64.wrap (x8 - (F36 x1 x2 x3 x4 x5 x6 x7 x8 x9).1)) else x4)
def F15 (x1 : Int) (x2 : Int) (x3 : Int) (x4 : Int) (x5 : Int) (x6 : Int) (x7 : Int) (x8 : Int) (x9 : Int) : Option (Int × Int × Bool) :=
  (Option.bind (F31 x1 x2 x3 x4 x5 x6 x7 x8 x9) fun y10 =>
  (bif (!y10) then
   some (0, 0, false)
  else
   (bif (x1 == 0) then
    (bif (x2 == 0) then
     (bif (!((F36 x1 x2 x3 x4 x5 x6 x7 x8 x9).2.2)) then
      some (0, 0, false)
     else
      (bif (x3 != 0) then
       some (0, 0, false)
      else
       some ((F15__1 x1 x2 x3 x4 x5 x6 x7 x8 x9), ((F36 x1 x2 x3 x4 x5 x6 x7 x8 x9).1), true)))
    else
     (Option.bind (F11 x1 x2 x3 x4 x5 x6 x7 x8 x9) fun y18 =>
     (bif (!y18.2.2.2.2) then
      some (0, 0, false)
     else
      (Option.bind (F35 x1 x2 x3 x4 x5 x6 x7 x8 x9 y18.1 y18.2.1 y18.2.2.1 y18.2.2.2.1) fun y21 =>
      (bif decide (y21.1 > y21.2) then
       some (0, 0, false)
      else
       (bif decide (y18.2.2.2.1 < 0) then
        some ((IntKind.i64.wrap (y18.1 + (IntKind.i64.wrap (y21.2 * y18.2.2.1)))), (IntKind.i64.wrap (y18.2.1 + (IntKind.i64.wrap (y21.2 * y18.2.2.2.1)))), true)
       else
        some ((IntKind.i64.wrap (y18.1 + (IntKind.i64.wrap (y21.1 * y18.2.2.1)))), (IntKind.i64.wrap (y18.2.1 + (IntKind.i64.wrap (y21.1 * y18.2.2.2.1)))), true)))))))
   else
    (Option.bind (F11 x1 x2 x3 x4 x5 x6 x7 x8 x9) fun y25 =>
    (bif (!y25.2.2.2.2) then
     some (0, 0, false)
    else
     (Option.bind (F35 x1 x2 x3 x4 x5 x6 x7 x8 x9 y25.1 y25.2.1 y25.2.2.1 y25.2.2.2.1) fun y28 =>
     (bif decide (y28.1 > y28.2) then
      some (0, 0, false)
     else
      (bif decide (y25.2.2.2.1 < 0) then
       some ((IntKind.i64.wrap (y25.1 + (IntKind.i64.wrap (y28.2 * y25.2.2.1)))), (IntKind.i64.wrap (y25.2.1 + (IntKind.i64.wrap (y28.2 * y25.2.2.2.1)))), true)
      else
       some ((IntKind.i64.wrap (y25.1 + (IntKind.i64.wrap (y28.1 * y25.2.2.1)))), (IntKind.i64.wrap (y25.2.1 + (IntKind.i64.wrap (y28.1 * y25.2.2.2.1)))), true)))))))))
set_option maxRecDepth 100000 in
theorem F15_spec (x1 : Int) (x2 : Int) (x3 : Int) (x4 : Int) (x5 : Int) (x6 : Int) (x7 : Int) (x8 : Int) (x9 : Int) (h : AHeap)  (r : Int × Int × Bool) : F15 x1 x2 x3 x4 x5 x6 x7 x8 x9 = some r → ACalls Try.prog 15 [.agg #[.int .i64 x1, .int .i64 x2, .int .i64 x3, .int .i64 x4, .int .i64 x5, .int .i64 x6, .int .i64 x7, .int .i64 x8, .int .i64 x9]] h (fun v' h'' => v' = (.tuple #[.int .i64 r.1, .int .i64 r.2.1, .bool r.2.2] : Value) ∧ h'' = h) := by
  unfold F15
  refine bind_opt fun y10 e10 => ?_
  refine dec_bif (fun c12 => ?_) (fun c12 => ?_)
  · intro hr
    obtain rfl := Option.some.inj hr
    exact pFun_sound good tab_ok (f := 15) (its := [.g, .g, .g, .g, .g, (.c (.bool y10) h), .g, (.b true), .g, .g, .g]) (args := [.agg #[.int .i64 x1, .int .i64 x2, .int .i64 x3, .int .i64 x4, .int .i64 x5, .int .i64 x6, .int .i64 x7, .int .i64 x8, .int .i64 x9]]) (h := h) (h' := h) (v := .tuple #[.int .i64 0, .int .i64 0, .bool false]) (hC := (And.intro c12 (And.intro (F31_spec x1 x2 x3 x4 x5 x6 x7 x8 x9 h _ e10) trivial))) (hr := by kernel_rfl)
  · refine dec_bif (fun c13 => ?_) (fun c13 => ?_)
    · refine dec_bif (fun c14 => ?_) (fun c14 => ?_)
      · refine dec_bif (fun c16 => ?_) (fun c16 => ?_)
        · intro hr
          obtain rfl := Option.some.inj hr
          exact pFun_sound good tab_ok (f := 15) (its := [.g, .g, .g, .g, .g, (.c (.bool y10) h), .g, (.b false), .g, .g, .g, .g, (.w .g), (.w .g), (.w .g), (.p true), (.b true), .g, (.c (.tuple #[.agg #[.int .i64 ((F36 x1 x2 x3 x4 x5 x6 x7 x8 x9).1), .int .i64 ((F36 x1 x2 x3 x4 x5 x6 x7 x8 x9).2.1)], .bool ((F36 x1 x2 x3 x4 x5 x6 x7 x8 x9).2.2)]) h), .g, .g, .g, .g, .g, .g, .g, .g, .g, .n, .n, .n, (.p true), (.b true), .g, .g, .g]) (args := [.agg #[.int .i64 x1, .int .i64 x2, .int .i64 x3, .int .i64 x4, .int .i64 x5, .int .i64 x6, .int .i64 x7, .int .i64 x8, .int .i64 x9]]) (h := h) (h' := h) (v := .tuple #[.int .i64 0, .int .i64 0, .bool false]) (hC := (And.intro l_t (And.intro c16 (And.intro (g_tf c16) (And.intro (g_tf c16) (And.intro (g_tf c16) (And.intro (F36_spec x1 x2 x3 x4 x5 x6 x7 x8 x9 h _ rfl) (And.intro c14 (And.intro c13 (And.intro (g_tt c13) (And.intro (g_tt c13) (And.intro (g_tt c13) (And.intro c12 (And.intro (F31_spec x1 x2 x3 x4 x5 x6 x7 x8 x9 h _ e10) trivial)))))))))))))) (hr := by kernel_rfl)
        · refine dec_bif (fun c17 => ?_) (fun c17 => ?_)
          · intro hr
            obtain rfl := Option.some.inj hr
            exact pFun_sound good tab_ok (f := 15) (its := [.g, .g, .g, .g, .g, (.c (.bool y10) h), .g, (.b false), .g, .g, .g, .g, (.w .g), (.w .g), (.w .g), (.p true), (.b true), .g, (.c (.tuple #[.agg #[.int .i64 ((F36 x1 x2 x3 x4 x5 x6 x7 x8 x9).1), .int .i64 ((F36 x1 x2 x3 x4 x5 x6 x7 x8 x9).2.1)], .bool ((F36 x1 x2 x3 x4 x5 x6 x7 x8 x9).2.2)]) h), .g, .g, .g, .g, .g, .g, .g, .g, .g, (.w .g), (.w .g), (.w .g), (.p false), (.b true), .g, .g, .g]) (args := [.agg #[.int .i64 x1, .int .i64 x2, .int .i64 x3, .int .i64 x4, .int .i64 x5, .int .i64 x6, .int .i64 x7, .int .i64 x8, .int .i64 x9]]) (h := h) (h' := h) (v := .tuple #[.int .i64 0, .int .i64 0, .bool false]) (hC := (And.intro c17 (And.intro c16 (And.intro (g_ff c16) (And.intro (g_ff c16) (And.intro (g_ff c16) (And.intro (F36_spec x1 x2 x3 x4 x5 x6 x7 x8 x9 h _ rfl) (And.intro c14 (And.intro c13 (And.intro (g_tt c13) (And.intro (g_tt c13) (And.intro (g_tt c13) (And.intro c12 (And.intro (F31_spec x1 x2 x3 x4 x5 x6 x7 x8 x9 h _ e10) trivial)))))))))))))) (hr := by kernel_rfl)
          · intro hr
            obtain rfl := Option.some.inj hr
            exact pFun_sound good tab_ok (f := 15) (its := [.g, .g, .g, .g, .g, (.c (.bool y10) h), .g, (.b false), .g, .g, .g, .g, (.w .g), (.w .g), (.w .g), (.p true), (.b true), .g, (.c (.tuple #[.agg #[.int .i64 ((F36 x1 x2 x3 x4 x5 x6 x7 x8 x9).1), .int .i64 ((F36 x1 x2 x3 x4 x5 x6 x7 x8 x9).2.1)], .bool ((F36 x1 x2 x3 x4 x5 x6 x7 x8 x9).2.2)]) h), .g, .g, .g, .g, .g, .g, .g, .g, .g, (.w .g), (.w .g), (.w .g), (.p false), (.b false), .g, .g, .g, .g, .g, .g, .g, .g, .g, .g, .g, .g, .g, .g, .g]) (args := [.agg #[.int .i64 x1, .int .i64 x2, .int .i64 x3, .int .i64 x4, .int .i64 x5, .int .i64 x6, .int .i64 x7, .int .i64 x8, .int .i64 x9]]) (h := h) (h' := h) (v := .tuple #[.int .i64 (F15__1 x1 x2 x3 x4 x5 x6 x7 x8 x9), .int .i64 ((F36 x1 x2 x3 x4 x5 x6 x7 x8 x9).1), .bool true]) (hC := (And.intro c17 (And.intro c16 (And.intro (g_ff c16) (And.intro (g_ff c16) (And.intro (g_ff c16) (And.intro (F36_spec x1 x2 x3 x4 x5 x6 x7 x8 x9 h _ rfl) (And.intro c14 (And.intro c13 (And.intro (g_tt c13) (And.intro (g_tt c13) (And.intro (g_tt c13) (And.intro c12 (And.intro (F31_spec x1 x2 x3 x4 x5 x6 x7 x8 x9 h _ e10) trivial)))))))))))))) (hr := by kernel_rfl)
      · refine bind_opt fun y18 e18 => ?_
        refine dec_bif (fun c20 => ?_) (fun c20 => ?_)
        · intro hr
          obtain rfl := Option.some.inj hr
          exact pFun_sound good tab_ok (f := 15) (its := [.g, .g, .g, .g, .g, (.c (.bool y10) h), .g, (.b false), .g, .g, .g, .g, (.w .g), (.w .g), (.w .g), (.p true), (.b false), .g, (.c (.tuple #[.agg #[.int .i64 y18.1, .int .i64 y18.2.1, .int .i64 y18.2.2.1, .int .i64 y18.2.2.2.1], .bool y18.2.2.2.2]) h), .g, .g, .g, .g, .g, .g, .g, .g, (.b true), .g, .g, .g]) (args := [.agg #[.int .i64 x1, .int .i64 x2, .int .i64 x3, .int .i64 x4, .int .i64 x5, .int .i64 x6, .int .i64 x7, .int .i64 x8, .int .i64 x9]]) (h := h) (h' := h) (v := .tuple #[.int .i64 0, .int .i64 0, .bool false]) (hC := (And.intro c20 (And.intro (F11_spec x1 x2 x3 x4 x5 x6 x7 x8 x9 h _ e18) (And.intro c14 (And.intro c13 (And.intro (g_tt c13) (And.intro (g_tt c13) (And.intro (g_tt c13) (And.intro c12 (And.intro (F31_spec x1 x2 x3 x4 x5 x6 x7 x8 x9 h _ e10) trivial)))))))))) (hr := by kernel_rfl)
        · refine bind_opt fun y21 e21 => ?_
          refine dec_bif (fun c23 => ?_) (fun c23 => ?_)
          · intro hr
            obtain rfl := Option.some.inj hr
            exact pFun_sound good tab_ok (f := 15) (its := [.g, .g, .g, .g, .g, (.c (.bool y10) h), .g, (.b false), .g, .g, .g, .g, (.w .g), (.w .g), (.w .g), (.p true), (.b false), .g, (.c (.tuple #[.agg #[.int .i64 y18.1, .int .i64 y18.2.1, .int .i64 y18.2.2.1, .int .i64 y18.2.2.2.1], .bool y18.2.2.2.2]) h), .g, .g, .g, .g, .g, .g, .g, .g, (.b false), .g, .g, (.c (.agg #[.int .i64 y21.1, .int .i64 y21.2]) h), .g, .g, .g, .g, .g, .g, .g, (.b true), .g, .g, .g]) (args := [.agg #[.int .i64 x1, .int .i64 x2, .int .i64 x3, .int .i64 x4, .int .i64 x5, .int .i64 x6, .int .i64 x7, .int .i64 x8, .int .i64 x9]]) (h := h) (h' := h) (v := .tuple #[.int .i64 0, .int .i64 0, .bool false]) (hC := (And.intro c23 (And.intro (F35_spec x1 x2 x3 x4 x5 x6 x7 x8 x9 y18.1 y18.2.1 y18.2.2.1 y18.2.2.2.1 h _ e21) (And.intro c20 (And.intro (F11_spec x1 x2 x3 x4 x5 x6 x7 x8 x9 h _ e18) (And.intro c14 (And.intro c13 (And.intro (g_tt c13) (And.intro (g_tt c13) (And.intro (g_tt c13) (And.intro c12 (And.intro (F31_spec x1 x2 x3 x4 x5 x6 x7 x8 x9 h _ e10) trivial)))))))))))) (hr := by kernel_rfl)
          · refine dec_bif (fun c24 => ?_) (fun c24 => ?_)
            · intro hr
              obtain rfl := Option.some.inj hr
              exact pFun_sound good tab_ok (f := 15) (its := [.g, .g, .g, .g, .g, (.c (.bool y10) h), .g, (.b false), .g, .g, .g, .g, (.w .g), (.w .g), (.w .g), (.p true), (.b false), .g, (.c (.tuple #[.agg #[.int .i64 y18.1, .int .i64 y18.2.1, .int .i64 y18.2.2.1, .int .i64 y18.2.2.2.1], .bool y18.2.2.2.2]) h), .g, .g, .g, .g, .g, .g, .g, .g, (.b false), .g, .g, (.c (.agg #[.int .i64 y21.1, .int .i64 y21.2]) h), .g, .g, .g, .g, .g, .g, .g, (.b false), .g, .g, .g, .g, .g, .g, (.b true), .g, .g, .g, .g, .g, .g, .g, .g, .g, .g, .g, .g, .g, .g, .g, .g, .g, .g, .g, .g]) (args := [.agg #[.int .i64 x1, .int .i64 x2, .int .i64 x3, .int .i64 x4, .int .i64 x5, .int .i64 x6, .int .i64 x7, .int .i64 x8, .int .i64 x9]]) (h := h) (h' := h) (v := .tuple #[.int .i64 (IntKind.i64.wrap (y18.1 + (IntKind.i64.wrap (y21.2 * y18.2.2.1)))), .int .i64 (IntKind.i64.wrap (y18.2.1 + (IntKind.i64.wrap (y21.2 * y18.2.2.2.1)))), .bool true]) (hC := (And.intro c24 (And.intro c23 (And.intro (F35_spec x1 x2 x3 x4 x5 x6 x7 x8 x9 y18.1 y18.2.1 y18.2.2.1 y18.2.2.2.1 h _ e21) (And.intro c20 (And.intro (F11_spec x1 x2 x3 x4 x5 x6 x7 x8 x9 h _ e18) (And.intro c14 (And.intro c13 (And.intro (g_tt c13) (And.intro (g_tt c13) (And.intro (g_tt c13) (And.intro c12 (And.intro (F31_spec x1 x2 x3 x4 x5 x6 x7 x8 x9 h _ e10) trivial))))))))))))) (hr := by kernel_rfl)
            · intro hr
              obtain rfl := Option.some.inj hr
              exact pFun_sound good tab_ok (f := 15) (its := [.g, .g, .g, .g, .g, (.c (.bool y10) h), .g, (.b false), .g, .g, .g, .g, (.w .g), (.w .g), (.w .g), (.p true), (.b false), .g, (.c (.tuple #[.agg #[.int .i64 y18.1, .int .i64 y18.2.1, .int .i64 y18.2.2.1, .int .i64 y18.2.2.2.1], .bool y18.2.2.2.2]) h), .g, .g, .g, .g, .g, .g, .g, .g, (.b false), .g, .g, (.c (.agg #[.int .i64 y21.1, .int .i64 y21.2]) h), .g, .g, .g, .g, .g, .g, .g, (.b false), .g, .g, .g, .g, .g, .g, (.b false), .g, .g, .g, .g, .g, .g, .g, .g, .g, .g, .g, .g, .g, .g, .g, .g, .g]) (args := [.agg #[.int .i64 x1, .int .i64 x2, .int .i64 x3, .int .i64 x4, .int .i64 x5, .int .i64 x6, .int .i64 x7, .int .i64 x8, .int .i64 x9]]) (h := h) (h' := h) (v := .tuple #[.int .i64 (IntKind.i64.wrap (y18.1 + (IntKind.i64.wrap (y21.1 * y18.2.2.1)))), .int .i64 (IntKind.i64.wrap (y18.2.1 + (IntKind.i64.wrap (y21.1 * y18.2.2.2.1)))), .bool true]) (hC := (And.intro c24 (And.intro c23 (And.intro (F35_spec x1 x2 x3 x4 x5 x6 x7 x8 x9 y18.1 y18.2.1 y18.2.2.1 y18.2.2.2.1 h _ e21) (And.intro c20 (And.intro (F11_spec x1 x2 x3 x4 x5 x6 x7 x8 x9 h _ e18) (And.intro c14 (And.intro c13 (And.intro (g_tt c13) (And.intro (g_tt c13) (And.intro (g_tt c13) (And.intro c12 (And.intro (F31_spec x1 x2 x3 x4 x5 x6 x7 x8 x9 h _ e10) trivial))))))))))))) (hr := by kernel_rfl)
    · refine bind_opt fun y25 e25 => ?_
      refine dec_bif (fun c27 => ?_) (fun c27 => ?_)
      · intro hr
        obtain rfl := Option.some.inj hr
        exact pFun_sound good tab_ok (f := 15) (its := [.g, .g, .g, .g, .g, (.c (.bool y10) h), .g, (.b false), .g, .g, .g, .g, .n, .n, .n, (.p false), (.b false), .g, (.c (.tuple #[.agg #[.int .i64 y25.1, .int .i64 y25.2.1, .int .i64 y25.2.2.1, .int .i64 y25.2.2.2.1], .bool y25.2.2.2.2]) h), .g, .g, .g, .g, .g, .g, .g, .g, (.b true), .g, .g, .g]) (args := [.agg #[.int .i64 x1, .int .i64 x2, .int .i64 x3, .int .i64 x4, .int .i64 x5, .int .i64 x6, .int .i64 x7, .int .i64 x8, .int .i64 x9]]) (h := h) (h' := h) (v := .tuple #[.int .i64 0, .int .i64 0, .bool false]) (hC := (And.intro c27 (And.intro (F11_spec x1 x2 x3 x4 x5 x6 x7 x8 x9 h _ e25) (And.intro l_f (And.intro c13 (And.intro (g_ft c13) (And.intro (g_ft c13) (And.intro (g_ft c13) (And.intro c12 (And.intro (F31_spec x1 x2 x3 x4 x5 x6 x7 x8 x9 h _ e10) trivial)))))))))) (hr := by kernel_rfl)
      · refine bind_opt fun y28 e28 => ?_
        refine dec_bif (fun c30 => ?_) (fun c30 => ?_)
        · intro hr
          obtain rfl := Option.some.inj hr
          exact pFun_sound good tab_ok (f := 15) (its := [.g, .g, .g, .g, .g, (.c (.bool y10) h), .g, (.b false), .g, .g, .g, .g, .n, .n, .n, (.p false), (.b false), .g, (.c (.tuple #[.agg #[.int .i64 y25.1, .int .i64 y25.2.1, .int .i64 y25.2.2.1, .int .i64 y25.2.2.2.1], .bool y25.2.2.2.2]) h), .g, .g, .g, .g, .g, .g, .g, .g, (.b false), .g, .g, (.c (.agg #[.int .i64 y28.1, .int .i64 y28.2]) h), .g, .g, .g, .g, .g, .g, .g, (.b true), .g, .g, .g]) (args := [.agg #[.int .i64 x1, .int .i64 x2, .int .i64 x3, .int .i64 x4, .int .i64 x5, .int .i64 x6, .int .i64 x7, .int .i64 x8, .int .i64 x9]]) (h := h) (h' := h) (v := .tuple #[.int .i64 0, .int .i64 0, .bool false]) (hC := (And.intro c30 (And.intro (F35_spec x1 x2 x3 x4 x5 x6 x7 x8 x9 y25.1 y25.2.1 y25.2.2.1 y25.2.2.2.1 h _ e28) (And.intro c27 (And.intro (F11_spec x1 x2 x3 x4 x5 x6 x7 x8 x9 h _ e25) (And.intro l_f (And.intro c13 (And.intro (g_ft c13) (And.intro (g_ft c13) (And.intro (g_ft c13) (And.intro c12 (And.intro (F31_spec x1 x2 x3 x4 x5 x6 x7 x8 x9 h _ e10) trivial)))))))))))) (hr := by kernel_rfl)
        · refine dec_bif (fun c31 => ?_) (fun c31 => ?_)
          · intro hr
            obtain rfl := Option.some.inj hr
            exact pFun_sound good tab_ok (f := 15) (its := [.g, .g, .g, .g, .g, (.c (.bool y10) h), .g, (.b false), .g, .g, .g, .g, .n, .n, .n, (.p false), (.b false), .g, (.c (.tuple #[.agg #[.int .i64 y25.1, .int .i64 y25.2.1, .int .i64 y25.2.2.1, .int .i64 y25.2.2.2.1], .bool y25.2.2.2.2]) h), .g, .g, .g, .g, .g, .g, .g, .g, (.b false), .g, .g, (.c (.agg #[.int .i64 y28.1, .int .i64 y28.2]) h), .g, .g, .g, .g, .g, .g, .g, (.b false), .g, .g, .g, .g, .g, .g, (.b true), .g, .g, .g, .g, .g, .g, .g, .g, .g, .g, .g, .g, .g, .g, .g, .g, .g, .g, .g, .g]) (args := [.agg #[.int .i64 x1, .int .i64 x2, .int .i64 x3, .int .i64 x4, .int .i64 x5, .int .i64 x6, .int .i64 x7, .int .i64 x8, .int .i64 x9]]) (h := h) (h' := h) (v := .tuple #[.int .i64 (IntKind.i64.wrap (y25.1 + (IntKind.i64.wrap (y28.2 * y25.2.2.1)))), .int .i64 (IntKind.i64.wrap (y25.2.1 + (IntKind.i64.wrap (y28.2 * y25.2.2.2.1)))), .bool true]) (hC := (And.intro c31 (And.intro c30 (And.intro (F35_spec x1 x2 x3 x4 x5 x6 x7 x8 x9 y25.1 y25.2.1 y25.2.2.1 y25.2.2.2.1 h _ e28) (And.intro c27 (And.intro (F11_spec x1 x2 x3 x4 x5 x6 x7 x8 x9 h _ e25) (And.intro l_f (And.intro c13 (And.intro (g_ft c13) (And.intro (g_ft c13) (And.intro (g_ft c13) (And.intro c12 (And.intro (F31_spec x1 x2 x3 x4 x5 x6 x7 x8 x9 h _ e10) trivial))))))))))))) (hr := by kernel_rfl)
          · intro hr
            obtain rfl := Option.some.inj hr
            exact pFun_sound good tab_ok (f := 15) (its := [.g, .g, .g, .g, .g, (.c (.bool y10) h), .g, (.b false), .g, .g, .g, .g, .n, .n, .n, (.p false), (.b false), .g, (.c (.tuple #[.agg #[.int .i64 y25.1, .int .i64 y25.2.1, .int .i64 y25.2.2.1, .int .i64 y25.2.2.2.1], .bool y25.2.2.2.2]) h), .g, .g, .g, .g, .g, .g, .g, .g, (.b false), .g, .g, (.c (.agg #[.int .i64 y28.1, .int .i64 y28.2]) h), .g, .g, .g, .g, .g, .g, .g, (.b false), .g, .g, .g, .g, .g, .g, (.b false), .g, .g, .g, .g, .g, .g, .g, .g, .g, .g, .g, .g, .g, .g, .g, .g, .g]) (args := [.agg #[.int .i64 x1, .int .i64 x2, .int .i64 x3, .int .i64 x4, .int .i64 x5, .int .i64 x6, .int .i64 x7, .int .i64 x8, .int .i64 x9]]) (h := h) (h' := h) (v := .tuple #[.int .i64 (IntKind.i64.wrap (y25.1 + (IntKind.i64.wrap (y28.1 * y25.2.2.1)))), .int .i64 (IntKind.i64.wrap (y25.2.1 + (IntKind.i64.wrap (y28.1 * y25.2.2.2.1)))), .bool true]) (hC := (And.intro c31 (And.intro c30 (And.intro (F35_spec x1 x2 x3 x4 x5 x6 x7 x8 x9 y25.1 y25.2.1 y25.2.2.1 y25.2.2.2.1 h _ e28) (And.intro c27 (And.intro (F11_spec x1 x2 x3 x4 x5 x6 x7 x8 x9 h _ e25) (And.intro l_f (And.intro c13 (And.intro (g_ft c13) (And.intro (g_ft c13) (And.intro (g_ft c13) (And.intro c12 (And.intro (F31_spec x1 x2 x3 x4 x5 x6 x7 x8 x9 h _ e10) trivial))))))))))))) (hr := by kernel_rfl)
/-! 14 jacquard/diophant.Count -/
def F14 (x1 : Int) (x2 : Int) (x3 : Int) (x4 : Int) (x5 : Int) (x6 : Int) (x7 : Int) (x8 : Int) (x9 : Int) : Option (Int) :=
  (Option.bind (F15 x1 x2 x3 x4 x5 x6 x7 x8 x9) fun y10 =>
  (bif (!y10.2.2) then
   some (0)
  else
   (Option.bind (F11 x1 x2 x3 x4 x5 x6 x7 x8 x9) fun y13 =>
   (bif (!y13.2.2.2.2) then
    some (1)
   else
    (Option.bind (F35 x1 x2 x3 x4 x5 x6 x7 x8 x9 y13.1 y13.2.1 y13.2.2.1 y13.2.2.2.1) fun y16 =>
    some (IntKind.u64.wrap ((IntKind.u64.wrap ((IntKind.i64.wrap (y16.2 - y16.1)))) + 1)))))))
set_option maxRecDepth 100000 in
theorem F14_spec (x1 : Int) (x2 : Int) (x3 : Int) (x4 : Int) (x5 : Int) (x6 : Int) (x7 : Int) (x8 : Int) (x9 : Int) (h : AHeap)  (r : Int) : F14 x1 x2 x3 x4 x5 x6 x7 x8 x9 = some r → ACalls Try.prog 14 [.agg #[.int .i64 x1, .int .i64 x2, .int .i64 x3, .int .i64 x4, .int .i64 x5, .int .i64 x6, .int .i64 x7, .int .i64 x8, .int .i64 x9]] h (fun v' h'' => v' = (.int .u64 r : Value) ∧ h'' = h) := by
  unfold F14
  refine bind_opt fun y10 e10 => ?_
  refine dec_bif (fun c12 => ?_) (fun c12 => ?_)
  · intro hr
    obtain rfl := Option.some.inj hr
    exact pFun_sound good tab_ok (f := 14) (its := [.g, .g, .g, (.c (.tuple #[.int .i64 y10.1, .int .i64 y10.2.1, .bool y10.2.2]) h), .g, .g, .g, .g, .g, .g, .g, .g, .g, (.b true), .g]) (args := [.agg #[.int .i64 x1, .int .i64 x2, .int .i64 x3, .int .i64 x4, .int .i64 x5, .int .i64 x6, .int .i64 x7, .int .i64 x8, .int .i64 x9]]) (h := h) (h' := h) (v := .int .u64 0) (hC := (And.intro c12 (And.intro (F15_spec x1 x2 x3 x4 x5 x6 x7 x8 x9 h _ e10) trivial))) (hr := by kernel_rfl)
  · refine bind_opt fun y13 e13 => ?_
    refine dec_bif (fun c15 => ?_) (fun c15 => ?_)
    · intro hr
      obtain rfl := Option.some.inj hr
      exact pFun_sound good tab_ok (f := 14) (its := [.g, .g, .g, (.c (.tuple #[.int .i64 y10.1, .int .i64 y10.2.1, .bool y10.2.2]) h), .g, .g, .g, .g, .g, .g, .g, .g, .g, (.b false), .g, (.c (.tuple #[.agg #[.int .i64 y13.1, .int .i64 y13.2.1, .int .i64 y13.2.2.1, .int .i64 y13.2.2.2.1], .bool y13.2.2.2.2]) h), .g, .g, .g, .g, .g, .g, .g, .g, (.b true), .g]) (args := [.agg #[.int .i64 x1, .int .i64 x2, .int .i64 x3, .int .i64 x4, .int .i64 x5, .int .i64 x6, .int .i64 x7, .int .i64 x8, .int .i64 x9]]) (h := h) (h' := h) (v := .int .u64 1) (hC := (And.intro c15 (And.intro (F11_spec x1 x2 x3 x4 x5 x6 x7 x8 x9 h _ e13) (And.intro c12 (And.intro (F15_spec x1 x2 x3 x4 x5 x6 x7 x8 x9 h _ e10) trivial))))) (hr := by kernel_rfl)
    · refine bind_opt fun y16 e16 => ?_
      intro hr
      obtain rfl := Option.some.inj hr
      exact pFun_sound good tab_ok (f := 14) (its := [.g, .g, .g, (.c (.tuple #[.int .i64 y10.1, .int .i64 y10.2.1, .bool y10.2.2]) h), .g, .g, .g, .g, .g, .g, .g, .g, .g, (.b false), .g, (.c (.tuple #[.agg #[.int .i64 y13.1, .int .i64 y13.2.1, .int .i64 y13.2.2.1, .int .i64 y13.2.2.2.1], .bool y13.2.2.2.2]) h), .g, .g, .g, .g, .g, .g, .g, .g, (.b false), .g, .g, (.c (.agg #[.int .i64 y16.1, .int .i64 y16.2]) h), .g, .g, .g, .g, .g, .g, .g, .g, .g, .g]) (args := [.agg #[.int .i64 x1, .int .i64 x2, .int .i64 x3, .int .i64 x4, .int .i64 x5, .int .i64 x6, .int .i64 x7, .int .i64 x8, .int .i64 x9]]) (h := h) (h' := h) (v := .int .u64 (IntKind.u64.wrap ((IntKind.u64.wrap ((IntKind.i64.wrap (y16.2 - y16.1)))) + 1))) (hC := (And.intro (F35_spec x1 x2 x3 x4 x5 x6 x7 x8 x9 y13.1 y13.2.1 y13.2.2.1 y13.2.2.2.1 h _ e16) (And.intro c15 (And.intro (F11_spec x1 x2 x3 x4 x5 x6 x7 x8 x9 h _ e13) (And.intro c12 (And.intro (F15_spec x1 x2 x3 x4 x5 x6 x7 x8 x9 h _ e10) trivial)))))) (hr := by kernel_rfl)
/-! 13 jacquard/jacquardref24.Abs -/
def F13 (x1 : Int) : Int :=
  (bif decide (x1 < 0) then
   (IntKind.i64.wrap (0 - x1))
  else
   x1)
set_option maxRecDepth 100000 in
theorem F13_spec (x1 : Int) (h : AHeap)  (r : Int) : F13 x1 = r → ACalls Try.prog 13 [.int .i64 x1] h (fun v' h'' => v' = (.int .i64 r : Value) ∧ h'' = h) := by
  unfold F13
  refine dec_bif (fun c2 => ?_) (fun c2 => ?_)
  · intro hr
    subst hr
    exact pFun_sound good tab_ok (f := 13) (its := [.g, .g, .g, (.b true), .g, .g, .g]) (args := [.int .i64 x1]) (h := h) (h' := h) (v := .int .i64 (IntKind.i64.wrap (0 - x1))) (hC := (And.intro c2 trivial)) (hr := by kernel_rfl)
  · intro hr
    subst hr
    exact pFun_sound good tab_ok (f := 13) (its := [.g, .g, .g, (.b false), .g, .g]) (args := [.int .i64 x1]) (h := h) (h' := h) (v := .int .i64 x1) (hC := (And.intro c2 trivial)) (hr := by kernel_rfl)
/-! 4 jacquard/jacquardlaw24.DiophantScales -/
def F4__1 (x1 : Int) (x2 : Int) (x3 : Int) (x4 : Int) (x5 : Int) (x6 : Int) (x7 : Int) (x8 : Int) (x9 : Int) (x10 : Int) : Bool := (!(F10 (IntKind.i64.wrap ((IntKind.i64.wrap (x10)) * x1)) (IntKind.i64.wrap ((IntKind.i64.wrap (x10)) * x2)) (IntKind.i64.wrap ((IntKind.i64.wrap (x10)) * x3)) x4 x5 x6 x7 x8 x9))
def F4 (x1 : Int) (x2 : Int) (x3 : Int) (x4 : Int) (x5 : Int) (x6 : Int) (x7 : Int) (x8 : Int) (x9 : Int) (x10 : Int) : Option (Bool) :=
  (bif (!(F10 x1 x2 x3 x4 x5 x6 x7 x8 x9)) then
   some (true)
  else
   (bif (x10 == 0) then
    some (true)
   else
    (Option.bind (F14 x2 x1 x3 x6 x7 x4 x5 x8 x9) fun y17 =>
    (Option.bind (F14 x1 x2 x3 x4 x5 x6 x7 x8 x9) fun y19 =>
    (bif (y17 != y19) then
     some (false)
    else
     (bif decide ((F13 x3) > 1125899906842624) then
      some (true)
     else
      (bif (F4__1 x1 x2 x3 x4 x5 x6 x7 x8 x9 x10) then
       some (true)
      else
       (Option.bind (F15 x1 x2 x3 x4 x5 x6 x7 x8 x9) fun y26 =>
       (Option.bind (F15 (IntKind.i64.wrap ((IntKind.i64.wrap (x10)) * x1)) (IntKind.i64.wrap ((IntKind.i64.wrap (x10)) * x2)) (IntKind.i64.wrap ((IntKind.i64.wrap (x10)) * x3)) x4 x5 x6 x7 x8 x9) fun y28 =>
       (bif (y26.2.2 == y28.2.2) then
        (bif (y26.1 == y28.1) then
         (bif (y26.2.1 == y28.2.1) then
          (Option.bind (F14 (IntKind.i64.wrap ((IntKind.i64.wrap (x10)) * x1)) (IntKind.i64.wrap ((IntKind.i64.wrap (x10)) * x2)) (IntKind.i64.wrap ((IntKind.i64.wrap (x10)) * x3)) x4 x5 x6 x7 x8 x9) fun y33 =>
          (Option.bind (F14 x1 x2 x3 x4 x5 x6 x7 x8 x9) fun y35 =>
          some (y33 == y35)))
         else
          some (false))
        else
         some (false))
       else
        some (false)))))))))))
set_option maxRecDepth 100000 in
theorem F4_spec (x1 : Int) (x2 : Int) (x3 : Int) (x4 : Int) (x5 : Int) (x6 : Int) (x7 : Int) (x8 : Int) (x9 : Int) (x10 : Int) (h : AHeap)  (r : Bool) : F4 x1 x2 x3 x4 x5 x6 x7 x8 x9 x10 = some r → ACalls Try.prog 4 [.agg #[.int .i64 x1, .int .i64 x2, .int .i64 x3, .int .i64 x4, .int .i64 x5, .int .i64 x6, .int .i64 x7, .int .i64 x8, .int .i64 x9], .int .i8 x10] h (fun v' h'' => v' = (.bool r : Value) ∧ h'' = h) := by
  unfold F4
  refine dec_bif (fun c13 => ?_) (fun c13 => ?_)
  · intro hr
    obtain rfl := Option.some.inj hr
    exact pFun_sound good tab_ok (f := 4) (its := [.g, .g, (.c (.bool true) h), .g, .g, (.w .g), (.w (.c (.bool (F10 x1 x2 x3 x4 x5 x6 x7 x8 x9)) h)), (.w .g), .g, .g, .n, .n, (.p true), (.b true), (.c (.bool true) h), .g]) (args := [.agg #[.int .i64 x1, .int .i64 x2, .int .i64 x3, .int .i64 x4, .int .i64 x5, .int .i64 x6, .int .i64 x7, .int .i64 x8, .int .i64 x9], .int .i8 x10]) (h := h) (h' := h) (v := .bool true) (hC := (And.intro (F9_spec h _ rfl) (And.intro l_t (And.intro c13 (And.intro (g_tf c13) (And.intro (g_tf c13) (And.intro (g_ff l_f) (And.intro (F10_spec x1 x2 x3 x4 x5 x6 x7 x8 x9 h _ rfl) (And.intro (g_ff l_f) (And.intro (g_ff l_f) (And.intro (F9_spec h _ rfl) trivial))))))))))) (hr := by kernel_rfl)
  · refine dec_bif (fun c15 => ?_) (fun c15 => ?_)
    · intro hr
      obtain rfl := Option.some.inj hr
      exact pFun_sound good tab_ok (f := 4) (its := [.g, .g, (.c (.bool true) h), .g, .g, (.w .g), (.w (.c (.bool (F10 x1 x2 x3 x4 x5 x6 x7 x8 x9)) h)), (.w .g), .g, .g, (.w .g), (.w .g), (.p false), (.b true), (.c (.bool true) h), .g]) (args := [.agg #[.int .i64 x1, .int .i64 x2, .int .i64 x3, .int .i64 x4, .int .i64 x5, .int .i64 x6, .int .i64 x7, .int .i64 x8, .int .i64 x9], .int .i8 x10]) (h := h) (h' := h) (v := .bool true) (hC := (And.intro (F9_spec h _ rfl) (And.intro c15 (And.intro c13 (And.intro (g_ff c13) (And.intro (g_ff c13) (And.intro (g_ff l_f) (And.intro (F10_spec x1 x2 x3 x4 x5 x6 x7 x8 x9 h _ rfl) (And.intro (g_ff l_f) (And.intro (g_ff l_f) (And.intro (F9_spec h _ rfl) trivial))))))))))) (hr := by kernel_rfl)
    · refine bind_opt fun y17 e17 => ?_
      refine bind_opt fun y19 e19 => ?_
      refine dec_bif (fun c21 => ?_) (fun c21 => ?_)
      · intro hr
        obtain rfl := Option.some.inj hr
        exact pFun_sound good tab_ok (f := 4) (its := [.g, .g, (.c (.bool true) h), .g, .g, (.w .g), (.w (.c (.bool (F10 x1 x2 x3 x4 x5 x6 x7 x8 x9)) h)), (.w .g), .g, .g, (.w .g), (.w .g), (.p false), (.b false), .g, .g, .g, .g, .g, .g, .g, .g, .g, .g, .g, .g, .g, .g, .g, .g, .g, .g, .g, .g, .g, .g, .g, .g, .g, .g, .g, .g, .g, .g, .g, .g, .g, .g, .g, .g, .g, .g, .g, (.c (.int .u64 y17) h), (.c (.int .u64 y19) h), .g, (.b true), .g]) (args := [.agg #[.int .i64 x1, .int .i64 x2, .int .i64 x3, .int .i64 x4, .int .i64 x5, .int .i64 x6, .int .i64 x7, .int .i64 x8, .int .i64 x9], .int .i8 x10]) (h := h) (h' := h) (v := .bool false) (hC := (And.intro c21 (And.intro (show AKeep h h from (AHeap.sub_refl h)) (And.intro (F14_spec x1 x2 x3 x4 x5 x6 x7 x8 x9 h _ e19) (And.intro (show AKeep h h from (AHeap.sub_refl h)) (And.intro (F14_spec x2 x1 x3 x6 x7 x4 x5 x8 x9 h _ e17) (And.intro c15 (And.intro c13 (And.intro (g_ff c13) (And.intro (g_ff c13) (And.intro (g_ff l_f) (And.intro (F10_spec x1 x2 x3 x4 x5 x6 x7 x8 x9 h _ rfl) (And.intro (g_ff l_f) (And.intro (g_ff l_f) (And.intro (F9_spec h _ rfl) trivial))))))))))))))) (hr := by kernel_rfl)
      · refine dec_bif (fun c23 => ?_) (fun c23 => ?_)
        · intro hr
          obtain rfl := Option.some.inj hr
          exact pFun_sound good tab_ok (f := 4) (its := [.g, .g, (.c (.bool true) h), .g, .g, (.w .g), (.w (.c (.bool (F10 x1 x2 x3 x4 x5 x6 x7 x8 x9)) h)), (.w .g), .g, .g, (.w .g), (.w .g), (.p false), (.b false), .g, .g, .g, .g, .g, .g, .g, .g, .g, .g, .g, .g, .g, .g, .g, .g, .g, .g, .g, .g, .g, .g, .g, .g, .g, .g, .g, .g, .g, .g, .g, .g, .g, .g, .g, .g, .g, .g, .g, (.c (.int .u64 y17) h), (.c (.int .u64 y19) h), .g, (.b false), .g, .g, (.c (.int .i64 (F13 x3)) h), .g, (.b true), .g]) (args := [.agg #[.int .i64 x1, .int .i64 x2, .int .i64 x3, .int .i64 x4, .int .i64 x5, .int .i64 x6, .int .i64 x7, .int .i64 x8, .int .i64 x9], .int .i8 x10]) (h := h) (h' := h) (v := .bool true) (hC := (And.intro c23 (And.intro (F13_spec x3 h _ rfl) (And.intro c21 (And.intro (show AKeep h h from (AHeap.sub_refl h)) (And.intro (F14_spec x1 x2 x3 x4 x5 x6 x7 x8 x9 h _ e19) (And.intro (show AKeep h h from (AHeap.sub_refl h)) (And.intro (F14_spec x2 x1 x3 x6 x7 x4 x5 x8 x9 h _ e17) (And.intro c15 (And.intro c13 (And.intro (g_ff c13) (And.intro (g_ff c13) (And.intro (g_ff l_f) (And.intro (F10_spec x1 x2 x3 x4 x5 x6 x7 x8 x9 h _ rfl) (And.intro (g_ff l_f) (And.intro (g_ff l_f) (And.intro (F9_spec h _ rfl) trivial))))))))))))))))) (hr := by kernel_rfl)
        · refine dec_bif (fun c25 => ?_) (fun c25 => ?_)
          · intro hr
            obtain rfl := Option.some.inj hr
            exact pFun_sound good tab_ok (f := 4) (its := [.g, .g, (.c (.bool true) h), .g, .g, (.w .g), (.w (.c (.bool (F10 x1 x2 x3 x4 x5 x6 x7 x8 x9)) h)), (.w .g), .g, .g, (.w .g), (.w .g), (.p false), (.b false), .g, .g, .g, .g, .g, .g, .g, .g, .g, .g, .g, .g, .g, .g, .g, .g, .g, .g, .g, .g, .g, .g, .g, .g, .g, .g, .g, .g, .g, .g, .g, .g, .g, .g, .g, .g, .g, .g, .g, (.c (.int .u64 y17) h), (.c (.int .u64 y19) h), .g, (.b false), .g, .g, (.c (.int .i64 (F13 x3)) h), .g, (.b false), .g, .g, .g, .g, .g, .g, .g, (.c (.bool (F10 (IntKind.i64.wrap ((IntKind.i64.wrap (x10)) * x1)) (IntKind.i64.wrap ((IntKind.i64.wrap (x10)) * x2)) (IntKind.i64.wrap ((IntKind.i64.wrap (x10)) * x3)) x4 x5 x6 x7 x8 x9)) h), .g, (.b true), .g]) (args := [.agg #[.int .i64 x1, .int .i64 x2, .int .i64 x3, .int .i64 x4, .int .i64 x5, .int .i64 x6, .int .i64 x7, .int .i64 x8, .int .i64 x9], .int .i8 x10]) (h := h) (h' := h) (v := .bool true) (hC := (And.intro c25 (And.intro (F10_spec (IntKind.i64.wrap ((IntKind.i64.wrap (x10)) * x1)) (IntKind.i64.wrap ((IntKind.i64.wrap (x10)) * x2)) (IntKind.i64.wrap ((IntKind.i64.wrap (x10)) * x3)) x4 x5 x6 x7 x8 x9 h _ rfl) (And.intro c23 (And.intro (F13_spec x3 h _ rfl) (And.intro c21 (And.intro (show AKeep h h from (AHeap.sub_refl h)) (And.intro (F14_spec x1 x2 x3 x4 x5 x6 x7 x8 x9 h _ e19) (And.intro (show AKeep h h from (AHeap.sub_refl h)) (And.intro (F14_spec x2 x1 x3 x6 x7 x4 x5 x8 x9 h _ e17) (And.intro c15 (And.intro c13 (And.intro (g_ff c13) (And.intro (g_ff c13) (And.intro (g_ff l_f) (And.intro (F10_spec x1 x2 x3 x4 x5 x6 x7 x8 x9 h _ rfl) (And.intro (g_ff l_f) (And.intro (g_ff l_f) (And.intro (F9_spec h _ rfl) trivial))))))))))))))))))) (hr := by kernel_rfl)
          · refine bind_opt fun y26 e26 => ?_
            refine bind_opt fun y28 e28 => ?_
            refine dec_bif (fun c30 => ?_) (fun c30 => ?_)
            · refine dec_bif (fun c31 => ?_) (fun c31 => ?_)
              · refine dec_bif (fun c32 => ?_) (fun c32 => ?_)
                · refine bind_opt fun y33 e33 => ?_
                  refine bind_opt fun y35 e35 => ?_
                  intro hr
                  obtain rfl := Option.some.inj hr
                  exact pFun_sound good tab_ok (f := 4) (its := [.g, .g, (.c (.bool true) h), .g, .g, (.w .g), (.w (.c (.bool (F10 x1 x2 x3 x4 x5 x6 x7 x8 x9)) h)), (.w .g), .g, .g, (.w .g), (.w .g), (.p false), (.b false), .g, .g, .g, .g, .g, .g, .g, .g, .g, .g, .g, .g, .g, .g, .g, .g, .g, .g, .g, .g, .g, .g, .g, .g, .g, .g, .g, .g, .g, .g, .g, .g, .g, .g, .g, .g, .g, .g, .g, (.c (.int .u64 y17) h), (.c (.int .u64 y19) h), .g, (.b false), .g, .g, (.c (.int .i64 (F13 x3)) h), .g, (.b false), .g, .g, .g, .g, .g, .g, .g, (.c (.bool (F10 (IntKind.i64.wrap ((IntKind.i64.wrap (x10)) * x1)) (IntKind.i64.wrap ((IntKind.i64.wrap (x10)) * x2)) (IntKind.i64.wrap ((IntKind.i64.wrap (x10)) * x3)) x4 x5 x6 x7 x8 x9)) h), .g, (.b false), .g, (.c (.tuple #[.int .i64 y26.1, .int .i64 y26.2.1, .bool y26.2.2]) h), .g, .g, .g, .g, .g, .g, .g, .g, (.c (.tuple #[.int .i64 y28.1, .int .i64 y28.2.1, .bool y28.2.2]) h), .g, .g, .g, .g, .g, .g, .g, .g, .g, .g, .g, (.w .g), (.w .g), (.w .g), (.p true), .g, (.w .g), (.w .g), (.w .g), (.p true), .g, (.w .g), (.w .g), (.w (.c (.int .u64 y33) h)), (.w (.c (.int .u64 y35) h)), (.w .g), (.p true), .g]) (args := [.agg #[.int .i64 x1, .int .i64 x2, .int .i64 x3, .int .i64 x4, .int .i64 x5, .int .i64 x6, .int .i64 x7, .int .i64 x8, .int .i64 x9], .int .i8 x10]) (h := h) (h' := h) (v := .bool (y33 == y35)) (hC := (And.intro c32 (And.intro (g_tt c32) (And.intro (show AKeep h h from (AHeap.sub_refl h)) (And.intro (F14_spec x1 x2 x3 x4 x5 x6 x7 x8 x9 h _ e35) (And.intro (g_tt c32) (And.intro (show AKeep h h from (AHeap.sub_refl h)) (And.intro (F14_spec (IntKind.i64.wrap ((IntKind.i64.wrap (x10)) * x1)) (IntKind.i64.wrap ((IntKind.i64.wrap (x10)) * x2)) (IntKind.i64.wrap ((IntKind.i64.wrap (x10)) * x3)) x4 x5 x6 x7 x8 x9 h _ e33) (And.intro (g_tt c32) (And.intro (g_tt c32) (And.intro (g_tt c32) (And.intro c31 (And.intro (g_tt c31) (And.intro (g_tt c31) (And.intro (g_tt c31) (And.intro c30 (And.intro (g_tt c30) (And.intro (g_tt c30) (And.intro (g_tt c30) (And.intro (F15_spec (IntKind.i64.wrap ((IntKind.i64.wrap (x10)) * x1)) (IntKind.i64.wrap ((IntKind.i64.wrap (x10)) * x2)) (IntKind.i64.wrap ((IntKind.i64.wrap (x10)) * x3)) x4 x5 x6 x7 x8 x9 h _ e28) (And.intro (F15_spec x1 x2 x3 x4 x5 x6 x7 x8 x9 h _ e26) (And.intro c25 (And.intro (F10_spec (IntKind.i64.wrap ((IntKind.i64.wrap (x10)) * x1)) (IntKind.i64.wrap ((IntKind.i64.wrap (x10)) * x2)) (IntKind.i64.wrap ((IntKind.i64.wrap (x10)) * x3)) x4 x5 x6 x7 x8 x9 h _ rfl) (And.intro c23 (And.intro (F13_spec x3 h _ rfl) (And.intro c21 (And.intro (show AKeep h h from (AHeap.sub_refl h)) (And.intro (F14_spec x1 x2 x3 x4 x5 x6 x7 x8 x9 h _ e19) (And.intro (show AKeep h h from (AHeap.sub_refl h)) (And.intro (F14_spec x2 x1 x3 x6 x7 x4 x5 x8 x9 h _ e17) (And.intro c15 (And.intro c13 (And.intro (g_ff c13) (And.intro (g_ff c13) (And.intro (g_ff l_f) (And.intro (F10_spec x1 x2 x3 x4 x5 x6 x7 x8 x9 h _ rfl) (And.intro (g_ff l_f) (And.intro (g_ff l_f) (And.intro (F9_spec h _ rfl) trivial))))))))))))))))))))))))))))))))))))))) (hr := by kernel_rfl)
                · intro hr
                  obtain rfl := Option.some.inj hr
                  exact pFun_sound good tab_ok (f := 4) (its := [.g, .g, (.c (.bool true) h), .g, .g, (.w .g), (.w (.c (.bool (F10 x1 x2 x3 x4 x5 x6 x7 x8 x9)) h)), (.w .g), .g, .g, (.w .g), (.w .g), (.p false), (.b false), .g, .g, .g, .g, .g, .g, .g, .g, .g, .g, .g, .g, .g, .g, .g, .g, .g, .g, .g, .g, .g, .g, .g, .g, .g, .g, .g, .g, .g, .g, .g, .g, .g, .g, .g, .g, .g, .g, .g, (.c (.int .u64 y17) h), (.c (.int .u64 y19) h), .g, (.b false), .g, .g, (.c (.int .i64 (F13 x3)) h), .g, (.b false), .g, .g, .g, .g, .g, .g, .g, (.c (.bool (F10 (IntKind.i64.wrap ((IntKind.i64.wrap (x10)) * x1)) (IntKind.i64.wrap ((IntKind.i64.wrap (x10)) * x2)) (IntKind.i64.wrap ((IntKind.i64.wrap (x10)) * x3)) x4 x5 x6 x7 x8 x9)) h), .g, (.b false), .g, (.c (.tuple #[.int .i64 y26.1, .int .i64 y26.2.1, .bool y26.2.2]) h), .g, .g, .g, .g, .g, .g, .g, .g, (.c (.tuple #[.int .i64 y28.1, .int .i64 y28.2.1, .bool y28.2.2]) h), .g, .g, .g, .g, .g, .g, .g, .g, .g, .g, .g, (.w .g), (.w .g), (.w .g), (.p true), .g, (.w .g), (.w .g), (.w .g), (.p true), .g, .n, .n, .n, .n, .n, (.p false), .g]) (args := [.agg #[.int .i64 x1, .int .i64 x2, .int .i64 x3, .int .i64 x4, .int .i64 x5, .int .i64 x6, .int .i64 x7, .int .i64 x8, .int .i64 x9], .int .i8 x10]) (h := h) (h' := h) (v := .bool false) (hC := (And.intro c32 (And.intro (g_ft c32) (And.intro (g_ft c32) (And.intro (g_ft c32) (And.intro (g_ft c32) (And.intro (g_ft c32) (And.intro c31 (And.intro (g_tt c31) (And.intro (g_tt c31) (And.intro (g_tt c31) (And.intro c30 (And.intro (g_tt c30) (And.intro (g_tt c30) (And.intro (g_tt c30) (And.intro (F15_spec (IntKind.i64.wrap ((IntKind.i64.wrap (x10)) * x1)) (IntKind.i64.wrap ((IntKind.i64.wrap (x10)) * x2)) (IntKind.i64.wrap ((IntKind.i64.wrap (x10)) * x3)) x4 x5 x6 x7 x8 x9 h _ e28) (And.intro (F15_spec x1 x2 x3 x4 x5 x6 x7 x8 x9 h _ e26) (And.intro c25 (And.intro (F10_spec (IntKind.i64.wrap ((IntKind.i64.wrap (x10)) * x1)) (IntKind.i64.wrap ((IntKind.i64.wrap (x10)) * x2)) (IntKind.i64.wrap ((IntKind.i64.wrap (x10)) * x3)) x4 x5 x6 x7 x8 x9 h _ rfl) (And.intro c23 (And.intro (F13_spec x3 h _ rfl) (And.intro c21 (And.intro (show AKeep h h from (AHeap.sub_refl h)) (And.intro (F14_spec x1 x2 x3 x4 x5 x6 x7 x8 x9 h _ e19) (And.intro (show AKeep h h from (AHeap.sub_refl h)) (And.intro (F14_spec x2 x1 x3 x6 x7 x4 x5 x8 x9 h _ e17) (And.intro c15 (And.intro c13 (And.intro (g_ff c13) (And.intro (g_ff c13) (And.intro (g_ff l_f) (And.intro (F10_spec x1 x2 x3 x4 x5 x6 x7 x8 x9 h _ rfl) (And.intro (g_ff l_f) (And.intro (g_ff l_f) (And.intro (F9_spec h _ rfl) trivial))))))))))))))))))))))))))))))))))) (hr := by kernel_rfl)
              · intro hr
                obtain rfl := Option.some.inj hr
                exact pFun_sound good tab_ok (f := 4) (its := [.g, .g, (.c (.bool true) h), .g, .g, (.w .g), (.w (.c (.bool (F10 x1 x2 x3 x4 x5 x6 x7 x8 x9)) h)), (.w .g), .g, .g, (.w .g), (.w .g), (.p false), (.b false), .g, .g, .g, .g, .g, .g, .g, .g, .g, .g, .g, .g, .g, .g, .g, .g, .g, .g, .g, .g, .g, .g, .g, .g, .g, .g, .g, .g, .g, .g, .g, .g, .g, .g, .g, .g, .g, .g, .g, (.c (.int .u64 y17) h), (.c (.int .u64 y19) h), .g, (.b false), .g, .g, (.c (.int .i64 (F13 x3)) h), .g, (.b false), .g, .g, .g, .g, .g, .g, .g, (.c (.bool (F10 (IntKind.i64.wrap ((IntKind.i64.wrap (x10)) * x1)) (IntKind.i64.wrap ((IntKind.i64.wrap (x10)) * x2)) (IntKind.i64.wrap ((IntKind.i64.wrap (x10)) * x3)) x4 x5 x6 x7 x8 x9)) h), .g, (.b false), .g, (.c (.tuple #[.int .i64 y26.1, .int .i64 y26.2.1, .bool y26.2.2]) h), .g, .g, .g, .g, .g, .g, .g, .g, (.c (.tuple #[.int .i64 y28.1, .int .i64 y28.2.1, .bool y28.2.2]) h), .g, .g, .g, .g, .g, .g, .g, .g, .g, .g, .g, (.w .g), (.w .g), (.w .g), (.p true), .g, .n, .n, .n, (.p false), .g, .n, .n, .n, .n, .n, .g, .g]) (args := [.agg #[.int .i64 x1, .int .i64 x2, .int .i64 x3, .int .i64 x4, .int .i64 x5, .int .i64 x6, .int .i64 x7, .int .i64 x8, .int .i64 x9], .int .i8 x10]) (h := h) (h' := h) (v := .bool false) (hC := (And.intro (g_ft l_f) (And.intro (g_ft l_f) (And.intro (g_ft l_f) (And.intro (g_ft l_f) (And.intro (g_ft l_f) (And.intro c31 (And.intro (g_ft c31) (And.intro (g_ft c31) (And.intro (g_ft c31) (And.intro c30 (And.intro (g_tt c30) (And.intro (g_tt c30) (And.intro (g_tt c30) (And.intro (F15_spec (IntKind.i64.wrap ((IntKind.i64.wrap (x10)) * x1)) (IntKind.i64.wrap ((IntKind.i64.wrap (x10)) * x2)) (IntKind.i64.wrap ((IntKind.i64.wrap (x10)) * x3)) x4 x5 x6 x7 x8 x9 h _ e28) (And.intro (F15_spec x1 x2 x3 x4 x5 x6 x7 x8 x9 h _ e26) (And.intro c25 (And.intro (F10_spec (IntKind.i64.wrap ((IntKind.i64.wrap (x10)) * x1)) (IntKind.i64.wrap ((IntKind.i64.wrap (x10)) * x2)) (IntKind.i64.wrap ((IntKind.i64.wrap (x10)) * x3)) x4 x5 x6 x7 x8 x9 h _ rfl) (And.intro c23 (And.intro (F13_spec x3 h _ rfl) (And.intro c21 (And.intro (show AKeep h h from (AHeap.sub_refl h)) (And.intro (F14_spec x1 x2 x3 x4 x5 x6 x7 x8 x9 h _ e19) (And.intro (show AKeep h h from (AHeap.sub_refl h)) (And.intro (F14_spec x2 x1 x3 x6 x7 x4 x5 x8 x9 h _ e17) (And.intro c15 (And.intro c13 (And.intro (g_ff c13) (And.intro (g_ff c13) (And.intro (g_ff l_f) (And.intro (F10_spec x1 x2 x3 x4 x5 x6 x7 x8 x9 h _ rfl) (And.intro (g_ff l_f) (And.intro (g_ff l_f) (And.intro (F9_spec h _ rfl) trivial)))))))))))))))))))))))))))))))))) (hr := by kernel_rfl)
            · intro hr
              obtain rfl := Option.some.inj hr
              exact pFun_sound good tab_ok (f := 4) (its := [.g, .g, (.c (.bool true) h), .g, .g, (.w .g), (.w (.c (.bool (F10 x1 x2 x3 x4 x5 x6 x7 x8 x9)) h)), (.w .g), .g, .g, (.w .g), (.w .g), (.p false), (.b false), .g, .g, .g, .g, .g, .g, .g, .g, .g, .g, .g, .g, .g, .g, .g, .g, .g, .g, .g, .g, .g, .g, .g, .g, .g, .g, .g, .g, .g, .g, .g, .g, .g, .g, .g, .g, .g, .g, .g, (.c (.int .u64 y17) h), (.c (.int .u64 y19) h), .g, (.b false), .g, .g, (.c (.int .i64 (F13 x3)) h), .g, (.b false), .g, .g, .g, .g, .g, .g, .g, (.c (.bool (F10 (IntKind.i64.wrap ((IntKind.i64.wrap (x10)) * x1)) (IntKind.i64.wrap ((IntKind.i64.wrap (x10)) * x2)) (IntKind.i64.wrap ((IntKind.i64.wrap (x10)) * x3)) x4 x5 x6 x7 x8 x9)) h), .g, (.b false), .g, (.c (.tuple #[.int .i64 y26.1, .int .i64 y26.2.1, .bool y26.2.2]) h), .g, .g, .g, .g, .g, .g, .g, .g, (.c (.tuple #[.int .i64 y28.1, .int .i64 y28.2.1, .bool y28.2.2]) h), .g, .g, .g, .g, .g, .g, .g, .g, .g, .g, .g, .n, .n, .n, (.p false), .g, .n, .n, .n, .g, .g, .n, .n, .n, .n, .n, .g, .g]) (args := [.agg #[.int .i64 x1, .int .i64 x2, .int .i64 x3, .int .i64 x4, .int .i64 x5, .int .i64 x6, .int .i64 x7, .int .i64 x8, .int .i64 x9], .int .i8 x10]) (h := h) (h' := h) (v := .bool false) (hC := (And.intro (g_ft l_f) (And.intro (g_ft l_f) (And.intro (g_ft l_f) (And.intro (g_ft l_f) (And.intro (g_ft l_f) (And.intro (g_ft l_f) (And.intro (g_ft l_f) (And.intro (g_ft l_f) (And.intro c30 (And.intro (g_ft c30) (And.intro (g_ft c30) (And.intro (g_ft c30) (And.intro (F15_spec (IntKind.i64.wrap ((IntKind.i64.wrap (x10)) * x1)) (IntKind.i64.wrap ((IntKind.i64.wrap (x10)) * x2)) (IntKind.i64.wrap ((IntKind.i64.wrap (x10)) * x3)) x4 x5 x6 x7 x8 x9 h _ e28) (And.intro (F15_spec x1 x2 x3 x4 x5 x6 x7 x8 x9 h _ e26) (And.intro c25 (And.intro (F10_spec (IntKind.i64.wrap ((IntKind.i64.wrap (x10)) * x1)) (IntKind.i64.wrap ((IntKind.i64.wrap (x10)) * x2)) (IntKind.i64.wrap ((IntKind.i64.wrap (x10)) * x3)) x4 x5 x6 x7 x8 x9 h _ rfl) (And.intro c23 (And.intro (F13_spec x3 h _ rfl) (And.intro c21 (And.intro (show AKeep h h from (AHeap.sub_refl h)) (And.intro (F14_spec x1 x2 x3 x4 x5 x6 x7 x8 x9 h _ e19) (And.intro (show AKeep h h from (AHeap.sub_refl h)) (And.intro (F14_spec x2 x1 x3 x6 x7 x4 x5 x8 x9 h _ e17) (And.intro c15 (And.intro c13 (And.intro (g_ff c13) (And.intro (g_ff c13) (And.intro (g_ff l_f) (And.intro (F10_spec x1 x2 x3 x4 x5 x6 x7 x8 x9 h _ rfl) (And.intro (g_ff l_f) (And.intro (g_ff l_f) (And.intro (F9_spec h _ rfl) trivial))))))))))))))))))))))))))))))))) (hr := by kernel_rfl)
set_option maxRecDepth 100000 in
theorem F4_law (H : ∀ (x1 : Int) (x2 : Int) (x3 : Int) (x4 : Int) (x5 : Int) (x6 : Int) (x7 : Int) (x8 : Int) (x9 : Int) (x10 : Int), (Lit.int .i64 x1).wf = true → (Lit.int .i64 x2).wf = true → (Lit.int .i64 x3).wf = true → (Lit.int .i64 x4).wf = true → (Lit.int .i64 x5).wf = true → (Lit.int .i64 x6).wf = true → (Lit.int .i64 x7).wf = true → (Lit.int .i64 x8).wf = true → (Lit.int .i64 x9).wf = true → (Lit.int .i8 x10).wf = true → F4 x1 x2 x3 x4 x5 x6 x7 x8 x9 x10 = some true) : Law Try.prog 4 10 [25, 36] := by
  intro s us hwf hro hT0
  obtain ⟨u0, vs0, rfl, t0, hT1⟩ := wts_cons hT0
  obtain ⟨cs0, rfl, k0⟩ := wtv_aggS 3 (ks := [.int .i64, .int .i64, .int .i64, .int .i64, .int .i64, .int .i64, .int .i64, .int .i64, .int .i64]) (by kernel_rfl) (by kernel_rfl) t0
  obtain ⟨x1, r_x1, rfl, w_x1, k0_0⟩ := sq_int k0
  obtain ⟨x2, r_x2, rfl, w_x2, k0_1⟩ := sq_int k0_0
  obtain ⟨x3, r_x3, rfl, w_x3, k0_2⟩ := sq_int k0_1
  obtain ⟨x4, r_x4, rfl, w_x4, k0_3⟩ := sq_int k0_2
  obtain ⟨x5, r_x5, rfl, w_x5, k0_4⟩ := sq_int k0_3
  obtain ⟨x6, r_x6, rfl, w_x6, k0_5⟩ := sq_int k0_4
  obtain ⟨x7, r_x7, rfl, w_x7, k0_6⟩ := sq_int k0_5
  obtain ⟨x8, r_x8, rfl, w_x8, k0_7⟩ := sq_int k0_6
  obtain ⟨x9, r_x9, rfl, w_x9, k0_8⟩ := sq_int k0_7
  obtain rfl := sq_nil k0_8
  obtain ⟨u1, vs1, rfl, t1, hT2⟩ := wts_cons hT1
  have k1 := wtv_oneS 1 (ks := [.int .i8]) (by kernel_rfl) (by kernel_rfl) t1
  obtain ⟨x10, r_x10, e_x10, w_x10, k1_0⟩ := sq_int k1
  obtain ⟨rfl, rfl⟩ := List.cons.inj e_x10
  have k1_0' := sq_nil k1_0
  obtain rfl := wts_nil hT2
  refine (F4_spec x1 x2 x3 x4 x5 x6 x7 x8 x9 x10 s  _ (H x1 x2 x3 x4 x5 x6 x7 x8 x9 x10 w_x1 w_x2 w_x3 w_x4 w_x5 w_x6 w_x7 w_x8 w_x9 w_x10)).mono ?_
  rintro v h' ⟨rfl, rfl⟩
  rfl
end
end Go.Proofs.Ytdbkalephkgniaa.Abs
