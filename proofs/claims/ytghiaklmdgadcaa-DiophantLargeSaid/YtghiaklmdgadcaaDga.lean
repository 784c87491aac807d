/-
  Contracts, written by program: for each function what its call yields, and that it yields it.
-/
import Derived.Test.YtghiaklmdgadcaaVw
import Derived.Test.YtghiaklmdgadcaaChecked
namespace Go.Proofs.Ytghiaklmdgadcaa.Abs
open Go
set_option linter.unusedVariables false
set_option linter.unusedSimpArgs false

theorem good : Good Try.prog := good_of Try.checked.mixed (by kernel_rfl)
noncomputable section
def tabC : List FEnt := [
  { f := 8, L := [1], D := [] },
  { f := 10, L := [1, 5, 7, 8], D := [(7, [(0, 2), (1, 2), (2, 2), (3, 2), (4, 2), (5, 2), (6, 2), (7, 2), (8, 2), (9, 2), (10, 2), (11, 2), (12, 2), (13, 2), (14, 2)]), (17, [(0, 2), (1, 2), (2, 2), (3, 2), (4, 2), (5, 2), (6, 2), (7, 2), (8, 2), (9, 2), (10, 2), (11, 2), (12, 2), (13, 2), (14, 2), (15, 2), (16, 2)])] },
  { f := 11, L := [1, 2, 10], D := [(10, [(0, 2), (1, 2), (3, 2), (5, 2), (7, 2), (10, 2), (4, 3), (6, 2), (2, 0), (8, 0), (9, 2), (11, 0), (12, 2)]), (11, [(0, 2), (1, 2), (2, 2), (3, 2), (4, 2), (5, 2), (6, 2), (7, 2), (8, 2), (9, 2), (10, 2), (11, 2), (12, 2), (13, 2), (14, 2), (15, 2), (16, 2), (17, 2), (18, 2), (19, 0)])] },
  { f := 13, L := [1], D := [] },
  { f := 23, L := [1, 2], D := [] },
  { f := 24, L := [2, 3, 4, 6, 7], D := [] },
  { f := 25, L := [], D := [] },
  { f := 26, L := [], D := [] },
  { f := 28, L := [2, 3, 4], D := [] },
  { f := 29, L := [5, 6, 7], D := [(3, [(0, 2), (1, 2), (2, 2), (3, 2), (4, 2), (6, 2), (8, 2), (10, 2), (7, 3), (9, 2), (5, 0), (11, 0), (12, 2), (13, 0)]), (5, [(0, 2), (1, 2), (2, 2), (3, 2), (4, 2), (5, 2), (7, 2), (8, 2), (11, 2), (12, 2), (9, 3), (10, 2), (6, 0), (13, 0), (14, 2), (15, 0)])] },
  { f := 30, L := [], D := [] },
  { f := 35, L := [], D := [] },
  { f := 36, L := [], D := [] }]

theorem tabC_ok : tabOk Try.prog tabC = true := by kernel_rfl
theorem F8_run : rIs (rCall 2000 Try.prog tabC 40 8 [] AHeap.none) true = true := by kernel_rfl
theorem F8_spec0 (h : AHeap) : ACalls Try.prog 8 [] h (fun v' h'' => v' = (.bool true : Value) ∧ h'' = h) := acalls_run good 2000 40 tabC tabC_ok F8_run rfl h
def F8 : Unit := ()
theorem F8_spec (h : AHeap) (r : Unit) (_ : F8 = r) : ACalls Try.prog 8 [] h (fun v' h'' => v' = (.bool true : Value) ∧ h'' = h) := F8_spec0 h
def tab : List FEnt := [
  { f := 7, L := [1, 6, 11], D := [] },
  { f := 9, L := [1], D := [] },
  { f := 10, L := [1, 5, 7, 8], D := [(7, [(0, 2), (1, 2), (2, 2), (3, 2), (4, 2), (5, 2), (6, 2), (7, 2), (8, 2), (9, 2), (10, 2), (11, 2), (12, 2), (13, 2), (14, 2)]), (17, [(0, 2), (1, 2), (2, 2), (3, 2), (4, 2), (5, 2), (6, 2), (7, 2), (8, 2), (9, 2), (10, 2), (11, 2), (12, 2), (13, 2), (14, 2), (15, 2), (16, 2)])] },
  { f := 11, L := [1, 2, 10], D := [(10, [(0, 2), (1, 2), (3, 2), (5, 2), (7, 2), (10, 2), (4, 3), (6, 2), (2, 1), (8, 1), (9, 2), (11, 1), (12, 2)]), (11, [(0, 2), (1, 2), (2, 2), (3, 2), (4, 2), (5, 2), (6, 2), (7, 2), (8, 2), (9, 2), (10, 2), (11, 2), (12, 2), (13, 2), (14, 2), (15, 2), (16, 2), (17, 2), (18, 2), (19, 0)])] },
  { f := 12, L := [1, 2, 7, 11, 12], D := [] },
  { f := 13, L := [1], D := [] },
  { f := 14, L := [1, 6, 8], D := [] },
  { f := 15, L := [2, 3, 5, 11], D := [] },
  { f := 21, L := [3], D := [] },
  { f := 22, L := [], D := [] },
  { f := 23, L := [1, 2], D := [] },
  { f := 24, L := [2, 3, 4, 6, 7], D := [] },
  { f := 25, L := [], D := [] },
  { f := 26, L := [], D := [] },
  { f := 27, L := [1, 3], D := [] },
  { f := 28, L := [2, 3, 4], D := [] },
  { f := 29, L := [5, 6, 7], D := [(3, [(0, 2), (1, 2), (2, 2), (3, 2), (4, 2), (6, 2), (8, 2), (10, 2), (7, 3), (9, 2), (5, 1), (11, 1), (12, 2), (13, 0)]), (5, [(0, 2), (1, 2), (2, 2), (3, 2), (4, 2), (5, 2), (7, 2), (8, 2), (11, 2), (12, 2), (9, 3), (10, 2), (6, 1), (13, 1), (14, 2), (15, 0)])] },
  { f := 30, L := [], D := [] },
  { f := 31, L := [3], D := [] },
  { f := 35, L := [], D := [] },
  { f := 36, L := [], D := [] },
  { f := 37, L := [], D := [] },
  { f := 38, L := [], D := [] },
  { f := 39, L := [], D := [] }]

theorem tab_ok : tabOk Try.prog tab = true := by kernel_rfl
/-! 22 jacquard/jacquardref24.within -/
def F22 (x1 : Int) (x2 : Int) : Bool :=
  (bif decide (x1 ≥ (IntKind.i64.wrap (0 - x2))) then
   (decide (x1 ≤ x2))
  else
   false)
set_option maxRecDepth 100000 in
theorem F22_spec (x1 : Int) (x2 : Int) (h : AHeap)  (r : Bool) : F22 x1 x2 = r → ACalls Try.prog 22 [.int .i64 x1, .int .i64 x2] h (fun v' h'' => v' = (.bool r : Value) ∧ h'' = h) := by
  unfold F22
  refine dec_bif (fun c3 => ?_) (fun c3 => ?_)
  · intro hr
    subst hr
    exact pFun_sound good tab_ok (f := 22) (its := [.g, .g, .g, .g, .g, .g, (.w .g), (.w .g), (.w .g), (.p true), .g]) (args := [.int .i64 x1, .int .i64 x2]) (h := h) (h' := h) (v := .bool (decide (x1 ≤ x2))) (hC := (And.intro c3 (And.intro (g_tt c3) (And.intro (g_tt c3) (And.intro (g_tt c3) trivial))))) (hr := by kernel_rfl)
  · intro hr
    subst hr
    exact pFun_sound good tab_ok (f := 22) (its := [.g, .g, .g, .g, .g, .g, .n, .n, .n, (.p false), .g]) (args := [.int .i64 x1, .int .i64 x2]) (h := h) (h' := h) (v := .bool false) (hC := (And.intro c3 (And.intro (g_ft c3) (And.intro (g_ft c3) (And.intro (g_ft c3) trivial))))) (hr := by kernel_rfl)
/-! 9 jacquard/jacquardref24.Valid -/
def F9 (x1 : Int) (x2 : Int) (x3 : Int) (x4 : Int) (x5 : Int) (x6 : Int) (x7 : Int) (x8 : Int) (x9 : Int) : Bool :=
  (bif (F22 x1 2147483648) then
   (bif (F22 x2 2147483648) then
    (bif (F22 x3 2305843009213693952) then
     (bif (F22 x4 2147483648) then
      (bif (F22 x5 2147483648) then
       (bif (F22 x6 2147483648) then
        (bif (F22 x7 2147483648) then
         (bif (F22 x8 2147483648) then
          (F22 x9 2147483648)
         else
          false)
        else
         false)
       else
        false)
      else
       false)
     else
      false)
    else
     false)
   else
    false)
  else
   false)
set_option maxRecDepth 100000 in
theorem F9_spec (x1 : Int) (x2 : Int) (x3 : Int) (x4 : Int) (x5 : Int) (x6 : Int) (x7 : Int) (x8 : Int) (x9 : Int) (h : AHeap)  (r : Bool) : F9 x1 x2 x3 x4 x5 x6 x7 x8 x9 = r → ACalls Try.prog 9 [.agg #[.int .i64 x1, .int .i64 x2, .int .i64 x3, .int .i64 x4, .int .i64 x5, .int .i64 x6, .int .i64 x7, .int .i64 x8, .int .i64 x9]] h (fun v' h'' => v' = (.bool r : Value) ∧ h'' = h) := by
  unfold F9
  refine dec_bif (fun c11 => ?_) (fun c11 => ?_)
  · refine dec_bif (fun c13 => ?_) (fun c13 => ?_)
    · refine dec_bif (fun c15 => ?_) (fun c15 => ?_)
      · refine dec_bif (fun c17 => ?_) (fun c17 => ?_)
        · refine dec_bif (fun c19 => ?_) (fun c19 => ?_)
          · refine dec_bif (fun c21 => ?_) (fun c21 => ?_)
            · refine dec_bif (fun c23 => ?_) (fun c23 => ?_)
              · refine dec_bif (fun c25 => ?_) (fun c25 => ?_)
                · intro hr
                  subst hr
                  exact pFun_sound good tab_ok (f := 9) (its := [.g, .g, .g, .g, (.c (.bool (F22 x1 2147483648)) h), .g, (.w .g), (.w .g), (.w (.c (.bool (F22 x2 2147483648)) h)), (.p true), .g, (.w .g), (.w .g), (.w (.c (.bool (F22 x3 2305843009213693952)) h)), (.p true), .g, (.w .g), (.w .g), (.w .g), (.w (.c (.bool (F22 x4 2147483648)) h)), (.p true), .g, (.w .g), (.w .g), (.w .g), (.w (.c (.bool (F22 x5 2147483648)) h)), (.p true), .g, (.w .g), (.w .g), (.w .g), (.w (.c (.bool (F22 x6 2147483648)) h)), (.p true), .g, (.w .g), (.w .g), (.w .g), (.w (.c (.bool (F22 x7 2147483648)) h)), (.p true), .g, (.w .g), (.w .g), (.w .g), (.w (.c (.bool (F22 x8 2147483648)) h)), (.p true), .g, (.w .g), (.w .g), (.w .g), (.w (.c (.bool (F22 x9 2147483648)) h)), (.p true), .g]) (args := [.agg #[.int .i64 x1, .int .i64 x2, .int .i64 x3, .int .i64 x4, .int .i64 x5, .int .i64 x6, .int .i64 x7, .int .i64 x8, .int .i64 x9]]) (h := h) (h' := h) (v := .bool (F22 x9 2147483648)) (hC := (And.intro c25 (And.intro (F22_spec x9 2147483648 h _ rfl) (And.intro (g_tt c25) (And.intro (g_tt c25) (And.intro (g_tt c25) (And.intro (g_tt c25) (And.intro c23 (And.intro (F22_spec x8 2147483648 h _ rfl) (And.intro (g_tt c23) (And.intro (g_tt c23) (And.intro (g_tt c23) (And.intro (g_tt c23) (And.intro c21 (And.intro (F22_spec x7 2147483648 h _ rfl) (And.intro (g_tt c21) (And.intro (g_tt c21) (And.intro (g_tt c21) (And.intro (g_tt c21) (And.intro c19 (And.intro (F22_spec x6 2147483648 h _ rfl) (And.intro (g_tt c19) (And.intro (g_tt c19) (And.intro (g_tt c19) (And.intro (g_tt c19) (And.intro c17 (And.intro (F22_spec x5 2147483648 h _ rfl) (And.intro (g_tt c17) (And.intro (g_tt c17) (And.intro (g_tt c17) (And.intro (g_tt c17) (And.intro c15 (And.intro (F22_spec x4 2147483648 h _ rfl) (And.intro (g_tt c15) (And.intro (g_tt c15) (And.intro (g_tt c15) (And.intro (g_tt c15) (And.intro c13 (And.intro (F22_spec x3 2305843009213693952 h _ rfl) (And.intro (g_tt c13) (And.intro (g_tt c13) (And.intro (g_tt c13) (And.intro c11 (And.intro (F22_spec x2 2147483648 h _ rfl) (And.intro (g_tt c11) (And.intro (g_tt c11) (And.intro (g_tt c11) (And.intro (F22_spec x1 2147483648 h _ rfl) trivial)))))))))))))))))))))))))))))))))))))))))))))))) (hr := by kernel_rfl)
                · intro hr
                  subst hr
                  exact pFun_sound good tab_ok (f := 9) (its := [.g, .g, .g, .g, (.c (.bool (F22 x1 2147483648)) h), .g, (.w .g), (.w .g), (.w (.c (.bool (F22 x2 2147483648)) h)), (.p true), .g, (.w .g), (.w .g), (.w (.c (.bool (F22 x3 2305843009213693952)) h)), (.p true), .g, (.w .g), (.w .g), (.w .g), (.w (.c (.bool (F22 x4 2147483648)) h)), (.p true), .g, (.w .g), (.w .g), (.w .g), (.w (.c (.bool (F22 x5 2147483648)) h)), (.p true), .g, (.w .g), (.w .g), (.w .g), (.w (.c (.bool (F22 x6 2147483648)) h)), (.p true), .g, (.w .g), (.w .g), (.w .g), (.w (.c (.bool (F22 x7 2147483648)) h)), (.p true), .g, (.w .g), (.w .g), (.w .g), (.w (.c (.bool (F22 x8 2147483648)) h)), (.p true), .g, .n, .n, .n, .n, (.p false), .g]) (args := [.agg #[.int .i64 x1, .int .i64 x2, .int .i64 x3, .int .i64 x4, .int .i64 x5, .int .i64 x6, .int .i64 x7, .int .i64 x8, .int .i64 x9]]) (h := h) (h' := h) (v := .bool false) (hC := (And.intro c25 (And.intro (g_ft c25) (And.intro (g_ft c25) (And.intro (g_ft c25) (And.intro (g_ft c25) (And.intro c23 (And.intro (F22_spec x8 2147483648 h _ rfl) (And.intro (g_tt c23) (And.intro (g_tt c23) (And.intro (g_tt c23) (And.intro (g_tt c23) (And.intro c21 (And.intro (F22_spec x7 2147483648 h _ rfl) (And.intro (g_tt c21) (And.intro (g_tt c21) (And.intro (g_tt c21) (And.intro (g_tt c21) (And.intro c19 (And.intro (F22_spec x6 2147483648 h _ rfl) (And.intro (g_tt c19) (And.intro (g_tt c19) (And.intro (g_tt c19) (And.intro (g_tt c19) (And.intro c17 (And.intro (F22_spec x5 2147483648 h _ rfl) (And.intro (g_tt c17) (And.intro (g_tt c17) (And.intro (g_tt c17) (And.intro (g_tt c17) (And.intro c15 (And.intro (F22_spec x4 2147483648 h _ rfl) (And.intro (g_tt c15) (And.intro (g_tt c15) (And.intro (g_tt c15) (And.intro (g_tt c15) (And.intro c13 (And.intro (F22_spec x3 2305843009213693952 h _ rfl) (And.intro (g_tt c13) (And.intro (g_tt c13) (And.intro (g_tt c13) (And.intro c11 (And.intro (F22_spec x2 2147483648 h _ rfl) (And.intro (g_tt c11) (And.intro (g_tt c11) (And.intro (g_tt c11) (And.intro (F22_spec x1 2147483648 h _ rfl) trivial))))))))))))))))))))))))))))))))))))))))))))))) (hr := by kernel_rfl)
              · intro hr
                subst hr
                exact pFun_sound good tab_ok (f := 9) (its := [.g, .g, .g, .g, (.c (.bool (F22 x1 2147483648)) h), .g, (.w .g), (.w .g), (.w (.c (.bool (F22 x2 2147483648)) h)), (.p true), .g, (.w .g), (.w .g), (.w (.c (.bool (F22 x3 2305843009213693952)) h)), (.p true), .g, (.w .g), (.w .g), (.w .g), (.w (.c (.bool (F22 x4 2147483648)) h)), (.p true), .g, (.w .g), (.w .g), (.w .g), (.w (.c (.bool (F22 x5 2147483648)) h)), (.p true), .g, (.w .g), (.w .g), (.w .g), (.w (.c (.bool (F22 x6 2147483648)) h)), (.p true), .g, (.w .g), (.w .g), (.w .g), (.w (.c (.bool (F22 x7 2147483648)) h)), (.p true), .g, .n, .n, .n, .n, (.p false), .g, .n, .n, .n, .n, .g, .g]) (args := [.agg #[.int .i64 x1, .int .i64 x2, .int .i64 x3, .int .i64 x4, .int .i64 x5, .int .i64 x6, .int .i64 x7, .int .i64 x8, .int .i64 x9]]) (h := h) (h' := h) (v := .bool false) (hC := (And.intro (g_ft l_f) (And.intro (g_ft l_f) (And.intro (g_ft l_f) (And.intro (g_ft l_f) (And.intro c23 (And.intro (g_ft c23) (And.intro (g_ft c23) (And.intro (g_ft c23) (And.intro (g_ft c23) (And.intro c21 (And.intro (F22_spec x7 2147483648 h _ rfl) (And.intro (g_tt c21) (And.intro (g_tt c21) (And.intro (g_tt c21) (And.intro (g_tt c21) (And.intro c19 (And.intro (F22_spec x6 2147483648 h _ rfl) (And.intro (g_tt c19) (And.intro (g_tt c19) (And.intro (g_tt c19) (And.intro (g_tt c19) (And.intro c17 (And.intro (F22_spec x5 2147483648 h _ rfl) (And.intro (g_tt c17) (And.intro (g_tt c17) (And.intro (g_tt c17) (And.intro (g_tt c17) (And.intro c15 (And.intro (F22_spec x4 2147483648 h _ rfl) (And.intro (g_tt c15) (And.intro (g_tt c15) (And.intro (g_tt c15) (And.intro (g_tt c15) (And.intro c13 (And.intro (F22_spec x3 2305843009213693952 h _ rfl) (And.intro (g_tt c13) (And.intro (g_tt c13) (And.intro (g_tt c13) (And.intro c11 (And.intro (F22_spec x2 2147483648 h _ rfl) (And.intro (g_tt c11) (And.intro (g_tt c11) (And.intro (g_tt c11) (And.intro (F22_spec x1 2147483648 h _ rfl) trivial))))))))))))))))))))))))))))))))))))))))))))) (hr := by kernel_rfl)
            · intro hr
              subst hr
              exact pFun_sound good tab_ok (f := 9) (its := [.g, .g, .g, .g, (.c (.bool (F22 x1 2147483648)) h), .g, (.w .g), (.w .g), (.w (.c (.bool (F22 x2 2147483648)) h)), (.p true), .g, (.w .g), (.w .g), (.w (.c (.bool (F22 x3 2305843009213693952)) h)), (.p true), .g, (.w .g), (.w .g), (.w .g), (.w (.c (.bool (F22 x4 2147483648)) h)), (.p true), .g, (.w .g), (.w .g), (.w .g), (.w (.c (.bool (F22 x5 2147483648)) h)), (.p true), .g, (.w .g), (.w .g), (.w .g), (.w (.c (.bool (F22 x6 2147483648)) h)), (.p true), .g, .n, .n, .n, .n, (.p false), .g, .n, .n, .n, .n, .g, .g, .n, .n, .n, .n, .g, .g]) (args := [.agg #[.int .i64 x1, .int .i64 x2, .int .i64 x3, .int .i64 x4, .int .i64 x5, .int .i64 x6, .int .i64 x7, .int .i64 x8, .int .i64 x9]]) (h := h) (h' := h) (v := .bool false) (hC := (And.intro (g_ft l_f) (And.intro (g_ft l_f) (And.intro (g_ft l_f) (And.intro (g_ft l_f) (And.intro (g_ft l_f) (And.intro (g_ft l_f) (And.intro (g_ft l_f) (And.intro (g_ft l_f) (And.intro c21 (And.intro (g_ft c21) (And.intro (g_ft c21) (And.intro (g_ft c21) (And.intro (g_ft c21) (And.intro c19 (And.intro (F22_spec x6 2147483648 h _ rfl) (And.intro (g_tt c19) (And.intro (g_tt c19) (And.intro (g_tt c19) (And.intro (g_tt c19) (And.intro c17 (And.intro (F22_spec x5 2147483648 h _ rfl) (And.intro (g_tt c17) (And.intro (g_tt c17) (And.intro (g_tt c17) (And.intro (g_tt c17) (And.intro c15 (And.intro (F22_spec x4 2147483648 h _ rfl) (And.intro (g_tt c15) (And.intro (g_tt c15) (And.intro (g_tt c15) (And.intro (g_tt c15) (And.intro c13 (And.intro (F22_spec x3 2305843009213693952 h _ rfl) (And.intro (g_tt c13) (And.intro (g_tt c13) (And.intro (g_tt c13) (And.intro c11 (And.intro (F22_spec x2 2147483648 h _ rfl) (And.intro (g_tt c11) (And.intro (g_tt c11) (And.intro (g_tt c11) (And.intro (F22_spec x1 2147483648 h _ rfl) trivial))))))))))))))))))))))))))))))))))))))))))) (hr := by kernel_rfl)
          · intro hr
            subst hr
            exact pFun_sound good tab_ok (f := 9) (its := [.g, .g, .g, .g, (.c (.bool (F22 x1 2147483648)) h), .g, (.w .g), (.w .g), (.w (.c (.bool (F22 x2 2147483648)) h)), (.p true), .g, (.w .g), (.w .g), (.w (.c (.bool (F22 x3 2305843009213693952)) h)), (.p true), .g, (.w .g), (.w .g), (.w .g), (.w (.c (.bool (F22 x4 2147483648)) h)), (.p true), .g, (.w .g), (.w .g), (.w .g), (.w (.c (.bool (F22 x5 2147483648)) h)), (.p true), .g, .n, .n, .n, .n, (.p false), .g, .n, .n, .n, .n, .g, .g, .n, .n, .n, .n, .g, .g, .n, .n, .n, .n, .g, .g]) (args := [.agg #[.int .i64 x1, .int .i64 x2, .int .i64 x3, .int .i64 x4, .int .i64 x5, .int .i64 x6, .int .i64 x7, .int .i64 x8, .int .i64 x9]]) (h := h) (h' := h) (v := .bool false) (hC := (And.intro (g_ft l_f) (And.intro (g_ft l_f) (And.intro (g_ft l_f) (And.intro (g_ft l_f) (And.intro (g_ft l_f) (And.intro (g_ft l_f) (And.intro (g_ft l_f) (And.intro (g_ft l_f) (And.intro (g_ft l_f) (And.intro (g_ft l_f) (And.intro (g_ft l_f) (And.intro (g_ft l_f) (And.intro c19 (And.intro (g_ft c19) (And.intro (g_ft c19) (And.intro (g_ft c19) (And.intro (g_ft c19) (And.intro c17 (And.intro (F22_spec x5 2147483648 h _ rfl) (And.intro (g_tt c17) (And.intro (g_tt c17) (And.intro (g_tt c17) (And.intro (g_tt c17) (And.intro c15 (And.intro (F22_spec x4 2147483648 h _ rfl) (And.intro (g_tt c15) (And.intro (g_tt c15) (And.intro (g_tt c15) (And.intro (g_tt c15) (And.intro c13 (And.intro (F22_spec x3 2305843009213693952 h _ rfl) (And.intro (g_tt c13) (And.intro (g_tt c13) (And.intro (g_tt c13) (And.intro c11 (And.intro (F22_spec x2 2147483648 h _ rfl) (And.intro (g_tt c11) (And.intro (g_tt c11) (And.intro (g_tt c11) (And.intro (F22_spec x1 2147483648 h _ rfl) trivial))))))))))))))))))))))))))))))))))))))))) (hr := by kernel_rfl)
        · intro hr
          subst hr
          exact pFun_sound good tab_ok (f := 9) (its := [.g, .g, .g, .g, (.c (.bool (F22 x1 2147483648)) h), .g, (.w .g), (.w .g), (.w (.c (.bool (F22 x2 2147483648)) h)), (.p true), .g, (.w .g), (.w .g), (.w (.c (.bool (F22 x3 2305843009213693952)) h)), (.p true), .g, (.w .g), (.w .g), (.w .g), (.w (.c (.bool (F22 x4 2147483648)) h)), (.p true), .g, .n, .n, .n, .n, (.p false), .g, .n, .n, .n, .n, .g, .g, .n, .n, .n, .n, .g, .g, .n, .n, .n, .n, .g, .g, .n, .n, .n, .n, .g, .g]) (args := [.agg #[.int .i64 x1, .int .i64 x2, .int .i64 x3, .int .i64 x4, .int .i64 x5, .int .i64 x6, .int .i64 x7, .int .i64 x8, .int .i64 x9]]) (h := h) (h' := h) (v := .bool false) (hC := (And.intro (g_ft l_f) (And.intro (g_ft l_f) (And.intro (g_ft l_f) (And.intro (g_ft l_f) (And.intro (g_ft l_f) (And.intro (g_ft l_f) (And.intro (g_ft l_f) (And.intro (g_ft l_f) (And.intro (g_ft l_f) (And.intro (g_ft l_f) (And.intro (g_ft l_f) (And.intro (g_ft l_f) (And.intro (g_ft l_f) (And.intro (g_ft l_f) (And.intro (g_ft l_f) (And.intro (g_ft l_f) (And.intro c17 (And.intro (g_ft c17) (And.intro (g_ft c17) (And.intro (g_ft c17) (And.intro (g_ft c17) (And.intro c15 (And.intro (F22_spec x4 2147483648 h _ rfl) (And.intro (g_tt c15) (And.intro (g_tt c15) (And.intro (g_tt c15) (And.intro (g_tt c15) (And.intro c13 (And.intro (F22_spec x3 2305843009213693952 h _ rfl) (And.intro (g_tt c13) (And.intro (g_tt c13) (And.intro (g_tt c13) (And.intro c11 (And.intro (F22_spec x2 2147483648 h _ rfl) (And.intro (g_tt c11) (And.intro (g_tt c11) (And.intro (g_tt c11) (And.intro (F22_spec x1 2147483648 h _ rfl) trivial))))))))))))))))))))))))))))))))))))))) (hr := by kernel_rfl)
      · intro hr
        subst hr
        exact pFun_sound good tab_ok (f := 9) (its := [.g, .g, .g, .g, (.c (.bool (F22 x1 2147483648)) h), .g, (.w .g), (.w .g), (.w (.c (.bool (F22 x2 2147483648)) h)), (.p true), .g, (.w .g), (.w .g), (.w (.c (.bool (F22 x3 2305843009213693952)) h)), (.p true), .g, .n, .n, .n, .n, (.p false), .g, .n, .n, .n, .n, .g, .g, .n, .n, .n, .n, .g, .g, .n, .n, .n, .n, .g, .g, .n, .n, .n, .n, .g, .g, .n, .n, .n, .n, .g, .g]) (args := [.agg #[.int .i64 x1, .int .i64 x2, .int .i64 x3, .int .i64 x4, .int .i64 x5, .int .i64 x6, .int .i64 x7, .int .i64 x8, .int .i64 x9]]) (h := h) (h' := h) (v := .bool false) (hC := (And.intro (g_ft l_f) (And.intro (g_ft l_f) (And.intro (g_ft l_f) (And.intro (g_ft l_f) (And.intro (g_ft l_f) (And.intro (g_ft l_f) (And.intro (g_ft l_f) (And.intro (g_ft l_f) (And.intro (g_ft l_f) (And.intro (g_ft l_f) (And.intro (g_ft l_f) (And.intro (g_ft l_f) (And.intro (g_ft l_f) (And.intro (g_ft l_f) (And.intro (g_ft l_f) (And.intro (g_ft l_f) (And.intro (g_ft l_f) (And.intro (g_ft l_f) (And.intro (g_ft l_f) (And.intro (g_ft l_f) (And.intro c15 (And.intro (g_ft c15) (And.intro (g_ft c15) (And.intro (g_ft c15) (And.intro (g_ft c15) (And.intro c13 (And.intro (F22_spec x3 2305843009213693952 h _ rfl) (And.intro (g_tt c13) (And.intro (g_tt c13) (And.intro (g_tt c13) (And.intro c11 (And.intro (F22_spec x2 2147483648 h _ rfl) (And.intro (g_tt c11) (And.intro (g_tt c11) (And.intro (g_tt c11) (And.intro (F22_spec x1 2147483648 h _ rfl) trivial))))))))))))))))))))))))))))))))))))) (hr := by kernel_rfl)
    · intro hr
      subst hr
      exact pFun_sound good tab_ok (f := 9) (its := [.g, .g, .g, .g, (.c (.bool (F22 x1 2147483648)) h), .g, (.w .g), (.w .g), (.w (.c (.bool (F22 x2 2147483648)) h)), (.p true), .g, .n, .n, .n, (.p false), .g, .n, .n, .n, .n, .g, .g, .n, .n, .n, .n, .g, .g, .n, .n, .n, .n, .g, .g, .n, .n, .n, .n, .g, .g, .n, .n, .n, .n, .g, .g, .n, .n, .n, .n, .g, .g]) (args := [.agg #[.int .i64 x1, .int .i64 x2, .int .i64 x3, .int .i64 x4, .int .i64 x5, .int .i64 x6, .int .i64 x7, .int .i64 x8, .int .i64 x9]]) (h := h) (h' := h) (v := .bool false) (hC := (And.intro (g_ft l_f) (And.intro (g_ft l_f) (And.intro (g_ft l_f) (And.intro (g_ft l_f) (And.intro (g_ft l_f) (And.intro (g_ft l_f) (And.intro (g_ft l_f) (And.intro (g_ft l_f) (And.intro (g_ft l_f) (And.intro (g_ft l_f) (And.intro (g_ft l_f) (And.intro (g_ft l_f) (And.intro (g_ft l_f) (And.intro (g_ft l_f) (And.intro (g_ft l_f) (And.intro (g_ft l_f) (And.intro (g_ft l_f) (And.intro (g_ft l_f) (And.intro (g_ft l_f) (And.intro (g_ft l_f) (And.intro (g_ft l_f) (And.intro (g_ft l_f) (And.intro (g_ft l_f) (And.intro (g_ft l_f) (And.intro c13 (And.intro (g_ft c13) (And.intro (g_ft c13) (And.intro (g_ft c13) (And.intro c11 (And.intro (F22_spec x2 2147483648 h _ rfl) (And.intro (g_tt c11) (And.intro (g_tt c11) (And.intro (g_tt c11) (And.intro (F22_spec x1 2147483648 h _ rfl) trivial))))))))))))))))))))))))))))))))))) (hr := by kernel_rfl)
  · intro hr
    subst hr
    exact pFun_sound good tab_ok (f := 9) (its := [.g, .g, .g, .g, (.c (.bool (F22 x1 2147483648)) h), .g, .n, .n, .n, (.p false), .g, .n, .n, .n, .g, .g, .n, .n, .n, .n, .g, .g, .n, .n, .n, .n, .g, .g, .n, .n, .n, .n, .g, .g, .n, .n, .n, .n, .g, .g, .n, .n, .n, .n, .g, .g, .n, .n, .n, .n, .g, .g]) (args := [.agg #[.int .i64 x1, .int .i64 x2, .int .i64 x3, .int .i64 x4, .int .i64 x5, .int .i64 x6, .int .i64 x7, .int .i64 x8, .int .i64 x9]]) (h := h) (h' := h) (v := .bool false) (hC := (And.intro (g_ft l_f) (And.intro (g_ft l_f) (And.intro (g_ft l_f) (And.intro (g_ft l_f) (And.intro (g_ft l_f) (And.intro (g_ft l_f) (And.intro (g_ft l_f) (And.intro (g_ft l_f) (And.intro (g_ft l_f) (And.intro (g_ft l_f) (And.intro (g_ft l_f) (And.intro (g_ft l_f) (And.intro (g_ft l_f) (And.intro (g_ft l_f) (And.intro (g_ft l_f) (And.intro (g_ft l_f) (And.intro (g_ft l_f) (And.intro (g_ft l_f) (And.intro (g_ft l_f) (And.intro (g_ft l_f) (And.intro (g_ft l_f) (And.intro (g_ft l_f) (And.intro (g_ft l_f) (And.intro (g_ft l_f) (And.intro (g_ft l_f) (And.intro (g_ft l_f) (And.intro (g_ft l_f) (And.intro c11 (And.intro (g_ft c11) (And.intro (g_ft c11) (And.intro (g_ft c11) (And.intro (F22_spec x1 2147483648 h _ rfl) trivial))))))))))))))))))))))))))))))))) (hr := by kernel_rfl)
/-! 30 jacquard/diophant.within -/
def F30 (x1 : Int) (x2 : Int) : Bool :=
  (bif decide (x1 ≥ (IntKind.i64.wrap (0 - x2))) then
   (decide (x1 ≤ x2))
  else
   false)
set_option maxRecDepth 100000 in
theorem F30_spec (x1 : Int) (x2 : Int) (h : AHeap)  (r : Bool) : F30 x1 x2 = r → ACalls Try.prog 30 [.int .i64 x1, .int .i64 x2] h (fun v' h'' => v' = (.bool r : Value) ∧ h'' = h) := by
  unfold F30
  refine dec_bif (fun c3 => ?_) (fun c3 => ?_)
  · intro hr
    subst hr
    exact pFun_sound good tab_ok (f := 30) (its := [.g, .g, .g, .g, .g, .g, (.w .g), (.w .g), (.w .g), (.p true), .g]) (args := [.int .i64 x1, .int .i64 x2]) (h := h) (h' := h) (v := .bool (decide (x1 ≤ x2))) (hC := (And.intro c3 (And.intro (g_tt c3) (And.intro (g_tt c3) (And.intro (g_tt c3) trivial))))) (hr := by kernel_rfl)
  · intro hr
    subst hr
    exact pFun_sound good tab_ok (f := 30) (its := [.g, .g, .g, .g, .g, .g, .n, .n, .n, (.p false), .g]) (args := [.int .i64 x1, .int .i64 x2]) (h := h) (h' := h) (v := .bool false) (hC := (And.intro c3 (And.intro (g_ft c3) (And.intro (g_ft c3) (And.intro (g_ft c3) trivial))))) (hr := by kernel_rfl)
/-! 13 jacquard/diophant.Valid -/
def F13_L : List Nat := [1]
def F13_D : List (Nat × List (Nat × Nat)) := []
def F13_m1_2 : List Bool := [true, false, true, true, true, true, true, true, true, true, true, true, true, true, true, true, true, true, true, true, true, true, true, true, true, true, true, true, true, true, true, true, true, true, true, true, true, true]
def F13_m1_1 : List Bool := [true, false, true, true, true, true, true, true, true, true, true, true, true, true, true, true, true, true, true, true, true, true, true, true, true, true, true, false, false, true, true, true, true, true, true, true, true, true]
def F13_m1_0 : List Bool := [true, true, false, true, true, true, true, true, true, true, true, true, true, true, true, true, true, true, true, true, true, true, true, true, true, true, true, true, true, true, true, true, true, true, true, true, true, true]
def F13_s1 (x1 : Int) (x2 : Int) (x4 : Int) (x5 : Int) (x6 : Int) (x7 : Int) (x8 : Int) (x9 : Int) (a10 : Int) : Option (Int ⊕ Nat) :=
  (bif decide (a10 < 8) then
   (bif (!(inRange a10 8)) then none else
   (bif (!(F30 (([x1, x2, x4, x5, x6, x7, x8, x9] : List Int).getD (a10).toNat 0) 2147483648)) then
    some (.inr 0)
   else
    some (.inl (IntKind.i64.wrap (a10 + 1)))))
  else
   some (.inr 1))
def F13_h1 (h : AHeap) (x1 : Int) (x2 : Int) (x3 : Int) (x4 : Int) (x5 : Int) (x6 : Int) (x7 : Int) (x8 : Int) (x9 : Int)  (a10 : Int) : AS := ⟨[junk, .pointer (some ⟨1, 0, none⟩), junk, junk, junk, junk, junk, junk, junk, junk, junk, junk, junk, junk, junk, junk, junk, junk, junk, junk, junk, junk, junk, junk, junk, junk, junk, .agg #[.int .i64 x1, .int .i64 x2, .int .i64 x4, .int .i64 x5, .int .i64 x6, .int .i64 x7, .int .i64 x8, .int .i64 x9], .int .i64 a10, junk, junk, junk, junk, junk, junk, junk, junk, junk], [(1, [.int .i64 x1, .int .i64 x2, .int .i64 x3, .int .i64 x4, .int .i64 x5, .int .i64 x6, .int .i64 x7, .int .i64 x8, .int .i64 x9])], h⟩
theorem F13_d1 : drawsOk F13_D (codeOf Try.prog 13 [1, 0, 1, 0, 0]) = true := by kernel_rfl
def F13_x1_0 (h : AHeap) (x1 : Int) (x2 : Int) (x3 : Int) (x4 : Int) (x5 : Int) (x6 : Int) (x7 : Int) (x8 : Int) (x9 : Int)  (r : Nat) : AS := ⟨[junk, junk, .bool false, junk, junk, junk, junk, junk, junk, junk, junk, junk, junk, junk, junk, junk, junk, junk, junk, junk, junk, junk, junk, junk, junk, junk, junk, junk, junk, junk, junk, junk, junk, junk, junk, junk, junk, junk], [], h⟩
def F13_x1_1 (h : AHeap) (x1 : Int) (x2 : Int) (x3 : Int) (x4 : Int) (x5 : Int) (x6 : Int) (x7 : Int) (x8 : Int) (x9 : Int)  (r : Nat) : AS := ⟨[junk, .pointer (some ⟨1, 0, none⟩), junk, junk, junk, junk, junk, junk, junk, junk, junk, junk, junk, junk, junk, junk, junk, junk, junk, junk, junk, junk, junk, junk, junk, junk, junk, junk, junk, junk, junk, junk, junk, junk, junk, junk, junk, junk], [(1, [.int .i64 x1, .int .i64 x2, .int .i64 x3, .int .i64 x4, .int .i64 x5, .int .i64 x6, .int .i64 x7, .int .i64 x8, .int .i64 x9])], h⟩
def F13_x1 (h : AHeap) (x1 : Int) (x2 : Int) (x3 : Int) (x4 : Int) (x5 : Int) (x6 : Int) (x7 : Int) (x8 : Int) (x9 : Int) (r : Nat) : Exit × AS := (bif Nat.beq r 0 then (.ret, (F13_x1_0 h x1 x2 x3 x4 x5 x6 x7 x8 x9 r)) else ((.exit 0), (F13_x1_1 h x1 x2 x3 x4 x5 x6 x7 x8 x9 r)))
set_option maxRecDepth 100000 in
theorem F13_r1 (h : AHeap) (x1 : Int) (x2 : Int) (x3 : Int) (x4 : Int) (x5 : Int) (x6 : Int) (x7 : Int) (x8 : Int) (x9 : Int) (a10 : Int) (o : Int ⊕ Nat) : F13_s1 x1 x2 x4 x5 x6 x7 x8 x9 a10 = some o → RdF Try.prog (codeOf Try.prog 13 [1, 0, 1, 0, 0]) (fun (s : Int) => (F13_h1 h x1 x2 x3 x4 x5 x6 x7 x8 x9 s)) (F13_x1 h x1 x2 x3 x4 x5 x6 x7 x8 x9) (F13_h1 h x1 x2 x3 x4 x5 x6 x7 x8 x9 a10) o := by
  unfold F13_s1
  refine dec_bif (fun c11 => ?_) (fun c11 => ?_)
  · refine guard_ok fun g12 => ?_
    refine dec_bif (fun c14 => ?_) (fun c14 => ?_)
    · intro hr
      obtain rfl := Option.some.inj hr
      show AWp Try.prog _ (Ends1 ((F13_x1 h x1 x2 x3 x4 x5 x6 x7 x8 x9) (0 : Nat)).1 ((F13_x1 h x1 x2 x3 x4 x5 x6 x7 x8 x9) (0 : Nat)).2) _
      exact pEnd_sound good (L := F13_L) (D := F13_D) (its := [.g, (.b true), (.iv (.int .i64 (([x1, x2, x4, x5, x6, x7, x8, x9] : List Int).getD (a10).toNat 0))), .g, .g, (.c (.bool (F30 (([x1, x2, x4, x5, x6, x7, x8, x9] : List Int).getD (a10).toNat 0) 2147483648)) h), .g, (.b true), .g]) (ds := F13_m1_0) (ks := [1]) (e := ((F13_x1 h x1 x2 x3 x4 x5 x6 x7 x8 x9) (0 : Nat)).1) (s2 := ((F13_x1 h x1 x2 x3 x4 x5 x6 x7 x8 x9) (0 : Nat)).2) (hC := (And.intro c14 (And.intro (F30_spec (([x1, x2, x4, x5, x6, x7, x8, x9] : List Int).getD (a10).toNat 0) 2147483648 h _ rfl) (And.intro (iread_sel (P := Try.prog) (t := 58) (cs := #[.int .i64 x1, .int .i64 x2, .int .i64 x4, .int .i64 x5, .int .i64 x6, .int .i64 x7, .int .i64 x8, .int .i64 x9]) (nn g12) (fun jj => .int .i64 (([x1, x2, x4, x5, x6, x7, x8, x9] : List Int).getD jj 0)) (And.intro (And.intro (And.intro (And.intro (And.intro (And.intro (And.intro (And.intro trivial (by show _ = _; kernel_rfl)) (by show _ = _; kernel_rfl)) (by show _ = _; kernel_rfl)) (by show _ = _; kernel_rfl)) (by show _ = _; kernel_rfl)) (by show _ = _; kernel_rfl)) (by show _ = _; kernel_rfl)) (by show _ = _; kernel_rfl))) (And.intro c11 trivial))))) (hd := F13_d1) (h := by kernel_rfl)
    · intro hr
      obtain rfl := Option.some.inj hr
      show AWp Try.prog _ (Ends1 .normal (F13_h1 h x1 x2 x3 x4 x5 x6 x7 x8 x9 (IntKind.i64.wrap (a10 + 1)))) _
      exact pEnd_sound good (L := F13_L) (D := F13_D) (its := [.g, (.b true), (.iv (.int .i64 (([x1, x2, x4, x5, x6, x7, x8, x9] : List Int).getD (a10).toNat 0))), .g, .g, (.c (.bool (F30 (([x1, x2, x4, x5, x6, x7, x8, x9] : List Int).getD (a10).toNat 0) 2147483648)) h), .g, (.b false), .g, .g]) (ds := F13_m1_1) (ks := []) (e := .normal) (s2 := (F13_h1 h x1 x2 x3 x4 x5 x6 x7 x8 x9 (IntKind.i64.wrap (a10 + 1)))) (hC := (And.intro c14 (And.intro (F30_spec (([x1, x2, x4, x5, x6, x7, x8, x9] : List Int).getD (a10).toNat 0) 2147483648 h _ rfl) (And.intro (iread_sel (P := Try.prog) (t := 58) (cs := #[.int .i64 x1, .int .i64 x2, .int .i64 x4, .int .i64 x5, .int .i64 x6, .int .i64 x7, .int .i64 x8, .int .i64 x9]) (nn g12) (fun jj => .int .i64 (([x1, x2, x4, x5, x6, x7, x8, x9] : List Int).getD jj 0)) (And.intro (And.intro (And.intro (And.intro (And.intro (And.intro (And.intro (And.intro trivial (by show _ = _; kernel_rfl)) (by show _ = _; kernel_rfl)) (by show _ = _; kernel_rfl)) (by show _ = _; kernel_rfl)) (by show _ = _; kernel_rfl)) (by show _ = _; kernel_rfl)) (by show _ = _; kernel_rfl)) (by show _ = _; kernel_rfl))) (And.intro c11 trivial))))) (hd := F13_d1) (h := by kernel_rfl)
  · intro hr
    obtain rfl := Option.some.inj hr
    show AWp Try.prog _ (Ends1 ((F13_x1 h x1 x2 x3 x4 x5 x6 x7 x8 x9) (1 : Nat)).1 ((F13_x1 h x1 x2 x3 x4 x5 x6 x7 x8 x9) (1 : Nat)).2) _
    exact pEnd_sound good (L := F13_L) (D := F13_D) (its := [.g, (.b false)]) (ds := F13_m1_2) (ks := []) (e := ((F13_x1 h x1 x2 x3 x4 x5 x6 x7 x8 x9) (1 : Nat)).1) (s2 := ((F13_x1 h x1 x2 x3 x4 x5 x6 x7 x8 x9) (1 : Nat)).2) (hC := (And.intro c11 trivial)) (hd := F13_d1) (h := by kernel_rfl)
theorem F13_l1_0 (h : AHeap) (x1 : Int) (x2 : Int) (x3 : Int) (x4 : Int) (x5 : Int) (x6 : Int) (x7 : Int) (x8 : Int) (x9 : Int) (x : Int) (r : Nat) (hl : loopO (fun (s : Int) => F13_s1 x1 x2 x4 x5 x6 x7 x8 x9 s) x = some r) (q0 : Nat.beq r 0 = true) : AWp Try.prog (.loop (codeOf Try.prog 13 [1, 0, 1, 0, 0])) (Ends1 .ret (F13_x1_0 h x1 x2 x3 x4 x5 x6 x7 x8 x9 r)) ((fun (s : Int) => (F13_h1 h x1 x2 x3 x4 x5 x6 x7 x8 x9 s)) x) := by
  have k := loop_fun (P := Try.prog) (c := (codeOf Try.prog 13 [1, 0, 1, 0, 0])) (step := (fun (s : Int) => F13_s1 x1 x2 x4 x5 x6 x7 x8 x9 s)) (hd := (fun (s : Int) => (F13_h1 h x1 x2 x3 x4 x5 x6 x7 x8 x9 s))) (X := (F13_x1 h x1 x2 x3 x4 x5 x6 x7 x8 x9)) (by intro t; unfold F13_x1; cases Nat.beq t 0 <;> (intro h; cases h)) (fun x => F13_r1 h x1 x2 x3 x4 x5 x6 x7 x8 x9 x) hl
  simp only [F13_x1, q0, cond_true, cond_false] at k
  exact k
theorem F13_l1_1 (h : AHeap) (x1 : Int) (x2 : Int) (x3 : Int) (x4 : Int) (x5 : Int) (x6 : Int) (x7 : Int) (x8 : Int) (x9 : Int) (x : Int) (r : Nat) (hl : loopO (fun (s : Int) => F13_s1 x1 x2 x4 x5 x6 x7 x8 x9 s) x = some r) (q0 : Nat.beq r 0 = false) : AWp Try.prog (.loop (codeOf Try.prog 13 [1, 0, 1, 0, 0])) (Ends1 (.exit 0) (F13_x1_1 h x1 x2 x3 x4 x5 x6 x7 x8 x9 r)) ((fun (s : Int) => (F13_h1 h x1 x2 x3 x4 x5 x6 x7 x8 x9 s)) x) := by
  have k := loop_fun (P := Try.prog) (c := (codeOf Try.prog 13 [1, 0, 1, 0, 0])) (step := (fun (s : Int) => F13_s1 x1 x2 x4 x5 x6 x7 x8 x9 s)) (hd := (fun (s : Int) => (F13_h1 h x1 x2 x3 x4 x5 x6 x7 x8 x9 s))) (X := (F13_x1 h x1 x2 x3 x4 x5 x6 x7 x8 x9)) (by intro t; unfold F13_x1; cases Nat.beq t 0 <;> (intro h; cases h)) (fun x => F13_r1 h x1 x2 x3 x4 x5 x6 x7 x8 x9 x) hl
  simp only [F13_x1, q0, cond_true, cond_false] at k
  exact k
def F13 (x1 : Int) (x2 : Int) (x3 : Int) (x4 : Int) (x5 : Int) (x6 : Int) (x7 : Int) (x8 : Int) (x9 : Int) : Option (Bool) :=
  (Option.bind (loopO (fun (s : Int) => F13_s1 x1 x2 x4 x5 x6 x7 x8 x9 s) 0) fun y15 =>
  (bif (Nat.beq y15 0) then
   some (false)
  else
   some (F30 x3 2305843009213693952)))
set_option maxRecDepth 100000 in
theorem F13_spec (x1 : Int) (x2 : Int) (x3 : Int) (x4 : Int) (x5 : Int) (x6 : Int) (x7 : Int) (x8 : Int) (x9 : Int) (h : AHeap)  (r : Bool) : F13 x1 x2 x3 x4 x5 x6 x7 x8 x9 = some r → ACalls Try.prog 13 [.agg #[.int .i64 x1, .int .i64 x2, .int .i64 x3, .int .i64 x4, .int .i64 x5, .int .i64 x6, .int .i64 x7, .int .i64 x8, .int .i64 x9]] h (fun v' h'' => v' = (.bool r : Value) ∧ h'' = h) := by
  unfold F13
  refine bind_opt fun y15 e15 => ?_
  refine dec_bif (fun c16 => ?_) (fun c16 => ?_)
  · intro hr
    obtain rfl := Option.some.inj hr
    exact pFun_sound good tab_ok (f := 13) (its := [.g, .g, .g, .g, .g, .g, .g, .g, .g, .g, .g, .g, .g, .g, .g, .g, .g, .g, .g, .g, .g, .g, .g, .g, .g, .g, (.l F13_m1_1 [] .ret (F13_x1_0 h x1 x2 x3 x4 x5 x6 x7 x8 x9 y15))]) (args := [.agg #[.int .i64 x1, .int .i64 x2, .int .i64 x3, .int .i64 x4, .int .i64 x5, .int .i64 x6, .int .i64 x7, .int .i64 x8, .int .i64 x9]]) (h := h) (h' := h) (v := .bool false) (hC := (And.intro (F13_l1_0 h x1 x2 x3 x4 x5 x6 x7 x8 x9 0 y15 e15 c16) trivial)) (hr := by kernel_rfl)
  · intro hr
    obtain rfl := Option.some.inj hr
    exact pFun_sound good tab_ok (f := 13) (its := [.g, .g, .g, .g, .g, .g, .g, .g, .g, .g, .g, .g, .g, .g, .g, .g, .g, .g, .g, .g, .g, .g, .g, .g, .g, .g, (.l F13_m1_1 [] (.exit 0) (F13_x1_1 h x1 x2 x3 x4 x5 x6 x7 x8 x9 y15)), .g, .g, (.c (.bool (F30 x3 2305843009213693952)) h), .g]) (args := [.agg #[.int .i64 x1, .int .i64 x2, .int .i64 x3, .int .i64 x4, .int .i64 x5, .int .i64 x6, .int .i64 x7, .int .i64 x8, .int .i64 x9]]) (h := h) (h' := h) (v := .bool (F30 x3 2305843009213693952)) (hC := (And.intro (F30_spec x3 2305843009213693952 h _ rfl) (And.intro (F13_l1_1 h x1 x2 x3 x4 x5 x6 x7 x8 x9 0 y15 e15 c16) trivial))) (hr := by kernel_rfl)
/-! 23 jacquard/diophant.sumRange -/
def F23__1 (x4 : Int) (x5 : Int) (x6 : Int) (x7 : Int) (x8 : Int) (x9 : Int) : Bool := decide ((if (IntKind.i64.wrap (x8 - x5)) > x6 then (IntKind.i64.wrap (x8 - x5)) else x6) ≤ (if (IntKind.i64.wrap (x9 - x4)) < x7 then (IntKind.i64.wrap (x9 - x4)) else x7))
def F23 (x1 : Int) (x2 : Int) (x3 : Int) (x4 : Int) (x5 : Int) (x6 : Int) (x7 : Int) (x8 : Int) (x9 : Int) : Int × Int × Bool :=
  (bif decide (x4 > x5) then
   (0, 0, false)
  else
   (bif decide (x8 > x9) then
    (0, 0, false)
   else
    ((if (IntKind.i64.wrap (x8 - x5)) > x6 then (IntKind.i64.wrap (x8 - x5)) else x6), (if (IntKind.i64.wrap (x9 - x4)) < x7 then (IntKind.i64.wrap (x9 - x4)) else x7), (F23__1 x4 x5 x6 x7 x8 x9))))
set_option maxRecDepth 100000 in
theorem F23_spec (x1 : Int) (x2 : Int) (x3 : Int) (x4 : Int) (x5 : Int) (x6 : Int) (x7 : Int) (x8 : Int) (x9 : Int) (h : AHeap)  (r : Int × Int × Bool) : F23 x1 x2 x3 x4 x5 x6 x7 x8 x9 = r → ACalls Try.prog 23 [.agg #[.int .i64 x1, .int .i64 x2, .int .i64 x3, .int .i64 x4, .int .i64 x5, .int .i64 x6, .int .i64 x7, .int .i64 x8, .int .i64 x9]] h (fun v' h'' => v' = (.tuple #[.agg #[.int .i64 r.1, .int .i64 r.2.1], .bool r.2.2] : Value) ∧ h'' = h) := by
  unfold F23
  refine dec_bif (fun c10 => ?_) (fun c10 => ?_)
  · intro hr
    subst hr
    exact pFun_sound good tab_ok (f := 23) (its := [.g, .g, .g, .g, .g, .g, .g, .g, .g, .g, .g, .n, .n, .n, .n, .n, .n, .n, (.p true), (.b true), .g, .g, .g]) (args := [.agg #[.int .i64 x1, .int .i64 x2, .int .i64 x3, .int .i64 x4, .int .i64 x5, .int .i64 x6, .int .i64 x7, .int .i64 x8, .int .i64 x9]]) (h := h) (h' := h) (v := .tuple #[.agg #[.int .i64 0, .int .i64 0], .bool false]) (hC := (And.intro l_t (And.intro c10 (And.intro (g_tf c10) (And.intro (g_tf c10) (And.intro (g_tf c10) (And.intro (g_tf c10) (And.intro (g_tf c10) (And.intro (g_tf c10) (And.intro (g_tf c10) trivial)))))))))) (hr := by kernel_rfl)
  · refine dec_bif (fun c11 => ?_) (fun c11 => ?_)
    · intro hr
      subst hr
      exact pFun_sound good tab_ok (f := 23) (its := [.g, .g, .g, .g, .g, .g, .g, .g, .g, .g, .g, (.w .g), (.w .g), (.w .g), (.w .g), (.w .g), (.w .g), (.w .g), (.p false), (.b true), .g, .g, .g]) (args := [.agg #[.int .i64 x1, .int .i64 x2, .int .i64 x3, .int .i64 x4, .int .i64 x5, .int .i64 x6, .int .i64 x7, .int .i64 x8, .int .i64 x9]]) (h := h) (h' := h) (v := .tuple #[.agg #[.int .i64 0, .int .i64 0], .bool false]) (hC := (And.intro c11 (And.intro c10 (And.intro (g_ff c10) (And.intro (g_ff c10) (And.intro (g_ff c10) (And.intro (g_ff c10) (And.intro (g_ff c10) (And.intro (g_ff c10) (And.intro (g_ff c10) trivial)))))))))) (hr := by kernel_rfl)
    · intro hr
      subst hr
      exact pFun_sound good tab_ok (f := 23) (its := [.g, .g, .g, .g, .g, .g, .g, .g, .g, .g, .g, (.w .g), (.w .g), (.w .g), (.w .g), (.w .g), (.w .g), (.w .g), (.p false), (.b false), .g, .g, .g, .g, .g, .g, .g, .g, .g, .g, .g, .g, .g, .g, .g, .g, .g, .g, .g, .g, .g, .g, .g, .g, .g, .g, .g, .g, .g, .g, .g, .g]) (args := [.agg #[.int .i64 x1, .int .i64 x2, .int .i64 x3, .int .i64 x4, .int .i64 x5, .int .i64 x6, .int .i64 x7, .int .i64 x8, .int .i64 x9]]) (h := h) (h' := h) (v := .tuple #[.agg #[.int .i64 (if (IntKind.i64.wrap (x8 - x5)) > x6 then (IntKind.i64.wrap (x8 - x5)) else x6), .int .i64 (if (IntKind.i64.wrap (x9 - x4)) < x7 then (IntKind.i64.wrap (x9 - x4)) else x7)], .bool (F23__1 x4 x5 x6 x7 x8 x9)]) (hC := (And.intro c11 (And.intro c10 (And.intro (g_ff c10) (And.intro (g_ff c10) (And.intro (g_ff c10) (And.intro (g_ff c10) (And.intro (g_ff c10) (And.intro (g_ff c10) (And.intro (g_ff c10) trivial)))))))))) (hr := by kernel_rfl)
/-! 25 jacquard/diophant.Gcd -/
def F25_L : List Nat := []
def F25_D : List (Nat × List (Nat × Nat)) := []
def F25__1 (x1 : Int) : Int := (if 2147483648 < (if (-2147483648) > x1 then (-2147483648) else x1) then 2147483648 else (if (-2147483648) > x1 then (-2147483648) else x1))
def F25__2 (x2 : Int) : Int := (if 2147483648 < (if (-2147483648) > x2 then (-2147483648) else x2) then 2147483648 else (if (-2147483648) > x2 then (-2147483648) else x2))
def F25_m1_1 : List Bool := [true, true, true, true, false, false, false, true, true, true, true, true, true, true, true, true, true, true, true, true, true, true, true, true, true, true, true, true, true, true, true, true, true, true, true, true, true, true, true, true, true, true, true, true, true, true, true, true, true, true, true, true, true, true, true]
def F25_m1_0 : List Bool := [true, true, true, true, false, false, false, false, false, false, true, true, true, true, true, true, true, true, true, true, true, true, true, true, true, true, true, true, true, true, true, true, true, true, true, true, true, true, true, true, true, true, true, true, true, true, true, true, true, true, true, true, true, true, true]
def F25_s1  (a3 : Int) (a4 : Int) (a5 : Int) (a6 : Int) (a7 : Int) (a8 : Int) : Option ((Int × Int × Int × Int × Int × Int) ⊕ (Int × Int × Int)) :=
  (bif (a6 != 0) then
   some (.inl (a6, a7, a8, (IntKind.i64.wrap (a3 - (IntKind.i64.wrap ((IntKind.i64.wrap (a3.tdiv a6)) * a6)))), (IntKind.i64.wrap (a4 - (IntKind.i64.wrap ((IntKind.i64.wrap (a3.tdiv a6)) * a7)))), (IntKind.i64.wrap (a5 - (IntKind.i64.wrap ((IntKind.i64.wrap (a3.tdiv a6)) * a8))))))
  else
   some (.inr (a3, a4, a5)))
def F25_h1 (h : AHeap)  (a3 : Int) (a4 : Int) (a5 : Int) (a6 : Int) (a7 : Int) (a8 : Int) : AS := ⟨[junk, junk, junk, junk, .int .i64 a3, .int .i64 a4, .int .i64 a5, .int .i64 a6, .int .i64 a7, .int .i64 a8, junk, junk, junk, junk, junk, junk, junk, junk, junk, junk, junk, junk, junk, junk, junk, junk, junk, junk, junk, junk, junk, junk, junk, junk, junk, junk, junk, junk, junk, junk, junk, junk, junk, junk, junk, junk, junk, junk, junk, junk, junk, junk, junk, junk, junk], [], h⟩
theorem F25_d1 : drawsOk F25_D (codeOf Try.prog 25 [1, 1, 1, 1, 1, 0, 0, 0]) = true := by kernel_rfl
def F25_x1_0 (h : AHeap)  (r : Int × Int × Int) : AS := ⟨[junk, junk, junk, junk, .int .i64 r.1, .int .i64 r.2.1, .int .i64 r.2.2, junk, junk, junk, junk, junk, junk, junk, junk, junk, junk, junk, junk, junk, junk, junk, junk, junk, junk, junk, junk, junk, junk, junk, junk, junk, junk, junk, junk, junk, junk, junk, junk, junk, junk, junk, junk, junk, junk, junk, junk, junk, junk, junk, junk, junk, junk, junk, junk], [], h⟩
def F25_x1 (h : AHeap) (r : Int × Int × Int) : Exit × AS := ((.exit 0), (F25_x1_0 h r))
set_option maxRecDepth 100000 in
theorem F25_r1 (h : AHeap) (a3 : Int) (a4 : Int) (a5 : Int) (a6 : Int) (a7 : Int) (a8 : Int) (o : (Int × Int × Int × Int × Int × Int) ⊕ (Int × Int × Int)) : F25_s1 a3 a4 a5 a6 a7 a8 = some o → RdF Try.prog (codeOf Try.prog 25 [1, 1, 1, 1, 1, 0, 0, 0]) (fun (s : Int × Int × Int × Int × Int × Int) => (F25_h1 h s.1 s.2.1 s.2.2.1 s.2.2.2.1 s.2.2.2.2.1 s.2.2.2.2.2)) (F25_x1 h) (F25_h1 h a3 a4 a5 a6 a7 a8) o := by
  unfold F25_s1
  refine dec_bif (fun c9 => ?_) (fun c9 => ?_)
  · intro hr
    obtain rfl := Option.some.inj hr
    show AWp Try.prog _ (Ends1 .normal (F25_h1 h a6 a7 a8 (IntKind.i64.wrap (a3 - (IntKind.i64.wrap ((IntKind.i64.wrap (a3.tdiv a6)) * a6)))) (IntKind.i64.wrap (a4 - (IntKind.i64.wrap ((IntKind.i64.wrap (a3.tdiv a6)) * a7)))) (IntKind.i64.wrap (a5 - (IntKind.i64.wrap ((IntKind.i64.wrap (a3.tdiv a6)) * a8)))))) _
    exact pEnd_sound good (L := F25_L) (D := F25_D) (its := [.g, .g, (.b true), .g, .g, .d, .g, .g, .g, .g, .g, .g, .g, .g, .g, .g, .g, .g, .g, .g, .g, .g, .g, .g, .g, .g, .g, .g, .g, .g, .g]) (ds := F25_m1_0) (ks := []) (e := .normal) (s2 := (F25_h1 h a6 a7 a8 (IntKind.i64.wrap (a3 - (IntKind.i64.wrap ((IntKind.i64.wrap (a3.tdiv a6)) * a6)))) (IntKind.i64.wrap (a4 - (IntKind.i64.wrap ((IntKind.i64.wrap (a3.tdiv a6)) * a7)))) (IntKind.i64.wrap (a5 - (IntKind.i64.wrap ((IntKind.i64.wrap (a3.tdiv a6)) * a8)))))) (hC := (And.intro (nz2 c9) (And.intro c9 trivial))) (hd := F25_d1) (h := by kernel_rfl)
  · intro hr
    obtain rfl := Option.some.inj hr
    show AWp Try.prog _ (Ends1 ((F25_x1 h) ((a3, a4, a5) : Int × Int × Int)).1 ((F25_x1 h) ((a3, a4, a5) : Int × Int × Int)).2) _
    exact pEnd_sound good (L := F25_L) (D := F25_D) (its := [.g, .g, (.b false)]) (ds := F25_m1_1) (ks := []) (e := ((F25_x1 h) ((a3, a4, a5) : Int × Int × Int)).1) (s2 := ((F25_x1 h) ((a3, a4, a5) : Int × Int × Int)).2) (hC := (And.intro c9 trivial)) (hd := F25_d1) (h := by kernel_rfl)
theorem F25_l1_0 (h : AHeap) (x : Int × Int × Int × Int × Int × Int) (r : Int × Int × Int) (hl : loopO (fun (s : Int × Int × Int × Int × Int × Int) => F25_s1 s.1 s.2.1 s.2.2.1 s.2.2.2.1 s.2.2.2.2.1 s.2.2.2.2.2) x = some r) : AWp Try.prog (.loop (codeOf Try.prog 25 [1, 1, 1, 1, 1, 0, 0, 0])) (Ends1 (.exit 0) (F25_x1_0 h r)) ((fun (s : Int × Int × Int × Int × Int × Int) => (F25_h1 h s.1 s.2.1 s.2.2.1 s.2.2.2.1 s.2.2.2.2.1 s.2.2.2.2.2)) x) := by
  have k := loop_fun (P := Try.prog) (c := (codeOf Try.prog 25 [1, 1, 1, 1, 1, 0, 0, 0])) (step := (fun (s : Int × Int × Int × Int × Int × Int) => F25_s1 s.1 s.2.1 s.2.2.1 s.2.2.2.1 s.2.2.2.2.1 s.2.2.2.2.2)) (hd := (fun (s : Int × Int × Int × Int × Int × Int) => (F25_h1 h s.1 s.2.1 s.2.2.1 s.2.2.2.1 s.2.2.2.2.1 s.2.2.2.2.2))) (X := (F25_x1 h)) (by intro t; unfold F25_x1; intro h; cases h) (fun x => F25_r1 h x.1 x.2.1 x.2.2.1 x.2.2.2.1 x.2.2.2.2.1 x.2.2.2.2.2) hl
  exact k
def F25 (x1 : Int) (x2 : Int) : Option (Int × Int × Int) :=
  (Option.bind (loopO (fun (s : Int × Int × Int × Int × Int × Int) => F25_s1 s.1 s.2.1 s.2.2.1 s.2.2.2.1 s.2.2.2.2.1 s.2.2.2.2.2) ((F25__1 x1), 1, 0, (F25__2 x2), 0, 1)) fun y10 =>
  (bif decide (y10.1 < 0) then
   (bif ((IntKind.i64.wrap (0 - y10.1)) == 0) then
    some (0, 0, 0)
   else
    some ((IntKind.i64.wrap (0 - y10.1)), (IntKind.i64.wrap (0 - y10.2.1)), (IntKind.i64.wrap (0 - y10.2.2))))
  else
   (bif (y10.1 == 0) then
    some (0, 0, 0)
   else
    some (y10.1, y10.2.1, y10.2.2))))
set_option maxRecDepth 100000 in
theorem F25_spec (x1 : Int) (x2 : Int) (h : AHeap)  (r : Int × Int × Int) : F25 x1 x2 = some r → ACalls Try.prog 25 [.int .i64 x1, .int .i64 x2] h (fun v' h'' => v' = (.tuple #[.int .i64 r.1, .int .i64 r.2.1, .int .i64 r.2.2] : Value) ∧ h'' = h) := by
  unfold F25
  refine bind_opt fun y10 e10 => ?_
  refine dec_bif (fun c11 => ?_) (fun c11 => ?_)
  · refine dec_bif (fun c12 => ?_) (fun c12 => ?_)
    · intro hr
      obtain rfl := Option.some.inj hr
      exact pFun_sound good tab_ok (f := 25) (its := [.g, .g, .g, .g, .g, .g, .g, .g, .g, .g, .g, .g, .g, .g, .g, .g, .g, .g, .g, (.l F25_m1_0 [] (.exit 0) (F25_x1_0 h y10)), .g, .g, (.b true), .g, .g, .g, .g, .g, .g, .g, .g, .g, .g, .g, (.b true), .g, .g, .g]) (args := [.int .i64 x1, .int .i64 x2]) (h := h) (h' := h) (v := .tuple #[.int .i64 0, .int .i64 0, .int .i64 0]) (hC := (And.intro c12 (And.intro c11 (And.intro (F25_l1_0 h ((F25__1 x1), 1, 0, (F25__2 x2), 0, 1) y10 e10) trivial)))) (hr := by kernel_rfl)
    · intro hr
      obtain rfl := Option.some.inj hr
      exact pFun_sound good tab_ok (f := 25) (its := [.g, .g, .g, .g, .g, .g, .g, .g, .g, .g, .g, .g, .g, .g, .g, .g, .g, .g, .g, (.l F25_m1_0 [] (.exit 0) (F25_x1_0 h y10)), .g, .g, (.b true), .g, .g, .g, .g, .g, .g, .g, .g, .g, .g, .g, (.b false), .g, .g, .g, .g, .g, .g]) (args := [.int .i64 x1, .int .i64 x2]) (h := h) (h' := h) (v := .tuple #[.int .i64 (IntKind.i64.wrap (0 - y10.1)), .int .i64 (IntKind.i64.wrap (0 - y10.2.1)), .int .i64 (IntKind.i64.wrap (0 - y10.2.2))]) (hC := (And.intro c12 (And.intro c11 (And.intro (F25_l1_0 h ((F25__1 x1), 1, 0, (F25__2 x2), 0, 1) y10 e10) trivial)))) (hr := by kernel_rfl)
  · refine dec_bif (fun c13 => ?_) (fun c13 => ?_)
    · intro hr
      obtain rfl := Option.some.inj hr
      exact pFun_sound good tab_ok (f := 25) (its := [.g, .g, .g, .g, .g, .g, .g, .g, .g, .g, .g, .g, .g, .g, .g, .g, .g, .g, .g, (.l F25_m1_0 [] (.exit 0) (F25_x1_0 h y10)), .g, .g, (.b false), .g, .g, (.b true), .g, .g, .g]) (args := [.int .i64 x1, .int .i64 x2]) (h := h) (h' := h) (v := .tuple #[.int .i64 0, .int .i64 0, .int .i64 0]) (hC := (And.intro c13 (And.intro c11 (And.intro (F25_l1_0 h ((F25__1 x1), 1, 0, (F25__2 x2), 0, 1) y10 e10) trivial)))) (hr := by kernel_rfl)
    · intro hr
      obtain rfl := Option.some.inj hr
      exact pFun_sound good tab_ok (f := 25) (its := [.g, .g, .g, .g, .g, .g, .g, .g, .g, .g, .g, .g, .g, .g, .g, .g, .g, .g, .g, (.l F25_m1_0 [] (.exit 0) (F25_x1_0 h y10)), .g, .g, (.b false), .g, .g, (.b false), .g, .g, .g, .g, .g, .g]) (args := [.int .i64 x1, .int .i64 x2]) (h := h) (h' := h) (v := .tuple #[.int .i64 y10.1, .int .i64 y10.2.1, .int .i64 y10.2.2]) (hC := (And.intro c13 (And.intro c11 (And.intro (F25_l1_0 h ((F25__1 x1), 1, 0, (F25__2 x2), 0, 1) y10 e10) trivial)))) (hr := by kernel_rfl)
/-! 26 jacquard/diophant.remainder -/
def F26 (x1 : Int) (x2 : Int) : Option (Int) :=
  (bif (x2 == 0) then none else
  (bif decide ((x1.tmod x2) < 0) then
   some (IntKind.i64.wrap ((x1.tmod x2) + x2))
  else
   some (x1.tmod x2)))
set_option maxRecDepth 100000 in
theorem F26_spec (x1 : Int) (x2 : Int) (h : AHeap)  (r : Int) : F26 x1 x2 = some r → ACalls Try.prog 26 [.int .i64 x1, .int .i64 x2] h (fun v' h'' => v' = (.int .i64 r : Value) ∧ h'' = h) := by
  unfold F26
  refine guard_ok fun g3 => ?_
  refine dec_bif (fun c4 => ?_) (fun c4 => ?_)
  · intro hr
    obtain rfl := Option.some.inj hr
    exact pFun_sound good tab_ok (f := 26) (its := [.g, .g, .g, .d, .g, .g, .g, (.b true), .g, .g, .g, .g, .g, .g]) (args := [.int .i64 x1, .int .i64 x2]) (h := h) (h' := h) (v := .int .i64 (IntKind.i64.wrap ((x1.tmod x2) + x2))) (hC := (And.intro c4 (And.intro (nz g3) trivial))) (hr := by kernel_rfl)
  · intro hr
    obtain rfl := Option.some.inj hr
    exact pFun_sound good tab_ok (f := 26) (its := [.g, .g, .g, .d, .g, .g, .g, (.b false), .g, .g]) (args := [.int .i64 x1, .int .i64 x2]) (h := h) (h' := h) (v := .int .i64 (x1.tmod x2)) (hC := (And.intro c4 (And.intro (nz g3) trivial))) (hr := by kernel_rfl)
/-! 11 jacquard/diophant.All -/
def F11__1 (x2 : Int) (y15 : Int × Int × Int) : Int := (IntKind.i64.wrap ((if (IntKind.i64.wrap (0 - x2)) > x2 then (IntKind.i64.wrap (0 - x2)) else x2).tdiv y15.1))
def F11__2 (x2 : Int) (y26 : Int × Int × Int) : Int := (IntKind.i64.wrap ((if (IntKind.i64.wrap (0 - x2)) > x2 then (IntKind.i64.wrap (0 - x2)) else x2).tdiv y26.1))
def F11 (x1 : Int) (x2 : Int) (x3 : Int) (x4 : Int) (x5 : Int) (x6 : Int) (x7 : Int) (x8 : Int) (x9 : Int) : Option (Int × Int × Int × Int × Bool) :=
  (Option.bind (F13 x1 x2 x3 x4 x5 x6 x7 x8 x9) fun y10 =>
  (bif (!y10) then
   some (0, 0, 0, 0, false)
  else
   (bif (x1 == 0) then
    (bif (x2 == 0) then
     some (0, 0, 0, 0, false)
    else
     (Option.bind (F25 x1 x2) fun y15 =>
     (bif (y15.1 == 0) then none else
     (bif ((x3.tmod y15.1) != 0) then
      some (0, 0, 0, 0, false)
     else
      (Option.bind (F26 y15.2.1 (F11__1 x2 y15)) fun y19 =>
      (Option.bind (F26 (IntKind.i64.wrap (x3.tdiv y15.1)) (F11__1 x2 y15)) fun y21 =>
      (Option.bind (F26 (IntKind.i64.wrap (y19 * y21)) (F11__1 x2 y15)) fun y23 =>
      (bif decide (x2 < 0) then
       some (y23, (IntKind.i64.wrap ((IntKind.i64.wrap (x3 - (IntKind.i64.wrap (x1 * y23)))).tdiv x2)), (F11__1 x2 y15), (IntKind.i64.wrap (x1.tdiv y15.1)), true)
      else
       some (y23, (IntKind.i64.wrap ((IntKind.i64.wrap (x3 - (IntKind.i64.wrap (x1 * y23)))).tdiv x2)), (F11__1 x2 y15), (IntKind.i64.wrap ((IntKind.i64.wrap (0 - x1)).tdiv y15.1)), true)))))))))
   else
    (Option.bind (F25 x1 x2) fun y26 =>
    (bif (y26.1 == 0) then none else
    (bif ((x3.tmod y26.1) != 0) then
     some (0, 0, 0, 0, false)
    else
     (bif (x2 == 0) then
      some ((IntKind.i64.wrap (x3.tdiv x1)), 0, 0, 1, true)
     else
      (Option.bind (F26 y26.2.1 (F11__2 x2 y26)) fun y31 =>
      (Option.bind (F26 (IntKind.i64.wrap (x3.tdiv y26.1)) (F11__2 x2 y26)) fun y33 =>
      (Option.bind (F26 (IntKind.i64.wrap (y31 * y33)) (F11__2 x2 y26)) fun y35 =>
      (bif decide (x2 < 0) then
       some (y35, (IntKind.i64.wrap ((IntKind.i64.wrap (x3 - (IntKind.i64.wrap (x1 * y35)))).tdiv x2)), (F11__2 x2 y26), (IntKind.i64.wrap (x1.tdiv y26.1)), true)
      else
       some (y35, (IntKind.i64.wrap ((IntKind.i64.wrap (x3 - (IntKind.i64.wrap (x1 * y35)))).tdiv x2)), (F11__2 x2 y26), (IntKind.i64.wrap ((IntKind.i64.wrap (0 - x1)).tdiv y26.1)), true))))))))))))
set_option maxRecDepth 100000 in
theorem F11_spec (x1 : Int) (x2 : Int) (x3 : Int) (x4 : Int) (x5 : Int) (x6 : Int) (x7 : Int) (x8 : Int) (x9 : Int) (h : AHeap)  (r : Int × Int × Int × Int × Bool) : F11 x1 x2 x3 x4 x5 x6 x7 x8 x9 = some r → ACalls Try.prog 11 [.agg #[.int .i64 x1, .int .i64 x2, .int .i64 x3, .int .i64 x4, .int .i64 x5, .int .i64 x6, .int .i64 x7, .int .i64 x8, .int .i64 x9]] h (fun v' h'' => v' = (.tuple #[.agg #[.int .i64 r.1, .int .i64 r.2.1, .int .i64 r.2.2.1, .int .i64 r.2.2.2.1], .bool r.2.2.2.2] : Value) ∧ h'' = h) := by
  unfold F11
  refine bind_opt fun y10 e10 => ?_
  refine dec_bif (fun c12 => ?_) (fun c12 => ?_)
  · intro hr
    obtain rfl := Option.some.inj hr
    exact pFun_sound good tab_ok (f := 11) (its := [.g, .g, .g, .g, (.c (.bool y10) h), .g, .g, .n, .n, .n, .n, .n, .n, .n, .n, (.p true), (.b true), .g, .g, .g]) (args := [.agg #[.int .i64 x1, .int .i64 x2, .int .i64 x3, .int .i64 x4, .int .i64 x5, .int .i64 x6, .int .i64 x7, .int .i64 x8, .int .i64 x9]]) (h := h) (h' := h) (v := .tuple #[.agg #[.int .i64 0, .int .i64 0, .int .i64 0, .int .i64 0], .bool false]) (hC := (And.intro l_t (And.intro c12 (And.intro (g_tf c12) (And.intro l_f (And.intro l_f (And.intro l_f (And.intro (g_tf c12) (And.intro (g_tf c12) (And.intro (g_tf c12) (And.intro (g_tf c12) (And.intro (F13_spec x1 x2 x3 x4 x5 x6 x7 x8 x9 h _ e10) trivial)))))))))))) (hr := by kernel_rfl)
  · refine dec_bif (fun c13 => ?_) (fun c13 => ?_)
    · refine dec_bif (fun c14 => ?_) (fun c14 => ?_)
      · intro hr
        obtain rfl := Option.some.inj hr
        exact pFun_sound good tab_ok (f := 11) (its := [.g, .g, .g, .g, (.c (.bool y10) h), .g, .g, (.w .g), (.w .g), (.w .g), (.w .g), (.w .g), (.w .g), (.w .g), (.w (.p true)), (.p false), (.b true), .g, .g, .g]) (args := [.agg #[.int .i64 x1, .int .i64 x2, .int .i64 x3, .int .i64 x4, .int .i64 x5, .int .i64 x6, .int .i64 x7, .int .i64 x8, .int .i64 x9]]) (h := h) (h' := h) (v := .tuple #[.agg #[.int .i64 0, .int .i64 0, .int .i64 0, .int .i64 0], .bool false]) (hC := (And.intro c14 (And.intro c12 (And.intro c13 (And.intro (g_ff c12) (And.intro (g_tt c13) (And.intro (g_tt c13) (And.intro (g_tt c13) (And.intro (g_ff c12) (And.intro (g_ff c12) (And.intro (g_ff c12) (And.intro (g_ff c12) (And.intro (F13_spec x1 x2 x3 x4 x5 x6 x7 x8 x9 h _ e10) trivial))))))))))))) (hr := by kernel_rfl)
      · refine bind_opt fun y15 e15 => ?_
        refine guard_ok fun g17 => ?_
        refine dec_bif (fun c18 => ?_) (fun c18 => ?_)
        · intro hr
          obtain rfl := Option.some.inj hr
          exact pFun_sound good tab_ok (f := 11) (its := [.g, .g, .g, .g, (.c (.bool y10) h), .g, .g, (.w .g), (.w .g), (.w .g), (.w .g), (.w .g), (.w .g), (.w .g), (.w (.p true)), (.p false), (.b false), .g, .g, .g, .g, (.c (.tuple #[.int .i64 y15.1, .int .i64 y15.2.1, .int .i64 y15.2.2]) h), .g, .g, .g, .g, .g, .g, .g, .g, .g, .g, .d, .g, (.b true), .g, .g, .g]) (args := [.agg #[.int .i64 x1, .int .i64 x2, .int .i64 x3, .int .i64 x4, .int .i64 x5, .int .i64 x6, .int .i64 x7, .int .i64 x8, .int .i64 x9]]) (h := h) (h' := h) (v := .tuple #[.agg #[.int .i64 0, .int .i64 0, .int .i64 0, .int .i64 0], .bool false]) (hC := (And.intro c18 (And.intro (nz g17) (And.intro (F25_spec x1 x2 h _ e15) (And.intro c14 (And.intro c12 (And.intro c13 (And.intro (g_ff c12) (And.intro (g_tt c13) (And.intro (g_tt c13) (And.intro (g_tt c13) (And.intro (g_ff c12) (And.intro (g_ff c12) (And.intro (g_ff c12) (And.intro (g_ff c12) (And.intro (F13_spec x1 x2 x3 x4 x5 x6 x7 x8 x9 h _ e10) trivial)))))))))))))))) (hr := by kernel_rfl)
        · refine bind_opt fun y19 e19 => ?_
          refine bind_opt fun y21 e21 => ?_
          refine bind_opt fun y23 e23 => ?_
          refine dec_bif (fun c25 => ?_) (fun c25 => ?_)
          · intro hr
            obtain rfl := Option.some.inj hr
            exact pFun_sound good tab_ok (f := 11) (its := [.g, .g, .g, .g, (.c (.bool y10) h), .g, .g, (.w .g), (.w .g), (.w .g), (.w .g), (.w .g), (.w .g), (.w .g), (.w (.p true)), (.p false), (.b false), .g, .g, .g, .g, (.c (.tuple #[.int .i64 y15.1, .int .i64 y15.2.1, .int .i64 y15.2.2]) h), .g, .g, .g, .g, .g, .g, .g, .g, .g, .g, .d, .g, (.b false), .g, .g, .g, (.b false), .g, .g, .g, .g, .g, .g, .g, .g, .g, .d, .g, .g, .g, .g, .g, .g, .g, .g, .d, (.c (.int .i64 y19) h), (.c (.int .i64 y21) h), .g, (.c (.int .i64 y23) h), .g, .g, .g, .g, .g, .g, .g, .g, .g, .g, .g, .d, .g, .g, .g, .g, .g, .d, .g, .g, .g, .g, .g, .g, (.b true), .g, .g, .g, .d, .g, .g, .g, .g, .g]) (args := [.agg #[.int .i64 x1, .int .i64 x2, .int .i64 x3, .int .i64 x4, .int .i64 x5, .int .i64 x6, .int .i64 x7, .int .i64 x8, .int .i64 x9]]) (h := h) (h' := h) (v := .tuple #[.agg #[.int .i64 y23, .int .i64 (IntKind.i64.wrap ((IntKind.i64.wrap (x3 - (IntKind.i64.wrap (x1 * y23)))).tdiv x2)), .int .i64 (F11__1 x2 y15), .int .i64 (IntKind.i64.wrap (x1.tdiv y15.1))], .bool true]) (hC := (And.intro (nz g17) (And.intro c25 (And.intro (nz g17) (And.intro (nz c14) (And.intro (show AKeep h h from (AHeap.sub_refl h)) (And.intro (F26_spec (IntKind.i64.wrap (y19 * y21)) (F11__1 x2 y15) h _ e23) (And.intro (show AKeep h h from (AHeap.sub_refl h)) (And.intro (F26_spec (IntKind.i64.wrap (x3.tdiv y15.1)) (F11__1 x2 y15) h _ e21) (And.intro (show AKeep h h from (AHeap.sub_refl h)) (And.intro (F26_spec y15.2.1 (F11__1 x2 y15) h _ e19) (And.intro (nz g17) (And.intro (nz g17) (And.intro c14 (And.intro c18 (And.intro (nz g17) (And.intro (F25_spec x1 x2 h _ e15) (And.intro c14 (And.intro c12 (And.intro c13 (And.intro (g_ff c12) (And.intro (g_tt c13) (And.intro (g_tt c13) (And.intro (g_tt c13) (And.intro (g_ff c12) (And.intro (g_ff c12) (And.intro (g_ff c12) (And.intro (g_ff c12) (And.intro (F13_spec x1 x2 x3 x4 x5 x6 x7 x8 x9 h _ e10) trivial))))))))))))))))))))))))))))) (hr := by kernel_rfl)
          · intro hr
            obtain rfl := Option.some.inj hr
            exact pFun_sound good tab_ok (f := 11) (its := [.g, .g, .g, .g, (.c (.bool y10) h), .g, .g, (.w .g), (.w .g), (.w .g), (.w .g), (.w .g), (.w .g), (.w .g), (.w (.p true)), (.p false), (.b false), .g, .g, .g, .g, (.c (.tuple #[.int .i64 y15.1, .int .i64 y15.2.1, .int .i64 y15.2.2]) h), .g, .g, .g, .g, .g, .g, .g, .g, .g, .g, .d, .g, (.b false), .g, .g, .g, (.b false), .g, .g, .g, .g, .g, .g, .g, .g, .g, .d, .g, .g, .g, .g, .g, .g, .g, .g, .d, (.c (.int .i64 y19) h), (.c (.int .i64 y21) h), .g, (.c (.int .i64 y23) h), .g, .g, .g, .g, .g, .g, .g, .g, .g, .g, .g, .d, .g, .g, .g, .g, .g, .d, .g, .g, .g, .g, .g, .g, (.b false), .g, .g, .g]) (args := [.agg #[.int .i64 x1, .int .i64 x2, .int .i64 x3, .int .i64 x4, .int .i64 x5, .int .i64 x6, .int .i64 x7, .int .i64 x8, .int .i64 x9]]) (h := h) (h' := h) (v := .tuple #[.agg #[.int .i64 y23, .int .i64 (IntKind.i64.wrap ((IntKind.i64.wrap (x3 - (IntKind.i64.wrap (x1 * y23)))).tdiv x2)), .int .i64 (F11__1 x2 y15), .int .i64 (IntKind.i64.wrap ((IntKind.i64.wrap (0 - x1)).tdiv y15.1))], .bool true]) (hC := (And.intro c25 (And.intro (nz g17) (And.intro (nz c14) (And.intro (show AKeep h h from (AHeap.sub_refl h)) (And.intro (F26_spec (IntKind.i64.wrap (y19 * y21)) (F11__1 x2 y15) h _ e23) (And.intro (show AKeep h h from (AHeap.sub_refl h)) (And.intro (F26_spec (IntKind.i64.wrap (x3.tdiv y15.1)) (F11__1 x2 y15) h _ e21) (And.intro (show AKeep h h from (AHeap.sub_refl h)) (And.intro (F26_spec y15.2.1 (F11__1 x2 y15) h _ e19) (And.intro (nz g17) (And.intro (nz g17) (And.intro c14 (And.intro c18 (And.intro (nz g17) (And.intro (F25_spec x1 x2 h _ e15) (And.intro c14 (And.intro c12 (And.intro c13 (And.intro (g_ff c12) (And.intro (g_tt c13) (And.intro (g_tt c13) (And.intro (g_tt c13) (And.intro (g_ff c12) (And.intro (g_ff c12) (And.intro (g_ff c12) (And.intro (g_ff c12) (And.intro (F13_spec x1 x2 x3 x4 x5 x6 x7 x8 x9 h _ e10) trivial)))))))))))))))))))))))))))) (hr := by kernel_rfl)
    · refine bind_opt fun y26 e26 => ?_
      refine guard_ok fun g28 => ?_
      refine dec_bif (fun c29 => ?_) (fun c29 => ?_)
      · intro hr
        obtain rfl := Option.some.inj hr
        exact pFun_sound good tab_ok (f := 11) (its := [.g, .g, .g, .g, (.c (.bool y10) h), .g, .g, (.w .g), (.w .g), (.w .g), (.w .g), .n, .n, .n, (.w (.p false)), (.p false), (.b false), .g, .g, .g, .g, (.c (.tuple #[.int .i64 y26.1, .int .i64 y26.2.1, .int .i64 y26.2.2]) h), .g, .g, .g, .g, .g, .g, .g, .g, .g, .g, .d, .g, (.b true), .g, .g, .g]) (args := [.agg #[.int .i64 x1, .int .i64 x2, .int .i64 x3, .int .i64 x4, .int .i64 x5, .int .i64 x6, .int .i64 x7, .int .i64 x8, .int .i64 x9]]) (h := h) (h' := h) (v := .tuple #[.agg #[.int .i64 0, .int .i64 0, .int .i64 0, .int .i64 0], .bool false]) (hC := (And.intro c29 (And.intro (nz g28) (And.intro (F25_spec x1 x2 h _ e26) (And.intro l_f (And.intro c12 (And.intro c13 (And.intro (g_ff c12) (And.intro (g_ft c13) (And.intro (g_ft c13) (And.intro (g_ft c13) (And.intro (g_ff c12) (And.intro (g_ff c12) (And.intro (g_ff c12) (And.intro (g_ff c12) (And.intro (F13_spec x1 x2 x3 x4 x5 x6 x7 x8 x9 h _ e10) trivial)))))))))))))))) (hr := by kernel_rfl)
      · refine dec_bif (fun c30 => ?_) (fun c30 => ?_)
        · intro hr
          obtain rfl := Option.some.inj hr
          exact pFun_sound good tab_ok (f := 11) (its := [.g, .g, .g, .g, (.c (.bool y10) h), .g, .g, (.w .g), (.w .g), (.w .g), (.w .g), .n, .n, .n, (.w (.p false)), (.p false), (.b false), .g, .g, .g, .g, (.c (.tuple #[.int .i64 y26.1, .int .i64 y26.2.1, .int .i64 y26.2.2]) h), .g, .g, .g, .g, .g, .g, .g, .g, .g, .g, .d, .g, (.b false), .g, .g, .g, (.b true), .g, .g, .g, .g, .d, .g, .g, .g]) (args := [.agg #[.int .i64 x1, .int .i64 x2, .int .i64 x3, .int .i64 x4, .int .i64 x5, .int .i64 x6, .int .i64 x7, .int .i64 x8, .int .i64 x9]]) (h := h) (h' := h) (v := .tuple #[.agg #[.int .i64 (IntKind.i64.wrap (x3.tdiv x1)), .int .i64 0, .int .i64 0, .int .i64 1], .bool true]) (hC := (And.intro (nz c13) (And.intro c30 (And.intro c29 (And.intro (nz g28) (And.intro (F25_spec x1 x2 h _ e26) (And.intro l_f (And.intro c12 (And.intro c13 (And.intro (g_ff c12) (And.intro (g_ft c13) (And.intro (g_ft c13) (And.intro (g_ft c13) (And.intro (g_ff c12) (And.intro (g_ff c12) (And.intro (g_ff c12) (And.intro (g_ff c12) (And.intro (F13_spec x1 x2 x3 x4 x5 x6 x7 x8 x9 h _ e10) trivial)))))))))))))))))) (hr := by kernel_rfl)
        · refine bind_opt fun y31 e31 => ?_
          refine bind_opt fun y33 e33 => ?_
          refine bind_opt fun y35 e35 => ?_
          refine dec_bif (fun c37 => ?_) (fun c37 => ?_)
          · intro hr
            obtain rfl := Option.some.inj hr
            exact pFun_sound good tab_ok (f := 11) (its := [.g, .g, .g, .g, (.c (.bool y10) h), .g, .g, (.w .g), (.w .g), (.w .g), (.w .g), .n, .n, .n, (.w (.p false)), (.p false), (.b false), .g, .g, .g, .g, (.c (.tuple #[.int .i64 y26.1, .int .i64 y26.2.1, .int .i64 y26.2.2]) h), .g, .g, .g, .g, .g, .g, .g, .g, .g, .g, .d, .g, (.b false), .g, .g, .g, (.b false), .g, .g, .g, .g, .g, .g, .g, .g, .g, .d, .g, .g, .g, .g, .g, .g, .g, .g, .d, (.c (.int .i64 y31) h), (.c (.int .i64 y33) h), .g, (.c (.int .i64 y35) h), .g, .g, .g, .g, .g, .g, .g, .g, .g, .g, .g, .d, .g, .g, .g, .g, .g, .d, .g, .g, .g, .g, .g, .g, (.b true), .g, .g, .g, .d, .g, .g, .g, .g, .g]) (args := [.agg #[.int .i64 x1, .int .i64 x2, .int .i64 x3, .int .i64 x4, .int .i64 x5, .int .i64 x6, .int .i64 x7, .int .i64 x8, .int .i64 x9]]) (h := h) (h' := h) (v := .tuple #[.agg #[.int .i64 y35, .int .i64 (IntKind.i64.wrap ((IntKind.i64.wrap (x3 - (IntKind.i64.wrap (x1 * y35)))).tdiv x2)), .int .i64 (F11__2 x2 y26), .int .i64 (IntKind.i64.wrap (x1.tdiv y26.1))], .bool true]) (hC := (And.intro (nz g28) (And.intro c37 (And.intro (nz g28) (And.intro (nz c30) (And.intro (show AKeep h h from (AHeap.sub_refl h)) (And.intro (F26_spec (IntKind.i64.wrap (y31 * y33)) (F11__2 x2 y26) h _ e35) (And.intro (show AKeep h h from (AHeap.sub_refl h)) (And.intro (F26_spec (IntKind.i64.wrap (x3.tdiv y26.1)) (F11__2 x2 y26) h _ e33) (And.intro (show AKeep h h from (AHeap.sub_refl h)) (And.intro (F26_spec y26.2.1 (F11__2 x2 y26) h _ e31) (And.intro (nz g28) (And.intro (nz g28) (And.intro c30 (And.intro c29 (And.intro (nz g28) (And.intro (F25_spec x1 x2 h _ e26) (And.intro l_f (And.intro c12 (And.intro c13 (And.intro (g_ff c12) (And.intro (g_ft c13) (And.intro (g_ft c13) (And.intro (g_ft c13) (And.intro (g_ff c12) (And.intro (g_ff c12) (And.intro (g_ff c12) (And.intro (g_ff c12) (And.intro (F13_spec x1 x2 x3 x4 x5 x6 x7 x8 x9 h _ e10) trivial))))))))))))))))))))))))))))) (hr := by kernel_rfl)
          · intro hr
            obtain rfl := Option.some.inj hr
            exact pFun_sound good tab_ok (f := 11) (its := [.g, .g, .g, .g, (.c (.bool y10) h), .g, .g, (.w .g), (.w .g), (.w .g), (.w .g), .n, .n, .n, (.w (.p false)), (.p false), (.b false), .g, .g, .g, .g, (.c (.tuple #[.int .i64 y26.1, .int .i64 y26.2.1, .int .i64 y26.2.2]) h), .g, .g, .g, .g, .g, .g, .g, .g, .g, .g, .d, .g, (.b false), .g, .g, .g, (.b false), .g, .g, .g, .g, .g, .g, .g, .g, .g, .d, .g, .g, .g, .g, .g, .g, .g, .g, .d, (.c (.int .i64 y31) h), (.c (.int .i64 y33) h), .g, (.c (.int .i64 y35) h), .g, .g, .g, .g, .g, .g, .g, .g, .g, .g, .g, .d, .g, .g, .g, .g, .g, .d, .g, .g, .g, .g, .g, .g, (.b false), .g, .g, .g]) (args := [.agg #[.int .i64 x1, .int .i64 x2, .int .i64 x3, .int .i64 x4, .int .i64 x5, .int .i64 x6, .int .i64 x7, .int .i64 x8, .int .i64 x9]]) (h := h) (h' := h) (v := .tuple #[.agg #[.int .i64 y35, .int .i64 (IntKind.i64.wrap ((IntKind.i64.wrap (x3 - (IntKind.i64.wrap (x1 * y35)))).tdiv x2)), .int .i64 (F11__2 x2 y26), .int .i64 (IntKind.i64.wrap ((IntKind.i64.wrap (0 - x1)).tdiv y26.1))], .bool true]) (hC := (And.intro c37 (And.intro (nz g28) (And.intro (nz c30) (And.intro (show AKeep h h from (AHeap.sub_refl h)) (And.intro (F26_spec (IntKind.i64.wrap (y31 * y33)) (F11__2 x2 y26) h _ e35) (And.intro (show AKeep h h from (AHeap.sub_refl h)) (And.intro (F26_spec (IntKind.i64.wrap (x3.tdiv y26.1)) (F11__2 x2 y26) h _ e33) (And.intro (show AKeep h h from (AHeap.sub_refl h)) (And.intro (F26_spec y26.2.1 (F11__2 x2 y26) h _ e31) (And.intro (nz g28) (And.intro (nz g28) (And.intro c30 (And.intro c29 (And.intro (nz g28) (And.intro (F25_spec x1 x2 h _ e26) (And.intro l_f (And.intro c12 (And.intro c13 (And.intro (g_ff c12) (And.intro (g_ft c13) (And.intro (g_ft c13) (And.intro (g_ft c13) (And.intro (g_ff c12) (And.intro (g_ff c12) (And.intro (g_ff c12) (And.intro (g_ff c12) (And.intro (F13_spec x1 x2 x3 x4 x5 x6 x7 x8 x9 h _ e10) trivial)))))))))))))))))))))))))))) (hr := by kernel_rfl)
/-! 28 jacquard/diophant.dimensions -/
def F28 (x1 : Int) (x2 : Int) (x3 : Int) (x4 : Int) (x5 : Int) (x6 : Int) (x7 : Int) (x8 : Int) (x9 : Int) (x10 : Int) (x11 : Int) (x12 : Int) (x13 : Int) : Int × Int × Int × Int × Int × Int × Int × Int × Int × Int × Int × Int :=
  (x10, x12, x4, x5, x11, x13, x6, x7, (IntKind.i64.wrap (x10 + x11)), (IntKind.i64.wrap (x12 + x13)), x8, x9)
set_option maxRecDepth 100000 in
theorem F28_spec (x1 : Int) (x2 : Int) (x3 : Int) (x4 : Int) (x5 : Int) (x6 : Int) (x7 : Int) (x8 : Int) (x9 : Int) (x10 : Int) (x11 : Int) (x12 : Int) (x13 : Int) (h : AHeap)  (r : Int × Int × Int × Int × Int × Int × Int × Int × Int × Int × Int × Int) : F28 x1 x2 x3 x4 x5 x6 x7 x8 x9 x10 x11 x12 x13 = r → ACalls Try.prog 28 [.agg #[.int .i64 x1, .int .i64 x2, .int .i64 x3, .int .i64 x4, .int .i64 x5, .int .i64 x6, .int .i64 x7, .int .i64 x8, .int .i64 x9], .agg #[.int .i64 x10, .int .i64 x11, .int .i64 x12, .int .i64 x13]] h (fun v' h'' => v' = (.agg #[.int .i64 r.1, .int .i64 r.2.1, .int .i64 r.2.2.1, .int .i64 r.2.2.2.1, .int .i64 r.2.2.2.2.1, .int .i64 r.2.2.2.2.2.1, .int .i64 r.2.2.2.2.2.2.1, .int .i64 r.2.2.2.2.2.2.2.1, .int .i64 r.2.2.2.2.2.2.2.2.1, .int .i64 r.2.2.2.2.2.2.2.2.2.1, .int .i64 r.2.2.2.2.2.2.2.2.2.2.1, .int .i64 r.2.2.2.2.2.2.2.2.2.2.2] : Value) ∧ h'' = h) := by
  unfold F28
  intro hr
  subst hr
  exact pFun_sound good tab_ok (f := 28) (its := [.g, .g, .g, .g, .g, .g, .g, .g, .g, .g, .g, .g, .g, .g, .g, .g, .g, .g, .g, .g, .g, .g, .g, .g, .g, .g, .g, .g, .g, .g, .g, .g]) (args := [.agg #[.int .i64 x1, .int .i64 x2, .int .i64 x3, .int .i64 x4, .int .i64 x5, .int .i64 x6, .int .i64 x7, .int .i64 x8, .int .i64 x9], .agg #[.int .i64 x10, .int .i64 x11, .int .i64 x12, .int .i64 x13]]) (h := h) (h' := h) (v := .agg #[.int .i64 x10, .int .i64 x12, .int .i64 x4, .int .i64 x5, .int .i64 x11, .int .i64 x13, .int .i64 x6, .int .i64 x7, .int .i64 (IntKind.i64.wrap (x10 + x11)), .int .i64 (IntKind.i64.wrap (x12 + x13)), .int .i64 x8, .int .i64 x9]) (hC := trivial) (hr := by kernel_rfl)
/-! 36 jacquard/diophant.floor -/
def F36 (x1 : Int) (x2 : Int) : Option (Int) :=
  (bif (x2 == 0) then none else
  (bif decide ((x1.tmod x2) < 0) then
   some (IntKind.i64.wrap ((IntKind.i64.wrap (x1.tdiv x2)) - 1))
  else
   some (IntKind.i64.wrap (x1.tdiv x2))))
set_option maxRecDepth 100000 in
theorem F36_spec (x1 : Int) (x2 : Int) (h : AHeap)  (r : Int) : F36 x1 x2 = some r → ACalls Try.prog 36 [.int .i64 x1, .int .i64 x2] h (fun v' h'' => v' = (.int .i64 r : Value) ∧ h'' = h) := by
  unfold F36
  refine guard_ok fun g3 => ?_
  refine dec_bif (fun c4 => ?_) (fun c4 => ?_)
  · intro hr
    obtain rfl := Option.some.inj hr
    exact pFun_sound good tab_ok (f := 36) (its := [.g, .g, .g, .d, .g, .g, .g, .d, .g, (.b true), .g, .g, .g, .g, .g]) (args := [.int .i64 x1, .int .i64 x2]) (h := h) (h' := h) (v := .int .i64 (IntKind.i64.wrap ((IntKind.i64.wrap (x1.tdiv x2)) - 1))) (hC := (And.intro c4 (And.intro (nz g3) (And.intro (nz g3) trivial)))) (hr := by kernel_rfl)
  · intro hr
    obtain rfl := Option.some.inj hr
    exact pFun_sound good tab_ok (f := 36) (its := [.g, .g, .g, .d, .g, .g, .g, .d, .g, (.b false), .g, .g]) (args := [.int .i64 x1, .int .i64 x2]) (h := h) (h' := h) (v := .int .i64 (IntKind.i64.wrap (x1.tdiv x2))) (hC := (And.intro c4 (And.intro (nz g3) (And.intro (nz g3) trivial)))) (hr := by kernel_rfl)
/-! 35 jacquard/diophant.ceiling -/
def F35 (x1 : Int) (x2 : Int) : Option (Int) :=
  (Option.bind (F36 (IntKind.i64.wrap (0 - x1)) x2) fun y3 =>
  some (IntKind.i64.wrap (0 - y3)))
set_option maxRecDepth 100000 in
theorem F35_spec (x1 : Int) (x2 : Int) (h : AHeap)  (r : Int) : F35 x1 x2 = some r → ACalls Try.prog 35 [.int .i64 x1, .int .i64 x2] h (fun v' h'' => v' = (.int .i64 r : Value) ∧ h'' = h) := by
  unfold F35
  refine bind_opt fun y3 e3 => ?_
  intro hr
  obtain rfl := Option.some.inj hr
  exact pFun_sound good tab_ok (f := 35) (its := [.g, .g, .g, .g, (.c (.int .i64 y3) h), .g, .g]) (args := [.int .i64 x1, .int .i64 x2]) (h := h) (h' := h) (v := .int .i64 (IntKind.i64.wrap (0 - y3))) (hC := (And.intro (F36_spec (IntKind.i64.wrap (0 - x1)) x2 h _ e3) trivial)) (hr := by kernel_rfl)
/-! 29 jacquard/diophant.parameters -/
def F29 (x1 : Int) (x2 : Int) (x3 : Int) (x4 : Int) : Option (Int × Int) :=
  (bif decide (x2 > 0) then
   (Option.bind (F35 (IntKind.i64.wrap (x3 - x1)) x2) fun y6 =>
   (Option.bind (F36 (IntKind.i64.wrap (x4 - x1)) x2) fun y8 =>
   some (y6, y8)))
  else
   (bif decide (x2 < 0) then
    (Option.bind (F35 (IntKind.i64.wrap (x1 - x4)) (IntKind.i64.wrap (0 - x2))) fun y11 =>
    (Option.bind (F36 (IntKind.i64.wrap (x1 - x3)) (IntKind.i64.wrap (0 - x2))) fun y13 =>
    some (y11, y13)))
   else
    (bif decide (x1 < x3) then
     some (1, 0)
    else
     (bif decide (x1 > x4) then
      some (1, 0)
     else
      some ((-4611686018427387904), 4611686018427387904)))))
set_option maxRecDepth 100000 in
theorem F29_spec (x1 : Int) (x2 : Int) (x3 : Int) (x4 : Int) (h : AHeap)  (r : Int × Int) : F29 x1 x2 x3 x4 = some r → ACalls Try.prog 29 [.int .i64 x1, .int .i64 x2, .agg #[.int .i64 x3, .int .i64 x4]] h (fun v' h'' => v' = (.agg #[.int .i64 r.1, .int .i64 r.2] : Value) ∧ h'' = h) := by
  unfold F29
  refine dec_bif (fun c5 => ?_) (fun c5 => ?_)
  · refine bind_opt fun y6 e6 => ?_
    refine bind_opt fun y8 e8 => ?_
    intro hr
    obtain rfl := Option.some.inj hr
    exact pFun_sound good tab_ok (f := 29) (its := [.g, .g, .g, .g, .g, .g, .g, .g, (.b true), .g, .g, .g, .g, .g, .g, .g, .g, .g, .g, (.c (.int .i64 y6) h), (.c (.int .i64 y8) h), .g, .g]) (args := [.int .i64 x1, .int .i64 x2, .agg #[.int .i64 x3, .int .i64 x4]]) (h := h) (h' := h) (v := .agg #[.int .i64 y6, .int .i64 y8]) (hC := (And.intro (show AKeep h h from (AHeap.sub_refl h)) (And.intro (F36_spec (IntKind.i64.wrap (x4 - x1)) x2 h _ e8) (And.intro (show AKeep h h from (AHeap.sub_refl h)) (And.intro (F35_spec (IntKind.i64.wrap (x3 - x1)) x2 h _ e6) (And.intro c5 trivial)))))) (hr := by kernel_rfl)
  · refine dec_bif (fun c10 => ?_) (fun c10 => ?_)
    · refine bind_opt fun y11 e11 => ?_
      refine bind_opt fun y13 e13 => ?_
      intro hr
      obtain rfl := Option.some.inj hr
      exact pFun_sound good tab_ok (f := 29) (its := [.g, .g, .g, .g, .g, .g, .g, .g, (.b false), .g, .g, .g, (.b true), .g, .g, .g, .g, .g, .g, .g, .g, .g, .g, .g, .g, (.c (.int .i64 y11) h), (.c (.int .i64 y13) h), .g, .g]) (args := [.int .i64 x1, .int .i64 x2, .agg #[.int .i64 x3, .int .i64 x4]]) (h := h) (h' := h) (v := .agg #[.int .i64 y11, .int .i64 y13]) (hC := (And.intro (show AKeep h h from (AHeap.sub_refl h)) (And.intro (F36_spec (IntKind.i64.wrap (x1 - x3)) (IntKind.i64.wrap (0 - x2)) h _ e13) (And.intro (show AKeep h h from (AHeap.sub_refl h)) (And.intro (F35_spec (IntKind.i64.wrap (x1 - x4)) (IntKind.i64.wrap (0 - x2)) h _ e11) (And.intro c10 (And.intro c5 trivial))))))) (hr := by kernel_rfl)
    · refine dec_bif (fun c15 => ?_) (fun c15 => ?_)
      · intro hr
        obtain rfl := Option.some.inj hr
        exact pFun_sound good tab_ok (f := 29) (its := [.g, .g, .g, .g, .g, .g, .g, .g, (.b false), .g, .g, .g, (.b false), .g, .g, .g, .g, .g, .n, .n, .n, .n, (.p true), .g, (.b true), .g, .g]) (args := [.int .i64 x1, .int .i64 x2, .agg #[.int .i64 x3, .int .i64 x4]]) (h := h) (h' := h) (v := .agg #[.int .i64 1, .int .i64 0]) (hC := (And.intro l_t (And.intro c15 (And.intro (g_tf c15) (And.intro (g_tf c15) (And.intro (g_tf c15) (And.intro (g_tf c15) (And.intro c10 (And.intro c5 trivial))))))))) (hr := by kernel_rfl)
      · refine dec_bif (fun c16 => ?_) (fun c16 => ?_)
        · intro hr
          obtain rfl := Option.some.inj hr
          exact pFun_sound good tab_ok (f := 29) (its := [.g, .g, .g, .g, .g, .g, .g, .g, (.b false), .g, .g, .g, (.b false), .g, .g, .g, .g, .g, (.w .g), (.w .g), (.w .g), (.w .g), (.p false), .g, (.b true), .g, .g]) (args := [.int .i64 x1, .int .i64 x2, .agg #[.int .i64 x3, .int .i64 x4]]) (h := h) (h' := h) (v := .agg #[.int .i64 1, .int .i64 0]) (hC := (And.intro c16 (And.intro c15 (And.intro (g_ff c15) (And.intro (g_ff c15) (And.intro (g_ff c15) (And.intro (g_ff c15) (And.intro c10 (And.intro c5 trivial))))))))) (hr := by kernel_rfl)
        · intro hr
          obtain rfl := Option.some.inj hr
          exact pFun_sound good tab_ok (f := 29) (its := [.g, .g, .g, .g, .g, .g, .g, .g, (.b false), .g, .g, .g, (.b false), .g, .g, .g, .g, .g, (.w .g), (.w .g), (.w .g), (.w .g), (.p false), .g, (.b false), .g, .g]) (args := [.int .i64 x1, .int .i64 x2, .agg #[.int .i64 x3, .int .i64 x4]]) (h := h) (h' := h) (v := .agg #[.int .i64 (-4611686018427387904), .int .i64 4611686018427387904]) (hC := (And.intro c16 (And.intro c15 (And.intro (g_ff c15) (And.intro (g_ff c15) (And.intro (g_ff c15) (And.intro (g_ff c15) (And.intro c10 (And.intro c5 trivial))))))))) (hr := by kernel_rfl)
/-! 24 jacquard/diophant.solutions -/
def F24_L : List Nat := [2, 3, 4, 6, 7]
def F24_D : List (Nat × List (Nat × Nat)) := []
def F24__1 (x1 : Int) (x2 : Int) (x3 : Int) (x4 : Int) (x5 : Int) (x6 : Int) (x7 : Int) (x8 : Int) (x9 : Int) (x10 : Int) (x11 : Int) (x12 : Int) (x13 : Int) (a15 : Int) : Int := (([((F28 x1 x2 x3 x4 x5 x6 x7 x8 x9 x10 x11 x12 x13).1), ((F28 x1 x2 x3 x4 x5 x6 x7 x8 x9 x10 x11 x12 x13).2.2.2.2.1), ((F28 x1 x2 x3 x4 x5 x6 x7 x8 x9 x10 x11 x12 x13).2.2.2.2.2.2.2.2.1)] : List Int).getD (a15).toNat 0)
def F24__2 (x1 : Int) (x2 : Int) (x3 : Int) (x4 : Int) (x5 : Int) (x6 : Int) (x7 : Int) (x8 : Int) (x9 : Int) (x10 : Int) (x11 : Int) (x12 : Int) (x13 : Int) (a15 : Int) : Int := (([((F28 x1 x2 x3 x4 x5 x6 x7 x8 x9 x10 x11 x12 x13).2.1), ((F28 x1 x2 x3 x4 x5 x6 x7 x8 x9 x10 x11 x12 x13).2.2.2.2.2.1), ((F28 x1 x2 x3 x4 x5 x6 x7 x8 x9 x10 x11 x12 x13).2.2.2.2.2.2.2.2.2.1)] : List Int).getD (a15).toNat 0)
def F24__3 (x1 : Int) (x2 : Int) (x3 : Int) (x4 : Int) (x5 : Int) (x6 : Int) (x7 : Int) (x8 : Int) (x9 : Int) (x10 : Int) (x11 : Int) (x12 : Int) (x13 : Int) (a15 : Int) : Int := (([((F28 x1 x2 x3 x4 x5 x6 x7 x8 x9 x10 x11 x12 x13).2.2.1), ((F28 x1 x2 x3 x4 x5 x6 x7 x8 x9 x10 x11 x12 x13).2.2.2.2.2.2.1), ((F28 x1 x2 x3 x4 x5 x6 x7 x8 x9 x10 x11 x12 x13).2.2.2.2.2.2.2.2.2.2.1)] : List Int).getD (a15).toNat 0)
def F24__4 (x1 : Int) (x2 : Int) (x3 : Int) (x4 : Int) (x5 : Int) (x6 : Int) (x7 : Int) (x8 : Int) (x9 : Int) (x10 : Int) (x11 : Int) (x12 : Int) (x13 : Int) (a15 : Int) : Int := (([((F28 x1 x2 x3 x4 x5 x6 x7 x8 x9 x10 x11 x12 x13).2.2.2.1), ((F28 x1 x2 x3 x4 x5 x6 x7 x8 x9 x10 x11 x12 x13).2.2.2.2.2.2.2.1), ((F28 x1 x2 x3 x4 x5 x6 x7 x8 x9 x10 x11 x12 x13).2.2.2.2.2.2.2.2.2.2.2)] : List Int).getD (a15).toNat 0)
def F24__5 (x1 : Int) (x2 : Int) (x3 : Int) (x4 : Int) (x5 : Int) (x6 : Int) (x7 : Int) (x8 : Int) (x9 : Int) (x10 : Int) (x11 : Int) (x12 : Int) (x13 : Int) (a15 : Int) : Bool := decide ((F24__3 x1 x2 x3 x4 x5 x6 x7 x8 x9 x10 x11 x12 x13 a15) > (F24__4 x1 x2 x3 x4 x5 x6 x7 x8 x9 x10 x11 x12 x13 a15))
def F24_m1_1 : List Bool := [true, true, true, true, false, true, true, true, true, true, true, false, false, true, true, true, true, true, true, true, true, true, true, true, true, true, true, true, true, true, true, true, true, true, true, true, true, true, true, true, true, true, true]
def F24_m1_0 : List Bool := [true, true, true, true, false, true, true, true, true, true, true, true, true, true, true, true, true, true, true, true, true, true, true, true, true, true, true, true, true, true, true, true, true, true, true, true, true, true, true, true, true, true, true]
def F24_s1 (x1 : Int) (x2 : Int) (x3 : Int) (x4 : Int) (x5 : Int) (x6 : Int) (x7 : Int) (x8 : Int) (x9 : Int) (x10 : Int) (x11 : Int) (x12 : Int) (x13 : Int) (a15 : Int) (a16 : Int) (a17 : Int) : Option ((Int × Int × Int) ⊕ (Nat × Int × Int)) :=
  (bif decide (a15 < 3) then
   (bif (!(inRange a15 3)) then none else
   (bif (F24__5 x1 x2 x3 x4 x5 x6 x7 x8 x9 x10 x11 x12 x13 a15) then
    some (.inr (0, 0, 0))
   else
    (Option.bind (F29 (F24__1 x1 x2 x3 x4 x5 x6 x7 x8 x9 x10 x11 x12 x13 a15) (F24__2 x1 x2 x3 x4 x5 x6 x7 x8 x9 x10 x11 x12 x13 a15) (F24__3 x1 x2 x3 x4 x5 x6 x7 x8 x9 x10 x11 x12 x13 a15) (F24__4 x1 x2 x3 x4 x5 x6 x7 x8 x9 x10 x11 x12 x13 a15)) fun y21 =>
    some (.inl ((IntKind.i64.wrap (a15 + 1)), (if y21.1 > a16 then y21.1 else a16), (if y21.2 < a17 then y21.2 else a17))))))
  else
   some (.inr (1, a16, a17)))
def F24_h1 (h : AHeap) (x1 : Int) (x2 : Int) (x3 : Int) (x4 : Int) (x5 : Int) (x6 : Int) (x7 : Int) (x8 : Int) (x9 : Int) (x10 : Int) (x11 : Int) (x12 : Int) (x13 : Int)  (a15 : Int) (a16 : Int) (a17 : Int) : AS := ⟨[junk, junk, junk, junk, .pointer (some ⟨4, 0, none⟩), junk, junk, junk, junk, junk, junk, .agg #[.int .i64 ((F28 x1 x2 x3 x4 x5 x6 x7 x8 x9 x10 x11 x12 x13).1), .int .i64 ((F28 x1 x2 x3 x4 x5 x6 x7 x8 x9 x10 x11 x12 x13).2.1), .int .i64 ((F28 x1 x2 x3 x4 x5 x6 x7 x8 x9 x10 x11 x12 x13).2.2.1), .int .i64 ((F28 x1 x2 x3 x4 x5 x6 x7 x8 x9 x10 x11 x12 x13).2.2.2.1), .int .i64 ((F28 x1 x2 x3 x4 x5 x6 x7 x8 x9 x10 x11 x12 x13).2.2.2.2.1), .int .i64 ((F28 x1 x2 x3 x4 x5 x6 x7 x8 x9 x10 x11 x12 x13).2.2.2.2.2.1), .int .i64 ((F28 x1 x2 x3 x4 x5 x6 x7 x8 x9 x10 x11 x12 x13).2.2.2.2.2.2.1), .int .i64 ((F28 x1 x2 x3 x4 x5 x6 x7 x8 x9 x10 x11 x12 x13).2.2.2.2.2.2.2.1), .int .i64 ((F28 x1 x2 x3 x4 x5 x6 x7 x8 x9 x10 x11 x12 x13).2.2.2.2.2.2.2.2.1), .int .i64 ((F28 x1 x2 x3 x4 x5 x6 x7 x8 x9 x10 x11 x12 x13).2.2.2.2.2.2.2.2.2.1), .int .i64 ((F28 x1 x2 x3 x4 x5 x6 x7 x8 x9 x10 x11 x12 x13).2.2.2.2.2.2.2.2.2.2.1), .int .i64 ((F28 x1 x2 x3 x4 x5 x6 x7 x8 x9 x10 x11 x12 x13).2.2.2.2.2.2.2.2.2.2.2)], .int .i64 a15, junk, junk, junk, junk, junk, junk, junk, junk, junk, junk, junk, junk, junk, junk, junk, junk, junk, junk, junk, junk, junk, junk, junk, junk, junk, junk, junk, junk, junk, junk], [(4, [.int .i64 a16, .int .i64 a17])], h⟩
theorem F24_d1 : drawsOk F24_D (codeOf Try.prog 24 [1, 1, 0, 1, 0, 0]) = true := by kernel_rfl
def F24_x1_0 (h : AHeap)  (r : Nat × Int × Int) : AS := ⟨[junk, junk, junk, junk, .pointer (some ⟨4, 0, none⟩), junk, junk, junk, junk, junk, junk, junk, junk, junk, junk, junk, junk, junk, junk, junk, junk, junk, junk, junk, junk, junk, junk, junk, junk, junk, junk, junk, junk, junk, junk, junk, junk, junk, junk, junk, junk, junk, junk], [(4, [.int .i64 1, .int .i64 0])], h⟩
def F24_x1_1 (h : AHeap)  (r : Nat × Int × Int) : AS := ⟨[junk, junk, junk, junk, .pointer (some ⟨4, 0, none⟩), junk, junk, junk, junk, junk, junk, junk, junk, junk, junk, junk, junk, junk, junk, junk, junk, junk, junk, junk, junk, junk, junk, junk, junk, junk, junk, junk, junk, junk, junk, junk, junk, junk, junk, junk, junk, junk, junk], [(4, [.int .i64 r.2.1, .int .i64 r.2.2])], h⟩
def F24_x1 (h : AHeap) (r : Nat × Int × Int) : Exit × AS := (bif Nat.beq r.1 0 then (.ret, (F24_x1_0 h r)) else ((.exit 0), (F24_x1_1 h r)))
set_option maxRecDepth 100000 in
theorem F24_r1 (h : AHeap) (x1 : Int) (x2 : Int) (x3 : Int) (x4 : Int) (x5 : Int) (x6 : Int) (x7 : Int) (x8 : Int) (x9 : Int) (x10 : Int) (x11 : Int) (x12 : Int) (x13 : Int) (a15 : Int) (a16 : Int) (a17 : Int) (o : (Int × Int × Int) ⊕ (Nat × Int × Int)) : F24_s1 x1 x2 x3 x4 x5 x6 x7 x8 x9 x10 x11 x12 x13 a15 a16 a17 = some o → RdF Try.prog (codeOf Try.prog 24 [1, 1, 0, 1, 0, 0]) (fun (s : Int × Int × Int) => (F24_h1 h x1 x2 x3 x4 x5 x6 x7 x8 x9 x10 x11 x12 x13 s.1 s.2.1 s.2.2)) (F24_x1 h) (F24_h1 h x1 x2 x3 x4 x5 x6 x7 x8 x9 x10 x11 x12 x13 a15 a16 a17) o := by
  unfold F24_s1
  refine dec_bif (fun c18 => ?_) (fun c18 => ?_)
  · refine guard_ok fun g19 => ?_
    refine dec_bif (fun c20 => ?_) (fun c20 => ?_)
    · intro hr
      obtain rfl := Option.some.inj hr
      show AWp Try.prog _ (Ends1 ((F24_x1 h) ((0, 0, 0) : Nat × Int × Int)).1 ((F24_x1 h) ((0, 0, 0) : Nat × Int × Int)).2) _
      exact pEnd_sound good (L := F24_L) (D := F24_D) (its := [.g, (.b true), (.iv (.agg #[.int .i64 (F24__1 x1 x2 x3 x4 x5 x6 x7 x8 x9 x10 x11 x12 x13 a15), .int .i64 (F24__2 x1 x2 x3 x4 x5 x6 x7 x8 x9 x10 x11 x12 x13 a15), .int .i64 (F24__3 x1 x2 x3 x4 x5 x6 x7 x8 x9 x10 x11 x12 x13 a15), .int .i64 (F24__4 x1 x2 x3 x4 x5 x6 x7 x8 x9 x10 x11 x12 x13 a15)])), .g, .g, .g, .g, .g, .g, .g, .g, .g, (.b true), .g, .g]) (ds := F24_m1_0) (ks := [6]) (e := ((F24_x1 h) ((0, 0, 0) : Nat × Int × Int)).1) (s2 := ((F24_x1 h) ((0, 0, 0) : Nat × Int × Int)).2) (hC := (And.intro c20 (And.intro (iread_sel (P := Try.prog) (t := 55) (cs := #[.int .i64 ((F28 x1 x2 x3 x4 x5 x6 x7 x8 x9 x10 x11 x12 x13).1), .int .i64 ((F28 x1 x2 x3 x4 x5 x6 x7 x8 x9 x10 x11 x12 x13).2.1), .int .i64 ((F28 x1 x2 x3 x4 x5 x6 x7 x8 x9 x10 x11 x12 x13).2.2.1), .int .i64 ((F28 x1 x2 x3 x4 x5 x6 x7 x8 x9 x10 x11 x12 x13).2.2.2.1), .int .i64 ((F28 x1 x2 x3 x4 x5 x6 x7 x8 x9 x10 x11 x12 x13).2.2.2.2.1), .int .i64 ((F28 x1 x2 x3 x4 x5 x6 x7 x8 x9 x10 x11 x12 x13).2.2.2.2.2.1), .int .i64 ((F28 x1 x2 x3 x4 x5 x6 x7 x8 x9 x10 x11 x12 x13).2.2.2.2.2.2.1), .int .i64 ((F28 x1 x2 x3 x4 x5 x6 x7 x8 x9 x10 x11 x12 x13).2.2.2.2.2.2.2.1), .int .i64 ((F28 x1 x2 x3 x4 x5 x6 x7 x8 x9 x10 x11 x12 x13).2.2.2.2.2.2.2.2.1), .int .i64 ((F28 x1 x2 x3 x4 x5 x6 x7 x8 x9 x10 x11 x12 x13).2.2.2.2.2.2.2.2.2.1), .int .i64 ((F28 x1 x2 x3 x4 x5 x6 x7 x8 x9 x10 x11 x12 x13).2.2.2.2.2.2.2.2.2.2.1), .int .i64 ((F28 x1 x2 x3 x4 x5 x6 x7 x8 x9 x10 x11 x12 x13).2.2.2.2.2.2.2.2.2.2.2)]) (nn g19) (fun jj => .agg #[.int .i64 (([((F28 x1 x2 x3 x4 x5 x6 x7 x8 x9 x10 x11 x12 x13).1), ((F28 x1 x2 x3 x4 x5 x6 x7 x8 x9 x10 x11 x12 x13).2.2.2.2.1), ((F28 x1 x2 x3 x4 x5 x6 x7 x8 x9 x10 x11 x12 x13).2.2.2.2.2.2.2.2.1)] : List Int).getD jj 0), .int .i64 (([((F28 x1 x2 x3 x4 x5 x6 x7 x8 x9 x10 x11 x12 x13).2.1), ((F28 x1 x2 x3 x4 x5 x6 x7 x8 x9 x10 x11 x12 x13).2.2.2.2.2.1), ((F28 x1 x2 x3 x4 x5 x6 x7 x8 x9 x10 x11 x12 x13).2.2.2.2.2.2.2.2.2.1)] : List Int).getD jj 0), .int .i64 (([((F28 x1 x2 x3 x4 x5 x6 x7 x8 x9 x10 x11 x12 x13).2.2.1), ((F28 x1 x2 x3 x4 x5 x6 x7 x8 x9 x10 x11 x12 x13).2.2.2.2.2.2.1), ((F28 x1 x2 x3 x4 x5 x6 x7 x8 x9 x10 x11 x12 x13).2.2.2.2.2.2.2.2.2.2.1)] : List Int).getD jj 0), .int .i64 (([((F28 x1 x2 x3 x4 x5 x6 x7 x8 x9 x10 x11 x12 x13).2.2.2.1), ((F28 x1 x2 x3 x4 x5 x6 x7 x8 x9 x10 x11 x12 x13).2.2.2.2.2.2.2.1), ((F28 x1 x2 x3 x4 x5 x6 x7 x8 x9 x10 x11 x12 x13).2.2.2.2.2.2.2.2.2.2.2)] : List Int).getD jj 0)]) (And.intro (And.intro (And.intro trivial (by show _ = _; kernel_rfl)) (by show _ = _; kernel_rfl)) (by show _ = _; kernel_rfl))) (And.intro c18 trivial)))) (hd := F24_d1) (h := by kernel_rfl)
    · refine bind_opt fun y21 e21 => ?_
      intro hr
      obtain rfl := Option.some.inj hr
      show AWp Try.prog _ (Ends1 .normal (F24_h1 h x1 x2 x3 x4 x5 x6 x7 x8 x9 x10 x11 x12 x13 (IntKind.i64.wrap (a15 + 1)) (if y21.1 > a16 then y21.1 else a16) (if y21.2 < a17 then y21.2 else a17))) _
      exact pEnd_sound good (L := F24_L) (D := F24_D) (its := [.g, (.b true), (.iv (.agg #[.int .i64 (F24__1 x1 x2 x3 x4 x5 x6 x7 x8 x9 x10 x11 x12 x13 a15), .int .i64 (F24__2 x1 x2 x3 x4 x5 x6 x7 x8 x9 x10 x11 x12 x13 a15), .int .i64 (F24__3 x1 x2 x3 x4 x5 x6 x7 x8 x9 x10 x11 x12 x13 a15), .int .i64 (F24__4 x1 x2 x3 x4 x5 x6 x7 x8 x9 x10 x11 x12 x13 a15)])), .g, .g, .g, .g, .g, .g, .g, .g, .g, (.b false), .g, .g, .g, .g, .g, .g, (.c (.agg #[.int .i64 y21.1, .int .i64 y21.2]) h), .g, .g, .g, .g, .g, .g, .g, .g, .g, .g, .g, .g, .g, .g, .g, .g]) (ds := F24_m1_1) (ks := [6, 7]) (e := .normal) (s2 := (F24_h1 h x1 x2 x3 x4 x5 x6 x7 x8 x9 x10 x11 x12 x13 (IntKind.i64.wrap (a15 + 1)) (if y21.1 > a16 then y21.1 else a16) (if y21.2 < a17 then y21.2 else a17))) (hC := (And.intro (F29_spec (F24__1 x1 x2 x3 x4 x5 x6 x7 x8 x9 x10 x11 x12 x13 a15) (F24__2 x1 x2 x3 x4 x5 x6 x7 x8 x9 x10 x11 x12 x13 a15) (F24__3 x1 x2 x3 x4 x5 x6 x7 x8 x9 x10 x11 x12 x13 a15) (F24__4 x1 x2 x3 x4 x5 x6 x7 x8 x9 x10 x11 x12 x13 a15) h _ e21) (And.intro c20 (And.intro (iread_sel (P := Try.prog) (t := 55) (cs := #[.int .i64 ((F28 x1 x2 x3 x4 x5 x6 x7 x8 x9 x10 x11 x12 x13).1), .int .i64 ((F28 x1 x2 x3 x4 x5 x6 x7 x8 x9 x10 x11 x12 x13).2.1), .int .i64 ((F28 x1 x2 x3 x4 x5 x6 x7 x8 x9 x10 x11 x12 x13).2.2.1), .int .i64 ((F28 x1 x2 x3 x4 x5 x6 x7 x8 x9 x10 x11 x12 x13).2.2.2.1), .int .i64 ((F28 x1 x2 x3 x4 x5 x6 x7 x8 x9 x10 x11 x12 x13).2.2.2.2.1), .int .i64 ((F28 x1 x2 x3 x4 x5 x6 x7 x8 x9 x10 x11 x12 x13).2.2.2.2.2.1), .int .i64 ((F28 x1 x2 x3 x4 x5 x6 x7 x8 x9 x10 x11 x12 x13).2.2.2.2.2.2.1), .int .i64 ((F28 x1 x2 x3 x4 x5 x6 x7 x8 x9 x10 x11 x12 x13).2.2.2.2.2.2.2.1), .int .i64 ((F28 x1 x2 x3 x4 x5 x6 x7 x8 x9 x10 x11 x12 x13).2.2.2.2.2.2.2.2.1), .int .i64 ((F28 x1 x2 x3 x4 x5 x6 x7 x8 x9 x10 x11 x12 x13).2.2.2.2.2.2.2.2.2.1), .int .i64 ((F28 x1 x2 x3 x4 x5 x6 x7 x8 x9 x10 x11 x12 x13).2.2.2.2.2.2.2.2.2.2.1), .int .i64 ((F28 x1 x2 x3 x4 x5 x6 x7 x8 x9 x10 x11 x12 x13).2.2.2.2.2.2.2.2.2.2.2)]) (nn g19) (fun jj => .agg #[.int .i64 (([((F28 x1 x2 x3 x4 x5 x6 x7 x8 x9 x10 x11 x12 x13).1), ((F28 x1 x2 x3 x4 x5 x6 x7 x8 x9 x10 x11 x12 x13).2.2.2.2.1), ((F28 x1 x2 x3 x4 x5 x6 x7 x8 x9 x10 x11 x12 x13).2.2.2.2.2.2.2.2.1)] : List Int).getD jj 0), .int .i64 (([((F28 x1 x2 x3 x4 x5 x6 x7 x8 x9 x10 x11 x12 x13).2.1), ((F28 x1 x2 x3 x4 x5 x6 x7 x8 x9 x10 x11 x12 x13).2.2.2.2.2.1), ((F28 x1 x2 x3 x4 x5 x6 x7 x8 x9 x10 x11 x12 x13).2.2.2.2.2.2.2.2.2.1)] : List Int).getD jj 0), .int .i64 (([((F28 x1 x2 x3 x4 x5 x6 x7 x8 x9 x10 x11 x12 x13).2.2.1), ((F28 x1 x2 x3 x4 x5 x6 x7 x8 x9 x10 x11 x12 x13).2.2.2.2.2.2.1), ((F28 x1 x2 x3 x4 x5 x6 x7 x8 x9 x10 x11 x12 x13).2.2.2.2.2.2.2.2.2.2.1)] : List Int).getD jj 0), .int .i64 (([((F28 x1 x2 x3 x4 x5 x6 x7 x8 x9 x10 x11 x12 x13).2.2.2.1), ((F28 x1 x2 x3 x4 x5 x6 x7 x8 x9 x10 x11 x12 x13).2.2.2.2.2.2.2.1), ((F28 x1 x2 x3 x4 x5 x6 x7 x8 x9 x10 x11 x12 x13).2.2.2.2.2.2.2.2.2.2.2)] : List Int).getD jj 0)]) (And.intro (And.intro (And.intro trivial (by show _ = _; kernel_rfl)) (by show _ = _; kernel_rfl)) (by show _ = _; kernel_rfl))) (And.intro c18 trivial))))) (hd := F24_d1) (h := by kernel_rfl)
  · intro hr
    obtain rfl := Option.some.inj hr
    show AWp Try.prog _ (Ends1 ((F24_x1 h) ((1, a16, a17) : Nat × Int × Int)).1 ((F24_x1 h) ((1, a16, a17) : Nat × Int × Int)).2) _
    exact pEnd_sound good (L := F24_L) (D := F24_D) (its := [.g, (.b false)]) (ds := F24_m1_0) (ks := []) (e := ((F24_x1 h) ((1, a16, a17) : Nat × Int × Int)).1) (s2 := ((F24_x1 h) ((1, a16, a17) : Nat × Int × Int)).2) (hC := (And.intro c18 trivial)) (hd := F24_d1) (h := by kernel_rfl)
theorem F24_l1_0 (h : AHeap) (x1 : Int) (x2 : Int) (x3 : Int) (x4 : Int) (x5 : Int) (x6 : Int) (x7 : Int) (x8 : Int) (x9 : Int) (x10 : Int) (x11 : Int) (x12 : Int) (x13 : Int) (x : Int × Int × Int) (r : Nat × Int × Int) (hl : loopO (fun (s : Int × Int × Int) => F24_s1 x1 x2 x3 x4 x5 x6 x7 x8 x9 x10 x11 x12 x13 s.1 s.2.1 s.2.2) x = some r) (q0 : Nat.beq r.1 0 = true) : AWp Try.prog (.loop (codeOf Try.prog 24 [1, 1, 0, 1, 0, 0])) (Ends1 .ret (F24_x1_0 h r)) ((fun (s : Int × Int × Int) => (F24_h1 h x1 x2 x3 x4 x5 x6 x7 x8 x9 x10 x11 x12 x13 s.1 s.2.1 s.2.2)) x) := by
  have k := loop_fun (P := Try.prog) (c := (codeOf Try.prog 24 [1, 1, 0, 1, 0, 0])) (step := (fun (s : Int × Int × Int) => F24_s1 x1 x2 x3 x4 x5 x6 x7 x8 x9 x10 x11 x12 x13 s.1 s.2.1 s.2.2)) (hd := (fun (s : Int × Int × Int) => (F24_h1 h x1 x2 x3 x4 x5 x6 x7 x8 x9 x10 x11 x12 x13 s.1 s.2.1 s.2.2))) (X := (F24_x1 h)) (by intro t; unfold F24_x1; cases Nat.beq t.1 0 <;> (intro h; cases h)) (fun x => F24_r1 h x1 x2 x3 x4 x5 x6 x7 x8 x9 x10 x11 x12 x13 x.1 x.2.1 x.2.2) hl
  simp only [F24_x1, q0, cond_true, cond_false] at k
  exact k
theorem F24_l1_1 (h : AHeap) (x1 : Int) (x2 : Int) (x3 : Int) (x4 : Int) (x5 : Int) (x6 : Int) (x7 : Int) (x8 : Int) (x9 : Int) (x10 : Int) (x11 : Int) (x12 : Int) (x13 : Int) (x : Int × Int × Int) (r : Nat × Int × Int) (hl : loopO (fun (s : Int × Int × Int) => F24_s1 x1 x2 x3 x4 x5 x6 x7 x8 x9 x10 x11 x12 x13 s.1 s.2.1 s.2.2) x = some r) (q0 : Nat.beq r.1 0 = false) : AWp Try.prog (.loop (codeOf Try.prog 24 [1, 1, 0, 1, 0, 0])) (Ends1 (.exit 0) (F24_x1_1 h r)) ((fun (s : Int × Int × Int) => (F24_h1 h x1 x2 x3 x4 x5 x6 x7 x8 x9 x10 x11 x12 x13 s.1 s.2.1 s.2.2)) x) := by
  have k := loop_fun (P := Try.prog) (c := (codeOf Try.prog 24 [1, 1, 0, 1, 0, 0])) (step := (fun (s : Int × Int × Int) => F24_s1 x1 x2 x3 x4 x5 x6 x7 x8 x9 x10 x11 x12 x13 s.1 s.2.1 s.2.2)) (hd := (fun (s : Int × Int × Int) => (F24_h1 h x1 x2 x3 x4 x5 x6 x7 x8 x9 x10 x11 x12 x13 s.1 s.2.1 s.2.2))) (X := (F24_x1 h)) (by intro t; unfold F24_x1; cases Nat.beq t.1 0 <;> (intro h; cases h)) (fun x => F24_r1 h x1 x2 x3 x4 x5 x6 x7 x8 x9 x10 x11 x12 x13 x.1 x.2.1 x.2.2) hl
  simp only [F24_x1, q0, cond_true, cond_false] at k
  exact k
def F24 (x1 : Int) (x2 : Int) (x3 : Int) (x4 : Int) (x5 : Int) (x6 : Int) (x7 : Int) (x8 : Int) (x9 : Int) (x10 : Int) (x11 : Int) (x12 : Int) (x13 : Int) : Option (Int × Int) :=
  (Option.bind (loopO (fun (s : Int × Int × Int) => F24_s1 x1 x2 x3 x4 x5 x6 x7 x8 x9 x10 x11 x12 x13 s.1 s.2.1 s.2.2) (0, (-9223372036854775808), 9223372036854775807)) fun y23 =>
  (bif (Nat.beq y23.1 0) then
   some (1, 0)
  else
   some (y23.2.1, y23.2.2)))
set_option maxRecDepth 100000 in
theorem F24_spec (x1 : Int) (x2 : Int) (x3 : Int) (x4 : Int) (x5 : Int) (x6 : Int) (x7 : Int) (x8 : Int) (x9 : Int) (x10 : Int) (x11 : Int) (x12 : Int) (x13 : Int) (h : AHeap)  (r : Int × Int) : F24 x1 x2 x3 x4 x5 x6 x7 x8 x9 x10 x11 x12 x13 = some r → ACalls Try.prog 24 [.agg #[.int .i64 x1, .int .i64 x2, .int .i64 x3, .int .i64 x4, .int .i64 x5, .int .i64 x6, .int .i64 x7, .int .i64 x8, .int .i64 x9], .agg #[.int .i64 x10, .int .i64 x11, .int .i64 x12, .int .i64 x13]] h (fun v' h'' => v' = (.agg #[.int .i64 r.1, .int .i64 r.2] : Value) ∧ h'' = h) := by
  unfold F24
  refine bind_opt fun y23 e23 => ?_
  refine dec_bif (fun c24 => ?_) (fun c24 => ?_)
  · intro hr
    obtain rfl := Option.some.inj hr
    exact pFun_sound good tab_ok (f := 24) (its := [.g, .g, .g, .g, .g, .g, .g, (.c (.agg #[.int .i64 ((F28 x1 x2 x3 x4 x5 x6 x7 x8 x9 x10 x11 x12 x13).1), .int .i64 ((F28 x1 x2 x3 x4 x5 x6 x7 x8 x9 x10 x11 x12 x13).2.1), .int .i64 ((F28 x1 x2 x3 x4 x5 x6 x7 x8 x9 x10 x11 x12 x13).2.2.1), .int .i64 ((F28 x1 x2 x3 x4 x5 x6 x7 x8 x9 x10 x11 x12 x13).2.2.2.1), .int .i64 ((F28 x1 x2 x3 x4 x5 x6 x7 x8 x9 x10 x11 x12 x13).2.2.2.2.1), .int .i64 ((F28 x1 x2 x3 x4 x5 x6 x7 x8 x9 x10 x11 x12 x13).2.2.2.2.2.1), .int .i64 ((F28 x1 x2 x3 x4 x5 x6 x7 x8 x9 x10 x11 x12 x13).2.2.2.2.2.2.1), .int .i64 ((F28 x1 x2 x3 x4 x5 x6 x7 x8 x9 x10 x11 x12 x13).2.2.2.2.2.2.2.1), .int .i64 ((F28 x1 x2 x3 x4 x5 x6 x7 x8 x9 x10 x11 x12 x13).2.2.2.2.2.2.2.2.1), .int .i64 ((F28 x1 x2 x3 x4 x5 x6 x7 x8 x9 x10 x11 x12 x13).2.2.2.2.2.2.2.2.2.1), .int .i64 ((F28 x1 x2 x3 x4 x5 x6 x7 x8 x9 x10 x11 x12 x13).2.2.2.2.2.2.2.2.2.2.1), .int .i64 ((F28 x1 x2 x3 x4 x5 x6 x7 x8 x9 x10 x11 x12 x13).2.2.2.2.2.2.2.2.2.2.2)]) h), .g, (.l F24_m1_1 [2, 3] .ret (F24_x1_0 h y23))]) (args := [.agg #[.int .i64 x1, .int .i64 x2, .int .i64 x3, .int .i64 x4, .int .i64 x5, .int .i64 x6, .int .i64 x7, .int .i64 x8, .int .i64 x9], .agg #[.int .i64 x10, .int .i64 x11, .int .i64 x12, .int .i64 x13]]) (h := h) (h' := h) (v := .agg #[.int .i64 1, .int .i64 0]) (hC := (And.intro (F24_l1_0 h x1 x2 x3 x4 x5 x6 x7 x8 x9 x10 x11 x12 x13 (0, (-9223372036854775808), 9223372036854775807) y23 e23 c24) (And.intro (F28_spec x1 x2 x3 x4 x5 x6 x7 x8 x9 x10 x11 x12 x13 h _ rfl) trivial))) (hr := by kernel_rfl)
  · intro hr
    obtain rfl := Option.some.inj hr
    exact pFun_sound good tab_ok (f := 24) (its := [.g, .g, .g, .g, .g, .g, .g, (.c (.agg #[.int .i64 ((F28 x1 x2 x3 x4 x5 x6 x7 x8 x9 x10 x11 x12 x13).1), .int .i64 ((F28 x1 x2 x3 x4 x5 x6 x7 x8 x9 x10 x11 x12 x13).2.1), .int .i64 ((F28 x1 x2 x3 x4 x5 x6 x7 x8 x9 x10 x11 x12 x13).2.2.1), .int .i64 ((F28 x1 x2 x3 x4 x5 x6 x7 x8 x9 x10 x11 x12 x13).2.2.2.1), .int .i64 ((F28 x1 x2 x3 x4 x5 x6 x7 x8 x9 x10 x11 x12 x13).2.2.2.2.1), .int .i64 ((F28 x1 x2 x3 x4 x5 x6 x7 x8 x9 x10 x11 x12 x13).2.2.2.2.2.1), .int .i64 ((F28 x1 x2 x3 x4 x5 x6 x7 x8 x9 x10 x11 x12 x13).2.2.2.2.2.2.1), .int .i64 ((F28 x1 x2 x3 x4 x5 x6 x7 x8 x9 x10 x11 x12 x13).2.2.2.2.2.2.2.1), .int .i64 ((F28 x1 x2 x3 x4 x5 x6 x7 x8 x9 x10 x11 x12 x13).2.2.2.2.2.2.2.2.1), .int .i64 ((F28 x1 x2 x3 x4 x5 x6 x7 x8 x9 x10 x11 x12 x13).2.2.2.2.2.2.2.2.2.1), .int .i64 ((F28 x1 x2 x3 x4 x5 x6 x7 x8 x9 x10 x11 x12 x13).2.2.2.2.2.2.2.2.2.2.1), .int .i64 ((F28 x1 x2 x3 x4 x5 x6 x7 x8 x9 x10 x11 x12 x13).2.2.2.2.2.2.2.2.2.2.2)]) h), .g, (.l F24_m1_1 [2, 3] (.exit 0) (F24_x1_1 h y23)), .g, .g]) (args := [.agg #[.int .i64 x1, .int .i64 x2, .int .i64 x3, .int .i64 x4, .int .i64 x5, .int .i64 x6, .int .i64 x7, .int .i64 x8, .int .i64 x9], .agg #[.int .i64 x10, .int .i64 x11, .int .i64 x12, .int .i64 x13]]) (h := h) (h' := h) (v := .agg #[.int .i64 y23.2.1, .int .i64 y23.2.2]) (hC := (And.intro (F24_l1_1 h x1 x2 x3 x4 x5 x6 x7 x8 x9 x10 x11 x12 x13 (0, (-9223372036854775808), 9223372036854775807) y23 e23 c24) (And.intro (F28_spec x1 x2 x3 x4 x5 x6 x7 x8 x9 x10 x11 x12 x13 h _ rfl) trivial))) (hr := by kernel_rfl)
/-! 10 jacquard/diophant.Solve -/
def F10__1 (x1 : Int) (x2 : Int) (x3 : Int) (x4 : Int) (x5 : Int) (x6 : Int) (x7 : Int) (x8 : Int) (x9 : Int) : Int := (if (IntKind.i64.wrap (x8 - (F23 x1 x2 x3 x4 x5 x6 x7 x8 x9).1)) > x4 then (IntKind.i64.wrap (x8 - (F23 x1 x2 x3 x4 x5 x6 x7 x8 x9).1)) else x4)
def F10 (x1 : Int) (x2 : Int) (x3 : Int) (x4 : Int) (x5 : Int) (x6 : Int) (x7 : Int) (x8 : Int) (x9 : Int) : Option (Int × Int × Bool) :=
  (Option.bind (F13 x1 x2 x3 x4 x5 x6 x7 x8 x9) fun y10 =>
  (bif (!y10) then
   some (0, 0, false)
  else
   (bif (x1 == 0) then
    (bif (x2 == 0) then
     (bif (!((F23 x1 x2 x3 x4 x5 x6 x7 x8 x9).2.2)) then
      some (0, 0, false)
     else
      (bif (x3 != 0) then
       some (0, 0, false)
      else
       some ((F10__1 x1 x2 x3 x4 x5 x6 x7 x8 x9), ((F23 x1 x2 x3 x4 x5 x6 x7 x8 x9).1), true)))
    else
     (Option.bind (F11 x1 x2 x3 x4 x5 x6 x7 x8 x9) fun y18 =>
     (bif (!y18.2.2.2.2) then
      some (0, 0, false)
     else
      (Option.bind (F24 x1 x2 x3 x4 x5 x6 x7 x8 x9 y18.1 y18.2.1 y18.2.2.1 y18.2.2.2.1) fun y21 =>
      (bif decide (y21.1 > y21.2) then
       some (0, 0, false)
      else
       (bif decide (y18.2.2.2.1 < 0) then
        some ((IntKind.i64.wrap (y18.1 + (IntKind.i64.wrap (y21.2 * y18.2.2.1)))), (IntKind.i64.wrap (y18.2.1 + (IntKind.i64.wrap (y21.2 * y18.2.2.2.1)))), true)
       else
        some ((IntKind.i64.wrap (y18.1 + (IntKind.i64.wrap (y21.1 * y18.2.2.1)))), (IntKind.i64.wrap (y18.2.1 + (IntKind.i64.wrap (y21.1 * y18.2.2.2.1)))), true)))))))
   else
    (Option.bind (F11 x1 x2 x3 x4 x5 x6 x7 x8 x9) fun y25 =>
    (bif (!y25.2.2.2.2) then
     some (0, 0, false)
    else
     (Option.bind (F24 x1 x2 x3 x4 x5 x6 x7 x8 x9 y25.1 y25.2.1 y25.2.2.1 y25.2.2.2.1) fun y28 =>
     (bif decide (y28.1 > y28.2) then
      some (0, 0, false)
     else
      (bif decide (y25.2.2.2.1 < 0) then
       some ((IntKind.i64.wrap (y25.1 + (IntKind.i64.wrap (y28.2 * y25.2.2.1)))), (IntKind.i64.wrap (y25.2.1 + (IntKind.i64.wrap (y28.2 * y25.2.2.2.1)))), true)
      else
       some ((IntKind.i64.wrap (y25.1 + (IntKind.i64.wrap (y28.1 * y25.2.2.1)))), (IntKind.i64.wrap (y25.2.1 + (IntKind.i64.wrap (y28.1 * y25.2.2.2.1)))), true)))))))))
set_option maxRecDepth 100000 in
theorem F10_spec (x1 : Int) (x2 : Int) (x3 : Int) (x4 : Int) (x5 : Int) (x6 : Int) (x7 : Int) (x8 : Int) (x9 : Int) (h : AHeap)  (r : Int × Int × Bool) : F10 x1 x2 x3 x4 x5 x6 x7 x8 x9 = some r → ACalls Try.prog 10 [.agg #[.int .i64 x1, .int .i64 x2, .int .i64 x3, .int .i64 x4, .int .i64 x5, .int .i64 x6, .int .i64 x7, .int .i64 x8, .int .i64 x9]] h (fun v' h'' => v' = (.tuple #[.int .i64 r.1, .int .i64 r.2.1, .bool r.2.2] : Value) ∧ h'' = h) := by
  unfold F10
  refine bind_opt fun y10 e10 => ?_
  refine dec_bif (fun c12 => ?_) (fun c12 => ?_)
  · intro hr
    obtain rfl := Option.some.inj hr
    exact pFun_sound good tab_ok (f := 10) (its := [.g, .g, .g, .g, .g, (.c (.bool y10) h), .g, (.b true), .g, .g, .g]) (args := [.agg #[.int .i64 x1, .int .i64 x2, .int .i64 x3, .int .i64 x4, .int .i64 x5, .int .i64 x6, .int .i64 x7, .int .i64 x8, .int .i64 x9]]) (h := h) (h' := h) (v := .tuple #[.int .i64 0, .int .i64 0, .bool false]) (hC := (And.intro c12 (And.intro (F13_spec x1 x2 x3 x4 x5 x6 x7 x8 x9 h _ e10) trivial))) (hr := by kernel_rfl)
  · refine dec_bif (fun c13 => ?_) (fun c13 => ?_)
    · refine dec_bif (fun c14 => ?_) (fun c14 => ?_)
      · refine dec_bif (fun c16 => ?_) (fun c16 => ?_)
        · intro hr
          obtain rfl := Option.some.inj hr
          exact pFun_sound good tab_ok (f := 10) (its := [.g, .g, .g, .g, .g, (.c (.bool y10) h), .g, (.b false), .g, .g, .g, .g, (.w .g), (.w .g), (.w .g), (.p true), (.b true), .g, (.c (.tuple #[.agg #[.int .i64 ((F23 x1 x2 x3 x4 x5 x6 x7 x8 x9).1), .int .i64 ((F23 x1 x2 x3 x4 x5 x6 x7 x8 x9).2.1)], .bool ((F23 x1 x2 x3 x4 x5 x6 x7 x8 x9).2.2)]) h), .g, .g, .g, .g, .g, .g, .g, .g, .g, .n, .n, .n, (.p true), (.b true), .g, .g, .g]) (args := [.agg #[.int .i64 x1, .int .i64 x2, .int .i64 x3, .int .i64 x4, .int .i64 x5, .int .i64 x6, .int .i64 x7, .int .i64 x8, .int .i64 x9]]) (h := h) (h' := h) (v := .tuple #[.int .i64 0, .int .i64 0, .bool false]) (hC := (And.intro l_t (And.intro c16 (And.intro (g_tf c16) (And.intro (g_tf c16) (And.intro (g_tf c16) (And.intro (F23_spec x1 x2 x3 x4 x5 x6 x7 x8 x9 h _ rfl) (And.intro c14 (And.intro c13 (And.intro (g_tt c13) (And.intro (g_tt c13) (And.intro (g_tt c13) (And.intro c12 (And.intro (F13_spec x1 x2 x3 x4 x5 x6 x7 x8 x9 h _ e10) trivial)))))))))))))) (hr := by kernel_rfl)
        · refine dec_bif (fun c17 => ?_) (fun c17 => ?_)
          · intro hr
            obtain rfl := Option.some.inj hr
            exact pFun_sound good tab_ok (f := 10) (its := [.g, .g, .g, .g, .g, (.c (.bool y10) h), .g, (.b false), .g, .g, .g, .g, (.w .g), (.w .g), (.w .g), (.p true), (.b true), .g, (.c (.tuple #[.agg #[.int .i64 ((F23 x1 x2 x3 x4 x5 x6 x7 x8 x9).1), .int .i64 ((F23 x1 x2 x3 x4 x5 x6 x7 x8 x9).2.1)], .bool ((F23 x1 x2 x3 x4 x5 x6 x7 x8 x9).2.2)]) h), .g, .g, .g, .g, .g, .g, .g, .g, .g, (.w .g), (.w .g), (.w .g), (.p false), (.b true), .g, .g, .g]) (args := [.agg #[.int .i64 x1, .int .i64 x2, .int .i64 x3, .int .i64 x4, .int .i64 x5, .int .i64 x6, .int .i64 x7, .int .i64 x8, .int .i64 x9]]) (h := h) (h' := h) (v := .tuple #[.int .i64 0, .int .i64 0, .bool false]) (hC := (And.intro c17 (And.intro c16 (And.intro (g_ff c16) (And.intro (g_ff c16) (And.intro (g_ff c16) (And.intro (F23_spec x1 x2 x3 x4 x5 x6 x7 x8 x9 h _ rfl) (And.intro c14 (And.intro c13 (And.intro (g_tt c13) (And.intro (g_tt c13) (And.intro (g_tt c13) (And.intro c12 (And.intro (F13_spec x1 x2 x3 x4 x5 x6 x7 x8 x9 h _ e10) trivial)))))))))))))) (hr := by kernel_rfl)
          · intro hr
            obtain rfl := Option.some.inj hr
            exact pFun_sound good tab_ok (f := 10) (its := [.g, .g, .g, .g, .g, (.c (.bool y10) h), .g, (.b false), .g, .g, .g, .g, (.w .g), (.w .g), (.w .g), (.p true), (.b true), .g, (.c (.tuple #[.agg #[.int .i64 ((F23 x1 x2 x3 x4 x5 x6 x7 x8 x9).1), .int .i64 ((F23 x1 x2 x3 x4 x5 x6 x7 x8 x9).2.1)], .bool ((F23 x1 x2 x3 x4 x5 x6 x7 x8 x9).2.2)]) h), .g, .g, .g, .g, .g, .g, .g, .g, .g, (.w .g), (.w .g), (.w .g), (.p false), (.b false), .g, .g, .g, .g, .g, .g, .g, .g, .g, .g, .g, .g, .g, .g, .g]) (args := [.agg #[.int .i64 x1, .int .i64 x2, .int .i64 x3, .int .i64 x4, .int .i64 x5, .int .i64 x6, .int .i64 x7, .int .i64 x8, .int .i64 x9]]) (h := h) (h' := h) (v := .tuple #[.int .i64 (F10__1 x1 x2 x3 x4 x5 x6 x7 x8 x9), .int .i64 ((F23 x1 x2 x3 x4 x5 x6 x7 x8 x9).1), .bool true]) (hC := (And.intro c17 (And.intro c16 (And.intro (g_ff c16) (And.intro (g_ff c16) (And.intro (g_ff c16) (And.intro (F23_spec x1 x2 x3 x4 x5 x6 x7 x8 x9 h _ rfl) (And.intro c14 (And.intro c13 (And.intro (g_tt c13) (And.intro (g_tt c13) (And.intro (g_tt c13) (And.intro c12 (And.intro (F13_spec x1 x2 x3 x4 x5 x6 x7 x8 x9 h _ e10) trivial)))))))))))))) (hr := by kernel_rfl)
      · refine bind_opt fun y18 e18 => ?_
        refine dec_bif (fun c20 => ?_) (fun c20 => ?_)
        · intro hr
          obtain rfl := Option.some.inj hr
          exact pFun_sound good tab_ok (f := 10) (its := [.g, .g, .g, .g, .g, (.c (.bool y10) h), .g, (.b false), .g, .g, .g, .g, (.w .g), (.w .g), (.w .g), (.p true), (.b false), .g, (.c (.tuple #[.agg #[.int .i64 y18.1, .int .i64 y18.2.1, .int .i64 y18.2.2.1, .int .i64 y18.2.2.2.1], .bool y18.2.2.2.2]) h), .g, .g, .g, .g, .g, .g, .g, .g, (.b true), .g, .g, .g]) (args := [.agg #[.int .i64 x1, .int .i64 x2, .int .i64 x3, .int .i64 x4, .int .i64 x5, .int .i64 x6, .int .i64 x7, .int .i64 x8, .int .i64 x9]]) (h := h) (h' := h) (v := .tuple #[.int .i64 0, .int .i64 0, .bool false]) (hC := (And.intro c20 (And.intro (F11_spec x1 x2 x3 x4 x5 x6 x7 x8 x9 h _ e18) (And.intro c14 (And.intro c13 (And.intro (g_tt c13) (And.intro (g_tt c13) (And.intro (g_tt c13) (And.intro c12 (And.intro (F13_spec x1 x2 x3 x4 x5 x6 x7 x8 x9 h _ e10) trivial)))))))))) (hr := by kernel_rfl)
        · refine bind_opt fun y21 e21 => ?_
          refine dec_bif (fun c23 => ?_) (fun c23 => ?_)
          · intro hr
            obtain rfl := Option.some.inj hr
            exact pFun_sound good tab_ok (f := 10) (its := [.g, .g, .g, .g, .g, (.c (.bool y10) h), .g, (.b false), .g, .g, .g, .g, (.w .g), (.w .g), (.w .g), (.p true), (.b false), .g, (.c (.tuple #[.agg #[.int .i64 y18.1, .int .i64 y18.2.1, .int .i64 y18.2.2.1, .int .i64 y18.2.2.2.1], .bool y18.2.2.2.2]) h), .g, .g, .g, .g, .g, .g, .g, .g, (.b false), .g, .g, (.c (.agg #[.int .i64 y21.1, .int .i64 y21.2]) h), .g, .g, .g, .g, .g, .g, .g, (.b true), .g, .g, .g]) (args := [.agg #[.int .i64 x1, .int .i64 x2, .int .i64 x3, .int .i64 x4, .int .i64 x5, .int .i64 x6, .int .i64 x7, .int .i64 x8, .int .i64 x9]]) (h := h) (h' := h) (v := .tuple #[.int .i64 0, .int .i64 0, .bool false]) (hC := (And.intro c23 (And.intro (F24_spec x1 x2 x3 x4 x5 x6 x7 x8 x9 y18.1 y18.2.1 y18.2.2.1 y18.2.2.2.1 h _ e21) (And.intro c20 (And.intro (F11_spec x1 x2 x3 x4 x5 x6 x7 x8 x9 h _ e18) (And.intro c14 (And.intro c13 (And.intro (g_tt c13) (And.intro (g_tt c13) (And.intro (g_tt c13) (And.intro c12 (And.intro (F13_spec x1 x2 x3 x4 x5 x6 x7 x8 x9 h _ e10) trivial)))))))))))) (hr := by kernel_rfl)
          · refine dec_bif (fun c24 => ?_) (fun c24 => ?_)
            · intro hr
              obtain rfl := Option.some.inj hr
              exact pFun_sound good tab_ok (f := 10) (its := [.g, .g, .g, .g, .g, (.c (.bool y10) h), .g, (.b false), .g, .g, .g, .g, (.w .g), (.w .g), (.w .g), (.p true), (.b false), .g, (.c (.tuple #[.agg #[.int .i64 y18.1, .int .i64 y18.2.1, .int .i64 y18.2.2.1, .int .i64 y18.2.2.2.1], .bool y18.2.2.2.2]) h), .g, .g, .g, .g, .g, .g, .g, .g, (.b false), .g, .g, (.c (.agg #[.int .i64 y21.1, .int .i64 y21.2]) h), .g, .g, .g, .g, .g, .g, .g, (.b false), .g, .g, .g, .g, .g, .g, (.b true), .g, .g, .g, .g, .g, .g, .g, .g, .g, .g, .g, .g, .g, .g, .g, .g, .g, .g, .g, .g]) (args := [.agg #[.int .i64 x1, .int .i64 x2, .int .i64 x3, .int .i64 x4, .int .i64 x5, .int .i64 x6, .int .i64 x7, .int .i64 x8, .int .i64 x9]]) (h := h) (h' := h) (v := .tuple #[.int .i64 (IntKind.i64.wrap (y18.1 + (IntKind.i64.wrap (y21.2 * y18.2.2.1)))), .int .i64 (IntKind.i64.wrap (y18.2.1 + (IntKind.i64.wrap (y21.2 * y18.2.2.2.1)))), .bool true]) (hC := (And.intro c24 (And.intro c23 (And.intro (F24_spec x1 x2 x3 x4 x5 x6 x7 x8 x9 y18.1 y18.2.1 y18.2.2.1 y18.2.2.2.1 h _ e21) (And.intro c20 (And.intro (F11_spec x1 x2 x3 x4 x5 x6 x7 x8 x9 h _ e18) (And.intro c14 (And.intro c13 (And.intro (g_tt c13) (And.intro (g_tt c13) (And.intro (g_tt c13) (And.intro c12 (And.intro (F13_spec x1 x2 x3 x4 x5 x6 x7 x8 x9 h _ e10) trivial))))))))))))) (hr := by kernel_rfl)
            · intro hr
              obtain rfl := Option.some.inj hr
              exact pFun_sound good tab_ok (f := 10) (its := [.g, .g, .g, .g, .g, (.c (.bool y10) h), .g, (.b false), .g, .g, .g, .g, (.w .g), (.w .g), (.w .g), (.p true), (.b false), .g, (.c (.tuple #[.agg #[.int .i64 y18.1, .int .i64 y18.2.1, .int .i64 y18.2.2.1, .int .i64 y18.2.2.2.1], .bool y18.2.2.2.2]) h), .g, .g, .g, .g, .g, .g, .g, .g, (.b false), .g, .g, (.c (.agg #[.int .i64 y21.1, .int .i64 y21.2]) h), .g, .g, .g, .g, .g, .g, .g, (.b false), .g, .g, .g, .g, .g, .g, (.b false), .g, .g, .g, .g, .g, .g, .g, .g, .g, .g, .g, .g, .g, .g, .g, .g, .g]) (args := [.agg #[.int .i64 x1, .int .i64 x2, .int .i64 x3, .int .i64 x4, .int .i64 x5, .int .i64 x6, .int .i64 x7, .int .i64 x8, .int .i64 x9]]) (h := h) (h' := h) (v := .tuple #[.int .i64 (IntKind.i64.wrap (y18.1 + (IntKind.i64.wrap (y21.1 * y18.2.2.1)))), .int .i64 (IntKind.i64.wrap (y18.2.1 + (IntKind.i64.wrap (y21.1 * y18.2.2.2.1)))), .bool true]) (hC := (And.intro c24 (And.intro c23 (And.intro (F24_spec x1 x2 x3 x4 x5 x6 x7 x8 x9 y18.1 y18.2.1 y18.2.2.1 y18.2.2.2.1 h _ e21) (And.intro c20 (And.intro (F11_spec x1 x2 x3 x4 x5 x6 x7 x8 x9 h _ e18) (And.intro c14 (And.intro c13 (And.intro (g_tt c13) (And.intro (g_tt c13) (And.intro (g_tt c13) (And.intro c12 (And.intro (F13_spec x1 x2 x3 x4 x5 x6 x7 x8 x9 h _ e10) trivial))))))))))))) (hr := by kernel_rfl)
    · refine bind_opt fun y25 e25 => ?_
      refine dec_bif (fun c27 => ?_) (fun c27 => ?_)
      · intro hr
        obtain rfl := Option.some.inj hr
        exact pFun_sound good tab_ok (f := 10) (its := [.g, .g, .g, .g, .g, (.c (.bool y10) h), .g, (.b false), .g, .g, .g, .g, .n, .n, .n, (.p false), (.b false), .g, (.c (.tuple #[.agg #[.int .i64 y25.1, .int .i64 y25.2.1, .int .i64 y25.2.2.1, .int .i64 y25.2.2.2.1], .bool y25.2.2.2.2]) h), .g, .g, .g, .g, .g, .g, .g, .g, (.b true), .g, .g, .g]) (args := [.agg #[.int .i64 x1, .int .i64 x2, .int .i64 x3, .int .i64 x4, .int .i64 x5, .int .i64 x6, .int .i64 x7, .int .i64 x8, .int .i64 x9]]) (h := h) (h' := h) (v := .tuple #[.int .i64 0, .int .i64 0, .bool false]) (hC := (And.intro c27 (And.intro (F11_spec x1 x2 x3 x4 x5 x6 x7 x8 x9 h _ e25) (And.intro l_f (And.intro c13 (And.intro (g_ft c13) (And.intro (g_ft c13) (And.intro (g_ft c13) (And.intro c12 (And.intro (F13_spec x1 x2 x3 x4 x5 x6 x7 x8 x9 h _ e10) trivial)))))))))) (hr := by kernel_rfl)
      · refine bind_opt fun y28 e28 => ?_
        refine dec_bif (fun c30 => ?_) (fun c30 => ?_)
        · intro hr
          obtain rfl := Option.some.inj hr
          exact pFun_sound good tab_ok (f := 10) (its := [.g, .g, .g, .g, .g, (.c (.bool y10) h), .g, (.b false), .g, .g, .g, .g, .n, .n, .n, (.p false), (.b false), .g, (.c (.tuple #[.agg #[.int .i64 y25.1, .int .i64 y25.2.1, .int .i64 y25.2.2.1, .int .i64 y25.2.2.2.1], .bool y25.2.2.2.2]) h), .g, .g, .g, .g, .g, .g, .g, .g, (.b false), .g, .g, (.c (.agg #[.int .i64 y28.1, .int .i64 y28.2]) h), .g, .g, .g, .g, .g, .g, .g, (.b true), .g, .g, .g]) (args := [.agg #[.int .i64 x1, .int .i64 x2, .int .i64 x3, .int .i64 x4, .int .i64 x5, .int .i64 x6, .int .i64 x7, .int .i64 x8, .int .i64 x9]]) (h := h) (h' := h) (v := .tuple #[.int .i64 0, .int .i64 0, .bool false]) (hC := (And.intro c30 (And.intro (F24_spec x1 x2 x3 x4 x5 x6 x7 x8 x9 y25.1 y25.2.1 y25.2.2.1 y25.2.2.2.1 h _ e28) (And.intro c27 (And.intro (F11_spec x1 x2 x3 x4 x5 x6 x7 x8 x9 h _ e25) (And.intro l_f (And.intro c13 (And.intro (g_ft c13) (And.intro (g_ft c13) (And.intro (g_ft c13) (And.intro c12 (And.intro (F13_spec x1 x2 x3 x4 x5 x6 x7 x8 x9 h _ e10) trivial)))))))))))) (hr := by kernel_rfl)
        · refine dec_bif (fun c31 => ?_) (fun c31 => ?_)
          · intro hr
            obtain rfl := Option.some.inj hr
            exact pFun_sound good tab_ok (f := 10) (its := [.g, .g, .g, .g, .g, (.c (.bool y10) h), .g, (.b false), .g, .g, .g, .g, .n, .n, .n, (.p false), (.b false), .g, (.c (.tuple #[.agg #[.int .i64 y25.1, .int .i64 y25.2.1, .int .i64 y25.2.2.1, .int .i64 y25.2.2.2.1], .bool y25.2.2.2.2]) h), .g, .g, .g, .g, .g, .g, .g, .g, (.b false), .g, .g, (.c (.agg #[.int .i64 y28.1, .int .i64 y28.2]) h), .g, .g, .g, .g, .g, .g, .g, (.b false), .g, .g, .g, .g, .g, .g, (.b true), .g, .g, .g, .g, .g, .g, .g, .g, .g, .g, .g, .g, .g, .g, .g, .g, .g, .g, .g, .g]) (args := [.agg #[.int .i64 x1, .int .i64 x2, .int .i64 x3, .int .i64 x4, .int .i64 x5, .int .i64 x6, .int .i64 x7, .int .i64 x8, .int .i64 x9]]) (h := h) (h' := h) (v := .tuple #[.int .i64 (IntKind.i64.wrap (y25.1 + (IntKind.i64.wrap (y28.2 * y25.2.2.1)))), .int .i64 (IntKind.i64.wrap (y25.2.1 + (IntKind.i64.wrap (y28.2 * y25.2.2.2.1)))), .bool true]) (hC := (And.intro c31 (And.intro c30 (And.intro (F24_spec x1 x2 x3 x4 x5 x6 x7 x8 x9 y25.1 y25.2.1 y25.2.2.1 y25.2.2.2.1 h _ e28) (And.intro c27 (And.intro (F11_spec x1 x2 x3 x4 x5 x6 x7 x8 x9 h _ e25) (And.intro l_f (And.intro c13 (And.intro (g_ft c13) (And.intro (g_ft c13) (And.intro (g_ft c13) (And.intro c12 (And.intro (F13_spec x1 x2 x3 x4 x5 x6 x7 x8 x9 h _ e10) trivial))))))))))))) (hr := by kernel_rfl)
          · intro hr
            obtain rfl := Option.some.inj hr
            exact pFun_sound good tab_ok (f := 10) (its := [.g, .g, .g, .g, .g, (.c (.bool y10) h), .g, (.b false), .g, .g, .g, .g, .n, .n, .n, (.p false), (.b false), .g, (.c (.tuple #[.agg #[.int .i64 y25.1, .int .i64 y25.2.1, .int .i64 y25.2.2.1, .int .i64 y25.2.2.2.1], .bool y25.2.2.2.2]) h), .g, .g, .g, .g, .g, .g, .g, .g, (.b false), .g, .g, (.c (.agg #[.int .i64 y28.1, .int .i64 y28.2]) h), .g, .g, .g, .g, .g, .g, .g, (.b false), .g, .g, .g, .g, .g, .g, (.b false), .g, .g, .g, .g, .g, .g, .g, .g, .g, .g, .g, .g, .g, .g, .g, .g, .g]) (args := [.agg #[.int .i64 x1, .int .i64 x2, .int .i64 x3, .int .i64 x4, .int .i64 x5, .int .i64 x6, .int .i64 x7, .int .i64 x8, .int .i64 x9]]) (h := h) (h' := h) (v := .tuple #[.int .i64 (IntKind.i64.wrap (y25.1 + (IntKind.i64.wrap (y28.1 * y25.2.2.1)))), .int .i64 (IntKind.i64.wrap (y25.2.1 + (IntKind.i64.wrap (y28.1 * y25.2.2.2.1)))), .bool true]) (hC := (And.intro c31 (And.intro c30 (And.intro (F24_spec x1 x2 x3 x4 x5 x6 x7 x8 x9 y25.1 y25.2.1 y25.2.2.1 y25.2.2.2.1 h _ e28) (And.intro c27 (And.intro (F11_spec x1 x2 x3 x4 x5 x6 x7 x8 x9 h _ e25) (And.intro l_f (And.intro c13 (And.intro (g_ft c13) (And.intro (g_ft c13) (And.intro (g_ft c13) (And.intro c12 (And.intro (F13_spec x1 x2 x3 x4 x5 x6 x7 x8 x9 h _ e10) trivial))))))))))))) (hr := by kernel_rfl)
/-! 27 jacquard/diophant.empty -/
def F27 (x1 : Int) (x2 : Int) (x3 : Int) (x4 : Int) (x5 : Int) (x6 : Int) (x7 : Int) (x8 : Int) (x9 : Int) : Bool :=
  (!((F23 x1 x2 x3 x4 x5 x6 x7 x8 x9).2.2))
set_option maxRecDepth 100000 in
theorem F27_spec (x1 : Int) (x2 : Int) (x3 : Int) (x4 : Int) (x5 : Int) (x6 : Int) (x7 : Int) (x8 : Int) (x9 : Int) (h : AHeap)  (r : Bool) : F27 x1 x2 x3 x4 x5 x6 x7 x8 x9 = r → ACalls Try.prog 27 [.agg #[.int .i64 x1, .int .i64 x2, .int .i64 x3, .int .i64 x4, .int .i64 x5, .int .i64 x6, .int .i64 x7, .int .i64 x8, .int .i64 x9]] h (fun v' h'' => v' = (.bool r : Value) ∧ h'' = h) := by
  unfold F27
  intro hr
  subst hr
  exact pFun_sound good tab_ok (f := 27) (its := [.g, .g, .g, (.c (.tuple #[.agg #[.int .i64 ((F23 x1 x2 x3 x4 x5 x6 x7 x8 x9).1), .int .i64 ((F23 x1 x2 x3 x4 x5 x6 x7 x8 x9).2.1)], .bool ((F23 x1 x2 x3 x4 x5 x6 x7 x8 x9).2.2)]) h), .g, .g, .g, .g, .g, .g, .g, .g, .g]) (args := [.agg #[.int .i64 x1, .int .i64 x2, .int .i64 x3, .int .i64 x4, .int .i64 x5, .int .i64 x6, .int .i64 x7, .int .i64 x8, .int .i64 x9]]) (h := h) (h' := h) (v := .bool (!((F23 x1 x2 x3 x4 x5 x6 x7 x8 x9).2.2))) (hC := (And.intro (F23_spec x1 x2 x3 x4 x5 x6 x7 x8 x9 h _ rfl) trivial)) (hr := by kernel_rfl)
/-! 12 jacquard/diophant.Refuse -/
def F12_L : List Nat := [1, 2, 7, 11, 12]
def F12_D : List (Nat × List (Nat × Nat)) := []
def F12__1 (x1 : Int) (x2 : Int) (x3 : Int) (x4 : Int) (x5 : Int) (x6 : Int) (x7 : Int) (x8 : Int) (x9 : Int) (y16 : Int × Int × Int × Int × Bool) (a25 : Int) : Int := (([((F28 x1 x2 x3 x4 x5 x6 x7 x8 x9 y16.1 y16.2.1 y16.2.2.1 y16.2.2.2.1).1), ((F28 x1 x2 x3 x4 x5 x6 x7 x8 x9 y16.1 y16.2.1 y16.2.2.1 y16.2.2.2.1).2.2.2.2.1), ((F28 x1 x2 x3 x4 x5 x6 x7 x8 x9 y16.1 y16.2.1 y16.2.2.1 y16.2.2.2.1).2.2.2.2.2.2.2.2.1)] : List Int).getD (a25).toNat 0)
def F12__2 (x1 : Int) (x2 : Int) (x3 : Int) (x4 : Int) (x5 : Int) (x6 : Int) (x7 : Int) (x8 : Int) (x9 : Int) (y16 : Int × Int × Int × Int × Bool) (a25 : Int) : Int := (([((F28 x1 x2 x3 x4 x5 x6 x7 x8 x9 y16.1 y16.2.1 y16.2.2.1 y16.2.2.2.1).2.1), ((F28 x1 x2 x3 x4 x5 x6 x7 x8 x9 y16.1 y16.2.1 y16.2.2.1 y16.2.2.2.1).2.2.2.2.2.1), ((F28 x1 x2 x3 x4 x5 x6 x7 x8 x9 y16.1 y16.2.1 y16.2.2.1 y16.2.2.2.1).2.2.2.2.2.2.2.2.2.1)] : List Int).getD (a25).toNat 0)
def F12__3 (x1 : Int) (x2 : Int) (x3 : Int) (x4 : Int) (x5 : Int) (x6 : Int) (x7 : Int) (x8 : Int) (x9 : Int) (y16 : Int × Int × Int × Int × Bool) (a25 : Int) : Int := (([((F28 x1 x2 x3 x4 x5 x6 x7 x8 x9 y16.1 y16.2.1 y16.2.2.1 y16.2.2.2.1).2.2.1), ((F28 x1 x2 x3 x4 x5 x6 x7 x8 x9 y16.1 y16.2.1 y16.2.2.1 y16.2.2.2.1).2.2.2.2.2.2.1), ((F28 x1 x2 x3 x4 x5 x6 x7 x8 x9 y16.1 y16.2.1 y16.2.2.1 y16.2.2.2.1).2.2.2.2.2.2.2.2.2.2.1)] : List Int).getD (a25).toNat 0)
def F12__4 (x1 : Int) (x2 : Int) (x3 : Int) (x4 : Int) (x5 : Int) (x6 : Int) (x7 : Int) (x8 : Int) (x9 : Int) (y16 : Int × Int × Int × Int × Bool) (a25 : Int) : Int := (([((F28 x1 x2 x3 x4 x5 x6 x7 x8 x9 y16.1 y16.2.1 y16.2.2.1 y16.2.2.2.1).2.2.2.1), ((F28 x1 x2 x3 x4 x5 x6 x7 x8 x9 y16.1 y16.2.1 y16.2.2.1 y16.2.2.2.1).2.2.2.2.2.2.2.1), ((F28 x1 x2 x3 x4 x5 x6 x7 x8 x9 y16.1 y16.2.1 y16.2.2.1 y16.2.2.2.1).2.2.2.2.2.2.2.2.2.2.2)] : List Int).getD (a25).toNat 0)
def F12__5 (x1 : Int) (x2 : Int) (x3 : Int) (x4 : Int) (x5 : Int) (x6 : Int) (x7 : Int) (x8 : Int) (x9 : Int) (y16 : Int × Int × Int × Int × Bool) (a39 : Int) : Int := (([((F28 x1 x2 x3 x4 x5 x6 x7 x8 x9 y16.1 y16.2.1 y16.2.2.1 y16.2.2.2.1).1), ((F28 x1 x2 x3 x4 x5 x6 x7 x8 x9 y16.1 y16.2.1 y16.2.2.1 y16.2.2.2.1).2.2.2.2.1), ((F28 x1 x2 x3 x4 x5 x6 x7 x8 x9 y16.1 y16.2.1 y16.2.2.1 y16.2.2.2.1).2.2.2.2.2.2.2.2.1)] : List Int).getD (a39).toNat 0)
def F12__6 (x1 : Int) (x2 : Int) (x3 : Int) (x4 : Int) (x5 : Int) (x6 : Int) (x7 : Int) (x8 : Int) (x9 : Int) (y16 : Int × Int × Int × Int × Bool) (a39 : Int) : Int := (([((F28 x1 x2 x3 x4 x5 x6 x7 x8 x9 y16.1 y16.2.1 y16.2.2.1 y16.2.2.2.1).2.1), ((F28 x1 x2 x3 x4 x5 x6 x7 x8 x9 y16.1 y16.2.1 y16.2.2.1 y16.2.2.2.1).2.2.2.2.2.1), ((F28 x1 x2 x3 x4 x5 x6 x7 x8 x9 y16.1 y16.2.1 y16.2.2.1 y16.2.2.2.1).2.2.2.2.2.2.2.2.2.1)] : List Int).getD (a39).toNat 0)
def F12__7 (x1 : Int) (x2 : Int) (x3 : Int) (x4 : Int) (x5 : Int) (x6 : Int) (x7 : Int) (x8 : Int) (x9 : Int) (y16 : Int × Int × Int × Int × Bool) (a39 : Int) : Int := (([((F28 x1 x2 x3 x4 x5 x6 x7 x8 x9 y16.1 y16.2.1 y16.2.2.1 y16.2.2.2.1).2.2.1), ((F28 x1 x2 x3 x4 x5 x6 x7 x8 x9 y16.1 y16.2.1 y16.2.2.1 y16.2.2.2.1).2.2.2.2.2.2.1), ((F28 x1 x2 x3 x4 x5 x6 x7 x8 x9 y16.1 y16.2.1 y16.2.2.1 y16.2.2.2.1).2.2.2.2.2.2.2.2.2.2.1)] : List Int).getD (a39).toNat 0)
def F12__8 (x1 : Int) (x2 : Int) (x3 : Int) (x4 : Int) (x5 : Int) (x6 : Int) (x7 : Int) (x8 : Int) (x9 : Int) (y16 : Int × Int × Int × Int × Bool) (a39 : Int) : Int := (([((F28 x1 x2 x3 x4 x5 x6 x7 x8 x9 y16.1 y16.2.1 y16.2.2.1 y16.2.2.2.1).2.2.2.1), ((F28 x1 x2 x3 x4 x5 x6 x7 x8 x9 y16.1 y16.2.1 y16.2.2.1 y16.2.2.2.1).2.2.2.2.2.2.2.1), ((F28 x1 x2 x3 x4 x5 x6 x7 x8 x9 y16.1 y16.2.1 y16.2.2.1 y16.2.2.2.1).2.2.2.2.2.2.2.2.2.2.2)] : List Int).getD (a39).toNat 0)
def F12_m1_2 : List Bool := [true, true, false, true, true, true, true, true, true, false, true, true, true, true, true, true, true, true, true, true, true, true, true, true, true, true, true, true, true, true, true, true, true, true, true, true, true, true, true, true, true, true, true, true, true, true, true, true, true, true, true, true, true, true, true, true, true, true, true, true, true, true, true, true, true, true, true, true, true, true, true, true, true, true, true, true, true, true, true]
def F12_m1_1 : List Bool := [true, true, false, false, true, true, true, true, true, true, true, true, true, true, true, true, true, true, true, true, true, true, true, true, true, true, true, true, true, true, true, true, true, true, true, true, true, true, true, true, true, true, true, true, true, true, true, true, true, true, true, true, true, true, true, true, true, true, true, true, true, true, true, true, true, true, true, true, true, true, true, true, true, true, true, true, true, true, true]
def F12_m1_0 : List Bool := [true, true, false, true, true, true, true, true, true, false, true, true, true, true, true, true, true, true, true, true, true, true, true, true, true, true, true, true, true, true, true, true, true, true, true, true, true, true, true, true, true, true, true, true, true, true, true, true, true, true, true, false, false, true, true, true, true, true, true, true, true, true, true, true, true, true, true, true, true, true, true, true, true, true, true, true, true, true, true]
def F12_s1 (x1 : Int) (x2 : Int) (x3 : Int) (x4 : Int) (x5 : Int) (x6 : Int) (x7 : Int) (x8 : Int) (x9 : Int) (y16 : Int × Int × Int × Int × Bool) (a24 : Int) (a25 : Int) (a26 : Int) (a27 : Int) : Option ((Int × Int × Int × Int) ⊕ (Nat × Int × Int × Int)) :=
  (bif decide (a25 < 3) then
   (bif (!(inRange a25 3)) then none else
   (Option.bind (F29 (F12__1 x1 x2 x3 x4 x5 x6 x7 x8 x9 y16 a25) (F12__2 x1 x2 x3 x4 x5 x6 x7 x8 x9 y16 a25) (F12__3 x1 x2 x3 x4 x5 x6 x7 x8 x9 y16 a25) (F12__4 x1 x2 x3 x4 x5 x6 x7 x8 x9 y16 a25)) fun y30 =>
   (bif ((F12__2 x1 x2 x3 x4 x5 x6 x7 x8 x9 y16 a25) != 0) then
    some (.inl ((if (IntKind.i64.wrap (y30.1 - 1)) > a24 then (IntKind.i64.wrap (y30.1 - 1)) else a24), (IntKind.i64.wrap (a25 + 1)), a26, a27))
   else
    (bif decide (y30.1 > y30.2) then
     some (.inr (0, 0, 0, 0))
    else
     some (.inl (a24, (IntKind.i64.wrap (a25 + 1)), a26, a27))))))
  else
   some (.inr (1, a24, a26, a27)))
def F12_h1 (h : AHeap) (x1 : Int) (x2 : Int) (x3 : Int) (x4 : Int) (x5 : Int) (x6 : Int) (x7 : Int) (x8 : Int) (x9 : Int) (y16 : Int × Int × Int × Int × Bool)  (a24 : Int) (a25 : Int) (a26 : Int) (a27 : Int) : AS := ⟨[junk, junk, .pointer (some ⟨2, 0, none⟩), junk, junk, junk, junk, junk, junk, .int .i64 a24, junk, junk, junk, junk, junk, junk, junk, junk, junk, junk, junk, junk, junk, junk, junk, junk, junk, junk, junk, junk, junk, junk, junk, junk, junk, junk, junk, junk, junk, junk, junk, junk, junk, junk, junk, junk, junk, junk, junk, junk, junk, .agg #[.int .i64 ((F28 x1 x2 x3 x4 x5 x6 x7 x8 x9 y16.1 y16.2.1 y16.2.2.1 y16.2.2.2.1).1), .int .i64 ((F28 x1 x2 x3 x4 x5 x6 x7 x8 x9 y16.1 y16.2.1 y16.2.2.1 y16.2.2.2.1).2.1), .int .i64 ((F28 x1 x2 x3 x4 x5 x6 x7 x8 x9 y16.1 y16.2.1 y16.2.2.1 y16.2.2.2.1).2.2.1), .int .i64 ((F28 x1 x2 x3 x4 x5 x6 x7 x8 x9 y16.1 y16.2.1 y16.2.2.1 y16.2.2.2.1).2.2.2.1), .int .i64 ((F28 x1 x2 x3 x4 x5 x6 x7 x8 x9 y16.1 y16.2.1 y16.2.2.1 y16.2.2.2.1).2.2.2.2.1), .int .i64 ((F28 x1 x2 x3 x4 x5 x6 x7 x8 x9 y16.1 y16.2.1 y16.2.2.1 y16.2.2.2.1).2.2.2.2.2.1), .int .i64 ((F28 x1 x2 x3 x4 x5 x6 x7 x8 x9 y16.1 y16.2.1 y16.2.2.1 y16.2.2.2.1).2.2.2.2.2.2.1), .int .i64 ((F28 x1 x2 x3 x4 x5 x6 x7 x8 x9 y16.1 y16.2.1 y16.2.2.1 y16.2.2.2.1).2.2.2.2.2.2.2.1), .int .i64 ((F28 x1 x2 x3 x4 x5 x6 x7 x8 x9 y16.1 y16.2.1 y16.2.2.1 y16.2.2.2.1).2.2.2.2.2.2.2.2.1), .int .i64 ((F28 x1 x2 x3 x4 x5 x6 x7 x8 x9 y16.1 y16.2.1 y16.2.2.1 y16.2.2.2.1).2.2.2.2.2.2.2.2.2.1), .int .i64 ((F28 x1 x2 x3 x4 x5 x6 x7 x8 x9 y16.1 y16.2.1 y16.2.2.1 y16.2.2.2.1).2.2.2.2.2.2.2.2.2.2.1), .int .i64 ((F28 x1 x2 x3 x4 x5 x6 x7 x8 x9 y16.1 y16.2.1 y16.2.2.1 y16.2.2.2.1).2.2.2.2.2.2.2.2.2.2.2)], .int .i64 a25, junk, junk, junk, junk, junk, junk, junk, junk, junk, junk, junk, junk, junk, junk, junk, junk, junk, junk, junk, junk, junk, junk, junk, junk, junk, junk], [(2, [.int .i64 a26, .int .i64 a27])], h⟩
theorem F12_d1 : drawsOk F12_D (codeOf Try.prog 12 [1, 1, 1, 1, 1, 0, 1, 0, 0]) = true := by kernel_rfl
def F12_x1_0 (h : AHeap)  (r : Nat × Int × Int × Int) : AS := ⟨[junk, junk, .pointer (some ⟨2, 0, none⟩), .bool true, junk, junk, junk, junk, junk, junk, junk, junk, junk, junk, junk, junk, junk, junk, junk, junk, junk, junk, junk, junk, junk, junk, junk, junk, junk, junk, junk, junk, junk, junk, junk, junk, junk, junk, junk, junk, junk, junk, junk, junk, junk, junk, junk, junk, junk, junk, junk, junk, junk, junk, junk, junk, junk, junk, junk, junk, junk, junk, junk, junk, junk, junk, junk, junk, junk, junk, junk, junk, junk, junk, junk, junk, junk, junk, junk], [(2, [.int .i64 4, .int .i64 0])], h⟩
def F12_x1_1 (h : AHeap)  (r : Nat × Int × Int × Int) : AS := ⟨[junk, junk, .pointer (some ⟨2, 0, none⟩), junk, junk, junk, junk, junk, junk, .int .i64 r.2.1, junk, junk, junk, junk, junk, junk, junk, junk, junk, junk, junk, junk, junk, junk, junk, junk, junk, junk, junk, junk, junk, junk, junk, junk, junk, junk, junk, junk, junk, junk, junk, junk, junk, junk, junk, junk, junk, junk, junk, junk, junk, junk, junk, junk, junk, junk, junk, junk, junk, junk, junk, junk, junk, junk, junk, junk, junk, junk, junk, junk, junk, junk, junk, junk, junk, junk, junk, junk, junk], [(2, [.int .i64 r.2.2.1, .int .i64 r.2.2.2])], h⟩
def F12_x1 (h : AHeap) (r : Nat × Int × Int × Int) : Exit × AS := (bif Nat.beq r.1 0 then (.ret, (F12_x1_0 h r)) else ((.exit 1), (F12_x1_1 h r)))
set_option maxRecDepth 100000 in
theorem F12_r1 (h : AHeap) (x1 : Int) (x2 : Int) (x3 : Int) (x4 : Int) (x5 : Int) (x6 : Int) (x7 : Int) (x8 : Int) (x9 : Int) (y16 : Int × Int × Int × Int × Bool) (a24 : Int) (a25 : Int) (a26 : Int) (a27 : Int) (o : (Int × Int × Int × Int) ⊕ (Nat × Int × Int × Int)) : F12_s1 x1 x2 x3 x4 x5 x6 x7 x8 x9 y16 a24 a25 a26 a27 = some o → RdF Try.prog (codeOf Try.prog 12 [1, 1, 1, 1, 1, 0, 1, 0, 0]) (fun (s : Int × Int × Int × Int) => (F12_h1 h x1 x2 x3 x4 x5 x6 x7 x8 x9 y16 s.1 s.2.1 s.2.2.1 s.2.2.2)) (F12_x1 h) (F12_h1 h x1 x2 x3 x4 x5 x6 x7 x8 x9 y16 a24 a25 a26 a27) o := by
  unfold F12_s1
  refine dec_bif (fun c28 => ?_) (fun c28 => ?_)
  · refine guard_ok fun g29 => ?_
    refine bind_opt fun y30 e30 => ?_
    refine dec_bif (fun c32 => ?_) (fun c32 => ?_)
    · intro hr
      obtain rfl := Option.some.inj hr
      show AWp Try.prog _ (Ends1 .normal (F12_h1 h x1 x2 x3 x4 x5 x6 x7 x8 x9 y16 (if (IntKind.i64.wrap (y30.1 - 1)) > a24 then (IntKind.i64.wrap (y30.1 - 1)) else a24) (IntKind.i64.wrap (a25 + 1)) a26 a27)) _
      exact pEnd_sound good (L := F12_L) (D := F12_D) (its := [.g, (.b true), (.iv (.agg #[.int .i64 (F12__1 x1 x2 x3 x4 x5 x6 x7 x8 x9 y16 a25), .int .i64 (F12__2 x1 x2 x3 x4 x5 x6 x7 x8 x9 y16 a25), .int .i64 (F12__3 x1 x2 x3 x4 x5 x6 x7 x8 x9 y16 a25), .int .i64 (F12__4 x1 x2 x3 x4 x5 x6 x7 x8 x9 y16 a25)])), .g, .g, .g, .g, .g, .g, .g, .g, (.c (.agg #[.int .i64 y30.1, .int .i64 y30.2]) h), .g, .g, .g, .g, .g, (.b true), .g, .g, .g, .g, .g, .g, .g, .g]) (ds := F12_m1_0) (ks := [11, 12]) (e := .normal) (s2 := (F12_h1 h x1 x2 x3 x4 x5 x6 x7 x8 x9 y16 (if (IntKind.i64.wrap (y30.1 - 1)) > a24 then (IntKind.i64.wrap (y30.1 - 1)) else a24) (IntKind.i64.wrap (a25 + 1)) a26 a27)) (hC := (And.intro c32 (And.intro (F29_spec (F12__1 x1 x2 x3 x4 x5 x6 x7 x8 x9 y16 a25) (F12__2 x1 x2 x3 x4 x5 x6 x7 x8 x9 y16 a25) (F12__3 x1 x2 x3 x4 x5 x6 x7 x8 x9 y16 a25) (F12__4 x1 x2 x3 x4 x5 x6 x7 x8 x9 y16 a25) h _ e30) (And.intro (iread_sel (P := Try.prog) (t := 55) (cs := #[.int .i64 ((F28 x1 x2 x3 x4 x5 x6 x7 x8 x9 y16.1 y16.2.1 y16.2.2.1 y16.2.2.2.1).1), .int .i64 ((F28 x1 x2 x3 x4 x5 x6 x7 x8 x9 y16.1 y16.2.1 y16.2.2.1 y16.2.2.2.1).2.1), .int .i64 ((F28 x1 x2 x3 x4 x5 x6 x7 x8 x9 y16.1 y16.2.1 y16.2.2.1 y16.2.2.2.1).2.2.1), .int .i64 ((F28 x1 x2 x3 x4 x5 x6 x7 x8 x9 y16.1 y16.2.1 y16.2.2.1 y16.2.2.2.1).2.2.2.1), .int .i64 ((F28 x1 x2 x3 x4 x5 x6 x7 x8 x9 y16.1 y16.2.1 y16.2.2.1 y16.2.2.2.1).2.2.2.2.1), .int .i64 ((F28 x1 x2 x3 x4 x5 x6 x7 x8 x9 y16.1 y16.2.1 y16.2.2.1 y16.2.2.2.1).2.2.2.2.2.1), .int .i64 ((F28 x1 x2 x3 x4 x5 x6 x7 x8 x9 y16.1 y16.2.1 y16.2.2.1 y16.2.2.2.1).2.2.2.2.2.2.1), .int .i64 ((F28 x1 x2 x3 x4 x5 x6 x7 x8 x9 y16.1 y16.2.1 y16.2.2.1 y16.2.2.2.1).2.2.2.2.2.2.2.1), .int .i64 ((F28 x1 x2 x3 x4 x5 x6 x7 x8 x9 y16.1 y16.2.1 y16.2.2.1 y16.2.2.2.1).2.2.2.2.2.2.2.2.1), .int .i64 ((F28 x1 x2 x3 x4 x5 x6 x7 x8 x9 y16.1 y16.2.1 y16.2.2.1 y16.2.2.2.1).2.2.2.2.2.2.2.2.2.1), .int .i64 ((F28 x1 x2 x3 x4 x5 x6 x7 x8 x9 y16.1 y16.2.1 y16.2.2.1 y16.2.2.2.1).2.2.2.2.2.2.2.2.2.2.1), .int .i64 ((F28 x1 x2 x3 x4 x5 x6 x7 x8 x9 y16.1 y16.2.1 y16.2.2.1 y16.2.2.2.1).2.2.2.2.2.2.2.2.2.2.2)]) (nn g29) (fun jj => .agg #[.int .i64 (([((F28 x1 x2 x3 x4 x5 x6 x7 x8 x9 y16.1 y16.2.1 y16.2.2.1 y16.2.2.2.1).1), ((F28 x1 x2 x3 x4 x5 x6 x7 x8 x9 y16.1 y16.2.1 y16.2.2.1 y16.2.2.2.1).2.2.2.2.1), ((F28 x1 x2 x3 x4 x5 x6 x7 x8 x9 y16.1 y16.2.1 y16.2.2.1 y16.2.2.2.1).2.2.2.2.2.2.2.2.1)] : List Int).getD jj 0), .int .i64 (([((F28 x1 x2 x3 x4 x5 x6 x7 x8 x9 y16.1 y16.2.1 y16.2.2.1 y16.2.2.2.1).2.1), ((F28 x1 x2 x3 x4 x5 x6 x7 x8 x9 y16.1 y16.2.1 y16.2.2.1 y16.2.2.2.1).2.2.2.2.2.1), ((F28 x1 x2 x3 x4 x5 x6 x7 x8 x9 y16.1 y16.2.1 y16.2.2.1 y16.2.2.2.1).2.2.2.2.2.2.2.2.2.1)] : List Int).getD jj 0), .int .i64 (([((F28 x1 x2 x3 x4 x5 x6 x7 x8 x9 y16.1 y16.2.1 y16.2.2.1 y16.2.2.2.1).2.2.1), ((F28 x1 x2 x3 x4 x5 x6 x7 x8 x9 y16.1 y16.2.1 y16.2.2.1 y16.2.2.2.1).2.2.2.2.2.2.1), ((F28 x1 x2 x3 x4 x5 x6 x7 x8 x9 y16.1 y16.2.1 y16.2.2.1 y16.2.2.2.1).2.2.2.2.2.2.2.2.2.2.1)] : List Int).getD jj 0), .int .i64 (([((F28 x1 x2 x3 x4 x5 x6 x7 x8 x9 y16.1 y16.2.1 y16.2.2.1 y16.2.2.2.1).2.2.2.1), ((F28 x1 x2 x3 x4 x5 x6 x7 x8 x9 y16.1 y16.2.1 y16.2.2.1 y16.2.2.2.1).2.2.2.2.2.2.2.1), ((F28 x1 x2 x3 x4 x5 x6 x7 x8 x9 y16.1 y16.2.1 y16.2.2.1 y16.2.2.2.1).2.2.2.2.2.2.2.2.2.2.2)] : List Int).getD jj 0)]) (And.intro (And.intro (And.intro trivial (by show _ = _; kernel_rfl)) (by show _ = _; kernel_rfl)) (by show _ = _; kernel_rfl))) (And.intro c28 trivial))))) (hd := F12_d1) (h := by kernel_rfl)
    · refine dec_bif (fun c33 => ?_) (fun c33 => ?_)
      · intro hr
        obtain rfl := Option.some.inj hr
        show AWp Try.prog _ (Ends1 ((F12_x1 h) ((0, 0, 0, 0) : Nat × Int × Int × Int)).1 ((F12_x1 h) ((0, 0, 0, 0) : Nat × Int × Int × Int)).2) _
        exact pEnd_sound good (L := F12_L) (D := F12_D) (its := [.g, (.b true), (.iv (.agg #[.int .i64 (F12__1 x1 x2 x3 x4 x5 x6 x7 x8 x9 y16 a25), .int .i64 (F12__2 x1 x2 x3 x4 x5 x6 x7 x8 x9 y16 a25), .int .i64 (F12__3 x1 x2 x3 x4 x5 x6 x7 x8 x9 y16 a25), .int .i64 (F12__4 x1 x2 x3 x4 x5 x6 x7 x8 x9 y16 a25)])), .g, .g, .g, .g, .g, .g, .g, .g, (.c (.agg #[.int .i64 y30.1, .int .i64 y30.2]) h), .g, .g, .g, .g, .g, (.b false), .g, .g, .g, .g, .g, (.b true), .g, .g, .g]) (ds := F12_m1_1) (ks := [11, 12]) (e := ((F12_x1 h) ((0, 0, 0, 0) : Nat × Int × Int × Int)).1) (s2 := ((F12_x1 h) ((0, 0, 0, 0) : Nat × Int × Int × Int)).2) (hC := (And.intro c33 (And.intro c32 (And.intro (F29_spec (F12__1 x1 x2 x3 x4 x5 x6 x7 x8 x9 y16 a25) (F12__2 x1 x2 x3 x4 x5 x6 x7 x8 x9 y16 a25) (F12__3 x1 x2 x3 x4 x5 x6 x7 x8 x9 y16 a25) (F12__4 x1 x2 x3 x4 x5 x6 x7 x8 x9 y16 a25) h _ e30) (And.intro (iread_sel (P := Try.prog) (t := 55) (cs := #[.int .i64 ((F28 x1 x2 x3 x4 x5 x6 x7 x8 x9 y16.1 y16.2.1 y16.2.2.1 y16.2.2.2.1).1), .int .i64 ((F28 x1 x2 x3 x4 x5 x6 x7 x8 x9 y16.1 y16.2.1 y16.2.2.1 y16.2.2.2.1).2.1), .int .i64 ((F28 x1 x2 x3 x4 x5 x6 x7 x8 x9 y16.1 y16.2.1 y16.2.2.1 y16.2.2.2.1).2.2.1), .int .i64 ((F28 x1 x2 x3 x4 x5 x6 x7 x8 x9 y16.1 y16.2.1 y16.2.2.1 y16.2.2.2.1).2.2.2.1), .int .i64 ((F28 x1 x2 x3 x4 x5 x6 x7 x8 x9 y16.1 y16.2.1 y16.2.2.1 y16.2.2.2.1).2.2.2.2.1), .int .i64 ((F28 x1 x2 x3 x4 x5 x6 x7 x8 x9 y16.1 y16.2.1 y16.2.2.1 y16.2.2.2.1).2.2.2.2.2.1), .int .i64 ((F28 x1 x2 x3 x4 x5 x6 x7 x8 x9 y16.1 y16.2.1 y16.2.2.1 y16.2.2.2.1).2.2.2.2.2.2.1), .int .i64 ((F28 x1 x2 x3 x4 x5 x6 x7 x8 x9 y16.1 y16.2.1 y16.2.2.1 y16.2.2.2.1).2.2.2.2.2.2.2.1), .int .i64 ((F28 x1 x2 x3 x4 x5 x6 x7 x8 x9 y16.1 y16.2.1 y16.2.2.1 y16.2.2.2.1).2.2.2.2.2.2.2.2.1), .int .i64 ((F28 x1 x2 x3 x4 x5 x6 x7 x8 x9 y16.1 y16.2.1 y16.2.2.1 y16.2.2.2.1).2.2.2.2.2.2.2.2.2.1), .int .i64 ((F28 x1 x2 x3 x4 x5 x6 x7 x8 x9 y16.1 y16.2.1 y16.2.2.1 y16.2.2.2.1).2.2.2.2.2.2.2.2.2.2.1), .int .i64 ((F28 x1 x2 x3 x4 x5 x6 x7 x8 x9 y16.1 y16.2.1 y16.2.2.1 y16.2.2.2.1).2.2.2.2.2.2.2.2.2.2.2)]) (nn g29) (fun jj => .agg #[.int .i64 (([((F28 x1 x2 x3 x4 x5 x6 x7 x8 x9 y16.1 y16.2.1 y16.2.2.1 y16.2.2.2.1).1), ((F28 x1 x2 x3 x4 x5 x6 x7 x8 x9 y16.1 y16.2.1 y16.2.2.1 y16.2.2.2.1).2.2.2.2.1), ((F28 x1 x2 x3 x4 x5 x6 x7 x8 x9 y16.1 y16.2.1 y16.2.2.1 y16.2.2.2.1).2.2.2.2.2.2.2.2.1)] : List Int).getD jj 0), .int .i64 (([((F28 x1 x2 x3 x4 x5 x6 x7 x8 x9 y16.1 y16.2.1 y16.2.2.1 y16.2.2.2.1).2.1), ((F28 x1 x2 x3 x4 x5 x6 x7 x8 x9 y16.1 y16.2.1 y16.2.2.1 y16.2.2.2.1).2.2.2.2.2.1), ((F28 x1 x2 x3 x4 x5 x6 x7 x8 x9 y16.1 y16.2.1 y16.2.2.1 y16.2.2.2.1).2.2.2.2.2.2.2.2.2.1)] : List Int).getD jj 0), .int .i64 (([((F28 x1 x2 x3 x4 x5 x6 x7 x8 x9 y16.1 y16.2.1 y16.2.2.1 y16.2.2.2.1).2.2.1), ((F28 x1 x2 x3 x4 x5 x6 x7 x8 x9 y16.1 y16.2.1 y16.2.2.1 y16.2.2.2.1).2.2.2.2.2.2.1), ((F28 x1 x2 x3 x4 x5 x6 x7 x8 x9 y16.1 y16.2.1 y16.2.2.1 y16.2.2.2.1).2.2.2.2.2.2.2.2.2.2.1)] : List Int).getD jj 0), .int .i64 (([((F28 x1 x2 x3 x4 x5 x6 x7 x8 x9 y16.1 y16.2.1 y16.2.2.1 y16.2.2.2.1).2.2.2.1), ((F28 x1 x2 x3 x4 x5 x6 x7 x8 x9 y16.1 y16.2.1 y16.2.2.1 y16.2.2.2.1).2.2.2.2.2.2.2.1), ((F28 x1 x2 x3 x4 x5 x6 x7 x8 x9 y16.1 y16.2.1 y16.2.2.1 y16.2.2.2.1).2.2.2.2.2.2.2.2.2.2.2)] : List Int).getD jj 0)]) (And.intro (And.intro (And.intro trivial (by show _ = _; kernel_rfl)) (by show _ = _; kernel_rfl)) (by show _ = _; kernel_rfl))) (And.intro c28 trivial)))))) (hd := F12_d1) (h := by kernel_rfl)
      · intro hr
        obtain rfl := Option.some.inj hr
        show AWp Try.prog _ (Ends1 .normal (F12_h1 h x1 x2 x3 x4 x5 x6 x7 x8 x9 y16 a24 (IntKind.i64.wrap (a25 + 1)) a26 a27)) _
        exact pEnd_sound good (L := F12_L) (D := F12_D) (its := [.g, (.b true), (.iv (.agg #[.int .i64 (F12__1 x1 x2 x3 x4 x5 x6 x7 x8 x9 y16 a25), .int .i64 (F12__2 x1 x2 x3 x4 x5 x6 x7 x8 x9 y16 a25), .int .i64 (F12__3 x1 x2 x3 x4 x5 x6 x7 x8 x9 y16 a25), .int .i64 (F12__4 x1 x2 x3 x4 x5 x6 x7 x8 x9 y16 a25)])), .g, .g, .g, .g, .g, .g, .g, .g, (.c (.agg #[.int .i64 y30.1, .int .i64 y30.2]) h), .g, .g, .g, .g, .g, (.b false), .g, .g, .g, .g, .g, (.b false), .g, .g]) (ds := F12_m1_0) (ks := [11, 12]) (e := .normal) (s2 := (F12_h1 h x1 x2 x3 x4 x5 x6 x7 x8 x9 y16 a24 (IntKind.i64.wrap (a25 + 1)) a26 a27)) (hC := (And.intro c33 (And.intro c32 (And.intro (F29_spec (F12__1 x1 x2 x3 x4 x5 x6 x7 x8 x9 y16 a25) (F12__2 x1 x2 x3 x4 x5 x6 x7 x8 x9 y16 a25) (F12__3 x1 x2 x3 x4 x5 x6 x7 x8 x9 y16 a25) (F12__4 x1 x2 x3 x4 x5 x6 x7 x8 x9 y16 a25) h _ e30) (And.intro (iread_sel (P := Try.prog) (t := 55) (cs := #[.int .i64 ((F28 x1 x2 x3 x4 x5 x6 x7 x8 x9 y16.1 y16.2.1 y16.2.2.1 y16.2.2.2.1).1), .int .i64 ((F28 x1 x2 x3 x4 x5 x6 x7 x8 x9 y16.1 y16.2.1 y16.2.2.1 y16.2.2.2.1).2.1), .int .i64 ((F28 x1 x2 x3 x4 x5 x6 x7 x8 x9 y16.1 y16.2.1 y16.2.2.1 y16.2.2.2.1).2.2.1), .int .i64 ((F28 x1 x2 x3 x4 x5 x6 x7 x8 x9 y16.1 y16.2.1 y16.2.2.1 y16.2.2.2.1).2.2.2.1), .int .i64 ((F28 x1 x2 x3 x4 x5 x6 x7 x8 x9 y16.1 y16.2.1 y16.2.2.1 y16.2.2.2.1).2.2.2.2.1), .int .i64 ((F28 x1 x2 x3 x4 x5 x6 x7 x8 x9 y16.1 y16.2.1 y16.2.2.1 y16.2.2.2.1).2.2.2.2.2.1), .int .i64 ((F28 x1 x2 x3 x4 x5 x6 x7 x8 x9 y16.1 y16.2.1 y16.2.2.1 y16.2.2.2.1).2.2.2.2.2.2.1), .int .i64 ((F28 x1 x2 x3 x4 x5 x6 x7 x8 x9 y16.1 y16.2.1 y16.2.2.1 y16.2.2.2.1).2.2.2.2.2.2.2.1), .int .i64 ((F28 x1 x2 x3 x4 x5 x6 x7 x8 x9 y16.1 y16.2.1 y16.2.2.1 y16.2.2.2.1).2.2.2.2.2.2.2.2.1), .int .i64 ((F28 x1 x2 x3 x4 x5 x6 x7 x8 x9 y16.1 y16.2.1 y16.2.2.1 y16.2.2.2.1).2.2.2.2.2.2.2.2.2.1), .int .i64 ((F28 x1 x2 x3 x4 x5 x6 x7 x8 x9 y16.1 y16.2.1 y16.2.2.1 y16.2.2.2.1).2.2.2.2.2.2.2.2.2.2.1), .int .i64 ((F28 x1 x2 x3 x4 x5 x6 x7 x8 x9 y16.1 y16.2.1 y16.2.2.1 y16.2.2.2.1).2.2.2.2.2.2.2.2.2.2.2)]) (nn g29) (fun jj => .agg #[.int .i64 (([((F28 x1 x2 x3 x4 x5 x6 x7 x8 x9 y16.1 y16.2.1 y16.2.2.1 y16.2.2.2.1).1), ((F28 x1 x2 x3 x4 x5 x6 x7 x8 x9 y16.1 y16.2.1 y16.2.2.1 y16.2.2.2.1).2.2.2.2.1), ((F28 x1 x2 x3 x4 x5 x6 x7 x8 x9 y16.1 y16.2.1 y16.2.2.1 y16.2.2.2.1).2.2.2.2.2.2.2.2.1)] : List Int).getD jj 0), .int .i64 (([((F28 x1 x2 x3 x4 x5 x6 x7 x8 x9 y16.1 y16.2.1 y16.2.2.1 y16.2.2.2.1).2.1), ((F28 x1 x2 x3 x4 x5 x6 x7 x8 x9 y16.1 y16.2.1 y16.2.2.1 y16.2.2.2.1).2.2.2.2.2.1), ((F28 x1 x2 x3 x4 x5 x6 x7 x8 x9 y16.1 y16.2.1 y16.2.2.1 y16.2.2.2.1).2.2.2.2.2.2.2.2.2.1)] : List Int).getD jj 0), .int .i64 (([((F28 x1 x2 x3 x4 x5 x6 x7 x8 x9 y16.1 y16.2.1 y16.2.2.1 y16.2.2.2.1).2.2.1), ((F28 x1 x2 x3 x4 x5 x6 x7 x8 x9 y16.1 y16.2.1 y16.2.2.1 y16.2.2.2.1).2.2.2.2.2.2.1), ((F28 x1 x2 x3 x4 x5 x6 x7 x8 x9 y16.1 y16.2.1 y16.2.2.1 y16.2.2.2.1).2.2.2.2.2.2.2.2.2.2.1)] : List Int).getD jj 0), .int .i64 (([((F28 x1 x2 x3 x4 x5 x6 x7 x8 x9 y16.1 y16.2.1 y16.2.2.1 y16.2.2.2.1).2.2.2.1), ((F28 x1 x2 x3 x4 x5 x6 x7 x8 x9 y16.1 y16.2.1 y16.2.2.1 y16.2.2.2.1).2.2.2.2.2.2.2.1), ((F28 x1 x2 x3 x4 x5 x6 x7 x8 x9 y16.1 y16.2.1 y16.2.2.1 y16.2.2.2.1).2.2.2.2.2.2.2.2.2.2.2)] : List Int).getD jj 0)]) (And.intro (And.intro (And.intro trivial (by show _ = _; kernel_rfl)) (by show _ = _; kernel_rfl)) (by show _ = _; kernel_rfl))) (And.intro c28 trivial)))))) (hd := F12_d1) (h := by kernel_rfl)
  · intro hr
    obtain rfl := Option.some.inj hr
    show AWp Try.prog _ (Ends1 ((F12_x1 h) ((1, a24, a26, a27) : Nat × Int × Int × Int)).1 ((F12_x1 h) ((1, a24, a26, a27) : Nat × Int × Int × Int)).2) _
    exact pEnd_sound good (L := F12_L) (D := F12_D) (its := [.g, (.b false)]) (ds := F12_m1_2) (ks := []) (e := ((F12_x1 h) ((1, a24, a26, a27) : Nat × Int × Int × Int)).1) (s2 := ((F12_x1 h) ((1, a24, a26, a27) : Nat × Int × Int × Int)).2) (hC := (And.intro c28 trivial)) (hd := F12_d1) (h := by kernel_rfl)
theorem F12_l1_0 (h : AHeap) (x1 : Int) (x2 : Int) (x3 : Int) (x4 : Int) (x5 : Int) (x6 : Int) (x7 : Int) (x8 : Int) (x9 : Int) (y16 : Int × Int × Int × Int × Bool) (x : Int × Int × Int × Int) (r : Nat × Int × Int × Int) (hl : loopO (fun (s : Int × Int × Int × Int) => F12_s1 x1 x2 x3 x4 x5 x6 x7 x8 x9 y16 s.1 s.2.1 s.2.2.1 s.2.2.2) x = some r) (q0 : Nat.beq r.1 0 = true) : AWp Try.prog (.loop (codeOf Try.prog 12 [1, 1, 1, 1, 1, 0, 1, 0, 0])) (Ends1 .ret (F12_x1_0 h r)) ((fun (s : Int × Int × Int × Int) => (F12_h1 h x1 x2 x3 x4 x5 x6 x7 x8 x9 y16 s.1 s.2.1 s.2.2.1 s.2.2.2)) x) := by
  have k := loop_fun (P := Try.prog) (c := (codeOf Try.prog 12 [1, 1, 1, 1, 1, 0, 1, 0, 0])) (step := (fun (s : Int × Int × Int × Int) => F12_s1 x1 x2 x3 x4 x5 x6 x7 x8 x9 y16 s.1 s.2.1 s.2.2.1 s.2.2.2)) (hd := (fun (s : Int × Int × Int × Int) => (F12_h1 h x1 x2 x3 x4 x5 x6 x7 x8 x9 y16 s.1 s.2.1 s.2.2.1 s.2.2.2))) (X := (F12_x1 h)) (by intro t; unfold F12_x1; cases Nat.beq t.1 0 <;> (intro h; cases h)) (fun x => F12_r1 h x1 x2 x3 x4 x5 x6 x7 x8 x9 y16 x.1 x.2.1 x.2.2.1 x.2.2.2) hl
  simp only [F12_x1, q0, cond_true, cond_false] at k
  exact k
theorem F12_l1_1 (h : AHeap) (x1 : Int) (x2 : Int) (x3 : Int) (x4 : Int) (x5 : Int) (x6 : Int) (x7 : Int) (x8 : Int) (x9 : Int) (y16 : Int × Int × Int × Int × Bool) (x : Int × Int × Int × Int) (r : Nat × Int × Int × Int) (hl : loopO (fun (s : Int × Int × Int × Int) => F12_s1 x1 x2 x3 x4 x5 x6 x7 x8 x9 y16 s.1 s.2.1 s.2.2.1 s.2.2.2) x = some r) (q0 : Nat.beq r.1 0 = false) : AWp Try.prog (.loop (codeOf Try.prog 12 [1, 1, 1, 1, 1, 0, 1, 0, 0])) (Ends1 (.exit 1) (F12_x1_1 h r)) ((fun (s : Int × Int × Int × Int) => (F12_h1 h x1 x2 x3 x4 x5 x6 x7 x8 x9 y16 s.1 s.2.1 s.2.2.1 s.2.2.2)) x) := by
  have k := loop_fun (P := Try.prog) (c := (codeOf Try.prog 12 [1, 1, 1, 1, 1, 0, 1, 0, 0])) (step := (fun (s : Int × Int × Int × Int) => F12_s1 x1 x2 x3 x4 x5 x6 x7 x8 x9 y16 s.1 s.2.1 s.2.2.1 s.2.2.2)) (hd := (fun (s : Int × Int × Int × Int) => (F12_h1 h x1 x2 x3 x4 x5 x6 x7 x8 x9 y16 s.1 s.2.1 s.2.2.1 s.2.2.2))) (X := (F12_x1 h)) (by intro t; unfold F12_x1; cases Nat.beq t.1 0 <;> (intro h; cases h)) (fun x => F12_r1 h x1 x2 x3 x4 x5 x6 x7 x8 x9 y16 x.1 x.2.1 x.2.2.1 x.2.2.2) hl
  simp only [F12_x1, q0, cond_true, cond_false] at k
  exact k
def F12_m2_2 : List Bool := [true, true, false, true, true, true, true, true, true, false, true, true, true, true, true, true, true, true, true, true, true, true, true, true, true, true, true, true, true, true, true, true, true, true, true, true, true, true, true, true, true, true, true, true, true, true, true, true, true, true, true, true, true, true, true, true, true, true, true, true, true, true, true, true, true, true, true, true, true, true, true, true, true, true, true, true, true, true, true]
def F12_m2_1 : List Bool := [true, true, false, false, true, true, true, true, true, true, true, true, true, true, true, true, true, true, true, true, true, true, true, true, true, true, true, true, true, true, true, true, true, true, true, true, true, true, true, true, true, true, true, true, true, true, true, true, true, true, true, true, true, true, true, true, true, true, true, true, true, true, true, true, true, true, true, true, true, true, true, true, true, true, true, true, true, true, true]
def F12_m2_0 : List Bool := [true, true, false, true, true, true, true, true, true, false, true, true, true, true, true, true, true, true, true, true, true, true, true, true, true, true, true, true, true, true, true, true, true, true, true, true, true, true, true, true, true, true, true, true, true, true, true, true, true, true, true, false, false, true, true, true, true, true, true, true, true, true, true, true, true, true, true, true, true, true, true, true, true, true, true, true, true, true, true]
def F12_s2 (x1 : Int) (x2 : Int) (x3 : Int) (x4 : Int) (x5 : Int) (x6 : Int) (x7 : Int) (x8 : Int) (x9 : Int) (y16 : Int × Int × Int × Int × Bool) (a38 : Int) (a39 : Int) (a40 : Int) (a41 : Int) : Option ((Int × Int × Int × Int) ⊕ (Nat × Int × Int × Int)) :=
  (bif decide (a39 < 3) then
   (bif (!(inRange a39 3)) then none else
   (Option.bind (F29 (F12__5 x1 x2 x3 x4 x5 x6 x7 x8 x9 y16 a39) (F12__6 x1 x2 x3 x4 x5 x6 x7 x8 x9 y16 a39) (F12__7 x1 x2 x3 x4 x5 x6 x7 x8 x9 y16 a39) (F12__8 x1 x2 x3 x4 x5 x6 x7 x8 x9 y16 a39)) fun y44 =>
   (bif ((F12__6 x1 x2 x3 x4 x5 x6 x7 x8 x9 y16 a39) != 0) then
    some (.inl ((if (IntKind.i64.wrap (y44.1 - 1)) > a38 then (IntKind.i64.wrap (y44.1 - 1)) else a38), (IntKind.i64.wrap (a39 + 1)), a40, a41))
   else
    (bif decide (y44.1 > y44.2) then
     some (.inr (0, 0, 0, 0))
    else
     some (.inl (a38, (IntKind.i64.wrap (a39 + 1)), a40, a41))))))
  else
   some (.inr (1, a38, a40, a41)))
def F12_h2 (h : AHeap) (x1 : Int) (x2 : Int) (x3 : Int) (x4 : Int) (x5 : Int) (x6 : Int) (x7 : Int) (x8 : Int) (x9 : Int) (y16 : Int × Int × Int × Int × Bool)  (a38 : Int) (a39 : Int) (a40 : Int) (a41 : Int) : AS := ⟨[junk, junk, .pointer (some ⟨2, 0, none⟩), junk, junk, junk, junk, junk, junk, .int .i64 a38, junk, junk, junk, junk, junk, junk, junk, junk, junk, junk, junk, junk, junk, junk, junk, junk, junk, junk, junk, junk, junk, junk, junk, junk, junk, junk, junk, junk, junk, junk, junk, junk, junk, junk, junk, junk, junk, junk, junk, junk, junk, .agg #[.int .i64 ((F28 x1 x2 x3 x4 x5 x6 x7 x8 x9 y16.1 y16.2.1 y16.2.2.1 y16.2.2.2.1).1), .int .i64 ((F28 x1 x2 x3 x4 x5 x6 x7 x8 x9 y16.1 y16.2.1 y16.2.2.1 y16.2.2.2.1).2.1), .int .i64 ((F28 x1 x2 x3 x4 x5 x6 x7 x8 x9 y16.1 y16.2.1 y16.2.2.1 y16.2.2.2.1).2.2.1), .int .i64 ((F28 x1 x2 x3 x4 x5 x6 x7 x8 x9 y16.1 y16.2.1 y16.2.2.1 y16.2.2.2.1).2.2.2.1), .int .i64 ((F28 x1 x2 x3 x4 x5 x6 x7 x8 x9 y16.1 y16.2.1 y16.2.2.1 y16.2.2.2.1).2.2.2.2.1), .int .i64 ((F28 x1 x2 x3 x4 x5 x6 x7 x8 x9 y16.1 y16.2.1 y16.2.2.1 y16.2.2.2.1).2.2.2.2.2.1), .int .i64 ((F28 x1 x2 x3 x4 x5 x6 x7 x8 x9 y16.1 y16.2.1 y16.2.2.1 y16.2.2.2.1).2.2.2.2.2.2.1), .int .i64 ((F28 x1 x2 x3 x4 x5 x6 x7 x8 x9 y16.1 y16.2.1 y16.2.2.1 y16.2.2.2.1).2.2.2.2.2.2.2.1), .int .i64 ((F28 x1 x2 x3 x4 x5 x6 x7 x8 x9 y16.1 y16.2.1 y16.2.2.1 y16.2.2.2.1).2.2.2.2.2.2.2.2.1), .int .i64 ((F28 x1 x2 x3 x4 x5 x6 x7 x8 x9 y16.1 y16.2.1 y16.2.2.1 y16.2.2.2.1).2.2.2.2.2.2.2.2.2.1), .int .i64 ((F28 x1 x2 x3 x4 x5 x6 x7 x8 x9 y16.1 y16.2.1 y16.2.2.1 y16.2.2.2.1).2.2.2.2.2.2.2.2.2.2.1), .int .i64 ((F28 x1 x2 x3 x4 x5 x6 x7 x8 x9 y16.1 y16.2.1 y16.2.2.1 y16.2.2.2.1).2.2.2.2.2.2.2.2.2.2.2)], .int .i64 a39, junk, junk, junk, junk, junk, junk, junk, junk, junk, junk, junk, junk, junk, junk, junk, junk, junk, junk, junk, junk, junk, junk, junk, junk, junk, junk], [(2, [.int .i64 a40, .int .i64 a41])], h⟩
theorem F12_d2 : drawsOk F12_D (codeOf Try.prog 12 [1, 1, 1, 1, 1, 0, 1, 0, 0]) = true := by kernel_rfl
def F12_x2_0 (h : AHeap)  (r : Nat × Int × Int × Int) : AS := ⟨[junk, junk, .pointer (some ⟨2, 0, none⟩), .bool true, junk, junk, junk, junk, junk, junk, junk, junk, junk, junk, junk, junk, junk, junk, junk, junk, junk, junk, junk, junk, junk, junk, junk, junk, junk, junk, junk, junk, junk, junk, junk, junk, junk, junk, junk, junk, junk, junk, junk, junk, junk, junk, junk, junk, junk, junk, junk, junk, junk, junk, junk, junk, junk, junk, junk, junk, junk, junk, junk, junk, junk, junk, junk, junk, junk, junk, junk, junk, junk, junk, junk, junk, junk, junk, junk], [(2, [.int .i64 4, .int .i64 0])], h⟩
def F12_x2_1 (h : AHeap)  (r : Nat × Int × Int × Int) : AS := ⟨[junk, junk, .pointer (some ⟨2, 0, none⟩), junk, junk, junk, junk, junk, junk, .int .i64 r.2.1, junk, junk, junk, junk, junk, junk, junk, junk, junk, junk, junk, junk, junk, junk, junk, junk, junk, junk, junk, junk, junk, junk, junk, junk, junk, junk, junk, junk, junk, junk, junk, junk, junk, junk, junk, junk, junk, junk, junk, junk, junk, junk, junk, junk, junk, junk, junk, junk, junk, junk, junk, junk, junk, junk, junk, junk, junk, junk, junk, junk, junk, junk, junk, junk, junk, junk, junk, junk, junk], [(2, [.int .i64 r.2.2.1, .int .i64 r.2.2.2])], h⟩
def F12_x2 (h : AHeap) (r : Nat × Int × Int × Int) : Exit × AS := (bif Nat.beq r.1 0 then (.ret, (F12_x2_0 h r)) else ((.exit 1), (F12_x2_1 h r)))
set_option maxRecDepth 100000 in
theorem F12_r2 (h : AHeap) (x1 : Int) (x2 : Int) (x3 : Int) (x4 : Int) (x5 : Int) (x6 : Int) (x7 : Int) (x8 : Int) (x9 : Int) (y16 : Int × Int × Int × Int × Bool) (a38 : Int) (a39 : Int) (a40 : Int) (a41 : Int) (o : (Int × Int × Int × Int) ⊕ (Nat × Int × Int × Int)) : F12_s2 x1 x2 x3 x4 x5 x6 x7 x8 x9 y16 a38 a39 a40 a41 = some o → RdF Try.prog (codeOf Try.prog 12 [1, 1, 1, 1, 1, 0, 1, 0, 0]) (fun (s : Int × Int × Int × Int) => (F12_h2 h x1 x2 x3 x4 x5 x6 x7 x8 x9 y16 s.1 s.2.1 s.2.2.1 s.2.2.2)) (F12_x2 h) (F12_h2 h x1 x2 x3 x4 x5 x6 x7 x8 x9 y16 a38 a39 a40 a41) o := by
  unfold F12_s2
  refine dec_bif (fun c42 => ?_) (fun c42 => ?_)
  · refine guard_ok fun g43 => ?_
    refine bind_opt fun y44 e44 => ?_
    refine dec_bif (fun c46 => ?_) (fun c46 => ?_)
    · intro hr
      obtain rfl := Option.some.inj hr
      show AWp Try.prog _ (Ends1 .normal (F12_h2 h x1 x2 x3 x4 x5 x6 x7 x8 x9 y16 (if (IntKind.i64.wrap (y44.1 - 1)) > a38 then (IntKind.i64.wrap (y44.1 - 1)) else a38) (IntKind.i64.wrap (a39 + 1)) a40 a41)) _
      exact pEnd_sound good (L := F12_L) (D := F12_D) (its := [.g, (.b true), (.iv (.agg #[.int .i64 (F12__5 x1 x2 x3 x4 x5 x6 x7 x8 x9 y16 a39), .int .i64 (F12__6 x1 x2 x3 x4 x5 x6 x7 x8 x9 y16 a39), .int .i64 (F12__7 x1 x2 x3 x4 x5 x6 x7 x8 x9 y16 a39), .int .i64 (F12__8 x1 x2 x3 x4 x5 x6 x7 x8 x9 y16 a39)])), .g, .g, .g, .g, .g, .g, .g, .g, (.c (.agg #[.int .i64 y44.1, .int .i64 y44.2]) h), .g, .g, .g, .g, .g, (.b true), .g, .g, .g, .g, .g, .g, .g, .g]) (ds := F12_m2_0) (ks := [11, 12]) (e := .normal) (s2 := (F12_h2 h x1 x2 x3 x4 x5 x6 x7 x8 x9 y16 (if (IntKind.i64.wrap (y44.1 - 1)) > a38 then (IntKind.i64.wrap (y44.1 - 1)) else a38) (IntKind.i64.wrap (a39 + 1)) a40 a41)) (hC := (And.intro c46 (And.intro (F29_spec (F12__5 x1 x2 x3 x4 x5 x6 x7 x8 x9 y16 a39) (F12__6 x1 x2 x3 x4 x5 x6 x7 x8 x9 y16 a39) (F12__7 x1 x2 x3 x4 x5 x6 x7 x8 x9 y16 a39) (F12__8 x1 x2 x3 x4 x5 x6 x7 x8 x9 y16 a39) h _ e44) (And.intro (iread_sel (P := Try.prog) (t := 55) (cs := #[.int .i64 ((F28 x1 x2 x3 x4 x5 x6 x7 x8 x9 y16.1 y16.2.1 y16.2.2.1 y16.2.2.2.1).1), .int .i64 ((F28 x1 x2 x3 x4 x5 x6 x7 x8 x9 y16.1 y16.2.1 y16.2.2.1 y16.2.2.2.1).2.1), .int .i64 ((F28 x1 x2 x3 x4 x5 x6 x7 x8 x9 y16.1 y16.2.1 y16.2.2.1 y16.2.2.2.1).2.2.1), .int .i64 ((F28 x1 x2 x3 x4 x5 x6 x7 x8 x9 y16.1 y16.2.1 y16.2.2.1 y16.2.2.2.1).2.2.2.1), .int .i64 ((F28 x1 x2 x3 x4 x5 x6 x7 x8 x9 y16.1 y16.2.1 y16.2.2.1 y16.2.2.2.1).2.2.2.2.1), .int .i64 ((F28 x1 x2 x3 x4 x5 x6 x7 x8 x9 y16.1 y16.2.1 y16.2.2.1 y16.2.2.2.1).2.2.2.2.2.1), .int .i64 ((F28 x1 x2 x3 x4 x5 x6 x7 x8 x9 y16.1 y16.2.1 y16.2.2.1 y16.2.2.2.1).2.2.2.2.2.2.1), .int .i64 ((F28 x1 x2 x3 x4 x5 x6 x7 x8 x9 y16.1 y16.2.1 y16.2.2.1 y16.2.2.2.1).2.2.2.2.2.2.2.1), .int .i64 ((F28 x1 x2 x3 x4 x5 x6 x7 x8 x9 y16.1 y16.2.1 y16.2.2.1 y16.2.2.2.1).2.2.2.2.2.2.2.2.1), .int .i64 ((F28 x1 x2 x3 x4 x5 x6 x7 x8 x9 y16.1 y16.2.1 y16.2.2.1 y16.2.2.2.1).2.2.2.2.2.2.2.2.2.1), .int .i64 ((F28 x1 x2 x3 x4 x5 x6 x7 x8 x9 y16.1 y16.2.1 y16.2.2.1 y16.2.2.2.1).2.2.2.2.2.2.2.2.2.2.1), .int .i64 ((F28 x1 x2 x3 x4 x5 x6 x7 x8 x9 y16.1 y16.2.1 y16.2.2.1 y16.2.2.2.1).2.2.2.2.2.2.2.2.2.2.2)]) (nn g43) (fun jj => .agg #[.int .i64 (([((F28 x1 x2 x3 x4 x5 x6 x7 x8 x9 y16.1 y16.2.1 y16.2.2.1 y16.2.2.2.1).1), ((F28 x1 x2 x3 x4 x5 x6 x7 x8 x9 y16.1 y16.2.1 y16.2.2.1 y16.2.2.2.1).2.2.2.2.1), ((F28 x1 x2 x3 x4 x5 x6 x7 x8 x9 y16.1 y16.2.1 y16.2.2.1 y16.2.2.2.1).2.2.2.2.2.2.2.2.1)] : List Int).getD jj 0), .int .i64 (([((F28 x1 x2 x3 x4 x5 x6 x7 x8 x9 y16.1 y16.2.1 y16.2.2.1 y16.2.2.2.1).2.1), ((F28 x1 x2 x3 x4 x5 x6 x7 x8 x9 y16.1 y16.2.1 y16.2.2.1 y16.2.2.2.1).2.2.2.2.2.1), ((F28 x1 x2 x3 x4 x5 x6 x7 x8 x9 y16.1 y16.2.1 y16.2.2.1 y16.2.2.2.1).2.2.2.2.2.2.2.2.2.1)] : List Int).getD jj 0), .int .i64 (([((F28 x1 x2 x3 x4 x5 x6 x7 x8 x9 y16.1 y16.2.1 y16.2.2.1 y16.2.2.2.1).2.2.1), ((F28 x1 x2 x3 x4 x5 x6 x7 x8 x9 y16.1 y16.2.1 y16.2.2.1 y16.2.2.2.1).2.2.2.2.2.2.1), ((F28 x1 x2 x3 x4 x5 x6 x7 x8 x9 y16.1 y16.2.1 y16.2.2.1 y16.2.2.2.1).2.2.2.2.2.2.2.2.2.2.1)] : List Int).getD jj 0), .int .i64 (([((F28 x1 x2 x3 x4 x5 x6 x7 x8 x9 y16.1 y16.2.1 y16.2.2.1 y16.2.2.2.1).2.2.2.1), ((F28 x1 x2 x3 x4 x5 x6 x7 x8 x9 y16.1 y16.2.1 y16.2.2.1 y16.2.2.2.1).2.2.2.2.2.2.2.1), ((F28 x1 x2 x3 x4 x5 x6 x7 x8 x9 y16.1 y16.2.1 y16.2.2.1 y16.2.2.2.1).2.2.2.2.2.2.2.2.2.2.2)] : List Int).getD jj 0)]) (And.intro (And.intro (And.intro trivial (by show _ = _; kernel_rfl)) (by show _ = _; kernel_rfl)) (by show _ = _; kernel_rfl))) (And.intro c42 trivial))))) (hd := F12_d2) (h := by kernel_rfl)
    · refine dec_bif (fun c47 => ?_) (fun c47 => ?_)
      · intro hr
        obtain rfl := Option.some.inj hr
        show AWp Try.prog _ (Ends1 ((F12_x2 h) ((0, 0, 0, 0) : Nat × Int × Int × Int)).1 ((F12_x2 h) ((0, 0, 0, 0) : Nat × Int × Int × Int)).2) _
        exact pEnd_sound good (L := F12_L) (D := F12_D) (its := [.g, (.b true), (.iv (.agg #[.int .i64 (F12__5 x1 x2 x3 x4 x5 x6 x7 x8 x9 y16 a39), .int .i64 (F12__6 x1 x2 x3 x4 x5 x6 x7 x8 x9 y16 a39), .int .i64 (F12__7 x1 x2 x3 x4 x5 x6 x7 x8 x9 y16 a39), .int .i64 (F12__8 x1 x2 x3 x4 x5 x6 x7 x8 x9 y16 a39)])), .g, .g, .g, .g, .g, .g, .g, .g, (.c (.agg #[.int .i64 y44.1, .int .i64 y44.2]) h), .g, .g, .g, .g, .g, (.b false), .g, .g, .g, .g, .g, (.b true), .g, .g, .g]) (ds := F12_m2_1) (ks := [11, 12]) (e := ((F12_x2 h) ((0, 0, 0, 0) : Nat × Int × Int × Int)).1) (s2 := ((F12_x2 h) ((0, 0, 0, 0) : Nat × Int × Int × Int)).2) (hC := (And.intro c47 (And.intro c46 (And.intro (F29_spec (F12__5 x1 x2 x3 x4 x5 x6 x7 x8 x9 y16 a39) (F12__6 x1 x2 x3 x4 x5 x6 x7 x8 x9 y16 a39) (F12__7 x1 x2 x3 x4 x5 x6 x7 x8 x9 y16 a39) (F12__8 x1 x2 x3 x4 x5 x6 x7 x8 x9 y16 a39) h _ e44) (And.intro (iread_sel (P := Try.prog) (t := 55) (cs := #[.int .i64 ((F28 x1 x2 x3 x4 x5 x6 x7 x8 x9 y16.1 y16.2.1 y16.2.2.1 y16.2.2.2.1).1), .int .i64 ((F28 x1 x2 x3 x4 x5 x6 x7 x8 x9 y16.1 y16.2.1 y16.2.2.1 y16.2.2.2.1).2.1), .int .i64 ((F28 x1 x2 x3 x4 x5 x6 x7 x8 x9 y16.1 y16.2.1 y16.2.2.1 y16.2.2.2.1).2.2.1), .int .i64 ((F28 x1 x2 x3 x4 x5 x6 x7 x8 x9 y16.1 y16.2.1 y16.2.2.1 y16.2.2.2.1).2.2.2.1), .int .i64 ((F28 x1 x2 x3 x4 x5 x6 x7 x8 x9 y16.1 y16.2.1 y16.2.2.1 y16.2.2.2.1).2.2.2.2.1), .int .i64 ((F28 x1 x2 x3 x4 x5 x6 x7 x8 x9 y16.1 y16.2.1 y16.2.2.1 y16.2.2.2.1).2.2.2.2.2.1), .int .i64 ((F28 x1 x2 x3 x4 x5 x6 x7 x8 x9 y16.1 y16.2.1 y16.2.2.1 y16.2.2.2.1).2.2.2.2.2.2.1), .int .i64 ((F28 x1 x2 x3 x4 x5 x6 x7 x8 x9 y16.1 y16.2.1 y16.2.2.1 y16.2.2.2.1).2.2.2.2.2.2.2.1), .int .i64 ((F28 x1 x2 x3 x4 x5 x6 x7 x8 x9 y16.1 y16.2.1 y16.2.2.1 y16.2.2.2.1).2.2.2.2.2.2.2.2.1), .int .i64 ((F28 x1 x2 x3 x4 x5 x6 x7 x8 x9 y16.1 y16.2.1 y16.2.2.1 y16.2.2.2.1).2.2.2.2.2.2.2.2.2.1), .int .i64 ((F28 x1 x2 x3 x4 x5 x6 x7 x8 x9 y16.1 y16.2.1 y16.2.2.1 y16.2.2.2.1).2.2.2.2.2.2.2.2.2.2.1), .int .i64 ((F28 x1 x2 x3 x4 x5 x6 x7 x8 x9 y16.1 y16.2.1 y16.2.2.1 y16.2.2.2.1).2.2.2.2.2.2.2.2.2.2.2)]) (nn g43) (fun jj => .agg #[.int .i64 (([((F28 x1 x2 x3 x4 x5 x6 x7 x8 x9 y16.1 y16.2.1 y16.2.2.1 y16.2.2.2.1).1), ((F28 x1 x2 x3 x4 x5 x6 x7 x8 x9 y16.1 y16.2.1 y16.2.2.1 y16.2.2.2.1).2.2.2.2.1), ((F28 x1 x2 x3 x4 x5 x6 x7 x8 x9 y16.1 y16.2.1 y16.2.2.1 y16.2.2.2.1).2.2.2.2.2.2.2.2.1)] : List Int).getD jj 0), .int .i64 (([((F28 x1 x2 x3 x4 x5 x6 x7 x8 x9 y16.1 y16.2.1 y16.2.2.1 y16.2.2.2.1).2.1), ((F28 x1 x2 x3 x4 x5 x6 x7 x8 x9 y16.1 y16.2.1 y16.2.2.1 y16.2.2.2.1).2.2.2.2.2.1), ((F28 x1 x2 x3 x4 x5 x6 x7 x8 x9 y16.1 y16.2.1 y16.2.2.1 y16.2.2.2.1).2.2.2.2.2.2.2.2.2.1)] : List Int).getD jj 0), .int .i64 (([((F28 x1 x2 x3 x4 x5 x6 x7 x8 x9 y16.1 y16.2.1 y16.2.2.1 y16.2.2.2.1).2.2.1), ((F28 x1 x2 x3 x4 x5 x6 x7 x8 x9 y16.1 y16.2.1 y16.2.2.1 y16.2.2.2.1).2.2.2.2.2.2.1), ((F28 x1 x2 x3 x4 x5 x6 x7 x8 x9 y16.1 y16.2.1 y16.2.2.1 y16.2.2.2.1).2.2.2.2.2.2.2.2.2.2.1)] : List Int).getD jj 0), .int .i64 (([((F28 x1 x2 x3 x4 x5 x6 x7 x8 x9 y16.1 y16.2.1 y16.2.2.1 y16.2.2.2.1).2.2.2.1), ((F28 x1 x2 x3 x4 x5 x6 x7 x8 x9 y16.1 y16.2.1 y16.2.2.1 y16.2.2.2.1).2.2.2.2.2.2.2.1), ((F28 x1 x2 x3 x4 x5 x6 x7 x8 x9 y16.1 y16.2.1 y16.2.2.1 y16.2.2.2.1).2.2.2.2.2.2.2.2.2.2.2)] : List Int).getD jj 0)]) (And.intro (And.intro (And.intro trivial (by show _ = _; kernel_rfl)) (by show _ = _; kernel_rfl)) (by show _ = _; kernel_rfl))) (And.intro c42 trivial)))))) (hd := F12_d2) (h := by kernel_rfl)
      · intro hr
        obtain rfl := Option.some.inj hr
        show AWp Try.prog _ (Ends1 .normal (F12_h2 h x1 x2 x3 x4 x5 x6 x7 x8 x9 y16 a38 (IntKind.i64.wrap (a39 + 1)) a40 a41)) _
        exact pEnd_sound good (L := F12_L) (D := F12_D) (its := [.g, (.b true), (.iv (.agg #[.int .i64 (F12__5 x1 x2 x3 x4 x5 x6 x7 x8 x9 y16 a39), .int .i64 (F12__6 x1 x2 x3 x4 x5 x6 x7 x8 x9 y16 a39), .int .i64 (F12__7 x1 x2 x3 x4 x5 x6 x7 x8 x9 y16 a39), .int .i64 (F12__8 x1 x2 x3 x4 x5 x6 x7 x8 x9 y16 a39)])), .g, .g, .g, .g, .g, .g, .g, .g, (.c (.agg #[.int .i64 y44.1, .int .i64 y44.2]) h), .g, .g, .g, .g, .g, (.b false), .g, .g, .g, .g, .g, (.b false), .g, .g]) (ds := F12_m2_0) (ks := [11, 12]) (e := .normal) (s2 := (F12_h2 h x1 x2 x3 x4 x5 x6 x7 x8 x9 y16 a38 (IntKind.i64.wrap (a39 + 1)) a40 a41)) (hC := (And.intro c47 (And.intro c46 (And.intro (F29_spec (F12__5 x1 x2 x3 x4 x5 x6 x7 x8 x9 y16 a39) (F12__6 x1 x2 x3 x4 x5 x6 x7 x8 x9 y16 a39) (F12__7 x1 x2 x3 x4 x5 x6 x7 x8 x9 y16 a39) (F12__8 x1 x2 x3 x4 x5 x6 x7 x8 x9 y16 a39) h _ e44) (And.intro (iread_sel (P := Try.prog) (t := 55) (cs := #[.int .i64 ((F28 x1 x2 x3 x4 x5 x6 x7 x8 x9 y16.1 y16.2.1 y16.2.2.1 y16.2.2.2.1).1), .int .i64 ((F28 x1 x2 x3 x4 x5 x6 x7 x8 x9 y16.1 y16.2.1 y16.2.2.1 y16.2.2.2.1).2.1), .int .i64 ((F28 x1 x2 x3 x4 x5 x6 x7 x8 x9 y16.1 y16.2.1 y16.2.2.1 y16.2.2.2.1).2.2.1), .int .i64 ((F28 x1 x2 x3 x4 x5 x6 x7 x8 x9 y16.1 y16.2.1 y16.2.2.1 y16.2.2.2.1).2.2.2.1), .int .i64 ((F28 x1 x2 x3 x4 x5 x6 x7 x8 x9 y16.1 y16.2.1 y16.2.2.1 y16.2.2.2.1).2.2.2.2.1), .int .i64 ((F28 x1 x2 x3 x4 x5 x6 x7 x8 x9 y16.1 y16.2.1 y16.2.2.1 y16.2.2.2.1).2.2.2.2.2.1), .int .i64 ((F28 x1 x2 x3 x4 x5 x6 x7 x8 x9 y16.1 y16.2.1 y16.2.2.1 y16.2.2.2.1).2.2.2.2.2.2.1), .int .i64 ((F28 x1 x2 x3 x4 x5 x6 x7 x8 x9 y16.1 y16.2.1 y16.2.2.1 y16.2.2.2.1).2.2.2.2.2.2.2.1), .int .i64 ((F28 x1 x2 x3 x4 x5 x6 x7 x8 x9 y16.1 y16.2.1 y16.2.2.1 y16.2.2.2.1).2.2.2.2.2.2.2.2.1), .int .i64 ((F28 x1 x2 x3 x4 x5 x6 x7 x8 x9 y16.1 y16.2.1 y16.2.2.1 y16.2.2.2.1).2.2.2.2.2.2.2.2.2.1), .int .i64 ((F28 x1 x2 x3 x4 x5 x6 x7 x8 x9 y16.1 y16.2.1 y16.2.2.1 y16.2.2.2.1).2.2.2.2.2.2.2.2.2.2.1), .int .i64 ((F28 x1 x2 x3 x4 x5 x6 x7 x8 x9 y16.1 y16.2.1 y16.2.2.1 y16.2.2.2.1).2.2.2.2.2.2.2.2.2.2.2)]) (nn g43) (fun jj => .agg #[.int .i64 (([((F28 x1 x2 x3 x4 x5 x6 x7 x8 x9 y16.1 y16.2.1 y16.2.2.1 y16.2.2.2.1).1), ((F28 x1 x2 x3 x4 x5 x6 x7 x8 x9 y16.1 y16.2.1 y16.2.2.1 y16.2.2.2.1).2.2.2.2.1), ((F28 x1 x2 x3 x4 x5 x6 x7 x8 x9 y16.1 y16.2.1 y16.2.2.1 y16.2.2.2.1).2.2.2.2.2.2.2.2.1)] : List Int).getD jj 0), .int .i64 (([((F28 x1 x2 x3 x4 x5 x6 x7 x8 x9 y16.1 y16.2.1 y16.2.2.1 y16.2.2.2.1).2.1), ((F28 x1 x2 x3 x4 x5 x6 x7 x8 x9 y16.1 y16.2.1 y16.2.2.1 y16.2.2.2.1).2.2.2.2.2.1), ((F28 x1 x2 x3 x4 x5 x6 x7 x8 x9 y16.1 y16.2.1 y16.2.2.1 y16.2.2.2.1).2.2.2.2.2.2.2.2.2.1)] : List Int).getD jj 0), .int .i64 (([((F28 x1 x2 x3 x4 x5 x6 x7 x8 x9 y16.1 y16.2.1 y16.2.2.1 y16.2.2.2.1).2.2.1), ((F28 x1 x2 x3 x4 x5 x6 x7 x8 x9 y16.1 y16.2.1 y16.2.2.1 y16.2.2.2.1).2.2.2.2.2.2.1), ((F28 x1 x2 x3 x4 x5 x6 x7 x8 x9 y16.1 y16.2.1 y16.2.2.1 y16.2.2.2.1).2.2.2.2.2.2.2.2.2.2.1)] : List Int).getD jj 0), .int .i64 (([((F28 x1 x2 x3 x4 x5 x6 x7 x8 x9 y16.1 y16.2.1 y16.2.2.1 y16.2.2.2.1).2.2.2.1), ((F28 x1 x2 x3 x4 x5 x6 x7 x8 x9 y16.1 y16.2.1 y16.2.2.1 y16.2.2.2.1).2.2.2.2.2.2.2.1), ((F28 x1 x2 x3 x4 x5 x6 x7 x8 x9 y16.1 y16.2.1 y16.2.2.1 y16.2.2.2.1).2.2.2.2.2.2.2.2.2.2.2)] : List Int).getD jj 0)]) (And.intro (And.intro (And.intro trivial (by show _ = _; kernel_rfl)) (by show _ = _; kernel_rfl)) (by show _ = _; kernel_rfl))) (And.intro c42 trivial)))))) (hd := F12_d2) (h := by kernel_rfl)
  · intro hr
    obtain rfl := Option.some.inj hr
    show AWp Try.prog _ (Ends1 ((F12_x2 h) ((1, a38, a40, a41) : Nat × Int × Int × Int)).1 ((F12_x2 h) ((1, a38, a40, a41) : Nat × Int × Int × Int)).2) _
    exact pEnd_sound good (L := F12_L) (D := F12_D) (its := [.g, (.b false)]) (ds := F12_m2_2) (ks := []) (e := ((F12_x2 h) ((1, a38, a40, a41) : Nat × Int × Int × Int)).1) (s2 := ((F12_x2 h) ((1, a38, a40, a41) : Nat × Int × Int × Int)).2) (hC := (And.intro c42 trivial)) (hd := F12_d2) (h := by kernel_rfl)
theorem F12_l2_0 (h : AHeap) (x1 : Int) (x2 : Int) (x3 : Int) (x4 : Int) (x5 : Int) (x6 : Int) (x7 : Int) (x8 : Int) (x9 : Int) (y16 : Int × Int × Int × Int × Bool) (x : Int × Int × Int × Int) (r : Nat × Int × Int × Int) (hl : loopO (fun (s : Int × Int × Int × Int) => F12_s2 x1 x2 x3 x4 x5 x6 x7 x8 x9 y16 s.1 s.2.1 s.2.2.1 s.2.2.2) x = some r) (q0 : Nat.beq r.1 0 = true) : AWp Try.prog (.loop (codeOf Try.prog 12 [1, 1, 1, 1, 1, 0, 1, 0, 0])) (Ends1 .ret (F12_x2_0 h r)) ((fun (s : Int × Int × Int × Int) => (F12_h2 h x1 x2 x3 x4 x5 x6 x7 x8 x9 y16 s.1 s.2.1 s.2.2.1 s.2.2.2)) x) := by
  have k := loop_fun (P := Try.prog) (c := (codeOf Try.prog 12 [1, 1, 1, 1, 1, 0, 1, 0, 0])) (step := (fun (s : Int × Int × Int × Int) => F12_s2 x1 x2 x3 x4 x5 x6 x7 x8 x9 y16 s.1 s.2.1 s.2.2.1 s.2.2.2)) (hd := (fun (s : Int × Int × Int × Int) => (F12_h2 h x1 x2 x3 x4 x5 x6 x7 x8 x9 y16 s.1 s.2.1 s.2.2.1 s.2.2.2))) (X := (F12_x2 h)) (by intro t; unfold F12_x2; cases Nat.beq t.1 0 <;> (intro h; cases h)) (fun x => F12_r2 h x1 x2 x3 x4 x5 x6 x7 x8 x9 y16 x.1 x.2.1 x.2.2.1 x.2.2.2) hl
  simp only [F12_x2, q0, cond_true, cond_false] at k
  exact k
theorem F12_l2_1 (h : AHeap) (x1 : Int) (x2 : Int) (x3 : Int) (x4 : Int) (x5 : Int) (x6 : Int) (x7 : Int) (x8 : Int) (x9 : Int) (y16 : Int × Int × Int × Int × Bool) (x : Int × Int × Int × Int) (r : Nat × Int × Int × Int) (hl : loopO (fun (s : Int × Int × Int × Int) => F12_s2 x1 x2 x3 x4 x5 x6 x7 x8 x9 y16 s.1 s.2.1 s.2.2.1 s.2.2.2) x = some r) (q0 : Nat.beq r.1 0 = false) : AWp Try.prog (.loop (codeOf Try.prog 12 [1, 1, 1, 1, 1, 0, 1, 0, 0])) (Ends1 (.exit 1) (F12_x2_1 h r)) ((fun (s : Int × Int × Int × Int) => (F12_h2 h x1 x2 x3 x4 x5 x6 x7 x8 x9 y16 s.1 s.2.1 s.2.2.1 s.2.2.2)) x) := by
  have k := loop_fun (P := Try.prog) (c := (codeOf Try.prog 12 [1, 1, 1, 1, 1, 0, 1, 0, 0])) (step := (fun (s : Int × Int × Int × Int) => F12_s2 x1 x2 x3 x4 x5 x6 x7 x8 x9 y16 s.1 s.2.1 s.2.2.1 s.2.2.2)) (hd := (fun (s : Int × Int × Int × Int) => (F12_h2 h x1 x2 x3 x4 x5 x6 x7 x8 x9 y16 s.1 s.2.1 s.2.2.1 s.2.2.2))) (X := (F12_x2 h)) (by intro t; unfold F12_x2; cases Nat.beq t.1 0 <;> (intro h; cases h)) (fun x => F12_r2 h x1 x2 x3 x4 x5 x6 x7 x8 x9 y16 x.1 x.2.1 x.2.2.1 x.2.2.2) hl
  simp only [F12_x2, q0, cond_true, cond_false] at k
  exact k
def F12 (x1 : Int) (x2 : Int) (x3 : Int) (x4 : Int) (x5 : Int) (x6 : Int) (x7 : Int) (x8 : Int) (x9 : Int) : Option (Int × Int × Bool) :=
  (Option.bind (F10 x1 x2 x3 x4 x5 x6 x7 x8 x9) fun y10 =>
  (bif y10.2.2 then
   some (0, 0, false)
  else
   (Option.bind (F13 x1 x2 x3 x4 x5 x6 x7 x8 x9) fun y13 =>
   (bif (!y13) then
    some (0, 0, false)
   else
    (Option.bind (F11 x1 x2 x3 x4 x5 x6 x7 x8 x9) fun y16 =>
    (bif (F27 x1 x2 x3 x4 x5 x6 x7 x8 x9) then
     some (1, 0, true)
    else
     (bif (x1 == 0) then
      (bif (x2 == 0) then
       some (2, 0, true)
      else
       (bif (!y16.2.2.2.2) then
        some (3, 0, true)
       else
        (Option.bind (loopO (fun (s : Int × Int × Int × Int) => F12_s1 x1 x2 x3 x4 x5 x6 x7 x8 x9 y16 s.1 s.2.1 s.2.2.1 s.2.2.2) ((-9223372036854775808), 0, 0, 0)) fun y34 =>
        (bif (Nat.beq y34.1 0) then
         some (4, 0, true)
        else
         some (4, y34.2.1, true)))))
     else
      (bif (!y16.2.2.2.2) then
       some (3, 0, true)
      else
       (Option.bind (loopO (fun (s : Int × Int × Int × Int) => F12_s2 x1 x2 x3 x4 x5 x6 x7 x8 x9 y16 s.1 s.2.1 s.2.2.1 s.2.2.2) ((-9223372036854775808), 0, 0, 0)) fun y48 =>
       (bif (Nat.beq y48.1 0) then
        some (4, 0, true)
       else
        some (4, y48.2.1, true)))))))))))
set_option maxRecDepth 100000 in
theorem F12_spec (x1 : Int) (x2 : Int) (x3 : Int) (x4 : Int) (x5 : Int) (x6 : Int) (x7 : Int) (x8 : Int) (x9 : Int) (h : AHeap)  (r : Int × Int × Bool) : F12 x1 x2 x3 x4 x5 x6 x7 x8 x9 = some r → ACalls Try.prog 12 [.agg #[.int .i64 x1, .int .i64 x2, .int .i64 x3, .int .i64 x4, .int .i64 x5, .int .i64 x6, .int .i64 x7, .int .i64 x8, .int .i64 x9]] h (fun v' h'' => v' = (.tuple #[.agg #[.int .i64 r.1, .int .i64 r.2.1], .bool r.2.2] : Value) ∧ h'' = h) := by
  unfold F12
  refine bind_opt fun y10 e10 => ?_
  refine dec_bif (fun c12 => ?_) (fun c12 => ?_)
  · intro hr
    obtain rfl := Option.some.inj hr
    exact pFun_sound good tab_ok (f := 12) (its := [.g, .g, .g, .g, (.c (.tuple #[.int .i64 y10.1, .int .i64 y10.2.1, .bool y10.2.2]) h), .g, .g, .g, .g, .g, .g, .g, .g, .g, .n, .n, .n, (.p true), (.b true), .g, .g, .g]) (args := [.agg #[.int .i64 x1, .int .i64 x2, .int .i64 x3, .int .i64 x4, .int .i64 x5, .int .i64 x6, .int .i64 x7, .int .i64 x8, .int .i64 x9]]) (h := h) (h' := h) (v := .tuple #[.agg #[.int .i64 0, .int .i64 0], .bool false]) (hC := (And.intro l_t (And.intro c12 (And.intro (g_tf c12) (And.intro (g_tf c12) (And.intro (g_tf c12) (And.intro (F10_spec x1 x2 x3 x4 x5 x6 x7 x8 x9 h _ e10) trivial))))))) (hr := by kernel_rfl)
  · refine bind_opt fun y13 e13 => ?_
    refine dec_bif (fun c15 => ?_) (fun c15 => ?_)
    · intro hr
      obtain rfl := Option.some.inj hr
      exact pFun_sound good tab_ok (f := 12) (its := [.g, .g, .g, .g, (.c (.tuple #[.int .i64 y10.1, .int .i64 y10.2.1, .bool y10.2.2]) h), .g, .g, .g, .g, .g, .g, .g, .g, .g, (.w .g), (.w (.c (.bool y13) h)), (.w .g), (.p false), (.b true), .g, .g, .g]) (args := [.agg #[.int .i64 x1, .int .i64 x2, .int .i64 x3, .int .i64 x4, .int .i64 x5, .int .i64 x6, .int .i64 x7, .int .i64 x8, .int .i64 x9]]) (h := h) (h' := h) (v := .tuple #[.agg #[.int .i64 0, .int .i64 0], .bool false]) (hC := (And.intro c15 (And.intro c12 (And.intro (g_ff c12) (And.intro (F13_spec x1 x2 x3 x4 x5 x6 x7 x8 x9 h _ e13) (And.intro (g_ff c12) (And.intro (g_ff c12) (And.intro (F10_spec x1 x2 x3 x4 x5 x6 x7 x8 x9 h _ e10) trivial)))))))) (hr := by kernel_rfl)
    · refine bind_opt fun y16 e16 => ?_
      refine dec_bif (fun c19 => ?_) (fun c19 => ?_)
      · intro hr
        obtain rfl := Option.some.inj hr
        exact pFun_sound good tab_ok (f := 12) (its := [.g, .g, .g, .g, (.c (.tuple #[.int .i64 y10.1, .int .i64 y10.2.1, .bool y10.2.2]) h), .g, .g, .g, .g, .g, .g, .g, .g, .g, (.w .g), (.w (.c (.bool y13) h)), (.w .g), (.p false), (.b false), .g, (.c (.tuple #[.agg #[.int .i64 y16.1, .int .i64 y16.2.1, .int .i64 y16.2.2.1, .int .i64 y16.2.2.2.1], .bool y16.2.2.2.2]) h), .g, .g, .g, .g, .g, .g, .g, (.c (.bool (F27 x1 x2 x3 x4 x5 x6 x7 x8 x9)) h), .g, (.b true), .g, .g, .g]) (args := [.agg #[.int .i64 x1, .int .i64 x2, .int .i64 x3, .int .i64 x4, .int .i64 x5, .int .i64 x6, .int .i64 x7, .int .i64 x8, .int .i64 x9]]) (h := h) (h' := h) (v := .tuple #[.agg #[.int .i64 1, .int .i64 0], .bool true]) (hC := (And.intro c19 (And.intro (F27_spec x1 x2 x3 x4 x5 x6 x7 x8 x9 h _ rfl) (And.intro (F11_spec x1 x2 x3 x4 x5 x6 x7 x8 x9 h _ e16) (And.intro c15 (And.intro c12 (And.intro (g_ff c12) (And.intro (F13_spec x1 x2 x3 x4 x5 x6 x7 x8 x9 h _ e13) (And.intro (g_ff c12) (And.intro (g_ff c12) (And.intro (F10_spec x1 x2 x3 x4 x5 x6 x7 x8 x9 h _ e10) trivial))))))))))) (hr := by kernel_rfl)
      · refine dec_bif (fun c20 => ?_) (fun c20 => ?_)
        · refine dec_bif (fun c21 => ?_) (fun c21 => ?_)
          · intro hr
            obtain rfl := Option.some.inj hr
            exact pFun_sound good tab_ok (f := 12) (its := [.g, .g, .g, .g, (.c (.tuple #[.int .i64 y10.1, .int .i64 y10.2.1, .bool y10.2.2]) h), .g, .g, .g, .g, .g, .g, .g, .g, .g, (.w .g), (.w (.c (.bool y13) h)), (.w .g), (.p false), (.b false), .g, (.c (.tuple #[.agg #[.int .i64 y16.1, .int .i64 y16.2.1, .int .i64 y16.2.2.1, .int .i64 y16.2.2.2.1], .bool y16.2.2.2.2]) h), .g, .g, .g, .g, .g, .g, .g, (.c (.bool (F27 x1 x2 x3 x4 x5 x6 x7 x8 x9)) h), .g, (.b false), .g, .g, .g, .g, (.w .g), (.w .g), (.w .g), (.p true), .g, (.b true), .g, .g, .g]) (args := [.agg #[.int .i64 x1, .int .i64 x2, .int .i64 x3, .int .i64 x4, .int .i64 x5, .int .i64 x6, .int .i64 x7, .int .i64 x8, .int .i64 x9]]) (h := h) (h' := h) (v := .tuple #[.agg #[.int .i64 2, .int .i64 0], .bool true]) (hC := (And.intro c21 (And.intro c20 (And.intro (g_tt c20) (And.intro (g_tt c20) (And.intro (g_tt c20) (And.intro c19 (And.intro (F27_spec x1 x2 x3 x4 x5 x6 x7 x8 x9 h _ rfl) (And.intro (F11_spec x1 x2 x3 x4 x5 x6 x7 x8 x9 h _ e16) (And.intro c15 (And.intro c12 (And.intro (g_ff c12) (And.intro (F13_spec x1 x2 x3 x4 x5 x6 x7 x8 x9 h _ e13) (And.intro (g_ff c12) (And.intro (g_ff c12) (And.intro (F10_spec x1 x2 x3 x4 x5 x6 x7 x8 x9 h _ e10) trivial)))))))))))))))) (hr := by kernel_rfl)
          · refine dec_bif (fun c22 => ?_) (fun c22 => ?_)
            · intro hr
              obtain rfl := Option.some.inj hr
              exact pFun_sound good tab_ok (f := 12) (its := [.g, .g, .g, .g, (.c (.tuple #[.int .i64 y10.1, .int .i64 y10.2.1, .bool y10.2.2]) h), .g, .g, .g, .g, .g, .g, .g, .g, .g, (.w .g), (.w (.c (.bool y13) h)), (.w .g), (.p false), (.b false), .g, (.c (.tuple #[.agg #[.int .i64 y16.1, .int .i64 y16.2.1, .int .i64 y16.2.2.1, .int .i64 y16.2.2.2.1], .bool y16.2.2.2.2]) h), .g, .g, .g, .g, .g, .g, .g, (.c (.bool (F27 x1 x2 x3 x4 x5 x6 x7 x8 x9)) h), .g, (.b false), .g, .g, .g, .g, (.w .g), (.w .g), (.w .g), (.p true), .g, (.b false), .g, .g, .g, (.b true), .g, .g, .g]) (args := [.agg #[.int .i64 x1, .int .i64 x2, .int .i64 x3, .int .i64 x4, .int .i64 x5, .int .i64 x6, .int .i64 x7, .int .i64 x8, .int .i64 x9]]) (h := h) (h' := h) (v := .tuple #[.agg #[.int .i64 3, .int .i64 0], .bool true]) (hC := (And.intro c22 (And.intro c21 (And.intro c20 (And.intro (g_tt c20) (And.intro (g_tt c20) (And.intro (g_tt c20) (And.intro c19 (And.intro (F27_spec x1 x2 x3 x4 x5 x6 x7 x8 x9 h _ rfl) (And.intro (F11_spec x1 x2 x3 x4 x5 x6 x7 x8 x9 h _ e16) (And.intro c15 (And.intro c12 (And.intro (g_ff c12) (And.intro (F13_spec x1 x2 x3 x4 x5 x6 x7 x8 x9 h _ e13) (And.intro (g_ff c12) (And.intro (g_ff c12) (And.intro (F10_spec x1 x2 x3 x4 x5 x6 x7 x8 x9 h _ e10) trivial))))))))))))))))) (hr := by kernel_rfl)
            · refine bind_opt fun y34 e34 => ?_
              refine dec_bif (fun c35 => ?_) (fun c35 => ?_)
              · intro hr
                obtain rfl := Option.some.inj hr
                exact pFun_sound good tab_ok (f := 12) (its := [.g, .g, .g, .g, (.c (.tuple #[.int .i64 y10.1, .int .i64 y10.2.1, .bool y10.2.2]) h), .g, .g, .g, .g, .g, .g, .g, .g, .g, (.w .g), (.w (.c (.bool y13) h)), (.w .g), (.p false), (.b false), .g, (.c (.tuple #[.agg #[.int .i64 y16.1, .int .i64 y16.2.1, .int .i64 y16.2.2.1, .int .i64 y16.2.2.2.1], .bool y16.2.2.2.2]) h), .g, .g, .g, .g, .g, .g, .g, (.c (.bool (F27 x1 x2 x3 x4 x5 x6 x7 x8 x9)) h), .g, (.b false), .g, .g, .g, .g, (.w .g), (.w .g), (.w .g), (.p true), .g, (.b false), .g, .g, .g, (.b false), .g, .g, .g, (.c (.agg #[.int .i64 ((F28 x1 x2 x3 x4 x5 x6 x7 x8 x9 y16.1 y16.2.1 y16.2.2.1 y16.2.2.2.1).1), .int .i64 ((F28 x1 x2 x3 x4 x5 x6 x7 x8 x9 y16.1 y16.2.1 y16.2.2.1 y16.2.2.2.1).2.1), .int .i64 ((F28 x1 x2 x3 x4 x5 x6 x7 x8 x9 y16.1 y16.2.1 y16.2.2.1 y16.2.2.2.1).2.2.1), .int .i64 ((F28 x1 x2 x3 x4 x5 x6 x7 x8 x9 y16.1 y16.2.1 y16.2.2.1 y16.2.2.2.1).2.2.2.1), .int .i64 ((F28 x1 x2 x3 x4 x5 x6 x7 x8 x9 y16.1 y16.2.1 y16.2.2.1 y16.2.2.2.1).2.2.2.2.1), .int .i64 ((F28 x1 x2 x3 x4 x5 x6 x7 x8 x9 y16.1 y16.2.1 y16.2.2.1 y16.2.2.2.1).2.2.2.2.2.1), .int .i64 ((F28 x1 x2 x3 x4 x5 x6 x7 x8 x9 y16.1 y16.2.1 y16.2.2.1 y16.2.2.2.1).2.2.2.2.2.2.1), .int .i64 ((F28 x1 x2 x3 x4 x5 x6 x7 x8 x9 y16.1 y16.2.1 y16.2.2.1 y16.2.2.2.1).2.2.2.2.2.2.2.1), .int .i64 ((F28 x1 x2 x3 x4 x5 x6 x7 x8 x9 y16.1 y16.2.1 y16.2.2.1 y16.2.2.2.1).2.2.2.2.2.2.2.2.1), .int .i64 ((F28 x1 x2 x3 x4 x5 x6 x7 x8 x9 y16.1 y16.2.1 y16.2.2.1 y16.2.2.2.1).2.2.2.2.2.2.2.2.2.1), .int .i64 ((F28 x1 x2 x3 x4 x5 x6 x7 x8 x9 y16.1 y16.2.1 y16.2.2.1 y16.2.2.2.1).2.2.2.2.2.2.2.2.2.2.1), .int .i64 ((F28 x1 x2 x3 x4 x5 x6 x7 x8 x9 y16.1 y16.2.1 y16.2.2.1 y16.2.2.2.1).2.2.2.2.2.2.2.2.2.2.2)]) h), .g, (.l F12_m1_0 [1, 7] .ret (F12_x1_0 h y34))]) (args := [.agg #[.int .i64 x1, .int .i64 x2, .int .i64 x3, .int .i64 x4, .int .i64 x5, .int .i64 x6, .int .i64 x7, .int .i64 x8, .int .i64 x9]]) (h := h) (h' := h) (v := .tuple #[.agg #[.int .i64 4, .int .i64 0], .bool true]) (hC := (And.intro (F12_l1_0 h x1 x2 x3 x4 x5 x6 x7 x8 x9 y16 ((-9223372036854775808), 0, 0, 0) y34 e34 c35) (And.intro (F28_spec x1 x2 x3 x4 x5 x6 x7 x8 x9 y16.1 y16.2.1 y16.2.2.1 y16.2.2.2.1 h _ rfl) (And.intro c22 (And.intro c21 (And.intro c20 (And.intro (g_tt c20) (And.intro (g_tt c20) (And.intro (g_tt c20) (And.intro c19 (And.intro (F27_spec x1 x2 x3 x4 x5 x6 x7 x8 x9 h _ rfl) (And.intro (F11_spec x1 x2 x3 x4 x5 x6 x7 x8 x9 h _ e16) (And.intro c15 (And.intro c12 (And.intro (g_ff c12) (And.intro (F13_spec x1 x2 x3 x4 x5 x6 x7 x8 x9 h _ e13) (And.intro (g_ff c12) (And.intro (g_ff c12) (And.intro (F10_spec x1 x2 x3 x4 x5 x6 x7 x8 x9 h _ e10) trivial))))))))))))))))))) (hr := by kernel_rfl)
              · intro hr
                obtain rfl := Option.some.inj hr
                exact pFun_sound good tab_ok (f := 12) (its := [.g, .g, .g, .g, (.c (.tuple #[.int .i64 y10.1, .int .i64 y10.2.1, .bool y10.2.2]) h), .g, .g, .g, .g, .g, .g, .g, .g, .g, (.w .g), (.w (.c (.bool y13) h)), (.w .g), (.p false), (.b false), .g, (.c (.tuple #[.agg #[.int .i64 y16.1, .int .i64 y16.2.1, .int .i64 y16.2.2.1, .int .i64 y16.2.2.2.1], .bool y16.2.2.2.2]) h), .g, .g, .g, .g, .g, .g, .g, (.c (.bool (F27 x1 x2 x3 x4 x5 x6 x7 x8 x9)) h), .g, (.b false), .g, .g, .g, .g, (.w .g), (.w .g), (.w .g), (.p true), .g, (.b false), .g, .g, .g, (.b false), .g, .g, .g, (.c (.agg #[.int .i64 ((F28 x1 x2 x3 x4 x5 x6 x7 x8 x9 y16.1 y16.2.1 y16.2.2.1 y16.2.2.2.1).1), .int .i64 ((F28 x1 x2 x3 x4 x5 x6 x7 x8 x9 y16.1 y16.2.1 y16.2.2.1 y16.2.2.2.1).2.1), .int .i64 ((F28 x1 x2 x3 x4 x5 x6 x7 x8 x9 y16.1 y16.2.1 y16.2.2.1 y16.2.2.2.1).2.2.1), .int .i64 ((F28 x1 x2 x3 x4 x5 x6 x7 x8 x9 y16.1 y16.2.1 y16.2.2.1 y16.2.2.2.1).2.2.2.1), .int .i64 ((F28 x1 x2 x3 x4 x5 x6 x7 x8 x9 y16.1 y16.2.1 y16.2.2.1 y16.2.2.2.1).2.2.2.2.1), .int .i64 ((F28 x1 x2 x3 x4 x5 x6 x7 x8 x9 y16.1 y16.2.1 y16.2.2.1 y16.2.2.2.1).2.2.2.2.2.1), .int .i64 ((F28 x1 x2 x3 x4 x5 x6 x7 x8 x9 y16.1 y16.2.1 y16.2.2.1 y16.2.2.2.1).2.2.2.2.2.2.1), .int .i64 ((F28 x1 x2 x3 x4 x5 x6 x7 x8 x9 y16.1 y16.2.1 y16.2.2.1 y16.2.2.2.1).2.2.2.2.2.2.2.1), .int .i64 ((F28 x1 x2 x3 x4 x5 x6 x7 x8 x9 y16.1 y16.2.1 y16.2.2.1 y16.2.2.2.1).2.2.2.2.2.2.2.2.1), .int .i64 ((F28 x1 x2 x3 x4 x5 x6 x7 x8 x9 y16.1 y16.2.1 y16.2.2.1 y16.2.2.2.1).2.2.2.2.2.2.2.2.2.1), .int .i64 ((F28 x1 x2 x3 x4 x5 x6 x7 x8 x9 y16.1 y16.2.1 y16.2.2.1 y16.2.2.2.1).2.2.2.2.2.2.2.2.2.2.1), .int .i64 ((F28 x1 x2 x3 x4 x5 x6 x7 x8 x9 y16.1 y16.2.1 y16.2.2.1 y16.2.2.2.1).2.2.2.2.2.2.2.2.2.2.2)]) h), .g, (.l F12_m1_0 [1, 7] (.exit 1) (F12_x1_1 h y34)), .g, .g, .g, .g]) (args := [.agg #[.int .i64 x1, .int .i64 x2, .int .i64 x3, .int .i64 x4, .int .i64 x5, .int .i64 x6, .int .i64 x7, .int .i64 x8, .int .i64 x9]]) (h := h) (h' := h) (v := .tuple #[.agg #[.int .i64 4, .int .i64 y34.2.1], .bool true]) (hC := (And.intro (F12_l1_1 h x1 x2 x3 x4 x5 x6 x7 x8 x9 y16 ((-9223372036854775808), 0, 0, 0) y34 e34 c35) (And.intro (F28_spec x1 x2 x3 x4 x5 x6 x7 x8 x9 y16.1 y16.2.1 y16.2.2.1 y16.2.2.2.1 h _ rfl) (And.intro c22 (And.intro c21 (And.intro c20 (And.intro (g_tt c20) (And.intro (g_tt c20) (And.intro (g_tt c20) (And.intro c19 (And.intro (F27_spec x1 x2 x3 x4 x5 x6 x7 x8 x9 h _ rfl) (And.intro (F11_spec x1 x2 x3 x4 x5 x6 x7 x8 x9 h _ e16) (And.intro c15 (And.intro c12 (And.intro (g_ff c12) (And.intro (F13_spec x1 x2 x3 x4 x5 x6 x7 x8 x9 h _ e13) (And.intro (g_ff c12) (And.intro (g_ff c12) (And.intro (F10_spec x1 x2 x3 x4 x5 x6 x7 x8 x9 h _ e10) trivial))))))))))))))))))) (hr := by kernel_rfl)
        · refine dec_bif (fun c36 => ?_) (fun c36 => ?_)
          · intro hr
            obtain rfl := Option.some.inj hr
            exact pFun_sound good tab_ok (f := 12) (its := [.g, .g, .g, .g, (.c (.tuple #[.int .i64 y10.1, .int .i64 y10.2.1, .bool y10.2.2]) h), .g, .g, .g, .g, .g, .g, .g, .g, .g, (.w .g), (.w (.c (.bool y13) h)), (.w .g), (.p false), (.b false), .g, (.c (.tuple #[.agg #[.int .i64 y16.1, .int .i64 y16.2.1, .int .i64 y16.2.2.1, .int .i64 y16.2.2.2.1], .bool y16.2.2.2.2]) h), .g, .g, .g, .g, .g, .g, .g, (.c (.bool (F27 x1 x2 x3 x4 x5 x6 x7 x8 x9)) h), .g, (.b false), .g, .g, .g, .g, .n, .n, .n, (.p false), .g, (.b false), .g, .g, .g, (.b true), .g, .g, .g]) (args := [.agg #[.int .i64 x1, .int .i64 x2, .int .i64 x3, .int .i64 x4, .int .i64 x5, .int .i64 x6, .int .i64 x7, .int .i64 x8, .int .i64 x9]]) (h := h) (h' := h) (v := .tuple #[.agg #[.int .i64 3, .int .i64 0], .bool true]) (hC := (And.intro c36 (And.intro l_f (And.intro c20 (And.intro (g_ft c20) (And.intro (g_ft c20) (And.intro (g_ft c20) (And.intro c19 (And.intro (F27_spec x1 x2 x3 x4 x5 x6 x7 x8 x9 h _ rfl) (And.intro (F11_spec x1 x2 x3 x4 x5 x6 x7 x8 x9 h _ e16) (And.intro c15 (And.intro c12 (And.intro (g_ff c12) (And.intro (F13_spec x1 x2 x3 x4 x5 x6 x7 x8 x9 h _ e13) (And.intro (g_ff c12) (And.intro (g_ff c12) (And.intro (F10_spec x1 x2 x3 x4 x5 x6 x7 x8 x9 h _ e10) trivial))))))))))))))))) (hr := by kernel_rfl)
          · refine bind_opt fun y48 e48 => ?_
            refine dec_bif (fun c49 => ?_) (fun c49 => ?_)
            · intro hr
              obtain rfl := Option.some.inj hr
              exact pFun_sound good tab_ok (f := 12) (its := [.g, .g, .g, .g, (.c (.tuple #[.int .i64 y10.1, .int .i64 y10.2.1, .bool y10.2.2]) h), .g, .g, .g, .g, .g, .g, .g, .g, .g, (.w .g), (.w (.c (.bool y13) h)), (.w .g), (.p false), (.b false), .g, (.c (.tuple #[.agg #[.int .i64 y16.1, .int .i64 y16.2.1, .int .i64 y16.2.2.1, .int .i64 y16.2.2.2.1], .bool y16.2.2.2.2]) h), .g, .g, .g, .g, .g, .g, .g, (.c (.bool (F27 x1 x2 x3 x4 x5 x6 x7 x8 x9)) h), .g, (.b false), .g, .g, .g, .g, .n, .n, .n, (.p false), .g, (.b false), .g, .g, .g, (.b false), .g, .g, .g, (.c (.agg #[.int .i64 ((F28 x1 x2 x3 x4 x5 x6 x7 x8 x9 y16.1 y16.2.1 y16.2.2.1 y16.2.2.2.1).1), .int .i64 ((F28 x1 x2 x3 x4 x5 x6 x7 x8 x9 y16.1 y16.2.1 y16.2.2.1 y16.2.2.2.1).2.1), .int .i64 ((F28 x1 x2 x3 x4 x5 x6 x7 x8 x9 y16.1 y16.2.1 y16.2.2.1 y16.2.2.2.1).2.2.1), .int .i64 ((F28 x1 x2 x3 x4 x5 x6 x7 x8 x9 y16.1 y16.2.1 y16.2.2.1 y16.2.2.2.1).2.2.2.1), .int .i64 ((F28 x1 x2 x3 x4 x5 x6 x7 x8 x9 y16.1 y16.2.1 y16.2.2.1 y16.2.2.2.1).2.2.2.2.1), .int .i64 ((F28 x1 x2 x3 x4 x5 x6 x7 x8 x9 y16.1 y16.2.1 y16.2.2.1 y16.2.2.2.1).2.2.2.2.2.1), .int .i64 ((F28 x1 x2 x3 x4 x5 x6 x7 x8 x9 y16.1 y16.2.1 y16.2.2.1 y16.2.2.2.1).2.2.2.2.2.2.1), .int .i64 ((F28 x1 x2 x3 x4 x5 x6 x7 x8 x9 y16.1 y16.2.1 y16.2.2.1 y16.2.2.2.1).2.2.2.2.2.2.2.1), .int .i64 ((F28 x1 x2 x3 x4 x5 x6 x7 x8 x9 y16.1 y16.2.1 y16.2.2.1 y16.2.2.2.1).2.2.2.2.2.2.2.2.1), .int .i64 ((F28 x1 x2 x3 x4 x5 x6 x7 x8 x9 y16.1 y16.2.1 y16.2.2.1 y16.2.2.2.1).2.2.2.2.2.2.2.2.2.1), .int .i64 ((F28 x1 x2 x3 x4 x5 x6 x7 x8 x9 y16.1 y16.2.1 y16.2.2.1 y16.2.2.2.1).2.2.2.2.2.2.2.2.2.2.1), .int .i64 ((F28 x1 x2 x3 x4 x5 x6 x7 x8 x9 y16.1 y16.2.1 y16.2.2.1 y16.2.2.2.1).2.2.2.2.2.2.2.2.2.2.2)]) h), .g, (.l F12_m2_0 [1, 7] .ret (F12_x2_0 h y48))]) (args := [.agg #[.int .i64 x1, .int .i64 x2, .int .i64 x3, .int .i64 x4, .int .i64 x5, .int .i64 x6, .int .i64 x7, .int .i64 x8, .int .i64 x9]]) (h := h) (h' := h) (v := .tuple #[.agg #[.int .i64 4, .int .i64 0], .bool true]) (hC := (And.intro (F12_l2_0 h x1 x2 x3 x4 x5 x6 x7 x8 x9 y16 ((-9223372036854775808), 0, 0, 0) y48 e48 c49) (And.intro (F28_spec x1 x2 x3 x4 x5 x6 x7 x8 x9 y16.1 y16.2.1 y16.2.2.1 y16.2.2.2.1 h _ rfl) (And.intro c36 (And.intro l_f (And.intro c20 (And.intro (g_ft c20) (And.intro (g_ft c20) (And.intro (g_ft c20) (And.intro c19 (And.intro (F27_spec x1 x2 x3 x4 x5 x6 x7 x8 x9 h _ rfl) (And.intro (F11_spec x1 x2 x3 x4 x5 x6 x7 x8 x9 h _ e16) (And.intro c15 (And.intro c12 (And.intro (g_ff c12) (And.intro (F13_spec x1 x2 x3 x4 x5 x6 x7 x8 x9 h _ e13) (And.intro (g_ff c12) (And.intro (g_ff c12) (And.intro (F10_spec x1 x2 x3 x4 x5 x6 x7 x8 x9 h _ e10) trivial))))))))))))))))))) (hr := by kernel_rfl)
            · intro hr
              obtain rfl := Option.some.inj hr
              exact pFun_sound good tab_ok (f := 12) (its := [.g, .g, .g, .g, (.c (.tuple #[.int .i64 y10.1, .int .i64 y10.2.1, .bool y10.2.2]) h), .g, .g, .g, .g, .g, .g, .g, .g, .g, (.w .g), (.w (.c (.bool y13) h)), (.w .g), (.p false), (.b false), .g, (.c (.tuple #[.agg #[.int .i64 y16.1, .int .i64 y16.2.1, .int .i64 y16.2.2.1, .int .i64 y16.2.2.2.1], .bool y16.2.2.2.2]) h), .g, .g, .g, .g, .g, .g, .g, (.c (.bool (F27 x1 x2 x3 x4 x5 x6 x7 x8 x9)) h), .g, (.b false), .g, .g, .g, .g, .n, .n, .n, (.p false), .g, (.b false), .g, .g, .g, (.b false), .g, .g, .g, (.c (.agg #[.int .i64 ((F28 x1 x2 x3 x4 x5 x6 x7 x8 x9 y16.1 y16.2.1 y16.2.2.1 y16.2.2.2.1).1), .int .i64 ((F28 x1 x2 x3 x4 x5 x6 x7 x8 x9 y16.1 y16.2.1 y16.2.2.1 y16.2.2.2.1).2.1), .int .i64 ((F28 x1 x2 x3 x4 x5 x6 x7 x8 x9 y16.1 y16.2.1 y16.2.2.1 y16.2.2.2.1).2.2.1), .int .i64 ((F28 x1 x2 x3 x4 x5 x6 x7 x8 x9 y16.1 y16.2.1 y16.2.2.1 y16.2.2.2.1).2.2.2.1), .int .i64 ((F28 x1 x2 x3 x4 x5 x6 x7 x8 x9 y16.1 y16.2.1 y16.2.2.1 y16.2.2.2.1).2.2.2.2.1), .int .i64 ((F28 x1 x2 x3 x4 x5 x6 x7 x8 x9 y16.1 y16.2.1 y16.2.2.1 y16.2.2.2.1).2.2.2.2.2.1), .int .i64 ((F28 x1 x2 x3 x4 x5 x6 x7 x8 x9 y16.1 y16.2.1 y16.2.2.1 y16.2.2.2.1).2.2.2.2.2.2.1), .int .i64 ((F28 x1 x2 x3 x4 x5 x6 x7 x8 x9 y16.1 y16.2.1 y16.2.2.1 y16.2.2.2.1).2.2.2.2.2.2.2.1), .int .i64 ((F28 x1 x2 x3 x4 x5 x6 x7 x8 x9 y16.1 y16.2.1 y16.2.2.1 y16.2.2.2.1).2.2.2.2.2.2.2.2.1), .int .i64 ((F28 x1 x2 x3 x4 x5 x6 x7 x8 x9 y16.1 y16.2.1 y16.2.2.1 y16.2.2.2.1).2.2.2.2.2.2.2.2.2.1), .int .i64 ((F28 x1 x2 x3 x4 x5 x6 x7 x8 x9 y16.1 y16.2.1 y16.2.2.1 y16.2.2.2.1).2.2.2.2.2.2.2.2.2.2.1), .int .i64 ((F28 x1 x2 x3 x4 x5 x6 x7 x8 x9 y16.1 y16.2.1 y16.2.2.1 y16.2.2.2.1).2.2.2.2.2.2.2.2.2.2.2)]) h), .g, (.l F12_m2_0 [1, 7] (.exit 1) (F12_x2_1 h y48)), .g, .g, .g, .g]) (args := [.agg #[.int .i64 x1, .int .i64 x2, .int .i64 x3, .int .i64 x4, .int .i64 x5, .int .i64 x6, .int .i64 x7, .int .i64 x8, .int .i64 x9]]) (h := h) (h' := h) (v := .tuple #[.agg #[.int .i64 4, .int .i64 y48.2.1], .bool true]) (hC := (And.intro (F12_l2_1 h x1 x2 x3 x4 x5 x6 x7 x8 x9 y16 ((-9223372036854775808), 0, 0, 0) y48 e48 c49) (And.intro (F28_spec x1 x2 x3 x4 x5 x6 x7 x8 x9 y16.1 y16.2.1 y16.2.2.1 y16.2.2.2.1 h _ rfl) (And.intro c36 (And.intro l_f (And.intro c20 (And.intro (g_ft c20) (And.intro (g_ft c20) (And.intro (g_ft c20) (And.intro c19 (And.intro (F27_spec x1 x2 x3 x4 x5 x6 x7 x8 x9 h _ rfl) (And.intro (F11_spec x1 x2 x3 x4 x5 x6 x7 x8 x9 h _ e16) (And.intro c15 (And.intro c12 (And.intro (g_ff c12) (And.intro (F13_spec x1 x2 x3 x4 x5 x6 x7 x8 x9 h _ e13) (And.intro (g_ff c12) (And.intro (g_ff c12) (And.intro (F10_spec x1 x2 x3 x4 x5 x6 x7 x8 x9 h _ e10) trivial))))))))))))))))))) (hr := by kernel_rfl)
/-! 14 jacquard/diophant.Count -/
def F14 (x1 : Int) (x2 : Int) (x3 : Int) (x4 : Int) (x5 : Int) (x6 : Int) (x7 : Int) (x8 : Int) (x9 : Int) : Option (Int) :=
  (Option.bind (F10 x1 x2 x3 x4 x5 x6 x7 x8 x9) fun y10 =>
  (bif (!y10.2.2) then
   some (0)
  else
   (Option.bind (F11 x1 x2 x3 x4 x5 x6 x7 x8 x9) fun y13 =>
   (bif (!y13.2.2.2.2) then
    some (1)
   else
    (Option.bind (F24 x1 x2 x3 x4 x5 x6 x7 x8 x9 y13.1 y13.2.1 y13.2.2.1 y13.2.2.2.1) fun y16 =>
    some (IntKind.u64.wrap ((IntKind.u64.wrap ((IntKind.i64.wrap (y16.2 - y16.1)))) + 1)))))))
set_option maxRecDepth 100000 in
theorem F14_spec (x1 : Int) (x2 : Int) (x3 : Int) (x4 : Int) (x5 : Int) (x6 : Int) (x7 : Int) (x8 : Int) (x9 : Int) (h : AHeap)  (r : Int) : F14 x1 x2 x3 x4 x5 x6 x7 x8 x9 = some r → ACalls Try.prog 14 [.agg #[.int .i64 x1, .int .i64 x2, .int .i64 x3, .int .i64 x4, .int .i64 x5, .int .i64 x6, .int .i64 x7, .int .i64 x8, .int .i64 x9]] h (fun v' h'' => v' = (.int .u64 r : Value) ∧ h'' = h) := by
  unfold F14
  refine bind_opt fun y10 e10 => ?_
  refine dec_bif (fun c12 => ?_) (fun c12 => ?_)
  · intro hr
    obtain rfl := Option.some.inj hr
    exact pFun_sound good tab_ok (f := 14) (its := [.g, .g, .g, (.c (.tuple #[.int .i64 y10.1, .int .i64 y10.2.1, .bool y10.2.2]) h), .g, .g, .g, .g, .g, .g, .g, .g, .g, (.b true), .g]) (args := [.agg #[.int .i64 x1, .int .i64 x2, .int .i64 x3, .int .i64 x4, .int .i64 x5, .int .i64 x6, .int .i64 x7, .int .i64 x8, .int .i64 x9]]) (h := h) (h' := h) (v := .int .u64 0) (hC := (And.intro c12 (And.intro (F10_spec x1 x2 x3 x4 x5 x6 x7 x8 x9 h _ e10) trivial))) (hr := by kernel_rfl)
  · refine bind_opt fun y13 e13 => ?_
    refine dec_bif (fun c15 => ?_) (fun c15 => ?_)
    · intro hr
      obtain rfl := Option.some.inj hr
      exact pFun_sound good tab_ok (f := 14) (its := [.g, .g, .g, (.c (.tuple #[.int .i64 y10.1, .int .i64 y10.2.1, .bool y10.2.2]) h), .g, .g, .g, .g, .g, .g, .g, .g, .g, (.b false), .g, (.c (.tuple #[.agg #[.int .i64 y13.1, .int .i64 y13.2.1, .int .i64 y13.2.2.1, .int .i64 y13.2.2.2.1], .bool y13.2.2.2.2]) h), .g, .g, .g, .g, .g, .g, .g, .g, (.b true), .g]) (args := [.agg #[.int .i64 x1, .int .i64 x2, .int .i64 x3, .int .i64 x4, .int .i64 x5, .int .i64 x6, .int .i64 x7, .int .i64 x8, .int .i64 x9]]) (h := h) (h' := h) (v := .int .u64 1) (hC := (And.intro c15 (And.intro (F11_spec x1 x2 x3 x4 x5 x6 x7 x8 x9 h _ e13) (And.intro c12 (And.intro (F10_spec x1 x2 x3 x4 x5 x6 x7 x8 x9 h _ e10) trivial))))) (hr := by kernel_rfl)
    · refine bind_opt fun y16 e16 => ?_
      intro hr
      obtain rfl := Option.some.inj hr
      exact pFun_sound good tab_ok (f := 14) (its := [.g, .g, .g, (.c (.tuple #[.int .i64 y10.1, .int .i64 y10.2.1, .bool y10.2.2]) h), .g, .g, .g, .g, .g, .g, .g, .g, .g, (.b false), .g, (.c (.tuple #[.agg #[.int .i64 y13.1, .int .i64 y13.2.1, .int .i64 y13.2.2.1, .int .i64 y13.2.2.2.1], .bool y13.2.2.2.2]) h), .g, .g, .g, .g, .g, .g, .g, .g, (.b false), .g, .g, (.c (.agg #[.int .i64 y16.1, .int .i64 y16.2]) h), .g, .g, .g, .g, .g, .g, .g, .g, .g, .g]) (args := [.agg #[.int .i64 x1, .int .i64 x2, .int .i64 x3, .int .i64 x4, .int .i64 x5, .int .i64 x6, .int .i64 x7, .int .i64 x8, .int .i64 x9]]) (h := h) (h' := h) (v := .int .u64 (IntKind.u64.wrap ((IntKind.u64.wrap ((IntKind.i64.wrap (y16.2 - y16.1)))) + 1))) (hC := (And.intro (F24_spec x1 x2 x3 x4 x5 x6 x7 x8 x9 y13.1 y13.2.1 y13.2.2.1 y13.2.2.2.1 h _ e16) (And.intro c15 (And.intro (F11_spec x1 x2 x3 x4 x5 x6 x7 x8 x9 h _ e13) (And.intro c12 (And.intro (F10_spec x1 x2 x3 x4 x5 x6 x7 x8 x9 h _ e10) trivial)))))) (hr := by kernel_rfl)
/-! 39 jacquard/diophant.size -/
def F39 (x1 : Int) : Int :=
  (bif decide (x1 < 0) then
   (IntKind.u64.wrap (0 - (IntKind.u64.wrap (x1))))
  else
   (IntKind.u64.wrap (x1)))
set_option maxRecDepth 100000 in
theorem F39_spec (x1 : Int) (h : AHeap)  (r : Int) : F39 x1 = r → ACalls Try.prog 39 [.int .i64 x1] h (fun v' h'' => v' = (.int .u64 r : Value) ∧ h'' = h) := by
  unfold F39
  refine dec_bif (fun c2 => ?_) (fun c2 => ?_)
  · intro hr
    subst hr
    exact pFun_sound good tab_ok (f := 39) (its := [.g, .g, .g, (.b true), .g, .g, .g, .g]) (args := [.int .i64 x1]) (h := h) (h' := h) (v := .int .u64 (IntKind.u64.wrap (0 - (IntKind.u64.wrap (x1))))) (hC := (And.intro c2 trivial)) (hr := by kernel_rfl)
  · intro hr
    subst hr
    exact pFun_sound good tab_ok (f := 39) (its := [.g, .g, .g, (.b false), .g, .g, .g]) (args := [.int .i64 x1]) (h := h) (h' := h) (v := .int .u64 (IntKind.u64.wrap (x1))) (hC := (And.intro c2 trivial)) (hr := by kernel_rfl)
/-! 38 math/bits.Mul64 -/
def F38__1 (x1 : Int) (x2 : Int) : Int := (IntKind.u64.wrap ((IntKind.u64.wrap (((BitVec.ofInt 64 x1 &&& BitVec.ofInt 64 4294967295)).toNat)) * (IntKind.u64.wrap (((BitVec.ofInt 64 x2 &&& BitVec.ofInt 64 4294967295)).toNat))))
def F38__2 (x1 : Int) (x2 : Int) : Int := (IntKind.u64.wrap ((x1.fdiv (2 ^ 32)) * (IntKind.u64.wrap (((BitVec.ofInt 64 x2 &&& BitVec.ofInt 64 4294967295)).toNat))))
def F38__3 (x1 : Int) (x2 : Int) : Int := (IntKind.u64.wrap (((BitVec.ofInt 64 (IntKind.u64.wrap ((F38__2 x1 x2) + ((F38__1 x1 x2).fdiv (2 ^ 32)))) &&& BitVec.ofInt 64 4294967295)).toNat))
def F38__4 (x1 : Int) (x2 : Int) : Int := (IntKind.u64.wrap ((IntKind.u64.wrap (((BitVec.ofInt 64 x1 &&& BitVec.ofInt 64 4294967295)).toNat)) * (x2.fdiv (2 ^ 32))))
def F38__5 (x1 : Int) (x2 : Int) : Int := (IntKind.u64.wrap ((IntKind.u64.wrap ((x1.fdiv (2 ^ 32)) * (x2.fdiv (2 ^ 32)))) + ((IntKind.u64.wrap ((F38__2 x1 x2) + ((F38__1 x1 x2).fdiv (2 ^ 32)))).fdiv (2 ^ 32))))
def F38__6 (x1 : Int) (x2 : Int) : Int := (IntKind.u64.wrap ((F38__5 x1 x2) + ((IntKind.u64.wrap ((F38__3 x1 x2) + (F38__4 x1 x2))).fdiv (2 ^ 32))))
def F38 (x1 : Int) (x2 : Int) : Int × Int :=
  ((F38__6 x1 x2), (IntKind.u64.wrap (x1 * x2)))
set_option maxRecDepth 100000 in
theorem F38_spec (x1 : Int) (x2 : Int) (h : AHeap)  (r : Int × Int) : F38 x1 x2 = r → ACalls Try.prog 38 [.int .u64 x1, .int .u64 x2] h (fun v' h'' => v' = (.tuple #[.int .u64 r.1, .int .u64 r.2] : Value) ∧ h'' = h) := by
  unfold F38
  intro hr
  subst hr
  exact pFun_sound good tab_ok (f := 38) (its := [.g, .g, .g, .g, .g, .g, .g, .g, .g, .g, .g, .g, .g, .g, .g, .g, .g, .g, .g, .g, .g, .g, .g, .g, .g, .g, .g, .g, .g, .g, .g, .g, .g, .g, .g, .g, .g, .g, .g, .g, .g, .g, .g, .g, .g, .g, .g, .g, .g, .g]) (args := [.int .u64 x1, .int .u64 x2]) (h := h) (h' := h) (v := .tuple #[.int .u64 (F38__6 x1 x2), .int .u64 (IntKind.u64.wrap (x1 * x2))]) (hC := trivial) (hr := by kernel_rfl)
/-! 37 jacquard/diophant.compareProduct -/
def F37 (x1 : Int) (x2 : Int) (x3 : Int) : Int :=
  (bif (!(decide (x1 < 0) == decide (x2 < 0))) then
   (bif (x1 != 0) then
    (bif (!((x2 != 0) == decide (x3 < 0))) then
     (bif ((F38 (F39 x1) (F39 x2)).1 == 0) then
      (bif ((F38 (F39 x1) (F39 x2)).2 == 0) then
       (bif (x3 == 0) then
        0
       else
        (bif (x2 != 0) then
         (-1)
        else
         1))
      else
       (bif (x2 != 0) then
        (-1)
       else
        1))
     else
      (bif (x2 != 0) then
       (-1)
      else
       1))
    else
     (bif decide ((F38 (F39 x1) (F39 x2)).1 > 0) then
      (bif (x2 != 0) then
       (-1)
      else
       1)
     else
      (bif decide ((F38 (F39 x1) (F39 x2)).2 > (F39 x3)) then
       (bif (x2 != 0) then
        (-1)
       else
        1)
      else
       (bif decide ((F38 (F39 x1) (F39 x2)).2 < (F39 x3)) then
        (bif (x2 != 0) then
         1
        else
         (-1))
       else
        (bif (x2 != 0) then
         0
        else
         0)))))
   else
    (bif (!(false == decide (x3 < 0))) then
     (bif ((F38 (F39 x1) (F39 x2)).1 == 0) then
      (bif ((F38 (F39 x1) (F39 x2)).2 == 0) then
       (bif (x3 == 0) then
        0
       else
        1)
      else
       1)
     else
      1)
    else
     (bif decide ((F38 (F39 x1) (F39 x2)).1 > 0) then
      1
     else
      (bif decide ((F38 (F39 x1) (F39 x2)).2 > (F39 x3)) then
       1
      else
       (bif decide ((F38 (F39 x1) (F39 x2)).2 < (F39 x3)) then
        (-1)
       else
        0)))))
  else
   (bif (!(false == decide (x3 < 0))) then
    (bif ((F38 (F39 x1) (F39 x2)).1 == 0) then
     (bif ((F38 (F39 x1) (F39 x2)).2 == 0) then
      (bif (x3 == 0) then
       0
      else
       1)
     else
      1)
    else
     1)
   else
    (bif decide ((F38 (F39 x1) (F39 x2)).1 > 0) then
     1
    else
     (bif decide ((F38 (F39 x1) (F39 x2)).2 > (F39 x3)) then
      1
     else
      (bif decide ((F38 (F39 x1) (F39 x2)).2 < (F39 x3)) then
       (-1)
      else
       0)))))
set_option maxRecDepth 100000 in
theorem F37_spec (x1 : Int) (x2 : Int) (x3 : Int) (h : AHeap)  (r : Int) : F37 x1 x2 x3 = r → ACalls Try.prog 37 [.int .i64 x1, .int .i64 x2, .int .i64 x3] h (fun v' h'' => v' = (.int .i64 r : Value) ∧ h'' = h) := by
  unfold F37
  refine dec_bif (fun c4 => ?_) (fun c4 => ?_)
  · refine dec_bif (fun c5 => ?_) (fun c5 => ?_)
    · refine dec_bif (fun c9 => ?_) (fun c9 => ?_)
      · refine dec_bif (fun c10 => ?_) (fun c10 => ?_)
        · refine dec_bif (fun c11 => ?_) (fun c11 => ?_)
          · refine dec_bif (fun c12 => ?_) (fun c12 => ?_)
            · intro hr
              subst hr
              exact pFun_sound good tab_ok (f := 37) (its := [.g, .g, .g, .g, .g, .g, .g, (.w .g), (.w .g), (.p true), .g, (.w .g), (.w .g), (.p true), .g, .g, (.c (.int .u64 (F39 x1)) h), .g, (.c (.int .u64 (F39 x2)) h), (.c (.tuple #[.int .u64 ((F38 (F39 x1) (F39 x2)).1), .int .u64 ((F38 (F39 x1) (F39 x2)).2)]) h), .g, .g, .g, .g, .g, .g, .g, .g, .g, (.b true), .g, .g, .g, (.w .g), (.w .g), (.p true), .g, (.w .g), (.w .g), (.p true), (.b true), .g]) (args := [.int .i64 x1, .int .i64 x2, .int .i64 x3]) (h := h) (h' := h) (v := .int .i64 0) (hC := (And.intro c12 (And.intro c11 (And.intro (g_tt c11) (And.intro (g_tt c11) (And.intro c10 (And.intro (g_tt c10) (And.intro (g_tt c10) (And.intro c9 (And.intro (F38_spec (F39 x1) (F39 x2) h _ rfl) (And.intro (F39_spec x2 h _ rfl) (And.intro (F39_spec x1 h _ rfl) (And.intro c5 (And.intro (g_tt c5) (And.intro (g_tt c5) (And.intro c4 (And.intro (g_tt c4) (And.intro (g_tt c4) trivial)))))))))))))))))) (hr := by kernel_rfl)
            · refine dec_bif (fun c13 => ?_) (fun c13 => ?_)
              · intro hr
                subst hr
                exact pFun_sound good tab_ok (f := 37) (its := [.g, .g, .g, .g, .g, .g, .g, (.w .g), (.w .g), (.p true), .g, (.w .g), (.w .g), (.p true), .g, .g, (.c (.int .u64 (F39 x1)) h), .g, (.c (.int .u64 (F39 x2)) h), (.c (.tuple #[.int .u64 ((F38 (F39 x1) (F39 x2)).1), .int .u64 ((F38 (F39 x1) (F39 x2)).2)]) h), .g, .g, .g, .g, .g, .g, .g, .g, .g, (.b true), .g, .g, .g, (.w .g), (.w .g), (.p true), .g, (.w .g), (.w .g), (.p true), (.b false), .g, (.b true), .g]) (args := [.int .i64 x1, .int .i64 x2, .int .i64 x3]) (h := h) (h' := h) (v := .int .i64 (-1)) (hC := (And.intro c13 (And.intro c12 (And.intro c11 (And.intro (g_tt c11) (And.intro (g_tt c11) (And.intro c10 (And.intro (g_tt c10) (And.intro (g_tt c10) (And.intro c9 (And.intro (F38_spec (F39 x1) (F39 x2) h _ rfl) (And.intro (F39_spec x2 h _ rfl) (And.intro (F39_spec x1 h _ rfl) (And.intro c5 (And.intro (g_tt c5) (And.intro (g_tt c5) (And.intro c4 (And.intro (g_tt c4) (And.intro (g_tt c4) trivial))))))))))))))))))) (hr := by kernel_rfl)
              · intro hr
                subst hr
                exact pFun_sound good tab_ok (f := 37) (its := [.g, .g, .g, .g, .g, .g, .g, (.w .g), (.w .g), (.p true), .g, (.w .g), (.w .g), (.p true), .g, .g, (.c (.int .u64 (F39 x1)) h), .g, (.c (.int .u64 (F39 x2)) h), (.c (.tuple #[.int .u64 ((F38 (F39 x1) (F39 x2)).1), .int .u64 ((F38 (F39 x1) (F39 x2)).2)]) h), .g, .g, .g, .g, .g, .g, .g, .g, .g, (.b true), .g, .g, .g, (.w .g), (.w .g), (.p true), .g, (.w .g), (.w .g), (.p true), (.b false), .g, (.b false), .g]) (args := [.int .i64 x1, .int .i64 x2, .int .i64 x3]) (h := h) (h' := h) (v := .int .i64 1) (hC := (And.intro c13 (And.intro c12 (And.intro c11 (And.intro (g_tt c11) (And.intro (g_tt c11) (And.intro c10 (And.intro (g_tt c10) (And.intro (g_tt c10) (And.intro c9 (And.intro (F38_spec (F39 x1) (F39 x2) h _ rfl) (And.intro (F39_spec x2 h _ rfl) (And.intro (F39_spec x1 h _ rfl) (And.intro c5 (And.intro (g_tt c5) (And.intro (g_tt c5) (And.intro c4 (And.intro (g_tt c4) (And.intro (g_tt c4) trivial))))))))))))))))))) (hr := by kernel_rfl)
          · refine dec_bif (fun c14 => ?_) (fun c14 => ?_)
            · intro hr
              subst hr
              exact pFun_sound good tab_ok (f := 37) (its := [.g, .g, .g, .g, .g, .g, .g, (.w .g), (.w .g), (.p true), .g, (.w .g), (.w .g), (.p true), .g, .g, (.c (.int .u64 (F39 x1)) h), .g, (.c (.int .u64 (F39 x2)) h), (.c (.tuple #[.int .u64 ((F38 (F39 x1) (F39 x2)).1), .int .u64 ((F38 (F39 x1) (F39 x2)).2)]) h), .g, .g, .g, .g, .g, .g, .g, .g, .g, (.b true), .g, .g, .g, (.w .g), (.w .g), (.p true), .g, .n, .n, (.p false), (.b false), .g, (.b true), .g]) (args := [.int .i64 x1, .int .i64 x2, .int .i64 x3]) (h := h) (h' := h) (v := .int .i64 (-1)) (hC := (And.intro c14 (And.intro l_f (And.intro c11 (And.intro (g_ft c11) (And.intro (g_ft c11) (And.intro c10 (And.intro (g_tt c10) (And.intro (g_tt c10) (And.intro c9 (And.intro (F38_spec (F39 x1) (F39 x2) h _ rfl) (And.intro (F39_spec x2 h _ rfl) (And.intro (F39_spec x1 h _ rfl) (And.intro c5 (And.intro (g_tt c5) (And.intro (g_tt c5) (And.intro c4 (And.intro (g_tt c4) (And.intro (g_tt c4) trivial))))))))))))))))))) (hr := by kernel_rfl)
            · intro hr
              subst hr
              exact pFun_sound good tab_ok (f := 37) (its := [.g, .g, .g, .g, .g, .g, .g, (.w .g), (.w .g), (.p true), .g, (.w .g), (.w .g), (.p true), .g, .g, (.c (.int .u64 (F39 x1)) h), .g, (.c (.int .u64 (F39 x2)) h), (.c (.tuple #[.int .u64 ((F38 (F39 x1) (F39 x2)).1), .int .u64 ((F38 (F39 x1) (F39 x2)).2)]) h), .g, .g, .g, .g, .g, .g, .g, .g, .g, (.b true), .g, .g, .g, (.w .g), (.w .g), (.p true), .g, .n, .n, (.p false), (.b false), .g, (.b false), .g]) (args := [.int .i64 x1, .int .i64 x2, .int .i64 x3]) (h := h) (h' := h) (v := .int .i64 1) (hC := (And.intro c14 (And.intro l_f (And.intro c11 (And.intro (g_ft c11) (And.intro (g_ft c11) (And.intro c10 (And.intro (g_tt c10) (And.intro (g_tt c10) (And.intro c9 (And.intro (F38_spec (F39 x1) (F39 x2) h _ rfl) (And.intro (F39_spec x2 h _ rfl) (And.intro (F39_spec x1 h _ rfl) (And.intro c5 (And.intro (g_tt c5) (And.intro (g_tt c5) (And.intro c4 (And.intro (g_tt c4) (And.intro (g_tt c4) trivial))))))))))))))))))) (hr := by kernel_rfl)
        · refine dec_bif (fun c15 => ?_) (fun c15 => ?_)
          · intro hr
            subst hr
            exact pFun_sound good tab_ok (f := 37) (its := [.g, .g, .g, .g, .g, .g, .g, (.w .g), (.w .g), (.p true), .g, (.w .g), (.w .g), (.p true), .g, .g, (.c (.int .u64 (F39 x1)) h), .g, (.c (.int .u64 (F39 x2)) h), (.c (.tuple #[.int .u64 ((F38 (F39 x1) (F39 x2)).1), .int .u64 ((F38 (F39 x1) (F39 x2)).2)]) h), .g, .g, .g, .g, .g, .g, .g, .g, .g, (.b true), .g, .g, .g, .n, .n, (.p false), .g, .n, .n, .g, (.b false), .g, (.b true), .g]) (args := [.int .i64 x1, .int .i64 x2, .int .i64 x3]) (h := h) (h' := h) (v := .int .i64 (-1)) (hC := (And.intro c15 (And.intro l_f (And.intro (g_ft l_f) (And.intro (g_ft l_f) (And.intro c10 (And.intro (g_ft c10) (And.intro (g_ft c10) (And.intro c9 (And.intro (F38_spec (F39 x1) (F39 x2) h _ rfl) (And.intro (F39_spec x2 h _ rfl) (And.intro (F39_spec x1 h _ rfl) (And.intro c5 (And.intro (g_tt c5) (And.intro (g_tt c5) (And.intro c4 (And.intro (g_tt c4) (And.intro (g_tt c4) trivial)))))))))))))))))) (hr := by kernel_rfl)
          · intro hr
            subst hr
            exact pFun_sound good tab_ok (f := 37) (its := [.g, .g, .g, .g, .g, .g, .g, (.w .g), (.w .g), (.p true), .g, (.w .g), (.w .g), (.p true), .g, .g, (.c (.int .u64 (F39 x1)) h), .g, (.c (.int .u64 (F39 x2)) h), (.c (.tuple #[.int .u64 ((F38 (F39 x1) (F39 x2)).1), .int .u64 ((F38 (F39 x1) (F39 x2)).2)]) h), .g, .g, .g, .g, .g, .g, .g, .g, .g, (.b true), .g, .g, .g, .n, .n, (.p false), .g, .n, .n, .g, (.b false), .g, (.b false), .g]) (args := [.int .i64 x1, .int .i64 x2, .int .i64 x3]) (h := h) (h' := h) (v := .int .i64 1) (hC := (And.intro c15 (And.intro l_f (And.intro (g_ft l_f) (And.intro (g_ft l_f) (And.intro c10 (And.intro (g_ft c10) (And.intro (g_ft c10) (And.intro c9 (And.intro (F38_spec (F39 x1) (F39 x2) h _ rfl) (And.intro (F39_spec x2 h _ rfl) (And.intro (F39_spec x1 h _ rfl) (And.intro c5 (And.intro (g_tt c5) (And.intro (g_tt c5) (And.intro c4 (And.intro (g_tt c4) (And.intro (g_tt c4) trivial)))))))))))))))))) (hr := by kernel_rfl)
      · refine dec_bif (fun c17 => ?_) (fun c17 => ?_)
        · refine dec_bif (fun c18 => ?_) (fun c18 => ?_)
          · intro hr
            subst hr
            exact pFun_sound good tab_ok (f := 37) (its := [.g, .g, .g, .g, .g, .g, .g, (.w .g), (.w .g), (.p true), .g, (.w .g), (.w .g), (.p true), .g, .g, (.c (.int .u64 (F39 x1)) h), .g, (.c (.int .u64 (F39 x2)) h), (.c (.tuple #[.int .u64 ((F38 (F39 x1) (F39 x2)).1), .int .u64 ((F38 (F39 x1) (F39 x2)).2)]) h), .g, .g, .g, .g, .g, .g, .g, .g, .g, (.b false), .g, (.c (.int .u64 (F39 x3)) h), .g, .g, .g, .g, .n, .n, .n, (.p true), .g, (.b true), .g, .g, (.b true), .g, .g, .g]) (args := [.int .i64 x1, .int .i64 x2, .int .i64 x3]) (h := h) (h' := h) (v := .int .i64 (-1)) (hC := (And.intro c18 (And.intro l_t (And.intro c17 (And.intro (g_tf c17) (And.intro (g_tf c17) (And.intro (g_tf c17) (And.intro (F39_spec x3 h _ rfl) (And.intro c9 (And.intro (F38_spec (F39 x1) (F39 x2) h _ rfl) (And.intro (F39_spec x2 h _ rfl) (And.intro (F39_spec x1 h _ rfl) (And.intro c5 (And.intro (g_tt c5) (And.intro (g_tt c5) (And.intro c4 (And.intro (g_tt c4) (And.intro (g_tt c4) trivial)))))))))))))))))) (hr := by kernel_rfl)
          · intro hr
            subst hr
            exact pFun_sound good tab_ok (f := 37) (its := [.g, .g, .g, .g, .g, .g, .g, (.w .g), (.w .g), (.p true), .g, (.w .g), (.w .g), (.p true), .g, .g, (.c (.int .u64 (F39 x1)) h), .g, (.c (.int .u64 (F39 x2)) h), (.c (.tuple #[.int .u64 ((F38 (F39 x1) (F39 x2)).1), .int .u64 ((F38 (F39 x1) (F39 x2)).2)]) h), .g, .g, .g, .g, .g, .g, .g, .g, .g, (.b false), .g, (.c (.int .u64 (F39 x3)) h), .g, .g, .g, .g, .n, .n, .n, (.p true), .g, (.b true), .g, .g, (.b false), .g, .g]) (args := [.int .i64 x1, .int .i64 x2, .int .i64 x3]) (h := h) (h' := h) (v := .int .i64 1) (hC := (And.intro c18 (And.intro l_t (And.intro c17 (And.intro (g_tf c17) (And.intro (g_tf c17) (And.intro (g_tf c17) (And.intro (F39_spec x3 h _ rfl) (And.intro c9 (And.intro (F38_spec (F39 x1) (F39 x2) h _ rfl) (And.intro (F39_spec x2 h _ rfl) (And.intro (F39_spec x1 h _ rfl) (And.intro c5 (And.intro (g_tt c5) (And.intro (g_tt c5) (And.intro c4 (And.intro (g_tt c4) (And.intro (g_tt c4) trivial)))))))))))))))))) (hr := by kernel_rfl)
        · refine dec_bif (fun c19 => ?_) (fun c19 => ?_)
          · refine dec_bif (fun c20 => ?_) (fun c20 => ?_)
            · intro hr
              subst hr
              exact pFun_sound good tab_ok (f := 37) (its := [.g, .g, .g, .g, .g, .g, .g, (.w .g), (.w .g), (.p true), .g, (.w .g), (.w .g), (.p true), .g, .g, (.c (.int .u64 (F39 x1)) h), .g, (.c (.int .u64 (F39 x2)) h), (.c (.tuple #[.int .u64 ((F38 (F39 x1) (F39 x2)).1), .int .u64 ((F38 (F39 x1) (F39 x2)).2)]) h), .g, .g, .g, .g, .g, .g, .g, .g, .g, (.b false), .g, (.c (.int .u64 (F39 x3)) h), .g, .g, .g, .g, (.w .g), (.w .g), (.w .g), (.p false), .g, (.b true), .g, .g, (.b true), .g, .g, .g]) (args := [.int .i64 x1, .int .i64 x2, .int .i64 x3]) (h := h) (h' := h) (v := .int .i64 (-1)) (hC := (And.intro c20 (And.intro c19 (And.intro c17 (And.intro (g_ff c17) (And.intro (g_ff c17) (And.intro (g_ff c17) (And.intro (F39_spec x3 h _ rfl) (And.intro c9 (And.intro (F38_spec (F39 x1) (F39 x2) h _ rfl) (And.intro (F39_spec x2 h _ rfl) (And.intro (F39_spec x1 h _ rfl) (And.intro c5 (And.intro (g_tt c5) (And.intro (g_tt c5) (And.intro c4 (And.intro (g_tt c4) (And.intro (g_tt c4) trivial)))))))))))))))))) (hr := by kernel_rfl)
            · intro hr
              subst hr
              exact pFun_sound good tab_ok (f := 37) (its := [.g, .g, .g, .g, .g, .g, .g, (.w .g), (.w .g), (.p true), .g, (.w .g), (.w .g), (.p true), .g, .g, (.c (.int .u64 (F39 x1)) h), .g, (.c (.int .u64 (F39 x2)) h), (.c (.tuple #[.int .u64 ((F38 (F39 x1) (F39 x2)).1), .int .u64 ((F38 (F39 x1) (F39 x2)).2)]) h), .g, .g, .g, .g, .g, .g, .g, .g, .g, (.b false), .g, (.c (.int .u64 (F39 x3)) h), .g, .g, .g, .g, (.w .g), (.w .g), (.w .g), (.p false), .g, (.b true), .g, .g, (.b false), .g, .g]) (args := [.int .i64 x1, .int .i64 x2, .int .i64 x3]) (h := h) (h' := h) (v := .int .i64 1) (hC := (And.intro c20 (And.intro c19 (And.intro c17 (And.intro (g_ff c17) (And.intro (g_ff c17) (And.intro (g_ff c17) (And.intro (F39_spec x3 h _ rfl) (And.intro c9 (And.intro (F38_spec (F39 x1) (F39 x2) h _ rfl) (And.intro (F39_spec x2 h _ rfl) (And.intro (F39_spec x1 h _ rfl) (And.intro c5 (And.intro (g_tt c5) (And.intro (g_tt c5) (And.intro c4 (And.intro (g_tt c4) (And.intro (g_tt c4) trivial)))))))))))))))))) (hr := by kernel_rfl)
          · refine dec_bif (fun c21 => ?_) (fun c21 => ?_)
            · refine dec_bif (fun c22 => ?_) (fun c22 => ?_)
              · intro hr
                subst hr
                exact pFun_sound good tab_ok (f := 37) (its := [.g, .g, .g, .g, .g, .g, .g, (.w .g), (.w .g), (.p true), .g, (.w .g), (.w .g), (.p true), .g, .g, (.c (.int .u64 (F39 x1)) h), .g, (.c (.int .u64 (F39 x2)) h), (.c (.tuple #[.int .u64 ((F38 (F39 x1) (F39 x2)).1), .int .u64 ((F38 (F39 x1) (F39 x2)).2)]) h), .g, .g, .g, .g, .g, .g, .g, .g, .g, (.b false), .g, (.c (.int .u64 (F39 x3)) h), .g, .g, .g, .g, (.w .g), (.w .g), (.w .g), (.p false), .g, (.b false), .g, .g, .g, .g, (.b true), .g, .g, (.b true), .g, .g, .g]) (args := [.int .i64 x1, .int .i64 x2, .int .i64 x3]) (h := h) (h' := h) (v := .int .i64 1) (hC := (And.intro c22 (And.intro c21 (And.intro c19 (And.intro c17 (And.intro (g_ff c17) (And.intro (g_ff c17) (And.intro (g_ff c17) (And.intro (F39_spec x3 h _ rfl) (And.intro c9 (And.intro (F38_spec (F39 x1) (F39 x2) h _ rfl) (And.intro (F39_spec x2 h _ rfl) (And.intro (F39_spec x1 h _ rfl) (And.intro c5 (And.intro (g_tt c5) (And.intro (g_tt c5) (And.intro c4 (And.intro (g_tt c4) (And.intro (g_tt c4) trivial))))))))))))))))))) (hr := by kernel_rfl)
              · intro hr
                subst hr
                exact pFun_sound good tab_ok (f := 37) (its := [.g, .g, .g, .g, .g, .g, .g, (.w .g), (.w .g), (.p true), .g, (.w .g), (.w .g), (.p true), .g, .g, (.c (.int .u64 (F39 x1)) h), .g, (.c (.int .u64 (F39 x2)) h), (.c (.tuple #[.int .u64 ((F38 (F39 x1) (F39 x2)).1), .int .u64 ((F38 (F39 x1) (F39 x2)).2)]) h), .g, .g, .g, .g, .g, .g, .g, .g, .g, (.b false), .g, (.c (.int .u64 (F39 x3)) h), .g, .g, .g, .g, (.w .g), (.w .g), (.w .g), (.p false), .g, (.b false), .g, .g, .g, .g, (.b true), .g, .g, (.b false), .g, .g]) (args := [.int .i64 x1, .int .i64 x2, .int .i64 x3]) (h := h) (h' := h) (v := .int .i64 (-1)) (hC := (And.intro c22 (And.intro c21 (And.intro c19 (And.intro c17 (And.intro (g_ff c17) (And.intro (g_ff c17) (And.intro (g_ff c17) (And.intro (F39_spec x3 h _ rfl) (And.intro c9 (And.intro (F38_spec (F39 x1) (F39 x2) h _ rfl) (And.intro (F39_spec x2 h _ rfl) (And.intro (F39_spec x1 h _ rfl) (And.intro c5 (And.intro (g_tt c5) (And.intro (g_tt c5) (And.intro c4 (And.intro (g_tt c4) (And.intro (g_tt c4) trivial))))))))))))))))))) (hr := by kernel_rfl)
            · refine dec_bif (fun c23 => ?_) (fun c23 => ?_)
              · intro hr
                subst hr
                exact pFun_sound good tab_ok (f := 37) (its := [.g, .g, .g, .g, .g, .g, .g, (.w .g), (.w .g), (.p true), .g, (.w .g), (.w .g), (.p true), .g, .g, (.c (.int .u64 (F39 x1)) h), .g, (.c (.int .u64 (F39 x2)) h), (.c (.tuple #[.int .u64 ((F38 (F39 x1) (F39 x2)).1), .int .u64 ((F38 (F39 x1) (F39 x2)).2)]) h), .g, .g, .g, .g, .g, .g, .g, .g, .g, (.b false), .g, (.c (.int .u64 (F39 x3)) h), .g, .g, .g, .g, (.w .g), (.w .g), (.w .g), (.p false), .g, (.b false), .g, .g, .g, .g, (.b false), .g, (.b true), .g, .g, .g]) (args := [.int .i64 x1, .int .i64 x2, .int .i64 x3]) (h := h) (h' := h) (v := .int .i64 0) (hC := (And.intro c23 (And.intro c21 (And.intro c19 (And.intro c17 (And.intro (g_ff c17) (And.intro (g_ff c17) (And.intro (g_ff c17) (And.intro (F39_spec x3 h _ rfl) (And.intro c9 (And.intro (F38_spec (F39 x1) (F39 x2) h _ rfl) (And.intro (F39_spec x2 h _ rfl) (And.intro (F39_spec x1 h _ rfl) (And.intro c5 (And.intro (g_tt c5) (And.intro (g_tt c5) (And.intro c4 (And.intro (g_tt c4) (And.intro (g_tt c4) trivial))))))))))))))))))) (hr := by kernel_rfl)
              · intro hr
                subst hr
                exact pFun_sound good tab_ok (f := 37) (its := [.g, .g, .g, .g, .g, .g, .g, (.w .g), (.w .g), (.p true), .g, (.w .g), (.w .g), (.p true), .g, .g, (.c (.int .u64 (F39 x1)) h), .g, (.c (.int .u64 (F39 x2)) h), (.c (.tuple #[.int .u64 ((F38 (F39 x1) (F39 x2)).1), .int .u64 ((F38 (F39 x1) (F39 x2)).2)]) h), .g, .g, .g, .g, .g, .g, .g, .g, .g, (.b false), .g, (.c (.int .u64 (F39 x3)) h), .g, .g, .g, .g, (.w .g), (.w .g), (.w .g), (.p false), .g, (.b false), .g, .g, .g, .g, (.b false), .g, (.b false), .g, .g]) (args := [.int .i64 x1, .int .i64 x2, .int .i64 x3]) (h := h) (h' := h) (v := .int .i64 0) (hC := (And.intro c23 (And.intro c21 (And.intro c19 (And.intro c17 (And.intro (g_ff c17) (And.intro (g_ff c17) (And.intro (g_ff c17) (And.intro (F39_spec x3 h _ rfl) (And.intro c9 (And.intro (F38_spec (F39 x1) (F39 x2) h _ rfl) (And.intro (F39_spec x2 h _ rfl) (And.intro (F39_spec x1 h _ rfl) (And.intro c5 (And.intro (g_tt c5) (And.intro (g_tt c5) (And.intro c4 (And.intro (g_tt c4) (And.intro (g_tt c4) trivial))))))))))))))))))) (hr := by kernel_rfl)
    · refine dec_bif (fun c27 => ?_) (fun c27 => ?_)
      · refine dec_bif (fun c28 => ?_) (fun c28 => ?_)
        · refine dec_bif (fun c29 => ?_) (fun c29 => ?_)
          · refine dec_bif (fun c30 => ?_) (fun c30 => ?_)
            · intro hr
              subst hr
              exact pFun_sound good tab_ok (f := 37) (its := [.g, .g, .g, .g, .g, .g, .g, (.w .g), (.w .g), (.p true), .g, .n, .n, (.p false), .g, .g, (.c (.int .u64 (F39 x1)) h), .g, (.c (.int .u64 (F39 x2)) h), (.c (.tuple #[.int .u64 ((F38 (F39 x1) (F39 x2)).1), .int .u64 ((F38 (F39 x1) (F39 x2)).2)]) h), .g, .g, .g, .g, .g, .g, .g, .g, .g, (.b true), .g, .g, .g, (.w .g), (.w .g), (.p true), .g, (.w .g), (.w .g), (.p true), (.b true), .g]) (args := [.int .i64 x1, .int .i64 x2, .int .i64 x3]) (h := h) (h' := h) (v := .int .i64 0) (hC := (And.intro c30 (And.intro c29 (And.intro (g_tt c29) (And.intro (g_tt c29) (And.intro c28 (And.intro (g_tt c28) (And.intro (g_tt c28) (And.intro c27 (And.intro (F38_spec (F39 x1) (F39 x2) h _ rfl) (And.intro (F39_spec x2 h _ rfl) (And.intro (F39_spec x1 h _ rfl) (And.intro c5 (And.intro (g_ft c5) (And.intro (g_ft c5) (And.intro c4 (And.intro (g_tt c4) (And.intro (g_tt c4) trivial)))))))))))))))))) (hr := by kernel_rfl)
            · intro hr
              subst hr
              exact pFun_sound good tab_ok (f := 37) (its := [.g, .g, .g, .g, .g, .g, .g, (.w .g), (.w .g), (.p true), .g, .n, .n, (.p false), .g, .g, (.c (.int .u64 (F39 x1)) h), .g, (.c (.int .u64 (F39 x2)) h), (.c (.tuple #[.int .u64 ((F38 (F39 x1) (F39 x2)).1), .int .u64 ((F38 (F39 x1) (F39 x2)).2)]) h), .g, .g, .g, .g, .g, .g, .g, .g, .g, (.b true), .g, .g, .g, (.w .g), (.w .g), (.p true), .g, (.w .g), (.w .g), (.p true), (.b false), .g, (.b false), .g]) (args := [.int .i64 x1, .int .i64 x2, .int .i64 x3]) (h := h) (h' := h) (v := .int .i64 1) (hC := (And.intro l_f (And.intro c30 (And.intro c29 (And.intro (g_tt c29) (And.intro (g_tt c29) (And.intro c28 (And.intro (g_tt c28) (And.intro (g_tt c28) (And.intro c27 (And.intro (F38_spec (F39 x1) (F39 x2) h _ rfl) (And.intro (F39_spec x2 h _ rfl) (And.intro (F39_spec x1 h _ rfl) (And.intro c5 (And.intro (g_ft c5) (And.intro (g_ft c5) (And.intro c4 (And.intro (g_tt c4) (And.intro (g_tt c4) trivial))))))))))))))))))) (hr := by kernel_rfl)
          · intro hr
            subst hr
            exact pFun_sound good tab_ok (f := 37) (its := [.g, .g, .g, .g, .g, .g, .g, (.w .g), (.w .g), (.p true), .g, .n, .n, (.p false), .g, .g, (.c (.int .u64 (F39 x1)) h), .g, (.c (.int .u64 (F39 x2)) h), (.c (.tuple #[.int .u64 ((F38 (F39 x1) (F39 x2)).1), .int .u64 ((F38 (F39 x1) (F39 x2)).2)]) h), .g, .g, .g, .g, .g, .g, .g, .g, .g, (.b true), .g, .g, .g, (.w .g), (.w .g), (.p true), .g, .n, .n, (.p false), (.b false), .g, (.b false), .g]) (args := [.int .i64 x1, .int .i64 x2, .int .i64 x3]) (h := h) (h' := h) (v := .int .i64 1) (hC := (And.intro l_f (And.intro l_f (And.intro c29 (And.intro (g_ft c29) (And.intro (g_ft c29) (And.intro c28 (And.intro (g_tt c28) (And.intro (g_tt c28) (And.intro c27 (And.intro (F38_spec (F39 x1) (F39 x2) h _ rfl) (And.intro (F39_spec x2 h _ rfl) (And.intro (F39_spec x1 h _ rfl) (And.intro c5 (And.intro (g_ft c5) (And.intro (g_ft c5) (And.intro c4 (And.intro (g_tt c4) (And.intro (g_tt c4) trivial))))))))))))))))))) (hr := by kernel_rfl)
        · intro hr
          subst hr
          exact pFun_sound good tab_ok (f := 37) (its := [.g, .g, .g, .g, .g, .g, .g, (.w .g), (.w .g), (.p true), .g, .n, .n, (.p false), .g, .g, (.c (.int .u64 (F39 x1)) h), .g, (.c (.int .u64 (F39 x2)) h), (.c (.tuple #[.int .u64 ((F38 (F39 x1) (F39 x2)).1), .int .u64 ((F38 (F39 x1) (F39 x2)).2)]) h), .g, .g, .g, .g, .g, .g, .g, .g, .g, (.b true), .g, .g, .g, .n, .n, (.p false), .g, .n, .n, .g, (.b false), .g, (.b false), .g]) (args := [.int .i64 x1, .int .i64 x2, .int .i64 x3]) (h := h) (h' := h) (v := .int .i64 1) (hC := (And.intro l_f (And.intro l_f (And.intro (g_ft l_f) (And.intro (g_ft l_f) (And.intro c28 (And.intro (g_ft c28) (And.intro (g_ft c28) (And.intro c27 (And.intro (F38_spec (F39 x1) (F39 x2) h _ rfl) (And.intro (F39_spec x2 h _ rfl) (And.intro (F39_spec x1 h _ rfl) (And.intro c5 (And.intro (g_ft c5) (And.intro (g_ft c5) (And.intro c4 (And.intro (g_tt c4) (And.intro (g_tt c4) trivial)))))))))))))))))) (hr := by kernel_rfl)
      · refine dec_bif (fun c32 => ?_) (fun c32 => ?_)
        · intro hr
          subst hr
          exact pFun_sound good tab_ok (f := 37) (its := [.g, .g, .g, .g, .g, .g, .g, (.w .g), (.w .g), (.p true), .g, .n, .n, (.p false), .g, .g, (.c (.int .u64 (F39 x1)) h), .g, (.c (.int .u64 (F39 x2)) h), (.c (.tuple #[.int .u64 ((F38 (F39 x1) (F39 x2)).1), .int .u64 ((F38 (F39 x1) (F39 x2)).2)]) h), .g, .g, .g, .g, .g, .g, .g, .g, .g, (.b false), .g, (.c (.int .u64 (F39 x3)) h), .g, .g, .g, .g, .n, .n, .n, (.p true), .g, (.b true), .g, .g, (.b false), .g, .g]) (args := [.int .i64 x1, .int .i64 x2, .int .i64 x3]) (h := h) (h' := h) (v := .int .i64 1) (hC := (And.intro l_f (And.intro l_t (And.intro c32 (And.intro (g_tf c32) (And.intro (g_tf c32) (And.intro (g_tf c32) (And.intro (F39_spec x3 h _ rfl) (And.intro c27 (And.intro (F38_spec (F39 x1) (F39 x2) h _ rfl) (And.intro (F39_spec x2 h _ rfl) (And.intro (F39_spec x1 h _ rfl) (And.intro c5 (And.intro (g_ft c5) (And.intro (g_ft c5) (And.intro c4 (And.intro (g_tt c4) (And.intro (g_tt c4) trivial)))))))))))))))))) (hr := by kernel_rfl)
        · refine dec_bif (fun c33 => ?_) (fun c33 => ?_)
          · intro hr
            subst hr
            exact pFun_sound good tab_ok (f := 37) (its := [.g, .g, .g, .g, .g, .g, .g, (.w .g), (.w .g), (.p true), .g, .n, .n, (.p false), .g, .g, (.c (.int .u64 (F39 x1)) h), .g, (.c (.int .u64 (F39 x2)) h), (.c (.tuple #[.int .u64 ((F38 (F39 x1) (F39 x2)).1), .int .u64 ((F38 (F39 x1) (F39 x2)).2)]) h), .g, .g, .g, .g, .g, .g, .g, .g, .g, (.b false), .g, (.c (.int .u64 (F39 x3)) h), .g, .g, .g, .g, (.w .g), (.w .g), (.w .g), (.p false), .g, (.b true), .g, .g, (.b false), .g, .g]) (args := [.int .i64 x1, .int .i64 x2, .int .i64 x3]) (h := h) (h' := h) (v := .int .i64 1) (hC := (And.intro l_f (And.intro c33 (And.intro c32 (And.intro (g_ff c32) (And.intro (g_ff c32) (And.intro (g_ff c32) (And.intro (F39_spec x3 h _ rfl) (And.intro c27 (And.intro (F38_spec (F39 x1) (F39 x2) h _ rfl) (And.intro (F39_spec x2 h _ rfl) (And.intro (F39_spec x1 h _ rfl) (And.intro c5 (And.intro (g_ft c5) (And.intro (g_ft c5) (And.intro c4 (And.intro (g_tt c4) (And.intro (g_tt c4) trivial)))))))))))))))))) (hr := by kernel_rfl)
          · refine dec_bif (fun c34 => ?_) (fun c34 => ?_)
            · intro hr
              subst hr
              exact pFun_sound good tab_ok (f := 37) (its := [.g, .g, .g, .g, .g, .g, .g, (.w .g), (.w .g), (.p true), .g, .n, .n, (.p false), .g, .g, (.c (.int .u64 (F39 x1)) h), .g, (.c (.int .u64 (F39 x2)) h), (.c (.tuple #[.int .u64 ((F38 (F39 x1) (F39 x2)).1), .int .u64 ((F38 (F39 x1) (F39 x2)).2)]) h), .g, .g, .g, .g, .g, .g, .g, .g, .g, (.b false), .g, (.c (.int .u64 (F39 x3)) h), .g, .g, .g, .g, (.w .g), (.w .g), (.w .g), (.p false), .g, (.b false), .g, .g, .g, .g, (.b true), .g, .g, (.b false), .g, .g]) (args := [.int .i64 x1, .int .i64 x2, .int .i64 x3]) (h := h) (h' := h) (v := .int .i64 (-1)) (hC := (And.intro l_f (And.intro c34 (And.intro c33 (And.intro c32 (And.intro (g_ff c32) (And.intro (g_ff c32) (And.intro (g_ff c32) (And.intro (F39_spec x3 h _ rfl) (And.intro c27 (And.intro (F38_spec (F39 x1) (F39 x2) h _ rfl) (And.intro (F39_spec x2 h _ rfl) (And.intro (F39_spec x1 h _ rfl) (And.intro c5 (And.intro (g_ft c5) (And.intro (g_ft c5) (And.intro c4 (And.intro (g_tt c4) (And.intro (g_tt c4) trivial))))))))))))))))))) (hr := by kernel_rfl)
            · intro hr
              subst hr
              exact pFun_sound good tab_ok (f := 37) (its := [.g, .g, .g, .g, .g, .g, .g, (.w .g), (.w .g), (.p true), .g, .n, .n, (.p false), .g, .g, (.c (.int .u64 (F39 x1)) h), .g, (.c (.int .u64 (F39 x2)) h), (.c (.tuple #[.int .u64 ((F38 (F39 x1) (F39 x2)).1), .int .u64 ((F38 (F39 x1) (F39 x2)).2)]) h), .g, .g, .g, .g, .g, .g, .g, .g, .g, (.b false), .g, (.c (.int .u64 (F39 x3)) h), .g, .g, .g, .g, (.w .g), (.w .g), (.w .g), (.p false), .g, (.b false), .g, .g, .g, .g, (.b false), .g, (.b false), .g, .g]) (args := [.int .i64 x1, .int .i64 x2, .int .i64 x3]) (h := h) (h' := h) (v := .int .i64 0) (hC := (And.intro l_f (And.intro c34 (And.intro c33 (And.intro c32 (And.intro (g_ff c32) (And.intro (g_ff c32) (And.intro (g_ff c32) (And.intro (F39_spec x3 h _ rfl) (And.intro c27 (And.intro (F38_spec (F39 x1) (F39 x2) h _ rfl) (And.intro (F39_spec x2 h _ rfl) (And.intro (F39_spec x1 h _ rfl) (And.intro c5 (And.intro (g_ft c5) (And.intro (g_ft c5) (And.intro c4 (And.intro (g_tt c4) (And.intro (g_tt c4) trivial))))))))))))))))))) (hr := by kernel_rfl)
  · refine dec_bif (fun c38 => ?_) (fun c38 => ?_)
    · refine dec_bif (fun c39 => ?_) (fun c39 => ?_)
      · refine dec_bif (fun c40 => ?_) (fun c40 => ?_)
        · refine dec_bif (fun c41 => ?_) (fun c41 => ?_)
          · intro hr
            subst hr
            exact pFun_sound good tab_ok (f := 37) (its := [.g, .g, .g, .g, .g, .g, .g, .n, .n, (.p false), .g, .n, .n, .g, .g, .g, (.c (.int .u64 (F39 x1)) h), .g, (.c (.int .u64 (F39 x2)) h), (.c (.tuple #[.int .u64 ((F38 (F39 x1) (F39 x2)).1), .int .u64 ((F38 (F39 x1) (F39 x2)).2)]) h), .g, .g, .g, .g, .g, .g, .g, .g, .g, (.b true), .g, .g, .g, (.w .g), (.w .g), (.p true), .g, (.w .g), (.w .g), (.p true), (.b true), .g]) (args := [.int .i64 x1, .int .i64 x2, .int .i64 x3]) (h := h) (h' := h) (v := .int .i64 0) (hC := (And.intro c41 (And.intro c40 (And.intro (g_tt c40) (And.intro (g_tt c40) (And.intro c39 (And.intro (g_tt c39) (And.intro (g_tt c39) (And.intro c38 (And.intro (F38_spec (F39 x1) (F39 x2) h _ rfl) (And.intro (F39_spec x2 h _ rfl) (And.intro (F39_spec x1 h _ rfl) (And.intro (g_ft l_f) (And.intro (g_ft l_f) (And.intro c4 (And.intro (g_ft c4) (And.intro (g_ft c4) trivial))))))))))))))))) (hr := by kernel_rfl)
          · intro hr
            subst hr
            exact pFun_sound good tab_ok (f := 37) (its := [.g, .g, .g, .g, .g, .g, .g, .n, .n, (.p false), .g, .n, .n, .g, .g, .g, (.c (.int .u64 (F39 x1)) h), .g, (.c (.int .u64 (F39 x2)) h), (.c (.tuple #[.int .u64 ((F38 (F39 x1) (F39 x2)).1), .int .u64 ((F38 (F39 x1) (F39 x2)).2)]) h), .g, .g, .g, .g, .g, .g, .g, .g, .g, (.b true), .g, .g, .g, (.w .g), (.w .g), (.p true), .g, (.w .g), (.w .g), (.p true), (.b false), .g, (.b false), .g]) (args := [.int .i64 x1, .int .i64 x2, .int .i64 x3]) (h := h) (h' := h) (v := .int .i64 1) (hC := (And.intro l_f (And.intro c41 (And.intro c40 (And.intro (g_tt c40) (And.intro (g_tt c40) (And.intro c39 (And.intro (g_tt c39) (And.intro (g_tt c39) (And.intro c38 (And.intro (F38_spec (F39 x1) (F39 x2) h _ rfl) (And.intro (F39_spec x2 h _ rfl) (And.intro (F39_spec x1 h _ rfl) (And.intro (g_ft l_f) (And.intro (g_ft l_f) (And.intro c4 (And.intro (g_ft c4) (And.intro (g_ft c4) trivial)))))))))))))))))) (hr := by kernel_rfl)
        · intro hr
          subst hr
          exact pFun_sound good tab_ok (f := 37) (its := [.g, .g, .g, .g, .g, .g, .g, .n, .n, (.p false), .g, .n, .n, .g, .g, .g, (.c (.int .u64 (F39 x1)) h), .g, (.c (.int .u64 (F39 x2)) h), (.c (.tuple #[.int .u64 ((F38 (F39 x1) (F39 x2)).1), .int .u64 ((F38 (F39 x1) (F39 x2)).2)]) h), .g, .g, .g, .g, .g, .g, .g, .g, .g, (.b true), .g, .g, .g, (.w .g), (.w .g), (.p true), .g, .n, .n, (.p false), (.b false), .g, (.b false), .g]) (args := [.int .i64 x1, .int .i64 x2, .int .i64 x3]) (h := h) (h' := h) (v := .int .i64 1) (hC := (And.intro l_f (And.intro l_f (And.intro c40 (And.intro (g_ft c40) (And.intro (g_ft c40) (And.intro c39 (And.intro (g_tt c39) (And.intro (g_tt c39) (And.intro c38 (And.intro (F38_spec (F39 x1) (F39 x2) h _ rfl) (And.intro (F39_spec x2 h _ rfl) (And.intro (F39_spec x1 h _ rfl) (And.intro (g_ft l_f) (And.intro (g_ft l_f) (And.intro c4 (And.intro (g_ft c4) (And.intro (g_ft c4) trivial)))))))))))))))))) (hr := by kernel_rfl)
      · intro hr
        subst hr
        exact pFun_sound good tab_ok (f := 37) (its := [.g, .g, .g, .g, .g, .g, .g, .n, .n, (.p false), .g, .n, .n, .g, .g, .g, (.c (.int .u64 (F39 x1)) h), .g, (.c (.int .u64 (F39 x2)) h), (.c (.tuple #[.int .u64 ((F38 (F39 x1) (F39 x2)).1), .int .u64 ((F38 (F39 x1) (F39 x2)).2)]) h), .g, .g, .g, .g, .g, .g, .g, .g, .g, (.b true), .g, .g, .g, .n, .n, (.p false), .g, .n, .n, .g, (.b false), .g, (.b false), .g]) (args := [.int .i64 x1, .int .i64 x2, .int .i64 x3]) (h := h) (h' := h) (v := .int .i64 1) (hC := (And.intro l_f (And.intro l_f (And.intro (g_ft l_f) (And.intro (g_ft l_f) (And.intro c39 (And.intro (g_ft c39) (And.intro (g_ft c39) (And.intro c38 (And.intro (F38_spec (F39 x1) (F39 x2) h _ rfl) (And.intro (F39_spec x2 h _ rfl) (And.intro (F39_spec x1 h _ rfl) (And.intro (g_ft l_f) (And.intro (g_ft l_f) (And.intro c4 (And.intro (g_ft c4) (And.intro (g_ft c4) trivial))))))))))))))))) (hr := by kernel_rfl)
    · refine dec_bif (fun c43 => ?_) (fun c43 => ?_)
      · intro hr
        subst hr
        exact pFun_sound good tab_ok (f := 37) (its := [.g, .g, .g, .g, .g, .g, .g, .n, .n, (.p false), .g, .n, .n, .g, .g, .g, (.c (.int .u64 (F39 x1)) h), .g, (.c (.int .u64 (F39 x2)) h), (.c (.tuple #[.int .u64 ((F38 (F39 x1) (F39 x2)).1), .int .u64 ((F38 (F39 x1) (F39 x2)).2)]) h), .g, .g, .g, .g, .g, .g, .g, .g, .g, (.b false), .g, (.c (.int .u64 (F39 x3)) h), .g, .g, .g, .g, .n, .n, .n, (.p true), .g, (.b true), .g, .g, (.b false), .g, .g]) (args := [.int .i64 x1, .int .i64 x2, .int .i64 x3]) (h := h) (h' := h) (v := .int .i64 1) (hC := (And.intro l_f (And.intro l_t (And.intro c43 (And.intro (g_tf c43) (And.intro (g_tf c43) (And.intro (g_tf c43) (And.intro (F39_spec x3 h _ rfl) (And.intro c38 (And.intro (F38_spec (F39 x1) (F39 x2) h _ rfl) (And.intro (F39_spec x2 h _ rfl) (And.intro (F39_spec x1 h _ rfl) (And.intro (g_ft l_f) (And.intro (g_ft l_f) (And.intro c4 (And.intro (g_ft c4) (And.intro (g_ft c4) trivial))))))))))))))))) (hr := by kernel_rfl)
      · refine dec_bif (fun c44 => ?_) (fun c44 => ?_)
        · intro hr
          subst hr
          exact pFun_sound good tab_ok (f := 37) (its := [.g, .g, .g, .g, .g, .g, .g, .n, .n, (.p false), .g, .n, .n, .g, .g, .g, (.c (.int .u64 (F39 x1)) h), .g, (.c (.int .u64 (F39 x2)) h), (.c (.tuple #[.int .u64 ((F38 (F39 x1) (F39 x2)).1), .int .u64 ((F38 (F39 x1) (F39 x2)).2)]) h), .g, .g, .g, .g, .g, .g, .g, .g, .g, (.b false), .g, (.c (.int .u64 (F39 x3)) h), .g, .g, .g, .g, (.w .g), (.w .g), (.w .g), (.p false), .g, (.b true), .g, .g, (.b false), .g, .g]) (args := [.int .i64 x1, .int .i64 x2, .int .i64 x3]) (h := h) (h' := h) (v := .int .i64 1) (hC := (And.intro l_f (And.intro c44 (And.intro c43 (And.intro (g_ff c43) (And.intro (g_ff c43) (And.intro (g_ff c43) (And.intro (F39_spec x3 h _ rfl) (And.intro c38 (And.intro (F38_spec (F39 x1) (F39 x2) h _ rfl) (And.intro (F39_spec x2 h _ rfl) (And.intro (F39_spec x1 h _ rfl) (And.intro (g_ft l_f) (And.intro (g_ft l_f) (And.intro c4 (And.intro (g_ft c4) (And.intro (g_ft c4) trivial))))))))))))))))) (hr := by kernel_rfl)
        · refine dec_bif (fun c45 => ?_) (fun c45 => ?_)
          · intro hr
            subst hr
            exact pFun_sound good tab_ok (f := 37) (its := [.g, .g, .g, .g, .g, .g, .g, .n, .n, (.p false), .g, .n, .n, .g, .g, .g, (.c (.int .u64 (F39 x1)) h), .g, (.c (.int .u64 (F39 x2)) h), (.c (.tuple #[.int .u64 ((F38 (F39 x1) (F39 x2)).1), .int .u64 ((F38 (F39 x1) (F39 x2)).2)]) h), .g, .g, .g, .g, .g, .g, .g, .g, .g, (.b false), .g, (.c (.int .u64 (F39 x3)) h), .g, .g, .g, .g, (.w .g), (.w .g), (.w .g), (.p false), .g, (.b false), .g, .g, .g, .g, (.b true), .g, .g, (.b false), .g, .g]) (args := [.int .i64 x1, .int .i64 x2, .int .i64 x3]) (h := h) (h' := h) (v := .int .i64 (-1)) (hC := (And.intro l_f (And.intro c45 (And.intro c44 (And.intro c43 (And.intro (g_ff c43) (And.intro (g_ff c43) (And.intro (g_ff c43) (And.intro (F39_spec x3 h _ rfl) (And.intro c38 (And.intro (F38_spec (F39 x1) (F39 x2) h _ rfl) (And.intro (F39_spec x2 h _ rfl) (And.intro (F39_spec x1 h _ rfl) (And.intro (g_ft l_f) (And.intro (g_ft l_f) (And.intro c4 (And.intro (g_ft c4) (And.intro (g_ft c4) trivial)))))))))))))))))) (hr := by kernel_rfl)
          · intro hr
            subst hr
            exact pFun_sound good tab_ok (f := 37) (its := [.g, .g, .g, .g, .g, .g, .g, .n, .n, (.p false), .g, .n, .n, .g, .g, .g, (.c (.int .u64 (F39 x1)) h), .g, (.c (.int .u64 (F39 x2)) h), (.c (.tuple #[.int .u64 ((F38 (F39 x1) (F39 x2)).1), .int .u64 ((F38 (F39 x1) (F39 x2)).2)]) h), .g, .g, .g, .g, .g, .g, .g, .g, .g, (.b false), .g, (.c (.int .u64 (F39 x3)) h), .g, .g, .g, .g, (.w .g), (.w .g), (.w .g), (.p false), .g, (.b false), .g, .g, .g, .g, (.b false), .g, (.b false), .g, .g]) (args := [.int .i64 x1, .int .i64 x2, .int .i64 x3]) (h := h) (h' := h) (v := .int .i64 0) (hC := (And.intro l_f (And.intro c45 (And.intro c44 (And.intro c43 (And.intro (g_ff c43) (And.intro (g_ff c43) (And.intro (g_ff c43) (And.intro (F39_spec x3 h _ rfl) (And.intro c38 (And.intro (F38_spec (F39 x1) (F39 x2) h _ rfl) (And.intro (F39_spec x2 h _ rfl) (And.intro (F39_spec x1 h _ rfl) (And.intro (g_ft l_f) (And.intro (g_ft l_f) (And.intro c4 (And.intro (g_ft c4) (And.intro (g_ft c4) trivial)))))))))))))))))) (hr := by kernel_rfl)
/-! 31 (jacquard/diophant.dimension).leftEnd -/
def F31 (x1 : Int) (x2 : Int) (x3 : Int) (x4 : Int) (x5 : Int) (x6 : Int) : Bool :=
  (bif decide ((F37 x5 x2 (IntKind.i64.wrap (x3 - x1))) < 0) then
   (bif decide ((IntKind.i64.wrap (x2 * x6)) ≥ 0) then
    true
   else
    (bif decide ((F37 x5 x2 (IntKind.i64.wrap (x4 - x1))) > 0) then
     (decide ((IntKind.i64.wrap (x2 * x6)) ≤ 0))
    else
     false))
  else
   (bif decide ((F37 x5 x2 (IntKind.i64.wrap (x4 - x1))) > 0) then
    (decide ((IntKind.i64.wrap (x2 * x6)) ≤ 0))
   else
    false))
set_option maxRecDepth 100000 in
theorem F31_spec (x1 : Int) (x2 : Int) (x3 : Int) (x4 : Int) (x5 : Int) (x6 : Int) (h : AHeap)  (r : Bool) : F31 x1 x2 x3 x4 x5 x6 = r → ACalls Try.prog 31 [.agg #[.int .i64 x1, .int .i64 x2, .int .i64 x3, .int .i64 x4], .int .i64 x5, .int .i64 x6] h (fun v' h'' => v' = (.bool r : Value) ∧ h'' = h) := by
  unfold F31
  refine dec_bif (fun c9 => ?_) (fun c9 => ?_)
  · refine dec_bif (fun c10 => ?_) (fun c10 => ?_)
    · intro hr
      subst hr
      exact pFun_sound good tab_ok (f := 31) (its := [.g, .g, .g, .g, .g, .g, .g, .g, .g, .g, .g, (.c (.int .i64 (F37 x5 x2 (IntKind.i64.wrap (x3 - x1)))) h), .g, .g, .g, .g, .g, .g, .g, .g, .g, .g, .g, (.c (.int .i64 (F37 x5 x2 (IntKind.i64.wrap (x4 - x1)))) h), .g, .g, .g, .g, (.w .g), (.w .g), (.w .g), (.w .g), (.w .g), (.p true), .g, .n, .n, .n, .n, .n, .n, .n, .n, (.p true), .g]) (args := [.agg #[.int .i64 x1, .int .i64 x2, .int .i64 x3, .int .i64 x4], .int .i64 x5, .int .i64 x6]) (h := h) (h' := h) (v := .bool true) (hC := (And.intro c10 (And.intro (g_tf c10) (And.intro l_f (And.intro l_f (And.intro l_f (And.intro l_f (And.intro l_f (And.intro (g_tf c10) (And.intro (g_tf c10) (And.intro c9 (And.intro (g_tt c9) (And.intro (g_tt c9) (And.intro (g_tt c9) (And.intro (g_tt c9) (And.intro (g_tt c9) (And.intro (F37_spec x5 x2 (IntKind.i64.wrap (x4 - x1)) h _ rfl) (And.intro (F37_spec x5 x2 (IntKind.i64.wrap (x3 - x1)) h _ rfl) trivial)))))))))))))))))) (hr := by kernel_rfl)
    · refine dec_bif (fun c11 => ?_) (fun c11 => ?_)
      · intro hr
        subst hr
        exact pFun_sound good tab_ok (f := 31) (its := [.g, .g, .g, .g, .g, .g, .g, .g, .g, .g, .g, (.c (.int .i64 (F37 x5 x2 (IntKind.i64.wrap (x3 - x1)))) h), .g, .g, .g, .g, .g, .g, .g, .g, .g, .g, .g, (.c (.int .i64 (F37 x5 x2 (IntKind.i64.wrap (x4 - x1)))) h), .g, .g, .g, .g, (.w .g), (.w .g), (.w .g), (.w .g), (.w .g), (.p true), .g, (.w .g), (.w .g), (.w .g), (.w .g), (.w .g), (.w .g), (.w .g), (.w (.p true)), (.p false), .g]) (args := [.agg #[.int .i64 x1, .int .i64 x2, .int .i64 x3, .int .i64 x4], .int .i64 x5, .int .i64 x6]) (h := h) (h' := h) (v := .bool (decide ((IntKind.i64.wrap (x2 * x6)) ≤ 0))) (hC := (And.intro c10 (And.intro c11 (And.intro (g_ff c10) (And.intro (g_tt c11) (And.intro (g_tt c11) (And.intro (g_tt c11) (And.intro (g_tt c11) (And.intro (g_tt c11) (And.intro (g_ff c10) (And.intro (g_ff c10) (And.intro c9 (And.intro (g_tt c9) (And.intro (g_tt c9) (And.intro (g_tt c9) (And.intro (g_tt c9) (And.intro (g_tt c9) (And.intro (F37_spec x5 x2 (IntKind.i64.wrap (x4 - x1)) h _ rfl) (And.intro (F37_spec x5 x2 (IntKind.i64.wrap (x3 - x1)) h _ rfl) trivial))))))))))))))))))) (hr := by kernel_rfl)
      · intro hr
        subst hr
        exact pFun_sound good tab_ok (f := 31) (its := [.g, .g, .g, .g, .g, .g, .g, .g, .g, .g, .g, (.c (.int .i64 (F37 x5 x2 (IntKind.i64.wrap (x3 - x1)))) h), .g, .g, .g, .g, .g, .g, .g, .g, .g, .g, .g, (.c (.int .i64 (F37 x5 x2 (IntKind.i64.wrap (x4 - x1)))) h), .g, .g, .g, .g, (.w .g), (.w .g), (.w .g), (.w .g), (.w .g), (.p true), .g, (.w .g), (.w .g), .n, .n, .n, .n, .n, (.w (.p false)), (.p false), .g]) (args := [.agg #[.int .i64 x1, .int .i64 x2, .int .i64 x3, .int .i64 x4], .int .i64 x5, .int .i64 x6]) (h := h) (h' := h) (v := .bool false) (hC := (And.intro c10 (And.intro c11 (And.intro (g_ff c10) (And.intro (g_ft c11) (And.intro (g_ft c11) (And.intro (g_ft c11) (And.intro (g_ft c11) (And.intro (g_ft c11) (And.intro (g_ff c10) (And.intro (g_ff c10) (And.intro c9 (And.intro (g_tt c9) (And.intro (g_tt c9) (And.intro (g_tt c9) (And.intro (g_tt c9) (And.intro (g_tt c9) (And.intro (F37_spec x5 x2 (IntKind.i64.wrap (x4 - x1)) h _ rfl) (And.intro (F37_spec x5 x2 (IntKind.i64.wrap (x3 - x1)) h _ rfl) trivial))))))))))))))))))) (hr := by kernel_rfl)
  · refine dec_bif (fun c12 => ?_) (fun c12 => ?_)
    · intro hr
      subst hr
      exact pFun_sound good tab_ok (f := 31) (its := [.g, .g, .g, .g, .g, .g, .g, .g, .g, .g, .g, (.c (.int .i64 (F37 x5 x2 (IntKind.i64.wrap (x3 - x1)))) h), .g, .g, .g, .g, .g, .g, .g, .g, .g, .g, .g, (.c (.int .i64 (F37 x5 x2 (IntKind.i64.wrap (x4 - x1)))) h), .g, .g, .g, .g, .n, .n, .n, .n, .n, (.p false), .g, (.w .g), (.w .g), (.w .g), (.w .g), (.w .g), (.w .g), (.w .g), (.w (.p true)), .g, .g]) (args := [.agg #[.int .i64 x1, .int .i64 x2, .int .i64 x3, .int .i64 x4], .int .i64 x5, .int .i64 x6]) (h := h) (h' := h) (v := .bool (decide ((IntKind.i64.wrap (x2 * x6)) ≤ 0))) (hC := (And.intro c12 (And.intro (g_ff l_f) (And.intro (g_tt c12) (And.intro (g_tt c12) (And.intro (g_tt c12) (And.intro (g_tt c12) (And.intro (g_tt c12) (And.intro (g_ff l_f) (And.intro (g_ff l_f) (And.intro c9 (And.intro (g_ft c9) (And.intro (g_ft c9) (And.intro (g_ft c9) (And.intro (g_ft c9) (And.intro (g_ft c9) (And.intro (F37_spec x5 x2 (IntKind.i64.wrap (x4 - x1)) h _ rfl) (And.intro (F37_spec x5 x2 (IntKind.i64.wrap (x3 - x1)) h _ rfl) trivial)))))))))))))))))) (hr := by kernel_rfl)
    · intro hr
      subst hr
      exact pFun_sound good tab_ok (f := 31) (its := [.g, .g, .g, .g, .g, .g, .g, .g, .g, .g, .g, (.c (.int .i64 (F37 x5 x2 (IntKind.i64.wrap (x3 - x1)))) h), .g, .g, .g, .g, .g, .g, .g, .g, .g, .g, .g, (.c (.int .i64 (F37 x5 x2 (IntKind.i64.wrap (x4 - x1)))) h), .g, .g, .g, .g, .n, .n, .n, .n, .n, (.p false), .g, (.w .g), (.w .g), .n, .n, .n, .n, .n, (.w (.p false)), .g, .g]) (args := [.agg #[.int .i64 x1, .int .i64 x2, .int .i64 x3, .int .i64 x4], .int .i64 x5, .int .i64 x6]) (h := h) (h' := h) (v := .bool false) (hC := (And.intro c12 (And.intro (g_ff l_f) (And.intro (g_ft c12) (And.intro (g_ft c12) (And.intro (g_ft c12) (And.intro (g_ft c12) (And.intro (g_ft c12) (And.intro (g_ff l_f) (And.intro (g_ff l_f) (And.intro c9 (And.intro (g_ft c9) (And.intro (g_ft c9) (And.intro (g_ft c9) (And.intro (g_ft c9) (And.intro (g_ft c9) (And.intro (F37_spec x5 x2 (IntKind.i64.wrap (x4 - x1)) h _ rfl) (And.intro (F37_spec x5 x2 (IntKind.i64.wrap (x3 - x1)) h _ rfl) trivial)))))))))))))))))) (hr := by kernel_rfl)
end
end Go.Proofs.Ytghiaklmdgadcaa.Abs
