/- How much of each resource is used. -/
import Derived.Test.YtimeninncpmaeaaBdpV
namespace Go.Proofs.Ytimeninncpmaeaa.Abs
open Go
set_option linter.unusedVariables false
set_option linter.unusedSimpArgs false
set_option maxHeartbeats 1000000
def busyOf (r : Int) : List (Int × Int) → Int
  | [] => 0
  | y :: t => (if y.1 = r then y.2 else 0) + busyOf r t
theorem busyOf_app (r : Int) (y : Int × Int) : ∀ a : List (Int × Int), busyOf r (a ++ [y]) = busyOf r a + if y.1 = r then y.2 else 0
  | [] => by simp [busyOf]
  | x :: a => by simp only [List.cons_append, busyOf]; rw [busyOf_app r y a]; omega
theorem busyOf_bd (r : Int) : ∀ a : List (Int × Int), (∀ y ∈ a, 0 ≤ y.2 ∧ y.2 ≤ 256) → 0 ≤ busyOf r a ∧ busyOf r a ≤ 256 * a.length
  | [], _ => by simp [busyOf]
  | x :: a, h => by
    have := busyOf_bd r a (fun y hy => h y (List.mem_cons_of_mem _ hy))
    have := h x (List.mem_cons_self ..)
    simp only [busyOf, List.length_cons]
    split <;> omega
theorem take_one {β : Type} {l : List β} {i : Nat} {y : β} (h : l[i]? = some y) : l.take (i + 1) = l.take i ++ [y] := by
  rw [List.take_add_one, h]; rfl
def UsageR (l5 : List Quad) (l6 : List (Int × Int)) (len : Int) (L : List (Int × Int)) : Prop := L.length = l5.length ∧ ∀ (i : Nat) q, l5[i]? = some q → L[i]? = some (busyOf i l6, q.2.2.2 * len)
theorem UsageR.eq {l5 : List Quad} {l6 : List (Int × Int)} {len : Int} {L L' : List (Int × Int)} (h : UsageR l5 l6 len L) (h' : UsageR l5 l6 len L') : L = L' := by
  apply List.ext_getElem?
  intro i
  cases hq : l5[i]? with
  | none =>
    have := List.getElem?_eq_none_iff.1 hq
    rw [List.getElem?_eq_none (by have := h.1; omega), List.getElem?_eq_none (by have := h'.1; omega)]
  | some q => rw [h.2 i q hq, h'.2 i q hq]
section
variable (x1 x2 : Int) (x3 : Bool) (l4 l5 : List Quad) (l6 : List (Int × Int)) (x7 x8 : Int) (l9 l10 l11 : List Int)
theorem need_bd (hN : ∀ y ∈ l6, NeedOK l5 y) : ∀ y ∈ l6, 0 ≤ y.2 ∧ y.2 ≤ 256 := fun y hy => by
  rcases hN y hy with ⟨_, h⟩ | ⟨_, _, h⟩ <;> omega
theorem prod_bd {a b : Int} (a0 : 0 ≤ a) (a1 : a ≤ 1024) (b0 : 0 ≤ b) (b1 : b ≤ 4096) : 0 ≤ a * b ∧ a * b ≤ 4194304 := by
  refine ⟨Int.mul_nonneg a0 b0, ?_⟩
  have h1 : a * b ≤ 1024 * b := Int.mul_le_mul_of_nonneg_right a1 b0
  omega
def lenOf : Int := if x3 = true then x7 else x8
end
end Go.Proofs.Ytimeninncpmaeaa.Abs
