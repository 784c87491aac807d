/- How much of each resource is used. -/
import Derived.Test.YtimeninncpmaeaaBepV
namespace Go.Proofs.Ytimeninncpmaeaa.Abs
open Go
set_option linter.unusedVariables false
set_option linter.unusedSimpArgs false
set_option maxHeartbeats 1000000
def busyOf (r : Int) : List (Int × Int) → Int
  | [] => 0
  | y :: t => (if y.1 = r then y.2 else 0) + busyOf r t
theorem busyOf_app (r : Int) (y : Int × Int) : ∀ a : List (Int × Int), busyOf r (a ++ [y]) = busyOf r a + if y.1 = r then y.2 else 0
  | [] => by simp [busyOf]
  | x :: a => by simp only [List.cons_append, busyOf]; rw [busyOf_app r y a]; omega
theorem busyOf_bd (r : Int) : ∀ a : List (Int × Int), (∀ y ∈ a, 0 ≤ y.2 ∧ y.2 ≤ 256) → 0 ≤ busyOf r a ∧ busyOf r a ≤ 256 * a.length
  | [], _ => by simp [busyOf]
  | x :: a, h => by
    have := busyOf_bd r a (fun y hy => h y (List.mem_cons_of_mem _ hy))
    have := h x (List.mem_cons_self ..)
    simp only [busyOf, List.length_cons]
    split <;> omega
theorem take_one {β : Type} {l : List β} {i : Nat} {y : β} (h : l[i]? = some y) : l.take (i + 1) = l.take i ++ [y] := by
  rw [List.take_add_one, h]; rfl
def UsageR (l5 : List Quad) (l6 : List (Int × Int)) (len : Int) (L : List (Int × Int)) : Prop := L.length = l5.length ∧ ∀ (i : Nat) q, l5[i]? = some q → L[i]? = some (busyOf i l6, q.2.2.2 * len)
theorem UsageR.eq {l5 : List Quad} {l6 : List (Int × Int)} {len : Int} {L L' : List (Int × Int)} (h : UsageR l5 l6 len L) (h' : UsageR l5 l6 len L') : L = L' := by
  apply List.ext_getElem?
  intro i
  cases hq : l5[i]? with
  | none =>
    have := List.getElem?_eq_none_iff.1 hq
    rw [List.getElem?_eq_none (by have := h.1; omega), List.getElem?_eq_none (by have := h'.1; omega)]
  | some q => rw [h.2 i q hq, h'.2 i q hq]
section
variable (x1 x2 : Int) (x3 : Bool) (l4 l5 : List Quad) (l6 : List (Int × Int)) (x7 x8 : Int) (l9 l10 l11 : List Int)
theorem need_bd (hN : ∀ y ∈ l6, NeedOK l5 y) : ∀ y ∈ l6, 0 ≤ y.2 ∧ y.2 ≤ 256 := fun y hy => by
  rcases hN y hy with ⟨_, h⟩ | ⟨_, _, h⟩ <;> omega
theorem prod_bd {a b : Int} (a0 : 0 ≤ a) (a1 : a ≤ 1024) (b0 : 0 ≤ b) (b1 : b ≤ 4096) : 0 ≤ a * b ∧ a * b ≤ 4194304 := by
  refine ⟨Int.mul_nonneg a0 b0, ?_⟩
  have h1 : a * b ≤ 1024 * b := Int.mul_le_mul_of_nonneg_right a1 b0
  omega
def lenOf : Int := if x3 = true then x7 else x8
theorem sum_ref (hN : ∀ y ∈ l6, NeedOK l5 y) (k6 : l6.length ≤ 1000) (r : Int) : Yields (fun p => p.1 = busyOf r l6) (F39 x1 x2 x3 l4 l5 l6 r) := by
  unfold F39
  refine Yields.bind (P := fun p : Int × Int => p.1 = busyOf r l6) (Yields.loop l6.length (fun (i : Nat) z => z.1 = busyOf r (l6.take i) ∧ z.2.2 = (i : Int)) ⟨rfl, rfl⟩ ?_) fun p hp => Yields.some hp
  rintro i ⟨a, b, c⟩ hi ⟨h1, h2⟩
  simp only at h1 h2
  subst h1 h2
  unfold F39_s1
  simp only
  refine Yields.bif (fun hc => ?_) fun hc => Yields.some ?_
  · have hc := of_decide_eq_true hc
    obtain ⟨y, hy⟩ := some_nat (l := l6) (i := i) (by omega)
    have hyb := need_bd l5 l6 hN y (List.mem_of_getElem? hy)
    have nx : IntKind.i64.wrap ((i : Int) + 1) = ((i + 1 : Nat) : Int) := wr1 (n := l6.length) (by omega) (by omega)
    have bd := busyOf_bd r (l6.take i) (fun z hz => need_bd l5 l6 hN z (List.mem_of_mem_take hz))
    have hlen : (l6.take i).length ≤ i := by simp; omega
    refine Yields.bindE (atn hy) (Yields.bif (fun k => Yields.some ⟨by omega, ?_, nx⟩) fun k => Yields.some ⟨by omega, ?_, nx⟩)
    · simp only
      rw [take_one hy, busyOf_app, if_pos (beq_iff_eq.1 k), wr (by omega) (by omega)]
    · simp only
      rw [take_one hy, busyOf_app, if_neg (beq_eq_false_iff_ne.1 k), Int.add_zero]
  · have hc := of_decide_eq_false hc
    show busyOf r (l6.take i) = busyOf r l6
    rw [List.take_of_length_le (by omega)]
end
end Go.Proofs.Ytimeninncpmaeaa.Abs
