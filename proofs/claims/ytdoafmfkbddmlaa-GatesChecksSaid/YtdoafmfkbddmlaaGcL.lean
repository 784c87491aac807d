/- The laws of gates, on lists. -/
import Derived.Test.YtdoafmfkbddmlaaVw
import Derived.Test.YtdoafmfkbddmlaaGc
namespace Go.Proofs.Ytdoafmfkbddmlaa.Abs
open Go
set_option linter.unusedVariables false
set_option linter.unusedSimpArgs false

/-- What holds of a gate at an index. -/
def gok (i : Int) (y : Int × Int × Int) : Bool :=
  decide (1 ≤ y.1) && decide (y.1 ≤ 7) && (decide (4 ≤ y.1) || y.2.1 == 0) && (decide (5 ≤ y.1) || y.2.2 == 0) && (decide (y.1 < 4) || (decide (0 ≤ y.2.1) && decide (y.2.1 < i))) && (decide (y.1 < 5) || (decide (0 ≤ y.2.2) && decide (y.2.2 < i)))
theorem gok_iff {i a b c : Int} : gok i (a, b, c) = true ↔ (1 ≤ a ∧ a ≤ 7 ∧ (4 ≤ a ∨ b = 0) ∧ (5 ≤ a ∨ c = 0) ∧ (a < 4 ∨ (0 ≤ b ∧ b < i)) ∧ (a < 5 ∨ (0 ≤ c ∧ c < i))) := by
  simp [gok, and_assoc]
theorem F10_step (l : List (Int × Int × Int)) (i : Nat) (y : Int × Int × Int) (h : l[i]? = some y) : F10_s1 l i = if gok i y then some (.inl (IntKind.i64.wrap (i + 1))) else some (.inr 0) := by
  have hi : (i : Int) < l.length := by have := (List.getElem?_eq_some_iff.1 h).1; omega
  obtain ⟨a, b, c⟩ := y
  unfold F10_s1
  rw [at?_nat, h]
  simp only [Option.bind_some, hi, decide_true, cond_true]
  by_cases hg : gok i (a, b, c) = true
  · rw [if_pos hg]
    rw [gok_iff] at hg
    repeat' refine bif_elim (fun _ => ?_) (fun _ => ?_)
    all_goals first | rfl | (exfalso; simp only [decide_eq_true_eq, decide_eq_false_iff_not, bne_iff_ne, bne_eq_false_iff_eq] at *; omega)
  · rw [if_neg hg]
    rw [gok_iff] at hg
    repeat' refine bif_elim (fun _ => ?_) (fun _ => ?_)
    all_goals first | rfl | (exfalso; simp only [decide_eq_true_eq, decide_eq_false_iff_not, bne_iff_ne, bne_eq_false_iff_eq] at *; omega)
theorem F11_step (l : List (Int × Int × Int)) (i : Nat) (y : Int × Int × Int) (h : l[i]? = some y) : F11_s1 l i = if gok i y then some (.inl (IntKind.i64.wrap (i + 1))) else some (.inr 0) := by
  have hi : (i : Int) < l.length := by have := (List.getElem?_eq_some_iff.1 h).1; omega
  obtain ⟨a, b, c⟩ := y
  have hF : (F23 a = 0 ∧ 1 ≤ a ∧ a ≤ 3) ∨ (F23 a = 1 ∧ a = 4) ∨ (F23 a = 2 ∧ 5 ≤ a ∧ a ≤ 7) ∨ (F23 a = -1 ∧ (a < 1 ∨ a > 7)) := by
    unfold F23; simp only [Bool.cond_eq_ite, beq_iff_eq]; (repeat' split) <;> omega
  unfold F11_s1
  rw [at?_nat, h]
  simp only [Option.bind_some, hi, decide_true, cond_true]
  generalize F23 a = v at *
  by_cases hg : gok i (a, b, c) = true
  · rw [if_pos hg]
    rw [gok_iff] at hg
    repeat' refine bif_elim (fun _ => ?_) (fun _ => ?_)
    all_goals first | rfl | (exfalso; simp only [decide_eq_true_eq, decide_eq_false_iff_not, bne_iff_ne, bne_eq_false_iff_eq, beq_iff_eq, beq_eq_false_iff_ne, Bool.not_eq_true', Bool.not_eq_false', ne_eq] at *; omega)
  · rw [if_neg hg]
    rw [gok_iff] at hg
    repeat' refine bif_elim (fun _ => ?_) (fun _ => ?_)
    all_goals first | rfl | (exfalso; simp only [decide_eq_true_eq, decide_eq_false_iff_not, bne_iff_ne, bne_eq_false_iff_eq, beq_iff_eq, beq_eq_false_iff_ne, Bool.not_eq_true', Bool.not_eq_false', ne_eq] at *; omega)
def formed (l : List (Int × Int × Int)) : Bool := (List.range l.length).all fun i => match l[i]? with | some y => gok i y | none => false
theorem F10_eq (l : List (Int × Int × Int)) (hl : l.length ≤ maxLen) : F10 l = some (formed l) := by
  unfold F10
  rw [loop_forall (n := l.length) hl (fun i => match l[i]? with | some y => gok i y | none => false) (by
    intro i hi
    have h : l[i]? = some l[i] := List.getElem?_eq_getElem hi
    rw [F10_step l i _ h]; simp only [h]) (by unfold F10_s1; simp)]
  simp only [Option.bind_some, formed]
  generalize (List.range l.length).all _ = q
  cases q <;> rfl
theorem F11_eq (l : List (Int × Int × Int)) (hl : l.length ≤ maxLen) : F11 l = some (bif formed l then 0 else 3) := by
  unfold F11
  rw [loop_forall (n := l.length) hl (fun i => match l[i]? with | some y => gok i y | none => false) (by
    intro i hi
    have h : l[i]? = some l[i] := List.getElem?_eq_getElem hi
    rw [F11_step l i _ h]; simp only [h]) (by unfold F11_s1; simp)]
  simp only [Option.bind_some, formed]
  generalize (List.range l.length).all _ = q
  cases q <;> rfl
theorem checks_law : Law Try.prog 3 10 [22] := by
  refine F3_law fun l hl _ => ?_
  unfold F3
  rw [F10_eq l hl, F11_eq l hl]
  cases formed l <;> rfl
end Go.Proofs.Ytdoafmfkbddmlaa.Abs
