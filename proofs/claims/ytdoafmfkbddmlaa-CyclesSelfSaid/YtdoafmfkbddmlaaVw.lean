/-
  Statements that repeat over an index: what they come to.
-/
import Derived.Test.YtdoafmfkbddmlaaVu
namespace Go.Proofs.Ytdoafmfkbddmlaa.Abs
open Go
set_option linter.unusedVariables false
set_option linter.unusedSimpArgs false

theorem g_tt {X : Bool} (h : X = true) : (X == true) = true := by rw [h]; rfl
theorem g_ft {X : Bool} (h : X = false) : (X == true) = false := by rw [h]; rfl
theorem g_tf {X : Bool} (h : X = true) : (X == false) = false := by rw [h]; rfl
theorem g_ff {X : Bool} (h : X = false) : (X == false) = true := by rw [h]; rfl
theorem l_t : true = true := rfl
theorem l_f : false = false := rfl
theorem nn {b : Bool} (h : (!b) = false) : b = true := by cases b <;> simp_all
theorem nz {x : Int} (h : (x == 0) = false) : ¬ (x = 0) := by simpa using h
theorem nz2 {x : Int} (h : (x != 0) = true) : ¬ (x = 0) := by simpa using h
theorem nz3 {x : Int} (h : decide (x > 0) = true) : ¬ (x = 0) := by have := of_decide_eq_true h; omega
theorem nz4 {x : Int} (h : decide (0 < x) = true) : ¬ (x = 0) := by have := of_decide_eq_true h; omega
theorem nz5 {x : Int} (h : decide (x ≥ 1) = true) : ¬ (x = 0) := by have := of_decide_eq_true h; omega
theorem nz6 {x : Int} (h : decide (x ≤ 0) = false) : ¬ (x = 0) := by have := of_decide_eq_false h; omega
theorem nz7 {x : Int} (h : decide (x < 1) = false) : ¬ (x = 0) := by have := of_decide_eq_false h; omega
theorem nl {x : Int} (h : decide (x < 0) = false) : ¬ (x < 0) := of_decide_eq_false h
theorem nl2 {x : Int} (h : decide (x ≥ 0) = true) : ¬ (x < 0) := by have := of_decide_eq_true h; omega
theorem nl3 {x : Int} (h : decide (x > 0) = true) : ¬ (x < 0) := by have := of_decide_eq_true h; omega
theorem nl4 {x : Int} (h : decide (0 ≤ x) = true) : ¬ (x < 0) := by have := of_decide_eq_true h; omega
theorem bif_elim {α : Type} {c : Bool} {a b r : α} (ht : c = true → a = r) (hf : c = false → b = r) : (bif c then a else b) = r := by
  cases c
  · exact hf rfl
  · exact ht rfl
theorem wrap_i64 {x : Int} (h1 : -9223372036854775808 ≤ x) (h2 : x ≤ 9223372036854775807) : IntKind.i64.wrap x = x := by
  unfold IntKind.wrap; simp [IntKind.signed, IntKind.bits, Int.bmod]; omega
theorem wrap_succ {i n : Nat} (h : i < n) (hn : n ≤ maxLen) : IntKind.i64.wrap ((i : Int) + 1) = ((i + 1 : Nat) : Int) := by
  unfold maxLen at hn; rw [wrap_i64] <;> omega
theorem loop_forall {step : Int → Option (Int ⊕ Nat)} {n : Nat} (hn : n ≤ maxLen) (p : Nat → Bool) (h1 : ∀ i : Nat, i < n → step i = if p i then some (.inl (IntKind.i64.wrap (i + 1))) else some (.inr 0)) (h2 : step n = some (.inr 1)) :
    loopO step 0 = some (if (List.range n).all p then 1 else 0) := by
  obtain ⟨t, ht, hR⟩ := loopO_ind (step := step) (fun s => ∃ i : Nat, i ≤ n ∧ s = i ∧ ∀ j, j < i → p j = true) (fun s => n - s.toNat) (fun t => t = if (List.range n).all p then 1 else 0) (s := 0) (by
    rintro s ⟨i, hi, rfl, hp⟩
    rcases Nat.lt_or_ge i n with hlt | hge
    · rw [h1 i hlt]
      by_cases hpi : p i = true
      · rw [if_pos hpi]
        refine .inl ⟨_, rfl, ⟨i + 1, hlt, wrap_succ hlt hn, ?_⟩, ?_⟩
        · intro j hj
          rcases Nat.lt_succ_iff_lt_or_eq.1 hj with h | rfl
          · exact hp j h
          · exact hpi
        · rw [wrap_succ hlt hn]; simp only [Int.toNat_natCast]; omega
      · rw [if_neg hpi]
        refine .inr ⟨0, rfl, ?_⟩
        rw [if_neg]
        rw [List.all_eq_true]
        intro h
        exact hpi (h i (List.mem_range.2 hlt))
    · have : i = n := by omega
      subst this
      refine .inr ⟨1, h2, ?_⟩
      rw [if_pos]
      rw [List.all_eq_true]
      intro j hj
      exact hp j (List.mem_range.1 hj)) ⟨0, Nat.zero_le _, rfl, by simp⟩
  rw [ht, hR]

/-- Rounds over an index, each from what the one before left, until one ends them. -/
def iterN {σ τ : Type} (f : Nat → σ → σ ⊕ τ) : Nat → Nat → σ → σ ⊕ τ
  | 0, _, s => .inl s
  | n + 1, i, s => match f i s with
    | .inl s' => iterN f n (i + 1) s'
    | .inr t => .inr t
def outN {σ τ : Type} (fin : σ → τ) : σ ⊕ τ → τ
  | .inl s => fin s
  | .inr t => t
def nextN {Z σ τ : Type} (mk : Nat → σ → Z) (i : Nat) : σ ⊕ τ → Z ⊕ τ
  | .inl s => .inl (mk (i + 1) s)
  | .inr t => .inr t
/-- With an invariant. -/
theorem loop_range {Z σ τ : Type} {step : Z → Option (Z ⊕ τ)} (mk : Nat → σ → Z) (f : Nat → σ → σ ⊕ τ) (n : Nat) (fin : σ → τ) (I : Nat → σ → Prop)
    (h1 : ∀ i s, i < n → I i s → step (mk i s) = some (nextN mk i (f i s)) ∧ ∀ s', f i s = .inl s' → I (i + 1) s') (h2 : ∀ s, I n s → step (mk n s) = some (.inr (fin s))) :
    ∀ (k i : Nat) (s : σ), i + k = n → I i s → loopO step (mk i s) = some (outN fin (iterN f k i s)) := by
  intro k
  induction k with
  | zero =>
    intro i s hi hI
    have : i = n := by omega
    subst this
    exact loopO_stop (h2 s hI)
  | succ k ih =>
    intro i s hi hI
    obtain ⟨e, hn⟩ := h1 i s (by omega) hI
    simp only [iterN]
    cases hf : f i s with
    | inl s' =>
      rw [hf] at e
      rw [loopO_go e]
      exact ih (i + 1) s' (by omega) (hn s' hf)
    | inr t =>
      rw [hf] at e
      exact loopO_stop e
theorem loop_range0 {Z σ τ : Type} {step : Z → Option (Z ⊕ τ)} (mk : Nat → σ → Z) (f : Nat → σ → σ ⊕ τ) (n : Nat) (fin : σ → τ) (I : Nat → σ → Prop)
    (h1 : ∀ i s, i < n → I i s → step (mk i s) = some (nextN mk i (f i s)) ∧ ∀ s', f i s = .inl s' → I (i + 1) s') (h2 : ∀ s, I n s → step (mk n s) = some (.inr (fin s))) (s : σ) (h0 : I 0 s) :
    loopO step (mk 0 s) = some (outN fin (iterN f n 0 s)) := loop_range mk f n fin I h1 h2 n 0 s (by omega) h0
end Go.Proofs.Ytdoafmfkbddmlaa.Abs
