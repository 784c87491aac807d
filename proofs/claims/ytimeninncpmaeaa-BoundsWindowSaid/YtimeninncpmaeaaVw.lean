/-
  Statements that repeat over an index: what they come to.
-/
import Derived.Test.YtimeninncpmaeaaVv
import Derived.OpenShut
namespace Go.Proofs.Ytimeninncpmaeaa.Abs
open Go
set_option linter.unusedVariables false
set_option linter.unusedSimpArgs false

theorem g_tt {X : Bool} (h : X = true) : (X == true) = true := by rw [h]; rfl
theorem g_ft {X : Bool} (h : X = false) : (X == true) = false := by rw [h]; rfl
theorem g_tf {X : Bool} (h : X = true) : (X == false) = false := by rw [h]; rfl
theorem g_ff {X : Bool} (h : X = false) : (X == false) = true := by rw [h]; rfl
theorem l_t : true = true := rfl
theorem l_f : false = false := rfl
theorem nn {b : Bool} (h : (!b) = false) : b = true := by cases b <;> simp_all
theorem nz {x : Int} (h : (x == 0) = false) : ¬ (x = 0) := by simpa using h
theorem nz2 {x : Int} (h : (x != 0) = true) : ¬ (x = 0) := by simpa using h
theorem nz3 {x : Int} (h : decide (x > 0) = true) : ¬ (x = 0) := by have := of_decide_eq_true h; omega
theorem nz4 {x : Int} (h : decide (0 < x) = true) : ¬ (x = 0) := by have := of_decide_eq_true h; omega
theorem nz5 {x : Int} (h : decide (x ≥ 1) = true) : ¬ (x = 0) := by have := of_decide_eq_true h; omega
theorem nz6 {x : Int} (h : decide (x ≤ 0) = false) : ¬ (x = 0) := by have := of_decide_eq_false h; omega
theorem nz7 {x : Int} (h : decide (x < 1) = false) : ¬ (x = 0) := by have := of_decide_eq_false h; omega
theorem nl {x : Int} (h : decide (x < 0) = false) : ¬ (x < 0) := of_decide_eq_false h
theorem nl2 {x : Int} (h : decide (x ≥ 0) = true) : ¬ (x < 0) := by have := of_decide_eq_true h; omega
theorem nl3 {x : Int} (h : decide (x > 0) = true) : ¬ (x < 0) := by have := of_decide_eq_true h; omega
theorem nl4 {x : Int} (h : decide (0 ≤ x) = true) : ¬ (x < 0) := by have := of_decide_eq_true h; omega
theorem bif_elim {α : Type} {c : Bool} {a b r : α} (ht : c = true → a = r) (hf : c = false → b = r) : (bif c then a else b) = r := by
  cases c
  · exact hf rfl
  · exact ht rfl
theorem wrap_i64 {x : Int} (h1 : -9223372036854775808 ≤ x) (h2 : x ≤ 9223372036854775807) : IntKind.i64.wrap x = x := by
  unfold IntKind.wrap; simp [IntKind.signed, IntKind.bits, Int.bmod]; omega
theorem wrap_succ {i n : Nat} (h : i < n) (hn : n ≤ maxLen) : IntKind.i64.wrap ((i : Int) + 1) = ((i + 1 : Nat) : Int) := by
  unfold maxLen at hn; rw [wrap_i64] <;> omega
theorem loop_forall {step : Int → Option (Int ⊕ Nat)} {n : Nat} (hn : n ≤ maxLen) (p : Nat → Bool) (h1 : ∀ i : Nat, i < n → step i = if p i then some (.inl (IntKind.i64.wrap (i + 1))) else some (.inr 0)) (h2 : step n = some (.inr 1)) :
    loopO step 0 = some (if (List.range n).all p then 1 else 0) := by
  obtain ⟨t, ht, hR⟩ := loopO_ind (step := step) (fun s => ∃ i : Nat, i ≤ n ∧ s = i ∧ ∀ j, j < i → p j = true) (fun s => n - s.toNat) (fun t => t = if (List.range n).all p then 1 else 0) (s := 0) (by
    rintro s ⟨i, hi, rfl, hp⟩
    rcases Nat.lt_or_ge i n with hlt | hge
    · rw [h1 i hlt]
      by_cases hpi : p i = true
      · rw [if_pos hpi]
        refine .inl ⟨_, rfl, ⟨i + 1, hlt, wrap_succ hlt hn, ?_⟩, ?_⟩
        · intro j hj
          rcases Nat.lt_succ_iff_lt_or_eq.1 hj with h | rfl
          · exact hp j h
          · exact hpi
        · rw [wrap_succ hlt hn]; simp only [Int.toNat_natCast]; omega
      · rw [if_neg hpi]
        refine .inr ⟨0, rfl, ?_⟩
        rw [if_neg]
        rw [List.all_eq_true]
        intro h
        exact hpi (h i (List.mem_range.2 hlt))
    · have : i = n := by omega
      subst this
      refine .inr ⟨1, h2, ?_⟩
      rw [if_pos]
      rw [List.all_eq_true]
      intro j hj
      exact hp j (List.mem_range.1 hj)) ⟨0, Nat.zero_le _, rfl, by simp⟩
  rw [ht, hR]

/-- Rounds over an index, each from what the one before left, until one ends them. -/
def iterN {σ τ : Type} (f : Nat → σ → σ ⊕ τ) : Nat → Nat → σ → σ ⊕ τ
  | 0, _, s => .inl s
  | n + 1, i, s => match f i s with
    | .inl s' => iterN f n (i + 1) s'
    | .inr t => .inr t
def outN {σ τ : Type} (fin : σ → τ) : σ ⊕ τ → τ
  | .inl s => fin s
  | .inr t => t
def nextN {Z σ τ : Type} (mk : Nat → σ → Z) (i : Nat) : σ ⊕ τ → Z ⊕ τ
  | .inl s => .inl (mk (i + 1) s)
  | .inr t => .inr t
/-- With an invariant. -/
theorem loop_range {Z σ τ : Type} {step : Z → Option (Z ⊕ τ)} (mk : Nat → σ → Z) (f : Nat → σ → σ ⊕ τ) (n : Nat) (fin : σ → τ) (I : Nat → σ → Prop)
    (h1 : ∀ i s, i < n → I i s → step (mk i s) = some (nextN mk i (f i s)) ∧ ∀ s', f i s = .inl s' → I (i + 1) s') (h2 : ∀ s, I n s → step (mk n s) = some (.inr (fin s))) :
    ∀ (k i : Nat) (s : σ), i + k = n → I i s → loopO step (mk i s) = some (outN fin (iterN f k i s)) := by
  intro k
  induction k with
  | zero =>
    intro i s hi hI
    have : i = n := by omega
    subst this
    exact loopO_stop (h2 s hI)
  | succ k ih =>
    intro i s hi hI
    obtain ⟨e, hn⟩ := h1 i s (by omega) hI
    simp only [iterN]
    cases hf : f i s with
    | inl s' =>
      rw [hf] at e
      rw [loopO_go e]
      exact ih (i + 1) s' (by omega) (hn s' hf)
    | inr t =>
      rw [hf] at e
      exact loopO_stop e
theorem loop_range0 {Z σ τ : Type} {step : Z → Option (Z ⊕ τ)} (mk : Nat → σ → Z) (f : Nat → σ → σ ⊕ τ) (n : Nat) (fin : σ → τ) (I : Nat → σ → Prop)
    (h1 : ∀ i s, i < n → I i s → step (mk i s) = some (nextN mk i (f i s)) ∧ ∀ s', f i s = .inl s' → I (i + 1) s') (h2 : ∀ s, I n s → step (mk n s) = some (.inr (fin s))) (s : σ) (h0 : I 0 s) :
    loopO step (mk 0 s) = some (outN fin (iterN f n 0 s)) := loop_range mk f n fin I h1 h2 n 0 s (by omega) h0
/-- An invariant by rounds; a round may end the loop. -/
theorem loop_inv {Z σ τ : Type} {step : Z → Option (Z ⊕ τ)} (mk : Nat → σ → Z) (n : Nat) (I : Nat → σ → Prop) (R : τ → Prop)
    (h1 : ∀ i s, i < n → I i s → (∃ s', step (mk i s) = some (.inl (mk (i + 1) s')) ∧ I (i + 1) s') ∨ ∃ t, step (mk i s) = some (.inr t) ∧ R t)
    (h2 : ∀ s, I n s → ∃ t, step (mk n s) = some (.inr t) ∧ R t) (s : σ) (h0 : I 0 s) : ∃ t, loopO step (mk 0 s) = some t ∧ R t := by
  have key : ∀ (k i : Nat) (s : σ), i + k = n → I i s → ∃ t, loopO step (mk i s) = some t ∧ R t := by
    intro k
    induction k with
    | zero =>
      intro i s hi hI
      have : i = n := by omega
      subst this
      obtain ⟨t, e, r⟩ := h2 s hI
      exact ⟨t, loopO_stop e, r⟩
    | succ k ih =>
      intro i s hi hI
      rcases h1 i s (by omega) hI with ⟨s', e, hn⟩ | ⟨t, e, r⟩
      · rw [loopO_go e]; exact ih (i + 1) s' (by omega) hn
      · exact ⟨t, loopO_stop e, r⟩
  exact key n 0 s (by omega) h0
/-- How many of the first hold. -/
def cntP {α : Type} (p : α → Bool) (l : List α) (i : Nat) : Nat := (l.take i).countP p
theorem cntP_zero {α : Type} (p : α → Bool) (l : List α) : cntP p l 0 = 0 := by simp [cntP]
theorem cntP_succ {α : Type} (p : α → Bool) (l : List α) (i : Nat) (y : α) (h : l[i]? = some y) : cntP p l (i + 1) = cntP p l i + if p y then 1 else 0 := by
  unfold cntP; rw [List.take_add_one, h]; simp [List.countP_append, List.countP_cons]
theorem cntP_le {α : Type} (p : α → Bool) (l : List α) (i : Nat) : cntP p l i ≤ i := by
  unfold cntP; exact Nat.le_trans List.countP_le_length (by simp; omega)
theorem cntP_all {α : Type} (p : α → Bool) (l : List α) : cntP p l l.length = l.countP p := by simp [cntP]
theorem wrap_i1 {i : Nat} (h : i < 9223372036854775807) : IntKind.i64.wrap ((i : Int) + 1) = ((i + 1 : Nat) : Int) := by rw [wrap_i64] <;> omega
theorem wf_u8 {n : Int} (h : (Lit.int .u8 n).wf = true) : 0 ≤ n ∧ n ≤ 255 := bounds_u8 h
theorem wf_i64 {n : Int} (h : (Lit.int .i64 n).wf = true) : -9223372036854775808 ≤ n ∧ n ≤ 9223372036854775807 := bounds_i64 h
theorem len_big {n : Nat} (h : n ≤ maxLen) : (n : Int) ≤ 9223372036854775807 := by unfold maxLen at h; omega
/-- A run of one value ahead of a list. -/
noncomputable def rp {α : Type} (n : Nat) (a : α) (l : List α) : List α := Nat.rec l (fun _ ih => a :: ih) n
/-! What a partial function yields. -/
def Yields {α : Type} (Q : α → Prop) (o : Option α) : Prop := ∃ r, o = some r ∧ Q r
theorem Yields.some {α : Type} {Q : α → Prop} {r : α} (h : Q r) : Yields Q (some r) := ⟨r, rfl, h⟩
theorem Yields.none {α : Type} {Q : α → Prop} (h : False) : Yields Q (none : Option α) := h.elim
theorem Yields.bif {α : Type} {Q : α → Prop} {c : Bool} {a b : Option α} (ht : c = true → Yields Q a) (hf : c = false → Yields Q b) : Yields Q (bif c then a else b) := by
  cases c
  · exact hf rfl
  · exact ht rfl
theorem Yields.bind {α β : Type} {P : β → Prop} {Q : α → Prop} {o : Option β} {k : β → Option α} (h : Yields P o) (hk : ∀ y, P y → Yields Q (k y)) : Yields Q (o.bind k) := by
  obtain ⟨y, rfl, p⟩ := h; exact hk y p
theorem Yields.bindE {α β : Type} {Q : α → Prop} {o : Option β} {k : β → Option α} {y : β} (e : o = .some y) (hk : Yields Q (k y)) : Yields Q (o.bind k) := by
  subst e; exact hk
theorem Yields.at {α β : Type} {Q : α → Prop} {xs : List β} {i : Int} {k : β → Option α} (h0 : 0 ≤ i) (h1 : i < xs.length) (hk : ∀ y, xs[i.toNat]? = .some y → y ∈ xs → Yields Q (k y)) : Yields Q ((at? xs i).bind k) := by
  have h : i.toNat < xs.length := by omega
  have e : at? xs i = .some xs[i.toNat] := by simp [at?, h0, h]
  rw [e]
  exact hk _ (List.getElem?_eq_getElem h) (List.getElem_mem h)
theorem Yields.mono {α : Type} {P Q : α → Prop} {o : Option α} (h : Yields P o) (w : ∀ y, P y → Q y) : Yields Q o := by
  obtain ⟨y, e, p⟩ := h; exact ⟨y, e, w y p⟩
theorem Yields.eq {α : Type} {r : α} {o : Option α} (h : Yields (fun x => x = r) o) : o = .some r := by
  obtain ⟨y, e, rfl⟩ := h; exact e
theorem Yields.of {α : Type} {r : α} {o : Option α} (h : o = .some r) : Yields (fun x => x = r) o := ⟨r, h, rfl⟩
/-- After round i of at most n: another one follows, with the invariant, or the loop has ended. -/
def Nx {Z τ : Type} (i n : Nat) (I : Nat → Z → Prop) (R : τ → Prop) : Z ⊕ τ → Prop
  | .inl z => i < n ∧ I (i + 1) z
  | .inr t => R t
theorem Yields.loop {Z τ : Type} {step : Z → Option (Z ⊕ τ)} {R : τ → Prop} (n : Nat) (I : Nat → Z → Prop) {z : Z} (h0 : I 0 z)
    (h : ∀ i z, i ≤ n → I i z → Yields (Nx i n I R) (step z)) : Yields R (loopO step z) := by
  have key : ∀ (k i : Nat) (z : Z), i + k = n → I i z → ∃ t, loopO step z = .some t ∧ R t := by
    intro k
    induction k with
    | zero =>
      intro i z hi hI
      obtain ⟨o, e, p⟩ := h i z (by omega) hI
      cases o with
      | inl z' => have := p.1; omega
      | inr t => exact ⟨t, loopO_stop e, p⟩
    | succ k ih =>
      intro i z hi hI
      obtain ⟨o, e, p⟩ := h i z (by omega) hI
      cases o with
      | inl z' => rw [loopO_go e]; exact ih (i + 1) z' (by omega) p.2
      | inr t => exact ⟨t, loopO_stop e, p⟩
  exact key n 0 z (by omega) h0
theorem ok_app {n B : Nat} (h : n * B ≤ 140737488351232) (h2 : n ≤ 140737488351232) : okApp n B = true := by
  unfold okApp; simp [Nat.ble_eq, h, h2]
theorem ok_len {n : Nat} {B : Nat} (h : n * B ≤ 140737488351232) (h2 : n ≤ 140737488351232) : okLen (n : Int) (n : Int) B = true := by
  unfold okLen; simp; omega
theorem in_range {i : Int} {n : Nat} (h0 : 0 ≤ i) (h1 : i < n) : inRange i n = true := by unfold inRange; simp; omega
theorem at_nat {α : Type} {xs : List α} {i : Nat} {x : α} (h : xs[((i : Int)).toNat]? = .some x) : xs[i]? = .some x := by simpa using h
end Go.Proofs.Ytimeninncpmaeaa.Abs
