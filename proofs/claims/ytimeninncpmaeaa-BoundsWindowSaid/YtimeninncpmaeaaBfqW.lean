/- The longest walks between all nodes, by Floyd and Warshall. -/
import Derived.Test.YtimeninncpmaeaaBfqH
namespace Go.Proofs.Ytimeninncpmaeaa.Abs
namespace D
open Go
set_option linter.unusedVariables false
set_option linter.unusedSimpArgs false
set_option maxHeartbeats 1000000
def noW : Int := -1152921504606846976
def fwU (d : Nat → Nat → Int) (k a b : Nat) : Int :=
  if noW < d a k ∧ noW < d k b then (if d a b < d a k + d k b then d a k + d k b else d a b) else d a b
/-- The arcs: from, to, weight. -/
abbrev Lk := Nat × Nat × Int
def SolL (E : List Lk) (x : Nat → Int) : Prop := ∀ e ∈ E, x e.1 + e.2.2 ≤ x e.2.1
structure FW (n : Nat) (E : List Lk) (B : Int) (k : Nat) (d : Nat → Nat → Int) : Prop where
  bd : ∀ a b, a < n → b < n → d a b = noW ∨ (-B ≤ d a b ∧ d a b ≤ B)
  dg : ∀ a, a < n → 0 ≤ d a a
  so : ∀ x, SolL E x → ∀ a b, a < n → b < n → noW < d a b → x a + d a b ≤ x b
  cl : ∀ m, m < k → ∀ a b, a < n → b < n → noW < d a m → noW < d m b → d a m + d m b ≤ d a b
  ar : ∀ e ∈ E, e.2.2 ≤ d e.1 e.2.1
theorem fwU_le (d : Nat → Nat → Int) (k a b : Nat) : d a b ≤ fwU d k a b := by
  unfold fwU
  split
  · split <;> omega
  · omega
theorem fwU_col {d : Nat → Nat → Int} {k : Nat} (h : d k k = 0) (a : Nat) : fwU d k a k = d a k := by
  unfold fwU
  rw [h]
  split
  · rw [if_neg (by omega)]
  · rfl
theorem fwU_row {d : Nat → Nat → Int} {k : Nat} (h : d k k = 0) (b : Nat) : fwU d k k b = d k b := by
  unfold fwU
  rw [h]
  split
  · rw [if_neg (by omega)]
  · rfl
/-- What an entry is after a step. -/
theorem fwU_case (d : Nat → Nat → Int) (k a b : Nat) : fwU d k a b = d a b ∨ (noW < d a k ∧ noW < d k b ∧ d a b < d a k + d k b ∧ fwU d k a b = d a k + d k b) := by
  unfold fwU
  split
  · rename_i q
    split
    · rename_i w; exact .inr ⟨q.1, q.2, w, rfl⟩
    · exact .inl rfl
  · exact .inl rfl
theorem fwU_ge {d : Nat → Nat → Int} {k a b : Nat} (h1 : noW < d a k) (h2 : noW < d k b) : d a k + d k b ≤ fwU d k a b := by
  unfold fwU
  rw [if_pos ⟨h1, h2⟩]
  split <;> omega
theorem FW.step {n : Nat} {E : List Lk} {B : Int} {k : Nat} {d : Nat → Nat → Int} (H : FW n E B k d) (hk : k < n) (h : d k k = 0) (hB : 0 ≤ B ∧ B ≤ 562949953421312) (hE : ∀ e ∈ E, e.1 < n ∧ e.2.1 < n) : FW n E (2 * B) (k + 1) (fwU d k) := by
  have val : ∀ {a b}, a < n → b < n → noW < d a b → -B ≤ d a b ∧ d a b ≤ B := fun ha hb q => by
    rcases H.bd _ _ ha hb with e | e
    · omega
    · exact e
  refine ⟨fun a b ha hb => ?_, fun a ha => Int.le_trans (H.dg a ha) (fwU_le d k a a), fun x hx a b ha hb q => ?_, fun m hm a b ha hb q1 q2 => ?_, fun e he => Int.le_trans (H.ar e he) (fwU_le d k _ _)⟩
  · rcases fwU_case d k a b with e | ⟨h1, h2, h3, e⟩
    · rw [e]
      rcases H.bd a b ha hb with e | e
      · exact .inl e
      · exact .inr (by omega)
    · rw [e]
      have := val ha hk h1
      have := val hk hb h2
      exact .inr (by omega)
  · rcases fwU_case d k a b with e | ⟨h1, h2, h3, e⟩
    · rw [e] at q ⊢; exact H.so x hx a b ha hb q
    · rw [e]
      have := H.so x hx a k ha hk h1
      have := H.so x hx k b hk hb h2
      omega
  · by_cases e : m = k
    · subst e
      rw [fwU_col h] at q1 ⊢
      rw [fwU_row h] at q2 ⊢
      exact fwU_ge q1 q2
    · have hm : m < k := by omega
      have hmn : m < n := by omega
      have up := fwU_le d k a b
      rcases fwU_case d k a m with e1 | ⟨h1, h2, h3, e1⟩ <;> rcases fwU_case d k m b with e2 | ⟨g1, g2, g3, e2⟩
      · rw [e1] at q1 ⊢; rw [e2] at q2 ⊢
        have := H.cl m hm a b ha hb q1 q2
        omega
      · rw [e1] at q1 ⊢; rw [e2] at q2 ⊢
        have c1 := H.cl m hm a k ha hk q1 g1
        have v1 := val ha hmn q1
        have v2 := val hmn hk g1
        have hak : noW < d a k := by unfold noW at *; omega
        have c2 := fwU_ge (d := d) (k := k) (a := a) (b := b) hak g2
        omega
      · rw [e1] at q1 ⊢; rw [e2] at q2 ⊢
        have c1 := H.cl m hm k b hk hb h2 q2
        have v1 := val hk hmn h2
        have v2 := val hmn hb q2
        have hkb : noW < d k b := by unfold noW at *; omega
        have c2 := fwU_ge (d := d) (k := k) (a := a) (b := b) h1 hkb
        omega
      · rw [e1, e2]
        have c1 := H.cl m hm k k hk hk h2 g1
        have c2 := fwU_ge (d := d) (k := k) (a := a) (b := b) h1 g2
        omega
/-- The least solution above bounds, out of the walks. -/
def IsOut (n : Nat) (d : Nat → Nat → Int) (lo : Nat → Int) (b : Nat) (y : Int) : Prop :=
  lo b ≤ y ∧ (∀ a, a < n → noW < d a b → lo a + d a b ≤ y) ∧ (y = lo b ∨ ∃ a, a < n ∧ noW < d a b ∧ y = lo a + d a b)
theorem FW.out_sol {n : Nat} {E : List Lk} {B : Int} {d : Nat → Nat → Int} (H : FW n E B n d) (hB : 0 ≤ B ∧ B ≤ 562949953421312) (hE : ∀ e ∈ E, e.1 < n ∧ e.2.1 < n ∧ noW < e.2.2) {lo out : Nat → Int} (ho : ∀ b, b < n → IsOut n d lo b (out b)) : SolL E out := by
  intro e he
  obtain ⟨h1, h2, h3⟩ := hE e he
  have w := H.ar e he
  have nw : noW < d e.1 e.2.1 := by omega
  obtain ⟨_, k2, k3⟩ := ho e.1 h1
  obtain ⟨_, g2, _⟩ := ho e.2.1 h2
  rcases k3 with k3 | ⟨a, ha, q, k3⟩
  · have := g2 e.1 h1 nw
    omega
  · have c := H.cl e.1 h1 a e.2.1 ha h2 q nw
    have v1 := (H.bd a e.1 ha h1).resolve_left (by omega)
    have v2 := (H.bd e.1 e.2.1 h1 h2).resolve_left (by omega)
    have := g2 a ha (by unfold noW at *; omega)
    omega
theorem FW.out_least {n : Nat} {E : List Lk} {B : Int} {k : Nat} {d : Nat → Nat → Int} (H : FW n E B k d) {lo : Nat → Int} {b : Nat} {y : Int} (hb : b < n) (ho : IsOut n d lo b y) {x : Nat → Int} (hx : SolL E x) (hl : ∀ v, v < n → lo v ≤ x v) : y ≤ x b := by
  rcases ho.2.2 with e | ⟨a, ha, q, e⟩
  · rw [e]; exact hl b hb
  · have := H.so x hx a b ha hb q
    have := hl a ha
    omega
theorem FW.refuse {n : Nat} {E : List Lk} {B : Int} {k : Nat} {d : Nat → Nat → Int} (H : FW n E B k d) {a : Nat} (ha : a < n) (h : 0 < d a a) {x : Nat → Int} (hx : SolL E x) : False := by
  have := H.so x hx a a ha ha (by unfold noW; omega)
  omega
end D
end Go.Proofs.Ytimeninncpmaeaa.Abs
