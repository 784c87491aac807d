/- The reference's walks, and the least solution out of them. -/
import Derived.Test.YtimeninncpmaeaaBdqH
import Derived.Test.YtimeninncpmaeaaBdqR
namespace Go.Proofs.Ytimeninncpmaeaa.Abs
namespace D
open Go
set_option linter.unusedVariables false
set_option linter.unusedSimpArgs false
set_option maxHeartbeats 1000000
/-- The links. -/
def lkOf (ii : Int) (y : Ed) : Lk := (y.1.toNat, y.2.1.toNat, F59 y.1 y.2.1 y.2.2.1 y.2.2.2 ii)
def lks (n : Nat) (ii : Int) (l : List Ed) : List Lk := (l.filter (cnt46 n)).map (lkOf ii)
theorem lks_mem {n : Nat} {ii : Int} {l : List Ed} {e : Lk} : e ∈ lks n ii l ↔ ∃ y ∈ l, cnt46 n y = true ∧ e = lkOf ii y := by
  unfold lks
  rw [List.mem_map]
  constructor
  · rintro ⟨y, hy, rfl⟩
    obtain ⟨h1, h2⟩ := List.mem_filter.1 hy
    exact ⟨y, h1, h2, rfl⟩
  · rintro ⟨y, h1, h2, rfl⟩
    exact ⟨y, List.mem_filter.2 ⟨h1, h2⟩, rfl⟩
theorem lks_ok {n : Nat} {ii : Int} {l : List Ed} : ∀ e ∈ lks n ii l, e.1 < n ∧ e.2.1 < n ∧ -269484032 ≤ e.2.2 ∧ e.2.2 ≤ 269484032 := by
  intro e he
  obtain ⟨y, h1, h2, rfl⟩ := lks_mem.1 he
  obtain ⟨⟨a, b⟩, c, d⟩ := cnt46_iff.1 h2
  have w := weight_eq y.1 y.2.1 y.2.2.1 y.2.2.2 ii
  unfold lkOf
  exact ⟨by simp only; omega, by simp only; omega, w.2.1, w.2.2⟩
theorem sol_lks {n : Nat} {ii : Int} {l : List Ed} {x : Nat → Int} : SolL (lks n ii l) x ↔ Sol (eds n ii false l l.length) x := by
  constructor
  · intro h e he
    obtain ⟨i, y, h1, h2, h3, rfl⟩ := eds_mem he
    exact h (lkOf ii y) (lks_mem.2 ⟨y, List.mem_of_getElem? h2, h3, rfl⟩)
  · intro h e he
    obtain ⟨y, h1, h2, rfl⟩ := lks_mem.1 he
    obtain ⟨i, hi⟩ := List.mem_iff_getElem?.1 h1
    exact h _ (mem_eds (ag := false) (List.getElem?_eq_some_iff.1 hi).1 hi h2)
theorem oka {k B : Nat} (h : k ≤ 100000) (hB : B ≤ 1000) : (!(okApp k B)) = false := by
  rw [ok_app (Nat.le_trans (Nat.mul_le_mul h hB) (by omega)) (by omega)]; rfl
def dIni (a b : Nat) : Int := if a = b then 0 else noW
section
variable {x1 ii : Int} {n : Nat} {l : List Ed}
structure Ini (n : Nat) (E : List Lk) (d : Nat → Nat → Int) : Prop where
  bd : ∀ a b, a < n → b < n → d a b = noW ∨ (-536870912 ≤ d a b ∧ d a b ≤ 536870912)
  dg : ∀ a, a < n → 0 ≤ d a a
  so : ∀ x, SolL E x → ∀ a b, a < n → b < n → noW < d a b → x a + d a b ≤ x b
theorem Ini.put {E : List Lk} {d d' : Nat → Nat → Int} {u v : Nat} {w : Int} (H : Ini n E d) (he : (u, v, w) ∈ E) (hw : -269484032 ≤ w ∧ w ≤ 269484032) (hd' : ∀ a b, d' a b = if a = u ∧ b = v then (if w > d u v then w else d u v) else d a b) :
    Ini n E d' ∧ w ≤ d' u v ∧ ∀ a b, d a b ≤ d' a b := by
  have key : ∀ a b, d' a b = d a b ∨ (a = u ∧ b = v ∧ d a b < w ∧ d' a b = w) := by
    intro a b
    rw [hd']
    split
    · rename_i q
      obtain ⟨rfl, rfl⟩ := q
      split
      · exact .inr ⟨rfl, rfl, by omega, rfl⟩
      · exact .inl rfl
    · exact .inl rfl
  refine ⟨⟨fun a b ha hb => ?_, fun a ha => ?_, fun x hx a b ha hb h => ?_⟩, ?_, fun a b => ?_⟩
  · rcases key a b with e | ⟨_, _, _, e⟩
    · rw [e]; exact H.bd a b ha hb
    · rw [e]; exact .inr (by omega)
  · have := H.dg a ha
    rcases key a a with e | ⟨_, _, _, e⟩ <;> omega
  · rcases key a b with e | ⟨rfl, rfl, _, e⟩
    · rw [e] at h ⊢; exact H.so x hx a b ha hb h
    · rw [e]; exact hx _ he
  · rw [hd', if_pos ⟨rfl, rfl⟩]; split <;> omega
  · rcases key a b with e | ⟨_, _, _, e⟩ <;> omega
/-- The matrix in the midst of a step. -/
def mid (d : Nat → Nat → Int) (k a b : Nat) : Nat → Nat → Int := fun x y => if x < a ∨ (x = a ∧ y < b) then fwU d k x y else d x y
theorem mid_col {d : Nat → Nat → Int} {k : Nat} (h : d k k = 0) (a b x : Nat) : mid d k a b x k = d x k := by
  unfold mid; split
  · exact fwU_col h x
  · rfl
theorem mid_row {d : Nat → Nat → Int} {k : Nat} (h : d k k = 0) (a b y : Nat) : mid d k a b k y = d k y := by
  unfold mid; split
  · exact fwU_row h y
  · rfl
theorem mid_here (d : Nat → Nat → Int) (k a b : Nat) : mid d k a b a b = d a b := if_neg (by omega)
theorem mid_put {d : Nat → Nat → Int} {k a b i j : Nat} (h : ¬ (i = a ∧ j = b)) : mid d k a (b + 1) i j = mid d k a b i j := by
  unfold mid
  by_cases q : i < a ∨ (i = a ∧ j < b)
  · rw [if_pos q, if_pos (by omega)]
  · rw [if_neg q, if_neg (by omega)]
theorem mid_idle {d : Nat → Nat → Int} {k a b : Nat} (h : fwU d k a b = d a b) (i j : Nat) : mid d k a b i j = mid d k a (b + 1) i j := by
  by_cases q : i = a ∧ j = b
  · obtain ⟨rfl, rfl⟩ := q
    rw [mid_here]
    unfold mid
    rw [if_pos (by omega), h]
  · exact (mid_put q).symm
def bk (k : Nat) : Int := ((536870912 * 2 ^ k : Nat) : Int)
theorem bk_bd {k : Nat} (h : k ≤ 20) : 0 ≤ bk k ∧ bk k ≤ 562949953421312 := by
  have := Nat.pow_le_pow_right (n := 2) (by omega) h
  unfold bk
  omega
theorem bk_succ (k : Nat) : bk (k + 1) = 2 * bk k := by
  unfold bk
  rw [Nat.pow_succ]; omega
/-- A least solution above bounds. -/
def Least (n : Nat) (E : List Lk) (lo : Nat → Int) (r : List Int) : Prop := r.length = n ∧ SolL E (gd r) ∧ (∀ v, v < n → lo v ≤ gd r v) ∧ ∀ x, SolL E x → (∀ v, v < n → lo v ≤ x v) → ∀ v, v < n → gd r v ≤ x v
theorem Least.eq {E : List Lk} {lo : Nat → Int} {r r' : List Int} (h : Least n E lo r) (h' : Least n E lo r') : r = r' := by
  apply List.ext_getElem?
  intro v
  by_cases hv : v < n
  · rw [gd_some (by have := h.1; omega), gd_some (by have := h'.1; omega)]
    have := h.2.2.2 _ h'.2.1 h'.2.2.1 v hv
    have := h'.2.2.2 _ h.2.1 h.2.2.1 v hv
    congr 1; omega
  · rw [List.getElem?_eq_none (by have := h.1; omega), List.getElem?_eq_none (by have := h'.1; omega)]
end
end D
end Go.Proofs.Ytimeninncpmaeaa.Abs
