/- Rows of numbers, read and written. -/
import Derived.Test.YtimeninncpmaeaaBfqW
namespace Go.Proofs.Ytimeninncpmaeaa.Abs
namespace D
open Go
set_option linter.unusedVariables false
set_option linter.unusedSimpArgs false
set_option maxHeartbeats 1000000
theorem wr {x : Int} (h1 : -9000000000000000000 ≤ x) (h2 : x ≤ 9000000000000000000) : IntKind.i64.wrap x = x := by rw [wrap_i64] <;> omega
theorem wr1 {i n : Nat} (h : i < n) (hn : n ≤ 9000000000000000000) : IntKind.i64.wrap ((i : Int) + 1) = ((i + 1 : Nat) : Int) := by rw [wr] <;> omega
theorem atn {α : Type} {l : List α} {i : Nat} {y : α} (h : l[i]? = some y) : at? l (i : Int) = some y := by
  unfold at?; rw [decide_eq_true (Int.natCast_nonneg i), cond_true, Int.toNat_natCast]; exact h
theorem atI {α : Type} {l : List α} {k : Int} {y : α} (h0 : 0 ≤ k) (h : l[k.toNat]? = some y) : at? l k = some y := by
  unfold at?; rw [decide_eq_true h0, cond_true]; exact h
theorem some_nat {α : Type} {l : List α} {i : Nat} (h : i < l.length) : ∃ y, l[i]? = some y := ⟨l[i], List.getElem?_eq_getElem h⟩
def RowN (n : Nat) (g : Int → Int) (row : List Int) : Prop := row.length = n ∧ ∀ c : Nat, c < n → row[c]? = some (g c)
def RowsN (R n : Nat) (g : Int → Int → Int) (xss : List (List Int)) : Prop := xss.length = R ∧ ∀ j : Nat, j < R → ∃ row, xss[j]? = some row ∧ RowN n (g j) row
theorem RowN.congr {n : Nat} {g g' : Int → Int} {row : List Int} (h : RowN n g row) (e : ∀ c : Nat, c < n → g c = g' c) : RowN n g' row :=
  ⟨h.1, fun c hc => by rw [← e c hc]; exact h.2 c hc⟩
theorem RowN.eq {n : Nat} {g : Int → Int} {a b : List Int} (ha : RowN n g a) (hb : RowN n g b) : a = b := by
  apply List.ext_getElem?
  intro c
  by_cases hc : c < n
  · rw [ha.2 c hc, hb.2 c hc]
  · rw [List.getElem?_eq_none (by have := ha.1; omega), List.getElem?_eq_none (by have := hb.1; omega)]
theorem RowN.zero (n : Nat) : RowN n (fun _ => 0) (List.replicate n 0) :=
  ⟨by simp, fun c hc => by rw [List.getElem?_replicate, if_pos hc]⟩
theorem RowN.put {n : Nat} {g g' : Int → Int} {row : List Int} (h : RowN n g row) {c0 x : Int} (h0 : 0 ≤ c0) (h1 : c0 < n) (hx : g' c0 = x) (e : ∀ c : Nat, c < n → (c : Int) ≠ c0 → g' c = g c) : RowN n g' (setI row c0 x) := by
  refine ⟨by simp [setI, h.1], fun c hc => ?_⟩
  unfold setI
  rw [List.getElem?_set]
  by_cases k : c0.toNat = c
  · rw [if_pos k, if_pos (by have := h.1; omega), ← hx, show (c : Int) = c0 by omega]
  · rw [if_neg k, h.2 c hc, e c hc (by omega)]
theorem RowsN.congr {R n : Nat} {g g' : Int → Int → Int} {xss : List (List Int)} (h : RowsN R n g xss) (e : ∀ j c : Nat, j < R → c < n → g j c = g' j c) : RowsN R n g' xss :=
  ⟨h.1, fun j hj => (h.2 j hj).imp fun row k => ⟨k.1, k.2.congr fun c hc => e j c hj hc⟩⟩
theorem RowsN.put {R n : Nat} {g g' : Int → Int → Int} {xss : List (List Int)} (h : RowsN R n g xss) {j0 : Nat} {row : List Int} (h1 : j0 < R) (hr : RowN n (g' j0) row) (e : ∀ j c : Nat, j < R → c < n → j ≠ j0 → g' j c = g j c) : RowsN R n g' (setI xss (j0 : Int) row) := by
  refine ⟨by simp [setI, h.1], fun j hj => ?_⟩
  unfold setI
  rw [List.getElem?_set, Int.toNat_natCast]
  by_cases k : j0 = j
  · subst k
    exact ⟨row, by rw [if_pos rfl, if_pos (by have := h.1; omega)], hr⟩
  · rw [if_neg k]
    obtain ⟨row', k1, k2⟩ := h.2 j hj
    exact ⟨row', k1, k2.congr fun c hc => (e j c hj hc fun q => k q.symm).symm⟩
theorem at_row {n : Nat} {g : Int → Int} {row : List Int} (h : RowN n g row) {c : Int} (c0 : 0 ≤ c) (c1 : c < n) : at? row c = some (g c) := by
  have := h.2 c.toNat (by omega)
  rw [show ((c.toNat : Nat) : Int) = c by omega] at this
  exact atI c0 this
theorem RowN.hit {n : Nat} {g g' : Int → Int} {row : List Int} (h : RowN n g row) {c : Int} (c0 : 0 ≤ c) (c1 : c < n) (hb : -1000000 ≤ g c ∧ g c ≤ 1000000) (e : ∀ k, g' k = g k + if c = k then 1 else 0) :
    RowN n g' (setI row c (IntKind.i64.wrap (g c + 1))) := by
  rw [wr (by omega) (by omega)]
  refine h.put c0 c1 (by rw [e, if_pos rfl]) fun k hk ne => ?_
  rw [e, if_neg (by omega)]; omega
theorem at_rows {R n : Nat} {g : Int → Int → Int} {l : List (List Int)} (h : RowsN R n g l) {r : Int} (r0 : 0 ≤ r) (r1 : r < R) : ∃ row, at? l r = some row ∧ RowN n (g r) row := by
  obtain ⟨row, h1, h2⟩ := h.2 r.toNat (by omega)
  rw [show ((r.toNat : Nat) : Int) = r by omega] at h2
  exact ⟨row, atI r0 h1, h2⟩
theorem RowsN.hit {R n : Nat} {g g' : Int → Int → Int} {l : List (List Int)} (h : RowsN R n g l) {r c : Int} {row : List Int} (r0 : 0 ≤ r) (r1 : r < R) (hr : RowN n (g r) row) (c0 : 0 ≤ c) (c1 : c < n) (hb : -1000000 ≤ g r c ∧ g r c ≤ 1000000) (e : ∀ j k, g' j k = g j k + if r = j ∧ c = k then 1 else 0) :
    RowsN R n g' (setI l r (setI row c (IntKind.i64.wrap (g r c + 1)))) := by
  have hr' : RowN n (g' r) (setI row c (IntKind.i64.wrap (g r c + 1))) := hr.hit c0 c1 hb fun k => by
    rw [e]
    by_cases q : c = k
    · rw [if_pos q, if_pos ⟨rfl, q⟩]
    · rw [if_neg q, if_neg fun w => q w.2]
  have := h.put (g' := g') (j0 := r.toNat) (row := setI row c (IntKind.i64.wrap (g r c + 1))) (by omega) (by rw [show ((r.toNat : Nat) : Int) = r by omega]; exact hr') fun j k hj hk ne => by
    rw [e, if_neg (by omega)]; omega
  rwa [show ((r.toNat : Nat) : Int) = r by omega] at this
theorem ok8 {n B : Nat} (h : n ≤ 100000) (hB : B ≤ 1000) : (!(okLen (n : Int) (n : Int) B)) = false := by
  rw [ok_len (Nat.le_trans (Nat.mul_le_mul h hB) (by omega)) (by omega)]; rfl
theorem RowsN.snoc {R n : Nat} {g : Int → Int → Int} {xss : List (List Int)} {row : List Int} (h : RowsN R n g xss) (hr : RowN n (g R) row) : RowsN (R + 1) n g (xss ++ [row]) := by
  refine ⟨by simp [h.1], fun j hj => ?_⟩
  by_cases e : j < R
  · obtain ⟨r', h1, h2⟩ := h.2 j e
    exact ⟨r', by rw [List.getElem?_append_left (by have := h.1; omega)]; exact h1, h2⟩
  · have : j = R := by omega
    subst this
    exact ⟨row, by rw [List.getElem?_append_right (by have := h.1; omega), h.1]; simp, hr⟩
/-- A matrix by natural numbers. -/
def mat (d : Nat → Nat → Int) : Int → Int → Int := fun j c => d j.toNat c.toNat
theorem mat_at {n : Nat} {d : Nat → Nat → Int} {l : List (List Int)} (h : RowsN n n (mat d) l) {a : Nat} (ha : a < n) : ∃ row, at? l (a : Int) = some row ∧ ∀ b : Nat, b < n → at? row (b : Int) = some (d a b) := by
  obtain ⟨row, h1, h2⟩ := h.2 a ha
  refine ⟨row, atn h1, fun b hb => ?_⟩
  have := h2.2 b hb
  exact atn this
theorem mat_put {n : Nat} {d d' : Nat → Nat → Int} {l : List (List Int)} (h : RowsN n n (mat d) l) {a b : Nat} (ha : a < n) (hb : b < n) {row : List Int} (hr : at? l (a : Int) = some row) {x : Int} (hx : d' a b = x) (e : ∀ i j : Nat, i < n → j < n → ¬ (i = a ∧ j = b) → d' i j = d i j) :
    RowsN n n (mat d') (setI l (a : Int) (setI row (b : Int) x)) := by
  obtain ⟨row', h1, h2⟩ := h.2 a ha
  have : row' = row := by
    have := (atn h1).symm.trans hr
    exact Option.some.inj this
  subst this
  refine h.put ha ?_ fun i j hi hj ne => e i j hi hj fun w => ne w.1
  refine RowN.put (g := mat d a) h2 (by omega) (by omega) (by unfold mat; exact hx) fun c hc ne => e a c ha hc fun w => ne (by rw [w.2])
end D
end Go.Proofs.Ytimeninncpmaeaa.Abs
