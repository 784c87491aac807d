/- Bounds: resources and certificates. -/
import Derived.Test.YtimeninncpmaeaaBdsB
import Derived.Test.YtimeninncpmaeaaBdpU
namespace Go.Proofs.Ytimeninncpmaeaa.Abs
open Go
set_option linter.unusedVariables false
set_option linter.unusedSimpArgs false
set_option maxHeartbeats 1000000
def maxOf (r : Int) (l : List (Int × Int)) : Int := l.foldl (fun m y => if y.1 = r then (if y.2 > m then y.2 else m) else m) 0
theorem maxOf_app (r : Int) (y : Int × Int) (a : List (Int × Int)) : maxOf r (a ++ [y]) = if y.1 = r then (if y.2 > maxOf r a then y.2 else maxOf r a) else maxOf r a := by simp [maxOf, List.foldl_append]
theorem maxOf_take (r : Int) (B : Int) (hB : 0 ≤ B) (l : List (Int × Int)) (h : ∀ y ∈ l, y.1 = r → y.2 ≤ B) : ∀ i, i ≤ l.length → 0 ≤ maxOf r (l.take i) ∧ maxOf r (l.take i) ≤ B
  | 0, _ => by simp [maxOf]; exact hB
  | i + 1, hi => by
    have ih := maxOf_take r B hB l h i (by omega)
    obtain ⟨y, hy⟩ := some_nat (l := l) (i := i) (by omega)
    rw [take_one hy, maxOf_app]
    have := h y (List.mem_of_getElem? hy)
    split
    · rename_i e
      have := this e
      split <;> omega
    · exact ih
theorem maxOf_le {r B : Int} (hB : 0 ≤ B) {l : List (Int × Int)} (h : ∀ y ∈ l, y.1 = r → y.2 ≤ B) : 0 ≤ maxOf r l ∧ maxOf r l ≤ B := by
  have := maxOf_take r B hB l h l.length (Nat.le_refl _)
  rwa [List.take_of_length_le (Nat.le_refl _)] at this
def shv (s c : Int) : Int := IntKind.i64.wrap ((IntKind.i64.wrap ((IntKind.i64.wrap (s + c)) - 1)).tdiv c)
theorem shv_spec {s c : Int} (s0 : 0 ≤ s) (s1 : s ≤ 100000) (c0 : 1 ≤ c) (c1 : c ≤ 1024) : 0 ≤ shv s c ∧ (1 ≤ s → 1 ≤ shv s c) ∧ (1 ≤ s → (shv s c - 1) * c < s) ∧ s ≤ shv s c * c ∧ shv s c ≤ 200000 ∧ (s = 0 → shv s c = 0) := by
  have e : shv s c = (s + c - 1) / c := by
    unfold shv
    rw [wr (x := s + c) (by omega) (by omega), wr (x := s + c - 1) (by omega) (by omega), Int.tdiv_eq_ediv_of_nonneg (by omega)]
    have a := Int.ediv_nonneg (show 0 ≤ s + c - 1 by omega) (show 0 ≤ c by omega)
    have b := Int.ediv_le_self c (show 0 ≤ s + c - 1 by omega)
    rw [wr (by omega) (by omega)]
  rw [e]
  have d := Int.mul_ediv_add_emod (s + c - 1) c
  have m0 := Int.emod_nonneg (s + c - 1) (show c ≠ 0 by omega)
  have m1 := Int.emod_lt_of_pos (s + c - 1) (show 0 < c by omega)
  have a := Int.ediv_nonneg (show 0 ≤ s + c - 1 by omega) (show 0 ≤ c by omega)
  have b := Int.ediv_le_self c (show 0 ≤ s + c - 1 by omega)
  generalize (s + c - 1) / c = q at *
  generalize (s + c - 1) % c = r at *
  have z : q = 0 ∨ 1 ≤ q := by omega
  have e1 : (q - 1) * c = c * q - c := by rw [Int.sub_mul, Int.one_mul, Int.mul_comm]
  have e2 : q * c = c * q := Int.mul_comm ..
  refine ⟨a, fun h => ?_, fun h => by omega, by omega, by omega, fun h => ?_⟩
  · rcases z with rfl | z
    · simp at d; omega
    · exact z
  · subst h
    rcases z with z | z
    · exact z
    · have := Int.mul_le_mul_of_nonneg_left z (show 0 ≤ c by omega)
      rw [Int.mul_one] at this; omega
section
variable (x1 x2 : Int) (x3 : Bool) (l4 l5 : List Quad) (l6 : List (Int × Int))
def UsR (p : List Int × List Int) : Prop := p.1.length = l5.length ∧ p.2.length = l5.length ∧ ∀ i : Nat, i < l5.length → D.gd p.1 i = busyOf i l6 ∧ D.gd p.2 i = maxOf i l6
theorem usage_any (hN : ∀ y ∈ l6, NeedOK l5 y) (k5 : l5.length ≤ 6) (k6 : l6.length ≤ 20) : Yields (UsR l5 l6) (F40 x1 x2 x3 l4 l5 l6) := by
  unfold F40
  rw [ok_len (by omega) (by omega)]
  simp only [Bool.not_true, cond_false]
  refine Yields.bind (P := UsR l5 l6) (Yields.loop l6.length (fun (i : Nat) z => z.1 = (i : Int) ∧ z.2.1.length = l5.length ∧ z.2.2.length = l5.length ∧ ∀ j : Nat, j < l5.length → D.gd z.2.1 j = busyOf j (l6.take i) ∧ D.gd z.2.2 j = maxOf j (l6.take i)) ⟨rfl, by simp, by simp, fun j hj => ?_⟩ ?_) fun y hy => Yields.some hy
  · have : j < (l5.length : Int).toNat := by omega
    simp only [D.gd, List.getD]
    rw [List.getElem?_replicate, if_pos this]
    exact ⟨rfl, rfl⟩
  rintro i ⟨a, p, q⟩ hi ⟨h1, h2, h3, h4⟩
  simp only at h1 h2 h3 h4
  subst h1
  unfold F40_s1
  simp only
  refine Yields.bif (fun hc => ?_) fun hc => Yields.some ⟨h2, h3, fun j hj => ?_⟩
  · have hc := of_decide_eq_true hc
    obtain ⟨y, hy⟩ := some_nat (l := l6) (i := i) (by omega)
    have hyb := need_bd l5 l6 hN y (List.mem_of_getElem? hy)
    have nx : IntKind.i64.wrap ((i : Int) + 1) = ((i + 1 : Nat) : Int) := wr1 (n := l6.length) (by omega) (by omega)
    have hNy := hN y (List.mem_of_getElem? hy)
    refine Yields.bindE (atn hy) (Yields.bif (fun k => ?_) fun k => Yields.some ⟨by omega, nx, h2, h3, fun j hj => ?_⟩)
    · have k := of_decide_eq_true k
      have kl : y.1 < l5.length := by rcases hNy with ⟨h, _⟩ | ⟨_, h, _⟩ <;> omega
      have bd := busyOf_bd y.1 (l6.take i) (fun z hz => need_bd l5 l6 hN z (List.mem_of_mem_take hz))
      have hlen : (l6.take i).length ≤ i := by simp; omega
      refine Yields.bindE (D.at_gd k (by omega)) (Yields.bindE (D.at_gd k (by omega)) (Yields.some ⟨by omega, nx, by simp only [D.len_set]; exact h2, by simp only [D.len_set]; exact h3, fun j hj => ?_⟩))
      have ej := h4 j hj
      simp only
      rw [D.gd_set k (by omega), D.gd_set k (by omega), take_one hy, busyOf_app, maxOf_app]
      by_cases e : j = y.1.toNat
      · have ey' : y.1 = (j : Int) := by omega
        rw [if_pos e, if_pos e, if_pos ey', if_pos ey', ← e, ej.1, ej.2]
        have ey : y.1 = (j : Int) := by omega
        rw [ey] at bd
        rw [wr (by omega) (by omega)]
        exact ⟨rfl, rfl⟩
      · rw [if_neg e, if_neg e, if_neg (by omega), if_neg (by omega), Int.add_zero]
        exact ej
    · have k := of_decide_eq_false k
      have ej := h4 j hj
      simp only
      rw [take_one hy, busyOf_app, maxOf_app, if_neg (by omega), if_neg (by omega), Int.add_zero]
      exact ej
  · have hc := of_decide_eq_false hc
    have := h4 j hj
    rwa [List.take_of_length_le (by omega)] at this
theorem busy_bd (hN : ∀ y ∈ l6, NeedOK l5 y) (k6 : l6.length ≤ 20) (r : Int) : 0 ≤ busyOf r l6 ∧ busyOf r l6 ≤ 5120 ∧ 0 ≤ maxOf r l6 ∧ maxOf r l6 ≤ 256 := by
  have a := busyOf_bd r l6 (need_bd l5 l6 hN)
  have b := maxOf_le (r := r) (B := 256) (by omega) (l := l6) fun y hy _ => (need_bd l5 l6 hN y hy).2
  omega
/-- A certificate that is accepted. -/
def AccP (n : Nat) (x7 x8 : Int) (l9 : List Int) (x10 : Int) : Prop := 1 ≤ x8 ∧ x8 ≤ 256 ∧ ((x7 = 1 ∧ x8 = 1) ∨ (x7 = 2 ∧ 2 ≤ x8 ∧ R.OkC n l4 l9 ∧ 0 < R.sumC (x8 - 1) l4 l9 l9.length) ∨ (x7 = 3 ∧ 0 ≤ x10 ∧ x10 < l5.length ∧ ∀ q, l5[x10.toNat]? = some q → (x8 - 1) * q.2.2.2 < busyOf x10 l6) ∨ (x7 = 4 ∧ 0 ≤ x10 ∧ x10 < l5.length ∧ x8 ≤ maxOf x10 l6))
theorem pos_iff {n : Nat} {ii : Int} {A : List Quad} {c : List Int} {r : Int × Bool} (h : R.PosR n ii A c r) : r.2 = true ↔ R.OkC n A c ∧ 0 < R.sumC ii A c c.length := by
  rcases h with ⟨a, rfl⟩ | ⟨a, rfl⟩
  · simp [a]
  · simp [a]
variable {x1 x2 l4 l5 l6}
end
end Go.Proofs.Ytimeninncpmaeaa.Abs
