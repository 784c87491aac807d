/- How many units of a resource are occupied in a cycle. -/
import Derived.Test.YtmncgnjginibiaaSuK
namespace Go.Proofs.Ytmncgnjginibiaa.Abs
open Go
set_option linter.unusedVariables false
set_option linter.unusedSimpArgs false
set_option maxHeartbeats 1000000
/-- The cycle of a time. -/
def place (x7 t : Int) : Int := if 0 < x7 then t % x7 else t
def oneAt (x7 r c : Int) (y : Int × Int) (s : Int) (b : Nat) : Int := if y.1 = r ∧ place x7 (s + b) = c then 1 else 0
def inner (x7 r c : Int) (y : Int × Int) (s : Int) : Nat → Int
  | 0 => 0
  | b + 1 => inner x7 r c y s b + oneAt x7 r c y s b
def occOf (x7 r c : Int) (y : Option (Int × Int)) (s : Option Int) : Int := match y, s with
  | some y, some s => inner x7 r c y s y.2.toNat
  | _, _ => 0
def tot (l6 : List (Int × Int)) (x7 : Int) (l9 : List Int) (r c : Int) : Nat → Int
  | 0 => 0
  | i + 1 => tot l6 x7 l9 r c i + occOf x7 r c l6[i]? l9[i]?
theorem oneAt_bd (x7 r c : Int) (y : Int × Int) (s : Int) (b : Nat) : 0 ≤ oneAt x7 r c y s b ∧ oneAt x7 r c y s b ≤ 1 := by
  unfold oneAt; split <;> omega
theorem inner_bd (x7 r c : Int) (y : Int × Int) (s : Int) : ∀ m : Nat, 0 ≤ inner x7 r c y s m ∧ inner x7 r c y s m ≤ m
  | 0 => by simp [inner]
  | m + 1 => by
    have := inner_bd x7 r c y s m
    have := oneAt_bd x7 r c y s m
    simp only [inner]; omega
theorem tot_bd {l6 : List (Int × Int)} {x7 : Int} {l9 : List Int} {r c : Int} (hN : ∀ y ∈ l6, 0 ≤ y.2 ∧ y.2 ≤ 256) : ∀ i : Nat, 0 ≤ tot l6 x7 l9 r c i ∧ tot l6 x7 l9 r c i ≤ 256 * i
  | 0 => by simp [tot]
  | i + 1 => by
    have := tot_bd (x7 := x7) (l9 := l9) (r := r) (c := c) hN i
    simp only [tot, occOf]
    split
    · rename_i y s hy hs
      have h1 := hN y (List.mem_of_getElem? hy)
      have h2 := inner_bd x7 r c y s y.2.toNat
      omega
    · omega
theorem inner_hit {x7 r c : Int} {y : Int × Int} {s : Int} : ∀ {m : Nat}, 0 < inner x7 r c y s m → ∃ b : Nat, b < m ∧ y.1 = r ∧ place x7 (s + b) = c
  | 0, h => by simp [inner] at h
  | m + 1, h => by
    by_cases k : 0 < inner x7 r c y s m
    · obtain ⟨b, h1, h2⟩ := inner_hit k
      exact ⟨b, by omega, h2⟩
    · simp only [inner] at h
      unfold oneAt at h
      split at h
      · rename_i q; exact ⟨m, by omega, q⟩
      · omega
theorem place_ne {x7 s : Int} {b m : Nat} (h : b < m) (hx : 0 < x7 → (m : Int) - b < x7) : place x7 (s + b) ≠ place x7 (s + m) := by
  unfold place
  split
  · rename_i z
    intro e
    have h1 := Int.emod_eq_emod_iff_emod_sub_eq_zero.1 e.symm
    rw [Int.emod_eq_of_lt (by omega) (by have := hx z; omega)] at h1
    omega
  · omega
theorem inner_one {x7 r c : Int} {y : Int × Int} {s : Int} : ∀ {m : Nat}, (0 < x7 → (m : Int) ≤ x7) → inner x7 r c y s m ≤ 1
  | 0, _ => by simp [inner]
  | m + 1, hx => by
    have ih := inner_one (x7 := x7) (r := r) (c := c) (y := y) (s := s) (m := m) fun z => by have := hx z; omega
    have n0 := (inner_bd x7 r c y s m).1
    by_cases k : 0 < inner x7 r c y s m
    · obtain ⟨b, h1, h2, h3⟩ := inner_hit k
      simp only [inner, oneAt]
      rw [if_neg]
      · omega
      · rintro ⟨_, h4⟩
        exact place_ne (s := s) h1 (fun z => by have := hx z; omega) (h3.trans h4.symm)
    · have := (oneAt_bd x7 r c y s m).2
      simp only [inner]; omega
theorem occ_of {x7 s c : Int} {b : Nat} {m : Int} (hb : (b : Int) < m) (h : place x7 (s + b) = c) : Occ x7 s m c := by
  unfold place at h
  unfold Occ
  split at h
  · rename_i z
    rw [if_pos z, ← h, emod_sub_l, show s + (b : Int) - s = (b : Int) by omega]
    rcases Int.lt_or_le (b : Int) x7 with h1 | h1
    · rw [Int.emod_eq_of_lt (by omega) h1]; exact hb
    · have := Int.emod_lt_of_pos (b : Int) z
      omega
  · rename_i z
    rw [if_neg z]; omega
section
variable (x1 x2 : Int) (x3 : Bool) (l4 l5 : List Quad) (l6 : List (Int × Int)) (x7 x8 : Int) (l9 l10 l11 : List Int)
theorem occ_units (hN : ∀ y ∈ l6, NeedOK l5 y) (e9 : l9.length = l6.length) (e11 : l11.length = l6.length) (no : ∀ p, ¬ PairCl l6 x7 l9 l11 l6.length p) {r c : Int} (r0 : 0 ≤ r) (hc : 0 < x7 → 0 ≤ c ∧ c < x7) :
    ∀ i : Nat, i ≤ l6.length → ∃ D : List Int, tot l6 x7 l9 r c i ≤ D.length ∧ D.Nodup ∧ ∀ u ∈ D, ∃ (j : Nat) (y : Int × Int) (s : Int), j < i ∧ l6[j]? = some y ∧ l9[j]? = some s ∧ l11[j]? = some u ∧ y.1 = r ∧ Occ x7 s y.2 c
  | 0, _ => ⟨[], by simp [tot], List.nodup_nil, fun u h => by cases h⟩
  | i + 1, hi => by
    obtain ⟨D, h1, h2, h3⟩ := occ_units hN e9 e11 no r0 hc i (by omega)
    obtain ⟨y, hy⟩ := some_nat (l := l6) (i := i) (by omega)
    obtain ⟨s, hs⟩ := some_nat (l := l9) (i := i) (by omega)
    obtain ⟨u, hu⟩ := some_nat (l := l11) (i := i) (by omega)
    have hn := hN y (List.mem_of_getElem? hy)
    have up : ∀ u ∈ D, ∃ (j : Nat) (y : Int × Int) (s : Int), j < i + 1 ∧ l6[j]? = some y ∧ l9[j]? = some s ∧ l11[j]? = some u ∧ y.1 = r ∧ Occ x7 s y.2 c := fun u hu => by
      obtain ⟨j, y, s, k1, k2⟩ := h3 u hu
      exact ⟨j, y, s, by omega, k2⟩
    have et : tot l6 x7 l9 r c (i + 1) = tot l6 x7 l9 r c i + inner x7 r c y s y.2.toNat := by
      simp only [tot, occOf, hy, hs]
    by_cases k : 0 < inner x7 r c y s y.2.toNat
    · obtain ⟨b, b1, b2, b3⟩ := inner_hit k
      have y1 : 0 ≤ y.1 := by omega
      have noself : ¬ (0 < x7 ∧ x7 < y.2) := fun q => no ((i : Int), (i : Int)) ⟨i, i, rfl, Nat.le_refl _, hi, (cl_iff l6 x7 l9 l11 hy hy hu hu hs hs).2 ⟨rfl, y1, rfl, .inl ⟨rfl, q⟩⟩⟩
      have one := inner_one (x7 := x7) (r := r) (c := c) (y := y) (s := s) (m := y.2.toNat) fun z => by omega
      have oc : Occ x7 s y.2 c := occ_of (by omega) b3
      refine ⟨u :: D, by rw [et, List.length_cons]; omega, List.nodup_cons.2 ⟨fun m => ?_, h2⟩, fun v hv => ?_⟩
      · obtain ⟨j, y', s', k1, k2, k3, k4, k5, k6⟩ := h3 u m
        exact no ((j : Int), (i : Int)) ⟨j, i, rfl, by omega, hi, (cl_iff l6 x7 l9 l11 k2 hy k4 hu k3 hs).2 ⟨rfl, by omega, by omega, .inr ⟨by omega, c, hc, k6, oc⟩⟩⟩
      · rcases List.mem_cons.1 hv with rfl | hv
        · exact ⟨i, y, s, by omega, hy, hs, hu, b2, oc⟩
        · exact up v hv
    · exact ⟨D, by rw [et]; omega, h2, up⟩
/-- In a legal schedule there are units enough. -/
theorem tot_le (hv : ValidOK x1 x2 x3 l4 l5 l6) (hf : FitOK x1 x2 x3 l5 l6 x7 x8 l9 l10 l11) (hl : LegalP x1 x2 x3 l4 l6 x7 x8 l9 l10 l11) {r : Nat} {q : Quad} (hq : l5[r]? = some q) {c : Int} (hc : 0 < x7 → 0 ≤ c ∧ c < x7) :
    tot l6 x7 l9 (r : Int) c l6.length ≤ q.2.2.2 := by
  have e1 : (l6.length : Int) = x1 := hv.1.2.2.2.2
  obtain ⟨D, h1, h2, h3⟩ := occ_units l5 l6 x7 l9 l11 hv.2.2.2.2.2.2 (by have := hf.1; omega) (by have := hf.2.1; omega) hl.2.2.2 (r := (r : Int)) (by omega) hc l6.length (Nat.le_refl _)
  have hr := hv.2.2.2.2.1 q (List.mem_of_getElem? hq)
  have h4 := nodup_le (W := q.2.2.2.toNat) h2 fun u hu => by
    obtain ⟨j, y, s, k1, k2, k3, k4, k5, k6⟩ := h3 u hu
    obtain ⟨y', u', q1, q2, q3⟩ := hf.2.2.2.2.2.2.2.2.2.2 j (by omega)
    rw [k2] at q1; cases q1; rw [k4] at q2; cases q2
    have := q3.2 (by omega)
    have b := this.2 q (by rw [k5]; exact hq)
    omega
  have := hr.2.2.1
  omega
end
/-- RowsN of numbers: g says what stands in row j at c. -/
def RowN (n : Nat) (g : Int → Int) (row : List Int) : Prop := row.length = n ∧ ∀ c : Nat, c < n → row[c]? = some (g c)
def RowsN (R n : Nat) (g : Int → Int → Int) (xss : List (List Int)) : Prop := xss.length = R ∧ ∀ j : Nat, j < R → ∃ row, xss[j]? = some row ∧ RowN n (g j) row
theorem RowN.congr {n : Nat} {g g' : Int → Int} {row : List Int} (h : RowN n g row) (e : ∀ c : Nat, c < n → g c = g' c) : RowN n g' row :=
  ⟨h.1, fun c hc => by rw [← e c hc]; exact h.2 c hc⟩
theorem RowN.eq {n : Nat} {g : Int → Int} {a b : List Int} (ha : RowN n g a) (hb : RowN n g b) : a = b := by
  apply List.ext_getElem?
  intro c
  by_cases hc : c < n
  · rw [ha.2 c hc, hb.2 c hc]
  · rw [List.getElem?_eq_none (by have := ha.1; omega), List.getElem?_eq_none (by have := hb.1; omega)]
theorem RowN.zero (n : Nat) : RowN n (fun _ => 0) (List.replicate n 0) :=
  ⟨by simp, fun c hc => by rw [List.getElem?_replicate, if_pos hc]⟩
theorem RowN.put {n : Nat} {g g' : Int → Int} {row : List Int} (h : RowN n g row) {c0 x : Int} (h0 : 0 ≤ c0) (h1 : c0 < n) (hx : g' c0 = x) (e : ∀ c : Nat, c < n → (c : Int) ≠ c0 → g' c = g c) : RowN n g' (setI row c0 x) := by
  refine ⟨by simp [setI, h.1], fun c hc => ?_⟩
  unfold setI
  rw [List.getElem?_set]
  by_cases k : c0.toNat = c
  · rw [if_pos k, if_pos (by have := h.1; omega), ← hx, show (c : Int) = c0 by omega]
  · rw [if_neg k, h.2 c hc, e c hc (by omega)]
theorem RowsN.congr {R n : Nat} {g g' : Int → Int → Int} {xss : List (List Int)} (h : RowsN R n g xss) (e : ∀ j c : Nat, j < R → c < n → g j c = g' j c) : RowsN R n g' xss :=
  ⟨h.1, fun j hj => (h.2 j hj).imp fun row k => ⟨k.1, k.2.congr fun c hc => e j c hj hc⟩⟩
theorem RowsN.put {R n : Nat} {g g' : Int → Int → Int} {xss : List (List Int)} (h : RowsN R n g xss) {j0 : Nat} {row : List Int} (h1 : j0 < R) (hr : RowN n (g' j0) row) (e : ∀ j c : Nat, j < R → c < n → j ≠ j0 → g' j c = g j c) : RowsN R n g' (setI xss (j0 : Int) row) := by
  refine ⟨by simp [setI, h.1], fun j hj => ?_⟩
  unfold setI
  rw [List.getElem?_set, Int.toNat_natCast]
  by_cases k : j0 = j
  · subst k
    exact ⟨row, by rw [if_pos rfl, if_pos (by have := h.1; omega)], hr⟩
  · rw [if_neg k]
    obtain ⟨row', k1, k2⟩ := h.2 j hj
    exact ⟨row', k1, k2.congr fun c hc => (e j c hj hc fun q => k q.symm).symm⟩
end Go.Proofs.Ytmncgnjginibiaa.Abs
