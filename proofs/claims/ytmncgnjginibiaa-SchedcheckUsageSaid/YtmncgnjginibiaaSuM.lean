/- Parts of the time that have a cycle in common; the lists of clashes. -/
import Derived.Test.YtmncgnjginibiaaSuT
namespace Go.Proofs.Ytmncgnjginibiaa.Abs
open Go
set_option linter.unusedVariables false
set_option linter.unusedSimpArgs false
set_option maxHeartbeats 1000000
theorem emod_one {a n r q : Int} (h0 : 0 ≤ r) (h1 : r < n) (h : a = r + n * q) : a % n = r := by
  rw [h, Int.add_mul_emod_self_left, Int.emod_eq_of_lt h0 h1]
theorem tmod_fix {a n : Int} (hn : 0 < n) : (if a.tmod n < 0 then a.tmod n + n else a.tmod n) = a % n := by
  rcases Int.lt_or_le a 0 with h | h
  · have e : a.tmod n = -((-a) % n) := by
      rw [← Int.tmod_eq_emod_of_nonneg (show 0 ≤ -a by omega), Int.neg_tmod]; omega
    have d := Int.mul_ediv_add_emod (-a) n
    have m0 := Int.emod_nonneg (-a) (show n ≠ 0 by omega)
    have m1 := Int.emod_lt_of_pos (-a) hn
    rw [e]
    generalize (-a) % n = m at *
    generalize (-a) / n = k at *
    split
    · refine (emod_one (q := -k - 1) (by omega) (by omega) ?_).symm
      have : n * (-k - 1) = -(n * k) - n := by rw [Int.mul_sub, Int.mul_neg, Int.mul_one]
      omega
    · refine (emod_one (q := -k) (by omega) (by omega) ?_).symm
      have : n * (-k) = -(n * k) := Int.mul_neg ..
      omega
  · rw [Int.tmod_eq_emod_of_nonneg h]
    have := Int.emod_nonneg a (show n ≠ 0 by omega)
    rw [if_neg (by omega)]
/-- Whether an instruction occupies its unit in a cycle. -/
def Occ (x7 s busy c : Int) : Prop := if 0 < x7 then (c - s) % x7 < busy else s ≤ c ∧ c < s + busy
section
variable (x1 x2 : Int) (x3 : Bool) (l4 l5 : List Quad) (l6 : List (Int × Int)) (x7 x8 : Int) (l9 l10 l11 : List Int)
def Ov (x7 s m t n : Int) : Prop := ∃ c, (0 < x7 → 0 ≤ c ∧ c < x7) ∧ Occ x7 s m c ∧ Occ x7 t n c
def Cl (i j : Nat) : Prop := ∃ yi yj u si sj, l6[i]? = some yi ∧ l6[j]? = some yj ∧ l11[i]? = some u ∧ l11[j]? = some u ∧ l9[i]? = some si ∧ l9[j]? = some sj ∧ 0 ≤ yi.1 ∧ yi.1 = yj.1 ∧ ((i = j ∧ 0 < x7 ∧ x7 < yi.2) ∨ (i ≠ j ∧ Ov x7 si yi.2 sj yj.2))
theorem need_bd (hN : ∀ y ∈ l6, NeedOK l5 y) : ∀ y ∈ l6, 0 ≤ y.2 ∧ y.2 ≤ 256 := fun y hy => by
  rcases hN y hy with h | h <;> omega
theorem cl_iff {i j : Nat} {yi yj : Int × Int} {ui uj si sj : Int} (hyi : l6[i]? = some yi) (hyj : l6[j]? = some yj) (hui : l11[i]? = some ui) (huj : l11[j]? = some uj) (hsi : l9[i]? = some si) (hsj : l9[j]? = some sj) :
    Cl l6 x7 l9 l11 i j ↔ ui = uj ∧ 0 ≤ yi.1 ∧ yi.1 = yj.1 ∧ ((i = j ∧ 0 < x7 ∧ x7 < yi.2) ∨ (i ≠ j ∧ Ov x7 si yi.2 sj yj.2)) := by
  constructor
  · rintro ⟨yi', yj', u, si', sj', q1, q2, q3, q4, q5, q6, q7, q8, q9⟩
    rw [hyi] at q1; cases q1; rw [hyj] at q2; cases q2; rw [hsi] at q5; cases q5; rw [hsj] at q6; cases q6
    rw [hui] at q3; cases q3; rw [huj] at q4; cases q4
    exact ⟨rfl, q7, q8, q9⟩
  · rintro ⟨rfl, q7, q8, q9⟩
    exact ⟨yi, yj, ui, si, sj, hyi, hyj, hui, huj, hsi, hsj, q7, q8, q9⟩
end
theorem emod_sub_l (a b n : Int) : (a % n - b) % n = (a - b) % n := by
  rw [Int.sub_emod, Int.emod_emod, ← Int.sub_emod]
theorem ov_mod {x7 s m t n : Int} (z : 0 < x7) (hm : 1 ≤ m) (hn : 1 ≤ n) : ((t - s) % x7 < m ∨ x7 - (t - s) % x7 < n) ↔ Ov x7 s m t n := by
  have d0 := Int.emod_nonneg (t - s) (show x7 ≠ 0 by omega)
  have d1 := Int.emod_lt_of_pos (t - s) z
  have dd := Int.mul_ediv_add_emod (t - s) x7
  constructor
  · rintro (h | h)
    · refine ⟨t % x7, fun _ => ⟨Int.emod_nonneg _ (by omega), Int.emod_lt_of_pos _ z⟩, ?_, ?_⟩
      · unfold Occ; rw [if_pos z, emod_sub_l]; exact h
      · unfold Occ; rw [if_pos z, emod_sub_l, Int.sub_self, Int.zero_emod]; omega
    · refine ⟨s % x7, fun _ => ⟨Int.emod_nonneg _ (by omega), Int.emod_lt_of_pos _ z⟩, ?_, ?_⟩
      · unfold Occ; rw [if_pos z, emod_sub_l, Int.sub_self, Int.zero_emod]; omega
      · unfold Occ; rw [if_pos z, emod_sub_l]
        generalize (t - s) % x7 = d at *
        generalize (t - s) / x7 = k at *
        by_cases e : d = 0
        · have : (s - t) % x7 = 0 := emod_one (q := -k) (by omega) (by omega) (by rw [Int.mul_neg]; omega)
          omega
        · have : (s - t) % x7 = x7 - d := emod_one (q := -k - 1) (by omega) (by omega) (by rw [Int.mul_sub, Int.mul_neg, Int.mul_one]; omega)
          omega
  · rintro ⟨c, _, h1, h2⟩
    unfold Occ at h1 h2
    rw [if_pos z] at h1 h2
    have p0 := Int.emod_nonneg (c - s) (show x7 ≠ 0 by omega)
    have p1 := Int.emod_lt_of_pos (c - s) z
    have pp := Int.mul_ediv_add_emod (c - s) x7
    have q0 := Int.emod_nonneg (c - t) (show x7 ≠ 0 by omega)
    have q1 := Int.emod_lt_of_pos (c - t) z
    have qq := Int.mul_ediv_add_emod (c - t) x7
    generalize (c - s) % x7 = p at *
    generalize (c - t) % x7 = q at *
    generalize (c - s) / x7 = a at *
    generalize (c - t) / x7 = b at *
    by_cases e : q ≤ p
    · have : (t - s) % x7 = p - q := emod_one (q := a - b) (by omega) (by omega) (by rw [Int.mul_sub]; omega)
      exact .inl (by omega)
    · have : (t - s) % x7 = p - q + x7 := emod_one (q := a - b - 1) (by omega) (by omega) (by rw [Int.mul_sub, Int.mul_sub, Int.mul_one]; omega)
      exact .inr (by omega)
theorem overlap_iff {x7 s m t n : Int} (h7 : 0 ≤ x7 ∧ x7 ≤ 256) (s0 : 0 ≤ s ∧ s ≤ 4096) (t0 : 0 ≤ t ∧ t ≤ 4096) (m0 : 1 ≤ m ∧ m ≤ 256) (n0 : 1 ≤ n ∧ n ≤ 256) : F73 x7 s m t n = true ↔ Ov x7 s m t n := by
  unfold F73
  by_cases e : x7 = 0
  · subst e
    rw [show ((0 : Int) == 0) = true from rfl, cond_true, wr (x := t + n) (by omega) (by omega), wr (x := s + m) (by omega) (by omega)]
    have : (bif decide (s < t + n) then decide (t < s + m) else false) = true ↔ s < t + n ∧ t < s + m := by
      cases h : decide (s < t + n)
      · have := of_decide_eq_false h
        exact ⟨fun e => (by cases e), fun e => by omega⟩
      · have := of_decide_eq_true h
        simp only [cond_true, decide_eq_true_iff]; omega
    rw [this]
    constructor
    · rintro ⟨h1, h2⟩
      refine ⟨if s < t then t else s, fun h => by omega, ?_, ?_⟩
      · unfold Occ; rw [if_neg (by omega)]; split <;> omega
      · unfold Occ; rw [if_neg (by omega)]; split <;> omega
    · rintro ⟨c, _, h1, h2⟩
      unfold Occ at h1 h2
      rw [if_neg (by omega)] at h1 h2
      omega
  · have z : 0 < x7 := by omega
    have fx := tmod_fix (a := t - s) z
    have d0 := Int.emod_nonneg (t - s) (show x7 ≠ 0 by omega)
    have d1 := Int.emod_lt_of_pos (t - s) z
    rw [show (x7 == 0) = false from beq_eq_false_iff_ne.2 e, cond_false, wr (x := t - s) (by omega) (by omega), ← ov_mod z m0.1 n0.1]
    have both : ∀ d : Int, d = (t - s) % x7 → ((bif decide (d < m) then true else decide (x7 - d < n)) = true ↔ ((t - s) % x7 < m ∨ x7 - (t - s) % x7 < n)) := by
      rintro d rfl
      cases h : decide ((t - s) % x7 < m)
      · have := of_decide_eq_false h
        rw [cond_false, decide_eq_true_iff]
        exact ⟨.inr, fun h => h.resolve_left this⟩
      · exact ⟨fun _ => .inl (of_decide_eq_true h), fun _ => rfl⟩
    cases hr : decide ((t - s).tmod x7 < 0)
    · have hr' := of_decide_eq_false hr
      rw [if_neg hr'] at fx
      rw [cond_false, wr (x := x7 - (t - s).tmod x7) (by omega) (by omega)]
      exact both _ fx
    · have hr' := of_decide_eq_true hr
      rw [if_pos hr'] at fx
      rw [cond_true]
      unfold F73__1
      rw [wr (x := t - s) (by omega) (by omega), wr (x := (t - s).tmod x7 + x7) (by omega) (by omega), wr (x := x7 - ((t - s).tmod x7 + x7)) (by omega) (by omega)]
      exact both _ fx
end Go.Proofs.Ytmncgnjginibiaa.Abs
