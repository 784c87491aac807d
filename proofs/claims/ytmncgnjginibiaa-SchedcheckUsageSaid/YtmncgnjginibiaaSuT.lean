/- Times, slacks and late arcs; what the law asks of its arguments. -/
import Derived.Test.YtmncgnjginibiaaSuF
namespace Go.Proofs.Ytmncgnjginibiaa.Abs
open Go
set_option linter.unusedVariables false
set_option linter.unusedSimpArgs false
set_option maxHeartbeats 1000000
/-- The numbers below n that have p. -/
def idxs (p : Nat → Bool) (n : Nat) : List Int := ((List.range n).filter p).map fun k : Nat => (k : Int)
theorem idxs_succ (p : Nat → Bool) (n : Nat) : idxs p (n + 1) = bif p n then idxs p n ++ [(n : Int)] else idxs p n := by
  unfold idxs
  rw [List.range_succ, List.filter_append, List.map_append]
  cases h : p n <;> simp [h]
theorem idxs_len (p : Nat → Bool) (n : Nat) : (idxs p n).length ≤ n := by
  unfold idxs
  rw [List.length_map]
  exact Nat.le_trans (List.length_filter_le _ _) (by simp)
theorem idxs_congr {p q : Nat → Bool} {n : Nat} (h : ∀ i, i < n → p i = q i) : idxs p n = idxs q n := by
  unfold idxs
  congr 1
  exact List.filter_congr fun i hi => h i (List.mem_range.1 hi)
theorem okg {n B : Nat} (h : n ≤ 100000) (hB : B ≤ 1000) : (!(okApp n B)) = false := by
  rw [ok_app (Nat.le_trans (Nat.mul_le_mul h hB) (by omega)) (by omega)]; rfl
section
variable (x1 x2 : Int) (x3 : Bool) (l4 l5 : List Quad) (l6 : List (Int × Int)) (x7 x8 : Int) (l9 l10 l11 : List Int)
/-- The start of a node. -/
def tm (v : Int) : Int := if v < x1 then (l9[v.toNat]?).getD 0 else if v < x1 + x2 then (l10[(v - x1).toNat]?).getD 0 else if v = x1 + x2 then 0 else x8
theorem tm_bd (hh : HeadOK x1 x2 l6) (hf : FitOK x1 x2 x3 l5 l6 x7 x8 l9 l10 l11) {v : Int} (v0 : 0 ≤ v) : 0 ≤ tm x1 x2 x8 l9 l10 v ∧ tm x1 x2 x8 l9 l10 v ≤ 4096 := by
  obtain ⟨h1, h2, h3, h4, _⟩ := hh
  obtain ⟨f1, _, f2, _, _, _, f3, f4, f5, f6, _⟩ := hf
  unfold tm
  by_cases a : v < x1
  · rw [if_pos a]
    obtain ⟨y, hy⟩ := some_nat (l := l9) (i := v.toNat) (by omega)
    rw [hy]; exact f5 y (List.mem_of_getElem? hy)
  · rw [if_neg a]
    by_cases b : v < x1 + x2
    · rw [if_pos b]
      obtain ⟨y, hy⟩ := some_nat (l := l10) (i := (v - x1).toNat) (by omega)
      rw [hy]; exact f6 y (List.mem_of_getElem? hy)
    · rw [if_neg b]
      split <;> omega
theorem start_eq (hh : HeadOK x1 x2 l6) (hf : FitOK x1 x2 x3 l5 l6 x7 x8 l9 l10 l11) {v : Int} (v0 : 0 ≤ v) (v1 : v ≤ 100000) : F89 x1 x2 x3 l4 l5 l6 x7 x8 l9 l10 l11 v = some (tm x1 x2 x8 l9 l10 v) := by
  obtain ⟨h1, h2, h3, h4, _⟩ := hh
  obtain ⟨f1, _, f2, _, _, _, f3, f4, f5, f6, _⟩ := hf
  have eS : F103 x1 x2 x3 l4 l5 l6 = x1 + x2 := by unfold F103; exact wr (by omega) (by omega)
  unfold F89 tm
  rw [eS]
  by_cases a : v < x1
  · rw [decide_eq_true a, cond_true, if_pos a]
    obtain ⟨y, hy⟩ := some_nat (l := l9) (i := v.toNat) (by omega)
    rw [atI v0 hy, hy]; rfl
  · rw [decide_eq_false a, cond_false, if_neg a]
    by_cases b : v < x1 + x2
    · rw [decide_eq_true b, cond_true, if_pos b, wr (x := v - x1) (by omega) (by omega)]
      obtain ⟨y, hy⟩ := some_nat (l := l10) (i := (v - x1).toNat) (by omega)
      rw [atI (by omega) hy, hy]; rfl
    · rw [decide_eq_false b, cond_false, if_neg b]
      by_cases c : v = x1 + x2
      · rw [if_pos c, show (v == x1 + x2) = true from beq_iff_eq.2 c]; rfl
      · rw [if_neg c, show (v == x1 + x2) = false from beq_eq_false_iff_ne.2 c]; rfl
/-- By how much an arc's head could start earlier. -/
def slk (a : Quad) : Int := tm x1 x2 x8 l9 l10 a.2.1 - tm x1 x2 x8 l9 l10 a.1 - (a.2.2.1 - x7 * a.2.2.2)
theorem mul_bd {a b : Int} (a0 : 0 ≤ a) (a1 : a ≤ 256) (b0 : 0 ≤ b) (b1 : b ≤ 256) : 0 ≤ a * b ∧ a * b ≤ 65536 :=
  ⟨Int.mul_nonneg a0 b0, Int.le_trans (Int.mul_le_mul a1 b1 b0 (by omega)) (by omega)⟩
theorem slack_any (k4 : l4.length ≤ 1000) (k5 : l5.length ≤ 1000) (k6 : l6.length ≤ 1000) (k9 : l9.length ≤ 1000) (k10 : l10.length ≤ 1000) :
    Yields (fun r => (ValidOK x1 x2 x3 l4 l5 l6 ∧ FitOK x1 x2 x3 l5 l6 x7 x8 l9 l10 l11 → r = l4.map (slk x1 x2 x7 x8 l9 l10)) ∧ (¬ (ValidOK x1 x2 x3 l4 l5 l6 ∧ FitOK x1 x2 x3 l5 l6 x7 x8 l9 l10 l11) → r = [])) (F72 x1 x2 x3 l4 l5 l6 x7 x8 l9 l10 l11) := by
  unfold F72
  refine Yields.bind (fits_prog x1 x2 x3 l4 l5 l6 x7 x8 l9 l10 l11 k4 k5 k6 k9 k10) fun r hr => Yields.bif (fun q => Yields.some ⟨fun h => ?_, fun _ => rfl⟩) fun q => ?_
  · rw [hr.2 h] at q; cases q
  obtain ⟨hv, hf⟩ := hr.1 (by simpa using q)
  have f7 := hf.2.2.2.1; have f8 := hf.2.2.2.2.1
  refine Yields.bind (P := fun L : List Int => L = l4.map (slk x1 x2 x7 x8 l9 l10)) (Yields.loop l4.length (fun (i : Nat) z => z.1 = (i : Int) ∧ z.2 = (l4.take i).map (slk x1 x2 x7 x8 l9 l10)) ⟨rfl, rfl⟩ ?_) fun L hL => Yields.some ⟨fun _ => hL, fun h => absurd ⟨hv, hf⟩ h⟩
  rintro i ⟨m, L⟩ hi ⟨h1, h2⟩
  simp only at h1 h2
  subst h1 h2
  unfold F72_s1
  simp only
  refine Yields.bif (fun hc => ?_) fun hc => Yields.some ?_
  · have hc := of_decide_eq_true hc
    obtain ⟨a, ha⟩ := some_nat (l := l4) (i := i) (by omega)
    obtain ⟨a1, a2, a3, a4, a5, a6, a7, a8, a9⟩ := hv.2.1 a (List.mem_of_getElem? ha)
    have hd := hv.1
    have nx : IntKind.i64.wrap ((i : Int) + 1) = ((i + 1 : Nat) : Int) := wr1 (n := l4.length) (by omega) (by omega)
    have b1 := tm_bd x1 x2 x3 l5 l6 x7 x8 l9 l10 l11 hv.1 hf a1
    have b3 := tm_bd x1 x2 x3 l5 l6 x7 x8 l9 l10 l11 hv.1 hf a3
    have mb := mul_bd f7 f8 a7 a8
    have H1 := hd.2.1; have H2 := hd.2.2.2.1
    refine Yields.bindE (atn ha) (Yields.bindE (start_eq x1 x2 x3 l4 l5 l6 x7 x8 l9 l10 l11 hv.1 hf a3 (by omega)) (Yields.bindE (start_eq x1 x2 x3 l4 l5 l6 x7 x8 l9 l10 l11 hv.1 hf a1 (by omega)) ?_))
    rw [okg (by simp only [List.length_map, List.length_take, List.length_singleton]; omega) (by omega), cond_false]
    refine Yields.some ⟨by omega, nx, ?_⟩
    have e : F72__1 x7 a (tm x1 x2 x8 l9 l10 a.2.1) (tm x1 x2 x8 l9 l10 a.1) = slk x1 x2 x7 x8 l9 l10 a := by
      unfold F72__1 slk
      rw [wr (x := x7 * a.2.2.2) (by omega) (by omega), wr (x := a.2.2.1 - x7 * a.2.2.2) (by omega) (by omega), wr (x := tm x1 x2 x8 l9 l10 a.2.1 - tm x1 x2 x8 l9 l10 a.1) (by omega) (by omega), wr (by omega) (by omega)]
    have tk : l4.take (i + 1) = l4.take i ++ [a] := by rw [List.take_add_one, ha]; rfl
    show _ = (l4.take (i + 1)).map _
    rw [tk, List.map_append, e]; rfl
  · have hc := of_decide_eq_false hc
    rw [List.take_of_length_le (by omega)]
    exact rfl
/-- The arcs that are late. -/
def lateL : List Int := idxs (fun i => decide ((((l4.map (slk x1 x2 x7 x8 l9 l10))[i]?).getD 0) < 0)) l4.length
theorem late_any (k4 : l4.length ≤ 1000) (k5 : l5.length ≤ 1000) (k6 : l6.length ≤ 1000) (k9 : l9.length ≤ 1000) (k10 : l10.length ≤ 1000) :
    Yields (fun r => (ValidOK x1 x2 x3 l4 l5 l6 ∧ FitOK x1 x2 x3 l5 l6 x7 x8 l9 l10 l11 → r = lateL x1 x2 l4 x7 x8 l9 l10) ∧ (¬ (ValidOK x1 x2 x3 l4 l5 l6 ∧ FitOK x1 x2 x3 l5 l6 x7 x8 l9 l10 l11) → r = [])) (F41 x1 x2 x3 l4 l5 l6 x7 x8 l9 l10 l11) := by
  unfold F41
  refine Yields.bind (slack_any x1 x2 x3 l4 l5 l6 x7 x8 l9 l10 l11 k4 k5 k6 k9 k10) fun S hS => ?_
  have hs : S.length ≤ 1000 := by
    by_cases h : ValidOK x1 x2 x3 l4 l5 l6 ∧ FitOK x1 x2 x3 l5 l6 x7 x8 l9 l10 l11
    · rw [hS.1 h, List.length_map]; exact k4
    · rw [hS.2 h]; exact Nat.zero_le _
  refine Yields.bind (P := fun L : List Int => L = idxs (fun i => decide (((S[i]?).getD 0) < 0)) S.length) (Yields.loop S.length (fun (i : Nat) z => z.1 = (i : Int) ∧ z.2 = idxs (fun i => decide (((S[i]?).getD 0) < 0)) i) ⟨rfl, rfl⟩ ?_) fun L hL => Yields.some ?_
  · rintro i ⟨m, L⟩ hi ⟨h1, h2⟩
    simp only at h1 h2
    subst h1 h2
    unfold F41_s1
    simp only
    refine Yields.bif (fun hc => ?_) fun hc => Yields.some ?_
    · have hc := of_decide_eq_true hc
      obtain ⟨a, ha⟩ := some_nat (l := S) (i := i) (by omega)
      have nx : IntKind.i64.wrap ((i : Int) + 1) = ((i + 1 : Nat) : Int) := wr1 (n := S.length) (by omega) (by omega)
      have il := idxs_len (fun i => decide (((S[i]?).getD 0) < 0)) i
      refine Yields.bindE (atn ha) (Yields.bif (fun q => ?_) fun q => Yields.some ⟨by omega, nx, ?_⟩)
      · rw [okg (by simp only [List.length_singleton]; omega) (by omega), cond_false]
        refine Yields.some ⟨by omega, nx, ?_⟩
        rw [idxs_succ, ha, Option.getD_some, q, cond_true]
      · rw [idxs_succ, ha, Option.getD_some, q, cond_false]
    · have hc := of_decide_eq_false hc
      have : i = S.length := by omega
      rw [this]
      exact rfl
  · constructor
    · intro h
      have hS1 := hS.1 h
      subst hS1
      rw [hL, List.length_map]; rfl
    · intro h
      rw [hL, hS.2 h]; rfl
theorem few_any (k4 : l4.length ≤ maxLen) (k6 : l6.length ≤ maxLen) : Yields (fun r => r = true → x1 ≤ 20 ∧ x2 ≤ 8 ∧ l4.length ≤ 90 ∧ l5.length ≤ 6 ∧ l6.length ≤ 30 ∧ l9.length ≤ 30 ∧ l10.length ≤ 30 ∧ l11.length ≤ 30) (F10 x1 x2 x3 l4 l5 l6 x7 x8 l9 l10 l11) := by
  have small : Yields (fun r => r = true → x1 ≤ 20 ∧ x2 ≤ 8 ∧ l4.length ≤ 90 ∧ l5.length ≤ 6) (F35 x1 x2 x3 l4 l5 l6 20 8) := by
    unfold F35
    refine Yields.bind (P := fun _ => True) (Yields.loop l4.length (fun (i : Nat) z => z = (i : Int)) rfl ?_) fun t _ => Yields.bif (fun _ => Yields.some fun h => by cases h) fun _ => ?_
    · rintro i z hi rfl
      unfold F35_s1
      refine Yields.bif (fun hc => ?_) fun _ => Yields.some trivial
      have hc := of_decide_eq_true hc
      exact Yields.at (by omega) hc fun _ _ _ => Yields.bif (fun _ => Yields.some trivial) fun _ => Yields.bif (fun _ => Yields.some trivial) fun _ => Yields.some ⟨by omega, wrap_succ (by omega) k4⟩
    refine Yields.bind (P := fun _ => True) (Yields.loop l6.length (fun (i : Nat) z => z = (i : Int)) rfl ?_) fun t _ => Yields.bif (fun _ => Yields.some fun h => by cases h) fun _ => ?_
    · rintro i z hi rfl
      unfold F35_s2
      refine Yields.bif (fun hc => ?_) fun _ => Yields.some trivial
      have hc := of_decide_eq_true hc
      exact Yields.at (by omega) hc fun _ _ _ => Yields.bif (fun _ => Yields.some trivial) fun _ => Yields.some ⟨by omega, wrap_succ (by omega) k6⟩
    refine Yields.bif (fun a => Yields.bif (fun b => Yields.bif (fun h => Yields.some fun k => ?_) fun _ => Yields.some fun h => by cases h) fun _ => Yields.some fun h => by cases h) fun _ => Yields.some fun h => by cases h
    have h := of_decide_eq_true h
    have k := of_decide_eq_true k
    have a := of_decide_eq_true a
    have b := of_decide_eq_true b
    omega
  unfold F10
  refine Yields.bind small fun r hr => Yields.bif (fun q => Yields.bif (fun a => Yields.bif (fun b => Yields.bif (fun c => Yields.some fun d => ?_) fun _ => Yields.some fun h => by cases h) fun _ => Yields.some fun h => by cases h) fun _ => Yields.some fun h => by cases h) fun _ => Yields.some fun h => by cases h
  have := hr q
  have a := of_decide_eq_true a
  have b := of_decide_eq_true b
  have c := of_decide_eq_true c
  have d := of_decide_eq_true d
  omega
theorem fit_ref (k4 : l4.length ≤ 1000) (k5 : l5.length ≤ 1000) (k6 : l6.length ≤ 1000) (k9 : l9.length ≤ 1000) (k10 : l10.length ≤ 1000) : Yields (fun r => r = true ↔ ValidOK x1 x2 x3 l4 l5 l6 ∧ FitOK x1 x2 x3 l5 l6 x7 x8 l9 l10 l11) (F12 x1 x2 x3 l4 l5 l6 x7 x8 l9 l10 l11) := by
  unfold F12
  refine Yields.bind (valid_ref x1 x2 x3 l4 l5 l6 (by omega) (by omega) (by omega)) fun r hr => Yields.bif (fun q => ?_) fun q => Yields.some ⟨fun e => (by cases e), fun h => by rw [hr.2 h.1] at q; cases q⟩
  have hv := hr.1 q
  refine Yields.bind (fits_ref x1 x2 x3 l4 l5 l6 x7 x8 l9 l10 l11 hv (by omega) (by omega) (by omega)) fun r' hr' => Yields.some ⟨fun e => ⟨hv, hr'.1 e⟩, fun h => hr'.2 h.2⟩
end
end Go.Proofs.Ytmncgnjginibiaa.Abs
