/- Two laws of difference constraints: the checks are as specified; a system that start times satisfy has no cycle of positive weight. -/
import Derived.Test.YtimeninncpmaeaaBfqP
namespace Go.Proofs.Ytimeninncpmaeaa.Abs
namespace R
open Go
set_option linter.unusedVariables false
set_option linter.unusedSimpArgs false

def gd (l : List Int) (v : Nat) : Int := l.getD v 0
theorem gd_some {l : List Int} {v : Nat} (h : v < l.length) : l[v]? = some (gd l v) := by
  unfold gd; rw [List.getD_eq_getElem?_getD, List.getElem?_eq_getElem h]; rfl
theorem at_gd {l : List Int} {i : Int} (h0 : 0 ≤ i) (h1 : i < l.length) : at? l i = some (gd l i.toNat) := by
  unfold at?; rw [decide_eq_true h0, cond_true]; exact gd_some (by omega)
abbrev Ed := Int × Int × Int × Int
def ar (l : List Ed) (x : Int) : Ed := l.getD x.toNat (0, 0, 0, 0)
theorem at_ar {l : List Ed} {i : Int} (h0 : 0 ≤ i) (h1 : i < l.length) : at? l i = some (ar l i) := by
  unfold at? ar; rw [decide_eq_true h0, cond_true, List.getD_eq_getElem?_getD, List.getElem?_eq_getElem (by omega)]; rfl
theorem wrap_n {i : Nat} (h : i ≤ 1000) : IntKind.i64.wrap ((i : Int) + 1) = ((i + 1 : Nat) : Int) := by rw [wrap_i64] <;> omega

theorem limit_eq (x m : Int) (hm : 0 ≤ m) (hm2 : m ≤ 9223372036854775807) : F68 x m = if m < (if -m > x then -m else x) then m else (if -m > x then -m else x) := by
  unfold F68 F68__1
  rw [show IntKind.i64.wrap (0 - m) = -m by rw [wrap_i64] <;> omega]
theorem limit_bd (x m : Int) (hm : 0 ≤ m) (hm2 : m ≤ 9223372036854775807) : -m ≤ F68 x m ∧ F68 x m ≤ m := by
  rw [limit_eq x m hm hm2]; repeat' split <;> omega
def clampI (ii : Int) : Int := if 256 < (if 0 > ii then 0 else ii) then 256 else (if 0 > ii then 0 else ii)
theorem clamp_bd (ii : Int) : 0 ≤ clampI ii ∧ clampI ii ≤ 256 := by unfold clampI; repeat' split <;> omega
theorem weight_bd (a b c d ii : Int) : -269484032 ≤ F59 a b c d ii ∧ F59 a b c d ii ≤ 269484032 := by
  have h1 := limit_bd c 1048576 (by omega) (by omega)
  have h2 := limit_bd d 1048576 (by omega) (by omega)
  have h3 := clamp_bd ii
  have h4 : -268435456 ≤ clampI ii * F68 d 1048576 ∧ clampI ii * F68 d 1048576 ≤ 268435456 := by
    generalize clampI ii = k at *
    generalize F68 d 1048576 = q at *
    have a1 : 0 ≤ k * (1048576 - q) := Int.mul_nonneg h3.1 (by omega)
    have a2 : 0 ≤ k * (1048576 + q) := Int.mul_nonneg h3.1 (by omega)
    rw [Int.mul_sub] at a1
    rw [Int.mul_add] at a2
    omega
  have e : F59 a b c d ii = IntKind.i64.wrap (F68 c 1048576 - IntKind.i64.wrap (clampI ii * F68 d 1048576)) := rfl
  rw [e]
  generalize clampI ii * F68 d 1048576 = z at *
  have e1 : IntKind.i64.wrap z = z := by rw [wrap_i64] <;> omega
  rw [e1]
  have e2 : IntKind.i64.wrap (F68 c 1048576 - z) = F68 c 1048576 - z := by rw [wrap_i64] <;> omega
  rw [e2]
  omega
theorem weight_ref (a b c d ii : Int) : F56 a b c d ii = F59 a b c d ii := by
  have e1 : ∀ x, F56__1 x = F68 x 1048576 := fun x => by rw [limit_eq _ _ (by omega) (by omega)]; rfl
  have e2 : ∀ x, F56__2 x = F68 x 1048576 := fun x => by rw [limit_eq _ _ (by omega) (by omega)]; rfl
  unfold F56 F59 F56__3 F59__1
  rw [e1, e2]
theorem counts_ref (x1 : Int) (y : Ed) : F55 x1 y.1 y.2.1 y.2.2.1 y.2.2.2 = F58 (F57 x1) y.1 y.2.1 y.2.2.1 y.2.2.2 := rfl
def cnt (x1 : Int) (y : Ed) : Bool := F58 (F57 x1) y.1 y.2.1 y.2.2.1 y.2.2.2
theorem cnt_iff {x1 : Int} {y : Ed} : cnt x1 y = true ↔ (0 ≤ y.1 ∧ y.1 < F57 x1) ∧ (0 ≤ y.2.1 ∧ y.2.1 < F57 x1) := by
  unfold cnt F58
  simp only [Bool.cond_eq_ite]
  constructor
  · intro h
    split at h
    · split at h
      · split at h
        · rename_i a b c
          have a := of_decide_eq_true a
          have b := of_decide_eq_true b
          have c := of_decide_eq_true c
          have d := of_decide_eq_true h
          omega
        · cases h
      · cases h
    · cases h
  · rintro ⟨⟨a, b⟩, c, d⟩
    simp [a, b, c, d]
def wt (ii : Int) (y : Ed) : Int := F59 y.1 y.2.1 y.2.2.1 y.2.2.2 ii

/-! Cycles. -/
section
variable (x1 ii : Int) (A : List Ed) (c : List Int)
def GoodC (i : Nat) : Prop := 0 ≤ gd c i ∧ gd c i < A.length ∧ cnt x1 (ar A (gd c i)) = true
def LinkC (i : Nat) : Prop := (ar A (gd c i)).2.1 = (ar A (gd c ((i + 1) % c.length))).1
def DistC (i : Nat) : Prop := ∀ k, k < i → (ar A (gd c k)).1 ≠ (ar A (gd c i)).1
def OkC : Prop := ∀ i, i < c.length → GoodC x1 A c i ∧ LinkC A c i ∧ DistC A c i
def sumC : Nat → Int
  | 0 => 0
  | i + 1 => sumC i + wt ii (ar A (gd c i))
end
theorem sum_bd (ii : Int) (A : List Ed) (c : List Int) : ∀ i : Nat, -269484032 * (i : Int) ≤ sumC ii A c i ∧ sumC ii A c i ≤ 269484032 * (i : Int)
  | 0 => by simp [sumC]
  | i + 1 => by
    have h := sum_bd ii A c i
    have w := weight_bd (ar A (gd c i)).1 (ar A (gd c i)).2.1 (ar A (gd c i)).2.2.1 (ar A (gd c i)).2.2.2 ii
    unfold sumC wt
    omega
/-- What both yield. -/
def PosR (x1 ii : Int) (A : List Ed) (c : List Int) (r : Int × Bool) : Prop := (OkC x1 A c ∧ r = (sumC ii A c c.length, decide (sumC ii A c c.length > 0))) ∨ (¬ OkC x1 A c ∧ r = (0, false))
theorem PosR.eq {x1 ii : Int} {A : List Ed} {c : List Int} {r r' : Int × Bool} (h : PosR x1 ii A c r) (h' : PosR x1 ii A c r') : r = r' := by
  rcases h with ⟨a, rfl⟩ | ⟨a, rfl⟩ <;> rcases h' with ⟨b, rfl⟩ | ⟨b, rfl⟩
  · rfl
  · exact absurd a b
  · exact absurd b a
  · rfl
theorem mget_put (a : Int) (b : Bool) (v : Int) : ∀ xs : List (Int × Bool), (mget v (mput a b xs)).getD false = if v = a then b else (mget v xs).getD false
  | [] => by
    simp only [mput, mget]
    by_cases h : v = a
    · subst h; simp
    · have hva : (v == a) = false := beq_eq_false_iff_ne.2 h
      simp [h, hva]
  | p :: r => by
    have ih := mget_put a b v r
    simp only [mput]
    cases hp : (a == p.1) with
    | true =>
      have hp := beq_iff_eq.1 hp
      simp only [cond_true, mget]
      by_cases h : v = a
      · subst h; simp
      · have hva : (v == a) = false := beq_eq_false_iff_ne.2 h
        have : (v == p.1) = false := by rw [beq_eq_false_iff_ne, ← hp]; exact h
        simp [h, this, hva]
    | false =>
      have hp := beq_eq_false_iff_ne.1 hp
      simp only [cond_false, mget]
      cases hv : (v == p.1) with
      | true =>
        have hv := beq_iff_eq.1 hv
        have : v ≠ a := fun e => hp (e ▸ hv)
        simp [this]
      | false => simp only [cond_false]; exact ih
theorem nx_eq {i m : Nat} (hm : m ≤ 1000) (hi : i < m) : (IntKind.i64.wrap ((i : Int) + 1)).tmod (m : Int) = (((i + 1) % m : Nat) : Int) := by
  rw [wrap_n (by omega), Int.tmod_eq_emod_of_nonneg (by omega)]
  omega
/-! Start times. -/
def tm (l : List Int) (v : Int) : Int := if (l.length : Int) ≤ v then 0 else F68 (gd l v.toNat) 1099511627776
theorem tm_bd (l : List Int) (v : Int) : -1099511627776 ≤ tm l v ∧ tm l v ≤ 1099511627776 := by
  unfold tm
  have := limit_bd (gd l v.toNat) 1099511627776 (by omega) (by omega)
  split <;> omega
/-- Whether an arc is not satisfied. -/
def bad (x1 ii : Int) (l : List Int) (y : Ed) : Bool := cnt x1 y && decide (tm l y.2.1 - tm l y.1 < wt ii y)
def VioR (x1 ii : Int) (A : List Ed) (l : List Int) (r : Int) : Prop := (∃ i : Nat, r = (i : Int) ∧ i < A.length ∧ bad x1 ii l (ar A (i : Int)) = true ∧ ∀ k : Nat, k < i → bad x1 ii l (ar A (k : Int)) = false) ∨ (r = -1 ∧ ∀ k : Nat, k < A.length → bad x1 ii l (ar A (k : Int)) = false)
theorem VioR.eq {x1 ii : Int} {A : List Ed} {l : List Int} {r r' : Int} (h : VioR x1 ii A l r) (h' : VioR x1 ii A l r') : r = r' := by
  rcases h with ⟨i, rfl, a1, a2, a3⟩ | ⟨rfl, a⟩ <;> rcases h' with ⟨j, rfl, b1, b2, b3⟩ | ⟨rfl, b⟩
  · rcases Nat.lt_trichotomy i j with q | q | q
    · have := b3 i q; rw [a2] at this; cases this
    · rw [q]
    · have := a3 j q; rw [b2] at this; cases this
  · have := b i a1; rw [a2] at this; cases this
  · have := a j b1; rw [b2] at this; cases this
  · rfl
theorem violated_any (x1 ii : Int) (A : List Ed) (l : List Int) (hA : A.length ≤ 60) (step : Int → Option (Int ⊕ (Nat × Int)))
    (h1 : ∀ i : Nat, i < A.length → step (i : Int) = some (bif bad x1 ii l (ar A (i : Int)) then .inr (0, (i : Int)) else .inl (((i + 1 : Nat)) : Int))) (h2 : step (A.length : Int) = some (.inr (1, 0))) :
    Yields (VioR x1 ii A l) ((loopO step 0).bind fun y => bif Nat.beq y.1 0 then some y.2 else some (-1)) := by
  refine Yields.bind (P := fun r : Nat × Int => (∃ i : Nat, r = (0, (i : Int)) ∧ i < A.length ∧ bad x1 ii l (ar A (i : Int)) = true ∧ ∀ k : Nat, k < i → bad x1 ii l (ar A (k : Int)) = false) ∨ (r = (1, 0) ∧ ∀ k : Nat, k < A.length → bad x1 ii l (ar A (k : Int)) = false)) (Yields.loop A.length (fun (i : Nat) z => z = (i : Int) ∧ ∀ k : Nat, k < i → bad x1 ii l (ar A (k : Int)) = false) ⟨rfl, fun k h => absurd h (by omega)⟩ ?_) ?_
  · rintro i z hi ⟨rfl, h3⟩
    by_cases h : i < A.length
    · rw [h1 i h]
      cases hb : bad x1 ii l (ar A (i : Int)) with
      | true => exact Yields.some (.inl ⟨i, rfl, h, hb, h3⟩)
      | false =>
        refine Yields.some ⟨h, rfl, ?_⟩
        intro k hk
        by_cases e : k = i
        · subst e; exact hb
        · exact h3 k (by omega)
    · have : i = A.length := by omega
      subst this
      rw [h2]
      exact Yields.some (.inr ⟨rfl, h3⟩)
  · rintro r (⟨i, rfl, a⟩ | ⟨rfl, a⟩)
    · exact Yields.some (.inl ⟨i, rfl, a⟩)
    · exact Yields.some (.inr ⟨rfl, a⟩)
end R
end Go.Proofs.Ytimeninncpmaeaa.Abs
