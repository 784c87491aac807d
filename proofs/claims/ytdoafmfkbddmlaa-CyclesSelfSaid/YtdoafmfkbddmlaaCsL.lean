/- The law of blocks that lead to themselves, on lists. -/
import Derived.Test.YtdoafmfkbddmlaaVw
import Derived.Test.YtdoafmfkbddmlaaCs
namespace Go.Proofs.Ytdoafmfkbddmlaa.Abs
open Go
set_option linter.unusedVariables false
set_option linter.unusedSimpArgs false

section
variable (e : List (Int × List Int)) (x : Int)
def hit (i : Nat) : Bool := match e[i]? with | some y => y.1 == x | none => false
def cnt : Nat → Nat
  | 0 => 0
  | i + 1 => if hit e x i then cnt i + 1 else cnt i
def lasth : Nat → Int
  | 0 => -1
  | i + 1 => if hit e x i then (i : Int) else lasth i
theorem cnt_le (i : Nat) : cnt e x i ≤ i := by
  induction i with
  | zero => simp [cnt]
  | succ i ih => unfold cnt; split <;> omega
theorem cnt_mono {i j : Nat} (h : i ≤ j) : cnt e x i ≤ cnt e x j := by
  induction j with
  | zero => have : i = 0 := by omega
            subst this; exact Nat.le_refl _
  | succ j ih =>
    rcases Nat.lt_or_ge i (j + 1) with h1 | h1
    · have := ih (by omega); simp only [cnt]; split <;> omega
    · have : i = j + 1 := by omega
      subst this; exact Nat.le_refl _
theorem lasth_zero {i : Nat} (h : cnt e x i = 0) : lasth e x i = -1 := by
  induction i with
  | zero => rfl
  | succ i ih =>
    unfold cnt at h; unfold lasth
    split at h
    · omega
    · rename_i hh; rw [if_neg hh]; exact ih h
theorem lasth_pos {i : Nat} (h : 1 ≤ cnt e x i) : 0 ≤ lasth e x i := by
  induction i with
  | zero => simp [cnt] at h
  | succ i ih =>
    unfold cnt at h; unfold lasth
    split at h
    · rename_i hh; rw [if_pos hh]; omega
    · rename_i hh; rw [if_neg hh]; exact ih h
end

theorem F21_loop (x : Int) (y : (List Int) × (List (Int × Int × (List Int) × Int × Int)) × Int × Int × (List (Int × (List Int))) × (List Int) × Int × Int × Int) (hn : y.2.2.2.2.1.length ≤ maxLen) :
    loopO (fun (s : Int × Int) => F21_s1 x y s.1 s.2) (-1, 0) = some (if 2 ≤ cnt y.2.2.2.2.1 x y.2.2.2.2.1.length then (0, 0) else (1, lasth y.2.2.2.2.1 x y.2.2.2.2.1.length)) := by
  generalize he : y.2.2.2.2.1 = e at *
  obtain ⟨t, ht, hR⟩ := loopO_ind (step := fun (s : Int × Int) => F21_s1 x y s.1 s.2) (fun s => ∃ i : Nat, i ≤ e.length ∧ s = (lasth e x i, (i : Int)) ∧ cnt e x i ≤ 1) (fun s => e.length - s.2.toNat)
    (fun t => t = if 2 ≤ cnt e x e.length then (0, 0) else (1, lasth e x e.length)) (s := (-1, 0)) (by
    rintro s ⟨i, hi, rfl, hc⟩
    simp only [F21_s1, he]
    rcases Nat.lt_or_ge i e.length with hlt | hge
    · have h : e[i]? = some e[i] := List.getElem?_eq_getElem hlt
      have hd : decide ((i : Int) < (e.length : Int)) = true := by simpa using hlt
      have hh : hit e x i = (e[i].1 == x) := by simp [hit, h]
      rw [hd, at?_nat, h]
      simp only [cond_true, Option.bind_some]
      cases hq : (e[i].1 == x) with
      | false =>
        have : (e[i].1 != x) = true := by simp [bne, hq]
        rw [this]
        refine .inl ⟨_, rfl, ⟨i + 1, hlt, ?_, ?_⟩, ?_⟩
        · rw [wrap_succ hlt hn]; simp [lasth, hh, hq]
        · simp [cnt, hh, hq, hc]
        · rw [wrap_succ hlt hn]; simp only [Int.toNat_natCast]; omega
      | true =>
        have : (e[i].1 != x) = false := by simp [bne, hq]
        rw [this]
        simp only [cond_false]
        rcases Nat.lt_or_ge (cnt e x i) 1 with h0 | h1
        · have hz := lasth_zero e x (i := i) (by omega)
          rw [hz]
          refine .inl ⟨_, rfl, ⟨i + 1, hlt, ?_, ?_⟩, ?_⟩
          · rw [wrap_succ hlt hn]; simp [lasth, hh, hq]
          · simp [cnt, hh, hq]; omega
          · rw [wrap_succ hlt hn]; simp only [Int.toNat_natCast]; omega
        · have hz := lasth_pos e x h1
          rw [show decide (lasth e x i ≥ 0) = true by simpa using hz]
          refine .inr ⟨_, rfl, ?_⟩
          rw [if_pos]
          have := cnt_mono e x (show i + 1 ≤ e.length from hlt)
          simp [cnt, hh, hq] at this
          omega
    · have : i = e.length := by omega
      subst this
      rw [show decide (((e.length : Nat) : Int) < (e.length : Int)) = false by simp]
      refine .inr ⟨_, rfl, ?_⟩
      rw [if_neg (by omega)]) ⟨0, Nat.zero_le _, rfl, by simp [cnt]⟩
  rw [ht, hR]
theorem F22_loop (x : Int) (y : (List Int) × (List (Int × Int × (List Int) × Int × Int)) × Int × Int × (List (Int × (List Int))) × (List Int) × Int × Int × Int) (hn : y.2.2.2.2.1.length ≤ maxLen) :
    loopO (fun (s : Int × Int × Int) => F22_s1 x y s.1 s.2.1 s.2.2) (0, -1, 0) = some ((cnt y.2.2.2.2.1 x y.2.2.2.2.1.length : Int), lasth y.2.2.2.2.1 x y.2.2.2.2.1.length) := by
  generalize he : y.2.2.2.2.1 = e at *
  obtain ⟨t, ht, hR⟩ := loopO_ind (step := fun (s : Int × Int × Int) => F22_s1 x y s.1 s.2.1 s.2.2) (fun s => ∃ i : Nat, i ≤ e.length ∧ s = ((cnt e x i : Int), lasth e x i, (i : Int))) (fun s => e.length - s.2.2.toNat)
    (fun t => t = ((cnt e x e.length : Int), lasth e x e.length)) (s := (0, -1, 0)) (by
    rintro s ⟨i, hi, rfl⟩
    simp only [F22_s1, he]
    rcases Nat.lt_or_ge i e.length with hlt | hge
    · have h : e[i]? = some e[i] := List.getElem?_eq_getElem hlt
      have hd : decide ((i : Int) < (e.length : Int)) = true := by simpa using hlt
      have hh : hit e x i = (e[i].1 == x) := by simp [hit, h]
      rw [hd, at?_nat, h]
      simp only [cond_true, Option.bind_some]
      have hc := cnt_le e x i
      cases hq : (e[i].1 == x) with
      | false =>
        refine .inl ⟨_, rfl, ⟨i + 1, hlt, ?_⟩, ?_⟩
        · rw [wrap_succ hlt hn]; simp [lasth, cnt, hh, hq]
        · rw [wrap_succ hlt hn]; simp only [Int.toNat_natCast]; omega
      | true =>
        refine .inl ⟨_, rfl, ⟨i + 1, hlt, ?_⟩, ?_⟩
        · rw [wrap_succ hlt hn, wrap_succ (n := maxLen) (by omega) (Nat.le_refl _)]; simp [lasth, cnt, hh, hq]
        · rw [wrap_succ hlt hn]; simp only [Int.toNat_natCast]; omega
    · have : i = e.length := by omega
      subst this
      rw [show decide (((e.length : Nat) : Int) < (e.length : Int)) = false by simp]
      exact .inr ⟨_, rfl, rfl⟩) ⟨0, Nat.zero_le _, rfl⟩
  rw [ht, hR]

theorem self_eq (x1) (l2) (l3) (l4) (l5) (l6) (l7) (x8) (h6 : ∀ y ∈ l6, W65 y) : ∃ v, F21 x1 l2 l3 l4 l5 l6 l7 x8 = some v ∧ F22 x1 l2 l3 l4 l5 l6 l7 x8 = some v := by
  unfold F21 F22
  rcases Decidable.em (x8 < 0) with h | h
  · exact ⟨-1, by simp [h], by simp [h]⟩
  have h := Int.not_lt.1 h
  rw [show decide (x8 < 0) = false by simp; omega]
  simp only [cond_false]
  rcases Decidable.em (x8 < (l7.length : Int)) with h7 | h7
  · rw [show decide (x8 ≥ (l7.length : Int)) = false by simp; omega]
    simp only [cond_false]
    rcases Decidable.em (x8 < (l6.length : Int)) with h8 | h8
    · rw [show decide (x8 ≥ (l6.length : Int)) = false by simp; omega]
      simp only [cond_false]
      obtain ⟨i, rfl⟩ := Int.eq_ofNat_of_zero_le h
      have e7 : l7[i]? = some l7[i] := List.getElem?_eq_getElem (by omega)
      have e6 : l6[i]? = some l6[i] := List.getElem?_eq_getElem (by omega)
      simp only [Int.ofNat_eq_natCast, at?_nat, e7, e6, Option.bind_some]
      cases decide (l7[i].1 ≤ 0) with
      | true => exact ⟨_, rfl, rfl⟩
      | false =>
        simp only [cond_false]
        have hw := (h6 l6[i] (List.getElem_mem _)).2.2.2.2.1.1
        rw [F21_loop _ _ hw, F22_loop _ _ hw]
        simp only [Option.bind_some]
        generalize hc : cnt l6[i].2.2.2.2.1 (↑i) l6[i].2.2.2.2.1.length = c
        rcases Nat.lt_or_ge c 2 with k | k
        · rw [if_neg (by omega)]
          rcases Nat.lt_or_ge c 1 with k1 | k1
          · have hz := lasth_zero _ _ (by rw [hc]; omega : cnt l6[i].2.2.2.2.1 (↑i) l6[i].2.2.2.2.1.length = 0)
            rw [hz]
            have : c = 0 := by omega
            subst this
            exact ⟨_, rfl, rfl⟩
          · have : c = 1 := by omega
            subst this
            exact ⟨_, rfl, rfl⟩
        · rw [if_pos k]
          have : ((c : Int) != 1) = true := by simp; omega
          rw [this]
          exact ⟨_, rfl, rfl⟩
    · have h8 := Int.not_lt.1 h8
      exact ⟨-1, by simp [h8], by simp [h8]⟩
  · have h7 := Int.not_lt.1 h7
    refine ⟨-1, by simp [h7], ?_⟩
    cases decide (x8 ≥ (l6.length : Int)) <;> simp [h7]
theorem self_law : Law Try.prog 8 10 [52, 53, 3] := by
  refine F8_law fun x1 l2 l3 l4 l5 l6 l7 x8 _ _ _ _ _ _ _ _ _ _ h6 _ _ _ => ?_
  unfold F8
  cases hd : decide ((l6.length : Int) > 50) with
  | true => rfl
  | false =>
    simp only [cond_false]
    have hl : l6.length ≤ 50 := by have := of_decide_eq_false hd; omega
    rw [loop_forall (n := l6.length) (by unfold maxLen; omega) (fun _ => true) (by
      intro i hi
      obtain ⟨v, e1, e2⟩ := self_eq x1 l2 l3 l4 l5 l6 l7 i h6
      unfold F8_s1
      rw [show decide ((i : Int) < (l6.length : Int)) = true by simpa using hi, e1, e2]
      simp) (by unfold F8_s1; simp)]
    obtain ⟨v, e1, e2⟩ := self_eq x1 l2 l3 l4 l5 l6 l7 x8 h6
    rw [e1, e2]
    rw [show ((List.range l6.length).all fun x => true) = true by simp]
    show some (v == v) = some true
    simp
end Go.Proofs.Ytdoafmfkbddmlaa.Abs
