/- The law of the pressure of lives, on lists. -/
import Derived.Test.YtdoafmfkbddmlacVw
import Derived.Test.YtdoafmfkbddmlacLp
namespace Go.Proofs.Ytdoafmfkbddmlac.Abs
open Go
set_option linter.unusedVariables false
set_option linter.unusedSimpArgs false

/-! How many spans contain a cycle. -/
def dist (n p s : Int) : Int := if n > 0 then (p - s) % n else p - s
def hitb (n p : Int) (b : Int × Int) : Bool := decide (0 ≤ dist n p b.1) && decide (dist n p b.1 < b.2)
def mx (f : Nat → Nat) : Nat → Nat
  | 0 => 0
  | i + 1 => max (mx f i) (f i)
theorem mx_le {f : Nat → Nat} {K : Nat} : ∀ i, (∀ j, j < i → f j ≤ K) → mx f i ≤ K
  | 0, _ => Nat.zero_le _
  | i + 1, h => Nat.max_le.2 ⟨mx_le i fun j hj => h j (by omega), h i (by omega)⟩
theorem le_mx {f : Nat → Nat} : ∀ i j, j < i → f j ≤ mx f i
  | 0, _, h => by omega
  | i + 1, j, h => by
    simp only [mx]
    rcases Nat.lt_or_ge j i with h1 | h1
    · exact Nat.le_trans (le_mx i j h1) (Nat.le_max_left _ _)
    · have : j = i := by omega
      subst this; exact Nat.le_max_right _ _
def cntA (n : Int) (l : List (Int × Int)) (j : Nat) : Nat := match l[j]? with | some a => l.countP (hitb n a.1) | none => 0
def crowd (n : Int) (l : List (Int × Int)) : Nat := mx (cntA n l) l.length
theorem count_crowd (n : Int) (l : List (Int × Int)) {a : Int × Int} (h : a ∈ l) : l.countP (hitb n a.1) ≤ crowd n l := by
  obtain ⟨j, hj, rfl⟩ := List.getElem_of_mem h
  have := le_mx (f := cntA n l) l.length j hj
  simp only [cntA, List.getElem?_eq_getElem hj] at this
  exact this
theorem crowd_le {n : Int} {l : List (Int × Int)} {K : Nat} (h : ∀ a ∈ l, l.countP (hitb n a.1) ≤ K) : crowd n l ≤ K := by
  refine mx_le _ fun j hj => ?_
  simp only [cntA, List.getElem?_eq_getElem hj]
  exact h _ (List.getElem_mem hj)
theorem exists_min {α : Type} (h : α → Bool) (f : α → Int) : ∀ l : List α, (∃ a ∈ l, h a = true) → ∃ a ∈ l, h a = true ∧ ∀ b ∈ l, h b = true → f a ≤ f b
  | [], hx => by obtain ⟨a, h1, _⟩ := hx; cases h1
  | c :: l, hx => by
    by_cases hl : ∃ a ∈ l, h a = true
    · obtain ⟨a, h1, h2, h3⟩ := exists_min h f l hl
      by_cases hc : h c = true ∧ f c < f a
      · refine ⟨c, by simp, hc.1, fun b hb hhb => ?_⟩
        rcases List.mem_cons.1 hb with rfl | hb
        · omega
        · have := h3 b hb hhb; omega
      · refine ⟨a, by simp [h1], h2, fun b hb hhb => ?_⟩
        rcases List.mem_cons.1 hb with rfl | hb
        · by_cases hlt : f b < f a
          · exact absurd ⟨hhb, hlt⟩ hc
          · omega
        · exact h3 b hb hhb
    · obtain ⟨a, h1, h2⟩ := hx
      rcases List.mem_cons.1 h1 with rfl | h1
      · refine ⟨a, by simp, h2, fun b hb hhb => ?_⟩
        rcases List.mem_cons.1 hb with rfl | hb
        · omega
        · exact absurd ⟨b, hb, hhb⟩ hl
      · exact absurd ⟨a, h1, h2⟩ hl
theorem hitb_iff {n p : Int} {b : Int × Int} : hitb n p b = true ↔ 0 ≤ dist n p b.1 ∧ dist n p b.1 < b.2 := by simp [hitb]
theorem dist_sub {n p a b : Int} (h0 : 0 ≤ dist n p a) (h : dist n p a ≤ dist n p b) : dist n a b = dist n p b - dist n p a := by
  unfold dist at h0 h ⊢
  by_cases hn : n > 0
  · simp only [if_pos hn] at h0 h ⊢
    have e : a - b = (p - b) - (p - a) := by omega
    rw [e, Int.sub_emod]
    have := Int.emod_lt_of_pos (p - b) hn
    exact Int.emod_eq_of_lt (by omega) (by omega)
  · simp only [if_neg hn] at h0 h ⊢
    omega
/-- Where some of them begin, most of them are. -/
theorem point_crowd (n p : Int) (l : List (Int × Int)) : l.countP (hitb n p) ≤ crowd n l := by
  by_cases hx : ∃ a ∈ l, hitb n p a = true
  · obtain ⟨a, h1, h2, h3⟩ := exists_min (hitb n p) (fun a => dist n p a.1) l hx
    refine Nat.le_trans (List.countP_mono_left fun b hb hh => ?_) (count_crowd n l h1)
    have := h3 b hb hh
    rw [hitb_iff] at h2 hh ⊢
    rw [dist_sub h2.1 this]
    omega
  · have : l.countP (hitb n p) = 0 := by
      rw [List.countP_eq_zero]
      intro a ha h
      exact hx ⟨a, ha, h⟩
    omega
theorem crowd_snoc (n : Int) (l : List (Int × Int)) (s : Int × Int) : crowd n l ≤ crowd n (l ++ [s]) ∧ crowd n (l ++ [s]) ≤ crowd n l + if s.2 > 0 then 1 else 0 := by
  constructor
  · refine crowd_le fun a ha => ?_
    refine Nat.le_trans ?_ (count_crowd n (l ++ [s]) (a := a) (by simp [ha]))
    rw [List.countP_append]; omega
  · refine crowd_le fun a ha => ?_
    rw [List.countP_append]
    have h1 := point_crowd n a.1 l
    have h2 : [s].countP (hitb n a.1) ≤ if s.2 > 0 then 1 else 0 := by
      by_cases h : hitb n a.1 s = true
      · have := hitb_iff.1 h
        rw [if_pos (by omega)]
        simp [h]
      · simp [h]
    omega
theorem crowd_nil (n : Int) : crowd n [] = 0 := rfl
theorem dist_self (n p : Int) : dist n p p = 0 := by unfold dist; split <;> simp
theorem crowd_const (n : Int) (l : List (Int × Int)) (s : Int × Int) (h : ∀ b ∈ l, b = s) : crowd n l = if s.2 > 0 then l.length else 0 := by
  have hs : hitb n s.1 s = decide (s.2 > 0) := by unfold hitb; rw [dist_self]; simp
  have hc : l.countP (hitb n s.1) = if s.2 > 0 then l.length else 0 := by
    by_cases h2 : s.2 > 0
    · rw [if_pos h2, List.countP_eq_length]
      intro b hb; rw [h b hb, hs]; simpa using h2
    · rw [if_neg h2, List.countP_eq_zero]
      intro b hb; rw [h b hb, hs]; simpa using h2
  apply Nat.le_antisymm
  · refine crowd_le fun a ha => ?_
    rw [h a ha, hc]; exact Nat.le_refl _
  · rw [← hc]; exact point_crowd n s.1 l

/-! The pressure. -/
def lenOf (y : Int × Int × Int) : Int := y.2.2 - y.2.1 + 1
def spanOf (n : Int) (y : Int × Int × Int) : Int × Int := if n ≤ 0 then (y.2.1, lenOf y) else (y.2.1 + lenOf y - lenOf y % n, lenOf y % n)
def allOf (n : Int) (l : List (Int × Int × Int)) : Int := (l.map fun y => if n ≤ 0 then 0 else lenOf y / n).sum
def press (n : Int) (l : List (Int × Int × Int)) : Int := allOf n l + (crowd n (l.map (spanOf n)) : Int)
def lengthOf (n : Int) (y : Int × Int × Int) : Int := if n ≤ 0 then 1 else (y.2.2 - y.2.1) / n + 1
def okL (y : Int × Int × Int) : Prop := 0 ≤ y.2.1 ∧ y.2.1 ≤ y.2.2 ∧ y.2.2 ≤ 200
theorem div_bounds {n x : Int} (h0 : 0 ≤ n) (h1 : n ≤ 20) (hn : ¬ n ≤ 0) (hx : 1 ≤ x) (hx2 : x ≤ 201) : 0 ≤ x / n ∧ x / n ≤ 201 ∧ 0 ≤ x % n ∧ x % n < n ∧ (x - 1) / n + 1 = x / n + (if x % n > 0 then 1 else 0) ∧ 0 ≤ (x - 1) / n ∧ (x - 1) / n ≤ 200 := by
  rcases (by omega : n = 1 ∨ n = 2 ∨ n = 3 ∨ n = 4 ∨ n = 5 ∨ n = 6 ∨ n = 7 ∨ n = 8 ∨ n = 9 ∨ n = 10 ∨ n = 11 ∨ n = 12 ∨ n = 13 ∨ n = 14 ∨ n = 15 ∨ n = 16 ∨ n = 17 ∨ n = 18 ∨ n = 19 ∨ n = 20) with h | h | h | h | h | h | h | h | h | h | h | h | h | h | h | h | h | h | h | h
  all_goals
    subst h
    refine ⟨?_, ?_, ?_, ?_, ?_, ?_, ?_⟩
    all_goals first | omega | (split <;> omega)
theorem allOf_snoc (n : Int) (l : List (Int × Int × Int)) (y : Int × Int × Int) : allOf n (l ++ [y]) = allOf n l + if n ≤ 0 then 0 else lenOf y / n := by
  simp [allOf, List.sum_append]
theorem press_snoc {n : Int} (h0 : 0 ≤ n) (h1 : n ≤ 20) (l : List (Int × Int × Int)) (y : Int × Int × Int) (hy : okL y) : press n l ≤ press n (l ++ [y]) ∧ press n (l ++ [y]) ≤ press n l + lengthOf n y := by
  obtain ⟨y1, y2, y3⟩ := hy
  unfold press
  rw [allOf_snoc, List.map_append]
  have hc := crowd_snoc n (l.map (spanOf n)) (spanOf n y)
  simp only [List.map_cons, List.map_nil]
  by_cases hn : n ≤ 0
  · simp only [hn, if_true, lengthOf]
    have : (spanOf n y).2 > 0 := by simp [spanOf, hn, lenOf]; omega
    rw [if_pos this] at hc
    omega
  · simp only [hn, if_false, lengthOf]
    have hb := div_bounds h0 h1 hn (x := lenOf y) (by unfold lenOf; omega) (by unfold lenOf; omega)
    have e : y.2.2 - y.2.1 = lenOf y - 1 := by unfold lenOf; omega
    have e2 : (spanOf n y).2 = lenOf y % n := by simp [spanOf, hn]
    rw [e2] at hc
    rw [e]
    generalize lenOf y / n = A at *
    generalize (lenOf y - 1) / n = B at *
    generalize lenOf y % n = C at *
    generalize crowd n _ = D at *
    generalize crowd n _ = D' at *
    obtain ⟨b1, b2, b3, b4, b5, b6, b7⟩ := hb
    by_cases hC : C > 0
    · rw [if_pos hC] at hc b5; omega
    · rw [if_neg hC] at hc b5; omega
theorem allOf_bounds {n : Int} (h0 : 0 ≤ n) (h1 : n ≤ 20) : ∀ l : List (Int × Int × Int), (∀ y ∈ l, okL y) → 0 ≤ allOf n l ∧ allOf n l ≤ 201 * l.length
  | [], _ => by simp [allOf]
  | y :: l, h => by
    have ih := allOf_bounds h0 h1 l fun z hz => h z (by simp [hz])
    obtain ⟨y1, y2, y3⟩ := h y (by simp)
    have e : allOf n (y :: l) = (if n ≤ 0 then 0 else lenOf y / n) + allOf n l := by simp [allOf]
    rw [e]
    simp only [List.length_cons]
    split
    · omega
    · rename_i hn
      have hb := div_bounds h0 h1 hn (x := lenOf y) (by unfold lenOf; omega) (by unfold lenOf; omega)
      omega
theorem crowd_le_len (n : Int) (l : List (Int × Int)) : crowd n l ≤ l.length := crowd_le fun a _ => List.countP_le_length
theorem press_const {n : Int} (h0 : 0 ≤ n) (h1 : n ≤ 20) (l : List (Int × Int × Int)) (h : ∀ y ∈ l, y.2 = (5, 5)) : press n l = l.length := by
  have hl : ∀ y ∈ l, lenOf y = 1 := fun y hy => by have := h y hy; simp [lenOf, this]
  have hsp : ∀ b ∈ l.map (spanOf n), b = spanOf n (0, 5, 5) := by
    intro b hb
    obtain ⟨y, hy, rfl⟩ := List.mem_map.1 hb
    have e := h y hy
    simp [spanOf, lenOf, e]
  unfold press
  rw [crowd_const n _ _ hsp]
  have ha : allOf n l = if n = 1 then (l.length : Int) else 0 := by
    have : ∀ l : List (Int × Int × Int), (∀ y ∈ l, lenOf y = 1) → allOf n l = if n = 1 then (l.length : Int) else 0 := by
      intro l
      induction l with
      | nil => intro _; simp [allOf]
      | cons y l ih =>
        intro hh
        have e : allOf n (y :: l) = (if n ≤ 0 then 0 else lenOf y / n) + allOf n l := by simp [allOf]
        rw [e, ih (fun z hz => hh z (by simp [hz])), hh y (by simp)]
        by_cases hn : n ≤ 0
        · have : n = 0 := by omega
          subst this; simp
        · by_cases hn1 : n = 1
          · subst hn1; simp; omega
          · simp only [hn, hn1, if_false]
            rw [Int.ediv_eq_zero_of_lt (by omega) (by omega)]; rfl
    exact this l hl
  rw [ha]
  have es : (spanOf n (0, 5, 5)).2 = if n = 1 then 0 else 1 := by
    by_cases hn : n ≤ 0
    · have : n = 0 := by omega
      subst this; rfl
    · by_cases hn1 : n = 1
      · subst hn1; rfl
      · simp only [spanOf, hn, hn1, if_false, lenOf]
        exact Int.emod_eq_of_lt (by omega) (by omega)
  rw [es]
  by_cases hn1 : n = 1
  · simp [hn1]
  · simp [hn1]

/-! The program. -/
theorem tmod_fix {x n : Int} (hn : n > 0) : (if x.tmod n < 0 then x.tmod n + n else x.tmod n) = x % n := by
  rcases Int.lt_or_le x 0 with hx | hx
  · have e : x.tmod n = -((-x) % n) := by
      rw [← Int.tmod_eq_emod_of_nonneg (by omega : 0 ≤ -x), Int.neg_tmod]; omega
    have g1 := Int.emod_nonneg (-x) (show n ≠ 0 by omega)
    have g2 := Int.emod_lt_of_pos (-x) hn
    rw [e]
    by_cases hz : (-x) % n = 0
    · rw [hz]; simp
      exact (Int.emod_eq_zero_of_dvd (Int.dvd_neg.1 (Int.dvd_of_emod_eq_zero hz))).symm
    · rw [if_pos (by omega)]
      have q := Int.mul_ediv_add_emod (-x) n
      generalize hr : (-x) % n = r at *
      generalize (-x) / n = d at *
      have ex : x = (n - r) + n * (-d - 1) := by rw [Int.mul_sub, Int.mul_neg]; omega
      rw [ex, Int.add_mul_emod_self_left, Int.emod_eq_of_lt (by omega) (by omega)]
      omega
  · rw [Int.tmod_eq_emod_of_nonneg hx]
    have g1 := Int.emod_nonneg x (show n ≠ 0 by omega)
    rw [if_neg (by omega)]
def okS (s : Int × Int) : Prop := -100000 ≤ s.1 ∧ s.1 ≤ 100000
theorem crowded (l : List (Int × Int)) (n : Int) (h0 : 0 ≤ n) (h1 : n ≤ 20) (hl : l.length ≤ 100) (hs : ∀ s ∈ l, okS s) : F37 l n = some (crowd n l : Int) := by
  refine Yields.eq ?_
  unfold F37
  refine Yields.bind (P := fun t => t = (crowd n l : Int)) (Yields.loop l.length (fun i (z : Int × Int) => z.2 = i ∧ z.1 = (mx (cntA n l) i : Int)) ⟨rfl, rfl⟩ ?_) (fun y h => Yields.some h)
  rintro i ⟨m, a⟩ hi ⟨ha, hm⟩
  simp only at ha hm ⊢
  subst ha; subst hm
  unfold F37_s2
  refine Yields.bif (fun c => ?_) (fun c => ?_)
  · have c' : i < l.length := by simpa using c
    refine Yields.at (by omega) (by omega) fun y hy hmem => ?_
    have hy' := at_nat hy
    have hys := hs y hmem
    refine Yields.bind (P := fun t => t = (l.countP (hitb n y.1) : Int)) (Yields.loop l.length (fun i (z : Int × Int) => z.2 = i ∧ z.1 = (cntP (hitb n y.1) l i : Int)) ⟨rfl, rfl⟩ ?_) ?_
    · rintro j ⟨m, a⟩ hj ⟨ha, hm⟩
      simp only at ha hm ⊢
      subst ha; subst hm
      have hle := cntP_le (hitb n y.1) l j
      unfold F37_s1
      refine Yields.bif (fun c => ?_) (fun c => ?_)
      · have c' : j < l.length := by simpa using c
        refine Yields.at (by omega) (by omega) fun b hb hbm => ?_
        have hbs := hs b hbm
        have ex := cntP_succ (hitb n y.1) l j _ (at_nat hb)
        have ed : IntKind.i64.wrap (y.1 - b.1) = y.1 - b.1 := by
          obtain ⟨_, _⟩ := hys; obtain ⟨_, _⟩ := hbs
          rw [wrap_i64] <;> omega
        rw [ed]
        have yes : hitb n y.1 b = true → Yields (Nx j l.length (fun i (z : Int × Int) => z.2 = i ∧ z.1 = (cntP (hitb n y.1) l i : Int)) (fun t => t = (l.countP (hitb n y.1) : Int))) (some (.inl (IntKind.i64.wrap ((cntP (hitb n y.1) l j : Int) + 1), IntKind.i64.wrap ((j : Int) + 1)))) := by
          intro hh
          rw [hh, if_pos rfl] at ex
          refine Yields.some ⟨c', wrap_i1 (by omega), ?_⟩
          simp only; rw [wrap_i64] <;> omega
        have no : ¬ hitb n y.1 b = true → Yields (Nx j l.length (fun i (z : Int × Int) => z.2 = i ∧ z.1 = (cntP (hitb n y.1) l i : Int)) (fun t => t = (l.countP (hitb n y.1) : Int))) (some (.inl ((cntP (hitb n y.1) l j : Int), IntKind.i64.wrap ((j : Int) + 1)))) := by
          intro hh
          rw [if_neg hh] at ex
          refine Yields.some ⟨c', wrap_i1 (by omega), ?_⟩
          simp only; omega
        rw [hitb_iff] at yes no
        unfold dist at yes no
        refine Yields.bif (fun d => ?_) (fun d => ?_)
        · have d' : n > 0 := by simpa using d
          have tf := tmod_fix (x := y.1 - b.1) d'
          rw [if_pos d', ← tf] at yes no
          have g2 := Int.emod_lt_of_pos (y.1 - b.1) d'
          have g1 := Int.emod_nonneg (y.1 - b.1) (show n ≠ 0 by omega)
          rw [← tf] at g1 g2
          generalize (y.1 - b.1).tmod n = T at *
          have ew : T < 0 → IntKind.i64.wrap (T + n) = T + n := fun hT => by
            rw [if_pos hT] at g1 g2
            rw [wrap_i64] <;> omega
          refine Yields.bif (fun e => ?_) (fun e => ?_)
          · have e' : T < 0 := by simpa using e
            rw [if_pos e'] at yes no g1 g2
            rw [ew e']
            refine Yields.bif (fun f => ?_) (fun f => ?_)
            · refine Yields.bif (fun g => ?_) (fun g => ?_)
              · exact yes (by simp at f g; omega)
              · exact no (by simp at f g; omega)
            · exact no (by simp at f; omega)
          · have e' : ¬ T < 0 := by simpa using e
            rw [if_neg e'] at yes no g1 g2
            refine Yields.bif (fun f => ?_) (fun f => ?_)
            · refine Yields.bif (fun g => ?_) (fun g => ?_)
              · exact yes (by simp at f g; omega)
              · exact no (by simp at f g; omega)
            · exact no (by simp at f; omega)
        · have d' : ¬ n > 0 := by simpa using d
          rw [if_neg d'] at yes no
          refine Yields.bif (fun f => ?_) (fun f => ?_)
          · refine Yields.bif (fun g => ?_) (fun g => ?_)
            · exact yes (by simp at f g; omega)
            · exact no (by simp at f g; omega)
          · exact no (by simp at f; omega)
      · refine Yields.some ?_
        have : j = l.length := by simp at c; omega
        subst this
        show (_ : Int) = _
        rw [cntP_all]
    · rintro t rfl
      refine Yields.some ⟨c', wrap_i1 (by omega), ?_⟩
      simp only [mx, cntA, hy']
      split <;> omega
  · refine Yields.some ?_
    have : i = l.length := by simp at c; omega
    subst this
    rfl
theorem spans0 (l : List (Int × Int × Int)) (n : Int) (hn : n ≤ 0) (hl : l.length ≤ 100) (hs : ∀ y ∈ l, okL y) : F23 l n = some (l.map (spanOf n)) := by
  refine Yields.eq ?_
  unfold F23
  refine Yields.bind (P := fun t => t = l.map (spanOf n)) (Yields.loop l.length (fun i (z : Int × List (Int × Int)) => z.1 = i ∧ z.2 = (l.take i).map (spanOf n)) ⟨rfl, by simp⟩ ?_) (fun y h => Yields.some h)
  rintro i ⟨a, r⟩ hi ⟨ha, hr⟩
  simp only at ha hr ⊢
  subst ha
  have hlen : r.length = i := by rw [hr]; simp; omega
  unfold F23_s2
  refine Yields.bif (fun c => ?_) (fun c => ?_)
  · have c' : i < l.length := by simpa using c
    refine Yields.at (by omega) (by omega) fun y hy hmem => ?_
    have hy' := at_nat hy
    obtain ⟨y1, y2, y3⟩ := hs y hmem
    have hok : ∀ z : Int × Int, okApp (r.length + [z].length) 16 = true := fun z => ok_app (by simp; omega) (by simp; omega)
    have hd : decide (n ≤ 0) = true := by simpa using hn
    simp only [hok, hd, Bool.not_true, cond_false, cond_true]
    refine Yields.some ⟨c', wrap_i1 (by omega), ?_⟩
    simp only
    have e1 : IntKind.i64.wrap (y.2.2 - y.2.1) = y.2.2 - y.2.1 := wrap_i64 (by omega) (by omega)
    have e2 : IntKind.i64.wrap (y.2.2 - y.2.1 + 1) = y.2.2 - y.2.1 + 1 := wrap_i64 (by omega) (by omega)
    rw [e1, e2, hr, List.take_add_one, hy']
    simp [spanOf, hn, lenOf]
  · refine Yields.some ?_
    have : i = l.length := by simp at c; omega
    subst this
    show r = _
    rw [hr]; simp
theorem pressed (l : List (Int × Int × Int)) (n : Int) (h0 : 0 ≤ n) (h1 : n ≤ 20) (hl : l.length ≤ 100) (hs : ∀ y ∈ l, okL y) : F20 l n = some (press n l) := by
  refine Yields.eq ?_
  unfold F20
  have hcl := crowd_le_len n (l.map (spanOf n))
  rw [List.length_map] at hcl
  have hab := allOf_bounds h0 h1 l hs
  have hsp : ∀ s ∈ l.map (spanOf n), okS s := by
    intro s hs'
    obtain ⟨y, hy, rfl⟩ := List.mem_map.1 hs'
    obtain ⟨y1, y2, y3⟩ := hs y hy
    unfold okS spanOf
    split
    · simp only; omega
    · rename_i hn
      have hb := div_bounds h0 h1 hn (x := lenOf y) (by unfold lenOf; omega) (by unfold lenOf; omega)
      simp only
      have : lenOf y = y.2.2 - y.2.1 + 1 := rfl
      omega
  refine Yields.bif (fun c => ?_) (fun c => ?_)
  · have hn : n ≤ 0 := by simpa using c
    have : n = 0 := by omega
    subst this
    refine Yields.bindE (spans0 l 0 hn hl hs) ?_
    refine Yields.bindE (crowded _ 0 h0 h1 (by simpa using hl) hsp) ?_
    refine Yields.some ?_
    have : allOf 0 l = 0 := by
      have z : ∀ l : List (Int × Int × Int), (l.map fun _ => (0 : Int)).sum = 0 := by
        intro l; induction l with
        | nil => rfl
        | cons a l ih => simpa using ih
      simpa [allOf] using z l
    simp [press, this]
  · have hn : ¬ n ≤ 0 := by simpa using c
    refine Yields.bind (P := fun t => t = (allOf n l, l.map (spanOf n))) (Yields.loop l.length (fun i (z : Int × Int × List (Int × Int)) => z.2.1 = i ∧ z.1 = allOf n (l.take i) ∧ z.2.2 = (l.take i).map (spanOf n)) ⟨rfl, by simp [allOf], by simp⟩ ?_) ?_
    · rintro i ⟨s, a, r⟩ hi ⟨ha, hss, hr⟩
      simp only at ha hss hr ⊢
      subst ha
      have hlen : r.length = i := by rw [hr]; simp; omega
      have hab' := allOf_bounds h0 h1 (l.take i) (fun y hy => hs y (List.mem_of_mem_take hy))
      have htl : (l.take i).length = i := by simp; omega
      rw [htl] at hab'
      unfold F20_s1
      refine Yields.bif (fun c => ?_) (fun c => ?_)
      · have c' : i < l.length := by simpa using c
        refine Yields.at (by omega) (by omega) fun y hy hmem => ?_
        have hy' := at_nat hy
        obtain ⟨y1, y2, y3⟩ := hs y hmem
        have hok : ∀ z : Int × Int, okApp (r.length + [z].length) 16 = true := fun z => ok_app (by simp; omega) (by simp; omega)
        have e1 : IntKind.i64.wrap (y.2.2 - y.2.1) = y.2.2 - y.2.1 := wrap_i64 (by omega) (by omega)
        have e2 : IntKind.i64.wrap (y.2.2 - y.2.1 + 1) = lenOf y := wrap_i64 (by omega) (by omega)
        have hL : 1 ≤ lenOf y ∧ lenOf y ≤ 201 := by unfold lenOf; omega
        have hb := div_bounds h0 h1 hn hL.1 hL.2
        have e3 : F20__1 n y = lenOf y / n := by
          unfold F20__1; rw [e1, e2, Int.tdiv_eq_ediv_of_nonneg (by omega)]
          exact wrap_i64 (by omega) (by omega)
        have e4 : (lenOf y).tmod n = lenOf y % n := Int.tmod_eq_emod_of_nonneg (by omega)
        have e5 : F20__3 n y = y.2.1 + lenOf y - lenOf y % n := by
          unfold F20__3 F20__2; rw [e1, e2, e4]
          have : IntKind.i64.wrap (y.2.1 + lenOf y) = y.2.1 + lenOf y := wrap_i64 (by omega) (by omega)
          rw [this]
          exact wrap_i64 (by omega) (by omega)
        rw [e1, e2, e3, e4, e5]
        have hd : decide (lenOf y > 0) = true := by simp; omega
        simp only [hok, hd, Bool.not_true, cond_false, cond_true]
        refine Yields.some ⟨c', wrap_i1 (by omega), ?_, ?_⟩
        · simp only
          rw [List.take_add_one, hy']
          simp only [Option.toList_some]
          rw [allOf_snoc, if_neg hn, hss]
          exact wrap_i64 (by omega) (by omega)
        · simp only
          rw [List.take_add_one, hy', hr]
          simp [spanOf, hn]
      · refine Yields.some ?_
        have : i = l.length := by simp at c; omega
        subst this
        show (s, r) = _
        rw [hss, hr]; simp
    · rintro _ rfl
      refine Yields.bindE (crowded _ n h0 h1 (by simpa using hl) hsp) ?_
      refine Yields.some ?_
      simp only [press]
      exact wrap_i64 (by omega) (by omega)
theorem lived (l : List (Int × Int)) (hl : l.length ≤ 30) (hW : ∀ y ∈ l, W55 y) : Yields (fun (m : List (Int × Int × Int)) => m.length = l.length ∧ ∀ y ∈ m, okL y) (F19 l) := by
  unfold F19
  refine Yields.bind (P := fun (m : List (Int × Int × Int)) => m.length = l.length ∧ ∀ y ∈ m, okL y) (Yields.loop l.length (fun i (z : Int × List (Int × Int × Int)) => z.1 = i ∧ z.2.length = i ∧ ∀ y ∈ z.2, okL y) ⟨rfl, rfl, by simp⟩ ?_) (fun m hm => Yields.some hm)
  rintro i ⟨a, m⟩ hi ⟨ha, hm, hk⟩
  simp only at ha hm hk ⊢
  subst ha
  unfold F19_s1
  refine Yields.bif (fun c => ?_) (fun c => ?_)
  · have c' : i < l.length := by simpa using c
    refine Yields.at (by omega) (by omega) fun y hy hmem => ?_
    have hw := hW _ hmem
    have h1 := wf_u8 hw.1
    have h2 := wf_u8 hw.2.1
    have hok : ∀ z : Int × Int × Int, okApp (m.length + [z].length) 24 = true := fun z => ok_app (by simp; omega) (by simp; omega)
    simp only [hok, Bool.not_true, cond_false]
    refine Yields.some ⟨c', wrap_i1 (by omega), by simp; omega, ?_⟩
    intro z hz
    rcases List.mem_append.1 hz with h | h
    · exact hk z h
    · rw [List.mem_singleton.1 h]
      have t1 : y.1.tmod 60 = y.1 % 60 := Int.tmod_eq_emod_of_nonneg h1.1
      have t2 : y.2.tmod 60 = y.2 % 60 := Int.tmod_eq_emod_of_nonneg h2.1
      have w1 : IntKind.i64.wrap (y.1 % 60) = y.1 % 60 := wrap_i64 (by omega) (by omega)
      have w2 : IntKind.i64.wrap (y.2 % 60) = y.2 % 60 := wrap_i64 (by omega) (by omega)
      have w3 : IntKind.i64.wrap (y.1 % 60 + y.2 % 60) = y.1 % 60 + y.2 % 60 := wrap_i64 (by omega) (by omega)
      unfold okL F19__1
      simp only [t1, t2, w1, w2, w3]
      omega
  · refine Yields.some ?_
    have : i = l.length := by simp at c; omega
    exact ⟨by omega, hk⟩
theorem F21_eq {y : Int × Int × Int} {n : Int} (h0 : 0 ≤ n) (h1 : n ≤ 20) (hy : okL y) : F21 y.1 y.2.1 y.2.2 n = lengthOf n y ∧ 1 ≤ lengthOf n y ∧ lengthOf n y ≤ 201 := by
  obtain ⟨y1, y2, y3⟩ := hy
  unfold F21 lengthOf
  by_cases hn : n ≤ 0
  · simp [hn]
  · have hb := div_bounds h0 h1 hn (x := lenOf y) (by unfold lenOf; omega) (by unfold lenOf; omega)
    have e1 : IntKind.i64.wrap (y.2.2 - y.2.1) = y.2.2 - y.2.1 := wrap_i64 (by omega) (by omega)
    have e : lenOf y - 1 = y.2.2 - y.2.1 := by unfold lenOf; omega
    rw [e] at hb
    have e2 : IntKind.i64.wrap ((y.2.2 - y.2.1) / n) = (y.2.2 - y.2.1) / n := wrap_i64 (by omega) (by omega)
    simp only [hn, if_false, decide_false, cond_false]
    rw [e1, Int.tdiv_eq_ediv_of_nonneg (by omega), e2, wrap_i64 (by omega) (by omega)]
    omega

theorem pressure_law : Law Try.prog 7 10 [38, 5] := by
  refine F7_law fun l b hl hW hb => Yields.eq ?_
  have hb8 := wf_u8 hb
  unfold F7
  refine Yields.bif (fun c => Yields.some rfl) (fun c => ?_)
  have hn : l.length ≤ 30 := by simp at c; omega
  have en : IntKind.i64.wrap (b.tmod 21) = b % 21 := by
    rw [Int.tmod_eq_emod_of_nonneg hb8.1]; exact wrap_i64 (by omega) (by omega)
  have h0 : 0 ≤ b % 21 := by omega
  have h1 : b % 21 ≤ 20 := by omega
  simp only [F7_s1, F7__1, en]
  generalize b % 21 = n at *
  have lv := lived l hn hW
  obtain ⟨x, ex, hx, hok⟩ := lv
  refine Yields.bindE ex ?_
  refine Yields.bind (P := fun (t : Nat × Int) => t.1 = 1 ∧ press n x ≤ t.2) (Yields.loop x.length (fun i (z : Int × Int) => z.2 = i ∧ press n (x.take i) ≤ z.1 ∧ 0 ≤ z.1 ∧ z.1 ≤ 201 * i) ⟨rfl, by simp [press, allOf, crowd_nil], by simp, by simp⟩ ?_) ?_
  · rintro i ⟨s, a⟩ hi ⟨ha, hp, hs0, hs1⟩
    simp only at ha hp hs0 hs1 ⊢
    subst ha
    refine Yields.bif (fun c => ?_) (fun c => ?_)
    · have c' : i < x.length := by simpa using c
      have ei : IntKind.i64.wrap ((i : Int) + 1) = ((i + 1 : Nat) : Int) := wrap_i1 (by omega)
      rw [ei]
      have s1 : subOk (0 : Int) (i : Int) x.length = true := subOk_iff.2 ⟨by omega, by omega, by omega⟩
      have s2 : subOk (0 : Int) ((i + 1 : Nat) : Int) x.length = true := subOk_iff.2 ⟨by omega, by omega, by omega⟩
      rw [s1, s2]
      simp only [Bool.not_true, cond_false]
      have es1 : subL x (0 : Int) (i : Int) = x.take i := by simp [subL]
      have es2 : subL x (0 : Int) ((i + 1 : Nat) : Int) = x.take (i + 1) := by simp only [subL, Int.toNat_natCast]; rfl
      rw [es1, es2]
      have ht : ∀ k, ∀ y ∈ x.take k, okL y := fun k y hy => hok y (List.mem_of_mem_take hy)
      refine Yields.bindE (pressed (x.take i) n h0 h1 (by simp; omega) (ht i)) ?_
      refine Yields.bindE (pressed (x.take (i + 1)) n h0 h1 (by simp; omega) (ht (i + 1))) ?_
      have hg : x[i]? = some x[i] := List.getElem?_eq_getElem c'
      have hoi := hok x[i] (List.getElem_mem c')
      have et : x.take (i + 1) = x.take i ++ [x[i]] := by rw [List.take_add_one, hg]; rfl
      have hsn := press_snoc h0 h1 (x.take i) x[i] hoi
      rw [← et] at hsn
      have hL := F21_eq h0 h1 hoi
      have hab := allOf_bounds h0 h1 (x.take i) (ht i)
      have htl : (x.take i).length = i := by simp; omega
      have hcl := crowd_le_len n ((x.take i).map (spanOf n))
      rw [List.length_map, htl] at hcl
      rw [htl] at hab
      have hpb : 0 ≤ press n (x.take i) ∧ press n (x.take i) ≤ 1000000 := by unfold press; omega
      have d1 : decide (press n (x.take i) > press n (x.take (i + 1))) = false := by simp; omega
      rw [d1]
      simp only [cond_false]
      refine Yields.at (by omega) (by omega) fun y hy _ => ?_
      have hyi : y = x[i] := by have := at_nat hy; rw [hg] at this; cases this; rfl
      subst hyi
      rw [hL.1]
      have ew : IntKind.i64.wrap (press n (x.take i) + lengthOf n x[i]) = press n (x.take i) + lengthOf n x[i] := wrap_i64 (by omega) (by omega)
      rw [ew]
      have d2 : decide (press n (x.take (i + 1)) > press n (x.take i) + lengthOf n x[i]) = false := by simp; omega
      rw [d2]
      simp only [cond_false]
      have ew2 : IntKind.i64.wrap (s + lengthOf n x[i]) = s + lengthOf n x[i] := wrap_i64 (by omega) (by omega)
      rw [ew2]
      refine Yields.some ⟨c', rfl, ?_, ?_, ?_⟩
      · simp only; omega
      · simp only; omega
      · simp only; omega
    · refine Yields.some ?_
      have : i = x.length := by simp at c; omega
      subst this
      rw [List.take_length] at hp
      exact ⟨rfl, hp⟩
  · rintro ⟨t, sum⟩ ⟨ht, hsum⟩
    simp only at ht hsum ⊢
    subst ht
    simp only [show Nat.beq 1 0 = false from rfl, cond_false]
    refine Yields.bind (P := fun (r : List (Int × Int × Int)) => r.length = x.length ∧ ∀ y ∈ r, y.2 = (5, 5)) (Yields.loop x.length (fun i (z : Int × List (Int × Int × Int)) => z.1 = i ∧ z.2.length = x.length ∧ ∀ j y, j < i → z.2[j]? = some y → y.2 = (5, 5)) ⟨rfl, rfl, fun j y h => by omega⟩ ?_) ?_
    · rintro i ⟨a, r⟩ hi ⟨ha, hr, hj⟩
      simp only at ha hr hj ⊢
      subst ha
      unfold F7_s2
      refine Yields.bif (fun c => ?_) (fun c => ?_)
      · have c' : i < x.length := by simpa using c
        refine Yields.at (by omega) (by omega) fun y hy _ => ?_
        refine Yields.at (by omega) (by simp [setI]; omega) fun y' hy' _ => ?_
        have e1 : y' = (y.1, 5, y.2.2) := by
          have h := at_nat hy'
          simp only [setI, Int.toNat_natCast] at h
          rw [List.getElem?_set_self (by omega)] at h
          cases h; rfl
        subst e1
        refine Yields.some ⟨c', wrap_i1 (by omega), by simp [setI, hr], ?_⟩
        intro j z hji hz
        simp only [setI, Int.toNat_natCast, List.set_set] at hz
        rw [List.getElem?_set] at hz
        split at hz
        · split at hz
          · cases hz; rfl
          · cases hz
        · exact hj j z (by omega) hz
      · refine Yields.some ⟨hr, ?_⟩
        have : i = x.length := by simp at c; omega
        subst this
        intro y hy
        obtain ⟨j, hjl, rfl⟩ := List.getElem_of_mem hy
        exact hj j _ (by omega) (List.getElem?_eq_getElem hjl)
    · rintro r ⟨hr, h5⟩
      refine Yields.bindE ex ?_
      refine Yields.bindE (pressed x n h0 h1 (by omega) hok) ?_
      have d : decide (press n x ≤ sum) = true := by simpa using hsum
      rw [d]
      simp only [cond_true]
      refine Yields.bindE (pressed r n h0 h1 (by omega) (fun y hy => by have := h5 y hy; simp [okL, this])) ?_
      rw [press_const h0 h1 r h5]
      exact Yields.some (by simp)
end Go.Proofs.Ytdoafmfkbddmlac.Abs
