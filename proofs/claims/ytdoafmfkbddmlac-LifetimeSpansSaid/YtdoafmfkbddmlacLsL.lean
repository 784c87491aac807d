/- The law of the spans of lives, on lists. -/
import Derived.Test.YtdoafmfkbddmlacVw
import Derived.Test.YtdoafmfkbddmlacLs
namespace Go.Proofs.Ytdoafmfkbddmlac.Abs
open Go
set_option linter.unusedVariables false
set_option linter.unusedSimpArgs false

/-! How many spans contain a cycle. -/
def dist (n p s : Int) : Int := if n > 0 then (p - s) % n else p - s
def hitb (n p : Int) (b : Int × Int) : Bool := decide (0 ≤ dist n p b.1) && decide (dist n p b.1 < b.2)
def mx (f : Nat → Nat) : Nat → Nat
  | 0 => 0
  | i + 1 => max (mx f i) (f i)
theorem mx_le {f : Nat → Nat} {K : Nat} : ∀ i, (∀ j, j < i → f j ≤ K) → mx f i ≤ K
  | 0, _ => Nat.zero_le _
  | i + 1, h => Nat.max_le.2 ⟨mx_le i fun j hj => h j (by omega), h i (by omega)⟩
theorem le_mx {f : Nat → Nat} : ∀ i j, j < i → f j ≤ mx f i
  | 0, _, h => by omega
  | i + 1, j, h => by
    simp only [mx]
    rcases Nat.lt_or_ge j i with h1 | h1
    · exact Nat.le_trans (le_mx i j h1) (Nat.le_max_left _ _)
    · have : j = i := by omega
      subst this; exact Nat.le_max_right _ _
def cntA (n : Int) (l : List (Int × Int)) (j : Nat) : Nat := match l[j]? with | some a => l.countP (hitb n a.1) | none => 0
def crowd (n : Int) (l : List (Int × Int)) : Nat := mx (cntA n l) l.length
theorem count_crowd (n : Int) (l : List (Int × Int)) {a : Int × Int} (h : a ∈ l) : l.countP (hitb n a.1) ≤ crowd n l := by
  obtain ⟨j, hj, rfl⟩ := List.getElem_of_mem h
  have := le_mx (f := cntA n l) l.length j hj
  simp only [cntA, List.getElem?_eq_getElem hj] at this
  exact this
theorem crowd_le {n : Int} {l : List (Int × Int)} {K : Nat} (h : ∀ a ∈ l, l.countP (hitb n a.1) ≤ K) : crowd n l ≤ K := by
  refine mx_le _ fun j hj => ?_
  simp only [cntA, List.getElem?_eq_getElem hj]
  exact h _ (List.getElem_mem hj)
theorem exists_min {α : Type} (h : α → Bool) (f : α → Int) : ∀ l : List α, (∃ a ∈ l, h a = true) → ∃ a ∈ l, h a = true ∧ ∀ b ∈ l, h b = true → f a ≤ f b
  | [], hx => by obtain ⟨a, h1, _⟩ := hx; cases h1
  | c :: l, hx => by
    by_cases hl : ∃ a ∈ l, h a = true
    · obtain ⟨a, h1, h2, h3⟩ := exists_min h f l hl
      by_cases hc : h c = true ∧ f c < f a
      · refine ⟨c, by simp, hc.1, fun b hb hhb => ?_⟩
        rcases List.mem_cons.1 hb with rfl | hb
        · omega
        · have := h3 b hb hhb; omega
      · refine ⟨a, by simp [h1], h2, fun b hb hhb => ?_⟩
        rcases List.mem_cons.1 hb with rfl | hb
        · by_cases hlt : f b < f a
          · exact absurd ⟨hhb, hlt⟩ hc
          · omega
        · exact h3 b hb hhb
    · obtain ⟨a, h1, h2⟩ := hx
      rcases List.mem_cons.1 h1 with rfl | h1
      · refine ⟨a, by simp, h2, fun b hb hhb => ?_⟩
        rcases List.mem_cons.1 hb with rfl | hb
        · omega
        · exact absurd ⟨b, hb, hhb⟩ hl
      · exact absurd ⟨a, h1, h2⟩ hl
theorem hitb_iff {n p : Int} {b : Int × Int} : hitb n p b = true ↔ 0 ≤ dist n p b.1 ∧ dist n p b.1 < b.2 := by simp [hitb]
theorem dist_sub {n p a b : Int} (h0 : 0 ≤ dist n p a) (h : dist n p a ≤ dist n p b) : dist n a b = dist n p b - dist n p a := by
  unfold dist at h0 h ⊢
  by_cases hn : n > 0
  · simp only [if_pos hn] at h0 h ⊢
    have e : a - b = (p - b) - (p - a) := by omega
    rw [e, Int.sub_emod]
    have := Int.emod_lt_of_pos (p - b) hn
    exact Int.emod_eq_of_lt (by omega) (by omega)
  · simp only [if_neg hn] at h0 h ⊢
    omega
/-- Where some of them begin, most of them are. -/
theorem point_crowd (n p : Int) (l : List (Int × Int)) : l.countP (hitb n p) ≤ crowd n l := by
  by_cases hx : ∃ a ∈ l, hitb n p a = true
  · obtain ⟨a, h1, h2, h3⟩ := exists_min (hitb n p) (fun a => dist n p a.1) l hx
    refine Nat.le_trans (List.countP_mono_left fun b hb hh => ?_) (count_crowd n l h1)
    have := h3 b hb hh
    rw [hitb_iff] at h2 hh ⊢
    rw [dist_sub h2.1 this]
    omega
  · have : l.countP (hitb n p) = 0 := by
      rw [List.countP_eq_zero]
      intro a ha h
      exact hx ⟨a, ha, h⟩
    omega
theorem crowd_snoc (n : Int) (l : List (Int × Int)) (s : Int × Int) : crowd n l ≤ crowd n (l ++ [s]) ∧ crowd n (l ++ [s]) ≤ crowd n l + if s.2 > 0 then 1 else 0 := by
  constructor
  · refine crowd_le fun a ha => ?_
    refine Nat.le_trans ?_ (count_crowd n (l ++ [s]) (a := a) (by simp [ha]))
    rw [List.countP_append]; omega
  · refine crowd_le fun a ha => ?_
    rw [List.countP_append]
    have h1 := point_crowd n a.1 l
    have h2 : [s].countP (hitb n a.1) ≤ if s.2 > 0 then 1 else 0 := by
      by_cases h : hitb n a.1 s = true
      · have := hitb_iff.1 h
        rw [if_pos (by omega)]
        simp [h]
      · simp [h]
    omega
theorem crowd_nil (n : Int) : crowd n [] = 0 := rfl
theorem dist_self (n p : Int) : dist n p p = 0 := by unfold dist; split <;> simp
theorem crowd_const (n : Int) (l : List (Int × Int)) (s : Int × Int) (h : ∀ b ∈ l, b = s) : crowd n l = if s.2 > 0 then l.length else 0 := by
  have hs : hitb n s.1 s = decide (s.2 > 0) := by unfold hitb; rw [dist_self]; simp
  have hc : l.countP (hitb n s.1) = if s.2 > 0 then l.length else 0 := by
    by_cases h2 : s.2 > 0
    · rw [if_pos h2, List.countP_eq_length]
      intro b hb; rw [h b hb, hs]; simpa using h2
    · rw [if_neg h2, List.countP_eq_zero]
      intro b hb; rw [h b hb, hs]; simpa using h2
  apply Nat.le_antisymm
  · refine crowd_le fun a ha => ?_
    rw [h a ha, hc]; exact Nat.le_refl _
  · rw [← hc]; exact point_crowd n s.1 l

/-! The pressure. -/
def lenOf (y : Int × Int × Int) : Int := y.2.2 - y.2.1 + 1
def spanOf (n : Int) (y : Int × Int × Int) : Int × Int := if n ≤ 0 then (y.2.1, lenOf y) else (y.2.1 + lenOf y - lenOf y % n, lenOf y % n)
def allOf (n : Int) (l : List (Int × Int × Int)) : Int := (l.map fun y => if n ≤ 0 then 0 else lenOf y / n).sum
def press (n : Int) (l : List (Int × Int × Int)) : Int := allOf n l + (crowd n (l.map (spanOf n)) : Int)
def lengthOf (n : Int) (y : Int × Int × Int) : Int := if n ≤ 0 then 1 else (y.2.2 - y.2.1) / n + 1
def okL (y : Int × Int × Int) : Prop := 0 ≤ y.2.1 ∧ y.2.1 ≤ y.2.2 ∧ y.2.2 ≤ 200
theorem div_bounds {n x : Int} (h0 : 0 ≤ n) (h1 : n ≤ 20) (hn : ¬ n ≤ 0) (hx : 1 ≤ x) (hx2 : x ≤ 201) : 0 ≤ x / n ∧ x / n ≤ 201 ∧ 0 ≤ x % n ∧ x % n < n ∧ (x - 1) / n + 1 = x / n + (if x % n > 0 then 1 else 0) ∧ 0 ≤ (x - 1) / n ∧ (x - 1) / n ≤ 200 := by
  rcases (by omega : n = 1 ∨ n = 2 ∨ n = 3 ∨ n = 4 ∨ n = 5 ∨ n = 6 ∨ n = 7 ∨ n = 8 ∨ n = 9 ∨ n = 10 ∨ n = 11 ∨ n = 12 ∨ n = 13 ∨ n = 14 ∨ n = 15 ∨ n = 16 ∨ n = 17 ∨ n = 18 ∨ n = 19 ∨ n = 20) with h | h | h | h | h | h | h | h | h | h | h | h | h | h | h | h | h | h | h | h
  all_goals
    subst h
    refine ⟨?_, ?_, ?_, ?_, ?_, ?_, ?_⟩
    all_goals first | omega | (split <;> omega)
theorem allOf_snoc (n : Int) (l : List (Int × Int × Int)) (y : Int × Int × Int) : allOf n (l ++ [y]) = allOf n l + if n ≤ 0 then 0 else lenOf y / n := by
  simp [allOf, List.sum_append]
theorem press_snoc {n : Int} (h0 : 0 ≤ n) (h1 : n ≤ 20) (l : List (Int × Int × Int)) (y : Int × Int × Int) (hy : okL y) : press n l ≤ press n (l ++ [y]) ∧ press n (l ++ [y]) ≤ press n l + lengthOf n y := by
  obtain ⟨y1, y2, y3⟩ := hy
  unfold press
  rw [allOf_snoc, List.map_append]
  have hc := crowd_snoc n (l.map (spanOf n)) (spanOf n y)
  simp only [List.map_cons, List.map_nil]
  by_cases hn : n ≤ 0
  · simp only [hn, if_true, lengthOf]
    have : (spanOf n y).2 > 0 := by simp [spanOf, hn, lenOf]; omega
    rw [if_pos this] at hc
    omega
  · simp only [hn, if_false, lengthOf]
    have hb := div_bounds h0 h1 hn (x := lenOf y) (by unfold lenOf; omega) (by unfold lenOf; omega)
    have e : y.2.2 - y.2.1 = lenOf y - 1 := by unfold lenOf; omega
    have e2 : (spanOf n y).2 = lenOf y % n := by simp [spanOf, hn]
    rw [e2] at hc
    rw [e]
    generalize lenOf y / n = A at *
    generalize (lenOf y - 1) / n = B at *
    generalize lenOf y % n = C at *
    generalize crowd n _ = D at *
    generalize crowd n _ = D' at *
    obtain ⟨b1, b2, b3, b4, b5, b6, b7⟩ := hb
    by_cases hC : C > 0
    · rw [if_pos hC] at hc b5; omega
    · rw [if_neg hC] at hc b5; omega
theorem allOf_bounds {n : Int} (h0 : 0 ≤ n) (h1 : n ≤ 20) : ∀ l : List (Int × Int × Int), (∀ y ∈ l, okL y) → 0 ≤ allOf n l ∧ allOf n l ≤ 201 * l.length
  | [], _ => by simp [allOf]
  | y :: l, h => by
    have ih := allOf_bounds h0 h1 l fun z hz => h z (by simp [hz])
    obtain ⟨y1, y2, y3⟩ := h y (by simp)
    have e : allOf n (y :: l) = (if n ≤ 0 then 0 else lenOf y / n) + allOf n l := by simp [allOf]
    rw [e]
    simp only [List.length_cons]
    split
    · omega
    · rename_i hn
      have hb := div_bounds h0 h1 hn (x := lenOf y) (by unfold lenOf; omega) (by unfold lenOf; omega)
      omega
theorem crowd_le_len (n : Int) (l : List (Int × Int)) : crowd n l ≤ l.length := crowd_le fun a _ => List.countP_le_length
theorem press_const {n : Int} (h0 : 0 ≤ n) (h1 : n ≤ 20) (l : List (Int × Int × Int)) (h : ∀ y ∈ l, y.2 = (5, 5)) : press n l = l.length := by
  have hl : ∀ y ∈ l, lenOf y = 1 := fun y hy => by have := h y hy; simp [lenOf, this]
  have hsp : ∀ b ∈ l.map (spanOf n), b = spanOf n (0, 5, 5) := by
    intro b hb
    obtain ⟨y, hy, rfl⟩ := List.mem_map.1 hb
    have e := h y hy
    simp [spanOf, lenOf, e]
  unfold press
  rw [crowd_const n _ _ hsp]
  have ha : allOf n l = if n = 1 then (l.length : Int) else 0 := by
    have : ∀ l : List (Int × Int × Int), (∀ y ∈ l, lenOf y = 1) → allOf n l = if n = 1 then (l.length : Int) else 0 := by
      intro l
      induction l with
      | nil => intro _; simp [allOf]
      | cons y l ih =>
        intro hh
        have e : allOf n (y :: l) = (if n ≤ 0 then 0 else lenOf y / n) + allOf n l := by simp [allOf]
        rw [e, ih (fun z hz => hh z (by simp [hz])), hh y (by simp)]
        by_cases hn : n ≤ 0
        · have : n = 0 := by omega
          subst this; simp
        · by_cases hn1 : n = 1
          · subst hn1; simp; omega
          · simp only [hn, hn1, if_false]
            rw [Int.ediv_eq_zero_of_lt (by omega) (by omega)]; rfl
    exact this l hl
  rw [ha]
  have es : (spanOf n (0, 5, 5)).2 = if n = 1 then 0 else 1 := by
    by_cases hn : n ≤ 0
    · have : n = 0 := by omega
      subst this; rfl
    · by_cases hn1 : n = 1
      · subst hn1; rfl
      · simp only [spanOf, hn, hn1, if_false, lenOf]
        exact Int.emod_eq_of_lt (by omega) (by omega)
  rw [es]
  by_cases hn1 : n = 1
  · simp [hn1]
  · simp [hn1]

/-! The program. -/
theorem tmod_fix {x n : Int} (hn : n > 0) : (if x.tmod n < 0 then x.tmod n + n else x.tmod n) = x % n := by
  rcases Int.lt_or_le x 0 with hx | hx
  · have e : x.tmod n = -((-x) % n) := by
      rw [← Int.tmod_eq_emod_of_nonneg (by omega : 0 ≤ -x), Int.neg_tmod]; omega
    have g1 := Int.emod_nonneg (-x) (show n ≠ 0 by omega)
    have g2 := Int.emod_lt_of_pos (-x) hn
    rw [e]
    by_cases hz : (-x) % n = 0
    · rw [hz]; simp
      exact (Int.emod_eq_zero_of_dvd (Int.dvd_neg.1 (Int.dvd_of_emod_eq_zero hz))).symm
    · rw [if_pos (by omega)]
      have q := Int.mul_ediv_add_emod (-x) n
      generalize hr : (-x) % n = r at *
      generalize (-x) / n = d at *
      have ex : x = (n - r) + n * (-d - 1) := by rw [Int.mul_sub, Int.mul_neg]; omega
      rw [ex, Int.add_mul_emod_self_left, Int.emod_eq_of_lt (by omega) (by omega)]
      omega
  · rw [Int.tmod_eq_emod_of_nonneg hx]
    have g1 := Int.emod_nonneg x (show n ≠ 0 by omega)
    rw [if_neg (by omega)]
def okS (s : Int × Int) : Prop := -100000 ≤ s.1 ∧ s.1 ≤ 100000
theorem crowded (l : List (Int × Int)) (n : Int) (h0 : 0 ≤ n) (h1 : n ≤ 20) (hl : l.length ≤ 100) (hs : ∀ s ∈ l, okS s) : F37 l n = some (crowd n l : Int) := by
  refine Yields.eq ?_
  unfold F37
  refine Yields.bind (P := fun t => t = (crowd n l : Int)) (Yields.loop l.length (fun i (z : Int × Int) => z.2 = i ∧ z.1 = (mx (cntA n l) i : Int)) ⟨rfl, rfl⟩ ?_) (fun y h => Yields.some h)
  rintro i ⟨m, a⟩ hi ⟨ha, hm⟩
  simp only at ha hm ⊢
  subst ha; subst hm
  unfold F37_s2
  refine Yields.bif (fun c => ?_) (fun c => ?_)
  · have c' : i < l.length := by simpa using c
    refine Yields.at (by omega) (by omega) fun y hy hmem => ?_
    have hy' := at_nat hy
    have hys := hs y hmem
    refine Yields.bind (P := fun t => t = (l.countP (hitb n y.1) : Int)) (Yields.loop l.length (fun i (z : Int × Int) => z.2 = i ∧ z.1 = (cntP (hitb n y.1) l i : Int)) ⟨rfl, rfl⟩ ?_) ?_
    · rintro j ⟨m, a⟩ hj ⟨ha, hm⟩
      simp only at ha hm ⊢
      subst ha; subst hm
      have hle := cntP_le (hitb n y.1) l j
      unfold F37_s1
      refine Yields.bif (fun c => ?_) (fun c => ?_)
      · have c' : j < l.length := by simpa using c
        refine Yields.at (by omega) (by omega) fun b hb hbm => ?_
        have hbs := hs b hbm
        have ex := cntP_succ (hitb n y.1) l j _ (at_nat hb)
        have ed : IntKind.i64.wrap (y.1 - b.1) = y.1 - b.1 := by
          obtain ⟨_, _⟩ := hys; obtain ⟨_, _⟩ := hbs
          rw [wrap_i64] <;> omega
        rw [ed]
        have yes : hitb n y.1 b = true → Yields (Nx j l.length (fun i (z : Int × Int) => z.2 = i ∧ z.1 = (cntP (hitb n y.1) l i : Int)) (fun t => t = (l.countP (hitb n y.1) : Int))) (some (.inl (IntKind.i64.wrap ((cntP (hitb n y.1) l j : Int) + 1), IntKind.i64.wrap ((j : Int) + 1)))) := by
          intro hh
          rw [hh, if_pos rfl] at ex
          refine Yields.some ⟨c', wrap_i1 (by omega), ?_⟩
          simp only; rw [wrap_i64] <;> omega
        have no : ¬ hitb n y.1 b = true → Yields (Nx j l.length (fun i (z : Int × Int) => z.2 = i ∧ z.1 = (cntP (hitb n y.1) l i : Int)) (fun t => t = (l.countP (hitb n y.1) : Int))) (some (.inl ((cntP (hitb n y.1) l j : Int), IntKind.i64.wrap ((j : Int) + 1)))) := by
          intro hh
          rw [if_neg hh] at ex
          refine Yields.some ⟨c', wrap_i1 (by omega), ?_⟩
          simp only; omega
        rw [hitb_iff] at yes no
        unfold dist at yes no
        refine Yields.bif (fun d => ?_) (fun d => ?_)
        · have d' : n > 0 := by simpa using d
          have tf := tmod_fix (x := y.1 - b.1) d'
          rw [if_pos d', ← tf] at yes no
          have g2 := Int.emod_lt_of_pos (y.1 - b.1) d'
          have g1 := Int.emod_nonneg (y.1 - b.1) (show n ≠ 0 by omega)
          rw [← tf] at g1 g2
          generalize (y.1 - b.1).tmod n = T at *
          have ew : T < 0 → IntKind.i64.wrap (T + n) = T + n := fun hT => by
            rw [if_pos hT] at g1 g2
            rw [wrap_i64] <;> omega
          refine Yields.bif (fun e => ?_) (fun e => ?_)
          · have e' : T < 0 := by simpa using e
            rw [if_pos e'] at yes no g1 g2
            rw [ew e']
            refine Yields.bif (fun f => ?_) (fun f => ?_)
            · refine Yields.bif (fun g => ?_) (fun g => ?_)
              · exact yes (by simp at f g; omega)
              · exact no (by simp at f g; omega)
            · exact no (by simp at f; omega)
          · have e' : ¬ T < 0 := by simpa using e
            rw [if_neg e'] at yes no g1 g2
            refine Yields.bif (fun f => ?_) (fun f => ?_)
            · refine Yields.bif (fun g => ?_) (fun g => ?_)
              · exact yes (by simp at f g; omega)
              · exact no (by simp at f g; omega)
            · exact no (by simp at f; omega)
        · have d' : ¬ n > 0 := by simpa using d
          rw [if_neg d'] at yes no
          refine Yields.bif (fun f => ?_) (fun f => ?_)
          · refine Yields.bif (fun g => ?_) (fun g => ?_)
            · exact yes (by simp at f g; omega)
            · exact no (by simp at f g; omega)
          · exact no (by simp at f; omega)
      · refine Yields.some ?_
        have : j = l.length := by simp at c; omega
        subst this
        show (_ : Int) = _
        rw [cntP_all]
    · rintro t rfl
      refine Yields.some ⟨c', wrap_i1 (by omega), ?_⟩
      simp only [mx, cntA, hy']
      split <;> omega
  · refine Yields.some ?_
    have : i = l.length := by simp at c; omega
    subst this
    rfl
theorem spans0 (l : List (Int × Int × Int)) (n : Int) (hn : n ≤ 0) (hl : l.length ≤ 100) (hs : ∀ y ∈ l, okL y) : F23 l n = some (l.map (spanOf n)) := by
  refine Yields.eq ?_
  unfold F23
  refine Yields.bind (P := fun t => t = l.map (spanOf n)) (Yields.loop l.length (fun i (z : Int × List (Int × Int)) => z.1 = i ∧ z.2 = (l.take i).map (spanOf n)) ⟨rfl, by simp⟩ ?_) (fun y h => Yields.some h)
  rintro i ⟨a, r⟩ hi ⟨ha, hr⟩
  simp only at ha hr ⊢
  subst ha
  have hlen : r.length = i := by rw [hr]; simp; omega
  unfold F23_s2
  refine Yields.bif (fun c => ?_) (fun c => ?_)
  · have c' : i < l.length := by simpa using c
    refine Yields.at (by omega) (by omega) fun y hy hmem => ?_
    have hy' := at_nat hy
    obtain ⟨y1, y2, y3⟩ := hs y hmem
    have hok : ∀ z : Int × Int, okApp (r.length + [z].length) 16 = true := fun z => ok_app (by simp; omega) (by simp; omega)
    have hd : decide (n ≤ 0) = true := by simpa using hn
    simp only [hok, hd, Bool.not_true, cond_false, cond_true]
    refine Yields.some ⟨c', wrap_i1 (by omega), ?_⟩
    simp only
    have e1 : IntKind.i64.wrap (y.2.2 - y.2.1) = y.2.2 - y.2.1 := wrap_i64 (by omega) (by omega)
    have e2 : IntKind.i64.wrap (y.2.2 - y.2.1 + 1) = y.2.2 - y.2.1 + 1 := wrap_i64 (by omega) (by omega)
    rw [e1, e2, hr, List.take_add_one, hy']
    simp [spanOf, hn, lenOf]
  · refine Yields.some ?_
    have : i = l.length := by simp at c; omega
    subst this
    show r = _
    rw [hr]; simp
theorem pressed (l : List (Int × Int × Int)) (n : Int) (h0 : 0 ≤ n) (h1 : n ≤ 20) (hl : l.length ≤ 100) (hs : ∀ y ∈ l, okL y) : F20 l n = some (press n l) := by
  refine Yields.eq ?_
  unfold F20
  have hcl := crowd_le_len n (l.map (spanOf n))
  rw [List.length_map] at hcl
  have hab := allOf_bounds h0 h1 l hs
  have hsp : ∀ s ∈ l.map (spanOf n), okS s := by
    intro s hs'
    obtain ⟨y, hy, rfl⟩ := List.mem_map.1 hs'
    obtain ⟨y1, y2, y3⟩ := hs y hy
    unfold okS spanOf
    split
    · simp only; omega
    · rename_i hn
      have hb := div_bounds h0 h1 hn (x := lenOf y) (by unfold lenOf; omega) (by unfold lenOf; omega)
      simp only
      have : lenOf y = y.2.2 - y.2.1 + 1 := rfl
      omega
  refine Yields.bif (fun c => ?_) (fun c => ?_)
  · have hn : n ≤ 0 := by simpa using c
    have : n = 0 := by omega
    subst this
    refine Yields.bindE (spans0 l 0 hn hl hs) ?_
    refine Yields.bindE (crowded _ 0 h0 h1 (by simpa using hl) hsp) ?_
    refine Yields.some ?_
    have : allOf 0 l = 0 := by
      have z : ∀ l : List (Int × Int × Int), (l.map fun _ => (0 : Int)).sum = 0 := by
        intro l; induction l with
        | nil => rfl
        | cons a l ih => simpa using ih
      simpa [allOf] using z l
    simp [press, this]
  · have hn : ¬ n ≤ 0 := by simpa using c
    refine Yields.bind (P := fun t => t = (allOf n l, l.map (spanOf n))) (Yields.loop l.length (fun i (z : Int × Int × List (Int × Int)) => z.2.1 = i ∧ z.1 = allOf n (l.take i) ∧ z.2.2 = (l.take i).map (spanOf n)) ⟨rfl, by simp [allOf], by simp⟩ ?_) ?_
    · rintro i ⟨s, a, r⟩ hi ⟨ha, hss, hr⟩
      simp only at ha hss hr ⊢
      subst ha
      have hlen : r.length = i := by rw [hr]; simp; omega
      have hab' := allOf_bounds h0 h1 (l.take i) (fun y hy => hs y (List.mem_of_mem_take hy))
      have htl : (l.take i).length = i := by simp; omega
      rw [htl] at hab'
      unfold F20_s1
      refine Yields.bif (fun c => ?_) (fun c => ?_)
      · have c' : i < l.length := by simpa using c
        refine Yields.at (by omega) (by omega) fun y hy hmem => ?_
        have hy' := at_nat hy
        obtain ⟨y1, y2, y3⟩ := hs y hmem
        have hok : ∀ z : Int × Int, okApp (r.length + [z].length) 16 = true := fun z => ok_app (by simp; omega) (by simp; omega)
        have e1 : IntKind.i64.wrap (y.2.2 - y.2.1) = y.2.2 - y.2.1 := wrap_i64 (by omega) (by omega)
        have e2 : IntKind.i64.wrap (y.2.2 - y.2.1 + 1) = lenOf y := wrap_i64 (by omega) (by omega)
        have hL : 1 ≤ lenOf y ∧ lenOf y ≤ 201 := by unfold lenOf; omega
        have hb := div_bounds h0 h1 hn hL.1 hL.2
        have e3 : F20__1 n y = lenOf y / n := by
          unfold F20__1; rw [e1, e2, Int.tdiv_eq_ediv_of_nonneg (by omega)]
          exact wrap_i64 (by omega) (by omega)
        have e4 : (lenOf y).tmod n = lenOf y % n := Int.tmod_eq_emod_of_nonneg (by omega)
        have e5 : F20__3 n y = y.2.1 + lenOf y - lenOf y % n := by
          unfold F20__3 F20__2; rw [e1, e2, e4]
          have : IntKind.i64.wrap (y.2.1 + lenOf y) = y.2.1 + lenOf y := wrap_i64 (by omega) (by omega)
          rw [this]
          exact wrap_i64 (by omega) (by omega)
        rw [e1, e2, e3, e4, e5]
        have hd : decide (lenOf y > 0) = true := by simp; omega
        simp only [hok, hd, Bool.not_true, cond_false, cond_true]
        refine Yields.some ⟨c', wrap_i1 (by omega), ?_, ?_⟩
        · simp only
          rw [List.take_add_one, hy']
          simp only [Option.toList_some]
          rw [allOf_snoc, if_neg hn, hss]
          exact wrap_i64 (by omega) (by omega)
        · simp only
          rw [List.take_add_one, hy', hr]
          simp [spanOf, hn]
      · refine Yields.some ?_
        have : i = l.length := by simp at c; omega
        subst this
        show (s, r) = _
        rw [hss, hr]; simp
    · rintro _ rfl
      refine Yields.bindE (crowded _ n h0 h1 (by simpa using hl) hsp) ?_
      refine Yields.some ?_
      simp only [press]
      exact wrap_i64 (by omega) (by omega)
theorem lived (l : List (Int × Int)) (hl : l.length ≤ 30) (hW : ∀ y ∈ l, W55 y) : Yields (fun (m : List (Int × Int × Int)) => m.length = l.length ∧ ∀ y ∈ m, okL y) (F19 l) := by
  unfold F19
  refine Yields.bind (P := fun (m : List (Int × Int × Int)) => m.length = l.length ∧ ∀ y ∈ m, okL y) (Yields.loop l.length (fun i (z : Int × List (Int × Int × Int)) => z.1 = i ∧ z.2.length = i ∧ ∀ y ∈ z.2, okL y) ⟨rfl, rfl, by simp⟩ ?_) (fun m hm => Yields.some hm)
  rintro i ⟨a, m⟩ hi ⟨ha, hm, hk⟩
  simp only at ha hm hk ⊢
  subst ha
  unfold F19_s1
  refine Yields.bif (fun c => ?_) (fun c => ?_)
  · have c' : i < l.length := by simpa using c
    refine Yields.at (by omega) (by omega) fun y hy hmem => ?_
    have hw := hW _ hmem
    have h1 := wf_u8 hw.1
    have h2 := wf_u8 hw.2.1
    have hok : ∀ z : Int × Int × Int, okApp (m.length + [z].length) 24 = true := fun z => ok_app (by simp; omega) (by simp; omega)
    simp only [hok, Bool.not_true, cond_false]
    refine Yields.some ⟨c', wrap_i1 (by omega), by simp; omega, ?_⟩
    intro z hz
    rcases List.mem_append.1 hz with h | h
    · exact hk z h
    · rw [List.mem_singleton.1 h]
      have t1 : y.1.tmod 60 = y.1 % 60 := Int.tmod_eq_emod_of_nonneg h1.1
      have t2 : y.2.tmod 60 = y.2 % 60 := Int.tmod_eq_emod_of_nonneg h2.1
      have w1 : IntKind.i64.wrap (y.1 % 60) = y.1 % 60 := wrap_i64 (by omega) (by omega)
      have w2 : IntKind.i64.wrap (y.2 % 60) = y.2 % 60 := wrap_i64 (by omega) (by omega)
      have w3 : IntKind.i64.wrap (y.1 % 60 + y.2 % 60) = y.1 % 60 + y.2 % 60 := wrap_i64 (by omega) (by omega)
      unfold okL F19__1
      simp only [t1, t2, w1, w2, w3]
      omega
  · refine Yields.some ?_
    have : i = l.length := by simp at c; omega
    exact ⟨by omega, hk⟩
theorem F21_eq {y : Int × Int × Int} {n : Int} (h0 : 0 ≤ n) (h1 : n ≤ 20) (hy : okL y) : F21 y.1 y.2.1 y.2.2 n = lengthOf n y ∧ 1 ≤ lengthOf n y ∧ lengthOf n y ≤ 201 := by
  obtain ⟨y1, y2, y3⟩ := hy
  unfold F21 lengthOf
  by_cases hn : n ≤ 0
  · simp [hn]
  · have hb := div_bounds h0 h1 hn (x := lenOf y) (by unfold lenOf; omega) (by unfold lenOf; omega)
    have e1 : IntKind.i64.wrap (y.2.2 - y.2.1) = y.2.2 - y.2.1 := wrap_i64 (by omega) (by omega)
    have e : lenOf y - 1 = y.2.2 - y.2.1 := by unfold lenOf; omega
    rw [e] at hb
    have e2 : IntKind.i64.wrap ((y.2.2 - y.2.1) / n) = (y.2.2 - y.2.1) / n := wrap_i64 (by omega) (by omega)
    simp only [hn, if_false, decide_false, cond_false]
    rw [e1, Int.tdiv_eq_ediv_of_nonneg (by omega), e2, wrap_i64 (by omega) (by omega)]
    omega


/-! Lengths and spans, one by one. -/
theorem lengthOf_iff {n : Int} (hn : 0 < n) {y : Int × Int × Int} (hy : okL y) (j : Nat) : ((j : Int) < lengthOf n y ↔ (j : Int) * n ≤ y.2.2 - y.2.1) := by
  unfold lengthOf
  rw [if_neg (by omega)]
  have := Int.le_ediv_iff_mul_le (a := (j : Int)) (b := y.2.2 - y.2.1) hn
  omega
theorem mul_one_le (j : Nat) {n : Int} (hn : 0 < n) : (j : Int) ≤ (j : Int) * n := by
  have := Int.mul_le_mul_of_nonneg_left (show (1 : Int) ≤ n by omega) (show (0 : Int) ≤ (j : Int) by omega)
  omega
theorem reflen {y : Int × Int × Int} {n : Int} (h0 : 0 ≤ n) (h1 : n ≤ 20) (hy : okL y) : F22 y.1 y.2.1 y.2.2 n = some (lengthOf n y) := by
  have hy0 := hy
  obtain ⟨y1, y2, y3⟩ := hy0
  refine Yields.eq ?_
  unfold F22
  refine Yields.bind (P := fun t => t = lengthOf n y) (Yields.loop 300 (fun i (z : Int) => z = (i : Int) + 1 ∧ (i = 0 ∨ (0 < n ∧ (i : Int) * n ≤ y.2.2 - y.2.1))) ⟨rfl, .inl rfl⟩ ?_) (fun y h => Yields.some h)
  rintro i z hi ⟨rfl, hz⟩
  unfold F22_s1
  refine Yields.bif (fun c => ?_) (fun c => ?_)
  · have hn : 0 < n := by simpa using c
    have hle : (i : Int) * n ≤ y.2.2 - y.2.1 := by
      rcases hz with rfl | hz
      · simp; omega
      · exact hz.2
    have hil := mul_one_le i hn
    have e : ((i : Int) + 1) * n = (i : Int) * n + n := by rw [Int.add_mul, Int.one_mul]
    rw [e]
    have hL := lengthOf_iff hn hy i
    have hL1 := lengthOf_iff hn hy (i + 1)
    have e' : ((i + 1 : Nat) : Int) * n = (i : Int) * n + n := by rw [← e]; simp
    rw [e'] at hL1
    have hm0 : 0 ≤ (i : Int) * n := Int.mul_nonneg (by omega) (by omega)
    generalize (i : Int) * n = p at *
    rw [wrap_i64 (x := p + n) (by omega) (by omega), wrap_i64 (by omega) (by omega)]
    refine Yields.bif (fun d => ?_) (fun d => ?_)
    · have d' : y.2.1 + (p + n) ≤ y.2.2 := by simpa using d
      refine Yields.some ⟨by omega, ?_, .inr ⟨hn, ?_⟩⟩
      · rw [wrap_i64 (by omega) (by omega)]; simp
      · rw [e']; omega
    · have d' : ¬ y.2.1 + (p + n) ≤ y.2.2 := by simpa using d
      refine Yields.some ?_
      show (i : Int) + 1 = _
      omega
  · have hn : ¬ 0 < n := by simpa using c
    refine Yields.some ?_
    rcases hz with rfl | hz
    · show _ = lengthOf n y
      unfold lengthOf; rw [if_pos (by omega)]; simp
    · exact absurd hz.1 hn
def cellOf (n : Int) (y : Int × Int × Int) (j : Nat) : Int × Int := (y.2.1 + (j : Int) * n, if y.2.2 - (y.2.1 + (j : Int) * n) + 1 < n then y.2.2 - (y.2.1 + (j : Int) * n) + 1 else n)
def spansY (n : Int) (y : Int × Int × Int) : List (Int × Int) := if n ≤ 0 then [(y.2.1, lenOf y)] else (List.range (lengthOf n y).toNat).map (cellOf n y)
def spansAll (n : Int) (l : List (Int × Int × Int)) : List (Int × Int) := l.flatMap (spansY n)
theorem len_small {n : Int} (h0 : 0 ≤ n) (h1 : n ≤ 20) {y : Int × Int × Int} (hy : okL y) : 1 ≤ lengthOf n y ∧ lengthOf n y ≤ 201 := (F21_eq h0 h1 hy).2
theorem spansY_len {n : Int} (h0 : 0 ≤ n) (h1 : n ≤ 20) {y : Int × Int × Int} (hy : okL y) : (spansY n y).length ≤ 201 := by
  have := len_small h0 h1 hy
  unfold spansY
  split
  · simp
  · simp; omega
theorem spansAll_len {n : Int} (h0 : 0 ≤ n) (h1 : n ≤ 20) : ∀ l : List (Int × Int × Int), (∀ y ∈ l, okL y) → (spansAll n l).length ≤ 201 * l.length
  | [], _ => by simp [spansAll]
  | y :: l, h => by
    have ih := spansAll_len h0 h1 l fun z hz => h z (by simp [hz])
    have := spansY_len h0 h1 (h y (by simp))
    unfold spansAll at ih ⊢
    rw [List.flatMap_cons, List.length_append, List.length_cons]; omega
theorem spansAll_take {n : Int} {l : List (Int × Int × Int)} {i : Nat} {y : Int × Int × Int} (h : l[i]? = some y) : spansAll n (l.take (i + 1)) = spansAll n (l.take i) ++ spansY n y := by
  unfold spansAll
  rw [List.take_add_one, h]
  simp
theorem range_snoc (f : Nat → Int × Int) (j : Nat) : (List.range (j + 1)).map f = (List.range j).map f ++ [f j] := by
  rw [List.range_succ, List.map_append]; rfl
def okSp (n : Int) (s : Int × Int) : Prop := 0 ≤ s.1 ∧ s.1 ≤ 200 ∧ 1 ≤ s.2 ∧ s.2 ≤ 201 ∧ (0 < n → s.2 ≤ n)
theorem cell_ok {n : Int} (hn : 0 < n) (h1 : n ≤ 20) {y : Int × Int × Int} (hy : okL y) {j : Nat} (hj : (j : Int) < lengthOf n y) : okSp n (cellOf n y j) := by
  have := (lengthOf_iff hn hy j).1 hj
  have hm0 : 0 ≤ (j : Int) * n := Int.mul_nonneg (by omega) (by omega)
  obtain ⟨y1, y2, y3⟩ := hy
  unfold okSp cellOf
  simp only
  generalize (j : Int) * n = p at *
  split <;> omega
theorem spansY_ok {n : Int} (h0 : 0 ≤ n) (h1 : n ≤ 20) {y : Int × Int × Int} (hy : okL y) : ∀ s ∈ spansY n y, okSp n s := by
  intro s hs
  unfold spansY at hs
  split at hs
  · rename_i hn
    simp only [List.mem_singleton] at hs
    subst hs
    obtain ⟨y1, y2, y3⟩ := hy
    unfold okSp lenOf
    simp only
    omega
  · rename_i hn
    obtain ⟨j, hj, rfl⟩ := List.mem_map.1 hs
    have := List.mem_range.1 hj
    exact cell_ok (by omega) h1 hy (by omega)
theorem spansAll_ok {n : Int} (h0 : 0 ≤ n) (h1 : n ≤ 20) {l : List (Int × Int × Int)} (h : ∀ y ∈ l, okL y) : ∀ s ∈ spansAll n l, okSp n s := by
  intro s hs
  obtain ⟨y, hy, hs⟩ := List.mem_flatMap.1 hs
  exact spansY_ok h0 h1 (h y hy) s hs

theorem spansP (l : List (Int × Int × Int)) (n : Int) (h0 : 0 ≤ n) (h1 : n ≤ 20) (hl : l.length ≤ 30) (hs : ∀ y ∈ l, okL y) : F23 l n = some (spansAll n l) := by
  by_cases hn : n ≤ 0
  · rw [spans0 l n hn (by omega) hs]
    unfold spansAll
    have : ∀ l : List (Int × Int × Int), l.map (spanOf n) = l.flatMap (spansY n) := by
      intro l
      induction l with
      | nil => rfl
      | cons y l ih => rw [List.map_cons, List.flatMap_cons, ih]; simp [spansY, spanOf, hn]
    rw [this]
  · have hn' : 0 < n := by omega
    refine Yields.eq ?_
    unfold F23
    refine Yields.bind (P := fun t => t = spansAll n l) (Yields.loop l.length (fun i (z : Int × List (Int × Int)) => z.1 = i ∧ z.2 = spansAll n (l.take i)) ⟨rfl, by simp [spansAll]⟩ ?_) (fun y h => Yields.some h)
    rintro i ⟨a, r⟩ hi ⟨ha, hr⟩
    simp only at ha hr ⊢
    subst ha
    have hlen : r.length ≤ 201 * i := by
      have := spansAll_len h0 h1 (l.take i) (fun y hy => hs y (List.mem_of_mem_take hy))
      rw [hr]; simp at this; have hmin : min i l.length = i := by omega
      rw [hmin] at this; exact this
    unfold F23_s2
    refine Yields.bif (fun c => ?_) (fun c => ?_)
    · have c' : i < l.length := by simpa using c
      refine Yields.at (by omega) (by omega) fun y hy hmem => ?_
      have hy' := at_nat hy
      have hok := hs y hmem
      obtain ⟨y1, y2, y3⟩ := hs y hmem
      have hd : decide (n ≤ 0) = false := by simpa using hn
      rw [hd]
      simp only [cond_false]
      have hL := len_small h0 h1 hok
      have hsy : spansY n y = (List.range (lengthOf n y).toNat).map (cellOf n y) := by unfold spansY; rw [if_neg hn]
      refine Yields.bind (P := fun t => t = r ++ spansY n y) (Yields.loop (lengthOf n y).toNat (fun j (z : Int × List (Int × Int)) => z.1 = y.2.1 + (j : Int) * n ∧ (j : Int) < lengthOf n y ∧ z.2 = r ++ (List.range j).map (cellOf n y)) ⟨by simp, by first | omega | (simp only; omega), by simp⟩ ?_) ?_
      · rintro j ⟨a, m⟩ hj ⟨ha, hjl, hm⟩
        simp only at ha hjl hm ⊢
        subst ha
        have hle := (lengthOf_iff hn' hok j).1 hjl
        have hle1 := lengthOf_iff hn' hok (j + 1)
        have e' : ((j + 1 : Nat) : Int) * n = (j : Int) * n + n := by rw [Int.natCast_add, Int.add_mul]; simp
        rw [e'] at hle1
        have hm0 : 0 ≤ (j : Int) * n := Int.mul_nonneg (by omega) (by omega)
        have hml : m.length ≤ 7000 := by rw [hm]; simp; omega
        have hok2 : ∀ z : Int × Int, okApp (m.length + [z].length) 16 = true := fun z => ok_app (by simp; omega) (by simp; omega)
        have hcell : ((y.2.1 + (j : Int) * n, F23__1 n y (y.2.1 + (j : Int) * n)) : Int × Int) = cellOf n y j := by
          unfold F23__1 cellOf
          rw [wrap_i64 (x := y.2.2 - (y.2.1 + (j : Int) * n)) (by omega) (by omega), wrap_i64 (by omega) (by omega)]
        unfold F23_s1
        have d1 : decide (y.2.1 + (j : Int) * n ≤ y.2.2) = true := by simp; omega
        have d2 : decide ((m.length : Int) < 1048576) = true := by simp; omega
        rw [d1, d2]
        simp only [hok2, cond_true, Bool.not_true, cond_false]
        rw [hcell, wrap_i64 (x := y.2.2 - (y.2.1 + (j : Int) * n)) (by omega) (by omega)]
        have hmm : m ++ [cellOf n y j] = r ++ (List.range (j + 1)).map (cellOf n y) := by rw [hm, range_snoc, List.append_assoc]
        refine Yields.bif (fun d => ?_) (fun d => ?_)
        · have d' : y.2.2 - (y.2.1 + (j : Int) * n) < n := by simpa using d
          refine Yields.some ?_
          show m ++ [cellOf n y j] = _
          rw [hmm, hsy]
          have : (lengthOf n y).toNat = j + 1 := by omega
          rw [this]
        · have d' : ¬ y.2.2 - (y.2.1 + (j : Int) * n) < n := by simpa using d
          refine Yields.some ⟨by omega, ?_, by omega, hmm⟩
          simp only
          rw [e', wrap_i64 (by omega) (by omega)]; omega
      · rintro t rfl
        refine Yields.some ⟨c', wrap_i1 (by omega), ?_⟩
        simp only
        rw [spansAll_take hy', hr]
    · refine Yields.some ?_
      have : i = l.length := by simp at c; omega
      subst this
      show r = _
      rw [hr, List.take_length]
theorem spansR (l : List (Int × Int × Int)) (n : Int) (h0 : 0 ≤ n) (h1 : n ≤ 20) (hl : l.length ≤ 30) (hs : ∀ y ∈ l, okL y) : F24 l n = some (spansAll n l) := by
  refine Yields.eq ?_
  unfold F24
  refine Yields.bind (P := fun t => t = spansAll n l) (Yields.loop l.length (fun i (z : Int × List (Int × Int)) => z.1 = i ∧ z.2 = spansAll n (l.take i)) ⟨rfl, by simp [spansAll]⟩ ?_) (fun y h => Yields.some h)
  rintro i ⟨a, r⟩ hi ⟨ha, hr⟩
  simp only at ha hr ⊢
  subst ha
  have hlen : r.length ≤ 201 * i := by
    have := spansAll_len h0 h1 (l.take i) (fun y hy => hs y (List.mem_of_mem_take hy))
    rw [hr]; simp at this; have hmin : min i l.length = i := by omega
    rw [hmin] at this; exact this
  unfold F24_s2
  refine Yields.bif (fun c => ?_) (fun c => ?_)
  · have c' : i < l.length := by simpa using c
    have hy' : l[i]? = some l[i] := List.getElem?_eq_getElem c'
    have hok := hs l[i] (List.getElem_mem c')
    generalize hyv : l[i] = y at *
    obtain ⟨y1, y2, y3⟩ := hok
    have hok : okL y := ⟨y1, y2, y3⟩
    have hL := len_small h0 h1 hok
    refine Yields.bind (P := fun t => t = r ++ spansY n y) (Yields.loop (lengthOf n y).toNat (fun j (z : Int × List (Int × Int)) => z.1 = j ∧ z.2 = r ++ (spansY n y).take j) ⟨rfl, by simp⟩ ?_) ?_
    · rintro j ⟨a, m⟩ hj ⟨ha, hm⟩
      simp only at ha hm ⊢
      subst ha
      have hsl := spansY_len h0 h1 hok
      have hml : m.length ≤ 7000 := by rw [hm]; simp; omega
      have hok2 : ∀ z : Int × Int, okApp (m.length + [z].length) 16 = true := fun z => ok_app (by simp; omega) (by simp; omega)
      unfold F24_s1
      refine Yields.at (by omega) (by omega) fun y' hy2 _ => ?_
      have : y' = y := by have := at_nat hy2; rw [hy'] at this; cases this; rfl
      subst this
      refine Yields.bindE (reflen h0 h1 hok) ?_
      refine Yields.bif (fun d => ?_) (fun d => ?_)
      · have d' : (j : Int) < lengthOf n y' := by simpa using d
        have go : ∀ z : Int × Int, (spansY n y')[j]? = some z → Yields (Nx j (lengthOf n y').toNat (fun j (z : Int × List (Int × Int)) => z.1 = j ∧ z.2 = r ++ (spansY n y').take j) (fun t => t = r ++ spansY n y')) (some (.inl (IntKind.i64.wrap ((j : Int) + 1), m ++ [z]))) := by
          intro z hz
          refine Yields.some ⟨by omega, wrap_i1 (by omega), ?_⟩
          simp only
          rw [List.take_add_one, hz, hm, List.append_assoc]; rfl
        simp only [hok2, Bool.not_true, cond_false]
        refine Yields.bif (fun e => ?_) (fun e => ?_)
        · have hn : 0 < n := by simpa using e
          have hle := (lengthOf_iff hn hok j).1 d'
          have hm0 : 0 ≤ (j : Int) * n := Int.mul_nonneg (by omega) (by omega)
          have hget : (spansY n y')[j]? = some (cellOf n y' j) := by
            unfold spansY; rw [if_neg (by omega), List.getElem?_map, List.getElem?_range (by omega)]; rfl
          have hcell : ((IntKind.i64.wrap (y'.2.1 + IntKind.i64.wrap ((j : Int) * n)), IntKind.i64.wrap (F24__2 n j y' + 1)) : Int × Int) = cellOf n y' j := by
            unfold F24__2 F24__1 cellOf
            generalize (j : Int) * n = p at *
            rw [wrap_i64 (x := p) (by omega) (by omega), wrap_i64 (x := y'.2.1 + p) (by omega) (by omega), wrap_i64 (x := y'.2.1 + p + n) (by omega) (by omega), wrap_i64 (x := y'.2.1 + p + n - 1) (by omega) (by omega)]
            split
            · rw [wrap_i64 (x := y'.2.1 + p + n - 1 - (y'.2.1 + p)) (by omega) (by omega), wrap_i64 (by omega) (by omega), if_neg (by omega)]; congr 1; omega
            · rw [wrap_i64 (x := y'.2.2 - (y'.2.1 + p)) (by omega) (by omega), wrap_i64 (by omega) (by omega)]
              split
              · rfl
              · congr 1; omega
          rw [hcell]
          exact go _ hget
        · have hn : n = 0 := by have : ¬ 0 < n := by simpa using e
                                omega
          subst hn
          have hj0 : j = 0 := by unfold lengthOf at d'; simp at d'; omega
          subst hj0
          have hcell : ((IntKind.i64.wrap (y'.2.1 + IntKind.i64.wrap (((0 : Nat) : Int) * 0)), F24__3 0 ((0 : Nat) : Int) y') : Int × Int) = (y'.2.1, lenOf y') := by
            unfold F24__3 lenOf
            simp only [Int.mul_zero]
            rw [wrap_i64 (x := 0) (by omega) (by omega), wrap_i64 (x := y'.2.1 + 0) (by omega) (by omega), wrap_i64 (x := y'.2.2 - (y'.2.1 + 0)) (by omega) (by omega), wrap_i64 (by omega) (by omega)]
            simp
          rw [hcell]
          exact go _ (by simp [spansY])
      · have d' : ¬ (j : Int) < lengthOf n y' := by simpa using d
        refine Yields.some ?_
        show m = _
        rw [hm, List.take_of_length_le]
        unfold spansY; split
        · have : lengthOf n y' = 1 := by unfold lengthOf; rw [if_pos (by assumption)]
          simp; omega
        · simp; omega
    · rintro t rfl
      refine Yields.some ⟨c', wrap_i1 (by omega), ?_⟩
      simp only
      rw [spansAll_take hy', hr]
  · refine Yields.some ?_
    have : i = l.length := by simp at c; omega
    subst this
    show r = _
    rw [hr, List.take_length]

/-! The pressure, cycle by cycle. -/
theorem mx_congr {f g : Nat → Nat} : ∀ i, (∀ j, j < i → f j = g j) → mx f i = mx g i
  | 0, _ => rfl
  | i + 1, h => by simp only [mx]; rw [mx_congr i fun j hj => h j (by omega), h i (by omega)]
theorem mx_add {f : Nat → Nat} (A : Nat) : ∀ i, 0 < i → mx (fun j => A + f j) i = A + mx f i
  | 0, h => by omega
  | 1, _ => by simp [mx]
  | i + 2, _ => by
    have := mx_add (f := f) A (i + 1) (by omega)
    simp only [mx] at this ⊢
    omega
theorem hitb_mod {n : Int} (hn : 0 < n) (p : Int) (b : Int × Int) : hitb n (p % n) b = hitb n p b := by
  unfold hitb dist
  simp only [show n > 0 from hn, if_true]
  rw [Int.emod_sub_emod]
theorem crowd_cycles {n : Int} (l : List (Int × Int)) (E : Nat) (hE : ∀ a ∈ l, ∃ c : Nat, c < E ∧ ∀ b, hitb n (c : Int) b = hitb n a.1 b) : mx (fun c => l.countP (hitb n (c : Int))) E = crowd n l := by
  apply Nat.le_antisymm
  · exact mx_le _ fun j _ => point_crowd n _ l
  · refine crowd_le fun a ha => ?_
    obtain ⟨c, hc, he⟩ := hE a ha
    have := le_mx (f := fun c : Nat => l.countP (hitb n (c : Int))) E c hc
    refine Nat.le_trans (Nat.le_of_eq ?_) this
    congr 1
    funext b
    exact (he b).symm
theorem count_spansY {n : Int} (hn : 0 < n) (h1 : n ≤ 20) {y : Int × Int × Int} (hy : okL y) (p : Int) : ((spansY n y).countP (hitb n p) : Int) = lenOf y / n + ([spanOf n y].countP (hitb n p) : Int) := by
  have hL := len_small (by omega) h1 hy
  have hb := div_bounds (n := n) (by omega) h1 (by omega) (x := lenOf y) (by obtain ⟨_, _, _⟩ := hy; unfold lenOf; omega) (by obtain ⟨_, _, _⟩ := hy; unfold lenOf; omega)
  have hD : lenOf y - 1 = y.2.2 - y.2.1 := by unfold lenOf; omega
  have hlen : lengthOf n y = lenOf y / n + (if lenOf y % n > 0 then 1 else 0) := by
    have := hb.2.2.2.2.1
    unfold lengthOf; rw [if_neg (by omega), ← hD]; exact this
  have hq := Int.mul_ediv_add_emod (lenOf y) n
  -- the whole ones
  have whole : ∀ k : Nat, (k : Int) ≤ lenOf y / n → (((List.range k).map (cellOf n y)).countP (hitb n p)) = k := by
    intro k hk
    rw [List.countP_eq_length.2, List.length_map, List.length_range]
    intro s hs
    obtain ⟨j, hj, rfl⟩ := List.mem_map.1 hs
    have hjk := List.mem_range.1 hj
    have hjn : ((j : Int) + 1) * n ≤ lenOf y := by
      have : (j : Int) + 1 ≤ lenOf y / n := by omega
      exact (Int.le_ediv_iff_mul_le hn).1 this
    rw [hitb_iff]
    have e2 : (cellOf n y j).2 = n := by
      unfold cellOf
      simp only
      rw [if_neg]
      have : ((j : Int) + 1) * n = (j : Int) * n + n := by rw [Int.add_mul, Int.one_mul]
      omega
    rw [e2]
    unfold dist
    rw [if_pos hn]
    exact ⟨Int.emod_nonneg _ (by omega), Int.emod_lt_of_pos _ hn⟩
  have hsy : spansY n y = (List.range (lengthOf n y).toNat).map (cellOf n y) := by unfold spansY; rw [if_neg (by omega)]
  rw [hsy]
  obtain ⟨q, hqv⟩ : ∃ q : Nat, lenOf y / n = (q : Int) := ⟨(lenOf y / n).toNat, by omega⟩
  have hrest : spanOf n y = (y.2.1 + lenOf y - lenOf y % n, lenOf y % n) := by unfold spanOf; rw [if_neg (by omega)]
  by_cases hr : lenOf y % n > 0
  · rw [if_pos hr] at hlen
    have : (lengthOf n y).toNat = q + 1 := by omega
    rw [this, range_snoc, List.countP_append, whole q (by omega), hqv]
    have ec : cellOf n y q = spanOf n y := by
      rw [hrest]
      unfold cellOf
      have e1 : (q : Int) * n = lenOf y - lenOf y % n := by rw [← hqv, Int.mul_comm]; omega
      rw [e1]
      have e2 : y.2.2 - (y.2.1 + (lenOf y - lenOf y % n)) + 1 = lenOf y % n := by unfold lenOf; omega
      rw [e2, if_pos (by omega)]
      congr 1
      omega
    rw [ec]; omega
  · rw [if_neg hr] at hlen
    have : (lengthOf n y).toNat = q := by omega
    rw [this, whole q (by omega), hqv]
    have hz : lenOf y % n = 0 := by omega
    have : [spanOf n y].countP (hitb n p) = 0 := by
      rw [List.countP_eq_zero]
      intro s hs h
      rw [List.mem_singleton.1 hs, hrest, hitb_iff] at h
      simp only at h; omega
    rw [this]; omega
theorem count_all {n : Int} (hn : 0 < n) (h1 : n ≤ 20) (p : Int) : ∀ l : List (Int × Int × Int), (∀ y ∈ l, okL y) → ((spansAll n l).countP (hitb n p) : Int) = allOf n l + ((l.map (spanOf n)).countP (hitb n p) : Int)
  | [], _ => by simp [spansAll, allOf]
  | y :: l, h => by
    have ih := count_all hn h1 p l fun z hz => h z (by simp [hz])
    have hy := count_spansY hn h1 (h y (by simp)) p
    have e : allOf n (y :: l) = (if n ≤ 0 then 0 else lenOf y / n) + allOf n l := by simp [allOf]
    rw [if_neg (by omega)] at e
    unfold spansAll at ih ⊢
    rw [List.flatMap_cons, List.countP_append, e]
    have e3 : ((y :: l).map (spanOf n)).countP (hitb n p) = [spanOf n y].countP (hitb n p) + (l.map (spanOf n)).countP (hitb n p) := by
      rw [List.map_cons, ← List.singleton_append, List.countP_append]
    rw [e3]; omega

def mt (n : Int) (s : Int × Int) (c : Int) (k : Nat) : Prop := if 0 < n then (s.1 + k) % n = c else s.1 + k = c
theorem mt_pos {n : Int} {s : Int × Int} {c : Int} {k : Nat} (h : 0 < n) : mt n s c k ↔ (s.1 + k) % n = c := by unfold mt; rw [if_pos h]
theorem mt_neg {n : Int} {s : Int × Int} {c : Int} {k : Nat} (h : ¬ 0 < n) : mt n s c k ↔ s.1 + k = c := by unfold mt; rw [if_neg h]
theorem hit_match {n c : Int} (h0 : 0 ≤ n) (h1 : n ≤ 20) (hc0 : 0 ≤ c) (hc1 : 0 < n → c < n) {s : Int × Int} (hs : okSp n s) : hitb n c s = true ↔ ∃ k : Nat, (k : Int) < s.2 ∧ mt n s c k := by
  unfold mt
  obtain ⟨s1, s2, s3, s4, s5⟩ := hs
  rw [hitb_iff]
  unfold dist
  by_cases hn : 0 < n
  · simp only [show n > 0 from hn, if_true, hn]
    constructor
    · rintro ⟨a, b⟩
      refine ⟨((c - s.1) % n).toNat, by omega, ?_⟩
      rw [Int.toNat_of_nonneg a, Int.add_emod_emod]
      have : s.1 + (c - s.1) = c := by omega
      rw [this]; exact Int.emod_eq_of_lt hc0 (hc1 hn)
    · rintro ⟨k, hk, rfl⟩
      rw [Int.emod_sub_emod]
      have : s.1 + (k : Int) - s.1 = k := by omega
      rw [this, Int.emod_eq_of_lt (by omega) (by have := s5 hn; omega)]
      omega
  · simp only [show ¬ n > 0 from hn, if_false, hn]
    constructor
    · rintro ⟨a, b⟩; exact ⟨(c - s.1).toNat, by omega, by omega⟩
    · rintro ⟨k, hk, h⟩; omega
theorem refpress (l : List (Int × Int × Int)) (n : Int) (h0 : 0 ≤ n) (h1 : n ≤ 20) (hl : l.length ≤ 30) (hs : ∀ y ∈ l, okL y) : F25 l n = some (press n l) := by
  refine Yields.eq ?_
  unfold F25
  refine Yields.bindE (spansR l n h0 h1 hl hs) ?_
  have hok := spansAll_ok h0 h1 hs
  have hsl := spansAll_len h0 h1 l hs
  generalize hS : spansAll n l = S at *
  have hSl : S.length ≤ 6030 := by omega
  refine Yields.bind (P := fun (E : Int) => 0 ≤ E ∧ E ≤ 401 ∧ (0 < n → E = n) ∧ (n = 0 → ∀ s ∈ S, s.1 + s.2 ≤ E)) (Yields.loop S.length (fun i (z : Int × Int) => z.2 = i ∧ 0 ≤ z.1 ∧ z.1 ≤ 401 ∧ (0 < n → z.1 = n) ∧ (n = 0 → ∀ j s, j < i → S[j]? = some s → s.1 + s.2 ≤ z.1)) ⟨rfl, h0, by first | omega | (simp only; omega), fun _ => rfl, fun _ j s h => by omega⟩ ?_) ?_
  · rintro i ⟨e, a⟩ hi ⟨ha, e0, e1, e2, e3⟩
    simp only at ha e0 e1 e2 e3 ⊢
    subst ha
    unfold F25_s1
    refine Yields.bif (fun c => ?_) (fun c => ?_)
    · have c' : i < S.length := by simpa using c
      refine Yields.bif (fun d => ?_) (fun d => ?_)
      · have d' : n = 0 := by simpa using d
        refine Yields.at (by omega) (by omega) fun s hs1 hmem => ?_
        obtain ⟨s1, s2, s3, s4, s5⟩ := hok s hmem
        have hw : IntKind.i64.wrap (s.1 + s.2) = s.1 + s.2 := wrap_i64 (by omega) (by omega)
        refine Yields.some ⟨c', wrap_i1 (by omega), ?_, ?_, fun h => by omega, fun _ j s' hj hs' => ?_⟩
        · unfold F25__1; rw [hw]; simp only; split <;> omega
        · unfold F25__1; rw [hw]; simp only; split <;> omega
        · unfold F25__1; rw [hw]; simp only
          by_cases hji : j = i
          · subst hji
            rw [at_nat hs1] at hs'; cases hs'
            split <;> omega
          · have := e3 d' j s' (by omega) hs'
            split <;> omega
      · have d' : n ≠ 0 := by simpa using d
        exact Yields.some ⟨e0, e1, e2, fun h => absurd h d'⟩
    · refine Yields.some ⟨e0, e1, e2, fun h s hs1 => ?_⟩
      have : i = S.length := by simp at c; omega
      subst this
      obtain ⟨j, hj, rfl⟩ := List.getElem_of_mem hs1
      exact e3 h j _ hj (List.getElem?_eq_getElem hj)
  · rintro E ⟨E0, E1, E2, E3⟩
    refine Yields.bind (P := fun t => t = (mx (fun c => S.countP (hitb n (c : Int))) E.toNat : Int)) (Yields.loop E.toNat (fun i (z : Int × Int) => z.2 = i ∧ z.1 = (mx (fun c => S.countP (hitb n (c : Int))) i : Int)) ⟨rfl, rfl⟩ ?_) ?_
    · rintro i ⟨m, a⟩ hi ⟨ha, hm⟩
      simp only at ha hm ⊢
      subst ha; subst hm
      unfold F25_s4
      refine Yields.bif (fun c => ?_) (fun c => ?_)
      · have c' : (i : Int) < E := by simpa using c
        refine Yields.bind (P := fun t => t = (S.countP (hitb n (i : Int)) : Int)) (Yields.loop S.length (fun j (z : Int × Int) => z.2 = j ∧ z.1 = (cntP (hitb n (i : Int)) S j : Int)) ⟨rfl, rfl⟩ ?_) ?_
        · rintro j ⟨m, a⟩ hj ⟨ha, hm⟩
          simp only at ha hm ⊢
          subst ha; subst hm
          have hle := cntP_le (hitb n (i : Int)) S j
          unfold F25_s3
          refine Yields.bif (fun d => ?_) (fun d => ?_)
          · have d' : j < S.length := by simpa using d
            have hg : S[j]? = some S[j] := List.getElem?_eq_getElem d'
            have hso := hok S[j] (List.getElem_mem d')
            have hst := cntP_succ (hitb n (i : Int)) S j _ hg
            generalize S[j] = s at *
            have hmt := hit_match (c := (i : Int)) h0 h1 (by omega) (fun hn => by rw [E2 hn] at c'; exact c') hso
            obtain ⟨s1, s2, s3, s4, s5⟩ := hso
            refine Yields.bind (P := fun t => t = (cntP (hitb n (i : Int)) S (j + 1) : Int)) (Yields.loop s.2.toNat (fun k (z : Int × Int) => z.2 = k ∧ z.1 = (cntP (hitb n (i : Int)) S j : Int) ∧ ∀ k', k' < k → ¬ mt n s i k') ⟨rfl, rfl, fun k' h => by omega⟩ ?_) ?_
            · rintro k ⟨m, a⟩ hk ⟨ha, hm, hno⟩
              simp only at ha hm hno ⊢
              subst ha; subst hm
              unfold F25_s2
              refine Yields.at (by omega) (by omega) fun s' hs' _ => ?_
              have : s' = s := by have := at_nat hs'; rw [hg] at this; cases this; rfl
              subst this
              refine Yields.bif (fun e => ?_) (fun e => ?_)
              · have e' : (k : Int) < s'.2 := by simpa using e
                have w1 : IntKind.i64.wrap (s'.1 + (k : Int)) = s'.1 + k := wrap_i64 (by omega) (by omega)
                rw [w1, Int.tmod_eq_emod_of_nonneg (by omega)]
                have found : mt n s' i k → Yields (Nx k s'.2.toNat (fun k (z : Int × Int) => z.2 = k ∧ z.1 = (cntP (hitb n (i : Int)) S j : Int) ∧ ∀ k', k' < k → ¬ mt n s' i k') (fun t => t = (cntP (hitb n (i : Int)) S (j + 1) : Int))) (some (.inr (IntKind.i64.wrap ((cntP (hitb n (i : Int)) S j : Int) + 1)))) := by
                  intro hf
                  have := hmt.2 ⟨k, e', hf⟩
                  rw [this, if_pos rfl] at hst
                  refine Yields.some ?_
                  show IntKind.i64.wrap _ = _
                  rw [hst, wrap_i64 (by omega) (by omega)]; simp
                have on : ¬ mt n s' i k → Yields (Nx k s'.2.toNat (fun k (z : Int × Int) => z.2 = k ∧ z.1 = (cntP (hitb n (i : Int)) S j : Int) ∧ ∀ k', k' < k → ¬ mt n s' i k') (fun t => t = (cntP (hitb n (i : Int)) S (j + 1) : Int))) (some (.inl ((cntP (hitb n (i : Int)) S j : Int), IntKind.i64.wrap ((k : Int) + 1)))) := by
                  intro hf
                  refine Yields.some ⟨by omega, wrap_i1 (by omega), rfl, fun k' hk' => ?_⟩
                  by_cases hkk : k' = k
                  · subst hkk; exact hf
                  · exact hno k' (by omega)
                refine Yields.bif (fun f => ?_) (fun f => ?_)
                · have hn : 0 < n := by simpa using f
                  refine Yields.bif (fun g => found ((mt_pos hn).2 (by simpa using g))) (fun g => ?_)
                  have g' : ¬ mt n s' i k := by rw [mt_pos hn]; simpa using g
                  refine Yields.bif (fun _ => ?_) (fun _ => on g')
                  have z : (n == 0) = false := beq_eq_false_iff_ne.2 (by omega)
                  rw [z]
                  exact on g'
                · have hn : ¬ 0 < n := by simpa using f
                  refine Yields.bif (fun g => ?_) (fun g => on (by rw [mt_neg hn]; simpa using g))
                  have z : (n == 0) = true := by simp; omega
                  rw [z]
                  exact found ((mt_neg hn).2 (by simpa using g))
              · have e' : ¬ (k : Int) < s'.2 := by simpa using e
                refine Yields.some ?_
                have : ¬ hitb n (i : Int) s' = true := by
                  rw [hmt]
                  rintro ⟨k', hk', hf⟩
                  exact hno k' (by omega) hf
                rw [if_neg this] at hst
                show ((cntP (hitb n (i : Int)) S j : Nat) : Int) = _
                rw [hst]; simp
            · rintro t rfl
              exact Yields.some ⟨d', wrap_i1 (by omega), rfl⟩
          · refine Yields.some ?_
            have : j = S.length := by simp at d; omega
            subst this
            show (_ : Int) = _
            rw [cntP_all]
        · rintro t rfl
          refine Yields.some ⟨by omega, wrap_i1 (by omega), ?_⟩
          simp only [mx]
          split <;> omega
      · refine Yields.some ?_
        have : i = E.toNat := by simp at c; omega
        subst this
        rfl
    · rintro t rfl
      refine Yields.some ?_
      by_cases hn : 0 < n
      · have hEn := E2 hn
        subst hEn
        have hA := allOf_bounds h0 h1 l hs
        obtain ⟨A, hAv⟩ : ∃ A : Nat, allOf E l = (A : Int) := ⟨(allOf E l).toNat, by omega⟩
        have e1 : mx (fun c => S.countP (hitb E (c : Int))) E.toNat = mx (fun c => A + (l.map (spanOf E)).countP (hitb E (c : Int))) E.toNat := by
          refine mx_congr _ fun j _ => ?_
          have := count_all hn h1 (j : Int) l hs
          rw [hS, hAv] at this
          omega
        rw [e1, mx_add A _ (by omega), crowd_cycles (l.map (spanOf E)) E.toNat (by
          intro a _
          refine ⟨(a.1 % E).toNat, ?_, fun b => ?_⟩
          · have g2 := Int.emod_lt_of_pos a.1 hn
            have g1 := Int.emod_nonneg a.1 (show E ≠ 0 by omega)
            omega
          · have g1 := Int.emod_nonneg a.1 (show E ≠ 0 by omega)
            rw [Int.toNat_of_nonneg g1, hitb_mod hn])]
        unfold press
        rw [hAv]; simp
      · have hn0 : n = 0 := by omega
        subst hn0
        have hSm : S = l.map (spanOf 0) := by
          rw [← hS]
          unfold spansAll
          have : ∀ l : List (Int × Int × Int), l.map (spanOf 0) = l.flatMap (spansY 0) := by
            intro l
            induction l with
            | nil => rfl
            | cons y l ih => rw [List.map_cons, List.flatMap_cons, ih]; simp [spansY, spanOf]
          rw [this]
        rw [crowd_cycles S E.toNat (by
          intro a ha
          have hoka := hok a ha
          obtain ⟨s1, s2, s3, s4, s5⟩ := hoka
          have := E3 rfl a ha
          refine ⟨a.1.toNat, by omega, fun b => ?_⟩
          rw [Int.toNat_of_nonneg s1]), hSm]
        have hz : allOf 0 l = 0 := by
          have z : ∀ l : List (Int × Int × Int), (l.map fun _ => (0 : Int)).sum = 0 := by
            intro l; induction l with
            | nil => rfl
            | cons a l ih => simpa using ih
          simpa [allOf] using z l
        unfold press
        rw [hz]; simp

theorem spans_law : Law Try.prog 8 10 [38, 5] := by
  refine F8_law fun l b hl hW hb => Yields.eq ?_
  have hb8 := wf_u8 hb
  unfold F8
  refine Yields.bif (fun c => Yields.some rfl) (fun c => ?_)
  have hn : l.length ≤ 30 := by simp at c; omega
  have en : IntKind.i64.wrap (b.tmod 21) = b % 21 := by
    rw [Int.tmod_eq_emod_of_nonneg hb8.1]; exact wrap_i64 (by omega) (by omega)
  have h0 : 0 ≤ b % 21 := by omega
  have h1 : b % 21 ≤ 20 := by omega
  simp only [F8_s1, F8_s2, en]
  generalize b % 21 = n at *
  obtain ⟨x, ex, hx, hok⟩ := lived l hn hW
  refine Yields.bindE ex ?_
  refine Yields.bind (P := fun t => t = 1) (Yields.loop x.length (fun i (z : Int) => z = (i : Int)) rfl ?_) ?_
  · rintro i _ hi rfl
    refine Yields.bif (fun c => ?_) (fun c => ?_)
    · have c' : i < x.length := by simpa using c
      refine Yields.at (by omega) (by omega) fun y hy hmem => ?_
      refine Yields.bindE (reflen h0 h1 (hok y hmem)) ?_
      rw [(F21_eq h0 h1 (hok y hmem)).1]
      simp only [bne_self_eq_false, cond_false]
      exact Yields.some ⟨c', wrap_i1 (by omega)⟩
    · exact Yields.some rfl
  · rintro _ rfl
    simp only [show Nat.beq 1 0 = false from rfl, cond_false]
    refine Yields.bindE (spansP x n h0 h1 (by omega) hok) ?_
    refine Yields.bindE (spansR x n h0 h1 (by omega) hok) ?_
    simp only [bne_self_eq_false, cond_false]
    have hsl := spansAll_len h0 h1 x hok
    refine Yields.bind (P := fun t => t = 1) (Yields.loop (spansAll n x).length (fun i (z : Int) => z = (i : Int)) rfl ?_) ?_
    · rintro i _ hi rfl
      refine Yields.bif (fun c => ?_) (fun c => ?_)
      · have c' : i < (spansAll n x).length := by simpa using c
        refine Yields.at (by omega) (by omega) fun s hs hmem => ?_
        refine Yields.at (by omega) (by omega) fun s' hs' _ => ?_
        rw [hs] at hs'; cases hs'
        simp only [beq_self_eq_true, Bool.and_self, Bool.not_true, cond_false]
        obtain ⟨s1, s2, s3, s4, s5⟩ := spansAll_ok h0 h1 hok s hmem
        refine Yields.bif (fun d => ?_) (fun d => ?_)
        · have d' : 0 < n := by simpa using d
          have d2 : decide (s.2 > n) = false := by have := s5 d'; simp; omega
          rw [d2]
          exact Yields.some ⟨c', wrap_i1 (by omega)⟩
        · exact Yields.some ⟨c', wrap_i1 (by omega)⟩
      · exact Yields.some rfl
    · rintro _ rfl
      simp only [show Nat.beq 1 0 = false from rfl, cond_false]
      refine Yields.bindE (pressed x n h0 h1 (by omega) hok) ?_
      refine Yields.bindE (refpress x n h0 h1 (by omega) hok) ?_
      exact Yields.some (by simp)
end Go.Proofs.Ytdoafmfkbddmlac.Abs
