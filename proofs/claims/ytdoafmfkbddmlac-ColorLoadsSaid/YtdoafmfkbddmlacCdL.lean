/- The law of loads, on lists. -/
import Derived.Test.YtdoafmfkbddmlacVw
import Derived.Test.YtdoafmfkbddmlacCd
namespace Go.Proofs.Ytdoafmfkbddmlac.Abs
open Go
set_option linter.unusedVariables false
set_option linter.unusedSimpArgs false

theorem tmod_fix {x n : Int} (hn : n > 0) : (if x.tmod n < 0 then x.tmod n + n else x.tmod n) = x % n := by
  rcases Int.lt_or_le x 0 with hx | hx
  · have e : x.tmod n = -((-x) % n) := by
      rw [← Int.tmod_eq_emod_of_nonneg (by omega : 0 ≤ -x), Int.neg_tmod]; omega
    have g1 := Int.emod_nonneg (-x) (show n ≠ 0 by omega)
    have g2 := Int.emod_lt_of_pos (-x) hn
    rw [e]
    by_cases hz : (-x) % n = 0
    · rw [hz]; simp
      exact (Int.emod_eq_zero_of_dvd (Int.dvd_neg.1 (Int.dvd_of_emod_eq_zero hz))).symm
    · rw [if_pos (by omega)]
      have q := Int.mul_ediv_add_emod (-x) n
      generalize hr : (-x) % n = r at *
      generalize (-x) / n = d at *
      have ex : x = (n - r) + n * (-d - 1) := by rw [Int.mul_sub, Int.mul_neg]; omega
      rw [ex, Int.add_mul_emod_self_left, Int.emod_eq_of_lt (by omega) (by omega)]
      omega
  · rw [Int.tmod_eq_emod_of_nonneg hx]
    have g1 := Int.emod_nonneg x (show n ≠ 0 by omega)
    rw [if_neg (by omega)]
theorem I_bounds (x : Int) : 0 ≤ F16 x ∧ F16 x ≤ 256 := by
  unfold F16; (repeat' split) <;> omega
theorem I_again (x : Int) : F16 (F16 x) = F16 x := by
  have := I_bounds x
  generalize F16 x = n at *
  unfold F16; (repeat' split) <;> omega
theorem I_zero : F16 0 = 0 := by decide
theorem from_bounds (a b : Int) : -1073741824 ≤ F35 a b ∧ F35 a b ≤ 1073741824 := by
  unfold F35 F35__1; (repeat' split) <;> omega
theorem len_bounds (a b x : Int) : 0 ≤ F34 a b x ∧ F34 a b x ≤ 1048576 ∧ (F16 x > 0 → F34 a b x ≤ F16 x) := by
  have := I_bounds x
  unfold F34 F34__1
  generalize F16 x = n at *
  simp only [Bool.cond_eq_ite, decide_eq_true_eq]
  (repeat' split) <;> (refine ⟨?_, ?_, ?_⟩ <;> omega)
theorem len_again (a b x : Int) : F34 a b (F16 x) = F34 a b x := by
  unfold F34 F34__1; rw [I_again]
theorem len_zero (a b x : Int) (h : F16 x = 0) : F34 a b x = F34 a b 0 := by
  unfold F34 F34__1; rw [h, I_zero]
def lim (x : Int) (y : Int × Int) : Int × Int := (if F16 x > 0 then F35 y.1 y.2 % F16 x else F35 y.1 y.2, F34 y.1 y.2 x)
theorem limits (l : List (Int × Int)) (x : Int) (hl : l.length * 16 ≤ reachBytes) : F29 l x = some (l.map (lim x), F16 x) := by
  have hr : l.length * 16 ≤ 140737488351232 := hl
  refine Yields.eq ?_
  unfold F29
  rw [ok_len (by omega) (by omega)]
  simp only [Bool.not_true, cond_false]
  refine Yields.bind (P := fun t => t = l.map (lim x)) (Yields.loop l.length (fun i (z : Int × List (Int × Int)) => z.1 = i ∧ z.2.length = l.length ∧ ∀ j y, j < i → l[j]? = some y → z.2[j]? = some (lim x y)) ⟨rfl, by simp, fun j y h => by omega⟩ ?_) (fun y h => Yields.some (by rw [h]; rfl))
  rintro i ⟨a, r⟩ hi ⟨ha, hr, hj⟩
  simp only at ha hr hj ⊢
  subst ha
  unfold F29_s1
  refine Yields.bif (fun c => ?_) (fun c => ?_)
  · have c' : i < l.length := by simpa using c
    refine Yields.at (by omega) (by omega) fun y hy hmem => ?_
    have hy' := at_nat hy
    have hI := I_bounds x
    have key : ∀ z : Int × Int, z = lim x y → Yields (Nx i l.length (fun i (z : Int × List (Int × Int)) => z.1 = i ∧ z.2.length = l.length ∧ ∀ j y, j < i → l[j]? = some y → z.2[j]? = some (lim x y)) (fun t => t = l.map (lim x))) (some (.inl (IntKind.i64.wrap ((i : Int) + 1), setI r i z))) := by
      intro z hz
      refine Yields.some ⟨c', wrap_i1 (by omega), by simp [setI, hr], ?_⟩
      intro j y' hji hy2
      simp only [setI, Int.toNat_natCast]
      by_cases hij : i = j
      · subst hij
        rw [hy'] at hy2; cases hy2
        rw [List.getElem?_set_self (by omega), hz]
      · rw [List.getElem?_set_ne hij]
        exact hj j y' (by omega) hy2
    have e1 : F29__1 y = F35 y.1 y.2 := rfl
    have e3 : F29__3 x = decide (F16 x > 0) := rfl
    have e5 : F29__5 x y = (F35 y.1 y.2).tmod (F16 x) := rfl
    have eI : (if 256 < (if 0 > x then 0 else x) then 256 else (if 0 > x then 0 else x)) = F16 x := rfl
    have hf := from_bounds y.1 y.2
    rw [e3]
    refine Yields.bif (fun d => ?_) (fun d => ?_)
    · have d' : F16 x > 0 := by simpa using d
      rw [eI]
      have hz : (F16 x == 0) = false := beq_eq_false_iff_ne.2 (by omega)
      rw [hz]
      simp only [cond_false]
      have tf := tmod_fix (x := F35 y.1 y.2) d'
      have g2 := Int.emod_lt_of_pos (F35 y.1 y.2) d'
      have g1 := Int.emod_nonneg (F35 y.1 y.2) (show F16 x ≠ 0 by omega)
      have e4 : F29__4 x y = F34 y.1 y.2 x := by
        have hd : decide (F16 x > 0) = true := d
        show _ = (bif decide (F16 x > 0) then F34__1 y.2 x else _)
        rw [hd]; rfl
      rw [e5]
      refine Yields.bif (fun e => ?_) (fun e => ?_)
      · have e' : (F35 y.1 y.2).tmod (F16 x) < 0 := by simpa using e
        rw [if_pos e'] at tf
        refine Yields.at (by omega) (by omega) fun _ _ _ => key _ ?_
        have e6 : F29__6 x y = IntKind.i64.wrap ((F35 y.1 y.2).tmod (F16 x) + F16 x) := rfl
        rw [e6, e4, tf, wrap_i64 (by omega) (by omega)]
        simp [lim, d']
      · have e' : ¬ (F35 y.1 y.2).tmod (F16 x) < 0 := by simpa using e
        rw [if_neg e'] at tf
        refine Yields.at (by omega) (by omega) fun _ _ _ => key _ ?_
        rw [e4, tf]
        simp [lim, d']
    · have d' : ¬ F16 x > 0 := by simpa using d
      refine Yields.at (by omega) (by omega) fun _ _ _ => key _ ?_
      have e2 : F29__2 y = F34 y.1 y.2 x := by
        have hd : decide (F16 x > 0) = false := d
        show _ = (bif decide (F16 x > 0) then F34__1 y.2 x else _)
        rw [hd]; rfl
      rw [e1, e2]
      simp [lim, d']
  · refine Yields.some ?_
    have : i = l.length := by simp at c; omega
    subst this
    show r = _
    apply List.ext_getElem?
    intro j
    rcases Nat.lt_or_ge j l.length with h | h
    · rw [hj j l[j] h (List.getElem?_eq_getElem h), List.getElem?_map, List.getElem?_eq_getElem h]; rfl
    · rw [List.getElem?_eq_none (by omega), List.getElem?_eq_none (by simp; omega)]

/-! What it means that two spans overlap. -/
def con (x : Int) (a : Int × Int) (c : Int) : Bool := decide ((c - F35 a.1 a.2) % F16 x < F34 a.1 a.2 x)
theorem con_eq {x : Int} (hn : F16 x > 0) (a : Int × Int) (c : Nat) (hc : (c : Int) < F16 x) : F36 a.1 a.2 (F16 x) c = some (con x a c) := by
  have hI := I_bounds x
  have fa := from_bounds a.1 a.2
  unfold F36
  rw [I_again, len_again]
  have z : (F16 x == 0) = false := beq_eq_false_iff_ne.2 (by omega)
  rw [z]
  simp only [cond_false]
  rw [wrap_i64 (by omega) (by omega)]
  have hm : F17 ((c : Int) - F35 a.1 a.2) (F16 x) = some (((c : Int) - F35 a.1 a.2) % F16 x) := by
    have tf := tmod_fix (x := (c : Int) - F35 a.1 a.2) hn
    have g2 := Int.emod_lt_of_pos ((c : Int) - F35 a.1 a.2) hn
    have g1 := Int.emod_nonneg ((c : Int) - F35 a.1 a.2) (show F16 x ≠ 0 by omega)
    refine Yields.eq ?_
    unfold F17
    rw [z]
    simp only [cond_false]
    refine Yields.bif (fun e => ?_) (fun e => ?_)
    · have e' : ((c : Int) - F35 a.1 a.2).tmod (F16 x) < 0 := by simpa using e
      rw [if_pos e'] at tf
      refine Yields.some ?_
      rw [tf, wrap_i64 (by omega) (by omega)]
    · have e' : ¬ ((c : Int) - F35 a.1 a.2).tmod (F16 x) < 0 := by simpa using e
      rw [if_neg e'] at tf
      exact Yields.some tf
  rw [hm]
  rfl
/-! Tables of numbers. -/
def Tab (N : Nat) (l : List Int) (g : Nat → Int) : Prop := l.length = N ∧ ∀ k, k < N → l[k]? = some (g k)
theorem Tab.congr {N : Nat} {l : List Int} {g g' : Nat → Int} (T : Tab N l g) (h : ∀ k, k < N → g' k = g k) : Tab N l g' := ⟨T.1, fun k hk => by rw [h k hk]; exact T.2 k hk⟩
theorem Tab.set {N : Nat} {l : List Int} {g : Nat → Int} (T : Tab N l g) {i : Int} (h0 : 0 ≤ i) (h1 : i < N) (v : Int) {g' : Nat → Int} (hg : ∀ k : Nat, k < N → g' k = if (k : Int) = i then v else g k) : Tab N (setI l i v) g' := by
  refine ⟨by simp [setI, T.1], fun k hk => ?_⟩
  unfold setI
  rw [hg k hk, List.getElem?_set]
  by_cases e : i.toNat = k
  · rw [if_pos e, if_pos (by rw [T.1]; omega), if_pos (by omega)]
  · rw [if_neg e, if_neg (by omega)]; exact T.2 k hk
theorem Tab.get {N : Nat} {l : List Int} {g : Nat → Int} (T : Tab N l g) {i y : Int} (h0 : 0 ≤ i) (h1 : i < N) (h : l[i.toNat]? = some y) : y = g i.toNat := by
  rw [T.2 _ (by omega)] at h
  exact (Option.some.inj h).symm
theorem Tab.eq {N : Nat} {l l' : List Int} {g : Nat → Int} (T : Tab N l g) (T' : Tab N l' g) : l = l' := by
  apply List.ext_getElem?
  intro k
  rcases Nat.lt_or_ge k N with h | h
  · rw [T.2 k h, T'.2 k h]
  · rw [List.getElem?_eq_none (by rw [T.1]; exact h), List.getElem?_eq_none (by rw [T'.1]; exact h)]
theorem Tab.snoc {N : Nat} {l : List Int} {g : Nat → Int} (T : Tab N l g) {v : Int} (h : v = g N) : Tab (N + 1) (l ++ [v]) g := by
  refine ⟨by simp [T.1], fun k hk => ?_⟩
  rcases Nat.lt_or_ge k N with h' | h'
  · rw [List.getElem?_append_left (by rw [T.1]; exact h')]; exact T.2 k h'
  · have : k = N := by omega
    subst this
    rw [List.getElem?_append_right (by rw [T.1]; omega), T.1, h]; simp
theorem Tab.rep (N : Nat) (v : Int) : Tab N (List.replicate N v) (fun _ => v) := ⟨by simp, fun k hk => by simp [hk]⟩
theorem lim_at {x : Int} {l : List (Int × Int)} {j : Nat} {y : Int × Int} (h : (l.map (lim x))[((j : Nat) : Int).toNat]? = some y) : ∃ a, l[j]? = some a ∧ y = lim x a := by
  have h := at_nat h
  rw [List.getElem?_map] at h
  cases e : l[j]? with
  | none => rw [e] at h; cases h
  | some a => rw [e] at h; exact ⟨a, rfl, (Option.some.inj h).symm⟩

/-! Counting around a ring. -/
theorem ring_key {n s i k : Int} (hn : 0 < n) (hi : 0 ≤ i) (hi2 : i < n) (hk : 0 ≤ k) (hk2 : k < n) : (k - s) % n = i ↔ k = (s + i) % n := by
  constructor
  · intro h
    rw [← h, Int.add_comm, Int.emod_add_emod, Int.sub_add_cancel, Int.emod_eq_of_lt hk hk2]
  · intro h
    rw [h, Int.sub_eq_add_neg, Int.emod_add_emod, show s + i + -s = i by omega, Int.emod_eq_of_lt hi hi2]
theorem inner0 {n s d : Int} (hn : 0 < n) (hn2 : n ≤ 256) (hs : 0 ≤ s) (hs2 : s < n) (hd0 : 0 ≤ d) (hd : d ≤ n) {l8 : List Int} {g : Nat → Int} (T : Tab n.toNat l8 g) (hg : ∀ k, k < n.toNat → 0 ≤ g k ∧ g k ≤ 1000) :
    Yields (fun r => Tab n.toNat r (fun k => g k + if ((k : Int) - s) % n < d then 1 else 0)) (loopO (fun (z : Int × List Int) => F33_s1 n (s, d) z.1 z.2) (0, l8)) := by
  refine Yields.loop d.toNat (fun i (z : Int × List Int) => z.1 = i ∧ Tab n.toNat z.2 (fun k => g k + if ((k : Int) - s) % n < (i : Int) then 1 else 0)) ⟨rfl, T.congr fun k hk => ?_⟩ ?_
  · have := Int.emod_nonneg ((k : Int) - s) (show n ≠ 0 by omega)
    rw [if_neg (by omega)]; simp
  · rintro i ⟨e, t⟩ hi ⟨he, hT⟩
    simp only at he hT ⊢
    subst he
    unfold F33_s1
    refine Yields.bif (fun cc => ?_) (fun cc => ?_)
    · have c' : (i : Int) < d := by simpa using cc
      have b1 := Int.emod_nonneg (s + i) (show n ≠ 0 by omega)
      have b2 := Int.emod_lt_of_pos (s + i) hn
      simp only
      rw [wrap_i64 (x := s + i) (by omega) (by omega), Int.tmod_eq_emod_of_nonneg (show 0 ≤ s + i by omega)]
      refine Yields.at b1 (by rw [hT.1]; omega) fun y hy _ => ?_
      have ey := hT.get b1 (by omega) hy
      have hgy := hg ((s + i) % n).toNat (by omega)
      refine Yields.some ⟨by omega, wrap_i1 (by omega), hT.set b1 (by omega) _ fun k hk => ?_⟩
      have key := ring_key (s := s) hn (show 0 ≤ (i : Int) by omega) (by omega) (show 0 ≤ (k : Int) by omega) (by omega)
      by_cases hk' : (k : Int) = (s + i) % n
      · rw [if_pos hk']
        have hm := key.2 hk'
        have hkt : ((s + i) % n).toNat = k := by omega
        rw [hkt] at ey hgy
        rw [hm] at ey ⊢
        simp only [Int.lt_irrefl, if_false] at ey
        rw [if_pos (by omega), ey, wrap_i64 (by omega) (by omega)]; omega
      · rw [if_neg hk']
        have hm : ((k : Int) - s) % n ≠ i := fun h => hk' (key.1 h)
        congr 1
        by_cases h2 : ((k : Int) - s) % n < (i : Int)
        · rw [if_pos h2, if_pos (by omega)]
        · rw [if_neg h2, if_neg (by omega)]
    · have c' : d ≤ i := by simp at cc; omega
      have : (i : Int) = d := by omega
      rw [this] at hT
      exact Yields.some hT
theorem con_lim {x : Int} (hn : F16 x > 0) (a : Int × Int) (k : Nat) : (((k : Int) - F35 a.1 a.2 % F16 x) % F16 x < F34 a.1 a.2 x) ↔ con x a k = true := by
  unfold con
  have e : ((k : Int) - F35 a.1 a.2 % F16 x) % F16 x = ((k : Int) - F35 a.1 a.2) % F16 x := by
    have q := Int.mul_ediv_add_emod (F35 a.1 a.2) (F16 x)
    have : (k : Int) - F35 a.1 a.2 % F16 x = (k : Int) - F35 a.1 a.2 + F16 x * (F35 a.1 a.2 / F16 x) := by omega
    rw [this, Int.add_mul_emod_self_left]
  rw [e]; simp
theorem rows {x : Int} (hn : F16 x > 0) (l : List (Int × Int)) (hl : l.length ≤ 30) :
    Yields (fun r => Tab (F16 x).toNat r (fun k => (l.countP (fun a => con x a k) : Int))) (loopO (fun (z : Int × List Int) => F33_s2 (l.map (lim x)) (F16 x) z.1 z.2) (0, List.replicate (F16 x).toNat 0)) := by
  have hb := I_bounds x
  refine Yields.loop l.length (fun i (z : Int × List Int) => z.1 = i ∧ Tab (F16 x).toNat z.2 (fun k => (cntP (fun a => con x a k) l i : Int))) ⟨rfl, (Tab.rep _ 0).congr fun k hk => by simp [cntP_zero]⟩ ?_
  rintro i ⟨e, t⟩ hi ⟨he, hT⟩
  simp only at he hT ⊢
  subst he
  unfold F33_s2
  refine Yields.bif (fun cc => ?_) (fun cc => ?_)
  · have c' : i < l.length := by simp at cc; omega
    refine Yields.at (by omega) (by simpa using c') fun y hy _ => ?_
    obtain ⟨a, ha, rfl⟩ := lim_at hy
    have el : lim x a = (F35 a.1 a.2 % F16 x, F34 a.1 a.2 x) := by unfold lim; rw [if_pos hn]
    have lb := len_bounds a.1 a.2 x
    rw [el]
    refine Yields.bind (inner0 hn hb.2 (Int.emod_nonneg _ (by omega)) (Int.emod_lt_of_pos _ hn) lb.1 (lb.2.2 hn) hT (fun k hk => ?_)) fun r hr => ?_
    · have := cntP_le (fun a => con x a k) l i
      try simp only
      omega
    · refine Yields.some ⟨c', wrap_i1 (by omega), hr.congr fun k hk => ?_⟩
      try simp only
      rw [cntP_succ (fun a => con x a k) l i a ha]
      have := con_lim hn a k
      by_cases hc : con x a k = true
      · rw [if_pos hc, if_pos (this.2 hc)]; simp
      · rw [if_neg hc, if_neg (fun h => hc (this.1 h))]; simp
  · have c' : i = l.length := by simp at cc; omega
    subst c'
    refine Yields.some (hT.congr fun k hk => ?_)
    rw [cntP_all]

/-! The reference's counting. -/
theorem s4_eq : @F15_s4 = @F15_s2 := rfl
theorem count_loop {l : List (Int × Int)} {x c : Int} {p : Int × Int → Bool} (hl : l.length ≤ 30) (h : ∀ a ∈ l, F36 a.1 a.2 (F16 x) c = some (p a)) :
    Yields (fun r => r = (l.countP p : Int)) (loopO (fun (z : Int × Int) => F15_s2 l x c z.1 z.2) (0, 0)) := by
  refine Yields.loop l.length (fun i (z : Int × Int) => z.2 = i ∧ z.1 = (cntP p l i : Int)) ⟨rfl, by simp [cntP_zero]⟩ ?_
  rintro i ⟨n, e⟩ hi ⟨he, hT⟩
  simp only at he hT ⊢
  subst he
  subst hT
  unfold F15_s2
  have hle := cntP_le p l i
  refine Yields.bif (fun cc => ?_) (fun cc => ?_)
  · have c' : i < l.length := by simp at cc; omega
    refine Yields.at (by omega) (by omega) fun a ha hm => ?_
    have ha := at_nat ha
    refine Yields.bindE (h a hm) ?_
    have hs := cntP_succ p l i a ha
    refine Yields.bif (fun d => ?_) (fun d => ?_)
    · rw [if_pos d] at hs
      exact Yields.some ⟨c', wrap_i1 (by omega), by simp only; rw [hs]; exact wrap_i1 (by omega)⟩
    · rw [if_neg (by simp [d])] at hs
      exact Yields.some ⟨c', wrap_i1 (by omega), by simp only; rw [hs]; simp⟩
  · have c' : i = l.length := by simp at cc; omega
    subst c'
    exact Yields.some (show ((cntP p l l.length : Nat) : Int) = _ by rw [cntP_all])
theorem ref_rows {x : Int} (hn : F16 x > 0) (l : List (Int × Int)) (hl : l.length ≤ 30) :
    Yields (fun r => Tab (F16 x).toNat r (fun k => (l.countP (fun a => con x a k) : Int))) (loopO (fun (z : Int × List Int) => F15_s5 l x z.1 z.2) (0, ([] : List Int))) := by
  have hb := I_bounds x
  refine Yields.loop (F16 x).toNat (fun i (z : Int × List Int) => z.1 = i ∧ Tab i z.2 (fun k => (l.countP (fun a => con x a k) : Int))) ⟨rfl, rfl, fun k hk => by omega⟩ ?_
  rintro i ⟨e, t⟩ hi ⟨he, hT⟩
  simp only at he hT ⊢
  subst he
  unfold F15_s5
  rw [wrap_i64 (x := F16 x - 1) (by omega) (by omega), s4_eq]
  refine Yields.bif (fun cc => ?_) (fun cc => ?_)
  · have c' : (i : Int) < F16 x := by simp at cc; omega
    refine Yields.bind (count_loop (p := fun a => con x a i) hl fun a _ => con_eq hn a i c') ?_
    rintro r rfl
    rw [ok_app (by simp [hT.1]; omega) (by simp [hT.1]; omega)]
    simp only [Bool.not_true, cond_false]
    exact Yields.some ⟨by omega, wrap_i1 (by omega), hT.snoc rfl⟩
  · have c' : (i : Int) = F16 x := by simp at cc; omega
    have : i = (F16 x).toNat := by omega
    subst this
    exact Yields.some hT

/-! On a line. -/
def cv (a : Int × Int) (c : Int) : Bool := decide (F35 a.1 a.2 ≤ c) && decide (c < F35 a.1 a.2 + F34 a.1 a.2 0)
theorem cv_eq {x : Int} (hn : F16 x = 0) (a : Int × Int) (c : Int) : F36 a.1 a.2 (F16 x) c = some (cv a c) := by
  have fb := from_bounds a.1 a.2
  have lb := len_bounds a.1 a.2 0
  unfold F36 cv
  have z : (F16 (F16 x) == 0) = true := by rw [I_again, hn]; rfl
  rw [z, I_again, len_zero a.1 a.2 (F16 x) (by rw [I_again]; exact hn)]
  rw [wrap_i64 (x := F35 a.1 a.2 + F34 a.1 a.2 0) (by omega) (by omega)]
  simp only [cond_true]
  by_cases h : c ≥ F35 a.1 a.2
  · have d : decide (c ≥ F35 a.1 a.2) = true := by simpa using h
    rw [d]; simp
  · have d : decide (c ≥ F35 a.1 a.2) = false := by simpa using h
    rw [d]; simp
def ext1 (o : Option (Int × Int)) (a : Int × Int) : Option (Int × Int) :=
  if F34 a.1 a.2 0 = 0 then o else match o with
    | none => some (F35 a.1 a.2, F35 a.1 a.2 + F34 a.1 a.2 0)
    | some (f, e) => some (if F35 a.1 a.2 < f then F35 a.1 a.2 else f, if F35 a.1 a.2 + F34 a.1 a.2 0 > e then F35 a.1 a.2 + F34 a.1 a.2 0 else e)
def ext (l : List (Int × Int)) (i : Nat) : Option (Int × Int) := (l.take i).foldl ext1 none
theorem ext_succ {l : List (Int × Int)} {i : Nat} {a : Int × Int} (h : l[i]? = some a) : ext l (i + 1) = ext1 (ext l i) a := by
  unfold ext; rw [List.take_add_one, h]; simp
def near (a : Int × Int) : Prop := -500 ≤ F35 a.1 a.2 ∧ F35 a.1 a.2 ≤ 500 ∧ F34 a.1 a.2 0 ≤ 500
def okE (l : List (Int × Int)) (i : Nat) : Prop := ∀ f e, ext l i = some (f, e) → -500 ≤ f ∧ f < e ∧ e ≤ 1000 ∧ ∀ (j : Nat) a, j < i → l[j]? = some a → F34 a.1 a.2 0 ≠ 0 → f ≤ F35 a.1 a.2 ∧ F35 a.1 a.2 + F34 a.1 a.2 0 ≤ e
theorem okE_zero (l : List (Int × Int)) : okE l 0 := by intro f e h; simp [ext] at h
theorem okE_none {l : List (Int × Int)} {i : Nat} (h : ext l i = none) : ∀ (j : Nat) a, j < i → l[j]? = some a → F34 a.1 a.2 0 = 0 := by
  induction i with
  | zero => intro j a hj; omega
  | succ i ih =>
    intro j a hj ha
    cases hi : l[i]? with
    | none =>
      have h1 : ext l (i + 1) = ext l i := by unfold ext; rw [List.take_add_one, hi]; simp
      rw [h1] at h
      rcases Nat.lt_or_ge j i with g | g
      · exact ih h j a g ha
      · have : j = i := by omega
        subst this; rw [hi] at ha; cases ha
    | some b =>
      rw [ext_succ hi] at h
      unfold ext1 at h
      by_cases hz : F34 b.1 b.2 0 = 0
      · rw [if_pos hz] at h
        rcases Nat.lt_or_ge j i with g | g
        · exact ih h j a g ha
        · have : j = i := by omega
          subst this; rw [hi] at ha; cases ha; exact hz
      · rw [if_neg hz] at h
        cases he : ext l i with
        | none => rw [he] at h; cases h
        | some fe => rw [he] at h; cases h
theorem okE_succ {l : List (Int × Int)} {i : Nat} {a : Int × Int} (h : l[i]? = some a) (hf : near a) (ok : okE l i) : okE l (i + 1) := by
  have lb := len_bounds a.1 a.2 0
  obtain ⟨n1, n2, n3⟩ := hf
  intro f e he
  rw [ext_succ h] at he
  unfold ext1 at he
  by_cases hz : F34 a.1 a.2 0 = 0
  · rw [if_pos hz] at he
    obtain ⟨g1, g2, g3, g4⟩ := ok f e he
    refine ⟨g1, g2, g3, fun j b hj hb hb0 => ?_⟩
    rcases Nat.lt_or_ge j i with g | g
    · exact g4 j b g hb hb0
    · have : j = i := by omega
      subst this; rw [h] at hb; cases hb; exact absurd hz hb0
  · rw [if_neg hz] at he
    cases ho : ext l i with
    | none =>
      rw [ho] at he
      simp only [Option.some.injEq, Prod.mk.injEq] at he
      obtain ⟨rfl, rfl⟩ := he
      refine ⟨n1, by omega, by omega, fun j b hj hb hb0 => ?_⟩
      rcases Nat.lt_or_ge j i with g | g
      · exact absurd (okE_none ho j b g hb) hb0
      · have : j = i := by omega
        subst this; rw [h] at hb; cases hb; omega
    | some fe =>
      obtain ⟨f0, e0⟩ := fe
      rw [ho] at he
      simp only [Option.some.injEq, Prod.mk.injEq] at he
      obtain ⟨g1, g2, g3, g4⟩ := ok f0 e0 ho
      obtain ⟨rfl, rfl⟩ := he
      refine ⟨by split <;> omega, by split <;> split <;> omega, by split <;> omega, fun j b hj hb hb0 => ?_⟩
      rcases Nat.lt_or_ge j i with g | g
      · have := g4 j b g hb hb0
        constructor
        · split <;> omega
        · split <;> omega
      · have : j = i := by omega
        subst this; rw [h] at hb; cases hb
        constructor
        · split <;> omega
        · split <;> omega
theorem lim_line {x : Int} (hn : F16 x = 0) (a : Int × Int) : lim x a = (F35 a.1 a.2, F34 a.1 a.2 0) := by
  unfold lim; rw [if_neg (by omega), len_zero a.1 a.2 x hn]
def dec (o : Option (Int × Int)) : Int × Int × Bool := match o with
  | none => (0, 0, false)
  | some (f, e) => (f, e, true)
def rdec (o : Option (Int × Int)) : Int × Int := match o with
  | none => (1, 0)
  | some (f, e) => (f, e - 1)
theorem ends_prog {x : Int} (hn : F16 x = 0) (l : List (Int × Int)) (hl : l.length ≤ 30) (hf : ∀ a ∈ l, near a) :
    Yields (fun r => r = dec (ext l l.length)) (loopO (fun (z : Int × Int × Bool × Int) => F33_s3 (l.map (lim x)) z.1 z.2.1 z.2.2.1 z.2.2.2) (0, 0, false, 0)) := by
  refine Yields.loop l.length (fun i (z : Int × Int × Bool × Int) => z.2.2.2 = i ∧ (z.1, z.2.1, z.2.2.1) = dec (ext l i)) ⟨rfl, rfl⟩ ?_
  rintro i ⟨f, e, b, j⟩ hi ⟨he, hT⟩
  simp only at he hT ⊢
  subst he
  unfold F33_s3
  refine Yields.bif (fun cc => ?_) (fun cc => ?_)
  · have c' : i < l.length := by simp at cc; omega
    refine Yields.at (by omega) (by simpa using c') fun y hy _ => ?_
    obtain ⟨a, ha, rfl⟩ := lim_at hy
    have lb := len_bounds a.1 a.2 0
    obtain ⟨n1, n2, n3⟩ := hf a (List.mem_of_getElem? ha)
    have es := ext_succ ha
    unfold F33__1 F33__2
    rw [lim_line hn a]
    simp only
    rw [wrap_i64 (x := F35 a.1 a.2 + F34 a.1 a.2 0) (by omega) (by omega)]
    refine Yields.bif (fun hz => ?_) (fun hz => ?_)
    · have hz' : F34 a.1 a.2 0 = 0 := by simpa using hz
      refine Yields.some ⟨c', wrap_i1 (by omega), ?_⟩
      simp only
      rw [es, hT]; unfold ext1; rw [if_pos hz']
    · have hz' : F34 a.1 a.2 0 ≠ 0 := by simpa using hz
      refine Yields.bif (fun hb => ?_) (fun hb => ?_)
      · have hb' : b = false := by simpa using hb
        refine Yields.some ⟨c', wrap_i1 (by omega), ?_⟩
        simp only
        rw [es]
        cases ho : ext l i with
        | none => unfold ext1 dec; rw [if_neg hz']; simp
        | some fe => rw [ho, hb'] at hT; simp [dec] at hT
      · have hb' : b = true := by simpa using hb
        refine Yields.some ⟨c', wrap_i1 (by omega), ?_⟩
        simp only
        rw [es]
        cases ho : ext l i with
        | none => rw [ho, hb'] at hT; simp [dec] at hT
        | some fe =>
          obtain ⟨f0, e0⟩ := fe
          rw [ho] at hT
          simp only [dec, Prod.mk.injEq] at hT
          obtain ⟨rfl, rfl, rfl⟩ := hT
          unfold ext1 dec; rw [if_neg hz']
  · have c' : i = l.length := by simp at cc; omega
    subst c'
    exact Yields.some hT
theorem ends_ref (l : List (Int × Int)) (hl : l.length ≤ 30) (hf : ∀ a ∈ l, near a) :
    Yields (fun r => r = rdec (ext l l.length) ∧ okE l l.length) (loopO (fun (z : Int × Int × Int) => F15_s1 l z.1 z.2.1 z.2.2) (1, 0, 0)) := by
  refine Yields.loop l.length (fun i (z : Int × Int × Int) => z.2.2 = i ∧ (z.1, z.2.1) = rdec (ext l i) ∧ okE l i) ⟨rfl, rfl, okE_zero l⟩ ?_
  rintro i ⟨f, e, j⟩ hi ⟨he, hT, hok⟩
  simp only at he hT ⊢
  subst he
  unfold F15_s1
  refine Yields.bif (fun cc => ?_) (fun cc => ?_)
  · have c' : i < l.length := by simp at cc; omega
    refine Yields.at (by omega) (by omega) fun a ha hm => ?_
    have ha := at_nat ha
    have lb := len_bounds a.1 a.2 0
    have hnear := hf a hm
    obtain ⟨n1, n2, n3⟩ := hnear
    have es := ext_succ ha
    have hok' := okE_succ ha (hf a hm) hok
    unfold F15__1 F15__2
    rw [wrap_i64 (x := F35 a.1 a.2 + F34 a.1 a.2 0) (by omega) (by omega), wrap_i64 (x := F35 a.1 a.2 + F34 a.1 a.2 0 - 1) (by omega) (by omega)]
    refine Yields.bif (fun hz => ?_) (fun hz => ?_)
    · have hz' : F34 a.1 a.2 0 = 0 := by simpa using hz
      refine Yields.some ⟨c', wrap_i1 (by omega), ?_, hok'⟩
      simp only
      rw [es, hT]; unfold ext1; rw [if_pos hz']
    · have hz' : F34 a.1 a.2 0 ≠ 0 := by simpa using hz
      cases ho : ext l i with
      | none =>
        rw [ho] at hT
        simp only [rdec, Prod.mk.injEq] at hT
        obtain ⟨rfl, rfl⟩ := hT
        have d : decide ((1 : Int) > 0) = true := by decide
        rw [d]
        refine Yields.some ⟨c', wrap_i1 (by omega), ?_, hok'⟩
        simp only
        rw [es, ho]
        unfold ext1; rw [if_neg hz']
        simp only [rdec, Prod.mk.injEq]
        constructor
        · split <;> rfl
        · split <;> omega
      | some fe =>
        obtain ⟨f0, e0⟩ := fe
        obtain ⟨_, g2, _, _⟩ := hok f0 e0 ho
        rw [ho] at hT
        simp only [rdec, Prod.mk.injEq] at hT
        obtain ⟨rfl, rfl⟩ := hT
        have d : decide (f > e0 - 1) = false := by simp; omega
        rw [d]
        refine Yields.some ⟨c', wrap_i1 (by omega), ?_, hok'⟩
        simp only
        rw [es, ho]
        unfold ext1; rw [if_neg hz']
        simp only [rdec, Prod.mk.injEq]
        constructor
        · trivial
        · split <;> split <;> omega
  · have c' : i = l.length := by simp at cc; omega
    subst c'
    exact Yields.some ⟨hT, hok⟩
/-- How many of the first i spans hold c. -/
def cov (l : List (Int × Int)) (i : Nat) (c : Int) : Int := (cntP (fun a => cv a c) l i : Int)
theorem cov_bd (l : List (Int × Int)) (i : Nat) (c : Int) : 0 ≤ cov l i c ∧ cov l i c ≤ i := by
  have := cntP_le (fun a => cv a c) l i
  unfold cov; omega
theorem cov_succ {l : List (Int × Int)} {i : Nat} {a : Int × Int} (h : l[i]? = some a) (c : Int) : cov l (i + 1) c = cov l i c + if F35 a.1 a.2 ≤ c ∧ c < F35 a.1 a.2 + F34 a.1 a.2 0 then 1 else 0 := by
  unfold cov
  rw [cntP_succ _ l i a h]
  by_cases hc : F35 a.1 a.2 ≤ c ∧ c < F35 a.1 a.2 + F34 a.1 a.2 0
  · rw [if_pos hc, if_pos (by simp [cv, hc])]; simp
  · rw [if_neg hc, if_neg (by simp only [cv, Bool.and_eq_true, decide_eq_true_eq]; exact hc)]; simp
theorem steps {x : Int} (hn : F16 x = 0) (l : List (Int × Int)) (hl : l.length ≤ 30) (hf : ∀ a ∈ l, near a) {f e : Int} (he : ext l l.length = some (f, e)) (hok : okE l l.length) :
    Yields (fun r => Tab (e - f + 1).toNat r (fun k => cov l l.length (f + k) - cov l l.length (f + k - 1))) (loopO (fun (z : Int × List Int) => F33_s4 (l.map (lim x)) (f, e, true) z.1 z.2) (0, List.replicate (e - f + 1).toNat 0)) := by
  obtain ⟨b1, b2, b3, b4⟩ := hok f e he
  refine Yields.loop l.length (fun i (z : Int × List Int) => z.1 = i ∧ Tab (e - f + 1).toNat z.2 (fun k => cov l i (f + k) - cov l i (f + k - 1))) ⟨rfl, (Tab.rep _ 0).congr fun k hk => by simp [cov, cntP_zero]⟩ ?_
  rintro i ⟨j, t⟩ hi ⟨hj, hT⟩
  simp only at hj hT ⊢
  subst hj
  unfold F33_s4
  refine Yields.bif (fun cc => ?_) (fun cc => ?_)
  · have c' : i < l.length := by simp at cc; omega
    refine Yields.at (by omega) (by simpa using c') fun y hy _ => ?_
    obtain ⟨a, ha, rfl⟩ := lim_at hy
    have lb := len_bounds a.1 a.2 0
    obtain ⟨n1, n2, n3⟩ := hf a (List.mem_of_getElem? ha)
    have b5 := b4 i a c' ha
    have cs := cov_succ ha
    rw [lim_line hn a]
    simp only
    generalize F35 a.1 a.2 = s at *
    generalize F34 a.1 a.2 0 = d at *
    refine Yields.bif (fun hz => ?_) (fun hz => ?_)
    · have hz' : d > 0 := by simpa using hz
      obtain ⟨b6, b7⟩ := b5 (by omega)
      rw [wrap_i64 (x := s + d) (by omega) (by omega), wrap_i64 (x := s - f) (by omega) (by omega), wrap_i64 (x := s + d - f) (by omega) (by omega)]
      refine Yields.at (by omega) (by rw [hT.1]; omega) fun y hy _ => ?_
      have ey := hT.get (show 0 ≤ s - f by omega) (by omega) hy
      have q1 := cov_bd l i (f + ((s - f).toNat : Int))
      have q2 := cov_bd l i (f + ((s - f).toNat : Int) - 1)
      have T1 : Tab (e - f + 1).toNat (setI t (s - f) (IntKind.i64.wrap (y + 1))) (fun k => if (k : Int) = s - f then cov l i (f + k) - cov l i (f + k - 1) + 1 else cov l i (f + k) - cov l i (f + k - 1)) := by
        refine hT.set (by omega) (by omega) _ fun k hk => ?_
        by_cases hk' : (k : Int) = s - f
        · rw [if_pos hk', if_pos hk', ey, wrap_i64 (by omega) (by omega), show (s - f).toNat = k by omega]
        · rw [if_neg hk', if_neg hk']
      refine Yields.at (by omega) (by rw [T1.1]; omega) fun u hu _ => ?_
      have eu := T1.get (show 0 ≤ s + d - f by omega) (by omega) hu
      try simp only at eu
      rw [if_neg (by omega)] at eu
      have q3 := cov_bd l i (f + ((s + d - f).toNat : Int))
      have q4 := cov_bd l i (f + ((s + d - f).toNat : Int) - 1)
      refine Yields.some ⟨c', wrap_i1 (by omega), T1.set (by omega) (by omega) _ fun k hk => ?_⟩
      try simp only
      rw [cs, cs]
      by_cases k1 : (k : Int) = s + d - f
      · rw [if_pos k1, eu, wrap_i64 (by omega) (by omega), show (s + d - f).toNat = k by omega, if_neg (by omega), if_pos (by omega)]; omega
      · rw [if_neg k1]
        by_cases k2 : (k : Int) = s - f
        · rw [if_pos k2, if_pos (by omega), if_neg (by omega)]; omega
        · rw [if_neg k2]
          by_cases k3 : s ≤ f + k ∧ f + k < s + d
          · rw [if_pos k3, if_pos (by omega)]; omega
          · rw [if_neg k3, if_neg (by omega)]; omega
    · have hz' : d = 0 := by simp at hz; omega
      refine Yields.some ⟨c', wrap_i1 (by omega), hT.congr fun k hk => ?_⟩
      try simp only
      rw [cs, cs, if_neg (by omega), if_neg (by omega)]; omega
  · have c' : i = l.length := by simp at cc; omega
    subst c'
    exact Yields.some hT
theorem sums {g : Int → Int} {f : Int} {N : Nat} (hN : 1 ≤ N) (hN2 : N ≤ 3000) (hg : ∀ c, 0 ≤ g c ∧ g c ≤ 30) (h0 : g (f - 1) = 0) {t : List Int} (T : Tab N t (fun k => g (f + k) - g (f + k - 1))) :
    Yields (fun r => Tab N r (fun k => g (f + k))) (loopO (fun (z : Int × List Int) => F33_s5 z.1 z.2) (1, t)) := by
  refine Yields.loop N (fun i (z : Int × List Int) => z.1 = (i : Int) + 1 ∧ i + 1 ≤ N ∧ Tab N z.2 (fun k => if k ≤ i then g (f + k) else g (f + k) - g (f + k - 1))) ⟨rfl, hN, T.congr fun k hk => ?_⟩ ?_
  · try simp only
    by_cases h : k ≤ 0
    · have : k = 0 := by omega
      subst this
      rw [if_pos h]
      have : f + ((0 : Nat) : Int) - 1 = f - 1 := by omega
      rw [this, h0]; omega
    · rw [if_neg h]
  · rintro i ⟨j, t⟩ hi ⟨hj, hi2, hT⟩
    simp only at hj hi2 hT ⊢
    subst hj
    unfold F33_s5
    refine Yields.bif (fun cc => ?_) (fun cc => ?_)
    · have c' : i + 1 < N := by have := hT.1; simp at cc; omega
      rw [wrap_i64 (x := (i : Int) + 1 - 1) (by omega) (by omega), show (i : Int) + 1 - 1 = i by omega]
      refine Yields.at (by omega) (by rw [hT.1]; omega) fun y hy _ => ?_
      refine Yields.at (by omega) (by rw [hT.1]; omega) fun u hu _ => ?_
      have ey := hT.get (show 0 ≤ (i : Int) + 1 by omega) (by omega) hy
      have eu := hT.get (show 0 ≤ (i : Int) by omega) (by omega) hu
      try simp only at ey eu
      rw [if_neg (by omega)] at ey
      rw [if_pos (by omega)] at eu
      have q1 := hg (f + ((((i : Int) + 1).toNat : Nat) : Int))
      have q2 := hg (f + ((((i : Int) + 1).toNat : Nat) : Int) - 1)
      have q3 := hg (f + (((i : Int).toNat : Nat) : Int))
      have e1 : f + ((((i : Int) + 1).toNat : Nat) : Int) - 1 = f + (((i : Int).toNat : Nat) : Int) := by omega
      refine Yields.some ⟨by omega, ?_, by omega, hT.set (by omega) (by omega) _ fun k hk => ?_⟩
      · simp only
        rw [wrap_i64 (by omega) (by omega)]; omega
      · try simp only
        by_cases k1 : (k : Int) = (i : Int) + 1
        · rw [if_pos k1, if_pos (by omega), ey, eu, e1, wrap_i64 (by omega) (by omega), show ((i : Int) + 1).toNat = k by omega]; omega
        · rw [if_neg k1]
          by_cases k2 : k ≤ i
          · rw [if_pos k2, if_pos (by omega)]
          · rw [if_neg k2, if_neg (by omega)]
    · have c' : i + 1 = N := by have := hT.1; simp at cc; omega
      refine Yields.some (hT.congr fun k hk => ?_)
      rw [if_pos (by omega)]
theorem ref_line {x : Int} (hn : F16 x = 0) (l : List (Int × Int)) (hl : l.length ≤ 30) {f e : Int} (hfe : f < e) (h1 : -500 ≤ f) (h2 : e ≤ 1000) :
    Yields (fun r => Tab (e - f).toNat r (fun k => cov l l.length (f + k))) (loopO (fun (z : Int × List Int) => F15_s3 l x (f, e - 1) z.1 z.2) (f, ([] : List Int))) := by
  refine Yields.loop (e - f).toNat (fun i (z : Int × List Int) => z.1 = f + i ∧ Tab i z.2 (fun k => cov l l.length (f + k))) ⟨by simp, rfl, fun k hk => by omega⟩ ?_
  rintro i ⟨j, t⟩ hi ⟨hj, hT⟩
  simp only at hj hT ⊢
  subst hj
  unfold F15_s3
  refine Yields.bif (fun cc => ?_) (fun cc => ?_)
  · have c' : f + (i : Int) ≤ e - 1 := by simpa using cc
    refine Yields.bind (count_loop (p := fun a => cv a (f + i)) hl fun a _ => cv_eq hn a (f + i)) ?_
    rintro r rfl
    rw [ok_app (by simp [hT.1]; omega) (by simp [hT.1]; omega)]
    simp only [Bool.not_true, cond_false]
    refine Yields.some ⟨by omega, ?_, hT.snoc ?_⟩
    · simp only
      rw [wrap_i64 (by omega) (by omega)]; omega
    · unfold cov; rw [cntP_all]
  · have c' : ¬ f + (i : Int) ≤ e - 1 := by simpa using cc
    have : i = (e - f).toNat := by omega
    subst this
    exact Yields.some hT
theorem few_spec (l : List (Int × Int)) (x : Int) : Yields (fun r => r = true → l.length ≤ 30 ∧ (F16 x = 0 → ∀ a ∈ l, near a)) (F28 l x 30) := by
  unfold F28
  refine Yields.bif (fun _ => Yields.some (fun h => by cases h)) (fun hl => ?_)
  have hl' : l.length ≤ 30 := by simp at hl; omega
  refine Yields.bind (P := fun r => r ≠ 0 → (F16 x = 0 → ∀ a ∈ l, near a)) (Yields.loop l.length (fun i (z : Int) => z = i ∧ (F16 x = 0 → ∀ (j : Nat) a, j < i → l[j]? = some a → near a)) ⟨rfl, fun _ j a h => by omega⟩ ?_) ?_
  · rintro i z hi ⟨rfl, hT⟩
    try simp only
    unfold F28_s1
    refine Yields.bif (fun cc => ?_) (fun cc => ?_)
    · have c' : i < l.length := by simp at cc; omega
      refine Yields.bif (fun hz => ?_) (fun hz => ?_)
      · refine Yields.at (by omega) (by omega) fun a ha hm => ?_
        have ha := at_nat ha
        refine Yields.bif (fun _ => Yields.some (fun h => absurd rfl h)) (fun d1 => ?_)
        refine Yields.bif (fun _ => Yields.some (fun h => absurd rfl h)) (fun d2 => ?_)
        refine Yields.bif (fun _ => Yields.some (fun h => absurd rfl h)) (fun d3 => ?_)
        refine Yields.some ⟨c', wrap_i1 (by omega), fun hx j b hj hb => ?_⟩
        rcases Nat.lt_or_ge j i with g | g
        · exact hT hx j b g hb
        · have : j = i := by omega
          subst this; rw [ha] at hb; cases hb
          simp at d1 d2 d3
          unfold near; omega
      · have hz' : F16 x ≠ 0 := by simpa using hz
        exact Yields.some ⟨c', wrap_i1 (by omega), fun hx => absurd hx hz'⟩
    · have c' : i = l.length := by simp at cc; omega
      subst c'
      refine Yields.some (fun _ hx a ha => ?_)
      obtain ⟨j, hj⟩ := List.mem_iff_getElem?.1 ha
      exact hT hx j a (List.getElem?_eq_some_iff.1 hj).1 hj
  · intro r hr
    refine Yields.bif (fun _ => Yields.some (fun h => by cases h)) (fun hb => ?_)
    refine Yields.some (fun _ => ⟨hl', hr ?_⟩)
    rintro rfl
    simp at hb
theorem loads_eq {l : List (Int × Int)} {x : Int} (hl : l.length ≤ 30) (hf : F16 x = 0 → ∀ a ∈ l, near a) : ∃ r, F14 l x = some r ∧ F15 l x = some r ∧ r.length ≤ 100000 := by
  have hb := I_bounds x
  unfold F14 F15
  rw [limits l x (by unfold reachBytes; omega)]
  simp only [Option.bind_some]
  unfold F33
  by_cases hn : F16 x > 0
  · have d : decide (F16 x > 0) = true := by simpa using hn
    have z : (F16 x == 0) = false := beq_eq_false_iff_ne.2 (by omega)
    rw [d, z]
    have ok : okLen (F16 x) (F16 x) 8 = true := by
      have := ok_len (n := (F16 x).toNat) (B := 8) (by omega) (by omega)
      rwa [show (((F16 x).toNat : Nat) : Int) = F16 x by omega] at this
    rw [ok]
    simp only [Bool.not_true, cond_false, cond_true]
    obtain ⟨r, e1, t1⟩ := rows hn l hl
    obtain ⟨r', e2, t2⟩ := ref_rows hn l hl
    have := t1.eq t2
    subst this
    refine ⟨r, ?_, ?_, by rw [t1.1]; omega⟩
    · rw [e1]; rfl
    · rw [e2]; rfl
  · have hn0 : F16 x = 0 := by omega
    have d : decide (F16 x > 0) = false := by simpa using hn
    have z : (F16 x == 0) = true := by simpa using hn0
    rw [d, z]
    have hnear := hf hn0
    obtain ⟨r1, e1, h1⟩ := ends_prog hn0 l hl hnear
    obtain ⟨r2, e2, h2, hok⟩ := ends_ref l hl hnear
    subst h1; subst h2
    rw [e1, e2]
    simp only [cond_true, cond_false, Option.bind_some]
    cases ho : ext l l.length with
    | none =>
      refine ⟨[], by simp [dec], ?_, by simp⟩
      simp only [rdec]
      rw [loopO_stop (t := ([] : List Int)) (by unfold F15_s3; rfl)]
      rfl
    | some fe =>
      obtain ⟨f, e⟩ := fe
      obtain ⟨b1, b2, b3, b4⟩ := hok f e ho
      simp only [dec, rdec, Bool.not_true, cond_false]
      have v1 : IntKind.i64.wrap (e - f) = e - f := wrap_i64 (by omega) (by omega)
      have v2 : IntKind.i64.wrap (e - f + 1) = e - f + 1 := wrap_i64 (by omega) (by omega)
      simp only [v1, v2]
      have d2 : decide (e - f > 2097152) = false := by simp; omega
      have ok : okLen (e - f + 1) (e - f + 1) 8 = true := by
        have := ok_len (n := (e - f + 1).toNat) (B := 8) (by omega) (by omega)
        rwa [show (((e - f + 1).toNat : Nat) : Int) = e - f + 1 by omega] at this
      rw [d2, ok]
      simp only [Bool.not_true, cond_false]
      obtain ⟨s, es, ts⟩ := steps hn0 l hl hnear ho hok
      have h0 : cov l l.length (f - 1) = 0 := by
        unfold cov
        rw [cntP_all, List.countP_eq_zero.2]
        · rfl
        · intro a ha
          obtain ⟨j, hj⟩ := List.mem_iff_getElem?.1 ha
          have b5 := b4 j a (List.getElem?_eq_some_iff.1 hj).1 hj
          simp only [cv, Bool.and_eq_true, decide_eq_true_eq]
          by_cases hz : F34 a.1 a.2 0 = 0
          · omega
          · have := b5 hz; omega
      obtain ⟨p, ep, tp⟩ := sums (N := (e - f + 1).toNat) (by omega) (by omega) (fun c => by have := cov_bd l l.length c; omega) h0 ts
      obtain ⟨q, eq, tq⟩ := ref_line hn0 l hl b2 b1 b3
      have so : subOk (0 : Int) (e - f) p.length = true := subOk_iff.2 ⟨by omega, by omega, by rw [tp.1]; omega⟩
      have tt : Tab (e - f).toNat (subL p (0 : Int) (e - f)) (fun k => cov l l.length (f + k)) := by
        rw [subL_zero]
        refine ⟨by rw [List.length_take, tp.1]; omega, fun k hk => ?_⟩
        rw [List.getElem?_take, if_pos hk]
        exact tp.2 k (by omega)
      have := tt.eq tq
      refine ⟨q, ?_, ?_, by rw [tq.1]; omega⟩
      · rw [es]
        simp only [Option.bind_some]
        rw [ep]
        simp only [Option.bind_some]
        rw [so, this]; rfl
      · rw [eq]; rfl
theorem loads_law : Law Try.prog 5 10 [22, 3] := by
  refine F5_law fun l x _ _ _ => Yields.eq ?_
  unfold F5 F10
  obtain ⟨b, eb, hb⟩ := few_spec l x
  rw [eb]
  simp only [Option.bind_some]
  refine Yields.bif (fun _ => Yields.some rfl) (fun c => ?_)
  have hb' : b = true := by simpa using c
  obtain ⟨hl, hf⟩ := hb hb'
  obtain ⟨r, e1, e2, hr⟩ := loads_eq hl hf
  refine Yields.bindE e1 (Yields.bindE e2 ?_)
  have d : ((r.length : Int) != (r.length : Int)) = false := by simp
  rw [d]
  simp only [cond_false]
  refine Yields.bind (P := fun t => t = 1) (Yields.loop r.length (fun i (z : Int) => z = i) rfl ?_) ?_
  · rintro i z hi rfl
    unfold F5_s1
    refine Yields.bif (fun cc => ?_) (fun cc => ?_)
    · have c' : i < r.length := by simp at cc; omega
      refine Yields.at (by omega) (by omega) fun y hy _ => ?_
      have ey : at? r (i : Int) = some y := by rw [at?_nat]; exact at_nat hy
      refine Yields.bindE ey ?_
      have d : (y != y) = false := by simp
      rw [d]
      refine Yields.some ⟨c', ?_⟩
      exact wrap_i1 (by omega)
    · exact Yields.some rfl
  · rintro t rfl
    exact Yields.some rfl
end Go.Proofs.Ytdoafmfkbddmlac.Abs
