/- The reference's walks, and the least solution out of them. -/
import Derived.Test.YtimeninncpmaeaaBfqH
import Derived.Test.YtimeninncpmaeaaBfqR
namespace Go.Proofs.Ytimeninncpmaeaa.Abs
namespace D
open Go
set_option linter.unusedVariables false
set_option linter.unusedSimpArgs false
set_option maxHeartbeats 1000000
theorem nodes_fix {n : Nat} (hn : n ≤ 20) : F67 (n : Int) = (n : Int) := by
  unfold F67; repeat' split <;> omega
theorem weight_ref (a b c d ii : Int) : F56 a b c d ii = F59 a b c d ii := by
  have h1 := limit_eq c 1048576 (by omega) (by omega)
  have h2 := limit_eq d 1048576 (by omega) (by omega)
  unfold F56 F56__3 F56__1 F56__2 F59 F59__1
  rw [h1, h2]
theorem counts_ref {x1 : Int} {n : Nat} (hn : n ≤ 20) (e : F67 x1 = (n : Int)) (y : Ed) : F55 (F67 x1) y.1 y.2.1 y.2.2.1 y.2.2.2 = cnt46 n y := by
  unfold F55 cnt46 F58
  rw [e, nodes_fix hn]
/-- The links. -/
def lkOf (ii : Int) (y : Ed) : Lk := (y.1.toNat, y.2.1.toNat, F59 y.1 y.2.1 y.2.2.1 y.2.2.2 ii)
def lks (n : Nat) (ii : Int) (l : List Ed) : List Lk := (l.filter (cnt46 n)).map (lkOf ii)
theorem lks_mem {n : Nat} {ii : Int} {l : List Ed} {e : Lk} : e ∈ lks n ii l ↔ ∃ y ∈ l, cnt46 n y = true ∧ e = lkOf ii y := by
  unfold lks
  rw [List.mem_map]
  constructor
  · rintro ⟨y, hy, rfl⟩
    obtain ⟨h1, h2⟩ := List.mem_filter.1 hy
    exact ⟨y, h1, h2, rfl⟩
  · rintro ⟨y, h1, h2, rfl⟩
    exact ⟨y, List.mem_filter.2 ⟨h1, h2⟩, rfl⟩
theorem lks_ok {n : Nat} {ii : Int} {l : List Ed} : ∀ e ∈ lks n ii l, e.1 < n ∧ e.2.1 < n ∧ -269484032 ≤ e.2.2 ∧ e.2.2 ≤ 269484032 := by
  intro e he
  obtain ⟨y, h1, h2, rfl⟩ := lks_mem.1 he
  obtain ⟨⟨a, b⟩, c, d⟩ := cnt46_iff.1 h2
  have w := weight_eq y.1 y.2.1 y.2.2.1 y.2.2.2 ii
  unfold lkOf
  exact ⟨by simp only; omega, by simp only; omega, w.2.1, w.2.2⟩
theorem sol_lks {n : Nat} {ii : Int} {l : List Ed} {x : Nat → Int} : SolL (lks n ii l) x ↔ Sol (eds n ii false l l.length) x := by
  constructor
  · intro h e he
    obtain ⟨i, y, h1, h2, h3, rfl⟩ := eds_mem he
    exact h (lkOf ii y) (lks_mem.2 ⟨y, List.mem_of_getElem? h2, h3, rfl⟩)
  · intro h e he
    obtain ⟨y, h1, h2, rfl⟩ := lks_mem.1 he
    obtain ⟨i, hi⟩ := List.mem_iff_getElem?.1 h1
    exact h _ (mem_eds (ag := false) (List.getElem?_eq_some_iff.1 hi).1 hi h2)
theorem oka {k B : Nat} (h : k ≤ 100000) (hB : B ≤ 1000) : (!(okApp k B)) = false := by
  rw [ok_app (Nat.le_trans (Nat.mul_le_mul h hB) (by omega)) (by omega)]; rfl
def dIni (a b : Nat) : Int := if a = b then 0 else noW
section
variable {x1 ii : Int} {n : Nat} {l : List Ed}
theorem ini_row (hn : n ≤ 20) (e : F67 x1 = (n : Int)) : Yields (RowN n fun _ => noW) (loopO (fun (s : Int × (List Int)) => F51_s1 x1 s.1 s.2) (0, List.replicate (F67 x1).toNat (0 : Int))) := by
  refine Yields.loop n (fun (i : Nat) z => z.1 = (i : Int) ∧ z.2.length = n ∧ ∀ c : Nat, c < i → z.2[c]? = some noW) ⟨rfl, by rw [e]; simp, fun c h => absurd h (by omega)⟩ ?_
  rintro i ⟨a, m⟩ hi ⟨h1, h2, h3⟩
  simp only at h1 h2 h3
  subst h1
  unfold F51_s1
  rw [e]
  refine Yields.bif (fun hc => ?_) fun hc => Yields.some ⟨h2, fun c hc' => ?_⟩
  · have hc := of_decide_eq_true hc
    obtain ⟨y, hy⟩ := some_nat (l := m) (i := i) (by omega)
    refine Yields.bindE (atn hy) (Yields.some ⟨by omega, wr1 (n := n) (by omega) (by omega), by simp [setI, h2], fun c hc' => ?_⟩)
    simp only [setI, Int.toNat_natCast]
    rw [List.getElem?_set]
    by_cases q : i = c
    · rw [if_pos q, if_pos (by omega)]; rfl
    · rw [if_neg q]; exact h3 c (by omega)
  · have hc := of_decide_eq_false hc
    exact h3 c (by omega)
theorem ini_all (hn : n ≤ 20) (e : F67 x1 = (n : Int)) : Yields (RowsN n n (mat dIni)) (loopO (fun (s : Int × (List (List Int))) => F51_s2 x1 s.1 s.2) (0, ([] : List (List Int)))) := by
  refine Yields.loop n (fun (i : Nat) z => z.1 = (i : Int) ∧ RowsN i n (mat dIni) z.2) ⟨rfl, rfl, fun j h => absurd h (by omega)⟩ ?_
  rintro i ⟨a, m⟩ hi ⟨h1, h2⟩
  simp only at h1 h2
  subst h1
  have ir := ini_row hn e
  unfold F51_s2
  rw [e] at ir ⊢
  refine Yields.bif (fun hc => ?_) fun hc => Yields.some (by have hc := of_decide_eq_false hc; rw [show n = i by omega]; rw [show n = i by omega] at h2; exact h2)
  have hc := of_decide_eq_true hc
  rw [ok8 (by omega) (by omega), cond_false]
  refine Yields.bind ir fun row hr => Yields.bindE (at_row hr (by omega) (by omega)) ?_
  rw [oka (by have := h2.1; show m.length + 1 ≤ 100000; omega) (by omega), cond_false]
  refine Yields.some ⟨by omega, wr1 (n := n) (by omega) (by omega), h2.snoc ?_⟩
  refine hr.put (by omega) (by omega) (by unfold mat dIni; rw [if_pos rfl]) fun c hc' ne => ?_
  unfold mat dIni
  rw [if_neg (by omega)]
structure Ini (n : Nat) (E : List Lk) (d : Nat → Nat → Int) : Prop where
  bd : ∀ a b, a < n → b < n → d a b = noW ∨ (-536870912 ≤ d a b ∧ d a b ≤ 536870912)
  dg : ∀ a, a < n → 0 ≤ d a a
  so : ∀ x, SolL E x → ∀ a b, a < n → b < n → noW < d a b → x a + d a b ≤ x b
theorem Ini.put {E : List Lk} {d d' : Nat → Nat → Int} {u v : Nat} {w : Int} (H : Ini n E d) (he : (u, v, w) ∈ E) (hw : -269484032 ≤ w ∧ w ≤ 269484032) (hd' : ∀ a b, d' a b = if a = u ∧ b = v then (if w > d u v then w else d u v) else d a b) :
    Ini n E d' ∧ w ≤ d' u v ∧ ∀ a b, d a b ≤ d' a b := by
  have key : ∀ a b, d' a b = d a b ∨ (a = u ∧ b = v ∧ d a b < w ∧ d' a b = w) := by
    intro a b
    rw [hd']
    split
    · rename_i q
      obtain ⟨rfl, rfl⟩ := q
      split
      · exact .inr ⟨rfl, rfl, by omega, rfl⟩
      · exact .inl rfl
    · exact .inl rfl
  refine ⟨⟨fun a b ha hb => ?_, fun a ha => ?_, fun x hx a b ha hb h => ?_⟩, ?_, fun a b => ?_⟩
  · rcases key a b with e | ⟨_, _, _, e⟩
    · rw [e]; exact H.bd a b ha hb
    · rw [e]; exact .inr (by omega)
  · have := H.dg a ha
    rcases key a a with e | ⟨_, _, _, e⟩ <;> omega
  · rcases key a b with e | ⟨rfl, rfl, _, e⟩
    · rw [e] at h ⊢; exact H.so x hx a b ha hb h
    · rw [e]; exact hx _ he
  · rw [hd', if_pos ⟨rfl, rfl⟩]; split <;> omega
  · rcases key a b with e | ⟨_, _, _, e⟩ <;> omega
/-- The walks of one link at most. -/
theorem arcs_any (hn : n ≤ 20) (e : F67 x1 = (n : Int)) (hl : l.length ≤ 100) {L : List (List Int)} (hL : RowsN n n (mat dIni) L) :
    Yields (fun L => ∃ d, RowsN n n (mat d) L ∧ FW n (lks n ii l) 536870912 0 d) (loopO (fun (s : Int × (List (List Int))) => F51_s3 x1 l ii s.1 s.2) (0, L)) := by
  refine Yields.loop l.length (fun (i : Nat) z => z.1 = (i : Int) ∧ ∃ d, RowsN n n (mat d) z.2 ∧ Ini n (lks n ii l) d ∧ ∀ j y, j < i → l[j]? = some y → cnt46 n y = true → (lkOf ii y).2.2 ≤ d (lkOf ii y).1 (lkOf ii y).2.1)
    ⟨rfl, dIni, hL, ⟨fun a b _ _ => ?_, fun a _ => ?_, fun x _ a b _ _ h => ?_⟩, fun j y h => absurd h (by omega)⟩ ?_
  · unfold dIni; split
    · exact .inr (by omega)
    · exact .inl rfl
  · unfold dIni; rw [if_pos rfl]; exact Int.le_refl _
  · unfold dIni at h ⊢
    split
    · rename_i q; subst q; omega
    · rename_i q; rw [if_neg q] at h; omega
  rintro i ⟨a, m⟩ hi ⟨h1, d, h2, h3, h6⟩
  simp only at h1 h2
  subst h1
  unfold F51_s3
  refine Yields.bif (fun hc => ?_) fun hc => Yields.some ⟨d, h2, h3.bd, h3.dg, h3.so, fun m hm => absurd hm (by omega), fun e he => ?_⟩
  · have hc := of_decide_eq_true hc
    obtain ⟨y, hy⟩ := some_nat (l := l) (i := i) (by omega)
    have nx : IntKind.i64.wrap ((i : Int) + 1) = ((i + 1 : Nat) : Int) := wr1 (n := l.length) (by omega) (by omega)
    refine Yields.bindE (atn hy) ?_
    rw [counts_ref hn e y]
    refine Yields.bif (fun q => ?_) fun q => Yields.some ⟨by omega, nx, d, h2, h3, fun j y' hj hy' hq => ?_⟩
    · obtain ⟨⟨a0, a1⟩, b0, b1⟩ := cnt46_iff.1 q
      have hin : lkOf ii y ∈ lks n ii l := lks_mem.2 ⟨y, List.mem_of_getElem? hy, q, rfl⟩
      obtain ⟨hu, hv, w0⟩ := lks_ok _ hin
      have ek : lkOf ii y = (y.1.toNat, y.2.1.toNat, F59 y.1 y.2.1 y.2.2.1 y.2.2.2 ii) := rfl
      obtain ⟨row, r1, r2⟩ := mat_at h2 hu
      have r3 := r2 _ hv
      obtain ⟨g1, g2, g3⟩ := h3.put (d' := fun a b => if a = (lkOf ii y).1 ∧ b = (lkOf ii y).2.1 then (if (lkOf ii y).2.2 > d (lkOf ii y).1 (lkOf ii y).2.1 then (lkOf ii y).2.2 else d (lkOf ii y).1 (lkOf ii y).2.1) else d a b) hin w0 fun _ _ => rfl
      have r1' : at? m y.1 = some row := by rw [← r1, ek]; simp only; rw [Int.toNat_of_nonneg a0]
      have r3' : at? row y.2.1 = some (d (lkOf ii y).1 (lkOf ii y).2.1) := by rw [← r3, ek]; simp only; rw [Int.toNat_of_nonneg b0]
      refine Yields.bindE r1' (Yields.bindE r3' (Yields.some ⟨by omega, nx, _, ?_, g1, fun j y' hj hy' hq => ?_⟩))
      · have := mat_put (d' := fun a b => if a = (lkOf ii y).1 ∧ b = (lkOf ii y).2.1 then (if (lkOf ii y).2.2 > d (lkOf ii y).1 (lkOf ii y).2.1 then (lkOf ii y).2.2 else d (lkOf ii y).1 (lkOf ii y).2.1) else d a b) (x := F51__1 ii y (d (lkOf ii y).1 (lkOf ii y).2.1)) h2 hu hv r1 (by
          simp only [and_self, if_true]
          unfold F51__1
          rw [weight_ref]; rfl) fun i j _ _ ne => if_neg ne
        rw [ek] at this
        simp only at this
        rw [Int.toNat_of_nonneg a0, Int.toNat_of_nonneg b0] at this
        exact this
      · by_cases ej : j = i
        · subst ej; rw [hy] at hy'; cases hy'; exact g2
        · exact Int.le_trans (h6 j y' (by omega) hy' hq) (g3 _ _)
    · by_cases ej : j = i
      · subst ej; rw [hy] at hy'; cases hy'; rw [q] at hq; cases hq
      · exact h6 j y' (by omega) hy' hq
  · have hc := of_decide_eq_false hc
    obtain ⟨y, h7, h8, rfl⟩ := lks_mem.1 he
    obtain ⟨j, hj⟩ := List.mem_iff_getElem?.1 h7
    exact h6 j y (by have := (List.getElem?_eq_some_iff.1 hj).1; omega) hj h8
/-- The matrix in the midst of a step. -/
def mid (d : Nat → Nat → Int) (k a b : Nat) : Nat → Nat → Int := fun x y => if x < a ∨ (x = a ∧ y < b) then fwU d k x y else d x y
theorem mid_col {d : Nat → Nat → Int} {k : Nat} (h : d k k = 0) (a b x : Nat) : mid d k a b x k = d x k := by
  unfold mid; split
  · exact fwU_col h x
  · rfl
theorem mid_row {d : Nat → Nat → Int} {k : Nat} (h : d k k = 0) (a b y : Nat) : mid d k a b k y = d k y := by
  unfold mid; split
  · exact fwU_row h y
  · rfl
theorem mid_here (d : Nat → Nat → Int) (k a b : Nat) : mid d k a b a b = d a b := if_neg (by omega)
theorem mid_put {d : Nat → Nat → Int} {k a b i j : Nat} (h : ¬ (i = a ∧ j = b)) : mid d k a (b + 1) i j = mid d k a b i j := by
  unfold mid
  by_cases q : i < a ∨ (i = a ∧ j < b)
  · rw [if_pos q, if_pos (by omega)]
  · rw [if_neg q, if_neg (by omega)]
theorem mid_idle {d : Nat → Nat → Int} {k a b : Nat} (h : fwU d k a b = d a b) (i j : Nat) : mid d k a b i j = mid d k a (b + 1) i j := by
  by_cases q : i = a ∧ j = b
  · obtain ⟨rfl, rfl⟩ := q
    rw [mid_here]
    unfold mid
    rw [if_pos (by omega), h]
  · exact (mid_put q).symm
theorem step_row (hn : n ≤ 20) (e : F67 x1 = (n : Int)) {d : Nat → Nat → Int} {k a : Nat} (hk : k < n) (ha : a < n) (hd : d k k = 0) (bd : ∀ a b, a < n → b < n → d a b = noW ∨ (-562949953421312 ≤ d a b ∧ d a b ≤ 562949953421312)) {L : List (List Int)} (hL : RowsN n n (mat (mid d k a 0)) L) :
    Yields (RowsN n n (mat (mid d k (a + 1) 0))) (loopO (fun (s : Int × (List (List Int))) => F51_s4 x1 (k : Int) (a : Int) s.1 s.2) (0, L)) := by
  refine Yields.loop n (fun (b : Nat) z => z.1 = (b : Int) ∧ RowsN n n (mat (mid d k a b)) z.2) ⟨rfl, hL⟩ ?_
  rintro b ⟨c, m⟩ hb ⟨h1, h2⟩
  simp only at h1 h2
  subst h1
  unfold F51_s4
  rw [e]
  refine Yields.bif (fun hc => ?_) fun hc => Yields.some (h2.congr fun i j hi hj => ?_)
  · have hc := of_decide_eq_true hc
    have hbn : b < n := by omega
    have nx : IntKind.i64.wrap ((b : Int) + 1) = ((b + 1 : Nat) : Int) := wr1 (n := n) (by omega) (by omega)
    obtain ⟨ra, a1, a2⟩ := mat_at h2 ha
    obtain ⟨rk, k1, k2⟩ := mat_at h2 hk
    have v1 := a2 k hk
    have v2 := k2 b hbn
    have v3 := a2 b hbn
    rw [mid_col hd] at v1
    rw [mid_row hd] at v2
    rw [mid_here] at v3
    refine Yields.bindE a1 (Yields.bindE v1 (Yields.bif (fun q => Yields.bindE k1 (Yields.bindE v2 (Yields.bif (fun q' => Yields.bindE v3 (Yields.some ⟨by omega, nx, ?_⟩)) fun q' => Yields.some ⟨by omega, nx, ?_⟩))) fun q => Yields.some ⟨by omega, nx, ?_⟩))
    · have q : noW < d a k := of_decide_eq_true q
      have q' : noW < d k b := of_decide_eq_true q'
      have b1 := (bd a k ha hk).resolve_left (by omega)
      have b2 := (bd k b hk hbn).resolve_left (by omega)
      rw [wr (x := d a k + d k b) (by omega) (by omega)]
      refine mat_put h2 ha hbn a1 ?_ fun i j _ _ ne => mid_put ne
      unfold mid
      rw [if_pos (by omega)]
      unfold fwU
      rw [if_pos ⟨q, q'⟩]
    · have q' : ¬ noW < d k b := of_decide_eq_false q'
      exact h2.congr fun i j _ _ => mid_idle (if_neg fun w => q' w.2) _ _
    · have q : ¬ noW < d a k := of_decide_eq_false q
      exact h2.congr fun i j _ _ => mid_idle (if_neg fun w => q w.1) _ _
  · have hc := of_decide_eq_false hc
    have : b = n := by omega
    subst this
    unfold mat mid
    simp only [Int.toNat_natCast]
    by_cases q : i < a ∨ (i = a ∧ j < b)
    · rw [if_pos q, if_pos (by omega)]
    · rw [if_neg q, if_neg (by omega)]
theorem step_all (hn : n ≤ 20) (e : F67 x1 = (n : Int)) {d : Nat → Nat → Int} {k : Nat} (hk : k < n) (hd : d k k = 0) (bd : ∀ a b, a < n → b < n → d a b = noW ∨ (-562949953421312 ≤ d a b ∧ d a b ≤ 562949953421312)) {L : List (List Int)} (hL : RowsN n n (mat d) L) :
    Yields (RowsN n n (mat (fwU d k))) (loopO (fun (s : Int × (List (List Int))) => F51_s5 x1 (k : Int) s.1 s.2) (0, L)) := by
  refine Yields.loop n (fun (a : Nat) z => z.1 = (a : Int) ∧ RowsN n n (mat (mid d k a 0)) z.2) ⟨rfl, hL.congr fun i j _ _ => ?_⟩ ?_
  · unfold mat mid
    rw [if_neg (by omega)]
  rintro a ⟨c, m⟩ ha ⟨h1, h2⟩
  simp only at h1 h2
  subst h1
  unfold F51_s5
  rw [e]
  refine Yields.bif (fun hc => ?_) fun hc => Yields.some (h2.congr fun i j hi hj => ?_)
  · have hc := of_decide_eq_true hc
    exact Yields.bind (step_row hn e hk (by omega) hd bd h2) fun L2 h3 => Yields.some ⟨by omega, wr1 (n := n) (by omega) (by omega), h3⟩
  · have hc := of_decide_eq_false hc
    unfold mat mid
    simp only [Int.toNat_natCast]
    rw [if_pos (by omega)]
theorem diag_any (hn : n ≤ 20) (e : F67 x1 = (n : Int)) {d : Nat → Nat → Int} {L : List (List Int)} (hL : RowsN n n (mat d) L) :
    Yields (fun t => (t = 1 ∧ ∀ a, a < n → d a a ≤ 0) ∨ (t = 0 ∧ ∃ a, a < n ∧ 0 < d a a)) (loopO (fun (s : Int) => F51_s6 x1 L s) 0) := by
  refine Yields.loop n (fun (a : Nat) z => z = (a : Int) ∧ ∀ i, i < a → d i i ≤ 0) ⟨rfl, fun i h => absurd h (by omega)⟩ ?_
  rintro a z ha ⟨rfl, h1⟩
  unfold F51_s6
  rw [e]
  refine Yields.bif (fun hc => ?_) fun hc => Yields.some (.inl ⟨rfl, fun i hi => ?_⟩)
  · have hc := of_decide_eq_true hc
    obtain ⟨row, r1, r2⟩ := mat_at hL (show a < n by omega)
    refine Yields.bindE r1 (Yields.bindE (r2 a (by omega)) (Yields.bif (fun q => Yields.some (.inr ⟨rfl, a, by omega, of_decide_eq_true q⟩)) fun q => Yields.some ⟨by omega, wr1 (n := n) (by omega) (by omega), fun i hi => ?_⟩))
    have q := of_decide_eq_false q
    by_cases ei : i = a
    · subst ei; omega
    · exact h1 i (by omega)
  · have hc := of_decide_eq_false hc
    exact h1 i (by omega)
def bk (k : Nat) : Int := ((536870912 * 2 ^ k : Nat) : Int)
theorem bk_bd {k : Nat} (h : k ≤ 20) : 0 ≤ bk k ∧ bk k ≤ 562949953421312 := by
  have := Nat.pow_le_pow_right (n := 2) (by omega) h
  unfold bk
  omega
theorem bk_succ (k : Nat) : bk (k + 1) = 2 * bk k := by
  unfold bk
  rw [Nat.pow_succ]; omega
theorem walks_any (hn : n ≤ 20) (e : F67 x1 = (n : Int)) (hl : l.length ≤ 100) :
    Yields (fun r => (r.2 = true ∧ ∃ d, RowsN n n (mat d) r.1 ∧ FW n (lks n ii l) (bk n) n d) ∨ (r.2 = false ∧ ∀ x, ¬ SolL (lks n ii l) x)) (F51 x1 l ii) := by
  unfold F51
  refine Yields.bind (ini_all hn e) fun L0 h0 => Yields.bind (arcs_any (ii := ii) hn e hl h0) fun L1 h1 => Yields.bind (P := fun r => (r.1 = 1 ∧ ∃ d, RowsN n n (mat d) r.2 ∧ FW n (lks n ii l) (bk n) n d) ∨ (r.1 = 0 ∧ ∀ x, ¬ SolL (lks n ii l) x)) ?_ ?_
  · refine Yields.loop n (fun (k : Nat) z => z.1 = (k : Int) ∧ ∃ d, RowsN n n (mat d) z.2 ∧ FW n (lks n ii l) (bk k) k d) ⟨rfl, ?_⟩ ?_
    · obtain ⟨d, g1, g2⟩ := h1
      exact ⟨d, g1, g2⟩
    rintro k ⟨c, m⟩ hk ⟨h2, d, h3, h4⟩
    simp only at h2 h3
    subst h2
    unfold F51_s7
    rw [e]
    refine Yields.bif (fun hc => ?_) fun hc => Yields.some (.inl ⟨rfl, d, h3, ?_⟩)
    · have hc := of_decide_eq_true hc
      have hkn : k < n := by omega
      obtain ⟨row, r1, r2⟩ := mat_at h3 hkn
      have bb := bk_bd (k := k) (by omega)
      refine Yields.bindE r1 (Yields.bindE (r2 k hkn) (Yields.bif (fun q => Yields.some (.inr ⟨rfl, fun x hx => h4.refuse hkn (of_decide_eq_true q) hx⟩)) fun q => ?_))
      have q := of_decide_eq_false q
      have d0 := h4.dg k hkn
      have dk : d k k = 0 := by omega
      refine Yields.bind (step_all hn e hkn dk (fun a b ha hb => (h4.bd a b ha hb).imp id fun w => by omega) h3) fun L2 g2 => Yields.bind (diag_any hn e g2) fun t ht => ?_
      have nxt := h4.step hkn dk bb fun e he => ⟨(lks_ok e he).1, (lks_ok e he).2.1⟩
      rcases ht with ⟨rfl, _⟩ | ⟨rfl, a, ha, hp⟩
      · exact Yields.some ⟨by omega, wr1 (n := n) (by omega) (by omega), fwU d k, g2, by rw [bk_succ]; exact nxt⟩
      · exact Yields.some (.inr ⟨rfl, fun x hx => nxt.refuse ha hp hx⟩)
    · have hc := of_decide_eq_false hc
      have : k = n := by omega
      subst this
      exact h4
  · rintro ⟨t, L⟩ (⟨h2, h3⟩ | ⟨h2, h3⟩)
    · simp only at h2; subst h2; exact Yields.some (.inl ⟨rfl, h3⟩)
    · simp only at h2; subst h2; exact Yields.some (.inr ⟨rfl, h3⟩)
theorem best_any (hn : n ≤ 20) {d : Nat → Nat → Int} {L : List (List Int)} {t : Bool} (hL : RowsN n n (mat d) L) (bd : ∀ a b, a < n → b < n → d a b = noW ∨ (-562949953421312 ≤ d a b ∧ d a b ≤ 562949953421312)) (l4 : List Int) {b : Nat} (hb : b < n) :
    Yields (IsOut n d (bndI l4) b) (loopO (fun (s : Int × Int) => F27_s1 l4 (L, t) (b : Int) s.1 s.2) (bndI l4 b, 0)) := by
  refine Yields.loop n (fun (i : Nat) z => z.2 = (i : Int) ∧ bndI l4 b ≤ z.1 ∧ (∀ a, a < i → noW < d a b → bndI l4 a + d a b ≤ z.1) ∧ (z.1 = bndI l4 b ∨ ∃ a, a < i ∧ noW < d a b ∧ z.1 = bndI l4 a + d a b)) ⟨rfl, Int.le_refl _, fun a h => absurd h (by omega), .inl rfl⟩ ?_
  rintro i ⟨y, c⟩ hi ⟨h1, h2, h3, h4⟩
  simp only at h1 h2 h3 h4
  subst h1
  unfold F27_s1
  simp only [hL.1]
  refine Yields.bif (fun hc => ?_) fun hc => Yields.some ?_
  · have hc := of_decide_eq_true hc
    have hin : i < n := by omega
    have nx : IntKind.i64.wrap ((i : Int) + 1) = ((i + 1 : Nat) : Int) := wr1 (n := n) (by omega) (by omega)
    obtain ⟨row, r1, r2⟩ := mat_at hL hin
    refine Yields.bindE r1 (Yields.bindE (r2 b hb) (Yields.bif (fun q => Yields.bindE (ref_bound l4 i) (Yields.some ⟨by omega, nx, ?_⟩)) fun q => Yields.some ⟨by omega, nx, h2, fun a ha w => ?_, ?_⟩))
    · have q : noW < d i b := of_decide_eq_true q
      have b1 := (bd i b hin hb).resolve_left (by omega)
      have b2 := bndI_bd l4 i
      simp only
      rw [wr (x := bndI l4 i + d i b) (by omega) (by omega)]
      split
      · rename_i g
        refine ⟨by omega, fun a ha w => ?_, .inr ⟨i, by omega, q, rfl⟩⟩
        by_cases ea : a = i
        · subst ea; omega
        · have := h3 a (by omega) w; omega
      · rename_i g
        refine ⟨h2, fun a ha w => ?_, h4.imp id fun ⟨a, ha, w⟩ => ⟨a, by omega, w⟩⟩
        by_cases ea : a = i
        · subst ea; omega
        · exact h3 a (by omega) w
    · have q : ¬ noW < d i b := of_decide_eq_false q
      by_cases ea : a = i
      · subst ea; exact absurd w q
      · exact h3 a (by omega) w
    · exact h4.imp id fun ⟨a, ha, w⟩ => ⟨a, by omega, w⟩
  · have hc := of_decide_eq_false hc
    have : i = n := by omega
    subst this
    exact ⟨h2, h3, h4⟩
/-- A least solution above bounds. -/
def Least (n : Nat) (E : List Lk) (lo : Nat → Int) (r : List Int) : Prop := r.length = n ∧ SolL E (gd r) ∧ (∀ v, v < n → lo v ≤ gd r v) ∧ ∀ x, SolL E x → (∀ v, v < n → lo v ≤ x v) → ∀ v, v < n → gd r v ≤ x v
theorem Least.eq {E : List Lk} {lo : Nat → Int} {r r' : List Int} (h : Least n E lo r) (h' : Least n E lo r') : r = r' := by
  apply List.ext_getElem?
  intro v
  by_cases hv : v < n
  · rw [gd_some (by have := h.1; omega), gd_some (by have := h'.1; omega)]
    have := h.2.2.2 _ h'.2.1 h'.2.2.1 v hv
    have := h'.2.2.2 _ h.2.1 h.2.2.1 v hv
    congr 1; omega
  · rw [List.getElem?_eq_none (by have := h.1; omega), List.getElem?_eq_none (by have := h'.1; omega)]
theorem after_ref (hn : n ≤ 20) (e : F67 x1 = (n : Int)) (hl : l.length ≤ 100) (l4 : List Int) :
    Yields (fun r => (r.2 = true ∧ Least n (lks n ii l) (bndI l4) r.1) ∨ (r.2 = false ∧ ∀ x, ¬ SolL (lks n ii l) x)) (F27 x1 l ii l4) := by
  unfold F27
  refine Yields.bind (walks_any (ii := ii) hn e hl) ?_
  rintro ⟨L, t⟩ (⟨h1, d, h2, h3⟩ | ⟨h1, h2⟩)
  · simp only at h1 h2
    subst h1
    have bb := bk_bd (k := n) hn
    have bd : ∀ a b, a < n → b < n → d a b = noW ∨ (-562949953421312 ≤ d a b ∧ d a b ≤ 562949953421312) := fun a b ha hb => (h3.bd a b ha hb).imp id fun w => by omega
    simp only [Bool.not_true, cond_false]
    refine Yields.bind (P := fun r => r.length = n ∧ ∀ b, b < n → IsOut n d (bndI l4) b (gd r b)) ?_ fun r hr => Yields.some (.inl ⟨rfl, hr.1, ?_, fun v hv => (hr.2 v hv).1, fun x hx hlo v hv => h3.out_least hv (hr.2 v hv) hx hlo⟩)
    · refine Yields.loop n (fun (i : Nat) z => z.1 = (i : Int) ∧ z.2.length = i ∧ ∀ b, b < i → IsOut n d (bndI l4) b (gd z.2 b)) ⟨rfl, rfl, fun b h => absurd h (by omega)⟩ ?_
      rintro i ⟨c, m⟩ hi ⟨g1, g2, g3⟩
      simp only at g1 g2 g3
      subst g1
      unfold F27_s2
      simp only [h2.1]
      refine Yields.bif (fun hc => ?_) fun hc => Yields.some ?_
      · have hc := of_decide_eq_true hc
        refine Yields.bindE (ref_bound l4 i) (Yields.bind (best_any hn h2 bd l4 (show i < n by omega)) fun y hy => ?_)
        rw [oka (by show m.length + 1 ≤ 100000; omega) (by omega), cond_false]
        refine Yields.some ⟨by omega, wr1 (n := n) (by omega) (by omega), by simp [g2], fun b hb => ?_⟩
        have at1 : gd (m ++ [y]) b = if b = i then y else gd m b := by
          unfold gd
          by_cases eb : b = i
          · rw [if_pos eb, eb]; simp [List.getD, g2]
          · rw [if_neg eb]; simp only [List.getD]; rw [List.getElem?_append_left (by omega)]
        show IsOut n d (bndI l4) b (gd (m ++ [y]) b)
        rw [at1]
        split
        · rename_i eb; rw [eb]; exact hy
        · exact g3 b (by omega)
      · have hc := of_decide_eq_false hc
        have : i = n := by omega
        subst this
        exact ⟨g2, g3⟩
    · exact h3.out_sol bb (fun e he => by
        have := lks_ok e he
        refine ⟨this.1, this.2.1, ?_⟩
        unfold noW; omega) hr.2
  · simp only at h1
    subst h1
    exact Yields.some (.inr ⟨rfl, h2⟩)
end
end D
end Go.Proofs.Ytimeninncpmaeaa.Abs
