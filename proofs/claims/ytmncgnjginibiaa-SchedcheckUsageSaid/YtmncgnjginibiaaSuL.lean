/- SchedcheckUsage. -/
import Derived.Test.YtmncgnjginibiaaSuE
namespace Go.Proofs.Ytmncgnjginibiaa.Abs
open Go
set_option linter.unusedVariables false
set_option linter.unusedSimpArgs false
set_option maxHeartbeats 1000000
theorem at_row {n : Nat} {g : Int → Int} {row : List Int} (h : RowN n g row) {c : Int} (c0 : 0 ≤ c) (c1 : c < n) : at? row c = some (g c) := by
  have := h.2 c.toNat (by omega)
  rw [show ((c.toNat : Nat) : Int) = c by omega] at this
  exact atI c0 this
theorem RowN.hit {n : Nat} {g g' : Int → Int} {row : List Int} (h : RowN n g row) {c : Int} (c0 : 0 ≤ c) (c1 : c < n) (hb : -1000000 ≤ g c ∧ g c ≤ 1000000) (e : ∀ k, g' k = g k + if c = k then 1 else 0) :
    RowN n g' (setI row c (IntKind.i64.wrap (g c + 1))) := by
  rw [wr (by omega) (by omega)]
  refine h.put c0 c1 (by rw [e, if_pos rfl]) fun k hk ne => ?_
  rw [e, if_neg (by omega)]; omega
theorem at_rows {R n : Nat} {g : Int → Int → Int} {l : List (List Int)} (h : RowsN R n g l) {r : Int} (r0 : 0 ≤ r) (r1 : r < R) : ∃ row, at? l r = some row ∧ RowN n (g r) row := by
  obtain ⟨row, h1, h2⟩ := h.2 r.toNat (by omega)
  rw [show ((r.toNat : Nat) : Int) = r by omega] at h2
  exact ⟨row, atI r0 h1, h2⟩
theorem RowsN.hit {R n : Nat} {g g' : Int → Int → Int} {l : List (List Int)} (h : RowsN R n g l) {r c : Int} {row : List Int} (r0 : 0 ≤ r) (r1 : r < R) (hr : RowN n (g r) row) (c0 : 0 ≤ c) (c1 : c < n) (hb : -1000000 ≤ g r c ∧ g r c ≤ 1000000) (e : ∀ j k, g' j k = g j k + if r = j ∧ c = k then 1 else 0) :
    RowsN R n g' (setI l r (setI row c (IntKind.i64.wrap (g r c + 1)))) := by
  have hr' : RowN n (g' r) (setI row c (IntKind.i64.wrap (g r c + 1))) := hr.hit c0 c1 hb fun k => by
    rw [e]
    by_cases q : c = k
    · rw [if_pos q, if_pos ⟨rfl, q⟩]
    · rw [if_neg q, if_neg fun w => q w.2]
  have := h.put (g' := g') (j0 := r.toNat) (row := setI row c (IntKind.i64.wrap (g r c + 1))) (by omega) (by rw [show ((r.toNat : Nat) : Int) = r by omega]; exact hr') fun j k hj hk ne => by
    rw [e, if_neg (by omega)]; omega
  rwa [show ((r.toNat : Nat) : Int) = r by omega] at this
theorem same_self (l : List Int) (k : l.length ≤ 100000) : F13 l l = some true := by
  apply Yields.eq
  unfold F13
  rw [bne_self_eq_false, cond_false]
  refine Yields.bind (P := fun t => t = 1) (Yields.loop l.length (fun (i : Nat) z => z = (i : Int)) rfl ?_) (by rintro t rfl; exact Yields.some rfl)
  rintro i z hi rfl
  unfold F13_s1
  refine Yields.bif (fun hc => ?_) fun _ => Yields.some rfl
  have hc := of_decide_eq_true hc
  obtain ⟨y, hy⟩ := some_nat (l := l) (i := i) (by omega)
  refine Yields.bindE (atn hy) (Yields.bindE (atn hy) ?_)
  rw [bne_self_eq_false, cond_false]
  exact Yields.some ⟨by omega, wr1 (n := l.length) (by omega) (by omega)⟩
theorem ok8 {n B : Nat} (h : n ≤ 100000) (hB : B ≤ 1000) : (!(okLen (n : Int) (n : Int) B)) = false := by
  rw [ok_len (Nat.le_trans (Nat.mul_le_mul h hB) (by omega)) (by omega)]; rfl
section
variable (x1 x2 : Int) (x3 : Bool) (l4 l5 : List Quad) (l6 : List (Int × Int)) (x7 x8 : Int) (l9 l10 l11 : List Int)
/-- The cycles that are counted. -/
def cyc : Nat := (if x3 = true then x7 else x8).toNat
theorem cyc_eq (hf : FitOK x1 x2 x3 l5 l6 x7 x8 l9 l10 l11) : ((cyc x3 x7 x8 : Nat) : Int) = (if x3 = true then x7 else x8) ∧ cyc x3 x7 x8 ≤ 4096 := by
  obtain ⟨_, _, _, a, b, c, d, e, _⟩ := hf
  unfold cyc
  split <;> omega
theorem cyc_prog (hf : FitOK x1 x2 x3 l5 l6 x7 x8 l9 l10 l11) : F11_s1 x3 x7 x8 = some ((cyc x3 x7 x8 : Nat) : Int) := by
  rw [(cyc_eq x1 x2 x3 l5 l6 x7 x8 l9 l10 l11 hf).1]
  unfold F11_s1
  cases x3 <;> rfl
theorem cyc_law (hf : FitOK x1 x2 x3 l5 l6 x7 x8 l9 l10 l11) : F3_s1 x3 x7 x8 = some ((cyc x3 x7 x8 : Nat) : Int) := by
  rw [(cyc_eq x1 x2 x3 l5 l6 x7 x8 l9 l10 l11 hf).1]
  unfold F3_s1
  cases x3 <;> rfl
/-- The cycle in which an instruction is in its b-th. -/
theorem place_law (hf : FitOK x1 x2 x3 l5 l6 x7 x8 l9 l10 l11) {s : Int} {b : Nat} (s0 : 0 ≤ s ∧ s ≤ 4096) (hb : b ≤ 256) :
    IntKind.i64.wrap (s + (b : Int)) = s + b ∧ 0 ≤ place x7 (s + b) ∧ (if x3 = true then x7 ≠ 0 ∧ place x7 (s + b) = (s + b).tmod x7 else place x7 (s + b) = s + b) := by
  obtain ⟨_, _, _, a, _, c, _⟩ := hf
  refine ⟨wr (by omega) (by omega), ?_, ?_⟩
  · unfold place
    split
    · exact Int.emod_nonneg _ (by omega)
    · omega
  · unfold place
    by_cases z : 0 < x7
    · rw [if_pos z, if_pos (c.1 z)]
      exact ⟨by omega, (Int.tmod_eq_emod_of_nonneg (by omega)).symm⟩
    · rw [if_neg z, if_neg fun h => z (c.2 h)]
theorem make_loop (n : Nat) (hn : n ≤ 5000) (k5 : l5.length ≤ 1000) : Yields (RowsN l5.length n fun _ _ => 0) (loopO (fun (s : Int × (List (List Int))) => F11_s2 l5 (n : Int) s.1 s.2) (0, List.replicate (l5.length : Int).toNat ([] : List Int))) := by
  refine Yields.loop l5.length (fun (i : Nat) z => z.1 = (i : Int) ∧ z.2.length = l5.length ∧ ∀ j : Nat, j < i → z.2[j]? = some (List.replicate n 0)) ⟨rfl, by simp, fun j h => absurd h (by omega)⟩ ?_
  rintro i ⟨a, l⟩ hi ⟨h1, h2, h3⟩
  simp only at h1 h2 h3
  subst h1
  unfold F11_s2
  rw [List.length_replicate]
  refine Yields.bif (fun hc => ?_) fun hc => Yields.some ⟨h2, fun j hj => ?_⟩
  · have hc := of_decide_eq_true hc
    rw [ok8 (by omega) (by omega), cond_false]
    obtain ⟨y, hy⟩ := some_nat (l := l) (i := i) (by omega)
    refine Yields.bindE (atn hy) (Yields.some ⟨by omega, wr1 (n := l5.length) (by omega) (by omega), by simp [setI, h2], fun j hj => ?_⟩)
    simp only [setI, Int.toNat_natCast]
    rw [List.getElem?_set]
    by_cases e : i = j
    · rw [if_pos e, if_pos (by omega)]
    · rw [if_neg e]; exact h3 j (by omega)
  · have hc := of_decide_eq_false hc
    exact ⟨_, h3 j (by omega), RowN.zero n⟩
theorem busy_loop (hf : FitOK x1 x2 x3 l5 l6 x7 x8 l9 l10 l11) (hN : ∀ y ∈ l6, NeedOK l5 y) (k6 : l6.length ≤ 100) {i : Nat} {y : Int × Int} {s : Int} (hy : l6[i]? = some y) (hs : l9[i]? = some s) {L : List (List Int)} (hL : RowsN l5.length (cyc x3 x7 x8) (fun r c => tot l6 x7 l9 r c i) L) :
    Yields (RowsN l5.length (cyc x3 x7 x8) (fun r c => tot l6 x7 l9 r c (i + 1))) (loopO (fun (z : Int × (List (List Int))) => F11_s3 x3 x7 l9 ((cyc x3 x7 x8 : Nat) : Int) (i : Int) y z.1 z.2) (0, L)) := by
  have yb := need_bd l5 l6 hN y (List.mem_of_getElem? hy)
  have hn := hN y (List.mem_of_getElem? hy)
  have s0 := hf.2.2.2.2.2.2.2.2.1 s (List.mem_of_getElem? hs)
  have li : i < l6.length := (List.getElem?_eq_some_iff.1 hy).1
  refine Yields.loop y.2.toNat (fun (b : Nat) z => z.1 = (b : Int) ∧ RowsN l5.length (cyc x3 x7 x8) (fun r c => tot l6 x7 l9 r c i + inner x7 r c y s b) z.2) ⟨rfl, hL.congr fun _ _ _ _ => by simp [inner]⟩ ?_
  rintro b ⟨a, L'⟩ hb ⟨h1, h2⟩
  simp only at h1 h2
  subst h1
  unfold F11_s3
  refine Yields.bif (fun hc => ?_) fun hc => Yields.some ?_
  · have hc := of_decide_eq_true hc
    refine Yields.bindE (atn hs) ?_
    obtain ⟨p1, p2, p3⟩ := place_law x1 x2 x3 l5 l6 x7 x8 l9 l10 l11 hf s0 (b := b) (by omega)
    have nx : IntKind.i64.wrap ((b : Int) + 1) = ((b + 1 : Nat) : Int) := wr1 (n := y.2.toNat) (by omega) (by omega)
    have y0 : 0 ≤ y.1 ∧ y.1 < (l5.length : Int) := by rcases hn with h | h <;> omega
    have e : ∀ j k : Int, tot l6 x7 l9 j k i + inner x7 j k y s (b + 1) = (tot l6 x7 l9 j k i + inner x7 j k y s b) + if y.1 = j ∧ place x7 (s + b) = k then 1 else 0 := fun j k => by
      simp only [inner, oneAt]; omega
    rw [p1]
    have rest : ∀ c : Int, c = place x7 (s + b) → Yields (Nx b y.2.toNat (fun (b : Nat) (z : Int × List (List Int)) => z.1 = (b : Int) ∧ RowsN l5.length (cyc x3 x7 x8) (fun r c => tot l6 x7 l9 r c i + inner x7 r c y s b) z.2) (RowsN l5.length (cyc x3 x7 x8) (fun r c => tot l6 x7 l9 r c (i + 1))))
        (bif decide (c < ((cyc x3 x7 x8 : Nat) : Int)) then (Option.bind (at? L' y.1) fun y44 => Option.bind (at? y44 c) fun y46 => some (.inl ((IntKind.i64.wrap ((b : Int) + 1)), (setI L' y.1 (setI y44 c (IntKind.i64.wrap (y46 + 1))))))) else some (.inl ((IntKind.i64.wrap ((b : Int) + 1)), L'))) := by
      rintro c rfl
      refine Yields.bif (fun q => ?_) fun q => Yields.some ⟨by omega, nx, h2.congr fun j k hj hk => ?_⟩
      · have q := of_decide_eq_true q
        obtain ⟨row, r1, r2⟩ := at_rows h2 y0.1 y0.2
        refine Yields.bindE r1 (Yields.bindE (at_row r2 p2 q) (Yields.some ⟨by omega, nx, ?_⟩))
        have b1 := tot_bd (l6 := l6) (x7 := x7) (l9 := l9) (r := y.1) (c := place x7 (s + b)) (need_bd l5 l6 hN) i
        have b2 := inner_bd x7 y.1 (place x7 (s + b)) y s b
        exact RowsN.hit h2 y0.1 y0.2 r2 p2 q (by omega) e
      · have q := of_decide_eq_false q
        show _ = tot l6 x7 l9 j k i + inner x7 j k y s (b + 1)
        rw [e, if_neg (by omega)]; omega
    cases hx : x3 with
    | true =>
      rw [hx] at p3
      rw [if_pos rfl] at p3
      rw [cond_true, beq_eq_false_iff_ne.2 p3.1, cond_false]
      rw [hx] at rest
      exact rest _ p3.2.symm
    | false =>
      rw [hx] at p3
      rw [cond_false]
      rw [hx] at rest
      exact rest _ p3.symm
  · have hc := of_decide_eq_false hc
    refine RowsN.congr (g' := fun r c => tot l6 x7 l9 r c (i + 1)) h2 fun r c _ _ => ?_
    rw [show b = y.2.toNat by omega]
    simp only [tot, occOf, hy, hs]
theorem usage_loop (hf : FitOK x1 x2 x3 l5 l6 x7 x8 l9 l10 l11) (hN : ∀ y ∈ l6, NeedOK l5 y) (k6 : l6.length ≤ 100) (e9 : l9.length = l6.length) {L : List (List Int)} (hL : RowsN l5.length (cyc x3 x7 x8) (fun _ _ => 0) L) :
    Yields (RowsN l5.length (cyc x3 x7 x8) (fun r c => tot l6 x7 l9 r c l6.length)) (loopO (fun (z : Int × (List (List Int))) => F11_s4 x3 l6 x7 l9 ((cyc x3 x7 x8 : Nat) : Int) z.1 z.2) (0, L)) := by
  refine Yields.loop l6.length (fun (i : Nat) z => z.1 = (i : Int) ∧ RowsN l5.length (cyc x3 x7 x8) (fun r c => tot l6 x7 l9 r c i) z.2) ⟨rfl, RowsN.congr (g' := fun r c => tot l6 x7 l9 r c 0) hL fun _ _ _ _ => rfl⟩ ?_
  rintro i ⟨a, L'⟩ hi ⟨h1, h2⟩
  simp only at h1 h2
  subst h1
  unfold F11_s4
  refine Yields.bif (fun hc => ?_) fun hc => Yields.some ?_
  · have hc := of_decide_eq_true hc
    obtain ⟨y, hy⟩ := some_nat (l := l6) (i := i) (by omega)
    obtain ⟨s, hs⟩ := some_nat (l := l9) (i := i) (by omega)
    refine Yields.bindE (atn hy) (Yields.bind (busy_loop x1 x2 x3 l5 l6 x7 x8 l9 l10 l11 hf hN k6 hy hs h2) fun L2 h3 => Yields.some ⟨by omega, wr1 (n := l6.length) (by omega) (by omega), h3⟩)
  · have hc := of_decide_eq_false hc
    rw [show l6.length = i by omega]
    exact h2
theorem usage_prog (k4 : l4.length ≤ 1000) (k5 : l5.length ≤ 1000) (k6 : l6.length ≤ 100) (k9 : l9.length ≤ 1000) (k10 : l10.length ≤ 1000) :
    Yields (fun L => (ValidOK x1 x2 x3 l4 l5 l6 ∧ FitOK x1 x2 x3 l5 l6 x7 x8 l9 l10 l11 → RowsN l5.length (cyc x3 x7 x8) (fun r c => tot l6 x7 l9 r c l6.length) L) ∧ (¬ (ValidOK x1 x2 x3 l4 l5 l6 ∧ FitOK x1 x2 x3 l5 l6 x7 x8 l9 l10 l11) → L = [])) (F11 x1 x2 x3 l4 l5 l6 x7 x8 l9 l10 l11) := by
  unfold F11
  refine Yields.bind (fits_prog x1 x2 x3 l4 l5 l6 x7 x8 l9 l10 l11 k4 k5 (by omega) k9 k10) fun r hr => Yields.bif (fun q => Yields.some ⟨fun h => ?_, fun _ => rfl⟩) fun q => ?_
  · rw [hr.2 h] at q; cases q
  obtain ⟨hv, hf⟩ := hr.1 (by simpa using q)
  have e1 : (l6.length : Int) = x1 := hv.1.2.2.2.2
  refine Yields.bindE (cyc_prog x1 x2 x3 l5 l6 x7 x8 l9 l10 l11 hf) ?_
  rw [ok8 (by omega) (by omega), cond_false]
  refine Yields.bind (make_loop l5 _ (by have := (cyc_eq x1 x2 x3 l5 l6 x7 x8 l9 l10 l11 hf).2; omega) k5) fun L hL => Yields.bind (usage_loop x1 x2 x3 l5 l6 x7 x8 l9 l10 l11 hf hv.2.2.2.2.2.2 k6 (by have := hf.1; omega) hL) fun L2 h2 => Yields.some ⟨fun _ => h2, fun h => absurd ⟨hv, hf⟩ h⟩
theorem want_inner (hf : FitOK x1 x2 x3 l5 l6 x7 x8 l9 l10 l11) (hN : ∀ y ∈ l6, NeedOK l5 y) (k6 : l6.length ≤ 100) {r : Int} {i : Nat} {y : Int × Int} {s : Int} (hy : l6[i]? = some y) (hs : l9[i]? = some s) {L : List Int} (hL : RowN (cyc x3 x7 x8) (fun c => tot l6 x7 l9 r c i) L) :
    Yields (RowN (cyc x3 x7 x8) (fun c => tot l6 x7 l9 r c (i + 1))) (loopO (fun (z : Int × (List Int)) => F3_s3 x3 l9 ((cyc x3 x7 x8 : Nat) : Int) r (i : Int) y z.1 z.2) (0, L)) := by
  have yb := need_bd l5 l6 hN y (List.mem_of_getElem? hy)
  have hn := hN y (List.mem_of_getElem? hy)
  have s0 := hf.2.2.2.2.2.2.2.2.1 s (List.mem_of_getElem? hs)
  have li : i < l6.length := (List.getElem?_eq_some_iff.1 hy).1
  refine Yields.loop y.2.toNat (fun (b : Nat) z => z.1 = (b : Int) ∧ RowN (cyc x3 x7 x8) (fun c => tot l6 x7 l9 r c i + inner x7 r c y s b) z.2) ⟨rfl, hL.congr fun _ _ => by simp [inner]⟩ ?_
  rintro b ⟨a, L'⟩ hb ⟨h1, h2⟩
  simp only at h1 h2
  subst h1
  unfold F3_s3
  refine Yields.bif (fun hc => ?_) fun hc => Yields.some ?_
  · have hc := of_decide_eq_true hc
    refine Yields.bindE (atn hs) ?_
    obtain ⟨p1, p2, p3⟩ := place_law x1 x2 x3 l5 l6 x7 x8 l9 l10 l11 hf s0 (b := b) (by omega)
    have nx : IntKind.i64.wrap ((b : Int) + 1) = ((b + 1 : Nat) : Int) := wr1 (n := y.2.toNat) (by omega) (by omega)
    have cy := (cyc_eq x1 x2 x3 l5 l6 x7 x8 l9 l10 l11 hf).1
    have at_ : F3_s2 x3 ((cyc x3 x7 x8 : Nat) : Int) (b : Int) s = some (place x7 (s + b)) := by
      unfold F3_s2
      rw [p1]
      cases hx : x3 with
      | true =>
        rw [hx] at p3 cy
        rw [if_pos rfl] at p3 cy
        rw [cond_true, cy, beq_eq_false_iff_ne.2 p3.1, cond_false, p3.2]
      | false =>
        rw [hx] at p3
        rw [cond_false]
        exact congrArg some p3.symm
    refine Yields.bindE at_ ?_
    have e : ∀ k : Int, tot l6 x7 l9 r k i + inner x7 r k y s (b + 1) = (tot l6 x7 l9 r k i + inner x7 r k y s b) + if y.1 = r ∧ place x7 (s + b) = k then 1 else 0 := fun k => by
      simp only [inner, oneAt]; omega
    refine Yields.bif (fun z => ?_) fun z => Yields.some ⟨by omega, nx, h2.congr fun k hk => ?_⟩
    · have z : y.1 = r := by simpa using z
      refine Yields.bif (fun q => ?_) fun q => Yields.some ⟨by omega, nx, h2.congr fun k hk => ?_⟩
      · have q := of_decide_eq_true q
        refine Yields.bindE (at_row h2 p2 q) (Yields.some ⟨by omega, nx, ?_⟩)
        have b1 := tot_bd (l6 := l6) (x7 := x7) (l9 := l9) (r := r) (c := place x7 (s + b)) (need_bd l5 l6 hN) i
        have b2 := inner_bd x7 r (place x7 (s + b)) y s b
        refine RowN.hit h2 p2 q (by omega) fun k => ?_
        rw [e]
        by_cases w : place x7 (s + b) = k
        · rw [if_pos w, if_pos ⟨z, w⟩]
        · rw [if_neg w, if_neg fun v => w v.2]
      · have q := of_decide_eq_false q
        show _ = tot l6 x7 l9 r k i + inner x7 r k y s (b + 1)
        rw [e, if_neg (by omega)]; omega
    · have z : ¬ y.1 = r := by simpa using z
      show _ = tot l6 x7 l9 r k i + inner x7 r k y s (b + 1)
      rw [e, if_neg fun w => z w.1]; omega
  · have hc := of_decide_eq_false hc
    refine RowN.congr (g' := fun c => tot l6 x7 l9 r c (i + 1)) h2 fun c _ => ?_
    rw [show b = y.2.toNat by omega]
    simp only [tot, occOf, hy, hs]
theorem want_loop (hf : FitOK x1 x2 x3 l5 l6 x7 x8 l9 l10 l11) (hN : ∀ y ∈ l6, NeedOK l5 y) (k6 : l6.length ≤ 100) (e9 : l9.length = l6.length) {r : Int} :
    Yields (RowN (cyc x3 x7 x8) (fun c => tot l6 x7 l9 r c l6.length)) (loopO (fun (z : Int × (List Int)) => F3_s4 x3 l6 l9 ((cyc x3 x7 x8 : Nat) : Int) r z.1 z.2) (0, List.replicate ((cyc x3 x7 x8 : Nat) : Int).toNat (0 : Int))) := by
  refine Yields.loop l6.length (fun (i : Nat) z => z.1 = (i : Int) ∧ RowN (cyc x3 x7 x8) (fun c => tot l6 x7 l9 r c i) z.2) ⟨rfl, by rw [Int.toNat_natCast]; exact RowN.congr (g' := fun c => tot l6 x7 l9 r c 0) (RowN.zero _) fun _ _ => rfl⟩ ?_
  rintro i ⟨a, L'⟩ hi ⟨h1, h2⟩
  simp only at h1 h2
  subst h1
  unfold F3_s4
  refine Yields.bif (fun hc => ?_) fun hc => Yields.some ?_
  · have hc := of_decide_eq_true hc
    obtain ⟨y, hy⟩ := some_nat (l := l6) (i := i) (by omega)
    obtain ⟨s, hs⟩ := some_nat (l := l9) (i := i) (by omega)
    refine Yields.bindE (atn hy) (Yields.bind (want_inner x1 x2 x3 l5 l6 x7 x8 l9 l10 l11 hf hN k6 hy hs h2) fun L2 h3 => Yields.some ⟨by omega, wr1 (n := l6.length) (by omega) (by omega), h3⟩)
  · have hc := of_decide_eq_false hc
    rw [show l6.length = i by omega]
    exact h2
theorem enough (hv : ValidOK x1 x2 x3 l4 l5 l6) (hf : FitOK x1 x2 x3 l5 l6 x7 x8 l9 l10 l11) (k4 : l4.length ≤ 1000) (k5 : l5.length ≤ 1000) (k6 : l6.length ≤ 100) (k9 : l9.length ≤ 1000) (k10 : l10.length ≤ 1000)
    {r : Nat} (hr : r < l5.length) {L : List Int} (hL : RowN (cyc x3 x7 x8) (fun c => tot l6 x7 l9 (r : Int) c l6.length) L) :
    Yields (fun t => t = 1) (loopO (fun (s : Int) => F3_s5 x1 x2 x3 l4 l5 l6 x7 x8 l9 l10 l11 (r : Int) L s) 0) := by
  have cy := cyc_eq x1 x2 x3 l5 l6 x7 x8 l9 l10 l11 hf
  refine Yields.loop L.length (fun (i : Nat) z => z = (i : Int)) rfl ?_
  rintro i z hi rfl
  unfold F3_s5
  refine Yields.bif (fun hc => ?_) fun _ => Yields.some rfl
  have hc := of_decide_eq_true hc
  have hl := hL.1
  have nx : IntKind.i64.wrap ((i : Int) + 1) = ((i + 1 : Nat) : Int) := wr1 (n := L.length) (by omega) (by omega)
  obtain ⟨q, hq⟩ := some_nat (l := l5) (i := r) hr
  refine Yields.bindE (at_row hL (by omega) (by omega)) (Yields.bindE (atn hq) (Yields.bif (fun w => ?_) fun _ => Yields.some ⟨by omega, nx⟩))
  have w := of_decide_eq_true w
  refine Yields.bind (check_any x1 x2 x3 l4 l5 l6 x7 x8 l9 l10 l11 k4 k5 k6 k9 k10) fun e he => ?_
  have no : ¬ LegalP x1 x2 x3 l4 l6 x7 x8 l9 l10 l11 := fun lg => by
    have := tot_le x1 x2 x3 l4 l5 l6 x7 x8 l9 l10 l11 hv hf lg hq (c := (i : Int)) fun z => by
      have := hf.2.2.2.2.2.1.1 z
      rw [if_pos this] at cy
      omega
    omega
  rw [(he.2 ⟨hv, hf⟩).2 no]
  exact Yields.some ⟨by omega, nx⟩
theorem usage_eq (k4 : l4.length ≤ maxLen) (k6 : l6.length ≤ maxLen) : F3 x1 x2 x3 l4 l5 l6 x7 x8 l9 l10 l11 = some true := by
  apply Yields.eq
  unfold F3
  refine Yields.bind (few_any x1 x2 x3 l4 l5 l6 x7 x8 l9 l10 l11 k4 k6) fun r hr => Yields.bif (fun _ => Yields.some rfl) fun q => ?_
  obtain ⟨_, _, s4, s5, s6, s9, s10, s11⟩ := hr (by simpa using q)
  refine Yields.bif (fun _ => Yields.some rfl) fun _ => Yields.bind (usage_prog x1 x2 x3 l4 l5 l6 x7 x8 l9 l10 l11 (by omega) (by omega) (by omega) (by omega) (by omega)) fun L hL => Yields.bind (fit_ref x1 x2 x3 l4 l5 l6 x7 x8 l9 l10 l11 (by omega) (by omega) (by omega) (by omega) (by omega)) fun f hf => Yields.bif (fun q => Yields.some ?_) fun q => ?_
  · have no : ¬ (ValidOK x1 x2 x3 l4 l5 l6 ∧ FitOK x1 x2 x3 l5 l6 x7 x8 l9 l10 l11) := fun h => by rw [hf.2 h] at q; cases q
    rw [hL.2 no]; rfl
  obtain ⟨hv, hfit⟩ := hf.1 (by simpa using q)
  have hR := hL.1 ⟨hv, hfit⟩
  have e1 : (l6.length : Int) = x1 := hv.1.2.2.2.2
  have cy := cyc_eq x1 x2 x3 l5 l6 x7 x8 l9 l10 l11 hfit
  refine Yields.bindE (cyc_law x1 x2 x3 l5 l6 x7 x8 l9 l10 l11 hfit) ?_
  rw [hR.1, bne_self_eq_false, cond_false]
  refine Yields.bind (P := fun t => t = 1) (Yields.loop l5.length (fun (i : Nat) z => z = (i : Int)) rfl ?_) (by rintro t rfl; exact Yields.some rfl)
  rintro i z hi rfl
  unfold F3_s6
  rw [hR.1]
  refine Yields.bif (fun hc => ?_) fun _ => Yields.some rfl
  have hc := of_decide_eq_true hc
  rw [ok8 (by omega) (by omega), cond_false]
  refine Yields.bind (want_loop x1 x2 x3 l5 l6 x7 x8 l9 l10 l11 hfit hv.2.2.2.2.2.2 (by omega) (by have := hfit.1; omega)) fun W hW => ?_
  obtain ⟨row, h1, h2⟩ := hR.2 i (by omega)
  refine Yields.bindE (atn h1) ?_
  obtain rfl := RowN.eq h2 hW
  refine Yields.bindE (same_self row (by have := h2.1; omega)) ?_
  rw [Bool.not_true, cond_false]
  refine Yields.bind (enough x1 x2 x3 l4 l5 l6 x7 x8 l9 l10 l11 hv hfit (by omega) (by omega) (by omega) (by omega) (by omega) (by omega) h2) ?_
  rintro t rfl
  exact Yields.some ⟨by omega, wr1 (n := l5.length) (by omega) (by omega)⟩
end
theorem usage : Law Try.prog 3 10 [26, 29] := F3_law (fun x1 x2 x3 l4 l5 l6 x7 x8 l9 l10 l11 _ _ h4 _ _ _ h6 _ _ _ _ _ _ _ _ _ => usage_eq x1 x2 x3 l4 l5 l6 x7 x8 l9 l10 l11 h4.1 h6.1)
end Go.Proofs.Ytmncgnjginibiaa.Abs
