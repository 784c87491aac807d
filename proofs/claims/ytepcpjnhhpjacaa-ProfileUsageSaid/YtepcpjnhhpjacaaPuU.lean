/- How much of each resource is used. -/
import Derived.Test.YtepcpjnhhpjacaaPuF
namespace Go.Proofs.Ytepcpjnhhpjacaa.Abs
open Go
set_option linter.unusedVariables false
set_option linter.unusedSimpArgs false
set_option maxHeartbeats 1000000
def busyOf (r : Int) : List (Int × Int) → Int
  | [] => 0
  | y :: t => (if y.1 = r then y.2 else 0) + busyOf r t
theorem busyOf_app (r : Int) (y : Int × Int) : ∀ a : List (Int × Int), busyOf r (a ++ [y]) = busyOf r a + if y.1 = r then y.2 else 0
  | [] => by simp [busyOf]
  | x :: a => by simp only [List.cons_append, busyOf]; rw [busyOf_app r y a]; omega
theorem busyOf_bd (r : Int) : ∀ a : List (Int × Int), (∀ y ∈ a, 0 ≤ y.2 ∧ y.2 ≤ 256) → 0 ≤ busyOf r a ∧ busyOf r a ≤ 256 * a.length
  | [], _ => by simp [busyOf]
  | x :: a, h => by
    have := busyOf_bd r a (fun y hy => h y (List.mem_cons_of_mem _ hy))
    have := h x (List.mem_cons_self ..)
    simp only [busyOf, List.length_cons]
    split <;> omega
theorem take_one {β : Type} {l : List β} {i : Nat} {y : β} (h : l[i]? = some y) : l.take (i + 1) = l.take i ++ [y] := by
  rw [List.take_add_one, h]; rfl
def UsageR (l5 : List Quad) (l6 : List (Int × Int)) (len : Int) (L : List (Int × Int)) : Prop := L.length = l5.length ∧ ∀ (i : Nat) q, l5[i]? = some q → L[i]? = some (busyOf i l6, q.2.2.2 * len)
theorem UsageR.eq {l5 : List Quad} {l6 : List (Int × Int)} {len : Int} {L L' : List (Int × Int)} (h : UsageR l5 l6 len L) (h' : UsageR l5 l6 len L') : L = L' := by
  apply List.ext_getElem?
  intro i
  cases hq : l5[i]? with
  | none =>
    have := List.getElem?_eq_none_iff.1 hq
    rw [List.getElem?_eq_none (by have := h.1; omega), List.getElem?_eq_none (by have := h'.1; omega)]
  | some q => rw [h.2 i q hq, h'.2 i q hq]
section
variable (x1 x2 : Int) (x3 : Bool) (l4 l5 : List Quad) (l6 : List (Int × Int)) (x7 x8 : Int) (l9 l10 l11 : List Int)
theorem need_bd (hN : ∀ y ∈ l6, NeedOK l5 y) : ∀ y ∈ l6, 0 ≤ y.2 ∧ y.2 ≤ 256 := fun y hy => by
  rcases hN y hy with ⟨_, h⟩ | ⟨_, _, h⟩ <;> omega
theorem prod_bd {a b : Int} (a0 : 0 ≤ a) (a1 : a ≤ 1024) (b0 : 0 ≤ b) (b1 : b ≤ 4096) : 0 ≤ a * b ∧ a * b ≤ 4194304 := by
  refine ⟨Int.mul_nonneg a0 b0, ?_⟩
  have h1 : a * b ≤ 1024 * b := Int.mul_le_mul_of_nonneg_right a1 b0
  omega
theorem slots_loop (len : Int) (hl0 : 0 ≤ len) (hl1 : len ≤ 4096) (hR : ∀ r ∈ l5, ResOK r) (k5 : l5.length ≤ 1000) :
    Yields (fun L : List (Int × Int) => L.length = l5.length ∧ ∀ (j : Nat) q, l5[j]? = some q → L[j]? = some (0, q.2.2.2 * len)) (loopO (fun (s : Int × (List (Int × Int))) => F16_s1 l5 len s.1 s.2) (0, List.replicate (l5.length : Int).toNat ((0, 0) : Int × Int))) := by
  refine Yields.loop l5.length (fun (i : Nat) z => z.1 = (i : Int) ∧ z.2.length = l5.length ∧ ∀ (j : Nat) q, l5[j]? = some q → z.2[j]? = some (0, if j < i then q.2.2.2 * len else 0)) ⟨rfl, by simp, ?_⟩ ?_
  · intro j q hq
    have := (List.getElem?_eq_some_iff.1 hq).1
    rw [List.getElem?_replicate, if_pos (by omega), if_neg (by omega)]
  · rintro i ⟨a, L⟩ hi ⟨h1, h2, h3⟩
    simp only at h1 h2 h3
    subst h1
    unfold F16_s1
    simp only
    refine Yields.bif (fun hc => ?_) fun hc => Yields.some ⟨h2, fun j q hq => ?_⟩
    · have hc := of_decide_eq_true hc
      obtain ⟨q, hq⟩ := some_nat (l := l5) (i := i) (by omega)
      have hqm := hR q (List.mem_of_getElem? hq)
      have hb := prod_bd (a := q.2.2.2) (b := len) (by have := hqm.2.2.1; omega) hqm.2.2.2 hl0 hl1
      refine Yields.bindE (atn hq) (Yields.bindE (atn (h3 i q hq)) (Yields.some ⟨by omega, by rw [wr1 (n := l5.length) (by omega) (by omega)], by simp [setI, h2], ?_⟩))
      intro j q' hq'
      simp only [setI, Int.toNat_natCast]
      rw [List.getElem?_set]
      by_cases e : i = j
      · subst e
        rw [hq] at hq'; cases hq'
        rw [if_pos rfl, if_pos (by omega), if_pos (by omega), wr (by omega) (by omega)]
      · rw [if_neg e, h3 j q' hq']
        by_cases e2 : j < i
        · rw [if_pos e2, if_pos (by omega)]
        · rw [if_neg e2, if_neg (by omega)]
    · have hc := of_decide_eq_false hc
      have := (List.getElem?_eq_some_iff.1 hq).1
      rw [h3 j q hq, if_pos (by omega)]
theorem busy_loop (len : Int) (hN : ∀ y ∈ l6, NeedOK l5 y) (k6 : l6.length ≤ 1000) {L0 : List (Int × Int)} (h0 : L0.length = l5.length ∧ ∀ (j : Nat) q, l5[j]? = some q → L0[j]? = some (0, q.2.2.2 * len)) :
    Yields (UsageR l5 l6 len) (loopO (fun (s : Int × (List (Int × Int))) => F16_s2 l6 s.1 s.2) (0, L0)) := by
  refine Yields.loop l6.length (fun (i : Nat) z => z.1 = (i : Int) ∧ z.2.length = l5.length ∧ ∀ (j : Nat) q, l5[j]? = some q → z.2[j]? = some (busyOf j (l6.take i), q.2.2.2 * len)) ⟨rfl, h0.1, fun j q hq => h0.2 j q hq⟩ ?_
  rintro i ⟨a, L⟩ hi ⟨h1, h2, h3⟩
  simp only at h1 h2 h3
  subst h1
  unfold F16_s2
  simp only
  refine Yields.bif (fun hc => ?_) fun hc => Yields.some ⟨h2, fun j q hq => ?_⟩
  · have hc := of_decide_eq_true hc
    obtain ⟨y, hy⟩ := some_nat (l := l6) (i := i) (by omega)
    have hym := hN y (List.mem_of_getElem? hy)
    have nx : IntKind.i64.wrap ((i : Int) + 1) = ((i + 1 : Nat) : Int) := wr1 (n := l6.length) (by omega) (by omega)
    refine Yields.bindE (atn hy) (Yields.bif (fun k => ?_) fun k => Yields.some ⟨by omega, nx, h2, ?_⟩)
    · have k := of_decide_eq_true k
      have hlt : y.1 < l5.length := by rcases hym with ⟨h, _⟩ | ⟨_, h, _⟩ <;> omega
      have hyb := need_bd l5 l6 hN y (List.mem_of_getElem? hy)
      obtain ⟨q, hq⟩ := some_nat (l := l5) (i := y.1.toNat) (by omega)
      have hcell := h3 _ q hq
      rw [show ((y.1.toNat : Nat) : Int) = y.1 by omega] at hcell
      have bd := busyOf_bd y.1 (l6.take i) (fun z hz => need_bd l5 l6 hN z (List.mem_of_mem_take hz))
      have hlen : (l6.take i).length ≤ i := by simp; omega
      refine Yields.bindE (atI (by omega) hcell) (Yields.some ⟨by omega, nx, by simp [setI, h2], ?_⟩)
      intro j q' hq'
      simp only [setI]
      rw [List.getElem?_set, take_one hy, busyOf_app]
      by_cases e : y.1.toNat = j
      · subst e
        rw [hq] at hq'; cases hq'
        rw [if_pos rfl, if_pos (by have := (List.getElem?_eq_some_iff.1 hq).1; omega), wr (by omega) (by omega), if_pos (by omega), show ((y.1.toNat : Nat) : Int) = y.1 by omega]
      · rw [if_neg e, if_neg (by omega), Int.add_zero, h3 j q' hq']
    · have k := of_decide_eq_false k
      intro j q' hq'
      rw [take_one hy, busyOf_app, if_neg (by omega), Int.add_zero]
      exact h3 j q' hq'
  · have hc := of_decide_eq_false hc
    have e : l6.take i = l6 := List.take_of_length_le (by omega)
    rw [e] at h3
    exact h3 j q hq
def lenOf : Int := if x3 = true then x7 else x8
theorem usage_prog (k4 : l4.length ≤ 1000) (k5 : l5.length ≤ 1000) (k6 : l6.length ≤ 1000) (k9 : l9.length ≤ 1000) (k10 : l10.length ≤ 1000) :
    Yields (fun L => (¬ (ValidOK x1 x2 x3 l4 l5 l6 ∧ FitOK x1 x2 x3 l5 l6 x7 x8 l9 l10 l11) ∧ L = []) ∨ ((ValidOK x1 x2 x3 l4 l5 l6 ∧ FitOK x1 x2 x3 l5 l6 x7 x8 l9 l10 l11) ∧ UsageR l5 l6 (lenOf x3 x7 x8) L)) (F16 x1 x2 x3 l4 l5 l6 x7 x8 l9 l10 l11) := by
  unfold F16
  refine Yields.bind (fits_prog x1 x2 x3 l4 l5 l6 x7 x8 l9 l10 l11 k4 k5 k6 k9 k10) fun r hr => Yields.bif (fun q => Yields.some (.inl ⟨fun h => ?_, rfl⟩)) fun q => ?_
  · rw [hr.2 h] at q; cases q
  have h := hr.1 (by simpa using q)
  have hR := h.1.2.2.2.2.1
  have hN := h.1.2.2.2.2.2.2
  obtain ⟨_, _, _, f1, f2, _, f3, f4, _⟩ := h.2
  have ok : okLen (l5.length : Int) (l5.length : Int) 16 = true := ok_len (by omega) (by omega)
  rw [ok]
  simp only [Bool.not_true, cond_false]
  refine Yields.bif (fun c => ?_) fun c => ?_
  · subst c
    refine Yields.bind (slots_loop l5 x7 f1 (by omega) hR k5) fun L0 h0 => Yields.bind (busy_loop l5 l6 x7 hN k6 h0) fun L hL => Yields.some (.inr ⟨h, ?_⟩)
    unfold lenOf; rw [if_pos rfl]; exact hL
  · subst c
    refine Yields.bind (slots_loop l5 x8 (by omega) f4 hR k5) fun L0 h0 => Yields.bind (busy_loop l5 l6 x8 hN k6 h0) fun L hL => Yields.some (.inr ⟨h, ?_⟩)
    unfold lenOf; rw [if_neg (by decide)]; exact hL
theorem sum_ref (hN : ∀ y ∈ l6, NeedOK l5 y) (k6 : l6.length ≤ 1000) (r : Int) : Yields (fun p => p.1 = busyOf r l6) (F58 x1 x2 x3 l4 l5 l6 r) := by
  unfold F58
  refine Yields.bind (P := fun p : Int × Int => p.1 = busyOf r l6) (Yields.loop l6.length (fun (i : Nat) z => z.1 = busyOf r (l6.take i) ∧ z.2.2 = (i : Int)) ⟨rfl, rfl⟩ ?_) fun p hp => Yields.some hp
  rintro i ⟨a, b, c⟩ hi ⟨h1, h2⟩
  simp only at h1 h2
  subst h1 h2
  unfold F58_s1
  simp only
  refine Yields.bif (fun hc => ?_) fun hc => Yields.some ?_
  · have hc := of_decide_eq_true hc
    obtain ⟨y, hy⟩ := some_nat (l := l6) (i := i) (by omega)
    have hyb := need_bd l5 l6 hN y (List.mem_of_getElem? hy)
    have nx : IntKind.i64.wrap ((i : Int) + 1) = ((i + 1 : Nat) : Int) := wr1 (n := l6.length) (by omega) (by omega)
    have bd := busyOf_bd r (l6.take i) (fun z hz => need_bd l5 l6 hN z (List.mem_of_mem_take hz))
    have hlen : (l6.take i).length ≤ i := by simp; omega
    refine Yields.bindE (atn hy) (Yields.bif (fun k => Yields.some ⟨by omega, ?_, nx⟩) fun k => Yields.some ⟨by omega, ?_, nx⟩)
    · simp only
      rw [take_one hy, busyOf_app, if_pos (beq_iff_eq.1 k), wr (by omega) (by omega)]
    · simp only
      rw [take_one hy, busyOf_app, if_neg (beq_eq_false_iff_ne.1 k), Int.add_zero]
  · have hc := of_decide_eq_false hc
    show busyOf r (l6.take i) = busyOf r l6
    rw [List.take_of_length_le (by omega)]
theorem usage_ref (hR : ∀ r ∈ l5, ResOK r) (hN : ∀ y ∈ l6, NeedOK l5 y) (hfit : FitOK x1 x2 x3 l5 l6 x7 x8 l9 l10 l11) (k5 : l5.length ≤ 1000) (k6 : l6.length ≤ 1000) : Yields (UsageR l5 l6 (lenOf x3 x7 x8)) (F18 x1 x2 x3 l4 l5 l6 x7 x8 l9 l10 l11) := by
  obtain ⟨_, _, _, f1, f2, _, f3, f4, _⟩ := hfit
  unfold F18
  refine Yields.bind (P := UsageR l5 l6 (lenOf x3 x7 x8)) (Yields.loop l5.length (fun (i : Nat) z => z.1 = (i : Int) ∧ z.2.length = i ∧ ∀ (j : Nat) q, j < i → l5[j]? = some q → z.2[j]? = some (busyOf j l6, q.2.2.2 * lenOf x3 x7 x8)) ⟨rfl, rfl, fun j q h => absurd h (by omega)⟩ ?_) fun L hL => Yields.some hL
  rintro i ⟨a, L⟩ hi ⟨h1, h2, h3⟩
  simp only at h1 h2 h3
  subst h1
  unfold F18_s1
  simp only
  refine Yields.bif (fun hc => ?_) fun hc => Yields.some ⟨?_, fun j q hq => ?_⟩
  · have hc := of_decide_eq_true hc
    obtain ⟨q, hq⟩ := some_nat (l := l5) (i := i) (by omega)
    have hqm := hR q (List.mem_of_getElem? hq)
    have nx : IntKind.i64.wrap ((i : Int) + 1) = ((i + 1 : Nat) : Int) := wr1 (n := l5.length) (by omega) (by omega)
    have fin : ∀ (p : Int × Int) (len : Int), p.1 = busyOf i l6 → len = lenOf x3 x7 x8 → 0 ≤ len → len ≤ 4096 → Yields (Nx i l5.length (fun (i : Nat) (z : Int × List (Int × Int)) => z.1 = (i : Int) ∧ z.2.length = i ∧ ∀ (j : Nat) q, j < i → l5[j]? = some q → z.2[j]? = some (busyOf j l6, q.2.2.2 * lenOf x3 x7 x8)) (UsageR l5 l6 (lenOf x3 x7 x8))) (bif (!(okApp (L.length + ([(p.1, (IntKind.i64.wrap (q.2.2.2 * len)))] : List (Int × Int)).length) 16)) then none else some (.inl ((IntKind.i64.wrap ((i : Int) + 1)), (L ++ ([(p.1, (IntKind.i64.wrap (q.2.2.2 * len)))] : List (Int × Int)))))) := by
      intro p len hp hlen l0 l1
      have hb := prod_bd (a := q.2.2.2) (b := len) (by have := hqm.2.2.1; omega) hqm.2.2.2 l0 l1
      rw [ok_app (by simp only [List.length_singleton]; omega) (by simp only [List.length_singleton]; omega)]
      simp only [Bool.not_true, cond_false]
      refine Yields.some ⟨by omega, nx, by simp; omega, ?_⟩
      intro j q' hj hq'
      simp only
      by_cases e : j = i
      · subst e
        rw [hq] at hq'; cases hq'
        rw [List.getElem?_append_right (by omega), h2, Nat.sub_self, wr (by omega) (by omega), hp, hlen]; rfl
      · rw [List.getElem?_append_left (by omega)]
        exact h3 j q' (by omega) hq'
    refine Yields.bind (sum_ref x1 x2 x3 l4 l5 l6 hN k6 i) fun p hp => Yields.bif (fun c => Yields.bindE (atn hq) ?_) fun c => Yields.bindE (atn hq) ?_
    · exact fin p x7 hp (by unfold lenOf; rw [if_pos c]) f1 (by omega)
    · exact fin p x8 hp (by unfold lenOf; rw [c]; rfl) (by omega) f4
  · have hc := of_decide_eq_false hc; omega
  · have hc := of_decide_eq_false hc
    have := (List.getElem?_eq_some_iff.1 hq).1
    exact h3 j q (by omega) hq
end
end Go.Proofs.Ytepcpjnhhpjacaa.Abs
