/- The lists of clashes: what stands in them, and in what order. -/
import Derived.Test.YtmncgnjginibiaaSuM
namespace Go.Proofs.Ytmncgnjginibiaa.Abs
open Go
set_option linter.unusedVariables false
set_option linter.unusedSimpArgs false
set_option maxHeartbeats 1000000
def LT2 (p q : Int × Int) : Prop := p.1 < q.1 ∨ (p.1 = q.1 ∧ p.2 < q.2)
def LE2 (p q : Int × Int) : Prop := p.1 < q.1 ∨ (p.1 = q.1 ∧ p.2 ≤ q.2)
theorem list_uniq {a b : List (Int × Int)} (ha : a.Nodup) (hb : b.Nodup) (hm : ∀ p, p ∈ a ↔ p ∈ b) (pa : a.Pairwise LE2) (pb : b.Pairwise LE2) : a = b := by
  refine List.Perm.eq_of_pairwise (le := LE2) ?_ pa pb ((List.perm_ext_iff_of_nodup ha hb).2 fun p => hm p)
  rintro ⟨p1, p2⟩ ⟨q1, q2⟩ _ _ h k
  unfold LE2 at h k
  simp only at h k
  rw [Prod.mk.injEq]
  omega
theorem le_key (p q : Int × Int) : (!(Go.Proofs.ltOf fun a b => cmpL (key75 a) (key75 b)) q p) = true ↔ LE2 p q := by
  unfold Go.Proofs.ltOf LE2 key75
  rw [Bool.not_eq_true', decide_eq_false_iff_not]
  simp only [cmpL]
  rcases cmpI_cases q.1 p.1 with ⟨h, e⟩ | ⟨h, e⟩ | ⟨h, e⟩ <;> rcases cmpI_cases q.2 p.2 with ⟨h', e'⟩ | ⟨h', e'⟩ | ⟨h', e'⟩ <;> rw [e, e'] <;> simp <;> omega
theorem sorted75 {l r : List (Int × Int)} (h : F74w75 l = some r) : r.Perm l ∧ r.Pairwise LE2 := by
  unfold F74w75 at h
  cases hd : decide (l.length < 4611686018427387904) with
  | false => rw [hd] at h; cases h
  | true =>
    rw [hd] at h
    obtain rfl := Option.some.inj h
    have S := key_swo (key := key75) (n := 2) fun _ => rfl
    refine ⟨List.mergeSort_perm _ _, ?_⟩
    refine (List.pairwise_mergeSort (le := fun x y => !(Go.Proofs.ltOf fun a b => cmpL (key75 a) (key75 b)) y x) ?_ ?_ l).imp fun {a b} h => (le_key a b).1 h
    · intro a b c h1 h2
      rw [Bool.not_eq_true'] at h1 h2 ⊢
      exact S.ntrans c b a h2 h1
    · intro a b
      cases h1 : Go.Proofs.ltOf (fun a b => cmpL (key75 a) (key75 b)) b a
      · rfl
      · cases h2 : Go.Proofs.ltOf (fun a b => cmpL (key75 a) (key75 b)) a b
        · rfl
        · have := S.trans a b a h2 h1
          rw [S.irrefl] at this; cases this
theorem mgetL_mappL {K α : Type} [DecidableEq K] (a b : K) (ys : List α) : ∀ xs : List (K × List α), mgetL a (mappL b ys xs) = if b = a then mgetL a xs ++ ys else mgetL a xs
  | [] => by
    unfold mappL mgetL
    by_cases h : b = a
    · rw [decide_eq_true h, if_pos h]; rfl
    · rw [decide_eq_false h, if_neg h]; rfl
  | (k, l) :: r => by
    have ih := mgetL_mappL a b ys r
    unfold mappL
    by_cases h : k = b
    · rw [decide_eq_true h, cond_true]
      simp only [mgetL]
      by_cases e : k = a
      · rw [decide_eq_true e, if_pos (h.symm.trans e)]; rfl
      · rw [decide_eq_false e, if_neg fun q => e (h.trans q)]; rfl
    · rw [decide_eq_false h, cond_false]
      simp only [mgetL]
      by_cases e : k = a
      · rw [decide_eq_true e, if_neg fun q => h (e.trans q.symm)]; rfl
      · rw [decide_eq_false e]; exact ih
theorem idxs_mem {p : Nat → Bool} {n : Nat} {v : Int} : v ∈ idxs p n ↔ ∃ j : Nat, v = (j : Int) ∧ j < n ∧ p j = true := by
  unfold idxs
  rw [List.mem_map]
  constructor
  · rintro ⟨k, hk, rfl⟩
    have := List.mem_filter.1 hk
    exact ⟨k, rfl, List.mem_range.1 this.1, this.2⟩
  · rintro ⟨j, rfl, h1, h2⟩
    exact ⟨j, List.mem_filter.2 ⟨List.mem_range.2 h1, h2⟩, rfl⟩
theorem idxs_nodup (p : Nat → Bool) (n : Nat) : (idxs p n).Nodup := by
  unfold idxs List.Nodup
  rw [List.pairwise_map]
  exact List.Pairwise.imp (fun {a b} h e => h (by omega)) ((List.nodup_range (n := n)).filter _)
theorem take_succ' {β : Type} {l : List β} {i : Nat} {y : β} (h : l[i]? = some y) : l.take (i + 1) = l.take i ++ [y] := by
  rw [List.take_add_one, h]; rfl
theorem nodup_take {β : Type} {l : List β} {i : Nat} {y : β} (hd : l.Nodup) (h : l[i]? = some y) : y ∉ l.take i := by
  intro hm
  obtain ⟨k, hk⟩ := List.mem_iff_getElem?.1 hm
  have hki : k < i := by
    have := (List.getElem?_eq_some_iff.1 hk).1
    rw [List.length_take] at this; omega
  rw [List.getElem?_take_of_lt hki] at hk
  obtain ⟨a1, a2⟩ := List.getElem?_eq_some_iff.1 hk
  obtain ⟨b1, b2⟩ := List.getElem?_eq_some_iff.1 h
  exact (List.pairwise_iff_getElem.1 hd k i a1 b1 hki) (by rw [a2, b2])
section
variable (x1 x2 : Int) (x3 : Bool) (l4 l5 : List Quad) (l6 : List (Int × Int)) (x7 x8 : Int) (l9 l10 l11 : List Int)
def PairCl (m : Nat) (p : Int × Int) : Prop := ∃ j k : Nat, p = ((j : Int), (k : Int)) ∧ j ≤ k ∧ k < m ∧ Cl l6 x7 l9 l11 j k
/-- What both lists are. -/
def IsCl (L : List (Int × Int)) : Prop := L.Nodup ∧ (∀ p, p ∈ L ↔ PairCl l6 x7 l9 l11 l6.length p) ∧ L.Pairwise LE2
theorem IsCl.eq {L L' : List (Int × Int)} (h : IsCl l6 x7 l9 l11 L) (h' : IsCl l6 x7 l9 l11 L') : L = L' :=
  list_uniq h.1 h'.1 (fun p => (h.2.1 p).trans (h'.2.1 p).symm) h.2.2 h'.2.2
/-- Whether an instruction is of a group. -/
def gq (a : Int × Int) (j : Nat) : Bool := match l6[j]?, l11[j]? with
  | some y, some u => decide (0 ≤ y.1) && decide ((y.1, u) = a)
  | _, _ => false
theorem gq_iff {a : Int × Int} {j : Nat} {y : Int × Int} {u : Int} (hy : l6[j]? = some y) (hu : l11[j]? = some u) : gq l6 l11 a j = true ↔ 0 ≤ y.1 ∧ (y.1, u) = a := by
  unfold gq; rw [hy, hu]; simp
theorem clashes_prog (hN : ∀ y ∈ l6, NeedOK l5 y) (hT : ∀ s ∈ l9, TimeOK s) (h7 : 0 ≤ x7 ∧ x7 ≤ 256) (h3 : 0 < x7 ↔ x3 = true) (k6 : l6.length ≤ 100) (e9 : l9.length = l6.length) (e11 : l11.length = l6.length)
    {r : Bool} (hr : F36 x1 x2 x3 l4 l5 l6 x7 x8 l9 l10 l11 = some r) : Yields (fun L => if r = true then IsCl l6 x7 l9 l11 L else L = []) (F42 x1 x2 x3 l4 l5 l6 x7 x8 l9 l10 l11) := by
  unfold F42
  refine Yields.bindE hr (Yields.bif (fun q => Yields.some ?_) fun q => ?_)
  · rw [if_neg (by simpa using q)]
  have q : r = true := by simpa using q
  subst q
  simp only [if_true]
  refine Yields.bind (P := fun L : List (Int × Int) => L.length ≤ 20000 ∧ L.Nodup ∧ ∀ p, p ∈ L ↔ PairCl l6 x7 l9 l11 l6.length p)
    (Yields.loop l6.length (fun (i : Nat) z => z.1 = (i : Int) ∧ z.2.1.length ≤ 101 * i ∧ z.2.1.Nodup ∧ (∀ p, p ∈ z.2.1 ↔ PairCl l6 x7 l9 l11 i p) ∧ ∀ a, mgetL a z.2.2 = idxs (gq l6 l11 a) i)
      ⟨rfl, Nat.zero_le _, List.Pairwise.nil, fun p => ⟨fun h => (by cases h), fun ⟨j, k, _, _, h, _⟩ => absurd h (by omega)⟩, fun a => rfl⟩ ?_) ?_
  · rintro i ⟨z1, L, M⟩ hi ⟨q1, q2, q3, q4, q5⟩
    simp only at q1 q2 q3 q4 q5
    subst q1
    unfold F42_s3
    simp only
    refine Yields.bif (fun hc => ?_) fun hc => Yields.some ⟨by omega, q3, fun p => ?_⟩
    · have hc := of_decide_eq_true hc
      have hil : i < l6.length := by omega
      obtain ⟨y, hy⟩ := some_nat hil
      obtain ⟨u, hu⟩ := some_nat (l := l11) (i := i) (by omega)
      obtain ⟨s, hs⟩ := some_nat (l := l9) (i := i) (by omega)
      have nx : IntKind.i64.wrap ((i : Int) + 1) = ((i + 1 : Nat) : Int) := wr1 (n := l6.length) (by omega) (by omega)
      have ts := hT s (List.mem_of_getElem? hs)
      have ny := hN y (List.mem_of_getElem? hy)
      -- what is new
      have more : ∀ p, PairCl l6 x7 l9 l11 (i + 1) p ↔ PairCl l6 x7 l9 l11 i p ∨ ∃ j : Nat, p = ((j : Int), (i : Int)) ∧ j ≤ i ∧ Cl l6 x7 l9 l11 j i := by
        intro p
        constructor
        · rintro ⟨j, k, h, a1, a2, a3⟩
          by_cases e : k = i
          · subst e; exact .inr ⟨j, h, a1, a3⟩
          · exact .inl ⟨j, k, h, a1, by omega, a3⟩
        · rintro (⟨j, k, h, a1, a2, a3⟩ | ⟨j, h, a1, a3⟩)
          · exact ⟨j, k, h, a1, by omega, a3⟩
          · exact ⟨j, i, h, a1, by omega, a3⟩
      have old : ∀ p, p ∈ L → p.2 < (i : Int) := by
        intro p hp
        obtain ⟨j, k, rfl, _, h, _⟩ := (q4 p).1 hp
        simp only; omega
      refine Yields.bindE (atn hy) (Yields.bif (fun w => Yields.some ⟨by omega, nx, by simp only; omega, q3, fun p => (q4 p).trans ?_, fun a => ?_⟩) fun w => ?_)
      · have w := of_decide_eq_true w
        rw [more]
        refine ⟨.inl, fun h => h.resolve_right ?_⟩
        rintro ⟨j, _, _, yi, yj, u', si, sj, b1, b2, b3, b4, b5, b6, b7, b8, b9⟩
        rw [hy] at b2; cases b2; omega
      · have w := of_decide_eq_true w
        rw [q5, idxs_succ]
        have : gq l6 l11 a i = false := Bool.eq_false_iff.2 fun h => by have := ((gq_iff l6 l11 hy hu).1 h).1; omega
        rw [this]; rfl
      have w := of_decide_eq_false w
      have yb : 1 ≤ y.2 ∧ y.2 ≤ 256 := by rcases ny with h | h <;> omega
      refine Yields.bind (P := fun L1 : List (Int × Int) => L1.length ≤ L.length + 1 ∧ L1.Nodup ∧ ∀ p, p ∈ L1 ↔ p ∈ L ∨ (p = ((i : Int), (i : Int)) ∧ Cl l6 x7 l9 l11 i i)) ?_ ?_
      · have self : Cl l6 x7 l9 l11 i i ↔ x3 = true ∧ x7 < y.2 := by
          rw [cl_iff l6 x7 l9 l11 hy hy hu hu hs hs]
          exact ⟨fun h => ⟨h3.1 (h.2.2.2.resolve_right fun r => r.1 rfl).2.1, (h.2.2.2.resolve_right fun r => r.1 rfl).2.2⟩, fun h => ⟨rfl, by omega, rfl, .inl ⟨rfl, h3.2 h.1, h.2⟩⟩⟩
        have no : ¬ (x3 = true ∧ x7 < y.2) → L.length ≤ L.length + 1 ∧ L.Nodup ∧ ∀ p, p ∈ L ↔ p ∈ L ∨ (p = ((i : Int), (i : Int)) ∧ Cl l6 x7 l9 l11 i i) := fun h => ⟨by omega, q3, fun p => ⟨.inl, fun h' => h'.resolve_right fun h' => h (self.1 h'.2)⟩⟩
        unfold F42_s1
        refine Yields.bif (fun c1 => Yields.bif (fun c2 => ?_) fun c2 => Yields.some (no fun h => of_decide_eq_false c2 h.2)) fun c1 => Yields.some (no fun h => by rw [h.1] at c1; cases c1)
        rw [okg (by simp only [List.length_singleton]; omega) (by omega), cond_false]
        refine Yields.some ⟨by simp, ?_, fun p => ?_⟩
        · rw [List.nodup_append]
          refine ⟨q3, List.pairwise_singleton _ _, ?_⟩
          intro p hp r hr e
          rw [List.mem_singleton] at hr
          subst hr; subst e
          have := old _ hp
          simp only at this; omega
        · rw [List.mem_append, List.mem_singleton]
          exact ⟨fun h => h.imp id fun h => ⟨h, self.2 ⟨c1, of_decide_eq_true c2⟩⟩, fun h => h.imp id fun h => h.1⟩
      rintro L1 ⟨m1, m2, m3⟩
      refine Yields.bindE (atn hu) ?_
      have ej := q5 (y.1, u)
      generalize hJ : mgetL (y.1, u) M = J at *
      have jl : J.length ≤ i := by rw [ej]; exact idxs_len _ _
      have jm : ∀ v, v ∈ J ↔ ∃ j : Nat, v = (j : Int) ∧ j < i ∧ gq l6 l11 (y.1, u) j = true := fun v => by rw [ej]; exact idxs_mem
      have jn : J.Nodup := by rw [ej]; exact idxs_nodup _ _
      refine Yields.bind (P := fun L2 : List (Int × Int) => L2.length ≤ L1.length + i ∧ L2.Nodup ∧ ∀ p, p ∈ L2 ↔ p ∈ L1 ∨ ∃ j : Nat, (j : Int) ∈ J ∧ p = ((j : Int), (i : Int)) ∧ Cl l6 x7 l9 l11 j i)
        (Yields.loop J.length (fun (t : Nat) z => z.1 = (t : Int) ∧ z.2.length ≤ L1.length + t ∧ z.2.Nodup ∧ ∀ p, p ∈ z.2 ↔ p ∈ L1 ∨ ∃ j : Nat, (j : Int) ∈ J.take t ∧ p = ((j : Int), (i : Int)) ∧ Cl l6 x7 l9 l11 j i)
          ⟨rfl, Nat.le_refl _, m2, fun p => ⟨.inl, fun h => h.resolve_right fun ⟨j, h, _⟩ => by simp at h⟩⟩ ?_) ?_
      · rintro t ⟨b, L2⟩ ht ⟨n1, n2, n3, n4⟩
        simp only at n1 n2 n3 n4
        subst n1
        unfold F42_s2
        simp only [hJ]
        refine Yields.bif (fun hq => ?_) fun hq => Yields.some ⟨by omega, n3, fun p => (n4 p).trans ?_⟩
        · have hq := of_decide_eq_true hq
          obtain ⟨v, hv⟩ := some_nat (l := J) (i := t) (by omega)
          obtain ⟨j, rfl, hji, hg⟩ := (jm v).1 (List.mem_of_getElem? hv)
          obtain ⟨yj, hyj⟩ := some_nat (l := l6) (i := j) (by omega)
          obtain ⟨uj, huj⟩ := some_nat (l := l11) (i := j) (by omega)
          obtain ⟨sj, hsj⟩ := some_nat (l := l9) (i := j) (by omega)
          have hgg := (gq_iff l6 l11 hyj huj).1 hg
          rw [Prod.mk.injEq] at hgg
          have tsj := hT sj (List.mem_of_getElem? hsj)
          have nyj := hN yj (List.mem_of_getElem? hyj)
          have yjb : 1 ≤ yj.2 ∧ yj.2 ≤ 256 := by rcases nyj with h | h <;> omega
          have nx2 : IntKind.i64.wrap ((t : Int) + 1) = ((t + 1 : Nat) : Int) := wr1 (n := J.length) (by omega) (by omega)
          have hcl : F73 x7 sj yj.2 s y.2 = true ↔ Cl l6 x7 l9 l11 j i := by
            rw [overlap_iff h7 tsj ts yjb yb, cl_iff l6 x7 l9 l11 hyj hy huj hu hsj hs]
            exact ⟨fun h => ⟨hgg.2.2, hgg.1, hgg.2.1, .inr ⟨by omega, h⟩⟩, fun h => (h.2.2.2.resolve_left fun l => by omega).2⟩
          have tk := take_succ' hv
          refine Yields.bindE (atn hv) (Yields.bindE (atn hsj) (Yields.bindE (atn hyj) (Yields.bindE (atn hs) (Yields.bif (fun c => ?_) fun c => Yields.some ⟨by omega, nx2, by simp only; omega, n3, fun p => (n4 p).trans ?_⟩))))
          · rw [okg (by simp only [List.length_singleton]; omega) (by omega), cond_false]
            refine Yields.some ⟨by omega, nx2, by simp; omega, ?_, fun p => ?_⟩
            · rw [List.nodup_append]
              refine ⟨n3, List.pairwise_singleton _ _, ?_⟩
              intro p hp r hr e
              rw [List.mem_singleton] at hr
              subst hr; subst e
              rcases (n4 _).1 hp with h | ⟨j', h, e, _⟩
              · rcases (m3 _).1 h with h | ⟨e, _⟩
                · have := old _ h
                  simp only at this; omega
                · rw [Prod.mk.injEq] at e; omega
              · rw [Prod.mk.injEq] at e
                have : j' = j := by omega
                subst this
                exact nodup_take jn hv h
            · rw [List.mem_append, List.mem_singleton, n4, tk]
              constructor
              · rintro ((h | ⟨j', h, e, h'⟩) | rfl)
                · exact .inl h
                · exact .inr ⟨j', List.mem_append_left _ h, e, h'⟩
                · exact .inr ⟨j, by simp, rfl, hcl.1 c⟩
              · rintro (h | ⟨j', h, e, h'⟩)
                · exact .inl (.inl h)
                · rcases List.mem_append.1 h with h | h
                  · exact .inl (.inr ⟨j', h, e, h'⟩)
                  · rw [List.mem_singleton] at h
                    have : j' = j := by omega
                    subst this; exact .inr e
          · rw [tk]
            constructor
            · rintro (h | ⟨j', h, e, h'⟩)
              · exact .inl h
              · exact .inr ⟨j', List.mem_append_left _ h, e, h'⟩
            · rintro (h | ⟨j', h, e, h'⟩)
              · exact .inl h
              · rcases List.mem_append.1 h with h | h
                · exact .inr ⟨j', h, e, h'⟩
                · rw [List.mem_singleton] at h
                  have : j' = j := by omega
                  subst this
                  rw [hcl.2 h'] at c; cases c
        · have hq := of_decide_eq_false hq
          rw [List.take_of_length_le (by omega)]
      · rintro L2 ⟨n2, n3, n4⟩
        have ml : (mgetL (y.1, u) (mens (y.1, u) M)).length ≤ i := by rw [mgetL_mens, hJ]; exact jl
        rw [okg (by simp only [List.length_singleton]; omega) (by omega), cond_false]
        refine Yields.some ⟨by omega, nx, by simp only; omega, n3, fun p => (n4 p).trans ?_, fun a => ?_⟩
        · rw [more, m3, q4]
          constructor
          · rintro ((h | ⟨e, h⟩) | ⟨j, h, e, h'⟩)
            · exact .inl h
            · exact .inr ⟨i, e, Nat.le_refl _, h⟩
            · obtain ⟨j', e', hj', _⟩ := (jm _).1 h
              exact .inr ⟨j, e, by omega, h'⟩
          · rintro (h | ⟨j, e, hj, h'⟩)
            · exact .inl (.inl h)
            · by_cases ej : j = i
              · subst ej; exact .inl (.inr ⟨e, h'⟩)
              · refine .inr ⟨j, (jm _).2 ⟨j, rfl, by omega, ?_⟩, e, h'⟩
                obtain ⟨yi, yj, u', si, sj, b1, b2, b3, b4, b5, b6, b7, b8, b9⟩ := h'
                rw [hy] at b2; cases b2
                rw [hu] at b4; cases b4
                exact (gq_iff l6 l11 b1 b3).2 ⟨b7, by rw [b8]⟩
        · rw [mgetL_mappL, idxs_succ, q5]
          by_cases e : (y.1, u) = a
          · rw [if_pos e, (gq_iff l6 l11 hy hu).2 ⟨by omega, e⟩]; rfl
          · have : gq l6 l11 a i = false := Bool.eq_false_iff.2 fun h => e ((gq_iff l6 l11 hy hu).1 h).2
            rw [if_neg e, this]; rfl
    · have hc := of_decide_eq_false hc
      have : i = l6.length := by omega
      subst this
      exact q4 p
  · rintro L ⟨g1, g2, g3⟩
    have hs : ∃ R, F74w75 L = some R := by
      unfold F74w75
      rw [decide_eq_true (by omega)]
      exact ⟨_, rfl⟩
    obtain ⟨R, hR⟩ := hs
    obtain ⟨p1, p2⟩ := sorted75 hR
    exact Yields.bindE hR (Yields.some ⟨p1.nodup_iff.2 g2, fun p => p1.mem_iff.trans (g3 p), p2⟩)
end
end Go.Proofs.Ytmncgnjginibiaa.Abs
