/-
  Blocks that a call has made: what they hold, and that nothing else turned.
-/
import Derived.Test.YtimeninncpmaeaaVt
namespace Go.Proofs.Ytimeninncpmaeaa.Abs
open Go
set_option linter.unusedVariables false
set_option linter.unusedSimpArgs false

structure Slot where
  v : Hd
  el : TypeId
  c : Nat
  cells : List Value
def Slot.ok (h0 h : AHeap) (s : Slot) : Prop :=
  (s.v = ⟨none, 0, 0⟩ ∧ s.cells = []) ∨ ∃ id g, ∃ rest : List Value, s.v = ⟨some ⟨id, 0, some g⟩, s.v.n, s.c⟩ ∧ (s.c ≠ 0 → s.v.n * s.c = s.cells.length) ∧ h.get id = some ⟨s.cells ++ rest, g, false, s.el⟩ ∧ h0.get id = none ∧ (s.c = 0 → rest = [])
def Slot.id? (s : Slot) : Option Nat := match s.v.a with
  | some a => some a.block
  | none => none
structure Heapy (h0 h : AHeap) (l : List Slot) : Prop where
  wf : h.wf
  sub : h0.sub h
  size : h0.size ≤ h.size
  ok : ∀ s ∈ l, s.ok h0 h
  apart : ∀ (i j : Nat) s t, l[i]? = some s → l[j]? = some t → i ≠ j → ∀ b, s.id? = some b → t.id? ≠ some b

theorem Heapy.refl {h : AHeap} (w : h.wf) : Heapy h h [] := ⟨w, h.sub_refl, Nat.le_refl _, by simp, by simp⟩
theorem Slot.lt {h0 h : AHeap} {s : Slot} (k : s.ok h0 h) {b : Nat} (e : s.id? = some b) : h0.get b = none ∧ b < h.size ∧ ∃ x, h.get b = some x := by
  rcases k with ⟨k1, k2⟩ | ⟨id, g, rest, k1, k2, k3, k4, _⟩
  · unfold Slot.id? at e; rw [k1] at e; cases e
  · unfold Slot.id? at e; rw [k1] at e; cases e; exact ⟨k4, AHeap.lt_of_get k3, _, k3⟩
theorem Heapy.cons {h0 h : AHeap} {l : List Slot} (H : Heapy h0 h l) {s : Slot} (hs : s.ok h0 h) (hn : ∀ t ∈ l, ∀ b, s.id? = some b → t.id? ≠ some b) : Heapy h0 h (s :: l) := by
  refine ⟨H.wf, H.sub, H.size, ?_, ?_⟩
  · intro t ht
    rcases List.mem_cons.1 ht with rfl | ht
    · exact hs
    · exact H.ok t ht
  · intro i j a b ha hb hij c hc
    cases i with
    | zero =>
      cases j with
      | zero => exact absurd rfl hij
      | succ j =>
        simp at ha; subst ha
        exact hn b (List.mem_of_getElem? (by simpa using hb)) c hc
    | succ i =>
      cases j with
      | zero =>
        simp at hb; subst hb
        intro hd
        exact hn a (List.mem_of_getElem? (by simpa using ha)) c hd hc
      | succ j => exact H.apart i j a b (by simpa using ha) (by simpa using hb) (by omega) c hc
theorem Heapy.nil {h0 h : AHeap} {l : List Slot} (H : Heapy h0 h l) (el : TypeId) (c : Nat) : Heapy h0 h (⟨⟨none, 0, 0⟩, el, c, []⟩ :: l) :=
  H.cons (.inl ⟨rfl, rfl⟩) (fun t _ b hb => by cases hb)
theorem Heapy.grow {h0 h h' : AHeap} {l : List Slot} (H : Heapy h0 h l) (w : h'.wf) (s : h.sub h') (z : h.size ≤ h'.size) : Heapy h0 h' l := by
  refine ⟨w, AHeap.sub_trans H.sub s, Nat.le_trans H.size z, ?_, H.apart⟩
  intro t ht
  rcases H.ok t ht with k | ⟨id, g, rest, k1, k2, k3, k4, k5⟩
  · exact .inl k
  · exact .inr ⟨id, g, rest, k1, k2, s _ _ k3, k4, k5⟩
theorem sub_push (h : AHeap) (b : ABlock) : h.sub (h.push b) := fun i x hx => by rw [AHeap.get_push_old _ _ (AHeap.lt_of_get hx)]; exact hx
theorem Heapy.push {h0 h : AHeap} {l : List Slot} (H : Heapy h0 h l) {el : TypeId} {n c : Nat} {cells : List Value} (hc : n * c = cells.length) :
    Heapy h0 (h.push ⟨cells, 0, false, el⟩) (⟨⟨some ⟨h.size, 0, some 0⟩, n, c⟩, el, c, cells⟩ :: l) := by
  refine (H.grow (AHeap.wf_push H.wf _) (sub_push _ _) (by simp [AHeap.push])).cons (.inr ⟨_, _, [], rfl, fun _ => hc, by rw [List.append_nil]; exact AHeap.get_push_new _ _, AHeap.get_ge H.size, fun _ => rfl⟩) ?_
  intro t ht b hb
  cases hb
  intro e
  have := (Slot.lt (H.ok t ht) e).2.1
  simp at this
theorem Heapy.call {h0 h h' : AHeap} {l r : List Slot} (H : Heapy h0 h l) (K : Heapy h h' r) : Heapy h0 h' (r ++ l) := by
  have G := H.grow K.wf K.sub K.size
  refine ⟨K.wf, G.sub, G.size, ?_, ?_⟩
  · intro t ht
    rcases List.mem_append.1 ht with ht | ht
    · rcases K.ok t ht with k | ⟨id, g, rest, k1, k2, k3, k4, k5⟩
      · exact .inl k
      · refine .inr ⟨id, g, rest, k1, k2, k3, ?_, k5⟩
        cases e : h0.get id with
        | none => rfl
        | some b => rw [H.sub _ _ e] at k4; cases k4
    · exact G.ok t ht
  · intro i j s t hi hj hij b hb he
    rw [List.getElem?_append] at hi hj
    split at hi
    · split at hj
      · exact K.apart i j s t hi hj hij b hb he
      · have h1 := (Slot.lt (K.ok s (List.mem_of_getElem? hi)) hb).1
        obtain ⟨_, _, x, h2⟩ := Slot.lt (H.ok t (List.mem_of_getElem? hj)) he
        rw [h1] at h2; cases h2
    · split at hj
      · obtain ⟨_, _, x, h1⟩ := Slot.lt (H.ok s (List.mem_of_getElem? hi)) hb
        have h2 := (Slot.lt (K.ok t (List.mem_of_getElem? hj)) he).1
        rw [h2] at h1; cases h1
      · exact H.apart _ _ s t hi hj (by omega) b hb he
theorem Heapy.pick {h0 h : AHeap} {l : List Slot} (H : Heapy h0 h l) (ks : List Nat) (hn : ks.Nodup) : Heapy h0 h (ks.filterMap (l[·]?)) := by
  refine ⟨H.wf, H.sub, H.size, ?_, ?_⟩
  · intro s hs
    obtain ⟨k, _, hk⟩ := List.mem_filterMap.1 hs
    exact H.ok s (List.mem_of_getElem? hk)
  · have key : ∀ (ks : List Nat), ks.Nodup → ∀ (i j : Nat) s t, (ks.filterMap (l[·]?))[i]? = some s → (ks.filterMap (l[·]?))[j]? = some t → i ≠ j → ∃ a b, a ≠ b ∧ a ∈ ks ∧ b ∈ ks ∧ l[a]? = some s ∧ l[b]? = some t := by
      intro ks
      induction ks with
      | nil => intro _ i j s t hi; simp at hi
      | cons k ks ih =>
        intro hn i j s t hi hj hij
        obtain ⟨hk, hn⟩ := List.nodup_cons.1 hn
        cases hl : l[k]? with
        | none =>
          rw [List.filterMap_cons_none hl] at hi hj
          obtain ⟨a, b, h1, h2, h3, h4, h5⟩ := ih hn i j s t hi hj hij
          exact ⟨a, b, h1, by simp [h2], by simp [h3], h4, h5⟩
        | some x =>
          rw [List.filterMap_cons_some hl] at hi hj
          cases i with
          | zero =>
            cases j with
            | zero => exact absurd rfl hij
            | succ j =>
              simp at hi; subst hi
              obtain ⟨b, hb, hb'⟩ := List.mem_filterMap.1 (List.mem_of_getElem? (by simpa using hj))
              exact ⟨k, b, fun e => hk (e ▸ hb), by simp, by simp [hb], hl, hb'⟩
          | succ i =>
            cases j with
            | zero =>
              simp at hj; subst hj
              obtain ⟨b, hb, hb'⟩ := List.mem_filterMap.1 (List.mem_of_getElem? (by simpa using hi))
              exact ⟨b, k, fun e => hk (e ▸ hb), by simp [hb], by simp, hb', hl⟩
            | succ j =>
              obtain ⟨a, b, h1, h2, h3, h4, h5⟩ := ih hn i j s t (by simpa using hi) (by simpa using hj) (by omega)
              exact ⟨a, b, h1, by simp [h2], by simp [h3], h4, h5⟩
    intro i j s t hi hj hij b hb
    obtain ⟨x, y, h1, _, _, h2, h3⟩ := key ks hn i j s t hi hj hij
    exact H.apart x y s t h2 h3 h1 b hb

theorem Heapy.set {h0 h : AHeap} {l : List Slot} (H : Heapy h0 h l) {k : Nat} {s : Slot} (hk : l[k]? = some s) {id g : Nat} {n : Nat} (hv : s.v = ⟨some ⟨id, 0, some g⟩, n, s.c⟩) {cells : List Value} (rest : List Value) {g' n' : Nat} (hc : s.c ≠ 0 → n' * s.c = cells.length) (h5 : s.c = 0 → rest = []) :
    Heapy h0 (h.set id ⟨cells ++ rest, g', false, s.el⟩) (l.set k ⟨⟨some ⟨id, 0, some g'⟩, n', s.c⟩, s.el, s.c, cells⟩) := by
  have hok := H.ok s (List.mem_of_getElem? hk)
  have hid : s.id? = some id := by unfold Slot.id?; rw [hv]
  obtain ⟨hge, hlt, _⟩ := Slot.lt hok hid
  obtain ⟨b0, hb0⟩ : ∃ b0, h.get id = some b0 := by
    rcases hok with ⟨k1, _⟩ | ⟨id', g0, rest0, k1, _, k3, _⟩
    · rw [hv] at k1; cases k1
    · rw [hv] at k1
      have e : id = id' := by injection k1 with a1; injection a1 with a2; injection a2
      subst e; exact ⟨_, k3⟩
  have gs := fun i => AHeap.get_set h H.wf id ⟨cells ++ rest, g', false, s.el⟩ b0 hb0 i
  have hold : ∀ i, i ≠ id → (h.set id ⟨cells ++ rest, g', false, s.el⟩).get i = h.get i := fun i hi => by rw [gs, if_neg hi]
  have klt : k < l.length := (List.getElem?_eq_some_iff.1 hk).1
  refine ⟨AHeap.wf_set H.wf _ _, ?_, H.size, ?_, ?_⟩
  · intro i b hb
    rw [hold i (by rintro rfl; rw [hge] at hb; cases hb)]
    exact H.sub i b hb
  · intro t ht
    obtain ⟨j, hj⟩ := List.mem_iff_getElem?.1 ht
    rw [List.getElem?_set] at hj
    split at hj
    · cases hj
      exact .inr ⟨id, g', rest, rfl, hc, by rw [gs, if_pos rfl], hge, h5⟩
    · rename_i hne
      rcases H.ok t (List.mem_of_getElem? hj) with q | ⟨i, g0, rest0, q1, q2, q3, q4, q5⟩
      · exact .inl q
      · refine .inr ⟨i, g0, rest0, q1, q2, ?_, q4, q5⟩
        rw [hold i]; · exact q3
        rintro rfl
        exact H.apart k j s t hk hj hne i hid (by unfold Slot.id?; rw [q1])
  · intro i j a b ha hb hij c hc' he
    rw [List.getElem?_set] at ha hb
    have ids : ∀ x : Slot, x = ⟨⟨some ⟨id, 0, some g'⟩, n', s.c⟩, s.el, s.c, cells⟩ → x.id? = s.id? := by rintro x rfl; rw [hid]; rfl
    by_cases e1 : k = i
    · rw [if_pos e1, if_pos klt] at ha
      cases ha
      rw [ids _ rfl] at hc'
      by_cases e2 : k = j
      · exact hij (e1.symm.trans e2)
      · rw [if_neg e2] at hb
        exact H.apart k j s b hk hb e2 c hc' he
    · rw [if_neg e1] at ha
      by_cases e2 : k = j
      · rw [if_pos e2, if_pos klt] at hb
        cases hb
        rw [ids _ rfl] at he
        exact H.apart i k a s ha hk (Ne.symm e1) c hc' he
      · rw [if_neg e2] at hb
        exact H.apart i j a b ha hb hij c hc' he

/-- One slot of its own: all the rest is a heap with a hole, and what a call makes of it comes back. -/
theorem Heapy.io {h0 h : AHeap} {l : List Slot} (H : Heapy h0 h l) (k : Nat) {s : Slot} (hk : l[k]? = some s) :
    ∃ b : AHeap, Heapy b h [s] ∧ Heapy h0 b (l.eraseIdx k) ∧ ∀ {h' : AHeap} {r : List Slot} {s' : Slot}, Heapy b h' (r ++ [s']) → Heapy h0 h' (r ++ l.set k s') := by
  have hok := H.ok s (List.mem_of_getElem? hk)
  have klt : k < l.length := (List.getElem?_eq_some_iff.1 hk).1
  have one : ∀ {b : AHeap}, b.sub h → b.size ≤ h.size → s.ok b h → Heapy b h [s] := by
    intro b hs hz ho
    refine ⟨H.wf, hs, hz, by simpa using ho, ?_⟩
    intro i j x y hx hy hij
    have hi := (List.getElem?_eq_some_iff.1 hx).1
    have hj := (List.getElem?_eq_some_iff.1 hy).1
    simp at hi hj; omega
  have er : ∀ {i : Nat} {t : Slot}, (l.eraseIdx k)[i]? = some t → ∃ j, j ≠ k ∧ l[j]? = some t ∧ j = if i < k then i else i + 1 := by
    intro i t hi
    rw [List.getElem?_eraseIdx] at hi
    by_cases h : i < k
    · rw [if_pos h] at hi; exact ⟨i, by omega, hi, by rw [if_pos h]⟩
    · rw [if_neg h] at hi; exact ⟨i + 1, by omega, hi, by rw [if_neg h]⟩
  have main : ∀ b : AHeap, b.wf → b.sub h → b.size ≤ h.size → h0.sub b → h0.size ≤ b.size → s.ok b h → (∀ (j : Nat) t, j ≠ k → l[j]? = some t → t.ok h0 b) →
      ∃ b : AHeap, Heapy b h [s] ∧ Heapy h0 b (l.eraseIdx k) ∧ ∀ {h' : AHeap} {r : List Slot} {s' : Slot}, Heapy b h' (r ++ [s']) → Heapy h0 h' (r ++ l.set k s') := by
    intro b bw bs bz hb hbz so to
    have R : Heapy h0 b (l.eraseIdx k) := by
      refine ⟨bw, hb, hbz, ?_, ?_⟩
      · intro t ht
        obtain ⟨i, hi⟩ := List.mem_iff_getElem?.1 ht
        obtain ⟨j, hj, hl, _⟩ := er hi
        exact to j t hj hl
      · intro i j x y hx hy hij
        obtain ⟨i', _, hx', e1⟩ := er hx
        obtain ⟨j', _, hy', e2⟩ := er hy
        refine H.apart i' j' x y hx' hy' ?_
        rw [e1, e2]; split <;> split <;> omega
    refine ⟨b, one bs bz so, R, ?_⟩
    intro h' r s' K
    have G := R.grow K.wf K.sub K.size
    have look : ∀ (i : Nat) t, (r ++ l.set k s')[i]? = some t → ((r ++ [s'])[if i < r.length then i else r.length]? = some t ∧ (i < r.length ∨ i = r.length + k)) ∨ (l[i - r.length]? = some t ∧ i - r.length ≠ k ∧ r.length ≤ i) := by
      intro i t hi
      rw [List.getElem?_append] at hi
      by_cases hlt : i < r.length
      · rw [if_pos hlt] at hi
        refine .inl ⟨?_, .inl hlt⟩
        rw [if_pos hlt, List.getElem?_append_left hlt]; exact hi
      · rw [if_neg hlt, List.getElem?_set] at hi
        by_cases hik : k = i - r.length
        · rw [if_pos hik] at hi
          first
            | (rw [if_pos klt] at hi)
            | (rw [if_pos (by omega)] at hi)
            | skip
          refine .inl ⟨?_, .inr (by omega)⟩
          rw [if_neg hlt, List.getElem?_append_right (Nat.le_refl _)]
          simpa using hi
        · rw [if_neg hik] at hi
          exact .inr ⟨hi, fun h => hik h.symm, by omega⟩
    have base : ∀ t : Slot, t.ok b h' → t.ok h0 h' := by
      rintro t (q | ⟨id, g, rest, k1, k2, k3, k4, k5⟩)
      · exact .inl q
      · refine .inr ⟨id, g, rest, k1, k2, k3, ?_, k5⟩
        cases e : h0.get id with
        | none => rfl
        | some x => rw [hb _ _ e] at k4; cases k4
    have far : ∀ (x y : Slot) (q : Nat), x.ok b h' → y.ok h0 b → x.id? = some q → y.id? ≠ some q := by
      intro x y q hx hy h1 h2
      have a1 := (Slot.lt hx h1).1
      obtain ⟨_, _, z, a2⟩ := Slot.lt hy h2
      rw [a1] at a2; cases a2
    refine ⟨K.wf, G.sub, G.size, ?_, ?_⟩
    · intro t ht
      obtain ⟨i, hi⟩ := List.mem_iff_getElem?.1 ht
      rcases look i t hi with ⟨q, _⟩ | ⟨q, q2, _⟩
      · exact base t (K.ok t (List.mem_of_getElem? q))
      · rcases to _ t q2 q with w | ⟨id, g, rest, k1, k2, k3, k4, k5⟩
        · exact .inl w
        · exact .inr ⟨id, g, rest, k1, k2, K.sub _ _ k3, k4, k5⟩
    · intro i j x y hx hy hij q hq hq'
      rcases look i x hx with ⟨p, p2⟩ | ⟨p, p2, p3⟩
      · rcases look j y hy with ⟨u, u2⟩ | ⟨u, u2, u3⟩
        · refine K.apart _ _ x y p u ?_ q hq hq'
          split <;> split <;> omega
        · exact far x y q (K.ok x (List.mem_of_getElem? p)) (to _ y u2 u) hq hq'
      · rcases look j y hy with ⟨u, u2⟩ | ⟨u, u2, u3⟩
        · exact far y x q (K.ok y (List.mem_of_getElem? u)) (to _ x p2 p) hq' hq
        · exact H.apart _ _ x y p u (by omega) q hq hq'
  rcases hok with ⟨k1, k2⟩ | ⟨id, g, rest, k1, k2, k3, k4, k5⟩
  · exact main h H.wf h.sub_refl (Nat.le_refl _) H.sub H.size (.inl ⟨k1, k2⟩) (fun j t _ hj => H.ok t (List.mem_of_getElem? hj))
  · have hl := AHeap.lt_of_get k3
    have gh := AHeap.get_hole h H.wf hl
    refine main (h.hole id) (AHeap.wf_hole H.wf id) ?_ (Nat.le_refl _) ?_ H.size (.inr ⟨id, g, rest, k1, k2, k3, by rw [gh, if_pos rfl], k5⟩) ?_
    · intro i x hx
      rw [gh] at hx
      split at hx
      · cases hx
      · exact hx
    · intro i x hx
      rw [gh, if_neg (by rintro rfl; rw [k4] at hx; cases hx)]
      exact H.sub _ _ hx
    · intro j t hj ht
      rcases H.ok t (List.mem_of_getElem? ht) with w | ⟨i, g', rest', q1, q2, q3, q4, q5⟩
      · exact .inl w
      · refine .inr ⟨i, g', rest', q1, q2, ?_, q4, q5⟩
        rw [gh, if_neg ?_]
        · exact q3
        · rintro rfl
          exact H.apart k j s t hk ht (Ne.symm hj) i (by unfold Slot.id?; rw [k1]) (by unfold Slot.id?; rw [q1])

/-! The operations. -/
theorem zeros_eq (z : List Value) (n : Nat) : ∀ l, zeros z n l = (List.replicate l z).flatten
  | 0 => rfl
  | l + 1 => by simp [zeros, zeros_eq z n l, List.replicate_succ]
theorem flatMap_length {α : Type} {enc : α → List Value} {c : Nat} (he : ∀ x, (enc x).length = c) : ∀ xs : List α, (xs.flatMap enc).length = xs.length * c
  | [] => by simp
  | x :: xs => by simp [he x, flatMap_length he xs, Nat.succ_mul, Nat.add_comm]
theorem Heapy.make {P : Program} {h0 h : AHeap} {l : List Slot} (H : Heapy h0 h l) {t e : TypeId} {n B : Nat} {z : List Value} (hi : mkInfo P t = some (e, n, B, z)) {a b : Int} (hok : okLen a b B = true) {α : Type} {enc : α → List Value} {x : α}
    (hx : enc x = z) (hz : z.length = n) : ∃ (v : Hd) (h' : AHeap), mrun P h (.mk t a b) = some (sv v, h') ∧ Heapy h0 h' (⟨v, e, n, (List.replicate a.toNat x).flatMap enc⟩ :: l) ∧ v.n = a.toNat := by
  refine ⟨⟨some ⟨h.size, 0, some 0⟩, a.toNat, n⟩, h.push ⟨zeros z n a.toNat, 0, false, e⟩, ?_, ?_, rfl⟩
  · simp only [mrun, hi, hok]; rfl
  · have e1 : zeros z n a.toNat = (List.replicate a.toNat x).flatMap enc := by
      rw [zeros_eq, List.flatMap_def, List.map_replicate, hx]
    rw [e1]
    refine H.push ?_
    rw [← e1, zeros_eq]
    simp [hz]
theorem Heapy.build {P : Program} {h0 h : AHeap} {l : List Slot} (H : Heapy h0 h l) {t e : TypeId} {len n : Nat} {parts : List (Nat × Value)} {cells : List Value} (hb : bsCells P t len parts = some (e, n, cells)) (hl : len * n = cells.length) :
    ∃ (v : Hd) (h' : AHeap), mrun P h (.bs t len parts) = some (sv v, h') ∧ Heapy h0 h' (⟨v, e, n, cells⟩ :: l) ∧ v.n = len :=
  ⟨⟨some ⟨h.size, 0, some 0⟩, len, n⟩, _, by simp only [mrun, hb]; rfl, H.push hl, rfl⟩

/-- What a slice's cells are. -/
theorem SlE.src {α : Type} {enc : α → List Value} {c : Nat} {h : AHeap} {v : Value} {xs : List α} (S : SlE (fun _ cs x => cs = enc x) c h v xs) (he : ∀ x, (enc x).length = c) : srcH h c v = some (xs.flatMap enc, xs.length) := by
  obtain ⟨h1, h2⟩ := S
  unfold vlen at h1
  split at h1
  · simp only [Option.some.injEq] at h1
    have : xs = [] := List.eq_nil_of_length_eq_zero h1.symm
    subst this; rfl
  · rename_i id off g n z
    simp only [Option.some.injEq] at h1
    cases n with
    | zero =>
      have : xs = [] := List.eq_nil_of_length_eq_zero h1.symm
      subst this; rfl
    | succ n =>
      have hpos : 0 < xs.length := by omega
      have key : ∀ i x, xs[i]? = some x → At h id (off + i * c) g (enc x) := by
        intro i x hx
        obtain ⟨id', off', g', cs, k1, k2, k3⟩ := h2 i x hx
        subst k3
        unfold ixv at k1
        simp only at k1
        split at k1
        · simp only [Option.some.injEq, Prod.mk.injEq, Int.toNat_natCast] at k1
          obtain ⟨rfl, rfl, rfl⟩ := k1
          exact k2
        · cases k1
      obtain ⟨blk, b1, b2, b3, b4⟩ := key 0 xs[0] (by simp [hpos])
      have all : ∀ i x, xs[i]? = some x → off + i * c + c ≤ blk.cells.length ∧ ∀ j v, (enc x)[j]? = some v → blk.cells[off + i * c + j]? = some v := by
        intro i x hx
        obtain ⟨blk', q1, q2, q3, q4⟩ := key i x hx
        rw [b1] at q1; cases q1
        rw [he] at q3
        exact ⟨q3, q4⟩
      have hlast := (all (xs.length - 1) xs[xs.length - 1] (by simp [List.getElem?_eq_getElem (show xs.length - 1 < xs.length by omega)])).1
      have hle : off + xs.length * c ≤ blk.cells.length := by
        have : xs.length * c = (xs.length - 1) * c + c := by rw [← Nat.succ_mul]; congr 1; omega
        omega
      unfold srcH
      rw [← h1] at hpos ⊢
      simp only [b1, b2, beq_self]
      rw [show Nat.ble (off + (n + 1) * c) blk.cells.length = true from Nat.ble_eq_true_of_le (by rw [h1]; exact hle)]
      simp only [Bool.and_self, Option.some.injEq, Prod.mk.injEq, and_true]
      apply List.ext_getElem?
      intro i
      have flat : ∀ (ys : List α) (i j : Nat) y, ys[i]? = some y → j < c → (ys.flatMap enc)[i * c + j]? = (enc y)[j]? := by
        intro ys
        induction ys with
        | nil => intro i j y hy; simp at hy
        | cons a ys ih =>
          intro i j y hy hj
          rw [List.flatMap_cons]
          cases i with
          | zero =>
            simp at hy; subst hy
            rw [Nat.zero_mul, Nat.zero_add, List.getElem?_append_left (by rw [he]; exact hj)]
          | succ i =>
            rw [List.getElem?_append_right (by rw [he, Nat.succ_mul]; omega), he, show (i + 1) * c + j - c = i * c + j by rw [Nat.succ_mul]; omega]
            exact ih i j y (by simpa using hy) hj
      by_cases hi : i < xs.length * c
      · have hc : 0 < c := by
          rcases Nat.eq_zero_or_pos c with rfl | hc
          · simp at hi
          · exact hc
        have e := Nat.div_add_mod i c
        have hm := Nat.mod_lt i hc
        have hq : i / c < xs.length := (Nat.div_lt_iff_lt_mul hc).2 hi
        have hx : xs[i / c]? = some xs[i / c] := List.getElem?_eq_getElem hq
        have f := flat xs (i / c) (i % c) _ hx hm
        rw [Nat.mul_comm] at e
        rw [e] at f
        rw [List.getElem?_take, if_pos (by rw [h1]; exact hi), List.getElem?_drop, f]
        have hl : i % c < (enc xs[i / c]).length := by rw [he]; exact hm
        rw [List.getElem?_eq_getElem hl]
        have := (all (i / c) _ hx).2 (i % c) _ (List.getElem?_eq_getElem hl)
        rw [Nat.add_assoc, e] at this
        exact this
      · rw [List.getElem?_take, if_neg (by rw [h1]; exact hi), List.getElem?_eq_none (by rw [flatMap_length he]; omega)]
  · cases h1

/-- A handle that is nil exactly if it has no elements. -/
def Strict (v : Hd) : Prop := v.a = none ↔ v.n = 0
theorem Strict.nil : Strict ⟨none, 0, 0⟩ := by simp [Strict]
theorem Strict.some {a : Addr} {n z : Nat} : Strict ⟨some a, n + 1, z⟩ := by simp [Strict]
theorem Heapy.append {P : Program} {h0 h : AHeap} {l : List Slot} (H : Heapy h0 h l) {t e : TypeId} {n B : Nat} {z : List Value} (hi : mkInfo P t = some (e, n, B, z)) (k : Nat) {v : Hd} {cells : List Value} (hk : l[k]? = some ⟨v, e, n, cells⟩)
    {Y : Value} {news : List Value} {m : Nat} (hs : srcH h n Y = some (news, m)) (hm : news.length = m * n) (hok : okApp (v.n + m) B = true) :
    ∃ (v' : Hd) (h' : AHeap), mrun P h (.ap t (sv v) Y) = some (sv v', h') ∧ Heapy h0 h' (l.set k ⟨v', e, n, cells ++ news⟩) ∧ v'.n = v.n + m ∧ (Strict v → Strict v') := by
  have hok0 := H.ok _ (List.mem_of_getElem? hk)
  have klt : k < l.length := (List.getElem?_eq_some_iff.1 hk).1
  have hset : l.set k ⟨v, e, n, cells⟩ = l := by
    apply List.ext_getElem?
    intro i
    rw [List.getElem?_set]
    split
    · rename_i e1; subst e1; first | exact hk.symm | (rw [if_pos klt]; exact hk.symm)
    · rfl
  cases m with
  | zero =>
    have : news = [] := List.eq_nil_of_length_eq_zero (by simpa using hm)
    subst this
    refine ⟨v, h, ?_, ?_, rfl, id⟩
    · simp only [mrun, hi, hs, sv]
    · rw [List.append_nil, hset]; exact H
  | succ m =>
    have hn0 : n ≠ 0 := by
      obtain ⟨_, i0, _, _, _, e1, _, _, _, _, e2⟩ := mkInfo_zero hi
      have := Nat.le_of_ble_eq_true e2
      omega
    rcases hok0 with ⟨k1, k2⟩ | ⟨id, g, rest, k1, k2, k3, k4, _⟩
    · simp only at k1 k2
      subst k1; subst k2
      refine ⟨⟨some ⟨h.size, 0, some 0⟩, m + 1, n⟩, h.push ⟨news, 0, false, e⟩, ?_, ?_, by simp, fun _ => Strict.some⟩
      · have hok' : okApp (m + 1) B = true := by simpa using hok
        simp only [mrun, hi, hs, sv, hok']
      · have K := H.push (el := e) (n := m + 1) (c := n) (cells := news) hm.symm
        have := K.pick ((List.range l.length).map fun i => if i = k then 0 else i + 1) (by
          refine List.Pairwise.map _ (fun a b hab => ?_) List.nodup_range
          split <;> split <;> omega)
        have e1 : ((List.range l.length).map fun i => if i = k then 0 else i + 1).filterMap ((⟨⟨some ⟨h.size, 0, some 0⟩, m + 1, n⟩, e, n, news⟩ :: l)[·]?) = l.set k ⟨⟨some ⟨h.size, 0, some 0⟩, m + 1, n⟩, e, n, [] ++ news⟩ := by
          have gen : ∀ (f : Nat → Option Slot) (r : List Slot), (∀ i, i < r.length → f i = r[i]?) → (List.range r.length).filterMap f = r := by
            intro f r hf
            have : ∀ (r : List Slot) (o : Nat) (f : Nat → Option Slot), (∀ i, i < r.length → f (o + i) = r[i]?) → (List.range' o r.length).filterMap f = r := by
              intro r
              induction r with
              | nil => intro o f _; rfl
              | cons a r ih =>
                intro o f hf
                rw [List.length_cons, List.range'_succ, List.filterMap_cons_some (b := a) (by simpa using hf 0 (by simp))]
                congr 1
                exact ih (o + 1) f (fun i hi => by have := hf (i + 1) (by simpa using hi); simpa [Nat.add_assoc, Nat.add_comm 1 i] using this)
            have := this r 0 f (fun i hi => by simpa using hf i hi)
            rwa [List.range_eq_range']
          rw [List.filterMap_map]
          have := gen (((⟨⟨some ⟨h.size, 0, some 0⟩, m + 1, n⟩, e, n, news⟩ :: l : List Slot)[·]?) ∘ fun i => if i = k then 0 else i + 1) (l.set k ⟨⟨some ⟨h.size, 0, some 0⟩, m + 1, n⟩, e, n, [] ++ news⟩) (by
            intro i hi
            simp only [Function.comp]
            rw [List.getElem?_set]
            by_cases e2 : i = k
            · subst e2; simp [klt]
            · rw [if_neg e2, if_neg (Ne.symm e2)]; simp)
          rwa [List.length_set] at this
        rwa [e1] at this
    · simp only at k1 k2 k3 k4
      have k2 := k2 hn0
      refine ⟨⟨some ⟨id, 0, some (g + 2)⟩, v.n + (m + 1), n⟩, h.set id ⟨cells ++ news ++ [], g + 2, false, e⟩, ?_, ?_, rfl, fun _ => Strict.some⟩
      · rw [k1]
        simp only [mrun, hi, hs, sv, k3, beq_self, hok]
        rw [show Nat.ble (v.n * n) (cells ++ rest).length = true from Nat.ble_eq_true_of_le (by rw [List.length_append]; omega)]
        simp only [Bool.not_false, Bool.and_self]
        rw [List.take_left' k2.symm, List.append_nil]
      · exact H.set hk (s := ⟨v, e, n, cells⟩) k1 [] (fun _ => by simp [hm, ← k2, Nat.add_mul]) (fun _ => rfl)

def setI {α : Type} (xs : List α) (i : Int) (x : α) : List α := xs.set i.toNat x
theorem splice_set {α : Type} {enc : α → List Value} {c : Nat} (he : ∀ x, (enc x).length = c) {y' : α} {j : Nat} {vs : List Value} : ∀ {xs : List α} {i : Nat} {y : α}, xs[i]? = some y → j + vs.length ≤ c → enc y' = splice (enc y) j vs →
    splice (xs.flatMap enc) (i * c + j) vs = (xs.set i y').flatMap enc
  | [], i, y, h, _, _ => by simp at h
  | x :: xs, 0, y, h, hj, hy => by
    simp at h; subst h
    simp only [List.set_cons_zero, List.flatMap_cons, hy, splice, Nat.zero_mul, Nat.zero_add]
    have hx := he x
    rw [List.take_append_of_le_length (by omega), List.drop_append_of_le_length (by omega)]
    simp [List.append_assoc]
  | x :: xs, i + 1, y, h, hj, hy => by
    have ih := splice_set he (xs := xs) (i := i) (y := y) (by simpa using h) hj hy
    simp only [List.set_cons_succ, List.flatMap_cons, ← ih, splice]
    have hx := he x
    have e1 : (i + 1) * c + j = (enc x).length + (i * c + j) := by rw [hx, Nat.succ_mul]; omega
    rw [e1, List.take_length_add_append, show (enc x).length + (i * c + j) + vs.length = (enc x).length + (i * c + j + vs.length) by omega, List.drop_length_add_append]
    simp [List.append_assoc]
theorem Heapy.sle {h0 h : AHeap} {l : List Slot} (H : Heapy h0 h l) (k : Nat) {v : Hd} {e : TypeId} {c : Nat} {α : Type} {xs : List α} {enc : α → List Value} (hk : l[k]? = some ⟨v, e, c, xs.flatMap enc⟩) (he : ∀ x, (enc x).length = c) (hc : c ≠ 0) : SlE (fun _ cs x => cs = enc x) c h (sv v) xs := by
  rcases H.ok _ (List.mem_of_getElem? hk) with ⟨k1, k2⟩ | ⟨id, g, rest, k1, k2, k3, k4, _⟩
  · simp only at k1 k2
    have hl := flatMap_length he xs
    rw [k2] at hl
    have : xs = [] := List.eq_nil_of_length_eq_zero (by
      rcases Nat.eq_zero_or_pos xs.length with h | h
      · exact h
      · have := Nat.mul_pos h (Nat.pos_of_ne_zero hc)
        simp only [List.length_nil] at hl
        omega)
    subst this
    rw [k1]
    exact .nil
  · simp only at k1 k2 k3 k4
    have k2 := k2 hc
    rw [flatMap_length he] at k2
    have hn : v.n = xs.length := Nat.eq_of_mul_eq_mul_right (Nat.pos_of_ne_zero hc) k2
    rw [hn] at k1
    refine ⟨by rw [k1]; rfl, ?_⟩
    intro i x hx
    have hlt := (List.getElem?_eq_some_iff.1 hx).1
    refine ⟨id, 0 + i * c, g, enc x, ?_, ⟨_, k3, rfl, ?_, ?_⟩, rfl⟩
    · rw [k1]; simp [sv, ixv, inRange, hlt]
    · rw [he, List.length_append, flatMap_length he]
      have : i * c + c ≤ xs.length * c := by rw [← Nat.succ_mul]; exact Nat.mul_le_mul_right _ hlt
      omega
    · intro j w hw
      have hj : j < c := by rw [← he x]; exact (List.getElem?_eq_some_iff.1 hw).1
      have flat : ∀ (ys : List α) (i j : Nat) y, ys[i]? = some y → j < c → (ys.flatMap enc)[i * c + j]? = (enc y)[j]? := by
        intro ys
        induction ys with
        | nil => intro i j y hy; simp at hy
        | cons a ys ih =>
          intro i j y hy hj
          rw [List.flatMap_cons]
          cases i with
          | zero =>
            simp at hy; subst hy
            rw [Nat.zero_mul, Nat.zero_add, List.getElem?_append_left (by rw [he]; exact hj)]
          | succ i =>
            rw [List.getElem?_append_right (by rw [he, Nat.succ_mul]; omega), he, show (i + 1) * c + j - c = i * c + j by rw [Nat.succ_mul]; omega]
            exact ih i j y (by simpa using hy) hj
      have := flat xs i j x hx hj
      rw [hw] at this
      have hl := (List.getElem?_eq_some_iff.1 this).1
      rw [List.getElem?_append_left (by simpa using hl)]
      simpa using this
theorem Heapy.vn {h0 h : AHeap} {l : List Slot} (H : Heapy h0 h l) (k : Nat) {v : Hd} {e : TypeId} {c : Nat} {α : Type} {xs : List α} {enc : α → List Value} (hk : l[k]? = some ⟨v, e, c, xs.flatMap enc⟩) (he : ∀ x, (enc x).length = c) (hc : c ≠ 0) : v.n = xs.length := by
  have := (H.sle k hk he hc).len
  obtain ⟨a, n, z⟩ := v
  unfold sv vlen at this
  simp only at this
  split at this
  · rename_i q; cases q; simpa using this
  · rename_i q; cases q; simpa using this
  · cases this
theorem Heapy.form {h0 h : AHeap} {l : List Slot} (H : Heapy h0 h l) (k : Nat) {v : Hd} {e : TypeId} {c : Nat} {α : Type} {xs : List α} {enc : α → List Value} (hk : l[k]? = some ⟨v, e, c, xs.flatMap enc⟩) (he : ∀ x, (enc x).length = c) (hc : c ≠ 0) (S : Strict v) :
    (xs.isEmpty = true → v = ⟨none, 0, 0⟩) ∧ (xs.isEmpty = false → ∃ id g n, v = ⟨some ⟨id, 0, some g⟩, n, c⟩) := by
  have hn := H.vn k hk he hc
  rcases H.ok _ (List.mem_of_getElem? hk) with ⟨k1, _⟩ | ⟨id, g, rest, k1, _⟩
  · simp only at k1
    refine ⟨fun _ => k1, fun h => ?_⟩
    rw [k1] at hn
    have : xs = [] := List.eq_nil_of_length_eq_zero hn.symm
    rw [this] at h; cases h
  · simp only at k1
    refine ⟨fun h => ?_, fun _ => ⟨id, g, _, k1⟩⟩
    have h0 : v.n = 0 := by rw [hn, List.isEmpty_iff.1 h]; rfl
    have := S.2 h0
    rw [k1] at this; cases this
theorem Heapy.nilE {h0 h : AHeap} {l : List Slot} (H : Heapy h0 h l) (k : Nat) {v : Hd} {e : TypeId} {c : Nat} {α : Type} {xs : List α} {enc : α → List Value} (hk : l[k]? = some ⟨v, e, c, xs.flatMap enc⟩) (he : ∀ x, (enc x).length = c) (hc : c ≠ 0) (S : Strict v) : vnil (sv v) = some xs.isEmpty := by
  obtain ⟨f1, f2⟩ := H.form k hk he hc S
  cases h : xs.isEmpty with
  | true => rw [f1 h]; rfl
  | false => obtain ⟨id, g, n, e⟩ := f2 h; rw [e]; rfl
/-- A box on the heap. -/
theorem Heapy.box {P : Program} {h0 h : AHeap} {l : List Slot} (H : Heapy h0 h l) (el : TypeId) (cells : List Value) {c : Nat} (hc : cells.length = c) :
    ∃ (id g : Nat) (h' : AHeap), mrun P h (.bx el cells) = some (.pointer (some ⟨id, 0, some g⟩), h') ∧ Heapy h0 h' (⟨⟨some ⟨id, 0, some g⟩, 1, c⟩, el, c, cells⟩ :: l) :=
  ⟨h.size, 0, _, rfl, H.push (by rw [hc, Nat.one_mul])⟩
theorem Heapy.boxat {h0 h : AHeap} {l : List Slot} (H : Heapy h0 h l) (k : Nat) {id g n c : Nat} {el : TypeId} {cells : List Value} (hk : l[k]? = some ⟨⟨some ⟨id, 0, some g⟩, n, c⟩, el, c, cells⟩) : At h id 0 g cells := by
  rcases H.ok _ (List.mem_of_getElem? hk) with ⟨k1, _⟩ | ⟨id', g', rest, k1, k2, k3, _⟩
  · simp only at k1; cases k1
  · simp only at k1 k3
    injection k1 with a1; injection a1 with a2; injection a2 with a3 a4 a5; injection a5 with a6
    subst a3 a6
    refine ⟨_, k3, rfl, by simp, ?_⟩
    intro j v hv
    have hl := (List.getElem?_eq_some_iff.1 hv).1
    rw [Nat.zero_add, List.getElem?_append_left hl]
    exact hv
theorem Heapy.bstore {P : Program} {h0 h : AHeap} {l : List Slot} (H : Heapy h0 h l) (k : Nat) {id g n c : Nat} {el : TypeId} {cells : List Value} (hk : l[k]? = some ⟨⟨some ⟨id, 0, some g⟩, n, c⟩, el, c, cells⟩)
    {t : TypeId} {x : Value} (j : Nat) {vs : List Value} (hx : x.cells.toList = vs) (hsz : sizeT P t = some vs.length) (ho : okPart x = true) (h1 : vs.all (·.oneCell') = true) (hj : Nat.ble (j + vs.length) cells.length = true) {cells' : List Value} (hc' : splice cells j vs = cells') :
    ∃ (h' : AHeap), mrun P h (.st t id j g x) = some (undef, h') ∧ Heapy h0 h' (l.set k ⟨⟨some ⟨id, 0, some g⟩, n, c⟩, el, c, cells'⟩) := by
  have hj' := Nat.le_of_ble_eq_true hj
  rcases H.ok _ (List.mem_of_getElem? hk) with ⟨k1, _⟩ | ⟨id', g', rest, k1, k2, k3, _, k5⟩
  · simp only at k1; cases k1
  · simp only at k1 k2 k3 k5
    injection k1 with a1; injection a1 with a2; injection a2 with a3 a4 a5; injection a5 with a6
    subst a3 a6
    have hlen : cells'.length = cells.length := by
      rw [← hc']; unfold splice; simp only [List.length_append, List.length_take, List.length_drop]; omega
    have e1 : splice (cells ++ rest) j x.cells.toList = cells' ++ rest := by
      rw [hx, ← hc']
      unfold splice
      rw [List.take_append_of_le_length (by omega), List.drop_append_of_le_length (by omega)]
      simp [List.append_assoc]
    refine ⟨h.set id ⟨cells' ++ rest, g, false, el⟩, ?_, ?_⟩
    · simp only [mrun, stH, hsz, ho, hx, h1, Bool.and_self, k3]
      rw [show Nat.beq x.cells.size vs.length = true by rw [← hx]; simp]
      simp only [beq_self]
      rw [show Nat.ble (j + vs.length) (cells ++ rest).length = true from Nat.ble_eq_true_of_le (by rw [List.length_append]; omega)]
      simp only [Bool.not_false, Bool.and_self]
      rw [← hx, e1]
    · exact H.set hk (s := ⟨⟨some ⟨id, 0, some g⟩, n, c⟩, el, c, cells⟩) rfl (cells := cells') rest (g' := g) (n' := n) (fun h => by rw [hlen]; exact k2 h) k5
theorem Heapy.store {P : Program} {h0 h : AHeap} {l : List Slot} (H : Heapy h0 h l) (k : Nat) {v : Hd} {e : TypeId} {c : Nat} {α : Type} {xs : List α} {enc : α → List Value} (hk : l[k]? = some ⟨v, e, c, xs.flatMap enc⟩) (he : ∀ x, (enc x).length = c)
    {i : Int} {y y' : α} (hy : at? xs i = some y) {id off g : Nat} (hix : ixv c (sv v) i = some (id, off, g)) {t : TypeId} {x : Value} (j : Nat) {vs : List Value} (hx : x.cells.toList = vs) (hsz : sizeT P t = some vs.length) (ho : okPart x = true) (h1 : vs.all (·.oneCell') = true)
    (hj : Nat.ble (j + vs.length) c = true) (hy' : enc y' = splice (enc y) j vs) :
    ∃ (h' : AHeap), mrun P h (.st t id (off + j) g x) = some (undef, h') ∧ Heapy h0 h' (l.set k ⟨v, e, c, (setI xs i y').flatMap enc⟩) := by
  obtain ⟨i1, i2, i3⟩ := at?_some hy
  have hj' := Nat.le_of_ble_eq_true hj
  unfold ixv at hix
  split at hix
  · rename_i id' off' g' len z hv
    split at hix
    · rename_i hr
      simp only [Option.some.injEq, Prod.mk.injEq] at hix
      obtain ⟨rfl, rfl, rfl⟩ := hix
      rcases H.ok _ (List.mem_of_getElem? hk) with ⟨k1, k2⟩ | ⟨id2, g2, rest, k1, k2, k3, k4, k5⟩
      · simp only at k1; rw [k1] at hv; cases hv
      · simp only at k1 k2 k3 k4 k5
        rw [k1] at hv
        simp only [sv, Value.slice.injEq, Option.some.injEq, Addr.mk.injEq] at hv
        obtain ⟨⟨rfl, rfl, rfl⟩, rfl, rfl⟩ := hv
        have hle : 0 + i.toNat * c + j + vs.length ≤ (xs.flatMap enc).length := by
          rw [flatMap_length he]
          have : i.toNat * c + c ≤ xs.length * c := by rw [← Nat.succ_mul]; exact Nat.mul_le_mul_right _ (by omega)
          omega
        have e1 : splice (xs.flatMap enc ++ rest) (0 + i.toNat * c + j) x.cells.toList = (setI xs i y').flatMap enc ++ rest := by
          rw [hx, Nat.zero_add]
          unfold setI
          rw [← splice_set he i3 hj' hy']
          rw [Nat.zero_add] at hle
          unfold splice
          rw [List.take_append_of_le_length (by omega), List.drop_append_of_le_length (by omega)]
          simp [List.append_assoc]
        refine ⟨h.set id2 ⟨(setI xs i y').flatMap enc ++ rest, g2, false, e⟩, ?_, ?_⟩
        · simp only [mrun, stH, hsz, ho, hx, h1, Bool.and_self, k3]
          rw [show Nat.beq x.cells.size vs.length = true by rw [← hx]; simp]
          simp only [beq_self]
          rw [show Nat.ble (0 + i.toNat * c + j + vs.length) (xs.flatMap enc ++ rest).length = true from Nat.ble_eq_true_of_le (by rw [List.length_append]; omega)]
          simp only [Bool.not_false, Bool.and_self]
          rw [← hx, e1]
        · have := H.set hk (s := ⟨v, e, c, xs.flatMap enc⟩) k1 (cells := (setI xs i y').flatMap enc) rest (g' := g2) (n' := v.n) (by
            intro hc0; simp only; rw [k2 hc0, flatMap_length he, flatMap_length he]; simp [setI]) k5
          simp only at this
          rw [k1]
          exact this
    · cases hix
  · cases hix
/-- The front part of a slice of one's own, in its place. -/
theorem subL_zero {α : Type} (xs : List α) (hi : Int) : subL xs 0 hi = xs.take hi.toNat := by simp [subL]
theorem flatMap_take {α : Type} {enc : α → List Value} {c : Nat} (he : ∀ x, (enc x).length = c) (xs : List α) (k : Nat) : xs.flatMap enc = (xs.take k).flatMap enc ++ (xs.drop k).flatMap enc := by
  rw [← List.flatMap_append, List.take_append_drop]
theorem Heapy.take {h0 h : AHeap} {l : List Slot} (H : Heapy h0 h l) (k : Nat) {v : Hd} {e : TypeId} {c : Nat} {α : Type} {xs : List α} {enc : α → List Value} (hk : l[k]? = some ⟨v, e, c, xs.flatMap enc⟩) (he : ∀ x, (enc x).length = c) (hc : c ≠ 0) {hi : Int} (ok : subOk 0 hi xs.length = true) :
    Heapy h0 h (l.set k ⟨v.sub (0 : Int).toNat hi.toNat c, e, c, (subL xs 0 hi).flatMap enc⟩) := by
  obtain ⟨_, o1, o2⟩ := subOk_iff.1 ok
  have hok := H.ok _ (List.mem_of_getElem? hk)
  have klt : k < l.length := (List.getElem?_eq_some_iff.1 hk).1
  have hvn := H.vn k hk he hc
  have hlen : (subL xs 0 hi).length = hi.toNat := by rw [subL_zero, List.length_take]; omega
  have hid : ∀ b, Slot.id? ⟨v.sub (0 : Int).toNat hi.toNat c, e, c, (subL xs 0 hi).flatMap enc⟩ = some b → Slot.id? ⟨v, e, c, xs.flatMap enc⟩ = some b := by
    intro b hb
    unfold Slot.id? Hd.sub at *
    simp only at hb ⊢
    cases hv : v.a with
    | none => rw [hv] at hb; cases hb
    | some a => rw [hv] at hb; exact hb
  refine ⟨H.wf, H.sub, H.size, ?_, ?_⟩
  · intro t ht
    obtain ⟨j, hj⟩ := List.mem_iff_getElem?.1 ht
    rw [List.getElem?_set] at hj
    split at hj
    · rename_i hkj
      subst hkj
      first
        | (rw [if_pos klt] at hj)
        | skip
      cases hj
      rcases hok with ⟨k1, k2⟩ | ⟨id, g, rest, k1, k2, k3, k4, _⟩
      · simp only at k1 k2
        subst k1
        have : hi.toNat = 0 := by simp only at hvn; omega
        refine .inl ⟨?_, ?_⟩
        · simp [Hd.sub, this]
        · simp [subL_zero, this]
      · simp only at k1 k2 k3 k4
        refine .inr ⟨id, g, (xs.drop hi.toNat).flatMap enc ++ rest, ?_, ?_, ?_, k4, fun h => absurd h hc⟩
        · rw [k1]; simp [Hd.sub, padd]
        · intro _; rw [flatMap_length he, hlen]; simp [Hd.sub]
        · rw [k3, subL_zero, ← List.append_assoc, ← flatMap_take he]
    · exact H.ok t (List.mem_of_getElem? hj)
  · intro i j a b ha hb hij q hq he'
    rw [List.getElem?_set] at ha hb
    by_cases e1 : k = i
    · rw [if_pos e1, if_pos klt] at ha
      cases ha
      by_cases e2 : k = j
      · exact hij (e1.symm.trans e2)
      · rw [if_neg e2] at hb
        exact H.apart k j _ b hk hb e2 q (hid q hq) he'
    · rw [if_neg e1] at ha
      by_cases e2 : k = j
      · rw [if_pos e2, if_pos klt] at hb
        cases hb
        exact H.apart i k a _ ha hk (Ne.symm e1) q hq (hid q he')
      · rw [if_neg e2] at hb
        exact H.apart i j a b ha hb hij q hq he'

/-! Maps that the call made: keys that are numbers. -/
def mget {β : Type} (a : Int) : List (Int × β) → Option β
  | [] => none
  | p :: r => bif a == p.1 then some p.2 else mget a r
def mput {β : Type} (a : Int) (b : β) : List (Int × β) → List (Int × β)
  | [] => [(a, b)]
  | p :: r => bif a == p.1 then (a, b) :: r else p :: mput a b r
theorem mFind_enc {β : Type} {q : IntKind} {f : β → Value} (a : Int) : ∀ xs : List (Int × β), mFind (.int q) (.int q a) (xs.flatMap fun p => [.int q p.1, f p.2]) = some ((mget a xs).map f)
  | [] => rfl
  | p :: r => by
    have ih := mFind_enc (q := q) (f := f) a r
    simp only [List.flatMap_cons, List.cons_append, List.nil_append, mFind, Instr.sameNow, if_true, mget]
    cases h : (a == p.1) with
    | true => rfl
    | false => simp only [cond_false]; exact ih
theorem mSet_enc {β : Type} {q : IntKind} {f : β → Value} (a : Int) (b : β) : ∀ xs : List (Int × β), mSet (.int q) (.int q a) (f b) (xs.flatMap fun p => [.int q p.1, f p.2]) = some ((mput a b xs).flatMap fun p => [.int q p.1, f p.2])
  | [] => rfl
  | p :: r => by
    have ih := mSet_enc (q := q) (f := f) a b r
    simp only [List.flatMap_cons, List.cons_append, List.nil_append, mSet, Instr.sameNow, if_true, mput]
    cases h : (a == p.1) with
    | true => simp only [cond_true, List.flatMap_cons, List.cons_append, List.nil_append]
    | false => simp only [cond_false, ih, List.flatMap_cons, List.cons_append, List.nil_append]
theorem Heapy.mkmap {P : Program} {h0 h : AHeap} {l : List Slot} (H : Heapy h0 h l) {t kt et : TypeId} (ht : P.underlying t = some (.map kt et)) :
    ∃ (id : Nat) (h' : AHeap), mrun P h (.mkm t) = some (.map (some id), h') ∧ Heapy h0 h' (⟨⟨some ⟨id, 0, some 1⟩, 0, 0⟩, 0, 0, []⟩ :: l) := by
  refine ⟨h.size, h.push ⟨[], 1, false, 0⟩, by simp only [mrun, ht], ?_⟩
  refine (H.grow (AHeap.wf_push H.wf _) (sub_push _ _) (by simp [AHeap.push])).cons (.inr ⟨_, 1, [], rfl, fun h => absurd rfl h, AHeap.get_push_new _ _, AHeap.get_ge H.size, fun _ => rfl⟩) ?_
  intro t ht b hb
  cases hb
  intro e
  have := (Slot.lt (H.ok t ht) e).2.1
  simp at this
theorem Heapy.mblk {h0 h : AHeap} {l : List Slot} (H : Heapy h0 h l) (k : Nat) {id : Nat} {cells : List Value} (hk : l[k]? = some ⟨⟨some ⟨id, 0, some 1⟩, 0, 0⟩, 0, 0, cells⟩) : h.get id = some ⟨cells, 1, false, 0⟩ := by
  rcases H.ok _ (List.mem_of_getElem? hk) with ⟨k1, _⟩ | ⟨id', g', rest, k1, _, k3, _, k5⟩
  · simp only at k1; cases k1
  · simp only at k1 k3
    injection k1 with a1; injection a1 with a2; injection a2 with a3 a4 a5; injection a5 with a6
    subst a3 a6
    have := k5 rfl
    subst this
    rw [k3, List.append_nil]
theorem Heapy.mlook {P : Program} {h0 h : AHeap} {l : List Slot} (H : Heapy h0 h l) (k : Nat) {id : Nat} {β : Type} {q : IntKind} {f : β → Value} {xs : List (Int × β)} (hk : l[k]? = some ⟨⟨some ⟨id, 0, some 1⟩, 0, 0⟩, 0, 0, xs.flatMap fun p => [.int q p.1, f p.2]⟩)
    {t kt et : TypeId} (ht : P.underlying t = some (.map kt et)) (hq : P.underlying kt = some (.int q)) {z : β} (hz : aZero P et = some (f z)) (a : Int) (ok : Bool) :
    mrun P h (.ml t (.map (some id)) (.int q a) ok) = some (mRes ok (f ((mget a xs).getD z)) (mget a xs).isSome, h) := by
  have hb := H.mblk k hk
  have hf := mFind_enc (q := q) (f := f) a xs
  simp only [mrun, aLookup, ht, hq, hz, keyAny, mFindK, keyOk, Bool.true_or, hb, beq_self, hf]
  cases mget a xs with
  | none => rfl
  | some b => rfl
theorem Heapy.mset {P : Program} {h0 h : AHeap} {l : List Slot} (H : Heapy h0 h l) (k : Nat) {id : Nat} {β : Type} {q : IntKind} {f : β → Value} {xs : List (Int × β)} (hk : l[k]? = some ⟨⟨some ⟨id, 0, some 1⟩, 0, 0⟩, 0, 0, xs.flatMap fun p => [.int q p.1, f p.2]⟩)
    {t kt et : TypeId} (ht : P.underlying t = some (.map kt et)) (hq : P.underlying kt = some (.int q)) (a : Int) (b : β) (h1 : okPart (f b) = true) (h2 : (f b).oneCell' = true) :
    ∃ h' : AHeap, mrun P h (.mu t (.map (some id)) (.int q a) (f b)) = some (undef, h') ∧ Heapy h0 h' (l.set k ⟨⟨some ⟨id, 0, some 1⟩, 0, 0⟩, 0, 0, (mput a b xs).flatMap fun p => [.int q p.1, f p.2]⟩) := by
  have hb := H.mblk k hk
  have hf := mSet_enc (q := q) (f := f) a b xs
  refine ⟨h.set id ⟨((mput a b xs).flatMap fun p => [.int q p.1, f p.2]) ++ [], 1, false, 0⟩, ?_, ?_⟩
  · simp only [mrun, aUpdate, ht, hq, keyAny, mSetK, keyOk, Bool.true_or, h1, h2, hb, beq_self, hf, Bool.and_self, List.append_nil]
  · exact H.set hk (s := ⟨⟨some ⟨id, 0, some 1⟩, 0, 0⟩, 0, 0, xs.flatMap fun p => [.int q p.1, f p.2]⟩) rfl [] (g' := 1) (n' := 0) (fun h => absurd rfl h) (fun _ => rfl)
/-! Maps that the call made: keys that are strings. -/
def mgetS {β : Type} (a : ByteArray) : List (ByteArray × β) → Option β
  | [] => none
  | p :: r => bif a == p.1 then some p.2 else mgetS a r
def mputS {β : Type} (a : ByteArray) (b : β) : List (ByteArray × β) → List (ByteArray × β)
  | [] => [(a, b)]
  | p :: r => bif a == p.1 then (a, b) :: r else p :: mputS a b r
theorem mFind_encS {β : Type} {f : β → Value} (a : ByteArray) : ∀ xs : List (ByteArray × β), mFind .string (.string a) (xs.flatMap fun p => [.string p.1, f p.2]) = some ((mgetS a xs).map f)
  | [] => rfl
  | p :: r => by
    have ih := mFind_encS (f := f) a r
    simp only [List.flatMap_cons, List.cons_append, List.nil_append, mFind, Instr.sameNow, mgetS]
    cases h : (a == p.1) with
    | true => rfl
    | false => simp only [cond_false]; exact ih
theorem mSet_encS {β : Type} {f : β → Value} (a : ByteArray) (b : β) : ∀ xs : List (ByteArray × β), mSet .string (.string a) (f b) (xs.flatMap fun p => [.string p.1, f p.2]) = some ((mputS a b xs).flatMap fun p => [.string p.1, f p.2])
  | [] => rfl
  | p :: r => by
    have ih := mSet_encS (f := f) a b r
    simp only [List.flatMap_cons, List.cons_append, List.nil_append, mSet, Instr.sameNow, mputS]
    cases h : (a == p.1) with
    | true => simp only [cond_true, List.flatMap_cons, List.cons_append, List.nil_append]
    | false => simp only [cond_false, ih, List.flatMap_cons, List.cons_append, List.nil_append]
theorem Heapy.mlookS {P : Program} {h0 h : AHeap} {l : List Slot} (H : Heapy h0 h l) (k : Nat) {id : Nat} {β : Type} {f : β → Value} {xs : List (ByteArray × β)} (hk : l[k]? = some ⟨⟨some ⟨id, 0, some 1⟩, 0, 0⟩, 0, 0, xs.flatMap fun p => [.string p.1, f p.2]⟩)
    {t kt et : TypeId} (ht : P.underlying t = some (.map kt et)) (hq : P.underlying kt = some .string) {z : β} (hz : aZero P et = some (f z)) (a : ByteArray) (ok : Bool) :
    mrun P h (.ml t (.map (some id)) (.string a) ok) = some (mRes ok (f ((mgetS a xs).getD z)) (mgetS a xs).isSome, h) := by
  have hb := H.mblk k hk
  have hf := mFind_encS (f := f) a xs
  simp only [mrun, aLookup, ht, hq, hz, keyAny, mFindK, keyOk, Bool.true_or, hb, beq_self, hf]
  cases mgetS a xs with
  | none => rfl
  | some b => rfl
theorem Heapy.msetS {P : Program} {h0 h : AHeap} {l : List Slot} (H : Heapy h0 h l) (k : Nat) {id : Nat} {β : Type} {f : β → Value} {xs : List (ByteArray × β)} (hk : l[k]? = some ⟨⟨some ⟨id, 0, some 1⟩, 0, 0⟩, 0, 0, xs.flatMap fun p => [.string p.1, f p.2]⟩)
    {t kt et : TypeId} (ht : P.underlying t = some (.map kt et)) (hq : P.underlying kt = some .string) (a : ByteArray) (b : β) (h1 : okPart (f b) = true) (h2 : (f b).oneCell' = true) :
    ∃ h' : AHeap, mrun P h (.mu t (.map (some id)) (.string a) (f b)) = some (undef, h') ∧ Heapy h0 h' (l.set k ⟨⟨some ⟨id, 0, some 1⟩, 0, 0⟩, 0, 0, (mputS a b xs).flatMap fun p => [.string p.1, f p.2]⟩) := by
  have hb := H.mblk k hk
  have hf := mSet_encS (f := f) a b xs
  refine ⟨h.set id ⟨((mputS a b xs).flatMap fun p => [.string p.1, f p.2]) ++ [], 1, false, 0⟩, ?_, ?_⟩
  · simp only [mrun, aUpdate, ht, hq, keyAny, mSetK, keyOk, Bool.true_or, h1, h2, hb, beq_self, hf, Bool.and_self, List.append_nil]
  · exact H.set hk (s := ⟨⟨some ⟨id, 0, some 1⟩, 0, 0⟩, 0, 0, xs.flatMap fun p => [.string p.1, f p.2]⟩) rfl [] (g' := 1) (n' := 0) (fun h => absurd rfl h) (fun _ => rfl)
end Go.Proofs.Ytimeninncpmaeaa.Abs
