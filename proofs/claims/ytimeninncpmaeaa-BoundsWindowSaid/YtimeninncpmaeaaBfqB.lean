/- Raising start times: what the rounds keep, and why the way back from a node that was raised too often ends. -/
import Derived.Test.YtimeninncpmaeaaBfpV
namespace Go.Proofs.Ytimeninncpmaeaa.Abs
namespace D
open Go
set_option linter.unusedVariables false
set_option linter.unusedSimpArgs false

/-! Lists read at any place. -/
def gd (l : List Int) (v : Nat) : Int := l.getD v 0
theorem gd_some {l : List Int} {v : Nat} (h : v < l.length) : l[v]? = some (gd l v) := by
  unfold gd; rw [List.getD_eq_getElem?_getD, List.getElem?_eq_getElem h]; rfl
theorem gd_eq {l : List Int} {v : Nat} {x : Int} (h : l[v]? = some x) : gd l v = x := by
  unfold gd; rw [List.getD_eq_getElem?_getD, h]; rfl
theorem at_gd {l : List Int} {i : Int} (h0 : 0 ≤ i) (h1 : i < l.length) : at? l i = some (gd l i.toNat) := by
  unfold at?; rw [decide_eq_true h0, cond_true]; exact gd_some (by omega)
theorem len_set {α : Type} (l : List α) (i : Int) (x : α) : (setI l i x).length = l.length := by simp [setI]
theorem gd_set {l : List Int} {i : Int} (h0 : 0 ≤ i) (h1 : i < l.length) (x : Int) (v : Nat) : gd (setI l i x) v = if v = i.toNat then x else gd l v := by
  unfold gd setI
  simp only [List.getD_eq_getElem?_getD, List.getElem?_set]
  by_cases h : i.toNat = v
  · rw [if_pos h, if_pos (by omega), if_pos h.symm]; rfl
  · rw [if_neg h, if_neg (fun e => h e.symm)]

abbrev Ed := Int × Int × Int × Int
structure EOk (n : Nat) (e : Ed) : Prop where
  f0 : 0 ≤ e.1
  f1 : e.1 < n
  t0 : 0 ≤ e.2.1
  t1 : e.2.1 < n
  w0 : -269484032 ≤ e.2.2.1
  w1 : e.2.2.1 ≤ 269484032
def Sol (l2 : List Ed) (x : Nat → Int) : Prop := ∀ e ∈ l2, x e.1.toNat + e.2.2.1 ≤ x e.2.1.toNat

structure Pre (l2 : List Ed) (R T : Nat → Nat) (st bl : List Int) (v : Nat) (e : Ed) : Prop where
  b0 : 0 ≤ gd bl v
  at_ : l2[(gd bl v).toNat]? = some e
  to : e.2.1.toNat = v
  rr : R v ≤ R e.1.toNat + 1
  le : gd st v ≤ gd st e.1.toNat + e.2.2.1
  tt : gd st v = gd st e.1.toNat + e.2.2.1 → T e.1.toNat < T v
structure BInv (l1 : List Int) (l2 : List Ed) (R T : Nat → Nat) (c k : Nat) (st bl : List Int) : Prop where
  ls : st.length = l1.length
  lb : bl.length = l1.length
  rk : ∀ v, R v ≤ k
  tc : ∀ v, T v ≤ c
  pre : ∀ v, v < l1.length → 1 ≤ R v → ∃ e, Pre l2 R T st bl v e
  lo : ∀ v, v < l1.length → gd l1 v ≤ gd st v
  hi : ∀ v, v < l1.length → gd st v ≤ 1073741824 + 269484032 * (c : Int)
  sol : ∀ x, Sol l2 x → (∀ v, v < l1.length → gd l1 v ≤ x v) → ∀ v, v < l1.length → gd st v ≤ x v
structure RInv (l1 : List Int) (l2 : List Ed) (R T : Nat → Nat) (c k : Nat) (last : Int) (j : Nat) (st bl : List Int) : Prop extends BInv l1 l2 R T c k st bl where
  done : ∀ i e, i < j → l2[i]? = some e → R e.1.toNat < k → gd st e.1.toNat + e.2.2.1 ≤ gd st e.2.1.toNat
  todo : ∀ i e, j ≤ i → l2[i]? = some e → R e.1.toNat + 1 < k → gd st e.1.toNat + e.2.2.1 ≤ gd st e.2.1.toNat
  la : (last = -1 ∧ ∀ i e, i < j → l2[i]? = some e → gd st e.1.toNat + e.2.2.1 ≤ gd st e.2.1.toNat) ∨ (0 ≤ last ∧ last < l1.length ∧ R last.toNat = k)

theorem RInv.idle {l1 : List Int} {l2 : List Ed} {R T : Nat → Nat} {c k : Nat} {last : Int} {j : Nat} {st bl : List Int} (H : RInv l1 l2 R T c k last j st bl) {e : Ed} (he : l2[j]? = some e)
    (hs : gd st e.1.toNat + e.2.2.1 ≤ gd st e.2.1.toNat) : RInv l1 l2 R T c k last (j + 1) st bl := by
  refine ⟨H.toBInv, ?_, fun i e' hi => H.todo i e' (by omega), ?_⟩
  · intro i e' hi he' hr
    by_cases h : i = j
    · subst h; rw [he] at he'; cases he'; exact hs
    · exact H.done i e' (by omega) he' hr
  · rcases H.la with ⟨h1, h2⟩ | h
    · refine .inl ⟨h1, ?_⟩
      intro i e' hi he'
      by_cases h : i = j
      · subst h; rw [he] at he'; cases he'; exact hs
      · exact h2 i e' (by omega) he'
    · exact .inr h

theorem RInv.relax {l1 : List Int} {l2 : List Ed} {R T : Nat → Nat} {c k : Nat} {last : Int} {j : Nat} {st bl : List Int} (hk : 1 ≤ k) (H : RInv l1 l2 R T c k last j st bl) {e : Ed} (he : l2[j]? = some e) (ho : EOk l1.length e)
    (hs : gd st e.2.1.toNat < gd st e.1.toNat + e.2.2.1) :
    RInv l1 l2 (fun x => if x = e.2.1.toNat then k else R x) (fun x => if x = e.2.1.toNat then c + 1 else T x) (c + 1) k e.2.1 (j + 1) (setI st e.2.1 (gd st e.1.toNat + e.2.2.1)) (setI bl e.2.1 (j : Int)) := by
  obtain ⟨f0, f1, t0, t1, w0, w1⟩ := ho
  have hls := H.ls
  have hlb := H.lb
  have g1 := gd_set (l := st) t0 (by omega) (gd st e.1.toNat + e.2.2.1)
  have g2 := gd_set (l := bl) t0 (by omega) (j : Int)
  generalize hu : e.1.toNat = u at *
  generalize hv : e.2.1.toNat = v at *
  have hun : u < l1.length := by omega
  have hvn : v < l1.length := by omega
  have hru : k ≤ R u + 1 := by
    apply Decidable.byContradiction
    intro hc
    have := H.todo j e (Nat.le_refl _) he (by rw [hu]; omega)
    rw [hu, hv] at this
    omega
  refine ⟨⟨by rw [len_set]; exact hls, by rw [len_set]; exact hlb, ?_, ?_, ?_, ?_, ?_, ?_⟩, ?_, ?_, ?_⟩
  · intro x
    try simp only
    split
    · exact Nat.le_refl _
    · exact H.rk x
  · intro x
    try simp only
    split
    · exact Nat.le_refl _
    · have := H.tc x; omega
  · intro x hx hr
    by_cases hxv : x = v
    · subst hxv
      refine ⟨e, ⟨by rw [g2, if_pos rfl]; omega, by rw [g2, if_pos rfl]; simpa using he, hv, ?_, ?_, ?_⟩⟩
      · simp only [if_pos, hu]; split
        · omega
        · exact hru
      · rw [hu, g1, g1, if_pos rfl]
        by_cases h : u = x
        · rw [if_pos h]; subst h; omega
        · rw [if_neg h]; omega
      · rw [hu, g1, g1, if_pos rfl]
        by_cases h : u = x
        · rw [if_pos h]; subst h; intro; omega
        · rw [if_neg h]
          intro _
          simp only [if_neg h, if_pos]
          have := H.tc u; omega
    · simp only [if_neg hxv] at hr
      obtain ⟨e', p⟩ := H.pre x hx hr
      obtain ⟨b0, at_, to, rr, le, tt⟩ := p
      refine ⟨e', ⟨by rw [g2, if_neg hxv]; exact b0, by rw [g2, if_neg hxv]; exact at_, to, ?_, ?_, ?_⟩⟩
      · simp only [if_neg hxv]
        split
        · have := H.rk x; omega
        · exact rr
      · rw [g1, g1, if_neg hxv]
        by_cases h : e'.1.toNat = v
        · rw [if_pos h]; rw [h] at le; omega
        · rw [if_neg h]; exact le
      · rw [g1, g1, if_neg hxv]
        by_cases h : e'.1.toNat = v
        · rw [if_pos h]; rw [h] at le; intro; omega
        · rw [if_neg h]
          simp only [if_neg h, if_neg hxv]
          exact tt
  · intro x hx
    rw [g1]
    by_cases hxv : x = v
    · rw [if_pos hxv]; have := H.lo x hx; rw [hxv] at this ⊢; omega
    · rw [if_neg hxv]; exact H.lo x hx
  · intro x hx
    rw [g1]
    have e1 : (((c + 1 : Nat)) : Int) = (c : Int) + 1 := by omega
    rw [e1]
    by_cases hxv : x = v
    · rw [if_pos hxv]; have := H.hi u hun; omega
    · rw [if_neg hxv]; have := H.hi x hx; omega
  · intro y hy hyl x hx
    rw [g1]
    by_cases hxv : x = v
    · rw [if_pos hxv]
      have h1 := H.sol y hy hyl u hun
      have h2 := hy e (List.mem_of_getElem? he)
      rw [hu, hv] at h2
      rw [hxv]; omega
    · rw [if_neg hxv]; exact H.sol y hy hyl x hx
  · intro i e' hi he' hr
    try simp only at hr
    have hne : e'.1.toNat ≠ v := by
      intro h; rw [if_pos h] at hr; omega
    rw [if_neg hne] at hr
    rw [g1, g1, if_neg hne]
    by_cases h : i = j
    · subst h; rw [he] at he'; cases he'
      rw [hv, if_pos rfl, hu]; exact Int.le_refl _
    · have := H.done i e' (by omega) he' hr
      by_cases h2 : e'.2.1.toNat = v
      · rw [if_pos h2]; rw [h2] at this; omega
      · rw [if_neg h2]; exact this
  · intro i e' hi he' hr
    try simp only at hr
    have hne : e'.1.toNat ≠ v := by
      intro h; rw [if_pos h] at hr; omega
    rw [if_neg hne] at hr
    rw [g1, g1, if_neg hne]
    have := H.todo i e' (by omega) he' hr
    by_cases h2 : e'.2.1.toNat = v
    · rw [if_pos h2]; rw [h2] at this; omega
    · rw [if_neg h2]; exact this
  · refine .inr ⟨t0, t1, ?_⟩
    simp only [hv, if_pos]

/-! The way back. -/
theorem pigeon : ∀ (n : Nat) (f : Nat → Nat), (∀ i, i ≤ n → f i < n) → ∃ i j, i < j ∧ j ≤ n ∧ f i = f j
  | 0, f, h => absurd (h 0 (Nat.le_refl _)) (by omega)
  | n + 1, f, h => by
    by_cases hx : ∃ i, i ≤ n ∧ f i = f (n + 1)
    · obtain ⟨i, h1, h2⟩ := hx
      exact ⟨i, n + 1, by omega, Nat.le_refl _, h2⟩
    · have hne : ∀ i, i ≤ n → f i ≠ f (n + 1) := fun i hi e => hx ⟨i, hi, e⟩
      obtain ⟨i, j, h1, h2, h3⟩ := pigeon n (fun i => if f i < f (n + 1) then f i else f i - 1) (by
        intro i hi
        have a1 := h i (by omega)
        have a2 := h (n + 1) (Nat.le_refl _)
        have a3 := hne i hi
        try simp only
        split <;> omega)
      refine ⟨i, j, h1, by omega, ?_⟩
      have a3 := hne i (by omega)
      have a4 := hne j (by omega)
      try simp only at h3
      split at h3 <;> split at h3 <;> omega

def back (l2 : List Ed) (bl : List Int) (v : Nat) : Nat := match l2[(gd bl v).toNat]? with
  | some e => e.1.toNat
  | none => 0
def way (l2 : List Ed) (bl : List Int) (s : Nat) : Nat → Nat
  | 0 => s
  | t + 1 => back l2 bl (way l2 bl s t)
theorem Pre.back {l2 : List Ed} {R T : Nat → Nat} {st bl : List Int} {v : Nat} {e : Ed} (p : Pre l2 R T st bl v e) : back l2 bl v = e.1.toNat := by
  unfold D.back; rw [p.at_]
structure Ring (l1 : List Int) (l2 : List Ed) (R : Nat → Nat) (bl : List Int) (s d : Nat) : Prop where
  lt : ∀ t, way l2 bl s t < l1.length
  ri : ∀ t, 1 ≤ R (way l2 bl s t)
  d1 : 1 ≤ d
  d2 : d ≤ l1.length
  eq : way l2 bl s (l1.length + d) = way l2 bl s l1.length
theorem ring_of {l1 : List Int} {l2 : List Ed} {R T : Nat → Nat} {c k : Nat} {st bl : List Int} (H : BInv l1 l2 R T c k st bl) (ho : ∀ e ∈ l2, EOk l1.length e) {s : Nat} (hs : s < l1.length) (hr : R s = l1.length) :
    ∃ d, Ring l1 l2 R bl s d := by
  have step : ∀ v, v < l1.length → 1 ≤ R v → back l2 bl v < l1.length ∧ R v ≤ R (back l2 bl v) + 1 := by
    intro v hv h1
    obtain ⟨e, p⟩ := H.pre v hv h1
    rw [p.back]
    have q := ho e (List.mem_of_getElem? p.at_)
    have q0 := q.f0
    have q1 := q.f1
    exact ⟨by omega, p.rr⟩
  have run : ∀ t, t ≤ l1.length → way l2 bl s t < l1.length ∧ l1.length ≤ R (way l2 bl s t) + t := by
    intro t
    induction t with
    | zero => intro _; exact ⟨hs, by show _ ≤ R s + 0; omega⟩
    | succ t ih =>
      intro ht
      obtain ⟨h1, h2⟩ := ih (by omega)
      have h3 := step _ h1 (by omega)
      exact ⟨h3.1, by have := h3.2; show _ ≤ R (back l2 bl (way l2 bl s t)) + (t + 1); omega⟩
  obtain ⟨i, j, h1, h2, h3⟩ := pigeon l1.length (way l2 bl s) (fun i hi => (run i hi).1)
  have per : ∀ t, way l2 bl s (i + t) = way l2 bl s (j + t) := by
    intro t
    induction t with
    | zero => exact h3
    | succ t ih => show back l2 bl (way l2 bl s (i + t)) = back l2 bl (way l2 bl s (j + t)); rw [ih]
  have small : ∀ t, ∃ t', t' < j ∧ way l2 bl s t = way l2 bl s t' := by
    intro t
    induction t using Nat.strongRecOn with
    | _ t ih =>
      by_cases h : t < j
      · exact ⟨t, h, rfl⟩
      · obtain ⟨t', h4, h5⟩ := ih (i + (t - j)) (by omega)
        refine ⟨t', h4, ?_⟩
        rw [← h5, per (t - j)]
        congr 1; omega
  refine ⟨j - i, ⟨?_, ?_, by omega, by omega, ?_⟩⟩
  · intro t
    obtain ⟨t', h4, h5⟩ := small t
    rw [h5]; exact (run t' (by omega)).1
  · intro t
    obtain ⟨t', h4, h5⟩ := small t
    rw [h5]; have := (run t' (by omega)).2; omega
  · have := per (l1.length - i)
    rw [show i + (l1.length - i) = l1.length by omega] at this
    rw [this]; congr 1; omega

theorem no_ring {l1 : List Int} {l2 : List Ed} {R T : Nat → Nat} {c k : Nat} {st bl : List Int} (H : BInv l1 l2 R T c k st bl) {s d : Nat} (G : Ring l1 l2 R bl s d)
    (x : Nat → Int) (hx : Sol l2 x) : False := by
  have one : ∀ t, x (way l2 bl s (t + 1)) - gd st (way l2 bl s (t + 1)) ≤ x (way l2 bl s t) - gd st (way l2 bl s t) ∧
      (x (way l2 bl s (t + 1)) - gd st (way l2 bl s (t + 1)) = x (way l2 bl s t) - gd st (way l2 bl s t) → T (way l2 bl s (t + 1)) < T (way l2 bl s t)) := by
    intro t
    obtain ⟨e, p⟩ := H.pre _ (G.lt t) (G.ri t)
    have e1 : way l2 bl s (t + 1) = e.1.toNat := p.back
    have h1 := hx e (List.mem_of_getElem? p.at_)
    rw [p.to, ← e1] at h1
    have h2 := p.le
    have h3 := p.tt
    rw [← e1] at h2 h3
    exact ⟨by omega, fun h => h3 (by omega)⟩
  have down : ∀ t m, x (way l2 bl s (t + m)) - gd st (way l2 bl s (t + m)) ≤ x (way l2 bl s t) - gd st (way l2 bl s t) := by
    intro t m
    induction m with
    | zero => exact Int.le_refl _
    | succ m ih => exact Int.le_trans (one (t + m)).1 ih
  have tdown : ∀ m, m ≤ d → T (way l2 bl s (l1.length + m)) + m ≤ T (way l2 bl s l1.length) := by
    intro m
    induction m with
    | zero => intro _; exact Nat.le_refl _
    | succ m ih =>
      intro hm
      have h1 := ih (by omega)
      have h2 := (one (l1.length + m)).2
      have h3 := down (l1.length + (m + 1)) (d - (m + 1))
      rw [show l1.length + (m + 1) + (d - (m + 1)) = l1.length + d by omega, G.eq] at h3
      have h4 := down l1.length m
      have h5 := (one (l1.length + m)).1
      have h6 := h2 (by
        have e : l1.length + (m + 1) = l1.length + m + 1 := by omega
        rw [e] at h3
        omega)
      have e : l1.length + (m + 1) = l1.length + m + 1 := by omega
      rw [e]; omega
  have := tdown d (Nat.le_refl _)
  rw [G.eq] at this
  have := G.d1
  omega
end D
end Go.Proofs.Ytimeninncpmaeaa.Abs
