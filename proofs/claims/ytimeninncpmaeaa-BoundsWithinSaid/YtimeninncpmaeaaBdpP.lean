/- In a legal schedule no resource is used more than possible; the law. -/
import Derived.Test.YtimeninncpmaeaaBdpL
namespace Go.Proofs.Ytimeninncpmaeaa.Abs
open Go
set_option linter.unusedVariables false
set_option linter.unusedSimpArgs false
set_option maxHeartbeats 1000000
def cyc (x7 s b : Int) : Int := if 0 < x7 then (s + b) % x7 else s + b
section
variable (x1 x2 : Int) (x3 : Bool) (l4 l5 : List Quad) (l6 : List (Int × Int)) (x7 x8 : Int) (l9 l10 l11 : List Int)
/-- The cycles of its units that an instruction occupies. -/
def cells (r len : Int) (k : Nat) : List Int := match l6[k]?, l9[k]?, l11[k]? with
  | some y, some s, some u => if y.1 = r then (List.range y.2.toNat).map (fun b : Nat => u * len + cyc x7 s b) else []
  | _, _, _ => []
theorem cells_mem {r len x : Int} {k : Nat} (h : x ∈ cells l6 x7 l9 l11 r len k) : ∃ y s u, ∃ b : Nat, l6[k]? = some y ∧ l9[k]? = some s ∧ l11[k]? = some u ∧ y.1 = r ∧ (b : Int) < y.2 ∧ x = u * len + cyc x7 s b := by
  unfold cells at h
  split at h
  · rename_i y s u h1 h2 h3
    split at h
    · rename_i hr
      obtain ⟨b, hb, rfl⟩ := List.mem_map.1 h
      have := List.mem_range.1 hb
      exact ⟨y, s, u, b, h1, h2, h3, hr, by omega, rfl⟩
    · cases h
  · cases h
theorem cells_len (r len : Int) (e9 : l9.length = l6.length) (e11 : l11.length = l6.length) (hb : ∀ y ∈ l6, 0 ≤ y.2 ∧ y.2 ≤ 256) : ∀ m, m ≤ l6.length → ((((List.range m).flatMap (cells l6 x7 l9 l11 r len)).length : Nat) : Int) = busyOf r (l6.take m)
  | 0, _ => rfl
  | m + 1, hm => by
    have ih := cells_len r len e9 e11 hb m (by omega)
    obtain ⟨y, hy⟩ := some_nat (l := l6) (i := m) (by omega)
    obtain ⟨s, hs⟩ := some_nat (l := l9) (i := m) (by omega)
    obtain ⟨u, hu⟩ := some_nat (l := l11) (i := m) (by omega)
    have hy0 := hb y (List.mem_of_getElem? hy)
    rw [List.range_succ, List.flatMap_append, List.length_append, take_one hy, busyOf_app]
    have e : ([m].flatMap (cells l6 x7 l9 l11 r len)).length = if y.1 = r then y.2.toNat else 0 := by
      simp only [List.flatMap_cons, List.flatMap_nil, List.append_nil]
      unfold cells
      rw [hy, hs, hu]
      simp only
      split <;> simp
    rw [e]
    split <;> omega
theorem enc_inj {u u' c c' len : Int} (h0 : 0 ≤ c) (h1 : c < len) (h0' : 0 ≤ c') (h1' : c' < len) (e : u * len + c = u' * len + c') : u = u' ∧ c = c' := by
  have p1 : (u * len + c) % len = c := emod_one (q := u) h0 h1 (by rw [Int.mul_comm len u]; omega)
  have p2 : (u' * len + c') % len = c' := emod_one (q := u') h0' h1' (by rw [Int.mul_comm len u']; omega)
  have ec : c = c' := by rw [← p1, ← p2, e]
  refine ⟨?_, ec⟩
  have : u * len = u' * len := by omega
  exact Int.eq_of_mul_eq_mul_right (show len ≠ 0 by omega) this
theorem room (hv : ValidOK x1 x2 x3 l4 l5 l6) (hf : FitOK x1 x2 x3 l5 l6 x7 x8 l9 l10 l11) (hA : ∀ a ∈ l4, ArcEnd x1 x2 x8 l9 a) (hF : ∀ i j, i ≤ j → j < l6.length → Free l6 x7 l9 l11 i j) {r : Nat} {q : Quad} (hq : l5[r]? = some q) :
    busyOf r l6 ≤ q.2.2.2 * lenOf x3 x7 x8 := by
  have hl : (l6.length : Int) = x1 := hv.1.2.2.2.2
  have e9 : l9.length = l6.length := by have := hf.1; omega
  have e11 : l11.length = l6.length := by have := hf.2.1; omega
  have hb := need_bd l5 l6 hv.2.2.2.2.2.2
  have hT := hf.2.2.2.2.2.2.2.2.1
  have h37 := hf.2.2.2.2.2.1
  have h8 := hf.2.2.2.2.2.2.1
  have hx1 := hv.1.1
  have hx2 := hv.1.2.2.1
  generalize hlen : lenOf x3 x7 x8 = len
  have hqr := hv.2.2.2.2.1 q (List.mem_of_getElem? hq)
  -- one cell
  have one : ∀ {k : Nat} {y s u} {b : Nat}, l6[k]? = some y → l9[k]? = some s → l11[k]? = some u → y.1 = (r : Int) → (b : Int) < y.2 → 0 ≤ cyc x7 s b ∧ cyc x7 s b < len ∧ Occ x7 s y.2 (cyc x7 s b) ∧ 0 ≤ u ∧ u < q.2.2.2 ∧ (0 < x7 → (cyc x7 s b - s) % x7 = b) := by
    intro k y s u b hy hs hu hr hb'
    have hk := (List.getElem?_eq_some_iff.1 hy).1
    have ts := hT s (List.mem_of_getElem? hs)
    obtain ⟨y', u', hy', hu', ok⟩ := hf.2.2.2.2.2.2.2.2.2.2 k hk
    rw [hy] at hy'; cases hy'; rw [hu] at hu'; cases hu'
    have okr := ok.2 (by omega)
    have hu1 := okr.2 q (by rw [hr]; simpa using hq)
    by_cases h7 : 0 < x7
    · have self := (hF k k (Nat.le_refl _) hk y y u s s hy hy hu hu hs hs (by omega) rfl).1 rfl h7
      have hl7 : len = x7 := by rw [← hlen]; unfold lenOf; rw [if_pos (h37.1 h7)]
      unfold cyc Occ
      rw [if_pos h7, if_pos h7]
      have d := Int.mul_ediv_add_emod (s + b) x7
      have m0 := Int.emod_nonneg (s + b) (show x7 ≠ 0 by omega)
      have m1 := Int.emod_lt_of_pos (s + b) h7
      have key : ((s + b) % x7 - s) % x7 = b := emod_one (q := -((s + b) / x7)) (by omega) (by omega) (by rw [Int.mul_neg]; omega)
      rw [key]
      exact ⟨m0, by omega, hb', okr.1, hu1, fun _ => rfl⟩
    · have hl8 : len = x8 := by rw [← hlen]; unfold lenOf; rw [if_neg (fun e => h7 (h37.2 e))]
      unfold cyc Occ
      rw [if_neg h7, if_neg h7]
      obtain ⟨a, ha, a1, a2, a3, a4⟩ := hv.2.2.2.2.2.1 k (by omega)
      have hend := hA a (List.mem_of_getElem? ha) s (by omega) (by rw [a1]; simpa using hs) a2 a3
      have := (a4 (by omega) y hy).2
      have := ts.1
      exact ⟨by omega, by omega, ⟨by omega, by omega⟩, okr.1, hu1, fun h => absurd h h7⟩
  have hn : ((List.range l6.length).flatMap (cells l6 x7 l9 l11 r len)).Nodup := by
    unfold List.Nodup
    rw [List.pairwise_flatMap]
    constructor
    · intro k hk
      unfold cells
      split
      · rename_i y s u hy hs hu
        split
        · rename_i hr
          rw [List.pairwise_map]
          refine List.Pairwise.imp_of_mem ?_ (List.nodup_range (n := y.2.toNat))
          intro b b' hb1 hb2 hne e
          have b1 := List.mem_range.1 hb1
          have b2 := List.mem_range.1 hb2
          have o1 := one (b := b) hy hs hu hr (by omega)
          have o2 := one (b := b') hy hs hu hr (by omega)
          have ec := (enc_inj o1.1 o1.2.1 o2.1 o2.2.1 e).2
          by_cases h7 : 0 < x7
          · have q1 := o1.2.2.2.2.2 h7
            have q2 := o2.2.2.2.2.2 h7
            rw [ec, q2] at q1
            omega
          · unfold cyc at ec
            rw [if_neg h7, if_neg h7] at ec
            omega
        · exact List.Pairwise.nil
      · exact List.Pairwise.nil
    · refine List.Pairwise.imp_of_mem ?_ (List.pairwise_lt_range (n := l6.length))
      intro i j hi hj hij x hx y' hy' e
      subst e
      obtain ⟨y1, s1, u1, b1, p1, p2, p3, p4, p5, p6⟩ := cells_mem l6 x7 l9 l11 hx
      obtain ⟨y2, s2, u2, b2, q1, q2, q3, q4, q5, q6⟩ := cells_mem l6 x7 l9 l11 hy'
      have o1 := one p1 p2 p3 p4 p5
      have o2 := one q1 q2 q3 q4 q5
      obtain ⟨eu, ec⟩ := enc_inj o1.1 o1.2.1 o2.1 o2.2.1 (p6.symm.trans q6)
      subst eu
      have fr := (hF i j (by omega) (List.getElem?_eq_some_iff.1 q1).1 y1 y2 u1 s1 s2 p1 q1 p3 q3 p2 q2 (by omega) (by omega)).2 (by omega) (cyc x7 s1 b1) (fun h7 => ⟨o1.1, by
        have hl7 : len = x7 := by rw [← hlen]; unfold lenOf; rw [if_pos (h37.1 h7)]
        omega⟩)
      exact fr ⟨o1.2.2.1, by rw [ec]; exact o2.2.2.1⟩
  have hlen0 : 0 ≤ len := by
    rw [← hlen]; unfold lenOf
    split
    · exact hf.2.2.2.1
    · omega
  have hW : 0 ≤ q.2.2.2 * len := Int.mul_nonneg (by have := hqr.2.2.1; omega) hlen0
  have hw : ∀ v ∈ (List.range l6.length).flatMap (cells l6 x7 l9 l11 r len), 0 ≤ v ∧ v < (((q.2.2.2 * len).toNat : Nat) : Int) := by
    intro v hv'
    obtain ⟨k, _, hk⟩ := List.mem_flatMap.1 hv'
    obtain ⟨y, s, u, b, p1, p2, p3, p4, p5, rfl⟩ := cells_mem l6 x7 l9 l11 hk
    have o := one p1 p2 p3 p4 p5
    have m1 : 0 ≤ u * len := Int.mul_nonneg o.2.2.2.1 hlen0
    have m2 : (u + 1) * len ≤ q.2.2.2 * len := Int.mul_le_mul_of_nonneg_right (by have := o.2.2.2.2.1; omega) hlen0
    rw [Int.add_mul, Int.one_mul] at m2
    have := o.1; have := o.2.1
    omega
  have fin := nodup_le hn hw
  have cl := cells_len l6 x7 l9 l11 r len e9 e11 hb l6.length (Nat.le_refl _)
  rw [List.take_of_length_le (Nat.le_refl _)] at cl
  omega
theorem small_any (n m : Int) (k4 : l4.length ≤ maxLen) (k6 : l6.length ≤ maxLen) : Yields (fun r => r = true → l4.length ≤ 90 ∧ l5.length ≤ 6) (F32 x1 x2 x3 l4 l5 l6 n m) := by
  unfold F32
  refine Yields.bind (P := fun _ => True) (Yields.loop l4.length (fun (i : Nat) z => z = (i : Int)) rfl ?_) fun t _ => Yields.bif (fun _ => Yields.some fun h => by cases h) fun _ => ?_
  · rintro i z hi rfl
    unfold F32_s1
    refine Yields.bif (fun hc => ?_) fun _ => Yields.some trivial
    have hc := of_decide_eq_true hc
    exact Yields.at (by omega) hc fun _ _ _ => Yields.bif (fun _ => Yields.some trivial) fun _ => Yields.bif (fun _ => Yields.some trivial) fun _ => Yields.some ⟨by omega, wrap_succ (by omega) k4⟩
  refine Yields.bind (P := fun _ => True) (Yields.loop l6.length (fun (i : Nat) z => z = (i : Int)) rfl ?_) fun t _ => Yields.bif (fun _ => Yields.some fun h => by cases h) fun _ => ?_
  · rintro i z hi rfl
    unfold F32_s2
    refine Yields.bif (fun hc => ?_) fun _ => Yields.some trivial
    have hc := of_decide_eq_true hc
    exact Yields.at (by omega) hc fun _ _ _ => Yields.bif (fun _ => Yields.some trivial) fun _ => Yields.some ⟨by omega, wrap_succ (by omega) k6⟩
  refine Yields.bif (fun _ => Yields.bif (fun _ => Yields.bif (fun h => Yields.some fun k => ?_) fun _ => Yields.some fun h => by cases h) fun _ => Yields.some fun h => by cases h) fun _ => Yields.some fun h => by cases h
  have h := of_decide_eq_true h
  have k := of_decide_eq_true k
  omega
end
end Go.Proofs.Ytimeninncpmaeaa.Abs
