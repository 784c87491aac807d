/- Def finds the definition of each value, and Size counts the instructions. -/
import Derived.Test.YtepcpjnhhpjacaaIdV
namespace Go.Proofs.Ytepcpjnhhpjacaa.Abs
open Go
set_option linter.unusedVariables false
set_option linter.unusedSimpArgs false
set_option maxHeartbeats 1000000

theorem pw_inj {β : Type} {R : β → β → Prop} {l : List β} (h : l.Pairwise R) {i j : Nat} {a b : β} (ha : l[i]? = some a) (hb : l[j]? = some b) (n1 : ¬ R a b) (n2 : ¬ R b a) : i = j := by
  rw [List.pairwise_iff_getElem] at h
  obtain ⟨hi, rfl⟩ := List.getElem?_eq_some_iff.1 ha
  obtain ⟨hj, rfl⟩ := List.getElem?_eq_some_iff.1 hb
  rcases Nat.lt_trichotomy i j with q | q | q
  · exact absurd (h i j hi hj q) n1
  · exact q
  · exact absurd (h j i hj hi q) n2
/-- Where a value is defined. -/
def PosD (l6 : List TBlk) (b k v : Int) : Prop := ∃ (n : Nat) (y : TBlk), b = n ∧ l6[n]? = some y ∧ ((∃ j : Nat, k = -1 - (j : Int) ∧ y.1[j]? = some v) ∨ ∃ (j : Nat) (x : TInst), k = j ∧ y.2.1[j]? = some x ∧ x.2.1 = v)
theorem mem_defsI {l : List TInst} {v : Int} : v ∈ defsI l ↔ 0 ≤ v ∧ ∃ x ∈ l, x.2.1 = v := by
  unfold defsI
  rw [List.mem_flatMap]
  constructor
  · rintro ⟨x, hx, h⟩
    split at h
    · rename_i h0
      have := List.mem_singleton.1 h
      exact ⟨by omega, x, hx, this.symm⟩
    · cases h
  · rintro ⟨h0, x, hx, rfl⟩
    exact ⟨x, hx, by rw [if_pos h0]; simp⟩
theorem PosD.blk {y : TBlk} {k v : Int} (h0 : 0 ≤ v) (h : (∃ j : Nat, k = -1 - (j : Int) ∧ y.1[j]? = some v) ∨ ∃ (j : Nat) (x : TInst), k = j ∧ y.2.1[j]? = some x ∧ x.2.1 = v) : v ∈ defsB y := by
  unfold defsB
  rw [List.mem_append]
  rcases h with ⟨j, _, h⟩ | ⟨j, x, _, h, e⟩
  · exact .inl (List.mem_of_getElem? h)
  · exact .inr (mem_defsI.2 ⟨h0, x, List.mem_of_getElem? h, e⟩)
theorem PosD.mem {l6 : List TBlk} {b k v : Int} (h0 : 0 ≤ v) (h : PosD l6 b k v) : v ∈ defsF l6 := by
  obtain ⟨n, y, _, hy, h⟩ := h
  exact List.mem_flatMap.2 ⟨y, List.mem_of_getElem? hy, PosD.blk h0 h⟩
theorem PosD.of_mem {l6 : List TBlk} {v : Int} (h : v ∈ defsF l6) : ∃ b k, PosD l6 b k v := by
  obtain ⟨y, hy, h⟩ := List.mem_flatMap.1 h
  obtain ⟨n, hn⟩ := List.mem_iff_getElem?.1 hy
  unfold defsB at h
  rcases List.mem_append.1 h with h | h
  · obtain ⟨j, hj⟩ := List.mem_iff_getElem?.1 h
    exact ⟨n, -1 - (j : Int), n, y, rfl, hn, .inl ⟨j, rfl, hj⟩⟩
  · obtain ⟨_, x, hx, e⟩ := mem_defsI.1 h
    obtain ⟨j, hj⟩ := List.mem_iff_getElem?.1 hx
    exact ⟨n, j, n, y, rfl, hn, .inr ⟨j, x, rfl, hj, e⟩⟩
theorem PosD.one {l6 : List TBlk} (hd : (defsF l6).Nodup) {b k b' k' v : Int} (h0 : 0 ≤ v) (h : PosD l6 b k v) (h' : PosD l6 b' k' v) : b = b' ∧ k = k' := by
  obtain ⟨n, y, rfl, hy, h⟩ := h
  obtain ⟨n', y', rfl, hy', h'⟩ := h'
  obtain ⟨d1, d2⟩ := List.pairwise_flatMap.1 hd
  have m := PosD.blk h0 h
  have m' := PosD.blk h0 h'
  have e : n = n' := pw_inj d2 hy hy' (fun q => q v m v m' rfl) (fun q => q v m' v m rfl)
  subst e
  rw [hy] at hy'
  cases hy'
  refine ⟨rfl, ?_⟩
  obtain ⟨p1, p2, p3⟩ := List.pairwise_append.1 (d1 y (List.mem_of_getElem? hy))
  rcases h with ⟨j, rfl, hj⟩ | ⟨j, x, rfl, hj, e⟩ <;> rcases h' with ⟨j', rfl, hj'⟩ | ⟨j', x', rfl, hj', e'⟩
  · rw [pw_inj p1 hj hj' (fun q => q rfl) (fun q => q rfl)]
  · exact absurd rfl (p3 v (List.mem_of_getElem? hj) v (mem_defsI.2 ⟨h0, x', List.mem_of_getElem? hj', e'⟩))
  · exact absurd rfl (p3 v (List.mem_of_getElem? hj') v (mem_defsI.2 ⟨h0, x, List.mem_of_getElem? hj, e⟩))
  · obtain ⟨_, q2⟩ := List.pairwise_flatMap.1 p2
    have f1 : v ∈ (if 0 ≤ x.2.1 then [x.2.1] else []) := by rw [e, if_pos h0]; simp
    have f2 : v ∈ (if 0 ≤ x'.2.1 then [x'.2.1] else []) := by rw [e', if_pos h0]; simp
    rw [pw_inj q2 hj hj' (fun q => q v f1 v f2 rfl) (fun q => q v f2 v f1 rfl)]

/-- How many of the numbers from -2 on are defined. -/
def cD (D : List Int) (n : Nat) : Nat := ((List.range n).filter fun k : Nat => decide ((k : Int) - 2 ∈ D)).length
theorem cD_succ (D : List Int) (n : Nat) : cD D (n + 1) = cD D n + if (n : Int) - 2 ∈ D then 1 else 0 := by
  unfold cD
  rw [List.range_succ, List.filter_append, List.length_append]
  congr 1
  by_cases h : (n : Int) - 2 ∈ D
  · simp [h]
  · simp [h]
theorem cD_all {D : List Int} {W : Nat} (hd : D.Nodup) (hw : ∀ v ∈ D, 0 ≤ v ∧ v < (W : Int)) : cD D (W + 4) = D.length := by
  have p : (((List.range (W + 4)).filter fun k : Nat => decide ((k : Int) - 2 ∈ D)).map fun k : Nat => (k : Int) - 2).Perm D := by
    rw [List.perm_ext_iff_of_nodup _ hd]
    · intro v
      rw [List.mem_map]
      constructor
      · rintro ⟨k, hk, rfl⟩
        exact of_decide_eq_true (List.mem_filter.1 hk).2
      · intro hv
        have := hw v hv
        refine ⟨(v + 2).toNat, List.mem_filter.2 ⟨List.mem_range.2 (by omega), ?_⟩, by omega⟩
        rw [show (((v + 2).toNat : Nat) : Int) - 2 = v by omega]
        exact decide_eq_true hv
    · unfold List.Nodup
      rw [List.pairwise_map]
      refine List.Pairwise.imp ?_ ((List.nodup_range (n := W + 4)).filter _)
      intro a b hab e
      exact hab (by omega)
  rw [← p.length_eq, List.length_map]; rfl
theorem cD_le (D : List Int) (n : Nat) : cD D n ≤ n := by
  unfold cD
  exact Nat.le_trans (List.length_filter_le _ _) (by simp)
def szW (l : List TBlk) : Int := l.foldl (fun a y => IntKind.i64.wrap (a + (y.2.1.length : Int))) 0
theorem szW_app (a : List TBlk) (y : TBlk) : szW (a ++ [y]) = IntKind.i64.wrap (szW a + (y.2.1.length : Int)) := by
  unfold szW; rw [List.foldl_append]; rfl

section
variable (x1 : ByteArray) (l2 : List Int) (l3 : List TArr) (l4 : List TStr) (l5 : List Int) (l6 : List TBlk)
theorem few_two (hf : InF x1 l2 l3 l4 l5 l6) : Yields (fun r => r = true → l6.length ≤ 30 ∧ l2.length ≤ 600) (F9 x1 l2 l3 l4 l5 l6) := by
  obtain ⟨h1, ⟨h2, h2'⟩, h3, w3, h4, w4, h5, h6, w6⟩ := hf
  unfold F9
  refine Yields.bind (P := Any) (Yields.loop l6.length (fun (i : Nat) z => z.2 = (i : Int)) rfl ?_) fun r _ => Yields.bif (fun _ => Yields.some fun h => by cases h) fun _ => Yields.bif (fun h => ?_) fun _ => Yields.some fun h => by cases h
  · rintro i ⟨a, b⟩ hi e
    simp only at e
    subst e
    unfold F9_s1
    simp only
    refine Yields.bif (fun hc => ?_) fun _ => Yields.some trivial
    have hc := of_decide_eq_true hc
    exact Yields.at (by omega) hc fun y _ _ => Yields.bif (fun _ => Yields.some trivial) fun _ => Yields.some ⟨by omega, wrap_succ (by omega) h6⟩
  · have h := of_decide_eq_true h
    refine Yields.bif (fun _ => Yields.some fun k => ?_) fun _ => Yields.some fun k => by cases k
    have k := of_decide_eq_true k
    omega
theorem index_any (l : List Int) (x : Int) (h : l.length ≤ maxLen) : Yields (fun r : Int => (∃ k : Nat, r = (k : Int) ∧ l[k]? = some x) ∨ (r = -1 ∧ x ∉ l)) (F49 l x) := by
  unfold F49
  refine Yields.bind (P := fun r : Nat × Int => (∃ k : Nat, r = (0, (k : Int)) ∧ l[k]? = some x) ∨ (r = (1, 0) ∧ x ∉ l)) (Yields.loop l.length (fun (i : Nat) z => z = (i : Int) ∧ ∀ k, k < i → l[k]? ≠ some x) ⟨rfl, fun k h => absurd h (by omega)⟩ ?_) ?_
  · rintro i z hi ⟨rfl, hk⟩
    unfold F49_s1
    refine Yields.bif (fun hc => ?_) fun hc => Yields.some (.inr ⟨rfl, ?_⟩)
    · have hc := of_decide_eq_true hc
      refine Yields.at (by omega) hc fun y hy _ => ?_
      rw [Int.toNat_natCast] at hy
      refine Yields.bif (fun e => Yields.some (.inl ⟨i, rfl, by rw [hy, beq_iff_eq.1 e]⟩)) fun e => Yields.some ⟨by omega, wrap_succ (by omega) h, ?_⟩
      intro k hk'
      by_cases q : k = i
      · subst q; rw [hy]; intro e'; cases e'; simp at e
      · exact hk k (by omega)
    · have hc := of_decide_eq_false hc
      intro hm
      obtain ⟨k, hk'⟩ := List.mem_iff_getElem?.1 hm
      exact hk k (by have := (List.getElem?_eq_some_iff.1 hk').1; omega) hk'
  · rintro r (⟨k, rfl, h⟩ | ⟨rfl, h⟩)
    · exact Yields.some (.inl ⟨k, rfl, h⟩)
    · exact Yields.some (.inr ⟨rfl, h⟩)
theorem def_any (v : Int) (h6 : l6.length ≤ maxLen) (w6 : ∀ y ∈ l6, W35 y) : Yields (fun r => (0 ≤ v ∧ r.2.2 = true ∧ PosD l6 r.1 r.2.1 v) ∨ (r = (0, 0, false) ∧ (0 ≤ v → v ∉ defsF l6))) (F11 x1 l2 l3 l4 l5 l6 v) := by
  unfold F11
  refine Yields.bif (fun h => Yields.some (.inr ⟨rfl, fun h0 => ?_⟩)) fun h0 => ?_
  · have h := of_decide_eq_true h; omega
  have h0 := of_decide_eq_false h0
  refine Yields.bind (P := fun r : Nat × Int × Int => (∃ b k, r = (0, b, k) ∧ PosD l6 b k v) ∨ (r = (1, 0, 0) ∧ v ∉ defsF l6)) (Yields.loop l6.length (fun (i : Nat) z => z = (i : Int) ∧ v ∉ defsF (l6.take i)) ⟨rfl, List.not_mem_nil⟩ ?_) ?_
  · rintro i z hi ⟨rfl, hk⟩
    unfold F11_s2
    refine Yields.bif (fun hc => ?_) fun hc => Yields.some (.inr ⟨rfl, ?_⟩)
    · have hc := of_decide_eq_true hc
      refine Yields.at (by omega) hc fun y hy hm => ?_
      rw [Int.toNat_natCast] at hy
      obtain ⟨⟨⟨p1, _⟩, _⟩, ⟨⟨i1, _⟩, iw⟩, _⟩ := w6 y hm
      refine Yields.bind (index_any y.1 v p1) fun r hr => Yields.bif (fun hp => ?_) fun hp => ?_
      · have hp := of_decide_eq_true hp
        rcases hr with ⟨k, rfl, hk'⟩ | ⟨rfl, _⟩
        · have kl := (List.getElem?_eq_some_iff.1 hk').1
          have hm : maxLen = 9223372036854775807 := rfl
          exact Yields.some (.inl ⟨i, _, rfl, i, y, rfl, hy, .inl ⟨k, by rw [wrap_i64] <;> omega, hk'⟩⟩)
        · omega
      · have hp := of_decide_eq_false hp
        have hn : v ∉ y.1 := by
          rcases hr with ⟨k, rfl, hk'⟩ | ⟨_, h⟩
          · omega
          · exact h
        refine Yields.bind (P := fun r : Nat × Int => (∃ (j : Nat) (x : TInst), r = (0, (j : Int)) ∧ y.2.1[j]? = some x ∧ x.2.1 = v) ∨ (r = (1, 0) ∧ ∀ x ∈ y.2.1, x.2.1 ≠ v)) (Yields.loop y.2.1.length (fun (j : Nat) z => z = (j : Int) ∧ ∀ k x, k < j → y.2.1[k]? = some x → x.2.1 ≠ v) ⟨rfl, fun k x h => absurd h (by omega)⟩ ?_) ?_
        · rintro j z hj ⟨rfl, hkj⟩
          unfold F11_s1
          refine Yields.bif (fun hq => ?_) fun hq => Yields.some (.inr ⟨rfl, ?_⟩)
          · have hq := of_decide_eq_true hq
            refine Yields.at (by omega) hq fun x hx _ => ?_
            rw [Int.toNat_natCast] at hx
            refine Yields.bif (fun e => Yields.some (.inl ⟨j, x, rfl, hx, beq_iff_eq.1 e⟩)) fun e => Yields.some ⟨by omega, wrap_succ (by omega) i1, ?_⟩
            intro k x' hk' hx'
            by_cases q : k = j
            · subst q; rw [hx] at hx'; cases hx'; exact beq_eq_false_iff_ne.1 e
            · exact hkj k x' (by omega) hx'
          · have hq := of_decide_eq_false hq
            intro x hx
            obtain ⟨k, hk'⟩ := List.mem_iff_getElem?.1 hx
            exact hkj k x (by have := (List.getElem?_eq_some_iff.1 hk').1; omega) hk'
        · rintro r (⟨j, x, rfl, hx, e⟩ | ⟨rfl, hx⟩)
          · exact Yields.some (.inl ⟨i, j, rfl, i, y, rfl, hy, .inr ⟨j, x, rfl, hx, e⟩⟩)
          · refine Yields.some ⟨by omega, wrap_succ (by omega) h6, ?_⟩
            rw [take_step hy, defsF_app]
            unfold defsB
            intro hv
            rcases List.mem_append.1 hv with q | q
            · exact hk q
            · rcases List.mem_append.1 q with q | q
              · exact hn q
              · obtain ⟨_, x, hx', e⟩ := mem_defsI.1 q
                exact hx x hx' e
    · have hc := of_decide_eq_false hc
      rwa [List.take_of_length_le (show l6.length ≤ i by omega)] at hk
  · rintro r (⟨b, k, rfl, h⟩ | ⟨rfl, h⟩)
    · exact Yields.some (.inl ⟨by omega, rfl, h⟩)
    · exact Yields.some (.inr ⟨rfl, fun _ => h⟩)
theorem size_any (h6 : l6.length ≤ maxLen) : Yields (fun r => r = szW l6) (F12 x1 l2 l3 l4 l5 l6) := by
  unfold F12
  refine Yields.bind (P := fun r => r = szW l6) (Yields.loop l6.length (fun (i : Nat) z => z.1 = szW (l6.take i) ∧ z.2 = (i : Int)) ⟨rfl, rfl⟩ ?_) fun r hr => Yields.some hr
  rintro i ⟨a, b⟩ hi ⟨h1, h2⟩
  simp only at h1 h2
  subst h1 h2
  unfold F12_s1
  refine Yields.bif (fun hc => ?_) fun hc => Yields.some ?_
  · have hc := of_decide_eq_true hc
    refine Yields.at (by omega) hc fun y hy _ => Yields.some ⟨by omega, ?_, wrap_succ (by omega) h6⟩
    rw [Int.toNat_natCast] at hy
    simp only
    rw [take_step hy, szW_app]
  · have hc := of_decide_eq_false hc
    show szW (l6.take i) = szW l6
    rw [List.take_of_length_le (by omega)]
theorem defs_eq (x7 : Int) (hf : InF x1 l2 l3 l4 l5 l6) : F3 x1 l2 l3 l4 l5 l6 x7 = some true := by
  apply Yields.eq
  unfold F3
  refine Yields.bind (few_two x1 l2 l3 l4 l5 l6 hf) fun r hr => Yields.bif (fun _ => Yields.some rfl) fun q => ?_
  obtain ⟨h30, h600⟩ := hr (by simpa using q)
  refine Yields.bind (valid_any x1 l2 l3 l4 l5 l6 hf) fun r hr => Yields.bif (fun _ => Yields.some rfl) fun q => ?_
  obtain ⟨_, hd, hw⟩ := hr (by simpa using q)
  obtain ⟨_, _, _, _, _, _, _, h6, w6⟩ := hf
  have htot : (defsF l6).length ≤ 604 := by
    have := cD_all hd hw
    have := cD_le (defsF l6) (l2.length + 4)
    omega
  have pre : ∀ i y, l6[i]? = some y → (defsF (l6.take i)).length + (defsB y).length ≤ (defsF l6).length := by
    intro i y hy
    have e : l6 = l6.take (i + 1) ++ l6.drop (i + 1) := (List.take_append_drop _ _).symm
    have : (defsF l6).length = (defsF (l6.take (i + 1))).length + (defsF (l6.drop (i + 1))).length := by
      conv => lhs; rw [e]
      unfold defsF; rw [List.flatMap_append, List.length_append]
    rw [take_step hy, defsF_app, List.length_append] at this
    omega
  have find : ∀ b k v, 0 ≤ v → PosD l6 b k v → Yields (fun r => r = (b, k, true)) (F11 x1 l2 l3 l4 l5 l6 v) := by
    intro b k v h0 hp
    refine (def_any x1 l2 l3 l4 l5 l6 v h6 w6).mono ?_
    rintro ⟨b', k', o⟩ (⟨_, h1, h2⟩ | ⟨_, h⟩)
    · simp only at h1 h2
      obtain ⟨rfl, rfl⟩ := PosD.one hd h0 hp h2
      rw [h1]
    · exact absurd (hp.mem h0) (h h0)
  refine Yields.bind (P := fun r => r = (1, ((defsF l6).length : Int), szW l6)) (Yields.loop l6.length (fun (i : Nat) z => z.1 = ((defsF (l6.take i)).length : Int) ∧ z.2.1 = szW (l6.take i) ∧ z.2.2 = (i : Int)) ⟨rfl, rfl, rfl⟩ ?_) ?_
  · rintro i ⟨a, s, b⟩ hi ⟨h1, h2, h3⟩
    simp only at h1 h2 h3
    subst h1 h2 h3
    unfold F3_s3
    refine Yields.bif (fun hc => ?_) fun hc => Yields.some ?_
    · have hc := of_decide_eq_true hc
      simp only at hc ⊢
      refine Yields.at (by omega) hc fun y hy hm => ?_
      rw [Int.toNat_natCast] at hy
      obtain ⟨⟨⟨p1, _⟩, _⟩, ⟨⟨i1, _⟩, iw⟩, _⟩ := w6 y hm
      have hpre := pre i y hy
      have hB : (defsB y).length = y.1.length + (defsI y.2.1).length := by unfold defsB; rw [List.length_append]
      generalize hn : (defsF (l6.take i)).length = n at *
      refine Yields.bind (P := fun r => r = (1, ((n + y.1.length : Nat) : Int))) (Yields.loop y.1.length (fun (j : Nat) z => z.1 = ((n + j : Nat) : Int) ∧ z.2 = (j : Int)) ⟨rfl, rfl⟩ ?_) ?_
      · rintro j ⟨c, d⟩ hj ⟨h1, h2⟩
        simp only at h1 h2
        subst h1 h2
        unfold F3_s1
        refine Yields.bif (fun hq => ?_) fun hq => Yields.some ?_
        · have hq := of_decide_eq_true hq
          refine Yields.at (by omega) hq fun v hv hvm => ?_
          rw [Int.toNat_natCast] at hv
          have hv0 : 0 ≤ v := (hw v (List.mem_flatMap.2 ⟨y, hm, List.mem_append_left _ hvm⟩)).1
          refine Yields.bind (find i (-1 - (j : Int)) v hv0 ⟨i, y, rfl, hy, .inl ⟨j, rfl, hv⟩⟩) ?_
          rintro r rfl
          simp only [Bool.not_true, cond_false, bne_self_eq_false]
          rw [show IntKind.i64.wrap (-1 - (j : Int)) = -1 - (j : Int) by rw [wrap_i64] <;> omega]
          simp only [bne_self_eq_false, cond_false]
          exact Yields.some ⟨by omega, show IntKind.i64.wrap (((n + j : Nat) : Int) + 1) = ((n + (j + 1) : Nat) : Int) by rw [wrap_i64] <;> omega, show IntKind.i64.wrap ((j : Int) + 1) = ((j + 1 : Nat) : Int) by rw [wrap_i64] <;> omega⟩
        · have hq := of_decide_eq_false hq
          rw [show j = y.1.length by omega]; rfl
      · rintro r rfl
        simp only
        refine Yields.bind (P := fun r => r = (1, ((n + y.1.length + (defsI y.2.1).length : Nat) : Int))) (Yields.loop y.2.1.length (fun (j : Nat) z => z.1 = ((n + y.1.length + (defsI (y.2.1.take j)).length : Nat) : Int) ∧ z.2 = (j : Int)) ⟨rfl, rfl⟩ ?_) ?_
        · rintro j ⟨c, d⟩ hj ⟨h1, h2⟩
          simp only at h1 h2
          subst h1 h2
          unfold F3_s2
          refine Yields.bif (fun hq => ?_) fun hq => Yields.some ?_
          · have hq := of_decide_eq_true hq
            refine Yields.at (by omega) hq fun x hx hxm => ?_
            rw [Int.toNat_natCast] at hx
            have nx : IntKind.i64.wrap ((j : Int) + 1) = ((j + 1 : Nat) : Int) := wrap_succ (by omega) i1
            refine Yields.bif (fun hneg => Yields.some ⟨by omega, ?_, nx⟩) fun hneg => ?_
            · have hneg := of_decide_eq_true hneg
              simp only
              rw [take_step hx, defsI_app, if_neg (by omega), List.append_nil]
            · have hneg := of_decide_eq_false hneg
              have h0 : 0 ≤ x.2.1 := by omega
              refine Yields.bind (find i j x.2.1 h0 ⟨i, y, rfl, hy, .inr ⟨j, x, rfl, hx, rfl⟩⟩) ?_
              rintro r rfl
              simp only [Bool.not_true, cond_false, bne_self_eq_false]
              have hle : (defsI (y.2.1.take (j + 1))).length ≤ (defsI y.2.1).length := by
                have e : y.2.1 = y.2.1.take (j + 1) ++ y.2.1.drop (j + 1) := (List.take_append_drop _ _).symm
                have : (defsI y.2.1).length = (defsI (y.2.1.take (j + 1))).length + (defsI (y.2.1.drop (j + 1))).length := by
                  conv => lhs; rw [e]
                  unfold defsI; rw [List.flatMap_append, List.length_append]
                omega
              have hone : (defsI (y.2.1.take (j + 1))).length = (defsI (y.2.1.take j)).length + 1 := by rw [take_step hx, defsI_app, if_pos h0, List.length_append]; rfl
              refine Yields.some ⟨by omega, ?_, nx⟩
              simp only
              rw [wrap_i64] <;> omega
          · have hq := of_decide_eq_false hq
            rw [List.take_of_length_le (by simp only at hq; omega)]; rfl
        · rintro r rfl
          refine Yields.some ⟨by omega, ?_, ?_, wrap_succ (by omega) h6⟩
          · simp only
            rw [take_step hy, defsF_app, List.length_append, hn, hB]; omega
          · simp only
            rw [take_step hy, szW_app]
    · have hc := of_decide_eq_false hc
      simp only at hc
      rw [List.take_of_length_le (show l6.length ≤ i by omega)]; rfl
  · rintro r rfl
    simp only
    refine Yields.bind (P := fun r => r = (1, ((defsF l6).length : Int))) (Yields.loop (l2.length + 4) (fun (i : Nat) z => z.1 = (cD (defsF l6) i : Int) ∧ z.2 = (i : Int) - 2) ⟨rfl, rfl⟩ ?_) ?_
    · rintro i ⟨c, d⟩ hi ⟨h1, h2⟩
      simp only at h1 h2
      subst h1 h2
      unfold F3_s4
      rw [show IntKind.i64.wrap ((l2.length : Int) + 2) = (l2.length : Int) + 2 by rw [wrap_i64] <;> omega]
      refine Yields.bif (fun hc => ?_) fun hc => Yields.some ?_
      · have hc := of_decide_eq_true hc
        have nx : IntKind.i64.wrap ((i : Int) - 2 + 1) = ((i + 1 : Nat) : Int) - 2 := by rw [wrap_i64] <;> omega
        have hci := cD_le (defsF l6) i
        refine Yields.bind (def_any x1 l2 l3 l4 l5 l6 ((i : Int) - 2) h6 w6) ?_
        rintro ⟨b, k, o⟩ (⟨h0, h1, h2⟩ | ⟨h1, h2⟩)
        · simp only at h1 h2
          rw [h1]
          refine Yields.some ⟨by omega, ?_, nx⟩
          simp only
          rw [cD_succ, if_pos (h2.mem h0), wrap_i64] <;> omega
        · cases h1
          refine Yields.some ⟨by omega, ?_, nx⟩
          simp only
          rw [cD_succ, if_neg (fun hm => h2 (hw _ hm).1 hm)]; rfl
      · have hc := of_decide_eq_false hc
        simp only at hc
        rw [show i = l2.length + 4 by omega, cD_all hd hw]; rfl
    · rintro r rfl
      simp only
      show Yields _ (Option.bind _ _)
      refine Yields.bind (def_any x1 l2 l3 l4 l5 l6 x7 h6 w6) ?_
      rintro ⟨b, k, o⟩ hr
      simp only [beq_self_eq_true, cond_true]
      refine Yields.bif (fun _ => Yields.bind (size_any x1 l2 l3 l4 l5 l6 h6) ?_) fun ho => ?_
      · rintro r rfl
        exact Yields.some (beq_self_eq_true _)
      · rcases hr with ⟨h0, h1, h2⟩ | ⟨h1, _⟩
        · have := hw x7 (h2.mem h0)
          rw [decide_eq_true (show x7 ≥ 0 from h0), decide_eq_true this.2]
          simp only [cond_true]
          refine Yields.bind (size_any x1 l2 l3 l4 l5 l6 h6) ?_
          rintro r rfl
          exact Yields.some (beq_self_eq_true _)
        · cases h1; cases ho
end
theorem defs : Law Try.prog 3 10 [27, 3] := F3_law (fun x1 l2 l3 l4 l5 l6 x7 h1 h2 _ h3 w3 h4 w4 h5 _ h6 w6 _ => defs_eq x1 l2 l3 l4 l5 l6 x7 ⟨h1, h2, h3.2, w3, h4.2, w4, h5.1, h6.1, w6⟩)
end Go.Proofs.Ytepcpjnhhpjacaa.Abs
