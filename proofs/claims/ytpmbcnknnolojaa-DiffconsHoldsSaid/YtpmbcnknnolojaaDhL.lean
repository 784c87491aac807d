/- Start times satisfy all arcs, and later bounds start nothing earlier. -/
import Derived.Test.YtpmbcnknnolojaaDtL
namespace Go.Proofs.Ytpmbcnknnolojaa.Abs
open Go
set_option linter.unusedVariables false
set_option linter.unusedSimpArgs false

theorem ref_bound (l : List Int) (v : Nat) : F11 l (v : Int) = some (bndI l v) := by
  apply Yields.eq
  unfold F11 bndI
  refine Yields.bif (fun hc => ?_) (fun hc => ?_)
  · have hc := of_decide_eq_true hc
    rw [if_pos (by omega)]; exact Yields.some rfl
  · have hc := of_decide_eq_false hc
    rw [if_neg (by omega)]
    refine Yields.bindE (at_gd (by omega) (by omega)) (Yields.some ?_)
    exact lim11 _

theorem violated_ok {n : Nat} (hn : n ≤ 20) {x1 ii : Int} (e : F39 x1 = (n : Int)) {l2 : List Ed} (hm : l2.length ≤ 60) {st : List Int} (hs : st.length = n) (hb : ∀ v, v < n → -1099511627776 ≤ gd st v ∧ gd st v ≤ 1099511627776)
    (sat : ∀ e ∈ eds (n : Int) ii false l2 l2.length, gd st e.1.toNat + e.2.2.1 ≤ gd st e.2.1.toNat) : F15 x1 l2 ii st = some (-1) := by
  have at_ : ∀ i : Int, 0 ≤ i → i < n → F44 i st = some (gd st i.toNat) := by
    intro i h0 h1
    apply Yields.eq
    unfold F44
    refine Yields.bif (fun hc => ?_) (fun hc => ?_)
    · have hc := of_decide_eq_true hc; omega
    · refine Yields.bindE (at_gd h0 (by omega)) (Yields.some ?_)
      have b := hb i.toNat (by omega)
      rw [limit_eq _ _ (by omega) (by omega)]
      repeat' split <;> omega
  apply Yields.eq
  unfold F15
  refine Yields.bind (P := fun t => t = (1, 0)) (Yields.loop l2.length (fun (i : Nat) z => z = (i : Int)) rfl ?_) (fun t ht => by subst ht; exact Yields.some rfl)
  rintro i z hi rfl
  unfold F15_s1
  refine Yields.bif (fun hc => ?_) (fun _ => Yields.some rfl)
  have hc := of_decide_eq_true hc
  refine Yields.at (by omega) hc (fun y hy hy' => ?_)
  have hy := at_nat hy
  rw [e]
  refine Yields.bif (fun hq => ?_) (fun _ => Yields.some ⟨by omega, wrap_n (by omega)⟩)
  obtain ⟨⟨f0, f1⟩, t0, t1⟩ := cnt46_iff.1 (show cnt46 n y = true from hq)
  refine Yields.bindE (at_ _ t0 t1) (Yields.bindE (at_ _ f0 f1) ?_)
  have h := sat _ (mem_eds (n := n) (ii := ii) (ag := false) (by omega : i < l2.length) hy hq)
  simp only [cond_false] at h
  have b1 := hb y.1.toNat (by omega)
  have b2 := hb y.2.1.toNat (by omega)
  rw [show IntKind.i64.wrap (gd st y.2.1.toNat - gd st y.1.toNat) = gd st y.2.1.toNat - gd st y.1.toNat by rw [wrap_i64] <;> omega]
  refine Yields.bif (fun hc => ?_) (fun _ => Yields.some ⟨by omega, wrap_n (by omega)⟩)
  have hc := of_decide_eq_true hc
  omega

theorem bound_max (a b : List Int) (n v : Nat) (hv : v < n) : bndI ((List.range n).map fun v => if bndI b v > bndI a v then bndI b v else bndI a v) v = if bndI b v > bndI a v then bndI b v else bndI a v := by
  unfold bndI
  rw [if_neg (by simp; omega), gd_map hv]
  have h1 := bndI_bd a v
  have h2 := bndI_bd b v
  unfold bndI at h1 h2
  generalize (if a.length ≤ v then (0 : Int) else F45 (gd a v) 1073741824) = p at *
  generalize (if b.length ≤ v then (0 : Int) else F45 (gd b v) 1073741824) = q at *
  rw [limit_eq _ _ (by omega) (by omega)]
  repeat' split <;> omega

theorem holds_eq (x1 : Int) (l2 : List Ed) (x3 : Int) (l4 l5 : List Int) : F4 x1 l2 x3 l4 l5 = some true := by
  apply Yields.eq
  unfold F4
  refine Yields.bif (fun _ => Yields.some rfl) (fun hf => Yields.bif (fun _ => Yields.some rfl) (fun h4 => Yields.bif (fun _ => Yields.some rfl) (fun h5 => ?_)))
  have hf : F10 x1 l2 x3 = true := by simpa using hf
  have h4 := of_decide_eq_false h4
  have h5 := of_decide_eq_false h5
  obtain ⟨n, e, hn, hm⟩ := few_ok hf
  have e14 : F14 x1 = (n : Int) := e
  have hE := eds_len (n : Int) x3 false l2 l2.length
  have hs := sts_len l4 n
  have ho : ∀ e ∈ eds (n : Int) x3 false l2 l2.length, EOk (sts l4 n).length e := by rw [hs]; exact eds_ok
  obtain ⟨r, er, r1, r2, r3, r4⟩ := raise_ok (by rw [hs]; exact hn) (by omega) (sts_bd l4 n) ho
  rw [hs] at r1
  refine Yields.bindE (after_ok hn e hm l4 er) ?_
  cases hr : r.1.isEmpty
  · simp only [cond_false]
    refine Yields.bif (fun _ => Yields.some (by simp)) (fun hc => ?_)
    have hc := of_decide_eq_false hc
    have : r.1 = [] := List.eq_nil_of_length_eq_zero (by omega)
    rw [this] at hr; cases hr
  · have hr := List.isEmpty_iff.1 hr
    have A := r3 hr
    have hlo := A.lo
    rw [hs] at hlo
    have hhi := A.hi
    rw [hs] at hhi
    have hb : ∀ v, v < n → -1073741824 ≤ gd r.2 v := by
      intro v hv
      have a1 := hlo v hv
      have a2 := (sts_bd l4 n v (by rw [hs]; exact hv)).1
      omega
    simp only [cond_true]
    rw [e14]
    refine Yields.bif (fun hc => ?_) (fun _ => Yields.bif (fun hc => ?_) (fun _ => ?_))
    · simp at hc
    · simp [r1] at hc
    refine Yields.bindE (violated_ok hn e hm r1 (fun v hv => ⟨by have := hb v hv; omega, by have := hhi v hv; omega⟩) A.sat) (Yields.bif (fun hc => by simp at hc) (fun _ => ?_))
    refine Yields.bindE (y := (List.range n).map fun v => if bndI l5 v > bndI l4 v then bndI l5 v else bndI l4 v) ?_ ?_
    · apply Yields.eq
      refine Yields.loop n (fun (i : Nat) z => z.1 = (i : Int) ∧ z.2 = (List.range i).map fun v => if bndI l5 v > bndI l4 v then bndI l5 v else bndI l4 v) ⟨rfl, rfl⟩ ?_
      rintro i ⟨a, m⟩ hi ⟨h1, h2⟩
      simp only at h1 h2
      subst h1 h2
      unfold F4_s1
      simp only
      rw [e14]
      refine Yields.bif (fun hc => ?_) (fun hc => ?_)
      · have hc := of_decide_eq_true hc
        refine Yields.bindE (ref_bound l4 i) (Yields.bindE (ref_bound l5 i) (Yields.bif (fun hk => ?_) (fun hk => ?_)))
        · rw [ok_app (by simp; omega) (by simp; omega)] at hk; cases hk
        · exact Yields.some ⟨by omega, wrap_n (by omega), by simp only [List.range_succ, List.map_append, List.map_cons, List.map_nil]⟩
      · have hc := of_decide_eq_false hc
        have : i = n := by omega
        subst this
        exact Yields.some rfl
    have hs' := sts_len ((List.range n).map fun v => if bndI l5 v > bndI l4 v then bndI l5 v else bndI l4 v) n
    have hb' := sts_bd ((List.range n).map fun v => if bndI l5 v > bndI l4 v then bndI l5 v else bndI l4 v) n
    have hv' : ∀ v, v < n → gd (sts ((List.range n).map fun v => if bndI l5 v > bndI l4 v then bndI l5 v else bndI l4 v) n) v = if bndI l5 v > bndI l4 v then bndI l5 v else bndI l4 v := by
      intro v hv
      unfold sts
      rw [gd_map hv, bound_max _ _ _ _ hv]
    generalize ((List.range n).map fun v => if bndI l5 v > bndI l4 v then bndI l5 v else bndI l4 v) = more at *
    have ho' : ∀ e ∈ eds (n : Int) x3 false l2 l2.length, EOk (sts more n).length e := by rw [hs']; exact eds_ok
    obtain ⟨q, eq, q1, q2, q3, q4⟩ := raise_ok (by rw [hs']; exact hn) (by omega) hb' ho'
    rw [hs'] at q1
    have hq := q4 ⟨fun v => gd r.2 v + 4294967296, by
      intro e he
      have := A.sat e he
      simp only
      omega, by
      intro v hv
      have a1 := (hb' v hv).2
      rw [hs'] at hv
      have a2 := hb v hv
      simp only
      omega⟩
    have B := q3 hq
    have hlo' := B.lo
    rw [hs'] at hlo'
    have hle := A.least (gd q.2) B.sat (by
      rw [hs]
      intro v hv
      have a1 := hlo' v hv
      rw [hv' v hv] at a1
      unfold sts
      rw [gd_map hv]
      split at a1 <;> omega)
    rw [hs] at hle
    refine Yields.bindE (after_ok hn e hm more eq) ?_
    rw [hq]
    simp only [List.isEmpty_nil, cond_true]
    refine Yields.bif (fun hc => ?_) (fun _ => ?_)
    · simp [q1] at hc
    refine Yields.bind (P := fun t => t = 1) (Yields.loop n (fun (i : Nat) z => z = (i : Int)) rfl ?_) (fun t ht => by subst ht; exact Yields.some rfl)
    rintro i z hi rfl
    unfold F4_s2
    simp only
    rw [e14]
    refine Yields.bif (fun hc => ?_) (fun _ => Yields.some rfl)
    have hc := of_decide_eq_true hc
    have hin : i < n := by omega
    refine Yields.bindE (at_gd (by omega) (by omega)) (Yields.bindE (ref_bound l4 i) (Yields.bif (fun hd => ?_) (fun _ => ?_)))
    · have hd := of_decide_eq_true hd
      have := hlo i hin
      unfold sts at this
      rw [gd_map hin] at this
      simp only [Int.toNat_natCast] at hd
      omega
    · refine Yields.bindE (at_gd (by omega) (by omega)) (Yields.bif (fun hd => ?_) (fun _ => Yields.some ⟨by omega, wrap_n (by omega)⟩))
      have hd := of_decide_eq_true hd
      have := hle i hin
      simp only [Int.toNat_natCast] at hd
      omega
theorem holds : Law Try.prog 4 10 [24, 25, 25] := F4_law (fun x1 l2 x3 l4 l5 _ _ _ _ _ _ _ _ => holds_eq x1 l2 x3 l4 l5)
end Go.Proofs.Ytpmbcnknnolojaa.Abs
