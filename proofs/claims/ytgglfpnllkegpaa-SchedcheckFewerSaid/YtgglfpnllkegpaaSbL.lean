/- SchedcheckFewer. -/
import Derived.Test.YtgglfpnllkegpaaSaK
namespace Go.Proofs.Ytgglfpnllkegpaa.Abs
open Go
set_option linter.unusedVariables false
set_option linter.unusedSimpArgs false
set_option maxHeartbeats 1000000
theorem get_cut {β : Type} (l : List β) (k i : Nat) (h : i < k) : (l.take k ++ l.drop (k + 1))[i]? = l[i]? := by
  rw [List.getElem?_append]
  by_cases e : i < (l.take k).length
  · rw [if_pos e, List.getElem?_take_of_lt h]
  · rw [if_neg e]
    rw [List.length_take] at e
    have : l.length ≤ i := by omega
    rw [List.getElem?_eq_none this, List.getElem?_eq_none (by rw [List.length_drop]; omega)]
theorem mem_cut {β : Type} {l : List β} {k : Nat} {x : β} (h : x ∈ l.take k ++ l.drop (k + 1)) : x ∈ l := by
  rcases List.mem_append.1 h with h | h
  · exact List.mem_of_mem_take h
  · exact List.mem_of_mem_drop h
section
variable (x1 x2 : Int) (x3 : Bool) (l4 l5 : List Quad) (l6 : List (Int × Int)) (x7 x8 : Int) (l9 l10 l11 : List Int)
theorem late_nil : lateL x1 x2 l4 x7 x8 l9 l10 = [] ↔ ∀ a ∈ l4, 0 ≤ slk x1 x2 x7 x8 l9 l10 a := by
  unfold lateL
  constructor
  · intro h a ha
    obtain ⟨i, hi⟩ := List.mem_iff_getElem?.1 ha
    refine Classical.byContradiction fun n => ?_
    have : (i : Int) ∈ idxs (fun i => decide ((((l4.map (slk x1 x2 x7 x8 l9 l10))[i]?).getD 0) < 0)) l4.length := by
      rw [idxs_mem]
      refine ⟨i, rfl, (List.getElem?_eq_some_iff.1 hi).1, decide_eq_true ?_⟩
      rw [List.getElem?_map, hi]
      show slk x1 x2 x7 x8 l9 l10 a < 0
      omega
    rw [h] at this; cases this
  · intro h
    refine List.eq_nil_iff_forall_not_mem.2 fun v hv => ?_
    obtain ⟨i, _, hi, hd⟩ := idxs_mem.1 hv
    obtain ⟨a, ha⟩ := some_nat hi
    have hd := of_decide_eq_true hd
    rw [List.getElem?_map, ha] at hd
    have := h a (List.mem_of_getElem? ha)
    simp only [Option.map_some, Option.getD_some] at hd
    omega
/-- One more unit of each resource. -/
def more (q : Quad) : Quad := (q.1, q.2.1, q.2.2.1, if 1024 < q.2.2.2 + 1 then 1024 else q.2.2.2 + 1)
theorem more_ok (hR : ∀ r ∈ l5, ResOK r) : ∀ r ∈ l5.map more, ResOK r := by
  intro r hr
  obtain ⟨q, hq, rfl⟩ := List.mem_map.1 hr
  have := hR q hq
  unfold ResOK more at *
  simp only
  split <;> omega
theorem res_loop (hR : ∀ r ∈ l5, ResOK r) (k5 : l5.length ≤ 1000) : loopO (fun (s : Int × Int × Int × Bool × (List (Int × Int × Int × Int))) => F5_s1 l5 s.1 s.2.1 s.2.2.1 s.2.2.2.1 s.2.2.2.2) (0, x1, x2, x3, ([] : List (Int × Int × Int × Int))) = some (x1, x2, x3, l5.map more) := by
  apply Yields.eq
  refine Yields.loop l5.length (fun (i : Nat) z => z = ((i : Int), x1, x2, x3, (l5.take i).map more)) rfl ?_
  rintro i z hi rfl
  unfold F5_s1
  simp only
  refine Yields.bif (fun hc => ?_) fun hc => Yields.some (by
    have hc := of_decide_eq_false hc
    rw [List.take_of_length_le (by omega)]; exact rfl)
  have hc := of_decide_eq_true hc
  obtain ⟨y, hy⟩ := some_nat (l := l5) (i := i) (by omega)
  have nx : IntKind.i64.wrap ((i : Int) + 1) = ((i + 1 : Nat) : Int) := wr1 (n := l5.length) (by omega) (by omega)
  have ry := hR y (List.mem_of_getElem? hy)
  refine Yields.bindE (atn hy) ?_
  rw [okg (by simp only [List.length_map, List.length_take, List.length_singleton]; omega) (by omega), cond_false]
  refine Yields.some ⟨by omega, ?_⟩
  rw [nx]
  show (((i + 1 : Nat) : Int), x1, x2, x3, List.map more (l5.take i) ++ [(y.1, y.2.1, y.2.2.1, F5__4 y)]) = (((i + 1 : Nat) : Int), x1, x2, x3, (l5.take (i + 1)).map more)
  rw [take_succ' hy, List.map_append]
  have e : F5__4 y = if 1024 < y.2.2.2 + 1 then 1024 else y.2.2.2 + 1 := by
    unfold ResOK at ry
    unfold F5__4
    rw [wr (x := y.2.2.2 + 1) (by omega) (by omega)]
  rw [e]; rfl
theorem fewer_ok {l4' : List Quad} (hv : ValidOK x1 x2 x3 l4 l5 l6) (hf : FitOK x1 x2 x3 l5 l6 x7 x8 l9 l10 l11) (hp : LegalP x1 x2 x3 l4 l6 x7 x8 l9 l10 l11)
    (hm : ∀ a ∈ l4', a ∈ l4) (hl : 2 * (x1 + x2) + 1 ≤ l4'.length) (hg : ∀ i : Nat, (i : Int) < 2 * (x1 + x2) + 1 → l4'[i]? = l4[i]?) :
    ValidOK x1 x2 x3 l4' (l5.map more) l6 ∧ FitOK x1 x2 x3 (l5.map more) l6 x7 x8 l9 l10 l11 ∧ LegalP x1 x2 x3 l4' l6 x7 x8 l9 l10 l11 := by
  obtain ⟨v1, v2, v3, v4, v5, v6, v7⟩ := hv
  obtain ⟨h1, h2, h3, h4, h5⟩ := id v1
  refine ⟨⟨v1, fun a ha => v2 a (hm a ha), hl, fun i hi => ?_, more_ok l5 v5, fun i hi => ?_, fun y hy => ?_⟩, ?_, ⟨hp.1, hp.2.1, ?_, hp.2.2.2⟩⟩
  · have := v4 i hi
    unfold FrameOK at *
    rw [hg i (by omega)]; exact this
  · obtain ⟨a, ha, r⟩ := v6 i hi
    exact ⟨a, by rw [← ha]; have := hg (x1 + x2 + 1 + i).toNat (by omega); exact this, r⟩
  · rcases v7 y hy with h | h
    · exact .inl h
    · exact .inr ⟨h.1, by rw [List.length_map]; exact h.2.1, h.2.2⟩
  · obtain ⟨f1, f2, f3, f4, f5, f6, f7, f8, f9, f10, f11⟩ := hf
    refine ⟨f1, f2, f3, f4, f5, f6, f7, f8, f9, f10, fun i hi => ?_⟩
    obtain ⟨y, u, hy, hu, w1, w2⟩ := f11 i hi
    refine ⟨y, u, hy, hu, w1, fun h0 => ⟨(w2 h0).1, fun r hr => ?_⟩⟩
    rw [List.getElem?_map] at hr
    cases hq : l5[y.1.toNat]? with
    | none => rw [hq] at hr; cases hr
    | some q =>
      rw [hq] at hr; cases hr
      have a1 := (w2 h0).2 q hq
      have a2 := v5 q (List.mem_of_getElem? hq)
      unfold ResOK at a2
      unfold more
      simp only
      split <;> omega
  · rw [late_nil] at *
    exact fun a ha => (late_nil x1 x2 l4 x7 x8 l9 l10).1 hp.2.2.1 a (hm a ha)
theorem fewer_eq (x12 : Int) (k12 : 0 ≤ x12 ∧ x12 ≤ 255) (k4 : l4.length ≤ maxLen) (k6 : l6.length ≤ maxLen) : F5 x1 x2 x3 l4 l5 l6 x7 x8 l9 l10 l11 x12 = some true := by
  apply Yields.eq
  unfold F5
  refine Yields.bind (few_any x1 x2 x3 l4 l5 l6 x7 x8 l9 l10 l11 k4 k6) fun r hr => Yields.bif (fun _ => Yields.some rfl) fun q => ?_
  obtain ⟨b1, b2, s4, s5, s6, s9, s10, s11⟩ := hr (by simpa using q)
  refine Yields.bind (check_any x1 x2 x3 l4 l5 l6 x7 x8 l9 l10 l11 (by omega) (by omega) (by omega) (by omega) (by omega)) fun e he => Yields.bif (fun _ => Yields.some rfl) fun q => ?_
  have e0 : e = 0 := by simpa using q
  have hvf : ValidOK x1 x2 x3 l4 l5 l6 ∧ FitOK x1 x2 x3 l5 l6 x7 x8 l9 l10 l11 := Classical.byContradiction fun n => by have := he.1 n; omega
  have hp : LegalP x1 x2 x3 l4 l6 x7 x8 l9 l10 l11 := Classical.byContradiction fun n => by have := (he.2 hvf).2 n; omega
  obtain ⟨hv, hf⟩ := hvf
  obtain ⟨h1, h2, h3, h4, h5⟩ := id hv.1
  have hR := hv.2.2.2.2.1
  have first : IntKind.i64.wrap (IntKind.i64.wrap (2 * IntKind.i64.wrap (x1 + x2)) + 1) = 2 * (x1 + x2) + 1 := by
    rw [wr (x := x1 + x2) (by omega) (by omega), wr (x := 2 * (x1 + x2)) (by omega) (by omega), wr (by omega) (by omega)]
  have rl := res_loop x1 x2 x3 l5 hR (by omega)
  have fin : ∀ l4' : List Quad, (∀ a ∈ l4', a ∈ l4) → 2 * (x1 + x2) + 1 ≤ (l4'.length : Int) → (∀ i : Nat, (i : Int) < 2 * (x1 + x2) + 1 → l4'[i]? = l4[i]?) → l4'.length ≤ 1000 →
      Yields (fun x => x = true) (Option.bind (F14 x1 x2 x3 l4' (l5.map more) l6 x7 x8 l9 l10 l11) fun y => some (y == 0)) := by
    intro l4' m1 m2 m3 m4
    obtain ⟨c1, c2, c3⟩ := fewer_ok x1 x2 x3 l4 l5 l6 x7 x8 l9 l10 l11 hv hf hp m1 m2 m3
    refine Yields.bind (check_any x1 x2 x3 l4' (l5.map more) l6 x7 x8 l9 l10 l11 m4 (by rw [List.length_map]; omega) (by omega) (by omega) (by omega)) fun z hz => Yields.some ?_
    obtain rfl := (hz.2 ⟨c1, c2⟩).1 c3
    rfl
  refine Yields.bif (fun c => ?_) fun c => ?_
  · unfold F5__1 at c
    rw [first] at c
    have c := of_decide_eq_true c
    have e2 : F5__2 x1 x2 l4 = (l4.length : Int) - (2 * (x1 + x2) + 1) := by unfold F5__2; rw [first, wr (by omega) (by omega)]
    have e3 : ∃ k : Nat, F5__3 x1 x2 l4 x12 = (k : Int) ∧ 2 * (x1 + x2) + 1 ≤ (k : Int) ∧ k < l4.length := by
      unfold F5__3
      rw [e2, first, wr (x := x12) (by omega) (by omega), Int.tmod_eq_emod_of_nonneg k12.1]
      have m0 := Int.emod_nonneg x12 (show (l4.length : Int) - (2 * (x1 + x2) + 1) ≠ 0 by omega)
      have m1 := Int.emod_lt_of_pos x12 (show 0 < (l4.length : Int) - (2 * (x1 + x2) + 1) by omega)
      rw [wr (by omega) (by omega)]
      exact ⟨(2 * (x1 + x2) + 1 + x12 % ((l4.length : Int) - (2 * (x1 + x2) + 1))).toNat, by omega, by omega, by omega⟩
    obtain ⟨k, ek, k1, k2⟩ := e3
    rw [e2, ek, show (((l4.length : Int) - (2 * (x1 + x2) + 1)) == 0) = false from beq_eq_false_iff_ne.2 (by omega), cond_false]
    rw [wr (x := (k : Int) + 1) (by omega) (by omega)]
    rw [show subOk (0 : Int) (k : Int) l4.length = true from by unfold subOk; simp; omega, show subOk ((k : Int) + 1) (l4.length : Int) l4.length = true from by unfold subOk; simp; omega]
    simp only [Bool.not_true, cond_false]
    have es : (([] : List Quad) ++ subL l4 (0 : Int) (k : Int)) ++ subL l4 ((k : Int) + 1) (l4.length : Int) = l4.take k ++ l4.drop (k + 1) := by
      unfold subL
      rw [List.nil_append, Int.toNat_natCast, Int.toNat_natCast, List.take_length, show ((0 : Int)).toNat = 0 from rfl, List.drop_zero, show ((k : Int) + 1).toNat = k + 1 by omega]
    have l0 : (subL l4 (0 : Int) (k : Int)).length ≤ 1000 := by unfold subL; rw [List.length_drop, List.length_take]; omega
    have l1 : (subL l4 ((k : Int) + 1) (l4.length : Int)).length ≤ 1000 := by unfold subL; rw [List.length_drop, List.length_take]; omega
    rw [okg (by simp only [List.length_nil]; omega) (by omega), cond_false, okg (by simp only [List.nil_append]; omega) (by omega), cond_false]
    refine Yields.bindE rl ?_
    simp only
    rw [es]
    refine fin _ (fun a ha => mem_cut ha) ?_ (fun i hi => get_cut l4 k i (by omega)) ?_
    · rw [List.length_append, List.length_take, List.length_drop]; omega
    · rw [List.length_append, List.length_take, List.length_drop]; omega
  · have rl2 : loopO (fun (s : Int × Int × Int × Bool × (List (Int × Int × Int × Int))) => F5_s2 l5 s.1 s.2.1 s.2.2.1 s.2.2.2.1 s.2.2.2.2) (0, x1, x2, x3, ([] : List (Int × Int × Int × Int))) = some (x1, x2, x3, l5.map more) := rl
    refine Yields.bindE rl2 ?_
    exact fin l4 (fun a ha => ha) (by have := hv.2.2.1; omega) (fun i _ => rfl) (by omega)
end
theorem fewer : Law Try.prog 5 10 [26, 29, 5] := F5_law (fun x1 x2 x3 l4 l5 l6 x7 x8 l9 l10 l11 x12 _ _ h4 _ _ _ h6 _ _ _ _ _ _ _ _ _ h12 => fewer_eq x1 x2 x3 l4 l5 l6 x7 x8 l9 l10 l11 x12 (wf_u8 h12) h4.1 h6.1)
end Go.Proofs.Ytgglfpnllkegpaa.Abs
