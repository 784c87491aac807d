/-
  slices.SortFunc at a slice of this call's own: the library's contract, led over to abstract memory.
-/
import Derived.Shelf.SlSortCmp.NoneTotal
import Derived.Test.YtmncgnjginibiaaVw
namespace Go.Proofs.Ytmncgnjginibiaa.Abs
open Go
set_option linter.unusedVariables false
set_option linter.unusedSimpArgs false

theorem world_grown {W w' : World} (ho : w'.os = W.os) (ht : w'.tape = W.tape) (hp : w'.output = W.output) (hd : W.drawn ≤ w'.drawn) (hs : W.heap.size ≤ w'.heap.size) (hk : ∀ b, b < W.heap.size → w'.heap[b]? = W.heap[b]?) :
    w' = Go.Sort.grow (W.drewN (w'.drawn - W.drawn)) (w'.heap.extract W.heap.size w'.heap.size) := by
  have e1 : W.drawn + (w'.drawn - W.drawn) = w'.drawn := by omega
  have e2 : W.heap ++ w'.heap.extract W.heap.size w'.heap.size = w'.heap := by
    apply Array.ext_getElem?
    intro i
    rw [Array.getElem?_append]
    by_cases hi : i < W.heap.size
    · rw [if_pos hi]; exact (hk i hi).symm
    · rw [if_neg hi, Array.getElem?_extract]
      by_cases h2 : i < w'.heap.size
      · rw [if_pos (by omega)]; congr 1; omega
      · rw [if_neg (by omega), Array.getElem?_eq_none (by omega)]
  obtain ⟨h', t', d', o', p'⟩ := w'
  obtain ⟨h, t, d, o, p⟩ := W
  simp only at ho ht hp e1 e2
  subst ho ht hp
  unfold Go.Sort.grow World.drewN
  simp only [e1, e2]
theorem hrel_empty (W : World) : HRel W.heap.size (fun _ _ => Option.none) AHeap.none W := by
  have hn : ∀ i, AHeap.none.get i = Option.none := fun i => AHeap.get_ge (Nat.zero_le _)
  refine ⟨rfl, Nat.le_refl _, ?_, ?_, ?_⟩
  · intro i b hb; rw [hn] at hb; cases hb
  · intro i g r h; cases h
  · intro i b r i' b' r' hb; rw [hn] at hb; cases hb
section
variable {α : Type} [Inhabited α]
theorem cmpLays_of {P : Program} {g : Nat} {enc : α → List Value} {k : Nat} {cf : α → α → Int} (hpl : ∀ x, (enc x).all (plain 5) = true)
    (hcmp : ∀ x y, ACalls P g [.agg (enc x).toArray, .agg (enc y).toArray] AHeap.none fun v _ => v = .int .i64 (cf x y)) (blk off size : Nat) (w : World) : Go.Proofs.CmpLays P g #[] enc k cf blk off size w := by
  intro m os dk _ x y
  generalize Go.Proofs.sortWorldK enc k w blk off m dk os = W
  have hp : ∀ v ∈ [Value.agg (enc x).toArray, .agg (enc y).toArray], plain 6 v = true := by
    intro v hv
    rcases List.mem_cons.1 hv with rfl | hv
    · exact hpl x
    · rcases List.mem_cons.1 hv with rfl | hv
      · exact hpl y
      · cases hv
  have := hcmp x y W.heap.size (fun _ _ => Option.none) W (#[.agg (enc x).toArray, .agg (enc y).toArray]) (hrel_empty W)
    ⟨rfl, fun i v v' h1 h2 => by
      have e : v' = v := by
        have : ([Value.agg (enc x).toArray, .agg (enc y).toArray])[i]? = some v' := h2
        rw [h1] at this; exact (Option.some.inj this).symm
      rw [e]; exact plain_refl 6 (hp v (List.mem_of_getElem? h1))⟩
  refine this.mono ?_
  rintro e w' ⟨v, v', ρ', h', rfl, rfl, hv, H', X⟩
  refine ⟨by rw [plain_eq 6 (v := .int .i64 (cf x y)) rfl hv], _, _, world_grown X.os X.tape X.output X.drawn X.grow fun b hb => X.keep b hb fun i blk r h1 => ?_⟩
  rw [AHeap.get_ge (Nat.zero_le _)] at h1; cases h1

theorem flatMap_get {enc : α → List Value} {k : Nat} (hk : ∀ x, (enc x).length = k) : ∀ (xs : List α) (i : Nat), i < xs.length * k → (xs.flatMap enc)[i]? = some ((enc xs[i / k]!)[i % k]!)
  | [], i, h => by simp at h
  | x :: xs, i, h => by
    have k0 : 0 < k := by rcases Nat.eq_zero_or_pos k with e | e; · subst e; simp at h
                          · exact e
    rw [List.flatMap_cons, List.getElem?_append, hk]
    by_cases hi : i < k
    · rw [if_pos hi, Nat.div_eq_of_lt hi, Nat.mod_eq_of_lt hi]
      have : i < (enc x).length := by rw [hk]; exact hi
      show _ = some ((enc x)[i]!)
      rw [List.getElem?_eq_getElem this, getElem!_pos (enc x) i this]
    · rw [if_neg hi, flatMap_get hk xs (i - k) (by simp only [List.length_cons, Nat.add_mul, Nat.one_mul] at h; omega)]
      have e1 : i / k = (i - k) / k + 1 := by rw [Nat.div_eq i k, if_pos ⟨k0, by omega⟩]
      have e2 : i % k = (i - k) % k := by rw [Nat.mod_eq i k, if_pos ⟨k0, by omega⟩]
      rw [e1, e2]; rfl
theorem flatK_list {enc : α → List Value} {k : Nat} (hk : ∀ x, (enc x).length = k) (xs : List α) : (Go.Sort.flatK enc k xs.toArray).toList = xs.flatMap enc := by
  have hl : (xs.flatMap enc).length = xs.length * k := flatMap_length hk xs
  apply List.ext_getElem?
  intro i
  by_cases hi : i < xs.length * k
  · rw [flatMap_get hk xs i hi]
    have hs : i < (Go.Sort.flatK enc k xs.toArray).size := by rw [Go.Sort.size_flatK]; simpa using hi
    have := Go.Sort.get_flatK enc k xs.toArray i (by simpa using hi)
    rw [Array.getElem?_toList, Array.getElem?_eq_getElem hs]
    rw [getElem!_pos _ i hs] at this
    rw [this]; simp
  · rw [List.getElem?_eq_none (by simpa using Nat.not_lt.1 hi), List.getElem?_eq_none (by omega)]

theorem handle_at {ρ : Rho} {bid gen n z : Nat} {u : Value} {r : Row} (hu : VRel ρ (.slice (some ⟨bid, 0, some gen⟩) n z) u) (hr : ρ bid gen = some r) : gen % 2 = 0 ∧ ∃ cap, u = .slice (some ⟨r.b, r.o, none⟩) n cap := by
  cases hu with
  | slice _ _ _ r' _ _ o' cap' e1 e2 e3 e4 e5 =>
    rw [hr] at e1; cases e1
    exact ⟨e5, cap', by rw [(e4 rfl).1]⟩
  | slice0 _ _ _ _ _ _ h0 => exact absurd rfl h0
/-- **slices.SortFunc, at elements of k cells, by an order that parts whatever two are not one.** -/
theorem sort_spec {P : Program} {ρ0 : Go.Shelf.Ren} (L : Go.Proofs.SlLaysF0.n6 P ρ0) {f : Nat} (hf : ρ0.f 6 = f) {el : TypeId} {k : Nat} (k0 : k ≠ 0)
    (aE : ∀ w, (isAgg (ρ0.t 24)).run P w = .ok true w) (zE : ∀ w, (Go.sizeOf (ρ0.t 24)).run P w = .ok k w) {enc : α → List Value} (hk : ∀ x, (enc x).length = k) (h1 : ∀ x, ∀ v ∈ enc x, v.oneCell' = true)
    (hpl : ∀ x, (enc x).all (plain 5) = true) (cf : α → α → Int) (hO : Go.Sort.SWO (Go.Proofs.ltOf cf)) (hT : ∀ x y, Go.Proofs.ltOf cf x y = false → Go.Proofs.ltOf cf y x = false → x = y)
    {g : Nat} (eg : ∀ args w, (callFunc g args).run P w = .ok (.enter g args) w) (hcmp : ∀ x y, ACalls P g [.agg (enc x).toArray, .agg (enc y).toArray] AHeap.none fun v _ => v = .int .i64 (cf x y))
    {xs : List α} {v : Hd} {hi h : AHeap} (hio : Heapy h hi [⟨v, el, k, xs.flatMap enc⟩]) (hlen : xs.length < 4611686018427387904) :
    ∃ h', Heapy h h' [⟨v, el, k, (xs.mergeSort fun x y => !(Go.Proofs.ltOf cf) y x).flatMap enc⟩] ∧ ACalls P f [sv v, .func (.func g) #[] #[]] hi (fun v' h'' => v' = .tuple #[] ∧ h'' = h') := by
  subst hf
  have hn : v.n = xs.length := hio.vn 0 rfl hk k0
  have fn_eq : ∀ {ρ : Rho} {u : Value}, VRel ρ (.func (.func g) #[] #[]) u → u = .func (.func g) #[] #[] := fun hu => plain_eq 6 rfl hu
  have two : ∀ {ρ : Rho} {args' : Array Value}, CRel ρ [sv v, .func (.func g) #[] #[]] args'.toList → ∃ u, args' = #[u, .func (.func g) #[] #[]] ∧ VRel ρ (sv v) u := by
    intro ρ args' hA
    obtain ⟨l⟩ := args'
    obtain ⟨hl, hr⟩ := hA
    match l, hl, hr with
    | [a, b], _, hr =>
      exact ⟨a, by rw [fn_eq (hr 1 _ b rfl rfl)], hr 0 _ a rfl rfl⟩
  by_cases hx : xs = []
  · subst hx
    refine ⟨hi, by simpa using hio, ?_⟩
    intro B ρ w args' H hA
    obtain ⟨u, rfl, hu⟩ := two hA
    obtain ⟨va, vn, vz⟩ := v
    simp only [List.length_nil] at hn
    subst hn
    have : ∃ p cap, u = .slice p 0 cap := by
      unfold sv at hu
      cases hu with
      | nilSlice => exact ⟨_, _, rfl⟩
      | slice _ _ _ _ _ _ _ _ => exact ⟨_, _, rfl⟩
      | slice0 _ _ _ _ _ _ _ => exact ⟨_, _, rfl⟩
    obtain ⟨p, cap, rfl⟩ := this
    refine (Go.Proofs.AnyF.slices_SortFunc_none L p cap _ w).mono ?_
    rintro e w' ⟨rfl, rfl⟩
    exact ⟨_, _, ρ, hi, rfl, ⟨rfl, rfl⟩, undef_rel, H, Ext.refl ⟨ρ, hi, _⟩⟩
  · have hpos : 0 < xs.length := List.length_pos_iff.2 hx
    obtain ⟨va, vn, vz⟩ := v
    simp only at hn
    subst hn
    rcases hio.ok _ (List.mem_singleton.2 rfl) with ⟨q1, _⟩ | ⟨bid, gen, rest, q1, q2, q3, q4, q5⟩
    · simp only [Hd.mk.injEq] at q1; omega
    simp only [Hd.mk.injEq, true_and] at q1
    obtain ⟨q6, q7⟩ := q1
    subst q6
    have q8 := q7.symm
    subst q8
    simp only at q3 q2
    have ssz : (xs.mergeSort fun x y => !(Go.Proofs.ltOf cf) y x).length = xs.length := List.length_mergeSort _
    have sl : ∀ ys : List α, (ys.flatMap enc).length = ys.length * k := fun ys => flatMap_length hk ys
    refine ⟨hi.set bid ⟨(xs.mergeSort fun x y => !(Go.Proofs.ltOf cf) y x).flatMap enc ++ rest, gen, false, el⟩, ?_, ?_⟩
    · exact hio.set (k := 0) rfl rfl rest (g' := gen) (n' := xs.length) (fun _ => by rw [sl, ssz]) (fun e => absurd e k0)
    intro B ρ w args' H hA
    obtain ⟨u, rfl, hu⟩ := two hA
    obtain ⟨r, k1, k2, k3, k4⟩ := H.rows bid _ q3
    obtain ⟨hge, cap, rfl⟩ := handle_at hu k1
    have L1 := k2.cells hge
    obtain ⟨cur, e, fz, c1, c2, c3, c4⟩ := L1
    obtain ⟨o0, rfl, csz, ce⟩ := c3 rfl
    simp only [o0, Nat.zero_add] at c2 c4
    have rlt : r.b < w.heap.size := (Array.getElem?_eq_some_iff.1 c1).1
    have hH : Go.Sort.HoldsK enc k w r.b 0 xs.toArray := by
      intro j hj
      have hj' : j < xs.length * k := by simpa using hj
      have g1 := flatMap_get hk xs j hj'
      have g2 : (xs.flatMap enc ++ rest)[j]? = some ((enc xs[j / k]!)[j % k]!) := by
        rw [List.getElem?_append_left (by rw [sl]; exact hj')]; exact g1
      obtain ⟨_, v', b1, b2⟩ := c4 j _ g2
      have hjd : j / k < xs.length := Nat.div_lt_of_lt_mul (by rw [Nat.mul_comm]; exact hj')
      have hp : plain 5 ((enc xs[j / k]!)[j % k]!) = true := by
        have hm : j % k < (enc xs[j / k]!).length := by rw [hk]; exact Nat.mod_lt _ (Nat.pos_of_ne_zero k0)
        rw [getElem!_pos (enc xs[j / k]!) (j % k) hm]
        exact (List.all_eq_true.1 (hpl _)) _ (List.getElem_mem _)
      have ev := plain_eq 5 hp b2
      rw [Go.Sort.get_flatK enc k xs.toArray j (by simpa using hj')]
      constructor
      · unfold World.cell?
        simp only [c1, Option.isSome_none, Nat.zero_add]
        rw [b1, ev]; simp
      · unfold World.frozen?
        simp [c1]
    rw [o0]
    refine (Go.Proofs.AnyQ.slices_SortFunc_total L k aE zE enc hk h1 cf hO g #[] r.b 0 cap xs.toArray w eg (cmpLays_of hpl hcmp r.b 0 _ w) hH rlt (by simpa using hlen) hT).mono ?_
    rintro e' w' ⟨rfl, n, os, rfl⟩
    generalize hys : (xs.mergeSort fun x y => !(Go.Proofs.ltOf cf) y x) = ys
    have yl : ys.length = xs.length := by rw [← hys]; exact ssz
    have hF : (Go.Sort.flatK enc k ys.toArray).toList = ys.flatMap enc := flatK_list hk ys
    generalize hFF : Go.Sort.flatK enc k ys.toArray = F at hF
    have Fs : F.size = xs.length * k := by rw [← hFF, Go.Sort.size_flatK]; simp [yl]
    have hW : Go.Proofs.sortWorldK enc k w r.b 0 n ys.toArray os = { w with heap := (w.heap.modify r.b (Go.Sort.onCells (Go.Sort.putCells id 0 F))) ++ os, drawn := w.drawn + n } := by
      unfold Go.Proofs.sortWorldK Go.Sort.putRowK Go.Sort.putRow Go.Sort.mapBlock Go.Sort.grow Go.Sort.ahead
      rw [hFF]
    rw [hW]
    have other : ∀ b, b < w.heap.size → b ≠ r.b → ((w.heap.modify r.b (Go.Sort.onCells (Go.Sort.putCells id 0 F))) ++ os)[b]? = w.heap[b]? := by
      intro b hb hne
      rw [Array.getElem?_append_left (by simpa using hb), Array.getElem?_modify, if_neg (Ne.symm hne)]
    have here : ((w.heap.modify r.b (Go.Sort.onCells (Go.Sort.putCells id 0 F))) ++ os)[r.b]? = some (.cells (Go.Sort.putCells id 0 F cur) e (0, 0)) := by
      rw [Array.getElem?_append_left (by simpa using rlt), Array.getElem?_modify, if_pos rfl, c1]; rfl
    have FR : FRel B ⟨ρ, hi, w⟩ ρ (fun _ => 0) ⟨[], [], hi⟩ { tmps := #[], defers := [] } w :=
      ⟨H, Ext.refl ⟨ρ, hi, w⟩, H.base, fun k cs h => (by cases h), rfl, fun i v v' h => (by simp at h), rfl⟩
    have hLL : Lies ρ { w with heap := (w.heap.modify r.b (Go.Sort.onCells (Go.Sort.putCells id 0 F))) ++ os, drawn := w.drawn + n } r false (ys.flatMap enc ++ rest) := by
      refine ⟨_, e, (0, 0), here, ?_, fun _ => ⟨o0, rfl, ?_, ce⟩, ?_⟩
      · have : (xs.flatMap enc ++ rest).length ≤ cur.size := c2
        simp only [List.length_append, sl, yl, o0, Nat.zero_add, Go.Sort.putCells, Array.size_mapIdx] at this ⊢
        exact this
      · simp only [Go.Sort.putCells, Array.size_mapIdx]; exact csz
      · intro i v hv
        simp only [o0, Nat.zero_add]
        rw [List.getElem?_append] at hv
        have hlen2 : (xs.flatMap enc ++ rest).length ≤ cur.size := c2
        by_cases hi2 : i < (ys.flatMap enc).length
        · rw [if_pos hi2] at hv
          have hi3 : i < F.size := by rw [Fs]; rw [sl, yl] at hi2; exact hi2
          have hFi : F[i]? = some v := by rw [← Array.getElem?_toList, hF]; exact hv
          have hic : i < cur.size := by simp only [List.length_append, sl] at hlen2; rw [sl, yl] at hi2; omega
          have mem : ∃ y, v ∈ enc y := by
            obtain ⟨y, _, hy⟩ := List.mem_flatMap.1 (List.mem_of_getElem? hv)
            exact ⟨y, hy⟩
          obtain ⟨y, hy⟩ := mem
          refine ⟨h1 y v hy, v, ?_, plain_refl 5 ((List.all_eq_true.1 (hpl y)) v hy)⟩
          unfold Go.Sort.putCells
          rw [Array.getElem?_mapIdx, Array.getElem?_eq_getElem hic, Option.map_some]
          rw [if_pos ⟨Nat.zero_le _, by omega⟩, Nat.sub_zero]
          rw [getElem!_def, hFi]; rfl
        · rw [if_neg hi2] at hv
          have eq : (xs.flatMap enc ++ rest)[i]? = some v := by
            rw [List.getElem?_append, if_neg (by rw [sl]; rw [sl, yl] at hi2; exact hi2)]
            rw [sl] at hv ⊢; rw [yl] at hv; exact hv
          obtain ⟨a1, v', a2, a3⟩ := c4 i v eq
          refine ⟨a1, v', ?_, a3⟩
          unfold Go.Sort.putCells
          rw [Array.getElem?_mapIdx, a2, Option.map_some, if_neg]
          rw [sl, yl] at hi2; rw [Fs]; omega
    have FC := (FR.change (w' := { w with heap := (w.heap.modify r.b (Go.Sort.onCells (Go.Sort.putCells id 0 F))) ++ os, drawn := w.drawn + n }) q3 rfl k1 rfl rfl rfl ⟨Nat.le_add_right _ _, by simp⟩ other (g := gen) (Nat.le_refl _) (r' := r) (.inl rfl) (.inr k1) (cells := ys.flatMap enc ++ rest) (LiesG.of hLL hge)).1
    have ee : r.e = el := (k4 rfl).2
    rw [ee] at FC
    exact ⟨_, _, _, _, rfl, ⟨rfl, rfl⟩, undef_rel, FC.heap, FC.ext⟩
end
/-! Orders by several numbers, one behind the other. -/
def cmpI (a b : Int) : Int := if a < b then -1 else if b < a then 1 else 0
def cmpL : List Int → List Int → Int
  | a :: r, b :: t => if cmpI a b = 0 then cmpL r t else cmpI a b
  | _, _ => 0
theorem cmpL_cons (a b : Int) (r t : List Int) : cmpL (a :: r) (b :: t) = if cmpI a b = 0 then cmpL r t else cmpI a b := rfl
theorem cmpI_cases (a b : Int) : (a < b ∧ cmpI a b = -1) ∨ (b < a ∧ cmpI a b = 1) ∨ (a = b ∧ cmpI a b = 0) := by
  unfold cmpI
  by_cases h : a < b
  · exact .inl ⟨h, by rw [if_pos h]⟩
  · by_cases k : b < a
    · exact .inr (.inl ⟨k, by rw [if_neg h, if_pos k]⟩)
    · exact .inr (.inr ⟨by omega, by rw [if_neg h, if_neg k]⟩)
theorem cmpL_self : ∀ x : List Int, cmpL x x = 0
  | [] => rfl
  | a :: r => by
    unfold cmpL
    rcases cmpI_cases a a with ⟨h, _⟩ | ⟨h, _⟩ | ⟨_, e⟩
    · omega
    · omega
    · rw [if_pos e]; exact cmpL_self r
theorem cmpL_trans : ∀ x y z : List Int, x.length = y.length → y.length = z.length → cmpL x y < 0 → cmpL y z < 0 → cmpL x z < 0
  | [], [], [], _, _, h, _ => h
  | a :: r, b :: t, c :: u, h1, h2, h, k => by
    have ih := cmpL_trans r t u (by simpa using h1) (by simpa using h2)
    rw [cmpL_cons] at h k ⊢
    rcases cmpI_cases a b with ⟨p, e⟩ | ⟨p, e⟩ | ⟨p, e⟩ <;> rcases cmpI_cases b c with ⟨p', e'⟩ | ⟨p', e'⟩ | ⟨p', e'⟩ <;> rcases cmpI_cases a c with ⟨p2, e2⟩ | ⟨p2, e2⟩ | ⟨p2, e2⟩ <;> rw [e] at h <;> rw [e'] at k <;> rw [e2] <;> simp at h k ⊢ <;> first | omega | exact ih h k | (have := ih (by omega) (by omega); omega)
theorem cmpL_ntrans : ∀ x y z : List Int, x.length = y.length → y.length = z.length → ¬ cmpL x y < 0 → ¬ cmpL y z < 0 → ¬ cmpL x z < 0
  | [], [], [], _, _, h, _ => h
  | a :: r, b :: t, c :: u, h1, h2, h, k => by
    have ih := cmpL_ntrans r t u (by simpa using h1) (by simpa using h2)
    rw [cmpL_cons] at h k ⊢
    rcases cmpI_cases a b with ⟨p, e⟩ | ⟨p, e⟩ | ⟨p, e⟩ <;> rcases cmpI_cases b c with ⟨p', e'⟩ | ⟨p', e'⟩ | ⟨p', e'⟩ <;> rcases cmpI_cases a c with ⟨p2, e2⟩ | ⟨p2, e2⟩ | ⟨p2, e2⟩ <;> rw [e] at h <;> rw [e'] at k <;> rw [e2] <;> simp at h k ⊢ <;> first | omega | (have := ih (by omega) (by omega); omega)
theorem cmpL_tot : ∀ x y : List Int, x.length = y.length → ¬ cmpL x y < 0 → ¬ cmpL y x < 0 → x = y
  | [], [], _, _, _ => rfl
  | a :: r, b :: t, h1, h, k => by
    have ih := cmpL_tot r t (by simpa using h1)
    rw [cmpL_cons] at h k
    rcases cmpI_cases a b with ⟨p, e⟩ | ⟨p, e⟩ | ⟨p, e⟩ <;> rcases cmpI_cases b a with ⟨p', e'⟩ | ⟨p', e'⟩ | ⟨p', e'⟩ <;> rw [e] at h <;> rw [e'] at k <;> simp at h k <;> first | omega | (rw [p, ih (by omega) (by omega)])
section
variable {α : Type} {key : α → List Int} {n : Nat}
theorem key_swo (hl : ∀ x, (key x).length = n) : Go.Sort.SWO (Go.Proofs.ltOf fun x y => cmpL (key x) (key y)) := by
  have e : ∀ x y, (key x).length = (key y).length := fun x y => by rw [hl, hl]
  refine ⟨fun x => ?_, fun x y z h k => ?_, fun x y z h k => ?_⟩
  · unfold Go.Proofs.ltOf
    simp only [cmpL_self]
    rfl
  · exact decide_eq_true (cmpL_trans _ _ _ (e x y) (e y z) (of_decide_eq_true h) (of_decide_eq_true k))
  · exact decide_eq_false (cmpL_ntrans _ _ _ (e x y) (e y z) (of_decide_eq_false h) (of_decide_eq_false k))
theorem key_tot (hl : ∀ x, (key x).length = n) (hi : ∀ x y, key x = key y → x = y) (x y : α) (h : Go.Proofs.ltOf (fun x y => cmpL (key x) (key y)) x y = false) (k : Go.Proofs.ltOf (fun x y => cmpL (key x) (key y)) y x = false) : x = y :=
  hi x y (cmpL_tot _ _ (by rw [hl, hl]) (of_decide_eq_false h) (of_decide_eq_false k))
end
def orL : List Int → Int
  | a :: r => if a = 0 then orL r else a
  | [] => 0
theorem nil_form {α : Type} {n z : Nat} {l : List α} (h : vlen (sv ⟨none, n, z⟩) = some l.length) : n = 0 ∧ z = 0 ∧ l = [] := by
  unfold sv vlen at h
  split at h
  · rename_i e
    cases e
    exact ⟨rfl, rfl, List.eq_nil_of_length_eq_zero (Option.some.inj h).symm⟩
  · rename_i e; cases e
  · cases h
end Go.Proofs.Ytmncgnjginibiaa.Abs
