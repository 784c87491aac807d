/-
  A law whose call yields true in every abstract state of what came in: it returns true, whatever came in, and nothing that came in has turned.
-/
import Derived.Test.YtimeninncpmaeaaVo
import Derived.ProofKit
import Derived.OpenShut
namespace Go.Proofs.Ytimeninncpmaeaa.Abs
open Go Go.RowKit
set_option linter.unusedVariables false
set_option linter.unusedSimpArgs false

def WTv (P : Program) (s : AHeap) (n : Nat) (t : TypeId) (u : Value) : Prop := match P.underlying t with
  | some (.struct _) => ∃ cs : List Value, u = .agg cs.toArray ∧ WT P s n t cs
  | some (.array _ _) => ∃ cs : List Value, u = .agg cs.toArray ∧ WT P s n t cs
  | _ => WT P s n t [u]
theorem WTv.mono {P : Program} {s s' : AHeap} (h : s.sub s') {n : Nat} {t : TypeId} {u : Value} (hw : WTv P s n t u) : WTv P s' n t u := by
  unfold WTv at hw ⊢
  split at hw
  · obtain ⟨cs, h1, h2⟩ := hw; exact ⟨cs, h1, h2.mono h⟩
  · obtain ⟨cs, h1, h2⟩ := hw; exact ⟨cs, h1, h2.mono h⟩
  · exact WT.mono h n hw
def WTs (P : Program) (s : AHeap) (n : Nat) : List TypeId → List Value → Prop
  | [], [] => True
  | t :: ts, u :: us => WTv P s n t u ∧ WTs P s n ts us
  | _, _ => False
theorem WTs.mono {P : Program} {s s' : AHeap} (h : s.sub s') {n : Nat} : ∀ {ts : List TypeId} {us : List Value}, WTs P s n ts us → WTs P s' n ts us
  | [], [], _ => trivial
  | t :: ts, u :: us, hw => ⟨hw.1.mono h, WTs.mono h hw.2⟩
  | [], _ :: _, hw => hw.elim
  | _ :: _, [], hw => hw.elim

section
variable {P : Program} {W : World} {H : Type} {enc : TypeId × Value → H}

theorem cells_one {v : Value} (h : ∀ cs, v ≠ .agg cs) : v.cells.toList = [v] := by
  cases v with
  | agg cs => exact absurd rfl (h cs)
  | _ => rfl

theorem open_arg {n : Nat} {t : TypeId} {v : Value} {d : DataW H} {ps : List MemPlace} {base : Nat} (hok : okType P n t = true) (hv : Value.okWide P W .any base t v)
    (ht : DataW.Trod enc P W 0 (fun _ => true) true t v d ps) (hwt : ∀ k ∈ d.weights P t, k ≤ reachBytes) {ρ : Rho} {s : AHeap} (h1 : HRel W.heap.size ρ s W) (h2 : s.allRo) :
    ∃ ρ' s' u, Opn W ρ s ρ' s' ∧ VRel ρ' u v ∧ WTv P s' n t u := by
  obtain ⟨fuel, ht⟩ := ht
  obtain ⟨ρ', s', cs, O, C, A, L, T⟩ := open_one (enc := enc) n t v.cells.toList fuel _ hok ht hwt ρ s h1 h2
  have agg : (∃ cs', v = .agg cs') → ∃ ρ' s' u, Opn W ρ s ρ' s' ∧ VRel ρ' u v ∧ ∃ cs : List Value, u = .agg cs.toArray ∧ WT P s' n t cs := by
    rintro ⟨cs', rfl⟩
    refine ⟨ρ', s', .agg cs.toArray, O, .agg _ _ (by simpa [Value.cells] using C.1) ?_, cs, rfl, T⟩
    intro i a b ha hb
    exact C.2 i a b (by simpa using ha) (by simpa [Value.cells] using hb)
  have one : (∀ cs', v ≠ .agg cs') → ∃ ρ' s' u, Opn W ρ s ρ' s' ∧ VRel ρ' u v ∧ WT P s' n t [u] := by
    intro hn
    rw [cells_one hn] at C
    have hl : cs.length = 1 := C.1
    obtain ⟨u, rfl⟩ := List.length_eq_one_iff.1 hl
    exact ⟨ρ', s', u, O, C.2 0 u v rfl rfl, T⟩
  unfold WTv
  unfold Value.okWide at hv
  split at hv
  · rename_i fs hu
    rw [hu]
    obtain ⟨cs', e, _⟩ := hv
    exact agg ⟨cs', e⟩
  · rename_i m e hu
    rw [hu]
    obtain ⟨cs', e, _⟩ := hv
    exact agg ⟨cs', e⟩
  · rename_i h3 h4
    have hn : ∀ cs', v ≠ .agg cs' := by
      rintro cs' rfl
      unfold okType at hok
      cases n with
      | zero => cases hok
      | succ n =>
        simp only at hok
        unfold Cell.okWide Cell.ok at hv
        cases hu : P.underlying t with
        | none => rw [hu] at hok; cases hok
        | some dd => cases dd <;> simp_all
    obtain ⟨ρ', s', u, q1, q2, q3⟩ := one hn
    refine ⟨ρ', s', u, q1, q2, ?_⟩
    cases hu : P.underlying t with
    | none => exact q3
    | some dd => cases dd <;> first | exact q3 | (exact absurd hu (h3 _)) | (exact absurd hu (h4 _ _))

theorem open_args {n : Nat} {base : Nat} : ∀ (ts : List TypeId) (vs : List Value) (ds : List (DataW H)) (ps : List MemPlace), ts.all (okType P n) = true →
    (∀ (j : Nat) t v, ts[j]? = some t → vs[j]? = some v → Value.okWide P W .any base t v) → DataW.TrodAll enc P W 0 (fun _ => true) true ts vs ds ps → (∀ k ∈ DataW.weightsEach P ts ds, k ≤ reachBytes) → ∀ ρ s, HRel W.heap.size ρ s W → s.allRo →
    ∃ ρ' s' us, Opn W ρ s ρ' s' ∧ CRel ρ' us vs ∧ WTs P s' n ts us
  | [], vs, ds, ps, _, _, h, _, ρ, s, h1, h2 => by
    obtain ⟨rfl, rfl, rfl⟩ := ChangeShapes.trodAll_nil h
    exact ⟨ρ, s, [], ⟨Rho.le_refl _, AHeap.sub_refl _, h1, h2⟩, ⟨rfl, by simp⟩, trivial⟩
  | t :: ts, vs, ds, ps, hok, hv, h, hwt, ρ, s, h1, h2 => by
    obtain ⟨v, vs', d, ds', p, q, rfl, rfl, rfl, ht, hr⟩ := ChangeShapes.trodAll_cons h
    simp only [List.all_cons, Bool.and_eq_true] at hok
    obtain ⟨ρ1, s1, u, O1, V1, T1⟩ := open_arg hok.1 (hv 0 t v rfl rfl) ht (fun k hk => hwt k (by simp only [DataW.weightsEach, List.mem_append]; exact .inl hk)) h1 h2
    obtain ⟨ρ2, s2, us, O2, C2, T2⟩ := open_args ts vs' ds' q hok.2 (fun j t v a b => hv (j + 1) t v (by simpa using a) (by simpa using b)) hr (fun k hk => hwt k (by simp only [DataW.weightsEach, List.mem_append]; exact .inr hk)) ρ1 s1 O1.heap O1.ro
    exact ⟨ρ2, s2, u :: us, O1.trans O2, (CRel.one1 (V1.mono O2.le)).append C2, T1.mono O2.sub, T2⟩

/-- What has to be shown of a law. -/
def Law (P : Program) (f : FuncId) (n : Nat) (ts : List TypeId) : Prop :=
  ∀ (s : AHeap) (us : List Value), s.wf → s.allRo → WTs P s n ts us → ACalls P f us s fun v _ => v = .bool true

theorem calls_law {f : FuncId} {n : Nat} {ts : List TypeId} (hok : ts.all (okType P n) = true) (main : Law P f n ts) {base : Nat} {args : Array Value} {ds : List (DataW H)} {ps : List MemPlace}
    (hv : ∀ (j : Nat) t v, ts[j]? = some t → args[j]? = some v → Value.okWide P W .any base t v) (ht : DataW.TrodAll enc P W 0 (fun _ => true) true ts args.toList ds ps) (hwt : ∀ k ∈ DataW.weightsEach P ts ds, k ≤ reachBytes) :
    Calls P f args W fun e w' => e = .returned (.bool true) ∧ Below W.heap.size W w' := by
  have hn : ∀ i, AHeap.none.get i = Option.none := fun i => AHeap.get_ge (Nat.zero_le _)
  have H0 : HRel W.heap.size (fun _ _ => Option.none) AHeap.none W := by
    refine ⟨rfl, Nat.le_refl _, ?_, ?_, ?_⟩
    · intro i b hb; rw [hn] at hb; cases hb
    · intro i g r h; cases h
    · intro i b r i' b' r' hb; rw [hn] at hb; cases hb
  obtain ⟨ρ, s, us, O, C, T⟩ := open_args (enc := enc) ts args.toList ds ps hok (fun j t v a b => hv j t v a (by simpa using b)) ht hwt _ _ H0 (fun i b hb => by rw [hn] at hb; cases hb)
  refine (main s us O.heap.wf O.ro T W.heap.size ρ W args O.heap C).mono ?_
  rintro e w' ⟨v, v', ρ', h', rfl, rfl, hvv, _, X⟩
  refine ⟨by rw [plain_eq 6 (v := .bool true) rfl hvv], X.os, X.tape, X.output, X.grow, fun b hb => X.keep b hb fun i blk r h1 h2 => ?_⟩
  rw [O.ro i blk h1] at h2; cases h2

theorem trodAll_below (hl : laidOutB P = true) {w' : World} (hb : Below W.heap.size W w') : ∀ {ts : List TypeId} {vs : List Value} {ds : List (DataW H)} {ps : List MemPlace},
    ts.all (fun t => P.readableRec t && decide (t < P.types.size)) = true → DataW.TrodAll enc P W 0 (fun _ => true) true ts vs ds ps →
    DataW.TrodAll enc P w' 0 (fun b => decide (b < W.heap.size)) true ts vs ds ps
  | [], vs, ds, ps, _, h => by
    obtain ⟨rfl, rfl, rfl⟩ := ChangeShapes.trodAll_nil h
    exact ChangeShapes.trodAll_mk0
  | t :: ts, vs, ds, ps, hr, h => by
    obtain ⟨v, vs', d, ds', p, q, rfl, rfl, rfl, ht, hrest⟩ := ChangeShapes.trodAll_cons h
    simp only [List.all_cons, Bool.and_eq_true, decide_eq_true_eq] at hr
    refine ⟨_, _, Below.trod hl hr.1.1 hr.1.2 ht hb ?_, trodAll_below hl hb hr.2 hrest, rfl⟩
    obtain ⟨m, hm⟩ := ht
    exact DataW.trod_lt m _ _ _ hm
end

/-- The other way: what a closed run gives to a walk in the model. -/
theorem calls_of_none {P : Program} {f : FuncId} {b : Bool} (h : ACalls P f [] AHeap.none fun v _ => v = .bool b) (w : World) : Calls P f #[] w fun e w' => e = .returned (.bool b) ∧ Below w.heap.size w w' := by
  have hn : ∀ i, AHeap.none.get i = Option.none := fun i => AHeap.get_ge (Nat.zero_le _)
  have H0 : HRel w.heap.size (fun _ _ => Option.none) AHeap.none w := by
    refine ⟨rfl, Nat.le_refl _, ?_, ?_, ?_⟩
    · intro i b hb; rw [hn] at hb; cases hb
    · intro i g r h; cases h
    · intro i b r i' b' r' hb; rw [hn] at hb; cases hb
  refine (h w.heap.size _ w #[] H0 ⟨rfl, by simp⟩).mono ?_
  rintro e w' ⟨v, v', ρ', h', rfl, rfl, hvv, _, X⟩
  refine ⟨by rw [plain_eq 6 (v := .bool b) rfl hvv], X.os, X.tape, X.output, X.grow, fun c hc => X.keep c hc fun i blk r h1 h2 => ?_⟩
  rw [hn] at h1; cases h1
end Go.Proofs.Ytimeninncpmaeaa.Abs
