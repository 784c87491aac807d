/-
  Calls and code on abstract states.
-/
import Derived.Scope
import Derived.Test.YtimeninncpmaeaaVf
namespace Go.Proofs.Ytimeninncpmaeaa.Abs
open Go
set_option linter.unusedVariables false
set_option linter.unusedSimpArgs false

/-- What is asked of a program, once. -/
structure Good (P : Program) : Prop where
  mixed : P.follows .mixedOrders = true
  names : ∀ (f : Nat) (fn : Func), P.funcs[f]? = some fn → (fn.name == "runtime.NumGoroutine") = false

def ACalls (P : Program) (f : FuncId) (args : List Value) (h : AHeap) (R : Value → AHeap → Prop) : Prop :=
  ∀ (B : Nat) (ρ : Rho) (w : World) (args' : Array Value), HRel B ρ h w → CRel ρ args args'.toList →
    Calls P f args' w fun e w' => ∃ v v' ρ' h', e = .returned v' ∧ R v h' ∧ VRel ρ' v v' ∧ HRel B ρ' h' w' ∧ Ext ⟨ρ, h, w⟩ ρ' h' w'

def AWp (P : Program) (c : Code) (Q : Exit → AS → Prop) (s : AS) : Prop :=
  ∀ (B : Nat) (E : Ent) (ρ : Rho) (lam : Nat → Nat) (a : Act) (w : World), FRel B E ρ lam s a w →
    c.wp P (fun e a' w' => ∃ s' ρ' lam', Q e s' ∧ FRel B E ρ' lam' s' a' w') a w

def callArgs (P : Program) (o : Oper) (t : List Value) : Option (FuncId × List Value) :=
  match o.op with
  | .call c => match c.callee with
    | .value fx => match aev t fx with
      | .func (.func g) first cap => match (P.funcs[g]?).bind (·.body) with
        | some _ => match (first.toList ++ c.args.toList.map (aev t) ++ cap.toList).all okPart with
          | true => some (g, first.toList ++ c.args.toList.map (aev t) ++ cap.toList)
          | false => none
        | none => none
      | _ => none
    | _ => none
  | _ => none

def AOp (P : Program) (L : List Nat) (o : Oper) (K : AS → Prop) (s : AS) : Prop :=
  (∃ s', aStep P L o s = some s' ∧ K s') ∨
  ∃ g args, callArgs P o s.t = some (g, args) ∧ ACalls P g args s.h fun v h' => K ({ s with h := h' }.put o.dst v)

def awanted (ops : Array Oper) (o : Oper) (t : List Value) : Option Bool :=
  match o.guard with
  | none => some true
  | some (j, want) => match (ops[j]?).bind (·.dst) with
    | none => some false
    | some d => match t[d]? with
      | some (.bool b) => some (b == want)
      | some (.tuple vs) => match vs.isEmpty with
        | true => some false
        | false => none
      | none => some false
      | _ => none

def AOps (P : Program) (L : List Nat) (ops : Array Oper) : List Nat → (AS → Prop) → AS → Prop
  | [], K, s => K s
  | i :: r, K, s => match ops[i]? with
    | none => AOps P L ops r K s
    | some o => match awanted ops o s.t with
      | some true => AOp P L o (AOps P L ops r K) s
      | some false => AOps P L ops r K (s.put o.dst undef)
      | none => False

def isBoxOp (o : Oper) : Option Tmp := match o.op with
  | .alloc _ => o.dst
  | .box _ _ => o.dst
  | _ => none
def prepL : List Oper → AS → AS
  | [], s => s
  | o :: r, s => match isBoxOp o with
    | some d => prepL r (kill s d)
    | none => prepL r s

def AThen (next : AS → Prop) (Q : Exit → AS → Prop) : Exit → AS → Prop
  | .normal, s => next s
  | e, s => Q e s
/-- An end that is no jump. -/
def noGotoB : Exit → Bool
  | .goto _ => false
  | _ => true
def AScope (Q : Exit → AS → Prop) (e : Exit) (s : AS) : Prop := noGotoB e = true ∧ Q e s
def ABlk (id : Nat) (Q : Exit → AS → Prop) : Exit → AS → Prop
  | .exit id', s => if id' = id then Q .normal s else Q (.exit id') s
  | e, s => Q e s

section
variable {P : Program} {B : Nat} {E : Ent} {ρ : Rho} {lam : Nat → Nat} {s : AS} {a : Act} {w : World}

theorem FRel.after (F : FRel B E ρ lam s a w) {ρ' : Rho} {h' : AHeap} {w' : World} (H : HRel B ρ' h' w') (X : Ext ⟨ρ, s.h, w⟩ ρ' h' w') : FRel B E ρ' lam { s with h := h' } a w' := by
  refine ⟨H, F.ext.trans X, F.base, ?_, F.size, fun i v v' h1 h2 => (F.tmps i v v' h1 h2).mono X.le, F.defers⟩
  intro k cs hk
  have Lk := F.locs k cs hk
  obtain ⟨e, Le⟩ := Lk.lies
  have hlt : lam k < w.heap.size := Le.lt
  refine ⟨⟨e, Le.keep (X.keep _ hlt fun i blk r h1 h2 h3 => Lk.row i blk r h1 h2 h3) X.le⟩, Lk.mine, ?_, Lk.other⟩
  intro i blk r h1 h2 h3 heq
  obtain ⟨i0, b0, r0, q1, q2, q3, q4⟩ := X.rows i blk r h1 h2 h3 (by rw [heq]; exact hlt)
  exact Lk.row i0 b0 r0 q1 q2 q3 (q4.trans heq)

theorem callArgs_sound (G : Good P) (F : FRel B E ρ lam s a w) {o : Oper} {g : FuncId} {args : List Value} (h : callArgs P o s.t = some (g, args)) :
    ∃ args' : Array Value, (execOp a.eval o).run P w = .ok (.enter g args') w ∧ CRel ρ args args'.toList := by
  unfold callArgs at h
  split at h
  · rename_i c hop
    split at h
    · rename_i fx hcal
      split at h
      · rename_i g' first cap hfx
        split at h
        · rename_i body hbody
          split at h
          · rename_i hall
            simp only [Option.some.injEq, Prod.mk.injEq] at h
            obtain ⟨rfl, rfl⟩ := h
            have hv := (F.eval fx)
            rw [hfx] at hv
            generalize hu : a.eval fx = u at hv
            cases hv with
            | mem hv =>
              cases hv with
              | func _ _ first' _ cap' h1 h2 h3 h4 =>
                refine ⟨first' ++ c.args.map a.eval ++ cap', ?_, ?_⟩
                · obtain ⟨fn, hfn, hb⟩ := Option.bind_eq_some_iff.1 hbody
                  have hnm : ¬ fn.name = "runtime.NumGoroutine" := by simpa using G.names g' fn hfn
                  obtain ⟨dst, op, type, pos, after, guard⟩ := o
                  simp only at hop
                  subst hop
                  simp [execOp, resolve, hcal, hu, Deferred.ofValue, invoke, callFunc, hfn, hb, hnm]
                · rw [List.all_eq_true] at hall
                  refine ⟨by simp [h1, h2], ?_⟩
                  intro i v v' hi hi'
                  simp only [Array.toList_append, Array.toList_map] at hi'
                  rw [List.append_assoc] at hi hi'
                  rw [List.getElem?_append] at hi hi'
                  have e1 : first'.toList.length = first.toList.length := by simpa using h1.symm
                  rw [e1] at hi'
                  by_cases c1 : i < first.toList.length
                  · rw [if_pos c1] at hi hi'
                    exact h3 i v v' (by simpa using hi) (by simpa using hi')
                  · rw [if_neg c1] at hi hi'
                    rw [List.getElem?_append] at hi hi'
                    simp only [List.length_map] at hi hi'
                    by_cases c2 : i - first.toList.length < c.args.toList.length
                    · rw [if_pos c2] at hi hi'
                      rw [List.getElem?_map] at hi hi'
                      cases hx : c.args.toList[i - first.toList.length]? with
                      | none => rw [hx] at hi; cases hi
                      | some x =>
                        rw [hx] at hi hi'
                        simp only [Option.map_some, Option.some.injEq] at hi hi'
                        subst hi; subst hi'
                        have hok := hall (aev s.t x) (by
                          have : aev s.t x ∈ c.args.toList.map (aev s.t) := List.mem_map.2 ⟨x, List.mem_of_getElem? hx, rfl⟩
                          simp only [List.append_assoc, List.mem_append]; exact .inr (.inl this))
                        exact (F.eval x).vrel (okPart_loc hok)
                    · rw [if_neg c2] at hi hi'
                      exact h4 _ v v' (by simpa using hi) (by simpa using hi')
          · cases h
        · cases h
      · cases h
    · cases h
  · cases h

theorem AOp_sound (G : Good P) (F : FRel B E ρ lam s a w) {L : List Nat} {o : Oper} {K : AS → Prop} {K' : Act → World → Prop} {Q : Exit → Act → World → Prop}
    (hK : ∀ s' ρ' lam' a' w', K s' → FRel B E ρ' lam' s' a' w' → K' a' w') (h : AOp P L o K s) : o.wp P a w K' Q := by
  rcases h with ⟨s', h1, h2⟩ | ⟨g, args, h1, h2⟩
  · obtain ⟨nx, w', ρ', lam', u, hr, hn, F'⟩ := aStep_sound F h1
    unfold Oper.wp
    rw [hr]
    rcases hn with rfl | ⟨rfl, rfl⟩
    · exact hK _ _ _ _ _ h2 F'
    · exact hK _ _ _ _ _ h2 F'
  · obtain ⟨args', hr, hc⟩ := callArgs_sound G F h1
    unfold Oper.wp
    rw [hr]
    simp only [Oper.upon]
    refine (h2 B ρ w args' F.heap hc).mono ?_
    rintro e w' ⟨v, v', ρ', h', rfl, hR, hv, H, X⟩
    exact hK _ _ _ _ _ hR ((F.after H X).put o.dst (.mem hv))

theorem awanted_sound (F : FRel B E ρ lam s a w) {ops : Array Oper} {o : Oper} {b : Bool} (h : awanted ops o s.t = some b) : Region.wanted o (yielded ops a.tmps) = b := by
  unfold awanted at h
  unfold Region.wanted
  split at h
  · rename_i hg
    cases h; rw [hg]
  · rename_i j want hg
    rw [hg]
    simp only
    unfold yielded
    split at h
    · rename_i hd
      cases h
      rw [hd]; rfl
    · rename_i d hd
      rw [hd]
      simp only [Option.bind_some]
      have rel : ∀ v, s.t[d]? = some v → ∃ v', a.tmps[d]? = some v' ∧ TRel s.l lam ρ v v' := by
        intro v hv
        have hlt : d < a.tmps.size := by rw [F.size]; exact (List.getElem?_eq_some_iff.1 hv).1
        exact ⟨a.tmps[d], by simp [hlt], F.tmps d v _ hv (by simp [hlt])⟩
      split at h
      · rename_i b' hv
        cases h
        obtain ⟨v', h1, h2⟩ := rel _ hv
        have := h2.plain_eq (n := 0) rfl
        subst this
        rw [h1]
        cases b' <;> cases want <;> rfl
      · rename_i vs hv
        split at h
        · rename_i he
          cases h
          obtain ⟨v', h1, h2⟩ := rel _ hv
          have hvs : vs = #[] := by simpa using he
          subst hvs
          cases h2 with
          | mem h2 =>
            cases h2 with
            | tuple _ c' q1 q2 => rw [h1]; rfl
        · cases h
      · rename_i hv
        cases h
        have hge : s.t.length ≤ d := by simpa using hv
        rw [Array.getElem?_eq_none (by rw [F.size]; exact hge)]
        rfl
      · cases h

theorem AOps_sound (G : Good P) {L : List Nat} {ops : Array Oper} {K : AS → Prop} {Q : Exit → Act → World → Prop}
    (hK : ∀ s' ρ' lam' a' w', K s' → FRel B E ρ' lam' s' a' w' → Q .normal a' w') : ∀ (l : List Nat) (s : AS) (ρ : Rho) (lam : Nat → Nat) (a : Act) (w : World), FRel B E ρ lam s a w → AOps P L ops l K s → wpOps P ops Q l a w
  | [], s, ρ, lam, a, w, F, h => hK _ _ _ _ _ h F
  | i :: r, s, ρ, lam, a, w, F, h => by
    simp only [AOps] at h
    simp only [wpOps]
    cases ho : ops[i]? with
    | none => rw [ho] at h; exact AOps_sound G hK r s ρ lam a w F h
    | some o =>
      rw [ho] at h
      simp only at h ⊢
      split at h
      · rename_i hw
        rw [awanted_sound F hw]
        simp only [if_true]
        exact .inl (AOp_sound G F (fun s' ρ' lam' a' w' hk F' => AOps_sound G hK r s' ρ' lam' a' w' F' hk) h)
      · rename_i hw
        rw [awanted_sound F hw]
        simp only [Bool.false_eq_true, if_false]
        exact AOps_sound G hK r _ ρ lam _ w (F.put o.dst (.mem undef_rel)) h
      · exact h.elim

theorem prep_rel : ∀ (l : List Oper) (s : AS), FRel B E ρ lam s a w → FRel B E ρ lam (prepL l s) a w
  | [], s, F => F
  | o :: r, s, F => by
    simp only [prepL]
    split
    · exact prep_rel r _ (F.kill _)
    · exact prep_rel r s F

theorem awp_region (G : Good P) (L : List Nat) {id : Nat} {ops : Array Oper} {Q : Exit → AS → Prop} (h : AOps P L ops (List.range ops.size) (Q .normal) (prepL ops.toList s)) : AWp P (.region id ops false) Q s := by
  intro B E ρ lam a w F
  refine wp_region (AOps_sound G (Q := fun e a' w' => ∃ s' ρ' lam', Q e s' ∧ FRel B E ρ' lam' s' a' w') ?_ _ _ ρ lam a w (prep_rel _ _ F) h)
  intro s' ρ' lam' a' w' hk F'
  exact ⟨s', ρ', lam', hk, F'⟩

theorem awp_mono {c : Code} {Q Q' : Exit → AS → Prop} (h : AWp P c Q s) (hq : ∀ e s, Q e s → Q' e s) : AWp P c Q' s :=
  fun B E ρ lam a w F => wp_mono (h B E ρ lam a w F) fun e a' w' ⟨s', ρ', lam', h1, h2⟩ => ⟨s', ρ', lam', hq _ _ h1, h2⟩
theorem awp_weak {c : Code} {Q : Exit → AS → Prop} {s s2 : AS} (hw : ∀ B E ρ lam a w, FRel B E ρ lam s a w → ∃ ρ' lam', FRel B E ρ' lam' s2 a w) (h : AWp P c Q s2) : AWp P c Q s :=
  fun B E ρ lam a w F => let ⟨ρ', lam', F'⟩ := hw B E ρ lam a w F; h B E ρ' lam' a w F'
theorem awp_skip {Q : Exit → AS → Prop} (h : Q .normal s) : AWp P .skip Q s := fun B E ρ lam a w F => wp_skip ⟨s, ρ, lam, h, F⟩
theorem awp_label {l : Nat} {Q : Exit → AS → Prop} (h : Q .normal s) : AWp P (.label l) Q s := fun B E ρ lam a w F => wp_label ⟨s, ρ, lam, h, F⟩
theorem awp_exit {id : Nat} {Q : Exit → AS → Prop} (h : Q (.exit id) s) : AWp P (.exit id) Q s := fun B E ρ lam a w F => wp_exit ⟨s, ρ, lam, h, F⟩
theorem awp_ret {Q : Exit → AS → Prop} (h : Q .ret s) : AWp P .ret Q s := fun B E ρ lam a w F => wp_ret ⟨s, ρ, lam, h, F⟩
theorem awp_seq {x y : Code} {Q : Exit → AS → Prop} (h : AWp P x (AThen (AWp P y Q) Q) s) : AWp P (.seq x y) Q s := by
  intro B E ρ lam a w F
  refine wp_seq (wp_mono (h B E ρ lam a w F) ?_)
  rintro e a' w' ⟨s', ρ', lam', h1, h2⟩
  cases e with
  | normal => exact h1 B E ρ' lam' a' w' h2
  | _ => exact ⟨s', ρ', lam', h1, h2⟩
theorem awp_cond {c : Operand} {x y : Code} {b : Bool} {Q : Exit → AS → Prop} (hc : aev s.t c = .bool b) (ht : b = true → AWp P x Q s) (hf : b = false → AWp P y Q s) : AWp P (.cond c x y) Q s := by
  intro B E ρ lam a w F
  have hv := F.eval c
  rw [hc] at hv
  have := hv.plain_eq (n := 0) rfl
  cases b with
  | true => exact wp_cond this (ht rfl B E ρ lam a w F)
  | false => exact wp_cond this (hf rfl B E ρ lam a w F)
theorem awp_scope {c : Code} {Q : Exit → AS → Prop} (h : AWp P c (AScope Q) s) : AWp P (.scope c) Q s := by
  intro B E ρ lam a w F
  refine wp_scope_straight (wp_mono (h B E ρ lam a w F) ?_)
  rintro e a' w' ⟨s', ρ', lam', ⟨h0, h1⟩, h2⟩
  cases e with
  | goto l => cases h0
  | _ => exact ⟨s', ρ', lam', h1, h2⟩
theorem awp_block {id : Nat} {c : Code} {Q : Exit → AS → Prop} (h : AWp P c (ABlk id Q) s) : AWp P (.block id c) Q s := by
  intro B E ρ lam a w F
  refine wp_block (wp_mono (h B E ρ lam a w F) ?_)
  rintro e a' w' ⟨s', ρ', lam', h1, h2⟩
  cases e with
  | exit id' =>
    simp only [ABlk] at h1
    simp only [Exit.inBlock]
    split at h1
    · rename_i e; rw [if_pos e]; exact ⟨s', ρ', lam', h1, h2⟩
    · rename_i e; rw [if_neg e]; exact ⟨s', ρ', lam', h1, h2⟩
  | _ => exact ⟨s', ρ', lam', h1, h2⟩

theorem awp_loop_n {c : Code} {Q : Exit → AS → Prop} (I : Nat → AS → Prop) (n : Nat) (h0 : I n s) (round : ∀ k s, I k s → AWp P c (AThen (fun s' => ∃ k', k' < k ∧ I k' s') Q) s) : AWp P (.loop c) Q s := by
  intro B E ρ lam a w F b k cs
  have key : ∀ n s, I n s → ∀ ρ lam a w, FRel B E ρ lam s a w →
      ∃ e a' w', (∃ s' ρ' lam', Q e s' ∧ FRel B E ρ' lam' s' a' w') ∧ Arrives P (lone (b.at a (.code c :: .inLoop c :: k)) cs w) b k cs e a' w' := by
    intro n
    induction n using Nat.strongRecOn with
    | _ n ih =>
      intro s hI ρ lam a w F
      obtain ⟨e, a₁, w₁, ⟨s', ρ', lam', hq, F'⟩, harr⟩ := round n s hI B E ρ lam a w F b (.inLoop c :: k) cs
      cases e with
      | normal =>
        obtain ⟨k', hlt, hI₁⟩ := hq
        obtain ⟨e₂, a₂, w₂, hq₂, harr₂⟩ := ih k' hlt s' hI₁ ρ' lam' a₁ w₁ F'
        exact ⟨e₂, a₂, w₂, hq₂, .of_steps (Steps.trans harr (.one step_inLoop)) harr₂⟩
      | exit id => exact ⟨_, a₁, w₁, ⟨s', ρ', lam', hq, F'⟩, .pass (x := .inLoop c) rfl (fun _ _ => .inl (by simp)) harr⟩
      | goto l => exact ⟨_, a₁, w₁, ⟨s', ρ', lam', hq, F'⟩, .pass (x := .inLoop c) rfl (fun _ _ => .inl (by simp)) harr⟩
      | ret => exact ⟨_, a₁, w₁, ⟨s', ρ', lam', hq, F'⟩, .pass (x := .inLoop c) rfl (fun _ _ => .inl (by simp)) harr⟩
      | panic ch => exact ⟨_, a₁, w₁, ⟨s', ρ', lam', hq, F'⟩, .pass (x := .inLoop c) rfl (fun _ _ => .inl (by simp)) harr⟩
      | outgrown => exact ⟨_, a₁, w₁, ⟨s', ρ', lam', hq, F'⟩, .pass (x := .inLoop c) rfl (fun _ _ => .inl (by simp)) harr⟩
  obtain ⟨e, a', w', hq, harr⟩ := key n s h0 ρ lam a w F
  exact ⟨e, a', w', hq, .of_steps (.one step_loop) harr⟩
theorem awp_loop {c : Code} {Q : Exit → AS → Prop} (I : AS → Prop) (μ : AS → Nat) (h0 : I s) (round : ∀ s, I s → AWp P c (AThen (fun s' => I s' ∧ μ s' < μ s) Q) s) : AWp P (.loop c) Q s :=
  awp_loop_n (fun k s => I s ∧ μ s = k) (μ s) ⟨h0, rfl⟩ fun k s ⟨h1, h2⟩ => awp_mono (round s h1) fun e s' hq => by
    cases e with
    | normal => exact ⟨μ s', h2 ▸ hq.2, hq.1, rfl⟩
    | _ => exact hq

/-! ### A function -/
def aRes (P : Program) (s : AS) : ResultVar → Option Value
  | .tmp t => match isLoc (aev s.t (.tmp t)) with
    | true => none
    | false => some (aev s.t (.tmp t))
  | .cell x t => match aev s.t (.tmp x) with
    | .pointer (some p) => aLoad P t s (.pointer (some p))
    | _ => none
def aResL (P : Program) (s : AS) : List ResultVar → Option (List Value)
  | [] => some []
  | r :: rs => match aRes P s r with
    | some v => match aResL P s rs with
      | some vs => some (v :: vs)
      | none => none
    | none => none
def aResults (P : Program) (fn : Func) (s : AS) : Option Value :=
  match aResL P s fn.results.toList with
  | some [v] => some v
  | some vs => some (.tuple vs.toArray)
  | none => none
def APost (P : Program) (fn : Func) (R : Value → AHeap → Prop) : Exit → AS → Prop
  | .normal, s => ∃ v, aResults P fn s = some v ∧ R v s.h
  | .ret, s => ∃ v, aResults P fn s = some v ∧ R v s.h
  | _, _ => False

def resOne (tmps : Array Value) : ResultVar → Sem Value
  | .tmp t => pure (tmps.getD t undef)
  | .cell x t => do loadVar t (← asAddr (tmps.getD x undef))

theorem aRes_sound (F : FRel B E ρ lam s a w) {r : ResultVar} {v : Value} (h : aRes P s r = some v) :
    ∃ v', (resOne a.tmps r).run P w = .ok v' w ∧ VRel ρ v v' := by
  unfold aRes at h
  split at h
  · rename_i t
    split at h
    · cases h
    · rename_i hl
      cases h
      exact ⟨_, rfl, (F.eval (.tmp t)).vrel hl⟩
  · rename_i x t
    split at h
    · rename_i p hp
      have hv := F.eval (.tmp x)
      rw [hp] at hv
      obtain ⟨v', h1, h2⟩ := aLoad_sound (P := P) F hv h
      refine ⟨v', ?_, h2⟩
      simp only [Act.eval] at hv h1
      show ((do loadVar t (← asAddr (a.tmps.getD x undef))) : Sem Value).run P w = _
      generalize hu : a.tmps.getD x undef = u at hv h1 ⊢
      simp only [Sem.run_bind]
      cases hv with
      | mem hv => cases hv; simpa [Instr.loadAt, Instr.sureAddr, asAddr] using h1
      | loc k off hk => simpa [Instr.loadAt, Instr.sureAddr, asAddr] using h1
    · cases h
theorem aResL_sound (F : FRel B E ρ lam s a w) : ∀ (rs : List ResultVar) (vs : List Value), aResL P s rs = some vs →
    ∃ vs', (rs.mapM (resOne a.tmps)).run P w = .ok vs' w ∧ CRel ρ vs vs'
  | [], vs, h => by
    simp only [aResL, Option.some.injEq] at h
    subst h
    exact ⟨[], by simp, rfl, by simp⟩
  | r :: rs, vs, h => by
    simp only [aResL] at h
    split at h
    · rename_i v hv
      split at h
      · rename_i us hus
        cases h
        obtain ⟨v', h1, h2⟩ := aRes_sound F hv
        obtain ⟨us', h3, h4⟩ := aResL_sound F rs us hus
        refine ⟨v' :: us', ?_, by simp [h4.1], ?_⟩
        · simp only [List.mapM_cons, Sem.run_bind, h1, Result.andThen_ok, h3, Sem.run_pure]
        · intro i x x' hx hx'
          cases i with
          | zero => simp at hx hx'; subst hx; subst hx'; exact h2
          | succ i => exact h4.2 i x x' (by simpa using hx) (by simpa using hx')
      · cases h
    · cases h

theorem acalls_of_awp {f : FuncId} {fn : Func} {c : Code} {args : List Value} {h : AHeap} {R : Value → AHeap → Prop} (hf : P.funcs[f]? = some fn) (hb : fn.body = some c)
    (hw : AWp P c (APost P fn R) { t := args ++ List.replicate (fn.ntmps - args.length) undef, l := [], h := h }) : ACalls P f args h R := by
  intro B ρ w args' H hc
  refine calls_of_wp hf hb ?_
  have hsz : args'.size = args.length := by simpa using hc.1.symm
  have F : FRel B ⟨ρ, h, w⟩ ρ (fun _ => 0) { t := args ++ List.replicate (fn.ntmps - args.length) undef, l := [], h := h } { tmps := args' ++ Array.replicate (fn.ntmps - args'.size) undef, defers := [] } w := by
    refine ⟨H, Ext.refl _, H.base, fun k cells hk => by simp [lget] at hk, by simp [hsz], ?_, rfl⟩
    intro i v v' h1 h2
    simp only at h1 h2
    rw [List.getElem?_append] at h1
    rw [Array.getElem?_append, hsz] at h2
    by_cases hi : i < args.length
    · rw [if_pos hi] at h1 h2
      exact .mem (hc.2 i v v' h1 (by simpa using h2))
    · rw [if_neg hi] at h1 h2
      simp only [List.getElem?_replicate] at h1
      simp only [Array.getElem?_replicate] at h2
      split at h1
      · rename_i hlt
        rw [if_pos hlt] at h2
        cases h1; cases h2
        exact .mem undef_rel
      · cases h1
  refine wp_mono (hw B ⟨ρ, h, w⟩ ρ _ _ w F) ?_
  rintro e a' w' ⟨s', ρ', lam', hq, F'⟩
  have fin : (∃ v, aResults P fn s' = some v ∧ R v s'.h) → a'.defers = [] ∧ ∃ v, (results fn a'.tmps).run P w' = .ok v w' ∧ ∃ v0 v' ρ' h', Ending.returned v = .returned v' ∧ R v0 h' ∧ VRel ρ' v0 v' ∧ HRel B ρ' h' w' ∧ Ext ⟨ρ, h, w⟩ ρ' h' w' := by
    rintro ⟨v, hv, hR⟩
    refine ⟨F'.defers, ?_⟩
    unfold aResults at hv
    have main : ∀ vs, aResL P s' fn.results.toList = some vs → ∃ vs', (fn.results.mapM (resOne a'.tmps)).run P w' = .ok vs' w' ∧ CRel ρ' vs vs'.toList := by
      intro vs hvs
      obtain ⟨vs', h1, h2⟩ := aResL_sound F' _ _ hvs
      refine ⟨vs'.toArray, ?_, by simpa using h2⟩
      rw [Array.mapM_eq_mapM_toList]
      simp only [Sem.run_map]
      rw [h1]; rfl
    split at hv
    · rename_i u hu
      cases hv
      obtain ⟨vs', h1, h2⟩ := main _ hu
      have hs : vs'.size = 1 := by have := h2.1; simpa using this.symm
      refine ⟨vs'[0], ?_, v, vs'[0], ρ', s'.h, rfl, hR, h2.2 0 _ _ rfl (by simp [hs]), F'.heap, F'.ext⟩
      have hres : results fn a'.tmps = (do let vs ← fn.results.mapM (resOne a'.tmps); pure (if h : vs.size = 1 then vs[0] else .tuple vs)) := rfl
      rw [hres]
      simp only [Sem.run_bind, h1, Result.andThen_ok, hs, dif_pos, Sem.run_pure]
    · rename_i vs hne hu
      cases hv
      obtain ⟨vs', h1, h2⟩ := main _ hu
      have hs : vs'.size ≠ 1 := by
        intro h1'
        have : vs.length = 1 := by rw [h2.1]; simpa using h1'
        obtain ⟨x, rfl⟩ := List.length_eq_one_iff.1 this
        exact hne x rfl
      refine ⟨.tuple vs', ?_, .tuple vs.toArray, .tuple vs', ρ', s'.h, rfl, hR, .tuple _ _ (by simpa using h2.1) (fun i x x' hx hx' => h2.2 i x x' (by simpa using hx) (by simpa using hx')), F'.heap, F'.ext⟩
      have hres : results fn a'.tmps = (do let vs ← fn.results.mapM (resOne a'.tmps); pure (if h : vs.size = 1 then vs[0] else .tuple vs)) := rfl
      rw [hres]
      simp only [Sem.run_bind, h1, Result.andThen_ok, dif_neg hs, Sem.run_pure]
    · cases hv
  cases e with
  | normal => exact fin hq
  | ret => exact fin hq
  | _ => exact hq.elim

theorem ACalls.mono {f : FuncId} {args : List Value} {h : AHeap} {R R' : Value → AHeap → Prop} (hc : ACalls P f args h R) (hr : ∀ v h', R v h' → R' v h') : ACalls P f args h R' :=
  fun B ρ w args' H C => (hc B ρ w args' H C).mono fun e w' ⟨v, v', ρ', h', h1, h2, h3, h4, h5⟩ => ⟨v, v', ρ', h', h1, hr _ _ h2, h3, h4, h5⟩
end
end Go.Proofs.Ytimeninncpmaeaa.Abs
