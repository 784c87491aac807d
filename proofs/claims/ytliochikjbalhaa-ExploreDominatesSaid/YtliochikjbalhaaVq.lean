/-
  A way through a function on abstract states: what is not computed is claimed, and the claims are collected.
-/
import Derived.Test.YtliochikjbalhaaVp
namespace Go.Proofs.Ytliochikjbalhaa.Abs
open Go
set_option linter.unusedVariables false
set_option linter.unusedSimpArgs false

inductive It where
  | g
  | v (v : Value)
  | p (b : Bool)
  | d
  | s
  | m (v : Value) (h : AHeap)
  | c (v : Value) (h : AHeap)
  | n
  | w (it : It)
  | b (b : Bool)
  | l (e : Exit) (s : AS)

/-- Values that are claimed: outright; a choice of which the test is claimed; a division by what is not 0; a shift by what is not below 0. -/
def pClaim (P : Program) (o : Oper) (C : Prop) (s : AS) : It → Option (Value × Prop)
  | .v v => some (v, aVal P o s = some v ∧ C)
  | .p b => match o.op with
    | .pick c x y => match aev s.t c with
      | .bool E => match b with
        | true => some (aev s.t x, E = true ∧ C)
        | false => some (aev s.t y, E = false ∧ C)
      | _ => none
    | _ => none
  | .d => match o.op with
    | .binOp op _ x y _ => match aev s.t x, aev s.t y with
      | .int k a, .int k' c => match decide (k = k') with
        | true => match op with
          | .quo => some (.int k (k.wrap (a.tdiv c)), ¬ (c = 0) ∧ C)
          | .rem => some (.int k (a.tmod c), ¬ (c = 0) ∧ C)
          | _ => none
        | false => none
      | _, _ => none
    | _ => none
  | .s => match o.op with
    | .binOp op _ x y _ => match aev s.t x, aev s.t y with
      | .int k a, .int _ c => match op with
        | .shl => some (.int k (k.wrap (a * 2 ^ (min c.toNat k.bits))), ¬ (c < 0) ∧ C)
        | .shr => some (.int k (a.fdiv (2 ^ (min c.toNat k.bits))), ¬ (c < 0) ∧ C)
        | _ => none
      | _, _ => none
    | _ => none
  | _ => none
theorem dflt_int {P : Program} {o : Oper} {s : AS} {op : BinOp} {t yt : TypeId} {x y : Operand} {k k' : IntKind} {a c : Int} {v : Value} (ho : o.op = .binOp op t x y yt) (hx : aev s.t x = .int k a) (hy : aev s.t y = .int k' c)
    (hop : op ≠ .eql ∧ op ≠ .neq) (hv : ∀ w, pureRun P (binOp op t (.int k a) (.int k' c)) = some w → w = v) (hs : pureRun P (binOp op t (.int k a) (.int k' c)) = some v) (hp : plain 6 v = true) : aVal P o s = some v := by
  have hd : dflt P o s.t = some v := by
    unfold dflt
    have h1 : (o.op.operands.toList.all fun x => plain 6 (aev s.t x)) = true := by
      rw [ho]; simp [Op.operands, hx, hy, plain]
    rw [h1]
    have h2 : pureRun P (execOp (aev s.t) o) = some (.value v) := by
      obtain ⟨dst, oop, type, pos, after, guard⟩ := o
      simp only at ho
      subst ho
      simp only [execOp, hx, hy]
      show pureRun P ((do eqGuard op t x y (.int k a) (.int k' c); binOp op t (.int k a) (.int k' c)) >>= fun z => pure (Next.value z)) = _
      rw [pureRun_bind, pureRun_bind]
      have h3 : pureRun P (eqGuard op t x y (.int k a) (.int k' c)) = some () := by
        unfold eqGuard
        cases op <;> first | rfl | exact absurd rfl hop.1 | exact absurd rfl hop.2
      rw [h3]
      simp only [Option.bind_some, hs]
      rfl
    rw [h2]
    simp only [hp]
  have hb : aBin P op t (.int k a) (.int k' c) = none := by
    cases op <;> first | rfl | exact absurd rfl hop.1 | exact absurd rfl hop.2
  unfold aVal
  rw [ho]
  simp only [hx, hy, hb, hd, orElse']
theorem pClaim_sound {P : Program} {o : Oper} {C C' : Prop} {s : AS} {it : It} {v : Value} (h : pClaim P o C s it = some (v, C')) (hC : C') : C ∧ aVal P o s = some v := by
  cases it with
  | v u =>
    simp only [pClaim, Option.some.injEq, Prod.mk.injEq] at h
    obtain ⟨rfl, rfl⟩ := h
    exact ⟨hC.2, hC.1⟩
  | p b =>
    simp only [pClaim] at h
    split at h
    · rename_i c x y hop
      split at h
      · rename_i E hE
        split at h
        · simp only [Option.some.injEq, Prod.mk.injEq] at h
          obtain ⟨rfl, rfl⟩ := h
          refine ⟨hC.2, ?_⟩
          unfold aVal; rw [hop]; simp only [hE, hC.1]
        · simp only [Option.some.injEq, Prod.mk.injEq] at h
          obtain ⟨rfl, rfl⟩ := h
          refine ⟨hC.2, ?_⟩
          unfold aVal; rw [hop]; simp only [hE, hC.1]
      · cases h
    · cases h
  | d =>
    simp only [pClaim] at h
    split at h
    · rename_i op t x y yt hop
      split at h
      · rename_i k a k' c hx hy
        split at h
        · rename_i hk
          have hk' : k = k' := by simpa using hk
          subst hk'
          split at h
          · simp only [Option.some.injEq, Prod.mk.injEq] at h
            obtain ⟨rfl, rfl⟩ := h
            have e : pureRun P (binOp .quo t (.int k a) (.int k c)) = some (.int k (k.wrap (a.tdiv c))) := by
              simp [binOp, Op.intDiv, hC.1, pureRun, pure]
            exact ⟨hC.2, dflt_int hop hx hy (by simp) (fun w hw => by rw [e] at hw; cases hw; rfl) e rfl⟩
          · simp only [Option.some.injEq, Prod.mk.injEq] at h
            obtain ⟨rfl, rfl⟩ := h
            have e : pureRun P (binOp .rem t (.int k a) (.int k c)) = some (.int k (a.tmod c)) := by
              simp [binOp, Op.intDiv, hC.1, pureRun, pure]
            exact ⟨hC.2, dflt_int hop hx hy (by simp) (fun w hw => by rw [e] at hw; cases hw; rfl) e rfl⟩
          · cases h
        · cases h
      · cases h
    · cases h
  | s =>
    simp only [pClaim] at h
    split at h
    · rename_i op t x y yt hop
      split at h
      · rename_i k a k' c hx hy
        split at h
        · simp only [Option.some.injEq, Prod.mk.injEq] at h
          obtain ⟨rfl, rfl⟩ := h
          have e : pureRun P (binOp .shl t (.int k a) (.int k' c)) = some (.int k (k.wrap (a * 2 ^ (min c.toNat k.bits)))) := by
            simp [binOp, Op.shift, hC.1, pureRun, pure]
          exact ⟨hC.2, dflt_int hop hx hy (by simp) (fun w hw => by rw [e] at hw; cases hw; rfl) e rfl⟩
        · simp only [Option.some.injEq, Prod.mk.injEq] at h
          obtain ⟨rfl, rfl⟩ := h
          have e : pureRun P (binOp .shr t (.int k a) (.int k' c)) = some (.int k (a.fdiv (2 ^ (min c.toNat k.bits)))) := by
            simp [binOp, Op.shift, hC.1, pureRun, pure]
          exact ⟨hC.2, dflt_int hop hx hy (by simp) (fun w hw => by rw [e] at hw; cases hw; rfl) e rfl⟩
        · cases h
      · cases h
    · cases h
  | _ => simp [pClaim] at h

def pOp (P : Program) (L : List Nat) (o : Oper) (C : Prop) (s : AS) : It → Option (AS × Prop)
  | .g => match aStep P L o s with
    | some s' => some (s', C)
    | none => none
  | .m v h' => match memKind o with
    | true => some (⟨tput s.t o.dst v, s.l, h'⟩, aMem P L o s = some ⟨tput s.t o.dst v, s.l, h'⟩ ∧ C)
    | false => none
  | .c v h' => match callArgs P o s.t with
    | some (g, args) => some ({ s with h := h' }.put o.dst v, ACalls P g args s.h (fun v' h'' => v' = v ∧ h'' = h') ∧ C)
    | none => none
  | it => match memKind o with
    | true => none
    | false => match pClaim P o C s it with
      | some (v, C') => some (s.put o.dst v, C')
      | none => none
def pOne (P : Program) (L : List Nat) (ops : Array Oper) (o : Oper) (C : Prop) (s : AS) (it : It) : Option (AS × Prop) :=
  match o.guard with
  | none => pOp P L o C s it
  | some _ => match awanted ops o s.t with
    | none => none
    | some X => match it with
      | .n => some (s.put o.dst undef, X = false ∧ C)
      | .w it' => pOp P L o (X = true ∧ C) s it'
      | _ => none
def pOps (P : Program) (L : List Nat) (ops : Array Oper) : List Oper → List It → Prop → AS → Option (AS × List It × Prop)
  | [], its, C, s => some (s, its, C)
  | o :: r, it :: its, C, s => match pOne P L ops o C s it with
    | some (s', C') => pOps P L ops r its C' s'
    | none => none
  | _ :: _, [], _, _ => none
def pVal (P : Program) (L : List Nat) (o : Oper) (C : Prop) (s : AS) : It → Option (Eff × Prop)
  | .g => match opKind o with
    | 0 => match aVal P o s with
      | some v => some (⟨v, none⟩, C)
      | none => none
    | 1 => match aVal P o s with
      | some v => some (⟨v, none⟩, C)
      | none => none
    | 2 => match aBoxEff P L o s with
      | some e => some (e, C)
      | none => none
    | _ => none
  | it => match opKind o with
    | 0 => match pClaim P o C s it with
      | some (v, C') => some (⟨v, none⟩, C')
      | none => none
    | 1 => match pClaim P o C s it with
      | some (v, C') => some (⟨v, none⟩, C')
      | none => none
    | _ => none
def pEff (P : Program) (L : List Nat) (ops : Array Oper) (o : Oper) (C : Prop) (s : AS) (it : It) : Option (Eff × Prop) :=
  match o.guard with
  | none => pVal P L o C s it
  | some _ => match awanted ops o s.t with
    | none => none
    | some X => match it with
      | .n => some (⟨undef, none⟩, X = false ∧ C)
      | .w it' => pVal P L o (X = true ∧ C) s it'
      | _ => none
def pEag (P : Program) (L : List Nat) (ops : Array Oper) : List (Nat × Nat) → List It → Prop → AS → Option (AS × List It × Prop)
  | [], its, C, s => some (s, its, C)
  | (i, 0) :: r, it :: its, C, s => match ops[i]? with
    | some o => match pOne P L ops o C s it with
      | some (s', C') => pEag P L ops r its C' s'
      | none => none
    | none => none
  | (i, 1) :: r, it :: its, C, s => match ops[i]? with
    | some o => match pEff P L ops o C s it with
      | some (e, C') => pEag P L ops r its C' (s.eff o.dst e)
      | none => none
    | none => none
  | (i, _ + 2) :: r, it :: its, C, s => match ops[i]? with
    | some o => match loadLoc o s.t with
      | true => match pEff P L ops o C s it with
        | some (e, C') => pEag P L ops r its C' (s.eff o.dst e)
        | none => none
      | false => none
    | none => none
  | _ :: _, [], _, _ => none
def pCode (P : Program) (L : List Nat) (D : List (Nat × List (Nat × Nat))) : Code → List It → Prop → AS → Option (Exit × AS × List It × Prop)
  | .skip, its, C, s => some (.normal, s, its, C)
  | .label _, its, C, s => some (.normal, s, its, C)
  | .ret, its, C, s => some (.ret, s, its, C)
  | .exit id, its, C, s => some (.exit id, s, its, C)
  | .region id ops d, its, C, s => match d with
    | false => match pOps P L ops ops.toList its C (prepL ops.toList s) with
      | some (s', its', C') => some (.normal, s', its', C')
      | none => none
    | true => match dget D id with
      | some l => match pEag P L ops l its C (prepL ops.toList s) with
        | some (s', its', C') => some (.normal, s', its', C')
        | none => none
      | none => none
  | .seq x y, its, C, s => match pCode P L D x its C s with
    | some (.normal, s', its', C') => pCode P L D y its' C' s'
    | some (e, s', its', C') => some (e, s', its', C')
    | none => none
  | .cond c x y, its, C, s => match aev s.t c, its with
    | .bool E, .b true :: its' => pCode P L D x its' (E = true ∧ C) s
    | .bool E, .b false :: its' => pCode P L D y its' (E = false ∧ C) s
    | _, _ => none
  | .block id c, its, C, s => match pCode P L D c its C s with
    | some (.exit id', s', its', C') => match Nat.beq id' id with
      | true => some (.normal, s', its', C')
      | false => some (.exit id', s', its', C')
    | some (e, s', its', C') => some (e, s', its', C')
    | none => none
  | .loop c, its, C, s => match its with
    | .l e s' :: its' => some (e, s', its', AWp P (.loop c) (Ends1 e s') s ∧ C)
    | _ => none
  | _, _, _, _ => none
def pFun (P : Program) (T : List FEnt) (f : FuncId) (its : List It) (args : List Value) (h : AHeap) : Option (Value × AHeap × Prop) :=
  match tget T f with
  | some e => match P.funcs[f]? with
    | some fn => match fn.body with
      | some c => match pCode P e.L e.D c its True { t := args ++ List.replicate (fn.ntmps - args.length) undef, l := [], h := h } with
        | some (.normal, s, [], C) => match aResults P fn s with
          | some v => some (v, s.h, C)
          | none => none
        | some (.ret, s, [], C) => match aResults P fn s with
          | some v => some (v, s.h, C)
          | none => none
        | _ => none
      | none => none
    | none => none
  | none => none

section
variable {P : Program} {L : List Nat}

theorem pOp_sound {o : Oper} {C C' : Prop} {s s' : AS} {it : It} {K : AS → Prop} (h : pOp P L o C s it = some (s', C')) (hC : C') (hk : K s') : C ∧ AOp P L o K s := by
  have other : (∀ h : pOp P L o C s it = (match memKind o with | true => none | false => match pClaim P o C s it with | some (v, C') => some (s.put o.dst v, C') | none => none), C ∧ AOp P L o K s) := by
    intro e
    rw [e] at h
    split at h
    · cases h
    · rename_i hm
      split at h
      · rename_i v C1 h1
        simp only [Option.some.injEq, Prod.mk.injEq] at h
        obtain ⟨rfl, rfl⟩ := h
        obtain ⟨q1, q2⟩ := pClaim_sound h1 hC
        exact ⟨q1, .inl ⟨_, by simp only [aStep, hm, q2], hk⟩⟩
      · cases h
  cases it with
  | g =>
    simp only [pOp] at h
    split at h
    · rename_i s1 h1
      simp only [Option.some.injEq, Prod.mk.injEq] at h
      obtain ⟨rfl, rfl⟩ := h
      exact ⟨hC, .inl ⟨_, h1, hk⟩⟩
    · cases h
  | m v h' =>
    simp only [pOp] at h
    split at h
    · rename_i hm
      simp only [Option.some.injEq, Prod.mk.injEq] at h
      obtain ⟨rfl, rfl⟩ := h
      exact ⟨hC.2, .inl ⟨_, by simp only [aStep, hm]; exact hC.1, hk⟩⟩
    · cases h
  | c v h' =>
    simp only [pOp] at h
    split at h
    · rename_i g args ha
      simp only [Option.some.injEq, Prod.mk.injEq] at h
      obtain ⟨rfl, rfl⟩ := h
      exact ⟨hC.2, .inr ⟨g, args, ha, hC.1.mono fun v' h'' ⟨e1, e2⟩ => by subst e1; subst e2; exact hk⟩⟩
    · cases h
  | _ => exact other rfl

theorem pOne_sound {ops : Array Oper} {i : Nat} {o : Oper} (ho : ops[i]? = some o) {C C' : Prop} {s s' : AS} {it : It} {K : AS → Prop} (h : pOne P L ops o C s it = some (s', C')) (hC : C') (hk : K s') : C ∧ AOne P L ops i K s := by
  unfold pOne at h
  unfold AOne
  simp only [ho]
  split at h
  · rename_i hg
    have : awanted ops o s.t = some true := by unfold awanted; rw [hg]
    rw [this]
    exact pOp_sound h hC hk
  · split at h
    · cases h
    · rename_i X hX
      split at h
      · simp only [Option.some.injEq, Prod.mk.injEq] at h
        obtain ⟨rfl, rfl⟩ := h
        rw [hX, hC.1]
        exact ⟨hC.2, hk⟩
      · obtain ⟨h1, h2⟩ := pOp_sound h hC hk
        rw [hX, h1.1]
        exact ⟨h1.2, h2⟩
      · cases h

theorem pOps_sound {ops : Array Oper} {K : AS → Prop} : ∀ (l : List Oper) (k : Nat) (its its' : List It) (C C' : Prop) (s s' : AS), (∀ j, l[j]? = ops[k + j]?) → pOps P L ops l its C s = some (s', its', C') → C' → K s' →
    C ∧ AOps P L ops (List.range' k l.length) K s
  | [], k, its, its', C, C', s, s', _, h, hC, hk => by
    simp only [pOps, Option.some.injEq, Prod.mk.injEq] at h
    obtain ⟨rfl, rfl, rfl⟩ := h
    exact ⟨hC, hk⟩
  | o :: r, k, its, its', C, C', s, s', hl, h, hC, hk => by
    cases its with
    | nil => simp [pOps] at h
    | cons it its =>
      simp only [pOps] at h
      split at h
      · rename_i s1 C1 h1
        have h0 : ops[k]? = some o := by simpa using (hl 0).symm
        obtain ⟨q1, q2⟩ := pOps_sound r (k + 1) its its' C1 C' s1 s' (fun j => by have := hl (j + 1); simpa [Nat.add_assoc, Nat.add_comm 1 j] using this) h hC hk
        rw [List.length_cons, List.range'_succ, AOps_cons]
        exact pOne_sound h0 h1 q1 q2
      · cases h

theorem pVal_sound {ops : Array Oper} {o : Oper} {C C' : Prop} {s : AS} {it : It} {e : Eff} (h : pVal P L o C s it = some (e, C')) (hC : C') : C ∧ (awanted ops o s.t = some true → aEff P L ops o s = some e) := by
  cases it with
  | g =>
    simp only [pVal] at h
    split at h
    · rename_i hk
      split at h
      · rename_i v hv
        simp only [Option.some.injEq, Prod.mk.injEq] at h
        obtain ⟨rfl, rfl⟩ := h
        exact ⟨hC, fun hw => by simp only [aEff, hw, hk, hv, valEff]⟩
      · cases h
    · rename_i hk
      split at h
      · rename_i v hv
        simp only [Option.some.injEq, Prod.mk.injEq] at h
        obtain ⟨rfl, rfl⟩ := h
        exact ⟨hC, fun hw => by simp only [aEff, hw, hk, hv, valEff]⟩
      · cases h
    · rename_i hk
      split at h
      · rename_i v hv
        simp only [Option.some.injEq, Prod.mk.injEq] at h
        obtain ⟨rfl, rfl⟩ := h
        exact ⟨hC, fun hw => by simp only [aEff, hw, hk, hv]⟩
      · cases h
    · cases h
  | _ =>
    simp only [pVal] at h
    split at h
    · rename_i hk
      split at h
      · rename_i v C1 h1
        simp only [Option.some.injEq, Prod.mk.injEq] at h
        obtain ⟨rfl, rfl⟩ := h
        obtain ⟨q1, q2⟩ := pClaim_sound h1 hC
        exact ⟨q1, fun hw => by simp only [aEff, hw, hk, q2, valEff]⟩
      · cases h
    · rename_i hk
      split at h
      · rename_i v C1 h1
        simp only [Option.some.injEq, Prod.mk.injEq] at h
        obtain ⟨rfl, rfl⟩ := h
        obtain ⟨q1, q2⟩ := pClaim_sound h1 hC
        exact ⟨q1, fun hw => by simp only [aEff, hw, hk, q2, valEff]⟩
      · cases h
    · cases h
theorem pEff_sound {ops : Array Oper} {o : Oper} {C C' : Prop} {s : AS} {it : It} {e : Eff} (h : pEff P L ops o C s it = some (e, C')) (hC : C') : C ∧ aEff P L ops o s = some e := by
  unfold pEff at h
  split at h
  · rename_i hg
    have : awanted ops o s.t = some true := by unfold awanted; rw [hg]
    obtain ⟨h1, h2⟩ := pVal_sound h hC
    exact ⟨h1, h2 this⟩
  · split at h
    · cases h
    · rename_i X hX
      split at h
      · simp only [Option.some.injEq, Prod.mk.injEq] at h
        obtain ⟨rfl, rfl⟩ := h
        exact ⟨hC.2, by simp only [aEff, hX, hC.1]⟩
      · obtain ⟨h1, h2⟩ := pVal_sound h hC
        exact ⟨h1.2, h2 (by rw [hX, h1.1])⟩
      · cases h

theorem pEag_sound {ops : Array Oper} {K : AS → Prop} : ∀ (l : List (Nat × Nat)) (its its' : List It) (C C' : Prop) (s s' : AS), pEag P L ops l its C s = some (s', its', C') → C' → K s' → C ∧ AEag P L ops K l s
  | [], its, its', C, C', s, s', h, hC, hk => by
    simp only [pEag, Option.some.injEq, Prod.mk.injEq] at h
    obtain ⟨rfl, rfl, rfl⟩ := h
    exact ⟨hC, hk⟩
  | x :: r, [], its', C, C', s, s', h, hC, hk => by
    obtain ⟨i, m⟩ := x
    rcases m with _ | _ | m <;> simp [pEag] at h
  | (i, 0) :: r, it :: its, its', C, C', s, s', h, hC, hk => by
    simp only [pEag] at h
    split at h
    · rename_i o ho
      split at h
      · rename_i s1 C1 h1
        obtain ⟨q1, q2⟩ := pEag_sound r its its' C1 C' s1 s' h hC hk
        exact pOne_sound ho h1 q1 q2
      · cases h
    · cases h
  | (i, 1) :: r, it :: its, its', C, C', s, s', h, hC, hk => by
    simp only [pEag] at h
    simp only [AEag]
    split at h
    · rename_i o ho
      split at h
      · rename_i e C1 h1
        obtain ⟨q1, q2⟩ := pEag_sound r its its' C1 C' _ s' h hC hk
        obtain ⟨q3, q4⟩ := pEff_sound h1 q1
        rw [ho]; simp only [q4]
        exact ⟨q3, .inl trivial, q2⟩
      · cases h
    · cases h
  | (i, m + 2) :: r, it :: its, its', C, C', s, s', h, hC, hk => by
    simp only [pEag] at h
    simp only [AEag]
    split at h
    · rename_i o ho
      split at h
      · rename_i hl
        split at h
        · rename_i e C1 h1
          obtain ⟨q1, q2⟩ := pEag_sound r its its' C1 C' _ s' h hC hk
          obtain ⟨q3, q4⟩ := pEff_sound h1 q1
          rw [ho]; simp only [q4]
          exact ⟨q3, .inr hl, q2⟩
        · cases h
      · cases h
    · cases h

theorem pCode_sound (G : Good P) {D : List (Nat × List (Nat × Nat))} : ∀ (c : Code) (its its' : List It) (C C' : Prop) (s s' : AS) (e : Exit), drawsOk D c = true → pCode P L D c its C s = some (e, s', its', C') → C' → C ∧ AWp P c (Ends1 e s') s := by
  intro c
  induction c with
  | skip => intro its its' C C' s s' e _ h hC; simp only [pCode, Option.some.injEq, Prod.mk.injEq] at h; obtain ⟨rfl, rfl, rfl, rfl⟩ := h; exact ⟨hC, awp_skip ⟨rfl, rfl⟩⟩
  | label l => intro its its' C C' s s' e _ h hC; simp only [pCode, Option.some.injEq, Prod.mk.injEq] at h; obtain ⟨rfl, rfl, rfl, rfl⟩ := h; exact ⟨hC, awp_label ⟨rfl, rfl⟩⟩
  | ret => intro its its' C C' s s' e _ h hC; simp only [pCode, Option.some.injEq, Prod.mk.injEq] at h; obtain ⟨rfl, rfl, rfl, rfl⟩ := h; exact ⟨hC, awp_ret ⟨rfl, rfl⟩⟩
  | exit id => intro its its' C C' s s' e _ h hC; simp only [pCode, Option.some.injEq, Prod.mk.injEq] at h; obtain ⟨rfl, rfl, rfl, rfl⟩ := h; exact ⟨hC, awp_exit ⟨rfl, rfl⟩⟩
  | region id ops d =>
    intro its its' C C' s s' e hd h hC
    simp only [pCode] at h
    cases d with
    | false =>
      simp only at h
      split at h
      · rename_i s1 i1 C1 h1
        simp only [Option.some.injEq, Prod.mk.injEq] at h
        obtain ⟨rfl, rfl, rfl, rfl⟩ := h
        obtain ⟨q1, q2⟩ := pOps_sound (L := L) (K := Ends1 .normal s1 .normal) ops.toList 0 its _ C _ _ s1 (by simp) h1 hC ⟨rfl, rfl⟩
        refine ⟨q1, awp_region G L ?_⟩
        rwa [List.range_eq_range', ← Array.length_toList]
      · cases h
    | true =>
      simp only at h
      simp only [drawsOk] at hd
      split at h
      · rename_i l hl
        rw [hl] at hd
        simp only [Bool.and_eq_true] at hd
        split at h
        · rename_i s1 i1 C1 h1
          simp only [Option.some.injEq, Prod.mk.injEq] at h
          obtain ⟨rfl, rfl, rfl, rfl⟩ := h
          obtain ⟨q1, q2⟩ := pEag_sound (K := Ends1 .normal s1 .normal) l its _ C _ _ s1 h1 hC ⟨rfl, rfl⟩
          exact ⟨q1, awp_draw G L l (Nat.eq_of_beq_eq_true hd.1) hd.2 q2⟩
        · cases h
      · cases h
  | seq x y ihx ihy =>
    intro its its' C C' s s' e hd h hC
    simp only [drawsOk, Bool.and_eq_true] at hd
    simp only [pCode] at h
    split at h
    · rename_i s1 i1 C1 h1
      obtain ⟨q1, q2⟩ := ihy _ _ _ _ _ _ _ hd.2 h hC
      obtain ⟨q3, q4⟩ := ihx _ _ _ _ _ _ _ hd.1 h1 q1
      exact ⟨q3, awp_seq (awp_mono q4 (by rintro e' s'' ⟨rfl, rfl⟩; exact q2))⟩
    · rename_i e1 s1 i1 C1 hne h1
      simp only [Option.some.injEq, Prod.mk.injEq] at h
      obtain ⟨rfl, rfl, rfl, rfl⟩ := h
      obtain ⟨q3, q4⟩ := ihx _ _ _ _ _ _ _ hd.1 h1 hC
      refine ⟨q3, awp_seq (awp_mono q4 ?_)⟩
      rintro e' s'' ⟨rfl, rfl⟩
      cases e' with
      | normal => exact (hne rfl).elim
      | _ => exact ⟨rfl, rfl⟩
    · cases h
  | cond c x y ihx ihy =>
    intro its its' C C' s s' e hd h hC
    simp only [drawsOk, Bool.and_eq_true] at hd
    simp only [pCode] at h
    split at h
    · rename_i E i1 hv
      obtain ⟨q1, q2⟩ := ihx _ _ _ _ _ _ _ hd.1 h hC
      exact ⟨q1.2, awp_cond hv (fun _ => q2) (fun h => by rw [q1.1] at h; cases h)⟩
    · rename_i E i1 hv
      obtain ⟨q1, q2⟩ := ihy _ _ _ _ _ _ _ hd.2 h hC
      exact ⟨q1.2, awp_cond hv (fun h => by rw [q1.1] at h; cases h) (fun _ => q2)⟩
    · cases h
  | block id c ih =>
    intro its its' C C' s s' e hd h hC
    simp only [drawsOk] at hd
    simp only [pCode] at h
    split at h
    · rename_i id' s1 i1 C1 h1
      split at h
      · rename_i hb
        simp only [Option.some.injEq, Prod.mk.injEq] at h
        obtain ⟨rfl, rfl, rfl, rfl⟩ := h
        obtain ⟨q1, q2⟩ := ih _ _ _ _ _ _ _ hd h1 hC
        refine ⟨q1, awp_block (awp_mono q2 ?_)⟩
        rintro e' s'' ⟨rfl, rfl⟩
        simp only [ABlk]
        rw [if_pos (Nat.eq_of_beq_eq_true hb)]
        exact ⟨rfl, rfl⟩
      · rename_i hb
        simp only [Option.some.injEq, Prod.mk.injEq] at h
        obtain ⟨rfl, rfl, rfl, rfl⟩ := h
        obtain ⟨q1, q2⟩ := ih _ _ _ _ _ _ _ hd h1 hC
        refine ⟨q1, awp_block (awp_mono q2 ?_)⟩
        rintro e' s'' ⟨rfl, rfl⟩
        simp only [ABlk]
        rw [if_neg (fun e => by rw [e, beq_self] at hb; cases hb)]
        exact ⟨rfl, rfl⟩
    · rename_i e1 s1 i1 C1 hne h1
      simp only [Option.some.injEq, Prod.mk.injEq] at h
      obtain ⟨rfl, rfl, rfl, rfl⟩ := h
      obtain ⟨q1, q2⟩ := ih _ _ _ _ _ _ _ hd h1 hC
      refine ⟨q1, awp_block (awp_mono q2 ?_)⟩
      rintro e' s'' ⟨rfl, rfl⟩
      cases e' with
      | exit id' => exact (hne id' rfl).elim
      | _ => exact ⟨rfl, rfl⟩
    · cases h
  | loop c ih =>
    intro its its' C C' s s' e hd h hC
    simp only [pCode] at h
    split at h
    · simp only [Option.some.injEq, Prod.mk.injEq] at h
      obtain ⟨rfl, rfl, rfl, rfl⟩ := h
      exact ⟨hC.2, hC.1⟩
    · cases h
  | _ => intro its its' C C' s s' e _ h; simp [pCode] at h

theorem pFun_sound (G : Good P) {T : List FEnt} (hT : tabOk P T = true) {f : FuncId} {its : List It} {args : List Value} {h h' : AHeap} {v : Value} {C : Prop} (hr : pFun P T f its args h = some (v, h', C)) (hC : C) :
    ACalls P f args h fun v' h'' => v' = v ∧ h'' = h' := by
  unfold pFun at hr
  split at hr
  · rename_i e he
    obtain ⟨hm, hf⟩ := tget_mem he
    split at hr
    · rename_i fn hfn
      split at hr
      · rename_i c hb
        have hd : drawsOk e.D c = true := by
          unfold tabOk at hT
          rw [List.all_eq_true] at hT
          have := hT e hm
          rw [hf] at this
          simpa [hfn, hb] using this
        split at hr
        · rename_i s C1 hs
          split at hr
          · rename_i u hu
            simp only [Option.some.injEq, Prod.mk.injEq] at hr
            obtain ⟨rfl, rfl, rfl⟩ := hr
            exact acalls_of_awp hfn hb (awp_mono (pCode_sound G c _ _ _ _ _ _ _ hd hs hC).2 (by rintro e' s' ⟨rfl, rfl⟩; exact ⟨_, hu, rfl, rfl⟩))
          · cases hr
        · rename_i s C1 hs
          split at hr
          · rename_i u hu
            simp only [Option.some.injEq, Prod.mk.injEq] at hr
            obtain ⟨rfl, rfl, rfl⟩ := hr
            exact acalls_of_awp hfn hb (awp_mono (pCode_sound G c _ _ _ _ _ _ _ hd hs hC).2 (by rintro e' s' ⟨rfl, rfl⟩; exact ⟨_, hu, rfl, rfl⟩))
          · cases hr
        · cases hr
      · cases hr
    · cases hr
  · cases hr
end
end Go.Proofs.Ytliochikjbalhaa.Abs
