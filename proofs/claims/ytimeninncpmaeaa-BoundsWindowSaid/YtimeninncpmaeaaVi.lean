/-
  Regions that draw their order: operations that may be exchanged, and the one order that serves all.
-/
import Derived.Test.YtimeninncpmaeaaVz
namespace Go.Proofs.Ytimeninncpmaeaa.Abs
open Go
set_option linter.unusedVariables false
set_option linter.unusedSimpArgs false

def boxCells (P : Program) (o : Oper) (t : List Value) : Option (List Value) := match o.op with
  | .alloc el => match aZero P el with
    | some z => some z.cells.toList
    | none => none
  | .box _ x => match okPart (aev t x) with
    | true => some (aev t x).cells.toList
    | false => none
  | _ => none
def aBoxEff (P : Program) (L : List Nat) (o : Oper) (s : AS) : Option Eff :=
  match boxCells P o s.t, o.dst with
  | some cells, some d => match memb L d && cells.all (·.oneCell'), lget s.l d with
    | true, none => some ⟨.pointer (some ⟨d, 0, none⟩), some cells⟩
    | _, _ => none
  | _, _ => none
def valEff : Option Value → Option Eff
  | some v => some ⟨v, none⟩
  | none => none
def aEff (P : Program) (L : List Nat) (ops : Array Oper) (o : Oper) (s : AS) : Option Eff :=
  match awanted ops o s.t with
  | some false => some ⟨undef, none⟩
  | some true => match opKind o with
    | 0 => valEff (aVal P o s)
    | 1 => valEff (aVal P o s)
    | 2 => aBoxEff P L o s
    | _ => none
  | none => none
def AOne (P : Program) (L : List Nat) (ops : Array Oper) (i : Nat) (K : AS → Prop) (s : AS) : Prop :=
  match ops[i]? with
  | none => K s
  | some o => match awanted ops o s.t with
    | some true => AOp P L o K s
    | some false => K (s.put o.dst undef)
    | none => False
/-- What was there in the memory is there. -/
def AKeep (h h' : AHeap) : Prop := ∀ id b, h.get id = some b → h'.get id = some b
/-- An operation; where F says so, a call leaves what was there in the memory alone. -/
def AOpF (P : Program) (L : List Nat) (F : Bool) (o : Oper) (K : AS → Prop) (s : AS) : Prop :=
  (∃ s', aStep P L o s = some s' ∧ (F = true → opKind o = 4 → AKeep s.h s'.h) ∧ K s') ∨
    ∃ g args, callArgs P o s.t = some (g, args) ∧ ACalls P g args s.h (fun v h' => (F = true → AKeep s.h h') ∧ K ({ s with h := h' }.put o.dst v))
def AOneF (P : Program) (L : List Nat) (F : Bool) (ops : Array Oper) (i : Nat) (K : AS → Prop) (s : AS) : Prop :=
  match ops[i]? with
  | none => K s
  | some o => match awanted ops o s.t with
    | some true => AOpF P L F o K s
    | some false => K (s.put o.dst undef)
    | none => False
/-- An operation, where a maker may also choose the place of its block. -/
def AOneG (P : Program) (L : List Nat) (F : Bool) (ops : Array Oper) (i : Nat) (K : AS → Prop) (s : AS) : Prop :=
  AOneF P L F ops i K s ∨ ∃ o p s', ops[i]? = some o ∧ awanted ops o s.t = some true ∧ aMkAt P o p s = some s' ∧ K s'
/-- Before it, places may be kept free. -/
def AOneR (P : Program) (L : List Nat) (F : Bool) (ops : Array Oper) (i : Nat) (K : AS → Prop) (s : AS) : Prop :=
  ∃ r, AOneG P L F ops i K ⟨s.t, s.l, s.h.rsv r⟩
theorem AOneR.of {P : Program} {L : List Nat} {F : Bool} {ops : Array Oper} {i : Nat} {K : AS → Prop} {s : AS} (h : AOneG P L F ops i K s) : AOneR P L F ops i K s := ⟨0, h⟩
def isCall (o : Oper) : Bool := match o.op with
  | .call c => match c.callee with
    | .value _ => true
    | _ => false
  | _ => false
def loadLoc (o : Oper) (t : List Value) : Bool := match o.op with
  | .load _ x => isLoc (aev t x)
  | _ => true

def storeLoc (o : Oper) (t : List Value) : Bool := match o.op with
  | .store _ ad _ => isLoc (aev t ad)
  | _ => true
/-- Where a load looks, where a store writes. -/
def laddr (o : Oper) (t : List Value) : Option Value := match o.op with
  | .load _ x => some (aev t x)
  | _ => none
/-- What an append appends to. -/
def isApp (o : Oper) : Option Operand := match o.op with
  | .call c => match c.callee, c.args.toList with
    | .builtin .append, [x, _] => some x
    | _, _ => none
  | _ => none
/-- Where an append may write; nowhere, if it appends to nil. -/
def sptr : Value → Value
  | .slice (some a) _ _ => .pointer (some a)
  | _ => .pointer (some ⟨0, 0, none⟩)
def saddr (o : Oper) (t : List Value) : Option Value := match o.op with
  | .store _ ad _ => some (aev t ad)
  | _ => match isApp o with
    | some x => some (sptr (aev t x))
    | none => none
def apB : Value → Value → Bool
  | _, .tuple _ => true
  | .pointer (some ⟨k, _, none⟩), .pointer (some ⟨k', _, none⟩) => !(Nat.beq k k')
  | .pointer (some ⟨k, _, some _⟩), .pointer (some ⟨k', _, some _⟩) => !(Nat.beq k k')
  | .pointer (some ⟨_, _, none⟩), .pointer (some ⟨_, _, some _⟩) => true
  | p, q => !(isLoc p) && isLoc q
/-- A load and a store that do not meet. -/
def usesB0 (ops : Array Oper) (oi oj : Oper) : Bool := match oi.dst with
  | some d => (oj.looksAt ops).any fun x => Nat.beq d x
  | none => false
def stAp (oi oj : Oper) (t : List Value) : Bool := match laddr oi t, saddr oj t with
  | some p, some q => apB p q
  | _, _ => true
/-- An operation that is not wanted. -/
def notW (ops : Array Oper) (o : Oper) (t : List Value) : Bool := match awanted ops o t with
  | some false => true
  | _ => false
def appsAp (ops : Array Oper) (oi : Oper) (t : List Value) : Bool := ops.toList.all fun o => (isApp o).isNone || (usesB0 ops oi o || stAp oi o t)
def storesB (ops : Array Oper) (t : List Value) : Bool := ops.toList.all fun o => opKind o != 3 || storeLoc o t
/-- Whether an operation looks at what another one yields: then it waits for it. -/
def usesB (ops : Array Oper) (oi oj : Oper) : Bool := usesB0 ops oi oj
theorem usesB_apart {ops : Array Oper} {oi oj : Oper} (h : oi.apart ops oj = true) : usesB ops oi oj = false := by
  have a1 := (Oper.apart_spec h).1
  unfold usesB usesB0
  split
  · rename_i d hd
    cases hx : (oj.looksAt ops).any fun x => Nat.beq d x with
    | false => rfl
    | true =>
      obtain ⟨x, hm, hb⟩ := List.any_eq_true.1 hx
      rw [← Nat.eq_of_beq_eq_true hb] at hm
      exact absurd hm (a1 d hd)
  · rfl
def storesAp (ops : Array Oper) (oi : Oper) (t : List Value) : Bool := ops.toList.all fun o => opKind o != 3 || (usesB ops oi o || stAp oi o t)
/-- When an operation may come first: always; where it looks at a local; where it doesn't, and all that is written are locals. -/
def modeB (ops : Array Oper) (m : Nat) (o : Oper) (t : List Value) : Bool := match m with
  | 0 => true
  | 1 => notW ops o t || loadLoc o t
  | 4 => true
  | 6 => notW ops o t || (storesAp ops o t && appsAp ops o t)
  | _ => notW ops o t || storesAp ops o t
theorem modeB_ap {ops : Array Oper} {m : Nat} {o : Oper} {t : List Value} (h2 : 2 ≤ m) (h4 : m ≠ 4) (h : modeB ops m o t = true) : (notW ops o t || storesAp ops o t) = true ∧ (m = 6 → (notW ops o t || appsAp ops o t) = true) := by
  unfold modeB at h
  split at h
  · omega
  · omega
  · exact absurd rfl h4
  · cases hn : notW ops o t
    · rw [hn] at h
      simp only [Bool.false_or, Bool.and_eq_true] at h
      simp [h.1, h.2]
    · simp
  · rename_i h6 
    exact ⟨h, fun e => absurd e h6⟩
def Kept (o : Oper) (s s' : AS) : Prop := ∀ x : Operand, (∀ d, o.dst = some d → x ≠ .tmp d) → aev s'.t x = aev s.t x
theorem kept_put (o : Oper) (s : AS) (u : Value) (l : Locs) (h' : AHeap) : Kept o s ⟨tput s.t o.dst u, l, h'⟩ := by
  intro x hx
  cases x with
  | tmp i =>
    cases hd : o.dst with
    | none => rfl
    | some d =>
      have : d ≠ i := fun e => hx d hd (by rw [e])
      simp [aev, tput, List.getD, List.getElem?_set_ne this]
  | const v => rfl
  | global g => rfl
  | func f => rfl

section
variable {P : Program} {L : List Nat} {ops : Array Oper}

theorem AOp_mono {o : Oper} {s : AS} {K K' : AS → Prop} (h : ∀ s, K s → K' s) (hh : AOp P L o K s) : AOp P L o K' s := by
  rcases hh with ⟨s', h1, h2⟩ | ⟨g, args, h1, h2⟩
  · exact .inl ⟨s', h1, h _ h2⟩
  · exact .inr ⟨g, args, h1, h2.mono fun v h' hk => h _ hk⟩
theorem AOne_mono {i : Nat} {s : AS} {K K' : AS → Prop} (h : ∀ s, K s → K' s) (hh : AOne P L ops i K s) : AOne P L ops i K' s := by
  unfold AOne at *
  split
  · rename_i ho; rw [ho] at hh; exact h _ hh
  · rename_i o ho
    rw [ho] at hh
    simp only at hh
    split
    · rename_i hw; rw [hw] at hh; exact AOp_mono h hh
    · rename_i hw; rw [hw] at hh; exact h _ hh
    · rename_i hw; rw [hw] at hh; exact hh

theorem AOpF_mono {F : Bool} {o : Oper} {s : AS} {K K' : AS → Prop} (h : ∀ s, K s → K' s) (hh : AOpF P L F o K s) : AOpF P L F o K' s := by
  rcases hh with ⟨s', h1, hp, h2⟩ | ⟨g, args, h1, h2⟩
  · exact .inl ⟨s', h1, hp, h _ h2⟩
  · exact .inr ⟨g, args, h1, h2.mono fun v h' hk => ⟨hk.1, h _ hk.2⟩⟩
theorem AOneF_mono {F : Bool} {i : Nat} {s : AS} {K K' : AS → Prop} (h : ∀ s, K s → K' s) (hh : AOneF P L F ops i K s) : AOneF P L F ops i K' s := by
  unfold AOneF at *
  split
  · rename_i ho; rw [ho] at hh; exact h _ hh
  · rename_i o ho
    rw [ho] at hh
    simp only at hh
    split
    · rename_i hw; rw [hw] at hh; exact AOpF_mono h hh
    · rename_i hw; rw [hw] at hh; exact h _ hh
    · rename_i hw; rw [hw] at hh; exact hh
theorem AOneG_mono {F : Bool} {i : Nat} {s : AS} {K K' : AS → Prop} (h : ∀ s, K s → K' s) (hh : AOneG P L F ops i K s) : AOneG P L F ops i K' s := by
  rcases hh with hh | ⟨o, p, s', h1, h2, h3, h4⟩
  · exact .inl (AOneF_mono h hh)
  · exact .inr ⟨o, p, s', h1, h2, h3, h _ h4⟩
theorem AOneF.one {F : Bool} {i : Nat} {s : AS} {K : AS → Prop} (hh : AOneF P L F ops i K s) : AOne P L ops i K s := by
  unfold AOneF at hh
  unfold AOne
  split
  · rename_i ho; rw [ho] at hh; exact hh
  · rename_i o ho
    rw [ho] at hh
    simp only at hh
    split
    · rename_i hw
      rw [hw] at hh
      rcases hh with ⟨s', h1, _, h2⟩ | ⟨g, args, h1, h2⟩
      · exact .inl ⟨s', h1, h2⟩
      · exact .inr ⟨g, args, h1, h2.mono fun v h' hk => hk.2⟩
    · rename_i hw; rw [hw] at hh; exact hh
    · rename_i hw; rw [hw] at hh; exact hh
theorem AOne.framed {i : Nat} {s : AS} {K : AS → Prop} (hh : AOne P L ops i K s) : AOneF P L false ops i K s := by
  unfold AOne at hh
  unfold AOneF
  split
  · rename_i ho; rw [ho] at hh; exact hh
  · rename_i o ho
    rw [ho] at hh
    simp only at hh
    split
    · rename_i hw
      rw [hw] at hh
      rcases hh with ⟨s', h1, h2⟩ | ⟨g, args, h1, h2⟩
      · exact .inl ⟨s', h1, (by intro h; cases h), h2⟩
      · exact .inr ⟨g, args, h1, h2.mono fun v h' hk => ⟨(by intro h; cases h), hk⟩⟩
    · rename_i hw; rw [hw] at hh; exact hh
    · rename_i hw; rw [hw] at hh; exact hh

theorem newBox_local {odst : Option Tmp} {d : Nat} {el : TypeId} {cells : List Value} {s : AS} (h1 : odst = some d) (h2 : (memb L d && cells.all (·.oneCell')) = true) (h3 : lget s.l d = none) :
    newBox L odst el cells s = some (s.eff (some d) ⟨.pointer (some ⟨d, 0, none⟩), some cells⟩) := by
  simp only [Bool.and_eq_true] at h2
  subst h1
  unfold newBox
  simp only [h2.1, h2.2, h3, AS.eff, tput, lput]

/-- A local step is a step. -/
theorem AOne_of_eff {i : Nat} {o : Oper} {s : AS} {e : Eff} {K : AS → Prop} {F : Bool} (hi : ops[i]? = some o) (he : aEff P L ops o s = some e) (hk : K (s.eff o.dst e)) : AOneF P L F ops i K s := by
  unfold AOneF
  simp only [hi]
  unfold aEff at he
  split at he
  · rename_i hw
    rw [hw]
    cases he
    simp only
    rw [put_eq]
    have : s.eff o.dst ⟨undef, none⟩ = ⟨tput s.t o.dst undef, s.l, s.h⟩ := by unfold AS.eff lput; cases o.dst <;> rfl
    rw [← this]; exact hk
  · rename_i hw
    rw [hw]
    simp only
    have val : memKind o = false → valEff (aVal P o s) = some e → AOpF P L F o K s := by
      intro hm hv
      cases ha : aVal P o s with
      | none => rw [ha] at hv; cases hv
      | some v =>
        rw [ha] at hv
        cases hv
        refine .inl ⟨s.put o.dst v, by simp [aStep, hm, ha], (fun _ h4 => by simp [memKind, h4] at hm), ?_⟩
        rw [put_eq]
        have : s.eff o.dst ⟨v, none⟩ = ⟨tput s.t o.dst v, s.l, s.h⟩ := by unfold AS.eff lput; cases o.dst <;> rfl
        rw [← this]; exact hk
    split at he
    · rename_i hk0; exact val (by simp [memKind, hk0]) he
    · rename_i hk0; exact val (by simp [memKind, hk0]) he
    · rename_i hk0
      have hm : memKind o = true := by simp [memKind, hk0]
      unfold aBoxEff at he
      split at he
      · rename_i cells d hc hd
        split at he
        · rename_i h1 h2
          cases he
          refine .inl ⟨s.eff o.dst ⟨.pointer (some ⟨d, 0, none⟩), some cells⟩, ?_, (fun _ h4 => by rw [hk0] at h4; cases h4), hk⟩
          simp only [aStep, hm]
          unfold boxCells at hc
          unfold aMem
          rw [hd]
          split at hc
          · rename_i el hop
            simp only [hop]
            split at hc
            · rename_i z hz
              cases hc
              simp only [hz]
              exact newBox_local rfl h1 h2
            · cases hc
          · rename_i el x hop
            simp only [hop]
            split at hc
            · rename_i hok
              cases hc
              simp only [hok]
              exact newBox_local rfl h1 h2
            · cases hc
          · cases hc
        · cases he
      · cases he
    · cases he
  · cases he

theorem callArgs_congr {o : Oper} {t t' : List Value} (h : ∀ x ∈ o.op.operands, aev t x = aev t' x) : callArgs P o t = callArgs P o t' := by
  unfold callArgs
  split
  · rename_i c hop
    split
    · rename_i fx hcal
      have hx : ∀ x ∈ c.args.toList, aev t x = aev t' x := fun x hx => h x (by rw [hop]; simp [Op.operands, Call.operands, hcal]; exact .inr (by simpa using hx))
      have hf : aev t fx = aev t' fx := h fx (by rw [hop]; simp [Op.operands, Call.operands, hcal])
      have hm : c.args.toList.map (aev t) = c.args.toList.map (aev t') := List.map_congr_left hx
      rw [hf, hm]
    · rfl
  · rfl

theorem aLoad_frame {t : TypeId} {s s2 : AS} {x v : Value} (h : aLoad P t s x = some v)
    (hl : ∀ k off, x = .pointer (some ⟨k, off, none⟩) → lget s2.l k = lget s.l k) (hh : ∀ id off g, x = .pointer (some ⟨id, off, some g⟩) → ∀ b, s.h.get id = some b → s2.h.get id = some b) : aLoad P t s2 x = some v := by
  unfold aLoad at h ⊢
  split at h
  · rename_i k off
    rw [hl k off rfl]; exact h
  · rename_i id off g
    split at h
    · rename_i b hb
      rw [hh id off g rfl b hb]; exact h
    · cases h
  · cases h

/-- The local step is the same one in another state, where what it looks at is the same. -/
theorem aEff_frame {o : Oper} {s s2 : AS} {e : Eff} (h : aEff P L ops o s = some e) (hw : awanted ops o s2.t = awanted ops o s.t) (hx : ∀ x ∈ o.op.operands, aev s2.t x = aev s.t x)
    (hl : awanted ops o s.t = some true → ∀ t x, o.op = .load t x → ∀ v, aLoad P t s (aev s.t x) = some v → aLoad P t s2 (aev s.t x) = some v) (hb : ∀ d, o.dst = some d → lget s.l d = none → lget s2.l d = none ∨ opKind o ≠ 2) : aEff P L ops o s2 = some e := by
  unfold aEff at h ⊢
  rw [hw]
  split at h
  · exact h
  · rename_i hwt
    have val : valEff (aVal P o s) = some e → valEff (aVal P o s2) = some e := by
      intro hv
      by_cases hld : ∃ t x, o.op = .load t x
      · obtain ⟨t, x, hop⟩ := hld
        have e1 : ∀ s : AS, aVal P o s = aLoad P t s (aev s.t x) := fun s => by simp only [aVal, hop]
        rw [e1] at hv ⊢
        rw [hx x (by rw [hop]; simp [Op.operands])]
        cases ha : aLoad P t s (aev s.t x) with
        | none => rw [ha] at hv; cases hv
        | some v => rw [hl hwt t x hop v ha]; rw [ha] at hv; exact hv
      · rw [aVal_congr (s := s2) (s' := s) (fun t x hop => hld ⟨t, x, hop⟩) hx]; exact hv
    split at h
    · exact val h
    · exact val h
    · rename_i hk
      unfold aBoxEff at h ⊢
      have hc : boxCells P o s2.t = boxCells P o s.t := by
        unfold boxCells
        split
        · rfl
        · rename_i el x hop
          rw [hx x (by rw [hop]; simp [Op.operands])]
        · rfl
      rw [hc]
      split at h
      · rename_i cells d hcc hd
        split at h
        · rename_i h1 h2
          rw [h1]
          rcases hb d hd h2 with h3 | h3
          · rw [h3]; exact h
          · exact absurd hk h3
        · cases h
      · cases h
    · cases h
  · cases h

/-- What a step on the memory does, in any frame. -/
theorem mem4_frame {o : Oper} {s s1 : AS} (hk : opKind o = 4) (h : aMem P L o s = some s1) :
    ∃ h' v, s1 = ⟨tput s.t o.dst v, s.l, h'⟩ ∧ ∀ s2 : AS, s2.h = s.h → (∀ x ∈ o.op.operands, aev s2.t x = aev s.t x) → aMem P L o s2 = some ⟨tput s2.t o.dst v, s2.l, h'⟩ := by
  unfold aMem at h
  split at h
  · rename_i el hop; simp [opKind, hop] at hk
  · rename_i el x hop; simp [opKind, hop] at hk
  · rename_i t x y hop; simp [opKind, hop] at hk
  · rename_i t hop
    split at h
    · rename_i kt et hu
      cases h
      refine ⟨_, _, put_eq _ _ _, fun s2 hh hx => ?_⟩
      unfold aMem
      simp only [hop, hu, put_eq, hh]
    · cases h
  · rename_i t x k ok hop
    split at h
    · rename_i v hv
      cases h
      refine ⟨s.h, v, put_eq _ _ _, fun s2 hh hx => ?_⟩
      unfold aMem
      simp only [hop]
      rw [hx x (by rw [hop]; simp [Op.operands]), hx k (by rw [hop]; simp [Op.operands]), hh, hv]
      simp only [put_eq, hh]
    · cases h
  · rename_i t x k v hop
    split at h
    · rename_i h' hv
      cases h
      refine ⟨h', undef, put_eq _ _ _, fun s2 hh hx => ?_⟩
      unfold aMem
      simp only [hop]
      rw [hx x (by rw [hop]; simp [Op.operands]), hx k (by rw [hop]; simp [Op.operands]), hx v (by rw [hop]; simp [Op.operands]), hh, hv]
      simp only [put_eq]
    · cases h
  · rename_i t x k hop
    split at h
    · rename_i v h' hv
      cases h
      refine ⟨h', v, put_eq _ _ _, fun s2 hh hx => ?_⟩
      unfold aMem
      simp only [hop]
      rw [hx x (by rw [hop]; simp [Op.operands]), hx k (by rw [hop]; simp [Op.operands]), hh, hv]
      simp only [put_eq]
    · cases h
  · rename_i t x k v hop
    split at h
    · rename_i h' hv
      cases h
      refine ⟨h', undef, put_eq _ _ _, fun s2 hh hx => ?_⟩
      unfold aMem
      simp only [hop]
      rw [hx x (by rw [hop]; simp [Op.operands]), hx k (by rw [hop]; simp [Op.operands]), hx v (by rw [hop]; simp [Op.operands]), hh, hv]
      simp only [put_eq]
    · cases h
  · rename_i t l c hop
    unfold aMake at h
    split at h
    · rename_i kl ln kc cn e1 e2
      split at h
      · rename_i e hu
        split at h
        · rename_i i z hi hz
          split at h
          · rename_i hc
            cases h
            refine ⟨_, _, put_eq _ _ _, fun s2 hh hx => ?_⟩
            unfold aMem
            simp only [hop]
            rw [hx l (by rw [hop]; simp [Op.operands]), hx c (by rw [hop]; simp [Op.operands]), e1, e2]
            simp only [aMake, hu, hi, hz, hc, put_eq, hh]
          · cases h
        · cases h
      · cases h
    · cases h
  · rename_i t len parts hop
    unfold aBuildSlice at h
    split at h
    · rename_i e hu
      split at h
      · rename_i n z hn hz
        split at h
        · rename_i hc
          split at h
          · rename_i cells hf
            split at h
            · rename_i ho
              cases h
              refine ⟨_, _, put_eq _ _ _, fun s2 hh hx => ?_⟩
              unfold aMem
              simp only [hop]
              have hp : (parts.map fun (i, x) => (i, aev s2.t x)) = (parts.map fun (i, x) => (i, aev s.t x)) :=
                Array.map_congr_left fun p hp => by
                  obtain ⟨i, x⟩ := p
                  simp only [hx x (by rw [hop]; simp [Op.operands]; exact ⟨i, hp⟩)]
              rw [hp]
              simp only [aBuildSlice, hu, hn, hz, hc, hf, ho, put_eq, hh]
            · cases h
          · cases h
        · cases h
      · cases h
    · cases h
  · rename_i c hop
    split at h
    · rename_i x y t t' hcal hargs hat
      split at h
      · rename_i ht
        have hxx : ∀ z, z = x ∨ z = y → z ∈ o.op.operands := by
          intro z hz
          rw [hop]
          have : z ∈ c.args.toList := by rw [hargs]; simpa using hz
          simp [Op.operands, Call.operands, hcal]; simpa using this
        have fr : ∀ s2 : AS, s2.h = s.h → (∀ x ∈ o.op.operands, aev s2.t x = aev s.t x) → aMem P L o s2 = aAppend P t o.dst s2 (aev s.t x) (aev s.t y) := by
          intro s2 hh hx
          unfold aMem
          simp only [hop, hcal, hargs, hat, ht]
          rw [hx x (hxx x (.inl rfl)), hx y (hxx y (.inr rfl))]
        have srcs : ∀ s2 : AS, s2.h = s.h → ∀ n v, srcCells s2 n v = srcCells s n v := by
          intro s2 hh n v
          unfold srcCells
          split <;> simp only [hh]
        unfold aAppend at h
        split at h
        · rename_i e hu
          split at h
          · rename_i i z hi hz
            split at h
            · rename_i news m hc hsrc
              split at h
              · split at h
                · rename_i b l cc hv
                  cases h
                  refine ⟨_, _, put_eq _ _ _, fun s2 hh hx => ?_⟩
                  rw [fr s2 hh hx]
                  simp only [aAppend, hu, hi, hz, hc, srcs s2 hh, hsrc, hv, put_eq, hh]
                · cases h
              · split at h
                · rename_i hv
                  split at h
                  · rename_i hb
                    cases h
                    refine ⟨_, _, put_eq _ _ _, fun s2 hh hx => ?_⟩
                    rw [fr s2 hh hx]
                    simp only [aAppend, hu, hi, hz, hc, srcs s2 hh, hsrc, hv, hb, put_eq, hh]
                  · cases h
                · rename_i id g len zz hv
                  split at h
                  · rename_i blk hblk
                    split at h
                    · rename_i hb
                      cases h
                      refine ⟨_, _, put_eq _ _ _, fun s2 hh hx => ?_⟩
                      rw [fr s2 hh hx]
                      simp only [aAppend, hu, hi, hz, hc, srcs s2 hh, hsrc, hv, hb, put_eq, hh, hblk]
                    · cases h
                  · cases h
                · cases h
            · cases h
          · cases h
        · cases h
      · cases h
    · cases h
  · cases h
/-- A store, in any frame. -/
theorem get_set_ne {s : AHeap} {id id' : Nat} (b : ABlock) (h : id < s.size) (h' : id' < s.size) (ne : id' ≠ id) : (s.set id b).get id' = s.get id' := by
  have hz : (s.set id b).size = s.size := rfl
  rw [AHeap.get_lt h', AHeap.get_lt (by rw [hz]; exact h')]
  show (match (s.blocks.set (s.size - 1 - id) (some b))[s.size - 1 - id']? with | some o => o | none => none) = _
  rw [List.getElem?_set_ne (by omega)]
  rfl
theorem store_frame {t : TypeId} {x ad : Value} {s s1 : AS} (h : aStore P t x s ad = some s1) :
    (∃ k cells cells', (∃ off, ad = .pointer (some ⟨k, off, none⟩)) ∧ lget s.l k = some cells ∧ s1 = { s with l := lset s.l k cells' } ∧ ∀ s2 : AS, lget s2.l k = some cells → aStore P t x s2 ad = some { s2 with l := lset s2.l k cells' }) ∨
    (∃ h', (∀ k off, ad ≠ .pointer (some ⟨k, off, none⟩)) ∧ s1 = { s with h := h' } ∧ (∀ s2 : AS, s2.h = s.h → aStore P t x s2 ad = some { s2 with h := h' }) ∧ ∀ id b, (∀ off g, ad ≠ .pointer (some ⟨id, off, some g⟩)) → s.h.get id = some b → h'.get id = some b) := by
  unfold aStore at h
  split at h
  · rename_i k off
    split at h
    · rename_i n hn hok
      split at h
      · rename_i cells hs hl
        split at h
        · rename_i hb
          cases h
          refine .inl ⟨k, cells, _, ⟨off, rfl⟩, hl, rfl, fun s2 h2 => ?_⟩
          simp only [aStore, hn, hok, hs, h2, hb]
        · cases h
      · cases h
    · cases h
  · rename_i id off g
    split at h
    · rename_i n hn hok
      split at h
      · rename_i blk hs hl
        split at h
        · rename_i hb
          cases h
          refine .inr ⟨_, (by intro k o e; cases e), rfl, fun s2 h2 => ?_, fun id2 b2 hne hb2 => ?_⟩
          · simp only [aStore, hn, hok, hs, h2, hl, hb]
          · rw [get_set_ne _ (AHeap.lt_of_get hl) (AHeap.lt_of_get hb2) (fun e => hne off g (by rw [e]))]
            exact hb2
        · cases h
      · cases h
    · cases h
  · cases h

/-- A box, in any frame. -/
theorem box_frame {odst : Option Tmp} {el : TypeId} {cells : List Value} {s s1 : AS} (h : newBox L odst el cells s = some s1) :
    ∃ d, odst = some d ∧ ((lget s.l d = none ∧ s1 = ⟨tput s.t odst (.pointer (some ⟨d, 0, none⟩)), lset s.l d cells, s.h⟩ ∧ ∀ s2 : AS, lget s2.l d = none → newBox L odst el cells s2 = some ⟨tput s2.t odst (.pointer (some ⟨d, 0, none⟩)), lset s2.l d cells, s2.h⟩) ∨
      (s1 = ⟨tput s.t odst (.pointer (some ⟨s.h.size, 0, some 0⟩)), s.l, s.h.push ⟨cells, 0, false, el⟩⟩ ∧ ∀ s2 : AS, newBox L odst el cells s2 = some ⟨tput s2.t odst (.pointer (some ⟨s2.h.size, 0, some 0⟩)), s2.l, s2.h.push ⟨cells, 0, false, el⟩⟩)) := by
  unfold newBox at h
  split at h
  · rename_i d ho
    refine ⟨d, rfl, ?_⟩
    split at h
    · rename_i hm
      split at h
      · rename_i hl
        cases h
        exact .inl ⟨hl, rfl, fun s2 h2 => by simp only [newBox, ho, hm, h2, tput]⟩
      · cases h
    · rename_i hm
      cases h
      exact .inr ⟨rfl, fun s2 => by simp only [newBox, ho, hm, tput]⟩
  · cases h

theorem lget_lput {l : Locs} {dst : Option Tmp} {b : Option (List Value)} {k : Nat} (h : ∀ d, dst = some d → b ≠ none → k ≠ d) : lget (lput l dst b) k = lget l k := by
  unfold lput
  split
  · rename_i d c
    rw [lget_lset, if_neg (h d rfl (by simp))]
  · rfl

theorem isApp_op {o : Oper} {x : Operand} (h : isApp o = some x) : (∀ t ad y, o.op ≠ .store t ad y) ∧ x ∈ o.op.operands := by
  unfold isApp at h
  split at h
  · rename_i c hop
    split at h
    · rename_i x' y' hcal hargs
      cases h
      refine ⟨fun t ad y e => (by rw [hop] at e; cases e), ?_⟩
      rw [hop]
      have : x ∈ c.args.toList := by rw [hargs]; simp
      simp [Op.operands, Call.operands, hcal]; simpa using this
    · cases h
  · cases h
theorem saddr_app {o : Oper} {x : Operand} (h : isApp o = some x) (t : List Value) : saddr o t = some (sptr (aev t x)) := by
  unfold saddr
  split
  · rename_i ty ad y e; exact absurd e ((isApp_op h).1 ty ad y)
  · rw [h]
/-- An append leaves the other blocks alone. -/
theorem app_keep {o : Oper} {x : Operand} {s s1 : AS} (hx : isApp o = some x) (h : aMem P L o s = some s1) {id : Nat} {b : ABlock} (hb : s.h.get id = some b) (hne : ∀ off g, sptr (aev s.t x) ≠ .pointer (some ⟨id, off, some g⟩)) : s1.h.get id = some b := by
  unfold isApp at hx
  split at hx
  · rename_i c hop
    split at hx
    · rename_i x' y' hcal hargs
      cases hx
      unfold aMem at h
      simp only [hop] at h
      split at h
      · rename_i x1 y1 t1 t2 hcal' hargs' hat
        obtain rfl : x = x1 := by
          rw [hargs] at hargs'
          exact (List.cons.inj hargs').1
        split at h
        · unfold aAppend at h
          split at h
          · split at h
            · split at h
              · split at h
                · split at h
                  · cases h; rw [put_eq]; exact hb
                  · cases h
                · split at h
                  · split at h
                    · cases h
                      rw [put_eq]
                      show (s.h.push _).get id = some b
                      rw [AHeap.get_push_old _ _ (AHeap.lt_of_get hb)]; exact hb
                    · cases h
                  · rename_i id' g' len zz hv
                    split at h
                    · rename_i blk hblk
                      split at h
                      · cases h
                        rw [put_eq]
                        show (s.h.set id' _).get id = some b
                        rw [get_set_ne _ (AHeap.lt_of_get hblk) (AHeap.lt_of_get hb) (fun e => hne 0 g' (by rw [hv, e]; rfl))]
                        exact hb
                      · cases h
                    · cases h
                  · cases h
              · cases h
            · cases h
          · cases h
        · cases h
      · cases h
    · cases hx
  · cases hx
/-- **An operation and a local step may be exchanged.** -/
theorem AOne_comm {j : Nat} {oi oj : Oper} {e : Eff} {s : AS} {K : AS → Prop} {F : Bool} (hj : ops[j]? = some oj) (hap : oi.apart ops oj = true) (hkn : known s) (he : aEff P L ops oi s = some e)
    (hfresh : ∀ d, oi.dst = some d → e.box ≠ none → lget s.l d = none)
    (hkj : opKind oj ≠ 6) (hst : opKind oi = 1 → opKind oj = 3 → notW ops oi s.t = true ∨ stAp oi oj s.t = true) (hll : opKind oi = 1 → opKind oj = 4 → ((notW ops oi s.t = true ∨ loadLoc oi s.t = true) ∨ F = true) ∨ ((isApp oj).isSome = true ∧ (notW ops oi s.t = true ∨ stAp oi oj s.t = true)))
    (h : AOneF P L F ops j K (s.eff oi.dst e)) : AOneF P L F ops j (fun s' => aEff P L ops oi s' = some e ∧ (awanted ops oi s'.t = awanted ops oi s.t ∧ (loadLoc oi s'.t = loadLoc oi s.t ∧ laddr oi s'.t = laddr oi s.t)) ∧ (∀ d, oi.dst = some d → e.box ≠ none → lget s'.l d = none) ∧ Kept oj s s' ∧ K (s'.eff oi.dst e)) s := by
  obtain ⟨a1, a2, a3⟩ := Oper.apart_spec hap
  have ops_j : ∀ x ∈ oj.op.operands, aev (s.eff oi.dst e).t x = aev s.t x := fun x hx => aev_tput a1 hx
  have wj : awanted ops oj (s.eff oi.dst e).t = awanted ops oj s.t := awanted_tput a1
  have ops_i : ∀ (u : Value) (l : Locs) (h' : AHeap), ∀ x ∈ oi.op.operands, aev (⟨tput s.t oj.dst u, l, h'⟩ : AS).t x = aev s.t x := fun u l h' x hx => aev_tput a3 hx
  have wi : ∀ (u : Value) (l : Locs) (h' : AHeap), awanted ops oi (⟨tput s.t oj.dst u, l, h'⟩ : AS).t = awanted ops oi s.t := fun u l h' => awanted_tput a3
  have ll : ∀ u, loadLoc oi (tput s.t oj.dst u) = loadLoc oi s.t ∧ laddr oi (tput s.t oj.dst u) = laddr oi s.t := by
    intro u
    unfold loadLoc laddr
    split
    · rename_i t x hop
      rw [aev_tput (ops := ops) (o := oi) a3 (by rw [hop]; simp [Op.operands])]
      exact ⟨rfl, rfl⟩
    · exact ⟨rfl, rfl⟩
  have lpk : ∀ k, lget s.l k ≠ none → lget (s.eff oi.dst e).l k = lget s.l k := by
    intro k hk
    exact lget_lput fun d hd hb e1 => hk (by rw [e1]; exact hfresh d hd hb)
  -- a value put, the rest the same
  have putV : ∀ u, K ((s.eff oi.dst e).put oj.dst u) → aEff P L ops oi (s.put oj.dst u) = some e ∧ (awanted ops oi (s.put oj.dst u).t = awanted ops oi s.t ∧ (loadLoc oi (s.put oj.dst u).t = loadLoc oi s.t ∧ laddr oi (s.put oj.dst u).t = laddr oi s.t)) ∧ (∀ d, oi.dst = some d → e.box ≠ none → lget (s.put oj.dst u).l d = none) ∧ Kept oj s (s.put oj.dst u) ∧ K ((s.put oj.dst u).eff oi.dst e) := by
    intro u hk
    rw [put_eq] at hk ⊢
    refine ⟨aEff_frame he (wi u _ _) (ops_i u _ _) (fun _ t x hop v hv => aLoad_frame hv (fun _ _ _ => rfl) (fun _ _ _ _ _ hb => hb)) (fun d hd hl => .inl hl), ⟨wi u _ _, ll u⟩, hfresh, kept_put oj s u _ _, ?_⟩
    have e1 : (⟨tput s.t oj.dst u, s.l, s.h⟩ : AS).eff oi.dst e = ⟨tput (s.eff oi.dst e).t oj.dst u, (s.eff oi.dst e).l, (s.eff oi.dst e).h⟩ := by
      simp only [AS.eff]
      rw [tput_comm _ _ _ a2]
    rw [e1]; exact hk
  unfold AOneF at h ⊢
  simp only [hj] at h ⊢
  rw [wj] at h
  split at h
  · rename_i hw
    rcases h with ⟨s1, h1, hkp, h2⟩ | ⟨g, args, h1, h2⟩
    · unfold aStep at h1
      split at h1
      · rename_i hm
        -- the memory
        have step : ∀ s2, aMem P L oj s = some s2 → s1 = s2.eff oi.dst e → aEff P L ops oi s2 = some e → (awanted ops oi s2.t = awanted ops oi s.t ∧ (loadLoc oi s2.t = loadLoc oi s.t ∧ laddr oi s2.t = laddr oi s.t)) → (∀ d, oi.dst = some d → e.box ≠ none → lget s2.l d = none) → Kept oj s s2 → (F = true → opKind oj = 4 → AKeep s.h s2.h) →
            AOpF P L F oj (fun s' => aEff P L ops oi s' = some e ∧ (awanted ops oi s'.t = awanted ops oi s.t ∧ (loadLoc oi s'.t = loadLoc oi s.t ∧ laddr oi s'.t = laddr oi s.t)) ∧ (∀ d, oi.dst = some d → e.box ≠ none → lget s'.l d = none) ∧ Kept oj s s' ∧ K (s'.eff oi.dst e)) s := by
          intro s2 q1 q2 q3 q4 q5 q6 q7
          exact .inl ⟨s2, by simp only [aStep, hm]; exact q1, q7, q3, q4, q5, q6, by rw [← q2]; exact h2⟩
        have hk : opKind oj = 2 ∨ opKind oj = 3 ∨ opKind oj = 4 := by
          unfold memKind at hm
          split at hm
          · exact .inl ‹_›
          · exact .inr (.inl ‹_›)
          · exact .inr (.inr ‹_›)
          · cases hm
        rcases hk with hk | hk | hk
        · -- a box
          have hbox : ∃ el cells, (∀ s2 : AS, (∀ x ∈ oj.op.operands, aev s2.t x = aev s.t x) → aMem P L oj s2 = newBox L oj.dst el cells s2) := by
            unfold opKind at hk
            cases hop : oj.op with
            | alloc el =>
              cases hz : aZero P el with
              | none => simp [aMem, hop, hz] at h1
              | some z => exact ⟨el, z.cells.toList, fun s2 _ => by simp [aMem, hop, hz]⟩
            | box el x =>
              cases hok : okPart (aev s.t x) with
              | false =>
                have := ops_j x (by rw [hop]; simp [Op.operands])
                simp [aMem, hop, this, hok] at h1
              | true => exact ⟨el, (aev s.t x).cells.toList, fun s2 hx => by
                  have := hx x (by simp [Op.operands])
                  simp [aMem, hop, this, hok]⟩
            | call c => rw [hop] at hk; simp only at hk; split at hk <;> cases hk
            | _ => rw [hop] at hk; cases hk
          obtain ⟨el, cells, hb⟩ := hbox
          rw [hb _ ops_j] at h1
          obtain ⟨d, hd, hcase⟩ := box_frame h1
          have hne : ∀ d', oi.dst = some d' → d' ≠ d := fun d' hd' e1 => a2 d' hd' (by rw [hd, e1])
          rcases hcase with ⟨q1, q2, q3⟩ | ⟨q2, q3⟩
          · have q1' : lget s.l d = none := by
              have : lget (s.eff oi.dst e).l d = lget s.l d := lget_lput fun d' hd' _ e1 => hne d' hd' e1.symm
              rw [← this]; exact q1
            have q4 := q3 s q1'
            refine step _ (by rw [hb s (fun _ _ => rfl)]; exact q4) ?_ ?_ ⟨wi _ _ _, ll _⟩ ?_ (kept_put oj s _ _ _) (fun _ h4 => by rw [hk] at h4; cases h4)
            · rw [q2]
              simp only [AS.eff]
              rw [tput_comm _ _ _ a2]
              have := lput_comm s.l e.box (some cells) (x := oi.dst) (y := some d) (fun d' hd' e1 => hne d' hd' (by cases e1; rfl))
              have hl2 : ∀ l, lput l (some d) (some cells) = lset l d cells := fun l => rfl
              rw [hl2, hl2] at this
              rw [this]
            · refine aEff_frame he (wi _ _ _) (ops_i _ _ _) ?_ ?_
              · intro _ t x hop v hv
                refine aLoad_frame hv ?_ (fun _ _ _ _ _ hb => hb)
                intro k off hx
                have := known_aev hkn hx
                simp only
                rw [lget_lset, if_neg (fun e1 => this (by rw [e1]; exact q1'))]
              · intro d' hd' hl
                refine .inl ?_
                simp only
                rw [lget_lset, if_neg (hne d' hd')]; exact hl
            · intro d' hd' hbn
              simp only
              rw [lget_lset, if_neg (hne d' hd')]; exact hfresh d' hd' hbn
          · refine step _ (by rw [hb s (fun _ _ => rfl)]; exact q3 s) ?_ ?_ ⟨wi _ _ _, ll _⟩ ?_ (kept_put oj s _ _ _) (fun _ h4 => by rw [hk] at h4; cases h4)
            · rw [q2]
              simp only [AS.eff]
              rw [tput_comm _ _ _ a2]
            · refine aEff_frame he (wi _ _ _) (ops_i _ _ _) ?_ (fun d' hd' hl => .inl hl)
              intro _ t x hop v hv
              refine aLoad_frame hv (fun _ _ _ => rfl) ?_
              intro id off g hx b hb'
              simp only
              rw [AHeap.get_push_old _ _ (AHeap.lt_of_get hb')]; exact hb'
            · exact hfresh
        · -- a store
          have hop : ∃ t ad x, oj.op = .store t ad x := by
            unfold opKind at hk
            cases hop : oj.op with
            | store t ad x => exact ⟨t, ad, x, rfl⟩
            | call c => rw [hop] at hk; simp only at hk; split at hk <;> cases hk
            | _ => rw [hop] at hk; cases hk
          obtain ⟨t, ad, x, hop⟩ := hop
          have ex := ops_j x (by rw [hop]; simp [Op.operands])
          have ea := ops_j ad (by rw [hop]; simp [Op.operands])
          simp only [aMem, hop] at h1
          rw [ex, ea] at h1
          split at h1
          · rename_i s3 hs3
            cases h1
            have hst' : awanted ops oi s.t = some true → ∀ t x, oi.op = .load t x → apB (aev s.t x) (aev s.t ad) = true := fun hwt t x e1 => by
              have := (hst (by simp [opKind, e1]) hk).resolve_left (by simp [notW, hwt])
              unfold stAp laddr saddr at this
              rw [e1, hop] at this
              exact this
            rcases store_frame hs3 with ⟨k, cells, cells', ⟨off, q0⟩, q1, q2, q3⟩ | ⟨h', q0, q2, q3, qk⟩
            · have hkn' := known_aev hkn q0
              have q1' : lget s.l k = some cells := by rw [lpk k hkn'] at q1; exact q1
              have hkd : ∀ d, oi.dst = some d → e.box ≠ none → d ≠ k := fun d hd hbn e1 => by
                have := hfresh d hd hbn
                rw [e1, q1'] at this; cases this
              have q4 := q3 s q1'
              refine step ⟨tput s.t oj.dst undef, lset s.l k cells', s.h⟩ (by simp only [aMem, hop]; rw [q4]; simp only [put_eq]) ?_ ?_ ⟨wi _ _ _, ll _⟩ ?_ (kept_put oj s _ _ _) (fun _ h4 => by rw [hk] at h4; cases h4)
              · rw [q2, put_eq]
                simp only [AS.eff]
                rw [tput_comm _ _ _ a2]
                congr 1
                unfold lput
                split
                · rename_i d c hd hb
                  rw [lset_comm]
                  exact hkd d hd (by rw [hb]; simp)
                · rfl
              · refine aEff_frame he (wi _ _ _) (ops_i _ _ _) (fun hwt t x e1 v hv => by
                  have hl1 := hst' hwt t x e1
                  exact aLoad_frame hv (fun k2 off2 e2 => by
                    rw [e2, q0] at hl1
                    have hne : k2 ≠ k := fun e3 => by subst e3; simp [apB] at hl1
                    simp only
                    rw [lget_lset, if_neg hne]) (fun _ _ _ _ _ hb => hb)) ?_
                intro d' hd' hl
                refine .inl ?_
                simp only
                rw [lget_lset, if_neg (fun e1 => by rw [e1, q1'] at hl; cases hl)]; exact hl
              · intro d' hd' hbn
                simp only
                rw [lget_lset, if_neg (hkd d' hd' hbn)]; exact hfresh d' hd' hbn
            · have q4 := q3 s rfl
              refine step ⟨tput s.t oj.dst undef, s.l, h'⟩ (by simp only [aMem, hop]; rw [q4]; simp only [put_eq]) ?_ ?_ ⟨wi _ _ _, ll _⟩ hfresh (kept_put oj s _ _ _) (fun _ h4 => by rw [hk] at h4; cases h4)
              · rw [q2, put_eq]
                simp only [AS.eff]
                rw [tput_comm _ _ _ a2]
              · exact aEff_frame he (wi _ _ _) (ops_i _ _ _) (fun hwt t x e1 v hv => by
                  have hl1 := hst' hwt t x e1
                  refine aLoad_frame hv (fun _ _ _ => rfl) (fun id off g e2 b hb => qk id b (fun off2 g2 e3 => ?_) hb)
                  rw [e2, e3] at hl1
                  simp [apB] at hl1) (fun d' hd' hl => .inl hl)
          · cases h1
        · obtain ⟨h', v, q1, q2⟩ := mem4_frame hk h1
          have hkp' : F = true → AKeep s.h h' := fun a => by
            have := hkp a hk
            rw [q1] at this
            exact this
          refine step _ (q2 s rfl (fun x hx => (ops_j x hx).symm)) ?_ ?_ ⟨wi _ _ _, ll _⟩ hfresh (kept_put oj s _ _ _) (fun a _ => hkp' a)
          · rw [q1]
            simp only [AS.eff]
            rw [tput_comm _ _ _ a2]
          · refine aEff_frame he (wi _ _ _) (ops_i _ _ _) ?_ (fun d' hd' hl => .inl hl)
            intro hwt t x hop v' hv
            rcases hll (by simp [opKind, hop]) hk with (hl0 | hF) | ⟨ha, hs0⟩
            · have hl1 := hl0.resolve_left (by simp [notW, hwt])
              simp only [loadLoc, hop] at hl1
              obtain ⟨k, off, e1⟩ := isLoc_ptr hl1
              rw [e1] at hv ⊢
              exact aLoad_frame hv (fun _ _ _ => rfl) (fun id off g e2 => by cases e2)
            · exact aLoad_frame hv (fun _ _ _ => rfl) (fun id off g _ b hb => hkp' hF id b hb)
            · have hs1 := hs0.resolve_left (by simp [notW, hwt])
              obtain ⟨x0, hx0⟩ := Option.isSome_iff_exists.1 ha
              have ho := isApp_op hx0
              refine aLoad_frame hv (fun _ _ _ => rfl) (fun id off g e2 b hb => ?_)
              have hk2 := app_keep hx0 h1 (id := id) (b := b) hb (fun off' g' e3 => by
                rw [ops_j x0 ho.2] at e3
                unfold stAp at hs1
                rw [saddr_app hx0] at hs1
                simp only [laddr, hop, e2, e3, apB, Abs.beq_self] at hs1
                cases hs1)
              rw [q1] at hk2
              exact hk2
      · rename_i hm
        split at h1
        · rename_i u hu
          cases h1
          have hu' : aVal P oj s = some u := by
            by_cases hld : ∃ t x, oj.op = .load t x
            · obtain ⟨t, x, hop⟩ := hld
              simp only [aVal, hop] at hu ⊢
              have ex := ops_j x (by rw [hop]; simp [Op.operands])
              rw [ex] at hu
              refine aLoad_frame hu ?_ (fun _ _ _ _ _ hb => hb)
              intro k off hx
              exact (lpk k (known_aev hkn hx)).symm
            · rw [aVal_congr (s := s) (s' := s.eff oi.dst e) (fun t x hop => hld ⟨t, x, hop⟩) (fun x hx => (ops_j x hx).symm)]; exact hu
          exact .inl ⟨s.put oj.dst u, by simp only [aStep, hm, hu'], (fun _ _ => by rw [put_eq]; exact fun _ _ hb => hb), putV u h2⟩
        · cases h1
    · rw [callArgs_congr (t' := s.t) ops_j] at h1
      have hk4 : opKind oj = 4 := by
        unfold callArgs at h1
        split at h1
        · rename_i c hop
          split at h1
          · rename_i fx hcal; simp [opKind, hop, hcal]
          · cases h1
        · cases h1
      refine .inr ⟨g, args, h1, ACalls.mono h2 ?_⟩
      rintro v h' ⟨hfr, hk⟩
      refine ⟨hfr, ?_⟩
      rw [put_eq] at hk ⊢
      refine ⟨aEff_frame he (wi v _ _) (ops_i v _ _) ?_ (fun d hd hl => .inl hl), ⟨wi v _ _, ll v⟩, hfresh, kept_put oj s v _ _, ?_⟩
      · intro hwt t x hop v' hv
        rcases hll (by simp [opKind, hop]) hk4 with (hl0 | hF) | ⟨ha, _⟩
        · have hl1 := hl0.resolve_left (by simp [notW, hwt])
          simp only [loadLoc, hop] at hl1
          obtain ⟨k, off, e1⟩ := isLoc_ptr hl1
          rw [e1] at hv ⊢
          exact aLoad_frame hv (fun _ _ _ => rfl) (fun id off g e2 => by cases e2)
        · exact aLoad_frame hv (fun _ _ _ => rfl) (fun id off g _ b hb => hfr hF id b hb)
        · exfalso
          unfold callArgs at h1
          unfold isApp at ha
          split at h1
          · rename_i c hc
            rw [hc] at ha
            split at h1
            · rename_i fx hcal
              simp only [hcal] at ha
              cases ha
            · cases h1
          · cases h1
      · have e1 : (⟨tput s.t oj.dst v, s.l, h'⟩ : AS).eff oi.dst e = ⟨tput (s.eff oi.dst e).t oj.dst v, (s.eff oi.dst e).l, h'⟩ := by
          simp only [AS.eff]
          rw [tput_comm _ _ _ a2]
        rw [e1]; exact hk
  · rename_i hw
    exact putV undef h
  · exact h.elim

/-- The same, where a maker may choose the place of its block. -/
theorem AOne_commG {j : Nat} {oi oj : Oper} {e : Eff} {s : AS} {K : AS → Prop} {F : Bool} (hj : ops[j]? = some oj) (hap : oi.apart ops oj = true) (hwf : s.h.wf) (hkn : known s) (he : aEff P L ops oi s = some e)
    (hfresh : ∀ d, oi.dst = some d → e.box ≠ none → lget s.l d = none)
    (hkj : opKind oj ≠ 6) (hst : opKind oi = 1 → opKind oj = 3 → notW ops oi s.t = true ∨ stAp oi oj s.t = true) (hll : opKind oi = 1 → opKind oj = 4 → ((notW ops oi s.t = true ∨ loadLoc oi s.t = true) ∨ F = true) ∨ ((isApp oj).isSome = true ∧ (notW ops oi s.t = true ∨ stAp oi oj s.t = true)))
    (h : AOneG P L F ops j K (s.eff oi.dst e)) : AOneG P L F ops j (fun s' => aEff P L ops oi s' = some e ∧ (awanted ops oi s'.t = awanted ops oi s.t ∧ (loadLoc oi s'.t = loadLoc oi s.t ∧ laddr oi s'.t = laddr oi s.t)) ∧ (∀ d, oi.dst = some d → e.box ≠ none → lget s'.l d = none) ∧ Kept oj s s' ∧ K (s'.eff oi.dst e)) s := by
  rcases h with h | ⟨o, p, s1, h1, h2, h3, h4⟩
  · exact .inl (AOne_comm hj hap hkn he hfresh hkj hst hll h)
  rw [hj] at h1; cases h1
  obtain ⟨a1, a2, a3⟩ := Oper.apart_spec hap
  have ops_j : ∀ x ∈ oj.op.operands, aev (s.eff oi.dst e).t x = aev s.t x := fun x hx => aev_tput a1 hx
  have wj : awanted ops oj (s.eff oi.dst e).t = awanted ops oj s.t := awanted_tput a1
  rw [wj] at h2
  unfold aMkAt at h3
  rw [mkOf_congr ops_j] at h3
  split at h3
  · rename_i b n z hmk
    split at h3
    · rename_i id h' hal
      have hal : alAt p s.h b = some (id, h') := hal
      obtain ⟨_, g1, g2⟩ := alAt_get hwf hal
      cases h3
      have ll : loadLoc oi (tput s.t oj.dst (.slice (some ⟨id, 0, some 0⟩) n z)) = loadLoc oi s.t ∧ laddr oi (tput s.t oj.dst (.slice (some ⟨id, 0, some 0⟩) n z)) = laddr oi s.t := by
        unfold loadLoc laddr
        split
        · rename_i t x hop
          rw [aev_tput (ops := ops) (o := oi) a3 (by rw [hop]; simp [Op.operands])]
          exact ⟨rfl, rfl⟩
        · exact ⟨rfl, rfl⟩
      refine .inr ⟨oj, p, ⟨tput s.t oj.dst (.slice (some ⟨id, 0, some 0⟩) n z), s.l, h'⟩, hj, h2, by unfold aMkAt; rw [hmk]; simp only [hal], ?_, ⟨awanted_tput a3, ll⟩, hfresh, kept_put oj s _ _ _, ?_⟩
      · refine aEff_frame he (awanted_tput a3) (fun x hx => aev_tput a3 hx) ?_ (fun d' hd' hl => .inl hl)
        intro _ t x hop v hv
        refine aLoad_frame hv (fun _ _ _ => rfl) ?_
        intro id' off g hx b' hb'
        show h'.get id' = some b'
        rw [g2, if_neg (fun e1 => by rw [e1, g1] at hb'; cases hb')]
        exact hb'
      · have e1 : (⟨tput s.t oj.dst (.slice (some ⟨id, 0, some 0⟩) n z), s.l, h'⟩ : AS).eff oi.dst e = ⟨tput (s.eff oi.dst e).t oj.dst (.slice (some ⟨id, 0, some 0⟩) n z), (s.eff oi.dst e).l, h'⟩ := by
          simp only [AS.eff]
          rw [tput_comm _ _ _ a2]
        rw [e1]; exact h4
    · cases h3
  · cases h3
theorem aEff_rsv {o : Oper} {s : AS} {e : Eff} (h : aEff P L ops o s = some e) (r : Nat) : aEff P L ops o ⟨s.t, s.l, s.h.rsv r⟩ = some e := by
  refine aEff_frame h rfl (fun _ _ => rfl) ?_ (fun d hd hl => .inl hl)
  intro _ t x hop v hv
  exact aLoad_frame hv (fun _ _ _ => rfl) (fun id off g hx b hb => by show (s.h.rsv r).get id = some b; rw [AHeap.rsv_get]; exact hb)

/-- A maker that came first, and its block in a place that was kept free. -/
theorem mk_comm {n : Nat} {b : ABlock} {len z : Nat} {i j : Nat} {oi oj : Oper} {s : AS} {K : AS → Prop} {F : Bool} (hj : ops[j]? = some oj) (hap : oi.apart ops oj = true) (hwf : s.h.wf) (hn : n < s.h.size) (hfree : s.h.get n = none) (hmk : mkOf P oi s.t = some (b, len, z))
    (hkj : opKind oj = 0 ∨ opKind oj = 2 ∨ isMk oj = true)
    (h : AOneG P L F ops j K ⟨tput s.t oi.dst (.slice (some ⟨n, 0, some 0⟩) len z), s.l, s.h.set n b⟩) :
    AOneG P L F ops j (fun s' => n < s'.h.size ∧ s'.h.get n = none ∧ mkOf P oi s'.t = some (b, len, z) ∧ K ⟨tput s'.t oi.dst (.slice (some ⟨n, 0, some 0⟩) len z), s'.l, s'.h.set n b⟩) s := by
  obtain ⟨a1, a2, a3⟩ := Oper.apart_spec hap
  generalize hv : (Value.slice (some ⟨n, 0, some 0⟩) len z) = v at h ⊢
  have ops_j : ∀ x ∈ oj.op.operands, aev (tput s.t oi.dst v) x = aev s.t x := fun x hx => aev_tput a1 hx
  have wj : awanted ops oj (tput s.t oi.dst v) = awanted ops oj s.t := awanted_tput a1
  have keepmk : ∀ u, mkOf P oi (tput s.t oj.dst u) = some (b, len, z) := fun u => by rw [← hmk]; exact mkOf_congr fun x hx => aev_tput a3 hx
  have gset : (s.h.set n b).get n = some b := by rw [AHeap.get_fill s.h hwf hn, if_pos rfl]
  -- a result that leaves the memory alone
  have plain : ∀ (u : Value) (l : Locs), K ⟨tput (tput s.t oi.dst v) oj.dst u, l, s.h.set n b⟩ → (n < s.h.size ∧ s.h.get n = none ∧ mkOf P oi (tput s.t oj.dst u) = some (b, len, z) ∧ K ⟨tput (tput s.t oj.dst u) oi.dst v, l, s.h.set n b⟩) := by
    intro u l hk
    refine ⟨hn, hfree, keepmk u, ?_⟩
    rw [← tput_comm _ _ _ a2]; exact hk
  -- a new block at the end
  have push : ∀ (u : Value) (l : Locs) (b2 : ABlock), K ⟨tput (tput s.t oi.dst v) oj.dst u, l, (s.h.set n b).push b2⟩ → (n < (s.h.push b2).size ∧ (s.h.push b2).get n = none ∧ mkOf P oi (tput s.t oj.dst u) = some (b, len, z) ∧ K ⟨tput (tput s.t oj.dst u) oi.dst v, l, (s.h.push b2).set n b⟩) := by
    intro u l b2 hk
    refine ⟨by show n < s.h.size + 1; omega, by rw [AHeap.get_push_old _ _ hn]; exact hfree, keepmk u, ?_⟩
    rw [← tput_comm _ _ _ a2]
    have : (s.h.push b2).set n b = (s.h.set n b).push b2 := by
      unfold AHeap.set AHeap.push
      simp only
      rw [show s.h.size + 1 - 1 - n = (s.h.size - 1 - n) + 1 by omega, List.set_cons_succ]
    rw [this]; exact hk
  have mkCase : isMk oj = true → awanted ops oj s.t = some true → ∀ p s1, aMkAt P oj p ⟨tput s.t oi.dst v, s.l, s.h.set n b⟩ = some s1 → K s1 → AOneG P L F ops j (fun s' => n < s'.h.size ∧ s'.h.get n = none ∧ mkOf P oi s'.t = some (b, len, z) ∧ K ⟨tput s'.t oi.dst v, s'.l, s'.h.set n b⟩) s := by
    intro hm hw p s1 h3 h4
    unfold aMkAt at h3
    simp only at h3
    rw [mkOf_congr ops_j] at h3
    split at h3
    · rename_i b2 n2 z2 hmk2
      split at h3
      · rename_i id h' hal
        cases h3
        cases p with
        | zero =>
          unfold alAt at hal
          cases hal
          exact .inr ⟨oj, 0, ⟨tput s.t oj.dst (.slice (some ⟨s.h.size, 0, some 0⟩) n2 z2), s.l, s.h.push b2⟩, hj, hw, by unfold aMkAt; rw [hmk2]; rfl, push _ _ _ h4⟩
        | succ k =>
          unfold alAt at hal
          simp only at hal
          split at hal
          · rename_i g1 g2
            cases hal
            have hks : id < s.h.size := by simpa [Nat.blt_eq, AHeap.set] using g1
            have hne : id ≠ n := fun e => by rw [e, gset] at g2; cases g2
            have gk : s.h.get id = none := by rw [AHeap.get_fill s.h hwf hn, if_neg hne] at g2; exact g2
            refine .inr ⟨oj, id + 1, ⟨tput s.t oj.dst (.slice (some ⟨id, 0, some 0⟩) n2 z2), s.l, s.h.set id b2⟩, hj, hw, ?_, hn, ?_, keepmk _, ?_⟩
            · unfold aMkAt; rw [hmk2]
              have gb : Nat.blt id s.h.size = true := g1
              simp only [alAt, gb, gk]
            · rw [AHeap.get_fill s.h hwf hks, if_neg (Ne.symm hne)]; exact hfree
            · simp only
              rw [← tput_comm _ _ _ a2]
              have : (s.h.set id b2).set n b = (s.h.set n b).set id b2 := by
                unfold AHeap.set
                simp only
                rw [List.set_comm _ _ (by omega)]
              rw [this]; exact h4
          · cases hal
      · cases h3
    · cases h3
  rcases h with h | ⟨o, p, s1, h1, h2, h3, h4⟩
  · unfold AOneF at h
    simp only [hj] at h
    rw [wj] at h
    cases hw : awanted ops oj s.t with
    | none => rw [hw] at h; exact h.elim
    | some bb =>
      rw [hw] at h
      cases bb with
      | false =>
        refine .inl ?_
        unfold AOneF
        simp only [hj, hw]
        rw [put_eq] at h ⊢
        exact plain undef s.l h
      | true =>
        simp only at h
        rcases h with ⟨s1, h1, h2, h3⟩ | ⟨g, args, h1, _⟩
        · rcases hkj with hk | hk | hk
          · refine .inl ?_
            unfold AOneF
            simp only [hj, hw]
            have nl : ∀ t x, oj.op ≠ .load t x := fun t x e => by unfold opKind at hk; rw [e] at hk; cases hk
            have hmem : memKind oj = false := by unfold memKind; rw [hk]; rfl
            unfold aStep at h1
            rw [hmem] at h1
            simp only at h1
            split at h1
            · rename_i u hu
              cases h1
              rw [put_eq] at h3
              rw [aVal_congr (s' := s) nl ops_j] at hu
              refine .inl ⟨s.put oj.dst u, by unfold aStep; rw [hmem]; simp only [hu], fun _ e => (by rw [hk] at e; cases e), ?_⟩
              rw [put_eq]
              exact plain u s.l h3
            · cases h1
          · refine .inl ?_
            unfold AOneF
            simp only [hj, hw]
            have hmem : memKind oj = true := by unfold memKind; rw [hk]; rfl
            unfold aStep at h1
            rw [hmem] at h1
            simp only at h1
            have box : ∀ el cells, newBox L oj.dst el cells ⟨tput s.t oi.dst v, s.l, s.h.set n b⟩ = some s1 → ∃ s2, newBox L oj.dst el cells s = some s2 ∧ (n < s2.h.size ∧ s2.h.get n = none ∧ mkOf P oi s2.t = some (b, len, z) ∧ K ⟨tput s2.t oi.dst v, s2.l, s2.h.set n b⟩) := by
              intro el cells hb
              obtain ⟨d, hd, hb | hb⟩ := box_frame hb
              · obtain ⟨q1, rfl, q3⟩ := hb
                exact ⟨_, q3 s q1, plain _ _ h3⟩
              · obtain ⟨rfl, q3⟩ := hb
                exact ⟨_, q3 s, push _ _ _ h3⟩
            have done : ∀ s2, aMem P L oj s = some s2 → (n < s2.h.size ∧ s2.h.get n = none ∧ mkOf P oi s2.t = some (b, len, z) ∧ K ⟨tput s2.t oi.dst v, s2.l, s2.h.set n b⟩) → AOpF P L F oj (fun s' => n < s'.h.size ∧ s'.h.get n = none ∧ mkOf P oi s'.t = some (b, len, z) ∧ K ⟨tput s'.t oi.dst v, s'.l, s'.h.set n b⟩) s :=
              fun s2 e1 e2 => .inl ⟨s2, by unfold aStep; rw [hmem]; exact e1, fun _ e => (by rw [hk] at e; cases e), e2⟩
            cases hop : oj.op with
            | alloc el =>
              unfold aMem at h1
              rw [hop] at h1
              simp only at h1
              split at h1
              · rename_i zz hz
                obtain ⟨s2, e1, e2⟩ := box _ _ h1
                exact done s2 (by unfold aMem; rw [hop]; simp only [hz]; exact e1) e2
              · cases h1
            | box el x =>
              unfold aMem at h1
              rw [hop] at h1
              simp only at h1
              rw [ops_j x (by rw [hop]; simp [Op.operands])] at h1
              split at h1
              · rename_i hok
                obtain ⟨s2, e1, e2⟩ := box _ _ h1
                exact done s2 (by unfold aMem; rw [hop]; simp only [hok]; exact e1) e2
              · cases h1
            | _ => exfalso; unfold opKind at hk; rw [hop] at hk; simp at hk <;> (split at hk <;> cases hk)
          · unfold aStep at h1
            rw [(mk_kind hk).1] at h1
            simp only at h1
            obtain ⟨b2, n2, z2, q1, q2⟩ := mk_step hk h1
            exact mkCase hk hw 0 s1 (by unfold aMkAt; rw [q1, q2]; rfl) h3
        · exfalso
          unfold callArgs at h1
          split at h1
          · rename_i c hop
            split at h1
            · rename_i fx hcal
              rcases hkj with hk | hk | hk
              · unfold opKind at hk; rw [hop] at hk; simp [hcal] at hk
              · unfold opKind at hk; rw [hop] at hk; simp [hcal] at hk
              · unfold isMk at hk; rw [hop] at hk; cases hk
            · cases h1
          · cases h1
  · rw [hj] at h1; cases h1
    simp only at h2
    rw [wj] at h2
    have hm : isMk oj = true := by
      unfold aMkAt mkOf at h3
      unfold isMk
      simp only at h3
      split at h3
      · rename_i hh
        split at hh
        · rfl
        · rfl
        · cases hh
      · cases h3
    exact mkCase hm h2 p s1 h3 h4
end
end Go.Proofs.Ytimeninncpmaeaa.Abs
