/-
  A run of a function on abstract states, by computing; what it comes to holds in the model.
-/
import Derived.Test.YtimeninncpmaeaaVj
namespace Go.Proofs.Ytimeninncpmaeaa.Abs
open Go
set_option linter.unusedVariables false
set_option linter.unusedSimpArgs false

structure FEnt where
  f : Nat
  L : List Nat
  D : List (Nat × List (Nat × Nat))

def tget : List FEnt → Nat → Option FEnt
  | [], _ => none
  | e :: r, f => match Nat.beq e.f f with
    | true => some e
    | false => tget r f
def dget : List (Nat × List (Nat × Nat)) → Nat → Option (List (Nat × Nat))
  | [], _ => none
  | (i, l) :: r, k => match Nat.beq i k with
    | true => some l
    | false => dget r k

/-- Values that are plainly the same. -/
def natOptEq : Option Nat → Option Nat → Bool
  | none, none => true
  | some a, some b => Nat.beq a b
  | _, _ => false
def addrEq : Addr → Addr → Bool
  | ⟨i, o, g⟩, ⟨i', o', g'⟩ => Nat.beq i i' && (Nat.beq o o' && natOptEq g g')
def vSame0 : Value → Value → Bool
  | .int k a, .int k' b => decide (k = k') && decide (a = b)
  | .bool a, .bool b => a == b
  | .string a, .string b => a.data.toList == b.data.toList
  | .slice none n z, .slice none n' z' => Nat.beq n n' && Nat.beq z z'
  | .slice (some a) n z, .slice (some b) n' z' => addrEq a b && (Nat.beq n n' && Nat.beq z z')
  | .pointer none, .pointer none => true
  | .pointer (some a), .pointer (some b) => addrEq a b
  | .map none, .map none => true
  | .map (some a), .map (some b) => Nat.beq a b
  | .nilFunc, .nilFunc => true
  | .nilIface, .nilIface => true
  | _, _ => false
def vsSame0 : List Value → List Value → Bool
  | [], [] => true
  | a :: r, b :: t => vSame0 a b && vsSame0 r t
  | _, _ => false
def vSame : Value → Value → Bool
  | .agg c, .agg d => vsSame0 c.toList d.toList
  | a, b => vSame0 a b
def vsSame : List Value → List Value → Bool
  | [], [] => true
  | a :: r, b :: t => vSame a b && vsSame r t
  | _, _ => false
def blkSame (a b : ABlock) : Bool := (Nat.beq a.gen b.gen && (a.ro == b.ro && Nat.beq a.el b.el)) && vsSame a.cells b.cells
/-- Whether what was there in the memory is there. -/
def heapKeepB (h h' : AHeap) : Bool := (List.range h.size).all fun i => match h.get i, h'.get i with
  | none, _ => true
  | some a, some b => blkSame a b
  | some _, none => false
theorem natOptEq_eq {a b : Option Nat} (h : natOptEq a b = true) : a = b := by
  unfold natOptEq at h
  split at h
  · rfl
  · rw [Nat.eq_of_beq_eq_true h]
  · cases h
theorem addrEq_eq {a b : Addr} (h : addrEq a b = true) : a = b := by
  obtain ⟨i, o, g⟩ := a
  obtain ⟨i', o', g'⟩ := b
  simp only [addrEq, Bool.and_eq_true] at h
  rw [Nat.eq_of_beq_eq_true h.1, Nat.eq_of_beq_eq_true h.2.1, natOptEq_eq h.2.2]
theorem vSame0_eq {a b : Value} (h : vSame0 a b = true) : a = b := by
  unfold vSame0 at h
  split at h
  · simp only [Bool.and_eq_true, decide_eq_true_eq] at h; rw [h.1, h.2]
  · rw [beq_iff_eq.1 h]
  · rename_i x y
    have h := beq_iff_eq.1 h
    obtain ⟨⟨x⟩⟩ := x
    obtain ⟨⟨y⟩⟩ := y
    simp only at h
    rw [h]
  · simp only [Bool.and_eq_true] at h; rw [Nat.eq_of_beq_eq_true h.1, Nat.eq_of_beq_eq_true h.2]
  · simp only [Bool.and_eq_true] at h; rw [addrEq_eq h.1, Nat.eq_of_beq_eq_true h.2.1, Nat.eq_of_beq_eq_true h.2.2]
  · rfl
  · rw [addrEq_eq h]
  · rfl
  · rw [Nat.eq_of_beq_eq_true h]
  · rfl
  · rfl
  · cases h
theorem vsSame0_eq : ∀ {a b : List Value}, vsSame0 a b = true → a = b
  | [], [], _ => rfl
  | [], _ :: _, h => by cases h
  | _ :: _, [], h => by cases h
  | a :: r, b :: t, h => by
    simp only [vsSame0, Bool.and_eq_true] at h
    rw [vSame0_eq h.1, vsSame0_eq h.2]
theorem vSame_eq {a b : Value} (h : vSame a b = true) : a = b := by
  unfold vSame at h
  split at h
  · rename_i c d
    have := vsSame0_eq h
    obtain ⟨c⟩ := c
    obtain ⟨d⟩ := d
    simp only at this
    rw [this]
  · exact vSame0_eq h
theorem vsSame_eq : ∀ {a b : List Value}, vsSame a b = true → a = b
  | [], [], _ => rfl
  | [], _ :: _, h => by cases h
  | _ :: _, [], h => by cases h
  | a :: r, b :: t, h => by
    simp only [vsSame, Bool.and_eq_true] at h
    rw [vSame_eq h.1, vsSame_eq h.2]
theorem heapKeepB_keep {h h' : AHeap} (k : heapKeepB h h' = true) : AKeep h h' := by
  intro id b hb
  have := List.all_eq_true.1 k id (List.mem_range.2 (AHeap.lt_of_get hb))
  rw [hb] at this
  cases hc : h'.get id with
  | none => rw [hc] at this; cases this
  | some c =>
    rw [hc] at this
    obtain ⟨c1, g1, r1, e1⟩ := b
    obtain ⟨c2, g2, r2, e2⟩ := c
    simp only [blkSame, Bool.and_eq_true] at this
    obtain ⟨⟨q1, q2, q3⟩, q4⟩ := this
    rw [Nat.eq_of_beq_eq_true q1, beq_iff_eq.1 q2, Nat.eq_of_beq_eq_true q3, vsSame_eq q4]

abbrev Caller := FuncId → List Value → AHeap → Option (Value × AHeap)

def rOp (call : Caller) (P : Program) (L : List Nat) (o : Oper) (s : AS) : Option AS :=
  match callArgs P o s.t with
  | some (g, args) => match call g args s.h with
    | some (v, h') => some ({ s with h := h' }.put o.dst v)
    | none => none
  | none => aStep P L o s
def rOne (call : Caller) (P : Program) (L : List Nat) (ops : Array Oper) (o : Oper) (s : AS) : Option AS :=
  match awanted ops o s.t with
  | some true => rOp call P L o s
  | some false => some (s.put o.dst undef)
  | none => none
def rOps (call : Caller) (P : Program) (L : List Nat) (ops : Array Oper) : List Oper → AS → Option AS
  | [], s => some s
  | o :: r, s => match rOne call P L ops o s with
    | some s' => rOps call P L ops r s'
    | none => none
def rEag (call : Caller) (P : Program) (L : List Nat) (ops : Array Oper) : List (Nat × Nat) → AS → Option AS
  | [], s => some s
  | (i, 0) :: r, s => match ops[i]? with
    | some o => match rOne call P L ops o s with
      | some s' => rEag call P L ops r s'
      | none => none
    | none => none
  | (i, 1) :: r, s => match ops[i]? with
    | some o => match rOne call P L ops o s with
      | some s' => match heapKeepB s.h s'.h with
        | true => rEag call P L ops r s'
        | false => none
      | none => none
    | none => none
  | (i, 2) :: r, s => match ops[i]? with
    | some o => match aEff P L ops o s with
      | some e => rEag call P L ops r (s.eff o.dst e)
      | none => none
    | none => none
  | (i, m + 3) :: r, s => match ops[i]? with
    | some o => match aEff P L ops o s with
      | some e => match modeB ops (m + 1) o s.t with
        | true => rEag call P L ops r (s.eff o.dst e)
        | false => none
      | none => none
    | none => none
def rIter (f : AS → Option (Exit × AS)) : Nat → AS → Option (Exit × AS)
  | 0, _ => none
  | k + 1, s => match f s with
    | some (.normal, s') => rIter f k s'
    | some (e, s') => some (e, s')
    | none => none
def rCode (n : Nat) (call : Caller) (P : Program) (L : List Nat) (D : List (Nat × List (Nat × Nat))) : Code → AS → Option (Exit × AS)
  | .skip, s => some (.normal, s)
  | .label _, s => some (.normal, s)
  | .ret, s => some (.ret, s)
  | .exit id, s => some (.exit id, s)
  | .region id ops d, s => match d with
    | false => match rOps call P L ops ops.toList (prepL ops.toList s) with
      | some s' => some (.normal, s')
      | none => none
    | true => match dget D id with
      | some l => match splitPair l with
        | none => match rEag call P L ops l (prepL ops.toList s) with
          | some s' => some (.normal, s')
          | none => none
        | some (l0, i, j) => match rEag call P L ops l0 (prepL ops.toList s) with
          | some s' => match pairRun P ops i j s' with
            | some s2 => some (.normal, s2)
            | none => none
          | none => none
      | none => none
  | .seq x y, s => match rCode n call P L D x s with
    | some (.normal, s') => rCode n call P L D y s'
    | some (e, s') => some (e, s')
    | none => none
  | .cond c x y, s => match aev s.t c with
    | .bool true => rCode n call P L D x s
    | .bool false => rCode n call P L D y s
    | _ => none
  | .block id c, s => match rCode n call P L D c s with
    | some (.exit id', s') => match Nat.beq id' id with
      | true => some (.normal, s')
      | false => some (.exit id', s')
    | some (e, s') => some (e, s')
    | none => none
  | .scope c, s => match rCode n call P L D c s with
    | some (e, s') => match noGotoB e with
      | true => some (e, s')
      | false => none
    | none => none
  | .loop c, s => rIter (rCode n call P L D c) n s
  | _, _ => none
def rCall (n : Nat) (P : Program) (T : List FEnt) : Nat → Caller
  | 0, _, _, _ => none
  | m + 1, f, args, h => match tget T f with
    | some e => match P.funcs[f]? with
      | some fn => match fn.body with
        | some c => match rCode n (rCall n P T m) P e.L e.D c { t := args ++ List.replicate (fn.ntmps - args.length) undef, l := [], h := h } with
          | some (.normal, s) => match aResults P fn s with
            | some v => some (v, s.h)
            | none => none
          | some (.ret, s) => match aResults P fn s with
            | some v => some (v, s.h)
            | none => none
          | _ => none
        | none => none
      | none => none
    | none => none

def drawsOk (D : List (Nat × List (Nat × Nat))) : Code → Bool
  | .region id ops true => match dget D id with
    | some l => match splitPair l with
      | none => Nat.beq l.length ops.size && eagerB ops (frOf l) l (Array.replicate ops.size false)
      | some (l0, i, j) => (Nat.beq (l0.length + 2) ops.size && eagerB2 ops (frOf l0) i j l0 (Array.replicate ops.size false)) && (!(frOf l0 i) && !(frOf l0 j))
    | none => true
  | .seq x y => drawsOk D x && drawsOk D y
  | .cond _ x y => drawsOk D x && drawsOk D y
  | .block _ c => drawsOk D c
  | .loop c => drawsOk D c
  | .scope c => drawsOk D c
  | _ => true
def tabOk (P : Program) (T : List FEnt) : Bool := T.all fun e => match P.funcs[e.f]? with
  | some fn => match fn.body with
    | some c => drawsOk e.D c
    | none => true
  | none => true

section
variable {P : Program} {L : List Nat}

theorem tget_mem {T : List FEnt} {f : Nat} {e : FEnt} (h : tget T f = some e) : e ∈ T ∧ e.f = f := by
  induction T with
  | nil => cases h
  | cons x r ih =>
    simp only [tget] at h
    split at h
    · rename_i hb; cases h; exact ⟨by simp, Nat.eq_of_beq_eq_true hb⟩
    · obtain ⟨h1, h2⟩ := ih h; exact ⟨by simp [h1], h2⟩

def Sure (P : Program) (call : Caller) : Prop := ∀ g args h v h', call g args h = some (v, h') → ACalls P g args h fun v' h'' => v' = v ∧ h'' = h'

theorem rOp_sound {call : Caller} (hc : Sure P call) {o : Oper} {s s' : AS} {K : AS → Prop} (h : rOp call P L o s = some s') (hk : K s') : AOp P L o K s := by
  unfold rOp at h
  split at h
  · rename_i g args ha
    split at h
    · rename_i v h' hr
      cases h
      exact .inr ⟨g, args, ha, (hc _ _ _ _ _ hr).mono fun v' h'' ⟨e1, e2⟩ => by subst e1; subst e2; exact hk⟩
    · cases h
  · exact .inl ⟨s', h, hk⟩
theorem rOne_sound {call : Caller} (hc : Sure P call) {ops : Array Oper} {i : Nat} {o : Oper} (ho : ops[i]? = some o) {s s' : AS} {K : AS → Prop} (h : rOne call P L ops o s = some s') (hk : K s') : AOne P L ops i K s := by
  unfold rOne at h
  unfold AOne
  simp only [ho]
  split at h
  · rename_i hw; rw [hw]; exact rOp_sound hc h hk
  · rename_i hw; rw [hw]; cases h; exact hk
  · cases h
theorem rOps_sound {call : Caller} (hc : Sure P call) {ops : Array Oper} {K : AS → Prop} : ∀ (l : List Oper) (k : Nat) (s s' : AS), (∀ j, l[j]? = ops[k + j]?) → rOps call P L ops l s = some s' → K s' → AOps P L ops (List.range' k l.length) K s
  | [], k, s, s', _, h, hk => by simp only [rOps, Option.some.injEq] at h; subst h; exact hk
  | o :: r, k, s, s', hl, h, hk => by
    simp only [rOps] at h
    split at h
    · rename_i s1 h1
      have h0 : ops[k]? = some o := by simpa using (hl 0).symm
      rw [List.length_cons, List.range'_succ, AOps_cons]
      exact rOne_sound hc h0 h1 (rOps_sound hc r (k + 1) s1 s' (fun j => by have := hl (j + 1); simpa [Nat.add_assoc, Nat.add_comm 1 j] using this) h hk)
    · cases h
theorem rOneF_sound {call : Caller} (hc : Sure P call) {ops : Array Oper} {i : Nat} {o : Oper} (ho : ops[i]? = some o) {s s' : AS} {K : AS → Prop} (h : rOne call P L ops o s = some s') (hkp : heapKeepB s.h s'.h = true) (hk : K s') : AOneF P L true ops i K s := by
  unfold rOne at h
  unfold AOneF
  simp only [ho]
  split at h
  · rename_i hw
    rw [hw]
    unfold rOp at h
    split at h
    · rename_i g args ha
      split at h
      · rename_i v h' hr
        cases h
        have e : ∀ (S : AS) d v, (S.put d v).h = S.h := fun S d v => by cases d <;> rfl
        rw [e] at hkp
        exact .inr ⟨g, args, ha, (hc _ _ _ _ _ hr).mono fun v' h'' ⟨e1, e2⟩ => by subst e1; subst e2; exact ⟨fun _ => heapKeepB_keep hkp, hk⟩⟩
      · cases h
    · exact .inl ⟨s', h, fun _ _ => heapKeepB_keep hkp, hk⟩
  · rename_i hw; rw [hw]; cases h; exact hk
  · cases h
theorem rEag_sound {call : Caller} (hc : Sure P call) {ops : Array Oper} {K : AS → Prop} : ∀ (l : List (Nat × Nat)) (s s' : AS), rEag call P L ops l s = some s' → K s' → AEag P L ops K l s
  | [], s, s', h, hk => by simp only [rEag, Option.some.injEq] at h; subst h; exact hk
  | (i, 0) :: r, s, s', h, hk => by
    simp only [rEag] at h
    split at h
    · rename_i o ho
      split at h
      · rename_i s1 h1
        exact rOne_sound hc ho h1 (rEag_sound hc r s1 s' h hk)
      · cases h
    · cases h
  | (i, 1) :: r, s, s', h, hk => by
    simp only [rEag] at h
    split at h
    · rename_i o ho
      split at h
      · rename_i s1 h1
        split at h
        · rename_i hkp
          exact rOneF_sound hc ho h1 hkp (rEag_sound hc r s1 s' h hk)
        · cases h
      · cases h
    · cases h
  | (i, 2) :: r, s, s', h, hk => by
    simp only [rEag] at h
    simp only [AEag]
    split at h
    · rename_i o ho
      split at h
      · rename_i e he
        rw [ho]; simp only [he]
        exact ⟨rfl, rEag_sound hc r _ s' h hk⟩
      · cases h
    · cases h
  | (i, m + 3) :: r, s, s', h, hk => by
    simp only [rEag] at h
    simp only [AEag]
    split at h
    · rename_i o ho
      split at h
      · rename_i e he
        split at h
        · rename_i hl
          rw [ho]; simp only [he]
          exact ⟨hl, rEag_sound hc r _ s' h hk⟩
        · cases h
      · cases h
    · cases h

def Ends1 (e : Exit) (s : AS) : Exit → AS → Prop := fun e' s' => e' = e ∧ s' = s

theorem rCode_sound (G : Good P) {n : Nat} {call : Caller} (hc : Sure P call) {D : List (Nat × List (Nat × Nat))} : ∀ (c : Code) (s s' : AS) (e : Exit), drawsOk D c = true → rCode n call P L D c s = some (e, s') → AWp P c (Ends1 e s') s := by
  intro c
  induction c with
  | skip => intro s s' e _ h; simp only [rCode, Option.some.injEq, Prod.mk.injEq] at h; obtain ⟨rfl, rfl⟩ := h; exact awp_skip ⟨rfl, rfl⟩
  | label l => intro s s' e _ h; simp only [rCode, Option.some.injEq, Prod.mk.injEq] at h; obtain ⟨rfl, rfl⟩ := h; exact awp_label ⟨rfl, rfl⟩
  | ret => intro s s' e _ h; simp only [rCode, Option.some.injEq, Prod.mk.injEq] at h; obtain ⟨rfl, rfl⟩ := h; exact awp_ret ⟨rfl, rfl⟩
  | exit id => intro s s' e _ h; simp only [rCode, Option.some.injEq, Prod.mk.injEq] at h; obtain ⟨rfl, rfl⟩ := h; exact awp_exit ⟨rfl, rfl⟩
  | region id ops d =>
    intro s s' e hd h
    simp only [rCode] at h
    cases d with
    | false =>
      simp only at h
      split at h
      · rename_i s1 h1
        simp only [Option.some.injEq, Prod.mk.injEq] at h
        obtain ⟨rfl, rfl⟩ := h
        refine awp_region G L ?_
        have := rOps_sound (L := L) hc (K := Ends1 .normal s1 .normal) ops.toList 0 _ s1 (by simp) h1 ⟨rfl, rfl⟩
        rwa [List.range_eq_range', ← Array.length_toList]
      · cases h
    | true =>
      simp only at h
      simp only [drawsOk] at hd
      split at h
      · rename_i l hl
        rw [hl] at hd
        simp only at hd
        split at h
        · rename_i hsp
          rw [hsp] at hd
          simp only [Bool.and_eq_true] at hd
          split at h
          · rename_i s1 h1
            simp only [Option.some.injEq, Prod.mk.injEq] at h
            obtain ⟨rfl, rfl⟩ := h
            exact awp_draw G L l (Nat.eq_of_beq_eq_true hd.1) hd.2 (rEag_sound hc l _ s1 h1 ⟨rfl, rfl⟩)
          · cases h
        · rename_i l0 i j hsp
          rw [hsp] at hd
          simp only [Bool.and_eq_true, Bool.not_eq_true'] at hd
          split at h
          · rename_i s1 h1
            split at h
            · rename_i s2 h2
              simp only [Option.some.injEq, Prod.mk.injEq] at h
              obtain ⟨rfl, rfl⟩ := h
              exact awp_draw2 G L l0 i j (Nat.eq_of_beq_eq_true hd.1.1) hd.1.2 hd.2.1 hd.2.2 (rEag_sound hc l0 _ s1 h1 (pairRun_sound h2 ⟨rfl, rfl⟩))
            · cases h
          · cases h
      · cases h
  | seq x y ihx ihy =>
    intro s s' e hd h
    simp only [drawsOk, Bool.and_eq_true] at hd
    simp only [rCode] at h
    refine awp_seq ?_
    split at h
    · rename_i s1 h1
      exact awp_mono (ihx s s1 .normal hd.1 h1) (by rintro e' s'' ⟨rfl, rfl⟩; exact ihy _ _ _ hd.2 h)
    · rename_i e1 s1 hne h1
      simp only [Option.some.injEq, Prod.mk.injEq] at h
      obtain ⟨rfl, rfl⟩ := h
      refine awp_mono (ihx s _ _ hd.1 h1) ?_
      rintro e' s'' ⟨rfl, rfl⟩
      cases e' with
      | normal => exact (hne rfl).elim
      | _ => exact ⟨rfl, rfl⟩
    · cases h
  | cond c x y ihx ihy =>
    intro s s' e hd h
    simp only [drawsOk, Bool.and_eq_true] at hd
    simp only [rCode] at h
    split at h
    · rename_i hv; exact awp_cond hv (fun _ => ihx s s' e hd.1 h) (fun h => by cases h)
    · rename_i hv; exact awp_cond hv (fun h => by cases h) (fun _ => ihy s s' e hd.2 h)
    · cases h
  | block id c ih =>
    intro s s' e hd h
    simp only [drawsOk] at hd
    simp only [rCode] at h
    refine awp_block ?_
    split at h
    · rename_i id' s1 h1
      refine awp_mono (ih s _ _ hd h1) ?_
      rintro e' s'' ⟨rfl, rfl⟩
      simp only [ABlk]
      split at h
      · rename_i hb
        simp only [Option.some.injEq, Prod.mk.injEq] at h
        obtain ⟨rfl, rfl⟩ := h
        rw [if_pos (Nat.eq_of_beq_eq_true hb)]
        exact ⟨rfl, rfl⟩
      · rename_i hb
        simp only [Option.some.injEq, Prod.mk.injEq] at h
        obtain ⟨rfl, rfl⟩ := h
        rw [if_neg (fun e => by rw [e, beq_self] at hb; cases hb)]
        exact ⟨rfl, rfl⟩
    · rename_i e1 s1 hne h1
      simp only [Option.some.injEq, Prod.mk.injEq] at h
      obtain ⟨rfl, rfl⟩ := h
      refine awp_mono (ih s _ _ hd h1) ?_
      rintro e' s'' ⟨rfl, rfl⟩
      cases e' with
      | exit id' => exact (hne id' rfl).elim
      | _ => exact ⟨rfl, rfl⟩
    · cases h
  | scope c ih =>
    intro s s' e hd h
    simp only [drawsOk] at hd
    simp only [rCode] at h
    split at h
    · rename_i e1 s1 h1
      split at h
      · rename_i hb
        simp only [Option.some.injEq, Prod.mk.injEq] at h
        obtain ⟨rfl, rfl⟩ := h
        exact awp_scope (awp_mono (ih s _ _ hd h1) (by rintro e' s'' ⟨rfl, rfl⟩; exact ⟨hb, rfl, rfl⟩))
      · cases h
    · cases h
  | loop c ih =>
    intro s s' e hd h
    simp only [drawsOk] at hd
    simp only [rCode] at h
    refine awp_loop_n (fun k s1 => rIter (rCode n call P L D c) k s1 = some (e, s')) n h ?_
    intro k s1 hk
    cases k with
    | zero => cases hk
    | succ k =>
      simp only [rIter] at hk
      split at hk
      · rename_i s2 h2
        refine awp_mono (ih s1 s2 .normal hd h2) ?_
        rintro e' s'' ⟨rfl, rfl⟩
        exact ⟨k, Nat.lt_succ_self k, hk⟩
      · rename_i e1 s2 hne h2
        simp only [Option.some.injEq, Prod.mk.injEq] at hk
        obtain ⟨rfl, rfl⟩ := hk
        refine awp_mono (ih s1 _ _ hd h2) ?_
        rintro e' s'' ⟨rfl, rfl⟩
        cases e' with
        | normal => exact (hne rfl).elim
        | _ => exact ⟨rfl, rfl⟩
      · cases hk
  | _ => intro s s' e _ h; cases h

theorem rCall_sound (G : Good P) (n : Nat) (T : List FEnt) (hT : tabOk P T = true) : ∀ m, Sure P (rCall n P T m)
  | 0 => fun g args h v h' hr => by cases hr
  | m + 1 => by
    intro f args h v h' hr
    have ih := rCall_sound G n T hT m
    simp only [rCall] at hr
    split at hr
    · rename_i e he
      obtain ⟨hm, hf⟩ := tget_mem he
      split at hr
      · rename_i fn hfn
        split at hr
        · rename_i c hb
          have hd : drawsOk e.D c = true := by
            unfold tabOk at hT
            rw [List.all_eq_true] at hT
            have := hT e hm
            rw [hf] at this
            simpa [hfn, hb] using this
          split at hr
          · rename_i s hs
            split at hr
            · rename_i u hu
              cases hr
              exact acalls_of_awp hfn hb (awp_mono (rCode_sound G ih c _ _ _ hd hs) (by rintro e' s' ⟨rfl, rfl⟩; exact ⟨_, hu, rfl, rfl⟩))
            · cases hr
          · rename_i s hs
            split at hr
            · rename_i u hu
              cases hr
              exact acalls_of_awp hfn hb (awp_mono (rCode_sound G ih c _ _ _ hd hs) (by rintro e' s' ⟨rfl, rfl⟩; exact ⟨_, hu, rfl, rfl⟩))
            · cases hr
          · cases hr
        · cases hr
      · cases hr
    · cases hr
end
end Go.Proofs.Ytimeninncpmaeaa.Abs
