/-
  What an operation yields in an abstract state (operations that leave the memory alone).
-/
import Derived.Test.YtimeninncpmaeaaVb
namespace Go.Proofs.Ytimeninncpmaeaa.Abs
open Go
set_option linter.unusedVariables false
set_option linter.unusedSimpArgs false

def okPart (v : Value) : Bool := match isTup v with
  | true => false
  | false => !(isLoc v)
theorem okPart_tup {v : Value} (h : okPart v = true) : isTup v = false := by
  unfold okPart at h; split at h <;> simp_all
theorem okPart_loc {v : Value} (h : okPart v = true) : isLoc v = false := by
  unfold okPart at h; split at h <;> simp_all

def zeroOk (P : Program) (t : TypeId) : Bool :=
  match pureRun P (zeroValue t) with
  | some z => plain 6 z && !(isTup z)
  | none => false

def dflt (P : Program) (o : Oper) (t : List Value) : Option Value :=
  match o.op.operands.toList.all fun x => plain 6 (aev t x) with
  | true => match pureRun P (execOp (aev t) o) with
    | some (.value v) => match plain 6 v with
      | true => some v
      | false => none
    | _ => none
  | false => none

def padd (a : Addr) (n : Nat) : Addr := { a with off := a.off + n }

def aFieldAddr (P : Program) (t : TypeId) (f : Nat) : Value → Option Value
  | .pointer (some a) => match P.underlying t with
    | some (.struct fs) => match fs[f]? with
      | some fd => match sizeT P fd.type with
        | some (_ + 1) => some (.pointer (some (padd a fd.offset)))
        | _ => none
      | none => none
    | _ => none
  | _ => none

def inRange (i : Int) (n : Nat) : Bool := decide (0 ≤ i) && decide (i < n)

def aIndexAddr (P : Program) (t : TypeId) : Value → Value → Option Value
  | .slice (some ⟨id, off, some g⟩) len _, .int _ i => match P.underlying t with
    | some (.slice e) => match sizeT P e with
      | some n => match inRange i len with
        | true => some (.pointer (some ⟨id, off + i.toNat * n, some g⟩))
        | false => none
      | none => none
    | _ => none
  | .pointer (some a), .int _ i => match P.underlying t with
    | some (.array len e) => match sizeT P e with
      | some n => match inRange i len with
        | true => some (.pointer (some (padd a (i.toNat * n))))
        | false => none
      | none => none
    | _ => none
  | _, _ => none

def sliceHi (len : Nat) : Option Value → Option Nat
  | none => some len
  | some (.int _ i) => match decide (0 ≤ i) && decide (i ≤ len) with
    | true => some i.toNat
    | false => none
  | _ => none
def sliceLo (h : Nat) : Option Value → Option Nat
  | none => some 0
  | some (.int _ i) => match decide (0 ≤ i) && decide (i ≤ h) with
    | true => some i.toNat
    | false => none
  | _ => none
def aSlice (P : Program) (t : TypeId) (a : Addr) (len z : Nat) (lo hi : Option Value) : Option Value :=
  match P.underlying t with
  | some (.slice e) => match sizeT P e with
    | some (n + 1) => match sliceHi len hi with
      | some h => match sliceLo h lo with
        | some l => some (.slice (some (padd a (l * (n + 1)))) (h - l) z)
        | none => none
      | none => none
    | _ => none
  | _ => none

def aNil (P : Program) (t : TypeId) (x y : Value) : Bool :=
  match x, y with
  | .slice (some _) _ _, .slice none _ _ => match P.underlying t with | some (.slice _) => true | _ => false
  | .slice none _ _, .slice (some _) _ _ => match P.underlying t with | some (.slice _) => true | _ => false
  | .pointer (some _), .pointer none => match P.underlying t with | some (.pointer _) => true | _ => false
  | .pointer none, .pointer (some _) => match P.underlying t with | some (.pointer _) => true | _ => false
  | .func _ _ _, .nilFunc => match P.underlying t with | some (.func _ _ _) => true | _ => false
  | .nilFunc, .func _ _ _ => match P.underlying t with | some (.func _ _ _) => true | _ => false
  | .iface _ _, .nilIface => match P.underlying t with | some (.interface _) => true | _ => false
  | .nilIface, .iface _ _ => match P.underlying t with | some (.interface _) => true | _ => false
  | _, _ => false
def aBin (P : Program) (op : BinOp) (t : TypeId) (x y : Value) : Option Value :=
  match op with
  | .eql => match aNil P t x y with | true => some (.bool false) | false => none
  | .neq => match aNil P t x y with | true => some (.bool true) | false => none
  | _ => none

def aLen (P : Program) (c : Call) (t : List Value) : Option Value :=
  match c.callee, c.args.toList, c.argTypes.toList with
  | .builtin .len, [x], [ty] => match aev t x with
    | .slice (some _) n _ => match P.underlying ty with
      | some (.slice _) => some (goInt n)
      | _ => none
    | _ => none
  | _, _, _ => none

def orElse' (a : Option Value) (b : Option Value) : Option Value := match a with
  | some v => some v
  | none => b

def aVal (P : Program) (o : Oper) (s : AS) : Option Value :=
  match o.op with
  | .move x => some (aev s.t x)
  | .assign x => some (aev s.t x)
  | .pick c a b => match aev s.t c with
    | .bool true => some (aev s.t a)
    | .bool false => some (aev s.t b)
    | _ => none
  | .nilCheck x => match aev s.t x with
    | .pointer (some a) => some (.pointer (some a))
    | _ => none
  | .extract x i => match aev s.t x with
    | .tuple vs => match vs[i]? with
      | some v => match okPart v with
        | true => some v
        | false => none
      | none => none
    | _ => none
  | .field t x f => match aev s.t x with
    | .agg cs => noLoc (pureRun P (Instr.field t (.agg cs) f))
    | _ => none
  | .build t parts => match zeroOk P t && parts.toList.all fun p => okPart (aev s.t p.2) with
    | true => noLoc (pureRun P (Instr.build t (parts.map fun (i, x) => (i, aev s.t x))))
    | false => none
  | .load t x => aLoad P t s (aev s.t x)
  | .fieldAddr t x f => aFieldAddr P t f (aev s.t x)
  | .indexAddr t x i => aIndexAddr P t (aev s.t x) (aev s.t i)
  | .slice t x lo hi mx => match aev s.t x, mx with
    | .slice (some a) len z, none => aSlice P t a len z (lo.map (aev s.t)) (hi.map (aev s.t))
    | _, _ => dflt P o s.t
  | .binOp op t x y _ => orElse' (aBin P op t (aev s.t x) (aev s.t y)) (dflt P o s.t)
  | .makeInterface t x => match okPart (aev s.t x), P.underlying t with
    | true, some (.interface _) => none
    | true, some _ => some (.iface t (aev s.t x))
    | _, _ => none
  | .makeFunc fn first cap => match (first.toList.all fun x => okPart (aev s.t x)) && (cap.toList.all fun x => okPart (aev s.t x)) with
    | true => some (.func fn (first.map (aev s.t)) (cap.map (aev s.t)))
    | false => none
  | .index t x i => match aev s.t x, aev s.t i with
    | .agg cs, .int k n => noLoc (pureRun P (Instr.index t (.agg cs) (.int k n)))
    | _, _ => dflt P o s.t
  | .call c => orElse' (aLen P c s.t) (dflt P o s.t)
  | .select _ _ => none
  | _ => dflt P o s.t

section
variable {P : Program} {B : Nat} {E : Ent} {ρ : Rho} {lam : Nat → Nat} {s : AS} {a : Act} {w : World}

theorem dflt_sound (F : FRel B E ρ lam s a w) {o : Oper} {v : Value} (hns : ∀ cs b, o.op ≠ .select cs b) (h : dflt P o s.t = some v) :
    ∃ v', (execOp a.eval o).run P w = .ok (.value v') w ∧ TRel s.l lam ρ v v' := by
  unfold dflt at h
  split at h
  · rename_i hall
    rw [List.all_eq_true] at hall
    have he : execOp a.eval o = execOp (aev s.t) o := execOp_congr o hns fun x hx => (F.eval x).plain_eq (hall x (by simpa using hx))
    split at h
    · rename_i u hu
      split at h
      · rename_i hp
        cases h
        exact ⟨v, by rw [he]; exact pureRun_run hu w, .mem (plain_refl 6 hp)⟩
      · cases h
    · cases h
  · cases h

theorem fieldAddr_sound {t : TypeId} {f : Nat} {x x' v : Value} (hx : TRel s.l lam ρ x x') (h : aFieldAddr P t f x = some v) :
    ∃ v', (Instr.fieldAt t x' f).run P w = .ok v' w ∧ TRel s.l lam ρ v v' := by
  unfold aFieldAddr at h
  split at h
  · rename_i ad
    split at h
    · rename_i fs hu
      split at h
      · rename_i fd hf
        split at h
        · rename_i n hn
          cases h
          have run : ∀ b : Addr, b.spot = none → (Instr.fieldAt t (.pointer (some b)) f).run P w = .ok (.pointer (some ⟨b.block, b.off + fd.offset, none⟩)) w := by
            intro b hb
            obtain ⟨bb, bo, bs⟩ := b
            simp only at hb; subst hb
            simp [Instr.fieldAt, run_underlying hu, hf, Instr.sureAddr, fieldPlace, run_sizeT hn, add_at]
          obtain ⟨ab, ao, as⟩ := ad
          cases hx with
          | mem hv =>
            cases hv with
            | ptr id off g r hr hg => exact ⟨_, run _ rfl, .mem (by simpa [padd, Nat.add_assoc] using VRel.ptr _ (ao + fd.offset) g r hr hg)⟩
          | loc k off hk => exact ⟨_, run _ rfl, .loc _ _ hk⟩
        · cases h
      · cases h
    · cases h
  · cases h

theorem inRange_iff {i : Int} {n : Nat} (h : inRange i n = true) : 0 ≤ i ∧ i < n := by
  unfold inRange at h; simpa using h

theorem indexAddr_sound {t : TypeId} {x x' i i' v : Value} (hx : TRel s.l lam ρ x x') (hi : TRel s.l lam ρ i i') (h : aIndexAddr P t x i = some v) :
    ∃ v', (Instr.indexAt t x' i').run P w = .ok v' w ∧ TRel s.l lam ρ v v' := by
  unfold aIndexAddr at h
  split at h
  · rename_i aid aoff ag len z k n
    have e := hi.plain_eq (n := 0) rfl
    subst e
    split at h
    · rename_i e hu
      split at h
      · rename_i sz hn
        split at h
        · rename_i hr
          have hr' := inRange_iff hr
          cases h
          cases hx with
          | mem hv =>
            cases hv with
            | slice _ _ _ r _ _ o' cap' hrow h1 h2 h3 hg =>
              have ho : o' = r.o + aoff := h2.resolve_left (by omega)
              subst ho
              refine ⟨.pointer (some ⟨r.b, r.o + aoff + n.toNat * sz, none⟩), ?_, .mem (by simpa [Nat.add_assoc] using VRel.ptr aid (aoff + n.toNat * sz) ag r hrow hg)⟩
              simp [Instr.indexAt, asIntOf, run_underlying hu, hr', run_sizeT hn, add_at]
            | slice0 => omega
        · cases h
      · cases h
    · cases h
  · rename_i ad k n
    have e := hi.plain_eq (n := 0) rfl
    subst e
    split at h
    · rename_i len e hu
      split at h
      · rename_i sz hn
        split at h
        · rename_i hr
          have hr' := inRange_iff hr
          cases h
          have run : ∀ b : Addr, b.spot = none → (Instr.indexAt t (.pointer (some b)) (.int k n)).run P w = .ok (.pointer (some ⟨b.block, b.off + n.toNat * sz, none⟩)) w := by
            intro b hb
            obtain ⟨bb, bo, bs⟩ := b
            simp only at hb; subst hb
            simp [Instr.indexAt, asIntOf, run_underlying hu, hr', run_sizeT hn, add_at, Instr.sureAddr]
          obtain ⟨ab, ao, as⟩ := ad
          cases hx with
          | mem hv =>
            cases hv with
            | ptr id off g r hr hg => exact ⟨_, run _ rfl, .mem (by simpa [padd, Nat.add_assoc] using VRel.ptr _ (ao + n.toNat * sz) g r hr hg)⟩
          | loc k off hk => exact ⟨_, run _ rfl, .loc _ _ hk⟩
        · cases h
      · cases h
    · cases h
  · cases h

def ORel (l : Locs) (lam : Nat → Nat) (ρ : Rho) : Option Value → Option Value → Prop
  | none, none => True
  | some v, some v' => TRel l lam ρ v v'
  | _, _ => False
theorem sliceHi_cases {len : Nat} {hi hi' : Option Value} {h : Nat} (hr : ORel s.l lam ρ hi hi') (he : sliceHi len hi = some h) :
    (hi' = none ∧ h = len) ∨ ∃ k i, hi' = some (.int k i) ∧ 0 ≤ i ∧ i ≤ len ∧ h = i.toNat := by
  unfold sliceHi at he
  split at he
  · cases he
    cases hi' with
    | none => exact .inl ⟨rfl, rfl⟩
    | some v => exact hr.elim
  · rename_i k i
    split at he
    · rename_i hb
      simp only [Bool.and_eq_true, decide_eq_true_eq] at hb
      cases he
      cases hi' with
      | none => exact hr.elim
      | some v =>
        have e := TRel.plain_eq (n := 0) hr rfl
        subst e
        exact .inr ⟨k, i, rfl, hb.1, hb.2, rfl⟩
    · cases he
  · cases he
theorem sliceLo_cases {len : Nat} {hi hi' : Option Value} {h : Nat} (hr : ORel s.l lam ρ hi hi') (he : sliceLo len hi = some h) :
    (hi' = none ∧ h = 0) ∨ ∃ k i, hi' = some (.int k i) ∧ 0 ≤ i ∧ i ≤ len ∧ h = i.toNat := by
  unfold sliceLo at he
  split at he
  · cases he
    cases hi' with
    | none => exact .inl ⟨rfl, rfl⟩
    | some v => exact hr.elim
  · rename_i k i
    split at he
    · rename_i hb
      simp only [Bool.and_eq_true, decide_eq_true_eq] at hb
      cases he
      cases hi' with
      | none => exact hr.elim
      | some v =>
        have e := TRel.plain_eq (n := 0) hr rfl
        subst e
        exact .inr ⟨k, i, rfl, hb.1, hb.2, rfl⟩
    · cases he
  · cases he
theorem run_slice_any {t e : TypeId} {n : Nat} (hu : P.underlying t = some (.slice e)) (hn : sizeT P e = some n) (b : Addr) (len cap' h l : Nat) (hc : len ≤ cap') {lo' hi' : Option Value}
    (c1 : (hi' = none ∧ h = len) ∨ ∃ k i, hi' = some (.int k i) ∧ 0 ≤ i ∧ i ≤ len ∧ h = i.toNat) (c2 : (lo' = none ∧ l = 0) ∨ ∃ k i, lo' = some (.int k i) ∧ 0 ≤ i ∧ i ≤ h ∧ l = i.toNat) :
    (Instr.sliceAt t (.slice (some b) len cap') lo' hi' none).run P w = .ok (.slice (some (if cap' = l then b else b.add (l * n))) (h - l) (cap' - l)) w := by
  have fin : ∀ m l : Nat, (if m = l then some b else some (b.add (l * n))) = some (if m = l then b else b.add (l * n)) := fun m l => by split <;> rfl
  rcases c1 with ⟨rfl, rfl⟩ | ⟨k1, i1, rfl, p1, p2, rfl⟩ <;> rcases c2 with ⟨rfl, rfl⟩ | ⟨k2, i2, rfl, q1, q2, rfl⟩
  · simp [Instr.sliceAt, Instr.slice, Instr.sliceBounds, run_underlying hu, run_sizeT hn]
    split <;> rfl
  · simp [Instr.sliceAt, Instr.slice, Instr.sliceBounds, run_underlying hu, run_sizeT hn, Instr.sliceBound, asIntOf, q1, q2, fin]
  · have p3 : i1 ≤ (cap' : Int) := by omega
    simp [Instr.sliceAt, Instr.slice, Instr.sliceBounds, run_underlying hu, run_sizeT hn, Instr.sliceBound, asIntOf, p1, p3]
    split <;> rfl
  · have p3 : i1 ≤ (cap' : Int) := by omega
    have q3 : i2 ≤ max i1 0 := by omega
    have q4 : i2 ≤ i1 := by omega
    simp [Instr.sliceAt, Instr.slice, Instr.sliceBounds, run_underlying hu, run_sizeT hn, Instr.sliceBound, asIntOf, p1, p3, q1, q2, q3, q4, fin]

theorem slice_sound {t : TypeId} {ad : Addr} {len z : Nat} {x' v : Value} {lo lo' hi hi' : Option Value} (hx : TRel s.l lam ρ (.slice (some ad) len z) x')
    (hlo : ORel s.l lam ρ lo lo') (hhi : ORel s.l lam ρ hi hi')
    (h : aSlice P t ad len z lo hi = some v) : ∃ v', (Instr.sliceAt t x' lo' hi' none).run P w = .ok v' w ∧ TRel s.l lam ρ v v' := by
  unfold aSlice at h
  split at h
  · rename_i e hu
    split at h
    · rename_i n hn
      split at h
      · rename_i hh h1
        split at h
        · rename_i l h2
          cases h
          cases hx with
          | mem hv =>
            cases hv with
            | slice id' off g r _ _ o' cap' hrow c1 c2 c3 hg =>
              have k1 := sliceHi_cases hhi h1
              have k2 := sliceLo_cases hlo h2
              have a1 : hh ≤ len := by rcases k1 with ⟨_, rfl⟩ | ⟨_, _, _, _, _, rfl⟩ <;> omega
              have a2 : l ≤ hh := by rcases k2 with ⟨_, rfl⟩ | ⟨_, _, _, _, _, rfl⟩ <;> omega
              refine ⟨_, run_slice_any hu hn ⟨r.b, o', none⟩ len cap' hh l c1 k1 k2, .mem ?_⟩
              rw [add_at]
              by_cases hcl : cap' = l
              · rw [if_pos hcl]
                refine VRel.slice id' (off + l * (n + 1)) g r (hh - l) z o' (cap' - l) hrow (by omega) (.inl (by omega)) ?_ hg
                intro h0
                have h1 : l * (n + 1) = 0 := by omega
                have h2 : l = 0 := by rcases Nat.mul_eq_zero.1 h1 with h | h; exact h; omega
                obtain ⟨d1, d2, d3⟩ := c3 (by omega)
                subst h2
                exact ⟨d1, by simpa using d2, by simpa using d3⟩
              · rw [if_neg hcl]
                refine VRel.slice id' (off + l * (n + 1)) g r (hh - l) z (o' + l * (n + 1)) (cap' - l) hrow (by omega) ?_ ?_ hg
                · rcases c2 with c2 | c2
                  · exact .inl (by omega)
                  · exact .inr (by omega)
                · intro h0
                  have h1 : l * (n + 1) = 0 := by omega
                  have h2 : l = 0 := by rcases Nat.mul_eq_zero.1 h1 with h | h; exact h; omega
                  obtain ⟨d1, d2, d3⟩ := c3 (by omega)
                  subst h2
                  exact ⟨by simpa using d1, by simpa using d2, by simpa using d3⟩
            | slice0 id' off g _ a0 cap' h0 =>
              have k1 := sliceHi_cases hhi h1
              have k2 := sliceLo_cases hlo h2
              have a1 : hh = 0 := by rcases k1 with ⟨_, rfl⟩ | ⟨_, _, _, _, _, rfl⟩ <;> omega
              have a2 : l = 0 := by rcases k2 with ⟨_, rfl⟩ | ⟨_, _, _, _, _, rfl⟩ <;> omega
              subst a1; subst a2
              refine ⟨_, run_slice_any hu hn a0 0 cap' 0 0 (Nat.zero_le _) k1 k2, .mem ?_⟩
              exact VRel.slice0 id' _ g z _ _ (by simpa using h0)
        · cases h
      · cases h
    · cases h
  · cases h

theorem aNil_sound {t : TypeId} {x x' y y' : Value} (hx : TRel s.l lam ρ x x') (hy : TRel s.l lam ρ y y') (h : aNil P t x y = true) :
    (Op.equal t x' y').run P w = .ok false w ∧ (∀ op X Y, (eqGuard op t X Y x' y').run P w = .ok () w) ∧ (binOp .eql t x' y' = (do pure (.bool (← Op.equal t x' y')))) ∧ (binOp .neq t x' y' = (do pure (.bool (!(← Op.equal t x' y'))))) := by
  have go : ∀ u u' : Value, (∀ d, (Op.equalIn (d + 1) t u u').run P w = .ok false w) → (Op.equal t u u').run P w = .ok false w := fun u u' hh => hh 9999
  unfold aNil at h
  split at h
  · split at h
    · rename_i hu
      cases hx with | mem a => cases hy with | mem b => cases a <;> cases b <;> exact ⟨go _ _ fun d => by simp [Op.equalIn, run_underlying hu], fun op X Y => by cases op <;> rfl, rfl, rfl⟩
    · cases h
  · split at h
    · rename_i hu
      cases hx with | mem a => cases hy with | mem b => cases a <;> cases b <;> exact ⟨go _ _ fun d => by simp [Op.equalIn, run_underlying hu], fun op X Y => by cases op <;> rfl, rfl, rfl⟩
    · cases h
  · split at h
    · rename_i hu
      cases hx with
      | loc => cases hy with | mem b => cases b <;> exact ⟨go _ _ fun d => by simp [Op.equalIn, run_underlying hu], fun op X Y => by cases op <;> rfl, rfl, rfl⟩
      | mem a => cases hy with | mem b => cases a <;> cases b <;> exact ⟨go _ _ fun d => by simp [Op.equalIn, run_underlying hu], fun op X Y => by cases op <;> rfl, rfl, rfl⟩
    · cases h
  · split at h
    · rename_i hu
      cases hx with
      | mem a => cases hy with
        | loc => cases a <;> exact ⟨go _ _ fun d => by simp [Op.equalIn, run_underlying hu], fun op X Y => by cases op <;> rfl, rfl, rfl⟩
        | mem b => cases a <;> cases b <;> exact ⟨go _ _ fun d => by simp [Op.equalIn, run_underlying hu], fun op X Y => by cases op <;> rfl, rfl, rfl⟩
    · cases h
  · split at h
    · rename_i hu
      cases hx with | mem a => cases hy with | mem b => cases a <;> cases b <;> exact ⟨go _ _ fun d => by simp [Op.equalIn, run_underlying hu], fun op X Y => by cases op <;> rfl, rfl, rfl⟩
    · cases h
  · split at h
    · rename_i hu
      cases hx with | mem a => cases hy with | mem b => cases a <;> cases b <;> exact ⟨go _ _ fun d => by simp [Op.equalIn, run_underlying hu], fun op X Y => by cases op <;> rfl, rfl, rfl⟩
    · cases h
  · split at h
    · rename_i hu
      cases hx with | mem a => cases hy with | mem b => cases a <;> cases b <;> exact ⟨go _ _ fun d => by simp [Op.equalIn, run_underlying hu], fun op X Y => by cases op <;> rfl, rfl, rfl⟩
    · cases h
  · split at h
    · rename_i hu
      cases hx with | mem a => cases hy with | mem b => cases a <;> cases b <;> exact ⟨go _ _ fun d => by simp [Op.equalIn, run_underlying hu], fun op X Y => by cases op <;> rfl, rfl, rfl⟩
    · cases h
  · cases h

theorem build_sound {t : TypeId} {ps ps' : Array (Nat × Value)} {v : Value} (hz : zeroOk P t = true) (hs : ps.size = ps'.size)
    (hp : ∀ (i : Nat) p p', ps[i]? = some p → ps'[i]? = some p' → p.1 = p'.1 ∧ VRel ρ p.2 p'.2 ∧ isTup p.2 = false) (h : pureRun P (Instr.build t ps) = some v) :
    ∃ v', (Instr.build t ps').run P w = .ok v' w ∧ VRel ρ v v' := by
  unfold zeroOk at hz
  unfold Instr.build at h ⊢
  rw [pureRun_bind] at h
  cases hzz : pureRun P (zeroValue t) with
  | none => rw [hzz] at h; cases h
  | some z =>
    rw [hzz] at hz h
    simp only [Bool.and_eq_true] at hz
    have hzr : RelA ρ z.cells z.cells := (plain_refl (ρ := ρ) 6 hz.1).cells (by simpa using hz.2)
    simp only [Option.bind_some, pureRun_bind] at h
    cases hu : pureRun P (underlying t) with
    | none => rw [hu] at h; cases h
    | some d =>
      rw [hu] at h
      simp only [Option.bind_some] at h
      simp only [Sem.run_bind, pureRun_run hzz, pureRun_run hu, Result.andThen_ok]
      cases d with
      | struct fields =>
        simp only [pureRun_bind] at h ⊢
        cases hm : pureRun P (fields.mapM fun f => do pure (f.offset, ← sizeOf f.type)) with
        | none => rw [hm] at h; cases h
        | some places =>
          rw [hm] at h
          simp only [Option.bind_some] at h
          simp only [Sem.run_bind, pureRun_run hm, Result.andThen_ok]
          cases hf : Instr.fill (places[·]?) z.cells ps.toList with
          | none => rw [hf] at h; cases h
          | some out =>
            rw [hf] at h
            cases h
            obtain ⟨out', h1, h2⟩ := fill_rel (ρ := ρ) _ ps.toList ps'.toList _ _ out (by simpa using hs) (fun i p p' a b => hp i p p' (by simpa using a) (by simpa using b)) hzr hf
            exact ⟨.agg out', by simp [h1], .agg _ _ h2.1 h2.2⟩
      | array len elem =>
        simp only [pureRun_bind] at h ⊢
        cases hm : pureRun P (sizeOf elem) with
        | none => rw [hm] at h; cases h
        | some size =>
          rw [hm] at h
          simp only [Option.bind_some] at h
          simp only [Sem.run_bind, pureRun_run hm, Result.andThen_ok]
          cases hf : Instr.fill (fun i => some (i * size, size)) z.cells ps.toList with
          | none => rw [hf] at h; cases h
          | some out =>
            rw [hf] at h
            cases h
            obtain ⟨out', h1, h2⟩ := fill_rel (ρ := ρ) _ ps.toList ps'.toList _ _ out (by simpa using hs) (fun i p p' a b => hp i p p' (by simpa using a) (by simpa using b)) hzr hf
            exact ⟨.agg out', by simp [h1], .agg _ _ h2.1 h2.2⟩
      | _ => cases h

theorem field_sound {t : TypeId} {cs : Array Value} {x' v : Value} {f : Nat} (hx : TRel s.l lam ρ (.agg cs) x') (h : pureRun P (Instr.field t (.agg cs) f) = some v) :
    ∃ v', (Instr.field t x' f).run P w = .ok v' w ∧ VRel ρ v v' := by
  cases hx with
  | mem hx =>
    cases hx with
    | agg _ cs' h1 h2 =>
      unfold Instr.field at h ⊢
      rw [pureRun_bind] at h
      cases hu : pureRun P (underlying t) with
      | none => rw [hu] at h; cases h
      | some d =>
        rw [hu] at h
        simp only [Option.bind_some] at h
        simp only [Sem.run_bind, pureRun_run hu, Result.andThen_ok]
        cases d with
        | struct fields =>
          simp only at h ⊢
          cases hf : fields[f]? with
          | none => rw [hf] at h; cases h
          | some fd =>
            rw [hf] at h
            simp only [asAgg, pureRun_bind] at h
            obtain ⟨v', a1, a2⟩ := part_sound (ρ := ρ) (show pureRun P (part fd.type cs fd.offset) = some v from h) h1 h2
            exact ⟨v', by simpa [asAgg] using a1 w, a2⟩
        | _ => cases h

theorem index_sound {t : TypeId} {cs : Array Value} {x' v : Value} {k : IntKind} {i : Int} (hx : TRel s.l lam ρ (.agg cs) x') (h : pureRun P (Instr.index t (.agg cs) (.int k i)) = some v) :
    ∃ v', (Instr.index t x' (.int k i)).run P w = .ok v' w ∧ VRel ρ v v' := by
  cases hx with
  | mem hx =>
    cases hx with
    | agg _ cs' h1 h2 =>
      unfold Instr.index at h ⊢
      simp only [asIntOf, pureRun_bind] at h
      have e0 : pureRun P (pure (k, i) : Sem (IntKind × Int)) = some (k, i) := rfl
      simp only [e0, Option.bind_some] at h
      cases hu : pureRun P (underlying t) with
      | none => rw [hu] at h; cases h
      | some d =>
        rw [hu] at h
        simp only [Option.bind_some] at h
        simp only [asIntOf, Sem.run_bind, Sem.run_pure, pureRun_run hu, Result.andThen_ok]
        cases d with
        | array len elem =>
          simp only at h ⊢
          by_cases hc : 0 ≤ i ∧ i < len
          · rw [if_pos hc] at h
            simp only [if_pos hc]
            rw [pureRun_bind] at h
            cases hm : pureRun P (sizeOf elem) with
            | none => rw [hm] at h; cases h
            | some size =>
              rw [hm] at h
              simp only [Option.bind_some] at h
              obtain ⟨v', a1, a2⟩ := part_sound (ρ := ρ) h h1 h2
              exact ⟨v', by simp [pureRun_run hm, a1 w], a2⟩
          · rw [if_neg hc] at h
            exfalso
            revert h
            unfold boundsPanic
            split
            · intro h; cases h
            · intro h; cases h
        | _ => cases h
end
end Go.Proofs.Ytimeninncpmaeaa.Abs
