/-
  A way through a function on abstract states: what is not computed is claimed, and the claims are collected.
-/
import Derived.Test.YtimeninncpmaeaaVp
namespace Go.Proofs.Ytimeninncpmaeaa.Abs
open Go
set_option linter.unusedVariables false
set_option linter.unusedSimpArgs false

inductive It where
  | g
  | v (v : Value)
  | p (b : Bool)
  | d
  | s
  | m (v : Value) (h : AHeap)
  | c (v : Value) (h : AHeap)
  | n
  | w (it : It)
  | b (b : Bool)
  | ln (n : Nat)
  | ix (id off g : Nat)
  | ia
  | iv (v : Value)
  | sl (v : Value)
  | eq (e : Bool)
  | nl (e : Bool)
  | si (m : Int)
  | ld (v : Value)
  | mm (v : Value) (h : AHeap)
  | ls (cells : List Value)
  | l (ds : List Bool) (ks : List Nat) (e : Exit) (s : AS)
  | j (ds : List Bool) (ks : List Nat) (e : Exit) (s : AS)
  | u

def itJ : List It → Option (List Bool × List Nat × Exit × AS × List It)
  | .j ds ks e s :: r => some (ds, ks, e, s, r)
  | _ => none
/-- A piece that is not joined begins here. -/
def itU : List It → List It
  | .u :: r => r
  | l => l
def vlen : Value → Option Nat
  | .slice none 0 0 => some 0
  | .slice (some ⟨_, _, some _⟩) n _ => some n
  | _ => none
/-- Whether a slice is nil. -/
def vnil : Value → Option Bool
  | .slice none 0 0 => some true
  | .slice (some _) _ _ => some false
  | _ => none
/-- A byte of a string. -/
def sread (b : ByteArray) (n : Int) : Option Int := match decide (0 ≤ n) with
  | true => match b[n.toNat]? with
    | some x => some (x.toNat : Int)
    | none => none
  | false => none
def ixv (z : Nat) (v : Value) (n : Int) : Option (Nat × Nat × Nat) :=
  match v with
  | .slice (some ⟨id, off, some g⟩) len _ => match inRange n len with
    | true => some (id, off + n.toNat * z, g)
    | false => none
  | _ => none
def hread (P : Program) (h : AHeap) (t : TypeId) (id off g : Nat) : Option Value :=
  match h.get id with
  | some blk => match Nat.beq g blk.gen with
    | true => noLoc (readCells P t blk.cells off)
    | false => none
  | none => none
def lread (P : Program) (cells : List Value) (t : TypeId) (off : Nat) : Option Value := noLoc (readCells P t cells off)
def iread (P : Program) (t : TypeId) (cs : Array Value) (n : Int) : Option Value := noLoc (pureRun P (Instr.index t (.agg cs) (.int .i64 n)))

/-- A part of a slice. -/
def slv (P : Program) (t : TypeId) (x : Value) (lo hi : Option Value) : Option Value :=
  match x with
  | .slice (some a) len z => aSlice P t a len z lo hi
  | .slice none 0 0 => match P.underlying t with
    | some (.slice e) => match sizeT P e with
      | some _ => match sliceHi 0 hi with
        | some h => match sliceLo h lo with
          | some _ => some (.slice none 0 0)
          | none => none
        | none => none
      | none => none
    | _ => none
  | _ => none

/-! Structs that are compared. -/
def fldEqT (P : Program) (cs ds : Array Value) (ty : TypeId) (off : Nat) : Option Bool := match P.underlying ty with
  | some (.int _) => match cs[off]?, ds[off]? with
    | some (.int k a), some (.int k' b) => match decide (k = k') with
      | true => some (a == b)
      | false => none
    | _, _ => none
  | some .bool => match cs[off]?, ds[off]? with
    | some (.bool a), some (.bool b) => some (a == b)
    | _, _ => none
  | _ => none
def fldEq (P : Program) (cs ds : Array Value) (f : Field) : Option Bool := fldEqT P cs ds f.type f.offset
def fldsEq (P : Program) (cs ds : Array Value) : List Field → Option Bool
  | [] => some true
  | f :: r => match decide (f.name = "_") with
    | true => none
    | false => match fldEq P cs ds f with
      | some e => match fldsEq P cs ds r with
        | some e' => some (e && e')
        | none => none
      | none => none
def arrsEq (P : Program) (cs ds : Array Value) (el : TypeId) : List Nat → Option Bool
  | [] => some true
  | i :: r => match fldEqT P cs ds el (i * 1) with
    | some e => match arrsEq P cs ds el r with
      | some e' => some (e && e')
      | none => none
    | none => none
def aggEq (P : Program) (t : TypeId) (cs ds : Array Value) : Option Bool := match P.underlying t with
  | some (.struct fs) => match P.stoodInHeld t || (P.eqGuardType P.depth t || !(cs.toList.all (plain 5) && ds.toList.all (plain 5))) with
    | true => none
    | false => fldsEq P cs ds fs.toList
  | some (.array n el) => match sizeT P el with
    | some 1 => match P.eqGuardType P.depth t || !(cs.toList.all (plain 5) && ds.toList.all (plain 5)) with
      | true => none
      | false => arrsEq P cs ds el (List.range' 0 n 1)
    | _ => none
  | _ => none

/-- Values that are claimed: outright; a choice of which the test is claimed; a division by what is not 0; a shift by what is not below 0. -/
def pClaim (P : Program) (o : Oper) (C : Prop) (s : AS) : It → Option (Value × Prop)
  | .v v => some (v, aVal P o s = some v ∧ C)
  | .p b => match o.op with
    | .pick c x y => match aev s.t c with
      | .bool E => match b with
        | true => some (aev s.t x, E = true ∧ C)
        | false => some (aev s.t y, E = false ∧ C)
      | _ => none
    | _ => none
  | .d => match o.op with
    | .binOp op _ x y _ => match aev s.t x, aev s.t y with
      | .int k a, .int k' c => match decide (k = k') with
        | true => match op with
          | .quo => some (.int k (k.wrap (a.tdiv c)), ¬ (c = 0) ∧ C)
          | .rem => some (.int k (a.tmod c), ¬ (c = 0) ∧ C)
          | _ => none
        | false => none
      | _, _ => none
    | _ => none
  | .s => match o.op with
    | .binOp op _ x y _ => match aev s.t x, aev s.t y with
      | .int k a, .int _ c => match op with
        | .shl => some (.int k (k.wrap (a * 2 ^ (min c.toNat k.bits))), ¬ (c < 0) ∧ C)
        | .shr => some (.int k (a.fdiv (2 ^ (min c.toNat k.bits))), ¬ (c < 0) ∧ C)
        | _ => none
      | _, _ => none
    | _ => none
  | .ln n => match o.op with
    | .call c => match c.callee, c.args.toList, c.argTypes.toList with
      | .builtin .len, [x], [ty] => match P.underlying ty with
        | some (.slice _) => some (goInt n, vlen (aev s.t x) = some n ∧ C)
        | _ => none
      | _, _, _ => none
    | _ => none
  | .ix id off g => match o.op with
    | .indexAddr t x i => match aev s.t i with
      | .int _ n => match P.underlying t with
        | some (.slice e) => match sizeT P e with
          | some z => some (.pointer (some ⟨id, off, some g⟩), ixv z (aev s.t x) n = some (id, off, g) ∧ C)
          | none => none
        | _ => none
      | _ => none
    | _ => none
  | .ia => match o.op with
    | .indexAddr t x i => match aev s.t x, aev s.t i with
      | .pointer (some a), .int _ n => match P.underlying t with
        | some (.array len e) => match sizeT P e with
          | some z => some (.pointer (some (padd a (n.toNat * z))), inRange n len = true ∧ C)
          | none => none
        | _ => none
      | _, _ => none
    | _ => none
  | .iv v => match o.op with
    | .index t x i => match aev s.t x, aev s.t i with
      | .agg cs, .int k n => match decide (k = .i64) with
        | true => some (v, iread P t cs n = some v ∧ C)
        | false => none
      | _, _ => none
    | _ => none
  | .sl v => match o.op with
    | .slice t x lo hi none => some (v, slv P t (aev s.t x) (lo.map (aev s.t)) (hi.map (aev s.t)) = some v ∧ C)
    | _ => none
  | .eq e => match o.op with
    | .binOp op t x y _ => match aev s.t x, aev s.t y with
      | .agg cs, .agg ds => match op with
        | .eql => some (.bool e, aggEq P t cs ds = some e ∧ C)
        | .neq => some (.bool (!e), aggEq P t cs ds = some e ∧ C)
        | _ => none
      | _, _ => none
    | _ => none
  | .nl e => match o.op with
    | .binOp op t x y _ => match aev s.t y with
      | .slice none 0 0 => match P.underlying t with
        | some (.slice _) => match op with
          | .eql => some (.bool e, vnil (aev s.t x) = some e ∧ C)
          | .neq => some (.bool (!e), vnil (aev s.t x) = some e ∧ C)
          | _ => none
        | _ => none
      | _ => none
    | _ => none
  | .si m => match o.op with
    | .index t x i => match aev s.t x, aev s.t i with
      | .string b, .int k n => match P.underlying t with
        | some .string => some (.int .u8 m, sread b n = some m ∧ C)
        | _ => none
      | _, _ => none
    | _ => none
  | .ld v => match o.op with
    | .load t x => match aev s.t x with
      | .pointer (some ⟨id, off, some g⟩) => some (v, hread P s.h t id off g = some v ∧ C)
      | .pointer (some ⟨k, off, none⟩) => match lget s.l k with
        | some cells => some (v, lread P cells t off = some v ∧ C)
        | none => none
      | _ => none
    | _ => none
  | _ => none
theorem pure_underlying {P : Program} {t : TypeId} {d : TypeDesc} (h : P.underlying t = some d) : pureRun P (underlying t) = some d := by
  unfold underlying
  rw [pureRun_bind]
  show (some P).bind _ = _
  simp only [Option.bind_some, h]
  rfl
theorem aval_len {P : Program} {o : Oper} {s : AS} {c : Call} {x : Operand} {ty : TypeId} {e : TypeId} {n : Nat} (ho : o.op = .call c) (hc : c.callee = .builtin .len) (ha : c.args.toList = [x]) (ht : c.argTypes.toList = [ty])
    (hu : P.underlying ty = some (.slice e)) (hv : vlen (aev s.t x) = some n) : aVal P o s = some (goInt n) := by
  obtain ⟨callee, args, argTypes⟩ := c
  simp only at hc ha ht
  subst hc
  obtain rfl : args = #[x] := by apply Array.toList_inj.1; simpa using ha
  obtain rfl : argTypes = #[ty] := by apply Array.toList_inj.1; simpa using ht
  unfold aVal
  rw [ho]
  simp only
  generalize hw : aev s.t x = v at hv
  unfold vlen at hv
  split at hv
  · cases hv
    have h1 : ∀ b c', aLen P ⟨b, #[x], c'⟩ s.t = none := by
      intro b c'; unfold aLen; simp only [hw]; split <;> simp_all
    rw [h1]
    simp only [orElse']
    unfold dflt
    have h2 : (o.op.operands.toList.all fun y => plain 6 (aev s.t y)) = true := by
      rw [ho]
      simp [Op.operands, Call.operands, hw, plain]
    rw [h2]
    have h3 : pureRun P (execOp (aev s.t) o) = some (.value (goInt 0)) := by
      obtain ⟨dst, oop, type, pos, after, guard⟩ := o
      simp only at ho
      subst ho
      have h5 : ∀ q : Deferred, q = { target := .builtin .len #[ty] type ((#[x] : Array Operand).map fun | .const _ => true | _ => false), args := #[x].map (aev s.t) } →
          (invoke q.target q.args) = ((Builtin.len_ #[ty] type #[aev s.t x]) >>= fun z => pure (Next.value z)) := by
        rintro q rfl
        simp [invoke, builtin]
      have h6 : execOp (aev s.t) ⟨dst, .call ⟨.builtin .len, #[x], #[ty]⟩, type, pos, after, guard⟩ = ((Builtin.len_ #[ty] type #[aev s.t x]) >>= fun z => pure (Next.value z)) := h5 _ rfl
      rw [h6, pureRun_bind, hw]
      have h4 : pureRun P (Builtin.len_ #[ty] type #[.slice none 0 0]) = some (goInt 0) := by
        unfold Builtin.len_
        simp only [List.getElem?_toArray, List.getElem?_cons_zero, pureRun_bind, pure_underlying hu, Option.bind_some]
        rfl
      rw [h4]
      rfl
    rw [h3]
    rfl
  · cases hv
    have h1 : aLen P ⟨.builtin .len, #[x], #[ty]⟩ s.t = some (goInt n) := by
      unfold aLen; simp only [hw, hu]
    rw [h1]
    rfl
  · cases hv
theorem pure_sizeT {P : Program} {t : TypeId} {n : Nat} (h : sizeT P t = some n) : pureRun P (sizeOf t) = some n := by
  unfold sizeT at h
  split at h
  · rename_i i hi
    cases h
    unfold sizeOf typeInfo
    simp only [pureRun_bind]
    show ((some P).bind _).bind _ = _
    simp only [Option.bind_some, hi]
    rfl
  · cases h
theorem sliceHi_zero {hi : Option Value} {h : Nat} (e : sliceHi 0 hi = some h) : h = 0 ∧ (hi = none ∨ ∃ k, hi = some (.int k 0)) := by
  unfold sliceHi at e
  split at e
  · cases e; exact ⟨rfl, .inl rfl⟩
  · rename_i k i
    split at e
    · rename_i hb
      simp only [Bool.and_eq_true, decide_eq_true_eq] at hb
      have : i = 0 := by omega
      subst this
      cases e; exact ⟨rfl, .inr ⟨k, rfl⟩⟩
    · cases e
  · cases e
theorem sliceLo_zero {lo : Option Value} {l : Nat} (e : sliceLo 0 lo = some l) : lo = none ∨ ∃ k, lo = some (.int k 0) := by
  unfold sliceLo at e
  split at e
  · exact .inl rfl
  · rename_i k i
    split at e
    · rename_i hb
      simp only [Bool.and_eq_true, decide_eq_true_eq] at hb
      have : i = 0 := by omega
      subst this
      exact .inr ⟨k, rfl⟩
    · cases e
  · cases e
theorem pure_slice_nil {P : Program} {t e : TypeId} {n : Nat} (hu : P.underlying t = some (.slice e)) (hn : sizeT P e = some n) {lo hi : Option Value} (h1 : hi = none ∨ ∃ k, hi = some (.int k 0)) (h2 : lo = none ∨ ∃ k, lo = some (.int k 0)) :
    pureRun P (Instr.sliceAt t (.slice none 0 0) lo hi none) = some (.slice none 0 0) := by
  unfold Instr.sliceAt
  rw [pureRun_bind, pure_underlying hu]
  simp only [Option.bind_some]
  unfold Instr.slice
  rw [pureRun_bind, pure_underlying hu]
  simp only [Option.bind_some]
  rw [pureRun_bind]
  have hb : pureRun P (Instr.sliceBounds true 0 0 lo hi none) = some (0, 0, 0) := by
    rcases h1 with rfl | ⟨k1, rfl⟩ <;> rcases h2 with rfl | ⟨k2, rfl⟩ <;> rfl
  rw [hb]
  simp only [Option.bind_some]
  rw [pureRun_bind, pure_sizeT hn]
  rfl
theorem aval_slice {P : Program} {o : Oper} {s : AS} {t : TypeId} {x : Operand} {lo hi : Option Operand} {v : Value} (ho : o.op = .slice t x lo hi none) (hv : slv P t (aev s.t x) (lo.map (aev s.t)) (hi.map (aev s.t)) = some v) : aVal P o s = some v := by
  unfold slv at hv
  split at hv
  · rename_i a len z hx
    unfold aVal; rw [ho]; simp only [hx]; exact hv
  · rename_i hx
    split at hv
    · rename_i e hu
      split at hv
      · rename_i n hn
        split at hv
        · rename_i h h1
          obtain ⟨rfl, k1⟩ := sliceHi_zero h1
          split at hv
          · rename_i l h2
            have k2 := sliceLo_zero h2
            cases hv
            have hd : dflt P o s.t = some (.slice none 0 0) := by
              unfold dflt
              have p1 : (o.op.operands.toList.all fun y => plain 6 (aev s.t y)) = true := by
                rw [ho, List.all_eq_true]
                intro y hy
                have : y = x ∨ lo = some y ∨ hi = some y := by
                  cases lo <;> cases hi <;> simp [Op.operands] at hy ⊢ <;> first | exact hy | (rcases hy with h | h | h <;> simp [h]) | (rcases hy with h | h <;> simp [h])
                rcases this with rfl | rfl | rfl
                · rw [hx]; rfl
                · rcases k2 with k2 | ⟨k, k2⟩
                  · simp at k2
                  · simp only [Option.map_some, Option.some.injEq] at k2; rw [k2]; rfl
                · rcases k1 with k1 | ⟨k, k1⟩
                  · simp at k1
                  · simp only [Option.map_some, Option.some.injEq] at k1; rw [k1]; rfl
              rw [p1]
              have p2 : pureRun P (execOp (aev s.t) o) = some (.value (.slice none 0 0)) := by
                obtain ⟨dst, oop, type, pos, after, guard⟩ := o
                simp only at ho
                subst ho
                show pureRun P (Instr.sliceAt t (aev s.t x) (lo.map (aev s.t)) (hi.map (aev s.t)) none >>= fun z => pure (Next.value z)) = _
                rw [pureRun_bind, hx, pure_slice_nil hu hn k1 k2]
                rfl
              rw [p2]
              rfl
            unfold aVal; rw [ho]; simp only [hx]; exact hd
          · cases hv
        · cases hv
      · cases hv
    · cases hv
  · cases hv
theorem dflt_int {P : Program} {o : Oper} {s : AS} {op : BinOp} {t yt : TypeId} {x y : Operand} {k k' : IntKind} {a c : Int} {v : Value} (ho : o.op = .binOp op t x y yt) (hx : aev s.t x = .int k a) (hy : aev s.t y = .int k' c)
    (hop : op ≠ .eql ∧ op ≠ .neq) (hv : ∀ w, pureRun P (binOp op t (.int k a) (.int k' c)) = some w → w = v) (hs : pureRun P (binOp op t (.int k a) (.int k' c)) = some v) (hp : plain 6 v = true) : aVal P o s = some v := by
  have hd : dflt P o s.t = some v := by
    unfold dflt
    have h1 : (o.op.operands.toList.all fun x => plain 6 (aev s.t x)) = true := by
      rw [ho]; simp [Op.operands, hx, hy, plain]
    rw [h1]
    have h2 : pureRun P (execOp (aev s.t) o) = some (.value v) := by
      obtain ⟨dst, oop, type, pos, after, guard⟩ := o
      simp only at ho
      subst ho
      simp only [execOp, hx, hy]
      show pureRun P ((do eqGuard op t x y (.int k a) (.int k' c); binOp op t (.int k a) (.int k' c)) >>= fun z => pure (Next.value z)) = _
      rw [pureRun_bind, pureRun_bind]
      have h3 : pureRun P (eqGuard op t x y (.int k a) (.int k' c)) = some () := by
        unfold eqGuard
        cases op <;> first | rfl | exact absurd rfl hop.1 | exact absurd rfl hop.2
      rw [h3]
      simp only [Option.bind_some, hs]
      rfl
    rw [h2]
    simp only [hp]
  have hb : aBin P op t (.int k a) (.int k' c) = none := by
    cases op <;> first | rfl | exact absurd rfl hop.1 | exact absurd rfl hop.2
  unfold aVal
  rw [ho]
  simp only [hx, hy, hb, hd, orElse']
theorem fldEqT_sound {P : Program} {cs ds : Array Value} {ty : TypeId} {off : Nat} {e : Bool} (h : fldEqT P cs ds ty off = some e) {β : Type} (K : Bool → Sem β) :
    pureRun P (part ty cs off >>= fun a => part ty ds off >>= fun b => Op.equalIn 9999 ty a b >>= K) = pureRun P (K e) := by
  have hp : ∀ {xs : Array Value} {v : Value} {d : TypeDesc}, P.underlying ty = some d → (∀ z, d ≠ .struct z) → (∀ n z, d ≠ .array n z) → xs[off]? = some v → pureRun P (part ty xs off) = some v := by
    intro xs v d hu h1 h2 hx
    unfold part isAgg
    rw [pureRun_bind, pureRun_bind, pure_underlying hu]
    simp only [Option.bind_some]
    cases d with
    | struct z => exact absurd rfl (h1 z)
    | array n z => exact absurd rfl (h2 n z)
    | _ =>
      simp only [hx]
      rfl
  unfold fldEqT at h
  split at h
  · rename_i k0 hu
    split at h
    · rename_i k a k' b hc hd
      split at h
      · rename_i hk
        have hk' : k = k' := by simpa using hk
        subst hk'
        cases h
        rw [pureRun_bind, hp hu (by intro z; simp) (by intro n z; simp) hc, Option.bind_some]
        rw [pureRun_bind, hp hu (by intro z; simp) (by intro n z; simp) hd, Option.bind_some]
        rw [pureRun_bind]
        have : pureRun P (Op.equalIn 9999 ty (.int k a) (.int k b)) = some (a == b) := by
          rw [show (9999 : Nat) = 9998 + 1 from rfl]
          unfold Op.equalIn
          rw [pureRun_bind, pure_underlying hu]
          simp only [Option.bind_some, if_true]
          rfl
        rw [this, Option.bind_some]
      · cases h
    · cases h
  · rename_i hu
    split at h
    · rename_i a b hc hd
      cases h
      rw [pureRun_bind, hp hu (by intro z; simp) (by intro n z; simp) hc, Option.bind_some]
      rw [pureRun_bind, hp hu (by intro z; simp) (by intro n z; simp) hd, Option.bind_some]
      rw [pureRun_bind]
      have : pureRun P (Op.equalIn 9999 ty (.bool a) (.bool b)) = some (a == b) := by
        rw [show (9999 : Nat) = 9998 + 1 from rfl]
        unfold Op.equalIn
        rw [pureRun_bind, pure_underlying hu]
        rfl
      rw [this, Option.bind_some]
    · cases h
  · cases h
theorem fldEq_sound {P : Program} {cs ds : Array Value} {f : Field} {e : Bool} (h : fldEq P cs ds f = some e) {β : Type} (K : Bool → Sem β) :
    pureRun P (part f.type cs f.offset >>= fun a => part f.type ds f.offset >>= fun b => Op.equalIn 9999 f.type a b >>= K) = pureRun P (K e) := fldEqT_sound h K
theorem arrsEq_sound {P : Program} {cs ds : Array Value} {el : TypeId} : ∀ (l : List Nat) (e : Bool), arrsEq P cs ds el l = some e →
    pureRun P (forIn l ((none, ()) : Option Bool × Unit) fun i __s => do
                  let __do_lift ← part el cs (i * 1)
                  let __do_lift_1 ← part el ds (i * 1)
                  let __do_lift ← Op.equalIn 9999 el __do_lift __do_lift_1
                  if (!__do_lift) = true then pure (ForInStep.done (some false, ()))
                    else pure (ForInStep.yield (none, ()))) = some (if e then (none, ()) else (some false, ()))
  | [], e, h => by cases h; rfl
  | f :: r, e, h => by
    simp only [arrsEq] at h
    split at h
    · rename_i e1 h1
      split at h
      · rename_i e2 h2
        cases h
        rw [List.forIn_cons]
        rw [pureRun_bind, fldEqT_sound h1]
        cases e1 with
        | false => rfl
        | true =>
          simp only [Bool.not_true, Bool.false_eq_true, if_false, Bool.true_and]
          exact arrsEq_sound r e2 h2
      · cases h
    · cases h
theorem fldsEq_sound {P : Program} {cs ds : Array Value} : ∀ (l : List Field) (e : Bool), fldsEq P cs ds l = some e →
    pureRun P (forIn l ((none, ()) : Option Bool × Unit) fun f __s =>
                if f.name ≠ "_" then do
                  let __do_lift ← part f.type cs f.offset
                  let __do_lift_1 ← part f.type ds f.offset
                  let __do_lift ← Op.equalIn 9999 f.type __do_lift __do_lift_1
                  if (!__do_lift) = true then pure (ForInStep.done (some false, ()))
                    else pure (ForInStep.yield (none, ()))
                else pure (ForInStep.yield (none, ()))) = some (if e then (none, ()) else (some false, ()))
  | [], e, h => by cases h; rfl
  | f :: r, e, h => by
    simp only [fldsEq] at h
    split at h
    · cases h
    · rename_i hn
      have hn' : f.name ≠ "_" := by simpa using hn
      split at h
      · rename_i e1 h1
        split at h
        · rename_i e2 h2
          cases h
          rw [List.forIn_cons]
          simp only [if_pos hn']
          rw [pureRun_bind, fldEq_sound h1]
          cases e1 with
          | false => rfl
          | true =>
            simp only [Bool.not_true, Bool.false_eq_true, if_false, Bool.true_and]
            exact fldsEq_sound r e2 h2
        · cases h
      · cases h
theorem aggEq_sound {P : Program} {t : TypeId} {cs ds : Array Value} {e : Bool} (h : aggEq P t cs ds = some e) : pureRun P (Op.equal t (.agg cs) (.agg ds)) = some e ∧ P.eqGuardType P.depth t = false ∧ cs.toList.all (plain 5) = true ∧ ds.toList.all (plain 5) = true := by
  unfold aggEq at h
  split at h
  · rename_i fs hu
    split at h
    · cases h
    · rename_i hc
      simp only [Bool.or_eq_false_iff, Bool.not_eq_false', Bool.and_eq_true] at hc
      obtain ⟨c1, c2, c3, c4⟩ := hc
      refine ⟨?_, c2, c3, c4⟩
      unfold Op.equal Op.maxDepth
      rw [show (10000 : Nat) = 9999 + 1 from rfl]
      unfold Op.equalIn
      rw [pureRun_bind, pure_underlying hu]
      simp only [Option.bind_some]
      rw [pureRun_bind]
      show (some P).bind _ = _
      simp only [Option.bind_some, c1, Bool.false_eq_true, if_false]
      rw [pureRun_bind, ← Array.forIn_toList, fldsEq_sound fs.toList e h]
      cases e <;> rfl
  · rename_i n el hu
    split at h
    · rename_i hs
      split at h
      · cases h
      · rename_i hc
        simp only [Bool.or_eq_false_iff, Bool.not_eq_false', Bool.and_eq_true] at hc
        obtain ⟨c2, c3, c4⟩ := hc
        refine ⟨?_, c2, c3, c4⟩
        unfold Op.equal Op.maxDepth
        rw [show (10000 : Nat) = 9999 + 1 from rfl]
        unfold Op.equalIn
        rw [pureRun_bind, pure_underlying hu]
        simp only [Option.bind_some]
        rw [pureRun_bind, pure_sizeT hs]
        simp only [Option.bind_some]
        rw [pureRun_bind, Std.Legacy.Range.forIn_eq_forIn_range']
        have := arrsEq_sound (List.range' 0 n 1) e h
        simp only [Std.Legacy.Range.size, Nat.sub_zero, Nat.add_sub_cancel, Nat.div_one]
        rw [this]
        cases e <;> rfl
    · cases h
  · cases h
theorem aval_eq {P : Program} {o : Oper} {s : AS} {op : BinOp} {t yt : TypeId} {x y : Operand} {cs ds : Array Value} {e : Bool} (ho : o.op = .binOp op t x y yt) (hx : aev s.t x = .agg cs) (hy : aev s.t y = .agg ds) (h : aggEq P t cs ds = some e) :
    (op = .eql → aVal P o s = some (.bool e)) ∧ (op = .neq → aVal P o s = some (.bool (!e))) := by
  obtain ⟨h1, h2, h3, h4⟩ := aggEq_sound h
  have hd : ∀ b, (op = .eql ∨ op = .neq) → pureRun P (binOp op t (.agg cs) (.agg ds)) = some (.bool b) → aVal P o s = some (.bool b) := by
    intro b hop hb
    have hb' : aBin P op t (.agg cs) (.agg ds) = none := by
      rcases hop with rfl | rfl <;> rfl
    have hdf : dflt P o s.t = some (.bool b) := by
      unfold dflt
      have p1 : (o.op.operands.toList.all fun x => plain 6 (aev s.t x)) = true := by
        rw [ho]; simp [Op.operands, hx, hy, plain]
        exact ⟨by simpa using h3, by simpa using h4⟩
      rw [p1]
      have p2 : pureRun P (execOp (aev s.t) o) = some (.value (.bool b)) := by
        obtain ⟨dst, oop, type, pos, after, guard⟩ := o
        simp only at ho
        subst ho
        simp only [execOp, hx, hy]
        show pureRun P ((do eqGuard op t x y (.agg cs) (.agg ds); binOp op t (.agg cs) (.agg ds)) >>= fun z => pure (Next.value z)) = _
        rw [pureRun_bind, pureRun_bind]
        have h5 : pureRun P (eqGuard op t x y (.agg cs) (.agg ds)) = some () := by
          unfold eqGuard
          rcases hop with rfl | rfl
          · simp only [Bool.not_true, Bool.false_eq_true, if_false]
            rw [pureRun_bind]
            show (some P).bind _ = _
            simp only [Option.bind_some]
            rw [pureRun_bind]
            show (some P).bind _ = _
            simp only [Option.bind_some, h2, Bool.not_false, if_true]
            rfl
          · simp only [Bool.not_true, Bool.false_eq_true, if_false]
            rw [pureRun_bind]
            show (some P).bind _ = _
            simp only [Option.bind_some]
            rw [pureRun_bind]
            show (some P).bind _ = _
            simp only [Option.bind_some, h2, Bool.not_false, if_true]
            rfl
        rw [h5]
        simp only [Option.bind_some, hb]
        rfl
      rw [p2]
      rfl
    unfold aVal
    rw [ho]
    simp only [hx, hy, hb', hdf, orElse']
  refine ⟨fun hop => hd e (.inl hop) ?_, fun hop => hd (!e) (.inr hop) ?_⟩
  · subst hop
    show pureRun P (Op.equal t (.agg cs) (.agg ds) >>= fun z => pure (Value.bool z)) = _
    rw [pureRun_bind, h1]; rfl
  · subst hop
    show pureRun P (Op.equal t (.agg cs) (.agg ds) >>= fun z => pure (Value.bool (!z))) = _
    rw [pureRun_bind, h1]; rfl
theorem aval_nl {P : Program} {o : Oper} {s : AS} {op : BinOp} {t yt el : TypeId} {x y : Operand} {e : Bool} (ho : o.op = .binOp op t x y yt) (hy : aev s.t y = .slice none 0 0) (hu : P.underlying t = some (.slice el)) (h : vnil (aev s.t x) = some e) :
    (op = .eql → aVal P o s = some (.bool e)) ∧ (op = .neq → aVal P o s = some (.bool (!e))) := by
  generalize hx : aev s.t x = v at h
  unfold vnil at h
  split at h
  · cases h
    have h1 : pureRun P (Op.equal t (.slice none 0 0) (.slice none 0 0)) = some true := by
      unfold Op.equal Op.maxDepth
      rw [show (10000 : Nat) = 9999 + 1 from rfl]
      unfold Op.equalIn
      rw [pureRun_bind, pure_underlying hu]
      rfl
    have hd : ∀ b, (op = .eql ∨ op = .neq) → pureRun P (binOp op t (.slice none 0 0) (.slice none 0 0)) = some (.bool b) → aVal P o s = some (.bool b) := by
      intro b hop hb
      have hb' : aBin P op t (.slice none 0 0) (.slice none 0 0) = none := by
        rcases hop with rfl | rfl <;> rfl
      have hdf : dflt P o s.t = some (.bool b) := by
        unfold dflt
        have p1 : (o.op.operands.toList.all fun x => plain 6 (aev s.t x)) = true := by
          rw [ho]; simp [Op.operands, hx, hy, plain]
        rw [p1]
        have p2 : pureRun P (execOp (aev s.t) o) = some (.value (.bool b)) := by
          obtain ⟨dst, oop, type, pos, after, guard⟩ := o
          simp only at ho
          subst ho
          simp only [execOp, hx, hy]
          show pureRun P ((do eqGuard op t x y (.slice none 0 0) (.slice none 0 0); binOp op t (.slice none 0 0) (.slice none 0 0)) >>= fun z => pure (Next.value z)) = _
          rw [pureRun_bind, pureRun_bind]
          have h5 : pureRun P (eqGuard op t x y (.slice none 0 0) (.slice none 0 0)) = some () := by
            unfold eqGuard
            rcases hop with rfl | rfl <;> rfl
          rw [h5]
          simp only [Option.bind_some, hb]
          rfl
        rw [p2]
        rfl
      unfold aVal
      rw [ho]
      simp only [hx, hy, hb', hdf, orElse']
    refine ⟨fun hop => hd true (.inl hop) ?_, fun hop => hd (!true) (.inr hop) ?_⟩
    · subst hop
      show pureRun P (Op.equal t (.slice none 0 0) (.slice none 0 0) >>= fun z => pure (Value.bool z)) = _
      rw [pureRun_bind, h1]; rfl
    · subst hop
      show pureRun P (Op.equal t (.slice none 0 0) (.slice none 0 0) >>= fun z => pure (Value.bool (!z))) = _
      rw [pureRun_bind, h1]; rfl
  · cases h
    constructor
    · rintro rfl
      unfold aVal
      rw [ho]
      simp only [hx, hy, aBin, aNil, hu, orElse']
    · rintro rfl
      unfold aVal
      rw [ho]
      simp only [hx, hy, aBin, aNil, hu, orElse', Bool.not_false]
  · cases h
theorem aval_si {P : Program} {o : Oper} {s : AS} {t : TypeId} {x i : Operand} {b : ByteArray} {k : IntKind} {n m : Int} (ho : o.op = .index t x i) (hx : aev s.t x = .string b) (hi : aev s.t i = .int k n) (hu : P.underlying t = some .string)
    (h : sread b n = some m) : aVal P o s = some (.int .u8 m) := by
  have hin : pureRun P (Instr.index t (.string b) (.int k n)) = some (.int .u8 m) := by
    unfold Instr.index
    have e1 : pureRun P (asIntOf (.int k n)) = some (k, n) := rfl
    rw [pureRun_bind, e1]
    simp only [Option.bind_some]
    rw [pureRun_bind, pure_underlying hu]
    simp only [Option.bind_some]
    unfold sread at h
    split at h
    · rename_i h0
      have h0' : 0 ≤ n := by simpa using h0
      rw [if_pos h0']
      split at h
      · rename_i y hy
        rw [hy]
        cases h
        rfl
      · cases h
    · cases h
  have hdf : dflt P o s.t = some (.int .u8 m) := by
    unfold dflt
    have p1 : (o.op.operands.toList.all fun y => plain 6 (aev s.t y)) = true := by
      rw [ho]; simp [Op.operands, hx, hi, plain]
    rw [p1]
    have p2 : pureRun P (execOp (aev s.t) o) = some (.value (.int .u8 m)) := by
      obtain ⟨dst, oop, type, pos, after, guard⟩ := o
      simp only at ho
      subst ho
      simp only [execOp, hx, hi]
      show pureRun P (Instr.index t (.string b) (.int k n) >>= fun z => pure (Next.value z)) = _
      rw [pureRun_bind, hin]
      rfl
    rw [p2]
    rfl
  unfold aVal
  rw [ho]
  simp only [hx, hdf]
theorem pClaim_sound {P : Program} {o : Oper} {C C' : Prop} {s : AS} {it : It} {v : Value} (h : pClaim P o C s it = some (v, C')) (hC : C') : C ∧ aVal P o s = some v := by
  cases it with
  | v u =>
    simp only [pClaim, Option.some.injEq, Prod.mk.injEq] at h
    obtain ⟨rfl, rfl⟩ := h
    exact ⟨hC.2, hC.1⟩
  | p b =>
    simp only [pClaim] at h
    split at h
    · rename_i c x y hop
      split at h
      · rename_i E hE
        split at h
        · simp only [Option.some.injEq, Prod.mk.injEq] at h
          obtain ⟨rfl, rfl⟩ := h
          refine ⟨hC.2, ?_⟩
          unfold aVal; rw [hop]; simp only [hE, hC.1]
        · simp only [Option.some.injEq, Prod.mk.injEq] at h
          obtain ⟨rfl, rfl⟩ := h
          refine ⟨hC.2, ?_⟩
          unfold aVal; rw [hop]; simp only [hE, hC.1]
      · cases h
    · cases h
  | d =>
    simp only [pClaim] at h
    split at h
    · rename_i op t x y yt hop
      split at h
      · rename_i k a k' c hx hy
        split at h
        · rename_i hk
          have hk' : k = k' := by simpa using hk
          subst hk'
          split at h
          · simp only [Option.some.injEq, Prod.mk.injEq] at h
            obtain ⟨rfl, rfl⟩ := h
            have e : pureRun P (binOp .quo t (.int k a) (.int k c)) = some (.int k (k.wrap (a.tdiv c))) := by
              simp [binOp, Op.intDiv, hC.1, pureRun, pure]
            exact ⟨hC.2, dflt_int hop hx hy (by simp) (fun w hw => by rw [e] at hw; cases hw; rfl) e rfl⟩
          · simp only [Option.some.injEq, Prod.mk.injEq] at h
            obtain ⟨rfl, rfl⟩ := h
            have e : pureRun P (binOp .rem t (.int k a) (.int k c)) = some (.int k (a.tmod c)) := by
              simp [binOp, Op.intDiv, hC.1, pureRun, pure]
            exact ⟨hC.2, dflt_int hop hx hy (by simp) (fun w hw => by rw [e] at hw; cases hw; rfl) e rfl⟩
          · cases h
        · cases h
      · cases h
    · cases h
  | s =>
    simp only [pClaim] at h
    split at h
    · rename_i op t x y yt hop
      split at h
      · rename_i k a k' c hx hy
        split at h
        · simp only [Option.some.injEq, Prod.mk.injEq] at h
          obtain ⟨rfl, rfl⟩ := h
          have e : pureRun P (binOp .shl t (.int k a) (.int k' c)) = some (.int k (k.wrap (a * 2 ^ (min c.toNat k.bits)))) := by
            simp [binOp, Op.shift, hC.1, pureRun, pure]
          exact ⟨hC.2, dflt_int hop hx hy (by simp) (fun w hw => by rw [e] at hw; cases hw; rfl) e rfl⟩
        · simp only [Option.some.injEq, Prod.mk.injEq] at h
          obtain ⟨rfl, rfl⟩ := h
          have e : pureRun P (binOp .shr t (.int k a) (.int k' c)) = some (.int k (a.fdiv (2 ^ (min c.toNat k.bits)))) := by
            simp [binOp, Op.shift, hC.1, pureRun, pure]
          exact ⟨hC.2, dflt_int hop hx hy (by simp) (fun w hw => by rw [e] at hw; cases hw; rfl) e rfl⟩
        · cases h
      · cases h
    · cases h
  | ln n =>
    simp only [pClaim] at h
    split at h
    · rename_i c hop
      split at h
      · rename_i x ty hc ha ht
        split at h
        · rename_i e hu
          simp only [Option.some.injEq, Prod.mk.injEq] at h
          obtain ⟨rfl, rfl⟩ := h
          exact ⟨hC.2, aval_len hop hc ha ht hu hC.1⟩
        · cases h
      · cases h
    · cases h
  | ix id off g =>
    simp only [pClaim] at h
    split at h
    · rename_i t x i hop
      split at h
      · rename_i k n hi
        split at h
        · rename_i e hu
          split at h
          · rename_i z hz
            simp only [Option.some.injEq, Prod.mk.injEq] at h
            obtain ⟨rfl, rfl⟩ := h
            refine ⟨hC.2, ?_⟩
            have h1 := hC.1
            unfold aVal; rw [hop]
            simp only [hi]
            generalize aev s.t x = v at h1
            unfold ixv at h1
            split at h1
            · split at h1
              · rename_i hr
                simp only [Option.some.injEq, Prod.mk.injEq] at h1
                obtain ⟨rfl, rfl, rfl⟩ := h1
                simp only [aIndexAddr, hu, hz, hr]
              · cases h1
            · cases h1
          · cases h
        · cases h
      · cases h
    · cases h
  | ia =>
    simp only [pClaim] at h
    split at h
    · rename_i t x i hop
      split at h
      · rename_i a k n hx hi
        split at h
        · rename_i len e hu
          split at h
          · rename_i z hz
            simp only [Option.some.injEq, Prod.mk.injEq] at h
            obtain ⟨rfl, rfl⟩ := h
            refine ⟨hC.2, ?_⟩
            unfold aVal; rw [hop]
            simp only [hx, hi, aIndexAddr, hu, hz, hC.1]
          · cases h
        · cases h
      · cases h
    · cases h
  | iv u =>
    simp only [pClaim] at h
    split at h
    · rename_i t x i hop
      split at h
      · rename_i cs k n hx hi
        split at h
        · rename_i hk
          have hk' : k = .i64 := by simpa using hk
          subst hk'
          simp only [Option.some.injEq, Prod.mk.injEq] at h
          obtain ⟨rfl, rfl⟩ := h
          refine ⟨hC.2, ?_⟩
          unfold aVal; rw [hop]
          simp only [hx, hi]
          exact hC.1
        · cases h
      · cases h
    · cases h
  | sl u =>
    simp only [pClaim] at h
    split at h
    · rename_i t x lo hi hop
      simp only [Option.some.injEq, Prod.mk.injEq] at h
      obtain ⟨rfl, rfl⟩ := h
      exact ⟨hC.2, aval_slice hop hC.1⟩
    · cases h
  | eq e =>
    simp only [pClaim] at h
    split at h
    · rename_i op t x y yt hop
      split at h
      · rename_i cs ds hx hy
        split at h
        · simp only [Option.some.injEq, Prod.mk.injEq] at h
          obtain ⟨rfl, rfl⟩ := h
          exact ⟨hC.2, (aval_eq hop hx hy hC.1).1 rfl⟩
        · simp only [Option.some.injEq, Prod.mk.injEq] at h
          obtain ⟨rfl, rfl⟩ := h
          exact ⟨hC.2, (aval_eq hop hx hy hC.1).2 rfl⟩
        · cases h
      · cases h
    · cases h
  | nl e =>
    simp only [pClaim] at h
    split at h
    · rename_i op t x y yt hop
      split at h
      · rename_i hy
        split at h
        · rename_i el hu
          split at h
          · simp only [Option.some.injEq, Prod.mk.injEq] at h
            obtain ⟨rfl, rfl⟩ := h
            exact ⟨hC.2, (aval_nl hop hy hu hC.1).1 rfl⟩
          · simp only [Option.some.injEq, Prod.mk.injEq] at h
            obtain ⟨rfl, rfl⟩ := h
            exact ⟨hC.2, (aval_nl hop hy hu hC.1).2 rfl⟩
          · cases h
        · cases h
      · cases h
    · cases h
  | si m =>
    simp only [pClaim] at h
    split at h
    · rename_i t x i hop
      split at h
      · rename_i b k n hx hi
        split at h
        · rename_i hu
          simp only [Option.some.injEq, Prod.mk.injEq] at h
          obtain ⟨rfl, rfl⟩ := h
          exact ⟨hC.2, aval_si hop hx hi hu hC.1⟩
        · cases h
      · cases h
    · cases h
  | ld u =>
    simp only [pClaim] at h
    split at h
    · rename_i t x hop
      split at h
      · rename_i id off g hx
        simp only [Option.some.injEq, Prod.mk.injEq] at h
        obtain ⟨rfl, rfl⟩ := h
        refine ⟨hC.2, ?_⟩
        unfold aVal; rw [hop]
        simp only [hx]
        exact hC.1
      · rename_i k off hx
        split at h
        · rename_i cells hc
          simp only [Option.some.injEq, Prod.mk.injEq] at h
          obtain ⟨rfl, rfl⟩ := h
          refine ⟨hC.2, ?_⟩
          unfold aVal; rw [hop]
          simp only [hx, aLoad, hc]
          exact hC.1
        · cases h
      · cases h
    · cases h
  | _ => simp [pClaim] at h

def jmask : List Bool → List Value → List Value
  | true :: m, _ :: t => junk :: jmask m t
  | false :: m, v :: t => v :: jmask m t
  | _, t => t
def kills : List Nat → AS → AS
  | [], s => s
  | k :: r, s => kills r (kill s k)
def junks (ds : List Bool) (s : AS) : AS := ⟨jmask ds s.t, s.l, s.h⟩
/-- What is no longer wanted, forgotten. -/
def forget (ds : List Bool) (ks : List Nat) (s : AS) : AS := junks ds (kills ks s)
theorem jmask_length : ∀ (m : List Bool) (t : List Value), (jmask m t).length = t.length
  | [], t => by cases t <;> rfl
  | _ :: _, [] => by rename_i b _; cases b <;> rfl
  | true :: m, v :: t => by simp [jmask, jmask_length m t]
  | false :: m, v :: t => by simp [jmask, jmask_length m t]
theorem jmask_get : ∀ (m : List Bool) (t : List Value) (i : Nat) (v : Value), (jmask m t)[i]? = some v → v = junk ∨ t[i]? = some v
  | [], t, i, v, h => .inr (by cases t <;> exact h)
  | _ :: _, [], i, v, h => .inr (by rename_i b _; cases b <;> exact h)
  | true :: m, u :: t, 0, v, h => .inl (by simp [jmask] at h; exact h.symm)
  | false :: m, u :: t, 0, v, h => .inr (by simpa [jmask] using h)
  | true :: m, u :: t, i + 1, v, h => by simpa using jmask_get m t i v (by simpa [jmask] using h)
  | false :: m, u :: t, i + 1, v, h => by simpa using jmask_get m t i v (by simpa [jmask] using h)
theorem FRel.junks {B : Nat} {E : Ent} {ρ : Rho} {lam : Nat → Nat} {s : AS} {a : Act} {w : World} (F : FRel B E ρ lam s a w) (ds : List Bool) : FRel B E ρ lam (junks ds s) a w := by
  refine ⟨F.heap, F.ext, F.base, fun k cells hk => ?_, by simpa [Abs.junks, jmask_length] using F.size, ?_, F.defers⟩
  · have := F.locs k cells hk
    exact ⟨this.lies, this.mine, this.row, this.other⟩
  · intro i v v' hv hv'
    rcases jmask_get _ _ _ _ hv with rfl | h
    · exact .mem (.junk _)
    · exact F.tmps i v v' h hv'
theorem FRel.kills {B : Nat} {E : Ent} {ρ : Rho} {lam : Nat → Nat} {a : Act} {w : World} : ∀ (ks : List Nat) {s : AS}, FRel B E ρ lam s a w → FRel B E ρ lam (kills ks s) a w
  | [], _, F => F
  | k :: r, _, F => FRel.kills r (F.kill k)
theorem FRel.forget {B : Nat} {E : Ent} {ρ : Rho} {lam : Nat → Nat} {s : AS} {a : Act} {w : World} (F : FRel B E ρ lam s a w) (ds : List Bool) (ks : List Nat) : FRel B E ρ lam (forget ds ks s) a w := (F.kills ks).junks ds
theorem awp_forget_pre {P : Program} {c : Code} {Q : Exit → AS → Prop} {s : AS} (ds : List Bool) (ks : List Nat) (h : AWp P c Q (forget ds ks s)) : AWp P c Q s :=
  awp_weak (fun _ _ _ _ _ _ F => ⟨_, _, F.forget ds ks⟩) h
theorem awp_forget_post {P : Program} {c : Code} {e : Exit} {s s1 : AS} (ds : List Bool) (ks : List Nat) (h : AWp P c (Ends1 e s1) s) : AWp P c (Ends1 e (forget ds ks s1)) s := by
  intro B E ρ lam a w F
  refine wp_mono (h B E ρ lam a w F) ?_
  rintro e' a' w' ⟨s', ρ', lam', ⟨rfl, rfl⟩, F'⟩
  exact ⟨_, ρ', lam', ⟨rfl, rfl⟩, F'.forget ds ks⟩

inductive MOp where
  | st (t : TypeId) (id off g : Nat) (x : Value)
  | ap (t : TypeId) (x y : Value)
  | mk (t : TypeId) (l c : Int)
  | bs (t : TypeId) (len : Nat) (parts : List (Nat × Value))
  | bx (el : TypeId) (cells : List Value)
  | mkm (t : TypeId)
  | ml (t : TypeId) (x k : Value) (ok : Bool)
  | mu (t : TypeId) (x k v : Value)
  | me (t : TypeId) (x k : Value)
  | es (x st v : Value)
def mop (o : Oper) (t : List Value) : Option MOp :=
  match o.op with
  | .store ty ad x => match aev t ad with
    | .pointer (some ⟨id, off, some g⟩) => some (.st ty id off g (aev t x))
    | _ => none
  | .makeSlice ty l c => match aev t l, aev t c with
    | .int _ l, .int _ c => some (.mk ty l c)
    | _, _ => none
  | .buildSlice ty len parts => some (.bs ty len (parts.map fun (i, x) => (i, aev t x)).toList)
  | .call c => match c.callee, c.args.toList, c.argTypes.toList with
    | .builtin .append, [x, y], [ty, ty'] => match Nat.beq ty ty' with
      | true => some (.ap ty (aev t x) (aev t y))
      | false => none
    | _, _, _ => none
  | _ => none
def stH (P : Program) (h : AHeap) (t : TypeId) (id off g : Nat) (x : Value) : Option AHeap :=
  match sizeT P t, okPart x && x.cells.toList.all (·.oneCell') with
  | some n, true => match Nat.beq x.cells.size n, h.get id with
    | true, some blk => match Nat.beq g blk.gen && (!blk.ro && Nat.ble (off + n) blk.cells.length) with
      | true => some (h.set id ⟨splice blk.cells off x.cells.toList, blk.gen, false, blk.el⟩)
      | false => none
    | _, _ => none
  | _, _ => none
def srcH (h : AHeap) (n : Nat) : Value → Option (List Value × Nat)
  | .slice none 0 0 => some ([], 0)
  | .slice (some ⟨_, _, some _⟩) 0 _ => some ([], 0)
  | .slice (some ⟨id, off, some g⟩) m _ => match h.get id with
    | some blk => match Nat.beq g blk.gen && Nat.ble (off + m * n) blk.cells.length with
      | true => some ((blk.cells.drop off).take (m * n), m)
      | false => none
    | none => none
  | _ => none
def mkInfo (P : Program) (t : TypeId) : Option (TypeId × Nat × Nat × List Value) :=
  match P.underlying t with
  | some (.slice e) => match P.info? e, aZero P e with
    | some i, some z => match z.cells.toList.all (·.oneCell') && (Nat.beq z.cells.size i.size && Nat.ble 1 i.size) with
      | true => some (e, i.size, i.bytes, z.cells.toList)
      | false => none
    | _, _ => none
  | _ => none
def okLen (l c : Int) (B : Nat) : Bool := decide (0 ≤ l) && (decide (l ≤ c) && (decide (c * (B : Int) ≤ 140737488351232) && decide (c ≤ 140737488351232)))
def okApp (n B : Nat) : Bool := Nat.ble (n * B) 140737488351232 && Nat.ble n 140737488351232
def bsCells (P : Program) (t : TypeId) (len : Nat) (parts : List (Nat × Value)) : Option (TypeId × Nat × List Value) :=
  match P.underlying t with
  | some (.slice e) => match sizeT P e, aZero P e with
    | some n, some z => match parts.all (fun p => okPart p.2) && (Nat.beq z.cells.size n && (Nat.ble 1 n && Nat.ble (len * n) 1000000)) with
      | true => match Instr.fill (fun i => some (i * n, n)) (zeros z.cells.toList n len).toArray parts with
        | some cells => match cells.toList.all (·.oneCell') with
          | true => some (e, n, cells.toList)
          | false => none
        | none => none
      | false => none
    | _, _ => none
  | _ => none
def mrun (P : Program) (h : AHeap) : MOp → Option (Value × AHeap)
  | .bx el cells => some (.pointer (some ⟨h.size, 0, some 0⟩), h.push ⟨cells, 0, false, el⟩)
  | .mkm t => match P.underlying t with
    | some (.map _ _) => some (.map (some h.size), h.push ⟨[], 1, false, 0⟩)
    | _ => none
  | .ml t x k ok => match aLookup P t h x k ok with
    | some v => some (v, h)
    | none => none
  | .mu t x k v => match aUpdate P t h x k v with
    | some h' => some (undef, h')
    | none => none
  | .me t x k => aEntry P t h x k
  | .es x st v => match aEntrySt h x st v with
    | some h' => some (undef, h')
    | none => none
  | .st t id off g x => match stH P h t id off g x with
    | some h' => some (undef, h')
    | none => none
  | .mk t l c => match mkInfo P t with
    | some (e, n, B, z) => match okLen l c B with
      | true => some (.slice (some ⟨h.size, 0, some 0⟩) l.toNat n, h.push ⟨zeros z n l.toNat, 0, false, e⟩)
      | false => none
    | none => none
  | .bs t len parts => match bsCells P t len parts with
    | some (e, n, cells) => some (.slice (some ⟨h.size, 0, some 0⟩) len n, h.push ⟨cells, 0, false, e⟩)
    | none => none
  | .ap t x y => match mkInfo P t with
    | some (e, n, B, _) => match srcH h n y with
      | some (news, m) => match m with
        | 0 => match x with
          | .slice _ _ _ => some (x, h)
          | _ => none
        | m + 1 => match x with
          | .slice none 0 0 => match okApp (m + 1) B with
            | true => some (.slice (some ⟨h.size, 0, some 0⟩) (m + 1) n, h.push ⟨news, 0, false, e⟩)
            | false => none
          | .slice (some ⟨id, 0, some g⟩) len zz => match h.get id with
            | some blk => match Nat.beq g blk.gen && (!blk.ro && (Nat.beq blk.el e && (Nat.beq zz n && (Nat.ble (len * n) blk.cells.length && okApp (len + (m + 1)) B)))) with
              | true => some (.slice (some ⟨id, 0, some (g + 2)⟩) (len + (m + 1)) n, h.set id ⟨blk.cells.take (len * n) ++ news, g + 2, false, e⟩)
              | false => none
            | none => none
          | _ => none
      | none => none
    | none => none
def lstore (P : Program) (t : TypeId) (x : Value) (cells : List Value) (off : Nat) : Option (List Value) :=
  match sizeT P t, okPart x && x.cells.toList.all (·.oneCell') with
  | some n, true => match Nat.beq x.cells.size n with
    | true => match Nat.ble (off + n) cells.length with
      | true => some (splice cells off x.cells.toList)
      | false => none
    | false => none
  | _, _ => none
def lsAt (o : Oper) (s : AS) : Option (TypeId × Value × Nat × List Value × Nat) := match o.op with
  | .store t ad x => match aev s.t ad with
    | .pointer (some ⟨k, off, none⟩) => match lget s.l k with
      | some cells => some (t, aev s.t x, k, cells, off)
      | none => none
    | _ => none
  | _ => none
theorem lstore_sound {P : Program} {L : List Nat} {o : Oper} {s : AS} {t : TypeId} {x : Value} {k off : Nat} {cells cells' : List Value} (h : lsAt o s = some (t, x, k, cells, off)) (hs : lstore P t x cells off = some cells') : aMem P L o s = some ⟨tput s.t o.dst undef, lset s.l k cells', s.h⟩ := by
  unfold lsAt at h
  split at h
  · rename_i t' ad x' hop
    split at h
    · rename_i k' off' ha
      split at h
      · rename_i cs hc
        simp only [Option.some.injEq, Prod.mk.injEq] at h
        obtain ⟨rfl, rfl, rfl, rfl, rfl⟩ := h
        unfold aMem; rw [hop]
        simp only [ha]
        unfold aStore
        unfold lstore at hs
        split at hs
        · rename_i n h1 h2
          simp only [h1, h2, hc]
          split at hs
          · rename_i h3
            split at hs
            · rename_i h4
              cases hs
              simp only [h3, h4]
              cases o.dst <;> rfl
            · cases hs
          · cases hs
        · cases hs
      · cases h
    · cases h
  · cases h
theorem put_tput (s : AS) (h : AHeap) (d : Option Tmp) (v : Value) : ({ s with h := h } : AS).put d v = ⟨tput s.t d v, s.l, h⟩ := by cases d <;> rfl
theorem srcH_eq (s : AS) (n : Nat) (y : Value) : srcCells s n y = srcH s.h n y := by
  unfold srcCells srcH; rfl
theorem mkInfo_zero {P : Program} {t e : TypeId} {n B : Nat} {z : List Value} (h : mkInfo P t = some (e, n, B, z)) : P.underlying t = some (.slice e) ∧ ∃ i zv, P.info? e = some i ∧ aZero P e = some zv ∧ i.size = n ∧ i.bytes = B ∧ zv.cells.toList = z ∧ zv.cells.toList.all (·.oneCell') = true ∧ Nat.beq zv.cells.size i.size = true ∧ Nat.ble 1 i.size = true := by
  unfold mkInfo at h
  split at h
  · rename_i e' hu
    split at h
    · rename_i i zv hi hz
      split at h
      · rename_i hb
        simp only [Option.some.injEq, Prod.mk.injEq] at h
        obtain ⟨rfl, rfl, rfl, rfl⟩ := h
        simp only [Bool.and_eq_true] at hb
        exact ⟨hu, i, zv, hi, hz, rfl, rfl, rfl, hb.1, hb.2.1, hb.2.2⟩
      · cases h
    · cases h
  · cases h
theorem mrun_sound {P : Program} {L : List Nat} {o : Oper} {s : AS} {m : MOp} {v : Value} {h' : AHeap} (hm : mop o s.t = some m) (hr : mrun P s.h m = some (v, h')) : aMem P L o s = some ⟨tput s.t o.dst v, s.l, h'⟩ := by
  unfold mop at hm
  split at hm
  · rename_i ty ad x hop
    split at hm
    · rename_i id off g ha
      cases hm
      simp only [mrun] at hr
      split at hr
      · rename_i h1 hst
        simp only [Option.some.injEq, Prod.mk.injEq] at hr
        obtain ⟨rfl, rfl⟩ := hr
        unfold aMem; rw [hop]
        simp only [ha]
        unfold stH at hst
        unfold aStore
        simp only
        split at hst
        · rename_i n h2 h3
          rw [h2, h3]
          simp only
          split at hst
          · rename_i blk h4 h5
            rw [h4, h5]
            simp only
            split at hst
            · rename_i h6
              rw [h6]
              cases hst
              simp only [put_tput]
            · cases hst
          · cases hst
        · cases hst
      · cases hr
    · cases hm
  · rename_i ty l c hop
    split at hm
    · rename_i k1 l1 k2 c1 hl hc
      cases hm
      simp only [mrun] at hr
      split at hr
      · rename_i e n B z hi
        split at hr
        · rename_i hok
          simp only [Option.some.injEq, Prod.mk.injEq] at hr
          obtain ⟨rfl, rfl⟩ := hr
          obtain ⟨hu, i, zv, q1, q2, rfl, rfl, rfl, q3, q4, q5⟩ := mkInfo_zero hi
          unfold aMem; rw [hop]
          simp only [hl, hc]
          unfold aMake
          simp only [hu, q1, q2]
          unfold okLen at hok
          simp only [Bool.and_eq_true] at hok
          have : (decide (0 ≤ l1) && (decide (l1 ≤ c1) && (decide (c1 * (i.bytes : Int) ≤ 140737488351232) && (decide (c1 ≤ 140737488351232) && (zv.cells.toList.all (·.oneCell') && (Nat.beq zv.cells.size i.size && Nat.ble 1 i.size)))))) = true := by
            simp only [Bool.and_eq_true]; exact ⟨hok.1, hok.2.1, hok.2.2.1, hok.2.2.2, q3, q4, q5⟩
          rw [this]
          simp only [put_tput]
        · cases hr
      · cases hr
    · cases hm
  · rename_i ty len parts hop
    cases hm
    simp only [mrun] at hr
    split at hr
    · rename_i e n cells hb
      simp only [Option.some.injEq, Prod.mk.injEq] at hr
      obtain ⟨rfl, rfl⟩ := hr
      unfold aMem; rw [hop]
      simp only
      unfold bsCells at hb
      unfold aBuildSlice
      split at hb
      · rename_i e' hu
        rw [hu]
        simp only
        split at hb
        · rename_i n' z h1 h2
          rw [h1, h2]
          simp only
          split at hb
          · rename_i h3
            rw [h3]
            simp only
            split at hb
            · rename_i cs h4
              rw [h4]
              simp only
              split at hb
              · rename_i h5
                rw [h5]
                simp only [Option.some.injEq, Prod.mk.injEq] at hb
                obtain ⟨rfl, rfl, rfl⟩ := hb
                simp only [put_tput]
              · cases hb
            · cases hb
          · cases hb
        · cases hb
      · cases hb
    · cases hr
  · rename_i c hop
    split at hm
    · rename_i x y ty ty' hc ha ht
      split at hm
      · rename_i hb
        cases hm
        simp only [mrun] at hr
        split at hr
        · rename_i e n B z hi
          obtain ⟨hu, i, zv, q1, q2, rfl, rfl, rfl, q3, q4, q5⟩ := mkInfo_zero hi
          unfold aMem; rw [hop]
          simp only [hc, ha, ht, hb]
          unfold aAppend
          simp only [hu, q1, q2, q4, q5, Bool.and_self, srcH_eq]
          split at hr
          · rename_i news m hs
            rw [hs]
            cases m with
            | zero =>
              simp only at hr ⊢
              split at hr
              · rename_i hx
                simp only [Option.some.injEq, Prod.mk.injEq] at hr
                obtain ⟨rfl, rfl⟩ := hr
                simp only [hx]
                exact congrArg some (put_tput s s.h _ _)
              · cases hr
            | succ m =>
              simp only at hr ⊢
              split at hr
              · rename_i hx
                split at hr
                · rename_i hk
                  unfold okApp at hk
                  simp only [hx, hk]
                  simp only [Option.some.injEq, Prod.mk.injEq] at hr
                  obtain ⟨rfl, rfl⟩ := hr
                  simp only [put_tput]
                · cases hr
              · rename_i id g len zz hx
                split at hr
                · rename_i blk hblk
                  split at hr
                  · rename_i hk
                    unfold okApp at hk
                    simp only [hx, hblk, hk]
                    simp only [Option.some.injEq, Prod.mk.injEq] at hr
                    obtain ⟨rfl, rfl⟩ := hr
                    simp only [put_tput]
                  · cases hr
                · cases hr
              · cases hr
          · cases hr
        · cases hr
      · cases hm
    · cases hm
  · cases hm

/-- A box that is no local of the call is a block of the heap. -/
def mopL (P : Program) (L : List Nat) (o : Oper) (t : List Value) : Option MOp := match o.op with
  | .box el x => match o.dst with
    | some d => match memb L d with
      | true => none
      | false => match okPart (aev t x) && (aev t x).cells.toList.all (·.oneCell') with
        | true => some (.bx el (aev t x).cells.toList)
        | false => none
    | none => none
  | .alloc el => match o.dst with
    | some d => match memb L d with
      | true => none
      | false => match aZero P el with
        | some z => match z.cells.toList.all (·.oneCell') with
          | true => some (.bx el z.cells.toList)
          | false => none
        | none => none
    | none => none
  | .makeMap t' none => some (.mkm t')
  | .lookup t' x k ok => some (.ml t' (aev t x) (aev t k) ok)
  | .mapUpdate t' x k v => some (.mu t' (aev t x) (aev t k) (aev t v))
  | .mapEntry t' x k => some (.me t' (aev t x) (aev t k))
  | .entryStore _ x st v => some (.es (aev t x) (aev t st) (aev t v))
  | _ => mop o t
theorem mopL_sound {P : Program} {L : List Nat} {o : Oper} {s : AS} {m : MOp} {v : Value} {h' : AHeap} (hm : mopL P L o s.t = some m) (hr : mrun P s.h m = some (v, h')) : aMem P L o s = some ⟨tput s.t o.dst v, s.l, h'⟩ := by
  unfold mopL at hm
  split at hm
  · rename_i el x hop
    split at hm
    · rename_i d hd
      split at hm
      · cases hm
      · rename_i hL
        split at hm
        · rename_i hk
          cases hm
          simp only [Bool.and_eq_true] at hk
          simp only [mrun, Option.some.injEq, Prod.mk.injEq] at hr
          obtain ⟨rfl, rfl⟩ := hr
          unfold aMem; rw [hop]
          simp only [hk.1]
          unfold newBox
          rw [hd]
          simp only [hk.2, hL]
          rfl
        · cases hm
    · cases hm
  · rename_i el hop
    split at hm
    · rename_i d hd
      split at hm
      · cases hm
      · rename_i hL
        split at hm
        · rename_i z hz
          split at hm
          · rename_i hk
            cases hm
            simp only [mrun, Option.some.injEq, Prod.mk.injEq] at hr
            obtain ⟨rfl, rfl⟩ := hr
            unfold aMem; rw [hop]
            simp only [hz]
            unfold newBox
            rw [hd]
            simp only [hk, hL]
            rfl
          · cases hm
        · cases hm
    · cases hm
  · rename_i t' hop
    cases hm
    simp only [mrun] at hr
    split at hr
    · rename_i kt et hu
      simp only [Option.some.injEq, Prod.mk.injEq] at hr
      obtain ⟨rfl, rfl⟩ := hr
      unfold aMem; rw [hop]
      simp only [hu, put_tput]
    · cases hr
  · rename_i t' x k ok hop
    cases hm
    simp only [mrun] at hr
    split at hr
    · rename_i u hu
      simp only [Option.some.injEq, Prod.mk.injEq] at hr
      obtain ⟨rfl, rfl⟩ := hr
      unfold aMem; rw [hop]
      simp only [hu]
      cases o.dst <;> rfl
    · cases hr
  · rename_i t' x k v' hop
    cases hm
    simp only [mrun] at hr
    split at hr
    · rename_i h2 hu
      simp only [Option.some.injEq, Prod.mk.injEq] at hr
      obtain ⟨rfl, rfl⟩ := hr
      unfold aMem; rw [hop]
      simp only [hu, put_tput]
    · cases hr
  · rename_i t' x k hop
    cases hm
    simp only [mrun] at hr
    unfold aMem; rw [hop]
    simp only [hr, put_tput]
  · rename_i t' x k v' hop
    cases hm
    simp only [mrun] at hr
    split at hr
    · rename_i h2 hu
      simp only [Option.some.injEq, Prod.mk.injEq] at hr
      obtain ⟨rfl, rfl⟩ := hr
      unfold aMem; rw [hop]
      simp only [hu, put_tput]
    · cases hr
  · exact mrun_sound hm hr
def pOp (P : Program) (L : List Nat) (o : Oper) (C : Prop) (s : AS) : It → Option (AS × Prop)
  | .g => match aStep P L o s with
    | some s' => some (s', C)
    | none => none
  | .m v h' => match memKind o with
    | true => some (⟨tput s.t o.dst v, s.l, h'⟩, aMem P L o s = some ⟨tput s.t o.dst v, s.l, h'⟩ ∧ C)
    | false => none
  | .mm v h' => match memKind o with
    | true => match mopL P L o s.t with
      | some m => some (⟨tput s.t o.dst v, s.l, h'⟩, mrun P s.h m = some (v, h') ∧ C)
      | none => none
    | false => none
  | .ls cells' => match memKind o with
    | true => match lsAt o s with
      | some (t, x, k, cells, off) => some (⟨tput s.t o.dst undef, lset s.l k cells', s.h⟩, lstore P t x cells off = some cells' ∧ C)
      | none => none
    | false => none
  | .c v h' => match callArgs P o s.t with
    | some (g, args) => some ({ s with h := h' }.put o.dst v, ACalls P g args s.h (fun v' h'' => v' = v ∧ h'' = h') ∧ C)
    | none => none
  | it => match memKind o with
    | true => none
    | false => match pClaim P o C s it with
      | some (v, C') => some (s.put o.dst v, C')
      | none => none
def pOne (P : Program) (L : List Nat) (ops : Array Oper) (o : Oper) (C : Prop) (s : AS) (it : It) : Option (AS × Prop) :=
  match o.guard with
  | none => pOp P L o C s it
  | some _ => match awanted ops o s.t with
    | none => none
    | some X => match it with
      | .n => some (s.put o.dst undef, X = false ∧ C)
      | .w it' => pOp P L o (X = true ∧ C) s it'
      | _ => none
def pOps (P : Program) (L : List Nat) (ops : Array Oper) : List Oper → List It → Prop → AS → Option (AS × List It × Prop)
  | [], its, C, s => some (s, its, C)
  | o :: r, it :: its, C, s => match pOne P L ops o C s it with
    | some (s', C') => pOps P L ops r its C' s'
    | none => none
  | _ :: _, [], _, _ => none
def pVal (P : Program) (L : List Nat) (o : Oper) (C : Prop) (s : AS) : It → Option (Eff × Prop)
  | .g => match opKind o with
    | 0 => match aVal P o s with
      | some v => some (⟨v, none⟩, C)
      | none => none
    | 1 => match aVal P o s with
      | some v => some (⟨v, none⟩, C)
      | none => none
    | 2 => match aBoxEff P L o s with
      | some e => some (e, C)
      | none => none
    | _ => none
  | it => match opKind o with
    | 0 => match pClaim P o C s it with
      | some (v, C') => some (⟨v, none⟩, C')
      | none => none
    | 1 => match pClaim P o C s it with
      | some (v, C') => some (⟨v, none⟩, C')
      | none => none
    | _ => none
def pEff (P : Program) (L : List Nat) (ops : Array Oper) (o : Oper) (C : Prop) (s : AS) (it : It) : Option (Eff × Prop) :=
  match o.guard with
  | none => pVal P L o C s it
  | some _ => match awanted ops o s.t with
    | none => none
    | some X => match it with
      | .n => some (⟨undef, none⟩, X = false ∧ C)
      | .w it' => pVal P L o (X = true ∧ C) s it'
      | _ => none
def pModeG (ops : Array Oper) (m : Nat) (o : Oper) (s : AS) : Bool := match m with
  | 0 => true
  | 1 => loadLoc o s.t
  | 4 => true
  | 6 => storesAp ops o s.t && appsAp ops o s.t
  | _ => storesAp ops o s.t
/-- What makes a new block, and does no more. -/
def mopFresh : MOp → Bool
  | .mk _ _ _ => true
  | .bs _ _ _ => true
  | _ => false
theorem mrun_fresh {P : Program} {h : AHeap} {m : MOp} {v : Value} {h' : AHeap} (hf : mopFresh m = true) (hr : mrun P h m = some (v, h')) : AKeep h h' := by
  have push : ∀ b, AKeep h (h.push b) := fun b id c hc => by rw [AHeap.get_push_old _ _ (AHeap.lt_of_get hc)]; exact hc
  cases m with
  | mk t l c =>
    simp only [mrun] at hr
    split at hr
    · split at hr
      · simp only [Option.some.injEq, Prod.mk.injEq] at hr
        obtain ⟨_, rfl⟩ := hr
        exact push _
      · cases hr
    · cases hr
  | bs t len parts =>
    simp only [mrun] at hr
    split at hr
    · simp only [Option.some.injEq, Prod.mk.injEq] at hr
      obtain ⟨_, rfl⟩ := hr
      exact push _
    · cases hr
  | _ => cases hf
/-- A call that leaves the memory alone, or what makes a new block. -/
def pOpF (P : Program) (L : List Nat) (o : Oper) (C : Prop) (s : AS) : It → Option (AS × Prop)
  | .mm v h' => match memKind o with
    | true => match mopL P L o s.t with
      | some m => match mopFresh m with
        | true => some (⟨tput s.t o.dst v, s.l, h'⟩, mrun P s.h m = some (v, h') ∧ C)
        | false => none
      | none => none
    | false => none
  | .c v h' => match callArgs P o s.t with
    | some (g, args) => some ({ s with h := h' }.put o.dst v, AKeep s.h h' ∧ (ACalls P g args s.h (fun v' h'' => v' = v ∧ h'' = h') ∧ C))
    | none => none
  | _ => none
def pOneF (P : Program) (L : List Nat) (ops : Array Oper) (o : Oper) (C : Prop) (s : AS) (it : It) : Option (AS × Prop) :=
  match o.guard with
  | none => pOpF P L o C s it
  | some _ => match awanted ops o s.t with
    | none => none
    | some X => match it with
      | .n => some (s.put o.dst undef, X = false ∧ C)
      | .w it' => pOpF P L o (X = true ∧ C) s it'
      | _ => none
def pMode (ops : Array Oper) (m : Nat) (o : Oper) (s : AS) (it : It) : Bool := match it with
  | .n => match m with
    | 0 => true
    | 1 => true
    | 4 => true
    | _ => storesB ops s.t
  | _ => pModeG ops m o s
def pEag (P : Program) (L : List Nat) (ops : Array Oper) : List (Nat × Nat) → List It → Prop → AS → Option (AS × List It × Prop)
  | [], its, C, s => some (s, its, C)
  | (i, 0) :: r, it :: its, C, s => match ops[i]? with
    | some o => match pOne P L ops o C s it with
      | some (s', C') => pEag P L ops r its C' s'
      | none => none
    | none => none
  | (i, 1) :: r, it :: its, C, s => match ops[i]? with
    | some o => match pOneF P L ops o C s it with
      | some (s', C') => pEag P L ops r its C' s'
      | none => none
    | none => none
  | (i, 2) :: r, it :: its, C, s => match ops[i]? with
    | some o => match pEff P L ops o C s it with
      | some (e, C') => pEag P L ops r its C' (s.eff o.dst e)
      | none => none
    | none => none
  | (i, m + 3) :: r, it :: its, C, s => match ops[i]? with
    | some o => match pMode ops (m + 1) o s it with
      | true => match pEff P L ops o C s it with
        | some (e, C') => pEag P L ops r its C' (s.eff o.dst e)
        | none => none
      | false => none
    | none => none
  | _ :: _, [], _, _ => none
def pCode (P : Program) (L : List Nat) (D : List (Nat × List (Nat × Nat))) : Code → List It → Prop → AS → Option (Exit × AS × List It × Prop)
  | .skip, its, C, s => some (.normal, s, its, C)
  | .label _, its, C, s => some (.normal, s, its, C)
  | .ret, its, C, s => some (.ret, s, its, C)
  | .exit id, its, C, s => some (.exit id, s, its, C)
  | .region id ops d, its, C, s => match d with
    | false => match pOps P L ops ops.toList its C (prepL ops.toList s) with
      | some (s', its', C') => some (.normal, s', its', C')
      | none => none
    | true => match dget D id with
      | some l => match splitPair l with
        | none => match pEag P L ops l its C (prepL ops.toList s) with
          | some (s', its', C') => some (.normal, s', its', C')
          | none => none
        | some (l0, i, j) => match pEag P L ops l0 its C (prepL ops.toList s) with
          | some (s', its', C') => match pairRun P ops i j s' with
            | some s2 => some (.normal, s2, its', C')
            | none => none
          | none => none
      | none => none
  | .seq x y, its, C, s => match itJ its with
    | some (ds, ks, .normal, s', its') => pCode P L D y its' (AWp P x (Ends1 .normal s') (forget ds ks s) ∧ C) s'
    | some (ds, ks, e, s', its') => some (e, s', its', AWp P x (Ends1 e s') (forget ds ks s) ∧ C)
    | none => match pCode P L D x (itU its) C s with
      | some (.normal, s', its', C') => pCode P L D y its' C' s'
      | some (e, s', its', C') => some (e, s', its', C')
      | none => none
  | .cond c x y, its, C, s => match aev s.t c, its with
    | .bool E, .b true :: its' => pCode P L D x its' (E = true ∧ C) s
    | .bool E, .b false :: its' => pCode P L D y its' (E = false ∧ C) s
    | _, _ => none
  | .block id c, its, C, s => match pCode P L D c its C s with
    | some (.exit id', s', its', C') => match Nat.beq id' id with
      | true => some (.normal, s', its', C')
      | false => some (.exit id', s', its', C')
    | some (e, s', its', C') => some (e, s', its', C')
    | none => none
  | .scope c, its, C, s => match pCode P L D c its C s with
    | some (e, s', its', C') => match noGotoB e with
      | true => some (e, s', its', C')
      | false => none
    | none => none
  | .loop c, its, C, s => match its with
    | .l ds ks e s' :: its' => some (e, s', its', AWp P (.loop c) (Ends1 e s') (forget ds ks s) ∧ C)
    | _ => none
  | _, _, _, _ => none
def pFun (P : Program) (T : List FEnt) (f : FuncId) (its : List It) (args : List Value) (h : AHeap) : Option (Value × AHeap × Prop) :=
  match tget T f with
  | some e => match P.funcs[f]? with
    | some fn => match fn.body with
      | some c => match pCode P e.L e.D c its True { t := args ++ List.replicate (fn.ntmps - args.length) undef, l := [], h := h } with
        | some (.normal, s, [], C) => match aResults P fn s with
          | some v => some (v, s.h, C)
          | none => none
        | some (.ret, s, [], C) => match aResults P fn s with
          | some v => some (v, s.h, C)
          | none => none
        | _ => none
      | none => none
    | none => none
  | none => none

section
variable {P : Program} {L : List Nat}

theorem pOp_sound {o : Oper} {C C' : Prop} {s s' : AS} {it : It} {K : AS → Prop} (h : pOp P L o C s it = some (s', C')) (hC : C') (hk : K s') : C ∧ AOp P L o K s := by
  have other : (∀ h : pOp P L o C s it = (match memKind o with | true => none | false => match pClaim P o C s it with | some (v, C') => some (s.put o.dst v, C') | none => none), C ∧ AOp P L o K s) := by
    intro e
    rw [e] at h
    split at h
    · cases h
    · rename_i hm
      split at h
      · rename_i v C1 h1
        simp only [Option.some.injEq, Prod.mk.injEq] at h
        obtain ⟨rfl, rfl⟩ := h
        obtain ⟨q1, q2⟩ := pClaim_sound h1 hC
        exact ⟨q1, .inl ⟨_, by simp only [aStep, hm, q2], hk⟩⟩
      · cases h
  cases it with
  | g =>
    simp only [pOp] at h
    split at h
    · rename_i s1 h1
      simp only [Option.some.injEq, Prod.mk.injEq] at h
      obtain ⟨rfl, rfl⟩ := h
      exact ⟨hC, .inl ⟨_, h1, hk⟩⟩
    · cases h
  | m v h' =>
    simp only [pOp] at h
    split at h
    · rename_i hm
      simp only [Option.some.injEq, Prod.mk.injEq] at h
      obtain ⟨rfl, rfl⟩ := h
      exact ⟨hC.2, .inl ⟨_, by simp only [aStep, hm]; exact hC.1, hk⟩⟩
    · cases h
  | ls cells' =>
    simp only [pOp] at h
    split at h
    · rename_i hm
      split at h
      · rename_i t x k cells off hop
        simp only [Option.some.injEq, Prod.mk.injEq] at h
        obtain ⟨rfl, rfl⟩ := h
        exact ⟨hC.2, .inl ⟨_, by simp only [aStep, hm]; exact lstore_sound hop hC.1, hk⟩⟩
      · cases h
    · cases h
  | mm v h' =>
    simp only [pOp] at h
    split at h
    · rename_i hm
      split at h
      · rename_i m hop
        simp only [Option.some.injEq, Prod.mk.injEq] at h
        obtain ⟨rfl, rfl⟩ := h
        exact ⟨hC.2, .inl ⟨_, by simp only [aStep, hm]; exact mopL_sound hop hC.1, hk⟩⟩
      · cases h
    · cases h
  | c v h' =>
    simp only [pOp] at h
    split at h
    · rename_i g args ha
      simp only [Option.some.injEq, Prod.mk.injEq] at h
      obtain ⟨rfl, rfl⟩ := h
      exact ⟨hC.2, .inr ⟨g, args, ha, hC.1.mono fun v' h'' ⟨e1, e2⟩ => by subst e1; subst e2; exact hk⟩⟩
    · cases h
  | _ => exact other rfl

theorem pOne_sound {ops : Array Oper} {i : Nat} {o : Oper} (ho : ops[i]? = some o) {C C' : Prop} {s s' : AS} {it : It} {K : AS → Prop} (h : pOne P L ops o C s it = some (s', C')) (hC : C') (hk : K s') : C ∧ AOne P L ops i K s := by
  unfold pOne at h
  unfold AOne
  simp only [ho]
  split at h
  · rename_i hg
    have : awanted ops o s.t = some true := by unfold awanted; rw [hg]
    rw [this]
    exact pOp_sound h hC hk
  · split at h
    · cases h
    · rename_i X hX
      split at h
      · simp only [Option.some.injEq, Prod.mk.injEq] at h
        obtain ⟨rfl, rfl⟩ := h
        rw [hX, hC.1]
        exact ⟨hC.2, hk⟩
      · obtain ⟨h1, h2⟩ := pOp_sound h hC hk
        rw [hX, h1.1]
        exact ⟨h1.2, h2⟩
      · cases h

theorem pOps_sound {ops : Array Oper} {K : AS → Prop} : ∀ (l : List Oper) (k : Nat) (its its' : List It) (C C' : Prop) (s s' : AS), (∀ j, l[j]? = ops[k + j]?) → pOps P L ops l its C s = some (s', its', C') → C' → K s' →
    C ∧ AOps P L ops (List.range' k l.length) K s
  | [], k, its, its', C, C', s, s', _, h, hC, hk => by
    simp only [pOps, Option.some.injEq, Prod.mk.injEq] at h
    obtain ⟨rfl, rfl, rfl⟩ := h
    exact ⟨hC, hk⟩
  | o :: r, k, its, its', C, C', s, s', hl, h, hC, hk => by
    cases its with
    | nil => simp [pOps] at h
    | cons it its =>
      simp only [pOps] at h
      split at h
      · rename_i s1 C1 h1
        have h0 : ops[k]? = some o := by simpa using (hl 0).symm
        obtain ⟨q1, q2⟩ := pOps_sound r (k + 1) its its' C1 C' s1 s' (fun j => by have := hl (j + 1); simpa [Nat.add_assoc, Nat.add_comm 1 j] using this) h hC hk
        rw [List.length_cons, List.range'_succ, AOps_cons]
        exact pOne_sound h0 h1 q1 q2
      · cases h

theorem pVal_sound {ops : Array Oper} {o : Oper} {C C' : Prop} {s : AS} {it : It} {e : Eff} (h : pVal P L o C s it = some (e, C')) (hC : C') : C ∧ (awanted ops o s.t = some true → aEff P L ops o s = some e) := by
  cases it with
  | g =>
    simp only [pVal] at h
    split at h
    · rename_i hk
      split at h
      · rename_i v hv
        simp only [Option.some.injEq, Prod.mk.injEq] at h
        obtain ⟨rfl, rfl⟩ := h
        exact ⟨hC, fun hw => by simp only [aEff, hw, hk, hv, valEff]⟩
      · cases h
    · rename_i hk
      split at h
      · rename_i v hv
        simp only [Option.some.injEq, Prod.mk.injEq] at h
        obtain ⟨rfl, rfl⟩ := h
        exact ⟨hC, fun hw => by simp only [aEff, hw, hk, hv, valEff]⟩
      · cases h
    · rename_i hk
      split at h
      · rename_i v hv
        simp only [Option.some.injEq, Prod.mk.injEq] at h
        obtain ⟨rfl, rfl⟩ := h
        exact ⟨hC, fun hw => by simp only [aEff, hw, hk, hv]⟩
      · cases h
    · cases h
  | _ =>
    simp only [pVal] at h
    split at h
    · rename_i hk
      split at h
      · rename_i v C1 h1
        simp only [Option.some.injEq, Prod.mk.injEq] at h
        obtain ⟨rfl, rfl⟩ := h
        obtain ⟨q1, q2⟩ := pClaim_sound h1 hC
        exact ⟨q1, fun hw => by simp only [aEff, hw, hk, q2, valEff]⟩
      · cases h
    · rename_i hk
      split at h
      · rename_i v C1 h1
        simp only [Option.some.injEq, Prod.mk.injEq] at h
        obtain ⟨rfl, rfl⟩ := h
        obtain ⟨q1, q2⟩ := pClaim_sound h1 hC
        exact ⟨q1, fun hw => by simp only [aEff, hw, hk, q2, valEff]⟩
      · cases h
    · cases h
theorem pEff_sound {ops : Array Oper} {o : Oper} {C C' : Prop} {s : AS} {it : It} {e : Eff} (h : pEff P L ops o C s it = some (e, C')) (hC : C') : C ∧ aEff P L ops o s = some e := by
  unfold pEff at h
  split at h
  · rename_i hg
    have : awanted ops o s.t = some true := by unfold awanted; rw [hg]
    obtain ⟨h1, h2⟩ := pVal_sound h hC
    exact ⟨h1, h2 this⟩
  · split at h
    · cases h
    · rename_i X hX
      split at h
      · simp only [Option.some.injEq, Prod.mk.injEq] at h
        obtain ⟨rfl, rfl⟩ := h
        exact ⟨hC.2, by simp only [aEff, hX, hC.1]⟩
      · obtain ⟨h1, h2⟩ := pVal_sound h hC
        exact ⟨h1.2, h2 (by rw [hX, h1.1])⟩
      · cases h

theorem pOpF_sound {o : Oper} {C C' : Prop} {s s' : AS} {it : It} {K : AS → Prop} (h : pOpF P L o C s it = some (s', C')) (hC : C') (hk : K s') : C ∧ AOpF P L true o K s := by
  unfold pOpF at h
  split at h
  · rename_i v h'
    split at h
    · rename_i hm
      split at h
      · rename_i m hop
        split at h
        · rename_i hf
          simp only [Option.some.injEq, Prod.mk.injEq] at h
          obtain ⟨rfl, rfl⟩ := h
          exact ⟨hC.2, .inl ⟨_, by simp only [aStep, hm]; exact mopL_sound hop hC.1, fun _ _ => mrun_fresh hf hC.1, hk⟩⟩
        · cases h
      · cases h
    · cases h
  · rename_i v h'
    split at h
    · rename_i g args hc
      simp only [Option.some.injEq, Prod.mk.injEq] at h
      obtain ⟨rfl, rfl⟩ := h
      obtain ⟨h1, h2, h3⟩ := hC
      refine ⟨h3, .inr ⟨g, args, hc, h2.mono ?_⟩⟩
      rintro v' h'' ⟨rfl, rfl⟩
      exact ⟨fun _ => h1, hk⟩
    · cases h
  · cases h
theorem pOneF_sound {ops : Array Oper} {i : Nat} {o : Oper} (ho : ops[i]? = some o) {C C' : Prop} {s s' : AS} {it : It} {K : AS → Prop} (h : pOneF P L ops o C s it = some (s', C')) (hC : C') (hk : K s') : C ∧ AOneF P L true ops i K s := by
  unfold pOneF at h
  unfold AOneF
  simp only [ho]
  split at h
  · rename_i hg
    have : awanted ops o s.t = some true := by unfold awanted; rw [hg]
    rw [this]
    exact pOpF_sound h hC hk
  · split at h
    · cases h
    · rename_i X hX
      split at h
      · simp only [Option.some.injEq, Prod.mk.injEq] at h
        obtain ⟨rfl, rfl⟩ := h
        rw [hX, hC.1]
        exact ⟨hC.2, hk⟩
      · obtain ⟨h1, h2⟩ := pOpF_sound h hC hk
        rw [hX, h1.1]
        exact ⟨h1.2, h2⟩
      · cases h
theorem pMode_sound {ops : Array Oper} {o : Oper} {C C' : Prop} {s : AS} {it : It} {e : Eff} {m : Nat} (h : pEff P L ops o C s it = some (e, C')) (hC : C') (hm : pMode ops m o s it = true) : modeB ops m o s.t = true := by
  have gen : pModeG ops m o s = true → modeB ops m o s.t = true := by
    intro h1
    unfold pModeG at h1
    rcases m with _ | _ | _ | _ | _ | _ | _ | m
    · rfl
    · simp only at h1; simp [modeB, h1]
    · simp only at h1; simp [modeB, h1]
    · simp only at h1; simp [modeB, h1]
    · rfl
    · simp only at h1; simp [modeB, h1]
    · simp only [Bool.and_eq_true] at h1; simp [modeB, h1]
    · simp only at h1; simp [modeB, h1]
  unfold pMode at hm
  split at hm
  · unfold pEff at h
    split at h
    · simp only [pVal, pClaim] at h; split at h <;> simp at h
    · split at h
      · cases h
      · rename_i X hX
        simp only [Option.some.injEq, Prod.mk.injEq] at h
        obtain ⟨rfl, rfl⟩ := h
        have hw : notW ops o s.t = true := by simp only [notW, hX, hC.1]
        unfold modeB
        split
        · rfl
        · rw [hw]; rfl
        · rfl
        · rw [hw]; rfl
        · rw [hw]; rfl
  · exact gen hm
theorem pEag_sound {ops : Array Oper} {K : AS → Prop} : ∀ (l : List (Nat × Nat)) (its its' : List It) (C C' : Prop) (s s' : AS), pEag P L ops l its C s = some (s', its', C') → C' → K s' → C ∧ AEag P L ops K l s
  | [], its, its', C, C', s, s', h, hC, hk => by
    simp only [pEag, Option.some.injEq, Prod.mk.injEq] at h
    obtain ⟨rfl, rfl, rfl⟩ := h
    exact ⟨hC, hk⟩
  | x :: r, [], its', C, C', s, s', h, hC, hk => by
    obtain ⟨i, m⟩ := x
    rcases m with _ | _ | _ | m <;> simp [pEag] at h
  | (i, 0) :: r, it :: its, its', C, C', s, s', h, hC, hk => by
    simp only [pEag] at h
    split at h
    · rename_i o ho
      split at h
      · rename_i s1 C1 h1
        obtain ⟨q1, q2⟩ := pEag_sound r its its' C1 C' s1 s' h hC hk
        exact pOne_sound ho h1 q1 q2
      · cases h
    · cases h
  | (i, 1) :: r, it :: its, its', C, C', s, s', h, hC, hk => by
    simp only [pEag] at h
    simp only [AEag]
    split at h
    · rename_i o ho
      split at h
      · rename_i s1 C1 h1
        obtain ⟨q1, q2⟩ := pEag_sound r its its' C1 C' s1 s' h hC hk
        exact pOneF_sound ho h1 q1 q2
      · cases h
    · cases h
  | (i, 2) :: r, it :: its, its', C, C', s, s', h, hC, hk => by
    simp only [pEag] at h
    simp only [AEag]
    split at h
    · rename_i o ho
      split at h
      · rename_i e C1 h1
        obtain ⟨q1, q2⟩ := pEag_sound r its its' C1 C' _ s' h hC hk
        obtain ⟨q3, q4⟩ := pEff_sound h1 q1
        rw [ho]; simp only [q4]
        exact ⟨q3, rfl, q2⟩
      · cases h
    · cases h
  | (i, m + 3) :: r, it :: its, its', C, C', s, s', h, hC, hk => by
    simp only [pEag] at h
    simp only [AEag]
    split at h
    · rename_i o ho
      split at h
      · rename_i hl
        split at h
        · rename_i e C1 h1
          obtain ⟨q1, q2⟩ := pEag_sound r its its' C1 C' _ s' h hC hk
          obtain ⟨q3, q4⟩ := pEff_sound h1 q1
          rw [ho]; simp only [q4]
          exact ⟨q3, pMode_sound h1 q1 hl, q2⟩
        · cases h
      · cases h
    · cases h

theorem pCode_sound (G : Good P) {D : List (Nat × List (Nat × Nat))} : ∀ (c : Code) (its its' : List It) (C C' : Prop) (s s' : AS) (e : Exit), drawsOk D c = true → pCode P L D c its C s = some (e, s', its', C') → C' → C ∧ AWp P c (Ends1 e s') s := by
  intro c
  induction c with
  | skip => intro its its' C C' s s' e _ h hC; simp only [pCode, Option.some.injEq, Prod.mk.injEq] at h; obtain ⟨rfl, rfl, rfl, rfl⟩ := h; exact ⟨hC, awp_skip ⟨rfl, rfl⟩⟩
  | label l => intro its its' C C' s s' e _ h hC; simp only [pCode, Option.some.injEq, Prod.mk.injEq] at h; obtain ⟨rfl, rfl, rfl, rfl⟩ := h; exact ⟨hC, awp_label ⟨rfl, rfl⟩⟩
  | ret => intro its its' C C' s s' e _ h hC; simp only [pCode, Option.some.injEq, Prod.mk.injEq] at h; obtain ⟨rfl, rfl, rfl, rfl⟩ := h; exact ⟨hC, awp_ret ⟨rfl, rfl⟩⟩
  | exit id => intro its its' C C' s s' e _ h hC; simp only [pCode, Option.some.injEq, Prod.mk.injEq] at h; obtain ⟨rfl, rfl, rfl, rfl⟩ := h; exact ⟨hC, awp_exit ⟨rfl, rfl⟩⟩
  | region id ops d =>
    intro its its' C C' s s' e hd h hC
    simp only [pCode] at h
    cases d with
    | false =>
      simp only at h
      split at h
      · rename_i s1 i1 C1 h1
        simp only [Option.some.injEq, Prod.mk.injEq] at h
        obtain ⟨rfl, rfl, rfl, rfl⟩ := h
        obtain ⟨q1, q2⟩ := pOps_sound (L := L) (K := Ends1 .normal s1 .normal) ops.toList 0 its _ C _ _ s1 (by simp) h1 hC ⟨rfl, rfl⟩
        refine ⟨q1, awp_region G L ?_⟩
        rwa [List.range_eq_range', ← Array.length_toList]
      · cases h
    | true =>
      simp only at h
      simp only [drawsOk] at hd
      split at h
      · rename_i l hl
        rw [hl] at hd
        simp only at hd
        split at h
        · rename_i hsp
          rw [hsp] at hd
          simp only [Bool.and_eq_true] at hd
          split at h
          · rename_i s1 i1 C1 h1
            simp only [Option.some.injEq, Prod.mk.injEq] at h
            obtain ⟨rfl, rfl, rfl, rfl⟩ := h
            obtain ⟨q1, q2⟩ := pEag_sound (K := Ends1 .normal s1 .normal) l its _ C _ _ s1 h1 hC ⟨rfl, rfl⟩
            exact ⟨q1, awp_draw G L l (Nat.eq_of_beq_eq_true hd.1) hd.2 q2⟩
          · cases h
        · rename_i l0 i j hsp
          rw [hsp] at hd
          simp only [Bool.and_eq_true, Bool.not_eq_true'] at hd
          split at h
          · rename_i s1 i1 C1 h1
            split at h
            · rename_i s2 h2
              simp only [Option.some.injEq, Prod.mk.injEq] at h
              obtain ⟨rfl, rfl, rfl, rfl⟩ := h
              obtain ⟨q1, q2⟩ := pEag_sound (K := PairK P L ops i j (Ends1 .normal s2 .normal)) l0 its _ C _ _ s1 h1 hC (pairRun_sound h2 ⟨rfl, rfl⟩)
              exact ⟨q1, awp_draw2 G L l0 i j (Nat.eq_of_beq_eq_true hd.1.1) hd.1.2 hd.2.1 hd.2.2 q2⟩
            · cases h
          · cases h
      · cases h
  | seq x y ihx ihy =>
    intro its its' C C' s s' e hd h hC
    simp only [drawsOk, Bool.and_eq_true] at hd
    simp only [pCode] at h
    split at h
    · rename_i ds ks s1 i1 hj
      obtain ⟨⟨q0, q1⟩, q2⟩ := ihy _ _ _ _ _ _ _ hd.2 h hC
      exact ⟨q1, awp_seq (awp_mono (awp_forget_pre ds ks q0) (by rintro e' s'' ⟨rfl, rfl⟩; exact q2))⟩
    · rename_i ds ks e1 s1 i1 hne hj
      simp only [Option.some.injEq, Prod.mk.injEq] at h
      obtain ⟨rfl, rfl, rfl, rfl⟩ := h
      refine ⟨hC.2, awp_seq (awp_mono (awp_forget_pre ds ks hC.1) ?_)⟩
      rintro e' s'' ⟨rfl, rfl⟩
      cases e' with
      | normal => exact (hne rfl).elim
      | _ => exact ⟨rfl, rfl⟩
    split at h
    · rename_i s1 i1 C1 h1
      obtain ⟨q1, q2⟩ := ihy _ _ _ _ _ _ _ hd.2 h hC
      obtain ⟨q3, q4⟩ := ihx _ _ _ _ _ _ _ hd.1 h1 q1
      exact ⟨q3, awp_seq (awp_mono q4 (by rintro e' s'' ⟨rfl, rfl⟩; exact q2))⟩
    · rename_i e1 s1 i1 C1 hne h1
      simp only [Option.some.injEq, Prod.mk.injEq] at h
      obtain ⟨rfl, rfl, rfl, rfl⟩ := h
      obtain ⟨q3, q4⟩ := ihx _ _ _ _ _ _ _ hd.1 h1 hC
      refine ⟨q3, awp_seq (awp_mono q4 ?_)⟩
      rintro e' s'' ⟨rfl, rfl⟩
      cases e' with
      | normal => exact (hne rfl).elim
      | _ => exact ⟨rfl, rfl⟩
    · cases h
  | cond c x y ihx ihy =>
    intro its its' C C' s s' e hd h hC
    simp only [drawsOk, Bool.and_eq_true] at hd
    simp only [pCode] at h
    split at h
    · rename_i E i1 hv
      obtain ⟨q1, q2⟩ := ihx _ _ _ _ _ _ _ hd.1 h hC
      exact ⟨q1.2, awp_cond hv (fun _ => q2) (fun h => by rw [q1.1] at h; cases h)⟩
    · rename_i E i1 hv
      obtain ⟨q1, q2⟩ := ihy _ _ _ _ _ _ _ hd.2 h hC
      exact ⟨q1.2, awp_cond hv (fun h => by rw [q1.1] at h; cases h) (fun _ => q2)⟩
    · cases h
  | block id c ih =>
    intro its its' C C' s s' e hd h hC
    simp only [drawsOk] at hd
    simp only [pCode] at h
    split at h
    · rename_i id' s1 i1 C1 h1
      split at h
      · rename_i hb
        simp only [Option.some.injEq, Prod.mk.injEq] at h
        obtain ⟨rfl, rfl, rfl, rfl⟩ := h
        obtain ⟨q1, q2⟩ := ih _ _ _ _ _ _ _ hd h1 hC
        refine ⟨q1, awp_block (awp_mono q2 ?_)⟩
        rintro e' s'' ⟨rfl, rfl⟩
        simp only [ABlk]
        rw [if_pos (Nat.eq_of_beq_eq_true hb)]
        exact ⟨rfl, rfl⟩
      · rename_i hb
        simp only [Option.some.injEq, Prod.mk.injEq] at h
        obtain ⟨rfl, rfl, rfl, rfl⟩ := h
        obtain ⟨q1, q2⟩ := ih _ _ _ _ _ _ _ hd h1 hC
        refine ⟨q1, awp_block (awp_mono q2 ?_)⟩
        rintro e' s'' ⟨rfl, rfl⟩
        simp only [ABlk]
        rw [if_neg (fun e => by rw [e, beq_self] at hb; cases hb)]
        exact ⟨rfl, rfl⟩
    · rename_i e1 s1 i1 C1 hne h1
      simp only [Option.some.injEq, Prod.mk.injEq] at h
      obtain ⟨rfl, rfl, rfl, rfl⟩ := h
      obtain ⟨q1, q2⟩ := ih _ _ _ _ _ _ _ hd h1 hC
      refine ⟨q1, awp_block (awp_mono q2 ?_)⟩
      rintro e' s'' ⟨rfl, rfl⟩
      cases e' with
      | exit id' => exact (hne id' rfl).elim
      | _ => exact ⟨rfl, rfl⟩
    · cases h
  | scope c ih =>
    intro its its' C C' s s' e hd h hC
    simp only [drawsOk] at hd
    simp only [pCode] at h
    split at h
    · rename_i e1 s1 i1 C1 h1
      split at h
      · rename_i hb
        simp only [Option.some.injEq, Prod.mk.injEq] at h
        obtain ⟨rfl, rfl, rfl, rfl⟩ := h
        obtain ⟨q1, q2⟩ := ih _ _ _ _ _ _ _ hd h1 hC
        exact ⟨q1, awp_scope (awp_mono q2 (by rintro e' s'' ⟨rfl, rfl⟩; exact ⟨hb, rfl, rfl⟩))⟩
      · cases h
    · cases h
  | loop c ih =>
    intro its its' C C' s s' e hd h hC
    simp only [pCode] at h
    split at h
    · simp only [Option.some.injEq, Prod.mk.injEq] at h
      obtain ⟨rfl, rfl, rfl, rfl⟩ := h
      exact ⟨hC.2, awp_forget_pre _ _ hC.1⟩
    · cases h
  | _ => intro its its' C C' s s' e _ h; simp [pCode] at h

theorem pFun_sound (G : Good P) {T : List FEnt} (hT : tabOk P T = true) {f : FuncId} {its : List It} {args : List Value} {h h' : AHeap} {v : Value} {C : Prop} (hr : pFun P T f its args h = some (v, h', C)) (hC : C) :
    ACalls P f args h fun v' h'' => v' = v ∧ h'' = h' := by
  unfold pFun at hr
  split at hr
  · rename_i e he
    obtain ⟨hm, hf⟩ := tget_mem he
    split at hr
    · rename_i fn hfn
      split at hr
      · rename_i c hb
        have hd : drawsOk e.D c = true := by
          unfold tabOk at hT
          rw [List.all_eq_true] at hT
          have := hT e hm
          rw [hf] at this
          simpa [hfn, hb] using this
        split at hr
        · rename_i s C1 hs
          split at hr
          · rename_i u hu
            simp only [Option.some.injEq, Prod.mk.injEq] at hr
            obtain ⟨rfl, rfl, rfl⟩ := hr
            exact acalls_of_awp hfn hb (awp_mono (pCode_sound G c _ _ _ _ _ _ _ hd hs hC).2 (by rintro e' s' ⟨rfl, rfl⟩; exact ⟨_, hu, rfl, rfl⟩))
          · cases hr
        · rename_i s C1 hs
          split at hr
          · rename_i u hu
            simp only [Option.some.injEq, Prod.mk.injEq] at hr
            obtain ⟨rfl, rfl, rfl⟩ := hr
            exact acalls_of_awp hfn hb (awp_mono (pCode_sound G c _ _ _ _ _ _ _ hd hs hC).2 (by rintro e' s' ⟨rfl, rfl⟩; exact ⟨_, hu, rfl, rfl⟩))
          · cases hr
        · cases hr
      · cases hr
    · cases hr
  · cases hr
end
end Go.Proofs.Ytimeninncpmaeaa.Abs
