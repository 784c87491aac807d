/-
  Abstract states of a run: values in which an address names a block by a number of its own, and how they read in the model's world.
-/
import Derived.Calls
import Derived.Orders
import Derived.Below
import Derived.Laws.AppendOwn
import Derived.Laws.MakeOwn
import Derived.Laws.Cells
namespace Go.Proofs.Ytimeninncpmaeaa.Abs
open Go
set_option linter.unusedVariables false
set_option linter.unusedSimpArgs false

structure ABlock where
  cells : List Value
  gen : Nat
  ro : Bool
  el : TypeId

structure AHeap where
  size : Nat
  blocks : List (Option ABlock)

def AHeap.get (s : AHeap) (id : Nat) : Option ABlock :=
  match Nat.ble s.size id with
  | true => none
  | false => match s.blocks[s.size - 1 - id]? with
    | some o => o
    | none => none
def AHeap.push (s : AHeap) (b : ABlock) : AHeap := ⟨s.size + 1, some b :: s.blocks⟩
def AHeap.set (s : AHeap) (id : Nat) (b : ABlock) : AHeap := ⟨s.size, s.blocks.set (s.size - 1 - id) (some b)⟩
/-- All but one block. -/
def AHeap.hole (s : AHeap) (id : Nat) : AHeap := ⟨s.size, s.blocks.set (s.size - 1 - id) none⟩
def AHeap.wf (s : AHeap) : Prop := s.size = s.blocks.length

theorem AHeap.get_lt {s : AHeap} {id : Nat} (h : id < s.size) : s.get id = match s.blocks[s.size - 1 - id]? with | some o => o | none => none := by
  have : Nat.ble s.size id = false := by
    cases hb : Nat.ble s.size id with
    | false => rfl
    | true => exact absurd (Nat.le_of_ble_eq_true hb) (by omega)
  unfold AHeap.get; rw [this]
theorem AHeap.get_ge {s : AHeap} {id : Nat} (h : s.size ≤ id) : s.get id = none := by
  have : Nat.ble s.size id = true := Nat.ble_eq_true_of_le h
  unfold AHeap.get; rw [this]
theorem AHeap.lt_of_get {s : AHeap} {id : Nat} {b : ABlock} (h : s.get id = some b) : id < s.size := by
  rcases Nat.lt_or_ge id s.size with hl | hl
  · exact hl
  · rw [AHeap.get_ge hl] at h; cases h
theorem AHeap.get_push_new (s : AHeap) (b : ABlock) : (s.push b).get s.size = some b := by
  have : s.size < (s.push b).size := by simp [AHeap.push]
  rw [AHeap.get_lt this]; simp [AHeap.push]
theorem AHeap.get_push_old (s : AHeap) (b : ABlock) {id : Nat} (h : id < s.size) : (s.push b).get id = s.get id := by
  have h1 : id < (s.push b).size := by simp [AHeap.push]; omega
  rw [AHeap.get_lt h1, AHeap.get_lt h]
  show (match (some b :: s.blocks)[s.size + 1 - 1 - id]? with | some o => o | none => none) = _
  rw [show s.size + 1 - 1 - id = (s.size - 1 - id) + 1 by omega, List.getElem?_cons_succ]
theorem AHeap.get_push (s : AHeap) (b : ABlock) (id : Nat) : (s.push b).get id = if id = s.size then some b else s.get id := by
  by_cases h : id = s.size
  · subst h; rw [if_pos rfl, AHeap.get_push_new]
  · rw [if_neg h]
    rcases Nat.lt_or_ge id s.size with hl | hl
    · exact AHeap.get_push_old s b hl
    · rw [AHeap.get_ge hl, AHeap.get_ge (by simp [AHeap.push]; omega)]
theorem AHeap.get_set (s : AHeap) (hw : s.wf) (id : Nat) (b b0 : ABlock) (h : s.get id = some b0) (id' : Nat) :
    (s.set id b).get id' = if id' = id then some b else s.get id' := by
  have hl := AHeap.lt_of_get h
  unfold AHeap.wf at hw
  have hz : (s.set id b).size = s.size := rfl
  by_cases he : id' = id
  · subst he
    rw [AHeap.get_lt (by rw [hz]; exact hl), if_pos rfl]
    show (match (s.blocks.set (s.size - 1 - id') (some b))[s.size - 1 - id']? with | some o => o | none => none) = _
    rw [List.getElem?_set_self (by omega)]
  · rw [if_neg he]
    rcases Nat.lt_or_ge id' s.size with hl' | hl'
    · rw [AHeap.get_lt hl', AHeap.get_lt (by rw [hz]; exact hl')]
      show (match (s.blocks.set (s.size - 1 - id) (some b))[s.size - 1 - id']? with | some o => o | none => none) = _
      rw [List.getElem?_set_ne (by omega)]
    · rw [AHeap.get_ge hl', AHeap.get_ge (by rw [hz]; exact hl')]
theorem AHeap.wf_hole {s : AHeap} (h : s.wf) (id : Nat) : (s.hole id).wf := by unfold AHeap.wf AHeap.hole at *; simp [h]
theorem AHeap.get_hole (s : AHeap) (hw : s.wf) {id : Nat} (hl : id < s.size) (id' : Nat) : (s.hole id).get id' = if id' = id then none else s.get id' := by
  unfold AHeap.wf at hw
  have hz : (s.hole id).size = s.size := rfl
  by_cases he : id' = id
  · subst he
    rw [AHeap.get_lt (by rw [hz]; exact hl), if_pos rfl]
    show (match (s.blocks.set (s.size - 1 - id') none)[s.size - 1 - id']? with | some o => o | none => none) = _
    rw [List.getElem?_set_self (by omega)]
  · rw [if_neg he]
    rcases Nat.lt_or_ge id' s.size with hl' | hl'
    · rw [AHeap.get_lt hl', AHeap.get_lt (by rw [hz]; exact hl')]
      show (match (s.blocks.set (s.size - 1 - id) none)[s.size - 1 - id']? with | some o => o | none => none) = _
      rw [List.getElem?_set_ne (by omega)]
    · rw [AHeap.get_ge hl', AHeap.get_ge (by rw [hz]; exact hl')]
theorem AHeap.wf_push {s : AHeap} (h : s.wf) (b : ABlock) : (s.push b).wf := by unfold AHeap.wf AHeap.push at *; simp [h]
theorem AHeap.wf_set {s : AHeap} (h : s.wf) (id : Nat) (b : ABlock) : (s.set id b).wf := by unfold AHeap.wf AHeap.set at *; simp [h]

structure Row where
  b : Nat
  o : Nat
  c : Nat
  e : TypeId
abbrev Rho := Nat → Nat → Option Row

/-- A value of which nothing is known. -/
def junk : Value := .tuple #[.tuple #[]]

inductive VRel (ρ : Rho) : Value → Value → Prop
  | junk (v : Value) : VRel ρ junk v
  | bool (b : Bool) : VRel ρ (.bool b) (.bool b)
  | int (k : IntKind) (n : Int) : VRel ρ (.int k n) (.int k n)
  | float (k : FloatKind) (n : Nat) : VRel ρ (.float k n) (.float k n)
  | complex (k : FloatKind) (m n : Nat) : VRel ρ (.complex k m n) (.complex k m n)
  | string (s : ByteArray) : VRel ρ (.string s) (.string s)
  | nilPtr : VRel ρ (.pointer none) (.pointer none)
  | ptr (id off g : Nat) (r : Row) : ρ id g = some r → g % 2 = 0 → VRel ρ (.pointer (some ⟨id, off, some g⟩)) (.pointer (some ⟨r.b, r.o + off, none⟩))
  | nilSlice : VRel ρ (.slice none 0 0) (.slice none 0 0)
  | slice (id off g : Nat) (r : Row) (len z o' cap' : Nat) : ρ id g = some r → len ≤ cap' → (len = 0 ∨ o' = r.o + off) →
      (off = 0 → o' = r.o ∧ cap' * z = r.c ∧ cap' ≤ maxLen) → g % 2 = 0 → VRel ρ (.slice (some ⟨id, off, some g⟩) len z) (.slice (some ⟨r.b, o', none⟩) len cap')
  | slice0 (id off g z : Nat) (a' : Addr) (cap' : Nat) : off ≠ 0 → VRel ρ (.slice (some ⟨id, off, some g⟩) 0 z) (.slice (some a') 0 cap')
  | nilMap : VRel ρ (.map none) (.map none)
  | map (id : Nat) (r : Row) : ρ id 1 = some r → VRel ρ (.map (some id)) (.map (some r.b))
  | nilChan : VRel ρ (.chan none) (.chan none)
  | nilFunc : VRel ρ .nilFunc .nilFunc
  | nilIface : VRel ρ .nilIface .nilIface
  | func (fn : Fn) (f f' c c' : Array Value) : f.size = f'.size → c.size = c'.size →
      (∀ (i : Nat) v v', f[i]? = some v → f'[i]? = some v' → VRel ρ v v') → (∀ (i : Nat) v v', c[i]? = some v → c'[i]? = some v' → VRel ρ v v') → VRel ρ (.func fn f c) (.func fn f' c')
  | iface (t : TypeId) (v v' : Value) : VRel ρ v v' → VRel ρ (.iface t v) (.iface t v')
  | agg (c c' : Array Value) : c.size = c'.size → (∀ (i : Nat) v v', c[i]? = some v → c'[i]? = some v' → VRel ρ v v') → VRel ρ (.agg c) (.agg c')
  | tuple (c c' : Array Value) : c.size = c'.size → (∀ (i : Nat) v v', c[i]? = some v → c'[i]? = some v' → VRel ρ v v') → VRel ρ (.tuple c) (.tuple c')

theorem undef_rel {ρ : Rho} : VRel ρ undef undef := .tuple #[] #[] rfl (by simp)

def Rho.le (ρ ρ' : Rho) : Prop := ∀ id g r, ρ id g = some r → ρ' id g = some r
theorem Rho.le_refl (ρ : Rho) : ρ.le ρ := fun _ _ _ h => h
theorem Rho.le_trans {a b c : Rho} (h : a.le b) (k : b.le c) : a.le c := fun i g r x => k i g r (h i g r x)

theorem VRel.mono {ρ ρ' : Rho} (h : ρ.le ρ') {v v' : Value} (hv : VRel ρ v v') : VRel ρ' v v' := by
  induction hv with
  | junk v => exact .junk v
  | bool b => exact .bool b
  | int k n => exact .int k n
  | float k n => exact .float k n
  | complex k m n => exact .complex k m n
  | string s => exact .string s
  | nilPtr => exact .nilPtr
  | ptr id off g r hr hg => exact .ptr id off g r (h _ _ _ hr) hg
  | map id r hr => exact .map id r (h _ _ _ hr)
  | nilSlice => exact .nilSlice
  | slice id off g r len z o' cap' hr h1 h2 h3 hg => exact .slice id off g r len z o' cap' (h _ _ _ hr) h1 h2 h3 hg
  | slice0 id off g z a' cap' h0 => exact .slice0 id off g z a' cap' h0
  | nilMap => exact .nilMap
  | nilChan => exact .nilChan
  | nilFunc => exact .nilFunc
  | nilIface => exact .nilIface
  | func fn f f' c c' h1 h2 _ _ ih1 ih2 => exact .func fn f f' c c' h1 h2 ih1 ih2
  | iface t v v' _ ih => exact .iface t v v' ih
  | agg c c' h1 _ ih => exact .agg c c' h1 ih
  | tuple c c' h1 _ ih => exact .tuple c c' h1 ih

/-- Values that hold no address (and are not the empty tuple): they read as themselves. -/
def plain : Nat → Value → Bool
  | _, .bool _ => true
  | _, .int _ _ => true
  | _, .float _ _ => true
  | _, .complex _ _ _ => true
  | _, .string _ => true
  | _, .pointer none => true
  | _, .slice none l c => Nat.beq l 0 && Nat.beq c 0
  | _, .map none => true
  | _, .chan none => true
  | _, .nilFunc => true
  | _, .nilIface => true
  | n + 1, .agg cs => cs.toList.all (plain n)
  | n + 1, .tuple cs => !cs.toList.isEmpty && cs.toList.all (plain n)
  | n + 1, .iface _ v => plain n v
  | n + 1, .func _ f c => f.toList.all (plain n) && c.toList.all (plain n)
  | _, _ => false

theorem plain_all {n : Nat} {cs : Array Value} (h : cs.toList.all (plain n) = true) {i : Nat} {v : Value} (hv : cs[i]? = some v) : plain n v = true := by
  rw [List.all_eq_true] at h
  exact h v (by simpa using Array.mem_of_getElem? hv)

theorem arr_eq {c c' : Array Value} (hs : c.size = c'.size) (h : ∀ (i : Nat) v v', c[i]? = some v → c'[i]? = some v' → v' = v) : c' = c := by
  apply Array.ext hs.symm
  intro i h1 h2
  exact h i c[i] c'[i] (by simp [h2]) (by simp [h1])

theorem plain_eq {ρ : Rho} : ∀ (n : Nat) {v v' : Value}, plain n v = true → VRel ρ v v' → v' = v := by
  intro n
  induction n with
  | zero =>
    intro v v' hp hv
    cases hv <;> first | rfl | simp [plain, junk] at hp
  | succ n ih =>
    intro v v' hp hv
    cases hv with
    | func fn f f' c c' h1 h2 h3 h4 =>
      simp only [plain, Bool.and_eq_true] at hp
      rw [arr_eq h1 (fun i v v' a b => ih (plain_all hp.1 a) (h3 i v v' a b)), arr_eq h2 (fun i v v' a b => ih (plain_all hp.2 a) (h4 i v v' a b))]
    | iface t v v' h => simp only [plain] at hp; rw [ih hp h]
    | agg c c' h1 h2 => simp only [plain] at hp; rw [arr_eq h1 (fun i v v' a b => ih (plain_all hp a) (h2 i v v' a b))]
    | tuple c c' h1 h2 =>
      simp only [plain, Bool.and_eq_true] at hp
      rw [arr_eq h1 (fun i v v' a b => ih (plain_all hp.2 a) (h2 i v v' a b))]
    | junk v => cases n <;> simp [plain, junk] at hp
    | ptr => simp [plain] at hp
    | slice => simp [plain] at hp
    | slice0 => simp [plain] at hp
    | map => simp [plain] at hp
    | _ => rfl
theorem same_rel {ρ : Rho} {c : Array Value} (h : ∀ (i : Nat) v, c[i]? = some v → VRel ρ v v) : ∀ (i : Nat) v v', c[i]? = some v → c[i]? = some v' → VRel ρ v v' := by
  intro i v v' h1 h2
  rw [h1] at h2; cases h2; exact h i v h1
theorem plain_refl {ρ : Rho} : ∀ (n : Nat) {v : Value}, plain n v = true → VRel ρ v v := by
  intro n
  induction n with
  | zero =>
    intro v hp
    cases v with
    | pointer a => cases a with | none => exact .nilPtr | some a => simp [plain] at hp
    | slice a l c => cases a with
      | none => simp [plain, Nat.beq_eq] at hp; obtain ⟨rfl, rfl⟩ := hp; exact .nilSlice
      | some a => simp [plain] at hp
    | map a => cases a with | none => exact .nilMap | some a => simp [plain] at hp
    | chan a => cases a with | none => exact .nilChan | some a => simp [plain] at hp
    | bool b => exact .bool b
    | int k n => exact .int k n
    | float k n => exact .float k n
    | complex k m n => exact .complex k m n
    | string s => exact .string s
    | nilFunc => exact .nilFunc
    | nilIface => exact .nilIface
    | _ => simp [plain] at hp
  | succ n ih =>
    intro v hp
    cases v with
    | pointer a => cases a with | none => exact .nilPtr | some a => simp [plain] at hp
    | slice a l c => cases a with
      | none => simp [plain, Nat.beq_eq] at hp; obtain ⟨rfl, rfl⟩ := hp; exact .nilSlice
      | some a => simp [plain] at hp
    | map a => cases a with | none => exact .nilMap | some a => simp [plain] at hp
    | chan a => cases a with | none => exact .nilChan | some a => simp [plain] at hp
    | bool b => exact .bool b
    | int k n => exact .int k n
    | float k n => exact .float k n
    | complex k m n => exact .complex k m n
    | string s => exact .string s
    | nilFunc => exact .nilFunc
    | nilIface => exact .nilIface
    | agg c => simp only [plain] at hp; exact .agg c c rfl (same_rel fun i v h => ih (plain_all hp h))
    | tuple c => simp only [plain, Bool.and_eq_true] at hp; exact .tuple c c rfl (same_rel fun i v h => ih (plain_all hp.2 h))
    | iface t v => simp only [plain] at hp; exact .iface t v v (ih hp)
    | func fn f c => simp only [plain, Bool.and_eq_true] at hp; exact .func fn f f c c rfl rfl (same_rel fun i v h => ih (plain_all hp.1 h)) (same_rel fun i v h => ih (plain_all hp.2 h))

theorem VRel.oneCell {ρ : Rho} {v v' : Value} (h : VRel ρ v v') (ho : v.oneCell' = true) : v'.oneCell' = true := by
  cases h <;> first | rfl | (simp [Value.oneCell', Abs.junk] at ho)

/-- What lies in a block of the world. -/
def Lies (ρ : Rho) (w : World) (r : Row) (ro : Bool) (cells : List Value) : Prop :=
  ∃ cur e fz, w.heap[r.b]? = some (.cells cur e fz) ∧ r.o + cells.length ≤ cur.size ∧ (ro = false → r.o = 0 ∧ fz = (0, 0) ∧ cur.size = r.c ∧ e = r.e) ∧
    ∀ (i : Nat) v, cells[i]? = some v → v.oneCell' = true ∧ ∃ v', cur[r.o + i]? = some v' ∧ VRel ρ v v'
theorem Lies.keep {ρ ρ' : Rho} {w w' : World} {r : Row} {ro : Bool} {cells : List Value} (h : Lies ρ w r ro cells) (hb : w'.heap[r.b]? = w.heap[r.b]?) (hl : ρ.le ρ') : Lies ρ' w' r ro cells := by
  obtain ⟨cur, e, fz, h1, h2, h3, h4⟩ := h
  exact ⟨cur, e, fz, hb.trans h1, h2, h3, fun i v hv => let ⟨a, v', b, c⟩ := h4 i v hv; ⟨a, v', b, c.mono hl⟩⟩
theorem Lies.lt {ρ : Rho} {w : World} {r : Row} {ro : Bool} {cells : List Value} (h : Lies ρ w r ro cells) : r.b < w.heap.size := by
  obtain ⟨cur, e, fz, h1, _⟩ := h
  exact (Array.getElem?_eq_some_iff.1 h1).1

/-- What a map of the world holds: its keys and values, one behind the other; keys that hold no address. -/
def MRel (ρ : Rho) : List Value → List MapEntry → Prop
  | [], [] => True
  | k :: v :: r, e :: es => plain 6 k = true ∧ e.key = k ∧ v.oneCell' = true ∧ VRel ρ v e.val ∧ MRel ρ r es
  | _, _ => False
theorem MRel.mono {ρ ρ' : Rho} (h : ρ.le ρ') : ∀ {cells : List Value} {es : List MapEntry}, MRel ρ cells es → MRel ρ' cells es
  | [], [], _ => trivial
  | k :: v :: r, e :: es, H => ⟨H.1, H.2.1, H.2.2.1, H.2.2.2.1.mono h, MRel.mono h H.2.2.2.2⟩
  | [], _ :: _, H => H.elim
  | [_], [], H => H.elim
  | [_], _ :: _, H => H.elim
  | _ :: _ :: _, [], H => H.elim
/-- No entry of a map was ever taken out: entry i was the i-th. -/
def Stamped (es : Array MapEntry) (clock : Nat) : Prop := clock = es.size ∧ ∀ (i : Nat) e, es[i]? = some e → e.born = i
def MapLies (ρ : Rho) (w : World) (r : Row) (cells : List Value) : Prop := ∃ es clock, w.heap[r.b]? = some (.map es clock) ∧ MRel ρ cells es.toList ∧ Stamped es clock
/-- A block of an even generation lies in cells, one of an odd generation is a map. -/
def LiesG (ρ : Rho) (w : World) (r : Row) (g : Nat) (ro : Bool) (cells : List Value) : Prop := (g % 2 = 0 ∧ Lies ρ w r ro cells) ∨ (g % 2 = 1 ∧ ro = false ∧ MapLies ρ w r cells)
theorem LiesG.keep {ρ ρ' : Rho} {w w' : World} {r : Row} {g : Nat} {ro : Bool} {cells : List Value} (h : LiesG ρ w r g ro cells) (hb : w'.heap[r.b]? = w.heap[r.b]?) (hl : ρ.le ρ') : LiesG ρ' w' r g ro cells := by
  rcases h with ⟨h1, h2⟩ | ⟨h1, h2, es, clock, h3, h4⟩
  · exact .inl ⟨h1, h2.keep hb hl⟩
  · exact .inr ⟨h1, h2, es, clock, hb.trans h3, h4.1.mono hl, h4.2⟩
theorem LiesG.lt {ρ : Rho} {w : World} {r : Row} {g : Nat} {ro : Bool} {cells : List Value} (h : LiesG ρ w r g ro cells) : r.b < w.heap.size := by
  rcases h with ⟨h1, h2⟩ | ⟨h1, h2, es, clock, h3, h4⟩
  · exact h2.lt
  · exact (Array.getElem?_eq_some_iff.1 h3).1
theorem LiesG.cells {ρ : Rho} {w : World} {r : Row} {g : Nat} {ro : Bool} {cells : List Value} (h : LiesG ρ w r g ro cells) (hg : g % 2 = 0) : Lies ρ w r ro cells := by
  rcases h with ⟨h1, h2⟩ | ⟨h1, _⟩
  · exact h2
  · omega
theorem LiesG.of {ρ : Rho} {w : World} {r : Row} {g : Nat} {ro : Bool} {cells : List Value} (h : Lies ρ w r ro cells) (hg : g % 2 = 0) : LiesG ρ w r g ro cells := .inl ⟨hg, h⟩

structure HRel (B : Nat) (ρ : Rho) (s : AHeap) (w : World) : Prop where
  wf : s.wf
  base : B ≤ w.heap.size
  rows : ∀ id blk, s.get id = some blk → ∃ r, ρ id blk.gen = some r ∧ LiesG ρ w r blk.gen blk.ro blk.cells ∧ (blk.ro = true → r.b < B) ∧ (blk.ro = false → B ≤ r.b ∧ r.e = blk.el)
  dom : ∀ id g r, ρ id g = some r → ∃ blk, s.get id = some blk ∧ g ≤ blk.gen
  apart : ∀ id blk r id' blk' r', s.get id = some blk → s.get id' = some blk' → blk.ro = false → blk'.ro = false → ρ id blk.gen = some r → ρ id' blk'.gen = some r' → id ≠ id' → r.b ≠ r'.b

structure Ent where
  ρ : Rho
  h : AHeap
  w : World

structure Ext (E : Ent) (ρ : Rho) (s : AHeap) (w : World) : Prop where
  os : w.os = E.w.os
  tape : w.tape = E.w.tape
  output : w.output = E.w.output
  le : E.ρ.le ρ
  drawn : E.w.drawn ≤ w.drawn
  grow : E.w.heap.size ≤ w.heap.size
  keep : ∀ b, b < E.w.heap.size → (∀ id blk r, E.h.get id = some blk → blk.ro = false → E.ρ id blk.gen = some r → r.b ≠ b) → w.heap[b]? = E.w.heap[b]?
  rows : ∀ id blk r, s.get id = some blk → blk.ro = false → ρ id blk.gen = some r → r.b < E.w.heap.size →
    ∃ id0 blk0 r0, E.h.get id0 = some blk0 ∧ blk0.ro = false ∧ E.ρ id0 blk0.gen = some r0 ∧ r0.b = r.b

theorem Ext.refl (E : Ent) : Ext E E.ρ E.h E.w :=
  ⟨rfl, rfl, rfl, Rho.le_refl _, Nat.le_refl _, Nat.le_refl _, fun _ _ _ => rfl, fun id blk r h1 h2 h3 _ => ⟨id, blk, r, h1, h2, h3, rfl⟩⟩
theorem Ext.trans {E : Ent} {ρ ρ' : Rho} {s s' : AHeap} {w w' : World} (h : Ext E ρ s w) (k : Ext ⟨ρ, s, w⟩ ρ' s' w') : Ext E ρ' s' w' := by
  refine ⟨k.os.trans h.os, k.tape.trans h.tape, k.output.trans h.output, Rho.le_trans h.le k.le, Nat.le_trans h.drawn k.drawn, Nat.le_trans h.grow k.grow, ?_, ?_⟩
  · intro b hb hno
    have hb' : b < w.heap.size := Nat.lt_of_lt_of_le hb h.grow
    rw [← h.keep b hb hno]
    refine k.keep b hb' fun id blk r h1 h2 h3 he => ?_
    obtain ⟨id0, blk0, r0, a1, a2, a3, a4⟩ := h.rows id blk r h1 h2 h3 (he ▸ hb)
    exact hno id0 blk0 r0 a1 a2 a3 (a4.trans he)
  · intro id blk r h1 h2 h3 hb
    obtain ⟨id1, blk1, r1, a1, a2, a3, a4⟩ := k.rows id blk r h1 h2 h3 (Nat.lt_of_lt_of_le hb h.grow)
    obtain ⟨id0, blk0, r0, b1, b2, b3, b4⟩ := h.rows id1 blk1 r1 a1 a2 a3 (a4 ▸ hb)
    exact ⟨id0, blk0, r0, b1, b2, b3, b4.trans a4⟩

/-- The state of one frame: its temporaries, the boxes that no pointer leaves, the memory. -/
structure AS where
  t : List Value
  l : List (Nat × List Value)
  h : AHeap

def lget : List (Nat × List Value) → Nat → Option (List Value)
  | [], _ => none
  | (k, v) :: r, i => match Nat.beq k i with
    | true => some v
    | false => lget r i
def lset : List (Nat × List Value) → Nat → List Value → List (Nat × List Value)
  | [], i, c => [(i, c)]
  | (k, v) :: r, i, c => match Nat.beq k i with
    | true => (k, c) :: r
    | false => match Nat.ble i k with
      | true => (i, c) :: (k, v) :: r
      | false => (k, v) :: lset r i c
theorem beq_false {a b : Nat} (h : a ≠ b) : Nat.beq a b = false := by
  cases hb : Nat.beq a b with
  | false => rfl
  | true => exact absurd (Nat.eq_of_beq_eq_true hb) h
theorem beq_self (a : Nat) : Nat.beq a a = true := by simp
theorem lget_lset (l : List (Nat × List Value)) (i : Nat) (c : List Value) (j : Nat) : lget (lset l i c) j = if j = i then some c else lget l j := by
  induction l with
  | nil =>
    by_cases h : j = i
    · subst h; simp [lset, lget]
    · simp [lset, lget, beq_false (Ne.symm h), h]
  | cons x r ih =>
    obtain ⟨k, v⟩ := x
    by_cases hk : k = i
    · subst hk
      simp only [lset, beq_self]
      by_cases h : j = k
      · subst h; simp [lget]
      · simp [lget, beq_false (Ne.symm h), h]
    · simp only [lset, beq_false hk]
      cases hb : Nat.ble i k with
      | true =>
        simp only
        by_cases h : j = i
        · subst h; simp [lget]
        · simp [lget, beq_false (Ne.symm h), h]
      | false =>
        simp only
        by_cases h : k = j
        · subst h; simp [lget, hk]
        · simp only [lget, beq_false h, ih]
theorem ble_false {a b : Nat} (h : b < a) : Nat.ble a b = false := by
  cases hb : Nat.ble a b with
  | false => rfl
  | true => exact absurd (Nat.le_of_ble_eq_true hb) (by omega)
theorem ble_true {a b : Nat} (h : a ≤ b) : Nat.ble a b = true := Nat.ble_eq_true_of_le h
theorem lset_comm : ∀ (l : List (Nat × List Value)) {i j : Nat} (c d : List Value), i ≠ j → lset (lset l i c) j d = lset (lset l j d) i c := by
  have key : ∀ (l : List (Nat × List Value)) {i j : Nat} (c d : List Value), i < j → lset (lset l i c) j d = lset (lset l j d) i c := by
    intro l
    induction l with
    | nil =>
      intro i j c d h
      simp [lset, beq_false (show i ≠ j by omega), beq_false (show j ≠ i by omega), ble_false h, ble_true (Nat.le_of_lt h)]
    | cons x r ih =>
      intro i j c d h
      obtain ⟨k, v⟩ := x
      have hij : i ≠ j := by omega
      by_cases h1 : k = i
      · subst h1
        simp [lset, beq_false hij, ble_false h]
      · by_cases h2 : k = j
        · subst h2
          simp [lset, beq_false h1, ble_true (Nat.le_of_lt h), beq_false hij, ble_false h]
        · by_cases h3 : i ≤ k
          · by_cases h4 : j ≤ k
            · simp [lset, beq_false h1, beq_false h2, ble_true h3, ble_true h4, beq_false hij, ble_false h, beq_false (Ne.symm hij), ble_true (Nat.le_of_lt h)]
            · simp [lset, beq_false h1, beq_false h2, ble_true h3, ble_false (Nat.lt_of_not_le h4), beq_false hij, ble_false h]
          · have h4 : ¬ j ≤ k := by omega
            simp [lset, beq_false h1, beq_false h2, ble_false (Nat.lt_of_not_le h3), ble_false (Nat.lt_of_not_le h4), ih c d h]
  intro l i j c d h
  rcases Nat.lt_or_gt_of_ne h with h1 | h1
  · exact key l c d h1
  · exact (key l d c h1).symm

abbrev Locs := List (Nat × List Value)
inductive TRel (l : Locs) (lam : Nat → Nat) (ρ : Rho) : Value → Value → Prop
  | mem {v v' : Value} : VRel ρ v v' → TRel l lam ρ v v'
  | loc (k off : Nat) : lget l k ≠ none → TRel l lam ρ (.pointer (some ⟨k, off, none⟩)) (.pointer (some ⟨lam k, off, none⟩))
theorem TRel.mono {l : Locs} {lam : Nat → Nat} {ρ ρ' : Rho} (h : ρ.le ρ') {v v' : Value} (hv : TRel l lam ρ v v') : TRel l lam ρ' v v' := by
  cases hv with
  | mem h' => exact .mem (h'.mono h)
  | loc k off hk => exact .loc k off hk
def isLoc : Value → Bool
  | .pointer (some ⟨_, _, none⟩) => true
  | _ => false
theorem TRel.vrel {l : Locs} {lam : Nat → Nat} {ρ : Rho} {v v' : Value} (h : TRel l lam ρ v v') (hn : isLoc v = false) : VRel ρ v v' := by
  cases h with
  | mem h => exact h
  | loc k off => simp [isLoc] at hn
theorem plain_isLoc {n : Nat} {v : Value} (h : plain n v = true) : isLoc v = false := by
  cases v with
  | pointer a => cases a with
    | none => rfl
    | some a => cases n <;> simp [plain] at h
  | _ => rfl
theorem TRel.plain_eq {l : Locs} {lam : Nat → Nat} {ρ : Rho} {n : Nat} {v v' : Value} (h : TRel l lam ρ v v') (hp : plain n v = true) : v' = v :=
  Abs.plain_eq n hp (h.vrel (plain_isLoc hp))

structure LocAt (B : Nat) (E : Ent) (ρ : Rho) (lam : Nat → Nat) (s : AS) (w : World) (k : Nat) (cells : List Value) : Prop where
  lies : ∃ e, Lies ρ w ⟨lam k, 0, cells.length, e⟩ false cells
  mine : E.w.heap.size ≤ lam k
  row : ∀ id blk r, s.h.get id = some blk → blk.ro = false → ρ id blk.gen = some r → r.b ≠ lam k
  other : ∀ k' cells', lget s.l k' = some cells' → k' ≠ k → lam k' ≠ lam k

structure FRel (B : Nat) (E : Ent) (ρ : Rho) (lam : Nat → Nat) (s : AS) (a : Act) (w : World) : Prop where
  heap : HRel B ρ s.h w
  ext : Ext E ρ s.h w
  base : B ≤ E.w.heap.size
  locs : ∀ k cells, lget s.l k = some cells → LocAt B E ρ lam s w k cells
  size : a.tmps.size = s.t.length
  tmps : ∀ (i : Nat) v v', s.t[i]? = some v → a.tmps[i]? = some v' → TRel s.l lam ρ v v'
  defers : a.defers = []

def AS.put (s : AS) (dst : Option Tmp) (v : Value) : AS :=
  match dst with
  | some d => { s with t := s.t.set d v }
  | none => s

def aev (t : List Value) : Operand → Value
  | .tmp i => t.getD i undef
  | .const v => match plain 6 v with
    | true => v
    | false => junk
  | .global _ => junk
  | .func f => .func (.func f) #[] #[]

theorem FRel.eval {B : Nat} {E : Ent} {ρ : Rho} {lam : Nat → Nat} {s : AS} {a : Act} {w : World} (h : FRel B E ρ lam s a w) (x : Operand) : TRel s.l lam ρ (aev s.t x) (a.eval x) := by
  cases x with
  | tmp i =>
    simp only [aev, Act.eval, List.getD, Array.getD_eq_getD_getElem?]
    by_cases hi : i < s.t.length
    · have h1 : s.t[i]? = some s.t[i] := by simp [hi]
      have h2 : a.tmps[i]? = some (a.tmps[i]'(by rw [h.size]; exact hi)) := by simp [h.size, hi]
      rw [h1, h2]
      exact h.tmps i _ _ h1 h2
    · have h1 : s.t[i]? = none := List.getElem?_eq_none (Nat.not_lt.1 hi)
      rw [h1]
      have h2 : a.tmps[i]? = none := Array.getElem?_eq_none (by rw [h.size]; exact Nat.not_lt.1 hi)
      rw [h2]
      exact .mem undef_rel
  | const v =>
    simp only [aev, Act.eval]
    cases hp : plain 6 v with
    | true => exact .mem (plain_refl 6 hp)
    | false => exact .mem (.junk _)
  | global g => exact .mem (.junk _)
  | func f => exact .mem (.func _ #[] #[] #[] #[] rfl rfl (by simp) (by simp))

theorem FRel.put {B : Nat} {E : Ent} {ρ : Rho} {lam : Nat → Nat} {s : AS} {a : Act} {w : World} (h : FRel B E ρ lam s a w) (d : Option Tmp) {v v' : Value} (hv : TRel s.l lam ρ v v') :
    FRel B E ρ lam (s.put d v) (a.put d v') w := by
  cases d with
  | none => exact h
  | some d =>
    refine ⟨h.heap, h.ext, h.base, fun k cells hk => ?_, ?_, ?_, h.defers⟩
    · have := h.locs k cells hk
      exact ⟨this.lies, this.mine, this.row, this.other⟩
    · simp [Act.put, AS.put, h.size]
    · intro i u u' hu hu'
      simp only [AS.put, Act.put] at hu hu'
      rw [List.getElem?_set] at hu
      rw [Array.getElem?_setIfInBounds] at hu'
      by_cases hd : d = i
      · subst hd
        simp only [if_true] at hu hu'
        show TRel s.l lam ρ u u'
        split at hu <;> simp_all
      · simp only [hd, if_false] at hu hu'
        exact h.tmps i u u' hu hu'
end Go.Proofs.Ytimeninncpmaeaa.Abs
