/-
  Operations that make memory or write it, on abstract states.
-/
import Derived.Test.YtimeninncpmaeaaVd
namespace Go.Proofs.Ytimeninncpmaeaa.Abs
open Go
set_option linter.unusedVariables false
set_option linter.unusedSimpArgs false

def memb : List Nat → Nat → Bool
  | [], _ => false
  | x :: r, i => match Nat.beq x i with
    | true => true
    | false => memb r i
def killv (k : Nat) : Value → Value
  | .pointer (some ⟨b, off, none⟩) => match Nat.beq b k with
    | true => junk
    | false => .pointer (some ⟨b, off, none⟩)
  | v => v
def lrem : List (Nat × List Value) → Nat → List (Nat × List Value)
  | [], _ => []
  | (k, v) :: r, i => match Nat.beq k i with
    | true => lrem r i
    | false => (k, v) :: lrem r i
/-- A box forgotten (ahead of another round of the statement that makes it). -/
def kill (s : AS) (k : Nat) : AS := match lget s.l k with
  | none => s
  | some _ => { s with t := s.t.map (killv k), l := lrem s.l k }
def newBox (L : List Nat) (dst : Option Tmp) (el : TypeId) (cells : List Value) (s : AS) : Option AS :=
  match cells.all (·.oneCell'), dst with
  | true, some d => match memb L d with
    | true => match lget s.l d with
      | none => some { t := s.t.set d (.pointer (some ⟨d, 0, none⟩)), l := lset s.l d cells, h := s.h }
      | some _ => none
    | false => some { t := s.t.set d (.pointer (some ⟨s.h.size, 0, some 0⟩)), l := s.l, h := s.h.push ⟨cells, 0, false, el⟩ }
  | _, _ => none
def splice (l : List Value) (off : Nat) (vs : List Value) : List Value := l.take off ++ (vs ++ l.drop (off + vs.length))

def aStore (P : Program) (t : TypeId) (x : Value) (s : AS) : Value → Option AS
  | .pointer (some ⟨k, off, none⟩) => match sizeT P t, okPart x && x.cells.toList.all (·.oneCell') with
    | some n, true => match Nat.beq x.cells.size n, lget s.l k with
      | true, some cells => match Nat.ble (off + n) cells.length with
        | true => some { s with l := lset s.l k (splice cells off x.cells.toList) }
        | false => none
      | _, _ => none
    | _, _ => none
  | .pointer (some ⟨id, off, some g⟩) => match sizeT P t, okPart x && x.cells.toList.all (·.oneCell') with
    | some n, true => match Nat.beq x.cells.size n, s.h.get id with
      | true, some blk => match Nat.beq g blk.gen && (!blk.ro && Nat.ble (off + n) blk.cells.length) with
        | true => some { s with h := s.h.set id ⟨splice blk.cells off x.cells.toList, blk.gen, false, blk.el⟩ }
        | false => none
      | _, _ => none
    | _, _ => none
  | _ => none

def zeros (z : List Value) (n : Nat) : Nat → List Value
  | 0 => []
  | l + 1 => z ++ zeros z n l

def aZero (P : Program) (t : TypeId) : Option Value :=
  match pureRun P (zeroValue t) with
  | some z => match plain 6 z && !(isTup z) with
    | true => some z
    | false => none
  | none => none

def roomLimit : Nat := 140737488351232

def aMake (P : Program) (t : TypeId) (dst : Option Tmp) (s : AS) : Value → Value → Option AS
  | .int _ l, .int _ c => match P.underlying t with
    | some (.slice e) => match P.info? e, aZero P e with
      | some i, some z => match decide (0 ≤ l) && (decide (l ≤ c) && (decide (c * (i.bytes : Int) ≤ 140737488351232) && (decide (c ≤ 140737488351232) && (z.cells.toList.all (·.oneCell') && (Nat.beq z.cells.size i.size && Nat.ble 1 i.size))))) with
        | true => some ({ s with h := s.h.push ⟨zeros z.cells.toList i.size l.toNat, 0, false, e⟩ }.put dst (.slice (some ⟨s.h.size, 0, some 0⟩) l.toNat i.size))
        | false => none
      | _, _ => none
    | _ => none
  | _, _ => none

def aBuildSlice (P : Program) (t : TypeId) (len : Nat) (dst : Option Tmp) (parts : Array (Nat × Value)) (s : AS) : Option AS :=
  match P.underlying t with
  | some (.slice e) => match sizeT P e, aZero P e with
    | some n, some z => match parts.toList.all (fun p => okPart p.2) && (Nat.beq z.cells.size n && (Nat.ble 1 n && Nat.ble (len * n) 1000000)) with
      | true => match Instr.fill (fun i => some (i * n, n)) (zeros z.cells.toList n len).toArray parts.toList with
        | some cells => match cells.toList.all (·.oneCell') with
          | true => some ({ s with h := s.h.push ⟨cells.toList, 0, false, e⟩ }.put dst (.slice (some ⟨s.h.size, 0, some 0⟩) len n))
          | false => none
        | none => none
      | false => none
    | _, _ => none
  | _ => none

def srcCells (s : AS) (n : Nat) : Value → Option (List Value × Nat)
  | .slice none 0 0 => some ([], 0)
  | .slice (some ⟨_, _, some _⟩) 0 _ => some ([], 0)
  | .slice (some ⟨id, off, some g⟩) m _ => match s.h.get id with
    | some blk => match Nat.beq g blk.gen && Nat.ble (off + m * n) blk.cells.length with
      | true => some ((blk.cells.drop off).take (m * n), m)
      | false => none
    | none => none
  | _ => none

def aAppend (P : Program) (t : TypeId) (dst : Option Tmp) (s : AS) (x y : Value) : Option AS :=
  match P.underlying t with
  | some (.slice e) => match P.info? e, aZero P e with
    | some i, some z => match Nat.beq z.cells.size i.size && Nat.ble 1 i.size, srcCells s i.size y with
      | true, some (news, m) => match m with
        | 0 => match x with
          | .slice _ _ _ => some (s.put dst x)
          | _ => none
        | m + 1 => match x with
          | .slice none 0 0 => match Nat.ble ((m + 1) * i.bytes) 140737488351232 && Nat.ble (m + 1) 140737488351232 with
              | true => some ({ s with h := s.h.push ⟨news, 0, false, e⟩ }.put dst (.slice (some ⟨s.h.size, 0, some 0⟩) (m + 1) i.size))
              | false => none
          | .slice (some ⟨id, 0, some g⟩) len zz => match s.h.get id with
            | some blk => match Nat.beq g blk.gen && (!blk.ro && (Nat.beq blk.el e && (Nat.beq zz i.size && (Nat.ble (len * i.size) blk.cells.length && (Nat.ble ((len + (m + 1)) * i.bytes) 140737488351232 && Nat.ble (len + (m + 1)) 140737488351232))))) with
              | true => some ({ s with h := s.h.set id ⟨blk.cells.take (len * i.size) ++ news, g + 2, false, e⟩ }.put dst (.slice (some ⟨id, 0, some (g + 2)⟩) (len + (m + 1)) i.size))
              | false => none
            | none => none
          | _ => none
      | _, _ => none
    | _, _ => none
  | _ => none

/-! Maps whose keys are numbers, bools or strings: a block of generation 1, keys and values one behind the other. -/
def keyOk : TypeDesc → Value → Bool
  | .int _, .int _ _ => true
  | .bool, .bool _ => true
  | .string, .string _ => true
  | _, _ => false
def mFind (kd : TypeDesc) (k : Value) : List Value → Option (Option Value)
  | [] => some none
  | k' :: v :: r => match Instr.sameNow kd k k' with
    | some true => some (some v)
    | some false => mFind kd k r
    | none => none
  | _ => none
def mSet (kd : TypeDesc) (k v : Value) : List Value → Option (List Value)
  | [] => some [k, v]
  | k' :: u :: r => match Instr.sameNow kd k k' with
    | some true => some (k :: v :: r)
    | some false => match mSet kd k v r with
      | some r' => some (k' :: u :: r')
      | none => none
    | none => none
  | _ => none
/-- Keys that are arrays or structs. -/
def aggKey (P : Program) (kt : TypeId) (k : Value) : Bool := match k with
  | .agg _ => plain 6 k && ((pureRun P (Instr.checkKey true 10000 kt k)).isSome && (pureRun P (Instr.checkKey false 10000 kt k)).isSome)
  | _ => false
def mFindA (P : Program) (kt : TypeId) (k : Value) : List Value → Option (Option Value)
  | [] => some none
  | k' :: v :: r => match pureRun P (Op.equal kt k k') with
    | some true => some (some v)
    | some false => mFindA P kt k r
    | none => none
  | _ => none
def mSetA (P : Program) (kt : TypeId) (k v : Value) : List Value → Option (List Value)
  | [] => some [k, v]
  | k' :: u :: r => match pureRun P (Op.equal kt k k') with
    | some true => match Instr.sameBits 10000 k' k with
      | true => some (k :: v :: r)
      | false => none
    | some false => match mSetA P kt k v r with
      | some r' => some (k' :: u :: r')
      | none => none
    | none => none
  | _ => none
def mFindK (P : Program) (kt : TypeId) (kd : TypeDesc) (k : Value) (cells : List Value) : Option (Option Value) := match keyOk kd k with
  | true => mFind kd k cells
  | false => match aggKey P kt k with
    | true => mFindA P kt k cells
    | false => none
def mSetK (P : Program) (kt : TypeId) (kd : TypeDesc) (k v : Value) (cells : List Value) : Option (List Value) := match keyOk kd k with
  | true => mSet kd k v cells
  | false => match aggKey P kt k with
    | true => mSetA P kt k v cells
    | false => none
def mRes (ok : Bool) (v : Value) (b : Bool) : Value := match ok with
  | true => .tuple #[v, .bool b]
  | false => v
/-- m[k] op= v: the entry that is there, or a new one: what it holds, its place, what the map holds then. -/
def mEntN (kd : TypeDesc) (k z : Value) : List Value → Nat → Option (Value × Nat × List Value)
  | [], i => some (z, i, [k, z])
  | k' :: v :: r, i => match Instr.sameNow kd k k' with
    | some true => some (v, i, k :: v :: r)
    | some false => match mEntN kd k z r (i + 1) with
      | some (u, j, r') => some (u, j, k' :: v :: r')
      | none => none
    | none => none
  | _, _ => none
def mEntA (P : Program) (kt : TypeId) (k z : Value) : List Value → Nat → Option (Value × Nat × List Value)
  | [], i => some (z, i, [k, z])
  | k' :: v :: r, i => match pureRun P (Op.equal kt k k') with
    | some true => match Instr.sameBits 10000 k' k with
      | true => some (v, i, k :: v :: r)
      | false => none
    | some false => match mEntA P kt k z r (i + 1) with
      | some (u, j, r') => some (u, j, k' :: v :: r')
      | none => none
    | none => none
  | _, _ => none
def mEntK (P : Program) (kt : TypeId) (kd : TypeDesc) (k z : Value) (cells : List Value) : Option (Value × Nat × List Value) := match keyOk kd k with
  | true => mEntN kd k z cells 0
  | false => match aggKey P kt k with
    | true => mEntA P kt k z cells 0
    | false => none
def keyAny (P : Program) (kt : TypeId) (kd : TypeDesc) (k : Value) : Bool := keyOk kd k || aggKey P kt k
def aLookup (P : Program) (t : TypeId) (h : AHeap) (x k : Value) (ok : Bool) : Option Value :=
  match P.underlying t with
  | some (.map kt et) => match P.underlying kt, aZero P et with
    | some kd, some z => match keyAny P kt kd k with
      | true => match x with
        | .map none => some (mRes ok z false)
        | .map (some id) => match h.get id with
          | some blk => match Nat.beq blk.gen 1 with
            | true => match mFindK P kt kd k blk.cells with
              | some (some v) => some (mRes ok v true)
              | some none => some (mRes ok z false)
              | none => none
            | false => none
          | none => none
        | _ => none
      | false => none
    | _, _ => none
  | _ => none
def aUpdate (P : Program) (t : TypeId) (h : AHeap) (x k v : Value) : Option AHeap :=
  match P.underlying t with
  | some (.map kt _) => match P.underlying kt with
    | some kd => match keyAny P kt kd k && (okPart v && v.oneCell') with
      | true => match x with
        | .map (some id) => match h.get id with
          | some blk => match Nat.beq blk.gen 1, mSetK P kt kd k v blk.cells with
            | true, some cells' => some (h.set id ⟨cells', 1, false, blk.el⟩)
            | _, _ => none
          | none => none
        | _ => none
      | false => none
    | none => none
  | _ => none

def aEntry (P : Program) (t : TypeId) (h : AHeap) (x k : Value) : Option (Value × AHeap) :=
  match P.underlying t with
  | some (.map kt et) => match P.underlying kt, aZero P et with
    | some kd, some z => match keyAny P kt kd k && z.oneCell' with
      | true => match x with
        | .map (some id) => match h.get id with
          | some blk => match Nat.beq blk.gen 1, mEntK P kt kd k z blk.cells with
            | true, some (v, i, cells') => some (.tuple #[v, .int .i64 i], h.set id ⟨cells', 1, false, blk.el⟩)
            | _, _ => none
          | none => none
        | _ => none
      | false => none
    | _, _ => none
  | _ => none
def aEntrySt (h : AHeap) (x st v : Value) : Option AHeap :=
  match x, st with
  | .map (some id), .int .i64 i => match h.get id with
    | some blk => match (Nat.beq blk.gen 1 && (decide (0 ≤ i) && decide (2 * i.toNat + 1 < blk.cells.length))) && (okPart v && v.oneCell') with
      | true => some (h.set id ⟨blk.cells.set (2 * i.toNat + 1) v, 1, false, blk.el⟩)
      | false => none
    | none => none
  | _, _ => none

def aMem (P : Program) (L : List Nat) (o : Oper) (s : AS) : Option AS :=
  match o.op with
  | .alloc el => match aZero P el with
    | some z => newBox L o.dst el z.cells.toList s
    | none => none
  | .box el x => match okPart (aev s.t x) with
    | true => newBox L o.dst el (aev s.t x).cells.toList s
    | false => none
  | .store t ad x => match aStore P t (aev s.t x) s (aev s.t ad) with
    | some s' => some (s'.put o.dst undef)
    | none => none
  | .makeMap t none => match P.underlying t with
    | some (.map _ _) => some ({ s with h := s.h.push ⟨[], 1, false, 0⟩ }.put o.dst (.map (some s.h.size)))
    | _ => none
  | .lookup t x k ok => match aLookup P t s.h (aev s.t x) (aev s.t k) ok with
    | some v => some (s.put o.dst v)
    | none => none
  | .mapUpdate t x k v => match aUpdate P t s.h (aev s.t x) (aev s.t k) (aev s.t v) with
    | some h' => some ({ s with h := h' }.put o.dst undef)
    | none => none
  | .mapEntry t x k => match aEntry P t s.h (aev s.t x) (aev s.t k) with
    | some (v, h') => some ({ s with h := h' }.put o.dst v)
    | none => none
  | .entryStore _ x st v => match aEntrySt s.h (aev s.t x) (aev s.t st) (aev s.t v) with
    | some h' => some ({ s with h := h' }.put o.dst undef)
    | none => none
  | .makeSlice t l c => aMake P t o.dst s (aev s.t l) (aev s.t c)
  | .buildSlice t len parts => aBuildSlice P t len o.dst (parts.map fun (i, x) => (i, aev s.t x)) s
  | .call c => match c.callee, c.args.toList, c.argTypes.toList with
    | .builtin .append, [x, y], [t, t'] => match Nat.beq t t' with
      | true => aAppend P t o.dst s (aev s.t x) (aev s.t y)
      | false => none
    | _, _, _ => none
  | _ => none

def opKind (o : Oper) : Nat := match o.op with
  | .move _ => 0
  | .assign _ => 0
  | .pick _ _ _ => 0
  | .nilCheck _ => 0
  | .extract _ _ => 0
  | .field _ _ _ => 0
  | .build _ _ => 0
  | .fieldAddr _ _ _ => 0
  | .indexAddr _ _ _ => 0
  | .slice _ _ _ _ _ => 0
  | .binOp _ _ _ _ _ => 0
  | .unOp _ _ _ => 0
  | .convert _ _ _ => 0
  | .makeInterface _ _ => 0
  | .makeFunc _ _ _ => 0
  | .index _ _ _ => 0
  | .load _ _ => 1
  | .alloc _ => 2
  | .box _ _ => 2
  | .store _ _ _ => 3
  | .makeSlice _ _ _ => 4
  | .buildSlice _ _ _ => 4
  | .makeMap _ _ => 4
  | .lookup _ _ _ _ => 4
  | .mapUpdate _ _ _ _ => 4
  | .mapEntry _ _ _ => 4
  | .entryStore _ _ _ _ => 4
  | .call c => match c.callee with
    | .builtin .append => 4
    | .builtin .len => 0
    | .builtin .min => 0
    | .builtin .max => 0
    | .value _ => 4
    | _ => 6
  | _ => 6

def memKind (o : Oper) : Bool := match opKind o with
  | 2 => true
  | 3 => true
  | 4 => true
  | _ => false
def aStep (P : Program) (L : List Nat) (o : Oper) (s : AS) : Option AS :=
  match memKind o with
  | true => aMem P L o s
  | false => match aVal P o s with
    | some v => some (s.put o.dst v)
    | none => none

section
variable {P : Program} {B : Nat} {E : Ent} {ρ : Rho} {lam : Nat → Nat} {s : AS} {a : Act} {w : World}

/-- Cells that read so. -/
def CRel (ρ : Rho) (cs cs' : List Value) : Prop := cs.length = cs'.length ∧ ∀ (i : Nat) v v', cs[i]? = some v → cs'[i]? = some v' → VRel ρ v v'
theorem CRel.of_arr {c c' : Array Value} (h : RelA ρ c c') : CRel ρ c.toList c'.toList :=
  ⟨by simpa using h.1, fun i v v' h1 h2 => h.2 i v v' (by simpa using h1) (by simpa using h2)⟩
theorem all_one {cs : List Value} (h : cs.all (·.oneCell') = true) : ∀ (i : Nat) v, cs[i]? = some v → v.oneCell' = true := by
  intro i v hv
  rw [List.all_eq_true] at h
  exact h v (List.mem_of_getElem? hv)
theorem CRel.one {cs cs' : List Value} (h : CRel ρ cs cs') (ho : cs.all (·.oneCell') = true) : ∀ v ∈ cs', v.oneCell' = true := by
  intro v' hv'
  obtain ⟨i, hi⟩ := List.mem_iff_getElem?.1 hv'
  have hlt : i < cs.length := by rw [h.1]; exact (List.getElem?_eq_some_iff.1 hi).1
  exact (h.2 i cs[i] v' (by simp [hlt]) hi).oneCell (all_one ho i _ (by simp [hlt]))
theorem lies_new {w : World} {el : TypeId} {cs cs' : List Value} (h : CRel ρ cs cs') (ho : cs.all (·.oneCell') = true) {rest : List Value} (c : Nat) (hc : c = cs'.length + rest.length) :
    Lies ρ (w.alloc (.cells (cs' ++ rest).toArray el)) ⟨w.heap.size, 0, c, el⟩ false cs := by
  refine ⟨(cs' ++ rest).toArray, el, (0, 0), heap_alloc_new w _, ?_, fun _ => ⟨rfl, rfl, ?_, rfl⟩, ?_⟩
  · have := h.1; simp; omega
  · simp [hc]
  · intro i v hv
    have hlt : i < cs'.length := by rw [← h.1]; exact (List.getElem?_eq_some_iff.1 hv).1
    refine ⟨all_one ho i v hv, cs'[i], ?_, h.2 i _ _ hv (by simp [hlt])⟩
    simp [List.getElem?_append, hlt]

/-- A new block of the memory, with what it holds. -/
theorem FRel.newBlockG (F : FRel B E ρ lam s a w) {w' : World} (S : Same w w') {r : Row} {g0 : Nat} {cells : List Value} (hr : w.heap.size ≤ r.b) (hL : LiesG ρ w' r g0 false cells) :
    FRel B E (upd ρ s.h.size g0 r) lam { s with h := s.h.push ⟨cells, g0, false, r.e⟩ } a w' ∧ ρ.le (upd ρ s.h.size g0 r) := by
  refine (F.same S).push hL (Nat.le_trans F.ext.grow hr) ?_ ?_
  · intro id blk r' h1 h2 h3
    obtain ⟨r1, k1, k2, _⟩ := F.heap.rows id blk h1
    rw [h3] at k1; cases k1
    have := k2.lt; omega
  · intro k cs hk
    obtain ⟨e, L⟩ := (F.locs k cs hk).lies
    have := L.lt; simp only at this; omega
theorem FRel.newBlock (F : FRel B E ρ lam s a w) {w' : World} (S : Same w w') {r : Row} {cells : List Value} (hr : w.heap.size ≤ r.b) (hL : Lies ρ w' r false cells) :
    FRel B E (upd ρ s.h.size 0 r) lam { s with h := s.h.push ⟨cells, 0, false, r.e⟩ } a w' ∧ ρ.le (upd ρ s.h.size 0 r) := F.newBlockG S hr (LiesG.of hL rfl)

theorem lget_lrem (l : List (Nat × List Value)) (i j : Nat) : lget (lrem l i) j = if j = i then none else lget l j := by
  induction l with
  | nil => simp [lrem, lget]
  | cons x r ih =>
    obtain ⟨k, v⟩ := x
    by_cases hk : k = i
    · subst hk
      simp only [lrem, beq_self, ih]
      by_cases h : j = k
      · simp [h]
      · simp [h, lget, beq_false (Ne.symm h)]
    · simp only [lrem, beq_false hk]
      by_cases h : k = j
      · subst h; simp [lget, hk]
      · simp only [lget, beq_false h, ih]
theorem FRel.kill (F : FRel B E ρ lam s a w) (k : Nat) : FRel B E ρ lam (kill s k) a w := by
  unfold Abs.kill
  split
  · exact F
  · refine ⟨F.heap, F.ext, F.base, ?_, by simpa using F.size, ?_, F.defers⟩
    · intro k' cs hk'
      simp only at hk'
      rw [lget_lrem] at hk'
      split at hk'
      · cases hk'
      · have L := F.locs k' cs hk'
        refine ⟨L.lies, L.mine, L.row, ?_⟩
        intro k1 cs1 h1 hne
        simp only at h1
        rw [lget_lrem] at h1
        split at h1
        · cases h1
        · exact L.other k1 cs1 h1 hne
    · intro i v v' h1 h2
      simp only at h1
      rw [List.getElem?_map] at h1
      cases hu : s.t[i]? with
      | none => rw [hu] at h1; cases h1
      | some u =>
        rw [hu] at h1
        simp only [Option.map_some, Option.some.injEq] at h1
        subst h1
        have T := F.tmps i u v' hu h2
        cases T with
        | mem hv =>
          have : killv k u = u := by
            cases hv <;> rfl
          rw [this]; exact .mem hv
        | loc k0 off h0 =>
          simp only [killv]
          cases hb : Nat.beq k0 k with
          | true => exact .mem (.junk _)
          | false =>
            have hne : k0 ≠ k := fun e => by rw [e, beq_self] at hb; cases hb
            exact .loc k0 off (by rw [lget_lrem, if_neg hne]; exact h0)

theorem FRel.newLocal (F : FRel B E ρ lam s a w) {w' : World} (S : Same w w') {k b : Nat} (hfresh : lget s.l k = none) {el : TypeId} {cells : List Value} (hr : w.heap.size ≤ b) (hL : Lies ρ w' ⟨b, 0, cells.length, el⟩ false cells) :
    FRel B E ρ (fun i => if i = k then b else lam i) { s with l := lset s.l k cells } a w' := by
  have F' := F.same S
  have hlt : ∀ k' cs, lget s.l k' = some cs → lam k' < w.heap.size := fun k' cs hk => by
    obtain ⟨e, L⟩ := (F.locs k' cs hk).lies
    exact L.lt
  refine ⟨F'.heap, F'.ext, F'.base, ?_, F'.size, ?_, F'.defers⟩
  · intro k' cs hk'
    simp only at hk'
    rw [lget_lset] at hk'
    split at hk'
    · rename_i e
      subst e
      cases hk'
      refine ⟨⟨el, by simpa using hL⟩, by simpa using Nat.le_trans F.ext.grow hr, ?_, ?_⟩
      · intro id blk r h1 h2 h3
        obtain ⟨r1, k1, k2, _⟩ := F.heap.rows id blk h1
        rw [h3] at k1; cases k1
        have := k2.lt
        simp only [if_true]; omega
      · intro k1 cs1 h1 hne
        simp only at h1
        rw [lget_lset, if_neg hne] at h1
        have := hlt k1 cs1 h1
        simp only [hne, if_false, if_true]; omega
    · rename_i e
      have L := F'.locs k' cs hk'
      refine ⟨by simpa [e] using L.lies, by simpa [e] using L.mine, by simpa [e] using L.row, ?_⟩
      intro k1 cs1 h1 hne
      simp only at h1
      rw [lget_lset] at h1
      have h2 := hlt k' cs hk'
      by_cases hk1 : k1 = k
      · simp only [hk1, e, if_true, if_false]; omega
      · rw [if_neg hk1] at h1
        simp only [hk1, e, if_false]
        exact L.other k1 cs1 h1 hne
  · intro i v v' h1 h2
    have T := F.tmps i v v' h1 h2
    cases T with
    | mem h => exact .mem h
    | loc k0 off h0 =>
      have hk0 : k0 ≠ k := fun e => h0 (by rw [e]; exact hfresh)
      have e : lam k0 = (fun i => if i = k then b else lam i) k0 := by simp [hk0]
      rw [e]
      exact .loc k0 off (by simp only; rw [lget_lset, if_neg hk0]; exact h0)

/-- What a step leaves. -/
def Left (P : Program) (B : Nat) (E : Ent) (o : Oper) (a : Act) (w : World) (s' : AS) : Prop :=
  ∃ nx w' ρ' lam' u, (execOp a.eval o).run P w = .ok nx w' ∧ (nx = .value u ∨ (nx = .skip ∧ u = undef)) ∧ FRel B E ρ' lam' s' (a.put o.dst u) w'

theorem newBox_sound (F : FRel B E ρ lam s a w) {L : List Nat} {dst : Option Tmp} {el : TypeId} {cs cs' : List Value} {s' : AS} (hc : CRel ρ cs cs') (h : newBox L dst el cs s = some s') :
    ∃ ρ' lam', FRel B E ρ' lam' s' (a.put dst (.pointer (some ⟨w.heap.size, 0, none⟩))) (w.alloc (.cells cs'.toArray el)) := by
  unfold newBox at h
  split at h
  · rename_i d ho
    have hL := lies_new (w := w) (el := el) hc ho (rest := []) cs.length (by simp [hc.1])
    rw [List.append_nil] at hL
    split at h
    · split at h
      rotate_left
      · cases h
      rename_i hfr
      cases h
      have F1 := F.newLocal (k := d) (Same.alloc w _) hfr (Nat.le_refl _) hL
      have T : TRel (lset s.l d cs) (fun i => if i = d then w.heap.size else lam i) ρ (.pointer (some ⟨d, 0, none⟩)) (.pointer (some ⟨(fun i => if i = d then w.heap.size else lam i) d, 0, none⟩)) :=
        .loc d 0 (by rw [lget_lset, if_pos rfl]; simp)
      have F2 := F1.put (some d) T
      simp only [if_true] at F2
      exact ⟨_, _, F2⟩
    · cases h
      obtain ⟨F1, _⟩ := F.newBlock (Same.alloc w _) (r := ⟨w.heap.size, 0, cs.length, el⟩) (Nat.le_refl _) hL
      have T : VRel (upd ρ s.h.size 0 ⟨w.heap.size, 0, cs.length, el⟩) (.pointer (some ⟨s.h.size, 0, some 0⟩)) (.pointer (some ⟨w.heap.size, 0 + 0, none⟩)) :=
        .ptr s.h.size 0 0 _ (upd_self _ _ _ _) rfl
      exact ⟨_, _, F1.put (some d) (.mem T)⟩
  · cases h

theorem aZero_spec {t : TypeId} {z : Value} (h : aZero P t = some z) : (∀ w, (zeroValue t).run P w = .ok z w) ∧ plain 6 z = true ∧ isTup z = false := by
  unfold aZero at h
  split at h
  · rename_i u hu
    split at h
    · rename_i hp
      cases h
      simp only [Bool.and_eq_true, Bool.not_eq_true'] at hp
      exact ⟨pureRun_run hu, hp⟩
    · cases h
  · cases h

theorem zero_rel {t : TypeId} {z : Value} (h : aZero P t = some z) : RelA ρ z.cells z.cells := (plain_refl 6 (aZero_spec h).2.1).cells (aZero_spec h).2.2

theorem splice_rel {cells vs vs' : List Value} {r : Row} {off : Nat} {w : World} (hL : Lies ρ w r false cells) (hv : CRel ρ vs vs') (ho : vs.all (·.oneCell') = true) (hfit : off + vs.length ≤ cells.length) {P : Program} :
    ∃ w', (storeCells ⟨r.b, r.o + off, none⟩ vs' 0).run P w = .ok () w' ∧ w'.os = w.os ∧ w'.tape = w.tape ∧ w'.output = w.output ∧ (w.drawn ≤ w'.drawn ∧ w.heap.size ≤ w'.heap.size) ∧ (∀ b, b < w.heap.size → b ≠ r.b → w'.heap[b]? = w.heap[b]?) ∧
      Lies ρ w' r false (splice cells off vs) := by
  obtain ⟨cur, e, fz, h1, h2, h3, h4⟩ := hL
  obtain ⟨e1, e2, e3, e4⟩ := h3 rfl
  subst e2
  rw [e1] at h2
  have hst := run_storeCells_at P r.b (r.o + off) e vs' 0 cur w h1 (by have := hv.1; omega) (hv.one ho)
  refine ⟨_, hst, rfl, rfl, rfl, by simp, fun b _ hne => setRow_other w r.b b _ hne, ?_⟩
  refine ⟨_, e, (0, 0), setRow_heap w r.b cur _ e _ h1, ?_, fun _ => ⟨e1, rfl, ?_, e4⟩, ?_⟩
  · have := hv.1; simp [splice, e1]; omega
  · have := hv.1; simp [e1]; omega
  · intro i v hvi
    have hl := hv.1
    simp only [e1, Nat.zero_add, Nat.add_zero, List.getElem?_toArray, List.append_assoc]
    unfold splice at hvi
    rw [List.getElem?_append] at hvi
    have hlen1 : (cells.take off).length = off := by simp; omega
    have hlen2 : (cur.toList.take off).length = off := by simp; omega
    rw [List.getElem?_append, hlen2]
    rw [hlen1] at hvi
    by_cases hi : i < off
    · rw [if_pos hi] at hvi ⊢
      rw [List.getElem?_take, if_pos hi] at hvi ⊢
      obtain ⟨k1, v', k2, k3⟩ := h4 i v hvi
      exact ⟨k1, v', by simpa [e1] using k2, k3⟩
    · rw [if_neg hi] at hvi ⊢
      rw [List.getElem?_append] at hvi ⊢
      rw [← hl]
      by_cases hj : i - off < vs.length
      · rw [if_pos hj] at hvi ⊢
        have hj' : i - off < vs'.length := by omega
        exact ⟨all_one ho _ v hvi, vs'[i - off], by simp [hj'], hv.2 _ _ _ hvi (by simp [hj'])⟩
      · rw [if_neg hj] at hvi ⊢
        rw [List.getElem?_drop] at hvi ⊢
        obtain ⟨k1, v', k2, k3⟩ := h4 _ v hvi
        exact ⟨k1, v', by simpa [e1] using k2, k3⟩

theorem store_sound (F : FRel B E ρ lam s a w) {t : TypeId} {x x' ad ad' : Value} {s' : AS} (hx : TRel s.l lam ρ x x') (had : TRel s.l lam ρ ad ad') (h : aStore P t x s ad = some s') :
    ∃ w' ρ' lam', (Instr.storeAt t ad' x').run P w = .ok () w' ∧ FRel B E ρ' lam' s' a w' := by
  unfold aStore at h
  split at h
  · rename_i k off
    split at h
    · rename_i n hn hok
      simp only [Bool.and_eq_true] at hok
      have hr := (hx.vrel (okPart_loc hok.1)).cells (okPart_tup hok.1)
      split at h
      · rename_i cells hsz hk
        have hsz' := Nat.eq_of_beq_eq_true hsz
        split at h
        · rename_i hfit
          have hfit' := Nat.le_of_ble_eq_true hfit
          cases h
          obtain ⟨e, L⟩ := (F.locs k cells hk).lies
          have hlen : x.cells.toList.length = n := by simp [hsz']
          obtain ⟨w', a1, a2, a3, a4, a5, a6, a7⟩ := splice_rel (P := P) L (CRel.of_arr hr) hok.2 (off := off) (by rw [hlen]; exact hfit')
          cases had with
          | mem hv => cases hv
          | loc =>
            refine ⟨w', ρ, lam, ?_, F.box hk a2 a3 a4 a5 a6 (el := e) ?_⟩
            · simp only [Nat.zero_add] at a1
              have hz : x'.cells.size = n := by rw [← hr.1]; exact hsz'
              simp [Instr.storeAt, Instr.sureAddr, storeVar, run_sizeT hn, hz, a1]
            · have hl2 : (splice cells off x.cells.toList).length = cells.length := by simp [splice, hsz']; omega
              rw [hl2]; exact a7
        · cases h
      · cases h
    · cases h
  · rename_i id off g
    split at h
    · rename_i n hn hok
      simp only [Bool.and_eq_true] at hok
      have hr := (hx.vrel (okPart_loc hok.1)).cells (okPart_tup hok.1)
      split at h
      · rename_i blk hsz hk
        have hsz' := Nat.eq_of_beq_eq_true hsz
        split at h
        · rename_i hc
          simp only [Bool.and_eq_true, Bool.not_eq_true'] at hc
          obtain ⟨hg, hro, hfit⟩ := hc
          have hg' := Nat.eq_of_beq_eq_true hg
          have hfit' := Nat.le_of_ble_eq_true hfit
          subst hg'
          cases h
          obtain ⟨r, k1, k2, k3, k4⟩ := F.heap.rows id blk hk
          rw [hro] at k2
          have hlen : x.cells.toList.length = n := by simp [hsz']
          cases had with
          | mem hv =>
            cases hv with
            | ptr _ _ _ r' hr' hg2 =>
              rw [k1] at hr'; cases hr'
              obtain ⟨w', a1, a2, a3, a4, a5, a6, a7⟩ := splice_rel (P := P) (k2.cells hg2) (CRel.of_arr hr) hok.2 (off := off) (by rw [hlen]; exact hfit')
              have hz : x'.cells.size = n := by rw [← hr.1]; exact hsz'
              obtain ⟨F1, _⟩ := F.change hk hro k1 a2 a3 a4 a5 a6 (g := blk.gen) (Nat.le_refl _) (r' := r) (.inl rfl) (.inr k1) (LiesG.of a7 hg2)
              rw [(k4 hro).2] at F1
              exact ⟨w', _, lam, by simp [Instr.storeAt, Instr.sureAddr, storeVar, run_sizeT hn, hz, a1], F1⟩
        · cases h
      · cases h
    · cases h
  · cases h
end
end Go.Proofs.Ytimeninncpmaeaa.Abs
