/-
  Regions that draw their order, on abstract states: one order serves every order.
-/
import Derived.Test.YtimeninncpmaeaaVg
namespace Go.Proofs.Ytimeninncpmaeaa.Abs
open Go
set_option linter.unusedVariables false
set_option linter.unusedSimpArgs false

structure Eff where
  v : Value
  box : Option (List Value)
def tput (t : List Value) (dst : Option Tmp) (v : Value) : List Value := match dst with
  | some d => t.set d v
  | none => t
def lput (l : Locs) (dst : Option Tmp) (b : Option (List Value)) : Locs := match dst, b with
  | some d, some c => lset l d c
  | _, _ => l
def AS.eff (s : AS) (dst : Option Tmp) (e : Eff) : AS := ⟨tput s.t dst e.v, lput s.l dst e.box, s.h⟩
theorem put_eq (s : AS) (dst : Option Tmp) (v : Value) : s.put dst v = ⟨tput s.t dst v, s.l, s.h⟩ := by cases dst <;> rfl
theorem tput_comm (t : List Value) {x y : Option Tmp} (u v : Value) (h : ∀ d, x = some d → y ≠ some d) : tput (tput t x u) y v = tput (tput t y v) x u := by
  cases x with
  | none => rfl
  | some d => cases y with
    | none => rfl
    | some d' => simp only [tput]; exact List.set_comm _ _ (fun e => h d rfl (by rw [e]))
theorem lput_comm (l : Locs) {x y : Option Tmp} (b c : Option (List Value)) (h : ∀ d, x = some d → y ≠ some d) : lput (lput l x b) y c = lput (lput l y c) x b := by
  cases x with
  | none => rfl
  | some d => cases y with
    | none => rfl
    | some d' => cases b with
      | none => rfl
      | some b => cases c with
        | none => rfl
        | some c => simp only [lput]; exact lset_comm _ _ _ (fun e => h d rfl (by rw [e]))

section
variable {P : Program} {L : List Nat} {ops : Array Oper}

theorem looks_op {o : Oper} {t : Tmp} (h : Operand.tmp t ∈ o.op.operands) : t ∈ o.looksAt ops := by
  unfold Oper.looksAt
  exact List.mem_append_left _ (List.mem_filterMap.2 ⟨.tmp t, by simpa using h, rfl⟩)
theorem aev_tput {o : Oper} {t : List Value} {dst : Option Tmp} {v : Value} (h : ∀ d, dst = some d → d ∉ o.looksAt ops) {x : Operand} (hx : x ∈ o.op.operands) : aev (tput t dst v) x = aev t x := by
  cases dst with
  | none => rfl
  | some d =>
    cases x with
    | tmp i =>
      have hne : d ≠ i := fun e => h d rfl (e ▸ looks_op hx)
      simp only [aev, tput, List.getD, List.getElem?_set_ne hne]
    | _ => rfl
theorem awanted_tput {o : Oper} {t : List Value} {dst : Option Tmp} {v : Value} (h : ∀ d, dst = some d → d ∉ o.looksAt ops) : awanted ops o (tput t dst v) = awanted ops o t := by
  cases dst with
  | none => rfl
  | some d =>
    unfold awanted
    cases hg : o.guard with
    | none => rfl
    | some gw =>
      obtain ⟨g, want⟩ := gw
      simp only
      cases ht : (ops[g]?).bind (·.dst) with
      | none => rfl
      | some k =>
        have hne : d ≠ k := fun e => h d rfl (by subst e; simp [Oper.looksAt, hg, ht])
        simp only [tput, List.getElem?_set_ne hne]

theorem dflt_congr {o : Oper} {t t' : List Value} (hs : ∀ cs b, o.op ≠ .select cs b) (h : ∀ x ∈ o.op.operands, aev t x = aev t' x) : dflt P o t = dflt P o t' := by
  unfold dflt
  rw [execOp_congr o hs h]
  have : (o.op.operands.toList.all fun x => plain 6 (aev t x)) = (o.op.operands.toList.all fun x => plain 6 (aev t' x)) := by
    rw [Bool.eq_iff_iff, List.all_eq_true, List.all_eq_true]
    constructor <;> intro hh x hx
    · rw [← h x (by simpa using hx)]; exact hh x hx
    · rw [h x (by simpa using hx)]; exact hh x hx
  rw [this]

theorem all_congr {xs : List Operand} {t t' : List Value} {f : Value → Bool} (h : ∀ x ∈ xs, aev t x = aev t' x) : (xs.all fun x => f (aev t x)) = (xs.all fun x => f (aev t' x)) := by
  rw [Bool.eq_iff_iff, List.all_eq_true, List.all_eq_true]
  constructor <;> intro hh x hx
  · rw [← h x hx]; exact hh x hx
  · rw [h x hx]; exact hh x hx

theorem aVal_congr {o : Oper} {s s' : AS} (hk : ∀ t x, o.op ≠ .load t x) (h : ∀ x ∈ o.op.operands, aev s.t x = aev s'.t x) : aVal P o s = aVal P o s' := by
  have D : (∀ cs b, o.op ≠ .select cs b) → dflt P o s.t = dflt P o s'.t := fun hn => dflt_congr hn h
  obtain ⟨dst, op, type, pos, after, guard⟩ := o
  cases op with
  | load t x => exact absurd rfl (hk t x)
  | select cs b => rfl
  | move x => simp only [aVal]; rw [h x (by simp [Op.operands])]
  | assign x => simp only [aVal]; rw [h x (by simp [Op.operands])]
  | pick c x y => simp only [aVal]; rw [h c (by simp [Op.operands]), h x (by simp [Op.operands]), h y (by simp [Op.operands])]
  | nilCheck x => simp only [aVal]; rw [h x (by simp [Op.operands])]
  | extract x i => simp only [aVal]; rw [h x (by simp [Op.operands])]
  | field t x f => simp only [aVal]; rw [h x (by simp [Op.operands])]
  | build t parts =>
    simp only [aVal]
    have h1 : (parts.toList.all fun p => okPart (aev s.t p.2)) = (parts.toList.all fun p => okPart (aev s'.t p.2)) := by
      rw [Bool.eq_iff_iff, List.all_eq_true, List.all_eq_true]
      constructor <;> intro hh p hp
      · rw [← h p.2 (by simp [Op.operands]; exact ⟨p.1, by simpa using hp⟩)]; exact hh p hp
      · rw [h p.2 (by simp [Op.operands]; exact ⟨p.1, by simpa using hp⟩)]; exact hh p hp
    have h2 : (parts.map fun (i, x) => (i, aev s.t x)) = (parts.map fun (i, x) => (i, aev s'.t x)) :=
      Array.map_congr_left fun p hp => by
        obtain ⟨i, x⟩ := p
        simp only [h x (by simp [Op.operands]; exact ⟨i, hp⟩)]
    rw [h1, h2]
  | fieldAddr t x f => simp only [aVal]; rw [h x (by simp [Op.operands])]
  | indexAddr t x i => simp only [aVal]; rw [h x (by simp [Op.operands]), h i (by simp [Op.operands])]
  | slice t x lo hi mx =>
    have hd := D (by intro cs b hh; cases hh)
    simp only [aVal]
    rw [hd, h x (by simp [Op.operands])]
    have e1 : lo.map (aev s.t) = lo.map (aev s'.t) := by cases lo with
      | none => rfl
      | some q => simp [h q (by simp [Op.operands])]
    have e2 : hi.map (aev s.t) = hi.map (aev s'.t) := by cases hi with
      | none => rfl
      | some q => simp [h q (by simp [Op.operands])]
    rw [e1, e2]
  | binOp op t x y yt =>
    have hd := D (by intro cs b hh; cases hh)
    simp only [aVal]
    rw [hd, h x (by simp [Op.operands]), h y (by simp [Op.operands])]
  | makeInterface t x => simp only [aVal]; rw [h x (by simp [Op.operands])]
  | makeFunc fn first cap =>
    simp only [aVal]
    have e1 := all_congr (xs := first.toList) (f := okPart) (fun x hx => h x (by simp [Op.operands]; exact .inl (by simpa using hx)))
    have e2 := all_congr (xs := cap.toList) (f := okPart) (fun x hx => h x (by simp [Op.operands]; exact .inr (by simpa using hx)))
    have e3 : first.map (aev s.t) = first.map (aev s'.t) := Array.map_congr_left fun x hx => h x (by simp [Op.operands, hx])
    have e4 : cap.map (aev s.t) = cap.map (aev s'.t) := Array.map_congr_left fun x hx => h x (by simp [Op.operands, hx])
    rw [e1, e2, e3, e4]
  | index t x i =>
    have hd := D (by intro cs b hh; cases hh)
    simp only [aVal]
    rw [hd, h x (by simp [Op.operands]), h i (by simp [Op.operands])]
  | call c =>
    have hd := D (by intro cs b hh; cases hh)
    simp only [aVal]
    rw [hd]
    have : aLen P c s.t = aLen P c s'.t := by
      unfold aLen
      split
      · rename_i x ty hc ha ht
        rw [h x (by
          have : x ∈ c.args.toList := by rw [ha]; simp
          simp [Op.operands, Call.operands, hc]; simpa using this)]
      · rfl
    rw [this]
  | _ => exact D (by intro cs b hh; cases hh)

def known (s : AS) : Prop := ∀ (i : Nat) k off, s.t[i]? = some (.pointer (some ⟨k, off, none⟩)) → lget s.l k ≠ none
theorem known_of {B : Nat} {E : Ent} {ρ : Rho} {lam : Nat → Nat} {s : AS} {a : Act} {w : World} (F : FRel B E ρ lam s a w) : known s := by
  intro i k off h
  have hlt : i < a.tmps.size := by rw [F.size]; exact (List.getElem?_eq_some_iff.1 h).1
  have := F.tmps i _ a.tmps[i] h (by simp [hlt])
  generalize a.tmps[i] = u at this
  cases this with
  | mem hv => cases hv
  | loc _ _ hk => exact hk
theorem known_aev {s : AS} (hs : known s) {x : Operand} {k off : Nat} (h : aev s.t x = .pointer (some ⟨k, off, none⟩)) : lget s.l k ≠ none := by
  cases x with
  | tmp i =>
    simp only [aev, List.getD] at h
    cases hi : s.t[i]? with
    | none => rw [hi] at h; cases h
    | some v => rw [hi] at h; simp only [Option.getD_some] at h; subst h; exact hs i k off hi
  | const v =>
    simp only [aev] at h
    split at h
    · rename_i hp; subst h; simp [plain] at hp
    · cases h
  | global g => cases h
  | func f => cases h
theorem isLoc_ptr {v : Value} (h : isLoc v = true) : ∃ k off, v = .pointer (some ⟨k, off, none⟩) := by
  cases v with
  | pointer a => cases a with
    | none => cases h
    | some a =>
      obtain ⟨b, o, sp⟩ := a
      cases sp with
      | none => exact ⟨b, o, rfl⟩
      | some g => cases h
  | _ => cases h
theorem okPart_not {v : Value} (h : okPart v = true) : isLoc v = false := okPart_loc h

theorem readCells_kind {t : TypeId} {cells : List Value} {off : Nat} {v : Value} : noLoc (readCells P t cells off) = some v → isLoc v = false := fun h => (noLoc_some h).2
theorem aLoad_notLoc {t : TypeId} {s : AS} {x v : Value} (h : aLoad P t s x = some v) : isLoc v = false := by
  unfold aLoad at h
  split at h
  · split at h
    · exact (noLoc_some h).2
    · cases h
  · split at h
    · split at h
      · exact (noLoc_some h).2
      · cases h
    · cases h
  · cases h
theorem dflt_notLoc {o : Oper} {t : List Value} {v : Value} (h : dflt P o t = some v) : isLoc v = false := by
  unfold dflt at h
  split at h
  · split at h
    · split at h
      · rename_i hp; cases h; exact plain_isLoc hp
      · cases h
    · cases h
  · cases h

/-- A value that an operation yields names no box that is not there. -/
theorem aVal_known {o : Oper} {s : AS} (hs : known s) {v : Value} (h : aVal P o s = some v) {k off : Nat} (hv : v = .pointer (some ⟨k, off, none⟩)) : lget s.l k ≠ none := by
  have D : dflt P o s.t = some v → lget s.l k ≠ none := fun hd => by have := dflt_notLoc hd; rw [hv] at this; cases this
  obtain ⟨dst, op, type, pos, after, guard⟩ := o
  cases op with
  | load t x => simp only [aVal] at h; have := aLoad_notLoc h; rw [hv] at this; cases this
  | select cs b => simp [aVal] at h
  | move x => simp only [aVal, Option.some.injEq] at h; exact known_aev hs (h.trans hv)
  | assign x => simp only [aVal, Option.some.injEq] at h; exact known_aev hs (h.trans hv)
  | pick c x y =>
    simp only [aVal] at h
    split at h
    · simp only [Option.some.injEq] at h; exact known_aev hs (h.trans hv)
    · simp only [Option.some.injEq] at h; exact known_aev hs (h.trans hv)
    · cases h
  | nilCheck x =>
    simp only [aVal] at h
    split at h
    · rename_i ad e
      cases h
      exact known_aev hs (e.trans hv)
    · cases h
  | extract x i =>
    simp only [aVal] at h
    split at h
    · split at h
      · split at h
        · rename_i hok; cases h; have := okPart_loc hok; rw [hv] at this; cases this
        · cases h
      · cases h
    · cases h
  | field t x f =>
    simp only [aVal] at h
    split at h
    · have := (noLoc_some h).2; rw [hv] at this; cases this
    · cases h
  | build t parts =>
    simp only [aVal] at h
    split at h
    · have := (noLoc_some h).2; rw [hv] at this; cases this
    · cases h
  | fieldAddr t x f =>
    simp only [aVal] at h
    unfold aFieldAddr at h
    split at h
    · rename_i ad e
      split at h
      · split at h
        · split at h
          · cases h
            obtain ⟨b, o, sp⟩ := ad
            simp only [padd, Value.pointer.injEq, Option.some.injEq, Addr.mk.injEq] at hv
            obtain ⟨rfl, _, rfl⟩ := hv
            exact known_aev hs e
          · cases h
        · cases h
      · cases h
    · cases h
  | indexAddr t x i =>
    simp only [aVal] at h
    unfold aIndexAddr at h
    split at h
    · split at h
      · split at h
        · split at h
          · cases h; cases hv
          · cases h
        · cases h
      · cases h
    · rename_i ad kk n e1 e2
      split at h
      · split at h
        · split at h
          · cases h
            obtain ⟨b, o, sp⟩ := ad
            simp only [padd, Value.pointer.injEq, Option.some.injEq, Addr.mk.injEq] at hv
            obtain ⟨rfl, _, rfl⟩ := hv
            exact known_aev hs e1
          · cases h
        · cases h
      · cases h
    · cases h
  | slice t x lo hi mx =>
    simp only [aVal] at h
    split at h
    · unfold aSlice at h
      split at h
      · split at h
        · split at h
          · split at h
            · cases h; cases hv
            · cases h
          · cases h
        · cases h
      · cases h
    · exact D h
  | binOp op t x y yt =>
    simp only [aVal] at h
    unfold orElse' at h
    split at h
    · rename_i u hu
      cases h
      unfold aBin at hu
      split at hu
      · split at hu
        · cases hu; cases hv
        · cases hu
      · split at hu
        · cases hu; cases hv
        · cases hu
      · cases hu
    · exact D h
  | makeInterface t x =>
    simp only [aVal] at h
    split at h
    · cases h
    · cases h; cases hv
    · cases h
  | makeFunc fn first cap =>
    simp only [aVal] at h
    split at h
    · cases h; cases hv
    · cases h
  | index t x i =>
    simp only [aVal] at h
    split at h
    · have := (noLoc_some h).2; rw [hv] at this; cases this
    · exact D h
  | call c =>
    simp only [aVal] at h
    unfold orElse' at h
    split at h
    · rename_i u hu
      cases h
      unfold aLen at hu
      split at hu
      · split at hu
        · split at hu
          · cases hu; cases hv
          · cases hu
        · cases hu
      · cases hu
    · exact D h
  | _ => exact D (by simpa [aVal] using h)
end
end Go.Proofs.Ytimeninncpmaeaa.Abs
