/-
  Changes of the memory, and how the reading of an abstract state is kept.
-/
import Derived.Test.YtimeninncpmaeaaVc
namespace Go.Proofs.Ytimeninncpmaeaa.Abs
open Go
set_option linter.unusedVariables false
set_option linter.unusedSimpArgs false

section
variable {P : Program} {B : Nat} {E : Ent} {ρ : Rho} {lam : Nat → Nat} {s : AS} {a : Act} {w : World}

theorem parts_rel (F : FRel B E ρ lam s a w) {parts : Array (Nat × Operand)} (h : (parts.toList.all fun p => okPart (aev s.t p.2)) = true) :
    ∀ (i : Nat) p p', (parts.map fun (i, x) => (i, aev s.t x))[i]? = some p → (parts.map fun (i, x) => (i, a.eval x))[i]? = some p' → p.1 = p'.1 ∧ VRel ρ p.2 p'.2 ∧ isTup p.2 = false := by
  intro i p p' hp hp'
  rw [Array.getElem?_map] at hp hp'
  cases hq : parts[i]? with
  | none => rw [hq] at hp; cases hp
  | some q =>
    rw [hq] at hp hp'
    simp only [Option.map_some, Option.some.injEq] at hp hp'
    subst hp; subst hp'
    rw [List.all_eq_true] at h
    have hk := h q (by simpa using Array.mem_of_getElem? hq)
    exact ⟨rfl, (F.eval q.2).vrel (okPart_loc hk), okPart_tup hk⟩

theorem ops_rel (F : FRel B E ρ lam s a w) {xs : Array Operand} (h : (xs.toList.all fun x => okPart (aev s.t x)) = true) :
    ∀ (i : Nat) v v', (xs.map (aev s.t))[i]? = some v → (xs.map a.eval)[i]? = some v' → VRel ρ v v' := by
  intro i p p' hp hp'
  rw [Array.getElem?_map] at hp hp'
  cases hq : xs[i]? with
  | none => rw [hq] at hp; cases hp
  | some q =>
    rw [hq] at hp hp'
    simp only [Option.map_some, Option.some.injEq] at hp hp'
    subst hp; subst hp'
    rw [List.all_eq_true] at h
    have hk := h q (by simpa using Array.mem_of_getElem? hq)
    exact (F.eval q).vrel (okPart_loc hk)

theorem aVal_sound (F : FRel B E ρ lam s a w) {o : Oper} {v : Value} (h : aVal P o s = some v) :
    ∃ v', (execOp a.eval o).run P w = .ok (.value v') w ∧ TRel s.l lam ρ v v' := by
  have D : (∀ cs b, o.op ≠ .select cs b) → dflt P o s.t = some v → ∃ v', (execOp a.eval o).run P w = .ok (.value v') w ∧ TRel s.l lam ρ v v' := fun hn h => dflt_sound F hn h
  obtain ⟨dst, op, type, pos, after, guard⟩ := o
  cases op with
  | move x => simp only [aVal, Option.some.injEq] at h; subst h; exact ⟨_, rfl, F.eval x⟩
  | assign x => simp only [aVal, Option.some.injEq] at h; subst h; exact ⟨_, rfl, F.eval x⟩
  | pick c x y =>
    simp only [aVal] at h
    have hc := F.eval c
    split at h
    · rename_i e
      rw [e] at hc
      have := hc.plain_eq (n := 0) rfl
      cases h
      exact ⟨a.eval x, by simp [execOp, this, asBool], F.eval x⟩
    · rename_i e
      rw [e] at hc
      have := hc.plain_eq (n := 0) rfl
      cases h
      exact ⟨a.eval y, by simp [execOp, this, asBool], F.eval y⟩
    · cases h
  | nilCheck x =>
    simp only [aVal] at h
    have hx := F.eval x
    split at h
    · rename_i ad e
      cases h
      rw [e] at hx
      refine ⟨a.eval x, ?_, hx⟩
      generalize hu : a.eval x = u at hx ⊢
      cases hx with
      | loc k off hk => simp [execOp, hu]
      | mem hv => cases hv; simp [execOp, hu]
    · cases h
  | extract x i =>
    simp only [aVal] at h
    have hx := F.eval x
    split at h
    · rename_i vs e
      rw [e] at hx
      split at h
      · rename_i u hu
        split at h
        rotate_left
        · cases h
        · rename_i hok
          have ht := okPart_tup hok
          cases h
          generalize hux : a.eval x = ux at hx
          cases hx with
          | mem hv =>
            cases hv with
            | junk =>
              exfalso
              cases i with
              | zero => simp at hu; subst hu; simp [isTup] at ht
              | succ i => simp at hu
            | tuple _ c' h1 h2 =>
              have hlt : i < c'.size := by rw [← h1]; exact (Array.getElem?_eq_some_iff.1 hu).1
              exact ⟨c'[i], by simp [execOp, Instr.extract, hux, hlt], .mem (h2 i _ _ hu (by simp [hlt]))⟩
      · cases h
    · cases h
  | field t x f =>
    simp only [aVal] at h
    have hx := F.eval x
    split at h
    · rename_i cs e
      rw [e] at hx
      obtain ⟨v', h1, h2⟩ := field_sound (P := P) (w := w) hx (noLoc_some h).1
      exact ⟨v', by simp [execOp, h1], .mem h2⟩
    · cases h
  | build t parts =>
    simp only [aVal] at h
    split at h
    · rename_i hc
      simp only [Bool.and_eq_true] at hc
      obtain ⟨v', h1, h2⟩ := build_sound (P := P) (ρ := ρ) (w := w) hc.1 (by simp) (parts_rel F hc.2) (noLoc_some h).1
      exact ⟨v', by simp [execOp, h1], .mem h2⟩
    · cases h
  | load t x =>
    simp only [aVal] at h
    obtain ⟨v', h1, h2⟩ := aLoad_sound (P := P) F (F.eval x) h
    exact ⟨v', by simp [execOp, h1], .mem h2⟩
  | fieldAddr t x f =>
    simp only [aVal] at h
    obtain ⟨v', h1, h2⟩ := fieldAddr_sound (P := P) (w := w) (F.eval x) h
    exact ⟨v', by simp [execOp, h1], h2⟩
  | indexAddr t x i =>
    simp only [aVal] at h
    obtain ⟨v', h1, h2⟩ := indexAddr_sound (P := P) (w := w) (F.eval x) (F.eval i) h
    exact ⟨v', by simp [execOp, h1], h2⟩
  | slice t x lo hi mx =>
    simp only [aVal] at h
    split at h
    · rename_i ad len z hm e
      have hx := F.eval x
      rw [e] at hx
      have OR : ∀ q : Option Operand, ORel s.l lam ρ (q.map (aev s.t)) (q.map a.eval) := fun q => by
        cases q with
        | none => trivial
        | some q => exact F.eval q
      obtain ⟨v', h1, h2⟩ := slice_sound (P := P) (w := w) hx (OR lo) (OR hi) h
      exact ⟨v', by simp [execOp, h1], h2⟩
    · exact D (by intro cs b hh; cases hh) h
  | binOp op t x y yt =>
    simp only [aVal] at h
    unfold orElse' at h
    split at h
    · rename_i u hu
      cases h
      unfold aBin at hu
      split at hu
      · split at hu
        · rename_i hn
          cases hu
          obtain ⟨h1, h2, h3, h4⟩ := aNil_sound (P := P) (w := w) (F.eval x) (F.eval y) hn
          exact ⟨.bool false, by simp [execOp, h2, h3, h1], .mem (.bool _)⟩
        · cases hu
      · split at hu
        · rename_i hn
          cases hu
          obtain ⟨h1, h2, h3, h4⟩ := aNil_sound (P := P) (w := w) (F.eval x) (F.eval y) hn
          exact ⟨.bool true, by simp [execOp, h2, h4, h1], .mem (.bool _)⟩
        · cases hu
      · cases hu
    · exact D (by intro cs b hh; cases hh) h
  | makeInterface t x =>
    simp only [aVal] at h
    split at h
    · cases h
    · rename_i d hu hk hd
      cases h
      refine ⟨.iface t (a.eval x), ?_, .mem (.iface t _ _ ((F.eval x).vrel (okPart_loc hk)))⟩
      simp only [execOp, Instr.makeInterface, Sem.run_bind, run_underlying hd, Result.andThen_ok]
      cases d <;> first | rfl | exact absurd rfl (hu _)
    · cases h
  | makeFunc fn first cap =>
    simp only [aVal] at h
    split at h
    · rename_i hc
      simp only [Bool.and_eq_true] at hc
      cases h
      exact ⟨.func fn (first.map a.eval) (cap.map a.eval), by simp [execOp, Instr.makeFunc], .mem (.func _ _ _ _ _ (by simp) (by simp) (ops_rel F hc.1) (ops_rel F hc.2))⟩
    · cases h
  | index t x i =>
    simp only [aVal] at h
    split at h
    · rename_i cs k n e1 e2
      have hx := F.eval x
      have hi := F.eval i
      rw [e1] at hx
      rw [e2] at hi
      have := hi.plain_eq (n := 0) rfl
      obtain ⟨v', h1, h2⟩ := index_sound (P := P) (w := w) hx (noLoc_some h).1
      exact ⟨v', by simp [execOp, this, h1], .mem h2⟩
    · exact D (by intro cs b hh; cases hh) h
  | call c =>
    simp only [aVal] at h
    unfold orElse' at h
    split at h
    · rename_i u hu
      cases h
      unfold aLen at hu
      split at hu
      · rename_i x ty hcal hargs hat
        split at hu
        · rename_i ad n z e
          split at hu
          · rename_i el hty
            cases hu
            have hx := F.eval x
            rw [e] at hx
            obtain ⟨callee, args, argTypes⟩ := c
            simp only at hcal hargs hat
            subst hcal
            obtain rfl : args = #[x] := by rw [← hargs]
            obtain rfl : argTypes = #[ty] := by rw [← hat]
            generalize hu : a.eval x = u at hx
            cases hx with
            | mem hv =>
              cases hv with
              | slice id' off g r _ _ o' cap' h1 h2 h3 h4 =>
                exact ⟨goInt n, by simp [execOp, resolve, invoke, builtin, Builtin.len_, run_underlying hty, hu], .mem (.int _ _)⟩
              | slice0 id' off g _ a0 cap' h0 =>
                exact ⟨goInt 0, by simp [execOp, resolve, invoke, builtin, Builtin.len_, run_underlying hty, hu], .mem (.int _ _)⟩
          · cases hu
        · cases hu
      · cases hu
    · exact D (by intro cs b hh; cases hh) h
  | select cs b => simp [aVal] at h
  | alloc t => exact D (by intro cs b hh; cases hh) (by simpa [aVal] using h)
  | box t x => exact D (by intro cs b hh; cases hh) (by simpa [aVal] using h)
  | buildSlice t n ps => exact D (by intro cs b hh; cases hh) (by simpa [aVal] using h)
  | insert t m k x => exact D (by intro cs b hh; cases hh) (by simpa [aVal] using h)
  | store t x y => exact D (by intro cs b hh; cases hh) (by simpa [aVal] using h)
  | ready g => exact D (by intro cs b hh; cases hh) (by simpa [aVal] using h)
  | waits g => exact D (by intro cs b hh; cases hh) (by simpa [aVal] using h)
  | unOp op t x => exact D (by intro cs b hh; cases hh) (by simpa [aVal] using h)
  | convert t u x => exact D (by intro cs b hh; cases hh) (by simpa [aVal] using h)
  | sliceToArrayPointer t x => exact D (by intro cs b hh; cases hh) (by simpa [aVal] using h)
  | makeMap t r => exact D (by intro cs b hh; cases hh) (by simpa [aVal] using h)
  | makeChan t x => exact D (by intro cs b hh; cases hh) (by simpa [aVal] using h)
  | makeSlice t x y => exact D (by intro cs b hh; cases hh) (by simpa [aVal] using h)
  | lookup t x y b => exact D (by intro cs b hh; cases hh) (by simpa [aVal] using h)
  | mapUpdate t m k x => exact D (by intro cs b hh; cases hh) (by simpa [aVal] using h)
  | mapEntry t m k => exact D (by intro cs b hh; cases hh) (by simpa [aVal] using h)
  | entryStore t m k x => exact D (by intro cs b hh; cases hh) (by simpa [aVal] using h)
  | range t x => exact D (by intro cs b hh; cases hh) (by simpa [aVal] using h)
  | next x b => exact D (by intro cs b hh; cases hh) (by simpa [aVal] using h)
  | entry x => exact D (by intro cs b hh; cases hh) (by simpa [aVal] using h)
  | typeAssert x t u b => exact D (by intro cs b hh; cases hh) (by simpa [aVal] using h)
  | go c => exact D (by intro cs b hh; cases hh) (by simpa [aVal] using h)
  | defer c => exact D (by intro cs b hh; cases hh) (by simpa [aVal] using h)
  | panic x => exact D (by intro cs b hh; cases hh) (by simpa [aVal] using h)
  | send x y => exact D (by intro cs b hh; cases hh) (by simpa [aVal] using h)
  | recv t x b => exact D (by intro cs b hh; cases hh) (by simpa [aVal] using h)
end

/-! ### Worlds that have grown -/
structure Same (w w' : World) : Prop where
  os : w'.os = w.os
  tape : w'.tape = w.tape
  output : w'.output = w.output
  drawn : w.drawn ≤ w'.drawn
  size : w.heap.size ≤ w'.heap.size
  block : ∀ b, b < w.heap.size → w'.heap[b]? = w.heap[b]?
theorem Same.alloc (w : World) (o : Obj) : Same w (w.alloc o) := ⟨rfl, rfl, rfl, Nat.le_refl _, by simp, fun b hb => Go.heap_alloc_old w o b hb⟩
theorem Same.drew (w : World) : Same w w.drew := ⟨rfl, rfl, rfl, Nat.le_succ _, by simp, fun b hb => rfl⟩
theorem Same.trans {a b c : World} (h : Same a b) (k : Same b c) : Same a c :=
  ⟨k.os.trans h.os, k.tape.trans h.tape, k.output.trans h.output, Nat.le_trans h.drawn k.drawn, Nat.le_trans h.size k.size, fun i hi => (k.block i (Nat.lt_of_lt_of_le hi h.size)).trans (h.block i hi)⟩

section
variable {B : Nat} {E : Ent} {ρ : Rho} {lam : Nat → Nat} {s : AS} {a : Act} {w w' : World}
theorem HRel.same {h : AHeap} (H : HRel B ρ h w) (S : Same w w') : HRel B ρ h w' := by
  refine ⟨H.wf, Nat.le_trans H.base S.size, fun i blk hb => ?_, H.dom, H.apart⟩
  obtain ⟨r, h1, h2, h3, h4⟩ := H.rows i blk hb
  exact ⟨r, h1, h2.keep (S.block r.b h2.lt) (Rho.le_refl _), h3, h4⟩
theorem Ext.same {h : AHeap} (X : Ext E ρ h w) (S : Same w w') : Ext E ρ h w' :=
  ⟨S.os.trans X.os, S.tape.trans X.tape, S.output.trans X.output, X.le, Nat.le_trans X.drawn S.drawn, Nat.le_trans X.grow S.size,
    fun b hb hn => (S.block b (Nat.lt_of_lt_of_le hb X.grow)).trans (X.keep b hb hn), X.rows⟩
theorem FRel.same (F : FRel B E ρ lam s a w) (S : Same w w') : FRel B E ρ lam s a w' := by
  refine ⟨F.heap.same S, F.ext.same S, F.base, fun k cells hk => ?_, F.size, F.tmps, F.defers⟩
  have L := F.locs k cells hk
  obtain ⟨e, Le⟩ := L.lies
  exact ⟨⟨e, Le.keep (S.block _ Le.lt) (Rho.le_refl _)⟩, L.mine, L.row, L.other⟩

def upd (ρ : Rho) (id g : Nat) (r : Row) : Rho := fun i j => if i = id ∧ j = g then some r else ρ i j
theorem upd_self (ρ : Rho) (id g : Nat) (r : Row) : upd ρ id g r id g = some r := by simp [upd]
theorem upd_le {ρ : Rho} {id g : Nat} {r : Row} (h : ρ id g = none ∨ ρ id g = some r) : ρ.le (upd ρ id g r) := by
  intro i j x hx
  unfold upd
  split
  · rename_i e
    obtain ⟨rfl, rfl⟩ := e
    rcases h with h | h <;> rw [h] at hx <;> cases hx
    rfl
  · exact hx
theorem upd_other {ρ : Rho} {id g : Nat} {r : Row} {i j : Nat} (h : i ≠ id) : upd ρ id g r i j = ρ i j := by
  unfold upd; rw [if_neg (fun e => h e.1)]

theorem liesG_upd {r0 : Row} {g : Nat} {ro : Bool} {cells : List Value} {ρ' : Rho} (h : LiesG ρ w r0 g ro cells) (hl : ρ.le ρ') : LiesG ρ' w r0 g ro cells := h.keep rfl hl
theorem lies_upd {r0 : Row} {ro : Bool} {cells : List Value} {ρ' : Rho} (h : Lies ρ w r0 ro cells) (hl : ρ.le ρ') : Lies ρ' w r0 ro cells := h.keep rfl hl

/-- A new block of the memory. -/
theorem FRel.push (F : FRel B E ρ lam s a w) {r : Row} {g0 : Nat} {cells : List Value} (hL : LiesG ρ w r g0 false cells) (hm : E.w.heap.size ≤ r.b)
    (hrow : ∀ id blk r', s.h.get id = some blk → blk.ro = false → ρ id blk.gen = some r' → r'.b ≠ r.b) (hloc : ∀ k cells, lget s.l k = some cells → lam k ≠ r.b) :
    FRel B E (upd ρ s.h.size g0 r) lam { s with h := s.h.push ⟨cells, g0, false, r.e⟩ } a w ∧ ρ.le (upd ρ s.h.size g0 r) := by
  have hnone : ρ s.h.size g0 = none := by
    cases hx : ρ s.h.size g0 with
    | none => rfl
    | some x =>
      obtain ⟨blk, hb, _⟩ := F.heap.dom _ _ _ hx
      exact absurd (AHeap.lt_of_get hb) (Nat.lt_irrefl _)
  have hle : ρ.le (upd ρ s.h.size g0 r) := upd_le (.inl hnone)
  have hget : ∀ id blk, (s.h.push ⟨cells, g0, false, r.e⟩).get id = some blk → (id = s.h.size ∧ blk = ⟨cells, g0, false, r.e⟩) ∨ (id ≠ s.h.size ∧ s.h.get id = some blk) := by
    intro id blk hb
    rw [AHeap.get_push] at hb
    split at hb
    · rename_i e; exact .inl ⟨e, by cases hb; rfl⟩
    · rename_i e; exact .inr ⟨e, hb⟩
  refine ⟨⟨⟨AHeap.wf_push F.heap.wf _, F.heap.base, ?_, ?_, ?_⟩, ⟨F.ext.os, F.ext.tape, F.ext.output, Rho.le_trans F.ext.le hle, F.ext.drawn, F.ext.grow, F.ext.keep, ?_⟩, F.base, ?_, F.size, fun i v v' h1 h2 => (F.tmps i v v' h1 h2).mono hle, F.defers⟩, hle⟩
  · intro id blk hb
    rcases hget id blk hb with ⟨rfl, rfl⟩ | ⟨hne, hb'⟩
    · exact ⟨r, upd_self _ _ _ _, liesG_upd hL hle, by simp, fun _ => ⟨Nat.le_trans F.base hm, rfl⟩⟩
    · obtain ⟨r', h1, h2, h3, h4⟩ := F.heap.rows id blk hb'
      exact ⟨r', hle _ _ _ h1, liesG_upd h2 hle, h3, h4⟩
  · intro id g r' hr
    unfold upd at hr
    split at hr
    · rename_i e
      obtain ⟨rfl, rfl⟩ := e
      exact ⟨_, AHeap.get_push_new _ _, Nat.le_refl _⟩
    · obtain ⟨blk, hb, hg⟩ := F.heap.dom _ _ _ hr
      exact ⟨blk, by rw [AHeap.get_push_old _ _ (AHeap.lt_of_get hb)]; exact hb, hg⟩
  · intro id blk r1 id' blk' r2 hb hb' ho ho' h1 h2 hne
    rcases hget id blk hb with ⟨rfl, rfl⟩ | ⟨hn, hb1⟩ <;> rcases hget id' blk' hb' with ⟨rfl, rfl⟩ | ⟨hn', hb2⟩
    · exact absurd rfl hne
    · rw [upd_self] at h1; cases h1
      rw [upd_other hn'] at h2
      exact fun e => hrow id' blk' r2 hb2 ho' h2 e.symm
    · rw [upd_self] at h2; cases h2
      rw [upd_other hn] at h1
      exact hrow id blk r1 hb1 ho h1
    · rw [upd_other hn] at h1
      rw [upd_other hn'] at h2
      exact F.heap.apart id blk r1 id' blk' r2 hb1 hb2 ho ho' h1 h2 hne
  · intro id blk r1 hb ho h1 hlt
    rcases hget id blk hb with ⟨rfl, rfl⟩ | ⟨hn, hb1⟩
    · rw [upd_self] at h1; cases h1; omega
    · rw [upd_other hn] at h1
      exact F.ext.rows id blk r1 hb1 ho h1 hlt
  · intro k cs hk
    have L := F.locs k cs hk
    obtain ⟨el, Le⟩ := L.lies
    refine ⟨⟨el, lies_upd Le hle⟩, L.mine, ?_, L.other⟩
    intro id blk r1 hb ho h1
    rcases hget id blk hb with ⟨rfl, rfl⟩ | ⟨hn, hb1⟩
    · rw [upd_self] at h1; cases h1
      exact fun e => hloc k cs hk e.symm
    · rw [upd_other hn] at h1
      exact L.row id blk r1 hb1 ho h1

/-- Another content of a block of the memory, in its place or in a new one. -/
theorem FRel.change (F : FRel B E ρ lam s a w) {id : Nat} {blk : ABlock} (hb : s.h.get id = some blk) (hro : blk.ro = false) {r : Row} (hr : ρ id blk.gen = some r)
    (os : w'.os = w.os) (tape : w'.tape = w.tape) (output : w'.output = w.output) (size0 : w.drawn ≤ w'.drawn ∧ w.heap.size ≤ w'.heap.size) (keep : ∀ b, b < w.heap.size → b ≠ r.b → w'.heap[b]? = w.heap[b]?)
    {g : Nat} (hg : blk.gen ≤ g) {r' : Row} (hr' : r'.b = r.b ∨ w.heap.size ≤ r'.b) (hnew : ρ id g = none ∨ ρ id g = some r') {cells : List Value} (hL : LiesG ρ w' r' g false cells) :
    FRel B E (upd ρ id g r') lam { s with h := s.h.set id ⟨cells, g, false, r'.e⟩ } a w' ∧ ρ.le (upd ρ id g r') := by
  have size := size0.2
  have hle : ρ.le (upd ρ id g r') := upd_le hnew
  have hget : ∀ i b, (s.h.set id ⟨cells, g, false, r'.e⟩).get i = some b → (i = id ∧ b = ⟨cells, g, false, r'.e⟩) ∨ (i ≠ id ∧ s.h.get i = some b) := by
    intro i b hi
    rw [AHeap.get_set _ F.heap.wf _ _ _ hb] at hi
    split at hi
    · rename_i e; exact .inl ⟨e, by cases hi; rfl⟩
    · rename_i e; exact .inr ⟨e, hi⟩
  obtain ⟨r0, g1, g2, g3, g4⟩ := F.heap.rows id blk hb
  rw [hr] at g1; cases g1
  have hBr := (g4 hro).1
  have hrlt := g2.lt
  have hB' : B ≤ r'.b := by rcases hr' with e | e; exact e ▸ hBr; exact Nat.le_trans F.heap.base e
  have others : ∀ i b ri, i ≠ id → s.h.get i = some b → ρ i b.gen = some ri → ri.b ≠ r.b := by
    intro i b ri hne hi hri
    obtain ⟨r1, k1, k2, k3, k4⟩ := F.heap.rows i b hi
    rw [hri] at k1; cases k1
    cases hbo : b.ro with
    | true => have := k3 hbo; omega
    | false => exact F.heap.apart i b ri id blk r hi hb hbo hro hri hr hne
  have othersLt : ∀ i b ri, s.h.get i = some b → ρ i b.gen = some ri → ri.b < w.heap.size := by
    intro i b ri hi hri
    obtain ⟨r1, k1, k2, k3, k4⟩ := F.heap.rows i b hi
    rw [hri] at k1; cases k1
    exact k2.lt
  have sep : ∀ i b ri, i ≠ id → s.h.get i = some b → ρ i b.gen = some ri → ri.b ≠ r'.b := by
    intro i b ri hne hi hri
    rcases hr' with e | e
    · rw [e]; exact others i b ri hne hi hri
    · have := othersLt i b ri hi hri; omega
  refine ⟨⟨⟨AHeap.wf_set F.heap.wf _ _, Nat.le_trans F.heap.base size, ?_, ?_, ?_⟩, ⟨os.trans F.ext.os, tape.trans F.ext.tape, output.trans F.ext.output, Rho.le_trans F.ext.le hle, Nat.le_trans F.ext.drawn size0.1, Nat.le_trans F.ext.grow size, ?_, ?_⟩, F.base, ?_, F.size, fun i v v' h1 h2 => (F.tmps i v v' h1 h2).mono hle, F.defers⟩, hle⟩
  · intro i b hi
    rcases hget i b hi with ⟨rfl, rfl⟩ | ⟨hne, hi'⟩
    · exact ⟨r', upd_self _ _ _ _, liesG_upd hL hle, by simp, fun _ => ⟨hB', rfl⟩⟩
    · obtain ⟨r1, k1, k2, k3, k4⟩ := F.heap.rows i b hi'
      exact ⟨r1, hle _ _ _ k1, k2.keep (keep _ k2.lt (others i b r1 hne hi' k1)) hle, k3, k4⟩
  · intro i j x hx
    unfold upd at hx
    split at hx
    · rename_i e
      obtain ⟨rfl, rfl⟩ := e
      exact ⟨⟨cells, j, false, r'.e⟩, by rw [AHeap.get_set _ F.heap.wf _ _ _ hb, if_pos rfl], Nat.le_refl _⟩
    · obtain ⟨b, hb1, hb2⟩ := F.heap.dom _ _ _ hx
      by_cases hi : i = id
      · subst hi
        rw [hb] at hb1; cases hb1
        exact ⟨⟨cells, g, false, r'.e⟩, by rw [AHeap.get_set _ F.heap.wf _ _ _ hb, if_pos rfl], Nat.le_trans hb2 hg⟩
      · exact ⟨b, by rw [AHeap.get_set _ F.heap.wf _ _ _ hb, if_neg hi]; exact hb1, hb2⟩
  · intro i b r1 i' b' r2 hi hi' ho ho' h1 h2 hne
    rcases hget i b hi with ⟨rfl, rfl⟩ | ⟨hn, hi1⟩ <;> rcases hget i' b' hi' with ⟨rfl, rfl⟩ | ⟨hn', hi2⟩
    · exact absurd rfl hne
    · rw [upd_self] at h1; cases h1
      rw [upd_other hn'] at h2
      exact fun e => sep i' b' r2 hn' hi2 h2 e.symm
    · rw [upd_self] at h2; cases h2
      rw [upd_other hn] at h1
      exact sep i b r1 hn hi1 h1
    · rw [upd_other hn] at h1
      rw [upd_other hn'] at h2
      exact F.heap.apart i b r1 i' b' r2 hi1 hi2 ho ho' h1 h2 hne
  · intro b hlt hno
    have hlt' := Nat.lt_of_lt_of_le hlt F.ext.grow
    have hbr : b ≠ r.b := by
      intro e
      obtain ⟨i0, b0, q0, a1, a2, a3, a4⟩ := F.ext.rows id blk r hb hro hr (e ▸ hlt)
      exact hno i0 b0 q0 a1 a2 a3 (a4.trans e.symm)
    rw [keep b hlt' hbr]
    exact F.ext.keep b hlt hno
  · intro i b r1 hi ho h1 hlt
    rcases hget i b hi with ⟨rfl, rfl⟩ | ⟨hn, hi1⟩
    · rw [upd_self] at h1; cases h1
      rcases hr' with e | e
      · obtain ⟨i0, b0, q0, a1, a2, a3, a4⟩ := F.ext.rows i blk r hb hro hr (e ▸ hlt)
        exact ⟨i0, b0, q0, a1, a2, a3, a4.trans e.symm⟩
      · have := F.ext.grow; omega
    · rw [upd_other hn] at h1
      exact F.ext.rows i b r1 hi1 ho h1 hlt
  · intro k cs hk
    have L := F.locs k cs hk
    have hkr : lam k ≠ r.b := fun e => L.row id blk r hb hro hr e.symm
    obtain ⟨el, Le⟩ := L.lies
    refine ⟨⟨el, Le.keep (keep _ Le.lt hkr) hle⟩, L.mine, ?_, L.other⟩
    intro i b r1 hi ho h1
    rcases hget i b hi with ⟨rfl, rfl⟩ | ⟨hn, hi1⟩
    · rw [upd_self] at h1; cases h1
      rcases hr' with e | e
      · rw [e]; exact fun e2 => hkr e2.symm
      · have := Le.lt; simp only at this; omega
    · rw [upd_other hn] at h1
      exact L.row i b r1 hi1 ho h1

/-- Another content of a box of the frame's own. -/
theorem FRel.box (F : FRel B E ρ lam s a w) {k : Nat} {cells cells' : List Value} (hk : lget s.l k = some cells)
    (os : w'.os = w.os) (tape : w'.tape = w.tape) (output : w'.output = w.output) (size0 : w.drawn ≤ w'.drawn ∧ w.heap.size ≤ w'.heap.size) (keep : ∀ b, b < w.heap.size → b ≠ lam k → w'.heap[b]? = w.heap[b]?)
    {el : TypeId} (hL : Lies ρ w' ⟨lam k, 0, cells'.length, el⟩ false cells') : FRel B E ρ lam { s with l := lset s.l k cells' } a w' := by
  have size := size0.2
  have L := F.locs k cells hk
  refine ⟨⟨F.heap.wf, Nat.le_trans F.heap.base size, ?_, F.heap.dom, F.heap.apart⟩, ⟨os.trans F.ext.os, tape.trans F.ext.tape, output.trans F.ext.output, F.ext.le, Nat.le_trans F.ext.drawn size0.1, Nat.le_trans F.ext.grow size, ?_, F.ext.rows⟩, F.base, ?_, F.size, ?_, F.defers⟩
  · intro i b hi
    obtain ⟨r1, k1, k2, k3, k4⟩ := F.heap.rows i b hi
    have : r1.b ≠ lam k := by
      cases hbo : b.ro with
      | true => have := k3 hbo; have := L.mine; have := F.base; omega
      | false => exact L.row i b r1 hi hbo k1
    exact ⟨r1, k1, k2.keep (keep _ k2.lt this) (Rho.le_refl _), k3, k4⟩
  · intro b hlt hno
    have := L.mine
    rw [keep b (Nat.lt_of_lt_of_le hlt F.ext.grow) (by omega)]
    exact F.ext.keep b hlt hno
  · intro k' cs hk'
    simp only at hk'
    rw [lget_lset] at hk'
    have oth : ∀ k1, k1 ≠ k' → ∀ cs1, lget (lset s.l k cells') k1 = some cs1 → ∃ cs2, lget s.l k1 = some cs2 := by
      intro k1 _ cs1 h1
      rw [lget_lset] at h1
      split at h1
      · rename_i e; exact ⟨cells, e ▸ hk⟩
      · exact ⟨cs1, h1⟩
    split at hk'
    · rename_i e
      subst e
      cases hk'
      refine ⟨⟨el, hL⟩, L.mine, L.row, ?_⟩
      intro k1 cs1 h1 hne
      obtain ⟨cs2, h2⟩ := oth k1 hne cs1 h1
      exact L.other k1 cs2 h2 hne
    · rename_i e
      have L' := F.locs k' cs hk'
      obtain ⟨el', Le'⟩ := L'.lies
      refine ⟨⟨el', Le'.keep (keep _ Le'.lt (fun h => L.other k' cs hk' e h)) (Rho.le_refl _)⟩, L'.mine, L'.row, ?_⟩
      intro k1 cs1 h1 hne
      obtain ⟨cs2, h2⟩ := oth k1 hne cs1 h1
      exact L'.other k1 cs2 h2 hne
  · intro i v v' h1 h2
    have h := F.tmps i v v' h1 h2
    cases h with
    | mem h => exact .mem h
    | loc k0 off h0 => exact .loc k0 off (by rw [lget_lset]; split <;> simp_all)
end
end Go.Proofs.Ytimeninncpmaeaa.Abs
