/-
  New blocks in any place: a block may be made at an id that is free, so that two makers may come in either order.
-/
import Derived.Test.YtimeninncpmaeaaVh
namespace Go.Proofs.Ytimeninncpmaeaa.Abs
open Go
set_option linter.unusedVariables false
set_option linter.unusedSimpArgs false

/-- Where a new block comes to lie: at the end, or in a free place. -/
def alAt (p : Nat) (h : AHeap) (b : ABlock) : Option (Nat × AHeap) := match p with
  | 0 => some (h.size, h.push b)
  | k + 1 => match Nat.blt k h.size, h.get k with
    | true, none => some (k, h.set k b)
    | _, _ => none
theorem AHeap.get_fill (s : AHeap) (hw : s.wf) {id : Nat} (hl : id < s.size) (b : ABlock) (id' : Nat) : (s.set id b).get id' = if id' = id then some b else s.get id' := by
  unfold AHeap.wf at hw
  rcases Nat.lt_or_ge id' s.size with h' | h'
  · rw [AHeap.get_lt (s := s.set id b) h', AHeap.get_lt h']
    show (match (s.blocks.set (s.size - 1 - id) (some b))[s.size - 1 - id']? with | some o => o | none => none) = _
    rw [List.getElem?_set]
    by_cases h0 : id' = id
    · subst h0
      rw [if_pos rfl, if_pos rfl, if_pos (by omega)]
    · rw [if_neg (by omega), if_neg h0]; rfl
  · rw [AHeap.get_ge (s := s.set id b) h', AHeap.get_ge h', if_neg (by omega)]
theorem alAt_get {p : Nat} {h h' : AHeap} {b : ABlock} {id : Nat} (hw : h.wf) (e : alAt p h b = some (id, h')) :
    h'.wf ∧ h.get id = none ∧ (∀ i, h'.get i = if i = id then some b else h.get i) := by
  unfold alAt at e
  split at e
  · cases e
    exact ⟨AHeap.wf_push hw _, AHeap.get_ge (Nat.le_refl _), fun i => AHeap.get_push _ _ i⟩
  · rename_i k
    split at e
    · rename_i h1 h2
      cases e
      exact ⟨AHeap.wf_set hw _ _, h2, fun i => AHeap.get_fill h hw (by simpa [Nat.blt_eq] using h1) b i⟩
    · cases e
/-- Places that are kept free for what comes later. -/
def AHeap.rsv (h : AHeap) (r : Nat) : AHeap := ⟨h.size + r, List.replicate r none ++ h.blocks⟩
theorem AHeap.rsv_get (h : AHeap) (r id : Nat) : (h.rsv r).get id = h.get id := by
  rcases Nat.lt_or_ge id h.size with h' | h'
  · rw [AHeap.get_lt (s := h.rsv r) (by simp [AHeap.rsv]; omega), AHeap.get_lt h']
    show (match (List.replicate r none ++ h.blocks)[h.size + r - 1 - id]? with | some o => o | none => none) = _
    rw [List.getElem?_append_right (by simp; omega), List.length_replicate, show h.size + r - 1 - id - r = h.size - 1 - id by omega]; rfl
  · rw [AHeap.get_ge h']
    rcases Nat.lt_or_ge id (h.size + r) with h2 | h2
    · rw [AHeap.get_lt (s := h.rsv r) h2]
      show (match (List.replicate r none ++ h.blocks)[h.size + r - 1 - id]? with | some o => o | none => none) = _
      rw [List.getElem?_append_left (by simp; omega), List.getElem?_replicate, if_pos (by omega)]
    · exact AHeap.get_ge h2
theorem AHeap.rsv_wf {h : AHeap} (hw : h.wf) (r : Nat) : (h.rsv r).wf := by
  unfold AHeap.wf AHeap.rsv at *; simp; omega
theorem AHeap.rsv_rsv (h : AHeap) (r r' : Nat) : (h.rsv r).rsv r' = h.rsv (r + r') := by
  unfold AHeap.rsv
  simp only [← List.append_assoc, List.replicate_append_replicate]
  rw [Nat.add_comm r' r, Nat.add_assoc]
theorem AHeap.rsv_set (h : AHeap) (r : Nat) {n : Nat} (hn : n < h.size) (b : ABlock) : (h.set n b).rsv r = (h.rsv r).set n b := by
  unfold AHeap.rsv AHeap.set
  simp only
  rw [List.set_append_right _ _ (by simp; omega), List.length_replicate, show h.size + r - 1 - n - r = h.size - 1 - n by omega]
/-- What a maker makes: a block, and the slice's length and its elements' size. -/
def mkOf (P : Program) (o : Oper) (tt : List Value) : Option (ABlock × Nat × Nat) := match o.op with
  | .makeSlice t l c => match aev tt l, aev tt c with
    | .int _ l, .int _ c => match P.underlying t with
      | some (.slice e) => match P.info? e, aZero P e with
        | some i, some z => match decide (0 ≤ l) && (decide (l ≤ c) && (decide (c * (i.bytes : Int) ≤ 140737488351232) && (decide (c ≤ 140737488351232) && (z.cells.toList.all (·.oneCell') && (Nat.beq z.cells.size i.size && Nat.ble 1 i.size))))) with
          | true => some (⟨zeros z.cells.toList i.size l.toNat, 0, false, e⟩, l.toNat, i.size)
          | false => none
        | _, _ => none
      | _ => none
    | _, _ => none
  | .buildSlice t len parts => match P.underlying t with
    | some (.slice e) => match sizeT P e, aZero P e with
      | some n, some z => match (parts.map fun (i, x) => (i, aev tt x)).toList.all (fun p => okPart p.2) && (Nat.beq z.cells.size n && (Nat.ble 1 n && Nat.ble (len * n) 1000000)) with
        | true => match Instr.fill (fun i => some (i * n, n)) (zeros z.cells.toList n len).toArray (parts.map fun (i, x) => (i, aev tt x)).toList with
          | some cells => match cells.toList.all (·.oneCell') with
            | true => some (⟨cells.toList, 0, false, e⟩, len, n)
            | false => none
          | none => none
        | false => none
      | _, _ => none
    | _ => none
  | _ => none
def isMk (o : Oper) : Bool := match o.op with
  | .makeSlice .. => true
  | .buildSlice .. => true
  | _ => false
def aMkAt (P : Program) (o : Oper) (p : Nat) (s : AS) : Option AS := match mkOf P o s.t with
  | some (b, n, z) => match alAt p s.h b with
    | some (id, h') => some ⟨tput s.t o.dst (.slice (some ⟨id, 0, some 0⟩) n z), s.l, h'⟩
    | none => none
  | none => none

section
variable {P : Program} {B : Nat} {E : Ent} {ρ : Rho} {lam : Nat → Nat} {s : AS} {a : Act} {w : World} {ops : Array Oper} {L : List Nat}

theorem mkOf_congr {o : Oper} {t t' : List Value} (h : ∀ x ∈ o.op.operands, aev t x = aev t' x) : mkOf P o t = mkOf P o t' := by
  unfold mkOf
  split
  · rename_i ty l c hop
    rw [h l (by rw [hop]; simp [Op.operands]), h c (by rw [hop]; simp [Op.operands])]
  · rename_i ty len parts hop
    have hp : (parts.map fun (i, x) => (i, aev t x)) = (parts.map fun (i, x) => (i, aev t' x)) :=
      Array.map_congr_left fun p hp => by
        obtain ⟨i, x⟩ := p
        simp only [h x (by rw [hop]; simp [Op.operands]; exact ⟨i, hp⟩)]
    rw [hp]
  · rfl
/-- A maker's own step is that of the first place. -/
theorem mk_step {o : Oper} {s1 : AS} (hm : isMk o = true) (h : aMem P L o s = some s1) : ∃ b n z, mkOf P o s.t = some (b, n, z) ∧ s1 = ⟨tput s.t o.dst (.slice (some ⟨s.h.size, 0, some 0⟩) n z), s.l, s.h.push b⟩ := by
  unfold isMk at hm
  unfold aMem at h
  unfold mkOf
  split at hm
  · rename_i t l c hop
    simp only [hop] at h ⊢
    unfold aMake at h
    split at h
    · rename_i kl ln kc cn e1 e2
      simp only [e1, e2]
      split at h
      · rename_i e hu
        simp only [hu]
        split at h
        · rename_i i z hi hz
          simp only [hi, hz]
          split at h
          · rename_i hc
            simp only [hc]
            cases h
            exact ⟨_, _, _, rfl, put_eq _ _ _⟩
          · cases h
        · cases h
      · cases h
    · cases h
  · rename_i t len parts hop
    simp only [hop] at h ⊢
    unfold aBuildSlice at h
    split at h
    · rename_i e hu
      simp only [hu]
      split at h
      · rename_i n z hn hz
        simp only [hn, hz]
        split at h
        · rename_i hc
          simp only [hc]
          split at h
          · rename_i cells hf
            simp only [hf]
            split at h
            · rename_i ho
              simp only [ho]
              cases h
              exact ⟨_, _, _, rfl, put_eq _ _ _⟩
            · cases h
          · cases h
        · cases h
      · cases h
    · cases h
  · cases hm
theorem mk_kind {o : Oper} (hm : isMk o = true) : memKind o = true ∧ opKind o = 4 := by
  unfold isMk at hm
  split at hm
  · rename_i hop; simp [memKind, opKind, hop]
  · rename_i hop; simp [memKind, opKind, hop]
  · cases hm

theorem FRel.place (F : FRel B E ρ lam s a w) {r : Row} {g0 id : Nat} {cells : List Value} {h' : AHeap} (hw : h'.wf) (hfree : s.h.get id = none) (hat : ∀ i, h'.get i = if i = id then some ⟨cells, g0, false, r.e⟩ else s.h.get i) (hL : LiesG ρ w r g0 false cells) (hm : E.w.heap.size ≤ r.b)
    (hrow : ∀ id blk r', s.h.get id = some blk → blk.ro = false → ρ id blk.gen = some r' → r'.b ≠ r.b) (hloc : ∀ k cells, lget s.l k = some cells → lam k ≠ r.b) :
    FRel B E (upd ρ id g0 r) lam { s with h := h' } a w ∧ ρ.le (upd ρ id g0 r) := by
  have hnone : ρ id g0 = none := by
    cases hx : ρ id g0 with
    | none => rfl
    | some x =>
      obtain ⟨blk, hb, _⟩ := F.heap.dom _ _ _ hx
      rw [hfree] at hb; cases hb
  have hle : ρ.le (upd ρ id g0 r) := upd_le (.inl hnone)
  have hself : h'.get id = some ⟨cells, g0, false, r.e⟩ := by rw [hat, if_pos rfl]
  have hget : ∀ id' blk, h'.get id' = some blk → (id' = id ∧ blk = ⟨cells, g0, false, r.e⟩) ∨ (id' ≠ id ∧ s.h.get id' = some blk) := by
    intro id' blk hb
    rw [hat] at hb
    split at hb
    · rename_i e; exact .inl ⟨e, by cases hb; rfl⟩
    · rename_i e; exact .inr ⟨e, hb⟩
  refine ⟨⟨⟨hw, F.heap.base, ?_, ?_, ?_⟩, ⟨F.ext.os, F.ext.tape, F.ext.output, Rho.le_trans F.ext.le hle, F.ext.drawn, F.ext.grow, F.ext.keep, ?_⟩, F.base, ?_, F.size, fun i v v' h1 h2 => (F.tmps i v v' h1 h2).mono hle, F.defers⟩, hle⟩
  · intro id' blk hb
    rcases hget id' blk hb with ⟨rfl, rfl⟩ | ⟨hne, hb'⟩
    · exact ⟨r, upd_self _ _ _ _, liesG_upd hL hle, by simp, fun _ => ⟨Nat.le_trans F.base hm, rfl⟩⟩
    · obtain ⟨r', h1, h2, h3, h4⟩ := F.heap.rows id' blk hb'
      exact ⟨r', hle _ _ _ h1, liesG_upd h2 hle, h3, h4⟩
  · intro id' g r' hr
    unfold upd at hr
    split at hr
    · rename_i e
      obtain ⟨rfl, rfl⟩ := e
      exact ⟨_, hself, Nat.le_refl _⟩
    · obtain ⟨blk, hb, hg⟩ := F.heap.dom _ _ _ hr
      refine ⟨blk, ?_, hg⟩
      rw [hat, if_neg (fun e => by rw [e, hfree] at hb; cases hb)]; exact hb
  · intro id1 blk r1 id2 blk' r2 hb hb' ho ho' h1 h2 hne
    rcases hget id1 blk hb with ⟨rfl, rfl⟩ | ⟨hn, hb1⟩ <;> rcases hget id2 blk' hb' with ⟨rfl, rfl⟩ | ⟨hn', hb2⟩
    · exact absurd rfl hne
    · rw [upd_self] at h1; cases h1
      rw [upd_other hn'] at h2
      exact fun e => hrow id2 blk' r2 hb2 ho' h2 e.symm
    · rw [upd_self] at h2; cases h2
      rw [upd_other hn] at h1
      exact hrow id1 blk r1 hb1 ho h1
    · rw [upd_other hn] at h1
      rw [upd_other hn'] at h2
      exact F.heap.apart id1 blk r1 id2 blk' r2 hb1 hb2 ho ho' h1 h2 hne
  · intro id1 blk r1 hb ho h1 hlt
    rcases hget id1 blk hb with ⟨rfl, rfl⟩ | ⟨hn, hb1⟩
    · rw [upd_self] at h1; cases h1; omega
    · rw [upd_other hn] at h1
      exact F.ext.rows id1 blk r1 hb1 ho h1 hlt
  · intro k cs hk
    have L := F.locs k cs hk
    obtain ⟨el, Le⟩ := L.lies
    refine ⟨⟨el, lies_upd Le hle⟩, L.mine, ?_, L.other⟩
    intro id1 blk r1 hb ho h1
    rcases hget id1 blk hb with ⟨rfl, rfl⟩ | ⟨hn, hb1⟩
    · rw [upd_self] at h1; cases h1
      exact fun e => hloc k cs hk e.symm
    · rw [upd_other hn] at h1
      exact L.row id1 blk r1 hb1 ho h1
/-- Nothing is said of the places that are free. -/
theorem FRel.rsv (F : FRel B E ρ lam s a w) (r : Nat) : FRel B E ρ lam ⟨s.t, s.l, s.h.rsv r⟩ a w := by
  have g := AHeap.rsv_get s.h r
  refine ⟨⟨AHeap.rsv_wf F.heap.wf r, F.heap.base, ?_, ?_, ?_⟩, ⟨F.ext.os, F.ext.tape, F.ext.output, F.ext.le, F.ext.drawn, F.ext.grow, F.ext.keep, ?_⟩, F.base, ?_, F.size, F.tmps, F.defers⟩
  · intro id blk h1; rw [g] at h1; exact F.heap.rows id blk h1
  · intro id g' r' h1; obtain ⟨blk, h2, h3⟩ := F.heap.dom id g' r' h1; exact ⟨blk, by rw [g]; exact h2, h3⟩
  · intro id blk r1 id' blk' r2 h1 h2; rw [g] at h1 h2; exact F.heap.apart id blk r1 id' blk' r2 h1 h2
  · intro id blk r1 h1; rw [g] at h1; exact F.ext.rows id blk r1 h1
  · intro k cells hk
    have L := F.locs k cells hk
    refine ⟨L.lies, L.mine, ?_, L.other⟩
    intro id blk r1 h1; rw [g] at h1; exact L.row id blk r1 h1
theorem FRel.newAt (F : FRel B E ρ lam s a w) {w' : World} (S : Same w w') {r : Row} {cells : List Value} {p id : Nat} {h' : AHeap} (hal : alAt p s.h ⟨cells, 0, false, r.e⟩ = some (id, h')) (hr : w.heap.size ≤ r.b) (hL : Lies ρ w' r false cells) :
    FRel B E (upd ρ id 0 r) lam { s with h := h' } a w' ∧ ρ.le (upd ρ id 0 r) := by
  obtain ⟨q1, q2, q3⟩ := alAt_get F.heap.wf hal
  refine (F.same S).place q1 q2 q3 (LiesG.of hL rfl) (Nat.le_trans F.ext.grow hr) ?_ ?_
  · intro id blk r' h1 h2 h3
    obtain ⟨r1, k1, k2, _⟩ := F.heap.rows id blk h1
    rw [h3] at k1; cases k1
    have := k2.lt; omega
  · intro k cs hk
    obtain ⟨e, L⟩ := (F.locs k cs hk).lies
    have := L.lt; simp only at this; omega
theorem mkAt_put {o : Oper} {h' : AHeap} {v : Value} : (⟨tput s.t o.dst v, s.l, h'⟩ : AS) = ({ s with h := h' } : AS).put o.dst v := by rw [put_eq]
theorem aMkAt_sound (F : FRel B E ρ lam s a w) {o : Oper} {p : Nat} {s' : AS} (h : aMkAt P o p s = some s') : Left P B E o a w s' := by
  obtain ⟨dst, op, type, pos, after, guard⟩ := o
  unfold aMkAt at h
  split at h
  · rename_i blk nn zz hmk
    split at h
    · rename_i id h' hal
      cases h
      rw [mkAt_put]
      unfold mkOf at hmk
      simp only at hmk
      split at hmk
      · rename_i t l c
        split at hmk
        · rename_i kl ln kc cn hx1 hx2
          have e1 := (F.eval l); rw [hx1] at e1
          have e1 := e1.plain_eq (n := 0) rfl
          have e2 := (F.eval c); rw [hx2] at e2
          have e2 := e2.plain_eq (n := 0) rfl
          split at hmk
          · rename_i e hu
            split at hmk
            · rename_i i z hi hz
              split at hmk
              · rename_i hcnd
                cases hmk
                simp only [Bool.and_eq_true, decide_eq_true_eq] at hcnd
                obtain ⟨c1, c2, c3, c4, c5, c6, c7⟩ := hcnd
                have c6' := Nat.eq_of_beq_eq_true c6
                have c7' := Nat.le_of_ble_eq_true c7
                have hzr := CRel.of_arr (zero_rel (ρ := ρ) hz)
                have hzz : i.zero = some z := by
                  have := (aZero_spec hz).1 w
                  unfold zeroValue typeInfo at this
                  simp only [Sem.run_bind, run_program, Result.andThen_ok, hi, Sem.run_pure] at this
                  cases hq : i.zero with
                  | none => rw [hq] at this; cases this
                  | some zz => rw [hq] at this; cases this; rfl
                have hr := run_make (P := P) w t e i z hu hi hzz kl kc ln cn c1 c2 (by rw [Int.mul_comm]; omega) (by omega)
                have hlz : z.cells.toList.length = i.size := by simpa using c6'
                obtain ⟨rest, hrest⟩ := zeros_take z.cells.toList i.size hlz ln.toNat cn.toNat (by omega)
                have hm : madeCells z.cells (cn.toNat * i.size) = (zeros z.cells.toList i.size ln.toNat ++ rest).toArray := by
                  rw [← hrest]; exact made_eq z.cells i.size cn.toNat c6' c7'
                rw [hm] at hr
                have hL := lies_new (w := w) (el := e) (zeros_rel (n := i.size) hzr ln.toNat) (zeros_one i.size c5 ln.toNat) (rest := rest) _ rfl
                obtain ⟨F1, _⟩ := F.newAt (Same.alloc w _) (r := ⟨w.heap.size, 0, _, e⟩) hal (Nat.le_refl _) hL
                have hlen : (zeros z.cells.toList i.size ln.toNat).length + rest.length = cn.toNat * i.size := by
                  rw [← List.length_append, ← hrest]; exact zeros_length _ _ hlz _
                rw [← e1, ← e2] at hr
                refine ⟨.value _, _, _, lam, _, (by simp only [execOp, Sem.run_bind, hr, Result.andThen_ok, Sem.run_pure]; rfl), .inl rfl, F1.put dst (.mem ?_)⟩
                exact VRel.slice id 0 0 _ ln.toNat i.size 0 cn.toNat (upd_self _ _ _ _) (by omega) (.inr rfl) (fun _ => ⟨rfl, hlen.symm, by simp only [maxLen]; omega⟩) rfl
              · cases hmk
            · cases hmk
          · cases hmk
        · cases hmk
      · rename_i t len parts
        split at hmk
        · rename_i e hu
          split at hmk
          · rename_i n z hn hz
            split at hmk
            · rename_i hcnd
              simp only [Bool.and_eq_true] at hcnd
              obtain ⟨c1, c2, c3, c4⟩ := hcnd
              have c2' := Nat.eq_of_beq_eq_true c2
              have c3' := Nat.le_of_ble_eq_true c3
              have c4' := Nat.le_of_ble_eq_true c4
              have hlz : z.cells.toList.length = n := by simpa using c2'
              have hp : ∀ (i : Nat) p p', (parts.map fun (i, x) => (i, aev s.t x))[i]? = some p → (parts.map fun (i, x) => (i, a.eval x))[i]? = some p' → p.1 = p'.1 ∧ TRel s.l lam ρ p.2 p'.2 := by
                intro i p p' hp hp'
                rw [Array.getElem?_map] at hp hp'
                cases hq : parts[i]? with
                | none => rw [hq] at hp; cases hp
                | some q =>
                  rw [hq] at hp hp'
                  simp only [Option.map_some, Option.some.injEq] at hp hp'
                  subst hp; subst hp'
                  exact ⟨rfl, F.eval q.2⟩
              have hs : (parts.map fun (i, x) => (i, aev s.t x)).size = (parts.map fun (i, x) => (i, a.eval x)).size := by simp
              generalize hps : (parts.map fun (i, x) => (i, aev s.t x)) = ps at *
              generalize hps' : (parts.map fun (i, x) => (i, a.eval x)) = ps' at *
              split at hmk
              · rename_i cells hf
                split at hmk
                · rename_i ho
                  simp only [Option.some.injEq, Prod.mk.injEq] at hmk
                  obtain ⟨m1, m2, m3⟩ := hmk
                  subst m1; subst m2; subst m3
                  have hzr := CRel.of_arr (zero_rel (ρ := ρ) hz)
                  have hzs := zeros_rel (n := n) hzr len
                  have hpp : ∀ (i : Nat) p p', ps.toList[i]? = some p → ps'.toList[i]? = some p' → p.1 = p'.1 ∧ VRel ρ p.2 p'.2 ∧ isTup p.2 = false := by
                    intro i p p' h1 h2
                    obtain ⟨k1, k2⟩ := hp i p p' (by simpa using h1) (by simpa using h2)
                    rw [List.all_eq_true] at c1
                    have hk := c1 p (List.mem_of_getElem? h1)
                    exact ⟨k1, k2.vrel (okPart_loc hk), okPart_tup hk⟩
                  obtain ⟨out', f1, f2⟩ := fill_rel (ρ := ρ) _ ps.toList ps'.toList _ _ cells (by simpa using hs) hpp (⟨by simp, fun i v v' h1 h2 => hzs.2 i v v' (by simpa using h1) (by simpa using h2)⟩ : RelA ρ (zeros z.cells.toList n len).toArray (zeros z.cells.toList n len).toArray) hf
                  have hsz : cells.size = len * n := by
                    have key : ∀ (qs : List (Nat × Value)) (c out : Array Value), Instr.fill (fun i => some (i * n, n)) c qs = some out → out.size = c.size := by
                      intro qs
                      induction qs with
                      | nil => intro c out h; simp only [Instr.fill, Option.some.injEq] at h; rw [h]
                      | cons q qs ih =>
                        intro c out h
                        obtain ⟨qi, qv⟩ := q
                        simp only [Instr.fill] at h
                        split at h
                        · cases h
                        · rw [ih _ _ h, fold_arr, fold_size]
                    rw [key _ _ _ hf]
                    simp [zeros_length _ _ hlz]
                  have hrun : (Instr.buildSlice t len ps').run P w = .ok (.slice (some ⟨w.heap.size, 0, none⟩) len len) (w.alloc (.cells out' e)) := by
                    have hno : ¬ (16777216 < len * n) := by omega
                    by_cases h0 : len * n = 0
                    · have hl0 : len = 0 := by rcases Nat.mul_eq_zero.1 h0 with h | h; exact h; omega
                      subst hl0
                      have f1' : Instr.fill (fun i => some (i * n, n)) (Array.map (fun x => (default : Value)) (Array.range 0)) ps'.toList = some out' := by
                        rw [show Array.map (fun x => (default : Value)) (Array.range 0) = (zeros z.cells.toList n 0).toArray by simp [zeros]]; exact f1
                      simp [Instr.buildSlice, run_underlying hu, run_sizeT hn, newRow, f1']
                    · have hm := made_eq z.cells n len c2' c3'
                      simp only [c2'] at hm
                      simp [Instr.buildSlice, run_underlying hu, run_sizeT hn, newRow, hno, h0, (aZero_spec hz).1, c2', hm, f1]
                  have hcr : CRel ρ cells.toList out'.toList := CRel.of_arr f2
                  have hL := lies_new (w := w) (el := e) hcr ho (rest := []) _ rfl
                  simp only [List.append_nil, Array.toArray_toList] at hL
                  obtain ⟨F1, _⟩ := F.newAt (Same.alloc w _) (r := ⟨w.heap.size, 0, _, e⟩) hal (Nat.le_refl _) hL
                  have hlen : out'.toList.length + ([] : List Value).length = len * n := by
                    have := f2.1; simp; omega
                  refine ⟨.value _, _, _, lam, _, (by simp only [execOp, hps', Sem.run_bind, hrun, Result.andThen_ok, Sem.run_pure]; rfl), .inl rfl, F1.put dst (.mem ?_)⟩
                  exact VRel.slice id 0 0 _ len n 0 len (upd_self _ _ _ _) (Nat.le_refl _) (.inr rfl) (fun _ => ⟨rfl, hlen.symm, by simp only [maxLen]; have := Nat.le_mul_of_pos_right len c3'; omega⟩) rfl
                · cases hmk
              · cases hmk
            · cases hmk
          · cases hmk
        · cases hmk
      · cases hmk
    · cases h
  · cases h
end
end Go.Proofs.Ytimeninncpmaeaa.Abs
