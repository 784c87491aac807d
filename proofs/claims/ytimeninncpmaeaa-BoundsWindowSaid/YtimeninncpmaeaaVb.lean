/-
  Operations that leave the memory alone, on abstract states: what they yield, and that the model's yield reads so.
-/
import Derived.Test.YtimeninncpmaeaaVa
namespace Go.Proofs.Ytimeninncpmaeaa.Abs
open Go
set_option linter.unusedVariables false
set_option linter.unusedSimpArgs false

def pureRun {α : Type} (P : Program) : Sem α → Option α
  | .pure a => some a
  | .program k => pureRun P (k P)
  | _ => none
theorem pureRun_run {α : Type} {P : Program} {s : Sem α} {a : α} (h : pureRun P s = some a) (w : World) : s.run P w = .ok a w := by
  induction s with
  | pure b => simp only [pureRun, Option.some.injEq] at h; subst h; rfl
  | program k ih => simp only [pureRun] at h; simp only [Sem.run]; exact ih P h
  | _ => simp [pureRun] at h
theorem pureRun_bind {α β : Type} {P : Program} {s : Sem α} {f : α → Sem β} : pureRun P (s >>= f) = (pureRun P s).bind fun a => pureRun P (f a) := by
  show pureRun P (s.bind f) = _
  induction s with
  | pure a => rfl
  | program k ih => simp only [pureRun, Sem.bind]; exact ih P
  | _ => rfl

def isAggT (P : Program) (t : TypeId) : Option Bool :=
  match P.underlying t with
  | some (.struct _) => some true
  | some (.array _ _) => some true
  | some _ => some false
  | none => none
def sizeT (P : Program) (t : TypeId) : Option Nat :=
  match P.info? t with
  | some i => some i.size
  | none => none
theorem run_isAggT {P : Program} {t : TypeId} {b : Bool} (h : isAggT P t = some b) (w : World) : (isAgg t).run P w = .ok b w := by
  unfold isAggT at h
  unfold isAgg
  split at h <;> simp_all [run_underlying]
theorem run_sizeT {P : Program} {t : TypeId} {n : Nat} (h : sizeT P t = some n) (w : World) : (sizeOf t).run P w = .ok n w := by
  unfold sizeT at h
  split at h
  · rename_i i hi
    cases h
    simp [sizeOf, typeInfo, hi]
  · cases h

def readCells (P : Program) (t : TypeId) (cells : List Value) (off : Nat) : Option Value :=
  match isAggT P t with
  | some true => match sizeT P t with
    | some n => match Nat.ble (off + n) cells.length with
      | true => some (.agg ((cells.drop off).take n).toArray)
      | false => none
    | none => none
  | some false => cells[off]?
  | none => none

theorem Lies.cell {ρ : Rho} {w : World} {r : Row} {ro : Bool} {cells : List Value} (h : Lies ρ w r ro cells) {i : Nat} {v : Value} (hv : cells[i]? = some v) :
    v.oneCell' = true ∧ ∃ v', w.cell? ⟨r.b, r.o + i, none⟩ = some v' ∧ VRel ρ v v' := by
  obtain ⟨cur, e, fz, h1, h2, h3, h4⟩ := h
  obtain ⟨h5, v', h6, h7⟩ := h4 i v hv
  exact ⟨h5, v', by simp [World.cell?, h1, h6], h7⟩

theorem add_at (b o j : Nat) : (⟨b, o, none⟩ : Addr).add j = ⟨b, o + j, none⟩ := by
  unfold Addr.add; split <;> simp_all

theorem read_sound {P : Program} {ρ : Rho} {w : World} {r : Row} {ro : Bool} {cells : List Value} (h : Lies ρ w r ro cells) {t : TypeId} {off : Nat} {v : Value} (hv : readCells P t cells off = some v) :
    ∃ v', (loadVar t ⟨r.b, r.o + off, none⟩).run P w = .ok v' w ∧ VRel ρ v v' := by
  unfold readCells at hv
  split at hv
  · rename_i ha
    split at hv
    · rename_i n hn
      split at hv
      · rename_i hb
        have hle := Nat.le_of_ble_eq_true hb
        cases hv
        have key : ∀ j, j < n → ∃ v', w.cell? ((⟨r.b, r.o + off, none⟩ : Addr).add j) = some v' ∧ ∀ v, cells[off + j]? = some v → VRel ρ v v' := by
          intro j hj
          have hlt : off + j < cells.length := by omega
          obtain ⟨_, v', h1, h2⟩ := h.cell (i := off + j) (v := cells[off + j]) (by simp [hlt])
          refine ⟨v', by rw [add_at, Nat.add_assoc]; exact h1, fun v hv => ?_⟩
          simp [hlt] at hv
          exact hv ▸ h2
        let f : Nat → Value := fun j => (w.cell? ((⟨r.b, r.o + off, none⟩ : Addr).add j)).getD undef
        have hf : ∀ j, j < n → w.cell? ((⟨r.b, r.o + off, none⟩ : Addr).add j) = some (f j) := by
          intro j hj
          obtain ⟨v', h1, _⟩ := key j hj
          simp [f, h1]
        refine ⟨.agg ((List.range n).map f).toArray, ?_, ?_⟩
        · simp [loadVar, run_isAggT ha, run_sizeT hn, run_loadCells w _ n f hf]
        · refine .agg _ _ (by simp; omega) ?_
          intro i v v' hv hv'
          simp only [List.getElem?_toArray] at hv hv'
          rw [List.getElem?_map] at hv'
          by_cases hi : i < n
          · obtain ⟨u, h1, h2⟩ := key i hi
            have e1 : v' = u := by
              rw [List.getElem?_range hi] at hv'
              simp only [Option.map_some, Option.some.injEq] at hv'
              rw [← hv']; simp only [f]; rw [h1]; rfl
            rw [e1]
            refine h2 v ?_
            rw [List.getElem?_take, if_pos hi, List.getElem?_drop] at hv
            exact hv
          · rw [List.getElem?_eq_none (by simp; omega)] at hv'
            cases hv'
      · cases hv
    · cases hv
  · rename_i ha
    obtain ⟨_, v', h1, h2⟩ := h.cell hv
    exact ⟨v', by simp [loadVar, run_isAggT ha, Nat.add_assoc, h1], h2⟩
  · cases hv

def isTup : Value → Bool
  | .tuple _ => true
  | _ => false
def noLoc : Option Value → Option Value
  | some v => match isLoc v with
    | true => none
    | false => some v
  | none => none
theorem noLoc_some {o : Option Value} {v : Value} (h : noLoc o = some v) : o = some v ∧ isLoc v = false := by
  cases o with
  | none => cases h
  | some u =>
    simp only [noLoc] at h
    split at h
    · cases h
    · cases h; exact ⟨rfl, by assumption⟩
def aLoad (P : Program) (t : TypeId) (s : AS) : Value → Option Value
  | .pointer (some ⟨k, off, none⟩) => match lget s.l k with
    | some cells => noLoc (readCells P t cells off)
    | none => none
  | .pointer (some ⟨id, off, some g⟩) => match s.h.get id with
    | some blk => match Nat.beq g blk.gen with
      | true => noLoc (readCells P t blk.cells off)
      | false => none
    | none => none
  | _ => none

theorem aLoad_sound {P : Program} {B : Nat} {E : Ent} {ρ : Rho} {lam : Nat → Nat} {s : AS} {a : Act} {w : World} (F : FRel B E ρ lam s a w) {t : TypeId} {x x' v : Value} (hx : TRel s.l lam ρ x x')
    (h : aLoad P t s x = some v) : ∃ v', (Instr.loadAt t x').run P w = .ok v' w ∧ VRel ρ v v' := by
  unfold aLoad at h
  split at h
  · rename_i k off
    split at h
    · rename_i cells hc
      obtain ⟨_, L⟩ := (F.locs k cells hc).lies
      cases hx with
      | mem hv => cases hv
      | loc =>
        obtain ⟨v', h1, h2⟩ := read_sound (P := P) L (noLoc_some h).1
        refine ⟨v', ?_, h2⟩
        simp only [Nat.zero_add] at h1
        simpa [Instr.loadAt, Instr.sureAddr] using h1
    · cases h
  · rename_i id off g
    split at h
    · rename_i blk hb
      split at h
      · rename_i hg
        have hg' := Nat.eq_of_beq_eq_true hg
        subst hg'
        obtain ⟨r, hr, L, _⟩ := F.heap.rows id blk hb
        cases hx with
        | mem hv =>
          cases hv with
          | ptr _ _ _ r' hr' hg2 =>
            rw [hr] at hr'; cases hr'
            obtain ⟨v', h1, h2⟩ := read_sound (P := P) (L.cells hg2) (noLoc_some h).1
            exact ⟨v', by simpa [Instr.loadAt, Instr.sureAddr] using h1, h2⟩
      · cases h
    · cases h
  · cases h

/-! ### Parts of structs and arrays -/
theorem pureRun_isAgg {P : Program} {t : TypeId} {b : Bool} (h : pureRun P (isAgg t) = some b) : isAggT P t = some b := by
  simp only [isAgg, underlying, program, bind, Sem.bind, pureRun] at h
  unfold isAggT
  cases hu : P.underlying t with
  | none => simp [hu, stuck, Sem.bind, pureRun] at h
  | some d => cases d <;> simp_all [pure, Sem.bind, pureRun]

theorem part_sound {P : Program} {ρ : Rho} {t : TypeId} {cs cs' : Array Value} {off : Nat} {v : Value} (h : pureRun P (part t cs off) = some v) (hs : cs.size = cs'.size)
    (hr : ∀ (i : Nat) v v', cs[i]? = some v → cs'[i]? = some v' → VRel ρ v v') : ∃ v', (∀ w, (part t cs' off).run P w = .ok v' w) ∧ VRel ρ v v' := by
  unfold part at h ⊢
  rw [pureRun_bind] at h
  cases ha : pureRun P (isAgg t) with
  | none => rw [ha] at h; cases h
  | some b =>
    rw [ha] at h
    have ha' := run_isAggT (pureRun_isAgg ha)
    cases b with
    | true =>
      simp only [Option.bind_some, if_true, pureRun_bind] at h
      cases hn : pureRun P (sizeOf t) with
      | none => rw [hn] at h; cases h
      | some n =>
        rw [hn] at h
        simp only [Option.bind_some] at h
        cases h
        refine ⟨.agg (cs'.extract off (off + n)), fun w => by simp [ha', pureRun_run hn], .agg _ _ (by simp [hs]) ?_⟩
        intro i v v' hv hv'
        rw [Array.getElem?_extract] at hv hv'
        split at hv
        · rename_i hlt
          rw [if_pos (by rw [← hs]; exact hlt)] at hv'
          exact hr _ _ _ hv hv'
        · cases hv
    | false =>
      simp only [Option.bind_some, Bool.false_eq_true, if_false] at h
      cases hc : cs[off]? with
      | none => rw [hc] at h; cases h
      | some u =>
        rw [hc] at h
        cases h
        have hlt : off < cs'.size := by rw [← hs]; exact (Array.getElem?_eq_some_iff.1 hc).1
        refine ⟨cs'[off], fun w => by simp [ha', hlt], hr off _ _ hc (by simp [hlt])⟩

/-! ### Building -/
def RelA (ρ : Rho) (c c' : Array Value) : Prop := c.size = c'.size ∧ ∀ (i : Nat) v v', c[i]? = some v → c'[i]? = some v' → VRel ρ v v'
theorem VRel.cells {ρ : Rho} {v v' : Value} (h : VRel ρ v v') (hn : isTup v = false) : RelA ρ v.cells v'.cells := by
  have one : ∀ u u', VRel ρ u u' → RelA ρ #[u] #[u'] := by
    intro u u' hu
    refine ⟨rfl, fun i x x' hx hx' => ?_⟩
    cases i with
    | zero => simp at hx hx'; subst hx; subst hx'; exact hu
    | succ i => simp at hx
  cases h with
  | agg c c' h1 h2 => exact ⟨h1, h2⟩
  | junk => simp [isTup, Abs.junk] at hn
  | tuple => simp [isTup] at hn
  | bool b => exact one _ _ (.bool b)
  | int k n => exact one _ _ (.int k n)
  | float k n => exact one _ _ (.float k n)
  | complex k m n => exact one _ _ (.complex k m n)
  | string s => exact one _ _ (.string s)
  | nilPtr => exact one _ _ .nilPtr
  | ptr id off g r hr hg => exact one _ _ (.ptr id off g r hr hg)
  | map id r hr => exact one _ _ (.map id r hr)
  | nilSlice => exact one _ _ .nilSlice
  | slice id off g r len z o' cap' h1 h2 h3 h4 h5 => exact one _ _ (.slice id off g r len z o' cap' h1 h2 h3 h4 h5)
  | slice0 id off g z a' cap' h0 => exact one _ _ (.slice0 id off g z a' cap' h0)
  | nilMap => exact one _ _ .nilMap
  | nilChan => exact one _ _ .nilChan
  | nilFunc => exact one _ _ .nilFunc
  | nilIface => exact one _ _ .nilIface
  | func fn f f' c c' h1 h2 h3 h4 => exact one _ _ (.func fn f f' c c' h1 h2 h3 h4)
  | iface t v v' h => exact one _ _ (.iface t v v' h)

theorem RelA.set {ρ : Rho} {c c' : Array Value} (h : RelA ρ c c') (i : Nat) {v v' : Value} (hv : VRel ρ v v') : RelA ρ (c.setIfInBounds i v) (c'.setIfInBounds i v') := by
  refine ⟨by simp [h.1], fun j u u' hu hu' => ?_⟩
  rw [Array.getElem?_setIfInBounds] at hu hu'
  by_cases hij : i = j
  · subst hij
    simp only [if_true] at hu hu'
    split at hu <;> simp_all
  · simp only [hij, if_false] at hu hu'
    exact h.2 j u u' hu hu'

theorem fold_rel {ρ : Rho} (off : Nat) : ∀ (l l' : List Value) (k : Nat) (c c' : Array Value), l.length = l'.length → (∀ (i : Nat) v v', l[i]? = some v → l'[i]? = some v' → VRel ρ v v') → RelA ρ c c' →
    RelA ρ ((l.zipIdx k).foldl (fun cs (x : Value × Nat) => cs.setIfInBounds (off + x.2) x.1) c) ((l'.zipIdx k).foldl (fun cs (x : Value × Nat) => cs.setIfInBounds (off + x.2) x.1) c')
  | [], [], _, _, _, _, _, h => h
  | v :: l, v' :: l', k, c, c', hl, hr, h => by
    simp only [List.zipIdx_cons, List.foldl_cons]
    exact fold_rel off l l' (k + 1) _ _ (by simpa using hl) (fun i a b ha hb => hr (i + 1) a b (by simpa using ha) (by simpa using hb)) (h.set _ (hr 0 v v' rfl rfl))
  | [], _ :: _, _, _, _, hl, _, _ => by simp at hl
  | _ :: _, [], _, _, _, hl, _, _ => by simp at hl

theorem fold_arr (off : Nat) (v : Array Value) (c : Array Value) : v.zipIdx.foldl (fun cs (x, j) => cs.setIfInBounds (off + j) x) c = (v.toList.zipIdx 0).foldl (fun cs (x : Value × Nat) => cs.setIfInBounds (off + x.2) x.1) c := by
  rw [← Array.foldl_toList, Array.toList_zipIdx]

theorem fill_rel {ρ : Rho} (place : Nat → Option (Nat × Nat)) : ∀ (ps ps' : List (Nat × Value)) (c c' out : Array Value), ps.length = ps'.length →
    (∀ (i : Nat) p p', ps[i]? = some p → ps'[i]? = some p' → p.1 = p'.1 ∧ VRel ρ p.2 p'.2 ∧ isTup p.2 = false) → RelA ρ c c' → Instr.fill place c ps = some out →
    ∃ out', Instr.fill place c' ps' = some out' ∧ RelA ρ out out'
  | [], [], c, c', out, _, _, h, hf => by
    simp only [Instr.fill, Option.some.injEq] at hf ⊢
    subst hf
    exact ⟨c', rfl, h⟩
  | (i, v) :: ps, (i', v') :: ps', c, c', out, hl, hr, h, hf => by
    obtain ⟨e1, e2, e3⟩ := hr 0 _ _ rfl rfl
    simp only at e1 e2 e3
    subst e1
    have hc := e2.cells e3
    simp only [Instr.fill] at hf ⊢
    cases hp : place i with
    | none => rw [hp] at hf; cases hf
    | some os =>
      obtain ⟨off, size⟩ := os
      rw [hp] at hf
      simp only at hf ⊢
      rw [← hc.1, ← h.1]
      split at hf
      · cases hf
      · rename_i hno
        rw [if_neg hno]
        refine fill_rel place ps ps' _ _ out (by simpa using hl) (fun j p p' h1 h2 => hr (j + 1) p p' (by simpa using h1) (by simpa using h2)) ?_ hf
        rw [fold_arr, fold_arr]
        refine fold_rel off _ _ 0 _ _ (by simpa using hc.1) (fun j a b ha hb => hc.2 j a b (by simpa using ha) (by simpa using hb)) h
  | [], _ :: _, _, _, _, hl, _, _, _ => by simp at hl
  | _ :: _, [], _, _, _, hl, _, _, _ => by simp at hl
end Go.Proofs.Ytimeninncpmaeaa.Abs
