/-
  What came in, cell by cell, slices among the cells.
-/
import Derived.Test.YtimeninncpmaeaaVs
namespace Go.Proofs.Ytimeninncpmaeaa.Abs
open Go
set_option linter.unusedVariables false
set_option linter.unusedSimpArgs false

theorem guard_ok {α : Type} {c : Bool} {b : Option α} {r : α} {G : Prop} (h : c = false → b = some r → G) : (bif c then none else b) = some r → G := by
  cases c
  · exact h rfl
  · intro e; cases e

/-! Arrays at an index that is not known. -/
def below : Nat → (Nat → Prop) → Prop
  | 0, _ => True
  | n + 1, p => below n p ∧ p n
theorem below_all {p : Nat → Prop} : ∀ {n : Nat}, below n p → ∀ j, j < n → p j
  | n + 1, h, j, hj => by
    rcases Nat.lt_succ_iff_lt_or_eq.1 hj with h1 | rfl
    · exact below_all h.1 j h1
    · exact h.2
def updI {α : Type} (i k : Nat) (v x : α) : α := match Nat.beq i k with
  | true => v
  | false => x
theorem lread_sel {P : Program} {t : TypeId} {cells : List Value} (base z off : Nat) {α : Type} (xs : List α) (d : α) (mk : α → Value) {i : Int} {n : Nat} (hi : inRange i n = true) (ha : isAggT P t = some false)
    (hl : below n fun j => cells[base + j * z + off]? = some (mk (xs.getD j d))) (hm : ∀ x, noLoc (some (mk x)) = some (mk x)) : lread P cells t (base + i.toNat * z + off) = some (mk (xs.getD i.toNat d)) := by
  have h := inRange_iff hi
  have := below_all hl i.toNat (by omega)
  simp only [lread, readCells, ha, this, hm]
theorem iread_sel {P : Program} {t : TypeId} {cs : Array Value} {i : Int} {n : Nat} (hi : inRange i n = true) (f : Nat → Value) (h : below n fun j => iread P t cs (j : Int) = some (f j)) : iread P t cs i = some (f i.toNat) := by
  have hr := inRange_iff hi
  have := below_all h i.toNat (by omega)
  rw [Int.toNat_of_nonneg hr.1] at this
  exact this
theorem lstore_sel {P : Program} {t : TypeId} {cells : List Value} (base z off : Nat) {x : Value} {i : Int} {n : Nat} (hi : inRange i n = true) (hs : sizeT P t = some 1) (hx : x.cells = #[x]) (ho : okPart x = true) (h1 : x.oneCell' = true) (cf : Nat → List Value)
    (hc : below n fun j => Nat.ble (base + j * z + off + 1) cells.length = true ∧ splice cells (base + j * z + off) [x] = cf j) : lstore P t x cells (base + i.toNat * z + off) = some (cf i.toNat) := by
  have h := inRange_iff hi
  obtain ⟨k1, k2⟩ := below_all hc i.toNat (by omega)
  simp only [lstore, hs, hx, ho, h1, List.all_cons, List.all_nil, Bool.and_self]
  simp only [k1, k2]
  rfl

def flatS (P : Program) : Nat → TypeId → Option (List TypeDesc)
  | 0, _ => none
  | n + 1, t => match P.underlying t with
    | some .bool => some [.bool]
    | some (.int k) => some [.int k]
    | some .string => some [.string]
    | some (.slice e) => some [.slice e]
    | some (.struct fs) => flatFs (flatS P n) fs.toList
    | some (.array m e) => match flatS P n e with
      | some a => some (repFlat a m)
      | none => none
    | _ => none
/-- A slice's handle. -/
structure Hd where
  a : Option Addr
  n : Nat
  z : Nat
def sv (x : Hd) : Value := .slice x.a x.n x.z
/-- A part of a slice: from lo to hi, at c cells an element. -/
def Hd.sub (v : Hd) (lo hi c : Nat) : Hd := ⟨match v.a with | some a => some (padd a (lo * c)) | none => none, hi - lo, v.z⟩
def subOk (lo hi : Int) (n : Nat) : Bool := decide (0 ≤ lo) && (decide (lo ≤ hi) && decide (hi ≤ (n : Int)))
def subL {α : Type} (xs : List α) (lo hi : Int) : List α := (xs.take hi.toNat).drop lo.toNat
theorem subOk_iff {lo hi : Int} {n : Nat} : subOk lo hi n = true ↔ 0 ≤ lo ∧ lo ≤ hi ∧ hi ≤ n := by
  simp [subOk]
theorem SlE.sub {α : Type} {E : AHeap → List Value → α → Prop} {c : Nat} {h : AHeap} {v : Hd} {xs : List α} (S : SlE E c h (sv v) xs) {lo hi : Int} (ok : subOk lo hi xs.length = true) :
    SlE E c h (sv (v.sub lo.toNat hi.toNat c)) (subL xs lo hi) := by
  obtain ⟨h0, h1, h2⟩ := subOk_iff.1 ok
  obtain ⟨s1, s2⟩ := S
  obtain ⟨a, n, z⟩ := v
  have hlen : (subL xs lo hi).length = hi.toNat - lo.toNat := by simp [subL]; omega
  refine ⟨?_, ?_⟩
  · rw [hlen]
    unfold vlen sv at s1
    cases a with
    | none =>
      simp only at s1
      split at s1
      · rename_i hh
        simp only [Value.slice.injEq] at hh
        obtain ⟨_, rfl, rfl⟩ := hh
        simp only [Option.some.injEq] at s1
        have e1 : hi.toNat - lo.toNat = 0 := by omega
        simp [sv, Hd.sub, e1, vlen]
      · rename_i hh; simp at hh
      · cases s1
    | some a =>
      obtain ⟨id, off, g⟩ := a
      cases g with
      | none => simp at s1
      | some g => simp [sv, Hd.sub, vlen, padd]
  · intro i x hx
    have hi' : i < hi.toNat - lo.toNat := by rw [← hlen]; exact (List.getElem?_eq_some_iff.1 hx).1
    have hx' : xs[lo.toNat + i]? = some x := by
      unfold subL at hx
      rw [List.getElem?_drop, List.getElem?_take] at hx
      rw [if_pos (by omega)] at hx
      exact hx
    obtain ⟨id, off, g, cs, e, A, H⟩ := s2 _ _ hx'
    refine ⟨id, off, g, cs, ?_, A, H⟩
    unfold ixv sv at e
    simp only at e
    split at e
    · rename_i id' off' g' len cap hh
      simp only [Value.slice.injEq] at hh
      obtain ⟨rfl, rfl, rfl⟩ := hh
      split at e
      · simp only [Option.some.injEq, Prod.mk.injEq] at e
        obtain ⟨rfl, rfl, rfl⟩ := e
        have r : inRange (i : Int) (hi.toNat - lo.toNat) = true := by simp [inRange]; omega
        simp only [sv, Hd.sub, padd, ixv, r]
        congr 2
        have : ((lo.toNat + i : Nat) : Int).toNat = lo.toNat + i := by omega
        rw [this, Nat.add_mul]
        have : ((i : Nat) : Int).toNat = i := by omega
        rw [this]
        simp [Nat.add_assoc]
      · cases e
    · cases e
theorem slv_sub {P : Program} {α : Type} {E : AHeap → List Value → α → Prop} {n : Nat} {h : AHeap} {v : Hd} {xs : List α} {t e : TypeId} (S : SlE E (n + 1) h (sv v) xs) (hu : P.underlying t = some (.slice e)) (hn : sizeT P e = some (n + 1)) (lo hi : Option Int)
    {lo' hi' : Int} (hlo : lo.getD 0 = lo') (hhi : hi.getD xs.length = hi') (ok : subOk lo' hi' xs.length = true) :
    slv P t (sv v) (lo.map (.int .i64)) (hi.map (.int .i64)) = some (sv (v.sub lo'.toNat hi'.toNat (n + 1))) := by
  obtain ⟨h0, h1, h2⟩ := subOk_iff.1 ok
  obtain ⟨s1, s2⟩ := S
  obtain ⟨a, m, z⟩ := v
  unfold vlen sv at s1
  cases a with
  | none =>
    simp only at s1
    split at s1
    · rename_i hh
      simp only [Value.slice.injEq] at hh
      obtain ⟨_, rfl, rfl⟩ := hh
      simp only [Option.some.injEq] at s1
      have z1 : lo' = 0 := by omega
      have z2 : hi' = 0 := by omega
      subst z1; subst z2
      have k1 : sliceHi 0 (hi.map (.int .i64)) = some 0 := by
        cases hi with
        | none => rfl
        | some x => simp only [Option.getD_some] at hhi; subst hhi; rfl
      have k2 : sliceLo 0 (lo.map (.int .i64)) = some 0 := by
        cases lo with
        | none => rfl
        | some x => simp only [Option.getD_some] at hlo; subst hlo; rfl
      simp only [slv, sv, hu, hn, k1, k2]
      rfl
    · rename_i hh; simp at hh
    · cases s1
  | some a =>
    obtain ⟨id, off, g⟩ := a
    cases g with
    | none => simp at s1
    | some g =>
      simp only [Option.some.injEq] at s1
      subst s1
      have k1 : sliceHi xs.length (hi.map (.int .i64)) = some hi'.toNat := by
        cases hi with
        | none => simp only [Option.getD_none] at hhi; subst hhi; simp [sliceHi]
        | some x =>
          simp only [Option.getD_some] at hhi; subst hhi
          have : (decide (0 ≤ x) && decide (x ≤ (xs.length : Int))) = true := by simp; omega
          simp only [Option.map_some, sliceHi, this]
      have k2 : sliceLo hi'.toNat (lo.map (.int .i64)) = some lo'.toNat := by
        cases lo with
        | none => simp only [Option.getD_none] at hlo; subst hlo; rfl
        | some x =>
          simp only [Option.getD_some] at hlo; subst hlo
          have : (decide (0 ≤ x) && decide (x ≤ (hi'.toNat : Int))) = true := by simp; omega
          simp only [Option.map_some, sliceLo, this]
      simp only [slv, sv, aSlice, hu, hn, k1, k2]
      rfl
def SlQ (P : Program) (h : AHeap) (e : TypeId) (v : Hd) : Prop :=
  ∀ {α : Type} (E : AHeap → List Value → α → Prop) (W : α → Prop) (c : Nat), P.cellsOf e = c → (∀ n cs, WT P h n e cs → ∃ x, E h cs x ∧ W x) → ∃ xs : List α, SlE E c h (sv v) xs ∧ (xs.length ≤ maxLen ∧ xs.length * P.bytesOf e ≤ reachBytes) ∧ ∀ x ∈ xs, W x
def SQ (P : Program) (h : AHeap) : List TypeDesc → List Value → Prop
  | [], [] => True
  | .bool :: ks, v :: vs => (∃ b, v = .bool b) ∧ SQ P h ks vs
  | .int k :: ks, v :: vs => (∃ x, v = .int k x ∧ (Lit.int k x).wf = true) ∧ SQ P h ks vs
  | .string :: ks, v :: vs => (∃ x, v = .string x ∧ x.size ≤ maxLen) ∧ SQ P h ks vs
  | .slice e :: ks, v :: vs => (∃ x, v = sv x ∧ SlQ P h e x) ∧ SQ P h ks vs
  | _, _ => False
theorem SQ.append {P : Program} {h : AHeap} : ∀ {ks : List TypeDesc} {vs : List Value} {ks' : List TypeDesc} {vs' : List Value}, SQ P h ks vs → SQ P h ks' vs' → SQ P h (ks ++ ks') (vs ++ vs')
  | [], [], _, _, _, h => h
  | [], _ :: _, _, _, h, _ => h.elim
  | k :: ks, [], _, _, h, _ => by cases k <;> exact h.elim
  | k :: ks, v :: vs, _, _, h, h' => by
    cases k <;> first | exact ⟨h.1, SQ.append h.2 h'⟩ | exact h.elim

theorem wt_flatS {P : Program} {s : AHeap} : ∀ (d n : Nat) {t : TypeId} {ks : List TypeDesc} {cs : List Value}, flatS P d t = some ks → WT P s n t cs → SQ P s ks cs := by
  intro d
  induction d with
  | zero => intro n t ks cs hf; cases hf
  | succ d ih =>
    intro n t ks cs hf hw
    cases n with
    | zero => exact hw.elim
    | succ n =>
    unfold flatS at hf
    have hw0 := hw
    unfold WT at hw
    split at hf
    · rename_i hu
      cases hf
      rw [hu] at hw
      obtain ⟨b, rfl⟩ := hw
      exact ⟨⟨b, rfl⟩, trivial⟩
    · rename_i k hu
      cases hf
      rw [hu] at hw
      obtain ⟨x, rfl, hx⟩ := hw
      exact ⟨⟨x, rfl, hx⟩, trivial⟩
    · rename_i hu
      cases hf
      rw [hu] at hw
      obtain ⟨x, rfl, hx⟩ := hw
      exact ⟨⟨x, rfl, hx⟩, trivial⟩
    · rename_i e hu
      cases hf
      have : ∃ v : Hd, cs = [sv v] := by
        rw [hu] at hw
        rcases hw with hw | hw | ⟨id, css, h1, _⟩
        · exact ⟨⟨_, _, _⟩, hw⟩
        · exact ⟨⟨_, _, _⟩, hw⟩
        · exact ⟨⟨_, _, _⟩, h1⟩
      obtain ⟨v, rfl⟩ := this
      exact ⟨⟨v, rfl, fun E W c hc hE => wt_slice hu hw0 hc (fun cs h => hE n cs h)⟩, trivial⟩
    · rename_i fs hu
      rw [hu] at hw
      obtain ⟨css, rfl, hl, h⟩ := hw
      have key : ∀ (l : List Field) (css : List (List Value)) (ks : List TypeDesc), css.length = l.length → (∀ (i : Nat) f c, l[i]? = some f → css[i]? = some c → WT P s n f.type c) → flatFs (flatS P d) l = some ks → SQ P s ks css.flatten := by
        intro l
        induction l with
        | nil =>
          intro css ks hl _ hf
          have : css = [] := List.eq_nil_of_length_eq_zero hl
          subst this
          simp only [flatFs, Option.some.injEq] at hf
          subst hf
          trivial
        | cons f l ihl =>
          intro css ks hl h hf
          cases css with
          | nil => simp at hl
          | cons c css =>
            simp only [flatFs] at hf
            split at hf
            · rename_i a b ha hb
              cases hf
              rw [List.flatten_cons]
              exact (ih n ha (h 0 f c rfl rfl)).append (ihl css b (by simpa using hl) (fun i f' c' h1 h2 => h (i + 1) f' c' (by simpa using h1) (by simpa using h2)) hb)
            · cases hf
      exact key fs.toList css ks (by simpa using hl) (fun i f c h1 h2 => (h i f c (by simpa using h1) h2).2) hf
    · rename_i m e hu
      rw [hu] at hw
      obtain ⟨css, rfl, hl, h⟩ := hw
      split at hf
      · rename_i a ha
        cases hf
        have key : ∀ (m : Nat) (css : List (List Value)), css.length = m → (∀ c ∈ css, WT P s n e c) → SQ P s (repFlat a m) css.flatten := by
          intro m
          induction m with
          | zero =>
            intro css hl _
            have : css = [] := List.eq_nil_of_length_eq_zero hl
            subst this; trivial
          | succ m ihm =>
            intro css hl h
            cases css with
            | nil => simp at hl
            | cons c css =>
              rw [List.flatten_cons]
              exact (ih n ha (h c (by simp))).append (ihm css (by simpa using hl) (fun c' hc => h c' (by simp [hc])))
        exact key m css hl (fun c hc => (h c hc).2)
      · cases hf
    · cases hf

theorem wtv_aggS {P : Program} {s : AHeap} (d : Nat) {n : Nat} {t : TypeId} {u : Value} {ks : List TypeDesc} (ha : isAggT P t = some true) (hf : flatS P d t = some ks) (hw : WTv P s n t u) : ∃ cs, u = .agg cs.toArray ∧ SQ P s ks cs := by
  unfold isAggT at ha
  unfold WTv at hw
  split at ha
  · rename_i fs hu; rw [hu] at hw; obtain ⟨cs, h1, h2⟩ := hw; exact ⟨cs, h1, wt_flatS d n hf h2⟩
  · rename_i m e hu; rw [hu] at hw; obtain ⟨cs, h1, h2⟩ := hw; exact ⟨cs, h1, wt_flatS d n hf h2⟩
  · cases ha
  · cases ha
theorem wtv_oneS {P : Program} {s : AHeap} (d : Nat) {n : Nat} {t : TypeId} {u : Value} {ks : List TypeDesc} (ha : isAggT P t = some false) (hf : flatS P d t = some ks) (hw : WTv P s n t u) : SQ P s ks [u] := by
  unfold isAggT at ha
  unfold WTv at hw
  cases hu : P.underlying t with
  | none => rw [hu] at ha; cases ha
  | some dd =>
    rw [hu] at ha hw
    cases dd <;> first | (cases ha; done) | exact wt_flatS d n hf hw
theorem sq_int {P : Program} {h : AHeap} {k : IntKind} {ks : List TypeDesc} {cs : List Value} (q : SQ P h (.int k :: ks) cs) : ∃ x vs, cs = .int k x :: vs ∧ (Lit.int k x).wf = true ∧ SQ P h ks vs := by
  cases cs with
  | nil => exact q.elim
  | cons v vs => obtain ⟨⟨x, rfl, hx⟩, h2⟩ := q; exact ⟨x, vs, rfl, hx, h2⟩
theorem sq_bool {P : Program} {h : AHeap} {ks : List TypeDesc} {cs : List Value} (q : SQ P h (.bool :: ks) cs) : ∃ x vs, cs = .bool x :: vs ∧ SQ P h ks vs := by
  cases cs with
  | nil => exact q.elim
  | cons v vs => obtain ⟨⟨x, rfl⟩, h2⟩ := q; exact ⟨x, vs, rfl, h2⟩
theorem sq_string {P : Program} {h : AHeap} {ks : List TypeDesc} {cs : List Value} (q : SQ P h (.string :: ks) cs) : ∃ x vs, cs = .string x :: vs ∧ x.size ≤ maxLen ∧ SQ P h ks vs := by
  cases cs with
  | nil => exact q.elim
  | cons v vs => obtain ⟨⟨x, rfl, hx⟩, h2⟩ := q; exact ⟨x, vs, rfl, hx, h2⟩
theorem sq_slice {P : Program} {h : AHeap} {e : TypeId} {ks : List TypeDesc} {cs : List Value} (q : SQ P h (.slice e :: ks) cs) : ∃ v vs, cs = sv v :: vs ∧ SlQ P h e v ∧ SQ P h ks vs := by
  cases cs with
  | nil => exact q.elim
  | cons v vs => obtain ⟨⟨x, rfl, hx⟩, h2⟩ := q; exact ⟨x, vs, rfl, hx, h2⟩
theorem sq_nil {P : Program} {h : AHeap} {cs : List Value} (q : SQ P h [] cs) : cs = [] := by
  cases cs with
  | nil => rfl
  | cons v vs => exact q.elim
end Go.Proofs.Ytimeninncpmaeaa.Abs
