/-
  Statements that repeat, as functions of what they carry; slices, as lists.
-/
import Derived.Test.YtimeninncpmaeaaVr
namespace Go.Proofs.Ytimeninncpmaeaa.Abs
open Go
set_option linter.unusedVariables false
set_option linter.unusedSimpArgs false

inductive Runs {σ τ : Type} (step : σ → Option (σ ⊕ τ)) : σ → τ → Prop
  | stop {s : σ} {t : τ} : step s = some (.inr t) → Runs step s t
  | go {s s' : σ} {t : τ} : step s = some (.inl s') → Runs step s' t → Runs step s t
theorem Runs.unique {σ τ : Type} {step : σ → Option (σ ⊕ τ)} {s : σ} {t t' : τ} (h : Runs step s t) (h' : Runs step s t') : t = t' := by
  induction h with
  | stop h => cases h' with
    | stop k => rw [h] at k; cases k; rfl
    | go k _ => rw [h] at k; cases k
  | go h _ ih => cases h' with
    | stop k => rw [h] at k; cases k
    | go k k' => rw [h] at k; cases k; exact ih k'
open Classical in
noncomputable def loopO {σ τ : Type} (step : σ → Option (σ ⊕ τ)) (s : σ) : Option τ := if h : ∃ t, Runs step s t then some (Classical.choose h) else none
theorem loopO_iff {σ τ : Type} {step : σ → Option (σ ⊕ τ)} {s : σ} {t : τ} : loopO step s = some t ↔ Runs step s t := by
  unfold loopO
  constructor
  · intro h
    split at h
    · rename_i hx; cases h; exact Classical.choose_spec hx
    · cases h
  · intro h
    rw [dif_pos ⟨t, h⟩]
    exact congrArg some ((Classical.choose_spec (⟨t, h⟩ : ∃ t, Runs step s t)).unique h)
theorem loopO_stop {σ τ : Type} {step : σ → Option (σ ⊕ τ)} {s : σ} {t : τ} (h : step s = some (.inr t)) : loopO step s = some t := loopO_iff.2 (.stop h)
theorem loopO_go {σ τ : Type} {step : σ → Option (σ ⊕ τ)} {s s' : σ} (h : step s = some (.inl s')) : loopO step s = loopO step s' := by
  apply Option.ext; intro t
  rw [loopO_iff, loopO_iff]
  constructor
  · intro k; cases k with
    | stop k => rw [h] at k; cases k
    | go k k' => rw [h] at k; cases k; exact k'
  · exact .go h
/-- By an invariant and a measure: the loop ends, and its end is as claimed. -/
theorem loopO_ind {σ τ : Type} {step : σ → Option (σ ⊕ τ)} (I : σ → Prop) (μ : σ → Nat) (R : τ → Prop) (h : ∀ s, I s → (∃ s', step s = some (.inl s') ∧ I s' ∧ μ s' < μ s) ∨ ∃ t, step s = some (.inr t) ∧ R t) {s : σ} (h0 : I s) :
    ∃ t, loopO step s = some t ∧ R t := by
  have key : ∀ n s, μ s = n → I s → ∃ t, loopO step s = some t ∧ R t := by
    intro n
    induction n using Nat.strongRecOn with
    | _ n ih =>
      intro s hn hI
      rcases h s hI with ⟨s', h1, h2, h3⟩ | ⟨t, h1, h2⟩
      · rw [loopO_go h1]; exact ih _ (hn ▸ h3) s' rfl h2
      · exact ⟨t, loopO_stop h1, h2⟩
  exact key _ s rfl h0

inductive Chain (P : Program) (c : Code) : Nat → AS → Exit → AS → Prop
  | stop {n : Nat} {s s' : AS} {e : Exit} : AWp P c (Ends1 e s') s → e ≠ .normal → Chain P c n s e s'
  | go {n : Nat} {s s1 s' : AS} {e : Exit} : AWp P c (Ends1 .normal s1) s → Chain P c n s1 e s' → Chain P c (n + 1) s e s'
theorem awp_chain {P : Program} {c : Code} {n : Nat} {s s' : AS} {e : Exit} (h : Chain P c n s e s') : AWp P (.loop c) (Ends1 e s') s := by
  refine awp_loop_n (fun k s => Chain P c k s e s') n h ?_
  intro k s hk
  cases hk with
  | stop h1 h2 =>
    refine awp_mono h1 ?_
    rintro e' s'' ⟨rfl, rfl⟩
    cases e' with
    | normal => exact absurd rfl h2
    | _ => exact ⟨rfl, rfl⟩
  | go h1 h2 =>
    refine awp_mono h1 ?_
    rintro e' s'' ⟨rfl, rfl⟩
    exact ⟨_, Nat.lt_succ_self _, h2⟩

def Rd {σ τ : Type} (P : Program) (c : Code) (I : σ → AS → Prop) (X : τ → Exit → AS → Prop) (s : AS) : σ ⊕ τ → Prop
  | .inl x => ∃ s', I x s' ∧ AWp P c (Ends1 .normal s') s
  | .inr t => ∃ e s', e ≠ .normal ∧ X t e s' ∧ AWp P c (Ends1 e s') s
theorem loop_rel {σ τ : Type} {P : Program} {c : Code} {step : σ → Option (σ ⊕ τ)} {I : σ → AS → Prop} {X : τ → Exit → AS → Prop} (round : ∀ x s, I x s → ∀ o, step x = some o → Rd P c I X s o)
    {x : σ} {t : τ} (h : loopO step x = some t) {s : AS} (h0 : I x s) : ∃ e s', X t e s' ∧ AWp P (.loop c) (Ends1 e s') s := by
  have key : ∀ {x t}, Runs step x t → ∀ s, I x s → ∃ n e s', X t e s' ∧ Chain P c n s e s' := by
    intro x t h
    induction h with
    | stop h =>
      intro s hI
      obtain ⟨e, s', h1, h2, h3⟩ := round _ s hI _ h
      exact ⟨0, e, s', h2, .stop h3 h1⟩
    | go h _ ih =>
      intro s hI
      obtain ⟨s', h1, h2⟩ := round _ s hI _ h
      obtain ⟨n, e, s'', h3, h4⟩ := ih s' h1
      exact ⟨n + 1, e, s'', h3, .go h2 h4⟩
  obtain ⟨n, e, s', h1, h2⟩ := key (loopO_iff.1 h) s h0
  exact ⟨e, s', h1, awp_chain h2⟩
def RdF {σ τ : Type} (P : Program) (c : Code) (hd : σ → AS) (X : τ → Exit × AS) (s : AS) : σ ⊕ τ → Prop
  | .inl x => AWp P c (Ends1 .normal (hd x)) s
  | .inr t => AWp P c (Ends1 (X t).1 (X t).2) s
theorem loop_fun {σ τ : Type} {P : Program} {c : Code} {step : σ → Option (σ ⊕ τ)} {hd : σ → AS} {X : τ → Exit × AS} (hX : ∀ t, (X t).1 ≠ .normal) (round : ∀ x o, step x = some o → RdF P c hd X (hd x) o)
    {x : σ} {t : τ} (h : loopO step x = some t) : AWp P (.loop c) (Ends1 (X t).1 (X t).2) (hd x) := by
  obtain ⟨e, s', ⟨rfl, rfl⟩, h2⟩ := loop_rel (I := fun x s => s = hd x) (X := fun t e s => e = (X t).1 ∧ s = (X t).2) (fun x s hs o ho => by
    subst hs
    have := round x o ho
    cases o with
    | inl x' => exact ⟨_, rfl, this⟩
    | inr t => exact ⟨_, _, hX t, ⟨rfl, rfl⟩, this⟩) h rfl
  exact h2

def pEnd (P : Program) (L : List Nat) (D : List (Nat × List (Nat × Nat))) (c : Code) (its : List It) (ds : List Bool) (ks : List Nat) (s : AS) : Option (Exit × AS × Prop) :=
  match pCode P L D c its True s with
  | some (e, s', [], C) => some (e, forget ds ks s', C)
  | _ => none
theorem pEnd_sound {P : Program} (G : Good P) {L : List Nat} {D : List (Nat × List (Nat × Nat))} {c : Code} {its : List It} {ds : List Bool} {ks : List Nat} {s s2 : AS} {e : Exit} {C : Prop} (hd : drawsOk D c = true)
    (h : pEnd P L D c its ds ks s = some (e, s2, C)) (hC : C) : AWp P c (Ends1 e s2) s := by
  unfold pEnd at h
  split at h
  · rename_i e' s' C' h'
    simp only [Option.some.injEq, Prod.mk.injEq] at h
    obtain ⟨rfl, rfl, rfl⟩ := h
    exact awp_forget_post _ _ (pCode_sound G _ _ _ _ _ _ _ _ hd h' hC).2
  · cases h

def subC : List Nat → Code → Code
  | 0 :: r, .seq a _ => subC r a
  | 1 :: r, .seq _ b => subC r b
  | 0 :: r, .cond _ a _ => subC r a
  | 1 :: r, .cond _ _ b => subC r b
  | 0 :: r, .block _ c => subC r c
  | 0 :: r, .loop c => subC r c
  | 0 :: r, .scope c => subC r c
  | _, c => c
def codeOf (P : Program) (f : FuncId) (p : List Nat) : Code :=
  match P.funcs[f]? with
  | some fn => match fn.body with
    | some c => subC p c
    | none => .skip
  | none => .skip

theorem dec_bif {α : Type} {c : Bool} {a b r : α} {G : Prop} (ht : c = true → a = r → G) (hf : c = false → b = r → G) : (bif c then a else b) = r → G := by
  cases c
  · exact hf rfl
  · exact ht rfl
theorem bind_opt {α β : Type} {o : Option β} {k : β → Option α} {r : α} {G : Prop} (h : ∀ y, o = some y → k y = some r → G) : o.bind k = some r → G := by
  intro e
  obtain ⟨y, h1, h2⟩ := Option.bind_eq_some_iff.1 e
  exact h y h1 h2

/-! Slices. -/
def at? {α : Type} (xs : List α) (i : Int) : Option α := bif decide (0 ≤ i) then xs[i.toNat]? else none
theorem at?_some {α : Type} {xs : List α} {i : Int} {x : α} (h : at? xs i = some x) : 0 ≤ i ∧ i < xs.length ∧ xs[i.toNat]? = some x := by
  unfold at? at h
  by_cases hi : 0 ≤ i
  · simp only [hi, decide_true, cond_true] at h
    have := (List.getElem?_eq_some_iff.1 h).1
    exact ⟨hi, by omega, h⟩
  · simp only [hi, decide_false, cond_false] at h; cases h
/-- A string's bytes. -/
def bytesL (b : ByteArray) : List Int := b.data.toList.map fun x => (x.toNat : Int)
theorem sread_at {b : ByteArray} {n m : Int} (h : at? (bytesL b) n = some m) : sread b n = some m := by
  obtain ⟨h1, h2, h3⟩ := at?_some h
  unfold bytesL at h2 h3
  rw [List.getElem?_map] at h3
  rw [List.length_map, Array.length_toList] at h2
  have hs' : n.toNat < b.data.size := by omega
  have hs : n.toNat < b.size := hs'
  have e : b[n.toNat]? = some b[n.toNat] := getElem?_pos b n.toNat hs
  have e2 : b.data.toList[n.toNat]? = some b[n.toNat] := by
    have h4 : n.toNat < b.data.size := hs
    rw [Array.getElem?_toList, Array.getElem?_eq_getElem h4]
    rfl
  rw [e2] at h3
  simp only [Option.map_some, Option.some.injEq] at h3
  unfold sread
  rw [decide_eq_true h1, e]
  simp only [h3]

theorem at?_nat {α : Type} (xs : List α) (i : Nat) : at? xs (i : Int) = xs[i]? := by simp [at?]

/-- Cells that lie one behind the other in the memory. -/
def At (h : AHeap) (id off g : Nat) (cs : List Value) : Prop := ∃ blk, h.get id = some blk ∧ blk.gen = g ∧ off + cs.length ≤ blk.cells.length ∧ ∀ j v, cs[j]? = some v → blk.cells[off + j]? = some v
theorem At.mono {h h' : AHeap} (le : h.sub h') {id off g : Nat} {cs : List Value} (A : At h id off g cs) : At h' id off g cs := by
  obtain ⟨b, h1, h2, h3, h4⟩ := A; exact ⟨b, le _ _ h1, h2, h3, h4⟩
theorem At.one {P : Program} {h : AHeap} {t : TypeId} {id off g : Nat} {cs : List Value} (A : At h id off g cs) (ha : isAggT P t = some false) (j : Nat) {v : Value} (hj : cs[j]? = some v) (hn : noLoc (some v) = some v) :
    hread P h t id (off + j) g = some v := by
  obtain ⟨b, h1, h2, h3, h4⟩ := A
  subst h2
  simp only [hread, h1, beq_self, readCells, ha, h4 j v hj, hn]
theorem At.agg {P : Program} {h : AHeap} {t : TypeId} {id off g m : Nat} {cs : List Value} (A : At h id off g cs) (ha : isAggT P t = some true) (hm : sizeT P t = some m) (j : Nat) (hj : Nat.ble (j + m) cs.length = true) {v : Value} (hv : .agg ((cs.drop j).take m).toArray = v) :
    hread P h t id (off + j) g = some v := by
  obtain ⟨b, h1, h2, h3, h4⟩ := A
  subst h2
  have hj' := Nat.le_of_ble_eq_true hj
  have hb : Nat.ble (off + j + m) b.cells.length = true := Nat.ble_eq_true_of_le (by omega)
  have e : (b.cells.drop (off + j)).take m = (cs.drop j).take m := by
    apply List.ext_getElem?
    intro i
    by_cases hi : i < m
    · rw [List.getElem?_take, List.getElem?_take, if_pos hi, if_pos hi, List.getElem?_drop, List.getElem?_drop]
      have hl : j + i < cs.length := by omega
      rw [List.getElem?_eq_getElem hl, Nat.add_assoc]
      exact h4 (j + i) _ (List.getElem?_eq_getElem hl)
    · rw [List.getElem?_take, List.getElem?_take, if_neg hi, if_neg hi]
  simp only [hread, h1, beq_self, readCells, ha, hm, hb, e]
  subst hv
  rfl

def SlE {α : Type} (E : AHeap → List Value → α → Prop) (c : Nat) (h : AHeap) (v : Value) (xs : List α) : Prop :=
  vlen v = some xs.length ∧ ∀ (i : Nat) x, xs[i]? = some x → ∃ id off g cs, ixv c v i = some (id, off, g) ∧ At h id off g cs ∧ E h cs x
theorem SlE.len {α : Type} {E : AHeap → List Value → α → Prop} {c : Nat} {h : AHeap} {v : Value} {xs : List α} (S : SlE E c h v xs) : vlen v = some xs.length := S.1
theorem SlE.at {α : Type} {E : AHeap → List Value → α → Prop} {c : Nat} {h : AHeap} {v : Value} {xs : List α} (S : SlE E c h v xs) {i : Int} {x : α} (hx : at? xs i = some x) :
    ∃ id off g cs, ixv c v i = some (id, off, g) ∧ At h id off g cs ∧ E h cs x := by
  obtain ⟨h1, h2, h3⟩ := at?_some hx
  have := S.2 i.toNat x h3
  rwa [Int.toNat_of_nonneg h1] at this
theorem SlE.atp {α : Type} {E : AHeap → List Value → α → Prop} {c : Nat} {h : AHeap} {v : Value} {xs : List α} (S : SlE E c h v xs) {i : Int} {id off g : Nat} (hi : ixv c v i = some (id, off, g)) {x : α} (hx : at? xs i = some x) :
    ∃ cs, At h id off g cs ∧ E h cs x := by
  obtain ⟨id', off', g', cs, h1, h2, h3⟩ := S.at hx
  rw [hi] at h1; cases h1
  exact ⟨cs, h2, h3⟩
theorem SlE.mono {α : Type} {E : AHeap → List Value → α → Prop} {c : Nat} {h h' : AHeap} {v : Value} {xs : List α} (S : SlE E c h v xs) (le : h.sub h') (hE : ∀ cs x, E h cs x → E h' cs x) : SlE E c h' v xs :=
  ⟨S.1, fun i x hx => let ⟨id, off, g, cs, h1, h2, h3⟩ := S.2 i x hx; ⟨id, off, g, cs, h1, h2.mono le, hE _ _ h3⟩⟩
theorem vlen_noLoc {v : Value} {n : Nat} (h : vlen v = some n) : noLoc (some v) = some v := by
  unfold vlen at h
  split at h
  · rfl
  · rfl
  · cases h
theorem SlE.noLoc {α : Type} {E : AHeap → List Value → α → Prop} {c : Nat} {h : AHeap} {v : Value} {xs : List α} (S : SlE E c h v xs) : Abs.noLoc (some v) = some v := vlen_noLoc S.1
theorem SlE.nil {α : Type} {E : AHeap → List Value → α → Prop} {c : Nat} {h : AHeap} : SlE E c h (.slice none 0 0) [] := ⟨rfl, fun i x hx => by simp at hx⟩
/-- Slices of what came in. -/
theorem wt_slice {P : Program} {h : AHeap} {n : Nat} {t e : TypeId} {v : Value} (hu : P.underlying t = some (.slice e)) (hw : WT P h (n + 1) t [v]) {α : Type} {E : AHeap → List Value → α → Prop} {W : α → Prop} {c : Nat} (hc : P.cellsOf e = c)
    (hE : ∀ cs, WT P h n e cs → ∃ x, E h cs x ∧ W x) : ∃ xs : List α, SlE E c h v xs ∧ (xs.length ≤ maxLen ∧ xs.length * P.bytesOf e ≤ reachBytes) ∧ ∀ x ∈ xs, W x := by
  subst hc
  unfold WT at hw
  rw [hu] at hw
  rcases hw with hw | hw | ⟨id, css, h1, h2, h3, h4, h5⟩
  · simp only [List.cons.injEq, and_true] at hw
    subst hw
    exact ⟨[], .nil, by simp, by simp⟩
  · simp only [List.cons.injEq, and_true] at hw
    subst hw
    exact ⟨[], ⟨rfl, fun i x hx => by simp at hx⟩, by simp, by simp⟩
  · simp only [List.cons.injEq, and_true] at h1
    subst h1
    have key : ∀ css : List (List Value), (∀ c ∈ css, c.length = P.cellsOf e ∧ WT P h n e c) → ∃ xs : List α, xs.length = css.length ∧ (∀ (i : Nat) c x, css[i]? = some c → xs[i]? = some x → E h c x) ∧ ∀ x ∈ xs, W x := by
      intro css
      induction css with
      | nil => intro _; exact ⟨[], rfl, by simp, by simp⟩
      | cons c css ih =>
        intro hh
        obtain ⟨x, hx, hwx⟩ := hE c (hh c (by simp)).2
        obtain ⟨xs, k1, k2, k3⟩ := ih (fun c' hc' => hh c' (by simp [hc']))
        refine ⟨x :: xs, by simp [k1], ?_, ?_⟩
        · intro i c' x' h1 h2
          cases i with
          | zero => simp at h1 h2; subst h1; subst h2; exact hx
          | succ i => exact k2 i c' x' (by simpa using h1) (by simpa using h2)
        · intro y hy
          rcases List.mem_cons.1 hy with rfl | hy
          · exact hwx
          · exact k3 y hy
    obtain ⟨xs, k1, k2, k3⟩ := key css h5
    refine ⟨xs, ⟨by simp [vlen, k1], ?_⟩, by rw [k1]; exact h3, k3⟩
    intro i x hx
    have hlt : i < css.length := by rw [← k1]; exact (List.getElem?_eq_some_iff.1 hx).1
    have hc : css[i]? = some css[i] := List.getElem?_eq_getElem hlt
    have hlen := (h5 css[i] (List.getElem_mem hlt)).1
    refine ⟨id, 0 + i * P.cellsOf e, 0, css[i], ?_, ⟨_, h4, rfl, ?_, ?_⟩, k2 i _ x hc hx⟩
    · simp [ixv, inRange, hlt]
    · have : ∀ (l : List (List Value)) (i : Nat), (∀ c ∈ l, c.length = P.cellsOf e) → i < l.length → i * P.cellsOf e + P.cellsOf e ≤ l.flatten.length := by
        intro l
        induction l with
        | nil => intro i _ hi; simp at hi
        | cons a l ih =>
          intro i hl hi
          rw [List.flatten_cons, List.length_append, hl a (by simp)]
          cases i with
          | zero => omega
          | succ i =>
            have := ih i (fun c hc => hl c (by simp [hc])) (by simpa using hi)
            rw [Nat.succ_mul]; omega
      have := this css i (fun c hc => (h5 c hc).1) hlt
      rw [hlen]; simpa using this
    · intro j v hj
      have : ∀ (l : List (List Value)) (i : Nat) (a : List Value), (∀ c ∈ l, c.length = P.cellsOf e) → l[i]? = some a → a[j]? = some v → l.flatten[i * P.cellsOf e + j]? = some v := by
        intro l
        induction l with
        | nil => intro i a _ hi; simp at hi
        | cons b l ih =>
          intro i a hl hi ha
          rw [List.flatten_cons]
          cases i with
          | zero =>
            simp at hi; subst hi
            rw [List.getElem?_append_left (by have := (List.getElem?_eq_some_iff.1 ha).1; omega)]
            simpa using ha
          | succ i =>
            have := ih i a (fun c hc => hl c (by simp [hc])) (by simpa using hi) ha
            rw [List.getElem?_append_right (by rw [hl b (by simp), Nat.succ_mul]; omega), hl b (by simp)]
            rw [show (i + 1) * P.cellsOf e + j - P.cellsOf e = i * P.cellsOf e + j by rw [Nat.succ_mul]; omega]
            exact this
      simpa using this css i css[i] (fun c hc => (h5 c hc).1) hc hj
end Go.Proofs.Ytimeninncpmaeaa.Abs
