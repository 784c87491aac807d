/-
  What came in, opened: abstract values of any type without pointers, functions, maps and interfaces.
-/
import Derived.Test.YtimeninncpmaeaaVl
import Derived.ChangeArms
import Derived.Carry
import Derived.SizedLaws
namespace Go.Proofs.Ytimeninncpmaeaa.Abs
open Go
set_option linter.unusedVariables false
set_option linter.unusedSimpArgs false

def fitsFrom (P : Program) : Nat → List Field → Option Nat
  | off, [] => some off
  | off, f :: r => match Nat.beq f.offset off with
    | true => fitsFrom P (off + P.cellsOf f.type) r
    | false => none
def okType (P : Program) : Nat → TypeId → Bool
  | 0, _ => false
  | n + 1, t => match P.underlying t with
    | some .bool => Nat.beq (P.cellsOf t) 1
    | some (.int _) => Nat.beq (P.cellsOf t) 1
    | some .string => Nat.beq (P.cellsOf t) 1
    | some (.slice e) => Nat.beq (P.cellsOf t) 1 && (Nat.ble 1 (P.cellsOf e) && okType P n e)
    | some (.struct fs) => (match fitsFrom P 0 fs.toList with | some k => Nat.beq k (P.cellsOf t) | none => false) && fs.toList.all fun f => okType P n f.type
    | some (.array m e) => Nat.beq (P.cellsOf t) (m * P.cellsOf e) && okType P n e
    | _ => false

/-- Cells that read as a value of a type, in a memory that holds what came in. -/
def WT (P : Program) (s : AHeap) : Nat → TypeId → List Value → Prop
  | 0, _, _ => False
  | n + 1, t, cs => match P.underlying t with
    | some .bool => ∃ b, cs = [.bool b]
    | some (.int k) => ∃ x, cs = [.int k x] ∧ (Lit.int k x).wf = true
    | some .string => ∃ x, cs = [.string x] ∧ x.size ≤ maxLen
    | some (.slice e) => cs = [.slice none 0 0] ∨ cs = [.slice (some ⟨0, 1, some 0⟩) 0 (P.cellsOf e)] ∨
        ∃ id css, cs = [.slice (some ⟨id, 0, some 0⟩) css.length (P.cellsOf e)] ∧ css ≠ [] ∧ (css.length ≤ maxLen ∧ css.length * P.bytesOf e ≤ reachBytes) ∧ s.get id = some ⟨css.flatten, 0, true, e⟩ ∧
          ∀ c ∈ css, c.length = P.cellsOf e ∧ WT P s n e c
    | some (.struct fs) => ∃ css : List (List Value), cs = css.flatten ∧ css.length = fs.size ∧ ∀ (i : Nat) f c, fs[i]? = some f → css[i]? = some c → c.length = P.cellsOf f.type ∧ WT P s n f.type c
    | some (.array m e) => ∃ css : List (List Value), cs = css.flatten ∧ css.length = m ∧ ∀ c ∈ css, c.length = P.cellsOf e ∧ WT P s n e c
    | _ => False

def AHeap.sub (s s' : AHeap) : Prop := ∀ i b, s.get i = some b → s'.get i = some b
def AHeap.allRo (s : AHeap) : Prop := ∀ i b, s.get i = some b → b.ro = true
theorem AHeap.sub_refl (s : AHeap) : s.sub s := fun _ _ h => h
theorem AHeap.sub_trans {a b c : AHeap} (h : a.sub b) (k : b.sub c) : a.sub c := fun i x hx => k i x (h i x hx)

theorem WT.mono {P : Program} {s s' : AHeap} (h : s.sub s') : ∀ (n : Nat) {t : TypeId} {cs : List Value}, WT P s n t cs → WT P s' n t cs := by
  intro n
  induction n with
  | zero => intro t cs hw; exact hw.elim
  | succ n ih =>
    intro t cs hw
    unfold WT at hw ⊢
    split at hw
    · exact hw
    · exact hw
    · exact hw
    · rcases hw with hw | hw | ⟨id, css, h1, h2, h3, h4, h5⟩
      · exact .inl hw
      · exact .inr (.inl hw)
      · exact .inr (.inr ⟨id, css, h1, h2, h3, h _ _ h4, fun c hc => ⟨(h5 c hc).1, ih (h5 c hc).2⟩⟩)
    · obtain ⟨css, h1, h2, h3⟩ := hw
      exact ⟨css, h1, h2, fun i f c hf hc => ⟨(h3 i f c hf hc).1, ih (h3 i f c hf hc).2⟩⟩
    · obtain ⟨css, h1, h2, h3⟩ := hw
      exact ⟨css, h1, h2, fun c hc => ⟨(h3 c hc).1, ih (h3 c hc).2⟩⟩
    · exact hw

section
variable {P : Program} {W : World} {H : Type} {enc : TypeId × Value → H}

/-- Opened so far. -/
structure Opn (W : World) (ρ : Rho) (s : AHeap) (ρ' : Rho) (s' : AHeap) : Prop where
  le : ρ.le ρ'
  sub : s.sub s'
  heap : HRel W.heap.size ρ' s' W
  ro : s'.allRo
theorem Opn.trans {ρ ρ' ρ'' : Rho} {s s' s'' : AHeap} (h : Opn W ρ s ρ' s') (k : Opn W ρ' s' ρ'' s'') : Opn W ρ s ρ'' s'' := ⟨Rho.le_trans h.le k.le, AHeap.sub_trans h.sub k.sub, k.heap, k.ro⟩

theorem CRel.mono {ρ ρ' : Rho} (h : ρ.le ρ') {cs cs' : List Value} (hc : CRel ρ cs cs') : CRel ρ' cs cs' := ⟨hc.1, fun i v v' a b => (hc.2 i v v' a b).mono h⟩
theorem CRel.append {ρ : Rho} {a a' b b' : List Value} (h : CRel ρ a a') (k : CRel ρ b b') : CRel ρ (a ++ b) (a' ++ b') := by
  refine ⟨by simp [h.1, k.1], fun i v v' hv hv' => ?_⟩
  rw [List.getElem?_append] at hv hv'
  rw [← h.1] at hv'
  by_cases hi : i < a.length
  · rw [if_pos hi] at hv hv'; exact h.2 i v v' hv hv'
  · rw [if_neg hi] at hv hv'; exact k.2 _ v v' hv hv'
theorem CRel.one1 {ρ : Rho} {v v' : Value} (h : VRel ρ v v') : CRel ρ [v] [v'] := by
  refine ⟨rfl, fun i u u' hu hu' => ?_⟩
  cases i with
  | zero => simp at hu hu'; subst hu; subst hu'; exact h
  | succ i => simp at hu

def OneT (P : Program) (W : World) (enc : TypeId × Value → H) (n : Nat) : Prop :=
  ∀ (t : TypeId) (cs' : List Value) (fuel : Nat) x, okType P n t = true → DataW.trod enc P W 0 (fun _ => true) true fuel t cs' = some x → (∀ k ∈ x.1.weights P t, k ≤ reachBytes) → ∀ ρ s, HRel W.heap.size ρ s W → s.allRo →
    ∃ ρ' s' cs, Opn W ρ s ρ' s' ∧ CRel ρ' cs cs' ∧ cs.all (·.oneCell') = true ∧ cs.length = P.cellsOf t ∧ WT P s' n t cs

/-- One type's values one behind the other. -/
theorem open_seq {n : Nat} (hn : OneT P W enc n) : ∀ (l : List (TypeId × List Value)), (∀ y ∈ l, okType P n y.1 = true ∧ ∃ fuel x, DataW.trod enc P W 0 (fun _ => true) true fuel y.1 y.2 = some x ∧ ∀ k ∈ x.1.weights P y.1, k ≤ reachBytes) → ∀ ρ s, HRel W.heap.size ρ s W → s.allRo →
    ∃ (ρ' : Rho) (s' : AHeap) (css : List (List Value)), Opn W ρ s ρ' s' ∧ CRel ρ' css.flatten (l.map (·.2)).flatten ∧ css.flatten.all (·.oneCell') = true ∧ css.length = l.length ∧ ∀ (i : Nat) y c, l[i]? = some y → css[i]? = some c → c.length = P.cellsOf y.1 ∧ WT P s' n y.1 c
  | [], _, ρ, s, h1, h2 => ⟨ρ, s, [], ⟨Rho.le_refl _, AHeap.sub_refl _, h1, h2⟩, ⟨rfl, by simp⟩, rfl, rfl, by simp⟩
  | y :: l, hl, ρ, s, h1, h2 => by
    obtain ⟨hok, fuel, x, ht, hwt⟩ := hl y (by simp)
    obtain ⟨ρ1, s1, cs, O1, C1, A1, N1, T1⟩ := hn y.1 y.2 fuel x hok ht hwt ρ s h1 h2
    obtain ⟨ρ2, s2, css, O2, C2, A2, L2, T2⟩ := open_seq hn l (fun z hz => hl z (by simp [hz])) ρ1 s1 O1.heap O1.ro
    refine ⟨ρ2, s2, cs :: css, O1.trans O2, ?_, ?_, by simp [L2], ?_⟩
    · simp only [List.flatten_cons, List.map_cons]
      exact (C1.mono O2.le).append C2
    · simp only [List.flatten_cons, List.all_append, A1, A2, Bool.and_self]
    · intro i z c hz hc
      cases i with
      | zero =>
        simp only [List.getElem?_cons_zero, Option.some.injEq] at hz hc
        subst hz; subst hc
        exact ⟨N1, T1.mono O2.sub⟩
      | succ i => exact T2 i z c (by simpa using hz) (by simpa using hc)

theorem push_ro {ρ : Rho} {s : AHeap} (h : HRel W.heap.size ρ s W) (hro : s.allRo) {r : Row} {cells : List Value} {e : TypeId} (hL : Lies ρ W r true cells) : Opn W ρ s (upd ρ s.size 0 r) (s.push ⟨cells, 0, true, e⟩) := by
  have hnone : ρ s.size 0 = none := by
    cases hx : ρ s.size 0 with
    | none => rfl
    | some x =>
      obtain ⟨blk, hb, _⟩ := h.dom _ _ _ hx
      exact absurd (AHeap.lt_of_get hb) (Nat.lt_irrefl _)
  have hle : ρ.le (upd ρ s.size 0 r) := upd_le (.inl hnone)
  have hget : ∀ id blk, (s.push ⟨cells, 0, true, e⟩).get id = some blk → (id = s.size ∧ blk = ⟨cells, 0, true, e⟩) ∨ (id ≠ s.size ∧ s.get id = some blk) := by
    intro id blk hb
    rw [AHeap.get_push] at hb
    split at hb
    · rename_i e; exact .inl ⟨e, by cases hb; rfl⟩
    · rename_i e; exact .inr ⟨e, hb⟩
  refine ⟨hle, fun i b hb => by rw [AHeap.get_push_old _ _ (AHeap.lt_of_get hb)]; exact hb, ⟨AHeap.wf_push h.wf _, h.base, ?_, ?_, ?_⟩, ?_⟩
  · intro id blk hb
    rcases hget id blk hb with ⟨rfl, rfl⟩ | ⟨hne, hb'⟩
    · exact ⟨r, upd_self _ _ _ _, LiesG.of (lies_upd hL hle) rfl, fun _ => hL.lt, by simp⟩
    · obtain ⟨r', h1, h2, h3, h4⟩ := h.rows id blk hb'
      exact ⟨r', hle _ _ _ h1, liesG_upd h2 hle, h3, h4⟩
  · intro id g r' hr
    unfold upd at hr
    split at hr
    · rename_i e
      obtain ⟨rfl, rfl⟩ := e
      exact ⟨_, AHeap.get_push_new _ _, Nat.le_refl _⟩
    · obtain ⟨blk, hb, hg⟩ := h.dom _ _ _ hr
      exact ⟨blk, by rw [AHeap.get_push_old _ _ (AHeap.lt_of_get hb)]; exact hb, hg⟩
  · intro id blk r1 id' blk' r2 hb hb' ho ho' h1 h2 hne
    rcases hget id blk hb with ⟨rfl, rfl⟩ | ⟨hn, hb1⟩
    · cases ho
    · rw [hro id blk hb1] at ho; cases ho
  · intro id blk hb
    rcases hget id blk hb with ⟨rfl, rfl⟩ | ⟨hn, hb1⟩
    · rfl
    · exact hro id blk hb1

theorem cells_get {a : Addr} {n : Nat} {cs : List Value} (h : W.cells? 0 a n = some cs) : cs.length = n ∧ ∀ j v, cs[j]? = some v → W.cell? (a.add j) = some v := by
  unfold World.cells? at h
  simp only [Nat.zero_le, if_true] at h
  have hl := mapM_some_length h
  refine ⟨by simpa using hl, fun j v hv => ?_⟩
  have hj : j < n := by
    have := (List.getElem?_eq_some_iff.1 hv).1
    have e : cs.length = n := by simpa using hl
    omega
  have := mapM_some_get h j j (by simp [hj])
  rw [this]; exact hv

theorem flat_get {css : List (List Value)} {z : Nat} (hz : ∀ c ∈ css, c.length = z) : ∀ i j c v, css[i]? = some c → c[j]? = some v → css.flatten[i * z + j]? = some v := by
  intro i
  induction css generalizing i with
  | nil => intro j c v hc; simp at hc
  | cons c0 css ih =>
    intro j c v hc hv
    have hz0 := hz c0 (by simp)
    have ihz := ih (fun c hc => hz c (by simp [hc]))
    cases i with
    | zero =>
      simp only [List.getElem?_cons_zero, Option.some.injEq] at hc
      subst hc
      have := (List.getElem?_eq_some_iff.1 hv).1
      rw [List.flatten_cons, Nat.zero_mul, Nat.zero_add, List.getElem?_append_left this]; exact hv
    | succ i =>
      rw [List.flatten_cons, List.getElem?_append_right (by rw [hz0, Nat.succ_mul]; omega), hz0]
      have e : (i + 1) * z + j - z = i * z + j := by rw [Nat.succ_mul]; omega
      rw [e]
      exact ihz i j c v (by simpa using hc) hv
theorem flat_len {css : List (List Value)} {z : Nat} (hz : ∀ c ∈ css, c.length = z) : css.flatten.length = css.length * z := by
  induction css with
  | nil => simp
  | cons c css ih => rw [List.flatten_cons, List.length_append, hz c (by simp), ih (fun c hc => hz c (by simp [hc])), List.length_cons, Nat.succ_mul]; omega
theorem fits_flat {css' : List (List Value)} : ∀ (fs : List Field) (cs : List Value) (off k : Nat), fitsFrom P off fs = some k → cs.length = k → off ≤ k ∧
    (fs.map fun f => (cs.drop f.offset).take (P.cellsOf f.type)).flatten = cs.drop off
  | [], cs, off, k, h, hl => by
    simp only [fitsFrom, Option.some.injEq] at h
    subst h
    exact ⟨Nat.le_refl _, by simp [List.drop_eq_nil_of_le (Nat.le_of_eq hl)]⟩
  | f :: fs, cs, off, k, h, hl => by
    simp only [fitsFrom] at h
    split at h
    · rename_i hb
      have hb' := Nat.eq_of_beq_eq_true hb
      obtain ⟨h1, h2⟩ := fits_flat (css' := css') fs cs _ k h hl
      refine ⟨by omega, ?_⟩
      simp only [List.map_cons, List.flatten_cons, h2, hb']
      rw [← List.drop_drop, List.take_append_drop]
    · cases h
theorem arr_flat (z : Nat) : ∀ (m : Nat) (cs : List Value), cs.length = m * z → ((List.range m).map fun i => (cs.drop (i * z)).take z).flatten = cs := by
  intro m
  induction m with
  | zero => intro cs h; simp at h; subst h; rfl
  | succ m ih =>
    intro cs h
    rw [List.range_succ_eq_map, List.map_cons, List.flatten_cons, List.map_map]
    have := ih (cs.drop z) (by rw [List.length_drop, h, Nat.succ_mul]; omega)
    have e : (List.range m).map ((fun i => (cs.drop (i * z)).take z) ∘ Nat.succ) = (List.range m).map fun i => ((cs.drop z).drop (i * z)).take z := by
      apply List.map_congr_left
      intro i _
      simp only [Function.comp, List.drop_drop]
      congr 2
      rw [Nat.succ_mul]; omega
    rw [e, this]
    simp

theorem weights_all {H : Type} {P : Program} {e : TypeId} : ∀ {l : List (DataW H)} {d : DataW H}, d ∈ l → ∀ k ∈ d.weights P e, k ∈ DataW.weightsAll P e l
  | d0 :: l, d, hd, k, hk => by
    simp only [DataW.weightsAll, List.mem_append]
    rcases List.mem_cons.1 hd with rfl | hd
    · exact .inl hk
    · exact .inr (weights_all hd k hk)
theorem open_one : ∀ n, OneT P W enc n := by
  intro n
  induction n with
  | zero => intro t cs' fuel x hok; cases hok
  | succ n ih =>
    intro t cs' fuel x hok ht hwt ρ s h1 h2
    have base : ∀ u, VRel ρ u u → cs' = [u] → u.oneCell' = true → P.cellsOf t = 1 → WT P s (n + 1) t [u] → ∃ ρ' s' cs, Opn W ρ s ρ' s' ∧ CRel ρ' cs cs' ∧ cs.all (·.oneCell') = true ∧ cs.length = P.cellsOf t ∧ WT P s' (n + 1) t cs := by
      intro u hu hc ho h1c hw
      subst hc
      exact ⟨ρ, s, [u], ⟨Rho.le_refl _, AHeap.sub_refl _, h1, h2⟩, CRel.one1 hu, by simp [ho], by simp [h1c], hw⟩
    unfold okType at hok
    split at hok
    · rename_i hu
      have hc1 := Nat.eq_of_beq_eq_true hok
      cases fuel with
      | zero => simp [DataW.trod] at ht
      | succ fuel =>
        unfold DataW.trod at ht
        rw [hu] at ht
        split at ht <;> simp_all
        rename_i b
        exact base (.bool b) (.bool b) rfl rfl (by unfold WT; rw [hu]; exact ⟨b, rfl⟩)
    · rename_i k hu
      have hc1 := Nat.eq_of_beq_eq_true hok
      obtain ⟨x, rfl, _, hw⟩ := DataW.trod_int hu ht
      exact base (.int k x) (.int k x) rfl rfl hc1 (by unfold WT; rw [hu]; exact ⟨x, rfl, hw⟩)
    · rename_i hu
      have hc1 := Nat.eq_of_beq_eq_true hok
      obtain ⟨x, rfl, _, hw⟩ := DataW.trod_string hu ht
      exact base (.string x) (.string x) rfl rfl hc1 (by unfold WT; rw [hu]; exact ⟨x, rfl, hw⟩)
    · rename_i e hu
      simp only [Bool.and_eq_true] at hok
      obtain ⟨o1, o2, o3⟩ := hok
      have o1' := Nat.eq_of_beq_eq_true o1
      have o2' := Nat.le_of_ble_eq_true o2
      rcases DataW.trod_slice hu ht with ⟨rfl, _⟩ | ⟨a, len, cap, elems, rest, m, rfl, rfl, rfl, _, hlc, hcm, hel, hget, _, _⟩
      · exact base _ .nilSlice rfl rfl o1' (by unfold WT; rw [hu]; exact .inl rfl)
      · by_cases h0 : len = 0
        · subst h0
          refine ⟨ρ, s, [.slice (some ⟨0, 1, some 0⟩) 0 (P.cellsOf e)], ⟨Rho.le_refl _, AHeap.sub_refl _, h1, h2⟩, CRel.one1 (.slice0 0 1 0 _ a cap (by omega)), rfl, by simp [o1'], ?_⟩
          unfold WT; rw [hu]; exact .inr (.inl rfl)
        · -- the elements' cells
          have hex : ∀ i, i < len → ∃ c y, W.cells? 0 (a.add (i * P.cellsOf e)) (P.cellsOf e) = some c ∧ DataW.trod enc P W 0 (fun _ => true) true m e c = some y ∧ ∀ k ∈ y.1.weights P e, k ≤ reachBytes := by
            intro i hi
            have hg := hget i hi
            have : elems[i]? = some (elems[i]'(by omega)) := by simp [hel, hi]
            rw [this] at hg
            obtain ⟨c, hc1, hc2⟩ := Option.bind_eq_some_iff.1 hg
            refine ⟨c, _, hc1, hc2, fun k hk => hwt k ?_⟩
            show k ∈ DataW.weights P t (.slice (elems.map (·.1)) (rest.map (·.1)))
            unfold DataW.weights
            rw [hu]
            simp only [List.mem_cons, List.mem_append]
            exact .inr (.inl (weights_all (List.mem_map.2 ⟨_, List.getElem_mem _, rfl⟩) k hk))
          let C : Nat → List Value := fun i => (W.cells? 0 (a.add (i * P.cellsOf e)) (P.cellsOf e)).getD []
          have hC : ∀ i, i < len → W.cells? 0 (a.add (i * P.cellsOf e)) (P.cellsOf e) = some (C i) ∧ ∃ y, DataW.trod enc P W 0 (fun _ => true) true m e (C i) = some y ∧ ∀ k ∈ y.1.weights P e, k ≤ reachBytes := by
            intro i hi
            obtain ⟨c, y, q1, q2⟩ := hex i hi
            have : C i = c := by simp [C, q1]
            rw [this]; exact ⟨q1, y, q2⟩
          obtain ⟨ρ1, s1, css, O1, C1, A1, L1, T1⟩ := open_seq ih ((List.range len).map fun i => (e, C i)) (by
            intro y hy
            simp only [List.mem_map, List.mem_range] at hy
            obtain ⟨i, hi, rfl⟩ := hy
            exact ⟨o3, m, _, (hC i hi).2.choose_spec.1, (hC i hi).2.choose_spec.2⟩) ρ s h1 h2
          have L1' : css.length = len := by simpa using L1
          have hcl : ∀ c ∈ css, c.length = P.cellsOf e ∧ WT P s1 n e c := by
            intro c hc
            obtain ⟨i, hi⟩ := List.mem_iff_getElem?.1 hc
            have hlt : i < len := by rw [← L1']; exact (List.getElem?_eq_some_iff.1 hi).1
            exact T1 i (e, C i) c (by simp [hlt]) hi
          -- where they lie
          have hcell : ∀ (i j : Nat) v, i < len → (C i)[j]? = some v → W.cell? ⟨a.block, a.off + (i * P.cellsOf e + j), none⟩ = some v := by
            intro i j v hi hv
            have := (cells_get (hC i hi).1).2 j v hv
            have e2 : (a.add (i * P.cellsOf e)).add j = ⟨a.block, a.off + (i * P.cellsOf e + j), none⟩ := by
              have hsp : ∀ (x : Addr) u, W.cell? x = some u → x.spot = none := by
                intro x u hx
                unfold World.cell? at hx
                split at hx
                · cases hs : x.spot with
                  | none => rfl
                  | some q => simp [hs] at hx
                · cases hx
              have hs := hsp _ _ this
              have hblk : ((a.add (i * P.cellsOf e)).add j).block = a.block := by unfold Addr.add; split <;> split <;> simp_all
              have hoff : ((a.add (i * P.cellsOf e)).add j).off = a.off + (i * P.cellsOf e + j) := by
                unfold Addr.add
                split
                · split <;> simp_all
                · split
                  · simp_all
                  · simp [Nat.add_assoc]
              generalize (a.add (i * P.cellsOf e)).add j = q at *
              obtain ⟨qb, qo, qs⟩ := q
              simp only at hs hblk hoff
              rw [hs, hblk, hoff]
            rw [← e2]; exact this
          have hflat : ((List.range len).map fun i => ((e, C i) : TypeId × List Value)).map (·.2) = (List.range len).map C := by simp [Function.comp_def]
          rw [hflat] at C1
          have hClen : ∀ c ∈ (List.range len).map C, c.length = P.cellsOf e := by
            intro c hc
            simp only [List.mem_map, List.mem_range] at hc
            obtain ⟨i, hi, rfl⟩ := hc
            exact (cells_get (hC i hi).1).1
          have hfl := flat_len hClen
          simp only [List.length_map, List.length_range] at hfl
          -- the block is there
          have hpos : 0 < P.cellsOf e := o2'
          have hat : ∀ k v, ((List.range len).map C).flatten[k]? = some v → W.cell? ⟨a.block, a.off + k, none⟩ = some v := by
            intro k v hv
            have hk : k < len * P.cellsOf e := by rw [← hfl]; exact (List.getElem?_eq_some_iff.1 hv).1
            have hi : k / P.cellsOf e < len := Nat.div_lt_of_lt_mul (by rw [Nat.mul_comm]; exact hk)
            have hj : k % P.cellsOf e < P.cellsOf e := Nat.mod_lt _ hpos
            have hcl2 := (cells_get (hC _ hi).1).1
            have hx : (C (k / P.cellsOf e))[k % P.cellsOf e]? = some ((C (k / P.cellsOf e))[k % P.cellsOf e]'(by rw [hcl2]; exact hj)) := by simp [hcl2, hj]
            have hk2 : k / P.cellsOf e * P.cellsOf e + k % P.cellsOf e = k := by rw [Nat.mul_comm]; exact Nat.div_add_mod k _
            have h3 := flat_get hClen (k / P.cellsOf e) (k % P.cellsOf e) (C (k / P.cellsOf e)) _ (by simp [hi]) hx
            rw [hk2, hv] at h3
            cases h3
            have := hcell _ _ _ hi hx
            rw [hk2] at this; exact this
          have hblock : ∃ cur el fz, W.heap[a.block]? = some (.cells cur el fz) ∧ a.off + len * P.cellsOf e ≤ cur.size := by
            have hlast : len * P.cellsOf e - 1 < ((List.range len).map C).flatten.length := by
              rw [hfl]
              have := Nat.mul_pos (Nat.pos_of_ne_zero h0) hpos
              omega
            have := hat (len * P.cellsOf e - 1) _ (List.getElem?_eq_getElem hlast)
            unfold World.cell? at this
            split at this
            · rename_i cur el fz hb
              refine ⟨cur, el, fz, hb, ?_⟩
              simp only [Option.isSome_none, Bool.false_eq_true, if_false] at this
              have := (Array.getElem?_eq_some_iff.1 this).1
              have := Nat.mul_pos (Nat.pos_of_ne_zero h0) hpos
              omega
            · cases this
          obtain ⟨cur, el, fz, hb, hsz⟩ := hblock
          have hL : Lies ρ1 W ⟨a.block, a.off, cap * P.cellsOf e, e⟩ true css.flatten := by
            refine ⟨cur, el, fz, hb, ?_, by simp, fun i v hv => ⟨all_one A1 i v hv, ?_⟩⟩
            · rw [flat_len (fun c hc => (hcl c hc).1), L1']; exact hsz
            · have hi2 : i < ((List.range len).map C).flatten.length := by rw [← C1.1]; exact (List.getElem?_eq_some_iff.1 hv).1
              have hv' := List.getElem?_eq_getElem hi2
              have hc := hat i _ hv'
              refine ⟨_, ?_, C1.2 i v _ hv hv'⟩
              unfold World.cell? at hc
              simpa [hb] using hc
          have O2 := push_ro (e := e) O1.heap O1.ro hL
          refine ⟨_, _, [.slice (some ⟨s1.size, 0, some 0⟩) css.length (P.cellsOf e)], O1.trans O2, CRel.one1 ?_, rfl, by simp [o1'], ?_⟩
          · rw [L1']
            have h := VRel.slice (ρ := upd ρ1 s1.size 0 ⟨a.block, a.off, cap * P.cellsOf e, e⟩) s1.size 0 0 ⟨a.block, a.off, cap * P.cellsOf e, e⟩ len (P.cellsOf e) a.off cap (upd_self _ _ _ _) hlc (.inr rfl) (fun _ => ⟨rfl, rfl, hcm⟩) rfl
            have hsp : a.spot = none := by
              have hc0 := hcell 0 0
              have hi0 : 0 < len := Nat.pos_of_ne_zero h0
              have hcl0 := (cells_get (hC 0 hi0).1).1
              have := (cells_get (hC 0 hi0).1).2 0 ((C 0)[0]'(by rw [hcl0]; exact hpos)) (by simp [hcl0, hpos])
              have e3 : (a.add (0 * P.cellsOf e)).add 0 = a := by simp [Addr.add]
              rw [e3] at this
              unfold World.cell? at this
              split at this
              · cases hs : a.spot with
                | none => rfl
                | some q => simp [hs] at this
              · cases this
            obtain ⟨ab, ao, as⟩ := a
            simp only at hsp; subst hsp
            exact h
          · unfold WT; rw [hu]
            refine .inr (.inr ⟨s1.size, css, rfl, ?_, ⟨by rw [L1']; omega, ?_⟩, AHeap.get_push_new _ _, fun c hc => ⟨(hcl c hc).1, (hcl c hc).2.mono O2.sub⟩⟩)
            · intro e4; rw [e4] at L1'; simp at L1'; omega
            · have hk := hwt ((elems.length + rest.length) * P.bytesOf e) (by
                show _ ∈ DataW.weights P t (.slice (elems.map (·.1)) (rest.map (·.1)))
                unfold DataW.weights
                rw [hu]
                simp)
              rw [L1', ← hel]
              exact Nat.le_trans (Nat.mul_le_mul_right _ (Nat.le_add_right _ _)) hk
    · rename_i fs hu
      simp only [Bool.and_eq_true, List.all_eq_true] at hok
      obtain ⟨o1, o2⟩ := hok
      obtain ⟨xs, m, rfl, rfl, hl, hxl, hf⟩ := DataW.trod_struct hu ht
      split at o1
      · rename_i k hk
        have hk' := Nat.eq_of_beq_eq_true o1
        subst hk'
        obtain ⟨_, hfl⟩ := fits_flat (P := P) (css' := []) fs.toList cs' 0 _ hk hl
        obtain ⟨ρ1, s1, css, O1, C1, A1, L1, T1⟩ := open_seq ih (fs.toList.map fun f => (f.type, (cs'.drop f.offset).take (P.cellsOf f.type))) (by
          intro y hy
          simp only [List.mem_map] at hy
          obtain ⟨f, hfm, rfl⟩ := hy
          obtain ⟨i, hi⟩ := List.mem_iff_getElem?.1 hfm
          have := hf i f (by simpa using hi)
          have hlt : i < xs.length := by rw [hxl]; have := (List.getElem?_eq_some_iff.1 hi).1; simpa using this
          refine ⟨o2 f hfm, m, xs[i], by rw [this]; simp [hlt], fun k hk => hwt k ?_⟩
          show k ∈ DataW.weights P t (.agg (xs.map (·.1)))
          unfold DataW.weights
          rw [hu]
          exact DataW.weights_mem_each (j := i) (t := f.type) (d := xs[i].1) (by rw [List.getElem?_map, hi]; rfl) (by rw [List.getElem?_map, List.getElem?_eq_getElem hlt]; rfl) k hk) ρ s h1 h2
        have e1 : (fs.toList.map fun f => ((f.type, (cs'.drop f.offset).take (P.cellsOf f.type)) : TypeId × List Value)).map (·.2) = fs.toList.map fun f => (cs'.drop f.offset).take (P.cellsOf f.type) := by simp [Function.comp_def]
        rw [e1, hfl, List.drop_zero] at C1
        refine ⟨ρ1, s1, css.flatten, O1, C1, A1, by rw [C1.1, hl], ?_⟩
        unfold WT; rw [hu]
        refine ⟨css, rfl, by simpa using L1, fun i f c hfi hci => ?_⟩
        exact T1 i (f.type, _) c (by rw [List.getElem?_map, Array.getElem?_toList, hfi]; rfl) hci
      · cases o1
    · rename_i m' e hu
      simp only [Bool.and_eq_true] at hok
      have o1' := Nat.eq_of_beq_eq_true hok.1
      cases fuel with
      | zero => simp [DataW.trod] at ht
      | succ fuel =>
        unfold DataW.trod at ht
        rw [hu] at ht
        simp only at ht
        split at ht
        · rename_i hl
          obtain ⟨xs, hx, rfl⟩ := Option.map_eq_some_iff.1 ht
          have hxl := mapM_some_length hx
          obtain ⟨ρ1, s1, css, O1, C1, A1, L1, T1⟩ := open_seq ih ((List.range m').map fun i => (e, (cs'.drop (i * P.cellsOf e)).take (P.cellsOf e))) (by
            intro y hy
            simp only [List.mem_map, List.mem_range] at hy
            obtain ⟨i, hi, rfl⟩ := hy
            have := mapM_some_get hx i i (by simp [hi])
            have hlt : i < xs.length := by rw [hxl]; simpa using hi
            refine ⟨hok.2, fuel, xs[i], by rw [this]; simp [hlt], fun k hk => hwt k ?_⟩
            show k ∈ DataW.weights P t (.agg (xs.map (·.1)))
            unfold DataW.weights
            rw [hu]
            exact weights_all (List.mem_map.2 ⟨_, List.getElem_mem hlt, rfl⟩) k hk) ρ s h1 h2
          have e1 : ((List.range m').map fun i => ((e, (cs'.drop (i * P.cellsOf e)).take (P.cellsOf e)) : TypeId × List Value)).map (·.2) = (List.range m').map fun i => (cs'.drop (i * P.cellsOf e)).take (P.cellsOf e) := by simp [Function.comp_def]
          rw [e1, arr_flat _ _ _ (by rw [hl, o1'])] at C1
          refine ⟨ρ1, s1, css.flatten, O1, C1, A1, by rw [C1.1, hl], ?_⟩
          unfold WT; rw [hu]
          refine ⟨css, rfl, by simpa using L1, fun c hc => ?_⟩
          obtain ⟨i, hi⟩ := List.mem_iff_getElem?.1 hc
          have hlt : i < m' := by have := (List.getElem?_eq_some_iff.1 hi).1; rw [L1] at this; simpa using this
          exact T1 i (e, _) c (by simp [hlt]; rfl) hi
        · cases ht
    · cases hok
end
end Go.Proofs.Ytimeninncpmaeaa.Abs
