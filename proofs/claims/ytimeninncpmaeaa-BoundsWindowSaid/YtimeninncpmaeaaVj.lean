/-
  Regions that draw their order: one eager order serves every order.
-/
import Derived.Test.YtimeninncpmaeaaVi
namespace Go.Proofs.Ytimeninncpmaeaa.Abs
open Go
set_option linter.unusedVariables false
set_option linter.unusedSimpArgs false

def aAny (P : Program) (L : List Nat) (ops : Array Oper) (fr : Nat → Bool) (K : AS → Prop) : Nat → Array Bool → AS → Prop
  | 0, listed, s => known s ∧ s.h.wf → Region.ready .any ops listed = [] ∧ K s
  | fuel + 1, listed, s => known s ∧ s.h.wf → (Region.ready .any ops listed = [] → K s) ∧ ∀ i ∈ Region.ready .any ops listed, AOneR P L (fr i) ops i (aAny P L ops fr K fuel (listed.setIfInBounds i true)) s

/-- Whether an operation waits for another one, or for one that waits for it, and so on. -/
inductive Dep (ops : Array Oper) (i : Nat) : Nat → Prop
  | here {j : Nat} {oj : Oper} {e : Edge} : ops[j]? = some oj → e ∈ oj.after → Region.binds .any e = true → e.on = i → Dep ops i j
  | far {j : Nat} {oj : Oper} {e : Edge} : ops[j]? = some oj → e ∈ oj.after → Region.binds .any e = true → Dep ops i e.on → Dep ops i j
def depGo (i : Nat) : List Oper → List Bool → List Bool
  | [], acc => acc
  | o :: r, acc => depGo i r (acc ++ [o.after.toList.any fun e => Region.binds .any e && (Nat.beq e.on i || acc.getD e.on false)])
def depB (ops : Array Oper) (i j : Nat) : Bool := (depGo i ops.toList []).getD j false
theorem depGo_dep {ops : Array Oper} {i : Nat} : ∀ (l : List Oper) (acc : List Bool), (∀ j, acc.getD j false = true → Dep ops i j) → (∀ t, l[t]? = ops[acc.length + t]?) → ∀ j, (depGo i l acc).getD j false = true → Dep ops i j
  | [], acc, h, _, j, hj => h j hj
  | o :: r, acc, h, hl, j, hj => by
    refine depGo_dep r _ ?_ ?_ j hj
    · intro j hj
      rcases Nat.lt_or_ge j acc.length with hlt | hge
      · rw [List.getD_eq_getElem?_getD, List.getElem?_append_left hlt, ← List.getD_eq_getElem?_getD] at hj
        exact h j hj
      · rw [List.getD_eq_getElem?_getD, List.getElem?_append_right hge] at hj
        by_cases hz : j - acc.length = 0
        · have hj0 : j = acc.length := by omega
          rw [hz] at hj
          simp only [List.getElem?_cons_zero, Option.getD_some, List.any_eq_true, Bool.and_eq_true, Bool.or_eq_true] at hj
          obtain ⟨e, he, hb, h1⟩ := hj
          have ho : ops[j]? = some o := by have := hl 0; simp at this; rw [hj0]; exact this.symm
          rcases h1 with h1 | h1
          · exact .here ho (by simpa using he) hb (Nat.eq_of_beq_eq_true h1)
          · exact .far ho (by simpa using he) hb (h e.on h1)
        · have : ([o.after.toList.any fun e => Region.binds .any e && (Nat.beq e.on i || acc.getD e.on false)] : List Bool)[j - acc.length]? = none := by
            rw [List.getElem?_eq_none]; simp; omega
          rw [this] at hj; cases hj
    · intro t
      have := hl (t + 1)
      simp only [List.getElem?_cons_succ] at this
      rw [this]
      simp only [List.length_append, List.length_cons, List.length_nil]
      congr 1; omega
theorem depB_dep {ops : Array Oper} {i j : Nat} (h : depB ops i j = true) : Dep ops i j := depGo_dep ops.toList [] (by simp) (by simp) j h
theorem getD_ft {a : Array Bool} {i : Nat} (h : a.getD i false = true) : a.getD i true = true := by
  unfold Array.getD at *
  split at h <;> simp_all
def Down (ops : Array Oper) (listed : Array Bool) : Prop := ∀ k ok, ops[k]? = some ok → listed.getD k true = true → ∀ e ∈ ok.after, Region.binds .any e = true → listed.getD e.on true = true
theorem dep_listed {ops : Array Oper} {listed : Array Bool} (hd : Down ops listed) {i j : Nat} (h : Dep ops i j) : (∀ oj, ops[j]? = some oj → ∀ e ∈ oj.after, Region.binds .any e = true → listed.getD e.on true = true) → listed.getD i true = true := by
  induction h with
  | here ho he hb h1 => intro hj; rw [← h1]; exact hj _ ho _ he hb
  | far ho he hb _ ih => intro hj; exact ih fun oj' ho' e' he' hb' => hd _ oj' ho' (hj _ ho _ he hb) e' he' hb'
/-- Where a store writes is known, and nothing that is still to come changes that. -/
def keepB (ops : Array Oper) (listed : Array Bool) (oj : Oper) : Bool := match oj.op with
  | .store _ (.tmp d) _ => (List.range ops.size).all fun k => listed.getD k true || match ops[k]? with
    | some o => match o.dst with
      | some d' => !(Nat.beq d' d)
      | none => true
    | none => true
  | _ => match isApp oj with
    | some (.tmp d) => (List.range ops.size).all fun k => listed.getD k true || match ops[k]? with
      | some o => match o.dst with
        | some d' => !(Nat.beq d' d)
        | none => true
      | none => true
    | _ => true
theorem keepB_kept {ops : Array Oper} {listed : Array Bool} {oj o : Oper} {j : Nat} (h : keepB ops listed oj = true) (hj : ops[j]? = some o) (hun : listed.getD j true = false) {s s' : AS} (hk : Kept o s s') : storeLoc oj s'.t = storeLoc oj s.t := by
  unfold storeLoc
  split
  · rename_i ty ad x hop
    have : aev s'.t ad = aev s.t ad := by
      refine hk ad fun d hd e => ?_
      subst e
      simp only [keepB, hop, List.all_eq_true, List.mem_range] at h
      have h1 := h j (Array.getElem?_eq_some_iff.1 hj).1
      simp [hun, hj, hd] at h1
    rw [this]
  · rfl
theorem keepB_saddr {ops : Array Oper} {listed : Array Bool} {oj o : Oper} {j : Nat} (h : keepB ops listed oj = true) (hj : ops[j]? = some o) (hun : listed.getD j true = false) {s s' : AS} (hk : Kept o s s') : saddr oj s'.t = saddr oj s.t := by
  unfold saddr
  split
  · rename_i ty ad x hop
    have : aev s'.t ad = aev s.t ad := by
      refine hk ad fun d hd e => ?_
      subst e
      simp only [keepB, hop, List.all_eq_true, List.mem_range] at h
      have h1 := h j (Array.getElem?_eq_some_iff.1 hj).1
      simp [hun, hj, hd] at h1
    rw [this]
  · rename_i hns
    split
    · rename_i x hx
      have : aev s'.t x = aev s.t x := by
        refine hk x fun d hd e => ?_
        subst e
        unfold keepB at h
        split at h
        · rename_i ty d' y hop; exact hns _ _ _ hop
        · rw [hx] at h
          simp only [List.all_eq_true, List.mem_range] at h
          have h1 := h j (Array.getElem?_eq_some_iff.1 hj).1
          simp [hun, hj, hd] at h1
      rw [this]
    · rfl
theorem getD_set_of {a : Array Bool} {i k : Nat} (h : a.getD k true = true) : (a.setIfInBounds i true).getD k true = true := by
  by_cases hik : i = k
  · subst hik; simp [Array.getD]
  · rw [getD_set_ne true hik]; exact h
theorem keepB_mono {ops : Array Oper} {listed : Array Bool} {oj : Oper} {i : Nat} (h : keepB ops listed oj = true) : keepB ops (listed.setIfInBounds i true) oj = true := by
  unfold keepB at h ⊢
  split at h
  · rename_i ty d x hop
    rw [List.all_eq_true] at h ⊢
    intro k hk
    have h1 := h k hk
    rw [Bool.or_eq_true] at h1 ⊢
    rcases h1 with h1 | h1
    · exact .inl (getD_set_of h1)
    · exact .inr h1
  · split at h
    · rename_i d hx
      rw [List.all_eq_true] at h ⊢
      intro k hk
      have h1 := h k hk
      rw [Bool.or_eq_true] at h1 ⊢
      rcases h1 with h1 | h1
      · exact .inl (getD_set_of h1)
      · exact .inr h1
    · rfl
/-- Which calls of an order leave the memory alone. -/
def frOf (l : List (Nat × Nat)) (i : Nat) : Bool := l.any fun p => Nat.beq p.1 i && Nat.beq p.2 1
def takeB (ops : Array Oper) (fr : Nat → Bool) (listed : Array Bool) (i : Nat) (need : Nat) : Bool := match ops[i]? with
  | none => false
  | some oi => (List.range ops.size).all fun j => j == i || (listed.getD j true || match ops[j]? with
    | some oj => depB ops i j || (oi.apart ops oj && (opKind oj != 6 && (opKind oi != 1 || ((opKind oj != 3 || (Nat.ble 2 need && keepB ops listed oj && need != 4)) && (opKind oj != 4 || (need == 1 || ((Nat.ble 3 need && fr j) || (need == 6 && ((isApp oj).isSome && (keepB ops listed oj && !(fr j)))))))))))
    | none => true)
/-- A maker may come first: what does not wait for it are values, boxes and other makers. -/
def mkFirstB (ops : Array Oper) (listed : Array Bool) (i : Nat) : Bool := match ops[i]? with
  | some oi => isMk oi && (oi.guard.isNone && ((Region.ready .any ops listed).contains i && (List.range ops.size).all fun j => j == i || (listed.getD j true || match ops[j]? with
    | some oj => depB ops i j || (oi.apart ops oj && (opKind oj == 0 || (opKind oj == 2 || isMk oj)))
    | none => true)))
  | none => false
def eagerB (ops : Array Oper) (fr : Nat → Bool) : List (Nat × Nat) → Array Bool → Bool
  | [], listed => (Region.ready .any ops listed).isEmpty
  | (i, m) :: r, listed => (match m with
    | 0 => Region.ready .any ops listed == [i] && !(fr i)
    | 1 => (Region.ready .any ops listed == [i] || mkFirstB ops listed i) && fr i
    | m + 2 => (Region.ready .any ops listed).contains i && takeB ops fr listed i m) && eagerB ops fr r (listed.setIfInBounds i true)
def AEag (P : Program) (L : List Nat) (ops : Array Oper) (K : AS → Prop) : List (Nat × Nat) → AS → Prop
  | [], s => K s
  | (i, 0) :: r, s => AOne P L ops i (AEag P L ops K r) s
  | (i, 1) :: r, s => AOneF P L true ops i (AEag P L ops K r) s
  | (i, m + 2) :: r, s => match ops[i]? with
    | some o => match aEff P L ops o s with
      | some e => modeB ops m o s.t = true ∧ AEag P L ops K r (s.eff o.dst e)
      | none => False
    | none => False

section
variable {P : Program} {L : List Nat} {ops : Array Oper}

theorem aEff_fresh {o : Oper} {s : AS} {e : Eff} (h : aEff P L ops o s = some e) : ∀ d, o.dst = some d → e.box ≠ none → lget s.l d = none := by
  intro d hd hb
  have val : valEff (aVal P o s) = some e → e.box = none := by
    intro hv
    cases ha : aVal P o s with
    | none => rw [ha] at hv; cases hv
    | some v => rw [ha] at hv; cases hv; rfl
  unfold aEff at h
  split at h
  · cases h; exact absurd rfl hb
  · split at h
    · exact absurd (val h) hb
    · exact absurd (val h) hb
    · unfold aBoxEff at h
      split at h
      · rename_i cells d' hc hd'
        split at h
        · rename_i h1 h2
          rw [hd] at hd'; cases hd'; exact h2
        · cases h
      · cases h
    · cases h
  · cases h

theorem known_set {s : AS} (hs : known s) {l : Locs} {h' : AHeap} {dst : Option Tmp} {v : Value} (hl : ∀ k, lget s.l k ≠ none → lget l k ≠ none) (hv : ∀ k off, v = .pointer (some ⟨k, off, none⟩) → lget l k ≠ none) : known ⟨tput s.t dst v, l, h'⟩ := by
  intro i k off h
  cases dst with
  | none => exact hl k (hs i k off h)
  | some d =>
    simp only [tput] at h
    rw [List.getElem?_set] at h
    split at h
    · split at h
      · cases h; exact hv k off rfl
      · cases h
    · exact hl k (hs i k off h)

theorem known_eff {o : Oper} {s : AS} {e : Eff} (hs : known s) (h : aEff P L ops o s = some e) : known (s.eff o.dst e) := by
  have val : valEff (aVal P o s) = some e → known (s.eff o.dst e) := by
    intro hv
    cases ha : aVal P o s with
    | none => rw [ha] at hv; cases hv
    | some v =>
      rw [ha] at hv; cases hv
      have : s.eff o.dst ⟨v, none⟩ = ⟨tput s.t o.dst v, s.l, s.h⟩ := by unfold AS.eff lput; cases o.dst <;> rfl
      rw [this]
      exact known_set hs (fun k hk => hk) (fun k off e => aVal_known hs ha e)
  unfold aEff at h
  split at h
  · cases h
    have : s.eff o.dst ⟨undef, none⟩ = ⟨tput s.t o.dst undef, s.l, s.h⟩ := by unfold AS.eff lput; cases o.dst <;> rfl
    rw [this]
    exact known_set hs (fun k hk => hk) (fun k off e => by cases e)
  · split at h
    · exact val h
    · exact val h
    · unfold aBoxEff at h
      split at h
      · rename_i cells d hc hd
        split at h
        · rename_i h1 h2
          cases h
          rw [hd]
          refine known_set hs ?_ ?_
          · intro k hk
            simp only [lput]
            rw [lget_lset]
            split
            · simp
            · exact hk
          · intro k off e
            cases e
            simp only [lput]
            rw [lget_lset, if_pos rfl]
            simp
        · cases h
      · cases h
    · cases h
  · cases h

theorem isApp_kind {o : Oper} (h : (isApp o).isSome = true) : opKind o = 4 := by
  obtain ⟨x, hx⟩ := Option.isSome_iff_exists.1 h
  unfold isApp at hx
  split at hx
  · rename_i c hop
    split at hx
    · rename_i x' y' hcal hargs
      simp [opKind, hop, hcal]
    · cases hx
  · cases hx
theorem aAny_first {K : AS → Prop} {fr : Nat → Bool} {i : Nat} {oi : Oper} {e : Eff} {need : Nat} (hi : ops[i]? = some oi) :
    ∀ (fuel : Nat) (listed : Array Bool) (s : AS),
      Down ops listed →
      (∀ j oj, ops[j]? = some oj → j ≠ i → listed.getD j true = false → depB ops i j = false →
        oi.apart ops oj = true ∧ opKind oj ≠ 6 ∧ (opKind oi = 1 → opKind oj = 3 → 2 ≤ need ∧ keepB ops listed oj = true) ∧ (opKind oi = 1 → opKind oj = 4 → need = 1 ∨ ((2 ≤ need ∧ fr j = true) ∨ (need = 6 ∧ (isApp oj).isSome = true ∧ keepB ops listed oj = true ∧ fr j = false)))) →
      i ∈ Region.ready .any ops listed → aEff P L ops oi s = some e → (need = 1 → notW ops oi s.t = true ∨ loadLoc oi s.t = true) → (2 ≤ need → ∀ j oj, ops[j]? = some oj → j ≠ i → listed.getD j true = false → (opKind oj = 3 ∨ (need = 6 ∧ (isApp oj).isSome = true ∧ fr j = false)) → depB ops i j = false → opKind oi = 1 → notW ops oi s.t = true ∨ stAp oi oj s.t = true) →
      aAny P L ops fr K fuel (listed.setIfInBounds i true) (s.eff oi.dst e) → aAny P L ops fr K (fuel + 1) listed s := by
  intro fuel
  induction fuel with
  | zero =>
    intro listed s _ _ hr he hn _ H hs
    obtain ⟨hs, hwf⟩ := hs
    obtain ⟨H1, H2⟩ := H ⟨known_eff hs he, hwf⟩
    refine ⟨fun h => (by rw [h] at hr; cases hr), fun j hj => ?_⟩
    by_cases hji : j = i
    · subst hji; exact .of (.inl (AOne_of_eff hi he (fun _ => ⟨H1, H2⟩)))
    · have := ready_mono hj hji
      rw [H1] at this
      cases this
  | succ fuel ih =>
    intro listed s hdown hfree hr he hn hm H hs
    refine ⟨fun h => (by rw [h] at hr; cases hr), fun j hj => ?_⟩
    by_cases hji : j = i
    · subst hji; exact .of (.inl (AOne_of_eff hi he H))
    · obtain ⟨hs, hwf⟩ := hs
      obtain ⟨r, h1⟩ := (H ⟨known_eff hs he, hwf⟩).2 j (ready_mono hj hji)
      refine ⟨r, ?_⟩
      obtain ⟨hjun, oj, hoj, hall⟩ := mem_ready.1 hj
      have hun : listed.getD i true = false := (mem_ready.1 hr).1
      have hnot : depB ops i j = false := by
        cases hdp : depB ops i j with
        | false => rfl
        | true =>
          have := dep_listed hdown (depB_dep hdp) (fun oj' ho' e he hb => by rw [hoj] at ho'; cases ho'; exact getD_ft (hall e he hb))
          rw [hun] at this; cases this
      have hdown' : Down ops (listed.setIfInBounds j true) := by
        intro k ok hk hl e he hb
        by_cases hje : j = e.on
        · rw [← hje]; simp [Array.getD]
        · rw [getD_set_ne true hje]
          by_cases hjk : j = k
          · subst hjk; rw [hoj] at hk; cases hk; exact getD_ft (hall e he hb)
          · rw [getD_set_ne true hjk] at hl
            exact hdown k ok hk hl e he hb
      obtain ⟨f1, f2, f3, f4⟩ := hfree j oj hoj hji hjun hnot
      have h2 := AOne_commG (s := ⟨s.t, s.l, s.h.rsv r⟩) hoj f1 (AHeap.rsv_wf hwf r) hs (aEff_rsv he r) (aEff_fresh (aEff_rsv he r)) f2 (fun a b => hm (f3 a b).1 j oj hoj hji hjun (.inl b) hnot a) (fun a b => (f4 a b).elim (fun h => .inl (.inl (hn h))) (fun h => h.elim (fun h => .inl (.inr h.2)) (fun h => .inr ⟨h.2.1, hm (by omega) j oj hoj hji hjun (.inr ⟨h.1, h.2.1, h.2.2.2⟩) hnot a⟩))) h1
      have hfree' : ∀ k ok, ops[k]? = some ok → k ≠ i → (listed.setIfInBounds j true).getD k true = false →
          depB ops i k = false →
          oi.apart ops ok = true ∧ opKind ok ≠ 6 ∧ (opKind oi = 1 → opKind ok = 3 → 2 ≤ need ∧ keepB ops (listed.setIfInBounds j true) ok = true) ∧ (opKind oi = 1 → opKind ok = 4 → need = 1 ∨ ((2 ≤ need ∧ fr k = true) ∨ (need = 6 ∧ (isApp ok).isSome = true ∧ keepB ops (listed.setIfInBounds j true) ok = true ∧ fr k = false))) := fun k ok hk hki hun hno => by
        obtain ⟨g1, g2, g3, g4⟩ := hfree k ok hk hki (by
          by_cases hjk : j = k
          · subst hjk; exact hjun
          · rw [getD_set_ne true hjk] at hun; exact hun) hno
        exact ⟨g1, g2, fun a b => ⟨(g3 a b).1, keepB_mono (g3 a b).2⟩, fun a b => (g4 a b).imp id fun h => h.imp id fun h => ⟨h.1, h.2.1, keepB_mono h.2.2.1, h.2.2.2⟩⟩
      refine AOneG_mono (fun s' h3 => ?_) h2
      obtain ⟨q1, q2, q3, q5, q4⟩ := h3
      refine ih (listed.setIfInBounds j true) s' hdown' hfree' (ready_mono hr (Ne.symm hji)) q1 (fun hnn => by unfold notW; rw [q2.1, q2.2.1]; exact hn hnn) (fun hnn k ok hk hki hun h3 hno hoi => ?_) ?_
      · have hun' : listed.getD k true = false := by
          by_cases hjk : j = k
          · subst hjk; exact hjun
          · rw [getD_set_ne true hjk] at hun; exact hun
        have hkp : keepB ops listed ok = true := by
          have hfk := hfree k ok hk hki hun' hno
          rcases h3 with h3 | ⟨n6, ha, hf⟩
          · exact (hfk.2.2.1 hoi h3).2
          · have k4 : opKind ok = 4 := isApp_kind ha
            rcases hfk.2.2.2 hoi k4 with h | h | h
            · omega
            · rw [hf] at h; cases h.2
            · exact h.2.2.1
        have q6 : stAp oi ok s'.t = stAp oi ok s.t := by unfold stAp; rw [q2.2.2, keepB_saddr hkp hoj hjun q5]
        have q7 : notW ops oi s'.t = notW ops oi s.t := by unfold notW; rw [q2.1]
        rw [q6, q7]
        exact hm hnn k ok hk hki hun' h3 hno hoi
      rw [Array.setIfInBounds_comm _ _ hji]
      exact q4

theorem takeB_spec {listed : Array Bool} {i : Nat} {oi : Oper} {need : Nat} (hi : ops[i]? = some oi) {fr : Nat → Bool} (h : takeB ops fr listed i need = true) (j : Nat) (oj : Oper)
    (hj : ops[j]? = some oj) (hne : j ≠ i) (hun : listed.getD j true = false) (hno : depB ops i j = false) :
    oi.apart ops oj = true ∧ opKind oj ≠ 6 ∧ (opKind oi = 1 → opKind oj = 3 → 2 ≤ need ∧ keepB ops listed oj = true) ∧ (opKind oi = 1 → opKind oj = 4 → need = 1 ∨ ((2 ≤ need ∧ fr j = true) ∨ (need = 6 ∧ (isApp oj).isSome = true ∧ keepB ops listed oj = true ∧ fr j = false))) := by
  simp only [takeB, hi, List.all_eq_true, List.mem_range] at h
  have h1 := h j (Array.getElem?_eq_some_iff.1 hj).1
  simp only [hj, Bool.or_eq_true, beq_iff_eq, hne, false_or, hun, hno, Bool.false_eq_true, Bool.and_eq_true, bne_iff_ne, Nat.ble_eq] at h1
  obtain ⟨h1, h2, h3⟩ := h1
  refine ⟨h1, h2, ?_, ?_⟩
  · intro hk hk3
    rcases h3 with h3 | h3
    · exact absurd hk h3
    · rcases h3.1 with h5 | h5
      · exact absurd hk3 h5
      · exact h5.1
  · intro hk h4
    rcases h3 with h3 | h3
    · exact absurd hk h3
    · rcases h3.2 with h5 | h5
      · exact absurd h4 h5
      · rcases h5 with h5 | h5 | h5
        · exact .inl h5
        · exact .inr (.inl ⟨by omega, h5.2⟩)
        · exact .inr (.inr ⟨h5.1, h5.2.1, h5.2.2.1, by simpa using h5.2.2.2⟩)
/-- In the fourth way, no store is to come that does not wait for the load. -/
theorem takeB_four {listed : Array Bool} {i : Nat} {oi : Oper} (hi : ops[i]? = some oi) {fr : Nat → Bool} (h : takeB ops fr listed i 4 = true) (j : Nat) (oj : Oper)
    (hj : ops[j]? = some oj) (hne : j ≠ i) (hun : listed.getD j true = false) (hno : depB ops i j = false) (hk : opKind oi = 1) (hk3 : opKind oj = 3) : False := by
  simp only [takeB, hi, List.all_eq_true, List.mem_range] at h
  have h1 := h j (Array.getElem?_eq_some_iff.1 hj).1
  simp [hj, hne, hun, hno, hk, hk3] at h1

theorem down_ready {listed : Array Bool} (hd : Down ops listed) {j : Nat} (hj : j ∈ Region.ready .any ops listed) : Down ops (listed.setIfInBounds j true) := by
  obtain ⟨hjun, oj, hoj, hall⟩ := mem_ready.1 hj
  intro k ok hk hl e he hb
  by_cases hje : j = e.on
  · rw [← hje]; simp [Array.getD]
  · rw [getD_set_ne true hje]
    by_cases hjk : j = k
    · subst hjk; rw [hoj] at hk; cases hk; exact getD_ft (hall e he hb)
    · rw [getD_set_ne true hjk] at hl
      exact hd k ok hk hl e he hb
/-- A maker that is ready may come first. -/
theorem mk_first {K : AS → Prop} {fr : Nat → Bool} {i n len z : Nat} {b : ABlock} {oi : Oper} (hi : ops[i]? = some oi) (gi : oi.guard = none) :
    ∀ (fuel : Nat) (listed : Array Bool) (s : AS),
      Down ops listed →
      (∀ j oj, ops[j]? = some oj → j ≠ i → listed.getD j true = false → depB ops i j = false → oi.apart ops oj = true ∧ (opKind oj = 0 ∨ opKind oj = 2 ∨ isMk oj = true)) →
      i ∈ Region.ready .any ops listed → n < s.h.size → s.h.get n = none → mkOf P oi s.t = some (b, len, z) →
      aAny P L ops fr K fuel (listed.setIfInBounds i true) ⟨tput s.t oi.dst (.slice (some ⟨n, 0, some 0⟩) len z), s.l, s.h.set n b⟩ → aAny P L ops fr K (fuel + 1) listed s := by
  have wi : ∀ t, awanted ops oi t = some true := fun t => by unfold awanted; rw [gi]
  have self : ∀ (s : AS) (K : AS → Prop) (F : Bool), n < s.h.size → s.h.get n = none → mkOf P oi s.t = some (b, len, z) → K ⟨tput s.t oi.dst (.slice (some ⟨n, 0, some 0⟩) len z), s.l, s.h.set n b⟩ → AOneR P L F ops i K s := by
    intro s K F hn hf hmk hk
    refine .of (.inr ⟨oi, n + 1, _, hi, wi _, ?_, hk⟩)
    unfold aMkAt
    rw [hmk]
    have gb : Nat.blt n s.h.size = true := by rw [Nat.blt_eq]; exact hn
    simp only [alAt, gb, hf]
  have kn : ∀ s : AS, known s → known ⟨tput s.t oi.dst (.slice (some ⟨n, 0, some 0⟩) len z), s.l, s.h.set n b⟩ := fun s hk => known_set hk (fun k h => h) (fun k off e => by cases e)
  intro fuel
  induction fuel with
  | zero =>
    intro listed s _ _ hr hn hf hmk H hs
    obtain ⟨hs, hwf⟩ := hs
    obtain ⟨H1, H2⟩ := H ⟨kn s hs, AHeap.wf_set hwf _ _⟩
    refine ⟨fun h => (by rw [h] at hr; cases hr), fun j hj => ?_⟩
    by_cases hji : j = i
    · subst hji; exact self s _ _ hn hf hmk (fun _ => ⟨H1, H2⟩)
    · have := ready_mono hj hji
      rw [H1] at this
      cases this
  | succ fuel ih =>
    intro listed s hdown hfree hr hn hf hmk H hs
    refine ⟨fun h => (by rw [h] at hr; cases hr), fun j hj => ?_⟩
    by_cases hji : j = i
    · subst hji; exact self s _ _ hn hf hmk H
    · obtain ⟨hs, hwf⟩ := hs
      obtain ⟨r, h1⟩ := (H ⟨kn s hs, AHeap.wf_set hwf _ _⟩).2 j (ready_mono hj hji)
      refine ⟨r, ?_⟩
      obtain ⟨hjun, oj, hoj, hall⟩ := mem_ready.1 hj
      have hun : listed.getD i true = false := (mem_ready.1 hr).1
      have hnot : depB ops i j = false := by
        cases hdp : depB ops i j with
        | false => rfl
        | true =>
          have := dep_listed hdown (depB_dep hdp) (fun oj' ho' e he hb => by rw [hoj] at ho'; cases ho'; exact getD_ft (hall e he hb))
          rw [hun] at this; cases this
      obtain ⟨f1, f2⟩ := hfree j oj hoj hji hjun hnot
      simp only at h1
      rw [AHeap.rsv_set _ _ hn] at h1
      have h2 := mk_comm (i := i) (s := ⟨s.t, s.l, s.h.rsv r⟩) hoj f1 (AHeap.rsv_wf hwf r) (by show n < s.h.size + r; omega) (by show (s.h.rsv r).get n = none; rw [AHeap.rsv_get]; exact hf) hmk f2 h1
      refine AOneG_mono (fun s' h3 => ?_) h2
      obtain ⟨q1, q2, q3, q4⟩ := h3
      refine ih (listed.setIfInBounds j true) s' (down_ready hdown hj) ?_ (ready_mono hr (Ne.symm hji)) q1 q2 q3 ?_
      · intro k ok hk hki hun hno
        exact hfree k ok hk hki (by
          by_cases hjk : j = k
          · subst hjk; exact hjun
          · rw [getD_set_ne true hjk] at hun; exact hun) hno
      · rw [Array.setIfInBounds_comm _ _ hji]
        exact q4
theorem mk_first0 {K : AS → Prop} {fr : Nat → Bool} {i : Nat} {oi : Oper} (hi : ops[i]? = some oi) (ki : isMk oi = true) (gi : oi.guard = none) (fuel : Nat) (listed : Array Bool) (s : AS) (hD : Down ops listed)
    (hfree : ∀ j oj, ops[j]? = some oj → j ≠ i → listed.getD j true = false → depB ops i j = false → oi.apart ops oj = true ∧ (opKind oj = 0 ∨ opKind oj = 2 ∨ isMk oj = true))
    (hr : i ∈ Region.ready .any ops listed) (h : AOneF P L true ops i (aAny P L ops fr K fuel (listed.setIfInBounds i true)) s) : aAny P L ops fr K (fuel + 1) listed s := by
  have wi : ∀ t, awanted ops oi t = some true := fun t => by unfold awanted; rw [gi]
  have nocall : ∀ {t g args}, callArgs P oi t = some (g, args) → False := by
    intro t g args hc
    unfold isMk at ki
    unfold callArgs at hc
    split at ki
    · rename_i hop; rw [hop] at hc; cases hc
    · rename_i hop; rw [hop] at hc; cases hc
    · cases ki
  unfold AOneF at h
  simp only [hi, wi] at h
  rcases h with ⟨s1, h1, _, h2⟩ | ⟨g, args, h1, _⟩
  · unfold aStep at h1
    simp only [(mk_kind ki).1] at h1
    obtain ⟨b, n, z, q1, q2⟩ := mk_step ki h1
    subst q2
    have H := mk_first (L := L) (K := K) (fr := fr) (n := s.h.size) (len := n) (z := z) (b := b) hi gi fuel listed ⟨s.t, s.l, s.h.rsv 1⟩ hD hfree hr (by show s.h.size < s.h.size + 1; omega) (by show (s.h.rsv 1).get s.h.size = none; rw [AHeap.rsv_get]; exact AHeap.get_ge (Nat.le_refl _)) q1 (by
      have : (s.h.rsv 1).set s.h.size b = s.h.push b := by
        unfold AHeap.rsv AHeap.set AHeap.push
        simp only
        rw [show s.h.size + 1 - 1 - s.h.size = 0 by omega]
        rfl
      simp only
      rw [this]; exact h2)
    intro hs
    obtain ⟨H1, H2⟩ := H ⟨hs.1, AHeap.rsv_wf hs.2 1⟩
    refine ⟨fun h0 => (by rw [h0] at hr; cases hr), fun j hj => ?_⟩
    obtain ⟨r, H3⟩ := H2 j hj
    exact ⟨1 + r, by simp only at H3; rw [AHeap.rsv_rsv] at H3; exact H3⟩
  · exact (nocall h1).elim
theorem eager_sound {K : AS → Prop} {fr : Nat → Bool} : ∀ (l : List (Nat × Nat)) (listed : Array Bool) (s : AS), Down ops listed → eagerB ops fr l listed = true → AEag P L ops K l s → aAny P L ops fr K l.length listed s
  | [], listed, s, hD, hB, h => fun _ => ⟨by simpa [eagerB] using hB, h⟩
  | (i, 0) :: r, listed, s, hD, hB, h => by
    simp only [eagerB, Bool.and_eq_true, beq_iff_eq, Bool.not_eq_true'] at hB
    obtain ⟨⟨hB1, hB2⟩, hB3⟩ := hB
    intro hs
    refine ⟨fun h0 => (by rw [hB1] at h0; cases h0), fun j hj => ?_⟩
    rw [hB1] at hj
    simp only [List.mem_singleton] at hj
    subst hj
    rw [hB2]
    exact .of (.inl (AOneF_mono (fun s' h' => eager_sound r _ s' (down_ready hD (by rw [hB1]; simp)) hB3 h') (AOne.framed h)))
  | (i, 1) :: r, listed, s, hD, hB, h => by
    simp only [eagerB, Bool.and_eq_true, Bool.or_eq_true, beq_iff_eq] at hB
    obtain ⟨⟨hB1, hB2⟩, hB3⟩ := hB
    rcases hB1 with hB1 | hP
    · intro hs
      refine ⟨fun h0 => (by rw [hB1] at h0; cases h0), fun j hj => ?_⟩
      rw [hB1] at hj
      simp only [List.mem_singleton] at hj
      subst hj
      rw [hB2]
      exact .of (.inl (AOneF_mono (fun s' h' => eager_sound r _ s' (down_ready hD (by rw [hB1]; simp)) hB3 h') h))
    · unfold mkFirstB at hP
      split at hP
      · rename_i oi hoi
        simp only [Bool.and_eq_true, List.all_eq_true, List.mem_range, List.contains_iff_mem] at hP
        obtain ⟨p1, p2, p3, p4⟩ := hP
        have gi : oi.guard = none := by simpa using p2
        refine mk_first0 hoi p1 gi _ listed s hD ?_ p3 (AOneF_mono (fun s' h' => eager_sound r _ s' (down_ready hD p3) hB3 h') h)
        intro j oj hj hne hun hno
        have h1 := p4 j (Array.getElem?_eq_some_iff.1 hj).1
        simp only [hj, Bool.or_eq_true, beq_iff_eq, hne, false_or, hun, hno, Bool.false_eq_true, Bool.and_eq_true] at h1
        exact h1
      · cases hP
  | (i, m + 2) :: r, listed, s, hD, hB, h => by
    simp only [AEag] at h
    cases hi : ops[i]? with
    | none => rw [hi] at h; exact h.elim
    | some o =>
      rw [hi] at h
      simp only at h
      cases he : aEff P L ops o s with
      | none => rw [he] at h; exact h.elim
      | some e =>
        rw [he] at h
        simp only at h
        simp only [eagerB, Bool.and_eq_true, List.contains_iff_mem] at hB
        refine aAny_first (need := m) hi _ _ _ hD ?_ hB.1.1 he ?_ ?_ (eager_sound r _ _ (down_ready hD hB.1.1) hB.2 h.2)
        · intro j oj a b c d
          exact takeB_spec hi hB.1.2 j oj a b c d
        · rintro rfl
          have := h.1
          simpa [modeB] using this
        · intro hm
          have h1 := h.1
          intro j oj hj g1 g2 h3 g4 g5
          by_cases m4 : m = 4
          · subst m4
            rcases h3 with h3 | ⟨h3, _⟩
            · exact (takeB_four hi hB.1.2 j oj hj g1 g2 g4 g5 h3).elim
            · omega
          obtain ⟨h1, h6⟩ := modeB_ap hm m4 h1
          have ap := (takeB_spec hi hB.1.2 j oj hj g1 g2 g4).1
          rcases h3 with h3 | ⟨n6, ha, _⟩
          · rw [Bool.or_eq_true] at h1
            rcases h1 with h1 | h1
            · exact .inl h1
            · simp only [storesAp, List.all_eq_true] at h1
              have h4 := h1 oj (by obtain ⟨hlt, rfl⟩ := Array.getElem?_eq_some_iff.1 hj; simp)
              rw [usesB_apart ap] at h4
              simp [h3] at h4
              exact .inr h4
          · have h6 := h6 n6
            rw [Bool.or_eq_true] at h6
            rcases h6 with h6 | h6
            · exact .inl h6
            · simp only [appsAp, List.all_eq_true] at h6
              have h4 := h6 oj (by obtain ⟨hlt, rfl⟩ := Array.getElem?_eq_some_iff.1 hj; simp)
              have u := usesB_apart ap
              unfold usesB at u
              rw [u] at h4
              obtain ⟨x0, hx0⟩ := Option.isSome_iff_exists.1 ha
              rw [hx0] at h4
              simp at h4
              exact .inr h4

theorem AOne_sound (G : Good P) {B : Nat} {E : Ent} {ρ : Rho} {lam : Nat → Nat} {s : AS} {a : Act} {w : World} (F : FRel B E ρ lam s a w) {i : Nat} {K : AS → Prop} {K' : Act → World → Prop} {Q : Exit → Act → World → Prop}
    (hK : ∀ s' ρ' lam' a' w', K s' → FRel B E ρ' lam' s' a' w' → K' a' w') (h : AOne P L ops i K s) : wpOp P ops Q i K' a w := by
  unfold AOne at h
  unfold wpOp
  cases ho : ops[i]? with
  | none => rw [ho] at h; exact hK _ _ _ _ _ h F
  | some o =>
    rw [ho] at h
    simp only at h ⊢
    split at h
    · rename_i hw
      rw [awanted_sound F hw]
      simp only [if_true]
      exact .inl (AOp_sound G F hK h)
    · rename_i hw
      rw [awanted_sound F hw]
      simp only [Bool.false_eq_true, if_false]
      exact hK _ _ _ _ _ h (F.put o.dst (.mem undef_rel))
    · exact h.elim

theorem aAny_sound (G : Good P) {B : Nat} {E : Ent} {fr : Nat → Bool} {K : AS → Prop} {Q : Exit → Act → World → Prop} (hK : ∀ s' ρ' lam' a' w', K s' → FRel B E ρ' lam' s' a' w' → Q .normal a' w') :
    ∀ (fuel : Nat) (listed : Array Bool) (s : AS) (ρ : Rho) (lam : Nat → Nat) (a : Act) (w : World), FRel B E ρ lam s a w → aAny P L ops fr K fuel listed s → wpAny P .any ops Q fuel listed a w
  | 0, listed, s, ρ, lam, a, w, F, h => ⟨(h ⟨known_of F, F.heap.wf⟩).1, hK _ _ _ _ _ (h ⟨known_of F, F.heap.wf⟩).2 F⟩
  | fuel + 1, listed, s, ρ, lam, a, w, F, h => by
    obtain ⟨h1, h2⟩ := h ⟨known_of F, F.heap.wf⟩
    refine ⟨fun h0 => hK _ _ _ _ _ (h1 h0) F, fun i hi => ?_⟩
    obtain ⟨r, h2⟩ := h2 i hi
    have F := F.rsv r
    rcases h2 with h3 | ⟨o, p, s', q1, q2, q3, q4⟩
    · exact AOne_sound G F (fun s' ρ' lam' a' w' hk F' => aAny_sound G hK fuel _ s' ρ' lam' a' w' F' hk) h3.one
    · obtain ⟨nx, w', ρ', lam', u, hr, hn, F'⟩ := aMkAt_sound F q3
      unfold wpOp
      rw [q1]
      simp only
      rw [awanted_sound F q2]
      simp only [if_true]
      refine .inl ?_
      unfold Oper.wp
      rw [hr]
      rcases hn with rfl | ⟨rfl, rfl⟩
      · exact aAny_sound G hK fuel _ _ _ _ _ _ F' q4
      · exact aAny_sound G hK fuel _ _ _ _ _ _ F' q4

theorem awp_draw (G : Good P) (L : List Nat) {id : Nat} {ops : Array Oper} {Q : Exit → AS → Prop} {s : AS} (l : List (Nat × Nat)) (hl : l.length = ops.size) (hB : eagerB ops (frOf l) l (Array.replicate ops.size false) = true)
    (h : AEag P L ops (Q .normal) l (prepL ops.toList s)) : AWp P (.region id ops true) Q s := by
  intro B E ρ lam a w F
  have F' := prep_rel ops.toList s (F.same (Same.drew w))
  refine wp_region_any G.mixed ?_
  have := aAny_sound (L := L) G (Q := fun e a' w' => ∃ s' ρ' lam', Q e s' ∧ FRel B E ρ' lam' s' a' w') (fun s' ρ' lam' a' w' hk F' => ⟨s', ρ', lam', hk, F'⟩) _ (Array.replicate ops.size false) _ ρ lam a w.drew F' (eager_sound l _ _ (by intro k ok hk hl; have := (Array.getElem?_eq_some_iff.1 hk).1; simp [Array.getD, this] at hl) hB h)
  rw [hl] at this
  exact this

/-! Two stores into locals at the end of a statement, in either order. -/
def lsOf (P : Program) (o : Oper) (s : AS) : Option (Nat × List Value) := match o.op, o.dst, o.guard with
  | .store t ad x, none, none => match aev s.t ad with
    | .pointer (some ⟨k, off, none⟩) => match sizeT P t, okPart (aev s.t x) && (aev s.t x).cells.toList.all (·.oneCell') with
      | some n, true => match Nat.beq (aev s.t x).cells.size n, lget s.l k with
        | true, some cells => match Nat.ble (off + n) cells.length with
          | true => some (k, splice cells off (aev s.t x).cells.toList)
          | false => none
        | _, _ => none
      | _, _ => none
    | _ => none
  | _, _, _ => none
theorem lsOf_step {o : Oper} {s s' : AS} {k : Nat} {c : List Value} (h : lsOf P o s = some (k, c)) (ht : s'.t = s.t) (hl : lget s'.l k = lget s.l k) {i : Nat} (ho : ops[i]? = some o) {K : AS → Prop} (hK : K ⟨s'.t, lset s'.l k c, s'.h⟩) : AOne P L ops i K s' := by
  unfold lsOf at h
  split at h
  · rename_i t ad x hop hdst hg
    split at h
    · rename_i k' off hp
      split at h
      · rename_i n hn hx
        split at h
        · rename_i cells hb hcs
          split at h
          · rename_i hle
            simp only [Option.some.injEq, Prod.mk.injEq] at h
            obtain ⟨rfl, rfl⟩ := h
            have hw : awanted ops o s'.t = some true := by unfold awanted; rw [hg]
            unfold AOne
            rw [ho]
            simp only [hw]
            refine .inl ⟨_, ?_, hK⟩
            have hm : memKind o = true := by unfold memKind opKind; rw [hop]; rfl
            unfold aStep
            rw [hm]
            simp only
            unfold aMem
            rw [hop]
            simp only [ht, hp]
            unfold aStore
            simp only [hn, hx, hb, hl, hcs, hle]
            rw [hdst]
            simp only [AS.put, ht]
          · cases h
        · cases h
      · cases h
    · cases h
  · cases h
def pairB (ops : Array Oper) (listed : Array Bool) (i j : Nat) : Bool :=
  (Region.ready .any ops listed == [i, j] || Region.ready .any ops listed == [j, i]) && (Region.ready .any ops (listed.setIfInBounds i true) == [j] && (Region.ready .any ops (listed.setIfInBounds j true) == [i] &&
    ((Region.ready .any ops ((listed.setIfInBounds i true).setIfInBounds j true)).isEmpty && (Region.ready .any ops ((listed.setIfInBounds j true).setIfInBounds i true)).isEmpty)))
def eagerB2 (ops : Array Oper) (fr : Nat → Bool) (i j : Nat) : List (Nat × Nat) → Array Bool → Bool
  | [], listed => pairB ops listed i j
  | (a, m) :: r, listed => (match m with
    | 0 => Region.ready .any ops listed == [a] && !(fr a)
    | 1 => Region.ready .any ops listed == [a] && fr a
    | m + 2 => (Region.ready .any ops listed).contains a && takeB ops fr listed a m) && eagerB2 ops fr i j r (listed.setIfInBounds a true)
def PairK (P : Program) (L : List Nat) (ops : Array Oper) (i j : Nat) (K : AS → Prop) (s : AS) : Prop := AOne P L ops i (AOne P L ops j K) s ∧ AOne P L ops j (AOne P L ops i K) s
theorem eager_sound2 {K : AS → Prop} {fr : Nat → Bool} {i j : Nat} (fi : fr i = false) (fj : fr j = false) : ∀ (l : List (Nat × Nat)) (listed : Array Bool) (s : AS), Down ops listed → eagerB2 ops fr i j l listed = true → AEag P L ops (PairK P L ops i j K) l s → aAny P L ops fr K (l.length + 2) listed s
  | [], listed, s, hD, hB, h => by
    simp only [eagerB2, pairB, Bool.and_eq_true, Bool.or_eq_true, beq_iff_eq, List.isEmpty_iff] at hB
    obtain ⟨h1, h2, h3, h4, h5⟩ := hB
    obtain ⟨ka, kb⟩ := h
    intro hs
    have hmem : ∀ a, a ∈ Region.ready .any ops listed → a = i ∨ a = j := by
      intro a ha
      rcases h1 with e | e <;> rw [e] at ha <;> simp at ha
      · exact ha
      · exact ha.symm
    refine ⟨fun h0 => (by rcases h1 with e | e <;> rw [e] at h0 <;> cases h0), fun a ha => ?_⟩
    rcases hmem a ha with rfl | rfl
    · rw [fi]
      refine .of (.inl (AOneF_mono (fun s' h' => ?_) (AOne.framed ka)))
      intro _
      refine ⟨fun h0 => (by rw [h2] at h0; cases h0), fun b hb => ?_⟩
      rw [h2] at hb
      simp only [List.mem_singleton] at hb
      subst hb
      rw [fj]
      exact .of (.inl (AOneF_mono (fun s'' h'' => fun _ => ⟨h4, h''⟩) (AOne.framed h')))
    · rw [fj]
      refine .of (.inl (AOneF_mono (fun s' h' => ?_) (AOne.framed kb)))
      intro _
      refine ⟨fun h0 => (by rw [h3] at h0; cases h0), fun b hb => ?_⟩
      rw [h3] at hb
      simp only [List.mem_singleton] at hb
      subst hb
      rw [fi]
      exact .of (.inl (AOneF_mono (fun s'' h'' => fun _ => ⟨h5, h''⟩) (AOne.framed h')))
  | (a, 0) :: r, listed, s, hD, hB, h => by
    simp only [eagerB2, Bool.and_eq_true, beq_iff_eq, Bool.not_eq_true'] at hB
    obtain ⟨⟨hB1, hB2⟩, hB3⟩ := hB
    intro hs
    refine ⟨fun h0 => (by rw [hB1] at h0; cases h0), fun b hb => ?_⟩
    rw [hB1] at hb
    simp only [List.mem_singleton] at hb
    subst hb
    rw [hB2]
    exact .of (.inl (AOneF_mono (fun s' h' => eager_sound2 fi fj r _ s' (down_ready hD (by rw [hB1]; simp)) hB3 h') (AOne.framed h)))
  | (a, 1) :: r, listed, s, hD, hB, h => by
    simp only [eagerB2, Bool.and_eq_true, beq_iff_eq] at hB
    obtain ⟨⟨hB1, hB2⟩, hB3⟩ := hB
    intro hs
    refine ⟨fun h0 => (by rw [hB1] at h0; cases h0), fun b hb => ?_⟩
    rw [hB1] at hb
    simp only [List.mem_singleton] at hb
    subst hb
    rw [hB2]
    exact .of (.inl (AOneF_mono (fun s' h' => eager_sound2 fi fj r _ s' (down_ready hD (by rw [hB1]; simp)) hB3 h') h))
  | (a, m + 2) :: r, listed, s, hD, hB, h => by
    simp only [AEag] at h
    cases hi : ops[a]? with
    | none => rw [hi] at h; exact h.elim
    | some o =>
      rw [hi] at h
      simp only at h
      cases he : aEff P L ops o s with
      | none => rw [he] at h; exact h.elim
      | some e =>
        rw [he] at h
        simp only at h
        simp only [eagerB2, Bool.and_eq_true, List.contains_iff_mem] at hB
        refine aAny_first (need := m) hi _ _ _ hD ?_ hB.1.1 he ?_ ?_ (eager_sound2 fi fj r _ _ (down_ready hD hB.1.1) hB.2 h.2)
        · intro b ob x y z w
          exact takeB_spec hi hB.1.2 b ob x y z w
        · rintro rfl
          have := h.1
          simpa [modeB] using this
        · intro hm
          have h1 := h.1
          intro b ob hb g1 g2 h3 g4 g5
          by_cases m4 : m = 4
          · subst m4
            rcases h3 with h3 | ⟨h3, _⟩
            · exact (takeB_four hi hB.1.2 b ob hb g1 g2 g4 g5 h3).elim
            · omega
          obtain ⟨h1, h6⟩ := modeB_ap hm m4 h1
          have ap := (takeB_spec hi hB.1.2 b ob hb g1 g2 g4).1
          rcases h3 with h3 | ⟨n6, ha, _⟩
          · rw [Bool.or_eq_true] at h1
            rcases h1 with h1 | h1
            · exact .inl h1
            · simp only [storesAp, List.all_eq_true] at h1
              have h4 := h1 ob (by obtain ⟨hlt, rfl⟩ := Array.getElem?_eq_some_iff.1 hb; simp)
              rw [usesB_apart ap] at h4
              simp [h3] at h4
              exact .inr h4
          · have h6 := h6 n6
            rw [Bool.or_eq_true] at h6
            rcases h6 with h6 | h6
            · exact .inl h6
            · simp only [appsAp, List.all_eq_true] at h6
              have h4 := h6 ob (by obtain ⟨hlt, rfl⟩ := Array.getElem?_eq_some_iff.1 hb; simp)
              have u := usesB_apart ap
              unfold usesB at u
              rw [u] at h4
              obtain ⟨x0, hx0⟩ := Option.isSome_iff_exists.1 ha
              rw [hx0] at h4
              simp at h4
              exact .inr h4
theorem awp_draw2 (G : Good P) (L : List Nat) {id : Nat} {ops : Array Oper} {Q : Exit → AS → Prop} {s : AS} (l : List (Nat × Nat)) (i j : Nat) (hl : l.length + 2 = ops.size) (hB : eagerB2 ops (frOf l) i j l (Array.replicate ops.size false) = true) (fi : frOf l i = false) (fj : frOf l j = false)
    (h : AEag P L ops (PairK P L ops i j (Q .normal)) l (prepL ops.toList s)) : AWp P (.region id ops true) Q s := by
  intro B E ρ lam a w F
  have F' := prep_rel ops.toList s (F.same (Same.drew w))
  refine wp_region_any G.mixed ?_
  have := aAny_sound (L := L) G (Q := fun e a' w' => ∃ s' ρ' lam', Q e s' ∧ FRel B E ρ' lam' s' a' w') (fun s' ρ' lam' a' w' hk F' => ⟨s', ρ', lam', hk, F'⟩) _ (Array.replicate ops.size false) _ ρ lam a w.drew F' (eager_sound2 fi fj l _ _ (by intro k ok hk hl; have := (Array.getElem?_eq_some_iff.1 hk).1; simp [Array.getD, this] at hl) hB h)
  rw [hl] at this
  exact this
def pairRun (P : Program) (ops : Array Oper) (i j : Nat) (s : AS) : Option AS := match ops[i]?, ops[j]? with
  | some oi, some oj => match lsOf P oi s, lsOf P oj s with
    | some (k1, c1), some (k2, c2) => match Nat.beq k1 k2 with
      | false => some ⟨s.t, lset (lset s.l k1 c1) k2 c2, s.h⟩
      | true => none
    | _, _ => none
  | _, _ => none
theorem pairRun_sound {i j : Nat} {s s2 : AS} {K : AS → Prop} (h : pairRun P ops i j s = some s2) (hK : K s2) : PairK P L ops i j K s := by
  unfold pairRun at h
  split at h
  · rename_i oi oj hi hj
    split at h
    · rename_i k1 c1 k2 c2 h1 h2
      split at h
      · rename_i hne
        cases h
        have hne' : k1 ≠ k2 := fun e => by subst e; rw [Abs.beq_self] at hne; cases hne
        refine ⟨lsOf_step h1 rfl rfl hi (lsOf_step (s' := ⟨s.t, lset s.l k1 c1, s.h⟩) h2 rfl ?_ hj hK), lsOf_step h2 rfl rfl hj (lsOf_step (s' := ⟨s.t, lset s.l k2 c2, s.h⟩) h1 rfl ?_ hi ?_)⟩
        · simp only; rw [lget_lset, if_neg (Ne.symm hne')]
        · simp only; rw [lget_lset, if_neg hne']
        · simp only; rw [lset_comm _ _ _ (Ne.symm hne')]; exact hK
      · cases h
    · cases h
  · cases h
/-- An order whose last two entries are such a pair. -/
def splitPair (l : List (Nat × Nat)) : Option (List (Nat × Nat) × Nat × Nat) := match l.reverse with
  | (j, a) :: (i, b) :: r => match Nat.beq a 100 && Nat.beq b 100 with
    | true => some (r.reverse, i, j)
    | false => none
  | _ => none
theorem AOps_cons (i : Nat) (r : List Nat) (K : AS → Prop) (s : AS) : AOps P L ops (i :: r) K s = AOne P L ops i (AOps P L ops r K) s := rfl
end
end Go.Proofs.Ytimeninncpmaeaa.Abs
