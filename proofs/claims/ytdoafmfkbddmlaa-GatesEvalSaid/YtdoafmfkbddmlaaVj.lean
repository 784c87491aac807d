/-
  Regions that draw their order: one eager order serves every order.
-/
import Derived.Test.YtdoafmfkbddmlaaVi
namespace Go.Proofs.Ytdoafmfkbddmlaa.Abs
open Go
set_option linter.unusedVariables false
set_option linter.unusedSimpArgs false

def aAny (P : Program) (L : List Nat) (ops : Array Oper) (K : AS → Prop) : Nat → Array Bool → AS → Prop
  | 0, listed, s => known s → Region.ready .any ops listed = [] ∧ K s
  | fuel + 1, listed, s => known s → (Region.ready .any ops listed = [] → K s) ∧ ∀ i ∈ Region.ready .any ops listed, AOne P L ops i (aAny P L ops K fuel (listed.setIfInBounds i true)) s

def takeB (ops : Array Oper) (listed : Array Bool) (i : Nat) (need : Bool) : Bool := match ops[i]? with
  | none => false
  | some oi => (List.range ops.size).all fun j => j == i || (listed.getD j true || match ops[j]? with
    | some oj => oj.after.any (fun e => Region.binds .any e && e.on == i) || (oi.apart ops oj && (opKind oj != 6 && (opKind oi != 1 || (opKind oj != 3 && (opKind oj != 4 || need)))))
    | none => true)
def eagerB (ops : Array Oper) : List (Nat × Nat) → Array Bool → Bool
  | [], listed => (Region.ready .any ops listed).isEmpty
  | (i, m) :: r, listed => (match m with
    | 0 => Region.ready .any ops listed == [i]
    | 1 => (Region.ready .any ops listed).contains i && takeB ops listed i false
    | _ => (Region.ready .any ops listed).contains i && takeB ops listed i true) && eagerB ops r (listed.setIfInBounds i true)
def AEag (P : Program) (L : List Nat) (ops : Array Oper) (K : AS → Prop) : List (Nat × Nat) → AS → Prop
  | [], s => K s
  | (i, 0) :: r, s => AOne P L ops i (AEag P L ops K r) s
  | (i, m + 1) :: r, s => match ops[i]? with
    | some o => match aEff P L ops o s with
      | some e => (m = 0 ∨ loadLoc o s.t = true) ∧ AEag P L ops K r (s.eff o.dst e)
      | none => False
    | none => False

section
variable {P : Program} {L : List Nat} {ops : Array Oper}

theorem aEff_fresh {o : Oper} {s : AS} {e : Eff} (h : aEff P L ops o s = some e) : ∀ d, o.dst = some d → e.box ≠ none → lget s.l d = none := by
  intro d hd hb
  have val : valEff (aVal P o s) = some e → e.box = none := by
    intro hv
    cases ha : aVal P o s with
    | none => rw [ha] at hv; cases hv
    | some v => rw [ha] at hv; cases hv; rfl
  unfold aEff at h
  split at h
  · cases h; exact absurd rfl hb
  · split at h
    · exact absurd (val h) hb
    · exact absurd (val h) hb
    · unfold aBoxEff at h
      split at h
      · rename_i cells d' hc hd'
        split at h
        · rename_i h1 h2
          rw [hd] at hd'; cases hd'; exact h2
        · cases h
      · cases h
    · cases h
  · cases h

theorem known_set {s : AS} (hs : known s) {l : Locs} {h' : AHeap} {dst : Option Tmp} {v : Value} (hl : ∀ k, lget s.l k ≠ none → lget l k ≠ none) (hv : ∀ k off, v = .pointer (some ⟨k, off, none⟩) → lget l k ≠ none) : known ⟨tput s.t dst v, l, h'⟩ := by
  intro i k off h
  cases dst with
  | none => exact hl k (hs i k off h)
  | some d =>
    simp only [tput] at h
    rw [List.getElem?_set] at h
    split at h
    · split at h
      · cases h; exact hv k off rfl
      · cases h
    · exact hl k (hs i k off h)

theorem known_eff {o : Oper} {s : AS} {e : Eff} (hs : known s) (h : aEff P L ops o s = some e) : known (s.eff o.dst e) := by
  have val : valEff (aVal P o s) = some e → known (s.eff o.dst e) := by
    intro hv
    cases ha : aVal P o s with
    | none => rw [ha] at hv; cases hv
    | some v =>
      rw [ha] at hv; cases hv
      have : s.eff o.dst ⟨v, none⟩ = ⟨tput s.t o.dst v, s.l, s.h⟩ := by unfold AS.eff lput; cases o.dst <;> rfl
      rw [this]
      exact known_set hs (fun k hk => hk) (fun k off e => aVal_known hs ha e)
  unfold aEff at h
  split at h
  · cases h
    have : s.eff o.dst ⟨undef, none⟩ = ⟨tput s.t o.dst undef, s.l, s.h⟩ := by unfold AS.eff lput; cases o.dst <;> rfl
    rw [this]
    exact known_set hs (fun k hk => hk) (fun k off e => by cases e)
  · split at h
    · exact val h
    · exact val h
    · unfold aBoxEff at h
      split at h
      · rename_i cells d hc hd
        split at h
        · rename_i h1 h2
          cases h
          rw [hd]
          refine known_set hs ?_ ?_
          · intro k hk
            simp only [lput]
            rw [lget_lset]
            split
            · simp
            · exact hk
          · intro k off e
            cases e
            simp only [lput]
            rw [lget_lset, if_pos rfl]
            simp
        · cases h
      · cases h
    · cases h
  · cases h

theorem aAny_first {K : AS → Prop} {i : Nat} {oi : Oper} {e : Eff} {need : Bool} (hi : ops[i]? = some oi) :
    ∀ (fuel : Nat) (listed : Array Bool) (s : AS),
      (∀ j oj, ops[j]? = some oj → j ≠ i → listed.getD j true = false → (∀ e ∈ oj.after, Region.binds .any e = true → e.on ≠ i) →
        oi.apart ops oj = true ∧ opKind oj ≠ 6 ∧ (opKind oi = 1 → opKind oj ≠ 3) ∧ (opKind oi = 1 → opKind oj = 4 → need = true)) →
      i ∈ Region.ready .any ops listed → aEff P L ops oi s = some e → (need = true → loadLoc oi s.t = true) →
      aAny P L ops K fuel (listed.setIfInBounds i true) (s.eff oi.dst e) → aAny P L ops K (fuel + 1) listed s := by
  intro fuel
  induction fuel with
  | zero =>
    intro listed s _ hr he hn H hs
    obtain ⟨H1, H2⟩ := H (known_eff hs he)
    refine ⟨fun h => (by rw [h] at hr; cases hr), fun j hj => ?_⟩
    by_cases hji : j = i
    · subst hji; exact AOne_of_eff hi he (fun _ => ⟨H1, H2⟩)
    · have := ready_mono hj hji
      rw [H1] at this
      cases this
  | succ fuel ih =>
    intro listed s hfree hr he hn H hs
    refine ⟨fun h => (by rw [h] at hr; cases hr), fun j hj => ?_⟩
    by_cases hji : j = i
    · subst hji; exact AOne_of_eff hi he H
    · have h1 := (H (known_eff hs he)).2 j (ready_mono hj hji)
      obtain ⟨hjun, oj, hoj, hall⟩ := mem_ready.1 hj
      have hnot : ∀ e ∈ oj.after, Region.binds .any e = true → e.on ≠ i := fun e he hb heq => by
        have h1 := hall e he hb
        have h0 := (mem_ready.1 hr).1
        rw [heq] at h1
        rcases Nat.lt_or_ge i listed.size with h' | h'
        · simp [h'] at h0 h1; rw [h0] at h1; cases h1
        · simp [Array.getElem?_eq_none h'] at h1
      obtain ⟨f1, f2, f3, f4⟩ := hfree j oj hoj hji hjun hnot
      have h2 := AOne_comm hoj f1 hs he (aEff_fresh he) f2 f3 (fun a b => hn (f4 a b)) h1
      have hfree' : ∀ k ok, ops[k]? = some ok → k ≠ i → (listed.setIfInBounds j true).getD k true = false →
          (∀ e ∈ ok.after, Region.binds .any e = true → e.on ≠ i) →
          oi.apart ops ok = true ∧ opKind ok ≠ 6 ∧ (opKind oi = 1 → opKind ok ≠ 3) ∧ (opKind oi = 1 → opKind ok = 4 → need = true) := fun k ok hk hki hun hno => by
        refine hfree k ok hk hki ?_ hno
        by_cases hjk : j = k
        · subst hjk; exact hjun
        · rw [getD_set_ne true hjk] at hun; exact hun
      refine AOne_mono (fun s' h3 => ?_) h2
      obtain ⟨q1, q2, q3, q4⟩ := h3
      refine ih (listed.setIfInBounds j true) s' hfree' (ready_mono hr (Ne.symm hji)) q1 (fun hnn => by rw [q2]; exact hn hnn) ?_
      rw [Array.setIfInBounds_comm _ _ hji]
      exact q4

theorem takeB_spec {listed : Array Bool} {i : Nat} {oi : Oper} {need : Bool} (hi : ops[i]? = some oi) (h : takeB ops listed i need = true) (j : Nat) (oj : Oper)
    (hj : ops[j]? = some oj) (hne : j ≠ i) (hun : listed.getD j true = false) (hno : ∀ e ∈ oj.after, Region.binds .any e = true → e.on ≠ i) :
    oi.apart ops oj = true ∧ opKind oj ≠ 6 ∧ (opKind oi = 1 → opKind oj ≠ 3) ∧ (opKind oi = 1 → opKind oj = 4 → need = true) := by
  simp only [takeB, hi, List.all_eq_true, List.mem_range] at h
  have h1 := h j (Array.getElem?_eq_some_iff.1 hj).1
  simp only [hj, Bool.or_eq_true, beq_iff_eq, hne, false_or, hun, Bool.false_eq_true, Bool.and_eq_true, bne_iff_ne] at h1
  rcases h1 with h1 | ⟨h1, h2, h3⟩
  · obtain ⟨e, he, hb⟩ := Array.any_eq_true'.1 h1
    simp only [Bool.and_eq_true, beq_iff_eq] at hb
    exact absurd hb.2 (hno e he hb.1)
  · refine ⟨h1, h2, ?_, ?_⟩
    · intro hk
      rcases h3 with h3 | h3
      · exact absurd hk h3
      · exact h3.1
    · intro hk h4
      rcases h3 with h3 | h3
      · exact absurd hk h3
      · rcases h3.2 with h5 | h5
        · exact absurd h4 h5
        · exact h5

theorem eager_sound {K : AS → Prop} : ∀ (l : List (Nat × Nat)) (listed : Array Bool) (s : AS), eagerB ops l listed = true → AEag P L ops K l s → aAny P L ops K l.length listed s
  | [], listed, s, hB, h => fun _ => ⟨by simpa [eagerB] using hB, h⟩
  | (i, 0) :: r, listed, s, hB, h => by
    simp only [eagerB, Bool.and_eq_true, beq_iff_eq] at hB
    intro hs
    refine ⟨fun h0 => (by rw [hB.1] at h0; cases h0), fun j hj => ?_⟩
    rw [hB.1] at hj
    simp only [List.mem_singleton] at hj
    subst hj
    exact AOne_mono (fun s' h' => eager_sound r _ s' hB.2 h') h
  | (i, m + 1) :: r, listed, s, hB, h => by
    simp only [AEag] at h
    cases hi : ops[i]? with
    | none => rw [hi] at h; exact h.elim
    | some o =>
      rw [hi] at h
      simp only at h
      cases he : aEff P L ops o s with
      | none => rw [he] at h; exact h.elim
      | some e =>
        rw [he] at h
        simp only at h
        simp only [eagerB, Bool.and_eq_true] at hB
        cases m with
        | zero =>
          simp only [Nat.zero_add, List.contains_iff_mem, Bool.and_eq_true] at hB
          refine aAny_first (need := false) hi _ _ _ ?_ hB.1.1 he (by intro h; cases h) (eager_sound r _ _ hB.2 h.2)
          intro j oj a b c d
          exact takeB_spec hi hB.1.2 j oj a b c d
        | succ m =>
          simp only [List.contains_iff_mem, Bool.and_eq_true] at hB
          refine aAny_first (need := true) hi _ _ _ ?_ hB.1.1 he (fun _ => h.1.resolve_left (by omega)) (eager_sound r _ _ hB.2 h.2)
          intro j oj a b c d
          exact takeB_spec hi hB.1.2 j oj a b c d

theorem AOne_sound (G : Good P) {B : Nat} {E : Ent} {ρ : Rho} {lam : Nat → Nat} {s : AS} {a : Act} {w : World} (F : FRel B E ρ lam s a w) {i : Nat} {K : AS → Prop} {K' : Act → World → Prop} {Q : Exit → Act → World → Prop}
    (hK : ∀ s' ρ' lam' a' w', K s' → FRel B E ρ' lam' s' a' w' → K' a' w') (h : AOne P L ops i K s) : wpOp P ops Q i K' a w := by
  unfold AOne at h
  unfold wpOp
  cases ho : ops[i]? with
  | none => rw [ho] at h; exact hK _ _ _ _ _ h F
  | some o =>
    rw [ho] at h
    simp only at h ⊢
    split at h
    · rename_i hw
      rw [awanted_sound F hw]
      simp only [if_true]
      exact .inl (AOp_sound G F hK h)
    · rename_i hw
      rw [awanted_sound F hw]
      simp only [Bool.false_eq_true, if_false]
      exact hK _ _ _ _ _ h (F.put o.dst (.mem undef_rel))
    · exact h.elim

theorem aAny_sound (G : Good P) {B : Nat} {E : Ent} {K : AS → Prop} {Q : Exit → Act → World → Prop} (hK : ∀ s' ρ' lam' a' w', K s' → FRel B E ρ' lam' s' a' w' → Q .normal a' w') :
    ∀ (fuel : Nat) (listed : Array Bool) (s : AS) (ρ : Rho) (lam : Nat → Nat) (a : Act) (w : World), FRel B E ρ lam s a w → aAny P L ops K fuel listed s → wpAny P .any ops Q fuel listed a w
  | 0, listed, s, ρ, lam, a, w, F, h => ⟨(h (known_of F)).1, hK _ _ _ _ _ (h (known_of F)).2 F⟩
  | fuel + 1, listed, s, ρ, lam, a, w, F, h => by
    obtain ⟨h1, h2⟩ := h (known_of F)
    refine ⟨fun h0 => hK _ _ _ _ _ (h1 h0) F, fun i hi => ?_⟩
    exact AOne_sound G F (fun s' ρ' lam' a' w' hk F' => aAny_sound G hK fuel _ s' ρ' lam' a' w' F' hk) (h2 i hi)

theorem awp_draw (G : Good P) (L : List Nat) {id : Nat} {ops : Array Oper} {Q : Exit → AS → Prop} {s : AS} (l : List (Nat × Nat)) (hl : l.length = ops.size) (hB : eagerB ops l (Array.replicate ops.size false) = true)
    (h : AEag P L ops (Q .normal) l (prepL ops.toList s)) : AWp P (.region id ops true) Q s := by
  intro B E ρ lam a w F
  have F' := prep_rel ops.toList s (F.same (Same.drew w))
  refine wp_region_any G.mixed ?_
  have := aAny_sound (L := L) G (Q := fun e a' w' => ∃ s' ρ' lam', Q e s' ∧ FRel B E ρ' lam' s' a' w') (fun s' ρ' lam' a' w' hk F' => ⟨s', ρ', lam', hk, F'⟩) _ (Array.replicate ops.size false) _ ρ lam a w.drew F' (eager_sound l _ _ hB h)
  rw [hl] at this
  exact this

theorem AOps_cons (i : Nat) (r : List Nat) (K : AS → Prop) (s : AS) : AOps P L ops (i :: r) K s = AOne P L ops i (AOps P L ops r K) s := rfl
end
end Go.Proofs.Ytdoafmfkbddmlaa.Abs
