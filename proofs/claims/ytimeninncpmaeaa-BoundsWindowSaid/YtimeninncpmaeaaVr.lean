/-
  What came in, of types that hold integers, bools and strings alone: cell by cell.
-/
import Derived.Test.YtimeninncpmaeaaVq
namespace Go.Proofs.Ytimeninncpmaeaa.Abs
open Go
set_option linter.unusedVariables false
set_option linter.unusedSimpArgs false

def flatFs (g : TypeId → Option (List TypeDesc)) : List Field → Option (List TypeDesc)
  | [] => some []
  | f :: r => match g f.type, flatFs g r with
    | some a, some b => some (a ++ b)
    | _, _ => none
def repFlat (a : List TypeDesc) : Nat → List TypeDesc
  | 0 => []
  | n + 1 => a ++ repFlat a n
def flatT (P : Program) : Nat → TypeId → Option (List TypeDesc)
  | 0, _ => none
  | n + 1, t => match P.underlying t with
    | some .bool => some [.bool]
    | some (.int k) => some [.int k]
    | some .string => some [.string]
    | some (.struct fs) => flatFs (flatT P n) fs.toList
    | some (.array m e) => match flatT P n e with
      | some a => some (repFlat a m)
      | none => none
    | _ => none
def SC : List TypeDesc → List Value → Prop
  | [], [] => True
  | .bool :: ks, v :: vs => (∃ b, v = .bool b) ∧ SC ks vs
  | .int k :: ks, v :: vs => (∃ x, v = .int k x ∧ (Lit.int k x).wf = true) ∧ SC ks vs
  | .string :: ks, v :: vs => (∃ x, v = .string x ∧ x.size ≤ maxLen) ∧ SC ks vs
  | _, _ => False
theorem SC.append : ∀ {ks : List TypeDesc} {vs : List Value} {ks' : List TypeDesc} {vs' : List Value}, SC ks vs → SC ks' vs' → SC (ks ++ ks') (vs ++ vs')
  | [], [], _, _, _, h => h
  | [], _ :: _, _, _, h, _ => h.elim
  | k :: ks, [], _, _, h, _ => by cases k <;> exact h.elim
  | k :: ks, v :: vs, _, _, h, h' => by
    cases k <;> first | exact ⟨h.1, SC.append h.2 h'⟩ | exact h.elim

theorem wt_flat {P : Program} {s : AHeap} : ∀ (n : Nat) {t : TypeId} {ks : List TypeDesc} {cs : List Value}, flatT P n t = some ks → WT P s n t cs → SC ks cs := by
  intro n
  induction n with
  | zero => intro t ks cs hf; cases hf
  | succ n ih =>
    intro t ks cs hf hw
    unfold flatT at hf
    unfold WT at hw
    split at hf
    · rename_i hu
      cases hf
      rw [hu] at hw
      obtain ⟨b, rfl⟩ := hw
      exact ⟨⟨b, rfl⟩, trivial⟩
    · rename_i k hu
      cases hf
      rw [hu] at hw
      obtain ⟨x, rfl, hx⟩ := hw
      exact ⟨⟨x, rfl, hx⟩, trivial⟩
    · rename_i hu
      cases hf
      rw [hu] at hw
      obtain ⟨x, rfl, hx⟩ := hw
      exact ⟨⟨x, rfl, hx⟩, trivial⟩
    · rename_i fs hu
      rw [hu] at hw
      obtain ⟨css, rfl, hl, h⟩ := hw
      have key : ∀ (l : List Field) (css : List (List Value)) (ks : List TypeDesc), css.length = l.length → (∀ (i : Nat) f c, l[i]? = some f → css[i]? = some c → WT P s n f.type c) → flatFs (flatT P n) l = some ks → SC ks css.flatten := by
        intro l
        induction l with
        | nil =>
          intro css ks hl _ hf
          have : css = [] := List.eq_nil_of_length_eq_zero hl
          subst this
          simp only [flatFs, Option.some.injEq] at hf
          subst hf
          trivial
        | cons f l ihl =>
          intro css ks hl h hf
          cases css with
          | nil => simp at hl
          | cons c css =>
            simp only [flatFs] at hf
            split at hf
            · rename_i a b ha hb
              cases hf
              rw [List.flatten_cons]
              exact (ih ha (h 0 f c rfl rfl)).append (ihl css b (by simpa using hl) (fun i f' c' h1 h2 => h (i + 1) f' c' (by simpa using h1) (by simpa using h2)) hb)
            · cases hf
      exact key fs.toList css ks (by simpa using hl) (fun i f c h1 h2 => (h i f c (by simpa using h1) h2).2) hf
    · rename_i m e hu
      rw [hu] at hw
      obtain ⟨css, rfl, hl, h⟩ := hw
      split at hf
      · rename_i a ha
        cases hf
        have key : ∀ (m : Nat) (css : List (List Value)), css.length = m → (∀ c ∈ css, WT P s n e c) → SC (repFlat a m) css.flatten := by
          intro m
          induction m with
          | zero =>
            intro css hl _
            have : css = [] := List.eq_nil_of_length_eq_zero hl
            subst this; trivial
          | succ m ihm =>
            intro css hl h
            cases css with
            | nil => simp at hl
            | cons c css =>
              rw [List.flatten_cons]
              exact (ih ha (h c (by simp))).append (ihm css (by simpa using hl) (fun c' hc => h c' (by simp [hc])))
        exact key m css hl (fun c hc => (h c hc).2)
      · cases hf
    · cases hf

/-- An argument: its cells. -/
theorem wtv_agg {P : Program} {s : AHeap} {n : Nat} {t : TypeId} {u : Value} {ks : List TypeDesc} (ha : isAggT P t = some true) (hf : flatT P n t = some ks) (hw : WTv P s n t u) : ∃ cs, u = .agg cs.toArray ∧ SC ks cs := by
  unfold isAggT at ha
  unfold WTv at hw
  split at ha
  · rename_i fs hu; rw [hu] at hw; obtain ⟨cs, h1, h2⟩ := hw; exact ⟨cs, h1, wt_flat n hf h2⟩
  · rename_i m e hu; rw [hu] at hw; obtain ⟨cs, h1, h2⟩ := hw; exact ⟨cs, h1, wt_flat n hf h2⟩
  · cases ha
  · cases ha
theorem wtv_one {P : Program} {s : AHeap} {n : Nat} {t : TypeId} {u : Value} {ks : List TypeDesc} (ha : isAggT P t = some false) (hf : flatT P n t = some ks) (hw : WTv P s n t u) : SC ks [u] := by
  unfold isAggT at ha
  unfold WTv at hw
  cases hu : P.underlying t with
  | none => rw [hu] at ha; cases ha
  | some d =>
    rw [hu] at ha hw
    cases d <;> first | (cases ha; done) | exact wt_flat n hf hw
theorem sc_int {k : IntKind} {ks : List TypeDesc} {cs : List Value} (h : SC (.int k :: ks) cs) : ∃ x vs, cs = .int k x :: vs ∧ (Lit.int k x).wf = true ∧ SC ks vs := by
  cases cs with
  | nil => exact h.elim
  | cons v vs => obtain ⟨⟨x, rfl, hx⟩, h2⟩ := h; exact ⟨x, vs, rfl, hx, h2⟩
theorem sc_bool {ks : List TypeDesc} {cs : List Value} (h : SC (.bool :: ks) cs) : ∃ x vs, cs = .bool x :: vs ∧ SC ks vs := by
  cases cs with
  | nil => exact h.elim
  | cons v vs => obtain ⟨⟨x, rfl⟩, h2⟩ := h; exact ⟨x, vs, rfl, h2⟩
theorem sc_string {ks : List TypeDesc} {cs : List Value} (h : SC (.string :: ks) cs) : ∃ x vs, cs = .string x :: vs ∧ x.size ≤ maxLen ∧ SC ks vs := by
  cases cs with
  | nil => exact h.elim
  | cons v vs => obtain ⟨⟨x, rfl, hx⟩, h2⟩ := h; exact ⟨x, vs, rfl, hx, h2⟩
theorem sc_nil {cs : List Value} (h : SC [] cs) : cs = [] := by
  cases cs with
  | nil => rfl
  | cons v vs => exact h.elim
theorem wts_cons {P : Program} {s : AHeap} {n : Nat} {t : TypeId} {ts : List TypeId} {us : List Value} (h : WTs P s n (t :: ts) us) : ∃ u vs, us = u :: vs ∧ WTv P s n t u ∧ WTs P s n ts vs := by
  cases us with
  | nil => exact h.elim
  | cons u vs => exact ⟨u, vs, rfl, h.1, h.2⟩
theorem wts_nil {P : Program} {s : AHeap} {n : Nat} {us : List Value} (h : WTs P s n [] us) : us = [] := by
  cases us with
  | nil => rfl
  | cons u vs => exact h.elim
end Go.Proofs.Ytimeninncpmaeaa.Abs
