/- Bounds: windows. -/
import Derived.Test.YtimeninncpmaeaaBfsB
import Derived.Test.YtimeninncpmaeaaBfqM
namespace Go.Proofs.Ytimeninncpmaeaa.Abs
open Go
set_option linter.unusedVariables false
set_option linter.unusedSimpArgs false
set_option maxHeartbeats 1000000
section
variable {x1 x2 : Int} {x3 : Bool} {l4 l5 : List Quad} {l6 : List (Int × Int)} {x7 x8 : Int}
/-- What the bounds of a window are. -/
def upF (n : Nat) (x8 : Int) (v : Nat) : Int := if v = n - 2 then 0 else x8
theorem bnd_up {n : Nat} (h8 : 0 ≤ x8 ∧ x8 ≤ 4096) {u : List Int} (hu : u.length = n) (hv : ∀ v, v < n → D.gd u v = upF n x8 v) {v : Nat} (h : v < n) : D.bndI u v = upF n x8 v := by
  unfold D.bndI
  rw [if_neg (by omega), hv v h, D.limit_eq _ _ (by omega) (by omega)]
  unfold upF
  split <;> repeat' split <;> omega
/-- Whether the arguments of Window are in their ranges. -/
def WinOK (x3 : Bool) (x7 x8 : Int) : Prop := (if x3 = true then 1 ≤ x7 ∧ x7 ≤ 256 else x7 = 0) ∧ 0 ≤ x8 ∧ x8 ≤ 4096
theorem head_any (hv : ValidOK x1 x2 x3 l4 l5 l6) (hf : Few x1 x2 l4 l5 l6) (hw : WinOK x3 x7 x8) : F25_s1 x1 x2 x3 l4 l5 l6 x7 x8 = some 1 := by
  obtain ⟨f1, f2, f3, f4, f5⟩ := hf
  obtain ⟨w1, w2, w3⟩ := hw
  apply Yields.eq
  unfold F25_s1
  refine Yields.bind (valid_prog x1 x2 x3 l4 l5 l6 (by omega) (by omega) (by omega)) fun r hr => ?_
  rw [hr.2 hv]
  cases x3
  · rw [if_neg (by simp)] at w1
    subst w1
    rw [decide_eq_false (show ¬ x8 < 0 by omega), decide_eq_false (show ¬ x8 > 4096 by omega)]
    exact Yields.some rfl
  · rw [if_pos rfl] at w1
    rw [decide_eq_false (show ¬ x7 < 1 by omega), decide_eq_false (show ¬ x7 > 256 by omega), decide_eq_false (show ¬ x8 < 0 by omega), decide_eq_false (show ¬ x8 > 4096 by omega)]
    exact Yields.some rfl
/-- The loop that makes the upper bounds. -/
theorem upper_any {n : Nat} (hn : n ≤ 20) (hN : (n : Int) = x1 + x2 + 2) (h1 : 0 ≤ x1) (h2 : 0 ≤ x2) (e49 : F49 x1 x2 x3 l4 l5 l6 = x1 + x2) {y : List Int × List Int} (hy : y.1.length = n) :
    Yields (fun r => (r.1 = 0 ∧ ∃ v, v < n ∧ x8 < D.gd y.1 v) ∨ (r.1 = 1 ∧ (∀ v, v < n → D.gd y.1 v ≤ x8) ∧ r.2.length = n ∧ ∀ v, v < n → D.gd r.2 v = upF n x8 v)) (loopO (fun (s : Int × (List Int)) => F25_s2 x1 x2 x3 l4 l5 l6 x8 y s.1 s.2) (0, List.replicate n (0 : Int))) := by
  refine Yields.loop (z := ((0 : Int), List.replicate n (0 : Int))) n (fun (i : Nat) z => z.1 = (i : Int) ∧ (∀ v, v < i → D.gd y.1 v ≤ x8) ∧ z.2.length = n ∧ (∀ v, v < i → D.gd z.2 v = upF n x8 v) ∧ ∀ v, i ≤ v → v < n → D.gd z.2 v = 0) ⟨rfl, fun v h => absurd h (by omega), by simp, fun v h => absurd h (by omega), fun v _ h => ?_⟩ ?_
  · simp only [D.gd, List.getD]
    rw [List.getElem?_replicate, if_pos h]; rfl
  rintro i ⟨a, u⟩ hi ⟨g1, g2, g3, g4, g5⟩
  simp only at g1 g2 g3 g4 g5
  subst g1
  unfold F25_s2
  simp only
  refine Yields.bif (fun hc => ?_) fun hc => Yields.some (.inr ⟨rfl, fun v hv => g2 v (by have := of_decide_eq_false hc; omega), g3, fun v hv => g4 v (by have := of_decide_eq_false hc; omega)⟩)
  have hc := of_decide_eq_true hc
  have nx : IntKind.i64.wrap ((i : Int) + 1) = ((i + 1 : Nat) : Int) := wr1 (n := n) (by omega) (by omega)
  refine Yields.bindE (D.at_gd (by omega) (by omega)) (Yields.bif (fun k => Yields.some (.inl ⟨rfl, i, by omega, by have := of_decide_eq_true k; exact this⟩)) fun k => ?_)
  have k : ¬ D.gd y.1 i > x8 := of_decide_eq_false k
  have g2' : ∀ v, v < i + 1 → D.gd y.1 v ≤ x8 := fun v hv => by
    by_cases e : v = i
    · subst e; omega
    · exact g2 v (by omega)
  rw [e49]
  refine Yields.bif (fun w => ?_) fun w => Yields.some ⟨by omega, nx, g2', g3, fun v hv => ?_, fun v h h' => g5 v (by omega) h'⟩
  · have w := bne_iff_ne.1 w
    refine Yields.bindE (D.at_gd (by omega) (by omega)) (Yields.some ⟨by omega, nx, g2', by simp only [D.len_set]; exact g3, fun v hv => ?_, fun v h h' => ?_⟩)
    · simp only
      rw [D.gd_set (by omega) (by omega), show ((i : Int)).toNat = i from rfl]
      by_cases e : v = i
      · rw [if_pos e]; unfold upF; rw [if_neg (by omega)]
      · rw [if_neg e]; exact g4 v (by omega)
    · simp only
      rw [D.gd_set (by omega) (by omega), show ((i : Int)).toNat = i from rfl, if_neg (by omega)]
      exact g5 v (by omega) h'
  · have w : (i : Int) = x1 + x2 := by simpa using w
    by_cases e : v = i
    · have := g5 v (by omega) (by omega)
      simp only
      rw [this]; unfold upF; rw [if_pos (by omega)]
    · exact g4 v (by omega)
/-- What Window comes to, for arguments in their ranges. -/
def WinR (n : Nat) (l4 : List Quad) (x7 x8 : Int) (r : List Int × List Int × Int) : Prop :=
  (r = ([], [], 14) ∧ ((¬ Feas n l4 x7) ∨ (∃ st, D.Least n (D.lks n x7 l4) (fun _ => 0) st ∧ ∃ v, v < n ∧ x8 < D.gd st v))) ∨
  (∃ st la, r = (st, la, 0) ∧ D.Least n (D.lks n x7 l4) (fun _ => 0) st ∧ (∀ v, v < n → D.gd st v ≤ x8) ∧ ((∃ u : List Int, u.length = n ∧ (∀ v, v < n → D.gd u v = upF n x8 v) ∧ D.Most n (D.lks n x7 l4) (D.bndI u) la) ∨ (la = [] ∧ ∀ x, D.SolL (D.lks n x7 l4) x → (∀ v, v < n → x v ≤ upF n x8 v) → False)))
theorem window_any (hv : ValidOK x1 x2 x3 l4 l5 l6) (hf : Few x1 x2 l4 l5 l6) (hw : WinOK x3 x7 x8) {n : Nat} (hd : Dim x1 x2 x3 l4 l5 l6 n) : Yields (WinR n l4 x7 x8) (F25 x1 x2 x3 l4 l5 l6 x7 x8) := by
  have hh := hv.1
  have hN := hd.2.1
  unfold F25
  refine Yields.bindE (head_any hv hf hw) ?_
  show Yields _ (Option.bind (F47 (F42 x1 x2 x3 l4 l5 l6) l4 x7) _)
  rw [hd.2.2.1]
  refine Yields.bind (earl_any hd.1 hf.1 x7) fun y hy => ?_
  rcases hy with ⟨h1, h2⟩ | ⟨h1, h2, h3⟩
  · rw [h1]
    simp only [List.isEmpty_nil, Bool.not_true, cond_false]
    rw [ok_len (by have := hd.1; omega) (by have := hd.1; omega)]
    simp only [Bool.not_true, cond_false, Int.toNat_natCast]
    refine Yields.bind (upper_any (x8 := x8) hd.1 hN hh.1 hh.2.2.1 hd.2.2.2.2.2.1 h2.1) fun u hu => ?_
    rcases hu with ⟨u1, u2⟩ | ⟨u1, u2, u3, u4⟩
    · rw [u1]
      exact Yields.some (.inl ⟨rfl, .inr ⟨y.1, h2, u2⟩⟩)
    · rw [u1]
      simp only [Nat.beq_eq_true_eq, show Nat.beq 1 0 = false from rfl, cond_false]
      refine Yields.bind (D.latest_all (ii := x7) hd.1 (size_fix hd.1) hf.1 u.2) fun q hq => Yields.some (.inr ⟨y.1, q.1, rfl, h2, u2, ?_⟩)
      rcases hq with ⟨q1, q2⟩ | ⟨q1, q2, q3⟩
      · exact .inl ⟨u.2, u3, u4, q2⟩
      · exact .inr ⟨q1, fun x hx hlo => q3 x hx fun v hv' => by rw [bnd_up hw.2 u3 u4 hv']; exact hlo v hv'⟩
  · rw [ne_isEmpty (pos_ne h2)]
    exact Yields.some (.inl ⟨rfl, .inl h3⟩)
end
end Go.Proofs.Ytimeninncpmaeaa.Abs
