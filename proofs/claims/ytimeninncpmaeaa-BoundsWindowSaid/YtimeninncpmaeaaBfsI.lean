/- Bounds: the law of the windows. -/
import Derived.Test.YtimeninncpmaeaaBfsW
namespace Go.Proofs.Ytimeninncpmaeaa.Abs
open Go
set_option linter.unusedVariables false
set_option linter.unusedSimpArgs false
set_option maxHeartbeats 1000000
section
variable {x1 x2 : Int} {x3 : Bool} {l4 l5 : List Quad} {l6 : List (Int × Int)} {x7 x8 : Int}
theorem head_no (hf : Few x1 x2 l4 l5 l6) (hw : ¬ (ValidOK x1 x2 x3 l4 l5 l6 ∧ WinOK x3 x7 x8)) : F25 x1 x2 x3 l4 l5 l6 x7 x8 = some ([], [], 3) := by
  obtain ⟨f1, f2, f3, f4, f5⟩ := hf
  have h0 : F25_s1 x1 x2 x3 l4 l5 l6 x7 x8 = some 0 := by
    apply Yields.eq
    unfold F25_s1
    refine Yields.bind (valid_prog x1 x2 x3 l4 l5 l6 (by omega) (by omega) (by omega)) fun r hr => Yields.bif (fun _ => Yields.some rfl) fun q => ?_
    have hv := hr.1 (by simpa using q)
    have hw : ¬ WinOK x3 x7 x8 := fun h => hw ⟨hv, h⟩
    unfold WinOK at hw
    cases x3
    · simp only [Bool.not_false, cond_true, cond_false]
      refine Yields.bif (fun _ => Yields.some rfl) fun a => Yields.bif (fun _ => Yields.some rfl) fun b => Yields.bif (fun _ => Yields.some rfl) fun c => ?_
      have a : x7 = 0 := by simpa using a
      have b := of_decide_eq_false b; have c := of_decide_eq_false c
      exact absurd ⟨by rw [if_neg (by simp)]; exact a, by omega, by omega⟩ hw
    · simp only [Bool.not_true, cond_true, cond_false]
      refine Yields.bif (fun _ => Yields.some rfl) fun a => Yields.bif (fun _ => Yields.some rfl) fun a' => Yields.bif (fun _ => Yields.some rfl) fun b => Yields.bif (fun _ => Yields.some rfl) fun c => ?_
      have a := of_decide_eq_false a; have a' := of_decide_eq_false a'; have b := of_decide_eq_false b; have c := of_decide_eq_false c
      exact absurd ⟨by simp; omega, by omega, by omega⟩ hw
  unfold F25
  rw [h0]
  rfl
theorem head_ref (hf : Few x1 x2 l4 l5 l6) : Yields (fun b => b = false ↔ (ValidOK x1 x2 x3 l4 l5 l6 ∧ WinOK x3 x7 x8)) (F9_s1 x1 x2 x3 l4 l5 l6 x7 x8) := by
  obtain ⟨f1, f2, f3, f4, f5⟩ := hf
  have no : ∀ {p : Prop}, ¬ p → (true = false ↔ p) := fun h => ⟨fun e => (by cases e), fun e => absurd e h⟩
  unfold F9_s1
  refine Yields.bind (valid_ref x1 x2 x3 l4 l5 l6 (by omega) (by omega) (by omega)) fun r hr => Yields.bif (fun q => Yields.some (no fun h => by rw [hr.2 h.1] at q; cases q)) fun q => ?_
  have hv := hr.1 (by simpa using q)
  unfold WinOK
  cases x3
  · simp only [Bool.not_false, cond_true, cond_false]
    refine Yields.bif (fun a => Yields.some (no fun h => ?_)) fun a => Yields.bif (fun b => Yields.some (no fun h => ?_)) fun b => Yields.some ?_
    · have := h.2.1; rw [if_neg (by simp)] at this; exact bne_iff_ne.1 a this
    · have := of_decide_eq_true b; have := h.2.2.1; omega
    · have a : x7 = 0 := by simpa using a
      have b := of_decide_eq_false b
      rw [decide_eq_false_iff_not]
      exact ⟨fun h => ⟨hv, by rw [if_neg (by simp)]; exact a, by omega, by omega⟩, fun h => by have := h.2.2.2; omega⟩
  · simp only [Bool.not_true, cond_true, cond_false]
    refine Yields.bif (fun a => Yields.some (no fun h => ?_)) fun a => Yields.bif (fun a => Yields.some (no fun h => ?_)) fun a' => Yields.bif (fun b => Yields.some (no fun h => ?_)) fun b => Yields.some ?_
    · have := h.2.1; simp at this; have := of_decide_eq_true a; omega
    · have := h.2.1; simp at this; have := of_decide_eq_true a; omega
    · have := of_decide_eq_true b; have := h.2.2.1; omega
    · have a := of_decide_eq_false a; have a' := of_decide_eq_false a'; have b := of_decide_eq_false b
      rw [decide_eq_false_iff_not]
      exact ⟨fun h => ⟨hv, by simp; omega, by omega, by omega⟩, fun h => by have := h.2.2.2; omega⟩
theorem most_up {n : Nat} {E : List D.Lk} {u r : List Int} (h : D.Most n E (D.bndI u) r) (hu : ∀ v, v < n → D.bndI u v = upF n x8 v) : D.Most n E (upF n x8) r :=
  ⟨h.1, h.2.1, fun v hv => by rw [← hu v hv]; exact h.2.2.1 v hv, fun x hx hlo v hv => h.2.2.2 x hx (fun w hw => by rw [hu w hw]; exact hlo w hw) v hv⟩
theorem all_loop {n : Nat} (hn : n ≤ 20) {y : List Int × Bool} (hy : y.2 = true → y.1.length = n) (h0 : y.2 = false → y.1 = []) : Yields (fun b => b = true ↔ (y.2 = true ∧ ∀ v, v < n → D.gd y.1 v ≤ x8)) (loopO (fun (s : Bool × Int) => F9_s2 x8 y s.1 s.2) (y.2, 0)) := by
  cases h : y.2
  · refine Yields.loop (z := (false, (0 : Int))) 0 (fun (i : Nat) z => z = (false, 0)) rfl ?_
    rintro i z hi rfl
    unfold F9_s2
    rw [h0 h]
    exact Yields.some ⟨fun e => (by cases e), fun e => (by cases e.1)⟩
  · have hl := hy h
    refine Yields.loop (z := (true, (0 : Int))) n (fun (i : Nat) z => z.2 = (i : Int) ∧ (z.1 = true ↔ ∀ v, v < i → D.gd y.1 v ≤ x8)) ⟨rfl, fun _ v hv => absurd hv (by omega), fun _ => rfl⟩ ?_
    rintro i ⟨a, b⟩ hi ⟨h1, h2⟩
    simp only at h1 h2
    subst h1
    unfold F9_s2
    simp only
    refine Yields.bif (fun hc => ?_) fun hc => Yields.some ?_
    · have hc := of_decide_eq_true hc
      have nx : IntKind.i64.wrap ((i : Int) + 1) = ((i + 1 : Nat) : Int) := wr1 (n := n) (by omega) (by omega)
      refine Yields.bif (fun k => ?_) fun k => Yields.some ⟨by omega, nx, fun e => (by cases e), fun e => ?_⟩
      · refine Yields.bindE (D.at_gd (by omega) hc) (Yields.some ⟨by omega, nx, ?_⟩)
        simp only
        rw [decide_eq_true_iff, show ((i : Int)).toNat = i from rfl]
        constructor
        · intro e v hv
          by_cases ev : v = i
          · rw [ev]; exact e
          · exact h2.1 k v (by omega)
        · intro e; exact e i (by omega)
      · have := h2.2 fun v hv => e v (by omega)
        rw [k] at this; cases this
    · have hc := of_decide_eq_false hc
      have : i = n := by omega
      subst this
      exact ⟨fun e => ⟨trivial, h2.1 e⟩, fun e => h2.2 e.2⟩
theorem fill_loop {n : Nat} (hn : n ≤ 20) (e26 : IntKind.i64.wrap (F26 x1 x2 x3 l4 l5 l6 + 1) = (n : Int)) : Yields (fun u => u.length = n ∧ ∀ v, v < n → D.gd u v = x8) (loopO (fun (s : Int × (List Int)) => F9_s3 x1 x2 x3 l4 l5 l6 x8 s.1 s.2) (0, List.replicate n (0 : Int))) := by
  refine Yields.loop (z := ((0 : Int), List.replicate n (0 : Int))) n (fun (i : Nat) z => z.1 = (i : Int) ∧ z.2.length = n ∧ ∀ v, v < i → D.gd z.2 v = x8) ⟨rfl, by simp, fun v h => absurd h (by omega)⟩ ?_
  rintro i ⟨a, u⟩ hi ⟨g1, g2, g3⟩
  simp only at g1 g2 g3
  subst g1
  unfold F9_s3 F9__1
  rw [e26]
  simp only [Int.toNat_natCast, List.length_replicate]
  refine Yields.bif (fun hc => ?_) fun hc => Yields.some ⟨g2, fun v hv => g3 v (by have := of_decide_eq_false hc; omega)⟩
  have hc := of_decide_eq_true hc
  have nx : IntKind.i64.wrap ((i : Int) + 1) = ((i + 1 : Nat) : Int) := wr1 (n := n) (by omega) (by omega)
  refine Yields.bindE (D.at_gd (by omega) (by omega)) (Yields.some ⟨by omega, nx, by simp only [D.len_set]; exact g2, fun v hv => ?_⟩)
  simp only
  rw [D.gd_set (by omega) (by omega), show ((i : Int)).toNat = i from rfl]
  by_cases e : v = i
  · rw [if_pos e]
  · rw [if_neg e]; exact g3 v (by omega)
theorem after_false {n : Int} {l : List Quad} {ii : Int} {a : List Int × Bool} (h : F27 n l ii [] = some a) (h2 : a.2 = false) : a.1 = [] := by
  unfold F27 at h
  obtain ⟨y, _, h⟩ := Option.bind_eq_some_iff.1 h
  cases hy : y.2
  · rw [hy] at h
    simp only [Bool.not_false, cond_true, Option.some.injEq] at h
    rw [← h]
  · rw [hy] at h
    simp only [Bool.not_true, cond_false] at h
    obtain ⟨z, _, h⟩ := Option.bind_eq_some_iff.1 h
    simp only [Option.some.injEq] at h
    rw [← h] at h2
    cases h2
theorem window_eq (k4 : l4.length ≤ maxLen) (k6 : l6.length ≤ maxLen) : F9 x1 x2 x3 l4 l5 l6 x7 x8 = some true := by
  apply Yields.eq
  unfold F9
  refine Yields.bindE F11_true ?_
  simp only [Bool.not_true, cond_false]
  refine Yields.bind (few_any x1 x2 x3 l4 l5 l6 k4 k6) fun r hr => Yields.bif (fun _ => Yields.bindE F11_true (Yields.some rfl)) fun q => ?_
  have hf : Few x1 x2 l4 l5 l6 := hr (by simpa using q)
  obtain ⟨f1, f2, f3, f4, f5⟩ := id hf
  by_cases hw : ValidOK x1 x2 x3 l4 l5 l6 ∧ WinOK x3 x7 x8
  · obtain ⟨hv, hw'⟩ := id hw
    have hh := hv.1
    obtain ⟨n, hd⟩ := dim_any x1 x2 x3 l4 l5 l6 hf hv.1
    have hN := hd.2.1
    refine Yields.bind (window_any hv hf hw' hd) fun y hy => Yields.bind (head_ref hf) fun b hb => ?_
    rw [hb.2 hw]
    simp only [cond_false]
    rw [hd.2.2.2.1, hd.2.2.2.2.2.2.1]
    obtain ⟨a, ea, ha⟩ := D.after_ref (ii := x7) (l := l4) (x1 := (n : Int)) hd.1 (D.nodes_fix hd.1) (by omega) []
    rw [bnd_nil] at ha
    refine Yields.bindE ea ?_
    have hall : Yields (fun b => b = true ↔ (a.2 = true ∧ ∀ v, v < n → D.gd a.1 v ≤ x8)) (loopO (fun (s : Bool × Int) => F9_s2 x8 a s.1 s.2) (a.2, 0)) := by
      refine all_loop hd.1 (fun e => ?_) (fun e => after_false ea e)
      rcases ha with ⟨_, a2⟩ | ⟨a1, _⟩
      · exact a2.1
      · rw [a1] at e; cases e
    refine Yields.bind hall fun c hc => ?_
    rcases hy with ⟨rfl, hbad⟩ | ⟨st, la, rfl, h1, h2, h3⟩
    · have : c = false := by
        cases c
        · rfl
        · obtain ⟨c1, c2⟩ := hc.1 rfl
          rcases ha with ⟨_, a2⟩ | ⟨a1, _⟩
          · rcases hbad with g | ⟨st, g, v, hv', hlt⟩
            · exact absurd ⟨_, a2.2.1⟩ g
            · rw [g.eq a2] at hlt
              have := c2 v hv'; omega
          · rw [a1] at c1; cases c1
      rw [this]
      exact Yields.some rfl
    · rcases ha with ⟨a1, a2⟩ | ⟨_, a2⟩
      rotate_left
      · exact absurd h1.2.1 (a2 _)
      have est : st = a.1 := h1.eq a2
      have : c = true := hc.2 ⟨a1, fun v hv' => by rw [← est]; exact h2 v hv'⟩
      rw [this]
      simp only [Bool.not_true, cond_false]
      rw [ok_len (by have := hd.1; omega) (by have := hd.1; omega)]
      simp only [Bool.not_true, cond_false, Int.toNat_natCast]
      refine Yields.bind (fill_loop (x8 := x8) hd.1 hd.2.2.2.1) fun u hu => ?_
      have e2 : (x1 + x2).toNat = n - 2 := by omega
      have ulen := hu.1
      refine Yields.bindE (D.at_gd (by have := hh.1; have := hh.2.2.1; omega) (by omega)) ?_
      have hset : ∀ v, v < n → D.gd (setI u (x1 + x2) 0) v = upF n x8 v := fun v hv' => by
        rw [D.gd_set (by have := hh.1; have := hh.2.2.1; omega) (by omega), e2]
        unfold upF
        split
        · rfl
        · exact hu.2 v hv'
      have slen : (setI u (x1 + x2) 0).length = n := by rw [D.len_set]; exact ulen
      refine Yields.bind (D.latest_ref (ii := x7) (l := l4) hd.1 (D.nodes_fix hd.1) (by omega) (setI u (x1 + x2) 0)) fun m hm => ?_
      rcases hm with ⟨_, m2⟩ | ⟨_, m2⟩
      rotate_left
      · exact absurd h1.2.1 (m2 _)
      have mu := most_up m2 (fun v hv' => bnd_up hw'.2 slen hset hv')
      have ela : la = m.1 := by
        rcases h3 with ⟨u', u1, u2, hM⟩ | ⟨_, hno⟩
        · exact (most_up hM (fun v hv' => bnd_up hw'.2 u1 u2 hv')).eq mu
        · exact (hno _ mu.2.1 mu.2.2.1).elim
      have l1 := h1.1
      have l2 := mu.1
      rw [← ela] at l2
      simp only [bne_self_eq_false, cond_false, l1, l2]
      refine Yields.bind (P := fun t => t = 1) (Yields.loop n (fun (i : Nat) z => z = (i : Int)) rfl ?_) (by rintro t rfl; exact Yields.some rfl)
      rintro i z hi rfl
      unfold F9_s4
      rw [hd.2.2.2.1, ← est, ← ela]
      refine Yields.bif (fun hc => ?_) fun _ => Yields.some rfl
      have hc := of_decide_eq_true hc
      have nx : IntKind.i64.wrap ((i : Int) + 1) = ((i + 1 : Nat) : Int) := wr1 (n := n) (by omega) (by have := hd.1; omega)
      refine Yields.bindE (D.at_gd (by omega) (show (i : Int) < (st.length : Int) by omega)) (Yields.bindE (D.at_gd (by omega) (show (i : Int) < (st.length : Int) by omega)) ?_)
      rw [bne_self_eq_false, cond_false]
      refine Yields.bindE (D.at_gd (by omega) (show (i : Int) < (la.length : Int) by omega)) (Yields.bindE (D.at_gd (by omega) (show (i : Int) < (la.length : Int) by omega)) ?_)
      rw [bne_self_eq_false, cond_false]
      exact Yields.some ⟨by omega, nx⟩
  · have hno := head_no hf hw
    refine Yields.bindE hno (Yields.bind (head_ref hf) fun b hb => ?_)
    have : b = true := by
      cases b
      · exact absurd (hb.1 rfl) hw
      · rfl
    rw [this]
    exact Yields.some rfl
end
end Go.Proofs.Ytimeninncpmaeaa.Abs
