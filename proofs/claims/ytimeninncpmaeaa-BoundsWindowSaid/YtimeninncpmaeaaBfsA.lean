/- Bounds: what the pieces come to. -/
import Derived.Test.YtimeninncpmaeaaBfrL
namespace Go.Proofs.Ytimeninncpmaeaa.Abs
open Go
set_option linter.unusedVariables false
set_option linter.unusedSimpArgs false
set_option maxHeartbeats 300000
theorem wrap_u64 {n : Int} (h0 : 0 ≤ n) (h1 : n < 18446744073709551616) : IntKind.u64.wrap n = n := by
  simp [IntKind.wrap, IntKind.bits, IntKind.signed]; omega
theorem size_fix {n : Nat} (hn : n ≤ 20) : F57 (n : Int) = (n : Int) := by unfold F57; repeat' split <;> omega
def Feas (n : Nat) (l4 : List Quad) (ii : Int) : Prop := ∃ x, D.SolL (D.lks n ii l4) x
theorem feas_mono {n : Nat} {l4 : List Quad} {i1 i2 : Int} (hd : ∀ y ∈ l4, 0 ≤ y.2.2.2) (h0 : 0 ≤ i1) (h1 : i1 ≤ i2) (h2 : i2 ≤ 256) (h : Feas n l4 i1) : Feas n l4 i2 := by
  obtain ⟨x, hx⟩ := h
  exact ⟨x, D.sol_lks.2 (D.sol_more h0 h1 h2 hd (D.sol_lks.1 hx))⟩
theorem bnd_nil : D.bndI [] = fun _ => 0 := by funext v; simp [D.bndI]
theorem sol_shift {E : List D.Lk} {x : Nat → Int} (h : D.SolL E x) (C : Int) : D.SolL E (fun v => x v + C) := fun e he => by
  have := h e he
  simp only; omega
theorem low_bound (x : Nat → Int) : ∀ n : Nat, ∃ C : Int, ∀ v, v < n → 0 ≤ x v + C
  | 0 => ⟨0, fun v h => absurd h (by omega)⟩
  | n + 1 => by
    obtain ⟨C, hC⟩ := low_bound x n
    refine ⟨if C < -x n then -x n else C, fun v hv => ?_⟩
    by_cases e : v = n
    · subst e; split <;> omega
    · have := hC v (by omega)
      split <;> omega
theorem earl_any {n : Nat} (hn : n ≤ 20) {l : List Quad} (hm : l.length ≤ 90) (ii : Int) :
    Yields (fun r => (r.2 = [] ∧ D.Least n (D.lks n ii l) (fun _ => 0) r.1) ∨ (r.1 = [] ∧ D.Pos n ii l r.2 ∧ ¬ Feas n l ii)) (F47 (n : Int) l ii) := by
  unfold F47
  refine Yields.bind (D.after_all (ii := ii) hn (size_fix hn) hm []) fun r hr => Yields.some ?_
  rw [bnd_nil] at hr
  rcases hr with ⟨h1, h2⟩ | ⟨h1, h2, h3⟩
  · exact .inl ⟨h1, h2⟩
  · refine .inr ⟨h1, h2, ?_⟩
    rintro ⟨x, hx⟩
    obtain ⟨C, hC⟩ := low_bound x n
    exact h3 (fun v => x v + C) (sol_shift hx C) hC
theorem pos_ne {n : Nat} {ii : Int} {l : List Quad} {c : List Int} (h : D.Pos n ii l c) : c ≠ [] := by
  obtain ⟨m, ix, ys, h1, _, h3, _⟩ := h
  intro w
  rw [w] at h3
  have := congrArg List.length h3
  simp at this; omega
theorem ne_isEmpty {c : List Int} (h : c ≠ []) : c.isEmpty = false := by
  cases c with
  | nil => exact absurd rfl h
  | cons => rfl
section
variable (x1 x2 : Int) (x3 : Bool) (l4 l5 : List Quad) (l6 : List (Int × Int))
theorem few_any (k4 : l4.length ≤ maxLen) (k6 : l6.length ≤ maxLen) : Yields (fun r => r = true → l4.length ≤ 90 ∧ l5.length ≤ 6 ∧ l6.length ≤ 20 ∧ x1 ≤ 12 ∧ x2 ≤ 6) (F12 x1 x2 x3 l4 l5 l6) := by
  unfold F12
  refine Yields.bind (P := fun r => r = true → l4.length ≤ 90 ∧ l5.length ≤ 6 ∧ x1 ≤ 12 ∧ x2 ≤ 6) ?_ fun r hr => Yields.bif (fun q => Yields.some fun h => ?_) fun _ => Yields.some fun h => by cases h
  · unfold F32
    refine Yields.bind (P := fun _ => True) (Yields.loop l4.length (fun (i : Nat) z => z = (i : Int)) rfl ?_) fun t _ => Yields.bif (fun _ => Yields.some fun h => by cases h) fun _ => ?_
    · rintro i z hi rfl
      unfold F32_s1
      refine Yields.bif (fun hc => ?_) fun _ => Yields.some trivial
      have hc := of_decide_eq_true hc
      exact Yields.at (by omega) hc fun _ _ _ => Yields.bif (fun _ => Yields.some trivial) fun _ => Yields.bif (fun _ => Yields.some trivial) fun _ => Yields.some ⟨by omega, wrap_succ (by omega) k4⟩
    refine Yields.bind (P := fun _ => True) (Yields.loop l6.length (fun (i : Nat) z => z = (i : Int)) rfl ?_) fun t _ => Yields.bif (fun _ => Yields.some fun h => by cases h) fun _ => ?_
    · rintro i z hi rfl
      unfold F32_s2
      refine Yields.bif (fun hc => ?_) fun _ => Yields.some trivial
      have hc := of_decide_eq_true hc
      exact Yields.at (by omega) hc fun _ _ _ => Yields.bif (fun _ => Yields.some trivial) fun _ => Yields.some ⟨by omega, wrap_succ (by omega) k6⟩
    refine Yields.bif (fun a => Yields.bif (fun b => Yields.bif (fun h => Yields.some fun k => ?_) fun _ => Yields.some fun h => by cases h) fun _ => Yields.some fun h => by cases h) fun _ => Yields.some fun h => by cases h
    have h := of_decide_eq_true h
    have k := of_decide_eq_true k
    have a := of_decide_eq_true a
    have b := of_decide_eq_true b
    omega
  · have := hr q
    have h := of_decide_eq_true h
    omega
theorem dims (hh : HeadOK x1 x2 l6) (a : x1 ≤ 12) (b : x2 ≤ 6) : ∃ n : Nat, n ≤ 20 ∧ (n : Int) = x1 + x2 + 2 ∧ F42 x1 x2 x3 l4 l5 l6 = (n : Int) ∧ IntKind.i64.wrap (F26 x1 x2 x3 l4 l5 l6 + 1) = (n : Int) ∧ F48 x1 x2 x3 l4 l5 l6 = x1 + x2 + 1 ∧ F49 x1 x2 x3 l4 l5 l6 = x1 + x2 ∧ F28 x1 x2 x3 l4 l5 l6 = x1 + x2 ∧ F26 x1 x2 x3 l4 l5 l6 = x1 + x2 + 1 := by
  obtain ⟨h1, h2, h3, h4, _⟩ := hh
  refine ⟨(x1 + x2 + 2).toNat, by omega, by omega, ?_, ?_, ?_, ?_, ?_, ?_⟩
  · unfold F42; rw [wr (x := x1 + x2), wr] <;> omega
  · unfold F26; rw [wr (x := x1 + x2), wr (x := x1 + x2 + 1), wr] <;> omega
  · unfold F48; rw [wr (x := x1 + x2), wr] <;> omega
  · unfold F49; rw [wr] <;> omega
  · unfold F28; rw [wr] <;> omega
  · unfold F26; rw [wr (x := x1 + x2), wr] <;> omega
variable {n : Nat} (hn : n ≤ 20) (hm : l4.length ≤ 90)
include hn hm
theorem cyc_any (e : F42 x1 x2 x3 l4 l5 l6 = (n : Int)) (ii : Int) : Yields (fun r => (r = [] ∧ Feas n l4 ii) ∨ (D.Pos n ii l4 r ∧ ¬ Feas n l4 ii)) (F34 x1 x2 x3 l4 l5 l6 ii) := by
  unfold F34
  rw [e]
  refine Yields.bind (earl_any hn hm ii) fun r hr => Yields.some ?_
  rcases hr with ⟨h1, h2⟩ | ⟨h1, h2, h3⟩
  · exact .inl ⟨h1, _, h2.2.1⟩
  · exact .inr ⟨h2, h3⟩
theorem pred_any (e : F42 x1 x2 x3 l4 l5 l6 = (n : Int)) {h : Int} (h0 : 0 ≤ h) (h1 : h ≤ 300) : Yields (fun b => b = true ↔ Feas n l4 (h + 1)) (F36 h x1 x2 x3 l4 l5 l6) := by
  unfold F36
  rw [wr (x := h + 1) (by omega) (by omega)]
  refine Yields.bind (cyc_any x1 x2 x3 l4 l5 l6 hn hm e (h + 1)) fun r hr => Yields.some ?_
  rcases hr with ⟨rfl, hf⟩ | ⟨hp, hf⟩
  · exact ⟨fun _ => hf, fun _ => rfl⟩
  · rw [ne_isEmpty (pos_ne hp)]
    exact ⟨fun h => (by cases h), fun h => absurd h hf⟩
theorem search_any (e : F42 x1 x2 x3 l4 l5 l6 = (n : Int)) {N : Int} (hN0 : 0 ≤ N) (hN1 : N ≤ 255) (hF : Feas n l4 (N + 1)) : Yields (fun s => 0 ≤ s ∧ s ≤ N ∧ Feas n l4 (s + 1) ∧ (s = 0 ∨ ¬ Feas n l4 s)) (F35w36 N x1 x2 x3 l4 l5 l6) := by
  unfold F35w36
  refine Yields.bind (P := fun s => 0 ≤ s ∧ s ≤ N ∧ Feas n l4 (s + 1) ∧ (s = 0 ∨ ¬ Feas n l4 s)) ?_ fun y hy => Yields.some hy
  have hz : 0 ≤ (0 : Int) ∧ (0 : Int) ≤ N ∧ N - 0 + ((0 : Nat) : Int) ≤ N ∧ N ≤ N ∧ Feas n l4 (N + 1) ∧ ((0 : Int) = 0 ∨ ¬ Feas n l4 0) := ⟨by omega, hN0, by omega, by omega, hF, .inl rfl⟩
  refine Yields.loop (z := ((0 : Int), N)) N.toNat (fun (t : Nat) z => 0 ≤ z.1 ∧ z.1 ≤ z.2 ∧ z.2 - z.1 + (t : Int) ≤ N ∧ z.2 ≤ N ∧ Feas n l4 (z.2 + 1) ∧ (z.1 = 0 ∨ ¬ Feas n l4 z.1)) hz ?_
  rintro t ⟨a, b⟩ ht ⟨h1, h2, h3, h4, h5, h6⟩
  simp only at h1 h2 h3 h4 h5 h6
  unfold F35w36_s1
  simp only
  refine Yields.bif (fun hc => ?_) fun hc => Yields.some ?_
  · have hc := of_decide_eq_true hc
    have eh : (IntKind.u64.wrap (IntKind.i64.wrap (a + b))).fdiv (2 ^ 1) = (a + b) / 2 := by
      rw [wr (x := a + b) (by omega) (by omega), wrap_u64 (by omega) (by omega), Int.fdiv_eq_ediv_of_nonneg _ (by simp)]
      simp
    unfold F35w36__1
    rw [eh]
    generalize hq : (a + b) / 2 = h
    have hh0 : 0 ≤ h := by omega
    rw [wr (x := h) (by omega) (by omega)]
    have hh1 : h ≤ 300 := by omega
    have hp := pred_any x1 x2 x3 l4 l5 l6 hn hm e hh0 hh1
    refine Yields.bind hp fun y hy => Yields.bif (fun k => Yields.some ?_) fun k => Yields.some ?_
    · have k : y = false := by simpa using k
      have hnf : ¬ Feas n l4 (h + 1) := fun q => by rw [hy.2 q] at k; cases k
      rw [wr (x := h + 1) (by omega) (by omega)]
      exact ⟨by omega, by omega, by simp only; omega, by simp only; omega, h4, h5, .inr hnf⟩
    · have k : y = true := by simpa using k
      exact ⟨by omega, h1, by simp only; omega, by simp only; omega, by simp only; omega, hy.1 k, h6⟩
  · have hc := of_decide_eq_false hc
    have : a = b := by omega
    subst this
    exact ⟨h1, h4, h5, h6⟩
/-- What Recurrence comes to. -/
def RecR (n : Nat) (l4 : List Quad) (r : Int × Int × List Int × Int × Int) : Prop := (¬ Feas n l4 256 ∧ r = (0, 0, [], 0, 14)) ∨ (Feas n l4 1 ∧ r = (1, 1, [], 0, 0)) ∨ (∃ k c, 2 ≤ k ∧ k ≤ 256 ∧ Feas n l4 k ∧ ¬ Feas n l4 (k - 1) ∧ D.Pos n (k - 1) l4 c ∧ r = (2, k, c, 0, 0))
theorem rec_any (hv : ValidOK x1 x2 x3 l4 l5 l6) (h3 : x3 = true) (k5 : l5.length ≤ 6) (k6 : l6.length ≤ 20) (e : F42 x1 x2 x3 l4 l5 l6 = (n : Int)) : Yields (RecR n l4) (F13 x1 x2 x3 l4 l5 l6) := by
  unfold F13
  refine Yields.bind (valid_prog x1 x2 x3 l4 l5 l6 (by omega) (by omega) (by omega)) fun r hr => ?_
  rw [hr.2 hv, h3]
  simp only [Bool.not_true, cond_false]
  subst h3
  refine Yields.bind (cyc_any x1 x2 true l4 l5 l6 hn hm e 256) fun c hc => ?_
  rcases hc with ⟨rfl, hf⟩ | ⟨hp, hf⟩
  · simp only [List.isEmpty_nil, Bool.not_true, cond_false]
    have hf' : Feas n l4 ((255 : Int) + 1) := by
      have e256 : (255 : Int) + 1 = 256 := by omega
      rw [e256]; exact hf
    refine Yields.bind (search_any x1 x2 true l4 l5 l6 hn hm e (N := 255) (by omega) (by omega) hf') fun s ⟨s0, s1, s2, s3⟩ => ?_
    rw [wr (x := 1 + s) (by omega) (by omega)]
    refine Yields.bif (fun q => Yields.some (.inr (.inl ⟨?_, rfl⟩))) fun q => ?_
    · have : s = 0 := by have := beq_iff_eq.1 q; omega
      subst this; exact s2
    · have q := beq_eq_false_iff_ne.1 q
      have sp : s ≠ 0 := fun h => q (by omega)
      rw [wr (x := 1 + s - 1) (by omega) (by omega)]
      refine Yields.bind (cyc_any x1 x2 true l4 l5 l6 hn hm e (1 + s - 1)) fun c hc => Yields.some (.inr (.inr ⟨1 + s, c, by omega, by omega, ?_, ?_, ?_, rfl⟩))
      · rw [Int.add_comm]; exact s2
      · rw [show 1 + s - 1 = s by omega]; exact s3.resolve_left sp
      · rcases hc with ⟨_, k⟩ | ⟨k, _⟩
        · rw [show 1 + s - 1 = s by omega] at k; exact absurd k (s3.resolve_left sp)
        · exact k
  · rw [ne_isEmpty (pos_ne hp)]
    exact Yields.some (.inl ⟨hf, rfl⟩)
end
end Go.Proofs.Ytimeninncpmaeaa.Abs
