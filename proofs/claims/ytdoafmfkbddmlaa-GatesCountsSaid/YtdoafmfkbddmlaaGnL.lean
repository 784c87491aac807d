/- The law of the numbers of gates, on lists. -/
import Derived.Test.YtdoafmfkbddmlaaVw
import Derived.Test.YtdoafmfkbddmlaaGn
namespace Go.Proofs.Ytdoafmfkbddmlaa.Abs
open Go
set_option linter.unusedVariables false
set_option linter.unusedSimpArgs false

theorem made (l1 : List (Int × Int × Int)) (hl : l1.length ≤ 200) (hW : ∀ y ∈ l1, W59 y) : Yields (fun (m : List (Int × Int × Int)) => m.length = l1.length + 1 ∧ ∀ y ∈ m, 1 ≤ y.1 ∧ y.1 ≤ 7) (F15 l1) := by
  unfold F15
  refine Yields.bind (P := fun (m : List (Int × Int × Int)) => m.length = l1.length + 1 ∧ ∀ y ∈ m, 1 ≤ y.1 ∧ y.1 ≤ 7) (Yields.loop l1.length (fun i (z : Int × List (Int × Int × Int)) => z.1 = i ∧ z.2.length = i + 1 ∧ ∀ y ∈ z.2, 1 ≤ y.1 ∧ y.1 ≤ 7) ⟨rfl, rfl, by simp⟩ ?_) (fun m hm => Yields.some hm)
  rintro i ⟨a, m⟩ hi ⟨ha, hm, hk⟩
  simp only at ha hm hk ⊢
  subst ha
  unfold F15_s1
  refine Yields.bif (fun c => ?_) (fun c => ?_)
  · have c' : i < l1.length := by simpa using c
    refine Yields.at (by omega) (by omega) fun y hy hmem => ?_
    obtain ⟨k, p, q⟩ := y
    have hk0 := wf_u8 (hW _ hmem).1
    have hm7 : k.tmod 7 = k % 7 := Int.tmod_eq_emod_of_nonneg hk0.1
    have hw7 : IntKind.i64.wrap (1 + IntKind.i64.wrap (k.tmod 7)) = 1 + k % 7 := by
      have e1 : IntKind.i64.wrap (k % 7) = k % 7 := wrap_i64 (by omega) (by omega)
      rw [hm7, e1]; exact wrap_i64 (by omega) (by omega)
    have hok : ∀ z : Int × Int × Int, okApp (m.length + [z].length) 24 = true := fun z => ok_app (by simp; omega) (by simp; omega)
    have hlz : ((m.length : Int) == 0) = false := beq_eq_false_iff_ne.2 (by omega)
    have key : ∀ z : Int × Int × Int, z.1 = 1 + k % 7 → Yields (Nx i l1.length (fun i (z : Int × List (Int × Int × Int)) => z.1 = i ∧ z.2.length = i + 1 ∧ ∀ y ∈ z.2, 1 ≤ y.1 ∧ y.1 ≤ 7) (fun (m : List (Int × Int × Int)) => m.length = l1.length + 1 ∧ ∀ y ∈ m, 1 ≤ y.1 ∧ y.1 ≤ 7)) (some (.inl (IntKind.i64.wrap ((i : Int) + 1), m ++ [z]))) := by
      intro z hz
      refine Yields.some ⟨c', ?_, ?_, ?_⟩
      · exact wrap_i1 (by omega)
      · simp; omega
      · intro y hy
        rcases List.mem_append.1 hy with h | h
        · exact hk y h
        · rw [List.mem_singleton.1 h]; omega
    simp only [hok, hlz, hw7, Bool.not_true, cond_false]
    repeat' refine Yields.bif (fun _ => ?_) (fun _ => ?_)
    all_goals exact key _ rfl
  · refine Yields.some ?_
    have : i = l1.length := by simp at c; omega
    exact ⟨by omega, hk⟩

def kindOk (y : Int × Int × Int) : Bool := decide (1 ≤ y.1) && decide (y.1 ≤ 7)
def isxor (y : Int × Int × Int) : Bool := y.1 == 7
theorem F23_known (k : Int) : decide (F23 k ≥ 0) = (decide (1 ≤ k) && decide (k ≤ 7)) := by
  rcases (by omega : k < 1 ∨ k = 1 ∨ k = 2 ∨ k = 3 ∨ k = 4 ∨ k = 5 ∨ k = 6 ∨ k = 7 ∨ k > 7) with h | h | h | h | h | h | h | h | h
  case inl | inr.inr.inr.inr.inr.inr.inr.inr =>
    unfold F23; simp only [Bool.cond_eq_ite, beq_iff_eq]; (repeat' split) <;> simp <;> omega
  all_goals subst h; rfl
theorem count (xs : List (Int × Int × Int)) (hl : xs.length ≤ 1000) : Yields (fun (c : Int × Int × Int × Int × Int × Int × Int × Int) => c.1 = 0 ∧ 0 ≤ c.2.1 ∧ 0 ≤ c.2.2.1 ∧ 0 ≤ c.2.2.2.1 ∧ 0 ≤ c.2.2.2.2.1 ∧ 0 ≤ c.2.2.2.2.2.1 ∧ 0 ≤ c.2.2.2.2.2.2.1 ∧ 0 ≤ c.2.2.2.2.2.2.2 ∧ c.2.2.2.2.2.2.2 = cntP isxor xs xs.length ∧ c.1 + c.2.1 + c.2.2.1 + c.2.2.2.1 + c.2.2.2.2.1 + c.2.2.2.2.2.1 + c.2.2.2.2.2.2.1 + c.2.2.2.2.2.2.2 = cntP kindOk xs xs.length) (F16 xs) := by
  unfold F16
  refine Yields.bind (Yields.loop xs.length (fun i (z : Int × Int × Int × Int × Int × Int × Int × Int × Int) => z.1 = i ∧ z.2.1 = 0 ∧ 0 ≤ z.2.2.1 ∧ 0 ≤ z.2.2.2.1 ∧ 0 ≤ z.2.2.2.2.1 ∧ 0 ≤ z.2.2.2.2.2.1 ∧ 0 ≤ z.2.2.2.2.2.2.1 ∧ 0 ≤ z.2.2.2.2.2.2.2.1 ∧ 0 ≤ z.2.2.2.2.2.2.2.2 ∧ z.2.2.2.2.2.2.2.2 = cntP isxor xs i ∧ z.2.1 + z.2.2.1 + z.2.2.2.1 + z.2.2.2.2.1 + z.2.2.2.2.2.1 + z.2.2.2.2.2.2.1 + z.2.2.2.2.2.2.2.1 + z.2.2.2.2.2.2.2.2 = cntP kindOk xs i) (by simp [cntP_zero]) ?_) (fun m hm => Yields.some hm)
  rintro i ⟨a, b0, b1, b2, b3, b4, b5, b6, b7⟩ hi ⟨ha, h0, h1, h2, h3, h4, h5, h6, h7, hx, hs⟩
  simp only at ha h0 h1 h2 h3 h4 h5 h6 h7 hx hs ⊢
  subst ha; subst h0
  have hle := cntP_le kindOk xs i
  unfold F16_s1
  refine Yields.bif (fun c => ?_) (fun c => ?_)
  · have c' : i < xs.length := by simpa using c
    refine Yields.at (by omega) (by omega) fun y hy hmem => ?_
    obtain ⟨k, p, q⟩ := y
    have ex := cntP_succ isxor xs i _ (at_nat hy)
    have ek := cntP_succ kindOk xs i _ (at_nat hy)
    have hwi : IntKind.i64.wrap ((i : Int) + 1) = ((i + 1 : Nat) : Int) := wrap_i1 (by omega)
    rw [F23_known]
    refine Yields.bif (fun d => ?_) (fun d => ?_)
    · have d' : 1 ≤ k ∧ k ≤ 7 := by simpa using d
      rw [in_range (by simp only; omega) (by simp only; omega)]
      refine Yields.some ⟨c', ?_⟩
      rcases (by omega : k = 1 ∨ k = 2 ∨ k = 3 ∨ k = 4 ∨ k = 5 ∨ k = 6 ∨ k = 7) with h | h | h | h | h | h | h
      all_goals
        subst h
        simp [isxor, kindOk] at ex ek
        refine ⟨hwi, rfl, ?_⟩
        simp [F16__1, updI]
        rw [wrap_i64 (by omega) (by omega)]
        omega
    · refine Yields.some ⟨c', ?_⟩
      have d' : ¬ (1 ≤ k ∧ k ≤ 7) := by simpa using d
      have e1 : kindOk (k, p, q) = false := by simp [kindOk]; omega
      have e2 : isxor (k, p, q) = false := by simp [isxor]; omega
      rw [e1] at ek; rw [e2] at ex
      simp at ek ex
      exact ⟨hwi, rfl, h1, h2, h3, h4, h5, h6, h7, by rw [ex]; exact hx, by rw [ek]; exact hs⟩
  · refine Yields.some ?_
    have : i = xs.length := by simp at c; omega
    subst this
    exact ⟨rfl, h1, h2, h3, h4, h5, h6, h7, hx, hs⟩

theorem counts_law : Law Try.prog 5 10 [33] := by
  refine F5_law fun l hl hW => Yields.eq ?_
  unfold F5
  refine Yields.bif (fun c => Yields.some rfl) (fun c => ?_)
  have hn : l.length ≤ 200 := by simp at c; omega
  refine Yields.bind (made l hn hW) fun m ⟨hm, hk⟩ => ?_
  rw [ok_app (by simp; omega) (by simp; omega)]
  simp only [Bool.not_true, cond_false]
  rw [ok_app (by simp; omega) (by simp; omega)]
  simp only [Bool.not_true, cond_false]
  refine Yields.bind (count _ (by simp; omega)) ?_
  rintro ⟨c0, c1, c2, c3, c4, c5, c6, c7⟩ ⟨h0, h1, h2, h3, h4, h5, h6, h7, hx, hs⟩
  simp only [cntP_all, List.nil_append, List.countP_append] at h0 h1 h2 h3 h4 h5 h6 h7 hx hs ⊢
  have ex : List.countP isxor [((-3 : Int), (0 : Int), (0 : Int)), (8, 0, 0)] = 0 := by decide
  have ek : List.countP kindOk [((-3 : Int), (0 : Int), (0 : Int)), (8, 0, 0)] = 0 := by decide
  have em : List.countP kindOk m = m.length := by
    rw [List.countP_eq_length]; intro y hy; have := hk y hy; simp [kindOk]; omega
  rw [ex] at hx; rw [ek, em] at hs
  simp only [Nat.add_zero] at hx hs
  refine Yields.bind (P := fun t => t = (m.length : Int)) (Yields.loop 8 (fun i (z : Int × Int) => z.2 = i ∧ z.1 = (([c0, c1, c2, c3, c4, c5, c6, c7] : List Int).take i).sum) ⟨rfl, rfl⟩ ?_) ?_
  · rintro i ⟨s, a⟩ hi ⟨ha, hb⟩
    simp only at ha hb ⊢
    subst ha; subst hb
    unfold F5_s1
    rcases (by omega : i = 0 ∨ i = 1 ∨ i = 2 ∨ i = 3 ∨ i = 4 ∨ i = 5 ∨ i = 6 ∨ i = 7 ∨ i = 8) with h | h | h | h | h | h | h | h | h
    all_goals subst h
    case inr.inr.inr.inr.inr.inr.inr.inr =>
      refine Yields.some ?_
      show _ = _
      simp; omega
    all_goals
      refine Yields.some ⟨by omega, ?_, ?_⟩
      · rfl
      · simp [F5__1]; rw [wrap_i64] <;> omega
  · rintro t rfl
    refine Yields.bind (P := fun t => t = (List.countP isxor m : Int)) (Yields.loop m.length (fun i (z : Int × Int) => z.2 = i ∧ z.1 = (cntP isxor m i : Int)) ⟨rfl, rfl⟩ ?_) ?_
    · rintro i ⟨s, a⟩ hi ⟨ha, hb⟩
      simp only at ha hb ⊢
      subst ha; subst hb
      have hle := cntP_le isxor m i
      unfold F5_s2
      refine Yields.bif (fun c => ?_) (fun c => ?_)
      · have c' : i < m.length := by simpa using c
        refine Yields.at (by omega) (by omega) fun y hy hmem => ?_
        have ex := cntP_succ isxor m i _ (at_nat hy)
        refine Yields.bif (fun d => ?_) (fun d => ?_)
        · have : isxor y = true := d
          rw [this, if_pos rfl] at ex
          refine Yields.some ⟨c', ?_, ?_⟩
          · exact wrap_i1 (by omega)
          · simp only; rw [wrap_i64] <;> omega
        · have : isxor y = false := d
          rw [this, if_neg (by simp)] at ex
          refine Yields.some ⟨c', ?_, ?_⟩
          · exact wrap_i1 (by omega)
          · simp only; omega
      · refine Yields.some ?_
        have : i = m.length := by simp at c; omega
        subst this
        show (_ : Int) = _
        rw [cntP_all]
    · rintro t rfl
      subst h0
      subst hx
      simp
      exact Yields.some rfl
end Go.Proofs.Ytdoafmfkbddmlaa.Abs
