/- Package library: one contract of Of for all operators and widths; the check at the head of the statements of layer 27. -/
import Derived.Test.YthkdojgagmaecaaLibC
namespace Go.Proofs.Ythkdojgagmaecaa
open Go.RowKit

def oC (op a : Int) : Int := if ofOk op a then clsI op else 0
def oW (op a : Int) : Int := if ofOk op a then a else 0
def oD (op a : Int) : Int := if ofOk op a then (if clsI op = 0 then combD op a else 0) else 0
def oL (op a : Int) : Int := if ofOk op a then (if clsI op = 0 then 0 else seqL (clsI op) a) else 0
def oB (op a : Int) : Int := if ofOk op a then (if clsI op = 0 then 0 else seqB (clsI op) a) else 0
def oA (op a : Int) : Int := if ofOk op a then (if clsI op = 0 then combA op a else seqA (clsI op) a) else 0
def oE (op a : Int) : Int := if ofOk op a then 0 else ofE op
theorem cls_bd (op : Int) : clsI op = 0 ∨ (1 ≤ clsI op ∧ clsI op ≤ 5) := by
  unfold clsI; repeat' split
  all_goals omega

theorem of_any (op a : Int) (w : World) :
    Calls Try.prog 10 #[.int .i64 op, .int .i64 a] w fun e w' =>
      e = .returned (.tuple #[.agg #[.int .i64 (oC op a), .int .i64 (oW op a), .int .i64 (oD op a), .int .i64 (oL op a), .int .i64 (oB op a), .int .i64 (oA op a)], .int .i64 (oE op a)]) ∧ Below w.heap.size w w' := by
  by_cases h : ofOk op a = true
  · have h1 : 2 ≤ op ∧ op ≤ 24 ∧ 1 ≤ a ∧ a ≤ 64 := by simpa [ofOk] using h
    obtain ⟨g1, g2, g3, g4⟩ := h1
    rcases cls_bd op with hc | ⟨hc, hc'⟩
    · have e1 : oC op a = 0 := by simp [oC, hc]
      have e2 : oW op a = a := by simp [oW, h]
      have e3 : oD op a = combD op a := by simp [oD, h, hc]
      have e4 : oL op a = 0 := by simp [oL, hc]
      have e5 : oB op a = 0 := by simp [oB, hc]
      have e6 : oA op a = combA op a := by simp [oA, h, hc]
      have e7 : oE op a = 0 := by simp [oE, h]
      rw [e1, e2, e3, e4, e5, e6, e7]
      exact of_comb op a w g1 g2 g3 g4 hc
    · have hn : clsI op ≠ 0 := by omega
      have e1 : oC op a = clsI op := by simp [oC, h]
      have e2 : oW op a = a := by simp [oW, h]
      have e3 : oD op a = 0 := by simp [oD, hn]
      have e4 : oL op a = seqL (clsI op) a := by simp [oL, h, hn]
      have e5 : oB op a = seqB (clsI op) a := by simp [oB, h, hn]
      have e6 : oA op a = seqA (clsI op) a := by simp [oA, h, hn]
      have e7 : oE op a = 0 := by simp [oE, h]
      rw [e1, e2, e3, e4, e5, e6, e7]
      exact of_seq op a w g1 g2 g3 g4 hc hc'
  · have h' : ofOk op a = false := by simpa using h
    have e1 : oC op a = 0 := by simp [oC, h']
    have e2 : oW op a = 0 := by simp [oW, h']
    have e3 : oD op a = 0 := by simp [oD, h']
    have e4 : oL op a = 0 := by simp [oL, h']
    have e5 : oB op a = 0 := by simp [oB, h']
    have e6 : oA op a = 0 := by simp [oA, h']
    have e7 : oE op a = ofE op := by simp [oE, h']
    rw [e1, e2, e3, e4, e5, e6, e7]
    exact of_bad op a w h'

theorem bcell {W w1 : World} (hb : Below W.heap.size W w1) : (∀ b o, b < W.heap.size → w1.cell? ⟨b, o, none⟩ = W.cell? ⟨b, o, none⟩) ∧ (∀ b o, b < W.heap.size → w1.frozen? ⟨b, o, none⟩ = W.frozen? ⟨b, o, none⟩) :=
  ⟨fun b o h => hb.cell (p := ⟨b, o, none⟩) h, fun b o h => hb.frozen (p := ⟨b, o, none⟩) h⟩
theorem size_lt {w w1 : World} {o : Obj} (h : Below (w.alloc o).heap.size (w.alloc o) w1) : w.heap.size < w1.heap.size := by
  have := h.size
  simp at this
  omega
theorem below_alloc {w w1 : World} (h : Below w.heap.size w w1) (o : Obj) : Below w.heap.size w (w1.alloc o) := h.alloc h.size o
theorem below_trans {w w1 w2 : World} (h1 : Below w.heap.size w w1) (h2 : Below w1.heap.size w1 w2) : Below w.heap.size w w2 := h1.trans (h2.mono h1.size)
theorem awake27 (w : World) :
    Calls Try.prog 9 #[] w fun e w' => e = .returned (.bool true) ∧ Below w.heap.size w w' := by
  have e3 : oD 2 8 = 160 := by decide
  have e6 : oA 2 8 = 96 := by decide
  have e7 : oE 2 8 = 0 := by decide
  go_enter Try.func9, Try.ntmps9
  go_wp2_with fail
  refine (of_any 2 8 _).mono ?_
  rintro e w1 ⟨rfl, hb1⟩
  rw [e3, e6, e7]
  go_wp2_with fail
  go_ret
  exact ⟨rfl, below_alloc hb1 _⟩

/-! Levels, in plain mathematics. -/
theorem levF_ge (f k : Nat) (n : Int) : k ≤ levF f k n := by
  induction f generalizing k with
  | zero => simp [levF]
  | succ f ih => unfold levF; split; have := ih (k + 1); omega; omega
theorem levF_mono (f k : Nat) (n m : Int) (h : n ≤ m) : levF f k n ≤ levF f k m := by
  induction f generalizing k with
  | zero => simp [levF]
  | succ f ih =>
    by_cases h1 : (2 : Int) ^ k < n
    · have h2 : (2 : Int) ^ k < m := by omega
      simp only [levF, h1, h2, if_true]; exact ih (k + 1)
    · have := levF_ge (f + 1) k m
      simp only [levF, h1, if_false]
      simpa [levF] using this
theorem lev_mono (n m : Int) (h : n ≤ m) : lev n ≤ lev m := levF_mono 62 0 n m h
theorem levF_spec (f k : Nat) (n : Int) (h : ∀ j, j < k → (2 : Int) ^ j < n) : (∀ j, j < levF f k n → (2 : Int) ^ j < n) ∧ (levF f k n = f + k ∨ n ≤ (2 : Int) ^ levF f k n) := by
  induction f generalizing k with
  | zero => simp only [levF]; exact ⟨h, .inl (by omega)⟩
  | succ f ih =>
    by_cases h1 : (2 : Int) ^ k < n
    · simp only [levF, h1, if_true]
      have := ih (k + 1) (fun j hj => by
        by_cases e : j = k
        · rw [e]; exact h1
        · exact h j (by omega))
      exact ⟨this.1, by rcases this.2 with e | e; exact .inl (by omega); exact .inr e⟩
    · simp only [levF, h1, if_false]
      exact ⟨h, .inr (by omega)⟩
theorem lev_spec (n : Int) : (∀ j, j < lev n → (2 : Int) ^ j < n) ∧ (lev n = 62 ∨ n ≤ (2 : Int) ^ lev n) := by
  have := levF_spec 62 0 n (fun j hj => by omega)
  simpa [lev] using this

theorem prod_mono (k a b : Int) (l m : Nat) (hk : 0 ≤ k) (ha : 1 ≤ a) (hab : a ≤ b) (hl : l ≤ m) : k * a * (l : Int) ≤ k * b * (m : Int) := by
  have h1 : k * a ≤ k * b := Int.mul_le_mul_of_nonneg_left hab hk
  have h2 : 0 ≤ k * a := Int.mul_nonneg hk (by omega)
  calc k * a * (l : Int) ≤ k * b * (l : Int) := Int.mul_le_mul_of_nonneg_right h1 (by omega)
    _ ≤ k * b * (m : Int) := Int.mul_le_mul_of_nonneg_left (by omega) (by omega)
theorem combD_mono (op a b : Int) (hab : a ≤ b) : combD op a ≤ combD op b := by
  have h1 := lev_mono a b hab
  have h2 := lev_mono (a + 1) (b + 1) (by omega)
  unfold combD
  repeat' split
  all_goals omega
theorem combA_mono (op a b : Int) (ha : 1 ≤ a) (hab : a ≤ b) : combA op a ≤ combA op b := by
  have h1 := prod_mono 3 a b (lev a) (lev b) (by omega) ha hab (lev_mono a b hab)
  have h2 := prod_mono 3 a b (lev (a + 1)) (lev (b + 1)) (by omega) ha hab (lev_mono _ _ (by omega))
  unfold combA
  repeat' split
  all_goals omega
theorem sq_mono (k a b : Int) (hk : 0 ≤ k) (ha : 1 ≤ a) (hab : a ≤ b) : k * a * a ≤ k * b * b := by
  have h1 : k * a ≤ k * b := Int.mul_le_mul_of_nonneg_left hab hk
  have h2 : 0 ≤ k * b := Int.mul_nonneg hk (by omega)
  calc k * a * a ≤ k * b * a := Int.mul_le_mul_of_nonneg_right h1 (by omega)
    _ ≤ k * b * b := Int.mul_le_mul_of_nonneg_left hab h2
theorem seq_mono (c a b : Int) (ha : 1 ≤ a) (hab : a ≤ b) : seqL c a ≤ seqL c b ∧ seqB c a ≤ seqB c b ∧ seqA c a ≤ seqA c b := by
  have h1 := sq_mono 6 a b (by omega) ha hab
  have h2 := sq_mono 8 a b (by omega) ha hab
  unfold seqL seqB seqA
  refine ⟨?_, ?_, ?_⟩
  all_goals (split <;> omega)
theorem seq_pos (c a : Int) (ha : 1 ≤ a) : 1 ≤ seqL c a ∧ seqB c a ≤ seqL c a := by
  unfold seqL seqB
  constructor
  · split <;> omega
  · split <;> omega

theorem o_same (op a b : Int) (ha : 1 ≤ a) (ha' : a ≤ 64) (hb : 1 ≤ b) (hb' : b ≤ 64) : ofOk op a = ofOk op b := by simp [ofOk, ha, ha', hb, hb']
theorem o_facts (op a b : Int) (ha : 1 ≤ a) (hab : a ≤ b) (hb' : b ≤ 64) :
    (oE op a != oE op b) = false ∧ (oC op a == oC op b) = true ∧ oD op a ≤ oD op b ∧ oL op a ≤ oL op b ∧ oB op a ≤ oB op b ∧ oA op a ≤ oA op b ∧ ((oL op a == 0) == (oC op a == 0)) = true ∧ oB op a ≤ oL op a := by
  have hs := o_same op a b ha (by omega) (by omega) hb'
  have s := seq_mono (clsI op) a b ha hab
  have p := seq_pos (clsI op) a ha
  have d := combD_mono op a b hab
  have c := combA_mono op a b ha hab
  unfold oE oC oD oL oB oA
  rw [hs]
  cases ofOk op b
  · simp
  · by_cases h : clsI op = 0
    · simp [h]; exact ⟨d, c⟩
    · have h7 : (seqL (clsI op) a == 0) = false := by rw [beq_eq_false_iff_ne]; omega
      have h8 : (clsI op == 0) = false := by rw [beq_eq_false_iff_ne]; exact h
      simp only [h, if_true, if_false, h7, h8]
      exact ⟨by simp, by simp, by omega, s.1, s.2.1, s.2.2, by simp, p.2⟩

def unitO (op p : Int) : Obj := .cells #[.int .i64 (oC op p), .int .i64 (oW op p), .int .i64 (oD op p), .int .i64 (oL op p), .int .i64 (oB op p), .int .i64 (oA op p)] 24
set_option maxHeartbeats 2000000 in
theorem grows_walk (op a b : Int) (w : World) (ha : 0 ≤ a) (ha' : a < 256) (hb : 0 ≤ b) (hb' : b < 256) :
    Calls Try.prog 3 #[.int .i64 op, .int .u8 a, .int .u8 b] w fun e w' => e = .returned (.bool true) ∧ Below w.heap.size w w' := by
  have h3 : a % 64 < b % 64 ∨ a % 64 = b % 64 ∨ b % 64 < a % 64 := by omega
  rcases h3 with hab | hab | hab
  · obtain ⟨f1, f2, f3, f4, f5, f6, f7, f8⟩ := o_facts op (1 + a % 64) (1 + b % 64) (by omega) (by omega) (by omega)
    go_enter Try.func3, Try.ntmps3
    go_wp2_with fail
    refine (awake27 _).mono ?_
    rintro e w1 ⟨rfl, hb1⟩
    go_wp2_with fail
    refine (of_any _ _ _).mono ?_
    rintro e w2 ⟨rfl, hb2⟩
    go_wp2_with fail
    refine (of_any _ _ _).mono ?_
    rintro e w3 ⟨rfl, hb3⟩
    have hz := size_lt hb3
    obtain ⟨hcc, hff⟩ := bcell hb3
    go_wp2_with fail
    go_ret
    exact ⟨rfl, below_alloc (below_trans (below_alloc (below_trans hb1 hb2) _) hb3) _⟩
  · obtain ⟨f1, f2, f3, f4, f5, f6, f7, f8⟩ := o_facts op (1 + b % 64) (1 + b % 64) (by omega) (by omega) (by omega)
    go_enter Try.func3, Try.ntmps3
    go_wp2_with fail
    refine (awake27 _).mono ?_
    rintro e w1 ⟨rfl, hb1⟩
    go_wp2_with fail
    refine (of_any _ _ _).mono ?_
    rintro e w2 ⟨rfl, hb2⟩
    go_wp2_with fail
    refine (of_any _ _ _).mono ?_
    rintro e w3 ⟨rfl, hb3⟩
    have hz := size_lt hb3
    obtain ⟨hcc, hff⟩ := bcell hb3
    go_wp2_with fail
    go_ret
    exact ⟨rfl, below_alloc (below_trans (below_alloc (below_trans hb1 hb2) _) hb3) _⟩
  · obtain ⟨f1, f2, f3, f4, f5, f6, f7, f8⟩ := o_facts op (1 + b % 64) (1 + a % 64) (by omega) (by omega) (by omega)
    go_enter Try.func3, Try.ntmps3
    go_wp2_with fail
    refine (awake27 _).mono ?_
    rintro e w1 ⟨rfl, hb1⟩
    go_wp2_with fail
    refine (of_any _ _ _).mono ?_
    rintro e w2 ⟨rfl, hb2⟩
    go_wp2_with fail
    refine (of_any _ _ _).mono ?_
    rintro e w3 ⟨rfl, hb3⟩
    have hz := size_lt hb3
    obtain ⟨hcc, hff⟩ := bcell hb3
    go_wp2_with fail
    go_ret
    exact ⟨rfl, below_alloc (below_trans (below_alloc (below_trans hb1 hb2) _) hb3) _⟩
end Go.Proofs.Ythkdojgagmaecaa
