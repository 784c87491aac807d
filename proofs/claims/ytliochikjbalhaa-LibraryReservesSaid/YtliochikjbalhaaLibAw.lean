/- Package library: one contract of Of for all operators and widths; the check at the head of the statements of layer 27. -/
import Derived.Test.YtliochikjbalhaaLibC
namespace Go.Proofs.Ytliochikjbalhaa
open Go.RowKit

def oC (op a : Int) : Int := if ofOk op a then clsI op else 0
def oW (op a : Int) : Int := if ofOk op a then a else 0
def oD (op a : Int) : Int := if ofOk op a then (if clsI op = 0 then combD op a else 0) else 0
def oL (op a : Int) : Int := if ofOk op a then (if clsI op = 0 then 0 else seqL (clsI op) a) else 0
def oB (op a : Int) : Int := if ofOk op a then (if clsI op = 0 then 0 else seqB (clsI op) a) else 0
def oA (op a : Int) : Int := if ofOk op a then (if clsI op = 0 then combA op a else seqA (clsI op) a) else 0
def oE (op a : Int) : Int := if ofOk op a then 0 else ofE op
theorem cls_bd (op : Int) : clsI op = 0 ∨ (1 ≤ clsI op ∧ clsI op ≤ 5) := by
  unfold clsI; repeat' split
  all_goals omega

theorem of_any (op a : Int) (w : World) :
    Calls Try.prog 25 #[.int .i64 op, .int .i64 a] w fun e w' =>
      e = .returned (.tuple #[.agg #[.int .i64 (oC op a), .int .i64 (oW op a), .int .i64 (oD op a), .int .i64 (oL op a), .int .i64 (oB op a), .int .i64 (oA op a)], .int .i64 (oE op a)]) ∧ Below w.heap.size w w' := by
  by_cases h : ofOk op a = true
  · have h1 : 2 ≤ op ∧ op ≤ 24 ∧ 1 ≤ a ∧ a ≤ 64 := by simpa [ofOk] using h
    obtain ⟨g1, g2, g3, g4⟩ := h1
    rcases cls_bd op with hc | ⟨hc, hc'⟩
    · have e1 : oC op a = 0 := by simp [oC, hc]
      have e2 : oW op a = a := by simp [oW, h]
      have e3 : oD op a = combD op a := by simp [oD, h, hc]
      have e4 : oL op a = 0 := by simp [oL, hc]
      have e5 : oB op a = 0 := by simp [oB, hc]
      have e6 : oA op a = combA op a := by simp [oA, h, hc]
      have e7 : oE op a = 0 := by simp [oE, h]
      rw [e1, e2, e3, e4, e5, e6, e7]
      exact of_comb op a w g1 g2 g3 g4 hc
    · have hn : clsI op ≠ 0 := by omega
      have e1 : oC op a = clsI op := by simp [oC, h]
      have e2 : oW op a = a := by simp [oW, h]
      have e3 : oD op a = 0 := by simp [oD, hn]
      have e4 : oL op a = seqL (clsI op) a := by simp [oL, h, hn]
      have e5 : oB op a = seqB (clsI op) a := by simp [oB, h, hn]
      have e6 : oA op a = seqA (clsI op) a := by simp [oA, h, hn]
      have e7 : oE op a = 0 := by simp [oE, h]
      rw [e1, e2, e3, e4, e5, e6, e7]
      exact of_seq op a w g1 g2 g3 g4 hc hc'
  · have h' : ofOk op a = false := by simpa using h
    have e1 : oC op a = 0 := by simp [oC, h']
    have e2 : oW op a = 0 := by simp [oW, h']
    have e3 : oD op a = 0 := by simp [oD, h']
    have e4 : oL op a = 0 := by simp [oL, h']
    have e5 : oB op a = 0 := by simp [oB, h']
    have e6 : oA op a = 0 := by simp [oA, h']
    have e7 : oE op a = ofE op := by simp [oE, h']
    rw [e1, e2, e3, e4, e5, e6, e7]
    exact of_bad op a w h'

theorem bcell {W w1 : World} (hb : Below W.heap.size W w1) : (∀ b o, b < W.heap.size → w1.cell? ⟨b, o, none⟩ = W.cell? ⟨b, o, none⟩) ∧ (∀ b o, b < W.heap.size → w1.frozen? ⟨b, o, none⟩ = W.frozen? ⟨b, o, none⟩) :=
  ⟨fun b o h => hb.cell (p := ⟨b, o, none⟩) h, fun b o h => hb.frozen (p := ⟨b, o, none⟩) h⟩
theorem size_lt {w w1 : World} {o : Obj} (h : Below (w.alloc o).heap.size (w.alloc o) w1) : w.heap.size < w1.heap.size := by
  have := h.size
  simp at this
  omega
theorem below_alloc {w w1 : World} (h : Below w.heap.size w w1) (o : Obj) : Below w.heap.size w (w1.alloc o) := h.alloc h.size o
theorem below_trans {w w1 w2 : World} (h1 : Below w.heap.size w w1) (h2 : Below w1.heap.size w1 w2) : Below w.heap.size w w2 := h1.trans (h2.mono h1.size)
theorem awake27 (w : World) :
    Calls Try.prog 7 #[] w fun e w' => e = .returned (.bool true) ∧ Below w.heap.size w w' := by
  have e3 : oD 2 8 = 160 := by decide
  have e6 : oA 2 8 = 96 := by decide
  have e7 : oE 2 8 = 0 := by decide
  go_enter Try.func7, Try.ntmps7
  go_wp2_with fail
  refine (of_any 2 8 _).mono ?_
  rintro e w1 ⟨rfl, hb1⟩
  rw [e3, e6, e7]
  go_wp2_with fail
  go_ret
  exact ⟨rfl, below_alloc hb1 _⟩

/-! Levels, in plain mathematics. -/
end Go.Proofs.Ytliochikjbalhaa
