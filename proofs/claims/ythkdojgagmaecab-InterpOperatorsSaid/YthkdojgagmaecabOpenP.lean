/- An argument that is an array of two pairs of an integer and a bool, opened. No program is imported. -/
import Derived.Test.YthkdojgagmaecabOpen
import Derived.ChangeArms
import Derived.ChangeSame
namespace Go.Proofs.Ythkdojgagmaecab
open Go Go.RowKit

theorem open_arrp {H : Type} {enc : TypeId × Value → H} {P : Program} {w : World} {base b0 : Nat} {spare : Nat → Bool} {held : Bool} {r : Reach} {t e : TypeId} {f0 f1 : Field} {k : IntKind} {v : Value} {d : DataW H} {p : List MemPlace}
    (ht : P.underlying t = some (.array 2 e)) (he : P.underlying e = some (.struct #[f0, f1])) (g0 : P.underlying f0.type = some (.int k)) (g1 : P.underlying f1.type = some .bool) (o0 : f0.offset = 0) (o1 : f1.offset = 1)
    (c0 : P.cellsOf f0.type = 1) (c1 : P.cellsOf f1.type = 1) (hce : P.cellsOf e = 2) (hct : P.cellsOf t = 4)
    (hv : Value.okWide P w r b0 t v) (h : DataW.Trod enc P w base spare held t v d p) :
    ∃ (x0 : Int) (y0 : Bool) (x1 : Int) (y1 : Bool), v = .agg #[.int k x0, .bool y0, .int k x1, .bool y1] ∧ (Lit.int k x0).wf = true ∧ (Lit.int k x1).wf = true := by
  simp only [Value.okWide, ht] at hv
  obtain ⟨⟨l⟩, rfl, hsz, _⟩ := hv
  rw [hct] at hsz
  obtain ⟨v0, v1, v2, v3, rfl⟩ := len4 (l := l) (by simpa using hsz)
  obtain ⟨fuel, hf⟩ := h
  obtain ⟨ys, m, _, hx, hl, hn, hi⟩ := DataW.trod_array ht hf
  have h0 := hi 0 (by omega)
  have h1 := hi 1 (by omega)
  rw [hce] at h0 h1
  rw [List.getElem?_eq_getElem (by omega)] at h0 h1
  have key : ∀ (u v : Value) (y : DataW H × List MemPlace), DataW.trod enc P w base spare held m e [u, v] = some y → ∃ (x : Int) (z : Bool), u = .int k x ∧ v = .bool z ∧ (Lit.int k x).wf = true := by
    intro u v y hy
    obtain ⟨y0, y1, n, _, _, k0, k1⟩ := Go.ChangeShapes.trod_struct2 he hy
    rw [o0, c0] at k0
    rw [o1, c1] at k1
    obtain ⟨x, e0, _, wx⟩ := DataW.trod_int g0 k0
    obtain ⟨z, e1, _⟩ := DataW.trod_bool g1 k1
    exact ⟨x, z, by simpa using e0, by simpa using e1, wx⟩
  obtain ⟨x0, y0, rfl, rfl, w0⟩ := key v0 v1 _ (by simpa [Value.cells] using h0)
  obtain ⟨x1, y1, rfl, rfl, w1⟩ := key v2 v3 _ (by simpa [Value.cells] using h1)
  exact ⟨x0, y0, x1, y1, rfl, w0, w1⟩
end Go.Proofs.Ythkdojgagmaecab
