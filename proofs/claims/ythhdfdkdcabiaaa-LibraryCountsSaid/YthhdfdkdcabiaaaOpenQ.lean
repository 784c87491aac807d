/- An argument that is a slice of structs of two integers of 64 bits, opened. No program is imported. -/
import Derived.Test.YthhdfdkdcabiaaaCn
import Derived.Deep.Slices
import Derived.Deep.Fields
import Derived.ChangeSame
import Derived.ChangeArms
namespace Go.Proofs.Ythhdfdkdcabiaaa
open Go Go.RowKit Go.ChangeShapes Go.WideShapes Go.Deep

def intAt (w : World) (a : Addr) : Int := match w.cell? a with | some (.int _ n) => n | _ => 0
theorem intAt_of {w : World} {a : Addr} {k : IntKind} {n : Int} (h : w.cell? a = some (.int k n)) : w.cell? a = some (.int k (intAt w a)) := by
  unfold intAt; rw [h]
theorem open_pairs {H : Type} {enc : TypeId × Value → H} {P : Program} {w : World} {base b0 : Nat} {spare : Nat → Bool} {held : Bool} {r : Reach} {t e i0 : TypeId} {f0 f1 : Field} {v : Value} {d : DataW H} {p : List MemPlace}
    (ht : P.underlying t = some (.slice e)) (he : P.underlying e = some (.struct #[f0, f1])) (hi : P.underlying i0 = some (.int .i64)) (e0 : f0.type = i0) (e1 : f1.type = i0)
    (hone : oneCellFields P #[f0, f1] = true) (hC : P.cellsOf e = 2) (hv : Value.okWide P w r b0 t v) (h : DataW.Trod enc P w base spare held t v d p) :
    ∃ (A : Option Addr) (n m : Nat) (c k : Nat → Int), v = .slice A n m ∧ n ≤ maxLen ∧ ∀ i, i < n → ∃ ad, A = some ad ∧ ad.block < w.heap.size ∧ w.cell? (ad.add (i * 2)) = some (.int .i64 (c i)) ∧ w.cell? (ad.add (i * 2 + 1)) = some (.int .i64 (k i)) := by
  obtain ⟨a0, n0, m0, rfl⟩ := okWide_slice ht hv
  obtain ⟨fuel, hf⟩ := h
  rcases open_slice ht hf with ⟨h0, _⟩ | ⟨a, len, cap, m, n, D, Pl, hcs, hb, hl, hm, hmm, hx, hi'⟩
  · have : (Value.slice a0 n0 m0) = .slice none 0 0 := by simpa [Value.cells] using h0
    cases this
    exact ⟨none, 0, 0, fun _ => 0, fun _ => 0, rfl, by simp [maxLen], fun i hi => absurd hi (by omega)⟩
  · have : (Value.slice a0 n0 m0) = .slice (some a) len cap := by simpa [Value.cells] using hcs
    cases this
    refine ⟨some a, n0, m0, fun i => intAt w (a.add (i * 2)), fun i => intAt w (a.add (i * 2 + 1)), rfl, by omega, fun i hin => ?_⟩
    have him : i < m := by rw [hmm]; split <;> omega
    obtain ⟨cs', hc, ht'⟩ := hi' i him
    rw [hC] at hc
    obtain ⟨ys, n', _, _, hlen, hyl, hfd⟩ := DataW.trod_struct he ht'
    obtain ⟨_, hcl, hat⟩ := World.cells?_some hc
    match cs', hcl with
    | [v0, v1], _ =>
      obtain ⟨o0, k0⟩ := hone_of hone 0 f0 rfl
      obtain ⟨o1, k1⟩ := hone_of hone 1 f1 rfl
      have h0 := hfd 0 f0 rfl
      have h1 := hfd 1 f1 rfl
      have hys : ys.length = 2 := hyl
      match ys, hys with
      | [y0, y1], _ =>
        have g0 : DataW.trod enc P w base spare held n' f0.type [v0] = some y0 := by simpa [o0, k0] using h0
        have g1 : DataW.trod enc P w base spare held n' f1.type [v1] = some y1 := by simpa [o1, k1] using h1
        rw [e0] at g0
        rw [e1] at g1
        obtain ⟨x0, q0, _, _⟩ := DataW.trod_int hi g0
        obtain ⟨x1, q1, _, _⟩ := DataW.trod_int hi g1
        have c0 := hat 0 (by omega)
        have c1 := hat 1 (by omega)
        rw [add_of_add] at c0 c1
        have d0 : w.cell? (a.add (i * 2)) = some (.int .i64 x0) := by simpa [(List.cons.inj q0).1] using c0
        have d1 : w.cell? (a.add (i * 2 + 1)) = some (.int .i64 x1) := by simpa [(List.cons.inj q1).1] using c1
        have hbl := World.block_lt_of_cell? _ _ d0
        rw [block_of_add] at hbl
        exact ⟨a, rfl, hbl, intAt_of d0, intAt_of d1⟩
end Go.Proofs.Ythhdfdkdcabiaaa
