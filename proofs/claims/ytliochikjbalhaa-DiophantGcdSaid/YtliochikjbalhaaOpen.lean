/- Arguments that are arrays of integers, opened. No program is imported. -/
import Derived.WalkKit
import Derived.ProofKit
import Derived.OpenShut
import Derived.Below
import Derived.ChangeOld
import Derived.Lib.SmallJoins
namespace Go.Proofs.Ytliochikjbalhaa
open Go Go.RowKit

theorem list_ints {k : IntKind} : ∀ l : List Value, (∀ (i : Nat) (h : i < l.length), ∃ x, l[i] = Value.int k x ∧ (Lit.int k x).wf = true) →
    ∃ xs : List Int, l = xs.map (Value.int k) ∧ ∀ x ∈ xs, (Lit.int k x).wf = true
  | [], _ => ⟨[], rfl, fun x hx => by cases hx⟩
  | v :: l, h => by
    obtain ⟨x, hx, hw⟩ := h 0 (by simp)
    obtain ⟨xs, rfl, hws⟩ := list_ints l (fun i hi => by have := h (i + 1) (by simp; omega); simpa using this)
    refine ⟨x :: xs, by simp at hx; simp [hx], ?_⟩
    intro y hy
    rcases List.mem_cons.1 hy with rfl | hy
    · exact hw
    · exact hws y hy

theorem open_arr {H : Type} {enc : TypeId × Value → H} {P : Program} {w : World} {base b0 : Nat} {spare : Nat → Bool} {held : Bool} {r : Reach} {t e : TypeId} {n : Nat} {k : IntKind} {v : Value} {d : DataW H} {p : List MemPlace}
    (ht : P.underlying t = some (.array n e)) (he : P.underlying e = some (.int k)) (hce : P.cellsOf e = 1) (hct : P.cellsOf t = n)
    (hv : Value.okWide P w r b0 t v) (h : DataW.Trod enc P w base spare held t v d p) :
    ∃ xs : List Int, xs.length = n ∧ v = .agg (xs.map (Value.int k)).toArray ∧ ∀ x ∈ xs, (Lit.int k x).wf = true := by
  simp only [Value.okWide, ht] at hv
  obtain ⟨⟨l⟩, rfl, hsz, _⟩ := hv
  rw [hct] at hsz
  have hsz' : l.length = n := by simpa using hsz
  obtain ⟨fuel, hf⟩ := h
  obtain ⟨ys, m, _, hx, hl, hn, hi⟩ := DataW.trod_array ht hf
  have key : ∀ (i : Nat) (h : i < l.length), ∃ x, l[i] = Value.int k x ∧ (Lit.int k x).wf = true := by
    intro i hlt
    have h1 := hi i (by omega)
    rw [hce] at h1
    have h2 : i < ys.length := by omega
    rw [List.getElem?_eq_getElem h2] at h1
    obtain ⟨x, e1, _, hw⟩ := DataW.trod_int he h1
    refine ⟨x, ?_, hw⟩
    have e2 : (l.drop i).take 1 = [Value.int k x] := by simpa [Value.cells] using e1
    rw [List.drop_eq_getElem_cons hlt, List.take_succ_cons] at e2
    exact (List.cons.inj e2).1
  obtain ⟨xs, rfl, hw⟩ := list_ints l key
  exact ⟨xs, by simpa using hsz', rfl, hw⟩

theorem len2 {α : Type} {l : List α} (h : l.length = 2) : ∃ a b, l = [a, b] := by
  match l, h with
  | [a, b], _ => exact ⟨a, b, rfl⟩
theorem len3 {α : Type} {l : List α} (h : l.length = 3) : ∃ a b c, l = [a, b, c] := by
  match l, h with
  | [a, b, c], _ => exact ⟨a, b, c, rfl⟩
theorem len4 {α : Type} {l : List α} (h : l.length = 4) : ∃ a b c d, l = [a, b, c, d] := by
  match l, h with
  | [a, b, c, d], _ => exact ⟨a, b, c, d, rfl⟩
theorem len5 {α : Type} {l : List α} (h : l.length = 5) : ∃ a b c d e, l = [a, b, c, d, e] := by
  match l, h with
  | [a, b, c, d, e], _ => exact ⟨a, b, c, d, e, rfl⟩
theorem nat_of_u64 {n : Int} (h : (Lit.int .u64 n).wf = true) : ∃ x : Nat, n = x ∧ x < 18446744073709551616 := by
  have hb := bounds_u64 h
  obtain ⟨x, rfl⟩ := Int.eq_ofNat_of_zero_le hb.1
  exact ⟨x, rfl, by omega⟩
theorem nat_of_u8 {n : Int} (h : (Lit.int .u8 n).wf = true) : ∃ x : Nat, n = x ∧ x < 256 := by
  have hb := bounds_u8 h
  obtain ⟨x, rfl⟩ := Int.eq_ofNat_of_zero_le hb.1
  exact ⟨x, rfl, by omega⟩
theorem nat_of_u16 {n : Int} (h : (Lit.int .u16 n).wf = true) : ∃ x : Nat, n = x ∧ x < 65536 := by
  have hb := bounds_u16 h
  obtain ⟨x, rfl⟩ := Int.eq_ofNat_of_zero_le hb.1
  exact ⟨x, rfl, by omega⟩
end Go.Proofs.Ytliochikjbalhaa
