/-
  Slices of slices that grow: a slice of one's own is appended to the outer slice.
-/
import Derived.Test.YtimeninncpmaeaaVn
namespace Go.Proofs.Ytimeninncpmaeaa.Abs
open Go
set_option linter.unusedVariables false
set_option linter.unusedSimpArgs false

section
variable {α : Type} {el : TypeId} {c : Nat} {enc : α → List Value}
/-- The outer handle, at the head of a list of handles that a loop turns. -/
def hov (u : List Hd) : Hd := u.headD ⟨none, 0, 0⟩
theorem Heapy.nilO {h0 h : AHeap} {l : List Slot} (H : Heapy h0 h l) (eo : TypeId) : Heapy h0 h ((⟨⟨none, 0, 0⟩, eo, 1, List.flatMap encH ([] : List Hd)⟩ :: l) ++ NIn el c enc [] []) := by
  rw [show NIn el c enc [] [] = [] from rfl, List.append_nil]
  exact H.nil eo 1
theorem NIn.snoc : ∀ {hs : List Hd} {xss : List (List α)} {w : Hd} {ys : List α}, hs.length = xss.length → NIn el c enc (hs ++ [w]) (xss ++ [ys]) = NIn el c enc hs xss ++ [⟨w, el, c, ys.flatMap enc⟩]
  | [], [], w, ys, _ => rfl
  | [], _ :: _, w, ys, h => by cases h
  | _ :: _, [], w, ys, h => by cases h
  | v' :: hs, xs' :: xss, w, ys, h => by
    simp only [List.cons_append, NIn]
    rw [NIn.snoc (by simpa using h)]
theorem Heapy.nipush {P : Program} {h0 h : AHeap} {A : List Slot} {hs : List Hd} {xss : List (List α)} (H : Heapy h0 h (A ++ NIn el c enc hs xss)) (j : Nat) (hj : j < A.length) {ov : Hd} {eo : TypeId} (hk : (A ++ NIn el c enc hs xss)[j]? = some ⟨ov, eo, 1, hs.flatMap encH⟩)
    (k : Nat) (hkl : k < A.length) (hjk : j ≠ k) {w : Hd} {ys : List α} (hw : (A ++ NIn el c enc hs xss)[k]? = some ⟨w, el, c, ys.flatMap enc⟩) {t : TypeId} {B : Nat} {z : List Value} (hi : mkInfo P t = some (eo, 1, B, z)) {Y : Value} (hs' : srcH h 1 Y = some ([w].flatMap encH, 1)) (hok : okApp (xss.length + 1) B = true) :
    ∃ (ov' : Hd) (h' : AHeap), mrun P h (.ap t (sv ov) Y) = some (sv ov', h') ∧ Heapy h0 h' ((A.set j ⟨ov', eo, 1, (hs ++ [w]).flatMap encH⟩).eraseIdx k ++ NIn el c enc (hs ++ [w]) (xss ++ [ys])) := by
  have hl := H.nilen
  have hn : ov.n = hs.length := H.vn j hk (fun _ => rfl) (by decide)
  obtain ⟨ov', h', m, Q, _, _⟩ := H.append hi j hk hs' rfl (by rw [hn, hl]; exact hok)
  refine ⟨ov', h', m, ?_⟩
  rw [List.set_append_left _ _ hj, ← List.flatMap_append] at Q
  have hw' : (A.set j ⟨ov', eo, 1, (hs ++ [w]).flatMap encH⟩)[k]? = some ⟨w, el, c, ys.flatMap enc⟩ := by
    rw [List.getElem?_set_ne hjk, ← List.getElem?_append_left (l₂ := NIn el c enc hs xss) hkl]; exact hw
  have p := perm_erase hw'
  generalize A.set j ⟨ov', eo, 1, (hs ++ [w]).flatMap encH⟩ = A' at *
  rw [NIn.snoc hl]
  refine (Q.perm (p.append_right _)).perm ?_
  rw [← List.append_assoc, List.cons_append]
  exact (List.perm_append_singleton _ _).symm
end
end Go.Proofs.Ytimeninncpmaeaa.Abs
