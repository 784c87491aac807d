/-
  Slices of slices that a call has made: the outer block holds the handles of the inner ones; these are slots too, behind all others.
-/
import Derived.Test.YtimeninncpmaeaaVu
namespace Go.Proofs.Ytimeninncpmaeaa.Abs
open Go
set_option linter.unusedVariables false
set_option linter.unusedSimpArgs false

def encH (v : Hd) : List Value := [sv v]
/-- The inner slots, by their handles and what they hold. -/
def NRows {α : Type} (el : TypeId) (c : Nat) (enc : α → List Value) : List Hd → List (List α) → List Slot
  | v :: hs, xs :: xss => ⟨v, el, c, xs.flatMap enc⟩ :: NRows el c enc hs xss
  | _, _ => []
section
variable {α : Type} {el : TypeId} {c : Nat} {enc : α → List Value}
theorem NRows.len : ∀ {hs : List Hd} {xss : List (List α)}, hs.length = xss.length → (NRows el c enc hs xss).length = hs.length
  | [], [], _ => rfl
  | [], _ :: _, h => by cases h
  | _ :: _, [], h => by cases h
  | v :: hs, xs :: xss, h => by simp only [NRows, List.length_cons]; rw [NRows.len (hs := hs) (xss := xss) (by simpa using h)]
theorem NRows.get : ∀ {hs : List Hd} {xss : List (List α)} {i : Nat} {v : Hd} {xs : List α}, hs[i]? = some v → xss[i]? = some xs → (NRows el c enc hs xss)[i]? = some ⟨v, el, c, xs.flatMap enc⟩
  | [], _, i, v, xs, h, _ => by simp at h
  | _ :: _, [], i, v, xs, _, h => by simp at h
  | v' :: hs, xs' :: xss, 0, v, xs, h, k => by simp at h k; subst h k; rfl
  | v' :: hs, xs' :: xss, i + 1, v, xs, h, k => by
    simp only [NRows, List.getElem?_cons_succ]
    exact NRows.get (by simpa using h) (by simpa using k)
theorem NRows.set : ∀ {hs : List Hd} {xss : List (List α)} {i : Nat} {v : Hd} {xs : List α}, hs.length = xss.length → (NRows el c enc hs xss).set i ⟨v, el, c, xs.flatMap enc⟩ = NRows el c enc (hs.set i v) (xss.set i xs)
  | [], [], i, v, xs, _ => rfl
  | [], _ :: _, i, v, xs, h => by cases h
  | _ :: _, [], i, v, xs, h => by cases h
  | v' :: hs, xs' :: xss, 0, v, xs, h => rfl
  | v' :: hs, xs' :: xss, i + 1, v, xs, h => by
    simp only [NRows, List.set_cons_succ]
    rw [NRows.set (by simpa using h)]
theorem NRows.app : ∀ {hs : List Hd} {xss : List (List α)} {v : Hd} {xs : List α}, hs.length = xss.length → NRows el c enc (hs ++ [v]) (xss ++ [xs]) = NRows el c enc hs xss ++ [⟨v, el, c, xs.flatMap enc⟩]
  | [], [], v, xs, _ => rfl
  | [], _ :: _, v, xs, h => by cases h
  | _ :: _, [], v, xs, h => by cases h
  | v' :: hs, xs' :: xss, v, xs, h => by
    simp only [List.cons_append, NRows]
    rw [NRows.app (by simpa using h)]
end
def Slot.far (s t : Slot) : Prop := ∀ b, s.id? = some b → t.id? ≠ some b
theorem Heapy.pw {h0 h : AHeap} {l : List Slot} (H : Heapy h0 h l) : l.Pairwise Slot.far := by
  rw [List.pairwise_iff_getElem]
  intro i j hi hj hij b hb
  exact H.apart i j _ _ (List.getElem?_eq_getElem hi) (List.getElem?_eq_getElem hj) (by omega) b hb
theorem Slot.far_symm {s t : Slot} (h : s.far t) : t.far s := fun b hb hs => h b hs hb
theorem Heapy.of_pw {h0 h : AHeap} {l : List Slot} (wf : h.wf) (sub : h0.sub h) (size : h0.size ≤ h.size) (ok : ∀ s ∈ l, s.ok h0 h) (pw : l.Pairwise Slot.far) : Heapy h0 h l := by
  refine ⟨wf, sub, size, ok, ?_⟩
  rw [List.pairwise_iff_getElem] at pw
  intro i j s t hi hj hij
  obtain ⟨hi', rfl⟩ := List.getElem?_eq_some_iff.1 hi
  obtain ⟨hj', rfl⟩ := List.getElem?_eq_some_iff.1 hj
  rcases Nat.lt_or_gt_of_ne hij with h | h
  · exact pw i j hi' hj' h
  · exact Slot.far_symm (pw j i hj' hi' h)
theorem Heapy.perm {h0 h : AHeap} {l l' : List Slot} (H : Heapy h0 h l) (p : l.Perm l') : Heapy h0 h l' :=
  .of_pw H.wf H.sub H.size (fun s hs => H.ok s (p.mem_iff.2 hs)) ((p.pairwise_iff Slot.far_symm).1 H.pw)
theorem Heapy.less {h0 h : AHeap} {l l' : List Slot} (H : Heapy h0 h l) (p : l'.Sublist l) : Heapy h0 h l' :=
  .of_pw H.wf H.sub H.size (fun s hs => H.ok s (p.subset hs)) (H.pw.sublist p)
/-- Some of the first slots, in another order, and all that lie behind them. -/
theorem Heapy.pickN {h0 h : AHeap} {A N : List Slot} (H : Heapy h0 h (A ++ N)) (ks : List Nat) (hn : ks.Nodup) (hk : ∀ k ∈ ks, k < A.length) : Heapy h0 h (ks.filterMap (A[·]?) ++ N) := by
  have K := H.pick (ks ++ List.range' A.length N.length) (by
    rw [List.nodup_append]
    refine ⟨hn, List.nodup_range', ?_⟩
    intro a ha b hb
    have := hk a ha
    have := (List.mem_range'_1.1 hb).1
    omega)
  have e : (ks ++ List.range' A.length N.length).filterMap ((A ++ N)[·]?) = ks.filterMap (A[·]?) ++ N := by
    rw [List.filterMap_append]
    congr 1
    · have : ∀ ks : List Nat, (∀ k ∈ ks, k < A.length) → ks.filterMap ((A ++ N)[·]?) = ks.filterMap (A[·]?) := by
        intro ks
        induction ks with
        | nil => intro _; rfl
        | cons k ks ih =>
          intro hk'
          simp only [List.filterMap_cons]
          rw [List.getElem?_append_left (hk' k (by simp)), ih (fun k h => hk' k (by simp [h]))]
      exact this ks hk
    · have : ∀ (r : List Slot) (o : Nat) (f : Nat → Option Slot), (∀ i, i < r.length → f (o + i) = r[i]?) → (List.range' o r.length).filterMap f = r := by
        intro r
        induction r with
        | nil => intro o f _; rfl
        | cons a r ih =>
          intro o f hf
          rw [List.length_cons, List.range'_succ, List.filterMap_cons_some (b := a) (by simpa using hf 0 (by simp))]
          congr 1
          exact ih (o + 1) f (fun i hi => by have := hf (i + 1) (by simpa using hi); simpa [Nat.add_assoc, Nat.add_comm 1 i] using this)
      refine this N A.length _ ?_
      intro i hi
      rw [List.getElem?_append_right (by omega)]
      congr 1; omega
  rwa [e] at K
section
variable {α : Type} {el : TypeId} {c : Nat} {enc : α → List Value}
theorem tail_get {A M N R : List Slot} {i : Nat} {s : Slot} (h : N[i]? = some s) : (A ++ (M ++ (N ++ R)))[A.length + (M.length + i)]? = some s := by
  have hi := (List.getElem?_eq_some_iff.1 h).1
  rw [List.getElem?_append_right (by omega), Nat.add_sub_cancel_left, List.getElem?_append_right (by omega), Nat.add_sub_cancel_left, List.getElem?_append_left hi, h]
theorem tail_set {A M N R : List Slot} {i : Nat} {x : Slot} (hi : i < N.length) : (A ++ (M ++ (N ++ R))).set (A.length + (M.length + i)) x = A ++ (M ++ (N.set i x ++ R)) := by
  rw [List.set_append_right _ _ (by omega), Nat.add_sub_cancel_left, List.set_append_right _ _ (by omega), Nat.add_sub_cancel_left, List.set_append_left _ _ hi]
/-- An inner slice, as it reads. -/
theorem Heapy.nsle {h0 h : AHeap} {A M R : List Slot} {hs : List Hd} {xss : List (List α)} (H : Heapy h0 h (A ++ (M ++ (NRows el c enc hs xss ++ R)))) {i : Nat} {v : Hd} {xs : List α} (hv : hs[i]? = some v) (hx : xss[i]? = some xs) (he : ∀ x, (enc x).length = c) (hc : c ≠ 0) :
    SlE (fun _ cs x => cs = enc x) c h (sv v) xs := H.sle _ (tail_get (NRows.get hv hx)) he hc
/-- A store into an inner slice. -/
theorem Heapy.nstore {P : Program} {h0 h : AHeap} {A M R : List Slot} {hs : List Hd} {xss : List (List α)} (H : Heapy h0 h (A ++ (M ++ (NRows el c enc hs xss ++ R)))) (hl : hs.length = xss.length) {a : Nat} {v : Hd} {xs : List α} (hv : hs[a]? = some v) (hx : xss[a]? = some xs) (he : ∀ x, (enc x).length = c)
    {i : Int} {y y' : α} (hy : at? xs i = some y) {id off g : Nat} (hix : ixv c (sv v) i = some (id, off, g)) {t : TypeId} {x : Value} (j : Nat) {vs : List Value} (hcs : x.cells.toList = vs) (hsz : sizeT P t = some vs.length) (ho : okPart x = true) (h1 : vs.all (·.oneCell') = true)
    (hj : Nat.ble (j + vs.length) c = true) (hy' : enc y' = splice (enc y) j vs) :
    ∃ (h' : AHeap), mrun P h (.st t id (off + j) g x) = some (undef, h') ∧ Heapy h0 h' (A ++ (M ++ (NRows el c enc hs (xss.set a (setI xs i y')) ++ R))) := by
  obtain ⟨h', m, K⟩ := H.store _ (tail_get (NRows.get hv hx)) he hy hix j hcs hsz ho h1 hj hy'
  refine ⟨h', m, ?_⟩
  rw [tail_set (by rw [NRows.len hl]; exact (List.getElem?_eq_some_iff.1 hv).1), NRows.set hl] at K
  have e : hs.set a v = hs := by
    apply List.ext_getElem?
    intro k
    rw [List.getElem?_set]
    split
    · rename_i e; subst e
      first
        | exact hv.symm
        | (rw [if_pos (List.getElem?_eq_some_iff.1 hv).1]; exact hv.symm)
    · rfl
  rwa [e] at K
/-- An append to an inner slice: its handle turns, and the outer block does not know of it yet. -/
theorem Heapy.nappend {P : Program} {h0 h : AHeap} {A M R : List Slot} {hs : List Hd} {xss : List (List α)} (H : Heapy h0 h (A ++ (M ++ (NRows el c enc hs xss ++ R)))) (hl : hs.length = xss.length) {t : TypeId} {B : Nat} {z : List Value} (hi : mkInfo P t = some (el, c, B, z)) {a : Nat} {v : Hd} {xs : List α} (hv : hs[a]? = some v) (hx : xss[a]? = some xs)
    {Y : Value} {ys : List α} (hs' : srcH h c Y = some (ys.flatMap enc, ys.length)) (he : ∀ x, (enc x).length = c) (hok : okApp (v.n + ys.length) B = true) :
    ∃ (v' : Hd) (h' : AHeap), mrun P h (.ap t (sv v) Y) = some (sv v', h') ∧ Heapy h0 h' (A ++ (M ++ (NRows el c enc (hs.set a v') (xss.set a (xs ++ ys)) ++ R))) ∧ v'.n = v.n + ys.length := by
  obtain ⟨v', h', m, K, hn, _⟩ := H.append hi _ (tail_get (NRows.get hv hx)) hs' (flatMap_length he ys) hok
  refine ⟨v', h', m, ?_, hn⟩
  rwa [← List.flatMap_append, tail_set (by rw [NRows.len hl]; exact (List.getElem?_eq_some_iff.1 hv).1), NRows.set hl] at K
theorem perm_erase {β : Type} : ∀ {A : List β} {k : Nat} {s : β}, A[k]? = some s → A.Perm (s :: A.eraseIdx k)
  | [], k, s, h => by simp at h
  | a :: A, 0, s, h => by simp at h; subst h; exact List.Perm.refl _
  | a :: A, k + 1, s, h => by
    rw [List.eraseIdx_cons_succ]
    exact ((perm_erase (by simpa using h)).cons a).trans (List.Perm.swap s a _)
/-- A slice of one's own becomes an inner one. -/
theorem Heapy.give {h0 h : AHeap} {A M R : List Slot} {hs : List Hd} {xss : List (List α)} (H : Heapy h0 h (A ++ (M ++ (NRows el c enc hs xss ++ R)))) (hl : hs.length = xss.length) (k : Nat) {v : Hd} {xs : List α} (hk : A[k]? = some ⟨v, el, c, xs.flatMap enc⟩) :
    Heapy h0 h (A.eraseIdx k ++ (M ++ (NRows el c enc (hs ++ [v]) (xss ++ [xs]) ++ R))) := by
  refine H.perm ?_
  rw [NRows.app hl]
  have p := perm_erase hk
  generalize (⟨v, el, c, xs.flatMap enc⟩ : Slot) = s at *
  generalize NRows el c enc hs xss = N at *
  refine (p.append_right _).trans ?_
  rw [List.cons_append]
  have q : (A.eraseIdx k ++ (M ++ (N ++ [s] ++ R))).Perm (s :: (A.eraseIdx k ++ (M ++ (N ++ R)))) := by
    have e1 : A.eraseIdx k ++ (M ++ (N ++ [s] ++ R)) = (A.eraseIdx k ++ (M ++ N)) ++ s :: R := by simp [List.append_assoc]
    have e2 : A.eraseIdx k ++ (M ++ (N ++ R)) = (A.eraseIdx k ++ (M ++ N)) ++ R := by simp [List.append_assoc]
    rw [e1, e2]
    exact List.perm_middle
  exact q.symm
end
end Go.Proofs.Ytimeninncpmaeaa.Abs
