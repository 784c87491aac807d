/-
  Slices of slices that the call makes: the outer slice holds handles, the inner slices lie behind all other slots.
-/
import Derived.Test.YtimeninncpmaeaaVy
namespace Go.Proofs.Ytimeninncpmaeaa.Abs
open Go
set_option linter.unusedVariables false
set_option linter.unusedSimpArgs false

section
variable {α : Type}
/-- The inner slots; nothing lies so where there are more handles than slices, or fewer. -/
def NIn (el : TypeId) (c : Nat) (enc : α → List Value) : List Hd → List (List α) → List Slot
  | v :: hs, l :: r => ⟨v, el, c, l.flatMap enc⟩ :: NIn el c enc hs r
  | [], [] => []
  | _, _ => [⟨⟨none, 1, 0⟩, 0, 0, []⟩]
def hnth (hs : List Hd) (i : Int) : Hd := (hs[i.toNat]?).getD ⟨none, 0, 0⟩
variable {el : TypeId} {c : Nat} {enc : α → List Value}
theorem NIn.ok {h0 h : AHeap} : ∀ {hs : List Hd} {xs : List (List α)}, (∀ s ∈ NIn el c enc hs xs, s.ok h0 h) → hs.length = xs.length
  | [], [], _ => rfl
  | v :: hs, l :: r, H => by
    have := NIn.ok (hs := hs) (xs := r) fun s hs' => H s (by simp only [NIn]; exact List.mem_cons_of_mem _ hs')
    simp [this]
  | [], _ :: _, H => by
    rcases H ⟨⟨none, 1, 0⟩, 0, 0, []⟩ (by simp [NIn]) with ⟨k1, _⟩ | ⟨_, _, _, k1, _⟩
    · simp at k1
    · simp at k1
  | _ :: _, [], H => by
    rcases H ⟨⟨none, 1, 0⟩, 0, 0, []⟩ (by simp [NIn]) with ⟨k1, _⟩ | ⟨_, _, _, k1, _⟩
    · simp at k1
    · simp at k1
theorem Heapy.nilen {h0 h : AHeap} {A : List Slot} {hs : List Hd} {xs : List (List α)} (H : Heapy h0 h (A ++ NIn el c enc hs xs)) : hs.length = xs.length :=
  NIn.ok fun s hs => H.ok s (List.mem_append_right _ hs)
theorem NIn.get : ∀ {hs : List Hd} {xss : List (List α)} {i : Nat} {v : Hd} {xs : List α}, hs[i]? = some v → xss[i]? = some xs → (NIn el c enc hs xss)[i]? = some ⟨v, el, c, xs.flatMap enc⟩
  | [], _, i, v, xs, h, _ => by simp at h
  | _ :: _, [], i, v, xs, _, h => by simp at h
  | v' :: hs, xs' :: xss, 0, v, xs, h, k => by simp at h k; subst h k; rfl
  | v' :: hs, xs' :: xss, i + 1, v, xs, h, k => by
    simp only [NIn, List.getElem?_cons_succ]
    exact NIn.get (by simpa using h) (by simpa using k)
theorem NIn.set : ∀ {hs : List Hd} {xss : List (List α)} {i : Nat} {v : Hd} {xs : List α}, hs.length = xss.length → (NIn el c enc hs xss).set i ⟨v, el, c, xs.flatMap enc⟩ = NIn el c enc (hs.set i v) (xss.set i xs)
  | [], [], i, v, xs, _ => rfl
  | [], _ :: _, i, v, xs, h => by cases h
  | _ :: _, [], i, v, xs, h => by cases h
  | v' :: hs, xs' :: xss, 0, v, xs, h => rfl
  | v' :: hs, xs' :: xss, i + 1, v, xs, h => by
    simp only [NIn, List.set_cons_succ]
    rw [NIn.set (by simpa using h)]
theorem Heapy.nils {h0 h : AHeap} {l : List Slot} (n : Nat) (H : Heapy h0 h l) : Heapy h0 h (l ++ NIn el c enc (List.replicate n ⟨none, 0, 0⟩) (List.replicate n [])) := by
  induction n with
  | zero => simpa [NIn] using H
  | succ n ih =>
    simp only [List.replicate_succ, NIn]
    exact (Heapy.nil ih el c).perm (List.perm_middle.symm)
theorem Heapy.niat {h0 h : AHeap} {A : List Slot} {hs : List Hd} {xss : List (List α)} (H : Heapy h0 h (A ++ NIn el c enc hs xss)) {i : Int} {y : List α} (hy : at? xss i = some y) : at? hs i = some (hnth hs i) := by
  obtain ⟨h1, h2, h3⟩ := at?_some hy
  have hl := H.nilen
  have hlt : i.toNat < hs.length := by rw [hl]; exact (List.getElem?_eq_some_iff.1 h3).1
  unfold at? hnth
  rw [decide_eq_true h1, cond_true, List.getElem?_eq_getElem hlt]
  rfl
theorem nth_of {β : Type} {l : List β} {i : Int} {y : β} (h : at? l i = some y) : 0 ≤ i ∧ l[i.toNat]? = some y := by
  obtain ⟨h1, _, h3⟩ := at?_some h
  exact ⟨h1, h3⟩
/-- An inner slice reads as what it holds. -/
theorem Heapy.nisle {h0 h : AHeap} {A : List Slot} {hs : List Hd} {xss : List (List α)} (H : Heapy h0 h (A ++ NIn el c enc hs xss)) {i : Int} {y : List α} (hy : at? xss i = some y) (he : ∀ x, (enc x).length = c) (hc : c ≠ 0) :
    SlE (fun _ cs x => cs = enc x) c h (sv (hnth hs i)) y :=
  H.sle _ (tail2_get (NIn.get (nth_of (H.niat hy)).2 (nth_of hy).2)) he hc
theorem Heapy.nivn {h0 h : AHeap} {A : List Slot} {hs : List Hd} {xss : List (List α)} (H : Heapy h0 h (A ++ NIn el c enc hs xss)) (j : Nat) {ov : Hd} {eo : TypeId} (hk : (A ++ NIn el c enc hs xss)[j]? = some ⟨ov, eo, 1, hs.flatMap encH⟩) : vlen (sv ov) = some xss.length := by
  have := (H.sle j hk (fun _ => rfl) (by decide)).len
  rw [H.nilen] at this
  exact this
/-- A store into an inner slice. -/
theorem Heapy.nistore {P : Program} {h0 h : AHeap} {A : List Slot} {hs : List Hd} {xss : List (List α)} (H : Heapy h0 h (A ++ NIn el c enc hs xss)) {i : Int} {xs : List α} (hy : at? xss i = some xs) (he : ∀ x, (enc x).length = c)
    {k : Int} {y y' : α} (hk : at? xs k = some y) {id off g : Nat} (hix : ixv c (sv (hnth hs i)) k = some (id, off, g)) {t : TypeId} {x : Value} (j : Nat) {vs : List Value} (hcs : x.cells.toList = vs) (hsz : sizeT P t = some vs.length) (ho : okPart x = true) (h1 : vs.all (·.oneCell') = true)
    (hj : Nat.ble (j + vs.length) c = true) (hy' : enc y' = splice (enc y) j vs) :
    ∃ (h' : AHeap), mrun P h (.st t id (off + j) g x) = some (undef, h') ∧ Heapy h0 h' (A ++ NIn el c enc hs (setI xss i (setI xs k y'))) := by
  have hv := (nth_of (H.niat hy)).2
  obtain ⟨h', m, K⟩ := H.store _ (tail2_get (NIn.get hv (nth_of hy).2)) he hk hix j hcs hsz ho h1 hj hy'
  refine ⟨h', m, ?_⟩
  rw [tail2_set, NIn.set H.nilen] at K
  have e : hs.set i.toNat (hnth hs i) = hs := by
    apply List.ext_getElem?
    intro k
    rw [List.getElem?_set]
    split
    · rename_i e; subst e
      first
        | exact hv.symm
        | (rw [if_pos (List.getElem?_eq_some_iff.1 hv).1]; exact hv.symm)
    · rfl
  rw [e] at K
  exact K
theorem set_split {β : Type} : ∀ {N : List β} {i : Nat} {x y : β}, N[i]? = some y → ∃ N1 N2, N = N1 ++ y :: N2 ∧ N.set i x = N1 ++ x :: N2
  | [], i, x, y, h => by simp at h
  | a :: N, 0, x, y, h => by simp at h; subst h; exact ⟨[], N, rfl, rfl⟩
  | a :: N, i + 1, x, y, h => by
    obtain ⟨N1, N2, e1, e2⟩ := set_split (N := N) (i := i) (x := x) (y := y) (by simpa using h)
    exact ⟨a :: N1, N2, by rw [e1]; rfl, by rw [List.set_cons_succ, e2]; rfl⟩
/-- A slice of one's own becomes an element of the outer slice. -/
theorem Heapy.nput {P : Program} {h0 h : AHeap} {A : List Slot} {hs : List Hd} {xss : List (List α)} (H : Heapy h0 h (A ++ NIn el c enc hs xss)) (j : Nat) (hj : j < A.length) {ov : Hd} {eo : TypeId} (hk : (A ++ NIn el c enc hs xss)[j]? = some ⟨ov, eo, 1, hs.flatMap encH⟩)
    (k : Nat) (hkl : k < A.length) (hjk : j ≠ k) {w : Hd} {ys : List α} (hw : (A ++ NIn el c enc hs xss)[k]? = some ⟨w, el, c, ys.flatMap enc⟩) {i : Int} {y : List α} (hy : at? xss i = some y) {id off g : Nat} (hix : ixv 1 (sv ov) i = some (id, off, g)) {t : TypeId} (hsz : sizeT P t = some 1) :
    ∃ (h' : AHeap), mrun P h (.st t id (off + 0) g (sv w)) = some (undef, h') ∧ Heapy h0 h' ((A.set j ⟨ov, eo, 1, (setI hs i w).flatMap encH⟩).eraseIdx k ++ NIn el c enc (setI hs i w) (setI xss i ys)) := by
  have hv := (nth_of (H.niat hy)).2
  obtain ⟨h', m, K⟩ := H.store j hk (fun _ => rfl) (H.niat hy) hix (y' := w) (t := t) (x := sv w) 0 (vs := [sv w]) rfl hsz rfl rfl rfl rfl
  refine ⟨h', m, ?_⟩
  rw [List.set_append_left _ _ hj] at K
  have hw' : (A.set j ⟨ov, eo, 1, (setI hs i w).flatMap encH⟩)[k]? = some ⟨w, el, c, ys.flatMap enc⟩ := by
    rw [List.getElem?_set_ne hjk, ← List.getElem?_append_left (l₂ := NIn el c enc hs xss) hkl]; exact hw
  have p := perm_erase hw'
  generalize A.set j ⟨ov, eo, 1, (setI hs i w).flatMap encH⟩ = A' at *
  have st := NIn.set (el := el) (c := c) (enc := enc) (i := i.toNat) (v := w) (xs := ys) H.nilen
  obtain ⟨N1, N2, e1, e2⟩ := set_split (x := (⟨w, el, c, ys.flatMap enc⟩ : Slot)) (NIn.get (el := el) (c := c) (enc := enc) hv (nth_of hy).2)
  show Heapy h0 h' (A'.eraseIdx k ++ NIn el c enc (hs.set i.toNat w) (xss.set i.toNat ys))
  rw [← st, e2]
  rw [e1] at K
  have K1 := K.perm (p.append_right _)
  have K2 := K1.less (l' := (⟨w, el, c, ys.flatMap enc⟩ :: A'.eraseIdx k) ++ (N1 ++ N2)) ((List.Sublist.refl _).append ((List.Sublist.refl _).append (List.sublist_cons_self _ _)))
  refine K2.perm ?_
  rw [List.cons_append, ← List.append_assoc, ← List.append_assoc]
  exact List.perm_middle.symm
/-- m[i] = append(m[i], ..) -/
theorem Heapy.niapp {P : Program} {h0 h : AHeap} {A : List Slot} {hs : List Hd} {xss : List (List α)} (H : Heapy h0 h (A ++ NIn el c enc hs xss)) (j : Nat) (hj : j < A.length) {ov : Hd} {eo : TypeId} (hk : (A ++ NIn el c enc hs xss)[j]? = some ⟨ov, eo, 1, hs.flatMap encH⟩)
    {i : Int} {y : List α} (hy : at? xss i = some y) {id off g : Nat} (hix : ixv 1 (sv ov) i = some (id, off, g)) {t ta : TypeId} (hsz : sizeT P t = some 1)
    {B : Nat} {z : List Value} (hi : mkInfo P ta = some (el, c, B, z)) {Y : Value} {ys : List α} (hs' : srcH h c Y = some (ys.flatMap enc, ys.length)) (he : ∀ x, (enc x).length = c) (hc : c ≠ 0) (hok : okApp (y.length + ys.length) B = true) :
    ∃ (v' : Hd) (h' h'' : AHeap), mrun P h (.ap ta (sv (hnth hs i)) Y) = some (sv v', h') ∧ mrun P h' (.st t id (off + 0) g (sv v')) = some (undef, h'') ∧
      Heapy h0 h'' (A.set j ⟨ov, eo, 1, (setI hs i v').flatMap encH⟩ ++ NIn el c enc (setI hs i v') (setI xss i (y ++ ys))) := by
  have hl := H.nilen
  have hat := H.niat hy
  have hv := (nth_of hat).2
  have hg := tail2_get (A := A) (NIn.get (el := el) (c := c) (enc := enc) hv (nth_of hy).2)
  have hn : (hnth hs i).n = y.length := H.vn _ hg he hc
  obtain ⟨v', h', m, Q, _, _⟩ := H.append hi _ hg hs' (flatMap_length he ys) (by rw [hn]; exact hok)
  have Q' : Heapy h0 h' (A ++ NIn el c enc (hs.set i.toNat v') (xss.set i.toNat (y ++ ys))) := by
    rw [← List.flatMap_append, tail2_set, NIn.set hl] at Q
    exact Q
  have hk' : (A ++ NIn el c enc (hs.set i.toNat v') (xss.set i.toNat (y ++ ys)))[j]? = some ⟨ov, eo, 1, hs.flatMap encH⟩ := by
    rw [List.getElem?_append_left hj] at hk ⊢; exact hk
  obtain ⟨h'', m2, K⟩ := Q'.store j hk' (fun _ => rfl) hat hix (y' := v') (t := t) (x := sv v') 0 (vs := [sv v']) rfl hsz rfl rfl rfl rfl
  refine ⟨v', h', h'', m, m2, ?_⟩
  rw [List.set_append_left _ _ hj] at K
  exact K
theorem Heapy.drop {h0 h : AHeap} {l : List Slot} (H : Heapy h0 h l) : Heapy h0 h [] := H.less (List.nil_sublist _)
theorem Heapy.nilN {h0 h : AHeap} (H : Heapy h0 h []) (eo : TypeId) : Heapy h0 h ([⟨⟨none, 0, 0⟩, eo, 1, List.flatMap encH []⟩] ++ NIn el c enc [] []) := H.nil eo 1
theorem Heapy.callN {h0 h h' : AHeap} {l r N : List Slot} (H : Heapy h0 h l) (K : Heapy h h' (r ++ N)) : Heapy h0 h' ((r ++ l) ++ N) := by
  have := Heapy.call H K
  refine this.perm ?_
  rw [List.append_assoc, List.append_assoc]
  exact (List.Perm.refl r).append List.perm_append_comm
end
end Go.Proofs.Ytimeninncpmaeaa.Abs
