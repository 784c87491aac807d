/-
  Maps whose values are slices of the call's own, and whose keys are arrays or structs.
-/
import Derived.Test.YtimeninncpmaeaaVw
namespace Go.Proofs.Ytimeninncpmaeaa.Abs
open Go
set_option linter.unusedVariables false
set_option linter.unusedSimpArgs false

section
variable {K α : Type}
def MCells (q : K → Value) : List Hd → List (K × List α) → List Value
  | v :: hs, (k, _) :: r => q k :: sv v :: MCells q hs r
  | _, _ => []
/-- The slices that a map holds; nothing lies so where there are more handles than slices, or fewer. -/
def MIn (el : TypeId) (c : Nat) (enc : α → List Value) : List Hd → List (K × List α) → List Slot
  | v :: hs, (_, l) :: r => ⟨v, el, c, l.flatMap enc⟩ :: MIn el c enc hs r
  | [], [] => []
  | _, _ => [⟨⟨none, 1, 0⟩, 0, 0, []⟩]
variable {el : TypeId} {c : Nat} {enc : α → List Value} {q : K → Value}
theorem MIn.ok {h0 h : AHeap} : ∀ {hs : List Hd} {xs : List (K × List α)}, (∀ s ∈ MIn el c enc hs xs, s.ok h0 h) → hs.length = xs.length
  | [], [], _ => rfl
  | v :: hs, (k, l) :: r, H => by
    have := MIn.ok (hs := hs) (xs := r) fun s hs' => H s (by simp only [MIn]; exact List.mem_cons_of_mem _ hs')
    simp [this]
  | [], _ :: _, H => by
    rcases H ⟨⟨none, 1, 0⟩, 0, 0, []⟩ (by simp [MIn]) with ⟨k1, _⟩ | ⟨_, _, _, k1, _⟩
    · simp at k1
    · simp at k1
  | _ :: _, [], H => by
    rcases H ⟨⟨none, 1, 0⟩, 0, 0, []⟩ (by simp [MIn]) with ⟨k1, _⟩ | ⟨_, _, _, k1, _⟩
    · simp at k1
    · simp at k1
theorem Heapy.mlen {h0 h : AHeap} {A : List Slot} {hs : List Hd} {xs : List (K × List α)} (H : Heapy h0 h (A ++ MIn el c enc hs xs)) : hs.length = xs.length :=
  MIn.ok fun s hs => H.ok s (List.mem_append_right _ hs)
theorem MIn.len : ∀ {hs : List Hd} {xs : List (K × List α)}, hs.length = xs.length → (MIn el c enc hs xs).length = xs.length
  | [], [], _ => rfl
  | v :: hs, (k, l) :: r, h => by simp only [MIn, List.length_cons]; rw [MIn.len (by simpa using h)]
  | [], _ :: _, h => by cases h
  | _ :: _, [], h => by cases h
theorem MCells.len : ∀ {hs : List Hd} {xs : List (K × List α)}, hs.length = xs.length → (MCells q hs xs).length = 2 * xs.length
  | [], [], _ => rfl
  | v :: hs, (k, l) :: r, h => by simp only [MCells, List.length_cons]; rw [MCells.len (by simpa using h)]; omega
  | [], _ :: _, h => by cases h
  | _ :: _, [], h => by cases h
def mrow (id : Nat) (q : K → Value) (hs : List Hd) (xs : List (K × List α)) : Slot := ⟨⟨some ⟨id, 0, some 1⟩, 0, 0⟩, 0, 0, MCells q hs xs⟩
theorem Heapy.mnblk {h0 h : AHeap} {A : List Slot} {hs : List Hd} {xs : List (K × List α)} (H : Heapy h0 h (A ++ MIn el c enc hs xs)) (j : Nat) {id : Nat} (hk : (A ++ MIn el c enc hs xs)[j]? = some (mrow id q hs xs)) : h.get id = some ⟨MCells q hs xs, 1, false, 0⟩ := H.mblk j hk
end
theorem tail2_get {A N : List Slot} {i : Nat} {s : Slot} (h : N[i]? = some s) : (A ++ N)[A.length + i]? = some s := by
  rw [List.getElem?_append_right (by omega), Nat.add_sub_cancel_left, h]
theorem tail2_set {A N : List Slot} {i : Nat} {x : Slot} : (A ++ N).set (A.length + i) x = A ++ N.set i x := by
  rw [List.set_append_right _ _ (by omega), Nat.add_sub_cancel_left]
theorem Heapy.pickN2 {h0 h : AHeap} {A N : List Slot} (H : Heapy h0 h (A ++ N)) (n : Nat) (hA : A.length = n) (ks : List Nat) (hn : ks.Nodup) (hk : (ks.all fun k => Nat.blt k n) = true) : Heapy h0 h (ks.filterMap (A[·]?) ++ N) :=
  H.pickN ks hn fun k h => by rw [hA]; exact Nat.blt_eq ▸ List.all_eq_true.1 hk k h
theorem Heapy.head {h0 h : AHeap} {A N : List Slot} (H : Heapy h0 h (A ++ N)) : Heapy h0 h A := H.less (List.sublist_append_left A N)
section
variable {K α : Type} [DecidableEq K]
def hlook (a : K) : List Hd → List (K × List α) → Hd
  | v :: hs, (k, _) :: r => bif decide (k = a) then v else hlook a hs r
  | _, _ => ⟨none, 0, 0⟩
def mgetL (a : K) : List (K × List α) → List α
  | (k, l) :: r => bif decide (k = a) then l else mgetL a r
  | [] => []
def mens (a : K) : List (K × List α) → List (K × List α)
  | (k, l) :: r => bif decide (k = a) then (k, l) :: r else (k, l) :: mens a r
  | [] => [(a, [])]
def hens (a : K) : List Hd → List (K × List α) → List Hd
  | v :: hs, (k, _) :: r => bif decide (k = a) then v :: hs else v :: hens a hs r
  | hs, [] => hs ++ [⟨none, 0, 0⟩]
  | [], _ :: _ => []
def midx (a : K) : List (K × List α) → Nat
  | (k, _) :: r => bif decide (k = a) then 0 else midx a r + 1
  | [] => 0
/-- m[a] = append(m[a], ys..) -/
def mappL (a : K) (ys : List α) : List (K × List α) → List (K × List α)
  | (k, l) :: r => bif decide (k = a) then (k, l ++ ys) :: r else (k, l) :: mappL a ys r
  | [] => [(a, ys)]
variable {el : TypeId} {c : Nat} {enc : α → List Value} {q : K → Value}
theorem mens_len (a : K) : ∀ {xs : List (K × List α)}, midx a xs < (mens a xs).length
  | [] => by simp [midx, mens]
  | (k, l) :: r => by
    simp only [midx, mens]
    cases decide (k = a)
    · simpa using mens_len a
    · simp
theorem MIn.get (a : K) : ∀ {hs : List Hd} {xs : List (K × List α)}, hs.length = xs.length → midx a xs < xs.length → (MIn el c enc hs xs)[midx a xs]? = some ⟨hlook a hs xs, el, c, (mgetL a xs).flatMap enc⟩
  | [], [], _, h => by simp at h
  | v :: hs, (k, l) :: r, h, m => by
    simp only [MIn, midx, hlook, mgetL] at m ⊢
    revert m
    cases decide (k = a) <;> intro m
    · simp only [cond_false, List.getElem?_cons_succ, List.length_cons] at m ⊢
      exact MIn.get a (by simpa using h) (by omega)
    · rfl
  | [], _ :: _, h, _ => by cases h
  | _ :: _, [], h, _ => by cases h
theorem MIn.set (a : K) {v : Hd} (ys : List α) : ∀ {hs : List Hd} {xs : List (K × List α)}, hs.length = xs.length → midx a xs < xs.length →
    (MIn el c enc hs xs).set (midx a xs) ⟨v, el, c, (mgetL a xs ++ ys).flatMap enc⟩ = MIn el c enc (hs.set (midx a xs) v) (mappL a ys xs)
  | [], [], _, h => by simp at h
  | v' :: hs, (k, l) :: r, h, m => by
    simp only [MIn, midx, mappL, mgetL] at m ⊢
    revert m
    cases decide (k = a) <;> intro m
    · simp only [cond_false, List.set_cons_succ, List.length_cons, MIn] at m ⊢
      rw [MIn.set a ys (by simpa using h) (by omega)]
    · rfl
  | [], _ :: _, h, _ => by cases h
  | _ :: _, [], h, _ => by cases h
theorem MCells.set (a : K) {v : Hd} (ys : List α) : ∀ {hs : List Hd} {xs : List (K × List α)}, hs.length = xs.length → midx a xs < xs.length →
    (MCells q hs xs).set (2 * midx a xs + 1) (sv v) = MCells q (hs.set (midx a xs) v) (mappL a ys xs)
  | [], [], _, h => by simp at h
  | v' :: hs, (k, l) :: r, h, m => by
    simp only [MCells, midx, mappL] at m ⊢
    revert m
    cases decide (k = a) <;> intro m
    · simp only [cond_false, List.set_cons_succ, List.length_cons, MCells] at m ⊢
      show q k :: sv v' :: (MCells q hs r).set (2 * midx a r + 1) (sv v) = _
      rw [MCells.set a ys (by simpa using h) (by omega)]
    · rfl
  | [], _ :: _, h, _ => by cases h
  | _ :: _, [], h, _ => by cases h
theorem mgetL_mens (a : K) : ∀ {xs : List (K × List α)}, mgetL a (mens a xs) = mgetL a xs
  | [] => by simp [mgetL, mens]
  | (k, l) :: r => by
    simp only [mgetL, mens]
    cases h : decide (k = a)
    · simp only [cond_false, mgetL, h]; exact mgetL_mens a
    · simp only [cond_true, mgetL, h]
theorem midx_mens (a : K) : ∀ {xs : List (K × List α)}, midx a (mens a xs) = midx a xs
  | [] => by simp [midx, mens]
  | (k, l) :: r => by
    simp only [midx, mens]
    cases h : decide (k = a)
    · simp only [cond_false, midx, h]; rw [midx_mens a]
    · simp only [cond_true, midx, h]
theorem mappL_mens (a : K) (ys : List α) : ∀ {xs : List (K × List α)}, mappL a ys (mens a xs) = mappL a ys xs
  | [] => by simp [mappL, mens]
  | (k, l) :: r => by
    simp only [mappL, mens]
    cases h : decide (k = a)
    · simp only [cond_false, mappL, h]; rw [mappL_mens a]
    · simp only [cond_true, mappL, h]
theorem hens_len (a : K) : ∀ {hs : List Hd} {xs : List (K × List α)}, hs.length = xs.length → (hens a hs xs).length = (mens a xs).length
  | [], [], _ => rfl
  | v :: hs, (k, l) :: r, h => by
    simp only [hens, mens]
    cases decide (k = a)
    · simp only [cond_false, List.length_cons]; rw [hens_len a (by simpa using h)]
    · simpa using h
  | [], _ :: _, h => by cases h
  | _ :: _, [], h => by cases h
theorem MIn.ens (a : K) : ∀ {hs : List Hd} {xs : List (K × List α)}, hs.length = xs.length →
    MIn el c enc (hens a hs xs) (mens a xs) = MIn el c enc hs xs ∨ MIn el c enc (hens a hs xs) (mens a xs) = MIn el c enc hs xs ++ [⟨⟨none, 0, 0⟩, el, c, []⟩]
  | [], [], _ => .inr rfl
  | v :: hs, (k, l) :: r, h => by
    simp only [hens, mens]
    cases decide (k = a)
    · simp only [cond_false, MIn]
      rcases MIn.ens a (hs := hs) (xs := r) (by simpa using h) with e | e
      · exact .inl (by rw [e])
      · exact .inr (by rw [e]; rfl)
    · exact .inl rfl
  | [], _ :: _, h => by cases h
  | _ :: _, [], h => by cases h
theorem find_mcells {P : Program} {kt : TypeId} {a : K} (hE : ∀ b, pureRun P (Op.equal kt (q a) (q b)) = some (decide (b = a))) : ∀ {hs : List Hd} {xs : List (K × List α)}, hs.length = xs.length →
    (mFindA P kt (q a) (MCells q hs xs) = some none ∧ hlook a hs xs = ⟨none, 0, 0⟩) ∨ mFindA P kt (q a) (MCells q hs xs) = some (some (sv (hlook a hs xs)))
  | [], [], _ => .inl ⟨rfl, rfl⟩
  | v :: hs, (k, l) :: r, h => by
    simp only [MCells, mFindA, hE k, hlook]
    cases decide (k = a)
    · exact find_mcells hE (by simpa using h)
    · exact .inr rfl
  | [], _ :: _, h => by cases h
  | _ :: _, [], h => by cases h
theorem ent_mcells {P : Program} {kt : TypeId} {a : K} (hE : ∀ b, pureRun P (Op.equal kt (q a) (q b)) = some (decide (b = a))) (hB : Instr.sameBits 10000 (q a) (q a) = true) : ∀ {hs : List Hd} {xs : List (K × List α)} (i : Nat), hs.length = xs.length →
    mEntA P kt (q a) (.slice none 0 0) (MCells q hs xs) i = some (sv (hlook a (hens a hs xs) (mens a xs)), i + midx a xs, MCells q (hens a hs xs) (mens a xs))
  | [], [], i, _ => by simp [MCells, mEntA, hlook, hens, mens, midx, sv]
  | v :: hs, (k, l) :: r, i, h => by
    simp only [MCells, mEntA, hE k, hlook, hens, mens, midx]
    cases hk : decide (k = a)
    · simp only [cond_false, hlook, hk, MCells]
      rw [ent_mcells hE hB (i + 1) (by simpa using h)]
      simp only [Option.some.injEq, Prod.mk.injEq, true_and, and_true]
      omega
    · have := of_decide_eq_true hk
      subst this
      simp only [cond_true, hB, hlook, hk, MCells]
      rfl
  | [], _ :: _, _, h => by cases h
  | _ :: _, [], _, h => by cases h
/-- What a lookup gives reads as the slice that the map holds. -/
theorem Heapy.mnsle {h0 h : AHeap} {A : List Slot} {hs : List Hd} {xs : List (K × List α)} (H : Heapy h0 h (A ++ MIn el c enc hs xs)) (a : K) (he : ∀ x, (enc x).length = c) (hc : c ≠ 0) :
    SlE (fun _ cs x => cs = enc x) c h (sv (hlook a hs xs)) (mgetL a xs) := by
  have hl := H.mlen
  by_cases hm : midx a xs < xs.length
  · exact H.sle _ (tail2_get (MIn.get a hl hm)) he hc
  · have : ∀ {hs : List Hd} {xs : List (K × List α)}, hs.length = xs.length → ¬ midx a xs < xs.length → hlook a hs xs = ⟨none, 0, 0⟩ ∧ mgetL a xs = [] := by
      intro hs xs
      induction xs generalizing hs with
      | nil => intro h _; cases hs with
        | nil => exact ⟨rfl, rfl⟩
        | cons v r => cases h
      | cons p r ih =>
        intro h m
        obtain ⟨k, l⟩ := p
        cases hs with
        | nil => cases h
        | cons v hs =>
          simp only [midx, hlook, mgetL] at m ⊢
          cases hk : decide (k = a)
          · rw [hk] at m
            simp only [cond_false, List.length_cons] at m ⊢
            exact ih (by simpa using h) (by omega)
          · rw [hk] at m; simp at m
    obtain ⟨e1, e2⟩ := this hl hm
    rw [e1, e2]
    exact SlE.nil
theorem Heapy.mnlook {P : Program} {h0 h : AHeap} {A : List Slot} {hs : List Hd} {xs : List (K × List α)} (H : Heapy h0 h (A ++ MIn el c enc hs xs)) (j : Nat) {id : Nat} (hk : (A ++ MIn el c enc hs xs)[j]? = some (mrow id q hs xs))
    {t kt et : TypeId} {kd : TypeDesc} (ht : P.underlying t = some (.map kt et)) (hq : P.underlying kt = some kd) (hz : aZero P et = some (.slice none 0 0)) (a : K) (h1 : keyOk kd (q a) = false) (h2 : aggKey P kt (q a) = true) (hE : ∀ b, pureRun P (Op.equal kt (q a) (q b)) = some (decide (b = a))) :
    mrun P h (.ml t (.map (some id)) (q a) false) = some (sv (hlook a hs xs), h) := by
  have hb := H.mnblk j hk
  have hg : Nat.beq (ABlock.gen ⟨MCells q hs xs, 1, false, 0⟩) 1 = true := rfl
  simp only [mrun, aLookup, ht, hq, hz, keyAny, h1, h2, Bool.or_true, hb, beq_self, mFindK]
  rcases find_mcells (P := P) (kt := kt) (q := q) (a := a) hE H.mlen with ⟨e1, e2⟩ | e1
  · rw [e1]; simp only [e2, mRes]; rfl
  · rw [e1]; rfl
/-- m[a] op= ..: the entry is there. -/
theorem Heapy.mnent {P : Program} {h0 h : AHeap} {A : List Slot} {hs : List Hd} {xs : List (K × List α)} (H : Heapy h0 h (A ++ MIn el c enc hs xs)) (j : Nat) (hj : j < A.length) {id : Nat} (hk : (A ++ MIn el c enc hs xs)[j]? = some (mrow id q hs xs))
    {t kt et : TypeId} {kd : TypeDesc} (ht : P.underlying t = some (.map kt et)) (hq : P.underlying kt = some kd) (hz : aZero P et = some (.slice none 0 0)) (a : K) (h1 : keyOk kd (q a) = false) (h2 : aggKey P kt (q a) = true) (hE : ∀ b, pureRun P (Op.equal kt (q a) (q b)) = some (decide (b = a))) (hB : Instr.sameBits 10000 (q a) (q a) = true) :
    ∃ h' : AHeap, mrun P h (.me t (.map (some id)) (q a)) = some (.tuple #[sv (hlook a (hens a hs xs) (mens a xs)), .int .i64 (midx a (mens a xs) : Nat)], h') ∧
      Heapy h0 h' (A.set j (mrow id q (hens a hs xs) (mens a xs)) ++ MIn el c enc (hens a hs xs) (mens a xs)) := by
  rw [midx_mens]
  have hb := H.mnblk j hk
  have hl := H.mlen
  have he := ent_mcells (P := P) (kt := kt) (q := q) (a := a) hE hB (hs := hs) (xs := xs) 0 hl
  rw [Nat.zero_add] at he
  refine ⟨h.set id ⟨MCells q (hens a hs xs) (mens a xs) ++ [], 1, false, 0⟩, ?_, ?_⟩
  · simp only [mrun, aEntry, ht, hq, hz, keyAny, h1, h2, Bool.or_true, hb, beq_self, mEntK, he, Bool.true_and, List.append_nil]
    rfl
  · have S := H.set hk (s := mrow id q hs xs) rfl (cells := MCells q (hens a hs xs) (mens a xs)) [] (g' := 1) (n' := 0) (fun h => absurd rfl h) (fun _ => rfl)
    have e1 : (A ++ MIn el c enc hs xs).set j ⟨⟨some ⟨id, 0, some 1⟩, 0, 0⟩, 0, 0, MCells q (hens a hs xs) (mens a xs)⟩ = A.set j (mrow id q (hens a hs xs) (mens a xs)) ++ MIn el c enc hs xs := by
      rw [List.set_append_left _ _ hj]; rfl
    have S' := S
    rw [show (mrow id q hs xs).c = 0 from rfl, show (mrow id q hs xs).el = 0 from rfl] at S'
    rw [e1] at S'
    rcases MIn.ens (el := el) (c := c) (enc := enc) a hl with e | e
    · rw [e]; exact S'
    · rw [e, ← List.append_assoc]
      exact (Heapy.nil S' el c).perm (List.perm_append_comm (l₁ := [_]) (l₂ := _))
theorem Heapy.mnapp {P : Program} {h0 h : AHeap} {A : List Slot} {hs : List Hd} {xs : List (K × List α)} (H : Heapy h0 h (A ++ MIn el c enc hs xs)) (j : Nat) (hj : j < A.length) {id : Nat} (hk : (A ++ MIn el c enc hs xs)[j]? = some (mrow id q hs xs)) (a : K) (hm : midx a xs < xs.length)
    {t : TypeId} {B : Nat} {z : List Value} (hi : mkInfo P t = some (el, c, B, z)) {Y : Value} {ys : List α} (hs' : srcH h c Y = some (ys.flatMap enc, ys.length)) (he : ∀ x, (enc x).length = c) (hc : c ≠ 0) (hok : okApp ((mgetL a xs).length + ys.length) B = true) :
    ∃ (v' : Hd) (h' h'' : AHeap), mrun P h (.ap t (sv (hlook a hs xs)) Y) = some (sv v', h') ∧ mrun P h' (.es (.map (some id)) (.int .i64 (midx a xs : Nat)) (sv v')) = some (undef, h'') ∧
      Heapy h0 h'' (A.set j (mrow id q (hs.set (midx a xs) v') (mappL a ys xs)) ++ MIn el c enc (hs.set (midx a xs) v') (mappL a ys xs)) := by
  have hl := H.mlen
  have hg := tail2_get (A := A) (MIn.get (el := el) (c := c) (enc := enc) a hl hm)
  have hn : (hlook a hs xs).n = (mgetL a xs).length := H.vn _ hg he hc
  obtain ⟨v', h', m, Q, _, _⟩ := H.append hi _ hg hs' (flatMap_length he ys) (by rw [hn]; exact hok)
  have Q' : Heapy h0 h' (A ++ MIn el c enc (hs.set (midx a xs) v') (mappL a ys xs)) := by
    rw [← List.flatMap_append, tail2_set, MIn.set a ys hl hm] at Q
    exact Q
  have hk' : (A ++ MIn el c enc (hs.set (midx a xs) v') (mappL a ys xs))[j]? = some (mrow id q hs xs) := by
    rw [List.getElem?_append_left hj] at hk ⊢; exact hk
  have hb : h'.get id = some ⟨MCells q hs xs, 1, false, 0⟩ := Q'.mblk j hk'
  refine ⟨v', h', h'.set id ⟨MCells q (hs.set (midx a xs) v') (mappL a ys xs) ++ [], 1, false, 0⟩, m, ?_, ?_⟩
  · have hcl : (MCells q hs xs).length = 2 * xs.length := MCells.len hl
    have hcc : 2 * midx a xs + 1 < (MCells q hs xs).length := by omega
    have o1 : okPart (sv v') = true := rfl
    have o2 : (sv v').oneCell' = true := rfl
    simp only [mrun, aEntrySt, hb, beq_self, Int.toNat_natCast, hcc, o1, o2, Bool.and_true, Bool.true_and, decide_true, MCells.set (q := q) a ys hl hm, List.append_nil]
    simp
  · have S := Q'.set hk' (s := mrow id q hs xs) rfl (cells := MCells q (hs.set (midx a xs) v') (mappL a ys xs)) [] (g' := 1) (n' := 0) (fun h => absurd rfl h) (fun _ => rfl)
    rw [List.set_append_left _ _ hj] at S
    exact S
end
/-- Keys that are arrays of two numbers. -/
def q2 (k : IntKind) (x : Int × Int) : Value := .agg #[.int k x.1, .int k x.2]
theorem q2_eq {P : Program} {kt : TypeId} {k : IntKind} (h : ∀ a b : Int × Int, aggEq P kt #[.int k a.1, .int k a.2] #[.int k b.1, .int k b.2] = some (a.1 == b.1 && (a.2 == b.2 && true))) (a b : Int × Int) : pureRun P (Op.equal kt (q2 k a) (q2 k b)) = some (decide (b = a)) := by
  rw [show q2 k a = .agg #[.int k a.1, .int k a.2] from rfl, show q2 k b = .agg #[.int k b.1, .int k b.2] from rfl, (aggEq_sound (h a b)).1]
  congr 1
  obtain ⟨a1, a2⟩ := a
  obtain ⟨b1, b2⟩ := b
  simp only [Bool.and_true, Prod.mk.injEq]
  rw [Bool.eq_iff_iff]
  simp only [Bool.and_eq_true, beq_iff_eq, decide_eq_true_eq]
  constructor
  · rintro ⟨h1, h2⟩; exact ⟨h1.symm, h2.symm⟩
  · rintro ⟨h1, h2⟩; exact ⟨h1.symm, h2.symm⟩
theorem q2_bits {k : IntKind} (a : Int × Int) : Instr.sameBits 10000 (q2 k a) (q2 k a) = true := by
  show Instr.sameBits (9999 + 1) (.agg #[.int k a.1, .int k a.2]) (.agg #[.int k a.1, .int k a.2]) = true
  have : ∀ n m (x : Int), Instr.sameBits n (.int m x) (.int m x) = true := by intro n m x; cases n <;> simp [Instr.sameBits]
  rw [Instr.sameBits]
  simp [this]
end Go.Proofs.Ytimeninncpmaeaa.Abs
