/- The form of functions of layer 8, as its reference says it: it always has an answer, and what the answer true means for terminators. -/
import Derived.Test.YtepcpjnhhpjacaaVw
import Derived.Test.YtepcpjnhhpjacaaId
namespace Go.Proofs.Ytepcpjnhhpjacaa.Abs
open Go
set_option linter.unusedVariables false
set_option linter.unusedSimpArgs false
set_option maxHeartbeats 1000000

abbrev TArr := ByteArray × Int × Int × Int × Int
abbrev TStr := ByteArray × Int × Bool
abbrev TInst := Int × Int × (List Int) × Int × Int
abbrev TEdge := Int × (List Int)
abbrev TBlk := (List Int) × (List TInst) × Int × Int × (List TEdge) × (List Int) × Int × Int × Int
abbrev Any {α : Type} : α → Prop := fun _ => True

/-- The values that instructions define, those of a block, of a function. -/
def defsI (l : List TInst) : List Int := l.flatMap fun x => if 0 ≤ x.2.1 then [x.2.1] else []
def defsB (y : TBlk) : List Int := y.1 ++ defsI y.2.1
def defsF (l : List TBlk) : List Int := l.flatMap defsB
def DefsOK (n : Nat) (df : List Bool) (D : List Int) : Prop := df.length = n ∧ D.Nodup ∧ (∀ v ∈ D, 0 ≤ v ∧ v < n) ∧ ∀ v : Int, 0 ≤ v → v < n → (df[v.toNat]? = some true ↔ v ∈ D)
theorem DefsOK.step {n : Nat} {df : List Bool} {D : List Int} {v : Int} (h : DefsOK n df D) (h0 : 0 ≤ v) (h1 : v < n) (hf : df[v.toNat]? = some false) : DefsOK n (setI df v true) (D ++ [v]) := by
  obtain ⟨a, b, c, d⟩ := h
  have hn : v ∉ D := fun hv => by rw [(d v h0 h1).2 hv] at hf; cases hf
  refine ⟨by simp only [setI, List.length_set]; exact a, ?_, ?_, ?_⟩
  · rw [List.nodup_append]
    refine ⟨b, by simp, ?_⟩
    intro x hx y hy e
    rw [List.mem_singleton.1 hy] at e
    exact hn (e ▸ hx)
  · intro x hx
    rcases List.mem_append.1 hx with q | q
    · exact c x q
    · rw [List.mem_singleton.1 q]; exact ⟨h0, h1⟩
  · intro x x0 x1
    unfold setI
    rw [List.getElem?_set, List.mem_append, List.mem_singleton]
    by_cases e : v = x
    · subst e
      rw [if_pos rfl, if_pos (by omega)]
      exact ⟨fun _ => .inr rfl, fun _ => rfl⟩
    · rw [if_neg (by omega), d x x0 x1]
      exact ⟨.inl, fun q => q.resolve_right fun k => e k.symm⟩
theorem take_step {β : Type} {l : List β} {i : Nat} {y : β} (h : l[i]? = some y) : l.take (i + 1) = l.take i ++ [y] := by
  rw [List.take_add_one, h]; rfl
theorem defsI_app (a : List TInst) (x : TInst) : defsI (a ++ [x]) = defsI a ++ (if 0 ≤ x.2.1 then [x.2.1] else []) := by
  unfold defsI; rw [List.flatMap_append]; simp
theorem defsF_app (a : List TBlk) (y : TBlk) : defsF (a ++ [y]) = defsF a ++ defsB y := by
  unfold defsF; rw [List.flatMap_append]; simp
theorem bytesL_len (x : ByteArray) : (bytesL x).length = x.size := by simp [bytesL]
theorem digit_any (a b : Int) : Yields Any (F71 a b) := by
  unfold F71
  refine Yields.bind (P := Any) ?_ fun y _ => Yields.bind (P := Any) ?_ fun z _ => ?_
  · unfold F71_s1
    repeat (first | exact Yields.some trivial | refine Yields.bif (fun _ => ?_) (fun _ => ?_))
  · unfold F71_s2
    repeat (first | exact Yields.some trivial | refine Yields.bif (fun _ => ?_) (fun _ => ?_))
  · repeat (first | exact Yields.some trivial | refine Yields.bif (fun _ => ?_) (fun _ => ?_))
theorem ident_any (x : ByteArray) (h : x.size ≤ maxLen) : Yields Any (F40 x) := by
  unfold F40
  refine Yields.bind (P := Any) (Yields.loop x.size (fun (i : Nat) z => z = (i : Int)) rfl ?_) fun y _ => ?_
  · rintro i z hi rfl
    unfold F40_s1
    refine Yields.bif (fun hc => ?_) (fun _ => Yields.some trivial)
    have hc := of_decide_eq_true hc
    have hl : (i : Int) < (bytesL x).length := by rw [bytesL_len]; exact hc
    have next : IntKind.i64.wrap ((i : Int) + 1) = ((i + 1 : Nat) : Int) := wrap_succ (by omega) h
    refine Yields.at (by omega) hl fun y _ _ => Yields.bif (fun _ => Yields.bif (fun _ => Yields.some trivial) (fun _ => ?_)) (fun _ => Yields.some ⟨by omega, next⟩)
    refine Yields.at (by omega) hl fun y' _ _ => Yields.bind (digit_any _ _) fun d _ => Yields.bif (fun _ => Yields.some trivial) (fun _ => Yields.some ⟨by omega, next⟩)
  · repeat (first | exact Yields.some trivial | refine Yields.bif (fun _ => ?_) (fun _ => ?_))
theorem widths_any (l : List Int) (m : Int) (h : l.length ≤ maxLen) : Yields Any (F42 l m) := by
  unfold F42
  refine Yields.bind (P := Any) (Yields.loop l.length (fun (i : Nat) z => z = (i : Int)) rfl ?_) fun y _ => ?_
  · rintro i z hi rfl
    unfold F42_s1
    refine Yields.bif (fun hc => ?_) (fun _ => Yields.some trivial)
    have hc := of_decide_eq_true hc
    exact Yields.at (by omega) hc fun y _ _ => Yields.bif (fun _ => Yields.some trivial) (fun _ => Yields.some ⟨by omega, wrap_succ (by omega) h⟩)
  · repeat (first | exact Yields.some trivial | refine Yields.bif (fun _ => ?_) (fun _ => ?_))

section
variable (x1 : ByteArray) (l2 : List Int) (l3 : List TArr) (l4 : List TStr) (l5 : List Int) (l6 : List TBlk)

theorem mems_any (h3 : l3.length * 48 ≤ reachBytes) (h4 : l4.length * 32 ≤ reachBytes) (w3 : ∀ y ∈ l3, W102 y) (w4 : ∀ y ∈ l4, W104 y) : Yields Any (F41 x1 l2 l3 l4 l5 l6) := by
  have hr : reachBytes = 140737488351232 := rfl
  have hm : maxLen = 9223372036854775807 := rfl
  unfold F41
  refine Yields.bind (P := fun r : Nat × List ByteArray => r.2.length ≤ l3.length ∧ ∀ b ∈ r.2, b.size ≤ maxLen) (Yields.loop l3.length (fun (i : Nat) z => z.1 = (i : Int) ∧ z.2.length = i ∧ ∀ b ∈ z.2, b.size ≤ maxLen) ⟨rfl, rfl, fun b h => by cases h⟩ ?_) ?_
  · rintro i ⟨a, l⟩ hi ⟨h1, h2, hb⟩
    simp only at h1 h2 hb
    subst h1
    unfold F41_s3
    refine Yields.bif (fun hc => ?_) (fun _ => Yields.some ⟨by simp only; omega, hb⟩)
    have hc := of_decide_eq_true hc
    simp only at hc ⊢
    refine Yields.at (by omega) hc fun y _ hy => ?_
    have zero : ((0, []) : Nat × List ByteArray).2.length ≤ l3.length ∧ ∀ b ∈ ((0, []) : Nat × List ByteArray).2, b.size ≤ maxLen := ⟨Nat.zero_le _, fun b h => by cases h⟩
    have next : i + 1 ≤ l3.length ∧ IntKind.i64.wrap ((i : Int) + 1) = ((i + 1 : Nat) : Int) ∧ (l ++ [y.1]).length = i + 1 ∧ ∀ b ∈ l ++ [y.1], b.size ≤ maxLen := by
      refine ⟨by omega, wrap_succ (n := l3.length) (by omega) (by omega), by simp; omega, ?_⟩
      intro b hb'
      rcases List.mem_append.1 hb' with q | q
      · exact hb b q
      · rw [List.mem_singleton.1 q]; exact (w3 y hy).1
    have ok : okApp (l.length + ([y.1] : List ByteArray).length) 16 = true := ok_app (by simp only [List.length_singleton]; omega) (by simp only [List.length_singleton]; omega)
    rw [ok]
    simp only [Bool.not_true, cond_false]
    generalize l ++ [y.1] = l' at *
    refine Yields.bif (fun _ => Yields.some zero) fun _ => Yields.bif (fun _ => Yields.some zero) fun _ => Yields.bif (fun _ => Yields.some zero) fun _ => Yields.bind (P := Any) ?_ fun q _ => ?_
    · unfold F41_s1
      repeat (first | exact Yields.some trivial | refine Yields.bif (fun _ => ?_) (fun _ => ?_))
    refine Yields.bif (fun _ => ?_) (fun _ => Yields.bind (P := Any) ?_ fun q _ => ?_)
    · repeat (first | exact Yields.some zero | exact Yields.some next | refine Yields.bif (fun _ => ?_) (fun _ => ?_))
    · unfold F41_s2
      repeat (first | exact Yields.some trivial | refine Yields.bif (fun _ => ?_) (fun _ => ?_))
    · repeat (first | exact Yields.some zero | exact Yields.some next | refine Yields.bif (fun _ => ?_) (fun _ => ?_))
  rintro ⟨c, ns⟩ ⟨hn, hb⟩
  simp only at hn hb
  refine Yields.bif (fun _ => Yields.some trivial) fun _ => ?_
  refine Yields.bind (P := fun r : Nat × List ByteArray => r.2.length ≤ l3.length + l4.length ∧ ∀ b ∈ r.2, b.size ≤ maxLen) (Yields.loop l4.length (fun (i : Nat) z => z.1 = (i : Int) ∧ z.2.length = ns.length + i ∧ ∀ b ∈ z.2, b.size ≤ maxLen) ⟨rfl, rfl, hb⟩ ?_) ?_
  · rintro i ⟨a, l⟩ hi ⟨h1, h2, hb⟩
    simp only at h1 h2 hb
    subst h1
    unfold F41_s4
    refine Yields.bif (fun hc => ?_) (fun _ => Yields.some ⟨by simp only; omega, hb⟩)
    have hc := of_decide_eq_true hc
    simp only at hc ⊢
    refine Yields.at (by omega) hc fun y _ hy => ?_
    have zero : ((0, []) : Nat × List ByteArray).2.length ≤ l3.length + l4.length ∧ ∀ b ∈ ((0, []) : Nat × List ByteArray).2, b.size ≤ maxLen := ⟨Nat.zero_le _, fun b h => by cases h⟩
    have next : i + 1 ≤ l4.length ∧ IntKind.i64.wrap ((i : Int) + 1) = ((i + 1 : Nat) : Int) ∧ (l ++ [y.1]).length = ns.length + (i + 1) ∧ ∀ b ∈ l ++ [y.1], b.size ≤ maxLen := by
      refine ⟨by omega, wrap_succ (n := l4.length) (by omega) (by omega), by simp; omega, ?_⟩
      intro b hb'
      rcases List.mem_append.1 hb' with q | q
      · exact hb b q
      · rw [List.mem_singleton.1 q]; exact (w4 y hy).1
    have ok : okApp (l.length + ([y.1] : List ByteArray).length) 16 = true := ok_app (by simp only [List.length_singleton]; omega) (by simp only [List.length_singleton]; omega)
    rw [ok]
    simp only [Bool.not_true, cond_false]
    exact Yields.bif (fun _ => Yields.some zero) fun _ => Yields.some next
  rintro ⟨c, ms⟩ ⟨hn2, hb2⟩
  simp only at hn2 hb2
  refine Yields.bif (fun _ => Yields.some trivial) fun _ => ?_
  have hms : ms.length ≤ maxLen := by omega
  refine Yields.bind (P := Any) (Yields.loop ms.length (fun (i : Nat) z => z = (i : Int)) rfl ?_) fun y _ => ?_
  · rintro i z hi rfl
    unfold F41_s6
    refine Yields.bif (fun hc => ?_) (fun _ => Yields.some trivial)
    have hc := of_decide_eq_true hc
    simp only at hc ⊢
    refine Yields.at (by omega) hc fun y _ hy => Yields.bind (ident_any y (hb2 y hy)) fun r _ => Yields.bif (fun _ => Yields.some trivial) fun _ => ?_
    refine Yields.bind (P := Any) (Yields.loop i (fun (j : Nat) z => z = (j : Int)) rfl ?_) fun t _ => Yields.bif (fun _ => Yields.some trivial) fun _ => Yields.some ⟨by omega, wrap_succ (n := ms.length) (by omega) hms⟩
    rintro j z hj rfl
    unfold F41_s5
    refine Yields.bif (fun hq => ?_) (fun _ => Yields.some trivial)
    have hq := of_decide_eq_true hq
    exact Yields.at (by omega) (by simp only; omega) fun y _ _ => Yields.bif (fun _ => Yields.some trivial) fun _ => Yields.some ⟨by omega, wrap_succ (n := ms.length) (by omega) hms⟩
  · repeat (first | exact Yields.some trivial | refine Yields.bif (fun _ => ?_) (fun _ => ?_))

theorem within_iff (v : Int) : F43 x1 l2 l3 l4 l5 l6 v = true ↔ 0 ≤ v ∧ v < l2.length := by
  unfold F43
  rw [Bool.cond_eq_ite]
  constructor
  · intro h
    split at h
    · rename_i a; exact ⟨of_decide_eq_true a, of_decide_eq_true h⟩
    · cases h
  · rintro ⟨a, b⟩
    rw [if_pos (decide_eq_true a)]; exact decide_eq_true b
theorem used_any (l7 : List Int) (l8 : List Bool) (h7 : l7.length ≤ maxLen) (h8 : l8.length = l2.length) : Yields (fun r => r = true → ∀ v ∈ l7, 0 ≤ v ∧ v < l2.length) (F45 x1 l2 l3 l4 l5 l6 l7 l8) := by
  unfold F45
  refine Yields.bind (P := fun r => r = 0 ∨ r = 1 ∧ ∀ v ∈ l7, 0 ≤ v ∧ v < l2.length) (Yields.loop l7.length (fun (i : Nat) z => z = (i : Int) ∧ ∀ k v, k < i → l7[k]? = some v → 0 ≤ v ∧ v < l2.length) ⟨rfl, fun k v h => absurd h (by omega)⟩ ?_) ?_
  · rintro i z hi ⟨rfl, hk⟩
    unfold F45_s1
    refine Yields.bif (fun hc => ?_) (fun hc => Yields.some (.inr ⟨rfl, ?_⟩))
    · have hc := of_decide_eq_true hc
      refine Yields.at (by omega) hc fun y hy _ => Yields.bif (fun _ => Yields.some (.inl rfl)) fun q => ?_
      have q : F43 x1 l2 l3 l4 l5 l6 y = true := by simpa using q
      have q := (within_iff x1 l2 l3 l4 l5 l6 y).1 q
      refine Yields.at q.1 (by omega) fun b _ _ => Yields.bif (fun _ => Yields.some (.inl rfl)) fun _ => Yields.some ⟨by omega, wrap_succ (by omega) h7, ?_⟩
      intro k v hkl hv
      by_cases e : k = i
      · subst e
        rw [Int.toNat_natCast] at hy
        rw [hy] at hv; cases hv; exact q
      · exact hk k v (by omega) hv
    · have hc := of_decide_eq_false hc
      intro v hv
      obtain ⟨k, hk1, hk2⟩ := List.getElem_of_mem hv
      exact hk k v (by omega) (by rw [List.getElem?_eq_getElem hk1, hk2])
  · rintro r (rfl | ⟨rfl, h⟩)
    · exact Yields.some (fun h => by cases h)
    · exact Yields.some fun _ => h
theorem fit_any (w n : Int) : Yields Any (F74 w n) := by
  unfold F74
  have hb : F117 w ≤ 64 ∧ 0 ≤ F117 w := by unfold F117; repeat' split <;> omega
  obtain ⟨m, hm⟩ : ∃ m : Nat, F117 w = m := ⟨(F117 w).toNat, by omega⟩
  refine Yields.bind (P := fun l : List Int => l.length ≤ 64) ?_ fun l hl => ?_
  · unfold F94
    refine Yields.bind (P := fun l : List Int => l.length ≤ 64) (Yields.loop m (fun (i : Nat) z => z.2.1 = (i : Int) ∧ z.2.2.length = i) ⟨rfl, rfl⟩ ?_) fun l hl => Yields.some hl
    rintro i ⟨a, b, l⟩ hi ⟨h1, h2⟩
    simp only at h1 h2
    subst h1
    unfold F94_s1
    simp only
    refine Yields.bif (fun hc => ?_) (fun _ => Yields.some (show l.length ≤ 64 by omega))
    have hc := of_decide_eq_true hc
    rw [ok_app (by simp only [List.length_singleton]; omega) (by simp only [List.length_singleton]; omega)]
    simp only [Bool.not_true, cond_false]
    exact Yields.some ⟨by omega, show IntKind.i64.wrap ((i : Int) + 1) = ((i + 1 : Nat) : Int) by rw [wrap_i64] <;> omega, by simp; omega⟩
  · refine Yields.bind (P := Any) ?_ fun _ _ => Yields.some trivial
    unfold F93
    rw [show IntKind.i64.wrap ((l.length : Int) - 1) = (l.length : Int) - 1 by rw [wrap_i64] <;> omega]
    refine Yields.bind (P := Any) (Yields.loop l.length (fun (i : Nat) z => z.2 = (l.length : Int) - 1 - (i : Int)) (by simp) ?_) fun _ _ => Yields.some trivial
    rintro i ⟨a, b⟩ hi h1
    simp only at h1
    subst h1
    unfold F93_s1
    simp only
    refine Yields.bif (fun hc => ?_) (fun _ => Yields.some trivial)
    have hc := of_decide_eq_true hc
    exact Yields.at hc (by omega) fun y _ _ => Yields.some ⟨by omega, by rw [wrap_i64] <;> omega⟩
theorem arity_le (x : Int) : F44 x ≤ 3 := by
  unfold F44
  simp only [Bool.cond_eq_ite]
  repeat' split
  all_goals decide
theorem inst_any (x7 x8 : Int) (l9 : List Int) (x10 x11 : Int) (ha : F44 x7 = l9.length) (hu : ∀ v ∈ l9, 0 ≤ v ∧ v < l2.length) (hd : F46 x7 = true → 0 ≤ x8 ∧ x8 < l2.length) : Yields Any (F47 x1 l2 l3 l4 l5 l6 x7 x8 l9 x10 x11) := by
  have h9 : l9.length ≤ 3 := by have := arity_le x7; omega
  unfold F47
  refine Yields.bind (P := Any) ?_ fun a _ => Yields.bif (fun _ => Yields.some trivial) fun _ => Yields.bind (P := Any) ?_ fun b _ => Yields.bind (P := Any) ?_ fun c _ => Yields.bif (fun _ => Yields.some trivial) fun _ => Yields.bind (P := Any) ?_ fun w _ => ?_
  · unfold F47_s1
    repeat (first | exact Yields.some trivial | refine Yields.bif (fun _ => ?_) (fun _ => ?_))
  · unfold F47_s2
    repeat (first | exact Yields.some trivial | refine Yields.bif (fun _ => ?_) (fun _ => ?_))
  · unfold F47_s3
    repeat (first | exact Yields.some trivial | refine Yields.bif (fun _ => ?_) (fun _ => ?_))
  · unfold F47_s4
    refine Yields.bif (fun h => ?_) fun _ => Yields.some trivial
    exact Yields.at (hd h).1 (hd h).2 fun _ _ _ => Yields.some trivial
  refine Yields.bind (P := fun l : List Int => l.length = 3) (Yields.loop l9.length (fun (i : Nat) z => z.1 = (i : Int) ∧ z.2.length = 3) ⟨rfl, rfl⟩ ?_) fun l hl => ?_
  · rintro i ⟨a, l⟩ hi ⟨h1, h2⟩
    simp only at h1 h2
    subst h1
    unfold F47_s5
    simp only
    refine Yields.bif (fun hc => ?_) fun _ => Yields.some h2
    have hc := of_decide_eq_true hc
    refine Yields.at (by omega) hc fun y _ hy => Yields.at (hu y hy).1 (hu y hy).2 fun _ _ _ => Yields.at (by omega) (by omega) fun _ _ _ => Yields.some ⟨by omega, wrap_succ (n := 3) (by omega) (by decide), ?_⟩
    simp only [setI, List.length_set]; exact h2
  refine Yields.bind (P := Any) ?_ fun m _ => ?_
  · unfold F47_s7
    refine Yields.bind (P := Any) ?_ fun q _ => ?_
    · unfold F47_s6
      repeat (first | exact Yields.some trivial | refine Yields.bif (fun _ => ?_) (fun _ => ?_))
    refine Yields.bif (fun _ => Yields.bif (fun _ => Yields.some trivial) fun h0 => Yields.bif (fun _ => Yields.some trivial) fun h1 => ?_) (fun _ => Yields.bif (fun _ => Yields.bif (fun _ => Yields.some trivial) fun h0 => Yields.bif (fun _ => Yields.some trivial) fun h1 => ?_) fun _ => Yields.some trivial)
    · have h0 := of_decide_eq_false h0; have h1 := of_decide_eq_false h1
      exact Yields.at (by omega) (by omega) fun _ _ _ => Yields.some trivial
    · have h0 := of_decide_eq_false h0; have h1 := of_decide_eq_false h1
      exact Yields.at (by omega) (by omega) fun _ _ _ => Yields.bif (fun _ => Yields.some trivial) fun _ => Yields.some trivial
  have s8 : Yields Any (F47_s8 x7) := by
    unfold F47_s8
    repeat (first | exact Yields.some trivial | refine Yields.bif (fun _ => ?_) (fun _ => ?_))
  repeat (first
    | exact Yields.some trivial
    | refine Yields.bif (fun _ => ?_) (fun _ => ?_)
    | refine Yields.at (by decide) (by rw [hl]; decide) fun _ _ _ => ?_
    | refine Yields.bind (fit_any _ _) fun _ _ => ?_
    | refine Yields.bind s8 fun _ _ => ?_)

theorem edge_any (x7 : Int) (l8 : List Int) (l9 : List Bool) (h8 : l8.length ≤ maxLen) (h9 : l9.length = l2.length) (hw : ∀ y ∈ l6, W35 y) : Yields Any (F76 x1 l2 l3 l4 l5 l6 x7 l8 l9) := by
  unfold F76
  refine Yields.bif (fun _ => Yields.some trivial) fun h0 => Yields.bif (fun _ => Yields.some trivial) fun h1 => ?_
  have h0 := of_decide_eq_false h0; have h1 := of_decide_eq_false h1
  refine Yields.bind (used_any x1 l2 l3 l4 l5 l6 l8 l9 h8 h9) fun r hr => Yields.bif (fun _ => Yields.some trivial) fun q => ?_
  have hu := hr (by simpa using q)
  refine Yields.at (by omega) (by omega) fun y _ hy => Yields.bif (fun _ => Yields.some trivial) fun he => ?_
  have he := bne_eq_false_iff_eq.1 he
  have hy1 := (hw y hy).1.1.1
  refine Yields.bind (P := Any) (Yields.loop y.1.length (fun (i : Nat) z => z = (i : Int)) rfl ?_) fun t _ => Yields.bif (fun _ => Yields.some trivial) fun _ => Yields.some trivial
  rintro i z hi rfl
  unfold F76_s1
  refine Yields.bif (fun hc => ?_) fun _ => Yields.some trivial
  have hc := of_decide_eq_true hc
  refine Yields.at (by omega) hc fun v _ _ => Yields.bif (fun _ => Yields.some trivial) fun q => ?_
  have q := (within_iff x1 l2 l3 l4 l5 l6 v).1 (by simpa using q)
  refine Yields.at q.1 q.2 fun _ _ _ => Yields.at (by omega) (by omega) fun v' _ hv' => Yields.at (hu v' hv').1 (hu v' hv').2 fun _ _ _ => Yields.bif (fun _ => Yields.some trivial) fun _ => Yields.some ⟨by omega, wrap_succ (by omega) hy1⟩
theorem term_any (x7 x8 : Int) (l9 : List TEdge) (l10 : List Int) (l11 : List Bool) (h9 : l9.length ≤ maxLen) (w9 : ∀ y ∈ l9, W95 y) (h10 : l10.length ≤ maxLen) (h11 : l11.length = l2.length) (hw : ∀ y ∈ l6, W35 y) :
    Yields (fun r => r = true → x7 = 2 → l9.length = 2) (F48 x1 l2 l3 l4 l5 l6 x7 x8 l9 l10 l11) := by
  unfold F48
  refine Yields.bind (P := fun r : Nat × Int => r.1 = 0 → x7 = 2 → r.2 = 2) ?_ fun r hr => ?_
  · unfold F48_s2
    refine Yields.bif (fun h => Yields.some fun _ e => ?_) fun _ => Yields.bif (fun h => Yields.some fun _ e => rfl) fun h2 => ?_
    · have := beq_iff_eq.1 h; omega
    have h2 := beq_eq_false_iff_ne.1 h2
    refine Yields.bif (fun _ => Yields.bif (fun _ => Yields.some fun _ e => absurd e h2) fun hl => ?_) fun _ => Yields.some fun _ e => absurd e h2
    have hl := bne_eq_false_iff_eq.1 hl
    refine Yields.bind (used_any x1 l2 l3 l4 l5 l6 l10 l11 h10 h11) fun r hr => Yields.bif (fun _ => Yields.some fun _ e => absurd e h2) fun q => ?_
    have hu := hr (by simpa using q)
    refine Yields.bind (P := Any) (Yields.loop l10.length (fun (i : Nat) z => z = (i : Int)) rfl ?_) fun t _ => Yields.bif (fun _ => Yields.some fun _ e => absurd e h2) fun _ => Yields.some fun _ e => absurd e h2
    rintro i z hi rfl
    unfold F48_s1
    refine Yields.bif (fun hc => ?_) fun _ => Yields.some trivial
    have hc := of_decide_eq_true hc
    refine Yields.at (by omega) hc fun v _ hv => Yields.at (hu v hv).1 (hu v hv).2 fun _ _ _ => Yields.at (by omega) (by omega) fun _ _ _ => Yields.bif (fun _ => Yields.some trivial) fun _ => Yields.some ⟨by omega, wrap_succ (by omega) h10⟩
  refine Yields.bif (fun e0 => ?_) fun _ => Yields.some fun h => by cases h
  have e0 : r.1 = 0 := Nat.eq_of_beq_eq_true e0
  refine Yields.bind (P := fun t => t ≠ 0 → (l9.length : Int) = r.2) ?_ fun t ht => Yields.bif (fun _ => Yields.some fun h => by cases h) fun ht0 => ?_
  · unfold F48_s3
    refine Yields.bif (fun _ => Yields.some fun h => absurd rfl h) fun h => ?_
    have h := bne_eq_false_iff_eq.1 h
    repeat (first | exact Yields.some (fun _ => h) | refine Yields.bif (fun _ => ?_) (fun _ => ?_))
  have ht0 : t ≠ 0 := fun e => by subst e; cases ht0
  have hlen : x7 = 2 → l9.length = 2 := fun e => by have := ht ht0; have := hr e0 e; omega
  refine Yields.bind (P := Any) ?_ fun u _ => Yields.bif (fun _ => Yields.some fun h => by cases h) fun _ => ?_
  · unfold F48_s4
    refine Yields.bif (fun _ => ?_) fun _ => Yields.bif (fun _ => Yields.some trivial) fun _ => Yields.some trivial
    refine Yields.bind (used_any x1 l2 l3 l4 l5 l6 [x8] l11 (by unfold maxLen; simp) h11) fun r hr => Yields.bif (fun _ => Yields.some trivial) fun q => ?_
    have hu := hr (by simpa using q) x8 (List.mem_singleton.2 rfl)
    exact Yields.at hu.1 hu.2 fun _ _ _ => Yields.bif (fun _ => Yields.some trivial) fun _ => Yields.some trivial
  refine Yields.bind (P := Any) (Yields.loop l9.length (fun (i : Nat) z => z = (i : Int)) rfl ?_) fun t _ => Yields.bif (fun _ => Yields.some fun h => by cases h) fun _ => Yields.some fun _ => hlen
  rintro i z hi rfl
  unfold F48_s5
  refine Yields.bif (fun hc => ?_) fun _ => Yields.some trivial
  have hc := of_decide_eq_true hc
  exact Yields.at (by omega) hc fun e _ he => Yields.bind (edge_any x1 l2 l3 l4 l5 l6 e.1 e.2 l11 (w9 e he).2.1.1.1 h11 hw) fun _ _ => Yields.bif (fun _ => Yields.some trivial) fun _ => Yields.some ⟨by omega, wrap_succ (by omega) h9⟩

/-- What is known of a function that came in. -/
def InF : Prop := x1.size ≤ maxLen ∧ (l2.length ≤ maxLen ∧ l2.length * 8 ≤ reachBytes) ∧ l3.length * 48 ≤ reachBytes ∧ (∀ y ∈ l3, W102 y) ∧ l4.length * 32 ≤ reachBytes ∧ (∀ y ∈ l4, W104 y) ∧ l5.length ≤ maxLen ∧ l6.length ≤ maxLen ∧ ∀ y ∈ l6, W35 y
theorem falses (l : List Int) (h : l.length * 8 ≤ reachBytes) {step : Int × List Bool → Option ((Int × List Bool) ⊕ List Bool)}
    (hs : ∀ a l', step (a, l') = (bif decide (a < (l.length : Int)) then (bif (!(okApp (l'.length + ([false] : List Bool).length) 1)) then none else some (.inl ((IntKind.i64.wrap (a + 1)), (l' ++ ([false] : List Bool))))) else some (.inr l'))) :
    Yields (fun r : List Bool => r = List.replicate l.length false) (loopO step (0, ([] : List Bool))) := by
  have hr : reachBytes = 140737488351232 := rfl
  refine Yields.loop l.length (fun (i : Nat) z => z.1 = (i : Int) ∧ z.2 = List.replicate i false) ⟨rfl, rfl⟩ ?_
  rintro i ⟨a, l'⟩ hi ⟨h1, h2'⟩
  simp only at h1 h2'
  have h2 : l'.length = i := by rw [h2']; simp
  subst h1
  rw [hs]
  refine Yields.bif (fun hc => ?_) fun hc => Yields.some ?_
  · have hc := of_decide_eq_true hc
    rw [ok_app (by simp only [List.length_singleton]; omega) (by simp only [List.length_singleton]; omega)]
    simp only [Bool.not_true, cond_false]
    exact Yields.some ⟨by omega, show IntKind.i64.wrap ((i : Int) + 1) = ((i + 1 : Nat) : Int) by rw [wrap_i64] <;> omega, show l' ++ [false] = _ by rw [h2', List.replicate_succ']⟩
  · have hc := of_decide_eq_false hc
    show l' = _
    rw [h2', show i = l.length by omega]
theorem valid_any (hf : InF x1 l2 l3 l4 l5 l6) : Yields (fun r => r = true → (∀ y ∈ l6, y.2.2.1 = 2 → y.2.2.2.2.1.length = 2) ∧ (defsF l6).Nodup ∧ ∀ v ∈ defsF l6, 0 ≤ v ∧ v < l2.length) (F10 x1 l2 l3 l4 l5 l6) := by
  obtain ⟨h1, ⟨h2, h2'⟩, h3, w3, h4, w4, h5, h6, w6⟩ := hf
  unfold F10
  refine Yields.bind (ident_any x1 h1) fun _ _ => Yields.bif (fun _ => Yields.some fun h => by cases h) fun _ => ?_
  refine Yields.bind (mems_any x1 l2 l3 l4 l5 l6 h3 h4 w3 w4) fun _ _ => Yields.bif (fun _ => Yields.some fun h => by cases h) fun _ => ?_
  refine Yields.bind (widths_any l2 _ h2) fun _ _ => Yields.bif (fun _ => Yields.some fun h => by cases h) fun _ => ?_
  refine Yields.bind (widths_any l5 _ h5) fun _ _ => Yields.bif (fun _ => Yields.some fun h => by cases h) fun _ => ?_
  refine Yields.bif (fun _ => Yields.some fun h => by cases h) fun _ => Yields.bif (fun _ => Yields.some fun h => by cases h) fun _ => ?_
  refine Yields.bind (falses l2 h2' fun a l' => rfl) fun df hdf => ?_
  have hdf0 : DefsOK l2.length df (defsF (l6.take 0)) := by
    refine ⟨by rw [hdf]; simp, List.nodup_nil, fun v h => (by cases h), fun v v0 v1 => ⟨fun h => ?_, fun h => (by cases h)⟩⟩
    rw [hdf, List.getElem?_replicate] at h
    split at h <;> cases h
  refine Yields.bind (P := fun r => r = 0 ∨ (∀ y ∈ l6, y.2.2.1 = 2 → y.2.2.2.2.1.length = 2) ∧ (defsF l6).Nodup ∧ ∀ v ∈ defsF l6, 0 ≤ v ∧ v < l2.length) (Yields.loop l6.length (fun (i : Nat) z => z.1 = (i : Int) ∧ DefsOK l2.length z.2 (defsF (l6.take i)) ∧ ∀ k y, k < i → l6[k]? = some y → y.2.2.1 = 2 → y.2.2.2.2.1.length = 2) ⟨rfl, hdf0, fun k y h => absurd h (by omega)⟩ ?_) ?_
  · rintro i ⟨a, df⟩ hi ⟨e1, e2, hk⟩
    simp only at e1 e2
    subst e1
    unfold F10_s6
    simp only
    refine Yields.bif (fun hc => ?_) fun hc => Yields.some (.inr ?_)
    · have hc := of_decide_eq_true hc
      refine Yields.at (by omega) hc fun y hy hmem => ?_
      obtain ⟨⟨⟨p1, _⟩, _⟩, ⟨⟨i1, _⟩, iw⟩, _, _, ⟨⟨t1, _⟩, tw⟩, ⟨⟨q1, _⟩, _⟩, _⟩ := w6 y hmem
      refine Yields.bif (fun _ => Yields.some (.inl rfl)) fun _ => Yields.bif (fun _ => Yields.some (.inl rfl)) fun _ => Yields.bif (fun _ => Yields.some (.inl rfl)) fun _ => Yields.bif (fun _ => Yields.some (.inl rfl)) fun _ => Yields.bif (fun _ => Yields.some (.inl rfl)) fun _ => Yields.bif (fun _ => Yields.some (.inl rfl)) fun _ => Yields.bif (fun _ => Yields.some (.inl rfl)) fun _ => ?_
      refine Yields.bind (falses l2 h2' fun a l' => rfl) fun kn hkn => ?_
      have hkn : kn.length = l2.length := by rw [hkn]; simp
      refine Yields.bind (P := fun r : Nat × List Bool × List Bool => r.1 = 0 ∨ DefsOK l2.length r.2.1 (defsF (l6.take i) ++ y.1) ∧ r.2.2.length = l2.length) (Yields.loop y.1.length (fun (j : Nat) z => z.1 = (j : Int) ∧ DefsOK l2.length z.2.1 (defsF (l6.take i) ++ y.1.take j) ∧ z.2.2.length = l2.length) ⟨rfl, by simpa using e2, hkn⟩ ?_) ?_
      · rintro j ⟨b, d, n⟩ hj ⟨b1, b2, b3⟩
        simp only at b1 b2 b3
        subst b1
        unfold F10_s3
        simp only
        refine Yields.bif (fun hq => ?_) fun hq => Yields.some (.inr ⟨?_, b3⟩)
        rotate_left
        · have hq := of_decide_eq_false hq
          rw [List.take_of_length_le (show y.1.length ≤ j by omega)] at b2; exact b2
        have hq := of_decide_eq_true hq
        have b2l := b2.1
        refine Yields.at (by omega) hq fun v hvj _ => Yields.bif (fun _ => Yields.some (.inl rfl)) fun q => ?_
        have q := (within_iff x1 l2 l3 l4 l5 l6 v).1 (by simpa using q)
        refine Yields.at q.1 (by omega) fun w hw _ => Yields.bif (fun _ => Yields.some (.inl rfl)) fun hw0 => Yields.at q.1 (by omega) fun _ _ _ => Yields.some ⟨by omega, wrap_succ (by omega) p1, ?_, ?_⟩
        · subst hw0
          rw [Int.toNat_natCast] at hvj
          simp only
          rw [take_step hvj, ← List.append_assoc]
          exact b2.step q.1 q.2 hw
        · simp only [setI, List.length_set]; exact b3
      rintro ⟨c, d, n⟩ hcd
      refine Yields.bif (fun _ => Yields.some (.inl rfl)) fun c0 => ?_
      have c0 : c ≠ 0 := fun e => by subst e; cases c0
      obtain ⟨d1, d2⟩ := hcd.resolve_left c0
      simp only at d1 d2
      refine Yields.bind (P := fun r : Nat × List Bool × List Bool => r.1 = 0 ∨ DefsOK l2.length r.2.1 (defsF (l6.take i) ++ y.1 ++ defsI y.2.1) ∧ r.2.2.length = l2.length) (Yields.loop y.2.1.length (fun (j : Nat) z => z.1 = (j : Int) ∧ DefsOK l2.length z.2.1 (defsF (l6.take i) ++ y.1 ++ defsI (y.2.1.take j)) ∧ z.2.2.length = l2.length) ⟨rfl, by simpa [defsI] using d1, d2⟩ ?_) ?_
      · rintro j ⟨b, d, n⟩ hj ⟨b1, b2, b3⟩
        simp only at b1 b2 b3
        subst b1
        unfold F10_s5
        simp only
        refine Yields.bif (fun hq => ?_) fun hq => Yields.some (.inr ⟨?_, b3⟩)
        rotate_left
        · have hq := of_decide_eq_false hq
          rw [List.take_of_length_le (show y.2.1.length ≤ j by omega)] at b2; exact b2
        have hq := of_decide_eq_true hq
        have b2l := b2.1
        refine Yields.at (by omega) hq fun v hvj hv => Yields.bif (fun _ => Yields.some (.inl rfl)) fun ha => ?_
        have ha := bne_eq_false_iff_eq.1 ha
        have a1 := (iw v hv).2.2.1.1.1
        refine Yields.bind (used_any x1 l2 l3 l4 l5 l6 v.2.2.1 n a1 b3) fun r hr => Yields.bif (fun _ => Yields.some (.inl rfl)) fun q => ?_
        have hu := hr (by simpa using q)
        refine Yields.bind (P := fun t => t ≠ 0 → (F46 v.1 = true → (0 ≤ v.2.1 ∧ v.2.1 < l2.length) ∧ d[v.2.1.toNat]? = some false) ∧ (F46 v.1 = false → v.2.1 = -1)) ?_ fun t ht => Yields.bif (fun _ => Yields.some (.inl rfl)) fun t0 => ?_
        · unfold F10_s4
          refine Yields.bif (fun hres => Yields.bif (fun _ => Yields.some fun h => absurd rfl h) fun q => ?_) fun h => Yields.bif (fun _ => Yields.some fun h => absurd rfl h) fun hm => Yields.some fun _ => ⟨fun e => absurd e (by rw [h]; decide), fun _ => bne_eq_false_iff_eq.1 hm⟩
          have q := (within_iff x1 l2 l3 l4 l5 l6 v.2.1).1 (by simpa using q)
          exact Yields.at q.1 (by omega) fun w hw _ => Yields.bif (fun _ => Yields.some fun h => absurd rfl h) fun hw0 => Yields.some fun _ => ⟨fun _ => ⟨q, by rw [hw, hw0]⟩, fun e => absurd hres (by rw [e]; decide)⟩
        have t0 : t ≠ 0 := fun e => by subst e; cases t0
        refine Yields.bind (inst_any x1 l2 l3 l4 l5 l6 v.1 v.2.1 v.2.2.1 v.2.2.2.1 v.2.2.2.2 ha hu fun e => ((ht t0).1 e).1) fun _ _ => Yields.bif (fun _ => Yields.some (.inl rfl)) fun _ => ?_
        rw [Int.toNat_natCast] at hvj
        refine Yields.bif (fun hres => ?_) fun hres => Yields.some ⟨by omega, wrap_succ (by omega) i1, ?_, b3⟩
        rotate_left
        · simp only
          rw [take_step hvj, defsI_app, (ht t0).2 hres, if_neg (by decide), List.append_nil]; exact b2
        obtain ⟨hd, hdf⟩ := (ht t0).1 hres
        refine Yields.at hd.1 (by omega) fun _ _ _ => Yields.at hd.1 (by omega) fun _ _ _ => Yields.some ⟨by omega, wrap_succ (by omega) i1, ?_, ?_⟩
        · simp only
          rw [take_step hvj, defsI_app, if_pos hd.1, ← List.append_assoc]
          exact b2.step hd.1 hd.2 hdf
        · simp only [setI, List.length_set]; exact b3
      rintro ⟨c, d, n⟩ hcd
      refine Yields.bif (fun _ => Yields.some (.inl rfl)) fun c0 => ?_
      have c0 : c ≠ 0 := fun e => by subst e; cases c0
      obtain ⟨d1, d2⟩ := hcd.resolve_left c0
      simp only at d1 d2
      refine Yields.bind (term_any x1 l2 l3 l4 l5 l6 y.2.2.1 y.2.2.2.1 y.2.2.2.2.1 y.2.2.2.2.2.1 n t1 tw q1 d2 w6) fun r hr => Yields.bif (fun _ => Yields.some (.inl rfl)) fun q => ?_
      have ht := hr (by simpa using q)
      refine Yields.some ⟨by omega, wrap_succ (by omega) h6, ?_, ?_⟩
      · rw [Int.toNat_natCast] at hy
        simp only
        rw [take_step hy, defsF_app]; unfold defsB; rw [← List.append_assoc]; exact d1
      intro k y' hkl hv
      by_cases e : k = i
      · subst e
        rw [Int.toNat_natCast] at hy
        rw [hy] at hv; cases hv; exact ht
      · exact hk k y' (by omega) hv
    · have hc := of_decide_eq_false hc
      rw [List.take_of_length_le (by omega)] at e2
      refine ⟨?_, e2.2.1, e2.2.2.1⟩
      intro y hy
      obtain ⟨k, hk1, hk2⟩ := List.getElem_of_mem hy
      exact hk k y (by omega) (by rw [List.getElem?_eq_getElem hk1, hk2])
  · rintro r (rfl | h)
    · exact Yields.some (fun h => by cases h)
    · exact Yields.bif (fun _ => Yields.some fun h => by cases h) fun _ => Yields.some fun _ => h
end
end Go.Proofs.Ytepcpjnhhpjacaa.Abs
