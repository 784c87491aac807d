/- An awake, by computing its pure text. -/
import Derived.Test.YtimeninncpmaeaaBf
namespace Go.Proofs.Ytimeninncpmaeaa.Abs
open Go
set_option linter.unusedVariables false
set_option maxRecDepth 100000
def Le {α : Type} (a b : Option α) : Prop := ∀ r, a = some r → b = some r
theorem Le.refl {α : Type} (a : Option α) : Le a a := fun _ h => h
theorem Le.bind {α β : Type} {a b : Option α} {f g : α → Option β} (h : Le a b) (k : ∀ y, Le (f y) (g y)) : Le (Option.bind a f) (Option.bind b g) := by
  intro r e
  obtain ⟨y, e1, e2⟩ := Option.bind_eq_some_iff.1 e
  rw [h y e1]
  exact k y r e2
theorem Le.bif {α : Type} {c : Bool} {a b a' b' : Option α} (h : Le a a') (k : Le b b') : Le (bif c then a else b) (bif c then a' else b') := by
  cases c
  · exact k
  · exact h
def loopK {σ τ : Type} : Nat → (σ → Option (σ ⊕ τ)) → σ → Option τ
  | 0, _, _ => none
  | n + 1, f, s => match f s with
    | some (.inl s') => loopK n f s'
    | some (.inr t) => some t
    | none => none
theorem Le.loop {σ τ : Type} {f g : σ → Option (σ ⊕ τ)} (h : ∀ s, Le (f s) (g s)) : ∀ (n : Nat) (s : σ), Le (loopK n f s) (loopO g s)
  | 0, s => fun r e => by cases e
  | n + 1, s => fun r e => by
    unfold loopK at e
    split at e
    · rename_i s' e1
      rw [loopO_go (h s _ e1)]
      exact Le.loop h n s' r e
    · rename_i t e1
      cases e
      exact loopO_stop (h s _ e1)
    · cases e
def G54 (x1 : Int) (x2 : Int) (x3 : Bool) (l4 : List (Int × Int × Int × Int)) (l5 : List (Int × Int × Int × Int)) (l6 : List (Int × Int)) : Option (Bool) :=
  (bif (F54__1 x1 x2 l4) then
   some (false)
  else
   (Option.bind (loopK 1000 (fun (s : Int) => F54_s1 x1 x2 x3 l4 l5 l6 s) 0) fun y18 =>
   (bif (Nat.beq y18 0) then
    some (false)
   else
    (Option.bind (loopK 1000 (fun (s : Int) => F54_s2 x1 x2 x3 l4 l5 l6 s) 0) fun y30 =>
    (bif (Nat.beq y30 0) then
     some (false)
    else
     some (true))))))
theorem G54_le (x1 : Int) (x2 : Int) (x3 : Bool) (l4 : List (Int × Int × Int × Int)) (l5 : List (Int × Int × Int × Int)) (l6 : List (Int × Int)) : Le (G54 x1 x2 x3 l4 l5 l6) (F54 x1 x2 x3 l4 l5 l6) := by
  unfold G54 F54
  repeat first | refine Le.bif ?_ ?_ | refine Le.loop (fun s => ?_) _ _ | refine Le.bind ?_ (fun _ => ?_) | exact Le.refl _
def G33 (x1 : Int) (x2 : Int) (x3 : Bool) (l4 : List (Int × Int × Int × Int)) (l5 : List (Int × Int × Int × Int)) (l6 : List (Int × Int)) : Option (Bool) :=
  (bif decide (x1 < 0) then
   some (false)
  else
   (bif decide (x1 > 4096) then
    some (false)
   else
    (bif decide (x2 < 0) then
     some (false)
    else
     (bif decide (x2 > 4094) then
      some (false)
     else
      (bif ((l6.length : Int) != x1) then
       some (false)
      else
       (Option.bind (loopK 1000 (fun (s : Int) => F33_s1 x1 x2 x3 l4 l5 l6 s) 0) fun y17 =>
       (bif (Nat.beq y17 0) then
        some (false)
       else
        (Option.bind (loopK 1000 (fun (s : Int) => F33_s2 l5 s) 0) fun y26 =>
        (bif (Nat.beq y26 0) then
         some (false)
        else
         (Option.bind (loopK 1000 (fun (s : Int) => F33_s3 l5 l6 s) 0) fun y41 =>
         (bif (Nat.beq y41 0) then
          some (false)
         else
          (Option.bind (G54 x1 x2 x3 l4 l5 l6) fun y43 =>
          some (y43)))))))))))))
theorem G33_le (x1 : Int) (x2 : Int) (x3 : Bool) (l4 : List (Int × Int × Int × Int)) (l5 : List (Int × Int × Int × Int)) (l6 : List (Int × Int)) : Le (G33 x1 x2 x3 l4 l5 l6) (F33 x1 x2 x3 l4 l5 l6) := by
  unfold G33 F33
  repeat first | exact G54_le _ _ _ _ _ _ | refine Le.bif ?_ ?_ | refine Le.loop (fun s => ?_) _ _ | refine Le.bind ?_ (fun _ => ?_) | exact Le.refl _
def G63 (x1 : Int) (l2 : List (Int × Int × Int × Int)) (x3 : Int) (x4 : Bool) : Option ((List (Int × Int × Int × Int))) :=
  (Option.bind (loopK 1000 (fun (s : Int × (List (Int × Int × Int × Int))) => F63_s1 x1 l2 x3 x4 s.1 s.2) (0, ([] : List (Int × Int × Int × Int)))) fun y27 =>
  some (y27))
theorem G63_le (x1 : Int) (l2 : List (Int × Int × Int × Int)) (x3 : Int) (x4 : Bool) : Le (G63 x1 l2 x3 x4) (F63 x1 l2 x3 x4) := by
  unfold G63 F63
  repeat first | refine Le.bif ?_ ?_ | refine Le.loop (fun s => ?_) _ _ | refine Le.bind ?_ (fun _ => ?_) | exact Le.refl _
def G66 (l1 : List Int) : Option ((List Int)) :=
  (Option.bind (loopK 1000 (fun (s : Int × Int × (List Int)) => F66_s1 s.1 s.2.1 s.2.2) (0, (IntKind.i64.wrap ((l1.length : Int) - 1)), l1)) fun y13 =>
  some (y13))
theorem G66_le (l1 : List Int) : Le (G66 l1) (F66 l1) := by
  unfold G66 F66
  repeat first | refine Le.bif ?_ ?_ | refine Le.loop (fun s => ?_) _ _ | refine Le.bind ?_ (fun _ => ?_) | exact Le.refl _
def G70 (l1 : List Int) (l2 : List (Int × Int × Int × Int)) (x3 : Int) : Option ((List Int)) :=
  (Option.bind (loopK 1000 (fun (s : Int × Int) => F70_s1 l1 l2 s.1 s.2) (x3, 0)) fun y9 =>
  (Option.bind (loopK 1000 (fun (s : Int × (List Int)) => F70_s2 l1 l2 y9 s.1 s.2) (y9, ([] : List Int))) fun y23 =>
  (Option.bind (G66 y23) fun y26 =>
  some (y26))))
theorem G70_le (l1 : List Int) (l2 : List (Int × Int × Int × Int)) (x3 : Int) : Le (G70 l1 l2 x3) (F70 l1 l2 x3) := by
  unfold G70 F70
  repeat first | exact G66_le _ | refine Le.bif ?_ ?_ | refine Le.loop (fun s => ?_) _ _ | refine Le.bind ?_ (fun _ => ?_) | exact Le.refl _
def G65_s3 (l1 : List Int) (l2 : List (Int × Int × Int × Int)) (a15 : Int) (a16 : Int) (l17 : List Int) (l18 : List Int) : Option ((Int × Int × (List Int) × (List Int)) ⊕ (Int × (List Int) × (List Int))) :=
  (bif decide (a16 < (l1.length : Int)) then
   (Option.bind (loopK 1000 (fun (s : Int × Int × (List Int) × (List Int)) => F65_s2 l2 s.1 s.2.1 s.2.2.1 s.2.2.2) ((-1), 0, l17, l18)) fun y34 =>
   (bif decide (y34.1 < 0) then
    some (.inr (y34.1, y34.2.1, y34.2.2))
   else
    some (.inl (y34.1, (IntKind.i64.wrap (a16 + 1)), y34.2.1, y34.2.2))))
  else
   some (.inr (a15, l17, l18)))
theorem G65_s3_le (l1 : List Int) (l2 : List (Int × Int × Int × Int)) (a15 : Int) (a16 : Int) (l17 : List Int) (l18 : List Int) : Le (G65_s3 l1 l2 a15 a16 l17 l18) (F65_s3 l1 l2 a15 a16 l17 l18) := by
  unfold G65_s3 F65_s3
  repeat first | refine Le.bif ?_ ?_ | refine Le.loop (fun s => ?_) _ _ | refine Le.bind ?_ (fun _ => ?_) | exact Le.refl _
def G65 (l1 : List Int) (l2 : List (Int × Int × Int × Int)) : Option ((List Int) × (List Int)) :=
  (bif (!(okLen (l1.length : Int) (l1.length : Int) 8)) then none else
  (Option.bind (loopK 1000 (fun (s : Int × (List Int)) => F65_s1 l1 s.1 s.2) (0, (List.replicate (l1.length : Int).toNat (0 : Int)))) fun y13 =>
  (Option.bind (loopK 1000 (fun (s : Int × Int × (List Int) × (List Int)) => G65_s3 l1 l2 s.1 s.2.1 s.2.2.1 s.2.2.2) ((-1), 0, l1, y13)) fun y37 =>
  (bif decide (y37.1 < 0) then
   some ([], y37.2.1)
  else
   (Option.bind (G70 y37.2.2 l2 y37.1) fun y40 =>
   some (y40, y37.2.1))))))
theorem G65_le (l1 : List Int) (l2 : List (Int × Int × Int × Int)) : Le (G65 l1 l2) (F65 l1 l2) := by
  unfold G65 F65
  repeat first | exact G65_s3_le _ _ _ _ _ _ | exact G70_le _ _ _ | refine Le.bif ?_ ?_ | refine Le.loop (fun s => ?_) _ _ | refine Le.bind ?_ (fun _ => ?_) | exact Le.refl _
def G62 (x1 : Int) (l2 : List (Int × Int × Int × Int)) (x3 : Int) (l4 : List Int) : Option ((List Int) × (List Int)) :=
  (Option.bind (G63 (F57 x1) l2 x3 false) fun y6 =>
  (bif (!(okLen (F57 x1) (F57 x1) 8)) then none else
  (Option.bind (loopK 1000 (fun (s : Int × (List Int)) => F62_s1 x1 l4 s.1 s.2) (0, (List.replicate (F57 x1).toNat (0 : Int)))) fun y20 =>
  (Option.bind (G65 y20 y6) fun y23 =>
  (bif (!y23.1.isEmpty) then
   some ([], y23.1)
  else
   some (y23.2, []))))))
theorem G62_le (x1 : Int) (l2 : List (Int × Int × Int × Int)) (x3 : Int) (l4 : List Int) : Le (G62 x1 l2 x3 l4) (F62 x1 l2 x3 l4) := by
  unfold G62 F62
  repeat first | exact G63_le _ _ _ _ | exact G65_le _ _ | refine Le.bif ?_ ?_ | refine Le.loop (fun s => ?_) _ _ | refine Le.bind ?_ (fun _ => ?_) | exact Le.refl _
def G47 (x1 : Int) (l2 : List (Int × Int × Int × Int)) (x3 : Int) : Option ((List Int) × (List Int)) :=
  (Option.bind (G62 x1 l2 x3 []) fun y4 =>
  some (y4.1, y4.2))
theorem G47_le (x1 : Int) (l2 : List (Int × Int × Int × Int)) (x3 : Int) : Le (G47 x1 l2 x3) (F47 x1 l2 x3) := by
  unfold G47 F47
  repeat first | exact G62_le _ _ _ _ | refine Le.bif ?_ ?_ | refine Le.loop (fun s => ?_) _ _ | refine Le.bind ?_ (fun _ => ?_) | exact Le.refl _
def G34 (x1 : Int) (x2 : Int) (x3 : Bool) (l4 : List (Int × Int × Int × Int)) (l5 : List (Int × Int × Int × Int)) (l6 : List (Int × Int)) (x7 : Int) : Option ((List Int)) :=
  (Option.bind (G47 (F42 x1 x2 x3 l4 l5 l6) l4 x7) fun y9 =>
  some (y9.2))
theorem G34_le (x1 : Int) (x2 : Int) (x3 : Bool) (l4 : List (Int × Int × Int × Int)) (l5 : List (Int × Int × Int × Int)) (l6 : List (Int × Int)) (x7 : Int) : Le (G34 x1 x2 x3 l4 l5 l6 x7) (F34 x1 x2 x3 l4 l5 l6 x7) := by
  unfold G34 F34
  repeat first | exact G47_le _ _ _ | refine Le.bif ?_ ?_ | refine Le.loop (fun s => ?_) _ _ | refine Le.bind ?_ (fun _ => ?_) | exact Le.refl _
def G36 (x1 : Int) (x2 : Int) (x3 : Int) (x4 : Bool) (l5 : List (Int × Int × Int × Int)) (l6 : List (Int × Int × Int × Int)) (l7 : List (Int × Int)) : Option (Bool) :=
  (Option.bind (G34 x2 x3 x4 l5 l6 l7 (IntKind.i64.wrap (x1 + 1))) fun y9 =>
  some (y9.isEmpty))
theorem G36_le (x1 : Int) (x2 : Int) (x3 : Int) (x4 : Bool) (l5 : List (Int × Int × Int × Int)) (l6 : List (Int × Int × Int × Int)) (l7 : List (Int × Int)) : Le (G36 x1 x2 x3 x4 l5 l6 l7) (F36 x1 x2 x3 x4 l5 l6 l7) := by
  unfold G36 F36
  repeat first | exact G34_le _ _ _ _ _ _ _ | refine Le.bif ?_ ?_ | refine Le.loop (fun s => ?_) _ _ | refine Le.bind ?_ (fun _ => ?_) | exact Le.refl _
def G35w36_s1 (x2 : Int) (x3 : Int) (x4 : Bool) (l5 : List (Int × Int × Int × Int)) (l6 : List (Int × Int × Int × Int)) (l7 : List (Int × Int)) (a9 : Int) (a10 : Int) : Option ((Int × Int) ⊕ Int) :=
  (bif decide (a9 < a10) then
   (Option.bind (G36 (IntKind.i64.wrap (((IntKind.u64.wrap ((IntKind.i64.wrap (a9 + a10)))).fdiv (2 ^ 1)))) x2 x3 x4 l5 l6 l7) fun y13 =>
   (bif (!y13) then
    some (.inl ((F35w36__1 a9 a10), a10))
   else
    some (.inl (a9, (IntKind.i64.wrap (((IntKind.u64.wrap ((IntKind.i64.wrap (a9 + a10)))).fdiv (2 ^ 1))))))))
  else
   some (.inr a9))
theorem G35w36_s1_le (x2 : Int) (x3 : Int) (x4 : Bool) (l5 : List (Int × Int × Int × Int)) (l6 : List (Int × Int × Int × Int)) (l7 : List (Int × Int)) (a9 : Int) (a10 : Int) : Le (G35w36_s1 x2 x3 x4 l5 l6 l7 a9 a10) (F35w36_s1 x2 x3 x4 l5 l6 l7 a9 a10) := by
  unfold G35w36_s1 F35w36_s1
  repeat first | exact G36_le _ _ _ _ _ _ _ | refine Le.bif ?_ ?_ | refine Le.loop (fun s => ?_) _ _ | refine Le.bind ?_ (fun _ => ?_) | exact Le.refl _
def G35w36 (x1 : Int) (x2 : Int) (x3 : Int) (x4 : Bool) (l5 : List (Int × Int × Int × Int)) (l6 : List (Int × Int × Int × Int)) (l7 : List (Int × Int)) : Option (Int) :=
  (Option.bind (loopK 1000 (fun (s : Int × Int) => G35w36_s1 x2 x3 x4 l5 l6 l7 s.1 s.2) (0, x1)) fun y16 =>
  some (y16))
theorem G35w36_le (x1 : Int) (x2 : Int) (x3 : Int) (x4 : Bool) (l5 : List (Int × Int × Int × Int)) (l6 : List (Int × Int × Int × Int)) (l7 : List (Int × Int)) : Le (G35w36 x1 x2 x3 x4 l5 l6 l7) (F35w36 x1 x2 x3 x4 l5 l6 l7) := by
  unfold G35w36 F35w36
  repeat first | exact G35w36_s1_le _ _ _ _ _ _ _ _ | refine Le.bif ?_ ?_ | refine Le.loop (fun s => ?_) _ _ | refine Le.bind ?_ (fun _ => ?_) | exact Le.refl _
def G13 (x1 : Int) (x2 : Int) (x3 : Bool) (l4 : List (Int × Int × Int × Int)) (l5 : List (Int × Int × Int × Int)) (l6 : List (Int × Int)) : Option (Int × Int × (List Int) × Int × Int) :=
  (Option.bind (G33 x1 x2 x3 l4 l5 l6) fun y9 =>
  (bif (!y9) then
   some (0, 0, [], 0, 3)
  else
   (bif (!x3) then
    some (0, 0, [], 0, 1)
   else
    (Option.bind (G34 x1 x2 x3 l4 l5 l6 256) fun y13 =>
    (bif (!y13.isEmpty) then
     some (0, 0, [], 0, 14)
    else
     (Option.bind (G35w36 255 x1 x2 x3 l4 l5 l6) fun y17 =>
     (bif ((IntKind.i64.wrap (1 + y17)) == 1) then
      some (1, 1, [], 0, 0)
     else
      (Option.bind (G34 x1 x2 x3 l4 l5 l6 (IntKind.i64.wrap ((IntKind.i64.wrap (1 + y17)) - 1))) fun y20 =>
      some (2, (IntKind.i64.wrap (1 + y17)), y20, 0, 0)))))))))
theorem G13_le (x1 : Int) (x2 : Int) (x3 : Bool) (l4 : List (Int × Int × Int × Int)) (l5 : List (Int × Int × Int × Int)) (l6 : List (Int × Int)) : Le (G13 x1 x2 x3 l4 l5 l6) (F13 x1 x2 x3 l4 l5 l6) := by
  unfold G13 F13
  repeat first | exact G33_le _ _ _ _ _ _ | exact G34_le _ _ _ _ _ _ _ | exact G35w36_le _ _ _ _ _ _ _ | refine Le.bif ?_ ?_ | refine Le.loop (fun s => ?_) _ _ | refine Le.bind ?_ (fun _ => ?_) | exact Le.refl _
def G40 (x1 : Int) (x2 : Int) (x3 : Bool) (l4 : List (Int × Int × Int × Int)) (l5 : List (Int × Int × Int × Int)) (l6 : List (Int × Int)) : Option ((List Int) × (List Int)) :=
  (bif (!(okLen (l5.length : Int) (l5.length : Int) 8)) then none else
  (Option.bind (loopK 1000 (fun (s : Int × (List Int) × (List Int)) => F40_s1 l6 s.1 s.2.1 s.2.2) (0, (List.replicate (l5.length : Int).toNat (0 : Int)), (List.replicate (l5.length : Int).toNat (0 : Int)))) fun y23 =>
  some (y23.1, y23.2)))
theorem G40_le (x1 : Int) (x2 : Int) (x3 : Bool) (l4 : List (Int × Int × Int × Int)) (l5 : List (Int × Int × Int × Int)) (l6 : List (Int × Int)) : Le (G40 x1 x2 x3 l4 l5 l6) (F40 x1 x2 x3 l4 l5 l6) := by
  unfold G40 F40
  repeat first | refine Le.bif ?_ ?_ | refine Le.loop (fun s => ?_) _ _ | refine Le.bind ?_ (fun _ => ?_) | exact Le.refl _
def G18 (x1 : Int) (x2 : Int) (x3 : Bool) (l4 : List (Int × Int × Int × Int)) (l5 : List (Int × Int × Int × Int)) (l6 : List (Int × Int)) : Option ((List (Int × Int × Unit × Int))) :=
  (Option.bind (G33 x1 x2 x3 l4 l5 l6) fun y7 =>
  (bif (!y7) then
   some ([])
  else
   (bif (!x3) then
    some ([])
   else
    (Option.bind (G40 x1 x2 x3 l4 l5 l6) fun y11 =>
    (Option.bind (loopK 1000 (fun (s : Int × (List (Int × Int × Unit × Int))) => F18_s1 l5 y11 s.1 s.2) (0, ([] : List (Int × Int × Unit × Int)))) fun y43 =>
    some (y43))))))
theorem G18_le (x1 : Int) (x2 : Int) (x3 : Bool) (l4 : List (Int × Int × Int × Int)) (l5 : List (Int × Int × Int × Int)) (l6 : List (Int × Int)) : Le (G18 x1 x2 x3 l4 l5 l6) (F18 x1 x2 x3 l4 l5 l6) := by
  unfold G18 F18
  repeat first | exact G33_le _ _ _ _ _ _ | exact G40_le _ _ _ _ _ _ | refine Le.bif ?_ ?_ | refine Le.loop (fun s => ?_) _ _ | refine Le.bind ?_ (fun _ => ?_) | exact Le.refl _
def G21 (x1 : Int) (x2 : Int) (x3 : Bool) (l4 : List (Int × Int × Int × Int)) (l5 : List (Int × Int × Int × Int)) (l6 : List (Int × Int)) : Option (Int × Int × (List Int) × Int × Int) :=
  (Option.bind (G13 x1 x2 x3 l4 l5 l6) fun y7 =>
  (bif (y7.2.2.2.2 != 0) then
   some (0, 0, [], 0, y7.2.2.2.2)
  else
   (Option.bind (G18 x1 x2 x3 l4 l5 l6) fun y11 =>
   (Option.bind (loopK 1000 (fun (s : Int × Int × Int × Int × (List Int)) => F21_s1 y11 s.1 s.2.1 s.2.2.1 s.2.2.2.1 s.2.2.2.2) (0, y7.1, y7.2.1, y7.2.2.2.1, y7.2.2.1)) fun y25 =>
   (bif decide (y25.2.1 > 256) then
    some (0, 0, [], 0, 14)
   else
    some (y25.1, y25.2.1, y25.2.2.2, y25.2.2.1, 0))))))
theorem G21_le (x1 : Int) (x2 : Int) (x3 : Bool) (l4 : List (Int × Int × Int × Int)) (l5 : List (Int × Int × Int × Int)) (l6 : List (Int × Int)) : Le (G21 x1 x2 x3 l4 l5 l6) (F21 x1 x2 x3 l4 l5 l6) := by
  unfold G21 F21
  repeat first | exact G13_le _ _ _ _ _ _ | exact G18_le _ _ _ _ _ _ | refine Le.bif ?_ ?_ | refine Le.loop (fun s => ?_) _ _ | refine Le.bind ?_ (fun _ => ?_) | exact Le.refl _
def G11  : Option (Bool) :=
  (Option.bind (G21 F31.1 F31.2.1 F31.2.2.1 F31.2.2.2.1 [] F31.2.2.2.2) fun y4 =>
  (bif (y4.2.2.2.2 == 0) then
   (bif (y4.2.1 == 3) then
    some (y4.1 == 2)
   else
    some (false))
  else
   some (false)))
theorem G11_le  : Le (G11) (F11) := by
  unfold G11 F11
  repeat first | exact G21_le _ _ _ _ _ _ | refine Le.bif ?_ ?_ | refine Le.loop (fun s => ?_) _ _ | refine Le.bind ?_ (fun _ => ?_) | exact Le.refl _
theorem G11_true : G11 = some true := by kernel_rfl
theorem F11_true : F11 = some true := G11_le true G11_true
end Go.Proofs.Ytimeninncpmaeaa.Abs
