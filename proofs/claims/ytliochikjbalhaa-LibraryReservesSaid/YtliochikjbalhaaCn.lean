/- Slices of structs of two integers, read. No program is imported. -/
import Derived.Below
import Derived.WalkKit
import Derived.ProofKit
import Derived.Deep.Draws
import Derived.Lib.Hide
namespace Go.Proofs.Ytliochikjbalhaa
open Go Go.RowKit

theorem block_of_add (a : Addr) (n : Nat) : (a.add n).block = a.block := by unfold Addr.add; split <;> rfl
theorem add_of_add (a : Addr) (i j : Nat) : (a.add i).add j = a.add (i + j) := by
  unfold Addr.add
  by_cases hi : i = 0 <;> by_cases hj : j = 0 <;> simp [hi, hj, Nat.add_assoc]
/-- The slice at A holds n pairs of integers, below block B. -/
def Prs (w : World) (B : Nat) (A : Option Addr) (n : Nat) (c k : Nat → Int) : Prop :=
  ∀ i, i < n → ∃ ad, A = some ad ∧ ad.block < B ∧ w.cell? (ad.add (i * 2)) = some (.int .i64 (c i)) ∧ w.cell? (ad.add (i * 2 + 1)) = some (.int .i64 (k i))
theorem Prs.below {w w' : World} {B n : Nat} {A : Option Addr} {c k : Nat → Int} (h : Prs w B A n c k) (hb : Below B w w') : Prs w' B A n c k := by
  intro i hi
  obtain ⟨ad, e, hl, h1, h2⟩ := h i hi
  exact ⟨ad, e, hl, (hb.cell (by rw [block_of_add]; exact hl)).trans h1, (hb.cell (by rw [block_of_add]; exact hl)).trans h2⟩
theorem Prs.more {w : World} {B B' n : Nat} {A : Option Addr} {c k : Nat → Int} (h : Prs w B A n c k) (hB : B ≤ B') : Prs w B' A n c k := by
  intro i hi
  obtain ⟨ad, e, hl, h1, h2⟩ := h i hi
  exact ⟨ad, e, by omega, h1, h2⟩
/-- The first limit of the class, from place i on, of m places. -/
def cnt (c k : Nat → Int) (cl : Int) : Nat → Nat → Int
  | 0, _ => 1024
  | m + 1, i => if c i = cl then min (max (k i) 1) 1024 else cnt c k cl m (i + 1)
theorem cnt_step (c k : Nat → Int) (cl : Int) (n i : Nat) (h : i < n) : cnt c k cl (n - i) i = if c i = cl then min (max (k i) 1) 1024 else cnt c k cl (n - (i + 1)) (i + 1) := by
  have e : n - i = (n - (i + 1)) + 1 := by omega
  rw [e]; rfl
theorem cnt_end (c k : Nat → Int) (cl : Int) (n : Nat) : cnt c k cl (n - n) n = 1024 := by rw [Nat.sub_self]; rfl
theorem cnt_bd (c k : Nat → Int) (cl : Int) : ∀ m i, 1 ≤ cnt c k cl m i ∧ cnt c k cl m i ≤ 1024
  | 0, _ => by simp [cnt]
  | m + 1, i => by
    have := cnt_bd c k cl m (i + 1)
    unfold cnt
    split <;> omega
end Go.Proofs.Ytliochikjbalhaa
