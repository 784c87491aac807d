/- Layer 1's reference: words as lists of bits: Width, Bits, Word. -/
import Derived.Test.YthkdojgagmaecabMath
import Derived.Below
import Derived.WalkKit
import Derived.Laws.AppendOwn
import Derived.OwnWalk
import Derived.Test.YthkdojgagmaecabRows
namespace Go.Proofs.Ythkdojgagmaecab
open Go.RowKit

theorem info_int : (Try.prog.info? 3).map (fun i => (i.zero, i.size, i.bytes)) = some (some (.int .i64 0), 1, 8) := by kernel_rfl

/-- A width within its limits. -/
def wid (w : Int) : Nat := (min (max w 0) 64).toNat
theorem wid_le (w : Int) : wid w ≤ 64 := by unfold wid; omega
/-- The low bits, the lowest first. -/
def bitsL (n x : Nat) : List Nat := (List.range n).map fun i => x / 2 ^ i % 2
theorem bitsL_len (n x : Nat) : (bitsL n x).length = n := by simp [bitsL]
theorem bitsL_succ (n x : Nat) : bitsL (n + 1) x = bitsL n x ++ [x / 2 ^ n % 2] := by simp [bitsL, List.range_succ]
/-- A list of bits as the row's values. -/
def rowL (l : List Nat) : List Value := l.map fun (z : Nat) => Value.int .i64 (z : Int)
theorem rowL_append (l m : List Nat) : rowL (l ++ m) = rowL l ++ rowL m := by simp [rowL]
/-- A fresh list is returned. -/
def SomeRow (base : Nat) (l : List Nat) (W : World) (e : Ending) (w' : World) : Prop :=
  ∃ v, e = .returned v ∧ w'.ownsRow base 3 1 v l.length (rowL l) ∧ Below W.heap.size W w'

theorem width_any (a : Int) (w : World) :
    Calls Try.prog 67 #[.int .i64 a] w fun e w' => e = .returned (.int .i64 (wid a : Nat)) ∧ w = w' := by
  by_cases h1 : a < 0
  · have H := Lib.hid (show ((wid a : Nat) : Int) = 0 by unfold wid; omega)
    go_enter Try.func67, Try.ntmps67
    go_wp2_with fail
    go_ret
    exact ⟨by rw [H.out]; rfl, rfl⟩
  · by_cases h2 : 64 < a
    · have H := Lib.hid (show ((wid a : Nat) : Int) = 64 by unfold wid; omega)
      go_enter Try.func67, Try.ntmps67
      go_wp2_with fail
      go_ret
      exact ⟨by rw [H.out]; rfl, rfl⟩
    · have H := Lib.hid (show ((wid a : Nat) : Int) = a by unfold wid; omega)
      go_enter Try.func67, Try.ntmps67
      go_wp2_with fail
      go_ret
      exact ⟨by rw [H.out]; rfl, rfl⟩

theorem width_at (a : Int) (N : Nat) (h : wid a = N) (w : World) :
    Calls Try.prog 67 #[.int .i64 a] w fun e w' => e = .returned (.int .i64 (N : Nat)) ∧ w = w' := h ▸ width_any a w

theorem rel_bit {B : Nat} {k X : Nat} {L : List Nat} {w wr w2 : World} {v v' : Value} {o : Obj}
    (hown : wr.ownsRow w.heap.size B 1 v k (rowL L)) (hnx : Below w.heap.size w wr)
    (hown' : w2.ownsRow w.heap.size B 1 v' (k + 1) (rowL L ++ [.int .i64 ((X : Int) % 2)])) (hgrow : (wr.alloc o).grownBy w2 v.ownBlock) :
    w2.ownsRow w.heap.size B 1 v' (k + 1) (rowL (L ++ [X % 2])) ∧ Below w.heap.size w w2 := by
  constructor
  · rw [rowL_append]
    have : rowL [X % 2] = [.int .i64 ((X : Int) % 2)] := by simp [rowL]
    rw [this]; exact hown'
  · exact (hnx.alloc hnx.size o).grown hgrow (by have := hnx.size; simp; omega) (fun j hj => by have := (hown.lt j hj).1; omega)
theorem bits_step {x k X : Nat} {L : List Nat} (H : Hid (X = x / 2 ^ k ∧ L = bitsL k x)) : Hid (X / 2 = x / 2 ^ (k + 1) ∧ L ++ [X % 2] = bitsL (k + 1) x) := by
  obtain ⟨rfl, rfl⟩ := H.out
  exact Lib.hid ⟨by rw [Nat.pow_succ, Nat.div_div_eq_div_mul], (bitsL_succ k x).symm⟩
theorem bits_end {x k X : Nat} {L : List Nat} {w wr : World} {v : Value} (H : Hid (X = x / 2 ^ k ∧ L = bitsL k x))
    (hown : wr.ownsRow w.heap.size 3 1 v k (rowL L)) (hnx : Below w.heap.size w wr) : SomeRow w.heap.size (bitsL k x) w (.returned v) wr := by
  obtain ⟨_, rfl⟩ := H.out
  exact ⟨v, rfl, by rw [bitsL_len]; exact hown, hnx⟩

theorem rbits_any (a : Int) (x : Nat) (hx : x < 18446744073709551616) (w : World) :
    Calls Try.prog 65 #[.int .i64 a, .int .u64 x] w (SomeRow w.heap.size (bitsL (wid a) x) w) := by
  obtain ⟨i0, hi, hz0, hz1, hz2⟩ := info_parts info_int
  have hn := wid_le a
  generalize hN : wid a = N at hn
  have hw := fun w => width_at a N hN w
  clear hN
  go_enter Try.func65, Try.ntmps65
  go_wp2_with fail
  go_loopw [1, 5, 6] (fun xx v i wr => ∃ k X : Nat, ∃ L : List Nat, k ≤ N ∧ X < 18446744073709551616 ∧ Hid (X = x / 2 ^ k ∧ L = bitsL k x) ∧ xx = .int .u64 (X : Nat) ∧ i = .int .i64 (k : Nat) ∧ wr.ownsRow w.heap.size 3 1 v k (rowL L) ∧ Below w.heap.size w wr)
    (fun _ _ i _ => N - (intOf i).toNat)
  case atStart => exact ⟨0, x, [], Nat.zero_le _, hx, Lib.hid ⟨by simp, rfl⟩, rfl, rfl, World.ownsRow_nil _ _ _ _, Below.refl _ _⟩
  case round =>
    obtain ⟨k, X, L, hk, hX, HL, rfl, rfl, hown, hnx⟩ := hrel
    go_wp2_with fail
    refine (hw _).mono ?_
    rintro e w1 ⟨rfl, rfl⟩
    by_cases hlt : k < N
    · have hB : w.heap.size ≤ wr.heap.size := hnx.size
      have hLk : (rowL L).length = k := by have := hown.1; omega
      go_wp2_with (at_builtin; refine wpList_append_own _ rfl _ _ 43 rfl w.heap.size 3 i0 (.int .i64 0) 1 8 Try.underlying43 hi hz0 hz1 hz2 rfl (by decide) _ _ _ rfl (hown.alloc _) ⟨wr.heap.size, 0, none⟩ 1 1 [.int .i64 (↑X % 2)] rfl rfl ?c1 ?c2 ?c3 ?c4 ?c5 ?_)
      case c1 =>
        intro j u hj
        match j, hj with
        | 0, hj => simp at hj; subst hj; simp [Addr.add, go_sem]
      case c2 => intro u hu; simp at hu; subst hu; rfl
      case c3 => unfold maxLen; omega
      case c4 => omega
      case c5 => simp; omega
      intro v' w2 hown' hgrow _
      have R := rel_bit hown hnx hown' hgrow
      clear hown' hgrow hown hnx
      go_wp2_with fail
      go_roundw
      case rel => exact ⟨k + 1, X / 2, L ++ [X % 2], by omega, by omega, bits_step HL, by go_num, by go_num, R.1, R.2⟩
      case measure => simp [intOf]; omega
    · have hkN : k = N := by omega
      subst hkN
      go_wp2_with fail
      go_ret
      exact bits_end HL hown hnx
end Go.Proofs.Ythkdojgagmaecab
