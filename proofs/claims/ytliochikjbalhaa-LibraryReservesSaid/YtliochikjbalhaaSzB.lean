/- Size, the program's and the reference's. -/
import Derived.OpenShut
import Derived.Outline
import Derived.Laws.ResultCell
import Derived.Lib.Hide
import Derived.Test.YtliochikjbalhaaRows
import Derived.Test.YtliochikjbalhaaBk
namespace Go.Proofs.Ytliochikjbalhaa
open Go Go.RowKit
set_option linter.unusedVariables false
set_option linter.unusedSimpArgs false

def szF (p i t : Nat → Nat) : Nat → Int
  | 0 => 0
  | k + 1 => wrap64 (szF p i t k + wrap64 (wrap64 (wrap64 (1 + (p k : Int)) + (i k : Int)) + (t k : Int)))
theorem szF_succ (p i t : Nat → Nat) (k : Nat) : szF p i t (k + 1) = wrap64 (szF p i t k + wrap64 (wrap64 (wrap64 (1 + (p k : Int)) + (i k : Int)) + (t k : Int))) := rfl

theorem size_any (n0 v1 v2 v3 v4 : Value) (A : Option Addr) (n c : Nat) (p i t : Nat → Nat) (hn : n ≤ 50) (w : World) (h : Blks w w.heap.size A n p i t) :
    Calls Try.prog 12 #[.agg #[n0, v1, v2, v3, v4, .slice A n c]] w fun e w' => e = .returned (.int .i64 (szF p i t n)) ∧ Below w.heap.size w w' := by
  go_enter Try.func12, Try.ntmps12
  go_wp2_with fail
  go_loopw [3, 9] (fun s j wr => ∃ k : Nat, ∃ z : Int, k ≤ n ∧ Hid (z = szF p i t k) ∧ s = .int .i64 z ∧ j = .int .i64 (k : Nat) ∧ Below w.heap.size w wr) (fun _ j _ => n - (intOf j).toNat)
  case atStart => exact ⟨0, 0, by omega, Lib.hid rfl, rfl, rfl, (Below.refl _ _).alloc (Nat.le_refl _) _⟩
  case round =>
    obtain ⟨k, z, hk, HZ, rfl, rfl, hb⟩ := hrel
    by_cases hlt : k < n
    · obtain ⟨ad, rfl, hl, A0, m0, A1, m1, x2, x3, A4, m4, A5, n5, m5, x6, x7, x8, c0, c1, c2, c3, c4, c5, c6, c7, c8⟩ := (h.below hb) k hlt
      have HS := Lib.hid (szF_succ p i t k)
      generalize hp : p k = pk at *
      generalize hi : i k = ik at *
      generalize ht : t k = tk at *
      clear hp hi ht
      go_wp2_with fail
      go_roundw
      case rel => exact ⟨k + 1, _, by omega, Lib.hid (by rw [HS.out, ← HZ.out]), rfl, by go_num, hb.alloc hb.size _⟩
      case measure => simp [intOf]; omega
    · have hkn : k = n := by omega
      subst hkn
      go_wp2_with fail
      go_ret
      exact ⟨by rw [← HZ.out]; rfl, hb⟩
theorem refsize_any (n0 v1 v2 v3 v4 : Value) (A : Option Addr) (n c : Nat) (p i t : Nat → Nat) (hn : n ≤ 50) (w : World) (h : Blks w w.heap.size A n p i t) :
    Calls Try.prog 13 #[.agg #[n0, v1, v2, v3, v4, .slice A n c]] w fun e w' => e = .returned (.int .i64 (szF p i t n)) ∧ Below w.heap.size w w' := by
  go_enter Try.func13, Try.ntmps13
  go_wp2_with fail
  go_loopw [3, 4] (fun s j wr => ∃ k : Nat, ∃ z : Int, k ≤ n ∧ Hid (z = szF p i t k) ∧ s = .int .i64 z ∧ j = .int .i64 (k : Nat) ∧ Below w.heap.size w wr ∧ w.heap.size < wr.heap.size ∧ wr.cell? ⟨w.heap.size, 5, none⟩ = some (.slice A n c)) (fun _ j _ => n - (intOf j).toNat)
  case atStart => exact ⟨0, 0, by omega, Lib.hid rfl, rfl, rfl, (Below.refl _ _).alloc (Nat.le_refl _) _, by simp, World.cell?_alloc_at _ _ _ _ rfl⟩
  case round =>
    obtain ⟨k, z, hk, HZ, rfl, rfl, hb, hsz, hcf⟩ := hrel
    by_cases hlt : k < n
    · obtain ⟨ad, rfl, hl, A0, m0, A1, m1, x2, x3, A4, m4, A5, n5, m5, x6, x7, x8, c0, c1, c2, c3, c4, c5, c6, c7, c8⟩ := (h.below hb) k hlt
      have HS := Lib.hid (szF_succ p i t k)
      generalize hp : p k = pk at *
      generalize hi : i k = ik at *
      generalize ht : t k = tk at *
      clear hp hi ht
      go_wp2_with fail
      go_roundw
      case rel => exact ⟨k + 1, _, by omega, Lib.hid (by rw [HS.out, ← HZ.out]), rfl, by go_num, hb.alloc hb.size _, by simp; omega, (World.cell?_alloc_lt _ _ _ hsz).trans hcf⟩
      case measure => simp [intOf]; omega
    · have hkn : k = n := by omega
      subst hkn
      go_wp2_with fail
      go_ret
      exact ⟨by rw [← HZ.out]; rfl, hb⟩
end Go.Proofs.Ytliochikjbalhaa
