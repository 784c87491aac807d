/- Layer 1's reference: shr. -/
import Derived.Test.YthkdojgagmaecabRefB
import Derived.Test.YthkdojgagmaecabExt
namespace Go.Proofs.Ythkdojgagmaecab
open Go.RowKit

/-- The word shifted to the right, filled with a bit. -/
def shrN (a : Int) (x n f : Nat) : Nat := wordL (extL (wid a - n) (x / 2 ^ n) f (wid a))

theorem rshr_any (a : Int) (x n f : Nat) (hx : x < 18446744073709551616) (hn : n ≤ 64) (hf : f ≤ 1) (w : World) :
    Calls Try.prog 83 #[.int .i64 a, .int .u64 x, .int .i64 n, .int .i64 f] w fun e w' => e = .returned (.int .u64 (shrN a x n f : Nat)) ∧ Below w.heap.size w w' := by
  obtain ⟨i0, hi, hz0, hz1, hz2⟩ := info_parts info_int
  have HE : Hid (wordL (extL (wid a - n) (x / 2 ^ n) f (wid a)) = shrN a x n f) := Lib.hid rfl
  have hm := wid_le a
  have C1 := fun w => rbits_any a x hx w
  generalize wid a = N at hm HE C1
  generalize shrN a x n f = E at HE ⊢
  go_enter Try.func83, Try.ntmps83
  go_wp2_with fail
  refine (C1 _).mono ?_
  rintro e w1 ⟨v, rfl, hown0, hb1⟩
  rw [bitsL_len] at hown0
  obtain ⟨_, hR⟩ := ReadRow.of_owns (bitsL_len N x) hown0
  clear hown0
  rcases hR with ⟨h0, aa, ca, rfl⟩ | ⟨g, ca, rfl, hg, hc⟩
  · subst h0
    have HW := Lib.hid (show 0 = E by rw [← HE.out]; simp [extL, wordL])
    go_wp2_with fail
    refine wp_loop_rounds 1 ?_
    rw [rounds_succ]
    go_wp2_with fail
    refine (word_nil _).mono ?_
    rintro e w2 ⟨rfl, rfl⟩
    go_wp2_with fail
    go_ret
    exact ⟨by rw [← HW.out]; rfl, hb1⟩
  · go_wp2_with fail
    go_loopw [10, 11] (fun v i wr => ∃ k : Nat, ∃ L : List Nat, k ≤ N ∧ Hid (L = extL (N - n) (x / 2 ^ n) f k) ∧ i = .int .i64 (k : Nat) ∧ wr.ownsRow w1.heap.size 3 1 v k (rowL L) ∧ Below w1.heap.size w1 wr)
      (fun _ i _ => N - (intOf i).toNat)
    case atStart => exact ⟨0, [], Nat.zero_le _, Lib.hid rfl, rfl, World.ownsRow_nil _ _ _ _, Below.refl _ _⟩
    case round =>
      obtain ⟨k, L, hk, HL, rfl, hown, hnx⟩ := hrel
      have hB : w1.heap.size ≤ wr.heap.size := hnx.size
      have hLk : (rowL L).length = k := by have := hown.1; omega
      by_cases hlt : k < N
      · obtain ⟨m, hmk⟩ : ∃ m : Nat, m = k + n := ⟨_, rfl⟩
        have hq : ((k : Nat) : Int) + ((n : Nat) : Int) = ((m : Nat) : Int) := by omega
        by_cases hmN : m < N
        · obtain ⟨b, hbx⟩ : ∃ b : Nat, b = x / 2 ^ m % 2 := ⟨_, rfl⟩
          have hcb : wr.cell? ⟨g, m, none⟩ = some (.int .i64 ((b : Nat) : Int)) := by
            rw [hbx, ← getD_bits N x m hmN]; exact (hnx.cell (by exact hg)).trans (hc m hmN)
          have HB : Hid (b = if k < N - n then x / 2 ^ n / 2 ^ k % 2 else f) := Lib.hid (by rw [if_pos (by omega), Nat.div_div_eq_div_mul, ← Nat.pow_add, Nat.add_comm n k, ← hmk]; exact hbx)
          clear hbx hmk
          go_wp2_with (at_builtin; refine wpList_append_own _ rfl _ _ 43 rfl w1.heap.size 3 i0 (.int .i64 0) 1 8 Try.underlying43 hi hz0 hz1 hz2 rfl (by decide) _ _ _ rfl (hown.alloc _) ⟨wr.heap.size, 0, none⟩ 1 1 [.int .i64 ((b : Nat) : Int)] rfl rfl ?c1 ?c2 ?c3 ?c4 ?c5 ?_)
          case c1 =>
            intro j u hj
            match j, hj with
            | 0, hj => simp at hj; subst hj; simp [Addr.add, go_sem]
          case c2 => intro u hu; simp at hu; subst hu; rfl
          case c3 => unfold maxLen; omega
          case c4 => omega
          case c5 => simp; omega
          intro v' w3 hown' hgrow _
          have R := rel_add (b := b) hown hnx hown' hgrow
          clear hown' hgrow hown hnx hq
          go_wp2_with fail
          go_roundw
          case rel => exact ⟨k + 1, L ++ [b], by omega, ext_step HL HB, by go_num, R.1, R.2⟩
          case measure => (simp [intOf] <;> omega)
        · have HB : Hid (f = if k < N - n then x / 2 ^ n / 2 ^ k % 2 else f) := Lib.hid (by rw [if_neg (by omega)])
          clear hmk
          go_wp2_with (at_builtin; refine wpList_append_own _ rfl _ _ 43 rfl w1.heap.size 3 i0 (.int .i64 0) 1 8 Try.underlying43 hi hz0 hz1 hz2 rfl (by decide) _ _ _ rfl (hown.alloc _) ⟨wr.heap.size, 0, none⟩ 1 1 [.int .i64 ((f : Nat) : Int)] rfl rfl ?c1 ?c2 ?c3 ?c4 ?c5 ?_)
          case c1 =>
            intro j u hj
            match j, hj with
            | 0, hj => simp at hj; subst hj; simp [Addr.add, go_sem]
          case c2 => intro u hu; simp at hu; subst hu; rfl
          case c3 => unfold maxLen; omega
          case c4 => omega
          case c5 => simp; omega
          intro v' w3 hown' hgrow _
          have R := rel_add (b := f) hown hnx hown' hgrow
          clear hown' hgrow hown hnx hq
          go_wp2_with fail
          go_roundw
          case rel => exact ⟨k + 1, L ++ [f], by omega, ext_step HL HB, by go_num, R.1, R.2⟩
          case measure => (simp [intOf] <;> omega)
      · have hkN : k = N := by omega
        subst hkN
        have HW := Lib.hid (show wordL L = E by rw [HL.out]; exact HE.out)
        have hLl : L.length = k := by simpa [rowL] using hLk
        have hL1 : ∀ z ∈ L, z ≤ 1 := by rw [HL.out]; exact extL_le _ _ _ _ hf
        go_wp2_with fail
        refine (word_row _ _ _ L (by omega) hL1 _ (by rw [hLl]; exact hown)).mono ?_
        rintro e w4 ⟨rfl, rfl⟩
        go_wp2_with fail
        go_ret
        exact ⟨by rw [HW.out]; rfl, hb1.trans (hnx.mono hb1.size)⟩
end Go.Proofs.Ythkdojgagmaecab
