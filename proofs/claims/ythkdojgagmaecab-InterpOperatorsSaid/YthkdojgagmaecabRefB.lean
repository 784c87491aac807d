/- Layer 1's reference: Shl. -/
import Derived.Test.YthkdojgagmaecabRef
namespace Go.Proofs.Ythkdojgagmaecab
open Go.RowKit

theorem shl_bit_in (x n k m : Nat) (h : k = n + m) : x * 2 ^ n / 2 ^ k % 2 = x / 2 ^ m % 2 := by
  rw [h, Nat.pow_add, ← Nat.div_div_eq_div_mul, Nat.mul_div_cancel _ (pow_pos n)]
theorem shl_bit_out (x n k : Nat) (h : k < n) : x * 2 ^ n / 2 ^ k % 2 = 0 := by
  obtain ⟨d, rfl⟩ : ∃ d, n = k + (d + 1) := ⟨n - k - 1, by omega⟩
  rw [Nat.pow_add, Nat.pow_succ, show x * (2 ^ k * (2 ^ d * 2)) = 2 ^ k * (2 * (x * 2 ^ d)) by
    rw [Nat.mul_comm (2 ^ d) 2, Nat.mul_left_comm x, Nat.mul_left_comm x], Nat.mul_div_cancel_left _ (pow_pos k)]
  omega
theorem shl_step {x n k b : Nat} {L : List Nat} (H : Hid (L = bitsL k (x * 2 ^ n))) (hb : Hid (b = x * 2 ^ n / 2 ^ k % 2)) : Hid (L ++ [b] = bitsL (k + 1) (x * 2 ^ n)) := by
  obtain rfl := H.out
  rw [hb.out]; exact Lib.hid (bitsL_succ _ _).symm
theorem getD_bits (n x m : Nat) (h : m < n) : (bitsL n x).getD m 0 = x / 2 ^ m % 2 := by
  simp [bitsL, List.getD, h]

theorem rshl_any (a : Int) (x n : Nat) (hx : x < 18446744073709551616) (hn : n ≤ 64) (w : World) :
    Calls Try.prog 81 #[.int .i64 a, .int .u64 x, .int .i64 n] w fun e w' => e = .returned (.int .u64 (fitN a (x * 2 ^ n) : Nat)) ∧ Below w.heap.size w w' := by
  obtain ⟨i0, hi, hz0, hz1, hz2⟩ := info_parts info_int
  have HE : Hid (wordL (bitsL (wid a) (x * 2 ^ n)) = fitN a (x * 2 ^ n)) := Lib.hid (by rw [word_bits, wid_cw]; rfl)
  have hm := wid_le a
  have C1 := fun w => rbits_any a x hx w
  generalize wid a = N at hm HE C1
  generalize fitN a (x * 2 ^ n) = E at HE ⊢
  go_enter Try.func81, Try.ntmps81
  go_wp2_with fail
  refine (C1 _).mono ?_
  rintro e w1 ⟨v, rfl, hown0, hb1⟩
  rw [bitsL_len] at hown0
  obtain ⟨_, hR⟩ := ReadRow.of_owns (bitsL_len N x) hown0
  clear hown0
  rcases hR with ⟨h0, aa, ca, rfl⟩ | ⟨g, ca, rfl, hg, hc⟩
  · subst h0
    have HW := Lib.hid (show 0 = E by rw [← HE.out]; rfl)
    go_wp2_with fail
    refine wp_loop_rounds 1 ?_
    rw [rounds_succ]
    go_wp2_with fail
    refine (word_nil _).mono ?_
    rintro e w2 ⟨rfl, rfl⟩
    go_wp2_with fail
    go_ret
    exact ⟨by rw [← HW.out]; rfl, hb1⟩
  · go_wp2_with fail
    go_loopw [8, 9] (fun v i wr => ∃ k : Nat, ∃ L : List Nat, k ≤ N ∧ Hid (L = bitsL k (x * 2 ^ n)) ∧ i = .int .i64 (k : Nat) ∧ wr.ownsRow w1.heap.size 3 1 v k (rowL L) ∧ Below w1.heap.size w1 wr)
      (fun _ i _ => N - (intOf i).toNat)
    case atStart => exact ⟨0, [], Nat.zero_le _, Lib.hid rfl, rfl, World.ownsRow_nil _ _ _ _, Below.refl _ _⟩
    case round =>
      obtain ⟨k, L, hk, HL, rfl, hown, hnx⟩ := hrel
      have hB : w1.heap.size ≤ wr.heap.size := hnx.size
      have hLk : (rowL L).length = k := by have := hown.1; omega
      by_cases hlt : k < N
      · by_cases hkn : n ≤ k
        · obtain ⟨m, hmk⟩ : ∃ m, k = n + m := ⟨k - n, by omega⟩
          obtain ⟨b, hbx⟩ : ∃ b : Nat, b = x / 2 ^ m % 2 := ⟨_, rfl⟩
          have hmN : m < N := by omega
          have hcb : wr.cell? ⟨g, m, none⟩ = some (.int .i64 ((b : Nat) : Int)) := by
            rw [hbx, ← getD_bits N x m hmN]; exact (hnx.cell (by exact hg)).trans (hc m hmN)
          have HB : Hid (b = x * 2 ^ n / 2 ^ k % 2) := Lib.hid (by rw [shl_bit_in x n k m hmk]; exact hbx)
          have hq : ((k : Nat) : Int) - ((n : Nat) : Int) = ((m : Nat) : Int) := by omega
          have hlt2 : k < N := hlt
          clear hbx hmk
          go_wp2_with (at_builtin; refine wpList_append_own _ rfl _ _ 43 rfl w1.heap.size 3 i0 (.int .i64 0) 1 8 Try.underlying43 hi hz0 hz1 hz2 rfl (by decide) _ _ _ rfl (hown.alloc _) ⟨wr.heap.size, 0, none⟩ 1 1 [.int .i64 ((b : Nat) : Int)] rfl rfl ?c1 ?c2 ?c3 ?c4 ?c5 ?_)
          case c1 =>
            intro j u hj
            match j, hj with
            | 0, hj => simp at hj; subst hj; simp [Addr.add, go_sem]
          case c2 => intro u hu; simp at hu; subst hu; rfl
          case c3 => unfold maxLen; omega
          case c4 => omega
          case c5 => simp; omega
          intro v' w3 hown' hgrow _
          have R := rel_add (b := b) hown hnx hown' hgrow
          clear hown' hgrow hown hnx hq
          go_wp2_with fail
          go_roundw
          case rel => exact ⟨k + 1, L ++ [b], by omega, shl_step HL HB, by go_num, R.1, R.2⟩
          case measure => (simp [intOf] <;> omega)
        · have HB : Hid (0 = x * 2 ^ n / 2 ^ k % 2) := Lib.hid (shl_bit_out x n k (by omega)).symm
          go_wp2_with (at_builtin; refine wpList_append_own _ rfl _ _ 43 rfl w1.heap.size 3 i0 (.int .i64 0) 1 8 Try.underlying43 hi hz0 hz1 hz2 rfl (by decide) _ _ _ rfl (hown.alloc _) ⟨wr.heap.size, 0, none⟩ 1 1 [.int .i64 0] rfl rfl ?c1 ?c2 ?c3 ?c4 ?c5 ?_)
          case c1 =>
            intro j u hj
            match j, hj with
            | 0, hj => simp at hj; subst hj; simp [Addr.add, go_sem]
          case c2 => intro u hu; simp at hu; subst hu; rfl
          case c3 => unfold maxLen; omega
          case c4 => omega
          case c5 => simp; omega
          intro v' w3 hown' hgrow _
          have R := rel_add (b := 0) hown hnx hown' hgrow
          clear hown' hgrow hown hnx
          go_wp2_with fail
          go_roundw
          case rel => exact ⟨k + 1, L ++ [0], by omega, shl_step HL HB, by go_num, R.1, R.2⟩
          case measure => (simp [intOf] <;> omega)
      · have hkN : k = N := by omega
        subst hkN
        have HW := Lib.hid (show wordL L = E by rw [HL.out]; exact HE.out)
        have hLl : L.length = k := by simpa [rowL] using hLk
        have hL1 : ∀ z ∈ L, z ≤ 1 := by rw [HL.out]; exact bitsL_le _ _
        go_wp2_with fail
        refine (word_row _ _ _ L (by omega) hL1 _ (by rw [hLl]; exact hown)).mono ?_
        rintro e w4 ⟨rfl, rfl⟩
        go_wp2_with fail
        go_ret
        exact ⟨by rw [HW.out]; rfl, hb1.trans (hnx.mono hb1.size)⟩
end Go.Proofs.Ythkdojgagmaecab
