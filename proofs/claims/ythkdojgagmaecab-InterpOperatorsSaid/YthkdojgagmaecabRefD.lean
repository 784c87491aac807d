/- Layer 1's reference: mul. -/
import Derived.Test.YthkdojgagmaecabRefC
namespace Go.Proofs.Ythkdojgagmaecab
open Go.RowKit

/-- The state of the multiplication: the shifted factor, and the sum so far. -/
def MulAt (W x y k X O : Nat) : Prop := X % 2 ^ W = x * 2 ^ k % 2 ^ W ∧ O = x * (y % 2 ^ k) % 2 ^ W
theorem MulAt.start (W x y : Nat) : MulAt W x y 0 x 0 := ⟨by simp, by simp [Nat.mod_one]⟩
theorem mul_shift {W x y k X : Nat} (h : X % 2 ^ W = x * 2 ^ k % 2 ^ W) : X * 2 ^ 1 % 2 ^ W % 2 ^ W = x * 2 ^ (k + 1) % 2 ^ W := by
  rw [Nat.mod_mod, Nat.mul_mod, h, ← Nat.mul_mod, Nat.mul_assoc, ← Nat.pow_add]
theorem MulAt.one {W x y k X O : Nat} (h : MulAt W x y k X O) (hb : y / 2 ^ k % 2 = 1) : MulAt W x y (k + 1) (X * 2 ^ 1 % 2 ^ W) ((O % 2 ^ W + X % 2 ^ W + 0) % 2 ^ W) := by
  obtain ⟨h1, h2⟩ := h
  refine ⟨mul_shift (y := y) h1, ?_⟩
  rw [h1, h2, Nat.mod_mod, Nat.add_zero, ← Nat.add_mod, Nat.pow_succ, Nat.mod_mul, hb, Nat.mul_one, Nat.mul_add]
theorem MulAt.zero {W x y k X O : Nat} (h : MulAt W x y k X O) (hb : y / 2 ^ k % 2 = 0) : MulAt W x y (k + 1) (X * 2 ^ 1 % 2 ^ W) O := by
  obtain ⟨h1, h2⟩ := h
  refine ⟨mul_shift (y := y) h1, ?_⟩
  rw [h2, Nat.pow_succ, Nat.mod_mul, hb, Nat.mul_zero, Nat.add_zero]
theorem MulAt.lt {W x y k X O : Nat} (h : MulAt W x y k X O) (hW : W ≤ 64) : O < 18446744073709551616 := by
  rw [h.2]
  exact Nat.lt_of_lt_of_le (Nat.mod_lt _ (pow_pos W)) (by rw [← pow64]; exact Nat.pow_le_pow_right (by decide) hW)
theorem MulAt.fin {W x y X O : Nat} (h : MulAt W x y W X O) : O = x * y % 2 ^ W := by
  rw [h.2, Nat.mul_mod, Nat.mod_mod, ← Nat.mul_mod]

theorem rmul_any (a : Int) (x y : Nat) (hx : x < 18446744073709551616) (hy : y < 18446744073709551616) (w : World) :
    Calls Try.prog 80 #[.int .i64 a, .int .u64 x, .int .u64 y] w fun e w' => e = .returned (.int .u64 (fitN a (x * y) : Nat)) ∧ Below w.heap.size w w' := by
  have hm := wid_le a
  have HE : Hid (x * y % 2 ^ wid a = fitN a (x * y)) := Lib.hid (by rw [wid_cw]; rfl)
  have C1 := fun w => rbits_any a y hy w
  have C2 := fun (X : Nat) (hX : X < 18446744073709551616) w => rbits_any a X hX w
  have C3 := fun (X : Nat) (hX : X < 18446744073709551616) w => rshl_any a X 1 hX (by decide) w
  have hfit : ∀ X, fitN a X = X % 2 ^ wid a := fun X => by rw [wid_cw]; rfl
  have hfl : ∀ X, X * 2 ^ 1 % 2 ^ wid a < 18446744073709551616 := fun X => by rw [← hfit]; exact fitN_lt _ _
  simp only [hfit] at C3
  generalize fitN a (x * y) = E at HE ⊢
  generalize wid a = N at hm HE C1 C2 C3 hfl
  clear hfit
  go_enter Try.func80, Try.ntmps80
  go_wp2_with fail
  refine (C1 _).mono ?_
  rintro e w1 ⟨v, rfl, hown0, hb1⟩
  rw [bitsL_len] at hown0
  obtain ⟨_, hR⟩ := ReadRow.of_owns (bitsL_len N y) hown0
  clear hown0
  rcases hR with ⟨h0, aa, ca, rfl⟩ | ⟨g, ca, rfl, hg, hc⟩
  · subst h0
    have HW := Lib.hid (show 0 = E by rw [← HE.out]; simp [Nat.mod_one])
    go_wp2_with fail
    refine wp_loop_rounds 1 ?_
    rw [rounds_succ]
    go_wp2_with fail
    go_ret
    exact ⟨by rw [← HW.out]; rfl, hb1⟩
  · go_wp2_with fail
    go_loopw [1, 8, 9] (fun xx oo i wr => ∃ k X O : Nat, k ≤ N ∧ X < 18446744073709551616 ∧ O < 18446744073709551616 ∧ Hid (MulAt N x y k X O) ∧ xx = .int .u64 (X : Nat) ∧ oo = .int .u64 (O : Nat) ∧ i = .int .i64 (k : Nat) ∧ Below w1.heap.size w1 wr)
      (fun _ _ i _ => N - (intOf i).toNat)
    case atStart => exact ⟨0, x, 0, Nat.zero_le _, hx, by decide, Lib.hid (MulAt.start N x y), rfl, rfl, rfl, Below.refl _ _⟩
    case round =>
      obtain ⟨k, X, O, hk, hX, hO, HM, rfl, rfl, rfl, hnx⟩ := hrel
      by_cases hlt : k < N
      · obtain ⟨b, hbx⟩ : ∃ b : Nat, b = y / 2 ^ k % 2 := ⟨_, rfl⟩
        have hcb : wr.cell? ⟨g, k, none⟩ = some (.int .i64 ((b : Nat) : Int)) := by
          rw [hbx, ← getD_bits N y k hlt]; exact (hnx.cell (by exact hg)).trans (hc k hlt)
        have hb01 : b = 0 ∨ b = 1 := by omega
        obtain ⟨X', hX'⟩ : ∃ X' : Nat, X' = X * 2 ^ 1 % 2 ^ N := ⟨_, rfl⟩
        have hXl : X' < 18446744073709551616 := by rw [hX']; exact hfl X
        have C3' := fun w => C3 X hX w
        rw [← hX'] at C3'
        have CX := fun w => C2 X hX w
        have CO := fun w => C2 O hO w
        rcases hb01 with rfl | rfl
        · have HM2 : Hid (MulAt N x y (k + 1) X' O) := Lib.hid (by rw [hX']; exact HM.out.zero hbx.symm)
          clear hbx hX' HM
          go_wp2_with fail
          refine (C3' _).mono ?_
          rintro e w3 ⟨rfl, hb3⟩
          have hnx2 := hnx.trans (hb3.mono hnx.size)
          clear hnx hb3
          go_wp2_with fail
          go_roundw
          case rel => exact ⟨k + 1, X', O, by omega, hXl, hO, HM2, rfl, rfl, by go_num, hnx2⟩
          case measure => (simp [intOf] <;> omega)
        · obtain ⟨O', hO'⟩ : ∃ O' : Nat, O' = (O % 2 ^ N + X % 2 ^ N + 0) % 2 ^ N := ⟨_, rfl⟩
          have HM2 : Hid (MulAt N x y (k + 1) X' O') := Lib.hid (by rw [hX', hO']; exact HM.out.one hbx.symm)
          have hOl : O' < 18446744073709551616 := HM2.out.lt hm
          have HO := Lib.hid hO'
          clear hbx hX' HM hO'
          go_wp2_with fail
          refine (CO _).mono ?_
          rintro e w3 ⟨v3, rfl, hown3, hb3⟩
          rw [bitsL_len] at hown3
          have R3 := Lib.hid (ReadRow.of_owns (bitsL_len N O) hown3)
          clear hown3
          go_wp2_with fail
          refine (CX _).mono ?_
          rintro e w4 ⟨v4, rfl, hown4, hb4⟩
          rw [bitsL_len] at hown4
          have R4 := Lib.hid (ReadRow.of_owns (bitsL_len N X) hown4)
          have R3' := Lib.hid (R3.out.below hb4)
          clear hown4
          go_wp2_with fail
          refine (radd_any v3 v4 (bitsL N O) (bitsL N X) N 0 _ hm (bitsL_le _ _) (bitsL_le _ _) (by decide) R3'.out R4.out).mono ?_
          rintro e w5 ⟨v5, L5, rfl, hown5, hL5, hL51, hW5, hb5⟩
          rw [word_bits, word_bits] at hW5
          have HW5 := Lib.hid hW5
          clear hW5
          go_wp2_with fail
          refine (word_row _ _ _ L5 (by omega) hL51 _ (by rw [hL5]; exact hown5)).mono ?_
          rintro e w6 ⟨rfl, rfl⟩
          rw [HW5.out, ← HO.out]
          have hnx1 := hnx.trans ((hb3.trans ((hb4.trans (hb5.mono hb4.size)).mono hb3.size)).mono hnx.size)
          clear hnx hb3 hb4 hb5 hown5
          go_wp2_with fail
          refine (C3' _).mono ?_
          rintro e w7 ⟨rfl, hb7⟩
          have hnx2 := hnx1.trans (hb7.mono hnx1.size)
          clear hnx1 hb7
          go_wp2_with fail
          go_roundw
          case rel => exact ⟨k + 1, X', O', by omega, hXl, hOl, HM2, rfl, rfl, by go_num, hnx2⟩
          case measure => (simp [intOf] <;> omega)
      · have hkN : k = N := by omega
        subst hkN
        have HW := Lib.hid (show O = E by rw [HM.out.fin]; exact HE.out)
        go_wp2_with fail
        go_ret
        exact ⟨by rw [HW.out]; rfl, hb1.trans (hnx.mono hb1.size)⟩
end Go.Proofs.Ythkdojgagmaecab
