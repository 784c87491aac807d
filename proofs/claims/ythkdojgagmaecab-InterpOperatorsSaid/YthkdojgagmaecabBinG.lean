/- Layer 1's reference: Binary at and, or, xor. -/
import Derived.Test.YthkdojgagmaecabBin
import Derived.Test.YthkdojgagmaecabBinM
import Derived.Deep.RegionHeld3
import Derived.Deep.AppendLies
import Derived.OwnWalk
import Derived.Laws.Pointers
namespace Go.Proofs.Ythkdojgagmaecab
open Go.RowKit

theorem owns_below {w w1 : World} {base e size n : Nat} {v : Value} {xs : List Value} (h : w.ownsRow base e size v n xs) (hb : Below w.heap.size w w1) : w1.ownsRow base e size v n xs := by
  refine ⟨h.1, h.2.imp id ?_⟩
  rintro ⟨g, cap, cur, rfl, h1, h2, h3⟩
  exact ⟨g, cap, cur, rfl, h1, (hb.block g (Array.getElem?_eq_some_iff.1 h2).1).trans h2, h3⟩
theorem own_far {w : World} {base e size n g : Nat} {v : Value} {xs : List Value} (h : w.ownsRow base e size v n xs) (hg : g < base) : v.ownBlock ≠ some g := fun he => by
  have := (h.lt _ he).1; omega
theorem bit_step {Z k b : Nat} {L : List Nat} (H : Hid (L = bitsL k Z)) (hb : Hid (b = Z / 2 ^ k % 2)) : Hid (L ++ [b] = bitsL (k + 1) Z) := by
  obtain rfl := H.out
  rw [hb.out]; exact Lib.hid (bitsL_succ _ _).symm

set_option maxRecDepth 100000 in
set_option maxHeartbeats 1600000 in
theorem rbin_and (a : Int) (x y E : Nat) (hx : x < 18446744073709551616) (hy : y < 18446744073709551616) (hE : Hid ((fitN a x &&& fitN a y) % 2 ^ wid a = E)) (w : World) :
    Calls Try.prog 63 #[.int .i64 9, .int .i64 a, .int .u64 x, .int .u64 y] w fun e w' => e = .returned (.int .u64 (E : Nat)) ∧ Below w.heap.size w w' := by
  obtain ⟨i0, hi, hz0, hz1, hz2⟩ := info_parts info_int
  have CX := fun w => rfit_any a x hx w
  have CY := fun w => rfit_any a y hy w
  have BX := fun w => rbits_any a (fitN a x) (fitN_lt a x) w
  have BY := fun w => rbits_any a (fitN a y) (fitN_lt a y) w
  have CN := fun w => rneg_any a (fitN a x) (fitN_lt a x) w
  have hm := wid_le a
  generalize fitN a x = X at CX BX CN hE
  generalize fitN a y = Y at CY BY hE
  generalize wid a = N at BX BY hm hE
  generalize negB a X = S at CN
  have HE : Hid (wordL (bitsL N (X &&& Y)) = E) := Lib.hid (by rw [word_bits]; exact hE.out)
  clear hE
  go_enter Try.func63, Try.ntmps63
  go_wp2_with fail
  refine (CX _).mono ?_
  rintro e u1 ⟨rfl, hb1⟩
  go_wp2_with fail
  refine (CY _).mono ?_
  rintro e u2 ⟨rfl, hb2⟩
  have B2 := hb1.trans (hb2.mono hb1.size)
  clear hb1 hb2
  go_wp2_with fail
  refine (BX _).mono ?_
  rintro e u3 ⟨v1, rfl, hown1, hb3⟩
  rw [bitsL_len] at hown1
  have R1 := Lib.hid (ReadRow.of_owns (bitsL_len N X) hown1)
  clear hown1
  go_wp2_with fail
  refine (BY _).mono ?_
  rintro e u4 ⟨v2, rfl, hown2, hb4⟩
  rw [bitsL_len] at hown2
  obtain ⟨_, Q2⟩ := ReadRow.of_owns (bitsL_len N Y) hown2
  obtain ⟨_, Q1⟩ := R1.out.below hb4
  have B4 := B2.trans ((hb3.trans (hb4.mono hb3.size)).mono B2.size)
  clear hown2 R1 hb3 hb4 B2
  rcases Q1 with ⟨h0, aa, ca, rfl⟩ | ⟨g1, ca, rfl, hg1, hc1⟩
  · subst h0
    have HW := Lib.hid (show 0 = E by rw [← HE.out]; rfl)
    rcases Q2 with ⟨_, ab, cb, rfl⟩ | ⟨g2, cb, rfl, _, _⟩
    · go_wp2_with fail
      refine wp_loop_rounds 1 ?_
      rw [rounds_succ]
      cases S <;> (
        go_wp2_with fail
        refine (CN _).mono ?_
        rintro e u5 ⟨rfl, hb5⟩
        have B5 := B4.trans (hb5.mono B4.size)
        clear hb5 B4
        go_wp2_with fail
        refine (word_nil _).mono ?_
        rintro e u6 ⟨rfl, rfl⟩
        go_wp2_with fail
        go_ret
        exact ⟨by rw [← HW.out]; rfl, B5⟩)
    · go_wp2_with fail
      refine wp_loop_rounds 1 ?_
      rw [rounds_succ]
      cases S <;> (
        go_wp2_with fail
        refine (CN _).mono ?_
        rintro e u5 ⟨rfl, hb5⟩
        have B5 := B4.trans (hb5.mono B4.size)
        clear hb5 B4
        go_wp2_with fail
        refine (word_nil _).mono ?_
        rintro e u6 ⟨rfl, rfl⟩
        go_wp2_with fail
        go_ret
        exact ⟨by rw [← HW.out]; rfl, B5⟩)
  · rcases Q2 with ⟨h0, ab, cb, rfl⟩ | ⟨g2, cb, rfl, hg2, hc2⟩
    · subst h0
      have HW := Lib.hid (show 0 = E by rw [← HE.out]; rfl)
      go_wp2_with fail
      refine wp_loop_rounds 1 ?_
      rw [rounds_succ]
      cases S <;> (
        go_wp2_with fail
        refine (CN _).mono ?_
        rintro e u5 ⟨rfl, hb5⟩
        have B5 := B4.trans (hb5.mono B4.size)
        clear hb5 B4
        go_wp2_with fail
        refine (word_nil _).mono ?_
        rintro e u6 ⟨rfl, rfl⟩
        go_wp2_with fail
        go_ret
        exact ⟨by rw [← HW.out]; rfl, B5⟩)
    · go_wp2_with fail
      go_loopw [11, 12] (fun v i wr => ∃ k : Nat, ∃ L : List Nat, k ≤ N ∧ Hid (L = bitsL k (X &&& Y)) ∧ i = .int .i64 (k : Nat) ∧ wr.ownsRow u4.heap.size 3 1 v k (rowL L) ∧ Below u4.heap.size u4 wr)
        (fun _ i _ => N - (intOf i).toNat)
      case atStart => exact ⟨0, [], Nat.zero_le _, Lib.hid rfl, rfl, World.ownsRow_nil _ _ _ _, Below.refl _ _⟩
      case round =>
        obtain ⟨k, L, hk, HL, rfl, hown, hnx⟩ := hrel
        have hB : u4.heap.size ≤ wr.heap.size := hnx.size
        have hLk : (rowL L).length = k := by have := hown.1; omega
        by_cases hlt : k < N
        · have ag1 := own_far hown hg1
          have ag2 := own_far hown hg2
          have h63 : k + 1 ≤ maxLen := by unfold maxLen; omega
          have hby : (k + 1) * 8 ≤ 140737488355328 := by omega
          have lg1 : g1 < wr.heap.size := by omega
          have lg2 : g2 < wr.heap.size := by omega
          have i0' : (0 : Int) ≤ (k : Int) := Int.natCast_nonneg _
          have i1' : (k : Int) < (N : Int) := by omega
          rcases Nat.mod_two_eq_zero_or_one (X / 2 ^ k) with px | px <;> rcases Nat.mod_two_eq_zero_or_one (Y / 2 ^ k) with py | py
          · have ca1 : wr.cell? ⟨g1, k, none⟩ = some (.int .i64 0) := by
              have h := (hnx.cell (p := ⟨g1, k, none⟩) (by exact hg1)).trans (hc1 k hlt)
              rw [getD_bits N X k hlt, px] at h; exact h
            have ca2 : wr.cell? ⟨g2, k, none⟩ = some (.int .i64 0) := by
              have h := (hnx.cell (p := ⟨g2, k, none⟩) (by exact hg2)).trans (hc2 k hlt)
              rw [getD_bits N Y k hlt, py] at h; exact h
            have HB : Hid (0 = (X &&& Y) / 2 ^ k % 2) := Lib.hid (by rw [and_bit, px, py] <;> rfl)
            clear px py
            go_wp2_with fail
            go_region_held3 (fun w' => w'.cell? ⟨g1, k, none⟩ = some (.int .i64 0) ∧ w'.cell? ⟨g2, k, none⟩ = some (.int .i64 0))
              (first
                | go_keep
                | (go_split_ands
                   refine ⟨?_, ?_⟩
                   · (rw [hgrow.cell_far _ (by simp; omega) (Ne.symm ag1)]; assumption)
                   · (rw [hgrow.cell_far _ (by simp; omega) (Ne.symm ag2)]; assumption)))
              ((refine step_append_lies _ (by rfl) _ _ _ (by rfl) u4.heap.size 3 i0 _ 1 8 Try.underlying43 hi hz0 hz1 hz2 rfl (by omega) _ _ _ (by rfl) ((hown.alloc _).drew) ⟨wr.heap.size, 0, none⟩ 1 1 [.int .i64 0] (by rfl) (by rfl) (World.news_of_block (cs := #[.int .i64 0]) (t := 3) (fr := (0, 0)) (heap_alloc_new wr _)) (by simp [Value.oneCell']) (by omega) h63 hby (by simp; omega) (wr.heap.size + 1) (by simp) ?_; intro gg cap w3 hown' hgrow hat hlt'))
            have R := rel_add (b := 0) (wr := wr.drew) hown.drew (below_drewN2 hnx 1) hown' hgrow
            clear hown' hgrow hown hnx hat hlt' ag1 ag2
            go_wp2_with fail
            go_roundw
            case rel => exact ⟨k + 1, L ++ [0], by omega, bit_step HL HB, by go_num, R.1, R.2⟩
            case measure => (simp [intOf] <;> omega)
          · have ca1 : wr.cell? ⟨g1, k, none⟩ = some (.int .i64 0) := by
              have h := (hnx.cell (p := ⟨g1, k, none⟩) (by exact hg1)).trans (hc1 k hlt)
              rw [getD_bits N X k hlt, px] at h; exact h
            have ca2 : wr.cell? ⟨g2, k, none⟩ = some (.int .i64 1) := by
              have h := (hnx.cell (p := ⟨g2, k, none⟩) (by exact hg2)).trans (hc2 k hlt)
              rw [getD_bits N Y k hlt, py] at h; exact h
            have HB : Hid (0 = (X &&& Y) / 2 ^ k % 2) := Lib.hid (by rw [and_bit, px, py] <;> rfl)
            clear px py
            go_wp2_with fail
            go_region_held3 (fun w' => w'.cell? ⟨g1, k, none⟩ = some (.int .i64 0) ∧ w'.cell? ⟨g2, k, none⟩ = some (.int .i64 1))
              (first
                | go_keep
                | (go_split_ands
                   refine ⟨?_, ?_⟩
                   · (rw [hgrow.cell_far _ (by simp; omega) (Ne.symm ag1)]; assumption)
                   · (rw [hgrow.cell_far _ (by simp; omega) (Ne.symm ag2)]; assumption)))
              ((refine step_append_lies _ (by rfl) _ _ _ (by rfl) u4.heap.size 3 i0 _ 1 8 Try.underlying43 hi hz0 hz1 hz2 rfl (by omega) _ _ _ (by rfl) ((hown.alloc _).drew) ⟨wr.heap.size, 0, none⟩ 1 1 [.int .i64 0] (by rfl) (by rfl) (World.news_of_block (cs := #[.int .i64 0]) (t := 3) (fr := (0, 0)) (heap_alloc_new wr _)) (by simp [Value.oneCell']) (by omega) h63 hby (by simp; omega) (wr.heap.size + 1) (by simp) ?_; intro gg cap w3 hown' hgrow hat hlt'))
            have R := rel_add (b := 0) (wr := wr.drew) hown.drew (below_drewN2 hnx 1) hown' hgrow
            clear hown' hgrow hown hnx hat hlt' ag1 ag2
            go_wp2_with fail
            go_roundw
            case rel => exact ⟨k + 1, L ++ [0], by omega, bit_step HL HB, by go_num, R.1, R.2⟩
            case measure => (simp [intOf] <;> omega)
          · have ca1 : wr.cell? ⟨g1, k, none⟩ = some (.int .i64 1) := by
              have h := (hnx.cell (p := ⟨g1, k, none⟩) (by exact hg1)).trans (hc1 k hlt)
              rw [getD_bits N X k hlt, px] at h; exact h
            have ca2 : wr.cell? ⟨g2, k, none⟩ = some (.int .i64 0) := by
              have h := (hnx.cell (p := ⟨g2, k, none⟩) (by exact hg2)).trans (hc2 k hlt)
              rw [getD_bits N Y k hlt, py] at h; exact h
            have HB : Hid (0 = (X &&& Y) / 2 ^ k % 2) := Lib.hid (by rw [and_bit, px, py] <;> rfl)
            clear px py
            go_wp2_with fail
            go_region_held3 (fun w' => w'.cell? ⟨g1, k, none⟩ = some (.int .i64 1) ∧ w'.cell? ⟨g2, k, none⟩ = some (.int .i64 0))
              (first
                | go_keep
                | (go_split_ands
                   refine ⟨?_, ?_⟩
                   · (rw [hgrow.cell_far _ (by simp; omega) (Ne.symm ag1)]; assumption)
                   · (rw [hgrow.cell_far _ (by simp; omega) (Ne.symm ag2)]; assumption)))
              ((refine step_append_lies _ (by rfl) _ _ _ (by rfl) u4.heap.size 3 i0 _ 1 8 Try.underlying43 hi hz0 hz1 hz2 rfl (by omega) _ _ _ (by rfl) ((hown.alloc _).drew) ⟨wr.heap.size, 0, none⟩ 1 1 [.int .i64 0] (by rfl) (by rfl) (World.news_of_block (cs := #[.int .i64 0]) (t := 3) (fr := (0, 0)) (heap_alloc_new wr _)) (by simp [Value.oneCell']) (by omega) h63 hby (by simp; omega) (wr.heap.size + 1) (by simp) ?_; intro gg cap w3 hown' hgrow hat hlt'))
            have R := rel_add (b := 0) (wr := wr.drew) hown.drew (below_drewN2 hnx 1) hown' hgrow
            clear hown' hgrow hown hnx hat hlt' ag1 ag2
            go_wp2_with fail
            go_roundw
            case rel => exact ⟨k + 1, L ++ [0], by omega, bit_step HL HB, by go_num, R.1, R.2⟩
            case measure => (simp [intOf] <;> omega)
          · have ca1 : wr.cell? ⟨g1, k, none⟩ = some (.int .i64 1) := by
              have h := (hnx.cell (p := ⟨g1, k, none⟩) (by exact hg1)).trans (hc1 k hlt)
              rw [getD_bits N X k hlt, px] at h; exact h
            have ca2 : wr.cell? ⟨g2, k, none⟩ = some (.int .i64 1) := by
              have h := (hnx.cell (p := ⟨g2, k, none⟩) (by exact hg2)).trans (hc2 k hlt)
              rw [getD_bits N Y k hlt, py] at h; exact h
            have HB : Hid (1 = (X &&& Y) / 2 ^ k % 2) := Lib.hid (by rw [and_bit, px, py] <;> rfl)
            clear px py
            go_wp2_with fail
            go_region_held3 (fun w' => w'.cell? ⟨g1, k, none⟩ = some (.int .i64 1) ∧ w'.cell? ⟨g2, k, none⟩ = some (.int .i64 1))
              (first
                | go_keep
                | (go_split_ands
                   refine ⟨?_, ?_⟩
                   · (rw [hgrow.cell_far _ (by simp; omega) (Ne.symm ag1)]; assumption)
                   · (rw [hgrow.cell_far _ (by simp; omega) (Ne.symm ag2)]; assumption)))
              ((refine step_append_lies _ (by rfl) _ _ _ (by rfl) u4.heap.size 3 i0 _ 1 8 Try.underlying43 hi hz0 hz1 hz2 rfl (by omega) _ _ _ (by rfl) ((hown.alloc _).drew) ⟨wr.heap.size, 0, none⟩ 1 1 [.int .i64 1] (by rfl) (by rfl) (World.news_of_block (cs := #[.int .i64 1]) (t := 3) (fr := (0, 0)) (heap_alloc_new wr _)) (by simp [Value.oneCell']) (by omega) h63 hby (by simp; omega) (wr.heap.size + 1) (by simp) ?_; intro gg cap w3 hown' hgrow hat hlt'))
            have R := rel_add (b := 1) (wr := wr.drew) hown.drew (below_drewN2 hnx 1) hown' hgrow
            clear hown' hgrow hown hnx hat hlt' ag1 ag2
            go_wp2_with fail
            go_roundw
            case rel => exact ⟨k + 1, L ++ [1], by omega, bit_step HL HB, by go_num, R.1, R.2⟩
            case measure => (simp [intOf] <;> omega)
        · have hkN : k = N := by omega
          subst hkN
          have HW := Lib.hid (show wordL L = E by rw [HL.out]; exact HE.out)
          have hLl : L.length = k := by simpa [rowL] using hLk
          have hL1 : ∀ z ∈ L, z ≤ 1 := by rw [HL.out]; exact bitsL_le _ _
          cases S <;> (
            go_wp2_with fail
            refine (CN _).mono ?_
            rintro e u5 ⟨rfl, hb5⟩
            have B5 := (B4.trans (hnx.mono B4.size)).trans (hb5.mono (B4.trans (hnx.mono B4.size)).size)
            have hown5 := owns_below hown hb5
            clear hown hb5 B4
            go_wp2_with fail
            refine (word_row _ _ _ L (by omega) hL1 _ (by rw [hLl]; exact hown5)).mono ?_
            rintro e u6 ⟨rfl, rfl⟩
            go_wp2_with fail
            go_ret
            exact ⟨by rw [HW.out]; rfl, B5⟩)

set_option maxRecDepth 100000 in
set_option maxHeartbeats 1600000 in
theorem rbin_or (a : Int) (x y E : Nat) (hx : x < 18446744073709551616) (hy : y < 18446744073709551616) (hE : Hid ((fitN a x ||| fitN a y) % 2 ^ wid a = E)) (w : World) :
    Calls Try.prog 63 #[.int .i64 10, .int .i64 a, .int .u64 x, .int .u64 y] w fun e w' => e = .returned (.int .u64 (E : Nat)) ∧ Below w.heap.size w w' := by
  obtain ⟨i0, hi, hz0, hz1, hz2⟩ := info_parts info_int
  have CX := fun w => rfit_any a x hx w
  have CY := fun w => rfit_any a y hy w
  have BX := fun w => rbits_any a (fitN a x) (fitN_lt a x) w
  have BY := fun w => rbits_any a (fitN a y) (fitN_lt a y) w
  have CN := fun w => rneg_any a (fitN a x) (fitN_lt a x) w
  have hm := wid_le a
  generalize fitN a x = X at CX BX CN hE
  generalize fitN a y = Y at CY BY hE
  generalize wid a = N at BX BY hm hE
  generalize negB a X = S at CN
  have HE : Hid (wordL (bitsL N (X ||| Y)) = E) := Lib.hid (by rw [word_bits]; exact hE.out)
  clear hE
  go_enter Try.func63, Try.ntmps63
  go_wp2_with fail
  refine (CX _).mono ?_
  rintro e u1 ⟨rfl, hb1⟩
  go_wp2_with fail
  refine (CY _).mono ?_
  rintro e u2 ⟨rfl, hb2⟩
  have B2 := hb1.trans (hb2.mono hb1.size)
  clear hb1 hb2
  go_wp2_with fail
  refine (BX _).mono ?_
  rintro e u3 ⟨v1, rfl, hown1, hb3⟩
  rw [bitsL_len] at hown1
  have R1 := Lib.hid (ReadRow.of_owns (bitsL_len N X) hown1)
  clear hown1
  go_wp2_with fail
  refine (BY _).mono ?_
  rintro e u4 ⟨v2, rfl, hown2, hb4⟩
  rw [bitsL_len] at hown2
  obtain ⟨_, Q2⟩ := ReadRow.of_owns (bitsL_len N Y) hown2
  obtain ⟨_, Q1⟩ := R1.out.below hb4
  have B4 := B2.trans ((hb3.trans (hb4.mono hb3.size)).mono B2.size)
  clear hown2 R1 hb3 hb4 B2
  rcases Q1 with ⟨h0, aa, ca, rfl⟩ | ⟨g1, ca, rfl, hg1, hc1⟩
  · subst h0
    have HW := Lib.hid (show 0 = E by rw [← HE.out]; rfl)
    rcases Q2 with ⟨_, ab, cb, rfl⟩ | ⟨g2, cb, rfl, _, _⟩
    · go_wp2_with fail
      refine wp_loop_rounds 1 ?_
      rw [rounds_succ]
      cases S <;> (
        go_wp2_with fail
        refine (CN _).mono ?_
        rintro e u5 ⟨rfl, hb5⟩
        have B5 := B4.trans (hb5.mono B4.size)
        clear hb5 B4
        go_wp2_with fail
        refine (word_nil _).mono ?_
        rintro e u6 ⟨rfl, rfl⟩
        go_wp2_with fail
        go_ret
        exact ⟨by rw [← HW.out]; rfl, B5⟩)
    · go_wp2_with fail
      refine wp_loop_rounds 1 ?_
      rw [rounds_succ]
      cases S <;> (
        go_wp2_with fail
        refine (CN _).mono ?_
        rintro e u5 ⟨rfl, hb5⟩
        have B5 := B4.trans (hb5.mono B4.size)
        clear hb5 B4
        go_wp2_with fail
        refine (word_nil _).mono ?_
        rintro e u6 ⟨rfl, rfl⟩
        go_wp2_with fail
        go_ret
        exact ⟨by rw [← HW.out]; rfl, B5⟩)
  · rcases Q2 with ⟨h0, ab, cb, rfl⟩ | ⟨g2, cb, rfl, hg2, hc2⟩
    · subst h0
      have HW := Lib.hid (show 0 = E by rw [← HE.out]; rfl)
      go_wp2_with fail
      refine wp_loop_rounds 1 ?_
      rw [rounds_succ]
      cases S <;> (
        go_wp2_with fail
        refine (CN _).mono ?_
        rintro e u5 ⟨rfl, hb5⟩
        have B5 := B4.trans (hb5.mono B4.size)
        clear hb5 B4
        go_wp2_with fail
        refine (word_nil _).mono ?_
        rintro e u6 ⟨rfl, rfl⟩
        go_wp2_with fail
        go_ret
        exact ⟨by rw [← HW.out]; rfl, B5⟩)
    · go_wp2_with fail
      go_loopw [11, 12] (fun v i wr => ∃ k : Nat, ∃ L : List Nat, k ≤ N ∧ Hid (L = bitsL k (X ||| Y)) ∧ i = .int .i64 (k : Nat) ∧ wr.ownsRow u4.heap.size 3 1 v k (rowL L) ∧ Below u4.heap.size u4 wr)
        (fun _ i _ => N - (intOf i).toNat)
      case atStart => exact ⟨0, [], Nat.zero_le _, Lib.hid rfl, rfl, World.ownsRow_nil _ _ _ _, Below.refl _ _⟩
      case round =>
        obtain ⟨k, L, hk, HL, rfl, hown, hnx⟩ := hrel
        have hB : u4.heap.size ≤ wr.heap.size := hnx.size
        have hLk : (rowL L).length = k := by have := hown.1; omega
        by_cases hlt : k < N
        · have ag1 := own_far hown hg1
          have ag2 := own_far hown hg2
          have h63 : k + 1 ≤ maxLen := by unfold maxLen; omega
          have hby : (k + 1) * 8 ≤ 140737488355328 := by omega
          have lg1 : g1 < wr.heap.size := by omega
          have lg2 : g2 < wr.heap.size := by omega
          have i0' : (0 : Int) ≤ (k : Int) := Int.natCast_nonneg _
          have i1' : (k : Int) < (N : Int) := by omega
          rcases Nat.mod_two_eq_zero_or_one (X / 2 ^ k) with px | px <;> rcases Nat.mod_two_eq_zero_or_one (Y / 2 ^ k) with py | py
          · have ca1 : wr.cell? ⟨g1, k, none⟩ = some (.int .i64 0) := by
              have h := (hnx.cell (p := ⟨g1, k, none⟩) (by exact hg1)).trans (hc1 k hlt)
              rw [getD_bits N X k hlt, px] at h; exact h
            have ca2 : wr.cell? ⟨g2, k, none⟩ = some (.int .i64 0) := by
              have h := (hnx.cell (p := ⟨g2, k, none⟩) (by exact hg2)).trans (hc2 k hlt)
              rw [getD_bits N Y k hlt, py] at h; exact h
            have HB : Hid (0 = (X ||| Y) / 2 ^ k % 2) := Lib.hid (by rw [or_bit, px, py] <;> rfl)
            clear px py
            go_wp2_with fail
            go_region_held3 (fun w' => w'.cell? ⟨g1, k, none⟩ = some (.int .i64 0) ∧ w'.cell? ⟨g2, k, none⟩ = some (.int .i64 0))
              (first
                | go_keep
                | (go_split_ands
                   refine ⟨?_, ?_⟩
                   · (rw [hgrow.cell_far _ (by simp; omega) (Ne.symm ag1)]; assumption)
                   · (rw [hgrow.cell_far _ (by simp; omega) (Ne.symm ag2)]; assumption)))
              ((refine step_append_lies _ (by rfl) _ _ _ (by rfl) u4.heap.size 3 i0 _ 1 8 Try.underlying43 hi hz0 hz1 hz2 rfl (by omega) _ _ _ (by rfl) ((hown.alloc _).drew) ⟨wr.heap.size, 0, none⟩ 1 1 [.int .i64 0] (by rfl) (by rfl) (World.news_of_block (cs := #[.int .i64 0]) (t := 3) (fr := (0, 0)) (heap_alloc_new wr _)) (by simp [Value.oneCell']) (by omega) h63 hby (by simp; omega) (wr.heap.size + 1) (by simp) ?_; intro gg cap w3 hown' hgrow hat hlt'))
            have R := rel_add (b := 0) (wr := wr.drew) hown.drew (below_drewN2 hnx 1) hown' hgrow
            clear hown' hgrow hown hnx hat hlt' ag1 ag2
            go_wp2_with fail
            go_roundw
            case rel => exact ⟨k + 1, L ++ [0], by omega, bit_step HL HB, by go_num, R.1, R.2⟩
            case measure => (simp [intOf] <;> omega)
          · have ca1 : wr.cell? ⟨g1, k, none⟩ = some (.int .i64 0) := by
              have h := (hnx.cell (p := ⟨g1, k, none⟩) (by exact hg1)).trans (hc1 k hlt)
              rw [getD_bits N X k hlt, px] at h; exact h
            have ca2 : wr.cell? ⟨g2, k, none⟩ = some (.int .i64 1) := by
              have h := (hnx.cell (p := ⟨g2, k, none⟩) (by exact hg2)).trans (hc2 k hlt)
              rw [getD_bits N Y k hlt, py] at h; exact h
            have HB : Hid (1 = (X ||| Y) / 2 ^ k % 2) := Lib.hid (by rw [or_bit, px, py] <;> rfl)
            clear px py
            go_wp2_with fail
            go_region_held3 (fun w' => w'.cell? ⟨g1, k, none⟩ = some (.int .i64 0) ∧ w'.cell? ⟨g2, k, none⟩ = some (.int .i64 1))
              (first
                | go_keep
                | (go_split_ands
                   refine ⟨?_, ?_⟩
                   · (rw [hgrow.cell_far _ (by simp; omega) (Ne.symm ag1)]; assumption)
                   · (rw [hgrow.cell_far _ (by simp; omega) (Ne.symm ag2)]; assumption)))
              ((refine step_append_lies _ (by rfl) _ _ _ (by rfl) u4.heap.size 3 i0 _ 1 8 Try.underlying43 hi hz0 hz1 hz2 rfl (by omega) _ _ _ (by rfl) ((hown.alloc _).drew) ⟨wr.heap.size, 0, none⟩ 1 1 [.int .i64 1] (by rfl) (by rfl) (World.news_of_block (cs := #[.int .i64 1]) (t := 3) (fr := (0, 0)) (heap_alloc_new wr _)) (by simp [Value.oneCell']) (by omega) h63 hby (by simp; omega) (wr.heap.size + 1) (by simp) ?_; intro gg cap w3 hown' hgrow hat hlt'))
            have R := rel_add (b := 1) (wr := wr.drew) hown.drew (below_drewN2 hnx 1) hown' hgrow
            clear hown' hgrow hown hnx hat hlt' ag1 ag2
            go_wp2_with fail
            go_roundw
            case rel => exact ⟨k + 1, L ++ [1], by omega, bit_step HL HB, by go_num, R.1, R.2⟩
            case measure => (simp [intOf] <;> omega)
          · have ca1 : wr.cell? ⟨g1, k, none⟩ = some (.int .i64 1) := by
              have h := (hnx.cell (p := ⟨g1, k, none⟩) (by exact hg1)).trans (hc1 k hlt)
              rw [getD_bits N X k hlt, px] at h; exact h
            have ca2 : wr.cell? ⟨g2, k, none⟩ = some (.int .i64 0) := by
              have h := (hnx.cell (p := ⟨g2, k, none⟩) (by exact hg2)).trans (hc2 k hlt)
              rw [getD_bits N Y k hlt, py] at h; exact h
            have HB : Hid (1 = (X ||| Y) / 2 ^ k % 2) := Lib.hid (by rw [or_bit, px, py] <;> rfl)
            clear px py
            go_wp2_with fail
            go_region_held3 (fun w' => w'.cell? ⟨g1, k, none⟩ = some (.int .i64 1) ∧ w'.cell? ⟨g2, k, none⟩ = some (.int .i64 0))
              (first
                | go_keep
                | (go_split_ands
                   refine ⟨?_, ?_⟩
                   · (rw [hgrow.cell_far _ (by simp; omega) (Ne.symm ag1)]; assumption)
                   · (rw [hgrow.cell_far _ (by simp; omega) (Ne.symm ag2)]; assumption)))
              ((refine step_append_lies _ (by rfl) _ _ _ (by rfl) u4.heap.size 3 i0 _ 1 8 Try.underlying43 hi hz0 hz1 hz2 rfl (by omega) _ _ _ (by rfl) ((hown.alloc _).drew) ⟨wr.heap.size, 0, none⟩ 1 1 [.int .i64 1] (by rfl) (by rfl) (World.news_of_block (cs := #[.int .i64 1]) (t := 3) (fr := (0, 0)) (heap_alloc_new wr _)) (by simp [Value.oneCell']) (by omega) h63 hby (by simp; omega) (wr.heap.size + 1) (by simp) ?_; intro gg cap w3 hown' hgrow hat hlt'))
            have R := rel_add (b := 1) (wr := wr.drew) hown.drew (below_drewN2 hnx 1) hown' hgrow
            clear hown' hgrow hown hnx hat hlt' ag1 ag2
            go_wp2_with fail
            go_roundw
            case rel => exact ⟨k + 1, L ++ [1], by omega, bit_step HL HB, by go_num, R.1, R.2⟩
            case measure => (simp [intOf] <;> omega)
          · have ca1 : wr.cell? ⟨g1, k, none⟩ = some (.int .i64 1) := by
              have h := (hnx.cell (p := ⟨g1, k, none⟩) (by exact hg1)).trans (hc1 k hlt)
              rw [getD_bits N X k hlt, px] at h; exact h
            have ca2 : wr.cell? ⟨g2, k, none⟩ = some (.int .i64 1) := by
              have h := (hnx.cell (p := ⟨g2, k, none⟩) (by exact hg2)).trans (hc2 k hlt)
              rw [getD_bits N Y k hlt, py] at h; exact h
            have HB : Hid (1 = (X ||| Y) / 2 ^ k % 2) := Lib.hid (by rw [or_bit, px, py] <;> rfl)
            clear px py
            go_wp2_with fail
            go_region_held3 (fun w' => w'.cell? ⟨g1, k, none⟩ = some (.int .i64 1) ∧ w'.cell? ⟨g2, k, none⟩ = some (.int .i64 1))
              (first
                | go_keep
                | (go_split_ands
                   refine ⟨?_, ?_⟩
                   · (rw [hgrow.cell_far _ (by simp; omega) (Ne.symm ag1)]; assumption)
                   · (rw [hgrow.cell_far _ (by simp; omega) (Ne.symm ag2)]; assumption)))
              ((refine step_append_lies _ (by rfl) _ _ _ (by rfl) u4.heap.size 3 i0 _ 1 8 Try.underlying43 hi hz0 hz1 hz2 rfl (by omega) _ _ _ (by rfl) ((hown.alloc _).drew) ⟨wr.heap.size, 0, none⟩ 1 1 [.int .i64 1] (by rfl) (by rfl) (World.news_of_block (cs := #[.int .i64 1]) (t := 3) (fr := (0, 0)) (heap_alloc_new wr _)) (by simp [Value.oneCell']) (by omega) h63 hby (by simp; omega) (wr.heap.size + 1) (by simp) ?_; intro gg cap w3 hown' hgrow hat hlt'))
            have R := rel_add (b := 1) (wr := wr.drew) hown.drew (below_drewN2 hnx 1) hown' hgrow
            clear hown' hgrow hown hnx hat hlt' ag1 ag2
            go_wp2_with fail
            go_roundw
            case rel => exact ⟨k + 1, L ++ [1], by omega, bit_step HL HB, by go_num, R.1, R.2⟩
            case measure => (simp [intOf] <;> omega)
        · have hkN : k = N := by omega
          subst hkN
          have HW := Lib.hid (show wordL L = E by rw [HL.out]; exact HE.out)
          have hLl : L.length = k := by simpa [rowL] using hLk
          have hL1 : ∀ z ∈ L, z ≤ 1 := by rw [HL.out]; exact bitsL_le _ _
          cases S <;> (
            go_wp2_with fail
            refine (CN _).mono ?_
            rintro e u5 ⟨rfl, hb5⟩
            have B5 := (B4.trans (hnx.mono B4.size)).trans (hb5.mono (B4.trans (hnx.mono B4.size)).size)
            have hown5 := owns_below hown hb5
            clear hown hb5 B4
            go_wp2_with fail
            refine (word_row _ _ _ L (by omega) hL1 _ (by rw [hLl]; exact hown5)).mono ?_
            rintro e u6 ⟨rfl, rfl⟩
            go_wp2_with fail
            go_ret
            exact ⟨by rw [HW.out]; rfl, B5⟩)

set_option maxRecDepth 100000 in
set_option maxHeartbeats 1600000 in
theorem rbin_xor (a : Int) (x y E : Nat) (hx : x < 18446744073709551616) (hy : y < 18446744073709551616) (hE : Hid ((fitN a x ^^^ fitN a y) % 2 ^ wid a = E)) (w : World) :
    Calls Try.prog 63 #[.int .i64 11, .int .i64 a, .int .u64 x, .int .u64 y] w fun e w' => e = .returned (.int .u64 (E : Nat)) ∧ Below w.heap.size w w' := by
  obtain ⟨i0, hi, hz0, hz1, hz2⟩ := info_parts info_int
  have CX := fun w => rfit_any a x hx w
  have CY := fun w => rfit_any a y hy w
  have BX := fun w => rbits_any a (fitN a x) (fitN_lt a x) w
  have BY := fun w => rbits_any a (fitN a y) (fitN_lt a y) w
  have CN := fun w => rneg_any a (fitN a x) (fitN_lt a x) w
  have hm := wid_le a
  generalize fitN a x = X at CX BX CN hE
  generalize fitN a y = Y at CY BY hE
  generalize wid a = N at BX BY hm hE
  generalize negB a X = S at CN
  have HE : Hid (wordL (bitsL N (X ^^^ Y)) = E) := Lib.hid (by rw [word_bits]; exact hE.out)
  clear hE
  go_enter Try.func63, Try.ntmps63
  go_wp2_with fail
  refine (CX _).mono ?_
  rintro e u1 ⟨rfl, hb1⟩
  go_wp2_with fail
  refine (CY _).mono ?_
  rintro e u2 ⟨rfl, hb2⟩
  have B2 := hb1.trans (hb2.mono hb1.size)
  clear hb1 hb2
  go_wp2_with fail
  refine (BX _).mono ?_
  rintro e u3 ⟨v1, rfl, hown1, hb3⟩
  rw [bitsL_len] at hown1
  have R1 := Lib.hid (ReadRow.of_owns (bitsL_len N X) hown1)
  clear hown1
  go_wp2_with fail
  refine (BY _).mono ?_
  rintro e u4 ⟨v2, rfl, hown2, hb4⟩
  rw [bitsL_len] at hown2
  obtain ⟨_, Q2⟩ := ReadRow.of_owns (bitsL_len N Y) hown2
  obtain ⟨_, Q1⟩ := R1.out.below hb4
  have B4 := B2.trans ((hb3.trans (hb4.mono hb3.size)).mono B2.size)
  clear hown2 R1 hb3 hb4 B2
  rcases Q1 with ⟨h0, aa, ca, rfl⟩ | ⟨g1, ca, rfl, hg1, hc1⟩
  · subst h0
    have HW := Lib.hid (show 0 = E by rw [← HE.out]; rfl)
    rcases Q2 with ⟨_, ab, cb, rfl⟩ | ⟨g2, cb, rfl, _, _⟩
    · go_wp2_with fail
      refine wp_loop_rounds 1 ?_
      rw [rounds_succ]
      cases S <;> (
        go_wp2_with fail
        refine (CN _).mono ?_
        rintro e u5 ⟨rfl, hb5⟩
        have B5 := B4.trans (hb5.mono B4.size)
        clear hb5 B4
        go_wp2_with fail
        refine (word_nil _).mono ?_
        rintro e u6 ⟨rfl, rfl⟩
        go_wp2_with fail
        go_ret
        exact ⟨by rw [← HW.out]; rfl, B5⟩)
    · go_wp2_with fail
      refine wp_loop_rounds 1 ?_
      rw [rounds_succ]
      cases S <;> (
        go_wp2_with fail
        refine (CN _).mono ?_
        rintro e u5 ⟨rfl, hb5⟩
        have B5 := B4.trans (hb5.mono B4.size)
        clear hb5 B4
        go_wp2_with fail
        refine (word_nil _).mono ?_
        rintro e u6 ⟨rfl, rfl⟩
        go_wp2_with fail
        go_ret
        exact ⟨by rw [← HW.out]; rfl, B5⟩)
  · rcases Q2 with ⟨h0, ab, cb, rfl⟩ | ⟨g2, cb, rfl, hg2, hc2⟩
    · subst h0
      have HW := Lib.hid (show 0 = E by rw [← HE.out]; rfl)
      go_wp2_with fail
      refine wp_loop_rounds 1 ?_
      rw [rounds_succ]
      cases S <;> (
        go_wp2_with fail
        refine (CN _).mono ?_
        rintro e u5 ⟨rfl, hb5⟩
        have B5 := B4.trans (hb5.mono B4.size)
        clear hb5 B4
        go_wp2_with fail
        refine (word_nil _).mono ?_
        rintro e u6 ⟨rfl, rfl⟩
        go_wp2_with fail
        go_ret
        exact ⟨by rw [← HW.out]; rfl, B5⟩)
    · go_wp2_with fail
      go_loopw [11, 12] (fun v i wr => ∃ k : Nat, ∃ L : List Nat, k ≤ N ∧ Hid (L = bitsL k (X ^^^ Y)) ∧ i = .int .i64 (k : Nat) ∧ wr.ownsRow u4.heap.size 3 1 v k (rowL L) ∧ Below u4.heap.size u4 wr)
        (fun _ i _ => N - (intOf i).toNat)
      case atStart => exact ⟨0, [], Nat.zero_le _, Lib.hid rfl, rfl, World.ownsRow_nil _ _ _ _, Below.refl _ _⟩
      case round =>
        obtain ⟨k, L, hk, HL, rfl, hown, hnx⟩ := hrel
        have hB : u4.heap.size ≤ wr.heap.size := hnx.size
        have hLk : (rowL L).length = k := by have := hown.1; omega
        by_cases hlt : k < N
        · have ag1 := own_far hown hg1
          have ag2 := own_far hown hg2
          have h63 : k + 1 ≤ maxLen := by unfold maxLen; omega
          have hby : (k + 1) * 8 ≤ 140737488355328 := by omega
          have lg1 : g1 < wr.heap.size := by omega
          have lg2 : g2 < wr.heap.size := by omega
          have i0' : (0 : Int) ≤ (k : Int) := Int.natCast_nonneg _
          have i1' : (k : Int) < (N : Int) := by omega
          rcases Nat.mod_two_eq_zero_or_one (X / 2 ^ k) with px | px <;> rcases Nat.mod_two_eq_zero_or_one (Y / 2 ^ k) with py | py
          · have ca1 : wr.cell? ⟨g1, k, none⟩ = some (.int .i64 0) := by
              have h := (hnx.cell (p := ⟨g1, k, none⟩) (by exact hg1)).trans (hc1 k hlt)
              rw [getD_bits N X k hlt, px] at h; exact h
            have ca2 : wr.cell? ⟨g2, k, none⟩ = some (.int .i64 0) := by
              have h := (hnx.cell (p := ⟨g2, k, none⟩) (by exact hg2)).trans (hc2 k hlt)
              rw [getD_bits N Y k hlt, py] at h; exact h
            have HB : Hid (0 = (X ^^^ Y) / 2 ^ k % 2) := Lib.hid (by rw [xor_bit, px, py] <;> rfl)
            clear px py
            go_wp2_with fail
            go_region_held3 (fun w' => w'.cell? ⟨g1, k, none⟩ = some (.int .i64 0) ∧ w'.cell? ⟨g2, k, none⟩ = some (.int .i64 0))
              (first
                | go_keep
                | (go_split_ands
                   refine ⟨?_, ?_⟩
                   · (rw [hgrow.cell_far _ (by simp; omega) (Ne.symm ag1)]; assumption)
                   · (rw [hgrow.cell_far _ (by simp; omega) (Ne.symm ag2)]; assumption)))
              ((refine step_append_lies _ (by rfl) _ _ _ (by rfl) u4.heap.size 3 i0 _ 1 8 Try.underlying43 hi hz0 hz1 hz2 rfl (by omega) _ _ _ (by rfl) ((hown.alloc _).drew) ⟨wr.heap.size, 0, none⟩ 1 1 [.int .i64 0] (by rfl) (by rfl) (World.news_of_block (cs := #[.int .i64 0]) (t := 3) (fr := (0, 0)) (heap_alloc_new wr _)) (by simp [Value.oneCell']) (by omega) h63 hby (by simp; omega) (wr.heap.size + 1) (by simp) ?_; intro gg cap w3 hown' hgrow hat hlt'))
            have R := rel_add (b := 0) (wr := wr.drew) hown.drew (below_drewN2 hnx 1) hown' hgrow
            clear hown' hgrow hown hnx hat hlt' ag1 ag2
            go_wp2_with fail
            go_roundw
            case rel => exact ⟨k + 1, L ++ [0], by omega, bit_step HL HB, by go_num, R.1, R.2⟩
            case measure => (simp [intOf] <;> omega)
          · have ca1 : wr.cell? ⟨g1, k, none⟩ = some (.int .i64 0) := by
              have h := (hnx.cell (p := ⟨g1, k, none⟩) (by exact hg1)).trans (hc1 k hlt)
              rw [getD_bits N X k hlt, px] at h; exact h
            have ca2 : wr.cell? ⟨g2, k, none⟩ = some (.int .i64 1) := by
              have h := (hnx.cell (p := ⟨g2, k, none⟩) (by exact hg2)).trans (hc2 k hlt)
              rw [getD_bits N Y k hlt, py] at h; exact h
            have HB : Hid (1 = (X ^^^ Y) / 2 ^ k % 2) := Lib.hid (by rw [xor_bit, px, py] <;> rfl)
            clear px py
            go_wp2_with fail
            go_region_held3 (fun w' => w'.cell? ⟨g1, k, none⟩ = some (.int .i64 0) ∧ w'.cell? ⟨g2, k, none⟩ = some (.int .i64 1))
              (first
                | go_keep
                | (go_split_ands
                   refine ⟨?_, ?_⟩
                   · (rw [hgrow.cell_far _ (by simp; omega) (Ne.symm ag1)]; assumption)
                   · (rw [hgrow.cell_far _ (by simp; omega) (Ne.symm ag2)]; assumption)))
              ((refine step_append_lies _ (by rfl) _ _ _ (by rfl) u4.heap.size 3 i0 _ 1 8 Try.underlying43 hi hz0 hz1 hz2 rfl (by omega) _ _ _ (by rfl) ((hown.alloc _).drew) ⟨wr.heap.size, 0, none⟩ 1 1 [.int .i64 1] (by rfl) (by rfl) (World.news_of_block (cs := #[.int .i64 1]) (t := 3) (fr := (0, 0)) (heap_alloc_new wr _)) (by simp [Value.oneCell']) (by omega) h63 hby (by simp; omega) (wr.heap.size + 1) (by simp) ?_; intro gg cap w3 hown' hgrow hat hlt'))
            have R := rel_add (b := 1) (wr := wr.drew) hown.drew (below_drewN2 hnx 1) hown' hgrow
            clear hown' hgrow hown hnx hat hlt' ag1 ag2
            go_wp2_with fail
            go_roundw
            case rel => exact ⟨k + 1, L ++ [1], by omega, bit_step HL HB, by go_num, R.1, R.2⟩
            case measure => (simp [intOf] <;> omega)
          · have ca1 : wr.cell? ⟨g1, k, none⟩ = some (.int .i64 1) := by
              have h := (hnx.cell (p := ⟨g1, k, none⟩) (by exact hg1)).trans (hc1 k hlt)
              rw [getD_bits N X k hlt, px] at h; exact h
            have ca2 : wr.cell? ⟨g2, k, none⟩ = some (.int .i64 0) := by
              have h := (hnx.cell (p := ⟨g2, k, none⟩) (by exact hg2)).trans (hc2 k hlt)
              rw [getD_bits N Y k hlt, py] at h; exact h
            have HB : Hid (1 = (X ^^^ Y) / 2 ^ k % 2) := Lib.hid (by rw [xor_bit, px, py] <;> rfl)
            clear px py
            go_wp2_with fail
            go_region_held3 (fun w' => w'.cell? ⟨g1, k, none⟩ = some (.int .i64 1) ∧ w'.cell? ⟨g2, k, none⟩ = some (.int .i64 0))
              (first
                | go_keep
                | (go_split_ands
                   refine ⟨?_, ?_⟩
                   · (rw [hgrow.cell_far _ (by simp; omega) (Ne.symm ag1)]; assumption)
                   · (rw [hgrow.cell_far _ (by simp; omega) (Ne.symm ag2)]; assumption)))
              ((refine step_append_lies _ (by rfl) _ _ _ (by rfl) u4.heap.size 3 i0 _ 1 8 Try.underlying43 hi hz0 hz1 hz2 rfl (by omega) _ _ _ (by rfl) ((hown.alloc _).drew) ⟨wr.heap.size, 0, none⟩ 1 1 [.int .i64 1] (by rfl) (by rfl) (World.news_of_block (cs := #[.int .i64 1]) (t := 3) (fr := (0, 0)) (heap_alloc_new wr _)) (by simp [Value.oneCell']) (by omega) h63 hby (by simp; omega) (wr.heap.size + 1) (by simp) ?_; intro gg cap w3 hown' hgrow hat hlt'))
            have R := rel_add (b := 1) (wr := wr.drew) hown.drew (below_drewN2 hnx 1) hown' hgrow
            clear hown' hgrow hown hnx hat hlt' ag1 ag2
            go_wp2_with fail
            go_roundw
            case rel => exact ⟨k + 1, L ++ [1], by omega, bit_step HL HB, by go_num, R.1, R.2⟩
            case measure => (simp [intOf] <;> omega)
          · have ca1 : wr.cell? ⟨g1, k, none⟩ = some (.int .i64 1) := by
              have h := (hnx.cell (p := ⟨g1, k, none⟩) (by exact hg1)).trans (hc1 k hlt)
              rw [getD_bits N X k hlt, px] at h; exact h
            have ca2 : wr.cell? ⟨g2, k, none⟩ = some (.int .i64 1) := by
              have h := (hnx.cell (p := ⟨g2, k, none⟩) (by exact hg2)).trans (hc2 k hlt)
              rw [getD_bits N Y k hlt, py] at h; exact h
            have HB : Hid (0 = (X ^^^ Y) / 2 ^ k % 2) := Lib.hid (by rw [xor_bit, px, py] <;> rfl)
            clear px py
            go_wp2_with fail
            go_region_held3 (fun w' => w'.cell? ⟨g1, k, none⟩ = some (.int .i64 1) ∧ w'.cell? ⟨g2, k, none⟩ = some (.int .i64 1))
              (first
                | go_keep
                | (go_split_ands
                   refine ⟨?_, ?_⟩
                   · (rw [hgrow.cell_far _ (by simp; omega) (Ne.symm ag1)]; assumption)
                   · (rw [hgrow.cell_far _ (by simp; omega) (Ne.symm ag2)]; assumption)))
              ((refine step_append_lies _ (by rfl) _ _ _ (by rfl) u4.heap.size 3 i0 _ 1 8 Try.underlying43 hi hz0 hz1 hz2 rfl (by omega) _ _ _ (by rfl) ((hown.alloc _).drew) ⟨wr.heap.size, 0, none⟩ 1 1 [.int .i64 0] (by rfl) (by rfl) (World.news_of_block (cs := #[.int .i64 0]) (t := 3) (fr := (0, 0)) (heap_alloc_new wr _)) (by simp [Value.oneCell']) (by omega) h63 hby (by simp; omega) (wr.heap.size + 1) (by simp) ?_; intro gg cap w3 hown' hgrow hat hlt'))
            have R := rel_add (b := 0) (wr := wr.drew) hown.drew (below_drewN2 hnx 1) hown' hgrow
            clear hown' hgrow hown hnx hat hlt' ag1 ag2
            go_wp2_with fail
            go_roundw
            case rel => exact ⟨k + 1, L ++ [0], by omega, bit_step HL HB, by go_num, R.1, R.2⟩
            case measure => (simp [intOf] <;> omega)
        · have hkN : k = N := by omega
          subst hkN
          have HW := Lib.hid (show wordL L = E by rw [HL.out]; exact HE.out)
          have hLl : L.length = k := by simpa [rowL] using hLk
          have hL1 : ∀ z ∈ L, z ≤ 1 := by rw [HL.out]; exact bitsL_le _ _
          cases S <;> (
            go_wp2_with fail
            refine (CN _).mono ?_
            rintro e u5 ⟨rfl, hb5⟩
            have B5 := (B4.trans (hnx.mono B4.size)).trans (hb5.mono (B4.trans (hnx.mono B4.size)).size)
            have hown5 := owns_below hown hb5
            clear hown hb5 B4
            go_wp2_with fail
            refine (word_row _ _ _ L (by omega) hL1 _ (by rw [hLl]; exact hown5)).mono ?_
            rintro e u6 ⟨rfl, rfl⟩
            go_wp2_with fail
            go_ret
            exact ⟨by rw [HW.out]; rfl, B5⟩)

end Go.Proofs.Ythkdojgagmaecab
