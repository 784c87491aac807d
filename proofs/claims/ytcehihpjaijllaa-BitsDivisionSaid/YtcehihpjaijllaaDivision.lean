/- BitsDivision: quotient times divisor plus remainder is the dividend, for both kinds of division, also by 0. -/
import Derived.Test.YtcehihpjaijllaaAwake01
import Derived.Test.YtcehihpjaijllaaMathD
import Derived.Below
namespace Go.Proofs.Ytcehihpjaijllaa
open Go.RowKit

theorem sdiv_zero (a : Int) (x y : Nat) (ha : 1 ≤ a) (hb : a ≤ 64) (h : fitN a y = 0) : binN 7 a x y = maskN a := by
  rw [sbin 7 _ _ _ ha hb (.inl rfl)]
  have hs : sgn a (fitN a y) = 0 := (sgn_zero _ _ ha).2 (by rw [fitN_fitN, h])
  simp [sdivN, hs]
theorem srem_zero (a : Int) (x y : Nat) (ha : 1 ≤ a) (hb : a ≤ 64) (h : fitN a y = 0) : binN 8 a x y = fitN a x := by
  rw [sbin 8 _ _ _ ha hb (.inr rfl)]
  have hs : sgn a (fitN a y) = 0 := (sgn_zero _ _ ha).2 (by rw [fitN_fitN, h])
  simp [sdivN, hs]
theorem sgn_bd (a : Int) (x : Nat) (ha : 1 ≤ a) : -9223372036854775808 ≤ sgn a x ∧ sgn a x ≤ 9223372036854775807 := by
  have h := sgn_range a x ha
  have : (2 : Nat) ^ (cw a - 1) ≤ 9223372036854775808 := by
    rw [← pow63]; exact Nat.pow_le_pow_right (by decide) (by have := cw_le a; omega)
  omega
def BelD (W : World) (wr : World) : Prop := Below W.heap.size W wr
theorem bcellD {W w1 : World} (hb : Below W.heap.size W w1) : (∀ b o, b < W.heap.size → w1.cell? ⟨b, o, none⟩ = W.cell? ⟨b, o, none⟩) ∧ (∀ b o, b < W.heap.size → w1.frozen? ⟨b, o, none⟩ = W.frozen? ⟨b, o, none⟩) :=
  ⟨fun b o h => hb.cell (p := ⟨b, o, none⟩) h, fun b o h => hb.frozen (p := ⟨b, o, none⟩) h⟩

set_option maxRecDepth 100000 in
set_option maxHeartbeats 4000000 in
theorem division_ok (a : Int) (x y : Nat) (w : World) (hx : x < 18446744073709551616) (hy : y < 18446744073709551616) (ha : 1 ≤ a) (hb : a ≤ 64) :
    Calls Try.prog 4 #[.int .i64 a, .int .u64 x, .int .u64 y] w fun e w' => e = .returned (.bool true) ∧ Below w.heap.size w w' := by
  have hr : rightB a = true := by simp [rightB]; omega
  go_enter Try.func4, Try.ntmps4
  go_wp2_with fail
  refine (awake_any _).mono ?_
  rintro e w' ⟨rfl, rfl⟩
  go_wp2_with fail
  refine (right_any a _).mono ?_
  rintro e w' ⟨rfl, rfl⟩
  go_wp2_with fail
  refine (fit_any a x _ hx).mono ?_
  rintro e w' ⟨rfl, rfl⟩
  go_wp2_with fail
  refine (fit_any a y _ hy).mono ?_
  rintro e w' ⟨rfl, rfl⟩
  go_wp2_with fail
  obtain ⟨W, hW⟩ : ∃ W : World, W = w.alloc (Obj.cells #[Value.int IntKind.i64 5, Value.int IntKind.i64 6, Value.int IntKind.i64 7, Value.int IntKind.i64 8] 32) := ⟨_, rfl⟩
  rw [← hW]
  go_loopw [35] (fun i wr => ∃ k : Nat, k ≤ 2 ∧ i = .int .i64 k ∧ BelD W wr) (fun i _ => 2 - (intOf i).toNat)
  case atStart => exact ⟨0, by omega, rfl, Below.refl _ _⟩
  case round =>
    obtain ⟨k, hk, rfl, hbel⟩ := hrel
    have BW := Lib.hid (show Below W.heap.size W wr from hbel)
    have c := (bcellD hbel).1
    have hs0 : wr.cell? ⟨w.heap.size, 0, none⟩ = some (.int .i64 5) := by rw [c _ _ (by rw [hW]; simp <;> omega), hW]; simp [go_sem]
    have hs1 : wr.cell? ⟨w.heap.size, 1, none⟩ = some (.int .i64 6) := by rw [c _ _ (by rw [hW]; simp <;> omega), hW]; simp [go_sem]
    have hs2 : wr.cell? ⟨w.heap.size, 2, none⟩ = some (.int .i64 7) := by rw [c _ _ (by rw [hW]; simp <;> omega), hW]; simp [go_sem]
    have hs3 : wr.cell? ⟨w.heap.size, 3, none⟩ = some (.int .i64 8) := by rw [c _ _ (by rw [hW]; simp <;> omega), hW]; simp [go_sem]
    have hsz : w.heap.size < wr.heap.size := by have := BW.out.size; rw [hW] at this; simp at this; omega
    have BW0 := Lib.hid (show Below w.heap.size w wr from by
      refine Below.trans ?_ (BW.out.mono (by rw [hW]; simp))
      rw [hW]
      exact (Below.refl _ _).alloc (Nat.le_refl _) _)
    clear c hbel
    have fx := fitN_lt a x
    have fy := fitN_lt a y
    have b5 := bin_lt 5 a (fitN a x) (fitN a y)
    have b6 := bin_lt 6 a (fitN a x) (fitN a y)
    have b7 := bin_lt 7 a (fitN a x) (fitN a y)
    have b8 := bin_lt 8 a (fitN a x) (fitN a y)
    have E := fun op (h1 : 2 ≤ op) (h2 : op ≤ 20) => show binE op a = 0 by simp [binE, okB_of op a h1 h2 ha hb]
    have e2 := Lib.hid (E 2 (by omega) (by omega))
    have e4 := Lib.hid (E 4 (by omega) (by omega))
    have e5 := Lib.hid (E 5 (by omega) (by omega))
    have e6 := Lib.hid (E 6 (by omega) (by omega))
    have e7 := Lib.hid (E 7 (by omega) (by omega))
    have e8 := Lib.hid (E 8 (by omega) (by omega))
    clear E
    have d5 := Lib.hid (div_back 5 6 a (fitN a x) (fitN a y) ha hb (.inl ⟨rfl, rfl⟩))
    have d7 := Lib.hid (div_back 7 8 a (fitN a x) (fitN a y) ha hb (.inr ⟨rfl, rfl⟩))
    have ff := Lib.hid (fitN_fitN a x)
    have h3 : k = 0 ∨ k = 1 ∨ k = 2 := by omega
    clear hk
    rcases h3 with rfl | rfl | rfl
    · by_cases hz : fitN a y = 0
      · have hb0 : ((fitN a y : Int) == 0) = true := by rw [beq_iff_eq]; omega
        have q0 := Lib.hid (udiv_zero a (fitN a x) (fitN a y) ha hb (by rw [fitN_fitN]; exact hz))
        have r0 := Lib.hid (urem_zero a (fitN a x) (fitN a y) ha hb (by rw [fitN_fitN]; exact hz))
        clear hz
        go_wp2_with fail
        refine (binary_any 5 a _ _ _ fx fy).mono ?_
        rintro e w' ⟨rfl, rfl⟩
        rw [e5.out]
        go_wp2_with fail
        refine (binary_any 6 a _ _ _ fx fy).mono ?_
        rintro e w' ⟨rfl, rfl⟩
        rw [e6.out]
        go_wp2_with fail
        refine (binary_any 4 a _ _ _ b5 fy).mono ?_
        rintro e w' ⟨rfl, rfl⟩
        rw [e4.out]
        go_wp2_with fail
        refine (binary_any 2 a _ _ _ (bin_lt _ _ _ _) b6).mono ?_
        rintro e w' ⟨rfl, rfl⟩
        rw [e2.out, d5.out, ff.out]
        rw [q0.out, r0.out, ff.out]
        go_wp2_with fail
        refine (mask_any a _).mono ?_
        rintro e w' ⟨rfl, rfl⟩
        go_wp2_with fail
        go_roundw
        case rel => exact ⟨1, by omega, rfl, BW.out.alloc BW.out.size _⟩
        case measure => simp [intOf]
      · have hb0 : ((fitN a y : Int) == 0) = false := by rw [beq_eq_false_iff_ne]; omega
        have hlt : binN 6 a (fitN a x) (fitN a y) < fitN a y := by
          rw [urem_val a (fitN a x) (fitN a y) ha hb (by rw [fitN_fitN]; exact hz), fitN_fitN, fitN_fitN]
          exact Nat.mod_lt _ (by omega)
        clear hz
        go_wp2_with fail
        refine (binary_any 5 a _ _ _ fx fy).mono ?_
        rintro e w' ⟨rfl, rfl⟩
        rw [e5.out]
        go_wp2_with fail
        refine (binary_any 6 a _ _ _ fx fy).mono ?_
        rintro e w' ⟨rfl, rfl⟩
        rw [e6.out]
        go_wp2_with fail
        refine (binary_any 4 a _ _ _ b5 fy).mono ?_
        rintro e w' ⟨rfl, rfl⟩
        rw [e4.out]
        go_wp2_with fail
        refine (binary_any 2 a _ _ _ (bin_lt _ _ _ _) b6).mono ?_
        rintro e w' ⟨rfl, rfl⟩
        rw [e2.out, d5.out, ff.out]
        generalize binN 6 a (fitN a x) (fitN a y) = R at *
        go_wp2_with fail
        go_roundw
        case rel => exact ⟨1, by omega, rfl, BW.out.alloc BW.out.size _⟩
        case measure => simp [intOf]
    · by_cases hz : fitN a y = 0
      · have hb0 : ((fitN a y : Int) == 0) = true := by rw [beq_iff_eq]; omega
        have q0 := Lib.hid (sdiv_zero a (fitN a x) (fitN a y) ha hb (by rw [fitN_fitN]; exact hz))
        have r0 := Lib.hid (srem_zero a (fitN a x) (fitN a y) ha hb (by rw [fitN_fitN]; exact hz))
        clear hz
        go_wp2_with fail
        refine (binary_any 7 a _ _ _ fx fy).mono ?_
        rintro e w' ⟨rfl, rfl⟩
        rw [e7.out]
        go_wp2_with fail
        refine (binary_any 8 a _ _ _ fx fy).mono ?_
        rintro e w' ⟨rfl, rfl⟩
        rw [e8.out]
        go_wp2_with fail
        refine (binary_any 4 a _ _ _ b7 fy).mono ?_
        rintro e w' ⟨rfl, rfl⟩
        rw [e4.out]
        go_wp2_with fail
        refine (binary_any 2 a _ _ _ (bin_lt _ _ _ _) b8).mono ?_
        rintro e w' ⟨rfl, rfl⟩
        rw [e2.out, d7.out, ff.out]
        rw [q0.out, r0.out, ff.out]
        go_wp2_with fail
        refine (mask_any a _).mono ?_
        rintro e w' ⟨rfl, rfl⟩
        go_wp2_with fail
        go_roundw
        case rel => exact ⟨2, by omega, rfl, BW.out.alloc BW.out.size _⟩
        case measure => simp [intOf]
      · have hb0 : ((fitN a y : Int) == 0) = false := by rw [beq_eq_false_iff_ne]; omega
        obtain ⟨T, hT, g1, g2, g3⟩ := srem_sgn a (fitN a x) (fitN a y) ha hb (by rw [fitN_fitN]; exact hz)
        obtain ⟨M, hM⟩ : ∃ M, sgn a (fitN a x) = M := ⟨_, rfl⟩
        obtain ⟨N, hN⟩ : ∃ N, sgn a (fitN a y) = N := ⟨_, rfl⟩
        have m0 := sgn_bd a (fitN a x) ha
        have n0 := sgn_bd a (fitN a y) ha
        have t0 := sgn_bd a (binN 8 a (fitN a x) (fitN a y)) ha
        have nz : N ≠ 0 := fun h => hz (by have := (sgn_zero a (fitN a y) ha).1 (by rw [hN]; exact h); rwa [fitN_fitN] at this)
        rw [hM] at m0 g1
        rw [hN] at n0 g2 g3
        rw [hT] at t0
        have HT := Lib.hid hT
        have HM := Lib.hid hM
        have HN := Lib.hid hN
        clear hT hM hN hz
        have ct : T = 0 ∨ (0 < T ∧ (T != 0) = true ∧ decide (T < 0) = false ∧ decide (M < 0) = false) ∨ (T < 0 ∧ (T != 0) = true ∧ decide (T < 0) = true ∧ decide (M < 0) = true) := by
          by_cases h0 : T = 0
          · exact .inl h0
          · have := g1 h0
            rw [bne_iff_ne]
            by_cases h1 : T < 0
            · exact .inr (.inr ⟨h1, h0, by simp [h1], by simp; omega⟩)
            · exact .inr (.inl ⟨by omega, h0, by simp [h1], by simp; omega⟩)
        have cn : (0 < N ∧ T < N ∧ -N < T) ∨ (N < 0 ∧ -9223372036854775808 < N ∧ T < -N ∧ N < T) ∨ (N < 0 ∧ wrap64 (-N) = N) := by
          by_cases h0 : 0 < N
          · have := g2 h0; exact .inl (by omega)
          · have := g3 (by omega)
            by_cases h1 : N = -9223372036854775808
            · exact .inr (.inr ⟨by omega, by rw [h1]; unfold wrap64; omega⟩)
            · exact .inr (.inl (by omega))
        clear g1 g2 g3
        obtain ⟨m1, m2⟩ := m0
        obtain ⟨n1, n2⟩ := n0
        obtain ⟨t1, t2⟩ := t0
        clear n1 nz
        rcases ct with rfl | ⟨c1, c2, c7, c8⟩ | ⟨c1, c2, c7, c8⟩
        all_goals
          rcases cn with ⟨c3, c4, c5⟩ | ⟨c3, c4, c5, c6⟩ | ⟨c3, c4⟩
        all_goals
          go_wp2_with fail
          refine (binary_any 7 a _ _ _ fx fy).mono ?_
          rintro e w' ⟨rfl, rfl⟩
          rw [e7.out]
          go_wp2_with fail
          refine (binary_any 8 a _ _ _ fx fy).mono ?_
          rintro e w' ⟨rfl, rfl⟩
          rw [e8.out]
          go_wp2_with fail
          refine (binary_any 4 a _ _ _ b7 fy).mono ?_
          rintro e w' ⟨rfl, rfl⟩
          rw [e4.out]
          go_wp2_with fail
          refine (binary_any 2 a _ _ _ (bin_lt _ _ _ _) b8).mono ?_
          rintro e w' ⟨rfl, rfl⟩
          rw [e2.out, d7.out, ff.out]
          go_wp2_with fail
          refine (signed_any a _ _ fx).mono ?_
          rintro e w' ⟨rfl, rfl⟩
          rw [HM.out]
          go_wp2_with fail
          refine (signed_any a _ _ fy).mono ?_
          rintro e w' ⟨rfl, rfl⟩
          rw [HN.out]
          go_wp2_with fail
          refine (signed_any a _ _ b8).mono ?_
          rintro e w' ⟨rfl, rfl⟩
          rw [HT.out]
          go_wp2_with fail
          all_goals go_roundw
          all_goals first | exact ⟨2, by omega, rfl, BW.out.alloc BW.out.size _⟩ | (simp [intOf]; done)
    · clear hW
      go_wp2_with fail
      go_ret
      exact ⟨rfl, BW0.out⟩
end Go.Proofs.Ytcehihpjaijllaa
