/- BitsOrder: unsigned and signed comparisons are total orders on words, and agree with equality. -/
import Derived.Test.YtcehihpjaijllaaAwake01
import Derived.Test.YtcehihpjaijllaaMathD
import Derived.Below
namespace Go.Proofs.Ytcehihpjaijllaa
open Go.RowKit

theorem bcell {W w1 : World} (hb : Below W.heap.size W w1) : (∀ b o, b < W.heap.size → w1.cell? ⟨b, o, none⟩ = W.cell? ⟨b, o, none⟩) ∧ (∀ b o, b < W.heap.size → w1.frozen? ⟨b, o, none⟩ = W.frozen? ⟨b, o, none⟩) :=
  ⟨fun b o h => hb.cell (p := ⟨b, o, none⟩) h, fun b o h => hb.frozen (p := ⟨b, o, none⟩) h⟩

def OrdC (P Q R N L B A : Nat) : Prop := (P = 1 ∧ Q = 0 ∧ R = 0 ∧ N = 1 ∧ L = 1 ∧ B = 0) ∨ (P = 1 ∧ Q = 0 ∧ R = 0 ∧ N = 1 ∧ L = 1 ∧ B = 1 ∧ A = 1) ∨ (P = 0 ∧ Q = 1 ∧ R = 0 ∧ N = 1 ∧ L = 0) ∨ (P = 0 ∧ Q = 0 ∧ R = 1 ∧ N = 0 ∧ L = 1)
/-- What the seven comparisons of a round come to. -/
structure OrdF (lt le a : Int) (x y z : Nat) (P Q R N L B A : Nat) : Prop where
  p : binN lt a x y = P
  q : binN lt a y x = Q
  r : binN 15 a x y = R
  n : binN 16 a x y = N
  l : binN le a x y = L
  b : binN lt a y z = B
  c : binN lt a x z = A
  p1 : P ≤ 1
  q1 : Q ≤ 1
  r1 : R ≤ 1
  n1 : N ≤ 1
  l1 : L ≤ 1
  b1 : B ≤ 1
  a1 : A ≤ 1
  f : OrdC P Q R N L B A

theorem b2n_le (b : Bool) : b2n b ≤ 1 := by cases b <;> simp [b2n]
theorem ord_abs (u v t : Int) :
    OrdC (b2n (decide (u < v))) (b2n (decide (v < u))) (b2n (decide (u = v))) (b2n (!decide (u = v))) (b2n (decide (u ≤ v))) (b2n (decide (v < t))) (b2n (decide (u < t))) := by
  unfold OrdC
  by_cases h1 : u < v
  · have h2 : ¬ v < u := by omega
    have h3 : ¬ u = v := by omega
    have h4 : u ≤ v := by omega
    by_cases h5 : v < t
    · have h6 : u < t := by omega
      simp [h1, h2, h3, h4, h5, h6, b2n]
    · simp [h1, h2, h3, h4, h5, b2n]
  · by_cases h3 : u = v
    · subst h3; simp [b2n]
    · have h2 : v < u := by omega
      have h4 : ¬ u ≤ v := by omega
      simp [h1, h2, h3, h4, b2n]
theorem ord_mk (lt le a : Int) (x y z : Nat) (h : (lt = 17 ∧ le = 18) ∨ (lt = 19 ∧ le = 20)) (ha : 1 ≤ a) (hb : a ≤ 64) :
    ∃ P Q R N L B A : Nat, OrdF lt le a x y z P Q R N L B A := by
  have e := fun op (x y : Nat) (h1 : 15 ≤ op) (h2 : op ≤ 20) => bin_cmp op a x y h1 h2 ha hb
  obtain ⟨u, v, t, g1, g2, g3, g4, g5, g6, g7⟩ : ∃ u v t : Int, cmpB lt a (fitN a x) (fitN a y) = decide (u < v) ∧ cmpB lt a (fitN a y) (fitN a x) = decide (v < u) ∧ cmpB 15 a (fitN a x) (fitN a y) = decide (u = v) ∧
      cmpB 16 a (fitN a x) (fitN a y) = !decide (u = v) ∧ cmpB le a (fitN a x) (fitN a y) = decide (u ≤ v) ∧ cmpB lt a (fitN a y) (fitN a z) = decide (v < t) ∧ cmpB lt a (fitN a x) (fitN a z) = decide (u < t) := by
    rcases h with ⟨rfl, rfl⟩ | ⟨rfl, rfl⟩
    · refine ⟨fitN a x, fitN a y, fitN a z, ?_, ?_, ?_, ?_, ?_, ?_, ?_⟩
      all_goals simp [cmpB, bne]
      all_goals rw [Bool.eq_iff_iff]; simp
    · have i1 := sgn_inj a (fitN a x) (fitN a y) ha
      rw [fitN_fitN, fitN_fitN] at i1
      have i2 : ((fitN a x : Int) == (fitN a y : Int)) = decide (sgn a (fitN a x) = sgn a (fitN a y)) := by
        rw [Bool.eq_iff_iff, beq_iff_eq, decide_eq_true_eq, i1]; omega
      refine ⟨sgn a (fitN a x), sgn a (fitN a y), sgn a (fitN a z), ?_, ?_, ?_, ?_, ?_, ?_, ?_⟩
      · simp [cmpB]
      · simp [cmpB]
      · simp only [cmpB]; simpa using i2
      · simp only [cmpB, bne]; simpa using i2
      · simp [cmpB]
      · simp [cmpB]
      · simp [cmpB]
  have f := ord_abs u v t
  refine ⟨b2n (decide (u < v)), b2n (decide (v < u)), b2n (decide (u = v)), b2n (!decide (u = v)), b2n (decide (u ≤ v)), b2n (decide (v < t)), b2n (decide (u < t)), ?_⟩
  constructor
  case p => rw [e lt x y (by omega) (by omega), g1]
  case q => rw [e lt y x (by omega) (by omega), g2]
  case r => rw [e 15 x y (by omega) (by omega), g3]
  case n => rw [e 16 x y (by omega) (by omega), g4]
  case l => rw [e le x y (by omega) (by omega), g5]
  case b => rw [e lt y z (by omega) (by omega), g6]
  case c => rw [e lt x z (by omega) (by omega), g7]
  case f => exact f
  all_goals exact b2n_le _

def BelO (W : World) (wr : World) : Prop := Below W.heap.size W wr

set_option maxRecDepth 100000 in
set_option maxHeartbeats 4000000 in
theorem order_ok (a : Int) (x y z : Nat) (w : World) (hx : x < 18446744073709551616) (hy : y < 18446744073709551616) (hz : z < 18446744073709551616) (ha : 1 ≤ a) (hb : a ≤ 64) :
    Calls Try.prog 9 #[.int .i64 a, .agg #[.int .u64 x, .int .u64 y, .int .u64 z]] w fun e w' => e = .returned (.bool true) ∧ Below w.heap.size w w' := by
  have hr : rightB a = true := by simp [rightB]; omega
  go_enter Try.func9, Try.ntmps9
  go_wp2_with fail
  refine (awake_any _).mono ?_
  rintro e w' ⟨rfl, rfl⟩
  go_wp2_with fail
  refine (right_any a _).mono ?_
  rintro e w' ⟨rfl, rfl⟩
  go_wp2_with fail
  obtain ⟨W, hW⟩ : ∃ W : World, W = (w.alloc (Obj.cells #[Value.int IntKind.u64 ↑x, Value.int IntKind.u64 ↑y, Value.int IntKind.u64 ↑z] 42)).alloc (Obj.cells #[Value.int IntKind.i64 17, Value.int IntKind.i64 18, Value.int IntKind.i64 19, Value.int IntKind.i64 20] 32) := ⟨_, rfl⟩
  rw [← hW]
  go_loopw [30] (fun i wr => ∃ k : Nat, k ≤ 2 ∧ i = .int .i64 k ∧ BelO W wr) (fun i _ => 2 - (intOf i).toNat)
  case atStart => exact ⟨0, by omega, rfl, Below.refl _ _⟩
  case round =>
    obtain ⟨k, hk, rfl, hbel⟩ := hrel
    have BW := Lib.hid (show Below W.heap.size W wr from hbel)
    have c := (bcell hbel).1
    have hx0 : wr.cell? ⟨w.heap.size, 0, none⟩ = some (.int .u64 x) := by rw [c _ _ (by rw [hW]; simp <;> omega), hW]; simp [go_sem]
    have hx1 : wr.cell? ⟨w.heap.size, 1, none⟩ = some (.int .u64 y) := by rw [c _ _ (by rw [hW]; simp <;> omega), hW]; simp [go_sem]
    have hx2 : wr.cell? ⟨w.heap.size, 2, none⟩ = some (.int .u64 z) := by rw [c _ _ (by rw [hW]; simp <;> omega), hW]; simp [go_sem]
    have hs0 : wr.cell? ⟨w.heap.size + 1, 0, none⟩ = some (.int .i64 17) := by rw [c _ _ (by rw [hW]; simp <;> omega), hW]; simp [go_sem]
    have hs1 : wr.cell? ⟨w.heap.size + 1, 1, none⟩ = some (.int .i64 18) := by rw [c _ _ (by rw [hW]; simp <;> omega), hW]; simp [go_sem]
    have hs2 : wr.cell? ⟨w.heap.size + 1, 2, none⟩ = some (.int .i64 19) := by rw [c _ _ (by rw [hW]; simp <;> omega), hW]; simp [go_sem]
    have hs3 : wr.cell? ⟨w.heap.size + 1, 3, none⟩ = some (.int .i64 20) := by rw [c _ _ (by rw [hW]; simp <;> omega), hW]; simp [go_sem]
    have hsz : w.heap.size + 1 < wr.heap.size := by have := BW.out.size; rw [hW] at this; simp at this; omega
    have hsz1 : w.heap.size < wr.heap.size := by omega
    have BW0 := Lib.hid (show Below w.heap.size w wr from by
      refine Below.trans ?_ (BW.out.mono (by rw [hW]; simp <;> omega))
      rw [hW]
      exact ((Below.refl _ _).alloc (Nat.le_refl _) _).alloc (by simp) _)
    clear c hbel
    have h3 : k = 0 ∨ k = 1 ∨ k = 2 := by omega
    clear hk
    rcases h3 with rfl | rfl | rfl
    · obtain ⟨P, Q, R, N, L, B, A, F⟩ := ord_mk 17 18 a x y z (by omega) ha hb
      have Hp := Lib.hid F.p
      have Hq := Lib.hid F.q
      have Hr := Lib.hid F.r
      have Hn := Lib.hid F.n
      have Hl := Lib.hid F.l
      have Hb := Lib.hid F.b
      have Hc := Lib.hid F.c
      have p1 := F.p1
      have q1 := F.q1
      have r1 := F.r1
      have n1 := F.n1
      have l1 := F.l1
      have b1 := F.b1
      have a1 := F.a1
      have f4 := F.f
      clear F
      have e1 := Lib.hid (show binE 17 a = 0 by simp [binE, okB, isBin]; omega)
      have e2 := Lib.hid (show binE 18 a = 0 by simp [binE, okB, isBin]; omega)
      have e3 := Lib.hid (show binE 15 a = 0 by simp [binE, okB, isBin]; omega)
      have e4 := Lib.hid (show binE 16 a = 0 by simp [binE, okB, isBin]; omega)
      rcases f4 with ⟨rfl, rfl, rfl, rfl, rfl, rfl⟩ | ⟨rfl, rfl, rfl, rfl, rfl, rfl, rfl⟩ | ⟨rfl, rfl, rfl, rfl, rfl⟩ | ⟨rfl, rfl, rfl, rfl, rfl⟩
      all_goals
        go_wp2_with fail
        refine (binary_any 17 a x y _ hx hy).mono ?_
        rintro e w' ⟨rfl, rfl⟩
        rw [Hp.out, e1.out]
        go_wp2_with fail
        refine (binary_any 17 a y x _ hy hx).mono ?_
        rintro e w' ⟨rfl, rfl⟩
        rw [Hq.out, e1.out]
        go_wp2_with fail
        refine (binary_any 15 a x y _ hx hy).mono ?_
        rintro e w' ⟨rfl, rfl⟩
        rw [Hr.out, e3.out]
        go_wp2_with fail
        refine (binary_any 16 a x y _ hx hy).mono ?_
        rintro e w' ⟨rfl, rfl⟩
        rw [Hn.out, e4.out]
        go_wp2_with fail
        refine (binary_any 18 a x y _ hx hy).mono ?_
        rintro e w' ⟨rfl, rfl⟩
        rw [Hl.out, e2.out]
        go_wp2_with fail
        refine (binary_any 17 a y z _ hy hz).mono ?_
        rintro e w' ⟨rfl, rfl⟩
        rw [Hb.out, e1.out]
        go_wp2_with fail
        refine (binary_any 17 a x z _ hx hz).mono ?_
        rintro e w' ⟨rfl, rfl⟩
        rw [Hc.out, e1.out]
        go_wp2_with fail
        go_roundw
        case rel => exact ⟨1, by omega, rfl, BW.out.alloc BW.out.size _⟩
        case measure => simp [intOf]
    · obtain ⟨P, Q, R, N, L, B, A, F⟩ := ord_mk 19 20 a x y z (by omega) ha hb
      have Hp := Lib.hid F.p
      have Hq := Lib.hid F.q
      have Hr := Lib.hid F.r
      have Hn := Lib.hid F.n
      have Hl := Lib.hid F.l
      have Hb := Lib.hid F.b
      have Hc := Lib.hid F.c
      have p1 := F.p1
      have q1 := F.q1
      have r1 := F.r1
      have n1 := F.n1
      have l1 := F.l1
      have b1 := F.b1
      have a1 := F.a1
      have f4 := F.f
      clear F
      have e1 := Lib.hid (show binE 19 a = 0 by simp [binE, okB, isBin]; omega)
      have e2 := Lib.hid (show binE 20 a = 0 by simp [binE, okB, isBin]; omega)
      have e3 := Lib.hid (show binE 15 a = 0 by simp [binE, okB, isBin]; omega)
      have e4 := Lib.hid (show binE 16 a = 0 by simp [binE, okB, isBin]; omega)
      rcases f4 with ⟨rfl, rfl, rfl, rfl, rfl, rfl⟩ | ⟨rfl, rfl, rfl, rfl, rfl, rfl, rfl⟩ | ⟨rfl, rfl, rfl, rfl, rfl⟩ | ⟨rfl, rfl, rfl, rfl, rfl⟩
      all_goals
        go_wp2_with fail
        refine (binary_any 19 a x y _ hx hy).mono ?_
        rintro e w' ⟨rfl, rfl⟩
        rw [Hp.out, e1.out]
        go_wp2_with fail
        refine (binary_any 19 a y x _ hy hx).mono ?_
        rintro e w' ⟨rfl, rfl⟩
        rw [Hq.out, e1.out]
        go_wp2_with fail
        refine (binary_any 15 a x y _ hx hy).mono ?_
        rintro e w' ⟨rfl, rfl⟩
        rw [Hr.out, e3.out]
        go_wp2_with fail
        refine (binary_any 16 a x y _ hx hy).mono ?_
        rintro e w' ⟨rfl, rfl⟩
        rw [Hn.out, e4.out]
        go_wp2_with fail
        refine (binary_any 20 a x y _ hx hy).mono ?_
        rintro e w' ⟨rfl, rfl⟩
        rw [Hl.out, e2.out]
        go_wp2_with fail
        refine (binary_any 19 a y z _ hy hz).mono ?_
        rintro e w' ⟨rfl, rfl⟩
        rw [Hb.out, e1.out]
        go_wp2_with fail
        refine (binary_any 19 a x z _ hx hz).mono ?_
        rintro e w' ⟨rfl, rfl⟩
        rw [Hc.out, e1.out]
        go_wp2_with fail
        go_roundw
        case rel => exact ⟨2, by omega, rfl, BW.out.alloc BW.out.size _⟩
        case measure => simp [intOf]
    · clear hW
      go_wp2_with fail
      go_ret
      exact ⟨rfl, BW0.out⟩
end Go.Proofs.Ytcehihpjaijllaa
