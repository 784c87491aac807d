/- Layer 1's reference: Extend; and bits.Extend. -/
import Derived.Test.YthkdojgagmaecabLstC
import Derived.Test.YthkdojgagmaecabMathD
namespace Go.Proofs.Ythkdojgagmaecab
open Go.RowKit

/-- The bits of a word of another width. -/
def extL (M x f k : Nat) : List Nat := (List.range k).map fun i => if i < M then x / 2 ^ i % 2 else f
theorem extL_len (M x f k : Nat) : (extL M x f k).length = k := by simp [extL]
theorem extL_in (M x f k : Nat) (h : k < M) : extL M x f (k + 1) = extL M x f k ++ [x / 2 ^ k % 2] := by simp [extL, List.range_succ, h]
theorem extL_out (M x f k : Nat) (h : ¬ k < M) : extL M x f (k + 1) = extL M x f k ++ [f] := by simp [extL, List.range_succ, h]
theorem extL_le (M x f k : Nat) (hf : f ≤ 1) : ∀ z ∈ extL M x f k, z ≤ 1 := by
  intro z hz
  simp only [extL, List.mem_map, List.mem_range] at hz
  obtain ⟨i, _, rfl⟩ := hz
  split <;> omega
theorem word_ext_in (M x f : Nat) : ∀ k, k ≤ M → wordL (extL M x f k) = x % 2 ^ k
  | 0, _ => by simp [extL, wordL, Nat.mod_one]
  | k + 1, h => by rw [extL_in M x f k (by omega), wordL_snoc, word_ext_in M x f k (by omega), extL_len, Nat.pow_succ, Nat.mod_mul]
theorem word_ext_out (M x f : Nat) : ∀ d, wordL (extL M x f (M + d)) + f * 2 ^ M = x % 2 ^ M + f * 2 ^ (M + d)
  | 0 => by rw [Nat.add_zero, word_ext_in M x f M (Nat.le_refl _)]
  | d + 1 => by
    have h := word_ext_out M x f d
    rw [← Nat.add_assoc, extL_out M x f (M + d) (by omega), wordL_snoc, extL_len, Nat.pow_succ]
    have e : 2 ^ (M + d) * f = f * 2 ^ (M + d) := Nat.mul_comm _ _
    have e2 : f * (2 ^ (M + d) * 2) = 2 * (f * 2 ^ (M + d)) := by rw [Nat.mul_comm (2 ^ (M + d)) 2, Nat.mul_left_comm]
    omega

/-- What bits.Extend answers. -/
def extN (c d : Int) (x : Nat) (s : Bool) : Nat := bif s then fromN d (sgn c x) else fitN d (fitN c x)
theorem fit_fit (c d : Int) (x : Nat) : fitN d (fitN c x) = if cw d ≤ cw c then x % 2 ^ cw d else x % 2 ^ cw c := by
  unfold fitN
  split
  · exact Nat.mod_mod_of_dvd _ (Nat.pow_dvd_pow 2 (by assumption))
  · exact Nat.mod_eq_of_lt (Nat.lt_of_lt_of_le (Nat.mod_lt _ (pow_pos _)) (Nat.pow_le_pow_right (by decide) (by omega)))
theorem from_nat (d : Int) (n : Nat) : fromN d (n : Int) = fitN d n := by
  unfold fromN fitN; omega
theorem ext_zero (c d : Int) (x : Nat) : wordL (extL (wid c) x 0 (wid d)) = fitN d (fitN c x) := by
  rw [fit_fit, wid_cw, wid_cw]
  split
  · exact word_ext_in _ _ _ _ (by assumption)
  · have h := word_ext_out (cw c) x 0 (cw d - cw c)
    rw [show cw c + (cw d - cw c) = cw d by omega] at h
    omega
theorem ext_one (c d : Int) (x : Nat) (h : negB c x = true) : wordL (extL (wid c) x 1 (wid d)) = fromN d (sgn c x) := by
  obtain ⟨h0, h1⟩ := neg_big c x h
  have hs : sgn c x = (fitN c x : Int) - (2 ^ cw c : Nat) := by
    unfold sgn; rw [if_neg (cw_pos_iff c h0), if_neg (by omega)]
  have hl := fitN_lt' c x
  rw [wid_cw, wid_cw, hs]
  by_cases hk : cw d ≤ cw c
  · rw [word_ext_in _ _ _ _ hk]
    have e : ((2 ^ cw c : Nat) : Int) % (2 ^ cw d : Nat) = 0 := by
      have : (2 ^ cw d : Nat) ∣ 2 ^ cw c := Nat.pow_dvd_pow 2 hk
      exact Int.emod_eq_zero_of_dvd (Int.natCast_dvd_natCast.2 this)
    unfold fromN
    rw [Int.sub_emod, e, Int.sub_zero, Int.emod_emod]
    have : fitN c x % 2 ^ cw d = x % 2 ^ cw d := Nat.mod_mod_of_dvd _ (Nat.pow_dvd_pow 2 hk)
    omega
  · have h2 := word_ext_out (cw c) x 1 (cw d - cw c)
    rw [show cw c + (cw d - cw c) = cw d by omega] at h2
    have h3 : 2 ^ cw c ≤ 2 ^ cw d := Nat.pow_le_pow_right (by decide) (by omega)
    have hp := pow_pos (cw c)
    have e : fitN c x = x % 2 ^ cw c := rfl
    unfold fromN
    have e2 : ((fitN c x : Int) - (2 ^ cw c : Nat)) % (2 ^ cw d : Nat) = (fitN c x : Int) - (2 ^ cw c : Nat) + (2 ^ cw d : Nat) := by
      rw [← Int.add_emod_right, Int.emod_eq_of_lt (by omega) (by omega)]
    rw [e2]
    omega
theorem ext_eq (c d : Int) (x : Nat) (s : Bool) : wordL (extL (wid c) x (b2n (s && negB c x)) (wid d)) = extN c d x s := by
  cases s
  · exact ext_zero c d x
  · cases h : negB c x
    · show wordL (extL (wid c) x 0 (wid d)) = fromN d (sgn c x)
      rw [(sgn_small c x h).2, from_nat]; exact ext_zero c d x
    · exact ext_one c d x h

theorem ext_any (c d : Int) (x : Nat) (hx : x < 18446744073709551616) (s : Bool) (w : World) :
    Calls Try.prog 64 #[.int .i64 c, .int .i64 d, .int .u64 x, .bool s] w fun e w' => e = .returned (.int .u64 (extN c d x s : Nat)) ∧ w = w' := by
  cases s
  · have C1 := fun w => fit_any c x w hx
    have C2 := fun w => fit_any d (fitN c x) w (fitN_lt c x)
    have H := Lib.hid (show extN c d x false = fitN d (fitN c x) from rfl)
    generalize fitN c x = F at C1 C2 H
    generalize fitN d F = G at C2 H
    go_enter Try.func64, Try.ntmps64
    go_wp2_with fail
    refine (C1 _).mono ?_
    rintro e w1 ⟨rfl, rfl⟩
    go_wp2_with fail
    refine (C2 _).mono ?_
    rintro e w1 ⟨rfl, rfl⟩
    go_wp2_with fail
    go_ret
    exact ⟨by rw [H.out]; rfl, rfl⟩
  · have C1 := fun w => signed_any c x w hx
    have C2 := fun w => from_any d (sgn c x) w
    have H := Lib.hid (show extN c d x true = fromN d (sgn c x) from rfl)
    generalize sgn c x = F at C1 C2 H
    generalize fromN d F = G at C2 H
    go_enter Try.func64, Try.ntmps64
    go_wp2_with fail
    refine (C1 _).mono ?_
    rintro e w1 ⟨rfl, rfl⟩
    go_wp2_with fail
    refine (C2 _).mono ?_
    rintro e w1 ⟨rfl, rfl⟩
    go_wp2_with fail
    go_ret
    exact ⟨by rw [H.out]; rfl, rfl⟩

theorem ext_step {M x f k b : Nat} {L : List Nat} (H : Hid (L = extL M x f k)) (hb : Hid (b = if k < M then x / 2 ^ k % 2 else f)) : Hid (L ++ [b] = extL M x f (k + 1)) := by
  obtain rfl := H.out
  rw [hb.out]
  by_cases h : k < M
  · rw [if_pos h]; exact Lib.hid (extL_in M x f k h).symm
  · rw [if_neg h]; exact Lib.hid (extL_out M x f k h).symm
theorem rel_one {B b : Nat} {k : Nat} {L : List Nat} {w wr w2 : World} {v v' : Value} {o : Obj}
    (hown : wr.ownsRow w.heap.size B 1 v k (rowL L)) (hnx : Below w.heap.size w wr)
    (hown' : w2.ownsRow w.heap.size B 1 v' (k + 1) (rowL L ++ [.int .i64 (b : Int)])) (hgrow : (wr.alloc o).grownBy w2 v.ownBlock) :
    w2.ownsRow w.heap.size B 1 v' (k + 1) (rowL (L ++ [b])) ∧ Below w.heap.size w w2 := by
  constructor
  · rw [rowL_append]; exact hown'
  · exact (hnx.alloc hnx.size o).grown hgrow (by have := hnx.size; simp; omega) (fun j hj => by have := (hown.lt j hj).1; omega)

theorem rext_any (c d : Int) (x : Nat) (hx : x < 18446744073709551616) (s : Bool) (w : World) :
    Calls Try.prog 45 #[.int .i64 c, .int .i64 d, .int .u64 x, .bool s] w fun e w' => e = .returned (.int .u64 (extN c d x s : Nat)) ∧ Below w.heap.size w w' := by
  obtain ⟨i0, hi, hz0, hz1, hz2⟩ := info_parts info_int
  obtain ⟨f, hf⟩ : ∃ f : Nat, f = b2n (s && negB c x) := ⟨_, rfl⟩
  have hf1 : f ≤ 1 := by rw [hf]; cases (s && negB c x) <;> decide
  have HE : Hid (wordL (extL (wid c) x f (wid d)) = extN c d x s) := Lib.hid (by rw [hf]; exact ext_eq c d x s)
  have hn := wid_le d
  have hm := wid_le c
  have C1 := fun w => rbits_any c x hx w
  have C2 := fun w => rneg_any c x hx w
  have C3 := fun w => width_any d w
  generalize wid d = N at hn HE C3
  generalize wid c = M at hm HE C1
  generalize extN c d x s = E at HE ⊢
  go_enter Try.func45, Try.ntmps45
  go_wp2_with fail
  refine (C1 _).mono ?_
  rintro e w1 ⟨v, rfl, hown0, hb1⟩
  rw [bitsL_len] at hown0
  have hv : (v = .slice none 0 0 ∧ M = 0) ∨ ∃ g cap, v = .slice (some ⟨g, 0, none⟩) M cap ∧ g < w1.heap.size ∧ ∀ m, m < M → w1.cell? ⟨g, m, none⟩ = some (.int .i64 ((x / 2 ^ m % 2 : Nat) : Int)) := by
    have hown' := hown0
    rcases hown0.2 with h | ⟨g, cap, cur, rfl, _, hg, _⟩
    · exact Or.inl h
    · refine Or.inr ⟨g, cap, rfl, (Array.getElem?_eq_some_iff.1 hg).1, fun m hm => ?_⟩
      have := hown'.cells (g := g) rfl m (.int .i64 ((x / 2 ^ m % 2 : Nat) : Int)) (by simp [rowL, bitsL, hm])
      have e : (⟨g, 0, none⟩ : Addr).add m = ⟨g, m, none⟩ := by unfold Addr.add; split <;> simp_all
      rw [e] at this; exact this
  clear hown0
  cases s
  · have hf0 : f = 0 := hf
    subst hf0
    clear hf hf1
    rcases hv with ⟨rfl, hM0⟩ | ⟨g, cap, rfl, hgl, hc⟩
    · go_wp2_with fail
      go_loopw [11, 12] (fun v i wr => ∃ k : Nat, ∃ L : List Nat, k ≤ N ∧ Hid (L = extL M x 0 k) ∧ i = .int .i64 (k : Nat) ∧ wr.ownsRow w1.heap.size 3 1 v k (rowL L) ∧ Below w1.heap.size w1 wr)
        (fun _ i _ => N - (intOf i).toNat)
      case atStart => exact ⟨0, [], Nat.zero_le _, Lib.hid rfl, rfl, World.ownsRow_nil _ _ _ _, Below.refl _ _⟩
      case round =>
        obtain ⟨k, L, hk, HL, rfl, hown, hnx⟩ := hrel
        go_wp2_with fail
        refine (C3 _).mono ?_
        rintro e w4 ⟨rfl, rfl⟩
        have hB : w1.heap.size ≤ wr.heap.size := hnx.size
        by_cases hlt : k < N
        · have HB : Hid (0 = if k < M then x / 2 ^ k % 2 else 0) := Lib.hid (by rw [if_neg (by omega)])
          go_wp2_with (at_builtin; refine wpList_append_own _ rfl _ _ 43 rfl w1.heap.size 3 i0 (.int .i64 0) 1 8 Try.underlying43 hi hz0 hz1 hz2 rfl (by decide) _ _ _ rfl (hown.alloc _) ⟨wr.heap.size, 0, none⟩ 1 1 [.int .i64 0] rfl rfl ?c1 ?c2 ?c3 ?c4 ?c5 ?_)
          case c1 =>
            intro j u hj
            match j, hj with
            | 0, hj => simp at hj; subst hj; simp [Addr.add, go_sem]
          case c2 => intro u hu; simp at hu; subst hu; rfl
          case c3 => unfold maxLen; omega
          case c4 => omega
          case c5 => simp; omega
          intro v' w3 hown' hgrow _
          have R := rel_one (b := 0) hown hnx hown' hgrow
          clear hown' hgrow hown hnx
          go_wp2_with fail
          go_roundw
          case rel => exact ⟨k + 1, L ++ [0], by omega, ext_step HL HB, by go_num, R.1, R.2⟩
          case measure => (simp [intOf] <;> omega)
        · have hkN : k = N := by omega
          subst hkN
          have HW := Lib.hid (show wordL L = E by rw [HL.out]; exact HE.out)
          have hLl : L.length = k := by have := hown.1; simpa [rowL] using this
          have hL1 : ∀ z ∈ L, z ≤ 1 := by rw [HL.out]; exact extL_le M x 0 k (by decide)
          go_wp2_with fail
          refine (word_row _ _ _ L (by omega) hL1 _ (by rw [hLl]; exact hown)).mono ?_
          rintro e w4 ⟨rfl, rfl⟩
          go_wp2_with fail
          go_ret
          exact ⟨by rw [HW.out]; rfl, hb1.trans (hnx.mono hb1.size)⟩
    · go_wp2_with fail
      go_loopw [11, 12] (fun v i wr => ∃ k : Nat, ∃ L : List Nat, k ≤ N ∧ Hid (L = extL M x 0 k) ∧ i = .int .i64 (k : Nat) ∧ wr.ownsRow w1.heap.size 3 1 v k (rowL L) ∧ Below w1.heap.size w1 wr)
        (fun _ i _ => N - (intOf i).toNat)
      case atStart => exact ⟨0, [], Nat.zero_le _, Lib.hid rfl, rfl, World.ownsRow_nil _ _ _ _, Below.refl _ _⟩
      case round =>
        obtain ⟨k, L, hk, HL, rfl, hown, hnx⟩ := hrel
        go_wp2_with fail
        refine (C3 _).mono ?_
        rintro e w4 ⟨rfl, rfl⟩
        have hB : w1.heap.size ≤ wr.heap.size := hnx.size
        by_cases hlt : k < N
        · by_cases hkM : k < M
          · obtain ⟨b, hbx⟩ : ∃ b : Nat, b = x / 2 ^ k % 2 := ⟨_, rfl⟩
            have hcb : wr.cell? ⟨g, k, none⟩ = some (.int .i64 ((b : Nat) : Int)) := by
              rw [hbx]; exact (hnx.cell (by exact hgl)).trans (hc k hkM)
            have HB : Hid (b = if k < M then x / 2 ^ k % 2 else 0) := Lib.hid (by rw [if_pos hkM]; exact hbx)
            clear hbx
            go_wp2_with (at_builtin; refine wpList_append_own _ rfl _ _ 43 rfl w1.heap.size 3 i0 (.int .i64 0) 1 8 Try.underlying43 hi hz0 hz1 hz2 rfl (by decide) _ _ _ rfl (hown.alloc _) ⟨wr.heap.size, 0, none⟩ 1 1 [.int .i64 ((b : Nat) : Int)] rfl rfl ?c1 ?c2 ?c3 ?c4 ?c5 ?_)
            case c1 =>
              intro j u hj
              match j, hj with
              | 0, hj => simp at hj; subst hj; simp [Addr.add, go_sem]
            case c2 => intro u hu; simp at hu; subst hu; rfl
            case c3 => unfold maxLen; omega
            case c4 => omega
            case c5 => simp; omega
            intro v' w3 hown' hgrow _
            have R := rel_one (b := b) hown hnx hown' hgrow
            clear hown' hgrow hown hnx
            go_wp2_with fail
            go_roundw
            case rel => exact ⟨k + 1, L ++ [b], by omega, ext_step HL HB, by go_num, R.1, R.2⟩
            case measure => (simp [intOf] <;> omega)
          · have HB : Hid (0 = if k < M then x / 2 ^ k % 2 else 0) := Lib.hid (by rw [if_neg hkM])
            go_wp2_with (at_builtin; refine wpList_append_own _ rfl _ _ 43 rfl w1.heap.size 3 i0 (.int .i64 0) 1 8 Try.underlying43 hi hz0 hz1 hz2 rfl (by decide) _ _ _ rfl (hown.alloc _) ⟨wr.heap.size, 0, none⟩ 1 1 [.int .i64 0] rfl rfl ?c1 ?c2 ?c3 ?c4 ?c5 ?_)
            case c1 =>
              intro j u hj
              match j, hj with
              | 0, hj => simp at hj; subst hj; simp [Addr.add, go_sem]
            case c2 => intro u hu; simp at hu; subst hu; rfl
            case c3 => unfold maxLen; omega
            case c4 => omega
            case c5 => simp; omega
            intro v' w3 hown' hgrow _
            have R := rel_one (b := 0) hown hnx hown' hgrow
            clear hown' hgrow hown hnx
            go_wp2_with fail
            go_roundw
            case rel => exact ⟨k + 1, L ++ [0], by omega, ext_step HL HB, by go_num, R.1, R.2⟩
            case measure => (simp [intOf] <;> omega)
        · have hkN : k = N := by omega
          subst hkN
          have HW := Lib.hid (show wordL L = E by rw [HL.out]; exact HE.out)
          have hLl : L.length = k := by have := hown.1; simpa [rowL] using this
          have hL1 : ∀ z ∈ L, z ≤ 1 := by rw [HL.out]; exact extL_le M x 0 k (by decide)
          go_wp2_with fail
          refine (word_row _ _ _ L (by omega) hL1 _ (by rw [hLl]; exact hown)).mono ?_
          rintro e w4 ⟨rfl, rfl⟩
          go_wp2_with fail
          go_ret
          exact ⟨by rw [HW.out]; rfl, hb1.trans (hnx.mono hb1.size)⟩
  · cases hg : negB c x
    · go_wp2_with fail
      refine (C2 _).mono ?_
      rintro e w2 ⟨rfl, hb2⟩
      rw [hg]
      obtain ⟨hcc, _⟩ : (∀ g m, g < w1.heap.size → w2.cell? ⟨g, m, none⟩ = w1.cell? ⟨g, m, none⟩) ∧ True := ⟨fun g m h => hb2.cell (p := ⟨g, m, none⟩) h, trivial⟩
      have hv : (v = .slice none 0 0 ∧ M = 0) ∨ ∃ g cap, v = .slice (some ⟨g, 0, none⟩) M cap ∧ g < w2.heap.size ∧ ∀ m, m < M → w2.cell? ⟨g, m, none⟩ = some (.int .i64 ((x / 2 ^ m % 2 : Nat) : Int)) := by
        rcases hv with h | ⟨g, cap, h1, h2, h3⟩
        · exact Or.inl h
        · exact Or.inr ⟨g, cap, h1, Nat.lt_of_lt_of_le h2 hb2.size, fun m hm => by rw [hcc g m h2]; exact h3 m hm⟩
      clear hcc
      have hf0 : f = 0 := by rw [hf, hg]; rfl
      subst hf0
      clear hf hf1
      rcases hv with ⟨rfl, hM0⟩ | ⟨g, cap, rfl, hgl, hc⟩
      · go_wp2_with fail
        go_loopw [11, 12] (fun v i wr => ∃ k : Nat, ∃ L : List Nat, k ≤ N ∧ Hid (L = extL M x 0 k) ∧ i = .int .i64 (k : Nat) ∧ wr.ownsRow w2.heap.size 3 1 v k (rowL L) ∧ Below w2.heap.size w2 wr)
          (fun _ i _ => N - (intOf i).toNat)
        case atStart => exact ⟨0, [], Nat.zero_le _, Lib.hid rfl, rfl, World.ownsRow_nil _ _ _ _, Below.refl _ _⟩
        case round =>
          obtain ⟨k, L, hk, HL, rfl, hown, hnx⟩ := hrel
          go_wp2_with fail
          refine (C3 _).mono ?_
          rintro e w4 ⟨rfl, rfl⟩
          have hB : w2.heap.size ≤ wr.heap.size := hnx.size
          by_cases hlt : k < N
          · have HB : Hid (0 = if k < M then x / 2 ^ k % 2 else 0) := Lib.hid (by rw [if_neg (by omega)])
            go_wp2_with (at_builtin; refine wpList_append_own _ rfl _ _ 43 rfl w2.heap.size 3 i0 (.int .i64 0) 1 8 Try.underlying43 hi hz0 hz1 hz2 rfl (by decide) _ _ _ rfl (hown.alloc _) ⟨wr.heap.size, 0, none⟩ 1 1 [.int .i64 0] rfl rfl ?c1 ?c2 ?c3 ?c4 ?c5 ?_)
            case c1 =>
              intro j u hj
              match j, hj with
              | 0, hj => simp at hj; subst hj; simp [Addr.add, go_sem]
            case c2 => intro u hu; simp at hu; subst hu; rfl
            case c3 => unfold maxLen; omega
            case c4 => omega
            case c5 => simp; omega
            intro v' w3 hown' hgrow _
            have R := rel_one (b := 0) hown hnx hown' hgrow
            clear hown' hgrow hown hnx
            go_wp2_with fail
            go_roundw
            case rel => exact ⟨k + 1, L ++ [0], by omega, ext_step HL HB, by go_num, R.1, R.2⟩
            case measure => (simp [intOf] <;> omega)
          · have hkN : k = N := by omega
            subst hkN
            have HW := Lib.hid (show wordL L = E by rw [HL.out]; exact HE.out)
            have hLl : L.length = k := by have := hown.1; simpa [rowL] using this
            have hL1 : ∀ z ∈ L, z ≤ 1 := by rw [HL.out]; exact extL_le M x 0 k (by decide)
            go_wp2_with fail
            refine (word_row _ _ _ L (by omega) hL1 _ (by rw [hLl]; exact hown)).mono ?_
            rintro e w4 ⟨rfl, rfl⟩
            go_wp2_with fail
            go_ret
            exact ⟨by rw [HW.out]; rfl, hb1.trans ((hb2.trans (hnx.mono hb2.size)).mono hb1.size)⟩
      · go_wp2_with fail
        go_loopw [11, 12] (fun v i wr => ∃ k : Nat, ∃ L : List Nat, k ≤ N ∧ Hid (L = extL M x 0 k) ∧ i = .int .i64 (k : Nat) ∧ wr.ownsRow w2.heap.size 3 1 v k (rowL L) ∧ Below w2.heap.size w2 wr)
          (fun _ i _ => N - (intOf i).toNat)
        case atStart => exact ⟨0, [], Nat.zero_le _, Lib.hid rfl, rfl, World.ownsRow_nil _ _ _ _, Below.refl _ _⟩
        case round =>
          obtain ⟨k, L, hk, HL, rfl, hown, hnx⟩ := hrel
          go_wp2_with fail
          refine (C3 _).mono ?_
          rintro e w4 ⟨rfl, rfl⟩
          have hB : w2.heap.size ≤ wr.heap.size := hnx.size
          by_cases hlt : k < N
          · by_cases hkM : k < M
            · obtain ⟨b, hbx⟩ : ∃ b : Nat, b = x / 2 ^ k % 2 := ⟨_, rfl⟩
              have hcb : wr.cell? ⟨g, k, none⟩ = some (.int .i64 ((b : Nat) : Int)) := by
                rw [hbx]; exact (hnx.cell (by exact hgl)).trans (hc k hkM)
              have HB : Hid (b = if k < M then x / 2 ^ k % 2 else 0) := Lib.hid (by rw [if_pos hkM]; exact hbx)
              clear hbx
              go_wp2_with (at_builtin; refine wpList_append_own _ rfl _ _ 43 rfl w2.heap.size 3 i0 (.int .i64 0) 1 8 Try.underlying43 hi hz0 hz1 hz2 rfl (by decide) _ _ _ rfl (hown.alloc _) ⟨wr.heap.size, 0, none⟩ 1 1 [.int .i64 ((b : Nat) : Int)] rfl rfl ?c1 ?c2 ?c3 ?c4 ?c5 ?_)
              case c1 =>
                intro j u hj
                match j, hj with
                | 0, hj => simp at hj; subst hj; simp [Addr.add, go_sem]
              case c2 => intro u hu; simp at hu; subst hu; rfl
              case c3 => unfold maxLen; omega
              case c4 => omega
              case c5 => simp; omega
              intro v' w3 hown' hgrow _
              have R := rel_one (b := b) hown hnx hown' hgrow
              clear hown' hgrow hown hnx
              go_wp2_with fail
              go_roundw
              case rel => exact ⟨k + 1, L ++ [b], by omega, ext_step HL HB, by go_num, R.1, R.2⟩
              case measure => (simp [intOf] <;> omega)
            · have HB : Hid (0 = if k < M then x / 2 ^ k % 2 else 0) := Lib.hid (by rw [if_neg hkM])
              go_wp2_with (at_builtin; refine wpList_append_own _ rfl _ _ 43 rfl w2.heap.size 3 i0 (.int .i64 0) 1 8 Try.underlying43 hi hz0 hz1 hz2 rfl (by decide) _ _ _ rfl (hown.alloc _) ⟨wr.heap.size, 0, none⟩ 1 1 [.int .i64 0] rfl rfl ?c1 ?c2 ?c3 ?c4 ?c5 ?_)
              case c1 =>
                intro j u hj
                match j, hj with
                | 0, hj => simp at hj; subst hj; simp [Addr.add, go_sem]
              case c2 => intro u hu; simp at hu; subst hu; rfl
              case c3 => unfold maxLen; omega
              case c4 => omega
              case c5 => simp; omega
              intro v' w3 hown' hgrow _
              have R := rel_one (b := 0) hown hnx hown' hgrow
              clear hown' hgrow hown hnx
              go_wp2_with fail
              go_roundw
              case rel => exact ⟨k + 1, L ++ [0], by omega, ext_step HL HB, by go_num, R.1, R.2⟩
              case measure => (simp [intOf] <;> omega)
          · have hkN : k = N := by omega
            subst hkN
            have HW := Lib.hid (show wordL L = E by rw [HL.out]; exact HE.out)
            have hLl : L.length = k := by have := hown.1; simpa [rowL] using this
            have hL1 : ∀ z ∈ L, z ≤ 1 := by rw [HL.out]; exact extL_le M x 0 k (by decide)
            go_wp2_with fail
            refine (word_row _ _ _ L (by omega) hL1 _ (by rw [hLl]; exact hown)).mono ?_
            rintro e w4 ⟨rfl, rfl⟩
            go_wp2_with fail
            go_ret
            exact ⟨by rw [HW.out]; rfl, hb1.trans ((hb2.trans (hnx.mono hb2.size)).mono hb1.size)⟩
    · go_wp2_with fail
      refine (C2 _).mono ?_
      rintro e w2 ⟨rfl, hb2⟩
      rw [hg]
      obtain ⟨hcc, _⟩ : (∀ g m, g < w1.heap.size → w2.cell? ⟨g, m, none⟩ = w1.cell? ⟨g, m, none⟩) ∧ True := ⟨fun g m h => hb2.cell (p := ⟨g, m, none⟩) h, trivial⟩
      have hv : (v = .slice none 0 0 ∧ M = 0) ∨ ∃ g cap, v = .slice (some ⟨g, 0, none⟩) M cap ∧ g < w2.heap.size ∧ ∀ m, m < M → w2.cell? ⟨g, m, none⟩ = some (.int .i64 ((x / 2 ^ m % 2 : Nat) : Int)) := by
        rcases hv with h | ⟨g, cap, h1, h2, h3⟩
        · exact Or.inl h
        · exact Or.inr ⟨g, cap, h1, Nat.lt_of_lt_of_le h2 hb2.size, fun m hm => by rw [hcc g m h2]; exact h3 m hm⟩
      clear hcc
      have hf0 : f = 1 := by rw [hf, hg]; rfl
      subst hf0
      clear hf hf1
      rcases hv with ⟨rfl, hM0⟩ | ⟨g, cap, rfl, hgl, hc⟩
      · go_wp2_with fail
        go_loopw [11, 12] (fun v i wr => ∃ k : Nat, ∃ L : List Nat, k ≤ N ∧ Hid (L = extL M x 1 k) ∧ i = .int .i64 (k : Nat) ∧ wr.ownsRow w2.heap.size 3 1 v k (rowL L) ∧ Below w2.heap.size w2 wr)
          (fun _ i _ => N - (intOf i).toNat)
        case atStart => exact ⟨0, [], Nat.zero_le _, Lib.hid rfl, rfl, World.ownsRow_nil _ _ _ _, Below.refl _ _⟩
        case round =>
          obtain ⟨k, L, hk, HL, rfl, hown, hnx⟩ := hrel
          go_wp2_with fail
          refine (C3 _).mono ?_
          rintro e w4 ⟨rfl, rfl⟩
          have hB : w2.heap.size ≤ wr.heap.size := hnx.size
          by_cases hlt : k < N
          · have HB : Hid (1 = if k < M then x / 2 ^ k % 2 else 1) := Lib.hid (by rw [if_neg (by omega)])
            go_wp2_with (at_builtin; refine wpList_append_own _ rfl _ _ 43 rfl w2.heap.size 3 i0 (.int .i64 0) 1 8 Try.underlying43 hi hz0 hz1 hz2 rfl (by decide) _ _ _ rfl (hown.alloc _) ⟨wr.heap.size, 0, none⟩ 1 1 [.int .i64 1] rfl rfl ?c1 ?c2 ?c3 ?c4 ?c5 ?_)
            case c1 =>
              intro j u hj
              match j, hj with
              | 0, hj => simp at hj; subst hj; simp [Addr.add, go_sem]
            case c2 => intro u hu; simp at hu; subst hu; rfl
            case c3 => unfold maxLen; omega
            case c4 => omega
            case c5 => simp; omega
            intro v' w3 hown' hgrow _
            have R := rel_one (b := 1) hown hnx hown' hgrow
            clear hown' hgrow hown hnx
            go_wp2_with fail
            go_roundw
            case rel => exact ⟨k + 1, L ++ [1], by omega, ext_step HL HB, by go_num, R.1, R.2⟩
            case measure => (simp [intOf] <;> omega)
          · have hkN : k = N := by omega
            subst hkN
            have HW := Lib.hid (show wordL L = E by rw [HL.out]; exact HE.out)
            have hLl : L.length = k := by have := hown.1; simpa [rowL] using this
            have hL1 : ∀ z ∈ L, z ≤ 1 := by rw [HL.out]; exact extL_le M x 1 k (by decide)
            go_wp2_with fail
            refine (word_row _ _ _ L (by omega) hL1 _ (by rw [hLl]; exact hown)).mono ?_
            rintro e w4 ⟨rfl, rfl⟩
            go_wp2_with fail
            go_ret
            exact ⟨by rw [HW.out]; rfl, hb1.trans ((hb2.trans (hnx.mono hb2.size)).mono hb1.size)⟩
      · go_wp2_with fail
        go_loopw [11, 12] (fun v i wr => ∃ k : Nat, ∃ L : List Nat, k ≤ N ∧ Hid (L = extL M x 1 k) ∧ i = .int .i64 (k : Nat) ∧ wr.ownsRow w2.heap.size 3 1 v k (rowL L) ∧ Below w2.heap.size w2 wr)
          (fun _ i _ => N - (intOf i).toNat)
        case atStart => exact ⟨0, [], Nat.zero_le _, Lib.hid rfl, rfl, World.ownsRow_nil _ _ _ _, Below.refl _ _⟩
        case round =>
          obtain ⟨k, L, hk, HL, rfl, hown, hnx⟩ := hrel
          go_wp2_with fail
          refine (C3 _).mono ?_
          rintro e w4 ⟨rfl, rfl⟩
          have hB : w2.heap.size ≤ wr.heap.size := hnx.size
          by_cases hlt : k < N
          · by_cases hkM : k < M
            · obtain ⟨b, hbx⟩ : ∃ b : Nat, b = x / 2 ^ k % 2 := ⟨_, rfl⟩
              have hcb : wr.cell? ⟨g, k, none⟩ = some (.int .i64 ((b : Nat) : Int)) := by
                rw [hbx]; exact (hnx.cell (by exact hgl)).trans (hc k hkM)
              have HB : Hid (b = if k < M then x / 2 ^ k % 2 else 1) := Lib.hid (by rw [if_pos hkM]; exact hbx)
              clear hbx
              go_wp2_with (at_builtin; refine wpList_append_own _ rfl _ _ 43 rfl w2.heap.size 3 i0 (.int .i64 0) 1 8 Try.underlying43 hi hz0 hz1 hz2 rfl (by decide) _ _ _ rfl (hown.alloc _) ⟨wr.heap.size, 0, none⟩ 1 1 [.int .i64 ((b : Nat) : Int)] rfl rfl ?c1 ?c2 ?c3 ?c4 ?c5 ?_)
              case c1 =>
                intro j u hj
                match j, hj with
                | 0, hj => simp at hj; subst hj; simp [Addr.add, go_sem]
              case c2 => intro u hu; simp at hu; subst hu; rfl
              case c3 => unfold maxLen; omega
              case c4 => omega
              case c5 => simp; omega
              intro v' w3 hown' hgrow _
              have R := rel_one (b := b) hown hnx hown' hgrow
              clear hown' hgrow hown hnx
              go_wp2_with fail
              go_roundw
              case rel => exact ⟨k + 1, L ++ [b], by omega, ext_step HL HB, by go_num, R.1, R.2⟩
              case measure => (simp [intOf] <;> omega)
            · have HB : Hid (1 = if k < M then x / 2 ^ k % 2 else 1) := Lib.hid (by rw [if_neg hkM])
              go_wp2_with (at_builtin; refine wpList_append_own _ rfl _ _ 43 rfl w2.heap.size 3 i0 (.int .i64 0) 1 8 Try.underlying43 hi hz0 hz1 hz2 rfl (by decide) _ _ _ rfl (hown.alloc _) ⟨wr.heap.size, 0, none⟩ 1 1 [.int .i64 1] rfl rfl ?c1 ?c2 ?c3 ?c4 ?c5 ?_)
              case c1 =>
                intro j u hj
                match j, hj with
                | 0, hj => simp at hj; subst hj; simp [Addr.add, go_sem]
              case c2 => intro u hu; simp at hu; subst hu; rfl
              case c3 => unfold maxLen; omega
              case c4 => omega
              case c5 => simp; omega
              intro v' w3 hown' hgrow _
              have R := rel_one (b := 1) hown hnx hown' hgrow
              clear hown' hgrow hown hnx
              go_wp2_with fail
              go_roundw
              case rel => exact ⟨k + 1, L ++ [1], by omega, ext_step HL HB, by go_num, R.1, R.2⟩
              case measure => (simp [intOf] <;> omega)
          · have hkN : k = N := by omega
            subst hkN
            have HW := Lib.hid (show wordL L = E by rw [HL.out]; exact HE.out)
            have hLl : L.length = k := by have := hown.1; simpa [rowL] using this
            have hL1 : ∀ z ∈ L, z ≤ 1 := by rw [HL.out]; exact extL_le M x 1 k (by decide)
            go_wp2_with fail
            refine (word_row _ _ _ L (by omega) hL1 _ (by rw [hLl]; exact hown)).mono ?_
            rintro e w4 ⟨rfl, rfl⟩
            go_wp2_with fail
            go_ret
            exact ⟨by rw [HW.out]; rfl, hb1.trans ((hb2.trans (hnx.mono hb2.size)).mono hb1.size)⟩
end Go.Proofs.Ythkdojgagmaecab
