/- Contracts of fits and of both searches for a multiplier. -/
import Derived.Test.YthkdojgagmaecaaMagicW
namespace Go.Proofs.Ythkdojgagmaecaa
open Go.RowKit

def dq (W : Nat) : Nat := maskN (2 * (W : Int)) / maskN W
def pm (m c : Nat) : Nat := m * c
theorem wrapQ (a b : Nat) (ha : a < 18446744073709551616) : IntKind.u64.wrap ((a : Int) / b) = ((a / b : Nat) : Int) := by
  rw [← Int.natCast_ediv, IntKind.wrap_u64]
  have := Nat.div_le_self a b
  generalize a / b = q at *
  omega
theorem wrapM (m c : Nat) (h : m * c < 18446744073709551616) : IntKind.u64.wrap ((m : Int) * c) = ((pm m c : Nat) : Int) := by
  rw [← Int.natCast_mul, IntKind.wrap_u64]; unfold pm; omega
theorem dq_iff (W m : Nat) (hW : 1 ≤ W) (hW' : W ≤ 32) : m ≤ dq W ↔ m * (2 ^ W - 1) ≤ 2 ^ (2 * W) - 1 := by
  unfold dq
  have hM2 : maskN (2 * (W : Int)) = 2 ^ (2 * W) - 1 := by have := maskN_nat (2 * W) (by omega); rw [← this]; congr 1
  rw [maskN_nat W (by omega), hM2]
  have : 2 ≤ 2 ^ W := by calc 2 = 2 ^ 1 := rfl
                         _ ≤ 2 ^ W := pow_mono hW
  exact Nat.le_div_iff_mul_le (by omega)

set_option maxHeartbeats 1000000 in
theorem fits_any (W c m K : Nat) (w : World) (hW : 1 ≤ W) (hW' : W ≤ 32) (hc : 1 ≤ c) (hc' : c < 2 ^ W) (hm : m < 18446744073709551616) (hK : W ≤ K) (hK' : K < 2 * W) :
    Calls Try.prog 38 #[.int .i64 W, .int .u64 c, .int .u64 m, .int .i64 K] w fun e w' => e = .returned (.bool (okM W c m K)) ∧ w = w' := by
  have hcm : c ≤ maskN (W : Int) := by rw [maskN_nat W (by omega)]; omega
  have hm1 : 1 ≤ maskN (W : Int) := by omega
  have hm0 : ((maskN (W : Int) : Int) == 0) = false := by rw [beq_eq_false_iff_ne]; omega
  have E2 := Lib.hid (show (2 * (W : Int)) = ((2 * W : Nat) : Int) by omega)
  have dv : IntKind.u64.wrap ((maskN (2 * (W : Int)) : Int) / (maskN (W : Int) : Int)) = ((dq W : Nat) : Int) := wrapQ _ _ (maskN_lt _)
  have w1 := wrap_p2 K (by omega)
  have w2 := wrap_p2 (K - W) (by omega)
  by_cases hd : m ≤ dq W
  · have hcond := (dq_iff W m hW hW').1 hd
    have hP := prod_small W c m hW hW' hc' hcond
    have w3 := wrapM m c hP
    have hpm : pm m c < 18446744073709551616 := hP
    by_cases hb : p2 K ≤ pm m c
    · have H := Lib.hid (show okM W c m K = decide ((pm m c : Int) - p2 K ≤ p2 (K - W)) by
        unfold okM p2 pm at *; congr 1; simp only [hcond, true_and, eq_iff_iff]; omega)
      clear hcond hP
      go_enter Try.func38, Try.ntmps38
      go_wp2_with fail
      refine (fmask_any W _ (by omega)).mono ?_
      rintro e w' ⟨rfl, rfl⟩
      go_wp2_with fail
      rw [E2.out]
      refine (fmask_any (2 * W) _ (by omega)).mono ?_
      rintro e w' ⟨rfl, rfl⟩
      go_wp2_with fail
      refine (fmask_any W _ (by omega)).mono ?_
      rintro e w' ⟨rfl, rfl⟩
      go_wp2_with fail
      go_ret
      exact ⟨by rw [H.out]; rfl, rfl⟩
    · have H := Lib.hid (show okM W c m K = false by unfold okM p2 pm at *; simp; intro _ h; omega)
      clear hcond hP
      go_enter Try.func38, Try.ntmps38
      go_wp2_with fail
      refine (fmask_any W _ (by omega)).mono ?_
      rintro e w' ⟨rfl, rfl⟩
      go_wp2_with fail
      rw [E2.out]
      refine (fmask_any (2 * W) _ (by omega)).mono ?_
      rintro e w' ⟨rfl, rfl⟩
      go_wp2_with fail
      refine (fmask_any W _ (by omega)).mono ?_
      rintro e w' ⟨rfl, rfl⟩
      go_wp2_with fail
      go_ret
      exact ⟨by rw [H.out]; rfl, rfl⟩
  · have H := Lib.hid (okM_first W c m K (fun h => hd ((dq_iff W m hW hW').2 h)))
    go_enter Try.func38, Try.ntmps38
    go_wp2_with fail
    refine (fmask_any W _ (by omega)).mono ?_
    rintro e w' ⟨rfl, rfl⟩
    go_wp2_with fail
    rw [E2.out]
    refine (fmask_any (2 * W) _ (by omega)).mono ?_
    rintro e w' ⟨rfl, rfl⟩
    go_wp2_with fail
    refine (fmask_any W _ (by omega)).mono ?_
    rintro e w' ⟨rfl, rfl⟩
    go_wp2_with fail
    go_ret
    exact ⟨by rw [H.out]; rfl, rfl⟩

def MgAt (W c j : Nat) : Prop := magS W c (2 * W - j) j = magS W c W W
theorem mg_start (W c : Nat) : MgAt W c W := by unfold MgAt; congr 1; omega
theorem mg_yes (W c j : Nat) (h : MgAt W c j) (hj : j < 2 * W) (hk : okM W c (ceilD (2 ^ j) c) j = true) : magN W c = ceilD (2 ^ j) c ∧ magK W c = j ∧ magE W c = 0 := by
  unfold MgAt at h
  rw [show 2 * W - j = (2 * W - (j + 1)) + 1 by omega, magS, if_pos hk] at h
  unfold magN magK magE
  rw [← h]
  exact ⟨rfl, rfl, rfl⟩
theorem mg_no (W c j : Nat) (h : MgAt W c j) (hj : j < 2 * W) (hk : okM W c (ceilD (2 ^ j) c) j = false) : MgAt W c (j + 1) := by
  unfold MgAt at *
  rw [show 2 * W - j = (2 * W - (j + 1)) + 1 by omega, magS, hk] at h
  simpa using h
theorem mg_end (W c : Nat) (h : MgAt W c (2 * W)) : magN W c = 0 ∧ magK W c = 0 ∧ magE W c = 6 := by
  unfold MgAt at h
  rw [Nat.sub_self, magS] at h
  unfold magN magK magE
  rw [← h]
  exact ⟨rfl, rfl, rfl⟩
theorem p2_le (k : Nat) (h : k < 64) : p2 k ≤ 9223372036854775808 := pow_lt_64 k h

theorem ceil_lt (j c : Nat) (hj : j < 64) (hc : 1 ≤ c) : ceilD (2 ^ j) c < 18446744073709551616 := by
  have h := ceil_le (2 ^ j) c hc
  have h2 := pow_lt_64 j hj
  have h3 := pow_ge_one j
  omega
/-- The quotient of the search, as the code computes it. -/
def cq (j c : Nat) : Nat := ceilD (2 ^ j) c
theorem wrapC (j c : Nat) (hj : j < 64) (hc : 1 ≤ c) (hc32 : c < 4294967296) : IntKind.u64.wrap (((p2 j : Int) + c - 1) / c) = ((cq j c : Nat) : Int) := by
  have h2 := pow_lt_64 j hj
  have h3 := pow_ge_one j
  have e : ((p2 j : Int) + c - 1) = ((2 ^ j + c - 1 : Nat) : Int) := by unfold p2; generalize 2 ^ j = p at *; omega
  rw [e]
  unfold cq ceilD
  exact wrapQ _ _ (by omega)
theorem natC (j c : Nat) (hj : j < 64) (hc : 1 ≤ c) : ((p2 j : Int) + c - 1) / c = ((cq j c : Nat) : Int) := by
  have h3 := pow_ge_one j
  have e : ((p2 j : Int) + c - 1) = ((2 ^ j + c - 1 : Nat) : Int) := by unfold p2; generalize 2 ^ j = p at *; omega
  rw [e]
  unfold cq ceilD
  rw [Int.natCast_ediv]
theorem wrapD (j c : Nat) (hj : j < 64) : IntKind.u64.wrap ((p2 j : Int) / c) = ((2 ^ j / c : Nat) : Int) := wrapQ _ _ (by have := p2_le j hj; omega)

set_option maxHeartbeats 1000000 in
theorem magic_any (W c : Nat) (w : World) (hW : 1 ≤ W) (hW' : W ≤ 32) (hc : 1 ≤ c) (hc' : c < 2 ^ W) :
    Calls Try.prog 21 #[.int .i64 W, .int .u64 c] w fun e w' => e = .returned (.tuple #[.int .u64 (magN W c : Nat), .int .i64 (magK W c : Nat), .int .i64 (magE W c)]) ∧ w = w' := by
  have hcm : c ≤ maskN (W : Int) := by rw [maskN_nat W (by omega)]; omega
  have hc32 : c < 4294967296 := by have h2 : 2 ^ W ≤ 2 ^ 32 := pow_mono hW'; have : (2 : Nat) ^ 32 = 4294967296 := by decide
                                   omega
  have hcn : ((c : Int) == 0) = false := by rw [beq_eq_false_iff_ne]; omega
  have d1 : decide ((W : Int) < 1) = false := by simp; omega
  have d2 : decide (32 < (W : Int)) = false := by simp; omega
  have d3 : decide ((c : Int) < 1) = false := by simp; omega
  have d4 : decide (maskN (W : Int) < c) = false := by simp; omega
  go_enter Try.func21, Try.ntmps21
  go_wp2_with fail
  refine (mask_any W _).mono ?_
  rintro e w' ⟨rfl, rfl⟩
  go_wp2_with fail
  go_loop [7] (fun i => ∃ k : Nat, W ≤ k ∧ k ≤ 2 * W ∧ MgAt W c k ∧ i = .int .i64 k) (fun i => 2 * W - (intOf i).toNat)
  case atStart => exact ⟨W, by omega, by omega, mg_start W c, rfl⟩
  case round =>
    obtain ⟨k, hk, hk2, hM, rfl⟩ := hrel
    by_cases h1 : k < 2 * W
    · have hp := p2_le k (by omega)
      have w1 := wrap_p2 k (by omega)
      have W3 := Lib.hid (natC k c (by omega) hc)
      have hcl : cq k c < 18446744073709551616 := ceil_lt k c (by omega) hc
      by_cases ho : okM W c (cq k c) k = true
      · obtain ⟨m1, m2, m3⟩ := mg_yes W c k hM h1 ho
        have M1 := Lib.hid (show magN W c = cq k c from m1)
        have M2 := Lib.hid m2
        have M3 := Lib.hid m3
        clear m1 m2 m3 hM
        go_wp2_with fail
        rw [W3.out]
        refine (ismagic_any W c _ k _ hW hW' hc hc' hcl hk h1).mono ?_
        rintro e w' ⟨rfl, rfl⟩
        go_wp2_with fail
        go_ret3
        exact ⟨by rw [M1.out, M2.out, M3.out]; rfl, rfl⟩
      · have ho' : okM W c (cq k c) k = false := by simpa using ho
        have HM := Lib.hid (mg_no W c k hM h1 ho')
        clear hM ho
        go_wp2_with fail
        rw [W3.out]
        refine (ismagic_any W c _ k _ hW hW' hc hc' hcl hk h1).mono ?_
        rintro e w' ⟨rfl, rfl⟩
        go_wp2_with fail
        go_round
        case rel => exact ⟨k + 1, by omega, by omega, HM.out, by go_num⟩
        case measure => simp [intOf]; omega
    · have h2 : k = 2 * W := by omega
      obtain ⟨m1, m2, m3⟩ := mg_end W c (h2 ▸ hM)
      have M1 := Lib.hid m1
      have M2 := Lib.hid m2
      have M3 := Lib.hid m3
      clear m1 m2 m3 hM h2
      go_wp2_with fail
      go_ret3
      exact ⟨by rw [M1.out, M2.out, M3.out]; rfl, rfl⟩

set_option maxHeartbeats 1000000 in
theorem magic_ref (W c : Nat) (w : World) (hW : 1 ≤ W) (hW' : W ≤ 32) (hc : 1 ≤ c) (hc' : c < 2 ^ W) :
    Calls Try.prog 22 #[.int .i64 W, .int .u64 c] w fun e w' => e = .returned (.tuple #[.int .u64 (magN W c : Nat), .int .i64 (magK W c : Nat), .int .i64 (magE W c)]) ∧ w = w' := by
  have hcm : c ≤ maskN (W : Int) := by rw [maskN_nat W (by omega)]; omega
  have hcn : ((c : Int) == 0) = false := by rw [beq_eq_false_iff_ne]; omega
  have d1 : decide ((W : Int) < 1) = false := by simp; omega
  have d2 : decide (32 < (W : Int)) = false := by simp; omega
  have d3 : decide ((c : Int) < 1) = false := by simp; omega
  have d4 : decide (maskN (W : Int) < c) = false := by simp; omega
  go_enter Try.func22, Try.ntmps22
  go_wp2_with fail
  refine (fmask_any W _ (by omega)).mono ?_
  rintro e w' ⟨rfl, rfl⟩
  go_wp2_with fail
  go_loop [7] (fun i => ∃ k : Nat, W ≤ k ∧ k ≤ 2 * W ∧ MgAt W c k ∧ i = .int .i64 k) (fun i => 2 * W - (intOf i).toNat)
  case atStart => exact ⟨W, by omega, by omega, mg_start W c, rfl⟩
  case round =>
    obtain ⟨k, hk, hk2, hM, rfl⟩ := hrel
    by_cases h1 : k < 2 * W
    · have hp := p2_le k (by omega)
      have w1 := wrap_p2 k (by omega)
      obtain ⟨Q, hQ⟩ : ∃ Q : Nat, Q = 2 ^ k / c := ⟨_, rfl⟩
      have w3 : IntKind.u64.wrap ((p2 k : Int) / c) = ((Q : Nat) : Int) := by rw [hQ]; exact wrapD k c (by omega)
      have hcl : cq k c < 18446744073709551616 := ceil_lt k c (by omega) hc
      have hq := ceil_eq (2 ^ k) c hc
      rw [← hQ] at hq
      have hQl : Q ≤ 9223372036854775808 := by rw [hQ]; exact Nat.le_trans (Nat.div_le_self _ _) hp
      clear hQ
      by_cases hz : 2 ^ k % c = 0
      · have hz' : ((p2 k : Int) % (c : Int) != 0) = false := by
          rw [← Int.natCast_emod, bne_eq_false_iff_eq]; unfold p2; omega
        have e2 : cq k c = Q := by unfold cq; rw [hq, if_pos hz]; rfl
        clear hq hz
        by_cases ho : okM W c (cq k c) k = true
        · obtain ⟨m1, m2, m3⟩ := mg_yes W c k hM h1 ho
          have M1 := Lib.hid (show magN W c = Q from (show magN W c = cq k c from m1).trans e2)
          have M2 := Lib.hid m2
          have M3 := Lib.hid m3
          rw [e2] at ho hcl
          clear m1 m2 m3 hM e2
          go_wp2_with fail
          refine (fits_any W c _ k _ hW hW' hc hc' hcl hk h1).mono ?_
          rintro e w' ⟨rfl, rfl⟩
          go_wp2_with fail
          go_ret3
          exact ⟨by rw [M1.out, M2.out, M3.out]; rfl, rfl⟩
        · have ho' : okM W c (cq k c) k = false := by simpa using ho
          have HM := Lib.hid (mg_no W c k hM h1 ho')
          rw [e2] at ho' hcl
          clear hM ho e2
          go_wp2_with fail
          refine (fits_any W c _ k _ hW hW' hc hc' hcl hk h1).mono ?_
          rintro e w' ⟨rfl, rfl⟩
          go_wp2_with fail
          go_round
          case rel => exact ⟨k + 1, by omega, by omega, HM.out, by go_num⟩
          case measure => simp [intOf]; omega
      · have hz' : ((p2 k : Int) % (c : Int) != 0) = true := by
          rw [← Int.natCast_emod, bne_iff_ne]; unfold p2; omega
        have e2 : cq k c = Q + 1 := by unfold cq; rw [hq, if_neg hz]
        have EC := Lib.hid (show ((Q : Int) + 1) = ((cq k c : Nat) : Int) by rw [e2]; rfl)
        clear hq hz e2
        by_cases ho : okM W c (cq k c) k = true
        · obtain ⟨m1, m2, m3⟩ := mg_yes W c k hM h1 ho
          have M1 := Lib.hid (show magN W c = cq k c from m1)
          have M2 := Lib.hid m2
          have M3 := Lib.hid m3
          clear m1 m2 m3 hM
          go_wp2_with fail
          rw [EC.out]
          refine (fits_any W c _ k _ hW hW' hc hc' hcl hk h1).mono ?_
          rintro e w' ⟨rfl, rfl⟩
          go_wp2_with fail
          go_ret3
          exact ⟨by rw [M1.out, M2.out, M3.out]; rfl, rfl⟩
        · have ho' : okM W c (cq k c) k = false := by simpa using ho
          have HM := Lib.hid (mg_no W c k hM h1 ho')
          clear hM ho
          go_wp2_with fail
          rw [EC.out]
          refine (fits_any W c _ k _ hW hW' hc hc' hcl hk h1).mono ?_
          rintro e w' ⟨rfl, rfl⟩
          go_wp2_with fail
          go_round
          case rel => exact ⟨k + 1, by omega, by omega, HM.out, by go_num⟩
          case measure => simp [intOf]; omega
    · have h2 : k = 2 * W := by omega
      obtain ⟨m1, m2, m3⟩ := mg_end W c (h2 ▸ hM)
      have M1 := Lib.hid m1
      have M2 := Lib.hid m2
      have M3 := Lib.hid m3
      clear m1 m2 m3 hM h2
      go_wp2_with fail
      go_ret3
      exact ⟨by rw [M1.out, M2.out, M3.out]; rfl, rfl⟩
end Go.Proofs.Ythkdojgagmaecaa
