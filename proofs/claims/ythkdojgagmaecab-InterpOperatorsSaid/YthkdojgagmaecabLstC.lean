/- Layer 1's reference: Negative, Minus, Signed. -/
import Derived.Test.YthkdojgagmaecabLstB
import Derived.Deep.QuietTactic
import Derived.BigQuiet
namespace Go.Proofs.Ythkdojgagmaecab
open Go.RowKit

/-- The highest bit is 1. -/
def negB (a : Int) (x : Nat) : Bool := !(cw a == 0) && (x / 2 ^ (cw a - 1) % 2 == 1)
/-- The negated word. -/
def minN (a : Int) (x : Nat) : Nat := fitN a ((maskN a - fitN a x + 1) % 18446744073709551616)

theorem fit_le_mask (a : Int) (x : Nat) : fitN a x ≤ maskN a := by
  have := fitN_lt' a x; unfold maskN; omega
theorem neg_big (a : Int) (x : Nat) (h : negB a x = true) : 0 < cw a ∧ 2 ^ (cw a - 1) ≤ fitN a x := by
  simp only [negB, Bool.and_eq_true, Bool.not_eq_true', beq_eq_false_iff_ne, beq_iff_eq] at h
  obtain ⟨h1, h2⟩ := h
  refine ⟨by omega, ?_⟩
  obtain ⟨m, hm⟩ : ∃ m, cw a = m + 1 := ⟨cw a - 1, by omega⟩
  unfold fitN
  rw [hm] at h2 ⊢
  simp only [Nat.add_sub_cancel] at h2 ⊢
  rw [Nat.pow_succ, Nat.mod_mul, h2]
  omega
theorem neg_small (a : Int) (x : Nat) (h : negB a x = false) : cw a = 0 ∨ 0 < cw a ∧ fitN a x < 2 ^ (cw a - 1) := by
  by_cases h0 : cw a = 0
  · exact Or.inl h0
  refine Or.inr ⟨by omega, ?_⟩
  obtain ⟨m, hm⟩ : ∃ m, cw a = m + 1 := ⟨cw a - 1, by omega⟩
  simp only [negB, Bool.and_eq_false_iff, Bool.not_eq_false', beq_iff_eq, beq_eq_false_iff_ne] at h
  have h2 : ¬ x / 2 ^ (cw a - 1) % 2 = 1 := h.resolve_left h0
  unfold fitN
  rw [hm] at h2 ⊢
  simp only [Nat.add_sub_cancel] at h2 ⊢
  rw [Nat.pow_succ, Nat.mod_mul]
  have : x / 2 ^ m % 2 = 0 := by omega
  rw [this]
  have := Nat.mod_lt x (pow_pos m)
  omega
theorem cw_pos_iff (a : Int) (h : 0 < cw a) : ¬ a ≤ 0 := by intro h'; rw [cw_lo a h'] at h; omega
theorem min_neg (a : Int) (x : Nat) (h : negB a x = true) : 1 ≤ minN a x ∧ minN a x ≤ 9223372036854775808 ∧ sgn a x = -(minN a x : Int) := by
  obtain ⟨h0, h1⟩ := neg_big a x h
  have h2 := fitN_lt' a x
  have h3 := pow_cw_le a
  have h4 := pow_half (cw a) h0
  have h5 := pow_pos (cw a - 1)
  have e : minN a x = 2 ^ cw a - fitN a x := by
    unfold minN maskN
    rw [show 2 ^ cw a - 1 - fitN a x + 1 = 2 ^ cw a - fitN a x by omega]
    rw [Nat.mod_eq_of_lt (a := 2 ^ cw a - fitN a x) (by omega)]
    show (2 ^ cw a - fitN a x) % 2 ^ cw a = _
    exact Nat.mod_eq_of_lt (by omega)
  rw [e]
  refine ⟨by omega, by omega, ?_⟩
  unfold sgn
  rw [if_neg (cw_pos_iff a h0), if_neg (by omega)]
  omega
theorem sgn_small (a : Int) (x : Nat) (h : negB a x = false) : fitN a x < 9223372036854775808 ∧ sgn a x = (fitN a x : Int) := by
  rcases neg_small a x h with h0 | ⟨h0, h1⟩
  · have e : fitN a x = 0 := by unfold fitN; rw [h0]; simp [Nat.mod_one]
    rw [e]
    refine ⟨by omega, ?_⟩
    unfold sgn
    split
    · rfl
    · rw [if_pos (by rw [e, h0]; simp), e]
  · have h3 := pow_cw_le a
    have h4 := pow_half (cw a) h0
    refine ⟨by omega, ?_⟩
    unfold sgn
    rw [if_neg (cw_pos_iff a h0), if_pos h1]

theorem rneg_any (a : Int) (x : Nat) (hx : x < 18446744073709551616) (w : World) :
    Calls Try.prog 66 #[.int .i64 a, .int .u64 x] w fun e w' => e = .returned (.bool (negB a x)) ∧ Below w.heap.size w w' := by
  have hle := wid_le a
  by_cases h0 : wid a = 0
  · have H := Lib.hid (show negB a x = false by unfold negB; rw [← wid_cw, h0]; rfl)
    go_enter Try.func66, Try.ntmps66
    go_wp2_with fail
    refine (rbits_any a x hx w).mono ?_
    rintro e w1 ⟨v, rfl, hown, hb⟩
    rw [h0] at hown
    have e0 : ∃ a cap, v = .slice a 0 cap := by
      rcases hown.2 with ⟨rfl, _⟩ | ⟨g, cap, cur, rfl, _⟩
      · exact ⟨_, _, rfl⟩
      · exact ⟨_, _, rfl⟩
    obtain ⟨aa, cap, rfl⟩ := e0
    clear hown
    go_wp2_with fail
    go_ret
    exact ⟨by rw [H.out]; rfl, hb⟩
  · obtain ⟨m, hm⟩ : ∃ m, wid a = m + 1 := ⟨wid a - 1, by omega⟩
    have hm63 : m ≤ 63 := by omega
    obtain ⟨b, hb⟩ : ∃ b : Nat, b = x / 2 ^ m % 2 := ⟨_, rfl⟩
    have H := Lib.hid (show negB a x = (b == 1) by unfold negB; rw [← wid_cw, hm, hb]; simp)
    have hb1 : b = 0 ∨ b = 1 := by omega
    go_enter Try.func66, Try.ntmps66
    go_wp2_with fail
    refine (rbits_any a x hx w).mono ?_
    rintro e w1 ⟨v, rfl, hown, hbel⟩
    rw [hm, bitsL_len] at hown
    obtain ⟨g, cap, rfl, hcm⟩ : ∃ g cap, v = .slice (some ⟨g, 0, none⟩) (m + 1) cap ∧ w1.cell? ⟨g, m, none⟩ = some (.int .i64 ((b : Nat) : Int)) := by
      have hown' := hown
      rcases hown.2 with ⟨_, h0⟩ | ⟨g, cap, cur, rfl, _⟩
      · cases h0
      · refine ⟨g, cap, rfl, ?_⟩
        have := hown'.cells (g := g) rfl m (.int .i64 ((b : Nat) : Int)) (by simp [rowL, bitsL, hb])
        have e : (⟨g, 0, none⟩ : Addr).add m = ⟨g, m, none⟩ := by unfold Addr.add; split <;> simp_all
        rw [e] at this; exact this
    clear hown hb hm h0
    rcases hb1 with rfl | rfl
    · go_wp2_with fail
      go_ret
      exact ⟨by rw [H.out]; rfl, hbel⟩
    · go_wp2_with fail
      go_ret
      exact ⟨by rw [H.out]; rfl, hbel⟩

theorem rmin_any (a : Int) (x : Nat) (hx : x < 18446744073709551616) (w : World) :
    Calls Try.prog 87 #[.int .i64 a, .int .u64 x] w fun e w' => e = .returned (.int .u64 (minN a x : Nat)) ∧ Below w.heap.size w w' := by
  have hF := fit_le_mask a x
  have hM := maskN_lt a
  obtain ⟨D, hD⟩ : ∃ D : Nat, D = maskN a - fitN a x := ⟨_, rfl⟩
  obtain ⟨E, hE⟩ : ∃ E : Nat, E = (D + 1) % 18446744073709551616 := ⟨_, rfl⟩
  have hEl : E < 18446744073709551616 := by omega
  have H := Lib.hid (show minN a x = fitN a E by unfold minN; rw [← hD, hE])
  have q1 : IntKind.u64.wrap (((maskN a : Nat) : Int) - ((fitN a x : Nat) : Int)) = ((D : Nat) : Int) := by rw [IntKind.wrap_u64]; omega
  have q2 : IntKind.u64.wrap (((D : Nat) : Int) + 1) = ((E : Nat) : Int) := by rw [IntKind.wrap_u64]; omega
  have H2 := fun w => H.out ▸ rfit_any a E hEl w
  have R1 := fun w => rones_any a w
  have R2 := fun w => rfit_any a x hx w
  generalize maskN a = M at q1 R1
  generalize fitN a x = F at q1 R2
  clear hF hM hD hE hEl H
  go_enter Try.func87, Try.ntmps87
  go_wp2_with fail
  refine (R1 _).mono ?_
  rintro e w1 ⟨rfl, rfl⟩
  go_wp2_with fail
  refine (R2 _).mono ?_
  rintro e w2 ⟨rfl, hb2⟩
  go_wp2_with fail
  refine (H2 _).mono ?_
  rintro e w3 ⟨rfl, hb3⟩
  go_wp2_with fail
  go_ret
  exact ⟨rfl, hb2.trans (hb3.mono hb2.size)⟩

theorem rsgn_any (a : Int) (x : Nat) (hx : x < 18446744073709551616) (w : World) :
    Calls Try.prog 85 #[.int .i64 a, .int .u64 x] w fun e w' => e = .returned (.int .i64 (sgn a x)) ∧ Below w.heap.size w w' := by
  have R1 := fun w => rneg_any a x hx w
  cases hn : negB a x
  · obtain ⟨h1, h2⟩ := sgn_small a x hn
    have H := Lib.hid h2
    have R2 := fun w => rfit_any a x hx w
    generalize fitN a x = F at h1 R2 H
    rw [hn] at R1
    clear h2
    go_enter Try.func85, Try.ntmps85
    go_wp2_with fail
    refine (R1 _).mono ?_
    rintro e w1 ⟨rfl, hb1⟩
    go_wp2_with fail
    refine (R2 _).mono ?_
    rintro e w2 ⟨rfl, hb2⟩
    go_wp2_with fail
    go_ret
    exact ⟨by rw [H.out]; rfl, hb1.trans (hb2.mono hb1.size)⟩
  · obtain ⟨h1, h2, h3⟩ := min_neg a x hn
    have H := Lib.hid h3
    have R2 := fun w => rmin_any a x hx w
    generalize minN a x = F at h1 h2 R2 H
    rw [hn] at R1
    clear h3
    go_enter Try.func85, Try.ntmps85
    go_wp2_with fail
    refine (R1 _).mono ?_
    rintro e w1 ⟨rfl, hb1⟩
    go_wp2_with fail
    refine (R2 _).mono ?_
    rintro e w2 ⟨rfl, hb2⟩
    go_wp2_with fail
    go_ret
    exact ⟨by rw [H.out]; go_num, hb1.trans (hb2.mono hb1.size)⟩
end Go.Proofs.Ythkdojgagmaecab
