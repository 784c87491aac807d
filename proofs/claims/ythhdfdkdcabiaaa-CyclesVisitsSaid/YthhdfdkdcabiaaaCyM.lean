/- CyclesVisits, joined. -/
import Derived.Test.YthhdfdkdcabiaaaCyL
namespace Go.Proofs.Ythhdfdkdcabiaaa
open Go.RowKit

theorem mulb (a b : Int) (ha : -1000 ≤ a ∧ a ≤ 1000) (hb : 0 ≤ b ∧ b ≤ 5000) : -5000000 ≤ a * b ∧ a * b ≤ 5000000 := by
  have h := Int.natAbs_mul a b
  have h2 : a.natAbs * b.natAbs ≤ 1000 * 5000 := Nat.mul_le_mul (by omega) (by omega)
  generalize a * b = c at *
  omega
theorem sta_ok (ii dep : Int) (h1 : 0 < ii) (h2 : ii ≤ 5000) (h3 : 1 ≤ dep) (h4 : dep ≤ 5000) :
    (0 ≤ staN ii dep ∧ staN ii dep ≤ 6000) ∧ dep ≤ staN ii dep * ii ∧ (staN ii dep - 1) * ii < dep ∧ staN ii dep * ii ≤ 50000000 ∧ -50000000 ≤ (staN ii dep - 1) * ii := by
  obtain ⟨i, rfl⟩ := Int.eq_ofNat_of_zero_le (show 0 ≤ ii by omega)
  obtain ⟨d, rfl⟩ := Int.eq_ofNat_of_zero_le (show 0 ≤ dep by omega)
  have hd := Nat.div_add_mod d i
  have hm := Nat.mod_lt d (show 0 < i by omega)
  have hle := Nat.div_le_self d i
  have hs : staN i d = if 0 < d % i then ((d / i : Nat) : Int) + 1 else ((d / i : Nat) : Int) := by
    unfold staN; rw [if_neg (by omega), show ((d : Nat) : Int) / ((i : Nat) : Int) = ((d / i : Nat) : Int) by simp, show ((d : Nat) : Int) % ((i : Nat) : Int) = ((d % i : Nat) : Int) by simp]
    by_cases h : 0 < d % i
    · rw [if_pos h, if_pos (by omega)]
    · rw [if_neg h, if_neg (by omega)]
  rw [hs]
  generalize d / i = Q at *
  generalize d % i = R at *
  have hT : ((Q : Nat) : Int) * ((i : Nat) : Int) = ((i * Q : Nat) : Int) := by rw [Int.natCast_mul, Int.mul_comm]
  generalize i * Q = T at *
  by_cases h : 0 < R
  · rw [if_pos h]
    rw [Int.add_sub_cancel, Int.add_mul, Int.one_mul, hT]
    refine ⟨⟨by omega, by omega⟩, by omega, by omega, by omega, by omega⟩
  · rw [if_neg h]
    rw [Int.sub_mul, Int.one_mul, hT]
    refine ⟨⟨by omega, by omega⟩, by omega, by omega, by omega, by omega⟩
theorem cyl_any (ii dep n : Int) (v2 v3 v4 : Value) (hb : -32768 ≤ n ∧ n ≤ 32767) (w : World) :
    Calls Try.prog 3 #[.agg #[.int .i64 ii, .int .i64 dep, v2, v3, v4], .int .i16 n] w fun e w' => e = .returned (.bool true) ∧ Below w.heap.size w w' := by
  by_cases h : dep < 1 ∨ 5000 < dep ∨ 5000 < ii
  · exact cyl_out ii dep n v2 v3 v4 h w
  · have g1 : ¬ dep < 1 := by omega
    have g2 : ¬ 5000 < dep := by omega
    have g3 : ¬ 5000 < ii := by omega
    have t1 := Int.tmod_lt_of_pos n (show (0 : Int) < 1000 by decide)
    have t2 := Int.lt_tmod_of_pos (a := n) (show (0 : Int) < 1000 by decide)
    obtain ⟨K, hK⟩ : ∃ K, n.tmod 1000 = K := ⟨_, rfl⟩
    rw [hK] at t1 t2
    have VG : ∀ m, -1000 ≤ m → m ≤ 1000 → m - 1 ≥ -1000 → ∀ w, Calls Try.prog 6 #[.agg #[.int .i64 ii, .int .i64 dep, v2, v3, v4], .int .i64 m] w fun e w' => e = .returned (.int .i64 (visN ii dep m)) ∧ Below w.heap.size w w' :=
      fun m m1 m2 m3 w => visit_any ii dep m v2 v3 v4 ⟨m1, m2⟩ ⟨by omega, by omega⟩ (by omega) (mulb m dep ⟨m1, m2⟩ ⟨by omega, by omega⟩) (fun hi => mulb (m - 1) ii ⟨by omega, by omega⟩ ⟨by omega, by omega⟩) w
    have C1 := VG 1 (by decide) (by decide) (by decide)
    rw [show visN ii dep 1 = dep by
      unfold visN; rw [if_neg (by decide)]
      by_cases hi : ii ≤ 0
      · rw [if_pos hi, Int.one_mul]
      · rw [if_neg hi, Int.sub_self, Int.zero_mul, Int.zero_add]] at C1
    by_cases hK1 : K < 1
    · have C2 := VG K (by omega) (by omega) (by omega)
      rw [show visN ii dep K = 0 by unfold visN; rw [if_pos hK1]] at C2
      exact cyl_low ii dep n v2 v3 v4 g1 g2 g3 K hK hb hK1 C1 C2 w
    · have VV : ∀ m (_ : m = K ∨ m = K + 1) w, Calls Try.prog 6 #[.agg #[.int .i64 ii, .int .i64 dep, v2, v3, v4], .int .i64 m] w fun e w' => e = .returned (.int .i64 (visN ii dep m)) ∧ Below w.heap.size w w' :=
        fun m hm w => VG m (by omega) (by omega) (by omega) w
      by_cases hi : 0 < ii
      · have CS := fun w => stages_any ii dep v2 v3 v4 ⟨by omega, by omega⟩ (by omega) w
        obtain ⟨hq, k1, k2, k3, k4⟩ := sta_ok ii dep hi (by omega) (by omega) (by omega)
        have hPb := mulb (K - 1) ii ⟨by omega, by omega⟩ ⟨by omega, by omega⟩
        have hY1 := mulb K ii ⟨by omega, by omega⟩ ⟨by omega, by omega⟩
        have e0 : (K - 1) * ii = K * ii - ii := by rw [Int.sub_mul, Int.one_mul]
        have hX : visN ii dep K = dep + (K - 1) * ii := by unfold visN; rw [if_neg hK1, if_neg (by omega), Int.add_comm]
        have hY : visN ii dep (K + 1) = K * ii + dep := by unfold visN; rw [if_neg (by omega), if_neg (by omega), Int.add_sub_cancel]
        exact cyl_pos ii dep n v2 v3 v4 g1 g2 g3 K hK hb hK1 (by omega) hi _ _ _ _ (K * ii + dep) rfl hPb rfl ⟨by omega, k3⟩ rfl ⟨k4, by omega⟩ hq k1 k2 hX hY ⟨by omega, by omega⟩ (by rw [e0]; omega) C1 VV CS w
      · have CS := fun w => stages_any ii dep v2 v3 v4 ⟨by omega, by omega⟩ (by omega) w
        rw [show staN ii dep = 1 by unfold staN; rw [if_pos (by omega)]] at CS
        have hPb := mulb K dep ⟨by omega, by omega⟩ ⟨by omega, by omega⟩
        have hX : visN ii dep K = K * dep := by unfold visN; rw [if_neg hK1, if_pos (by omega)]
        have hY : visN ii dep (K + 1) = K * dep + dep := by unfold visN; rw [if_neg (by omega), if_pos (by omega), Int.add_mul, Int.one_mul]
        exact cyl_neg ii dep n v2 v3 v4 g1 g2 g3 K hK hb hK1 (by omega) hi _ (K * dep + dep) rfl hPb hX hY ⟨by omega, by omega⟩ (by omega) C1 VV CS w
end Go.Proofs.Ythhdfdkdcabiaaa
