/- Layer 1's reference: amount, magnitude, divide, bit. -/
import Derived.Test.YthkdojgagmaecabRefD
namespace Go.Proofs.Ythkdojgagmaecab
open Go.RowKit

def amN (a : Int) (y : Nat) : Nat := min y (wid a)
theorem ramount_any (a : Int) (y : Nat) (w : World) :
    Calls Try.prog 82 #[.int .i64 a, .int .u64 y] w fun e w' => e = .returned (.int .i64 (amN a y : Nat)) ∧ w = w' := by
  have hm := wid_le a
  have C1 := fun w => width_any a w
  by_cases h : wid a ≤ y
  · have H := Lib.hid (show amN a y = wid a from Nat.min_eq_right h)
    generalize wid a = N at hm C1 H h
    go_enter Try.func82, Try.ntmps82
    go_wp2_with fail
    refine (C1 _).mono ?_
    rintro e w1 ⟨rfl, rfl⟩
    go_wp2_with fail
    refine (C1 _).mono ?_
    rintro e w1 ⟨rfl, rfl⟩
    go_wp2_with fail
    go_ret
    exact ⟨by rw [H.out]; rfl, rfl⟩
  · have H := Lib.hid (show amN a y = y from Nat.min_eq_left (by omega))
    generalize wid a = N at hm C1 h
    go_enter Try.func82, Try.ntmps82
    go_wp2_with fail
    refine (C1 _).mono ?_
    rintro e w1 ⟨rfl, rfl⟩
    go_wp2_with fail
    go_ret
    exact ⟨by rw [H.out]; rfl, rfl⟩

theorem rbit_any (b : Bool) (w : World) :
    Calls Try.prog 84 #[.bool b] w fun e w' => e = .returned (.int .u64 (b2n b : Nat)) ∧ w = w' := by
  cases b
  · go_enter Try.func84, Try.ntmps84
    go_wp2_with fail
    go_ret
    exact ⟨rfl, rfl⟩
  · go_enter Try.func84, Try.ntmps84
    go_wp2_with fail
    go_ret
    exact ⟨rfl, rfl⟩

def magN2 (a : Int) (x : Nat) : Nat := bif negB a x then minN a x else fitN a x
theorem rmag_any (a : Int) (x : Nat) (hx : x < 18446744073709551616) (w : World) :
    Calls Try.prog 88 #[.int .i64 a, .int .u64 x] w fun e w' => e = .returned (.int .u64 (magN2 a x : Nat)) ∧ Below w.heap.size w w' := by
  have C1 := fun w => rneg_any a x hx w
  have C2 := fun w => rmin_any a x hx w
  have C3 := fun w => rfit_any a x hx w
  cases hn : negB a x
  · have H := Lib.hid (show magN2 a x = fitN a x by simp [magN2, hn])
    rw [hn] at C1
    generalize fitN a x = F at C3 H
    clear hn
    go_enter Try.func88, Try.ntmps88
    go_wp2_with fail
    refine (C1 _).mono ?_
    rintro e w1 ⟨rfl, hb1⟩
    go_wp2_with fail
    refine (C3 _).mono ?_
    rintro e w2 ⟨rfl, hb2⟩
    go_wp2_with fail
    go_ret
    exact ⟨by rw [H.out]; rfl, hb1.trans (hb2.mono hb1.size)⟩
  · have H := Lib.hid (show magN2 a x = minN a x by simp [magN2, hn])
    rw [hn] at C1
    generalize minN a x = F at C2 H
    clear hn
    go_enter Try.func88, Try.ntmps88
    go_wp2_with fail
    refine (C1 _).mono ?_
    rintro e w1 ⟨rfl, hb1⟩
    go_wp2_with fail
    refine (C2 _).mono ?_
    rintro e w2 ⟨rfl, hb2⟩
    go_wp2_with fail
    go_ret
    exact ⟨by rw [H.out]; rfl, hb1.trans (hb2.mono hb1.size)⟩

theorem magN2_lt (a : Int) (x : Nat) : magN2 a x < 18446744073709551616 := by
  unfold magN2; cases negB a x
  · exact fitN_lt _ _
  · exact fitN_lt _ _
/-- The quotient's magnitude with its sign, and the remainder's. -/
def divQ (a : Int) (x y : Nat) : Nat := fitN a (bif negB a x != negB a y then minN a (magN2 a x / magN2 a y) else magN2 a x / magN2 a y)
def divR (a : Int) (x y : Nat) : Nat := fitN a (bif negB a x then minN a (magN2 a x % magN2 a y) else magN2 a x % magN2 a y)
theorem minN_lt (a : Int) (x : Nat) : minN a x < 18446744073709551616 := fitN_lt _ _

theorem rdiv_any (a : Int) (x y : Nat) (hx : x < 18446744073709551616) (hy : y < 18446744073709551616) (hy0 : ¬ y = 0) (hm0 : ¬ magN2 a y = 0) (w : World) :
    Calls Try.prog 86 #[.int .i64 a, .int .u64 x, .int .u64 y] w fun e w' => e = .returned (.tuple #[.int .u64 (divQ a x y : Nat), .int .u64 (divR a x y : Nat)]) ∧ Below w.heap.size w w' := by
  have C1 := fun w => rmag_any a x hx w
  have C2 := fun w => rmag_any a y hy w
  have C3 := fun w => rneg_any a x hx w
  have C4 := fun w => rneg_any a y hy w
  have hql : magN2 a x / magN2 a y < 18446744073709551616 := Nat.lt_of_le_of_lt (Nat.div_le_self _ _) (magN2_lt a x)
  have hrl : magN2 a x % magN2 a y < 18446744073709551616 := Nat.lt_of_le_of_lt (Nat.mod_le _ _) (magN2_lt a x)
  have hMl := magN2_lt a x
  have hNl := magN2_lt a y
  have HQ := Lib.hid (show divQ a x y = fitN a (bif negB a x != negB a y then minN a (magN2 a x / magN2 a y) else magN2 a x / magN2 a y) from rfl)
  have HR := Lib.hid (show divR a x y = fitN a (bif negB a x then minN a (magN2 a x % magN2 a y) else magN2 a x % magN2 a y) from rfl)
  generalize magN2 a x = M at C1 hql hrl hMl HQ HR
  generalize magN2 a y = D at C2 hm0 hql hrl hNl HQ HR
  obtain ⟨q, hq⟩ : ∃ q : Nat, q = M / D := ⟨_, rfl⟩
  obtain ⟨r, hr⟩ : ∃ r : Nat, r = M % D := ⟨_, rfl⟩
  rw [← hq] at hql HQ
  rw [← hr] at hrl HR
  have C5 := fun w => rmin_any a q hql w
  have C6 := fun w => rmin_any a r hrl w
  have C7 := fun w => rfit_any a q hql w
  have C8 := fun w => rfit_any a r hrl w
  have C9 := fun w => rfit_any a (minN a q) (minN_lt a q) w
  have C10 := fun w => rfit_any a (minN a r) (minN_lt a r) w
  have q1 : ((M : Nat) : Int) / ((D : Nat) : Int) = ((q : Nat) : Int) := by rw [hq]; rfl
  obtain ⟨p, hp⟩ : ∃ p : Nat, p = q * D := ⟨_, rfl⟩
  have hpM : p ≤ M := by rw [hp, hq]; exact Nat.div_mul_le_self M D
  have q2 : ((q : Nat) : Int) * ((D : Nat) : Int) = ((p : Nat) : Int) := by rw [hp]; rfl
  have q3 : ((M : Nat) : Int) - ((p : Nat) : Int) = ((r : Nat) : Int) := by
    have h1 : D * q + r = M := by rw [hq, hr]; exact Nat.div_add_mod M D
    rw [Nat.mul_comm] at h1
    omega
  have hD0 : ¬ ((D : Nat) : Int) = 0 := by omega
  clear hq hr hp
  cases n1 : negB a x <;> cases n2 : negB a y
  · rw [n1] at C3 HQ HR
    rw [n2] at C4 HQ
    go_enter Try.func86, Try.ntmps86
    go_wp2_with fail
    refine (C1 _).mono ?_
    rintro e w1 ⟨rfl, hb1⟩
    have B1 := hb1
    clear hb1
    go_wp2_with fail
    refine (C2 _).mono ?_
    rintro e w2 ⟨rfl, hb2⟩
    have B2 := B1.trans (hb2.mono B1.size)
    clear hb2 B1
    go_wp2_with fail
    refine (C1 _).mono ?_
    rintro e w3 ⟨rfl, hb3⟩
    have B3 := B2.trans (hb3.mono B2.size)
    clear hb3 B2
    go_wp2_with fail
    refine (C2 _).mono ?_
    rintro e w4 ⟨rfl, hb4⟩
    have B4 := B3.trans (hb4.mono B3.size)
    clear hb4 B3
    go_wp2_with fail
    refine (C3 _).mono ?_
    rintro e w5 ⟨rfl, hb5⟩
    have B5 := B4.trans (hb5.mono B4.size)
    clear hb5 B4
    go_wp2_with fail
    refine (C4 _).mono ?_
    rintro e w6 ⟨rfl, hb6⟩
    have B6 := B5.trans (hb6.mono B5.size)
    clear hb6 B5
    go_wp2_with fail
    refine (C3 _).mono ?_
    rintro e w7 ⟨rfl, hb7⟩
    have B7 := B6.trans (hb7.mono B6.size)
    clear hb7 B6
    go_wp2_with fail
    refine (C7 _).mono ?_
    rintro e w8 ⟨rfl, hb8⟩
    have B8 := B7.trans (hb8.mono B7.size)
    clear hb8 B7
    go_wp2_with fail
    refine (C8 _).mono ?_
    rintro e w9 ⟨rfl, hb9⟩
    have B9 := B8.trans (hb9.mono B8.size)
    clear hb9 B8
    go_wp2_with fail
    go_ret2
    exact ⟨by rw [HQ.out, HR.out]; rfl, B9⟩
  · rw [n1] at C3 HQ HR
    rw [n2] at C4 HQ
    go_enter Try.func86, Try.ntmps86
    go_wp2_with fail
    refine (C1 _).mono ?_
    rintro e w1 ⟨rfl, hb1⟩
    have B1 := hb1
    clear hb1
    go_wp2_with fail
    refine (C2 _).mono ?_
    rintro e w2 ⟨rfl, hb2⟩
    have B2 := B1.trans (hb2.mono B1.size)
    clear hb2 B1
    go_wp2_with fail
    refine (C1 _).mono ?_
    rintro e w3 ⟨rfl, hb3⟩
    have B3 := B2.trans (hb3.mono B2.size)
    clear hb3 B2
    go_wp2_with fail
    refine (C2 _).mono ?_
    rintro e w4 ⟨rfl, hb4⟩
    have B4 := B3.trans (hb4.mono B3.size)
    clear hb4 B3
    go_wp2_with fail
    refine (C3 _).mono ?_
    rintro e w5 ⟨rfl, hb5⟩
    have B5 := B4.trans (hb5.mono B4.size)
    clear hb5 B4
    go_wp2_with fail
    refine (C4 _).mono ?_
    rintro e w6 ⟨rfl, hb6⟩
    have B6 := B5.trans (hb6.mono B5.size)
    clear hb6 B5
    go_wp2_with fail
    refine (C5 _).mono ?_
    rintro e w7 ⟨rfl, hb7⟩
    have B7 := B6.trans (hb7.mono B6.size)
    clear hb7 B6
    go_wp2_with fail
    refine (C3 _).mono ?_
    rintro e w8 ⟨rfl, hb8⟩
    have B8 := B7.trans (hb8.mono B7.size)
    clear hb8 B7
    go_wp2_with fail
    refine (C9 _).mono ?_
    rintro e w9 ⟨rfl, hb9⟩
    have B9 := B8.trans (hb9.mono B8.size)
    clear hb9 B8
    go_wp2_with fail
    refine (C8 _).mono ?_
    rintro e w10 ⟨rfl, hb10⟩
    have B10 := B9.trans (hb10.mono B9.size)
    clear hb10 B9
    go_wp2_with fail
    go_ret2
    exact ⟨by rw [HQ.out, HR.out]; rfl, B10⟩
  · rw [n1] at C3 HQ HR
    rw [n2] at C4 HQ
    go_enter Try.func86, Try.ntmps86
    go_wp2_with fail
    refine (C1 _).mono ?_
    rintro e w1 ⟨rfl, hb1⟩
    have B1 := hb1
    clear hb1
    go_wp2_with fail
    refine (C2 _).mono ?_
    rintro e w2 ⟨rfl, hb2⟩
    have B2 := B1.trans (hb2.mono B1.size)
    clear hb2 B1
    go_wp2_with fail
    refine (C1 _).mono ?_
    rintro e w3 ⟨rfl, hb3⟩
    have B3 := B2.trans (hb3.mono B2.size)
    clear hb3 B2
    go_wp2_with fail
    refine (C2 _).mono ?_
    rintro e w4 ⟨rfl, hb4⟩
    have B4 := B3.trans (hb4.mono B3.size)
    clear hb4 B3
    go_wp2_with fail
    refine (C3 _).mono ?_
    rintro e w5 ⟨rfl, hb5⟩
    have B5 := B4.trans (hb5.mono B4.size)
    clear hb5 B4
    go_wp2_with fail
    refine (C4 _).mono ?_
    rintro e w6 ⟨rfl, hb6⟩
    have B6 := B5.trans (hb6.mono B5.size)
    clear hb6 B5
    go_wp2_with fail
    refine (C5 _).mono ?_
    rintro e w7 ⟨rfl, hb7⟩
    have B7 := B6.trans (hb7.mono B6.size)
    clear hb7 B6
    go_wp2_with fail
    refine (C3 _).mono ?_
    rintro e w8 ⟨rfl, hb8⟩
    have B8 := B7.trans (hb8.mono B7.size)
    clear hb8 B7
    go_wp2_with fail
    refine (C6 _).mono ?_
    rintro e w9 ⟨rfl, hb9⟩
    have B9 := B8.trans (hb9.mono B8.size)
    clear hb9 B8
    go_wp2_with fail
    refine (C9 _).mono ?_
    rintro e w10 ⟨rfl, hb10⟩
    have B10 := B9.trans (hb10.mono B9.size)
    clear hb10 B9
    go_wp2_with fail
    refine (C10 _).mono ?_
    rintro e w11 ⟨rfl, hb11⟩
    have B11 := B10.trans (hb11.mono B10.size)
    clear hb11 B10
    go_wp2_with fail
    go_ret2
    exact ⟨by rw [HQ.out, HR.out]; rfl, B11⟩
  · rw [n1] at C3 HQ HR
    rw [n2] at C4 HQ
    go_enter Try.func86, Try.ntmps86
    go_wp2_with fail
    refine (C1 _).mono ?_
    rintro e w1 ⟨rfl, hb1⟩
    have B1 := hb1
    clear hb1
    go_wp2_with fail
    refine (C2 _).mono ?_
    rintro e w2 ⟨rfl, hb2⟩
    have B2 := B1.trans (hb2.mono B1.size)
    clear hb2 B1
    go_wp2_with fail
    refine (C1 _).mono ?_
    rintro e w3 ⟨rfl, hb3⟩
    have B3 := B2.trans (hb3.mono B2.size)
    clear hb3 B2
    go_wp2_with fail
    refine (C2 _).mono ?_
    rintro e w4 ⟨rfl, hb4⟩
    have B4 := B3.trans (hb4.mono B3.size)
    clear hb4 B3
    go_wp2_with fail
    refine (C3 _).mono ?_
    rintro e w5 ⟨rfl, hb5⟩
    have B5 := B4.trans (hb5.mono B4.size)
    clear hb5 B4
    go_wp2_with fail
    refine (C4 _).mono ?_
    rintro e w6 ⟨rfl, hb6⟩
    have B6 := B5.trans (hb6.mono B5.size)
    clear hb6 B5
    go_wp2_with fail
    refine (C3 _).mono ?_
    rintro e w7 ⟨rfl, hb7⟩
    have B7 := B6.trans (hb7.mono B6.size)
    clear hb7 B6
    go_wp2_with fail
    refine (C6 _).mono ?_
    rintro e w8 ⟨rfl, hb8⟩
    have B8 := B7.trans (hb8.mono B7.size)
    clear hb8 B7
    go_wp2_with fail
    refine (C7 _).mono ?_
    rintro e w9 ⟨rfl, hb9⟩
    have B9 := B8.trans (hb9.mono B8.size)
    clear hb9 B8
    go_wp2_with fail
    refine (C10 _).mono ?_
    rintro e w10 ⟨rfl, hb10⟩
    have B10 := B9.trans (hb10.mono B9.size)
    clear hb10 B9
    go_wp2_with fail
    go_ret2
    exact ⟨by rw [HQ.out, HR.out]; rfl, B10⟩
end Go.Proofs.Ythkdojgagmaecab
