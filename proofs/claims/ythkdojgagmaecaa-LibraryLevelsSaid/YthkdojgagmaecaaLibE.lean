/- LibraryLevels: Levels is the height of a binary tree with place for all leaves. -/
import Derived.Test.YthkdojgagmaecaaLibD
namespace Go.Proofs.Ythkdojgagmaecaa
open Go.RowKit

theorem lev_le40 (k : Int) (h : k ≤ 1099511627776) : lev k ≤ 40 := by
  have h1 := lev_mono k 1099511627776 h
  have h2 : lev 1099511627776 = 40 := by decide
  omega
theorem wrap_pow40 (k : Nat) (hk : k ≤ 40) : wrap64 ((2 : Int) ^ k) = (2 : Int) ^ k := wrap_pow k (by omega)

set_option maxHeartbeats 2000000 in
theorem liblevels_walk (n : Nat) (w : World) (hn : n < 18446744073709551616) :
    Calls Try.prog 4 #[.int .u64 n] w fun e w' => e = .returned (.bool true) ∧ Below w.heap.size w w' := by
  have e0 : lev 0 = 0 := by decide
  have e5 : lev (-5) = 0 := by decide
  obtain ⟨k, hk⟩ : ∃ k : Int, k = 1 + (n : Int) % 1099511627776 := ⟨_, rfl⟩
  have hk1 : 1 ≤ k ∧ k ≤ 1099511627776 := by omega
  obtain ⟨s1, s2⟩ := lev_spec k
  have hl := lev_le40 k hk1.2
  obtain ⟨L, hL⟩ : ∃ L : Nat, lev k = L := ⟨_, rfl⟩
  rw [hL] at hl s1 s2
  have hge : k ≤ (2 : Int) ^ L := by rcases s2 with e | e; omega; exact e
  have hw := wrap_pow40 L hl
  have HL := Lib.hid (show lev (1 + (n : Int) % 1099511627776) = L by rw [← hk]; exact hL)
  clear hL s2
  by_cases hz : L = 0
  · subst hz
    have hge' : 1 + (n : Int) % 1099511627776 ≤ 1 := by rw [← hk]; simpa using hge
    clear s1 hk hk1 hge hw
    go_enter Try.func4, Try.ntmps4
    go_wp2_with fail
    refine (awake27 _).mono ?_
    rintro e w1 ⟨rfl, hb1⟩
    go_wp2_with fail
    refine (levels_any _ _).mono ?_
    rintro e w' ⟨rfl, rfl⟩
    rw [HL.out]
    go_wp2_with fail
    refine (levels_any _ _).mono ?_
    rintro e w' ⟨rfl, rfl⟩
    rw [e0]
    go_wp2_with fail
    refine (levels_any _ _).mono ?_
    rintro e w' ⟨rfl, rfl⟩
    rw [e5]
    go_wp2_with fail
    go_ret
    exact ⟨rfl, hb1⟩
  · have hlt := s1 (L - 1) (by omega)
    have hw2 := wrap_pow40 (L - 1) (by omega)
    rw [hk] at hge hlt
    clear s1 hk hk1
    go_enter Try.func4, Try.ntmps4
    go_wp2_with fail
    refine (awake27 _).mono ?_
    rintro e w1 ⟨rfl, hb1⟩
    go_wp2_with fail
    refine (levels_any _ _).mono ?_
    rintro e w' ⟨rfl, rfl⟩
    rw [HL.out]
    go_wp2_with fail
    refine (levels_any _ _).mono ?_
    rintro e w' ⟨rfl, rfl⟩
    rw [e0]
    go_wp2_with fail
    refine (levels_any _ _).mono ?_
    rintro e w' ⟨rfl, rfl⟩
    rw [e5]
    go_wp2_with fail
    go_ret
    exact ⟨rfl, hb1⟩
end Go.Proofs.Ythkdojgagmaecaa
