/- Layer 1's reference: Word, Fit, Ones. -/
import Derived.Test.YthkdojgagmaecabBitsB
import Derived.Test.YthkdojgagmaecabLst
namespace Go.Proofs.Ythkdojgagmaecab
open Go.RowKit

theorem wid_cw (a : Int) : wid a = cw a := by unfold wid cw; split; omega; split <;> omega

/-- The word with these bits. -/
def wordL : List Nat → Nat
  | [] => 0
  | b :: t => b + 2 * wordL t
theorem wordL_lt : ∀ (l : List Nat), (∀ z ∈ l, z ≤ 1) → wordL l < 2 ^ l.length
  | [], _ => by simp [wordL]
  | b :: t, h => by
    have h1 := wordL_lt t (fun z hz => h z (by simp [hz]))
    have h2 := h b (by simp)
    simp only [wordL, List.length_cons, Nat.pow_succ]
    omega
theorem wordL_snoc : ∀ (l : List Nat) (b : Nat), wordL (l ++ [b]) = wordL l + 2 ^ l.length * b
  | [], b => by simp [wordL]
  | c :: t, b => by
    simp only [List.cons_append, wordL, wordL_snoc t b, List.length_cons, Nat.pow_succ]
    rw [Nat.mul_add, Nat.add_assoc]
    congr 2
    rw [Nat.mul_comm (2 ^ t.length) 2, Nat.mul_assoc]
theorem bitsL_le (n x : Nat) : ∀ z ∈ bitsL n x, z ≤ 1 := by
  intro z hz
  simp only [bitsL, List.mem_map, List.mem_range] at hz
  obtain ⟨i, _, rfl⟩ := hz
  omega
theorem word_bits (x : Nat) : ∀ n, wordL (bitsL n x) = x % 2 ^ n
  | 0 => by simp [bitsL, wordL, Nat.mod_one]
  | n + 1 => by
    rw [bitsL_succ, wordL_snoc, word_bits x n, bitsL_len, Nat.pow_succ, Nat.mod_mul]
theorem drop_step (l : List Nat) (m : Nat) (h : m < l.length) : wordL (l.drop m) = l[m] + 2 * wordL (l.drop (m + 1)) := by
  rw [List.drop_eq_getElem_cons h]; rfl

theorem word_nil (w : World) :
    Calls Try.prog 68 #[.slice none 0 0] w fun e w' => e = .returned (.int .u64 0) ∧ w = w' := by
  go_enter Try.func68, Try.ntmps68
  go_wp2_with fail
  refine wp_loop_rounds 1 ?_
  rw [rounds_succ]
  go_wp2_with fail
  go_ret
  exact ⟨rfl, rfl⟩
theorem word_some (g n cap : Nat) (l : List Nat) (hl : l.length = n) (hn : n ≤ 64) (h1 : ∀ z ∈ l, z ≤ 1) (w : World)
    (hc : ∀ (m : Nat) (h : m < l.length), w.cell? ⟨g, m, none⟩ = some (.int .i64 ((l[m] : Nat) : Int))) :
    Calls Try.prog 68 #[.slice (some ⟨g, 0, none⟩) n cap] w fun e w' => e = .returned (.int .u64 (wordL l : Nat)) ∧ w = w' := by
  have hs : IntKind.i64.wrap ((n : Int) - 1) = (n : Int) - 1 := by rw [IntKind.wrap_i64]; omega
  go_enter Try.func68, Try.ntmps68
  go_wp2_with fail
  go_loop [3, 4] (fun xx i => ∃ (j : Int) (X : Nat), -1 ≤ j ∧ j < n ∧ Hid (X = wordL (l.drop (j + 1).toNat)) ∧ xx = .int .u64 (X : Nat) ∧ i = .int .i64 j)
    (fun _ i => (intOf i + 1).toNat)
  case atStart => exact ⟨(n : Int) - 1, 0, by omega, by omega, Lib.hid (by rw [show ((n : Int) - 1 + 1).toNat = l.length by omega, List.drop_length]; rfl), rfl, by go_num⟩
  case round =>
    obtain ⟨j, X, hj1, hj2, HX, rfl, rfl⟩ := hrel
    by_cases hj : 0 ≤ j
    · obtain ⟨m, rfl⟩ : ∃ m : Nat, j = (m : Int) := ⟨j.toNat, by omega⟩
      have hm : m < l.length := by omega
      have hX : X < 9223372036854775808 := by
        have e := HX.out
        rw [show ((m : Int) + 1).toNat = m + 1 by omega] at e
        have b1 := wordL_lt (l.drop (m + 1)) (fun z hz => h1 z (List.mem_of_mem_drop hz))
        rw [← e, List.length_drop] at b1
        exact Nat.lt_of_lt_of_le b1 (pow_lt_64 _ (by omega))
      have hcm := hc m hm
      obtain ⟨b, hb⟩ : ∃ b : Nat, b = l[m] := ⟨_, rfl⟩
      have hb1 : b ≤ 1 := by rw [hb]; exact h1 _ (List.getElem_mem hm)
      rw [← hb] at hcm
      have HY : Hid (2 * X + b = wordL (l.drop m)) := Lib.hid (by
        have e := HX.out
        rw [show ((m : Int) + 1).toNat = m + 1 by omega] at e
        rw [drop_step l m hm, ← e, ← hb]; omega)
      clear hb HX
      go_wp2_with fail
      go_round
      case rel => exact ⟨(m : Int) - 1, 2 * X + b, by omega, by omega, by rw [show ((m : Int) - 1 + 1).toNat = m by omega]; exact HY, by go_num, by go_num⟩
      case measure => (simp [intOf] <;> omega)
    · have hj' : j = -1 := by omega
      subst hj'
      have HX' := Lib.hid (show X = wordL l by have := HX.out; simpa using this)
      go_wp2_with fail
      go_ret
      exact ⟨by rw [← HX'.out]; rfl, rfl⟩

theorem word_row (base B : Nat) (v : Value) (l : List Nat) (hn : l.length ≤ 64) (h1 : ∀ z ∈ l, z ≤ 1) (w : World) (h : w.ownsRow base B 1 v l.length (rowL l)) :
    Calls Try.prog 68 #[v] w fun e w' => e = .returned (.int .u64 (wordL l : Nat)) ∧ w = w' := by
  have hv := h.2
  rcases hv with ⟨rfl, h0⟩ | ⟨g, cap, cur, rfl, _⟩
  · obtain rfl : l = [] := List.eq_nil_of_length_eq_zero h0
    exact word_nil w
  · refine word_some g l.length cap l rfl hn h1 w fun m hm => ?_
    have := h.cells (g := g) rfl m (.int .i64 ((l[m] : Nat) : Int)) (by simp [rowL, hm])
    have e : (⟨g, 0, none⟩ : Addr).add m = ⟨g, m, none⟩ := by unfold Addr.add; split <;> simp_all
    rw [e] at this; exact this

theorem rfit_any (a : Int) (x : Nat) (hx : x < 18446744073709551616) (w : World) :
    Calls Try.prog 77 #[.int .i64 a, .int .u64 x] w fun e w' => e = .returned (.int .u64 (fitN a x : Nat)) ∧ Below w.heap.size w w' := by
  go_enter Try.func77, Try.ntmps77
  go_wp2_with fail
  refine (rbits_any a x hx w).mono ?_
  rintro e w1 ⟨v, rfl, hown, hb⟩
  go_wp2_with fail
  refine (word_row _ _ v _ (by rw [bitsL_len]; exact wid_le a) (bitsL_le _ _) _ hown).mono ?_
  rintro e w2 ⟨rfl, rfl⟩
  go_wp2_with fail
  go_ret
  exact ⟨by rw [word_bits, wid_cw]; rfl, hb⟩

theorem rones_any (a : Int) (w : World) :
    Calls Try.prog 79 #[.int .i64 a] w fun e w' => e = .returned (.int .u64 (maskN a : Nat)) ∧ w = w' := by
  have hn := wid_le a
  have HM : Hid (maskN a = 2 ^ wid a - 1) := Lib.hid (by rw [wid_cw]; rfl)
  generalize hN : wid a = N at hn HM
  have hw := fun w => width_at a N hN w
  clear hN
  go_enter Try.func79, Try.ntmps79
  go_wp2_with fail
  go_loop [3, 4] (fun xx i => ∃ k X : Nat, k ≤ N ∧ Hid (X = 2 ^ k - 1) ∧ xx = .int .u64 (X : Nat) ∧ i = .int .i64 (k : Nat))
    (fun _ i => N - (intOf i).toNat)
  case atStart => exact ⟨0, 0, by omega, Lib.hid rfl, rfl, rfl⟩
  case round =>
    obtain ⟨k, X, hk, HX, rfl, rfl⟩ := hrel
    go_wp2_with fail
    refine (hw _).mono ?_
    rintro e w1 ⟨rfl, rfl⟩
    by_cases hlt : k < N
    · have hX : X < 9223372036854775808 := by have := HX.out; have := pow_lt_64 k (by omega); have := pow_pos k; omega
      have HY : Hid (2 * X + 1 = 2 ^ (k + 1) - 1) := Lib.hid (by have := HX.out; have := pow_pos k; rw [Nat.pow_succ]; omega)
      go_wp2_with fail
      go_round
      case rel => exact ⟨k + 1, 2 * X + 1, by omega, HY, by go_num, by go_num⟩
      case measure => simp [intOf]; omega
    · have hkN : k = N := by omega
      subst hkN
      go_wp2_with fail
      go_ret
      exact ⟨by rw [HM.out, ← HX.out]; rfl, rfl⟩
end Go.Proofs.Ythkdojgagmaecab
