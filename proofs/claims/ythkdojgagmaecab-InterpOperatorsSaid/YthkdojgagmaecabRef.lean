/- Layer 1's reference: add, on lists of bits. -/
import Derived.Test.YthkdojgagmaecabLstC
import Derived.Deep.QuietTactic
import Derived.BigQuiet
namespace Go.Proofs.Ythkdojgagmaecab
open Go.RowKit

/-- A list of bits that can be read. -/
def ReadRow (w : World) (v : Value) (n : Nat) (L : List Nat) : Prop :=
  L.length = n ∧ ((n = 0 ∧ ∃ a c, v = .slice a 0 c) ∨
    ∃ g c, v = .slice (some ⟨g, 0, none⟩) n c ∧ g < w.heap.size ∧ ∀ m, m < n → w.cell? ⟨g, m, none⟩ = some (.int .i64 ((L.getD m 0 : Nat) : Int)))
theorem ReadRow.of_owns {w : World} {base B n : Nat} {v : Value} {L : List Nat} (hL : L.length = n) (h : w.ownsRow base B 1 v n (rowL L)) : ReadRow w v n L := by
  refine ⟨hL, ?_⟩
  have h' := h
  rcases h.2 with ⟨rfl, h0⟩ | ⟨g, cap, cur, rfl, _, hg, _⟩
  · exact Or.inl ⟨h0, _, _, rfl⟩
  · refine Or.inr ⟨g, cap, rfl, (Array.getElem?_eq_some_iff.1 hg).1, fun m hm => ?_⟩
    have := h'.cells (g := g) rfl m (.int .i64 ((L.getD m 0 : Nat) : Int)) (by
      have hm' : m < L.length := by omega
      simp [rowL, List.getD, hm'])
    have e : (⟨g, 0, none⟩ : Addr).add m = ⟨g, m, none⟩ := by unfold Addr.add; split <;> simp_all
    rw [e] at this; exact this
theorem ReadRow.below {w w1 : World} {v : Value} {n : Nat} {L : List Nat} (h : ReadRow w v n L) (hb : Below w.heap.size w w1) : ReadRow w1 v n L := by
  obtain ⟨h1, h2⟩ := h
  refine ⟨h1, ?_⟩
  rcases h2 with h | ⟨g, c, e, hg, hc⟩
  · exact Or.inl h
  · exact Or.inr ⟨g, c, e, Nat.lt_of_lt_of_le hg hb.size, fun m hm => (hb.cell (p := ⟨g, m, none⟩) hg).trans (hc m hm)⟩
/-- A fresh list of bits is returned, whose word is X. -/
def SomeWord (base n X : Nat) (W : World) (e : Ending) (w' : World) : Prop :=
  ∃ v L, e = .returned v ∧ w'.ownsRow base 3 1 v n (rowL L) ∧ L.length = n ∧ (∀ z ∈ L, z ≤ 1) ∧ wordL L = X ∧ Below W.heap.size W w'

theorem take_word (L : List Nat) (k : Nat) (h : k < L.length) : wordL (L.take (k + 1)) = wordL (L.take k) + 2 ^ k * L.getD k 0 := by
  rw [List.take_add_one, List.getElem?_eq_getElem h]
  show wordL (L.take k ++ [L[k]]) = _
  rw [wordL_snoc, List.length_take, Nat.min_eq_left (by omega)]
  simp [List.getD, h]
/-- The sum so far: the bits written, and the carry. -/
def AddAt (A B : List Nat) (c0 k : Nat) (L : List Nat) (c : Nat) : Prop :=
  L.length = k ∧ (∀ z ∈ L, z ≤ 1) ∧ wordL L + 2 ^ k * c = wordL (A.take k) + wordL (B.take k) + c0
theorem AddAt.step {A B L : List Nat} {c0 k c n : Nat} (h : AddAt A B c0 k L c) (hA : k < A.length) (hB : k < B.length) (hn : n = A.getD k 0 + B.getD k 0 + c) :
    AddAt A B c0 (k + 1) (L ++ [n % 2]) (n / 2) := by
  obtain ⟨h1, h2, h3⟩ := h
  refine ⟨by simp [h1], ?_, ?_⟩
  · intro z hz
    rcases List.mem_append.1 hz with hz | hz
    · exact h2 z hz
    · simp at hz; omega
  · rw [wordL_snoc, h1, take_word A k hA, take_word B k hB, Nat.pow_succ]
    have e1 : 2 ^ k * 2 * (n / 2) + 2 ^ k * (n % 2) = 2 ^ k * n := by
      rw [Nat.mul_assoc, ← Nat.mul_add]; congr 1; omega
    have e2 : 2 ^ k * n = 2 ^ k * A.getD k 0 + 2 ^ k * B.getD k 0 + 2 ^ k * c := by rw [hn, Nat.mul_add, Nat.mul_add]
    omega
theorem AddAt.fin {A B L : List Nat} {c0 n c : Nat} (h : AddAt A B c0 n L c) (hA : A.length = n) (hB : B.length = n) : wordL L = (wordL A + wordL B + c0) % 2 ^ n := by
  obtain ⟨h1, h2, h3⟩ := h
  rw [List.take_of_length_le (by omega), List.take_of_length_le (by omega)] at h3
  have := wordL_lt L h2
  rw [h1] at this
  rw [← h3, Nat.add_mul_mod_self_left, Nat.mod_eq_of_lt this]

theorem rel_add {B b : Nat} {k : Nat} {L : List Nat} {w wr w2 : World} {v v' : Value} {o : Obj}
    (hown : wr.ownsRow w.heap.size B 1 v k (rowL L)) (hnx : Below w.heap.size w wr)
    (hown' : w2.ownsRow w.heap.size B 1 v' (k + 1) (rowL L ++ [.int .i64 (b : Int)])) (hgrow : (wr.alloc o).grownBy w2 v.ownBlock) :
    w2.ownsRow w.heap.size B 1 v' (k + 1) (rowL (L ++ [b])) ∧ Below w.heap.size w w2 := by
  constructor
  · rw [rowL_append]; exact hown'
  · exact (hnx.alloc hnx.size o).grown hgrow (by have := hnx.size; simp; omega) (fun j hj => by have := (hown.lt j hj).1; omega)
theorem below_drewN2 {B : Nat} {a w : World} (h : Below B a w) (n : Nat) : Below B a (w.drewN n) := h.trans ⟨rfl, rfl, rfl, Nat.le_refl _, fun _ _ => rfl⟩
theorem owns_drewN {w : World} {base e size n : Nat} {v : Value} {xs : List Value} (h : w.ownsRow base e size v n xs) (m : Nat) : (w.drewN m).ownsRow base e size v n xs := h
theorem getD_le (L : List Nat) (h : ∀ z ∈ L, z ≤ 1) (m : Nat) : L.getD m 0 ≤ 1 := by
  by_cases hm : m < L.length
  · simp [List.getD, hm]; exact h _ (List.getElem_mem hm)
  · simp [List.getD, Nat.le_of_not_lt hm]

theorem radd_any (va vb : Value) (A B : List Nat) (n c0 : Nat) (w : World) (hn : n ≤ 64) (hA1 : ∀ z ∈ A, z ≤ 1) (hB1 : ∀ z ∈ B, z ≤ 1) (hc0 : c0 ≤ 1)
    (hA : ReadRow w va n A) (hB : ReadRow w vb n B) :
    Calls Try.prog 78 #[va, vb, .int .i64 c0] w (SomeWord w.heap.size n ((wordL A + wordL B + c0) % 2 ^ n) w) := by
  obtain ⟨i0, hi, hz0, hz1, hz2⟩ := info_parts info_int
  obtain ⟨hAl, hA⟩ := hA
  obtain ⟨hBl, hB⟩ := hB
  rcases hA with ⟨h0, aa, ca, rfl⟩ | ⟨ga, ca, rfl, hga, hca⟩
  · subst h0
    have hA0 : A = [] := List.eq_nil_of_length_eq_zero hAl
    have hB0 : B = [] := List.eq_nil_of_length_eq_zero hBl
    subst hA0; subst hB0
    go_enter Try.func78, Try.ntmps78
    go_wp2_with fail
    refine wp_loop_rounds 1 ?_
    rw [rounds_succ]
    go_wp2_with fail
    go_ret
    exact ⟨_, [], rfl, World.ownsRow_nil _ _ _ _, rfl, by simp, by simp [wordL, Nat.mod_one], Below.refl _ _⟩
  · rcases hB with ⟨h0, _⟩ | ⟨gb, cb, rfl, hgb, hcb⟩
    · subst h0
      have hA0 : A = [] := List.eq_nil_of_length_eq_zero hAl
      have hB0 : B = [] := List.eq_nil_of_length_eq_zero hBl
      subst hA0; subst hB0
      go_enter Try.func78, Try.ntmps78
      go_wp2_with fail
      refine wp_loop_rounds 1 ?_
      rw [rounds_succ]
      go_wp2_with fail
      go_ret
      exact ⟨_, [], rfl, World.ownsRow_nil _ _ _ _, rfl, by simp, by simp [wordL, Nat.mod_one], Below.refl _ _⟩
    · go_enter Try.func78, Try.ntmps78
      go_wp2_with fail
      go_loopw [2, 7, 8] (fun cc v i wr => ∃ k c : Nat, ∃ L : List Nat, k ≤ n ∧ c ≤ 1 ∧ Hid (AddAt A B c0 k L c) ∧ cc = .int .i64 (c : Nat) ∧ i = .int .i64 (k : Nat) ∧ wr.ownsRow w.heap.size 3 1 v k (rowL L) ∧ Below w.heap.size w wr)
        (fun _ _ i _ => n - (intOf i).toNat)
      case atStart => exact ⟨0, c0, [], Nat.zero_le _, hc0, Lib.hid ⟨rfl, by simp, by simp [wordL]⟩, rfl, rfl, World.ownsRow_nil _ _ _ _, Below.refl _ _⟩
      case round =>
        obtain ⟨k, c, L, hk, hc, HL, rfl, rfl, hown, hnx⟩ := hrel
        by_cases hlt : k < n
        · obtain ⟨x, hx⟩ : ∃ x : Nat, x = A.getD k 0 := ⟨_, rfl⟩
          obtain ⟨y, hy⟩ : ∃ y : Nat, y = B.getD k 0 := ⟨_, rfl⟩
          have hx1 : x ≤ 1 := by rw [hx]; exact getD_le A hA1 k
          have hy1 : y ≤ 1 := by rw [hy]; exact getD_le B hB1 k
          have ca1 : wr.cell? ⟨ga, k, none⟩ = some (.int .i64 ((x : Nat) : Int)) := by rw [hx]; exact (hnx.cell (by exact hga)).trans (hca k hlt)
          have cb1 : wr.cell? ⟨gb, k, none⟩ = some (.int .i64 ((y : Nat) : Int)) := by rw [hy]; exact (hnx.cell (by exact hgb)).trans (hcb k hlt)
          obtain ⟨p, hp⟩ : ∃ p : Nat, p = x + y := ⟨_, rfl⟩
          obtain ⟨s, hs⟩ : ∃ s : Nat, s = p + c := ⟨_, rfl⟩
          have hs3 : s ≤ 3 := by omega
          have HL2 : Hid (AddAt A B c0 (k + 1) (L ++ [s % 2]) (s / 2)) := Lib.hid (HL.out.step (by omega) (by omega) (by rw [hs, hp, hx, hy]))
          have q1 : IntKind.i64.wrap (((x : Nat) : Int) + ((y : Nat) : Int)) = ((p : Nat) : Int) := by rw [IntKind.wrap_i64]; omega
          have q2 : IntKind.i64.wrap (((p : Nat) : Int) + ((c : Nat) : Int)) = ((s : Nat) : Int) := by rw [IntKind.wrap_i64]; omega
          have hLk : (rowL L).length = k := by have := hown.1; omega
          clear hp hs
          have hB' : w.heap.size ≤ wr.heap.size := hnx.size
          clear hx hy
          go_wp2_with fail
          go_quiet (fail)
          clear q1 q2
          go_wp2_with (at_builtin; refine wpList_append_own _ rfl _ _ 43 rfl w.heap.size 3 i0 (.int .i64 0) 1 8 Try.underlying43 hi hz0 hz1 hz2 rfl (by decide) _ _ _ rfl ((owns_drewN hown _).alloc _) ⟨wr.heap.size, 0, none⟩ 1 1 [.int .i64 (↑s % 2)] rfl rfl ?c1 ?c2 ?c3 ?c4 ?c5 ?_)
          case c1 =>
            intro j u hj
            match j, hj with
            | 0, hj => simp at hj; subst hj; exact World.cell?_alloc_at (w := wr.drewN _) _ _ _ _ rfl
          case c2 => intro u hu; simp at hu; subst hu; rfl
          case c3 => unfold maxLen; omega
          case c4 => omega
          case c5 => simp; omega
          intro v' w2 hown' hgrow _
          have R := rel_add (b := s % 2) (owns_drewN hown _) (below_drewN2 hnx _) hown' hgrow
          clear hown' hgrow hown hnx
          go_wp2_with fail
          go_roundw
          case rel => exact ⟨k + 1, s / 2, L ++ [s % 2], by omega, by omega, HL2, by go_num, by go_num, R.1, R.2⟩
          case measure => (simp [intOf] <;> omega)
        · have hkn : k = n := by omega
          subst hkn
          go_wp2_with fail
          go_ret
          exact ⟨_, L, rfl, hown, HL.out.1, HL.out.2.1, HL.out.fin hAl hBl, hnx⟩
end Go.Proofs.Ythkdojgagmaecab
