/- Points of an exploration: the best one, and those that no other covers. -/
import Derived.Test.YtgglfpnllkegpaaEv
namespace Go.Proofs.Ytgglfpnllkegpaa.Abs
open Go
set_option linter.unusedVariables false
set_option linter.unusedSimpArgs false
set_option maxHeartbeats 1000000
abbrev Pt := Int × Int × Int × Int
theorem wr {x : Int} (h1 : -9000000000000000000 ≤ x) (h2 : x ≤ 9000000000000000000) : IntKind.i64.wrap x = x := by rw [wrap_i64] <;> omega
theorem wr1 {i n : Nat} (h : i < n) (hn : n ≤ 9000000000000000000) : IntKind.i64.wrap ((i : Int) + 1) = ((i + 1 : Nat) : Int) := by rw [wr] <;> omega
theorem atn {α : Type} {l : List α} {i : Nat} {y : α} (h : l[i]? = some y) : at? l (i : Int) = some y := by
  unfold at?; rw [decide_eq_true (Int.natCast_nonneg i), cond_true, Int.toNat_natCast]; exact h
theorem atI {α : Type} {l : List α} {k : Int} {y : α} (h0 : 0 ≤ k) (h : l[k.toNat]? = some y) : at? l k = some y := by
  unfold at?; rw [decide_eq_true h0, cond_true]; exact h
theorem some_nat {α : Type} {l : List α} {i : Nat} (h : i < l.length) : ∃ y, l[i]? = some y := ⟨l[i], List.getElem?_eq_getElem h⟩
theorem okg {n B : Nat} (h : n ≤ 100000) (hB : B ≤ 1000) : (!(okApp n B)) = false := by
  rw [ok_app (Nat.le_trans (Nat.mul_le_mul h hB) (by omega)) (by omega)]; rfl
theorem take_one {β : Type} {l : List β} {i : Nat} {y : β} (h : l[i]? = some y) : l.take (i + 1) = l.take i ++ [y] := by
  rw [List.take_add_one, h]; rfl
def bkey (p : Pt) : List Int := [p.2.1, p.2.2.2, p.2.2.1, p.1]
theorem bkey_inj {p q : Pt} (h : bkey p = bkey q) : p = q := by
  obtain ⟨p1, p2, p3, p4⟩ := p
  obtain ⟨q1, q2, q3, q4⟩ := q
  unfold bkey at h
  simp only [List.cons.injEq, and_true] at h
  obtain ⟨h1, h2, h3, h4⟩ := h
  rw [h1, h2, h3, h4]
def Bt (p q : Pt) : Prop := cmpL (bkey p) (bkey q) < 0
theorem Bt.irr (p : Pt) : ¬ Bt p p := by unfold Bt; rw [cmpL_self]; omega
theorem Bt.tr {p q r : Pt} (h : Bt p q) (k : Bt q r) : Bt p r := cmpL_trans (bkey p) (bkey q) (bkey r) rfl rfl h k
theorem Bt.ntr {p q r : Pt} (h : ¬ Bt p q) (k : ¬ Bt q r) : ¬ Bt p r := cmpL_ntrans (bkey p) (bkey q) (bkey r) rfl rfl h k
theorem Bt.tot {p q : Pt} (h : ¬ Bt p q) (k : ¬ Bt q p) : p = q := bkey_inj (cmpL_tot _ _ rfl h k)
/-- The first two numbers decide before the others do. -/
theorem Bt.two {p q : Pt} (h : ¬ Bt q p) : p.2.1 < q.2.1 ∨ (p.2.1 = q.2.1 ∧ p.2.2.2 ≤ q.2.2.2) := by
  unfold Bt bkey at h
  rw [cmpL_cons, cmpL_cons] at h
  rcases cmpI_cases q.2.1 p.2.1 with ⟨a, e⟩ | ⟨a, e⟩ | ⟨a, e⟩ <;> rw [e] at h
  · simp at h
  · exact .inl a
  · rcases cmpI_cases q.2.2.2 p.2.2.2 with ⟨b, e'⟩ | ⟨b, e'⟩ | ⟨b, e'⟩ <;> rw [e'] at h
    · simp at h
    · exact .inr ⟨a.symm, by omega⟩
    · exact .inr ⟨a.symm, by omega⟩
def Lim (a b : Int) (p : Pt) : Prop := p.2.2.2 ≤ a ∧ p.2.2.1 ≤ b
def Least (a b : Int) (l : List Pt) (m : Pt) : Prop := m ∈ l ∧ Lim a b m ∧ ∀ p ∈ l, Lim a b p → ¬ Bt p m
theorem Least.eq {a b : Int} {l : List Pt} {m m' : Pt} (h : Least a b l m) (k : Least a b l m') : m = m' :=
  Bt.tot (k.2.2 m h.1 h.2.1) (h.2.2 m' k.1 k.2.1)
theorem Least.no {a b : Int} {l : List Pt} {m y : Pt} (h : Least a b l m) (k : ¬ Lim a b y) : Least a b (l ++ [y]) m :=
  ⟨List.mem_append_left _ h.1, h.2.1, fun p hp hl => by
    rcases List.mem_append.1 hp with hp | hp
    · exact h.2.2 p hp hl
    · rw [List.mem_singleton] at hp; subst hp; exact absurd hl k⟩
theorem Least.old {a b : Int} {l : List Pt} {m y : Pt} (h : Least a b l m) (k : ¬ Bt y m) : Least a b (l ++ [y]) m :=
  ⟨List.mem_append_left _ h.1, h.2.1, fun p hp hl => by
    rcases List.mem_append.1 hp with hp | hp
    · exact h.2.2 p hp hl
    · rw [List.mem_singleton] at hp; subst hp; exact k⟩
theorem Least.new {a b : Int} {l : List Pt} {m y : Pt} (h : Least a b l m) (hl : Lim a b y) (k : Bt y m) : Least a b (l ++ [y]) y :=
  ⟨List.mem_append_right _ (List.mem_singleton.2 rfl), hl, fun p hp hl' => by
    rcases List.mem_append.1 hp with hp | hp
    · exact fun q => h.2.2 p hp hl' (q.tr k)
    · rw [List.mem_singleton] at hp; subst hp; exact Bt.irr p⟩
theorem Least.first {a b : Int} {l : List Pt} {y : Pt} (h : ∀ p ∈ l, ¬ Lim a b p) (hl : Lim a b y) : Least a b (l ++ [y]) y :=
  ⟨List.mem_append_right _ (List.mem_singleton.2 rfl), hl, fun p hp hl' => by
    rcases List.mem_append.1 hp with hp | hp
    · exact absurd hl' (h p hp)
    · rw [List.mem_singleton] at hp; subst hp; exact Bt.irr p⟩
theorem none_add {a b : Int} {l : List Pt} {y : Pt} (h : ∀ p ∈ l, ¬ Lim a b p) (k : ¬ Lim a b y) : ∀ p ∈ l ++ [y], ¬ Lim a b p := fun p hp => by
  rcases List.mem_append.1 hp with hp | hp
  · exact h p hp
  · rw [List.mem_singleton] at hp; subst hp; exact k
section
variable (l : List Pt) (a b : Int)
end
/-- At least as good in everything. -/
def Cov (q p : Pt) : Prop := q.2.1 ≤ p.2.1 ∧ q.2.2.1 ≤ p.2.2.1 ∧ q.2.2.2 ≤ p.2.2.2
theorem cov_iff (q p : Pt) : F39 q.1 q.2.1 q.2.2.1 q.2.2.2 p.1 p.2.1 p.2.2.1 p.2.2.2 = true ↔ Cov q p := by
  unfold F39 F40 Cov
  simp only [Bool.cond_eq_ite, decide_eq_true_eq, beq_iff_eq]
  repeat' split
  all_goals first
    | (simp at *; done)
    | (constructor
       · intro h; first | (simp at h; done) | (simp at *; omega)
       · intro h; first | rfl | (simp at *; omega))
theorem contains_any (R : List Pt) (p : Pt) (k : R.length ≤ 1000) : Yields (fun c => c = true ↔ ∃ q ∈ R, Cov q p) (F38w39 R p.1 p.2.1 p.2.2.1 p.2.2.2) := by
  unfold F38w39 F51w39
  refine Yields.bind (P := fun r : Int => (r = -1 ∧ ¬ ∃ q ∈ R, Cov q p) ∨ (0 ≤ r ∧ ∃ q ∈ R, Cov q p)) ?_ ?_
  · refine Yields.bind (P := fun r : Nat × Int => (r.1 = 1 ∧ ¬ ∃ q ∈ R, Cov q p) ∨ (r.1 = 0 ∧ 0 ≤ r.2 ∧ ∃ q ∈ R, Cov q p)) (Yields.loop R.length (fun (i : Nat) z => z = (i : Int) ∧ ¬ ∃ q ∈ R.take i, Cov q p) ⟨rfl, fun ⟨q, h, _⟩ => by simp at h⟩ ?_) ?_
    · rintro i z hi ⟨rfl, hk⟩
      unfold F51w39_s1
      refine Yields.bif (fun hc => ?_) fun hc => Yields.some (.inl ⟨rfl, ?_⟩)
      · have hc := of_decide_eq_true hc
        obtain ⟨y, hy⟩ := some_nat (l := R) (i := i) (by omega)
        refine Yields.bindE (atn hy) (Yields.bif (fun q => Yields.some (.inr ⟨rfl, by show (0 : Int) ≤ (i : Int); omega, y, List.mem_of_getElem? hy, (cov_iff y p).1 q⟩)) fun q => Yields.some ⟨by omega, wr1 (n := R.length) (by omega) (by omega), ?_⟩)
        rw [take_one hy]
        rintro ⟨r, hr, hv⟩
        rcases List.mem_append.1 hr with hr | hr
        · exact hk ⟨r, hr, hv⟩
        · rw [List.mem_singleton] at hr; subst hr; rw [(cov_iff r p).2 hv] at q; cases q
      · have hc := of_decide_eq_false hc
        rw [List.take_of_length_le (by omega)] at hk
        exact hk
    · rintro ⟨c, v⟩ (⟨h1, h2⟩ | ⟨h1, h2, h3⟩)
      · simp only at h1; subst h1; exact Yields.some (.inl ⟨rfl, h2⟩)
      · simp only at h1 h2; subst h1; exact Yields.some (.inr ⟨h2, h3⟩)
  · rintro r (⟨rfl, h⟩ | ⟨h0, h⟩)
    · exact Yields.some ⟨fun e => by simp at e, fun e => absurd e h⟩
    · exact Yields.some ⟨fun _ => h, fun _ => decide_eq_true h0⟩
def LEk (p q : Pt) : Prop := ¬ cmpL (key37 q) (key37 p) < 0
theorem key37_inj {p q : Pt} (h : key37 p = key37 q) : p = q := by
  obtain ⟨p1, p2, p3, p4⟩ := p
  obtain ⟨q1, q2, q3, q4⟩ := q
  unfold key37 at h
  simp only [List.cons.injEq, and_true] at h
  obtain ⟨h1, h2, h3, h4⟩ := h
  rw [h1, h2, h3, h4]
/-- What stands first covers what stands later, if that covers it. -/
theorem LEk.cov {p q : Pt} (h : LEk p q) (k : Cov q p) : Cov p q := by
  unfold LEk key37 at h
  rw [cmpL_cons, cmpL_cons, cmpL_cons] at h
  unfold Cov at *
  rcases cmpI_cases q.2.1 p.2.1 with ⟨a, e⟩ | ⟨a, e⟩ | ⟨a, e⟩ <;> rw [e] at h
  · simp at h
  · omega
  rcases cmpI_cases q.2.2.1 p.2.2.1 with ⟨b, e'⟩ | ⟨b, e'⟩ | ⟨b, e'⟩ <;> rw [e'] at h
  · simp at h
  · omega
  rcases cmpI_cases q.2.2.2 p.2.2.2 with ⟨c, e2⟩ | ⟨c, e2⟩ | ⟨c, e2⟩ <;> rw [e2] at h
  · simp at h
  · omega
  · omega
theorem sorted37 {l r : List Pt} (h : F36w37 l = some r) : r.Perm l ∧ r.Pairwise LEk := by
  unfold F36w37 at h
  cases hd : decide (l.length < 4611686018427387904) with
  | false => rw [hd] at h; cases h
  | true =>
    rw [hd] at h
    obtain rfl := Option.some.inj h
    have S := key_swo (key := key37) (n := 4) fun _ => rfl
    refine ⟨List.mergeSort_perm _ _, ?_⟩
    refine (List.pairwise_mergeSort (le := fun x y => !(Go.Proofs.ltOf fun a b => cmpL (key37 a) (key37 b)) y x) ?_ ?_ l).imp fun {a b} h => ?_
    · intro a b c h1 h2
      rw [Bool.not_eq_true'] at h1 h2 ⊢
      exact S.ntrans c b a h2 h1
    · intro a b
      cases h1 : Go.Proofs.ltOf (fun a b => cmpL (key37 a) (key37 b)) b a
      · rfl
      · cases h2 : Go.Proofs.ltOf (fun a b => cmpL (key37 a) (key37 b)) a b
        · rfl
        · have := S.trans a b a h2 h1
          rw [S.irrefl] at this; cases this
    · rw [Bool.not_eq_true'] at h
      exact of_decide_eq_false h
/-- Points of which none covers a later one, and that cover all. -/
def Front (S R : List Pt) : Prop := R.Sublist S ∧ (∀ p ∈ S, ∃ q ∈ R, Cov q p) ∧ R.Pairwise fun a b => ¬ Cov a b
theorem clone_eq (l : List Pt) (k : l.length ≤ 1000) : F35 l = some l := by
  unfold F35 F35s
  rw [show (!(okApp (([] : List Pt).length + l.length) 32)) = false from okg (by simp; omega) (by omega), cond_false]
  rfl
theorem front_loop (S : List Pt) (k : S.length ≤ 1000) : Yields (Front S) (loopO (fun (s : Int × (List (Int × Int × Int × Int))) => F17_s1 S s.1 s.2) (0, ([] : List (Int × Int × Int × Int)))) := by
  refine Yields.loop S.length (fun (i : Nat) z => z.1 = (i : Int) ∧ Front (S.take i) z.2) ⟨rfl, List.Sublist.refl _, fun p hp => by simp at hp, List.Pairwise.nil⟩ ?_
  rintro i ⟨j, R⟩ hi ⟨h1, h2, h3, h4⟩
  simp only at h1 h2 h3 h4
  subst h1
  unfold F17_s1
  simp only
  refine Yields.bif (fun hc => ?_) fun hc => Yields.some (by
    have hc := of_decide_eq_false hc
    rw [List.take_of_length_le (by omega)] at h2 h3
    exact ⟨h2, h3, h4⟩)
  have hc := of_decide_eq_true hc
  obtain ⟨y, hy⟩ := some_nat (l := S) (i := i) (by omega)
  have nx : IntKind.i64.wrap ((i : Int) + 1) = ((i + 1 : Nat) : Int) := wr1 (n := S.length) (by omega) (by omega)
  have tk := take_one hy
  have rl : R.length ≤ i := by have := h2.length_le; rw [List.length_take] at this; omega
  refine Yields.bindE (atn hy) (Yields.bind (contains_any R y (by omega)) fun c hc => Yields.bif (fun q => ?_) fun q => Yields.some ⟨by omega, nx, ?_⟩)
  · rw [okg (by simp only [List.length_singleton]; omega) (by omega), cond_false]
    have hn : ¬ ∃ q ∈ R, Cov q y := fun h => by rw [hc.2 h] at q; cases q
    refine Yields.some ⟨by omega, nx, ?_, fun p hp => ?_, ?_⟩
    · rw [tk]; exact h2.append (List.Sublist.refl _)
    · rw [tk] at hp
      rcases List.mem_append.1 hp with hp | hp
      · obtain ⟨q, hq, hv⟩ := h3 p hp
        exact ⟨q, List.mem_append_left _ hq, hv⟩
      · rw [List.mem_singleton] at hp; subst hp
        exact ⟨p, List.mem_append_right _ (List.mem_singleton.2 rfl), Int.le_refl _, Int.le_refl _, Int.le_refl _⟩
    · show (R ++ [y]).Pairwise _
      rw [List.pairwise_append]
      refine ⟨h4, List.pairwise_singleton _ _, fun q hq r hr hv => ?_⟩
      rw [List.mem_singleton] at hr; subst hr
      exact hn ⟨q, hq, hv⟩
  · have hy2 : ∃ q ∈ R, Cov q y := hc.1 (by simpa using q)
    refine ⟨?_, fun p hp => ?_, h4⟩
    · rw [tk]; exact h2.trans (List.sublist_append_left _ _)
    · rw [tk] at hp
      rcases List.mem_append.1 hp with hp | hp
      · exact h3 p hp
      · rw [List.mem_singleton] at hp; subst hp; exact hy2
theorem pareto_any (l : List Pt) (k : l.length ≤ 1000) : Yields (fun R => ∃ S, S.Perm l ∧ S.Pairwise LEk ∧ Front S R) (F17 l) := by
  unfold F17
  refine Yields.bindE (clone_eq l k) ?_
  have hs : ∃ S, F36w37 l = some S := by
    unfold F36w37
    rw [decide_eq_true (by omega)]
    exact ⟨_, rfl⟩
  obtain ⟨S, hS⟩ := hs
  obtain ⟨p1, p2⟩ := sorted37 hS
  refine Yields.bindE hS (Yields.bind (front_loop S (by rw [p1.length_eq]; exact k)) fun R hR => Yields.some ⟨S, p1, p2, hR⟩)
end Go.Proofs.Ytgglfpnllkegpaa.Abs
