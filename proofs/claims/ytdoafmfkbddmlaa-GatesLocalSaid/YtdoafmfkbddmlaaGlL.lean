/- The laws of gates, on lists. -/
import Derived.Test.YtdoafmfkbddmlaaVw
import Derived.Test.YtdoafmfkbddmlaaGl
namespace Go.Proofs.Ytdoafmfkbddmlaa.Abs
open Go
set_option linter.unusedVariables false
set_option linter.unusedSimpArgs false

/-- What holds of a gate at an index. -/
def gok (i : Int) (y : Int × Int × Int) : Bool :=
  decide (1 ≤ y.1) && decide (y.1 ≤ 7) && (decide (4 ≤ y.1) || y.2.1 == 0) && (decide (5 ≤ y.1) || y.2.2 == 0) && (decide (y.1 < 4) || (decide (0 ≤ y.2.1) && decide (y.2.1 < i))) && (decide (y.1 < 5) || (decide (0 ≤ y.2.2) && decide (y.2.2 < i)))
theorem gok_iff {i a b c : Int} : gok i (a, b, c) = true ↔ (1 ≤ a ∧ a ≤ 7 ∧ (4 ≤ a ∨ b = 0) ∧ (5 ≤ a ∨ c = 0) ∧ (a < 4 ∨ (0 ≤ b ∧ b < i)) ∧ (a < 5 ∨ (0 ≤ c ∧ c < i))) := by
  simp [gok, and_assoc]
theorem F11_step (l : List (Int × Int × Int)) (i : Nat) (y : Int × Int × Int) (h : l[i]? = some y) : F11_s1 l i = if gok i y then some (.inl (IntKind.i64.wrap (i + 1))) else some (.inr 0) := by
  have hi : (i : Int) < l.length := by have := (List.getElem?_eq_some_iff.1 h).1; omega
  obtain ⟨a, b, c⟩ := y
  have hF : (F23 a = 0 ∧ 1 ≤ a ∧ a ≤ 3) ∨ (F23 a = 1 ∧ a = 4) ∨ (F23 a = 2 ∧ 5 ≤ a ∧ a ≤ 7) ∨ (F23 a = -1 ∧ (a < 1 ∨ a > 7)) := by
    unfold F23; simp only [Bool.cond_eq_ite, beq_iff_eq]; (repeat' split) <;> omega
  unfold F11_s1
  rw [at?_nat, h]
  simp only [Option.bind_some, hi, decide_true, cond_true]
  generalize F23 a = v at *
  by_cases hg : gok i (a, b, c) = true
  · rw [if_pos hg]
    rw [gok_iff] at hg
    repeat' refine bif_elim (fun _ => ?_) (fun _ => ?_)
    all_goals first | rfl | (exfalso; simp only [decide_eq_true_eq, decide_eq_false_iff_not, bne_iff_ne, bne_eq_false_iff_eq, beq_iff_eq, beq_eq_false_iff_ne, Bool.not_eq_true', Bool.not_eq_false', ne_eq] at *; omega)
  · rw [if_neg hg]
    rw [gok_iff] at hg
    repeat' refine bif_elim (fun _ => ?_) (fun _ => ?_)
    all_goals first | rfl | (exfalso; simp only [decide_eq_true_eq, decide_eq_false_iff_not, bne_iff_ne, bne_eq_false_iff_eq, beq_iff_eq, beq_eq_false_iff_ne, Bool.not_eq_true', Bool.not_eq_false', ne_eq] at *; omega)
def formed (l : List (Int × Int × Int)) : Bool := (List.range l.length).all fun i => match l[i]? with | some y => gok i y | none => false
theorem F11_eq (l : List (Int × Int × Int)) (hl : l.length ≤ maxLen) : F11 l = some (bif formed l then 0 else 3) := by
  unfold F11
  rw [loop_forall (n := l.length) hl (fun i => match l[i]? with | some y => gok i y | none => false) (by
    intro i hi
    have h : l[i]? = some l[i] := List.getElem?_eq_getElem hi
    rw [F11_step l i _ h]; simp only [h]) (by unfold F11_s1; simp)]
  simp only [Option.bind_some, formed]
  generalize (List.range l.length).all _ = q
  cases q <;> rfl

theorem formed_at {l : List (Int × Int × Int)} (hf : formed l = true) {i : Nat} {y : Int × Int × Int} (h : l[i]? = some y) : gok i y = true := by
  unfold formed at hf
  rw [List.all_eq_true] at hf
  have hi := (List.getElem?_eq_some_iff.1 h).1
  have := hf i (List.mem_range.2 hi)
  rw [h] at this; exact this
def isin (y : Int × Int × Int) : Bool := y.1 == 3
theorem inputs (l : List (Int × Int × Int)) (hl : l.length ≤ maxLen) : F13 l = some (cntP isin l l.length : Int) := by
  have hb := len_big hl
  refine Yields.eq ?_
  unfold F13
  refine Yields.bind (P := fun t => t = (cntP isin l l.length : Int)) (Yields.loop l.length (fun i (z : Int × Int) => z.2 = i ∧ z.1 = (cntP isin l i : Int)) ⟨rfl, rfl⟩ ?_) (fun y h => Yields.some h)
  rintro i ⟨s, a⟩ hi ⟨ha, hb⟩
  simp only at ha hb ⊢
  subst ha; subst hb
  have hle := cntP_le isin l i
  unfold F13_s1
  refine Yields.bif (fun c => ?_) (fun c => ?_)
  · have c' : i < l.length := by simpa using c
    refine Yields.at (by omega) (by omega) fun y hy hmem => ?_
    have ex := cntP_succ isin l i _ (at_nat hy)
    refine Yields.bif (fun d => ?_) (fun d => ?_)
    · have : isin y = true := d
      rw [this, if_pos rfl] at ex
      refine Yields.some ⟨c', ?_, ?_⟩
      · exact wrap_i1 (by omega)
      · simp only; rw [wrap_i64] <;> omega
    · have : isin y = false := d
      rw [this, if_neg (by simp)] at ex
      refine Yields.some ⟨c', ?_, ?_⟩
      · exact wrap_i1 (by omega)
      · simp only; omega
  · refine Yields.some ?_
    have : i = l.length := by simp at c; omega
    subst this
    rfl
theorem inputs' (l : List (Int × Int × Int)) (hl : l.length ≤ maxLen) : F27 l = some (cntP isin l l.length : Int) := inputs l hl

def vat (v : List Bool) (a : Int) : Bool := v[a.toNat]?.getD false
def gval (inp : List Bool) (j : Int) (v : List Bool) (y : Int × Int × Int) : Bool :=
  if y.1 = 2 then true else if y.1 = 3 then vat inp j else if y.1 = 4 then !(vat v y.2.1) else if y.1 = 5 then vat v y.2.1 && vat v y.2.2 else if y.1 = 6 then vat v y.2.1 || vat v y.2.2 else if y.1 = 7 then !(vat v y.2.1 == vat v y.2.2) else false
def ev (l : List (Int × Int × Int)) (inp : List Bool) : Nat → List Bool
  | 0 => []
  | i + 1 => ev l inp i ++ [match l[i]? with | some y => gval inp (cntP isin l i) (ev l inp i) y | none => false]
theorem ev_len (l : List (Int × Int × Int)) (inp : List Bool) (i : Nat) : (ev l inp i).length = i := by
  induction i with
  | zero => rfl
  | succ i ih => simp [ev, ih]
theorem ev_succ {l : List (Int × Int × Int)} {inp : List Bool} {i : Nat} {y : Int × Int × Int} (h : l[i]? = some y) : ev l inp (i + 1) = ev l inp i ++ [gval inp (cntP isin l i) (ev l inp i) y] := by
  simp only [ev, h]
theorem vat_of {v : List Bool} {a : Int} {x : Bool} (h : v[a.toNat]? = some x) : vat v a = x := by simp [vat, h]
theorem vat_pre {v w : List Bool} {a : Int} {x : Bool} (h : (v ++ w)[a.toNat]? = some x) (h0 : 0 ≤ a) (h1 : a < v.length) : vat v a = x := by
  rw [List.getElem?_append_left (by omega)] at h; exact vat_of h
theorem updE {n i : Nat} (h : i < n) {v : List Bool} (hv : v.length = i) (x : Bool) : setI (v ++ List.replicate (n - i) false) i x = (v ++ [x]) ++ List.replicate (n - (i + 1)) false := by
  obtain ⟨m, rfl⟩ : ∃ m, n = i + 1 + m := ⟨n - (i + 1), by omega⟩
  have e1 : i + 1 + m - i = m + 1 := by omega
  have e2 : i + 1 + m - (i + 1) = m := by omega
  subst hv
  simp [setI, e1, e2, List.replicate_succ]
theorem cntP_mono {α : Type} (p : α → Bool) (l : List α) {i j : Nat} (h : i ≤ j) : cntP p l i ≤ cntP p l j := by
  unfold cntP
  have : (l.take i).Sublist (l.take j) := List.take_sublist_take_left h
  exact this.countP_le

section
variable (l : List (Int × Int × Int)) (inp : List Bool) (hl : l.length * 24 ≤ reachBytes) (hf : formed l = true) (hin : (inp.length : Int) = (cntP isin l l.length : Int))
include hl hf hin
theorem evalE : Yields (fun (m : List Bool × Int) => m = (ev l inp l.length, 0)) (F12 l inp) := by
  have hr : l.length * 24 ≤ 140737488351232 := hl
  have hM : l.length ≤ maxLen := by unfold maxLen; omega
  unfold F12
  have h24 : F24 l (inp.length : Int) = some 0 := by
    unfold F24
    rw [F11_eq l hM, hf]
    simp only [Option.bind_some, cond_true]
    rw [inputs' l hM, hin]
    simp
  refine Yields.bindE h24 ?_
  rw [ok_len (by first | omega | (simp only; omega)) (by first | omega | (simp only; omega))]
  simp only [Bool.not_true, cond_false, bne_self_eq_false]
  refine Yields.bind (P := fun m => m = ev l inp l.length) (Yields.loop l.length (fun i (z : Int × Int × List Bool) => z.1 = (cntP isin l i : Int) ∧ z.2.1 = i ∧ z.2.2 = ev l inp i ++ List.replicate (l.length - i) false) ⟨rfl, rfl, by simp [ev]⟩ ?_) (fun y h => Yields.some (by rw [h]))
  rintro i ⟨j, a, v⟩ hi ⟨hj, ha, hv⟩
  simp only at hj ha hv ⊢
  subst hj; subst ha
  have hel : (ev l inp i).length = i := ev_len l inp i
  have hlen : v.length = l.length := by rw [hv]; simp [hel]; omega
  have hle := cntP_le isin l i
  unfold F12_s1
  refine Yields.bif (fun c => ?_) (fun c => ?_)
  · have c' : i < l.length := by simpa using c
    refine Yields.at (by first | omega | (simp only; omega)) (by first | omega | (simp only; omega)) fun y hy hmem => ?_
    have hy' := at_nat hy
    have es := ev_succ (inp := inp) hy'
    have ex := cntP_succ isin l i _ hy'
    have hm := cntP_mono isin l (show i + 1 ≤ l.length by omega)
    have hg := formed_at hf hy'
    obtain ⟨k, p, q⟩ := y
    rw [gok_iff] at hg
    obtain ⟨g1, g2, g3, g4, g5, g6⟩ := hg
    have hwi : IntKind.i64.wrap ((i : Int) + 1) = ((i + 1 : Nat) : Int) := wrap_i1 (by first | omega | (simp only; omega))
    have key : ∀ (b : Bool) (j' : Int), j' = (cntP isin l (i + 1) : Int) → b = gval inp (cntP isin l i) (ev l inp i) (k, p, q) → Yields (Nx i l.length (fun i (z : Int × Int × List Bool) => z.1 = (cntP isin l i : Int) ∧ z.2.1 = i ∧ z.2.2 = ev l inp i ++ List.replicate (l.length - i) false) (fun m => m = ev l inp l.length)) (some (.inl (j', IntKind.i64.wrap ((i : Int) + 1), setI v i b))) := by
      intro b j' hj hb
      refine Yields.some ⟨c', hj, hwi, ?_⟩
      simp only; rw [es, hv, updE c' hel, hb]
    have vp : ∀ {a : Int} {x : Bool}, v[a.toNat]? = some x → 0 ≤ a → a < i → vat (ev l inp i) a = x := by
      intro a x h h0 h1
      rw [hv] at h
      exact vat_pre h h0 (by first | omega | (simp only; omega))
    refine Yields.bif (fun d => ?_) (fun d => ?_)
    · have d' : k = 2 := by simpa using d
      subst d'
      refine Yields.at (by first | omega | (simp only; omega)) (by first | omega | (simp only; omega)) fun _ _ _ => ?_
      exact key _ _ (by simp [ex, isin]) (by simp [gval])
    have d2 : ¬ k = 2 := by simpa using d
    refine Yields.bif (fun d => ?_) (fun d => ?_)
    · have d' : k = 3 := by simpa using d
      subst d'
      have ex' : cntP isin l (i + 1) = cntP isin l i + 1 := by rw [ex]; simp [isin]
      refine Yields.at (by first | omega | (simp only; omega)) (by first | omega | (simp only; omega)) fun x hx _ => ?_
      refine Yields.at (by first | omega | (simp only; omega)) (by first | omega | (simp only; omega)) fun _ _ _ => ?_
      exact key _ _ (by rw [ex']; exact wrap_i1 (by first | omega | (simp only; omega))) (by simp [gval, vat_of hx])
    have d3 : ¬ k = 3 := by simpa using d
    have ex' : cntP isin l (i + 1) = cntP isin l i := by rw [ex]; simp [isin, d3]
    refine Yields.bif (fun d => ?_) (fun d => ?_)
    · have d' : k = 4 := by simpa using d
      subst d'
      refine Yields.at (by first | omega | (simp only; omega)) (by first | omega | (simp only; omega)) fun x hx _ => ?_
      refine Yields.at (by first | omega | (simp only; omega)) (by first | omega | (simp only; omega)) fun _ _ _ => ?_
      exact key _ _ (by rw [ex']) (by simp [gval, vp hx (by first | omega | (simp only; omega)) (by first | omega | (simp only; omega))])
    have d4 : ¬ k = 4 := by simpa using d
    refine Yields.bif (fun d => ?_) (fun d => ?_)
    · have d' : k = 5 := by simpa using d
      subst d'
      refine Yields.at (by first | omega | (simp only; omega)) (by first | omega | (simp only; omega)) fun x hx _ => ?_
      have ux := vp hx (by first | omega | (simp only; omega)) (by first | omega | (simp only; omega))
      refine Yields.bif (fun d => ?_) (fun d => ?_)
      · refine Yields.at (by first | omega | (simp only; omega)) (by first | omega | (simp only; omega)) fun z hz _ => ?_
        refine Yields.at (by first | omega | (simp only; omega)) (by first | omega | (simp only; omega)) fun _ _ _ => ?_
        exact key _ _ (by rw [ex']) (by simp [gval, ux, vp hz (by first | omega | (simp only; omega)) (by first | omega | (simp only; omega)), d])
      · refine Yields.at (by first | omega | (simp only; omega)) (by first | omega | (simp only; omega)) fun _ _ _ => ?_
        exact key _ _ (by rw [ex']) (by simp [gval, ux, d])
    have d5 : ¬ k = 5 := by simpa using d
    refine Yields.bif (fun d => ?_) (fun d => ?_)
    · have d' : k = 6 := by simpa using d
      subst d'
      refine Yields.at (by first | omega | (simp only; omega)) (by first | omega | (simp only; omega)) fun x hx _ => ?_
      have ux := vp hx (by first | omega | (simp only; omega)) (by first | omega | (simp only; omega))
      refine Yields.bif (fun d => ?_) (fun d => ?_)
      · refine Yields.at (by first | omega | (simp only; omega)) (by first | omega | (simp only; omega)) fun _ _ _ => ?_
        exact key _ _ (by rw [ex']) (by simp [gval, ux, d])
      · refine Yields.at (by first | omega | (simp only; omega)) (by first | omega | (simp only; omega)) fun z hz _ => ?_
        refine Yields.at (by first | omega | (simp only; omega)) (by first | omega | (simp only; omega)) fun _ _ _ => ?_
        exact key _ _ (by rw [ex']) (by simp [gval, ux, vp hz (by first | omega | (simp only; omega)) (by first | omega | (simp only; omega)), d])
    have d6 : ¬ k = 6 := by simpa using d
    refine Yields.bif (fun d => ?_) (fun d => ?_)
    · have d' : k = 7 := by simpa using d
      subst d'
      refine Yields.at (by first | omega | (simp only; omega)) (by first | omega | (simp only; omega)) fun x hx _ => ?_
      refine Yields.at (by first | omega | (simp only; omega)) (by first | omega | (simp only; omega)) fun z hz _ => ?_
      refine Yields.at (by first | omega | (simp only; omega)) (by first | omega | (simp only; omega)) fun _ _ _ => ?_
      exact key _ _ (by rw [ex']) (by simp [gval, vp hx (by first | omega | (simp only; omega)) (by first | omega | (simp only; omega)), vp hz (by first | omega | (simp only; omega)) (by first | omega | (simp only; omega))])
    have d7 : ¬ k = 7 := by simpa using d
    refine Yields.some ⟨c', by simp only; rw [ex'], hwi, ?_⟩
    have e0 : gval inp (cntP isin l i) (ev l inp i) (k, p, q) = false := by simp [gval, d2, d3, d4, d5, d6, d7]
    have e1 : l.length - i = (l.length - (i + 1)) + 1 := by omega
    simp only
    rw [es, hv, e0, e1, List.replicate_succ]
    simp
  · refine Yields.some ?_
    have : i = l.length := by simp at c; omega
    subst this
    show v = _
    rw [hv]; simp
end


theorem formed_iff {l : List (Int × Int × Int)} : formed l = true ↔ ∀ i y, l[i]? = some y → gok (i : Nat) y = true := by
  constructor
  · intro hf i y h; exact formed_at hf h
  · intro h
    unfold formed
    rw [List.all_eq_true]
    intro i hi
    have hlt := List.mem_range.1 hi
    rw [List.getElem?_eq_getElem hlt]
    exact h i _ (List.getElem?_eq_getElem hlt)
theorem formed_snoc {m : List (Int × Int × Int)} {z : Int × Int × Int} (h : formed m = true) (hz : gok m.length z = true) : formed (m ++ [z]) = true := by
  rw [formed_iff] at h ⊢
  intro i y hy
  rcases Nat.lt_or_ge i m.length with hlt | hge
  · rw [List.getElem?_append_left hlt] at hy; exact h i y hy
  · rw [List.getElem?_append_right hge] at hy
    obtain ⟨h1, h2⟩ := List.getElem?_eq_some_iff.1 hy
    simp at h1
    have : i = m.length := by omega
    subst this
    simp at h2; rw [← h2]; exact hz
theorem formed_take {m : List (Int × Int × Int)} (h : formed m = true) (k : Nat) : formed (m.take k) = true := by
  rw [formed_iff] at h ⊢
  intro i y hy
  rw [List.getElem?_take] at hy
  split at hy
  · exact h i y hy
  · cases hy
theorem made (l1 : List (Int × Int × Int)) (hl : l1.length ≤ 200) (hW : ∀ y ∈ l1, W59 y) : Yields (fun (m : List (Int × Int × Int)) => m.length = l1.length + 1 ∧ formed m = true) (F15 l1) := by
  unfold F15
  refine Yields.bind (P := fun (m : List (Int × Int × Int)) => m.length = l1.length + 1 ∧ formed m = true) (Yields.loop l1.length (fun i (z : Int × List (Int × Int × Int)) => z.1 = i ∧ z.2.length = i + 1 ∧ formed z.2 = true) ⟨rfl, rfl, by decide⟩ ?_) (fun m hm => Yields.some hm)
  rintro i ⟨a, m⟩ hi ⟨ha, hm, hk⟩
  simp only at ha hm hk ⊢
  subst ha
  unfold F15_s1
  refine Yields.bif (fun c => ?_) (fun c => ?_)
  · have c' : i < l1.length := by simpa using c
    refine Yields.at (by omega) (by omega) fun y hy hmem => ?_
    have hw := hW _ hmem
    obtain ⟨k, p, q⟩ := y
    have hk0 := wf_u8 hw.1
    have hp0 := wf_u8 hw.2.1
    have hq0 := wf_u8 hw.2.2.1
    simp only at hk0 hp0 hq0
    have hm7 : k.tmod 7 = k % 7 := Int.tmod_eq_emod_of_nonneg hk0.1
    have e1 : IntKind.i64.wrap (k % 7) = k % 7 := wrap_i64 (by omega) (by omega)
    have hw7 : IntKind.i64.wrap (1 + IntKind.i64.wrap (k.tmod 7)) = 1 + k % 7 := by rw [hm7, e1]; exact wrap_i64 (by omega) (by omega)
    have hok : ∀ z : Int × Int × Int, okApp (m.length + [z].length) 24 = true := fun z => ok_app (by simp; omega) (by simp; omega)
    have hlz : ((m.length : Int) == 0) = false := beq_eq_false_iff_ne.2 (by omega)
    have el : IntKind.i64.wrap ((m.length : Int) - 1) = (m.length : Int) - 1 := wrap_i64 (by omega) (by omega)
    have ab : ∀ x : Int, 0 ≤ x → x ≤ 255 → 0 ≤ IntKind.i64.wrap (IntKind.i64.wrap ((m.length : Int) - 1) - (IntKind.i64.wrap x).tmod (m.length : Int)) ∧ IntKind.i64.wrap (IntKind.i64.wrap ((m.length : Int) - 1) - (IntKind.i64.wrap x).tmod (m.length : Int)) < (m.length : Int) := by
      intro x h0 h1
      have ex : IntKind.i64.wrap x = x := wrap_i64 (by omega) (by omega)
      rw [ex, el, Int.tmod_eq_emod_of_nonneg h0]
      have g1 := Int.emod_nonneg x (show (m.length : Int) ≠ 0 by omega)
      have g2 := Int.emod_lt_of_pos x (show (0 : Int) < m.length by omega)
      rw [wrap_i64] <;> omega
    have pa : 0 ≤ F15__1 m (k, p, q) ∧ F15__1 m (k, p, q) < (m.length : Int) := ab p hp0.1 hp0.2
    have qa : 0 ≤ F15__2 m (k, p, q) ∧ F15__2 m (k, p, q) < (m.length : Int) := ab q hq0.1 hq0.2
    generalize F15__1 m (k, p, q) = A at pa ⊢
    generalize F15__2 m (k, p, q) = B at qa ⊢
    have key : ∀ z : Int × Int × Int, gok m.length z = true → Yields (Nx i l1.length (fun i (z : Int × List (Int × Int × Int)) => z.1 = i ∧ z.2.length = i + 1 ∧ formed z.2 = true) (fun (m : List (Int × Int × Int)) => m.length = l1.length + 1 ∧ formed m = true)) (some (.inl (IntKind.i64.wrap ((i : Int) + 1), m ++ [z]))) := by
      intro z hz
      refine Yields.some ⟨c', ?_, ?_, ?_⟩
      · exact wrap_i1 (by omega)
      · simp; omega
      · exact formed_snoc hk hz
    simp only [hok, hlz, hw7, Bool.not_true, cond_false]
    refine Yields.bif (fun c4 => ?_) (fun c4 => ?_)
    · have c4' : 1 + k % 7 ≥ 4 := by simpa using c4
      refine Yields.bif (fun c5 => ?_) (fun c5 => ?_)
      · have c5' : 1 + k % 7 ≥ 5 := by simpa using c5
        exact key _ (gok_iff.2 (by omega))
      · have c5' : ¬ (1 + k % 7 ≥ 5) := by simpa using c5
        exact key _ (gok_iff.2 (by omega))
    · have c4' : ¬ (1 + k % 7 ≥ 4) := by simpa using c4
      refine Yields.bif (fun c5 => ?_) (fun c5 => ?_)
      · have c5' : 1 + k % 7 ≥ 5 := by simpa using c5
        omega
      · exact key _ (gok_iff.2 (by omega))
  · refine Yields.some ?_
    have : i = l1.length := by simp at c; omega
    exact ⟨by omega, hk⟩

theorem opened (m : List (Int × Int × Int)) (hm : m.length ≤ 300) (x : List Bool) (hx : x.length ≤ maxLen) : Yields (fun (r : List Bool) => r.length = cntP isin m m.length) (F19 m x) := by
  have hmm : m.length ≤ maxLen := by unfold maxLen; omega
  have hb := len_big hx
  have hle := cntP_le isin m m.length
  unfold F19
  refine Yields.bind (P := fun (r : List Bool) => r.length = cntP isin m m.length) (Yields.loop (cntP isin m m.length) (fun i (z : Int × List Bool) => z.1 = i ∧ z.2.length = i) ⟨rfl, rfl⟩ ?_) (fun m hm => Yields.some hm)
  rintro i ⟨a, r⟩ hi ⟨ha, hr⟩
  simp only at ha hr ⊢
  subst ha
  unfold F19_s1
  refine Yields.bindE (inputs m hmm) ?_
  have hok : ∀ z : Bool, okApp (r.length + [z].length) 1 = true := fun z => ok_app (by simp; omega) (by simp; omega)
  simp only [hok, Bool.not_true, cond_false]
  refine Yields.bif (fun c => ?_) (fun c => ?_)
  · have c' : i < cntP isin m m.length := by simpa using c
    refine Yields.bif (fun d => ?_) (fun d => ?_)
    · have d' : (x.length : Int) > 0 := by simp at d ⊢; omega
      have e : (if (1 : Int) > (x.length : Int) then (1 : Int) else (x.length : Int)) = (x.length : Int) := by rw [if_neg]; omega
      rw [e]
      have hz : ((x.length : Int) == 0) = false := beq_eq_false_iff_ne.2 (by omega)
      rw [hz]
      simp only [cond_false]
      have h0 : (0 : Int) ≤ (i : Int) := by omega
      rw [Int.tmod_eq_emod_of_nonneg h0]
      have g1 := Int.emod_nonneg (i : Int) (show (x.length : Int) ≠ 0 by omega)
      have g2 := Int.emod_lt_of_pos (i : Int) d'
      refine Yields.at g1 g2 fun y _ _ => ?_
      refine Yields.some ⟨c', wrap_i1 (by omega), ?_⟩
      simp; omega
    · refine Yields.some ⟨c', wrap_i1 (by omega), ?_⟩
      simp; omega
  · refine Yields.some ?_
    have : i = cntP isin m m.length := by simp at c; omega
    show r.length = _
    omega

theorem gval_congr {inp inp' : List Bool} {j : Int} {v : List Bool} {y : Int × Int × Int} (h : y.1 = 3 → vat inp' j = vat inp j) : gval inp' j v y = gval inp j v y := by
  unfold gval
  by_cases h3 : y.1 = 3
  · simp [h3, h h3]
  · simp [h3]
theorem cntP_take {α : Type} (p : α → Bool) (l : List α) {i k : Nat} (h : i ≤ k) : cntP p (l.take k) i = cntP p l i := by
  unfold cntP; rw [List.take_take, Nat.min_eq_left h]
theorem vat_take {v : List Bool} {n : Nat} {j : Nat} (h : j < n) : vat (v.take n) (j : Int) = vat v (j : Int) := by
  unfold vat; rw [List.getElem?_take]; simp [h]
theorem ev_take (m : List (Int × Int × Int)) (inp : List Bool) (k : Nat) : ∀ i, i ≤ k → ev (m.take k) (inp.take (cntP isin m k)) i = ev m inp i := by
  intro i
  induction i with
  | zero => intro _; rfl
  | succ i ih =>
    intro hi
    simp only [ev]
    rw [ih (by omega), List.getElem?_take, if_pos (by omega), cntP_take _ _ (by omega)]
    congr 2
    cases h : m[i]? with
    | none => rfl
    | some y =>
      simp only
      refine gval_congr fun h3 => vat_take ?_
      have e := cntP_succ isin m i y h
      have e2 : isin y = true := by simp [isin, h3]
      rw [e2, if_pos rfl] at e
      have := cntP_mono isin m (show i + 1 ≤ k by omega)
      omega
theorem ev_pre (l : List (Int × Int × Int)) (inp : List Bool) (i : Nat) : ∀ j, i ≤ j → ∃ w, ev l inp j = ev l inp i ++ w := by
  intro j
  induction j with
  | zero => intro h; have : i = 0 := by omega
            subst this; exact ⟨[], by simp⟩
  | succ j ih =>
    intro h
    rcases Nat.lt_or_ge j i with h1 | h1
    · have : i = j + 1 := by omega
      subst this; exact ⟨[], by simp⟩
    · obtain ⟨w, hw⟩ := ih h1
      refine ⟨w ++ [match l[j]? with | some y => gval inp (cntP isin l j) (ev l inp j) y | none => false], ?_⟩
      rw [← List.append_assoc, ← hw]; rfl

theorem local_law : Law Try.prog 7 10 [33, 27, 5] := by
  refine F7_law fun l x cut hl hW hx _ hc => Yields.eq ?_
  have hcut := wf_u8 hc
  unfold F7
  refine Yields.bif (fun c => Yields.some rfl) (fun c => ?_)
  have hn : l.length ≤ 200 := by simp at c; omega
  refine Yields.bind (made l hn hW) fun m ⟨hm, hf⟩ => ?_
  have hlz : ((m.length : Int) == 0) = false := beq_eq_false_iff_ne.2 (by omega)
  rw [hlz]
  simp only [cond_false]
  refine Yields.bind (opened m (by omega) x hx.1) fun inp hinp => ?_
  have hr : reachBytes = 140737488351232 := rfl
  refine Yields.bind (evalE m inp (by omega) hf (by omega)) ?_
  rintro _ rfl
  have ec : IntKind.i64.wrap cut = cut := wrap_i64 (by omega) (by omega)
  have hk : ∃ k : Nat, IntKind.i64.wrap (1 + (IntKind.i64.wrap cut).tmod (m.length : Int)) = (k : Int) ∧ 1 ≤ k ∧ k ≤ m.length := by
    rw [ec, Int.tmod_eq_emod_of_nonneg hcut.1]
    have g1 := Int.emod_nonneg cut (show (m.length : Int) ≠ 0 by omega)
    have g2 := Int.emod_lt_of_pos cut (show (0 : Int) < m.length by omega)
    refine ⟨(1 + cut % (m.length : Int)).toNat, ?_, ?_, ?_⟩
    · rw [wrap_i64] <;> omega
    · omega
    · omega
  obtain ⟨k, ek, hk1, hk2⟩ := hk
  unfold F7__1
  rw [ek]
  have s1 : subOk (0 : Int) (k : Int) m.length = true := subOk_iff.2 ⟨by omega, by omega, by omega⟩
  rw [s1]
  simp only [Bool.not_true, cond_false]
  have es : subL m (0 : Int) (k : Int) = m.take k := by simp [subL]
  rw [es]
  have lk : (m.take k).length = k := by simp; omega
  have hkm : (m.take k).length ≤ maxLen := by unfold maxLen; omega
  refine Yields.bindE (inputs (m.take k) hkm) ?_
  rw [lk, cntP_take isin m (Nat.le_refl k)]
  have hmono := cntP_mono isin m hk2
  have s2 : subOk (0 : Int) (cntP isin m k : Int) inp.length = true := subOk_iff.2 ⟨by omega, by omega, by omega⟩
  rw [s2]
  simp only [Bool.not_true, cond_false]
  have es2 : subL inp (0 : Int) (cntP isin m k : Int) = inp.take (cntP isin m k) := by simp [subL]
  rw [es2]
  refine Yields.bind (evalE (m.take k) (inp.take (cntP isin m k)) (by omega) (formed_take hf k) (by rw [lk, cntP_take isin m (Nat.le_refl k)]; simp; omega)) ?_
  rintro _ rfl
  have l1 := ev_len m inp m.length
  have l2 := ev_len (m.take k) (inp.take (cntP isin m k)) (m.take k).length
  rw [ev_take m inp k _ (by omega)] at l2 ⊢
  rw [lk] at l2 ⊢
  simp only [l1, l2, bne_self_eq_false, cond_false]
  obtain ⟨w, hw⟩ := ev_pre m inp k m.length hk2
  refine Yields.bind (P := fun t => t = 1) (Yields.loop k (fun i (z : Int) => z = (i : Int)) rfl ?_) (by rintro _ rfl; exact Yields.some rfl)
  rintro i _ hi rfl
  unfold F7_s1
  simp only
  refine Yields.bif (fun c => ?_) (fun c => ?_)
  · have c' : i < k := by simp at c; omega
    refine Yields.at (by omega) (by omega) fun x hx _ => ?_
    refine Yields.at (by omega) (by omega) fun x' hx' _ => ?_
    rw [hw, List.getElem?_append_left (by omega), hx'] at hx
    cases hx
    simp only [beq_self_eq_true, Bool.not_true, cond_false]
    exact Yields.some ⟨c', wrap_i1 (by omega)⟩
  · exact Yields.some rfl
end Go.Proofs.Ytdoafmfkbddmlaa.Abs
