/- The laws of gates, on lists. -/
import Derived.Test.YtdoafmfkbddmlaaVw
import Derived.Test.YtdoafmfkbddmlaaGe
namespace Go.Proofs.Ytdoafmfkbddmlaa.Abs
open Go
set_option linter.unusedVariables false
set_option linter.unusedSimpArgs false

/-- What holds of a gate at an index. -/
def gok (i : Int) (y : Int × Int × Int) : Bool :=
  decide (1 ≤ y.1) && decide (y.1 ≤ 7) && (decide (4 ≤ y.1) || y.2.1 == 0) && (decide (5 ≤ y.1) || y.2.2 == 0) && (decide (y.1 < 4) || (decide (0 ≤ y.2.1) && decide (y.2.1 < i))) && (decide (y.1 < 5) || (decide (0 ≤ y.2.2) && decide (y.2.2 < i)))
theorem gok_iff {i a b c : Int} : gok i (a, b, c) = true ↔ (1 ≤ a ∧ a ≤ 7 ∧ (4 ≤ a ∨ b = 0) ∧ (5 ≤ a ∨ c = 0) ∧ (a < 4 ∨ (0 ≤ b ∧ b < i)) ∧ (a < 5 ∨ (0 ≤ c ∧ c < i))) := by
  simp [gok, and_assoc]
theorem F10_step (l : List (Int × Int × Int)) (i : Nat) (y : Int × Int × Int) (h : l[i]? = some y) : F10_s1 l i = if gok i y then some (.inl (IntKind.i64.wrap (i + 1))) else some (.inr 0) := by
  have hi : (i : Int) < l.length := by have := (List.getElem?_eq_some_iff.1 h).1; omega
  obtain ⟨a, b, c⟩ := y
  unfold F10_s1
  rw [at?_nat, h]
  simp only [Option.bind_some, hi, decide_true, cond_true]
  by_cases hg : gok i (a, b, c) = true
  · rw [if_pos hg]
    rw [gok_iff] at hg
    repeat' refine bif_elim (fun _ => ?_) (fun _ => ?_)
    all_goals first | rfl | (exfalso; simp only [decide_eq_true_eq, decide_eq_false_iff_not, bne_iff_ne, bne_eq_false_iff_eq] at *; omega)
  · rw [if_neg hg]
    rw [gok_iff] at hg
    repeat' refine bif_elim (fun _ => ?_) (fun _ => ?_)
    all_goals first | rfl | (exfalso; simp only [decide_eq_true_eq, decide_eq_false_iff_not, bne_iff_ne, bne_eq_false_iff_eq] at *; omega)
theorem F11_step (l : List (Int × Int × Int)) (i : Nat) (y : Int × Int × Int) (h : l[i]? = some y) : F11_s1 l i = if gok i y then some (.inl (IntKind.i64.wrap (i + 1))) else some (.inr 0) := by
  have hi : (i : Int) < l.length := by have := (List.getElem?_eq_some_iff.1 h).1; omega
  obtain ⟨a, b, c⟩ := y
  have hF : (F23 a = 0 ∧ 1 ≤ a ∧ a ≤ 3) ∨ (F23 a = 1 ∧ a = 4) ∨ (F23 a = 2 ∧ 5 ≤ a ∧ a ≤ 7) ∨ (F23 a = -1 ∧ (a < 1 ∨ a > 7)) := by
    unfold F23; simp only [Bool.cond_eq_ite, beq_iff_eq]; (repeat' split) <;> omega
  unfold F11_s1
  rw [at?_nat, h]
  simp only [Option.bind_some, hi, decide_true, cond_true]
  generalize F23 a = v at *
  by_cases hg : gok i (a, b, c) = true
  · rw [if_pos hg]
    rw [gok_iff] at hg
    repeat' refine bif_elim (fun _ => ?_) (fun _ => ?_)
    all_goals first | rfl | (exfalso; simp only [decide_eq_true_eq, decide_eq_false_iff_not, bne_iff_ne, bne_eq_false_iff_eq, beq_iff_eq, beq_eq_false_iff_ne, Bool.not_eq_true', Bool.not_eq_false', ne_eq] at *; omega)
  · rw [if_neg hg]
    rw [gok_iff] at hg
    repeat' refine bif_elim (fun _ => ?_) (fun _ => ?_)
    all_goals first | rfl | (exfalso; simp only [decide_eq_true_eq, decide_eq_false_iff_not, bne_iff_ne, bne_eq_false_iff_eq, beq_iff_eq, beq_eq_false_iff_ne, Bool.not_eq_true', Bool.not_eq_false', ne_eq] at *; omega)
def formed (l : List (Int × Int × Int)) : Bool := (List.range l.length).all fun i => match l[i]? with | some y => gok i y | none => false
theorem F10_eq (l : List (Int × Int × Int)) (hl : l.length ≤ maxLen) : F10 l = some (formed l) := by
  unfold F10
  rw [loop_forall (n := l.length) hl (fun i => match l[i]? with | some y => gok i y | none => false) (by
    intro i hi
    have h : l[i]? = some l[i] := List.getElem?_eq_getElem hi
    rw [F10_step l i _ h]; simp only [h]) (by unfold F10_s1; simp)]
  simp only [Option.bind_some, formed]
  generalize (List.range l.length).all _ = q
  cases q <;> rfl
theorem F11_eq (l : List (Int × Int × Int)) (hl : l.length ≤ maxLen) : F11 l = some (bif formed l then 0 else 3) := by
  unfold F11
  rw [loop_forall (n := l.length) hl (fun i => match l[i]? with | some y => gok i y | none => false) (by
    intro i hi
    have h : l[i]? = some l[i] := List.getElem?_eq_getElem hi
    rw [F11_step l i _ h]; simp only [h]) (by unfold F11_s1; simp)]
  simp only [Option.bind_some, formed]
  generalize (List.range l.length).all _ = q
  cases q <;> rfl

theorem formed_at {l : List (Int × Int × Int)} (hf : formed l = true) {i : Nat} {y : Int × Int × Int} (h : l[i]? = some y) : gok i y = true := by
  unfold formed at hf
  rw [List.all_eq_true] at hf
  have hi := (List.getElem?_eq_some_iff.1 h).1
  have := hf i (List.mem_range.2 hi)
  rw [h] at this; exact this
def isin (y : Int × Int × Int) : Bool := y.1 == 3
theorem inputs (l : List (Int × Int × Int)) (hl : l.length ≤ maxLen) : F13 l = some (cntP isin l l.length : Int) := by
  have hb := len_big hl
  refine Yields.eq ?_
  unfold F13
  refine Yields.bind (P := fun t => t = (cntP isin l l.length : Int)) (Yields.loop l.length (fun i (z : Int × Int) => z.2 = i ∧ z.1 = (cntP isin l i : Int)) ⟨rfl, rfl⟩ ?_) (fun y h => Yields.some h)
  rintro i ⟨s, a⟩ hi ⟨ha, hb⟩
  simp only at ha hb ⊢
  subst ha; subst hb
  have hle := cntP_le isin l i
  unfold F13_s1
  refine Yields.bif (fun c => ?_) (fun c => ?_)
  · have c' : i < l.length := by simpa using c
    refine Yields.at (by omega) (by omega) fun y hy hmem => ?_
    have ex := cntP_succ isin l i _ (at_nat hy)
    refine Yields.bif (fun d => ?_) (fun d => ?_)
    · have : isin y = true := d
      rw [this, if_pos rfl] at ex
      refine Yields.some ⟨c', ?_, ?_⟩
      · exact wrap_i1 (by omega)
      · simp only; rw [wrap_i64] <;> omega
    · have : isin y = false := d
      rw [this, if_neg (by simp)] at ex
      refine Yields.some ⟨c', ?_, ?_⟩
      · exact wrap_i1 (by omega)
      · simp only; omega
  · refine Yields.some ?_
    have : i = l.length := by simp at c; omega
    subst this
    rfl
theorem inputs' (l : List (Int × Int × Int)) (hl : l.length ≤ maxLen) : F27 l = some (cntP isin l l.length : Int) := inputs l hl

def vat (v : List Bool) (a : Int) : Bool := v[a.toNat]?.getD false
def gval (inp : List Bool) (j : Int) (v : List Bool) (y : Int × Int × Int) : Bool :=
  if y.1 = 2 then true else if y.1 = 3 then vat inp j else if y.1 = 4 then !(vat v y.2.1) else if y.1 = 5 then vat v y.2.1 && vat v y.2.2 else if y.1 = 6 then vat v y.2.1 || vat v y.2.2 else if y.1 = 7 then !(vat v y.2.1 == vat v y.2.2) else false
def ev (l : List (Int × Int × Int)) (inp : List Bool) : Nat → List Bool
  | 0 => []
  | i + 1 => ev l inp i ++ [match l[i]? with | some y => gval inp (cntP isin l i) (ev l inp i) y | none => false]
theorem ev_len (l : List (Int × Int × Int)) (inp : List Bool) (i : Nat) : (ev l inp i).length = i := by
  induction i with
  | zero => rfl
  | succ i ih => simp [ev, ih]
theorem ev_succ {l : List (Int × Int × Int)} {inp : List Bool} {i : Nat} {y : Int × Int × Int} (h : l[i]? = some y) : ev l inp (i + 1) = ev l inp i ++ [gval inp (cntP isin l i) (ev l inp i) y] := by
  simp only [ev, h]
theorem vat_of {v : List Bool} {a : Int} {x : Bool} (h : v[a.toNat]? = some x) : vat v a = x := by simp [vat, h]
theorem vat_pre {v w : List Bool} {a : Int} {x : Bool} (h : (v ++ w)[a.toNat]? = some x) (h0 : 0 ≤ a) (h1 : a < v.length) : vat v a = x := by
  rw [List.getElem?_append_left (by omega)] at h; exact vat_of h
theorem updE {n i : Nat} (h : i < n) {v : List Bool} (hv : v.length = i) (x : Bool) : setI (v ++ List.replicate (n - i) false) i x = (v ++ [x]) ++ List.replicate (n - (i + 1)) false := by
  obtain ⟨m, rfl⟩ : ∃ m, n = i + 1 + m := ⟨n - (i + 1), by omega⟩
  have e1 : i + 1 + m - i = m + 1 := by omega
  have e2 : i + 1 + m - (i + 1) = m := by omega
  subst hv
  simp [setI, e1, e2, List.replicate_succ]
theorem cntP_mono {α : Type} (p : α → Bool) (l : List α) {i j : Nat} (h : i ≤ j) : cntP p l i ≤ cntP p l j := by
  unfold cntP
  have : (l.take i).Sublist (l.take j) := List.take_sublist_take_left h
  exact this.countP_le

section
variable (l : List (Int × Int × Int)) (inp : List Bool) (hl : l.length * 24 ≤ reachBytes) (hf : formed l = true) (hin : (inp.length : Int) = (cntP isin l l.length : Int))
include hl hf hin
theorem evalR : Yields (fun (m : List Bool) => m = ev l inp l.length) (F14 l inp) := by
  have hr : l.length * 24 ≤ 140737488351232 := hl
  unfold F14
  refine Yields.bind (P := fun m => m = ev l inp l.length) (Yields.loop l.length (fun i (z : Int × Int × List Bool) => z.1 = (cntP isin l i : Int) ∧ z.2.1 = i ∧ z.2.2 = ev l inp i) ⟨rfl, rfl, rfl⟩ ?_) (fun y h => Yields.some h)
  rintro i ⟨j, a, v⟩ hi ⟨hj, ha, hv⟩
  simp only at hj ha hv ⊢
  subst hj; subst ha
  have hlen : v.length = i := by rw [hv]; exact ev_len l inp i
  have hle := cntP_le isin l i
  unfold F14_s1
  refine Yields.bif (fun c => ?_) (fun c => ?_)
  · have c' : i < l.length := by simpa using c
    refine Yields.at (by first | omega | (simp only; omega)) (by first | omega | (simp only; omega)) fun y hy hmem => ?_
    have hy' := at_nat hy
    have es := ev_succ (inp := inp) hy'
    have ex := cntP_succ isin l i _ hy'
    have hm := cntP_mono isin l (show i + 1 ≤ l.length by omega)
    have hg := formed_at hf hy'
    obtain ⟨k, p, q⟩ := y
    rw [gok_iff] at hg
    obtain ⟨g1, g2, g3, g4, g5, g6⟩ := hg
    have hok : ∀ z : Bool, okApp (v.length + [z].length) 1 = true := fun z => ok_app (by simp; omega) (by simp; omega)
    have key : ∀ (b : Bool) (j' : Int), j' = (cntP isin l (i + 1) : Int) → b = gval inp (cntP isin l i) v (k, p, q) → Yields (Nx i l.length (fun i (z : Int × Int × List Bool) => z.1 = (cntP isin l i : Int) ∧ z.2.1 = i ∧ z.2.2 = ev l inp i) (fun m => m = ev l inp l.length)) (some (.inl (j', IntKind.i64.wrap ((i : Int) + 1), v ++ [b]))) := by
      intro b j' hj hb
      refine Yields.some ⟨c', hj, ?_, ?_⟩
      · exact wrap_i1 (by first | omega | (simp only; omega))
      · simp only; rw [es, hb, hv]
    simp only [hok, Bool.not_true, cond_false]
    refine Yields.bif (fun d => ?_) (fun d => ?_)
    · have d' : k = 2 := by simpa using d
      subst d'
      exact key _ _ (by simp [ex, isin]) (by simp [gval])
    have d2 : ¬ k = 2 := by simpa using d
    refine Yields.bif (fun d => ?_) (fun d => ?_)
    · have d' : k = 3 := by simpa using d
      subst d'
      have ex' : cntP isin l (i + 1) = cntP isin l i + 1 := by rw [ex]; simp [isin]
      refine Yields.at (by first | omega | (simp only; omega)) (by first | omega | (simp only; omega)) fun x hx _ => ?_
      exact key _ _ (by rw [ex']; exact wrap_i1 (by first | omega | (simp only; omega))) (by simp [gval, vat_of hx])
    have d3 : ¬ k = 3 := by simpa using d
    have ex' : cntP isin l (i + 1) = cntP isin l i := by rw [ex]; simp [isin, d3]
    refine Yields.bif (fun d => ?_) (fun d => ?_)
    · have d' : k = 4 := by simpa using d
      subst d'
      refine Yields.at (by first | omega | (simp only; omega)) (by first | omega | (simp only; omega)) fun x hx _ => ?_
      exact key _ _ (by rw [ex']) (by simp [gval, vat_of hx])
    have d4 : ¬ k = 4 := by simpa using d
    refine Yields.bif (fun d => ?_) (fun d => ?_)
    · have d' : k = 5 := by simpa using d
      subst d'
      refine Yields.at (by first | omega | (simp only; omega)) (by first | omega | (simp only; omega)) fun x hx _ => ?_
      refine Yields.bif (fun d => ?_) (fun d => ?_)
      · refine Yields.at (by first | omega | (simp only; omega)) (by first | omega | (simp only; omega)) fun z hz _ => ?_
        exact key _ _ (by rw [ex']) (by simp [gval, vat_of hx, vat_of hz, d])
      · exact key _ _ (by rw [ex']) (by simp [gval, vat_of hx, d])
    have d5 : ¬ k = 5 := by simpa using d
    refine Yields.bif (fun d => ?_) (fun d => ?_)
    · have d' : k = 6 := by simpa using d
      subst d'
      refine Yields.at (by first | omega | (simp only; omega)) (by first | omega | (simp only; omega)) fun x hx _ => ?_
      refine Yields.bif (fun d => ?_) (fun d => ?_)
      · exact key _ _ (by rw [ex']) (by simp [gval, vat_of hx, d])
      · refine Yields.at (by first | omega | (simp only; omega)) (by first | omega | (simp only; omega)) fun z hz _ => ?_
        exact key _ _ (by rw [ex']) (by simp [gval, vat_of hx, vat_of hz, d])
    have d6 : ¬ k = 6 := by simpa using d
    refine Yields.bif (fun d => ?_) (fun d => ?_)
    · have d' : k = 7 := by simpa using d
      subst d'
      refine Yields.at (by first | omega | (simp only; omega)) (by first | omega | (simp only; omega)) fun x hx _ => ?_
      refine Yields.at (by first | omega | (simp only; omega)) (by first | omega | (simp only; omega)) fun z hz _ => ?_
      exact key _ _ (by rw [ex']) (by simp [gval, vat_of hx, vat_of hz])
    have d7 : ¬ k = 7 := by simpa using d
    exact key _ _ (by rw [ex']) (by simp [gval, d2, d3, d4, d5, d6, d7])
  · refine Yields.some ?_
    have : i = l.length := by simp at c; omega
    subst this
    exact hv
theorem evalE : Yields (fun (m : List Bool × Int) => m = (ev l inp l.length, 0)) (F12 l inp) := by
  have hr : l.length * 24 ≤ 140737488351232 := hl
  have hM : l.length ≤ maxLen := by unfold maxLen; omega
  unfold F12
  have h24 : F24 l (inp.length : Int) = some 0 := by
    unfold F24
    rw [F11_eq l hM, hf]
    simp only [Option.bind_some, cond_true]
    rw [inputs' l hM, hin]
    simp
  refine Yields.bindE h24 ?_
  rw [ok_len (by first | omega | (simp only; omega)) (by first | omega | (simp only; omega))]
  simp only [Bool.not_true, cond_false, bne_self_eq_false]
  refine Yields.bind (P := fun m => m = ev l inp l.length) (Yields.loop l.length (fun i (z : Int × Int × List Bool) => z.1 = (cntP isin l i : Int) ∧ z.2.1 = i ∧ z.2.2 = ev l inp i ++ List.replicate (l.length - i) false) ⟨rfl, rfl, by simp [ev]⟩ ?_) (fun y h => Yields.some (by rw [h]))
  rintro i ⟨j, a, v⟩ hi ⟨hj, ha, hv⟩
  simp only at hj ha hv ⊢
  subst hj; subst ha
  have hel : (ev l inp i).length = i := ev_len l inp i
  have hlen : v.length = l.length := by rw [hv]; simp [hel]; omega
  have hle := cntP_le isin l i
  unfold F12_s1
  refine Yields.bif (fun c => ?_) (fun c => ?_)
  · have c' : i < l.length := by simpa using c
    refine Yields.at (by first | omega | (simp only; omega)) (by first | omega | (simp only; omega)) fun y hy hmem => ?_
    have hy' := at_nat hy
    have es := ev_succ (inp := inp) hy'
    have ex := cntP_succ isin l i _ hy'
    have hm := cntP_mono isin l (show i + 1 ≤ l.length by omega)
    have hg := formed_at hf hy'
    obtain ⟨k, p, q⟩ := y
    rw [gok_iff] at hg
    obtain ⟨g1, g2, g3, g4, g5, g6⟩ := hg
    have hwi : IntKind.i64.wrap ((i : Int) + 1) = ((i + 1 : Nat) : Int) := wrap_i1 (by first | omega | (simp only; omega))
    have key : ∀ (b : Bool) (j' : Int), j' = (cntP isin l (i + 1) : Int) → b = gval inp (cntP isin l i) (ev l inp i) (k, p, q) → Yields (Nx i l.length (fun i (z : Int × Int × List Bool) => z.1 = (cntP isin l i : Int) ∧ z.2.1 = i ∧ z.2.2 = ev l inp i ++ List.replicate (l.length - i) false) (fun m => m = ev l inp l.length)) (some (.inl (j', IntKind.i64.wrap ((i : Int) + 1), setI v i b))) := by
      intro b j' hj hb
      refine Yields.some ⟨c', hj, hwi, ?_⟩
      simp only; rw [es, hv, updE c' hel, hb]
    have vp : ∀ {a : Int} {x : Bool}, v[a.toNat]? = some x → 0 ≤ a → a < i → vat (ev l inp i) a = x := by
      intro a x h h0 h1
      rw [hv] at h
      exact vat_pre h h0 (by first | omega | (simp only; omega))
    refine Yields.bif (fun d => ?_) (fun d => ?_)
    · have d' : k = 2 := by simpa using d
      subst d'
      refine Yields.at (by first | omega | (simp only; omega)) (by first | omega | (simp only; omega)) fun _ _ _ => ?_
      exact key _ _ (by simp [ex, isin]) (by simp [gval])
    have d2 : ¬ k = 2 := by simpa using d
    refine Yields.bif (fun d => ?_) (fun d => ?_)
    · have d' : k = 3 := by simpa using d
      subst d'
      have ex' : cntP isin l (i + 1) = cntP isin l i + 1 := by rw [ex]; simp [isin]
      refine Yields.at (by first | omega | (simp only; omega)) (by first | omega | (simp only; omega)) fun x hx _ => ?_
      refine Yields.at (by first | omega | (simp only; omega)) (by first | omega | (simp only; omega)) fun _ _ _ => ?_
      exact key _ _ (by rw [ex']; exact wrap_i1 (by first | omega | (simp only; omega))) (by simp [gval, vat_of hx])
    have d3 : ¬ k = 3 := by simpa using d
    have ex' : cntP isin l (i + 1) = cntP isin l i := by rw [ex]; simp [isin, d3]
    refine Yields.bif (fun d => ?_) (fun d => ?_)
    · have d' : k = 4 := by simpa using d
      subst d'
      refine Yields.at (by first | omega | (simp only; omega)) (by first | omega | (simp only; omega)) fun x hx _ => ?_
      refine Yields.at (by first | omega | (simp only; omega)) (by first | omega | (simp only; omega)) fun _ _ _ => ?_
      exact key _ _ (by rw [ex']) (by simp [gval, vp hx (by first | omega | (simp only; omega)) (by first | omega | (simp only; omega))])
    have d4 : ¬ k = 4 := by simpa using d
    refine Yields.bif (fun d => ?_) (fun d => ?_)
    · have d' : k = 5 := by simpa using d
      subst d'
      refine Yields.at (by first | omega | (simp only; omega)) (by first | omega | (simp only; omega)) fun x hx _ => ?_
      have ux := vp hx (by first | omega | (simp only; omega)) (by first | omega | (simp only; omega))
      refine Yields.bif (fun d => ?_) (fun d => ?_)
      · refine Yields.at (by first | omega | (simp only; omega)) (by first | omega | (simp only; omega)) fun z hz _ => ?_
        refine Yields.at (by first | omega | (simp only; omega)) (by first | omega | (simp only; omega)) fun _ _ _ => ?_
        exact key _ _ (by rw [ex']) (by simp [gval, ux, vp hz (by first | omega | (simp only; omega)) (by first | omega | (simp only; omega)), d])
      · refine Yields.at (by first | omega | (simp only; omega)) (by first | omega | (simp only; omega)) fun _ _ _ => ?_
        exact key _ _ (by rw [ex']) (by simp [gval, ux, d])
    have d5 : ¬ k = 5 := by simpa using d
    refine Yields.bif (fun d => ?_) (fun d => ?_)
    · have d' : k = 6 := by simpa using d
      subst d'
      refine Yields.at (by first | omega | (simp only; omega)) (by first | omega | (simp only; omega)) fun x hx _ => ?_
      have ux := vp hx (by first | omega | (simp only; omega)) (by first | omega | (simp only; omega))
      refine Yields.bif (fun d => ?_) (fun d => ?_)
      · refine Yields.at (by first | omega | (simp only; omega)) (by first | omega | (simp only; omega)) fun _ _ _ => ?_
        exact key _ _ (by rw [ex']) (by simp [gval, ux, d])
      · refine Yields.at (by first | omega | (simp only; omega)) (by first | omega | (simp only; omega)) fun z hz _ => ?_
        refine Yields.at (by first | omega | (simp only; omega)) (by first | omega | (simp only; omega)) fun _ _ _ => ?_
        exact key _ _ (by rw [ex']) (by simp [gval, ux, vp hz (by first | omega | (simp only; omega)) (by first | omega | (simp only; omega)), d])
    have d6 : ¬ k = 6 := by simpa using d
    refine Yields.bif (fun d => ?_) (fun d => ?_)
    · have d' : k = 7 := by simpa using d
      subst d'
      refine Yields.at (by first | omega | (simp only; omega)) (by first | omega | (simp only; omega)) fun x hx _ => ?_
      refine Yields.at (by first | omega | (simp only; omega)) (by first | omega | (simp only; omega)) fun z hz _ => ?_
      refine Yields.at (by first | omega | (simp only; omega)) (by first | omega | (simp only; omega)) fun _ _ _ => ?_
      exact key _ _ (by rw [ex']) (by simp [gval, vp hx (by first | omega | (simp only; omega)) (by first | omega | (simp only; omega)), vp hz (by first | omega | (simp only; omega)) (by first | omega | (simp only; omega))])
    have d7 : ¬ k = 7 := by simpa using d
    refine Yields.some ⟨c', by simp only; rw [ex'], hwi, ?_⟩
    have e0 : gval inp (cntP isin l i) (ev l inp i) (k, p, q) = false := by simp [gval, d2, d3, d4, d5, d6, d7]
    have e1 : l.length - i = (l.length - (i + 1)) + 1 := by omega
    simp only
    rw [es, hv, e0, e1, List.replicate_succ]
    simp
  · refine Yields.some ?_
    have : i = l.length := by simp at c; omega
    subst this
    show v = _
    rw [hv]; simp
end

theorem eval_law : Law Try.prog 4 10 [22, 27] := by
  refine F4_law fun l inp hl _ hi _ => Yields.eq ?_
  unfold F4
  by_cases hf : formed l = true
  · by_cases hin : (inp.length : Int) = (cntP isin l l.length : Int)
    · refine Yields.bind (evalE l inp hl.2 hf hin) ?_
      rintro _ rfl
      rw [F10_eq l hl.1, hf]
      refine Yields.bindE rfl ?_
      simp only [Bool.not_true, cond_false]
      refine Yields.bindE (inputs l hl.1) ?_
      rw [hin]
      simp only [bne_self_eq_false, cond_false]
      refine Yields.bind (evalR l inp hl.2 hf hin) ?_
      rintro _ rfl
      simp only [bne_self_eq_false, cond_false]
      have hel := ev_len l inp l.length
      have hr : l.length * 24 ≤ 140737488351232 := hl.2
      refine Yields.bind (P := fun t => t = 1) (Yields.loop l.length (fun i (z : Int) => z = (i : Int)) rfl ?_) (by rintro _ rfl; exact Yields.some rfl)
      rintro i _ hi rfl
      unfold F4_s1
      refine Yields.bif (fun c => ?_) (fun c => ?_)
      · have c' : i < l.length := by simp at c; omega
        refine Yields.at (by first | omega | (simp only; omega)) (by first | omega | (simp only; omega)) fun x hx _ => ?_
        refine Yields.at (by first | omega | (simp only; omega)) (by first | omega | (simp only; omega)) fun x' hx' _ => ?_
        simp only at hx hx'
        rw [hx] at hx'; cases hx'
        simp only [beq_self_eq_true, Bool.not_true, cond_false]
        refine Yields.some ⟨c', ?_⟩
        exact wrap_i1 (by first | omega | (simp only; omega))
      · exact Yields.some rfl
    · have h24 : F24 l (inp.length : Int) = some 1 := by
        unfold F24
        rw [F11_eq l hl.1, hf]
        simp only [Option.bind_some, cond_true]
        rw [inputs' l hl.1]
        have : ((cntP isin l l.length : Int) != (inp.length : Int)) = true := by simp; omega
        simp [this]
      unfold F12
      rw [h24]
      refine Yields.bindE (y := ([], 1)) rfl ?_
      rw [F10_eq l hl.1, hf]
      refine Yields.bindE rfl ?_
      simp only [Bool.not_true, cond_false]
      refine Yields.bindE (inputs l hl.1) ?_
      have : ((inp.length : Int) != (cntP isin l l.length : Int)) = true := by simp; omega
      rw [this]
      exact Yields.some rfl
  · have hf' : formed l = false := by simpa using hf
    have h24 : F24 l (inp.length : Int) = some 3 := by
      unfold F24
      rw [F11_eq l hl.1, hf']
      rfl
    unfold F12
    rw [h24]
    refine Yields.bindE (y := ([], 3)) rfl ?_
    rw [F10_eq l hl.1, hf']
    exact Yields.bindE rfl (Yields.some rfl)
end Go.Proofs.Ytdoafmfkbddmlaa.Abs
