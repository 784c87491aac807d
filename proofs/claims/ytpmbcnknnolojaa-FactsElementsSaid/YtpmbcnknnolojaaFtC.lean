/- Ranges and known bits: what is valid, and what tightening yields, in the program and in the reference. -/
import Derived.Test.YtpmbcnknnolojaaFtB
namespace Go.Proofs.Ytpmbcnknnolojaa.Abs
open Go
set_option linter.unusedVariables false
set_option linter.unusedSimpArgs false

/-! Ranges. -/
structure IVal (W : Nat) (a b c d : Int) : Prop where
  ab : a ≤ b
  bm : b ≤ nv (mk W)
  c0 : -((2 ^ (W - 1) : Nat) : Int) ≤ c
  cd : c ≤ d
  d1 : d ≤ ((2 ^ (W - 1) : Nat) : Int) - 1
theorem ival_prog {W : Nat} (h : Wid W) (a b c d : Int) : ∃ v : Bool, F58 (W : Int) a b c d = some v ∧ (v = true ↔ IVal W a b c d) := by
  have h1 := h.one
  have h2 := h.top
  have key : Yields (fun v : Bool => v = true ↔ IVal W a b c d) (F58 (W : Int) a b c d) := by
    unfold F58
    refine Yields.bif (fun _ => ?_) (fun hc => ?_)
    · refine Yields.bif (fun q1 => ?_) (fun q1 => ?_)
      · refine Yields.bindE (mask_ok h2) (Yields.bif (fun q2 => ?_) (fun q2 => ?_))
        · refine Yields.bindE (least_ok h) (Yields.bif (fun q3 => Yields.bif (fun q4 => ?_) (fun q4 => ?_)) (fun q3 => ?_))
          · refine Yields.bindE (most_ok h) (Yields.some ?_)
            rw [decide_eq_true_iff]
            exact ⟨fun q5 => ⟨of_decide_eq_true q1, of_decide_eq_true q2, of_decide_eq_true q3, of_decide_eq_true q4, q5⟩, fun k => k.d1⟩
          · exact Yields.some ⟨fun k => (by cases k), fun k => absurd k.cd (of_decide_eq_false q4)⟩
          · exact Yields.some ⟨fun k => (by cases k), fun k => absurd k.c0 (of_decide_eq_false q3)⟩
        · exact Yields.some ⟨fun k => (by cases k), fun k => absurd k.bm (of_decide_eq_false q2)⟩
      · exact Yields.some ⟨fun k => (by cases k), fun k => absurd k.ab (of_decide_eq_false q1)⟩
    · have : F92 (W : Int) = true := by unfold F92; rw [decide_eq_true (by omega), cond_true]; exact decide_eq_true (by omega)
      rw [this] at hc; cases hc
  exact key
theorem ival_ref {W : Nat} (h : Wid W) (a b c d : Int) : ∃ v : Bool, F62 (W : Int) a b c d = some v ∧ (v = true ↔ IVal W a b c d) := by
  have h1 := h.one
  have h2 := h.top
  have key : Yields (fun v : Bool => v = true ↔ IVal W a b c d) (F62 (W : Int) a b c d) := by
    unfold F62
    refine Yields.bif (fun _ => Yields.bif (fun _ => ?_) (fun hc => absurd (of_decide_eq_false hc) (by omega))) (fun hc => absurd (of_decide_eq_false hc) (by omega))
    refine Yields.bif (fun q1 => ?_) (fun q1 => ?_)
    · refine Yields.bindE (umax_ok h2) (Yields.bif (fun q2 => ?_) (fun q2 => ?_))
      · refine Yields.bindE (smin_ok h) (Yields.bif (fun q3 => Yields.bif (fun q4 => ?_) (fun q4 => ?_)) (fun q3 => ?_))
        · refine Yields.bindE (smax_ok h) (Yields.some ?_)
          rw [decide_eq_true_iff]
          exact ⟨fun q5 => ⟨of_decide_eq_true q1, of_decide_eq_true q2, of_decide_eq_true q3, of_decide_eq_true q4, q5⟩, fun k => k.d1⟩
        · exact Yields.some ⟨fun k => (by cases k), fun k => absurd k.cd (of_decide_eq_false q4)⟩
        · exact Yields.some ⟨fun k => (by cases k), fun k => absurd k.c0 (of_decide_eq_false q3)⟩
      · exact Yields.some ⟨fun k => (by cases k), fun k => absurd k.bm (of_decide_eq_false q2)⟩
    · exact Yields.some ⟨fun k => (by cases k), fun k => absurd k.ab (of_decide_eq_false q1)⟩
  exact key

abbrev Rg := Int × Int × Int × Int × Bool
def fin (W : Nat) (a b : Int) : Rg := if a > b then (0, 0, 0, 0, false) else (a, b, sg W a, sg W b, true)
def imx (x y : Int) : Int := if y > x then y else x
def imn (x y : Int) : Int := if y < x then y else x
/-- Tightening. -/
def tgM (W : Nat) (a b c d : Int) : Rg :=
  if b ≤ ((2 ^ (W - 1) : Nat) : Int) - 1 ∨ 0 ≤ c then
    if d < 0 then (0, 0, 0, 0, false) else fin W (imx a (imx c 0)) (imn b d)
  else if ((2 ^ (W - 1) : Nat) : Int) - 1 < a ∨ d < 0 then
    fin W (imx (imx a (c % (2 ^ W : Nat))) ((2 ^ (W - 1) : Nat) : Int)) (if d < 0 then imn b (d % (2 ^ W : Nat)) else b)
  else (a, b, c, d, true)
def tgA (W : Nat) (v : Bool) (a b c d : Int) : Rg := bif v then tgM W a b c d else (0, 0, 0, 0, false)

theorem fin_prog {W : Nat} (h : Wid W) {a b : Int} (h0 : 0 ≤ a) (hb : b ≤ nv (mk W)) (hab : ¬ a > b) :
    F80 (W : Int) a = some (sg W a) ∧ F80 (W : Int) b = some (sg W b) := by
  have hm := nv_lt (mk W)
  obtain ⟨x, rfl⟩ := nv_ex h0 (by omega)
  obtain ⟨y, rfl⟩ := nv_ex (show 0 ≤ b by omega) (by omega)
  exact ⟨signed_ok h ((fits_mk h.top).2 (by omega)), signed_ok h ((fits_mk h.top).2 hb)⟩
theorem fin_ref {W : Nat} (h : Wid W) {a b : Int} (h0 : 0 ≤ a) (hb : b ≤ nv (mk W)) : F104 (W : Int) a b = some (fin W a b) := by
  have hm := nv_lt (mk W)
  unfold fin
  apply Yields.eq
  unfold F104
  refine Yields.bif (fun hc => ?_) (fun hc => ?_)
  · rw [if_pos (of_decide_eq_true hc)]; exact Yields.some rfl
  · have hc := of_decide_eq_false hc
    rw [if_neg hc]
    obtain ⟨x, rfl⟩ := nv_ex h0 (by omega)
    obtain ⟨y, rfl⟩ := nv_ex (show 0 ≤ b by omega) (by omega)
    refine Yields.bindE (rsigned_ok h ((fits_mk h.top).2 (by omega))) (Yields.bindE (rsigned_ok h ((fits_mk h.top).2 hb)) (Yields.some rfl))

theorem modp {W : Nat} (h : Wid W) {c : Int} (h0 : -((2 ^ (W - 1) : Nat) : Int) ≤ c) (h1 : c < 0) : c % (2 ^ W : Nat) = c + (2 ^ W : Nat) := by
  have hp := pw h
  have := hp.one
  have e := hp.eW
  rw [← Int.add_emod_right]
  exact Int.emod_eq_of_lt (by omega) (by omega)

theorem it_prog {W : Nat} (h : Wid W) {a b c d : Int} (ha : 0 ≤ a) (hb : 0 ≤ b) : ∃ v : Bool, (v = true ↔ IVal W a b c d) ∧ F81 (W : Int) a b c d = some (tgA W v a b c d) := by
  obtain ⟨v, e, hv⟩ := ival_prog h a b c d
  refine ⟨v, hv, ?_⟩
  apply Yields.eq
  unfold F81
  refine Yields.bindE e (Yields.bif (fun hc => ?_) (fun hc => ?_))
  · have : v = false := by simpa using hc
    subst this; exact Yields.some rfl
  have hvt : v = true := by simpa using hc
  subst hvt
  obtain ⟨ab, bm, c0, cd, d1⟩ := hv.1 rfl
  have hp := pw h
  obtain ⟨_, eW, p1, p2⟩ := hp
  have em := mk_nv h.top
  rw [eW] at em
  refine Yields.bindE (most_ok h) ?_
  show Yields (fun x => x = tgM W a b c d) _
  unfold tgM
  have mc := modp h (c := c) c0
  have md := modp h (c := d) (by omega)
  generalize hP : ((2 ^ (W - 1) : Nat) : Int) = p at *
  rw [eW] at mc md
  have e1 : IntKind.u64.wrap (p - 1) = p - 1 := by rw [wrap_u64] <;> omega
  have e2 : IntKind.u64.wrap (p - 1 + 1) = p := by rw [wrap_u64] <;> omega
  rw [e1]
  -- the first case, twice
  have first : ∀ (hd : ¬ d < 0) , Yields (fun x => x = fin W (imx a (imx c 0)) (imn b d)) (bif F81__2 a b c d then some (0, 0, 0, 0, false) else
      (F80 (W : Int) (F81__1 a c)).bind fun y14 => (F80 (W : Int) (if IntKind.u64.wrap d < b then IntKind.u64.wrap d else b)).bind fun y16 => some (F81__1 a c, (if IntKind.u64.wrap d < b then IntKind.u64.wrap d else b), y14, y16, true)) := by
    intro hd
    have k1 : F81__1 a c = imx a (imx c 0) := by
      unfold F81__1 imx
      rw [show IntKind.u64.wrap (if 0 > c then 0 else c) = if 0 > c then 0 else c by rw [wrap_u64] <;> split <;> omega]
    have k2 : (if IntKind.u64.wrap d < b then IntKind.u64.wrap d else b) = imn b d := by
      rw [show IntKind.u64.wrap d = d by rw [wrap_u64] <;> omega]; rfl
    unfold F81__2
    rw [k1, k2]
    unfold fin
    refine Yields.bif (fun q => ?_) (fun q => ?_)
    · rw [if_pos (of_decide_eq_true q)]; exact Yields.some rfl
    · have q := of_decide_eq_false q
      rw [if_neg q]
      have f := fin_prog h (a := imx a (imx c 0)) (b := imn b d) (by unfold imx; split <;> omega) (by unfold imn; split <;> omega) q
      exact Yields.bindE f.1 (Yields.bindE f.2 (Yields.some rfl))
  refine Yields.bif (fun q1 => ?_) (fun q1 => Yields.bif (fun q2 => ?_) (fun q2 => ?_))
  · have q1 := of_decide_eq_true q1
    rw [if_pos (.inl q1)]
    refine Yields.bif (fun q => ?_) (fun q => ?_)
    · rw [if_pos (of_decide_eq_true q)]; exact Yields.some rfl
    · rw [if_neg (of_decide_eq_false q)]; exact first (of_decide_eq_false q)
  · have q2 := of_decide_eq_true q2
    rw [if_pos (.inr q2)]
    refine Yields.bif (fun q => ?_) (fun q => ?_)
    · rw [if_pos (of_decide_eq_true q)]; exact Yields.some rfl
    · rw [if_neg (of_decide_eq_false q)]; exact first (of_decide_eq_false q)
  · have q1 := of_decide_eq_false q1
    have q2 := of_decide_eq_false q2
    rw [if_neg (by omega)]
    have c1 : c < 0 := by omega
    have mc := mc c1
    have l3 : F81__3 a (p - 1) (c % (2 * p)) = imx (imx a (c % (2 * p))) p := by unfold F81__3; rw [e1, e2]; rfl
    have l4 : F81__4 a (p - 1) (c % (2 * p)) = imx (imx a (c % (2 * p))) p := by unfold F81__4; rw [e1, e2]; rfl
    have fc : F101 (W : Int) c = some (c % (2 * p)) := by rw [from_ok h.top, eW]
    have fd : F101 (W : Int) d = some (d % (2 * p)) := by rw [from_ok h.top, eW]
    have lo0 : 0 ≤ imx (imx a (c % (2 * p))) p := by unfold imx; repeat' split <;> omega
    rw [eW]
    refine Yields.bif (fun q3 => ?_) (fun q3 => ?_)
    · have q3 := of_decide_eq_true q3
      rw [if_pos (.inl q3)]
      refine Yields.bindE fc ?_
      rw [l3]
      refine Yields.bif (fun q4 => ?_) (fun q4 => ?_)
      · have q4 := of_decide_eq_true q4
        rw [if_pos q4]
        refine Yields.bindE fd ?_
        show Yields _ (bif decide (_ > imn b (d % (2 * p))) then _ else _)
        unfold fin
        refine Yields.bif (fun q => ?_) (fun q => ?_)
        · rw [if_pos (of_decide_eq_true q)]; exact Yields.some rfl
        · have q := of_decide_eq_false q
          rw [if_neg q]
          have f := fin_prog h lo0 (b := imn b (d % (2 * p))) (by unfold imn; split <;> omega) q
          exact Yields.bindE f.1 (Yields.bindE f.2 (Yields.some rfl))
      · have q4 := of_decide_eq_false q4
        rw [if_neg q4]
        unfold fin
        refine Yields.bif (fun q => ?_) (fun q => ?_)
        · rw [if_pos (of_decide_eq_true q)]; exact Yields.some rfl
        · have q := of_decide_eq_false q
          rw [if_neg q]
          have f := fin_prog h lo0 bm q
          exact Yields.bindE f.1 (Yields.bindE f.2 (Yields.some rfl))
    · have q3 := of_decide_eq_false q3
      refine Yields.bif (fun q4 => ?_) (fun q4 => ?_)
      · have q4 := of_decide_eq_true q4
        rw [if_pos (.inr q4), if_pos q4]
        refine Yields.bindE fc (Yields.bindE fd ?_)
        rw [l4]
        show Yields _ (bif decide (_ > imn b (d % (2 * p))) then _ else _)
        unfold fin
        refine Yields.bif (fun q => ?_) (fun q => ?_)
        · rw [if_pos (of_decide_eq_true q)]; exact Yields.some rfl
        · have q := of_decide_eq_false q
          rw [if_neg q]
          have f := fin_prog h lo0 (b := imn b (d % (2 * p))) (by unfold imn; split <;> omega) q
          exact Yields.bindE f.1 (Yields.bindE f.2 (Yields.some rfl))
      · have q4 := of_decide_eq_false q4
        rw [if_neg (by omega)]
        exact Yields.some rfl

theorem rg_eta (x : Rg) : (x.1, x.2.1, x.2.2.1, x.2.2.2.1, x.2.2.2.2) = x := rfl
theorem imx_comm (x y z : Int) : (if y > imx z x then y else imx z x) = imx (imx x y) z := by unfold imx; repeat' split <;> omega
theorem it_ref {W : Nat} (h : Wid W) {a b c d : Int} (ha : 0 ≤ a) (hb : 0 ≤ b) : ∃ v : Bool, (v = true ↔ IVal W a b c d) ∧ F85 (W : Int) a b c d = some (tgA W v a b c d) := by
  obtain ⟨v, e, hv⟩ := ival_ref h a b c d
  refine ⟨v, hv, ?_⟩
  apply Yields.eq
  unfold F85
  refine Yields.bindE e (Yields.bif (fun hc => ?_) (fun hc => ?_))
  · have : v = false := by simpa using hc
    subst this; exact Yields.some rfl
  have hvt : v = true := by simpa using hc
  subst hvt
  obtain ⟨ab, bm, c0, cd, d1⟩ := hv.1 rfl
  have hp := pw h
  obtain ⟨_, eW, p1, p2⟩ := hp
  have em := mk_nv h.top
  have am : ∀ n, IntKind.u64.wrap (((BitVec.ofInt 64 (IntKind.u64.wrap n) &&& BitVec.ofInt 64 (nv (mk W))).toNat : Nat) : Int) = n % (2 ^ W : Nat) := by
    intro n; rw [ofInt_wrap, ofInt_nv, wrap_tn, and_mk_nv h.top]
  rw [eW] at em
  refine Yields.bindE (smax_ok h) ?_
  show Yields (fun x => x = tgM W a b c d) _
  unfold tgM
  have mc := modp h (c := c) c0
  have md := modp h (c := d) (by omega)
  generalize hP : ((2 ^ (W - 1) : Nat) : Int) = p at *
  rw [eW] at mc md am
  have e1 : IntKind.u64.wrap (p - 1) = p - 1 := by rw [wrap_u64] <;> omega
  have e2 : IntKind.u64.wrap (p - 1 + 1) = p := by rw [wrap_u64] <;> omega
  rw [e1]
  have fr : ∀ {x y : Int} {X : Rg}, 0 ≤ x → y ≤ nv (mk W) → fin W x y = X → Yields (fun r => r = X) ((F104 (W : Int) x y).bind fun y14 => some (y14.1, y14.2.1, y14.2.2.1, y14.2.2.2.1, y14.2.2.2.2)) := by
    rintro x y X h0 h1 rfl
    exact Yields.bindE (fin_ref h h0 h1) (Yields.some (rg_eta _))
  have first : ∀ (hd : ¬ d < 0) , Yields (fun x => x = fin W (imx a (imx c 0)) (imn b d)) (bif decide (c > 0) then
      (F104 (W : Int) (if IntKind.u64.wrap c > a then IntKind.u64.wrap c else a) (if IntKind.u64.wrap d < b then IntKind.u64.wrap d else b)).bind fun y14 => some (y14.1, y14.2.1, y14.2.2.1, y14.2.2.2.1, y14.2.2.2.2)
      else (F104 (W : Int) a (if IntKind.u64.wrap d < b then IntKind.u64.wrap d else b)).bind fun y14 => some (y14.1, y14.2.1, y14.2.2.1, y14.2.2.2.1, y14.2.2.2.2)) := by
    intro hd
    have k2 : (if IntKind.u64.wrap d < b then IntKind.u64.wrap d else b) = imn b d := by
      rw [show IntKind.u64.wrap d = d by rw [wrap_u64] <;> omega]; rfl
    rw [k2]
    have hmn : imn b d ≤ nv (mk W) := by unfold imn; split <;> omega
    refine Yields.bif (fun q => ?_) (fun q => ?_)
    · have q := of_decide_eq_true q
      rw [show IntKind.u64.wrap c = c by rw [wrap_u64] <;> omega]
      refine fr (by split <;> omega) hmn ?_
      congr 1
      unfold imx; repeat' split <;> omega
    · have q := of_decide_eq_false q
      refine fr ha hmn ?_
      congr 1
      unfold imx; repeat' split <;> omega
  refine Yields.bif (fun q1 => ?_) (fun q1 => Yields.bif (fun q2 => ?_) (fun q2 => ?_))
  · have q1 := of_decide_eq_true q1
    rw [if_pos (.inl q1)]
    refine Yields.bif (fun q => ?_) (fun q => ?_)
    · rw [if_pos (of_decide_eq_true q)]; exact Yields.some rfl
    · rw [if_neg (of_decide_eq_false q)]; exact first (of_decide_eq_false q)
  · have q2 := of_decide_eq_true q2
    rw [if_pos (.inr q2)]
    refine Yields.bif (fun q => ?_) (fun q => ?_)
    · rw [if_pos (of_decide_eq_true q)]; exact Yields.some rfl
    · rw [if_neg (of_decide_eq_false q)]; exact first (of_decide_eq_false q)
  · have q1 := of_decide_eq_false q1
    have q2 := of_decide_eq_false q2
    rw [if_neg (by omega)]
    have c1 : c < 0 := by omega
    have mc := mc c1
    have l2 : F85__2 a (p - 1) = imx a p := by unfold F85__2; rw [e1, e2]; rfl
    have l1 : F85__1 c (nv (mk W)) = c % (2 * p) := am c
    have l3 : F85__3 d (nv (mk W)) = d % (2 * p) := am d
    have l4 : F85__4 c (nv (mk W)) = c % (2 * p) := am c
    have l5 : F85__5 d (nv (mk W)) = d % (2 * p) := am d
    have lo : (if c % (2 * p) > imx a p then c % (2 * p) else imx a p) = imx (imx a (c % (2 * p))) p := by unfold imx; repeat' split <;> omega
    have lo0 : 0 ≤ imx (imx a (c % (2 * p))) p := by unfold imx; repeat' split <;> omega
    rw [eW]
    refine Yields.bif (fun q3 => ?_) (fun q3 => ?_)
    · have q3 := of_decide_eq_true q3
      rw [if_pos (.inl q3)]
      refine Yields.bindE (umax_ok h.top) ?_
      rw [l1, l2, lo]
      refine Yields.bif (fun q4 => ?_) (fun q4 => ?_)
      · have q4 := of_decide_eq_true q4
        rw [if_pos q4]
        refine Yields.bindE (umax_ok h.top) ?_
        rw [l3]
        exact fr lo0 (show imn b (d % (2 * p)) ≤ _ by unfold imn; split <;> omega) rfl
      · have q4 := of_decide_eq_false q4
        rw [if_neg q4]
        exact fr lo0 bm rfl
    · have q3 := of_decide_eq_false q3
      refine Yields.bif (fun q4 => ?_) (fun q4 => ?_)
      · have q4 := of_decide_eq_true q4
        rw [if_pos (.inr q4), if_pos q4]
        refine Yields.bindE (umax_ok h.top) (Yields.bindE (umax_ok h.top) ?_)
        rw [l4, l2, l5, lo]
        exact fr lo0 (show imn b (d % (2 * p)) ≤ _ by unfold imn; split <;> omega) rfl
      · have q4 := of_decide_eq_false q4
        rw [if_neg (by omega)]
        exact Yields.some rfl
end Go.Proofs.Ytpmbcnknnolojaa.Abs
