/-
  Contracts, written by program: for each function what its call yields, and that it yields it.
-/
import Derived.Test.YtimeninncpmaeaaBeb
namespace Go.Proofs.Ytimeninncpmaeaa.Abs
open Go
set_option linter.unusedVariables false
set_option linter.unusedSimpArgs false

noncomputable section
/-! 8 jacquard/jacquardlaw31.BoundsDepth -/
def F8 (x1 : Int) (x2 : Int) (x3 : Bool) (l4 : List (Int × Int × Int × Int)) (l5 : List (Int × Int × Int × Int)) (l6 : List (Int × Int)) : Option (Bool) :=
  (Option.bind F11 fun y7 =>
  (bif (!y7) then
   (Option.bind F11 fun y10 =>
   some (y10))
  else
   (Option.bind (F12 x1 x2 x3 l4 l5 l6) fun y12 =>
   (bif (!y12) then
    (Option.bind F11 fun y15 =>
    some (y15))
   else
    (Option.bind (F23 x1 x2 x3 l4 l5 l6) fun y17 =>
    (Option.bind (F14 x1 x2 x3 l4 l5 l6) fun y19 =>
    (bif (!y19) then
     (bif (y17.2 == 3) then
      some (y17.1 == 0)
     else
      some (false))
    else
     (bif x3 then
      (bif (y17.2 == 1) then
       some (y17.1 == 0)
      else
       some (false))
     else
      (Option.bind (F24 x1 x2 x3 l4 l5 l6) fun y25 =>
      (bif (y25 == 0) then
       (bif (y17.2 == 14) then
        some (y17.1 == 0)
       else
        some (false))
      else
       (bif (y17.2 == 0) then
        some (y17.1 == y25)
       else
        some (false))))))))))))
set_option maxRecDepth 100000 in
theorem F8_spec (x1 : Int) (x2 : Int) (x3 : Bool) (l4 : List (Int × Int × Int × Int)) (l5 : List (Int × Int × Int × Int)) (l6 : List (Int × Int)) (v4 : Hd) (v5 : Hd) (v6 : Hd) (h : AHeap) (hw : h.wf) (hv4 : SlE E57 4 h (sv v4) l4) (hv5 : SlE E59 4 h (sv v5) l5) (hv6 : SlE E61 2 h (sv v6) l6) (r : Bool) : F8 x1 x2 x3 l4 l5 l6 = some r → ∃ (h' : AHeap), Heapy h h' [] ∧ ACalls Try.prog 8 [.agg #[.int .i64 x1, .int .i64 x2, .bool x3, (sv v4), (sv v5), (sv v6)]] h (fun v' h'' => v' = (.bool r : Value) ∧ h'' = h') := by
  unfold F8
  refine bind_opt fun y7 e7 => ?_
  obtain ⟨h8, q8, c8⟩ := F11_spec h hw _ e7
  have hp8 : Heapy h h8 [] := Heapy.call (Heapy.refl hw) q8
  have kc9 := (ai c8 trivial)
  refine dec_bif (fun c9 => ?_) (fun c9 => ?_)
  · refine bind_opt fun y10 e10 => ?_
    obtain ⟨h11, q11, c11⟩ := F11_spec h8 (Heapy.wf hp8) _ e10
    have hp11 : Heapy h h11 [] := Heapy.call hp8 q11
    intro hr
    obtain rfl := Option.some.inj hr
    exact ⟨h11, Heapy.pick hp11 [] (by decide), pFun_sound good tab_ok (f := 8) (its := [.g, .g, (.c (.bool y7) h8), .g, .g, .n, .n, .n, (.p true), (.b true), (.c (.bool y10) h11), .g]) (args := [.agg #[.int .i64 x1, .int .i64 x2, .bool x3, (sv v4), (sv v5), (sv v6)]]) (h := h) (h' := h11) (v := .bool y10) (hC := (ai c11 (ai l_t (ai c9 (ai (g_tf c9) (ai (g_tf c9) (ai (g_tf c9) kc9))))))) (hr := by kernel_rfl)⟩
  · refine bind_opt fun y12 e12 => ?_
    have kc14 := (ai c9 (ai (g_ff c9) (ai (F12_spec x1 x2 x3 l4 l5 l6 v4 v5 v6 h8 (SlE.mono hv4 (Heapy.sub hp8) (E57_mono (Heapy.sub hp8))) (SlE.mono hv5 (Heapy.sub hp8) (E59_mono (Heapy.sub hp8))) (SlE.mono hv6 (Heapy.sub hp8) (E61_mono (Heapy.sub hp8))) _ e12) (ai (g_ff c9) (ai (g_ff c9) kc9)))))
    refine dec_bif (fun c14 => ?_) (fun c14 => ?_)
    · refine bind_opt fun y15 e15 => ?_
      obtain ⟨h16, q16, c16⟩ := F11_spec h8 (Heapy.wf hp8) _ e15
      have hp16 : Heapy h h16 [] := Heapy.call hp8 q16
      intro hr
      obtain rfl := Option.some.inj hr
      exact ⟨h16, Heapy.pick hp16 [] (by decide), pFun_sound good tab_ok (f := 8) (its := [.g, .g, (.c (.bool y7) h8), .g, .g, (.w .g), (.w (.c (.bool y12) h8)), (.w .g), (.p false), (.b true), (.c (.bool y15) h16), .g]) (args := [.agg #[.int .i64 x1, .int .i64 x2, .bool x3, (sv v4), (sv v5), (sv v6)]]) (h := h) (h' := h16) (v := .bool y15) (hC := (ai c16 (ai c14 kc14))) (hr := by kernel_rfl)⟩
    · refine bind_opt fun y17 e17 => ?_
      obtain ⟨h18, q18, c18⟩ := F23_spec x1 x2 x3 l4 l5 l6 v4 v5 v6 h8 (Heapy.wf hp8) (SlE.mono hv4 (Heapy.sub hp8) (E57_mono (Heapy.sub hp8))) (SlE.mono hv5 (Heapy.sub hp8) (E59_mono (Heapy.sub hp8))) (SlE.mono hv6 (Heapy.sub hp8) (E61_mono (Heapy.sub hp8))) _ e17
      have hp18 : Heapy h h18 [] := Heapy.call hp8 q18
      refine bind_opt fun y19 e19 => ?_
      have kc21 := (ai (F14_spec x1 x2 x3 l4 l5 l6 v4 v5 v6 h18 (SlE.mono hv4 (Heapy.sub hp18) (E57_mono (Heapy.sub hp18))) (SlE.mono hv5 (Heapy.sub hp18) (E59_mono (Heapy.sub hp18))) (SlE.mono hv6 (Heapy.sub hp18) (E61_mono (Heapy.sub hp18))) _ e19) (ai c18 (ai c14 kc14)))
      refine dec_bif (fun c21 => ?_) (fun c21 => ?_)
      · have kc22 := (ai c21 kc21)
        refine dec_bif (fun c22 => ?_) (fun c22 => ?_)
        · intro hr
          obtain rfl := Option.some.inj hr
          exact ⟨h18, Heapy.pick hp18 [] (by decide), pFun_sound good tab_ok (f := 8) (its := [.g, .g, (.c (.bool y7) h8), .g, .g, (.w .g), (.w (.c (.bool y12) h8)), (.w .g), (.p false), (.b false), .g, (.c (.tuple #[.int .i64 y17.1, .int .i64 y17.2]) h18), .g, .g, .g, .g, .g, .g, (.c (.bool y19) h18), .g, .g, (.b true), .g, .g, .g, (.w .g), (.w .g), (.p true), .g]) (args := [.agg #[.int .i64 x1, .int .i64 x2, .bool x3, (sv v4), (sv v5), (sv v6)]]) (h := h) (h' := h18) (v := .bool (y17.1 == 0)) (hC := (ai c22 (ai (g_tt c22) (ai (g_tt c22) kc22)))) (hr := by kernel_rfl)⟩
        · intro hr
          obtain rfl := Option.some.inj hr
          exact ⟨h18, Heapy.pick hp18 [] (by decide), pFun_sound good tab_ok (f := 8) (its := [.g, .g, (.c (.bool y7) h8), .g, .g, (.w .g), (.w (.c (.bool y12) h8)), (.w .g), (.p false), (.b false), .g, (.c (.tuple #[.int .i64 y17.1, .int .i64 y17.2]) h18), .g, .g, .g, .g, .g, .g, (.c (.bool y19) h18), .g, .g, (.b true), .g, .g, .g, .n, .n, (.p false), .g]) (args := [.agg #[.int .i64 x1, .int .i64 x2, .bool x3, (sv v4), (sv v5), (sv v6)]]) (h := h) (h' := h18) (v := .bool false) (hC := (ai c22 (ai (g_ft c22) (ai (g_ft c22) kc22)))) (hr := by kernel_rfl)⟩
      · have kc23 := (ai c21 kc21)
        refine dec_bif (fun c23 => ?_) (fun c23 => ?_)
        · have kc24 := (ai c23 kc23)
          refine dec_bif (fun c24 => ?_) (fun c24 => ?_)
          · intro hr
            obtain rfl := Option.some.inj hr
            exact ⟨h18, Heapy.pick hp18 [] (by decide), pFun_sound good tab_ok (f := 8) (its := [.g, .g, (.c (.bool y7) h8), .g, .g, (.w .g), (.w (.c (.bool y12) h8)), (.w .g), (.p false), (.b false), .g, (.c (.tuple #[.int .i64 y17.1, .int .i64 y17.2]) h18), .g, .g, .g, .g, .g, .g, (.c (.bool y19) h18), .g, .g, (.b false), .g, .g, .g, (.b true), .g, .g, .g, (.w .g), (.w .g), (.p true), .g]) (args := [.agg #[.int .i64 x1, .int .i64 x2, .bool x3, (sv v4), (sv v5), (sv v6)]]) (h := h) (h' := h18) (v := .bool (y17.1 == 0)) (hC := (ai c24 (ai (g_tt c24) (ai (g_tt c24) kc24)))) (hr := by kernel_rfl)⟩
          · intro hr
            obtain rfl := Option.some.inj hr
            exact ⟨h18, Heapy.pick hp18 [] (by decide), pFun_sound good tab_ok (f := 8) (its := [.g, .g, (.c (.bool y7) h8), .g, .g, (.w .g), (.w (.c (.bool y12) h8)), (.w .g), (.p false), (.b false), .g, (.c (.tuple #[.int .i64 y17.1, .int .i64 y17.2]) h18), .g, .g, .g, .g, .g, .g, (.c (.bool y19) h18), .g, .g, (.b false), .g, .g, .g, (.b true), .g, .g, .g, .n, .n, (.p false), .g]) (args := [.agg #[.int .i64 x1, .int .i64 x2, .bool x3, (sv v4), (sv v5), (sv v6)]]) (h := h) (h' := h18) (v := .bool false) (hC := (ai c24 (ai (g_ft c24) (ai (g_ft c24) kc24)))) (hr := by kernel_rfl)⟩
        · refine bind_opt fun y25 e25 => ?_
          obtain ⟨h26, q26, c26⟩ := F24_spec x1 x2 x3 l4 l5 l6 v4 v5 v6 h18 (Heapy.wf hp18) (SlE.mono hv4 (Heapy.sub hp18) (E57_mono (Heapy.sub hp18))) (SlE.mono hv5 (Heapy.sub hp18) (E59_mono (Heapy.sub hp18))) (SlE.mono hv6 (Heapy.sub hp18) (E61_mono (Heapy.sub hp18))) _ e25
          have hp26 : Heapy h h26 [] := Heapy.call hp18 q26
          have kc27 := (ai c26 (ai c23 kc23))
          refine dec_bif (fun c27 => ?_) (fun c27 => ?_)
          · have kc28 := (ai c27 kc27)
            refine dec_bif (fun c28 => ?_) (fun c28 => ?_)
            · intro hr
              obtain rfl := Option.some.inj hr
              exact ⟨h26, Heapy.pick hp26 [] (by decide), pFun_sound good tab_ok (f := 8) (its := [.g, .g, (.c (.bool y7) h8), .g, .g, (.w .g), (.w (.c (.bool y12) h8)), (.w .g), (.p false), (.b false), .g, (.c (.tuple #[.int .i64 y17.1, .int .i64 y17.2]) h18), .g, .g, .g, .g, .g, .g, (.c (.bool y19) h18), .g, .g, (.b false), .g, .g, .g, (.b false), .g, (.c (.int .i64 y25) h26), .g, .g, .g, (.b true), .g, .g, .g, (.w .g), (.w .g), (.p true), .g]) (args := [.agg #[.int .i64 x1, .int .i64 x2, .bool x3, (sv v4), (sv v5), (sv v6)]]) (h := h) (h' := h26) (v := .bool (y17.1 == 0)) (hC := (ai c28 (ai (g_tt c28) (ai (g_tt c28) kc28)))) (hr := by kernel_rfl)⟩
            · intro hr
              obtain rfl := Option.some.inj hr
              exact ⟨h26, Heapy.pick hp26 [] (by decide), pFun_sound good tab_ok (f := 8) (its := [.g, .g, (.c (.bool y7) h8), .g, .g, (.w .g), (.w (.c (.bool y12) h8)), (.w .g), (.p false), (.b false), .g, (.c (.tuple #[.int .i64 y17.1, .int .i64 y17.2]) h18), .g, .g, .g, .g, .g, .g, (.c (.bool y19) h18), .g, .g, (.b false), .g, .g, .g, (.b false), .g, (.c (.int .i64 y25) h26), .g, .g, .g, (.b true), .g, .g, .g, .n, .n, (.p false), .g]) (args := [.agg #[.int .i64 x1, .int .i64 x2, .bool x3, (sv v4), (sv v5), (sv v6)]]) (h := h) (h' := h26) (v := .bool false) (hC := (ai c28 (ai (g_ft c28) (ai (g_ft c28) kc28)))) (hr := by kernel_rfl)⟩
          · have kc29 := (ai c27 kc27)
            refine dec_bif (fun c29 => ?_) (fun c29 => ?_)
            · intro hr
              obtain rfl := Option.some.inj hr
              exact ⟨h26, Heapy.pick hp26 [] (by decide), pFun_sound good tab_ok (f := 8) (its := [.g, .g, (.c (.bool y7) h8), .g, .g, (.w .g), (.w (.c (.bool y12) h8)), (.w .g), (.p false), (.b false), .g, (.c (.tuple #[.int .i64 y17.1, .int .i64 y17.2]) h18), .g, .g, .g, .g, .g, .g, (.c (.bool y19) h18), .g, .g, (.b false), .g, .g, .g, (.b false), .g, (.c (.int .i64 y25) h26), .g, .g, .g, (.b false), .g, .g, .g, (.w .g), (.w .g), (.w .g), (.p true), .g]) (args := [.agg #[.int .i64 x1, .int .i64 x2, .bool x3, (sv v4), (sv v5), (sv v6)]]) (h := h) (h' := h26) (v := .bool (y17.1 == y25)) (hC := (ai c29 (ai (g_tt c29) (ai (g_tt c29) (ai (g_tt c29) kc29))))) (hr := by kernel_rfl)⟩
            · intro hr
              obtain rfl := Option.some.inj hr
              exact ⟨h26, Heapy.pick hp26 [] (by decide), pFun_sound good tab_ok (f := 8) (its := [.g, .g, (.c (.bool y7) h8), .g, .g, (.w .g), (.w (.c (.bool y12) h8)), (.w .g), (.p false), (.b false), .g, (.c (.tuple #[.int .i64 y17.1, .int .i64 y17.2]) h18), .g, .g, .g, .g, .g, .g, (.c (.bool y19) h18), .g, .g, (.b false), .g, .g, .g, (.b false), .g, (.c (.int .i64 y25) h26), .g, .g, .g, (.b false), .g, .g, .g, .n, .n, .n, (.p false), .g]) (args := [.agg #[.int .i64 x1, .int .i64 x2, .bool x3, (sv v4), (sv v5), (sv v6)]]) (h := h) (h' := h26) (v := .bool false) (hC := (ai c29 (ai (g_ft c29) (ai (g_ft c29) (ai (g_ft c29) kc29))))) (hr := by kernel_rfl)⟩
set_option maxRecDepth 100000 in
theorem F8_law (H : ∀ (x1 : Int) (x2 : Int) (x3 : Bool) (l4 : List (Int × Int × Int × Int)) (l5 : List (Int × Int × Int × Int)) (l6 : List (Int × Int)), (Lit.int .i64 x1).wf = true → (Lit.int .i64 x2).wf = true → (l4.length ≤ maxLen ∧ l4.length * 32 ≤ reachBytes) → (∀ y ∈ l4, W57 y) → (l5.length ≤ maxLen ∧ l5.length * 32 ≤ reachBytes) → (∀ y ∈ l5, W59 y) → (l6.length ≤ maxLen ∧ l6.length * 16 ≤ reachBytes) → (∀ y ∈ l6, W61 y) → F8 x1 x2 x3 l4 l5 l6 = some true) : Law Try.prog 8 10 [26] := by
  intro s us hwf hro hT0
  obtain ⟨u0, vs0, rfl, t0, hT1⟩ := wts_cons hT0
  obtain ⟨cs0, rfl, k0⟩ := wtv_aggS 4 (ks := [.int .i64, .int .i64, .bool, .slice 57, .slice 59, .slice 61]) (by kernel_rfl) (by kernel_rfl) t0
  obtain ⟨x1, r_x1, rfl, w_x1, k0_0⟩ := sq_int k0
  obtain ⟨x2, r_x2, rfl, w_x2, k0_1⟩ := sq_int k0_0
  obtain ⟨x3, r_x3, rfl, k0_2⟩ := sq_bool k0_1
  obtain ⟨v4, r_l4, rfl, q_l4, k0_3⟩ := sq_slice k0_2
  obtain ⟨l4, a_l4, m_l4, w_l4⟩ := q_l4 E57 W57 4 (by kernel_rfl) fun n cs H => E57_wt H
  obtain ⟨v5, r_l5, rfl, q_l5, k0_4⟩ := sq_slice k0_3
  obtain ⟨l5, a_l5, m_l5, w_l5⟩ := q_l5 E59 W59 4 (by kernel_rfl) fun n cs H => E59_wt H
  obtain ⟨v6, r_l6, rfl, q_l6, k0_5⟩ := sq_slice k0_4
  obtain ⟨l6, a_l6, m_l6, w_l6⟩ := q_l6 E61 W61 2 (by kernel_rfl) fun n cs H => E61_wt H
  obtain rfl := sq_nil k0_5
  obtain rfl := wts_nil hT1
  obtain ⟨h2, _, hc⟩ := F8_spec x1 x2 x3 l4 l5 l6 v4 v5 v6 s hwf a_l4 a_l5 a_l6 _ (H x1 x2 x3 l4 l5 l6 w_x1 w_x2 m_l4 w_l4 m_l5 w_l5 m_l6 w_l6)
  refine (hc).mono ?_
  rintro v h' ⟨rfl, rfl⟩
  rfl
end
end Go.Proofs.Ytimeninncpmaeaa.Abs
