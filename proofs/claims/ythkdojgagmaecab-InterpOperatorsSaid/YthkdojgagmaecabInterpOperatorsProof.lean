/-
  InterpOperators: Apply and Convert of interp answer as the references do, for all operators, types and words. No condition.
-/
import Derived.Test.YthkdojgagmaecabRows
import Derived.WalkKit
import Derived.ProofKit
import Derived.OpenShut
import Derived.ChangeOld
import Derived.Below
import Derived.Test.YthkdojgagmaecabOpen
import Derived.Test.YthkdojgagmaecabOpenP
import Derived.Test.YthkdojgagmaecabOpL
namespace Go.Proofs.Ythkdojgagmaecab.interpOperators
open Go.ChangeShapes Go.WideShapes Go.ChangeAt Go.RowKit
set_option linter.unusedVariables false

theorem own : ownKnob Try.prog.godebug = none := by kernel_rfl
theorem laidOut : laidOutB Try.prog = true := by kernel_rfl

theorem walk (a0 : Int) (x1_0 : Int) (b1_1 : Bool) (x1_2 : Int) (b1_3 : Bool) (x2_0 x2_1 : Int) (w0 : (Lit.int .i64 a0).wf = true) (w1_0 : (Lit.int .i64 x1_0).wf = true) (w1_2 : (Lit.int .i64 x1_2).wf = true) (w2_0 : (Lit.int .u64 x2_0).wf = true) (w2_1 : (Lit.int .u64 x2_1).wf = true) (w : World) :
    Calls Try.prog 8 #[.int .i64 a0, .agg #[.int .i64 x1_0, .bool b1_1, .int .i64 x1_2, .bool b1_3], .agg #[.int .u64 x2_0, .int .u64 x2_1]] w fun e w' => e = .returned (.bool true) ∧ Below w.heap.size w w' := by
  obtain ⟨n0, rfl, h0⟩ := nat_of_u64 w2_0
  obtain ⟨n1, rfl, h1⟩ := nat_of_u64 w2_1
  exact oplaw_any a0 x1_0 x1_2 b1_1 b1_3 n0 n1 h0 h1 w

set_option maxRecDepth 100000 in
theorem lifted (os : Os) (started : os.Started) (H : Type) (enc : TypeId × Value → H) :
    ReturnsInHanded {} Try.checked os 8 .any (Rows.interpOperatorsSpec.pre6 enc Try.prog Try.f8 Rows.interpOperatorsRow.domain false) (Rows.interpOperatorsSpec.post enc Try.prog Try.f8 false true false false) := by
  refine returnsInHanded_of_change (C := Try.checked) own started (by kernel_rfl) Try.func8
    (ChangeSpec.witness6 (enc := enc) (C := Try.checked) false ⟨#[], #[.int .i64 0, .agg #[.int .i64 0, .bool false, .int .i64 0, .bool false], .agg #[.int .u64 0, .int .u64 0]], []⟩ 8 (by kernel_rfl) (by kernel_rfl) (by kernel_rfl) (by kernel_rfl)) ?_
  intro W base args ds gs before hval0 hW hcnd _
  have hval : ∀ (j : Nat) t v, Try.f8.params[j]? = some t → args[j]? = some v → Value.okWide Try.prog W .any base t v := hval0
  have hW' := hW
  obtain ⟨p, q, hA0, hV, rfl, hfz, hnd⟩ := hW
  have hA : DataW.TrodAll enc Try.prog W 0 (fun _ => true) true Try.f8.params.toList args.toList ds p := hA0
  rw [Try.params8] at hA hval
  obtain ⟨v0, vs0, d0, ds0, p0, q0, hargs, rfl, rfl, h0, r0⟩ := trodAll_cons hA
  obtain ⟨v1, vs1, d1, ds1, p1, q1, rfl, rfl, rfl, h1, r1⟩ := trodAll_cons r0
  obtain ⟨v2, vs2, d2, ds2, p2, q2, rfl, rfl, rfl, h2, r2⟩ := trodAll_cons r1
  obtain ⟨rfl, rfl, rfl⟩ := trodAll_nil r2
  obtain rfl : args = #[v0, v1, v2] := by cases args; simp_all
  obtain ⟨rfl, rfl⟩ := trodVars_none hV
  clear hA0 hval0
  obtain ⟨a0, rfl, rfl, rfl, w0⟩ := open_int Try.underlying3 (hval 0 3 v0 rfl rfl) h0
  have k1 := h1
  have lt1 : ∀ x ∈ p1, x.block < W.heap.size := by obtain ⟨m, hm⟩ := k1; exact DataW.trod_lt m _ _ _ hm
  obtain ⟨x1_0, b1_1, x1_2, b1_3, rfl, w1_0, w1_2⟩ := open_arrp Try.underlying55 Try.underlying54 Try.underlying3 Try.underlying4 rfl rfl (by kernel_rfl) (by kernel_rfl) (by kernel_rfl) (by kernel_rfl) (hval 1 55 v1 rfl rfl) h1
  have k2 := h2
  have lt2 : ∀ x ∈ p2, x.block < W.heap.size := by obtain ⟨m, hm⟩ := k2; exact DataW.trod_lt m _ _ _ hm
  obtain ⟨xs2, hn2, rfl, wf2⟩ := open_arr Try.underlying46 Try.underlying22 (by kernel_rfl) (by kernel_rfl) (hval 2 46 v2 rfl rfl) h2
  obtain ⟨x2_0, x2_1, rfl⟩ := len2 hn2
  have w2_0 := wf2 x2_0 (by simp)
  have w2_1 := wf2 x2_1 (by simp)
  clear wf2 hn2
  simp only [List.map_cons, List.map_nil] at hW' ⊢
  refine (walk a0 x1_0 b1_1 x1_2 b1_3 x2_0 x2_1 w0 w1_0 w1_2 w2_0 w2_1 W).mono fun e W' ⟨he, bel⟩ => ?_
  subst he
  exact ⟨_, rfl, _, _, _, [], _, [], hW', trodAll_mk1 (shut_bool Try.underlying4 _), (trodAll_cons_mk (shut_int Try.underlying3 w0) (trodAll_cons_mk (Below.trod laidOut (by kernel_rfl) (of_decide_eq_true (by kernel_rfl)) k1 bel lt1) (trodAll_cons_mk (Below.trod laidOut (by kernel_rfl) (of_decide_eq_true (by kernel_rfl)) k2 bel lt2) trodAll_mk0))), rfl, bel.frame _, fun h => by cases h⟩

theorem over : Rows.interpOperatorsRow.holds Try.pinned (OpenSpec.ofChange Rows.interpOperatorsSpec) :=
  OpenClaim.holds_of_wide 8 Try.f8 rfl rfl rfl rfl rfl rfl rfl ⟨rfl, rfl, rfl, rfl, rfl⟩ rfl rfl rfl rfl rfl (by kernel_rfl) Try.func8 (by kernel_rfl)
    (of_decide_eq_true (by kernel_rfl)) (by unfold Func.isWrapper; first | (rw [if_pos (by decide +kernel)]; kernel_rfl) | (rw [if_neg (by decide +kernel)]; exact ⟨rfl, rfl⟩))
    (fun os started H enc _ => lifted os started H enc)

/-- The statement. -/
theorem proved : Rows.InterpOperatorsSaid :=
  over
#print axioms proved
end Go.Proofs.Ythkdojgagmaecab.interpOperators
