/-
  Cycles and visits: whatever the input, the law of CyclesVisits holds, and the input reads as it did.
-/
import Derived.Test.YthhdfdkdcabiaaaRows
import Derived.WalkKit
import Derived.ProofKit
import Derived.OpenShut
import Derived.ChangeOld
import Derived.Below
import Derived.Test.YthhdfdkdcabiaaaOpen
import Derived.Test.YthhdfdkdcabiaaaOpenS
import Derived.Test.YthhdfdkdcabiaaaCyM
namespace Go.Proofs.Ythhdfdkdcabiaaa.cyclesVisits
open Go.ChangeShapes Go.WideShapes Go.ChangeAt Go.RowKit
set_option linter.unusedVariables false

theorem own : ownKnob Try.prog.godebug = none := by kernel_rfl
theorem laidOut : laidOutB Try.prog = true := by kernel_rfl

theorem walk (x0_0 : Int) (x0_1 : Int) (z0_2 : Value) (z0_3 : Value) (z0_4 : Value) (a1 : Int) (w0_0 : (Lit.int .i64 x0_0).wf = true) (w0_1 : (Lit.int .i64 x0_1).wf = true) (w1 : (Lit.int .i16 a1).wf = true) (w : World) :
    Calls Try.prog 3 #[.agg #[.int .i64 x0_0, .int .i64 x0_1, z0_2, z0_3, z0_4], .int .i16 a1] w fun e w' => e = .returned (.bool true) ∧ Below w.heap.size w w' := by
  exact cyl_any x0_0 x0_1 a1 z0_2 z0_3 z0_4 (by have := bounds_i16 w1; omega) w

set_option maxRecDepth 100000 in
theorem lifted (os : Os) (started : os.Started) (H : Type) (enc : TypeId × Value → H) :
    ReturnsInHanded {} Try.checked os 3 .any (Rows.cyclesVisitsSpec.pre6 enc Try.prog Try.f3 Rows.cyclesVisitsRow.domain false) (Rows.cyclesVisitsSpec.post enc Try.prog Try.f3 false true false false) := by
  refine returnsInHanded_of_change (C := Try.checked) own started (by kernel_rfl) Try.func3
    (ChangeSpec.witness6 (enc := enc) (C := Try.checked) false ⟨#[], #[.agg #[.int .i64 0, .int .i64 0, .slice none 0 0, .slice none 0 0, .slice none 0 0], .int .i16 0], []⟩ 8 (by kernel_rfl) (by kernel_rfl) (by kernel_rfl) (by kernel_rfl)) ?_
  intro W base args ds gs before hval0 hW hcnd _
  have hval : ∀ (j : Nat) t v, Try.f3.params[j]? = some t → args[j]? = some v → Value.okWide Try.prog W .any base t v := hval0
  have hW' := hW
  obtain ⟨p, q, hA0, hV, rfl, hfz, hnd⟩ := hW
  have hA : DataW.TrodAll enc Try.prog W 0 (fun _ => true) true Try.f3.params.toList args.toList ds p := hA0
  rw [Try.params3] at hA hval
  obtain ⟨v0, vs0, d0, ds0, p0, q0, hargs, rfl, rfl, h0, r0⟩ := trodAll_cons hA
  obtain ⟨v1, vs1, d1, ds1, p1, q1, rfl, rfl, rfl, h1, r1⟩ := trodAll_cons r0
  obtain ⟨rfl, rfl, rfl⟩ := trodAll_nil r1
  obtain rfl : args = #[v0, v1] := by cases args; simp_all
  obtain ⟨rfl, rfl⟩ := trodVars_none hV
  clear hA0 hval0
  have k0 := h0
  have lt0 : ∀ x ∈ p0, x.block < W.heap.size := by obtain ⟨m, hm⟩ := k0; exact DataW.trod_lt m _ _ _ hm
  obtain ⟨l0, hl0, rfl, hf0⟩ := open_fields Try.underlying24 (show Try.prog.cellsOf 24 = 5 by kernel_rfl) (hval 0 24 v0 rfl rfl) h0
  obtain ⟨z0_0, z0_1, z0_2, z0_3, z0_4, rfl⟩ := len5' hl0
  obtain ⟨m0_0, y0_0, t0_0⟩ := hf0 0 _ rfl
  have q0_0 : DataW.trod enc Try.prog W 0 (fun _ => true) true m0_0 3 [z0_0] = some y0_0 := by
    have cc : Try.prog.cellsOf 3 = 1 := by kernel_rfl
    simpa [cc] using t0_0
  obtain ⟨x0_0, rfl, w0_0⟩ := int_field Try.underlying3 q0_0
  obtain ⟨m0_1, y0_1, t0_1⟩ := hf0 1 _ rfl
  have q0_1 : DataW.trod enc Try.prog W 0 (fun _ => true) true m0_1 3 [z0_1] = some y0_1 := by
    have cc : Try.prog.cellsOf 3 = 1 := by kernel_rfl
    simpa [cc] using t0_1
  obtain ⟨x0_1, rfl, w0_1⟩ := int_field Try.underlying3 q0_1
  obtain ⟨a1, rfl, rfl, rfl, w1⟩ := open_int Try.underlying25 (hval 1 25 v1 rfl rfl) h1
  refine (walk x0_0 x0_1 z0_2 z0_3 z0_4 a1 w0_0 w0_1 w1 W).mono fun e W' ⟨he, bel⟩ => ?_
  subst he
  exact ⟨_, rfl, _, _, _, [], _, [], hW', trodAll_mk1 (shut_bool Try.underlying4 _), (trodAll_cons_mk (Below.trod laidOut (by kernel_rfl) (of_decide_eq_true (by kernel_rfl)) k0 bel lt0) (trodAll_cons_mk (shut_int Try.underlying25 w1) trodAll_mk0)), rfl, bel.frame _, fun h => by cases h⟩

theorem over : Rows.cyclesVisitsRow.holds Try.pinned (OpenSpec.ofChange Rows.cyclesVisitsSpec) :=
  OpenClaim.holds_of_wide 3 Try.f3 rfl rfl rfl rfl rfl rfl rfl ⟨rfl, rfl, rfl, rfl, rfl⟩ rfl rfl rfl rfl rfl (by kernel_rfl) Try.func3 (by kernel_rfl)
    (of_decide_eq_true (by kernel_rfl)) (by unfold Func.isWrapper; first | (rw [if_pos (by decide +kernel)]; kernel_rfl) | (rw [if_neg (by decide +kernel)]; exact ⟨rfl, rfl⟩))
    (fun os started H enc _ => lifted os started H enc)

/-- The statement. -/
theorem proved : Rows.CyclesVisitsSaid :=
  over
#print axioms proved
end Go.Proofs.Ythhdfdkdcabiaaa.cyclesVisits
