/-
  Reserves: whatever the input, the law of LibraryReserves holds, and the input reads as it did.
-/
import Derived.Test.YtliochikjbalhaaRows
import Derived.WalkKit
import Derived.ProofKit
import Derived.OpenShut
import Derived.ChangeOld
import Derived.Below
import Derived.Test.YtliochikjbalhaaOpen
import Derived.Test.YtliochikjbalhaaBk
import Derived.Test.YtliochikjbalhaaOpenS
import Derived.Test.YtliochikjbalhaaRs
namespace Go.Proofs.Ytliochikjbalhaa.libraryReserves
open Go.ChangeShapes Go.WideShapes Go.ChangeAt Go.RowKit
set_option linter.unusedVariables false

theorem own : ownKnob Try.prog.godebug = none := by kernel_rfl
theorem laidOut : laidOutB Try.prog = true := by kernel_rfl

theorem walk (z0_0 : Value) (z0_1 : Value) (z0_2 : Value) (z0_3 : Value) (z0_4 : Value) (A0_5 : Option Addr) (n0_5 c0_5 : Nat) (p0_5 i0_5 l0_5 : Nat → Nat) (a1 : Int) (hn0_5 : n0_5 ≤ maxLen) (w1 : (Lit.int .i64 a1).wf = true) (w : World) (H0_5 : Blks w w.heap.size A0_5 n0_5 p0_5 i0_5 l0_5) :
    Calls Try.prog 3 #[.agg #[z0_0, z0_1, z0_2, z0_3, z0_4, .slice A0_5 n0_5 c0_5], .int .i64 a1] w fun e w' => e = .returned (.bool true) ∧ Below w.heap.size w w' := by
  exact rs_any z0_0 z0_1 z0_2 z0_3 z0_4 A0_5 n0_5 c0_5 p0_5 i0_5 l0_5 a1 w H0_5

set_option maxRecDepth 100000 in
theorem lifted (os : Os) (started : os.Started) (H : Type) (enc : TypeId × Value → H) :
    ReturnsInHanded {} Try.checked os 3 .any (Rows.libraryReservesSpec.pre6 enc Try.prog Try.f3 Rows.libraryReservesRow.domain false) (Rows.libraryReservesSpec.post enc Try.prog Try.f3 false true false false) := by
  refine returnsInHanded_of_change (C := Try.checked) own started (by kernel_rfl) Try.func3
    (ChangeSpec.witness6 (enc := enc) (C := Try.checked) false ⟨#[], #[.agg #[.string ⟨#[]⟩, .slice none 0 0, .slice none 0 0, .slice none 0 0, .slice none 0 0, .slice none 0 0], .int .i64 0], []⟩ 8 (by kernel_rfl) (by kernel_rfl) (by kernel_rfl) (by kernel_rfl)) ?_
  intro W base args ds gs before hval0 hW hcnd _
  have hval : ∀ (j : Nat) t v, Try.f3.params[j]? = some t → args[j]? = some v → Value.okWide Try.prog W .any base t v := hval0
  have hW' := hW
  obtain ⟨p, q, hA0, hV, rfl, hfz, hnd⟩ := hW
  have hA : DataW.TrodAll enc Try.prog W 0 (fun _ => true) true Try.f3.params.toList args.toList ds p := hA0
  rw [Try.params3] at hA hval
  obtain ⟨v0, vs0, d0, ds0, p0, q0, hargs, rfl, rfl, h0, r0⟩ := trodAll_cons hA
  obtain ⟨v1, vs1, d1, ds1, p1, q1, rfl, rfl, rfl, h1, r1⟩ := trodAll_cons r0
  obtain ⟨rfl, rfl, rfl⟩ := trodAll_nil r1
  obtain rfl : args = #[v0, v1] := by cases args; simp_all
  obtain ⟨rfl, rfl⟩ := trodVars_none hV
  clear hA0 hval0
  have k0 := h0
  have lt0 : ∀ x ∈ p0, x.block < W.heap.size := by obtain ⟨m, hm⟩ := k0; exact DataW.trod_lt m _ _ _ hm
  obtain ⟨l0, hl0, rfl, hf0⟩ := open_fields Try.underlying27 (show Try.prog.cellsOf 27 = 6 by kernel_rfl) (hval 0 27 v0 rfl rfl) h0
  obtain ⟨z0_0, z0_1, z0_2, z0_3, z0_4, z0_5, rfl⟩ := len6' hl0
  obtain ⟨m0_5, y0_5, t0_5⟩ := hf0 5 _ rfl
  have q0_5 : DataW.trod enc Try.prog W 0 (fun _ => true) true m0_5 25 [z0_5] = some y0_5 := by
    have cc : Try.prog.cellsOf 25 = 1 := by kernel_rfl
    simpa [cc] using t0_5
  obtain ⟨A0_5, n0_5, c0_5, p0_5, i0_5, l0_5, rfl, hn0_5, H0_5⟩ := open_blocks Try.underlying25 Try.underlying57 Try.underlying55 Try.underlying3 Try.underlying22 Try.underlying52 Try.underlying53 Try.underlying22 rfl rfl (by kernel_rfl) (by kernel_rfl) (by kernel_rfl) (by kernel_rfl) (by kernel_rfl) (by kernel_rfl) (by kernel_rfl) q0_5
  obtain ⟨a1, rfl, rfl, rfl, w1⟩ := open_int Try.underlying3 (hval 1 3 v1 rfl rfl) h1
  refine (walk z0_0 z0_1 z0_2 z0_3 z0_4 A0_5 n0_5 c0_5 p0_5 i0_5 l0_5 a1 hn0_5 w1 W H0_5).mono fun e W' ⟨he, bel⟩ => ?_
  subst he
  exact ⟨_, rfl, _, _, _, [], _, [], hW', trodAll_mk1 (shut_bool Try.underlying4 _), (trodAll_cons_mk (Below.trod laidOut (by kernel_rfl) (of_decide_eq_true (by kernel_rfl)) k0 bel lt0) (trodAll_cons_mk (shut_int Try.underlying3 w1) trodAll_mk0)), rfl, bel.frame _, fun h => by cases h⟩

theorem over : Rows.libraryReservesRow.holds Try.pinned (OpenSpec.ofChange Rows.libraryReservesSpec) :=
  OpenClaim.holds_of_wide 3 Try.f3 rfl rfl rfl rfl rfl rfl rfl ⟨rfl, rfl, rfl, rfl, rfl⟩ rfl rfl rfl rfl rfl (by kernel_rfl) Try.func3 (by kernel_rfl)
    (of_decide_eq_true (by kernel_rfl)) (by unfold Func.isWrapper; first | (rw [if_pos (by decide +kernel)]; kernel_rfl) | (rw [if_neg (by decide +kernel)]; exact ⟨rfl, rfl⟩))
    (fun os started H enc _ => lifted os started H enc)

/-- The statement. -/
theorem proved : Rows.LibraryReservesSaid :=
  over
#print axioms proved
end Go.Proofs.Ytliochikjbalhaa.libraryReserves
