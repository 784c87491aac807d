/-
  A call that needs nothing of the memory, at any memory; runs from nothing.
-/
import Derived.Test.YtimeninncpmaeaaVk
namespace Go.Proofs.Ytimeninncpmaeaa.Abs
open Go
set_option linter.unusedVariables false
set_option linter.unusedSimpArgs false

def AHeap.none : AHeap := ⟨0, []⟩
theorem hrel_none {B : Nat} {ρ : Rho} {h : AHeap} {w : World} (H : HRel B ρ h w) : HRel B (fun _ _ => Option.none) AHeap.none w := by
  have hn : ∀ i, AHeap.none.get i = Option.none := fun i => AHeap.get_ge (Nat.zero_le _)
  refine ⟨rfl, H.base, ?_, ?_, ?_⟩
  · intro i b hb; rw [hn] at hb; cases hb
  · intro i g r h; cases h
  · intro i b r i' b' r' hb; rw [hn] at hb; cases hb

/-- **A call that needs nothing of the memory leaves it as it is.** -/
theorem acalls_frame {P : Program} {f : FuncId} {args : List Value} {u : Value} (hc : ACalls P f args AHeap.none fun v _ => v = u) (ha : args.all (plain 6) = true) (hu : plain 6 u = true) (h : AHeap) :
    ACalls P f args h fun v h' => v = u ∧ h' = h := by
  intro B ρ w args' H hA
  have hA' : CRel (fun _ _ => Option.none) args args'.toList := by
    refine ⟨hA.1, fun i v v' h1 h2 => ?_⟩
    rw [List.all_eq_true] at ha
    have hp := ha v (List.mem_of_getElem? h1)
    rw [plain_eq 6 hp (hA.2 i v v' h1 h2)]
    exact plain_refl 6 hp
  refine (hc B _ w args' (hrel_none H) hA').mono ?_
  rintro e w' ⟨v, v', ρ', h', rfl, rfl, hv, H', X⟩
  have S : Same w w' := ⟨X.os, X.tape, X.output, X.drawn, X.grow, fun b hb => X.keep b hb fun i blk r h1 => by
    rw [AHeap.get_ge (Nat.zero_le _)] at h1; cases h1⟩
  refine ⟨v, v', ρ, h, rfl, ⟨rfl, rfl⟩, ?_, H.same S, (Ext.refl ⟨ρ, h, w⟩).same S⟩
  rw [plain_eq 6 hu hv]
  exact plain_refl 6 hu

def rIs (o : Option (Value × AHeap)) (b : Bool) : Bool := match o with
  | some (.bool c, _) => c == b
  | _ => false
/-- A run from nothing, by computing. -/
theorem acalls_run {P : Program} (G : Good P) (n m : Nat) (T : List FEnt) (hT : tabOk P T = true) {f : FuncId} {args : List Value} {b : Bool} (hr : rIs (rCall n P T m f args AHeap.none) b = true) (ha : args.all (plain 6) = true) (h : AHeap) :
    ACalls P f args h fun v h' => v = .bool b ∧ h' = h := by
  refine acalls_frame ?_ ha rfl h
  unfold rIs at hr
  split at hr
  · rename_i c h' hh
    have hcb : c = b := by simpa using hr
    subst hcb
    exact (rCall_sound G n T hT m _ _ _ _ _ hh).mono fun v h'' hv => hv.1
  · cases hr
theorem good_of {P : Program} (h1 : P.follows .mixedOrders = true) (h2 : (P.funcs.all fun fn => !(fn.name == "runtime.NumGoroutine")) = true) : Good P := by
  refine ⟨h1, fun f fn hf => ?_⟩
  have := Array.all_eq_true_iff_forall_mem.1 h2 fn (Array.mem_of_getElem? hf)
  simpa using this
end Go.Proofs.Ytimeninncpmaeaa.Abs
