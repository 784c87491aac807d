/-
  No cell of these rows narrows 'for every input' (looked for: loops, veiled, ifaces, maps, wideKeys, modest, calm, conditions, laid).
  DERIVED. THE GIVEN ROWS OF THIS SEAT. 5 by the template 'for every input the law returns true; each argument reads behind the call as it read before'; 0 by the template 'total and deterministic' (their statements: YtepcpjnhhpjacaaTotals.lean).
  GIVEN WITH THE SEED: the statements are not yours to turn. If you find one false, say at which input.
  Laid BY PROGRAM, IN A SANDBOX (cutbox-rows.mjs): the forced cells as the released guide's own fill.sh prints them over the translation c0325c3fad0e9e36… (all of the seat's roots in one cut). By AI agents, Wed Nov 11 2026. No macro, syntax, notation, axiom, sorry.
-/
import Derived.Test.YtepcpjnhhpjacaaChecked
import GoSem.Claim
import GoSem.ClaimJoined
import GoSem.ClaimMapViews
import Derived.JoinedTies
import Derived.KernelRfl
namespace Go.Proofs.Ytepcpjnhhpjacaa
/- THE CELL 'sum', in the pinned program and in every row, IS THE sha256 OF THE DUMP (.gsa) THAT YtepcpjnhhpjacaaProg.lean LOADS. Nothing in Lean hashes anything: it is a label: what it is worth is what the hold of that sum in a sandbox is worth. -/
noncomputable def Try.pinned : Pinned := { name := "ytepcpjnhhpjacaa", sum := "c0325c3fad0e9e3637b59ebce99705d594b697f82f94288decdf660de15cdcd6", checked := Try.checked }
namespace Rows
def none {H : Type} : Left H := { results := [], args := [] }

/-- 'jacquardlaw08.IrDefs': WHATEVER THE INPUT: true; the input reads as it did. -/
def irDefsSpec : ChangeSpec := { name := "irDefs", fn := fun _ => fun
  | [d1, d2] => { results := [.lit (.bool true)], args := [d1, d2] }
  | _ => none }
def irDefsRow : OpenClaim := { program := "ytepcpjnhhpjacaa", sum := "c0325c3fad0e9e3637b59ebce99705d594b697f82f94288decdf660de15cdcd6", func := "jacquard/jacquardlaw08.IrDefs", spec := "irDefs", plainKeys := false, apart := false }
def IrDefsSaid : Prop := irDefsRow.holds Try.pinned (OpenSpec.ofChange irDefsSpec)

/-- ITS FALSE NEIGHBOUR: 'it returns false'. Refute it at one input. -/
def irDefsWrong : ChangeSpec := { name := "irDefs", fn := fun _ => fun
  | [d1, d2] => { results := [.lit (.bool false)], args := [d1, d2] }
  | _ => none }
def IrDefsWrongFalsely : Prop := irDefsRow.holds Try.pinned (OpenSpec.ofChange irDefsWrong)

/-- 'jacquardlaw08.IrValid': WHATEVER THE INPUT: true; the input reads as it did. -/
def irValidSpec : ChangeSpec := { name := "irValid", fn := fun _ => fun
  | [d] => { results := [.lit (.bool true)], args := [d] }
  | _ => none }
def irValidRow : OpenClaim := { program := "ytepcpjnhhpjacaa", sum := "c0325c3fad0e9e3637b59ebce99705d594b697f82f94288decdf660de15cdcd6", func := "jacquard/jacquardlaw08.IrValid", spec := "irValid", plainKeys := false, apart := false }
def IrValidSaid : Prop := irValidRow.holds Try.pinned (OpenSpec.ofChange irValidSpec)

/-- ITS FALSE NEIGHBOUR: 'it returns false'. Refute it at one input. -/
def irValidWrong : ChangeSpec := { name := "irValid", fn := fun _ => fun
  | [d] => { results := [.lit (.bool false)], args := [d] }
  | _ => none }
def IrValidWrongFalsely : Prop := irValidRow.holds Try.pinned (OpenSpec.ofChange irValidWrong)

/-- 'jacquardlaw56.ProfileUsage': WHATEVER THE INPUT: true; the input reads as it did. -/
def profileUsageSpec : ChangeSpec := { name := "profileUsage", fn := fun _ => fun
  | [d1, d2] => { results := [.lit (.bool true)], args := [d1, d2] }
  | _ => none }
def profileUsageRow : OpenClaim := { program := "ytepcpjnhhpjacaa", sum := "c0325c3fad0e9e3637b59ebce99705d594b697f82f94288decdf660de15cdcd6", func := "jacquard/jacquardlaw56.ProfileUsage", spec := "profileUsage", unfollowed := true, recurses := true, plainKeys := false, apart := false }
def ProfileUsageSaid : Prop := profileUsageRow.holds Try.pinned (OpenSpec.ofChange profileUsageSpec)

/-- ITS FALSE NEIGHBOUR: 'it returns false'. Refute it at one input. -/
def profileUsageWrong : ChangeSpec := { name := "profileUsage", fn := fun _ => fun
  | [d1, d2] => { results := [.lit (.bool false)], args := [d1, d2] }
  | _ => none }
def ProfileUsageWrongFalsely : Prop := profileUsageRow.holds Try.pinned (OpenSpec.ofChange profileUsageWrong)

/-- 'jacquardlaw35.SchedcheckArcs': WHATEVER THE INPUT: true; the input reads as it did. -/
def schedcheckArcsSpec : ChangeSpec := { name := "schedcheckArcs", fn := fun _ => fun
  | [d1, d2] => { results := [.lit (.bool true)], args := [d1, d2] }
  | _ => none }
def schedcheckArcsRow : OpenClaim := { program := "ytepcpjnhhpjacaa", sum := "c0325c3fad0e9e3637b59ebce99705d594b697f82f94288decdf660de15cdcd6", func := "jacquard/jacquardlaw35.SchedcheckArcs", spec := "schedcheckArcs", unfollowed := true, recurses := true, plainKeys := false, apart := false }
def SchedcheckArcsSaid : Prop := schedcheckArcsRow.holds Try.pinned (OpenSpec.ofChange schedcheckArcsSpec)

/-- ITS FALSE NEIGHBOUR: 'it returns false'. Refute it at one input. -/
def schedcheckArcsWrong : ChangeSpec := { name := "schedcheckArcs", fn := fun _ => fun
  | [d1, d2] => { results := [.lit (.bool false)], args := [d1, d2] }
  | _ => none }
def SchedcheckArcsWrongFalsely : Prop := schedcheckArcsRow.holds Try.pinned (OpenSpec.ofChange schedcheckArcsWrong)

/-- 'jacquardlaw08.IrGraph': WHATEVER THE INPUT: true; the input reads as it did. -/
def irGraphSpec : ChangeSpec := { name := "irGraph", fn := fun _ => fun
  | [d1, d2] => { results := [.lit (.bool true)], args := [d1, d2] }
  | _ => none }
def irGraphRow : OpenClaim := { program := "ytepcpjnhhpjacaa", sum := "c0325c3fad0e9e3637b59ebce99705d594b697f82f94288decdf660de15cdcd6", func := "jacquard/jacquardlaw08.IrGraph", spec := "irGraph", unfollowed := true, recurses := true, plainKeys := false, apart := false }
def IrGraphSaid : Prop := irGraphRow.holds Try.pinned (OpenSpec.ofChange irGraphSpec)

/-- ITS FALSE NEIGHBOUR: 'it returns false'. Refute it at one input. -/
def irGraphWrong : ChangeSpec := { name := "irGraph", fn := fun _ => fun
  | [d1, d2] => { results := [.lit (.bool false)], args := [d1, d2] }
  | _ => none }
def IrGraphWrongFalsely : Prop := irGraphRow.holds Try.pinned (OpenSpec.ofChange irGraphWrong)

/- THE SECOND FORM. 'bulk': how many values and letters a reading holds, each counted each time it is reached (what is shared counts as often as it is met; a slice's spare places count too). A statement '..UptoSaid' is the law's where the arguments, and the package variables that the reading takes, are together of bulk at most 1048576: NARROWER than '..Said'. Prove '..Said' where nothing that the law and all that it calls make is longer than what came in: it says more and counts as full. Else prove '..UptoSaid'. A law counts once. -/
mutual
def uptoBulk {H : Type} : DataW H → Nat
  | .lit (.string bytes) => bytes.length + 1
  | .lit _ => 1
  | .nil => 1
  | .ptr d => uptoBulk d + 1
  | .slice elems spare => uptoBulkAll elems + uptoBulkAll spare + 1
  | .agg parts => uptoBulkAll parts + 1
  | .iface _ d => uptoBulk d + 1
  | .map entries => uptoBulkEntries entries + 1
  | .held _ => 1
def uptoBulkAll {H : Type} : List (DataW H) → Nat
  | [] => 0
  | d :: r => uptoBulk d + uptoBulkAll r
def uptoBulkEntries {H : Type} : List (Lit × DataW H) → Nat
  | [] => 0
  | x :: r => uptoBulkEntry x + uptoBulkEntries r
def uptoBulkEntry {H : Type} : Lit × DataW H → Nat
  | (.string bytes, d) => bytes.length + uptoBulk d + 1
  | (_, d) => uptoBulk d + 1
 end
def uptoSmall : (H : Type) → List (DataW H) → Bool := fun _ ds => decide (uptoBulkAll ds ≤ 1048576)
def OpenSpec.upto (s : _root_.Go.ChangeSpec) : _root_.Go.OpenSpec := { _root_.Go.OpenSpec.ofChange s with cond := some uptoSmall }

/-- 'jacquardlaw08.IrDefs', WHERE WHAT IT READS IS OF BULK AT MOST 1048576: true; the input reads as it did. -/
def irDefsUptoRow : OpenClaim := { program := "ytepcpjnhhpjacaa", sum := "c0325c3fad0e9e3637b59ebce99705d594b697f82f94288decdf660de15cdcd6", func := "jacquard/jacquardlaw08.IrDefs", spec := "irDefs", plainKeys := false, apart := false, narrowed := true }
def IrDefsUptoSaid : Prop := irDefsUptoRow.holds Try.pinned (OpenSpec.upto irDefsSpec)

/-- 'jacquardlaw08.IrValid', WHERE WHAT IT READS IS OF BULK AT MOST 1048576: true; the input reads as it did. -/
def irValidUptoRow : OpenClaim := { program := "ytepcpjnhhpjacaa", sum := "c0325c3fad0e9e3637b59ebce99705d594b697f82f94288decdf660de15cdcd6", func := "jacquard/jacquardlaw08.IrValid", spec := "irValid", plainKeys := false, apart := false, narrowed := true }
def IrValidUptoSaid : Prop := irValidUptoRow.holds Try.pinned (OpenSpec.upto irValidSpec)

/-- 'jacquardlaw56.ProfileUsage', WHERE WHAT IT READS IS OF BULK AT MOST 1048576: true; the input reads as it did. -/
def profileUsageUptoRow : OpenClaim := { program := "ytepcpjnhhpjacaa", sum := "c0325c3fad0e9e3637b59ebce99705d594b697f82f94288decdf660de15cdcd6", func := "jacquard/jacquardlaw56.ProfileUsage", spec := "profileUsage", unfollowed := true, recurses := true, plainKeys := false, apart := false, narrowed := true }
def ProfileUsageUptoSaid : Prop := profileUsageUptoRow.holds Try.pinned (OpenSpec.upto profileUsageSpec)

/-- 'jacquardlaw35.SchedcheckArcs', WHERE WHAT IT READS IS OF BULK AT MOST 1048576: true; the input reads as it did. -/
def schedcheckArcsUptoRow : OpenClaim := { program := "ytepcpjnhhpjacaa", sum := "c0325c3fad0e9e3637b59ebce99705d594b697f82f94288decdf660de15cdcd6", func := "jacquard/jacquardlaw35.SchedcheckArcs", spec := "schedcheckArcs", unfollowed := true, recurses := true, plainKeys := false, apart := false, narrowed := true }
def SchedcheckArcsUptoSaid : Prop := schedcheckArcsUptoRow.holds Try.pinned (OpenSpec.upto schedcheckArcsSpec)

/-- 'jacquardlaw08.IrGraph', WHERE WHAT IT READS IS OF BULK AT MOST 1048576: true; the input reads as it did. -/
def irGraphUptoRow : OpenClaim := { program := "ytepcpjnhhpjacaa", sum := "c0325c3fad0e9e3637b59ebce99705d594b697f82f94288decdf660de15cdcd6", func := "jacquard/jacquardlaw08.IrGraph", spec := "irGraph", unfollowed := true, recurses := true, plainKeys := false, apart := false, narrowed := true }
def IrGraphUptoSaid : Prop := irGraphUptoRow.holds Try.pinned (OpenSpec.upto irGraphSpec)

end Rows
end Go.Proofs.Ytepcpjnhhpjacaa
