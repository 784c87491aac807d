/-
  No cell of these rows narrows 'for every input' (looked for: loops, veiled, ifaces, maps, wideKeys, modest, calm, conditions, laid).
  DERIVED. THE GIVEN ROWS OF THIS SEAT. 6 by the template 'for every input the law returns true; each argument reads behind the call as it read before'; 0 by the template 'total and deterministic' (their statements: YtpmbcnknnolojaaTotals.lean).
  GIVEN WITH THE SEED: the statements are not yours to turn. If you find one false, say at which input.
  Laid BY PROGRAM, IN A SANDBOX (cutbox-rows.mjs): the forced cells as the released guide's own fill.sh prints them over the translation 16f6608978dfd5a6… (all of the seat's roots in one cut). By AI agents, Wed Nov 11 2026. No macro, syntax, notation, axiom, sorry.
-/
import Derived.Test.YtpmbcnknnolojaaChecked
import GoSem.Claim
import GoSem.ClaimJoined
import GoSem.ClaimMapViews
import Derived.JoinedTies
import Derived.KernelRfl
namespace Go.Proofs.Ytpmbcnknnolojaa
/- THE CELL 'sum', in the pinned program and in every row, IS THE sha256 OF THE DUMP (.gsa) THAT YtpmbcnknnolojaaProg.lean LOADS. Nothing in Lean hashes anything: it is a label: what it is worth is what the hold of that sum in a sandbox is worth. -/
noncomputable def Try.pinned : Pinned := { name := "ytpmbcnknnolojaa", sum := "16f6608978dfd5a6445c8441b2294feb9afa55b11280de0ef2a399899a87f555", checked := Try.checked }
namespace Rows
def none {H : Type} : Left H := { results := [], args := [] }

/-- 'jacquardlaw30.DiffconsTurns': WHATEVER THE INPUT: true; the input reads as it did. -/
def diffconsTurnsSpec : ChangeSpec := { name := "diffconsTurns", fn := fun _ => fun
  | [d1, d2] => { results := [.lit (.bool true)], args := [d1, d2] }
  | _ => none }
def diffconsTurnsRow : OpenClaim := { program := "ytpmbcnknnolojaa", sum := "16f6608978dfd5a6445c8441b2294feb9afa55b11280de0ef2a399899a87f555", func := "jacquard/jacquardlaw30.DiffconsTurns", spec := "diffconsTurns", apart := false }
def DiffconsTurnsSaid : Prop := diffconsTurnsRow.holds Try.pinned (OpenSpec.ofChange diffconsTurnsSpec)

/-- ITS FALSE NEIGHBOUR: 'it returns false'. Refute it at one input. -/
def diffconsTurnsWrong : ChangeSpec := { name := "diffconsTurns", fn := fun _ => fun
  | [d1, d2] => { results := [.lit (.bool false)], args := [d1, d2] }
  | _ => none }
def DiffconsTurnsWrongFalsely : Prop := diffconsTurnsRow.holds Try.pinned (OpenSpec.ofChange diffconsTurnsWrong)

/-- 'jacquardlaw30.DiffconsHolds': WHATEVER THE INPUT: true; the input reads as it did. -/
def diffconsHoldsSpec : ChangeSpec := { name := "diffconsHolds", fn := fun _ => fun
  | [d1, d2, d3] => { results := [.lit (.bool true)], args := [d1, d2, d3] }
  | _ => none }
def diffconsHoldsRow : OpenClaim := { program := "ytpmbcnknnolojaa", sum := "16f6608978dfd5a6445c8441b2294feb9afa55b11280de0ef2a399899a87f555", func := "jacquard/jacquardlaw30.DiffconsHolds", spec := "diffconsHolds", unfollowed := true, recurses := true, apart := false }
def DiffconsHoldsSaid : Prop := diffconsHoldsRow.holds Try.pinned (OpenSpec.ofChange diffconsHoldsSpec)

/-- ITS FALSE NEIGHBOUR: 'it returns false'. Refute it at one input. -/
def diffconsHoldsWrong : ChangeSpec := { name := "diffconsHolds", fn := fun _ => fun
  | [d1, d2, d3] => { results := [.lit (.bool false)], args := [d1, d2, d3] }
  | _ => none }
def DiffconsHoldsWrongFalsely : Prop := diffconsHoldsRow.holds Try.pinned (OpenSpec.ofChange diffconsHoldsWrong)

/-- 'jacquardlaw30.DiffconsIntervals': WHATEVER THE INPUT: true; the input reads as it did. -/
def diffconsIntervalsSpec : ChangeSpec := { name := "diffconsIntervals", fn := fun _ => fun
  | [d1, d2] => { results := [.lit (.bool true)], args := [d1, d2] }
  | _ => none }
def diffconsIntervalsRow : OpenClaim := { program := "ytpmbcnknnolojaa", sum := "16f6608978dfd5a6445c8441b2294feb9afa55b11280de0ef2a399899a87f555", func := "jacquard/jacquardlaw30.DiffconsIntervals", spec := "diffconsIntervals", apart := false }
def DiffconsIntervalsSaid : Prop := diffconsIntervalsRow.holds Try.pinned (OpenSpec.ofChange diffconsIntervalsSpec)

/-- ITS FALSE NEIGHBOUR: 'it returns false'. Refute it at one input. -/
def diffconsIntervalsWrong : ChangeSpec := { name := "diffconsIntervals", fn := fun _ => fun
  | [d1, d2] => { results := [.lit (.bool false)], args := [d1, d2] }
  | _ => none }
def DiffconsIntervalsWrongFalsely : Prop := diffconsIntervalsRow.holds Try.pinned (OpenSpec.ofChange diffconsIntervalsWrong)

/-- 'jacquardlaw14.FactsElements': WHATEVER THE INPUT: true; the input reads as it did. -/
def factsElementsSpec : ChangeSpec := { name := "factsElements", fn := fun _ => fun
  | [d1, d2, d3] => { results := [.lit (.bool true)], args := [d1, d2, d3] }
  | _ => none }
def factsElementsRow : OpenClaim := { program := "ytpmbcnknnolojaa", sum := "16f6608978dfd5a6445c8441b2294feb9afa55b11280de0ef2a399899a87f555", func := "jacquard/jacquardlaw14.FactsElements", spec := "factsElements", apart := false }
def FactsElementsSaid : Prop := factsElementsRow.holds Try.pinned (OpenSpec.ofChange factsElementsSpec)

/-- ITS FALSE NEIGHBOUR: 'it returns false'. Refute it at one input. -/
def factsElementsWrong : ChangeSpec := { name := "factsElements", fn := fun _ => fun
  | [d1, d2, d3] => { results := [.lit (.bool false)], args := [d1, d2, d3] }
  | _ => none }
def FactsElementsWrongFalsely : Prop := factsElementsRow.holds Try.pinned (OpenSpec.ofChange factsElementsWrong)

/-- 'jacquardlaw14.FactsTightens': WHATEVER THE INPUT: true; the input reads as it did. -/
def factsTightensSpec : ChangeSpec := { name := "factsTightens", fn := fun _ => fun
  | [d1, d2, d3] => { results := [.lit (.bool true)], args := [d1, d2, d3] }
  | _ => none }
def factsTightensRow : OpenClaim := { program := "ytpmbcnknnolojaa", sum := "16f6608978dfd5a6445c8441b2294feb9afa55b11280de0ef2a399899a87f555", func := "jacquard/jacquardlaw14.FactsTightens", spec := "factsTightens", apart := false }
def FactsTightensSaid : Prop := factsTightensRow.holds Try.pinned (OpenSpec.ofChange factsTightensSpec)

/-- ITS FALSE NEIGHBOUR: 'it returns false'. Refute it at one input. -/
def factsTightensWrong : ChangeSpec := { name := "factsTightens", fn := fun _ => fun
  | [d1, d2, d3] => { results := [.lit (.bool false)], args := [d1, d2, d3] }
  | _ => none }
def FactsTightensWrongFalsely : Prop := factsTightensRow.holds Try.pinned (OpenSpec.ofChange factsTightensWrong)

/-- 'jacquardlaw46.GatesDepths': WHATEVER THE INPUT: true; the input reads as it did. -/
def gatesDepthsSpec : ChangeSpec := { name := "gatesDepths", fn := fun _ => fun
  | [d1, d2] => { results := [.lit (.bool true)], args := [d1, d2] }
  | _ => none }
def gatesDepthsRow : OpenClaim := { program := "ytpmbcnknnolojaa", sum := "16f6608978dfd5a6445c8441b2294feb9afa55b11280de0ef2a399899a87f555", func := "jacquard/jacquardlaw46.GatesDepths", spec := "gatesDepths", apart := false }
def GatesDepthsSaid : Prop := gatesDepthsRow.holds Try.pinned (OpenSpec.ofChange gatesDepthsSpec)

/-- ITS FALSE NEIGHBOUR: 'it returns false'. Refute it at one input. -/
def gatesDepthsWrong : ChangeSpec := { name := "gatesDepths", fn := fun _ => fun
  | [d1, d2] => { results := [.lit (.bool false)], args := [d1, d2] }
  | _ => none }
def GatesDepthsWrongFalsely : Prop := gatesDepthsRow.holds Try.pinned (OpenSpec.ofChange gatesDepthsWrong)

/- THE SECOND FORM. 'bulk': how many values and letters a reading holds, each counted each time it is reached (what is shared counts as often as it is met; a slice's spare places count too). A statement '..UptoSaid' is the law's where the arguments, and the package variables that the reading takes, are together of bulk at most 1048576: NARROWER than '..Said'. Prove '..Said' where nothing that the law and all that it calls make is longer than what came in: it says more and counts as full. Else prove '..UptoSaid'. A law counts once. -/
mutual
def uptoBulk {H : Type} : DataW H → Nat
  | .lit (.string bytes) => bytes.length + 1
  | .lit _ => 1
  | .nil => 1
  | .ptr d => uptoBulk d + 1
  | .slice elems spare => uptoBulkAll elems + uptoBulkAll spare + 1
  | .agg parts => uptoBulkAll parts + 1
  | .iface _ d => uptoBulk d + 1
  | .map entries => uptoBulkEntries entries + 1
  | .held _ => 1
def uptoBulkAll {H : Type} : List (DataW H) → Nat
  | [] => 0
  | d :: r => uptoBulk d + uptoBulkAll r
def uptoBulkEntries {H : Type} : List (Lit × DataW H) → Nat
  | [] => 0
  | x :: r => uptoBulkEntry x + uptoBulkEntries r
def uptoBulkEntry {H : Type} : Lit × DataW H → Nat
  | (.string bytes, d) => bytes.length + uptoBulk d + 1
  | (_, d) => uptoBulk d + 1
 end
def uptoSmall : (H : Type) → List (DataW H) → Bool := fun _ ds => decide (uptoBulkAll ds ≤ 1048576)
def OpenSpec.upto (s : _root_.Go.ChangeSpec) : _root_.Go.OpenSpec := { _root_.Go.OpenSpec.ofChange s with cond := some uptoSmall }

/-- 'jacquardlaw30.DiffconsTurns', WHERE WHAT IT READS IS OF BULK AT MOST 1048576: true; the input reads as it did. -/
def diffconsTurnsUptoRow : OpenClaim := { program := "ytpmbcnknnolojaa", sum := "16f6608978dfd5a6445c8441b2294feb9afa55b11280de0ef2a399899a87f555", func := "jacquard/jacquardlaw30.DiffconsTurns", spec := "diffconsTurns", apart := false, narrowed := true }
def DiffconsTurnsUptoSaid : Prop := diffconsTurnsUptoRow.holds Try.pinned (OpenSpec.upto diffconsTurnsSpec)

/-- 'jacquardlaw30.DiffconsHolds', WHERE WHAT IT READS IS OF BULK AT MOST 1048576: true; the input reads as it did. -/
def diffconsHoldsUptoRow : OpenClaim := { program := "ytpmbcnknnolojaa", sum := "16f6608978dfd5a6445c8441b2294feb9afa55b11280de0ef2a399899a87f555", func := "jacquard/jacquardlaw30.DiffconsHolds", spec := "diffconsHolds", unfollowed := true, recurses := true, apart := false, narrowed := true }
def DiffconsHoldsUptoSaid : Prop := diffconsHoldsUptoRow.holds Try.pinned (OpenSpec.upto diffconsHoldsSpec)

/-- 'jacquardlaw30.DiffconsIntervals', WHERE WHAT IT READS IS OF BULK AT MOST 1048576: true; the input reads as it did. -/
def diffconsIntervalsUptoRow : OpenClaim := { program := "ytpmbcnknnolojaa", sum := "16f6608978dfd5a6445c8441b2294feb9afa55b11280de0ef2a399899a87f555", func := "jacquard/jacquardlaw30.DiffconsIntervals", spec := "diffconsIntervals", apart := false, narrowed := true }
def DiffconsIntervalsUptoSaid : Prop := diffconsIntervalsUptoRow.holds Try.pinned (OpenSpec.upto diffconsIntervalsSpec)

/-- 'jacquardlaw14.FactsElements', WHERE WHAT IT READS IS OF BULK AT MOST 1048576: true; the input reads as it did. -/
def factsElementsUptoRow : OpenClaim := { program := "ytpmbcnknnolojaa", sum := "16f6608978dfd5a6445c8441b2294feb9afa55b11280de0ef2a399899a87f555", func := "jacquard/jacquardlaw14.FactsElements", spec := "factsElements", apart := false, narrowed := true }
def FactsElementsUptoSaid : Prop := factsElementsUptoRow.holds Try.pinned (OpenSpec.upto factsElementsSpec)

/-- 'jacquardlaw14.FactsTightens', WHERE WHAT IT READS IS OF BULK AT MOST 1048576: true; the input reads as it did. -/
def factsTightensUptoRow : OpenClaim := { program := "ytpmbcnknnolojaa", sum := "16f6608978dfd5a6445c8441b2294feb9afa55b11280de0ef2a399899a87f555", func := "jacquard/jacquardlaw14.FactsTightens", spec := "factsTightens", apart := false, narrowed := true }
def FactsTightensUptoSaid : Prop := factsTightensUptoRow.holds Try.pinned (OpenSpec.upto factsTightensSpec)

/-- 'jacquardlaw46.GatesDepths', WHERE WHAT IT READS IS OF BULK AT MOST 1048576: true; the input reads as it did. -/
def gatesDepthsUptoRow : OpenClaim := { program := "ytpmbcnknnolojaa", sum := "16f6608978dfd5a6445c8441b2294feb9afa55b11280de0ef2a399899a87f555", func := "jacquard/jacquardlaw46.GatesDepths", spec := "gatesDepths", apart := false, narrowed := true }
def GatesDepthsUptoSaid : Prop := gatesDepthsUptoRow.holds Try.pinned (OpenSpec.upto gatesDepthsSpec)

end Rows
end Go.Proofs.Ytpmbcnknnolojaa
