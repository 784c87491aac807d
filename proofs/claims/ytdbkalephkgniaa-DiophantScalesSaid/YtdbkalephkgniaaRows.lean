/-
  No cell of these rows narrows 'for every input' (looked for: loops, veiled, ifaces, maps, wideKeys, modest, calm, conditions, laid).
  DERIVED. THE GIVEN ROWS OF THIS SEAT. 6 by the template 'for every input the law returns true; each argument reads behind the call as it read before'; 0 by the template 'total and deterministic' (their statements: YtdbkalephkgniaaTotals.lean).
  GIVEN WITH THE SEED: the statements are not yours to turn. If you find one false, say at which input.
  Laid BY PROGRAM, IN A SANDBOX (cutbox-rows.mjs): the forced cells as the released guide's own fill.sh prints them over the translation 8b2bd0a168d2683a… (all of the seat's roots in one cut). By AI agents, Wed Nov 11 2026. No macro, syntax, notation, axiom, sorry.
-/
import Derived.Test.YtdbkalephkgniaaChecked
import GoSem.Claim
import GoSem.ClaimJoined
import GoSem.ClaimMapViews
import Derived.JoinedTies
import Derived.KernelRfl
namespace Go.Proofs.Ytdbkalephkgniaa
/- THE CELL 'sum', in the pinned program and in every row, IS THE sha256 OF THE DUMP (.gsa) THAT YtdbkalephkgniaaProg.lean LOADS. Nothing in Lean hashes anything: it is a label: what it is worth is what the hold of that sum in a sandbox is worth. -/
noncomputable def Try.pinned : Pinned := { name := "ytdbkalephkgniaa", sum := "8b2bd0a168d2683a240810b6738e5f3db0f54ce1aa15da5e50c01e8aa296181e", checked := Try.checked }
namespace Rows
def none {H : Type} : Left H := { results := [], args := [] }

/-- 'jacquardlaw24.DiophantLines': WHATEVER THE INPUT: true; the input reads as it did. -/
def diophantLinesSpec : ChangeSpec := { name := "diophantLines", fn := fun _ => fun
  | [d1, d2] => { results := [.lit (.bool true)], args := [d1, d2] }
  | _ => none }
def diophantLinesRow : OpenClaim := { program := "ytdbkalephkgniaa", sum := "8b2bd0a168d2683a240810b6738e5f3db0f54ce1aa15da5e50c01e8aa296181e", func := "jacquard/jacquardlaw24.DiophantLines", spec := "diophantLines", apart := false }
def DiophantLinesSaid : Prop := diophantLinesRow.holds Try.pinned (OpenSpec.ofChange diophantLinesSpec)

/-- ITS FALSE NEIGHBOUR: 'it returns false'. Refute it at one input. -/
def diophantLinesWrong : ChangeSpec := { name := "diophantLines", fn := fun _ => fun
  | [d1, d2] => { results := [.lit (.bool false)], args := [d1, d2] }
  | _ => none }
def DiophantLinesWrongFalsely : Prop := diophantLinesRow.holds Try.pinned (OpenSpec.ofChange diophantLinesWrong)

/-- 'jacquardlaw24.DiophantScales': WHATEVER THE INPUT: true; the input reads as it did. -/
def diophantScalesSpec : ChangeSpec := { name := "diophantScales", fn := fun _ => fun
  | [d1, d2] => { results := [.lit (.bool true)], args := [d1, d2] }
  | _ => none }
def diophantScalesRow : OpenClaim := { program := "ytdbkalephkgniaa", sum := "8b2bd0a168d2683a240810b6738e5f3db0f54ce1aa15da5e50c01e8aa296181e", func := "jacquard/jacquardlaw24.DiophantScales", spec := "diophantScales", apart := false }
def DiophantScalesSaid : Prop := diophantScalesRow.holds Try.pinned (OpenSpec.ofChange diophantScalesSpec)

/-- ITS FALSE NEIGHBOUR: 'it returns false'. Refute it at one input. -/
def diophantScalesWrong : ChangeSpec := { name := "diophantScales", fn := fun _ => fun
  | [d1, d2] => { results := [.lit (.bool false)], args := [d1, d2] }
  | _ => none }
def DiophantScalesWrongFalsely : Prop := diophantScalesRow.holds Try.pinned (OpenSpec.ofChange diophantScalesWrong)

/-- 'jacquardlaw38.ColorOverlaps': WHATEVER THE INPUT: true; the input reads as it did. -/
def colorOverlapsSpec : ChangeSpec := { name := "colorOverlaps", fn := fun _ => fun
  | [d1, d2, d3] => { results := [.lit (.bool true)], args := [d1, d2, d3] }
  | _ => none }
def colorOverlapsRow : OpenClaim := { program := "ytdbkalephkgniaa", sum := "8b2bd0a168d2683a240810b6738e5f3db0f54ce1aa15da5e50c01e8aa296181e", func := "jacquard/jacquardlaw38.ColorOverlaps", spec := "colorOverlaps", unfollowed := true, recurses := true, apart := false }
def ColorOverlapsSaid : Prop := colorOverlapsRow.holds Try.pinned (OpenSpec.ofChange colorOverlapsSpec)

/-- ITS FALSE NEIGHBOUR: 'it returns false'. Refute it at one input. -/
def colorOverlapsWrong : ChangeSpec := { name := "colorOverlaps", fn := fun _ => fun
  | [d1, d2, d3] => { results := [.lit (.bool false)], args := [d1, d2, d3] }
  | _ => none }
def ColorOverlapsWrongFalsely : Prop := colorOverlapsRow.holds Try.pinned (OpenSpec.ofChange colorOverlapsWrong)

/-- 'jacquardlaw30.DiffconsTurns': WHATEVER THE INPUT: true; the input reads as it did. -/
def diffconsTurnsSpec : ChangeSpec := { name := "diffconsTurns", fn := fun _ => fun
  | [d1, d2] => { results := [.lit (.bool true)], args := [d1, d2] }
  | _ => none }
def diffconsTurnsRow : OpenClaim := { program := "ytdbkalephkgniaa", sum := "8b2bd0a168d2683a240810b6738e5f3db0f54ce1aa15da5e50c01e8aa296181e", func := "jacquard/jacquardlaw30.DiffconsTurns", spec := "diffconsTurns", apart := false }
def DiffconsTurnsSaid : Prop := diffconsTurnsRow.holds Try.pinned (OpenSpec.ofChange diffconsTurnsSpec)

/-- ITS FALSE NEIGHBOUR: 'it returns false'. Refute it at one input. -/
def diffconsTurnsWrong : ChangeSpec := { name := "diffconsTurns", fn := fun _ => fun
  | [d1, d2] => { results := [.lit (.bool false)], args := [d1, d2] }
  | _ => none }
def DiffconsTurnsWrongFalsely : Prop := diffconsTurnsRow.holds Try.pinned (OpenSpec.ofChange diffconsTurnsWrong)

/-- 'jacquardlaw30.DiffconsHolds': WHATEVER THE INPUT: true; the input reads as it did. -/
def diffconsHoldsSpec : ChangeSpec := { name := "diffconsHolds", fn := fun _ => fun
  | [d1, d2, d3] => { results := [.lit (.bool true)], args := [d1, d2, d3] }
  | _ => none }
def diffconsHoldsRow : OpenClaim := { program := "ytdbkalephkgniaa", sum := "8b2bd0a168d2683a240810b6738e5f3db0f54ce1aa15da5e50c01e8aa296181e", func := "jacquard/jacquardlaw30.DiffconsHolds", spec := "diffconsHolds", unfollowed := true, recurses := true, apart := false }
def DiffconsHoldsSaid : Prop := diffconsHoldsRow.holds Try.pinned (OpenSpec.ofChange diffconsHoldsSpec)

/-- ITS FALSE NEIGHBOUR: 'it returns false'. Refute it at one input. -/
def diffconsHoldsWrong : ChangeSpec := { name := "diffconsHolds", fn := fun _ => fun
  | [d1, d2, d3] => { results := [.lit (.bool false)], args := [d1, d2, d3] }
  | _ => none }
def DiffconsHoldsWrongFalsely : Prop := diffconsHoldsRow.holds Try.pinned (OpenSpec.ofChange diffconsHoldsWrong)

/-- 'jacquardlaw08.IrSame': WHATEVER THE INPUT: true; the input reads as it did. -/
def irSameSpec : ChangeSpec := { name := "irSame", fn := fun _ => fun
  | [d1, d2] => { results := [.lit (.bool true)], args := [d1, d2] }
  | _ => none }
def irSameRow : OpenClaim := { program := "ytdbkalephkgniaa", sum := "8b2bd0a168d2683a240810b6738e5f3db0f54ce1aa15da5e50c01e8aa296181e", func := "jacquard/jacquardlaw08.IrSame", spec := "irSame", unfollowed := true, recurses := true, apart := false }
def IrSameSaid : Prop := irSameRow.holds Try.pinned (OpenSpec.ofChange irSameSpec)

/-- ITS FALSE NEIGHBOUR: 'it returns false'. Refute it at one input. -/
def irSameWrong : ChangeSpec := { name := "irSame", fn := fun _ => fun
  | [d1, d2] => { results := [.lit (.bool false)], args := [d1, d2] }
  | _ => none }
def IrSameWrongFalsely : Prop := irSameRow.holds Try.pinned (OpenSpec.ofChange irSameWrong)

/- THE SECOND FORM. 'bulk': how many values and letters a reading holds, each counted each time it is reached (what is shared counts as often as it is met; a slice's spare places count too). A statement '..UptoSaid' is the law's where the arguments, and the package variables that the reading takes, are together of bulk at most 1048576: NARROWER than '..Said'. Prove '..Said' where nothing that the law and all that it calls make is longer than what came in: it says more and counts as full. Else prove '..UptoSaid'. A law counts once. -/
mutual
def uptoBulk {H : Type} : DataW H → Nat
  | .lit (.string bytes) => bytes.length + 1
  | .lit _ => 1
  | .nil => 1
  | .ptr d => uptoBulk d + 1
  | .slice elems spare => uptoBulkAll elems + uptoBulkAll spare + 1
  | .agg parts => uptoBulkAll parts + 1
  | .iface _ d => uptoBulk d + 1
  | .map entries => uptoBulkEntries entries + 1
  | .held _ => 1
def uptoBulkAll {H : Type} : List (DataW H) → Nat
  | [] => 0
  | d :: r => uptoBulk d + uptoBulkAll r
def uptoBulkEntries {H : Type} : List (Lit × DataW H) → Nat
  | [] => 0
  | x :: r => uptoBulkEntry x + uptoBulkEntries r
def uptoBulkEntry {H : Type} : Lit × DataW H → Nat
  | (.string bytes, d) => bytes.length + uptoBulk d + 1
  | (_, d) => uptoBulk d + 1
 end
def uptoSmall : (H : Type) → List (DataW H) → Bool := fun _ ds => decide (uptoBulkAll ds ≤ 1048576)
def OpenSpec.upto (s : _root_.Go.ChangeSpec) : _root_.Go.OpenSpec := { _root_.Go.OpenSpec.ofChange s with cond := some uptoSmall }

/-- 'jacquardlaw24.DiophantLines', WHERE WHAT IT READS IS OF BULK AT MOST 1048576: true; the input reads as it did. -/
def diophantLinesUptoRow : OpenClaim := { program := "ytdbkalephkgniaa", sum := "8b2bd0a168d2683a240810b6738e5f3db0f54ce1aa15da5e50c01e8aa296181e", func := "jacquard/jacquardlaw24.DiophantLines", spec := "diophantLines", apart := false, narrowed := true }
def DiophantLinesUptoSaid : Prop := diophantLinesUptoRow.holds Try.pinned (OpenSpec.upto diophantLinesSpec)

/-- 'jacquardlaw24.DiophantScales', WHERE WHAT IT READS IS OF BULK AT MOST 1048576: true; the input reads as it did. -/
def diophantScalesUptoRow : OpenClaim := { program := "ytdbkalephkgniaa", sum := "8b2bd0a168d2683a240810b6738e5f3db0f54ce1aa15da5e50c01e8aa296181e", func := "jacquard/jacquardlaw24.DiophantScales", spec := "diophantScales", apart := false, narrowed := true }
def DiophantScalesUptoSaid : Prop := diophantScalesUptoRow.holds Try.pinned (OpenSpec.upto diophantScalesSpec)

/-- 'jacquardlaw38.ColorOverlaps', WHERE WHAT IT READS IS OF BULK AT MOST 1048576: true; the input reads as it did. -/
def colorOverlapsUptoRow : OpenClaim := { program := "ytdbkalephkgniaa", sum := "8b2bd0a168d2683a240810b6738e5f3db0f54ce1aa15da5e50c01e8aa296181e", func := "jacquard/jacquardlaw38.ColorOverlaps", spec := "colorOverlaps", unfollowed := true, recurses := true, apart := false, narrowed := true }
def ColorOverlapsUptoSaid : Prop := colorOverlapsUptoRow.holds Try.pinned (OpenSpec.upto colorOverlapsSpec)

/-- 'jacquardlaw30.DiffconsTurns', WHERE WHAT IT READS IS OF BULK AT MOST 1048576: true; the input reads as it did. -/
def diffconsTurnsUptoRow : OpenClaim := { program := "ytdbkalephkgniaa", sum := "8b2bd0a168d2683a240810b6738e5f3db0f54ce1aa15da5e50c01e8aa296181e", func := "jacquard/jacquardlaw30.DiffconsTurns", spec := "diffconsTurns", apart := false, narrowed := true }
def DiffconsTurnsUptoSaid : Prop := diffconsTurnsUptoRow.holds Try.pinned (OpenSpec.upto diffconsTurnsSpec)

/-- 'jacquardlaw30.DiffconsHolds', WHERE WHAT IT READS IS OF BULK AT MOST 1048576: true; the input reads as it did. -/
def diffconsHoldsUptoRow : OpenClaim := { program := "ytdbkalephkgniaa", sum := "8b2bd0a168d2683a240810b6738e5f3db0f54ce1aa15da5e50c01e8aa296181e", func := "jacquard/jacquardlaw30.DiffconsHolds", spec := "diffconsHolds", unfollowed := true, recurses := true, apart := false, narrowed := true }
def DiffconsHoldsUptoSaid : Prop := diffconsHoldsUptoRow.holds Try.pinned (OpenSpec.upto diffconsHoldsSpec)

/-- 'jacquardlaw08.IrSame', WHERE WHAT IT READS IS OF BULK AT MOST 1048576: true; the input reads as it did. -/
def irSameUptoRow : OpenClaim := { program := "ytdbkalephkgniaa", sum := "8b2bd0a168d2683a240810b6738e5f3db0f54ce1aa15da5e50c01e8aa296181e", func := "jacquard/jacquardlaw08.IrSame", spec := "irSame", unfollowed := true, recurses := true, apart := false, narrowed := true }
def IrSameUptoSaid : Prop := irSameUptoRow.holds Try.pinned (OpenSpec.upto irSameSpec)

end Rows
end Go.Proofs.Ytdbkalephkgniaa
