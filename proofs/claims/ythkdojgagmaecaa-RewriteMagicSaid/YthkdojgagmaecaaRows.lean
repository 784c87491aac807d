/-
  No cell of these rows narrows 'for every input' (looked for: loops, veiled, ifaces, maps, wideKeys, modest, calm, conditions, laid).
  DERIVED. THE GIVEN ROWS OF THIS SEAT. 6 by the template 'for every input the law returns true; each argument reads behind the call as it read before'; 0 by the template 'total and deterministic' (their statements: YthkdojgagmaecaaTotals.lean).
  GIVEN WITH THE SEED: the statements are not yours to turn. If you find one false, say at which input.
  Laid BY PROGRAM, IN A SANDBOX (cutbox-rows.mjs): the forced cells as the released guide's own fill.sh prints them over the translation 253fe5a38d0a1288… (all of the seat's roots in one cut). By AI agents, Wed Nov 11 2026. No macro, syntax, notation, axiom, sorry.
-/
import Derived.Test.YthkdojgagmaecaaChecked
import GoSem.Claim
import GoSem.ClaimJoined
import GoSem.ClaimMapViews
import Derived.JoinedTies
import Derived.KernelRfl
namespace Go.Proofs.Ythkdojgagmaecaa
/- THE CELL 'sum', in the pinned program and in every row, IS THE sha256 OF THE DUMP (.gsa) THAT YthkdojgagmaecaaProg.lean LOADS. Nothing in Lean hashes anything: it is a label: what it is worth is what the hold of that sum in a sandbox is worth. -/
noncomputable def Try.pinned : Pinned := { name := "ythkdojgagmaecaa", sum := "253fe5a38d0a12884e5b8850e634e63bfb05af96bcd7693a76b3163fa680e2b7", checked := Try.checked }
namespace Rows
def none {H : Type} : Left H := { results := [], args := [] }

/-- 'jacquardlaw27.LibraryGrows': WHATEVER THE INPUT: true; the input reads as it did. -/
def libraryGrowsSpec : ChangeSpec := { name := "libraryGrows", fn := fun _ => fun
  | [d1, d2, d3] => { results := [.lit (.bool true)], args := [d1, d2, d3] }
  | _ => none }
def libraryGrowsRow : OpenClaim := { program := "ythkdojgagmaecaa", sum := "253fe5a38d0a12884e5b8850e634e63bfb05af96bcd7693a76b3163fa680e2b7", func := "jacquard/jacquardlaw27.LibraryGrows", spec := "libraryGrows", apart := false }
def LibraryGrowsSaid : Prop := libraryGrowsRow.holds Try.pinned (OpenSpec.ofChange libraryGrowsSpec)

/-- ITS FALSE NEIGHBOUR: 'it returns false'. Refute it at one input. -/
def libraryGrowsWrong : ChangeSpec := { name := "libraryGrows", fn := fun _ => fun
  | [d1, d2, d3] => { results := [.lit (.bool false)], args := [d1, d2, d3] }
  | _ => none }
def LibraryGrowsWrongFalsely : Prop := libraryGrowsRow.holds Try.pinned (OpenSpec.ofChange libraryGrowsWrong)

/-- 'jacquardlaw27.LibraryLevels': WHATEVER THE INPUT: true; the input reads as it did. -/
def libraryLevelsSpec : ChangeSpec := { name := "libraryLevels", fn := fun _ => fun
  | [d] => { results := [.lit (.bool true)], args := [d] }
  | _ => none }
def libraryLevelsRow : OpenClaim := { program := "ythkdojgagmaecaa", sum := "253fe5a38d0a12884e5b8850e634e63bfb05af96bcd7693a76b3163fa680e2b7", func := "jacquard/jacquardlaw27.LibraryLevels", spec := "libraryLevels", apart := false }
def LibraryLevelsSaid : Prop := libraryLevelsRow.holds Try.pinned (OpenSpec.ofChange libraryLevelsSpec)

/-- ITS FALSE NEIGHBOUR: 'it returns false'. Refute it at one input. -/
def libraryLevelsWrong : ChangeSpec := { name := "libraryLevels", fn := fun _ => fun
  | [d] => { results := [.lit (.bool false)], args := [d] }
  | _ => none }
def LibraryLevelsWrongFalsely : Prop := libraryLevelsRow.holds Try.pinned (OpenSpec.ofChange libraryLevelsWrong)

/-- 'jacquardlaw27.LibraryTable': WHATEVER THE INPUT: true; the input reads as it did. -/
def libraryTableSpec : ChangeSpec := { name := "libraryTable", fn := fun _ => fun
  | [d1, d2] => { results := [.lit (.bool true)], args := [d1, d2] }
  | _ => none }
def libraryTableRow : OpenClaim := { program := "ythkdojgagmaecaa", sum := "253fe5a38d0a12884e5b8850e634e63bfb05af96bcd7693a76b3163fa680e2b7", func := "jacquard/jacquardlaw27.LibraryTable", spec := "libraryTable", apart := false }
def LibraryTableSaid : Prop := libraryTableRow.holds Try.pinned (OpenSpec.ofChange libraryTableSpec)

/-- ITS FALSE NEIGHBOUR: 'it returns false'. Refute it at one input. -/
def libraryTableWrong : ChangeSpec := { name := "libraryTable", fn := fun _ => fun
  | [d1, d2] => { results := [.lit (.bool false)], args := [d1, d2] }
  | _ => none }
def LibraryTableWrongFalsely : Prop := libraryTableRow.holds Try.pinned (OpenSpec.ofChange libraryTableWrong)

/-- 'jacquardlaw08.IrOperators': WHATEVER THE INPUT: true; the input reads as it did. -/
def irOperatorsSpec : ChangeSpec := { name := "irOperators", fn := fun _ => fun
  | [d] => { results := [.lit (.bool true)], args := [d] }
  | _ => none }
def irOperatorsRow : OpenClaim := { program := "ythkdojgagmaecaa", sum := "253fe5a38d0a12884e5b8850e634e63bfb05af96bcd7693a76b3163fa680e2b7", func := "jacquard/jacquardlaw08.IrOperators", spec := "irOperators", apart := false }
def IrOperatorsSaid : Prop := irOperatorsRow.holds Try.pinned (OpenSpec.ofChange irOperatorsSpec)

/-- ITS FALSE NEIGHBOUR: 'it returns false'. Refute it at one input. -/
def irOperatorsWrong : ChangeSpec := { name := "irOperators", fn := fun _ => fun
  | [d] => { results := [.lit (.bool false)], args := [d] }
  | _ => none }
def IrOperatorsWrongFalsely : Prop := irOperatorsRow.holds Try.pinned (OpenSpec.ofChange irOperatorsWrong)

/-- 'jacquardlaw15.RewriteMagic': WHATEVER THE INPUT: true; the input reads as it did. -/
def rewriteMagicSpec : ChangeSpec := { name := "rewriteMagic", fn := fun _ => fun
  | [d1, d2, d3] => { results := [.lit (.bool true)], args := [d1, d2, d3] }
  | _ => none }
def rewriteMagicRow : OpenClaim := { program := "ythkdojgagmaecaa", sum := "253fe5a38d0a12884e5b8850e634e63bfb05af96bcd7693a76b3163fa680e2b7", func := "jacquard/jacquardlaw15.RewriteMagic", spec := "rewriteMagic", inPlace := ["math/bits.Sub64"], apart := false }
def RewriteMagicSaid : Prop := rewriteMagicRow.holds Try.pinned (OpenSpec.ofChange rewriteMagicSpec)

/-- ITS FALSE NEIGHBOUR: 'it returns false'. Refute it at one input. -/
def rewriteMagicWrong : ChangeSpec := { name := "rewriteMagic", fn := fun _ => fun
  | [d1, d2, d3] => { results := [.lit (.bool false)], args := [d1, d2, d3] }
  | _ => none }
def RewriteMagicWrongFalsely : Prop := rewriteMagicRow.holds Try.pinned (OpenSpec.ofChange rewriteMagicWrong)

/-- 'jacquardlaw37.LifetimePressure': WHATEVER THE INPUT: true; the input reads as it did. -/
def lifetimePressureSpec : ChangeSpec := { name := "lifetimePressure", fn := fun _ => fun
  | [d1, d2] => { results := [.lit (.bool true)], args := [d1, d2] }
  | _ => none }
def lifetimePressureRow : OpenClaim := { program := "ythkdojgagmaecaa", sum := "253fe5a38d0a12884e5b8850e634e63bfb05af96bcd7693a76b3163fa680e2b7", func := "jacquard/jacquardlaw37.LifetimePressure", spec := "lifetimePressure", apart := false }
def LifetimePressureSaid : Prop := lifetimePressureRow.holds Try.pinned (OpenSpec.ofChange lifetimePressureSpec)

/-- ITS FALSE NEIGHBOUR: 'it returns false'. Refute it at one input. -/
def lifetimePressureWrong : ChangeSpec := { name := "lifetimePressure", fn := fun _ => fun
  | [d1, d2] => { results := [.lit (.bool false)], args := [d1, d2] }
  | _ => none }
def LifetimePressureWrongFalsely : Prop := lifetimePressureRow.holds Try.pinned (OpenSpec.ofChange lifetimePressureWrong)

/- THE SECOND FORM. 'bulk': how many values and letters a reading holds, each counted each time it is reached (what is shared counts as often as it is met; a slice's spare places count too). A statement '..UptoSaid' is the law's where the arguments, and the package variables that the reading takes, are together of bulk at most 1048576: NARROWER than '..Said'. Prove '..Said' where nothing that the law and all that it calls make is longer than what came in: it says more and counts as full. Else prove '..UptoSaid'. A law counts once. -/
mutual
def uptoBulk {H : Type} : DataW H → Nat
  | .lit (.string bytes) => bytes.length + 1
  | .lit _ => 1
  | .nil => 1
  | .ptr d => uptoBulk d + 1
  | .slice elems spare => uptoBulkAll elems + uptoBulkAll spare + 1
  | .agg parts => uptoBulkAll parts + 1
  | .iface _ d => uptoBulk d + 1
  | .map entries => uptoBulkEntries entries + 1
  | .held _ => 1
def uptoBulkAll {H : Type} : List (DataW H) → Nat
  | [] => 0
  | d :: r => uptoBulk d + uptoBulkAll r
def uptoBulkEntries {H : Type} : List (Lit × DataW H) → Nat
  | [] => 0
  | x :: r => uptoBulkEntry x + uptoBulkEntries r
def uptoBulkEntry {H : Type} : Lit × DataW H → Nat
  | (.string bytes, d) => bytes.length + uptoBulk d + 1
  | (_, d) => uptoBulk d + 1
 end
def uptoSmall : (H : Type) → List (DataW H) → Bool := fun _ ds => decide (uptoBulkAll ds ≤ 1048576)
def OpenSpec.upto (s : _root_.Go.ChangeSpec) : _root_.Go.OpenSpec := { _root_.Go.OpenSpec.ofChange s with cond := some uptoSmall }

/-- 'jacquardlaw27.LibraryGrows', WHERE WHAT IT READS IS OF BULK AT MOST 1048576: true; the input reads as it did. -/
def libraryGrowsUptoRow : OpenClaim := { program := "ythkdojgagmaecaa", sum := "253fe5a38d0a12884e5b8850e634e63bfb05af96bcd7693a76b3163fa680e2b7", func := "jacquard/jacquardlaw27.LibraryGrows", spec := "libraryGrows", apart := false, narrowed := true }
def LibraryGrowsUptoSaid : Prop := libraryGrowsUptoRow.holds Try.pinned (OpenSpec.upto libraryGrowsSpec)

/-- 'jacquardlaw27.LibraryLevels', WHERE WHAT IT READS IS OF BULK AT MOST 1048576: true; the input reads as it did. -/
def libraryLevelsUptoRow : OpenClaim := { program := "ythkdojgagmaecaa", sum := "253fe5a38d0a12884e5b8850e634e63bfb05af96bcd7693a76b3163fa680e2b7", func := "jacquard/jacquardlaw27.LibraryLevels", spec := "libraryLevels", apart := false, narrowed := true }
def LibraryLevelsUptoSaid : Prop := libraryLevelsUptoRow.holds Try.pinned (OpenSpec.upto libraryLevelsSpec)

/-- 'jacquardlaw27.LibraryTable', WHERE WHAT IT READS IS OF BULK AT MOST 1048576: true; the input reads as it did. -/
def libraryTableUptoRow : OpenClaim := { program := "ythkdojgagmaecaa", sum := "253fe5a38d0a12884e5b8850e634e63bfb05af96bcd7693a76b3163fa680e2b7", func := "jacquard/jacquardlaw27.LibraryTable", spec := "libraryTable", apart := false, narrowed := true }
def LibraryTableUptoSaid : Prop := libraryTableUptoRow.holds Try.pinned (OpenSpec.upto libraryTableSpec)

/-- 'jacquardlaw08.IrOperators', WHERE WHAT IT READS IS OF BULK AT MOST 1048576: true; the input reads as it did. -/
def irOperatorsUptoRow : OpenClaim := { program := "ythkdojgagmaecaa", sum := "253fe5a38d0a12884e5b8850e634e63bfb05af96bcd7693a76b3163fa680e2b7", func := "jacquard/jacquardlaw08.IrOperators", spec := "irOperators", apart := false, narrowed := true }
def IrOperatorsUptoSaid : Prop := irOperatorsUptoRow.holds Try.pinned (OpenSpec.upto irOperatorsSpec)

/-- 'jacquardlaw15.RewriteMagic', WHERE WHAT IT READS IS OF BULK AT MOST 1048576: true; the input reads as it did. -/
def rewriteMagicUptoRow : OpenClaim := { program := "ythkdojgagmaecaa", sum := "253fe5a38d0a12884e5b8850e634e63bfb05af96bcd7693a76b3163fa680e2b7", func := "jacquard/jacquardlaw15.RewriteMagic", spec := "rewriteMagic", inPlace := ["math/bits.Sub64"], apart := false, narrowed := true }
def RewriteMagicUptoSaid : Prop := rewriteMagicUptoRow.holds Try.pinned (OpenSpec.upto rewriteMagicSpec)

/-- 'jacquardlaw37.LifetimePressure', WHERE WHAT IT READS IS OF BULK AT MOST 1048576: true; the input reads as it did. -/
def lifetimePressureUptoRow : OpenClaim := { program := "ythkdojgagmaecaa", sum := "253fe5a38d0a12884e5b8850e634e63bfb05af96bcd7693a76b3163fa680e2b7", func := "jacquard/jacquardlaw37.LifetimePressure", spec := "lifetimePressure", apart := false, narrowed := true }
def LifetimePressureUptoSaid : Prop := lifetimePressureUptoRow.holds Try.pinned (OpenSpec.upto lifetimePressureSpec)

end Rows
end Go.Proofs.Ythkdojgagmaecaa
