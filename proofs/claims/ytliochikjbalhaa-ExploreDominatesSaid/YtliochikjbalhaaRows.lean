/-
  No cell of these rows narrows 'for every input' (looked for: loops, veiled, ifaces, maps, wideKeys, modest, calm, conditions, laid).
  DERIVED. THE GIVEN ROWS OF THIS SEAT. 4 by the template 'for every input the law returns true; each argument reads behind the call as it read before'; 0 by the template 'total and deterministic' (their statements: YtliochikjbalhaaTotals.lean).
  GIVEN WITH THE SEED: the statements are not yours to turn. If you find one false, say at which input.
  Laid BY PROGRAM, IN A SANDBOX (cutbox-rows.mjs): the forced cells as the released guide's own fill.sh prints them over the translation 5016f6c84c1882f2… (all of the seat's roots in one cut). By AI agents, Wed Nov 11 2026. No macro, syntax, notation, axiom, sorry.
-/
import Derived.Test.YtliochikjbalhaaChecked
import GoSem.Claim
import GoSem.ClaimJoined
import GoSem.ClaimMapViews
import Derived.JoinedTies
import Derived.KernelRfl
namespace Go.Proofs.Ytliochikjbalhaa
/- THE CELL 'sum', in the pinned program and in every row, IS THE sha256 OF THE DUMP (.gsa) THAT YtliochikjbalhaaProg.lean LOADS. Nothing in Lean hashes anything: it is a label: what it is worth is what the hold of that sum in a sandbox is worth. -/
noncomputable def Try.pinned : Pinned := { name := "ytliochikjbalhaa", sum := "5016f6c84c1882f240e7dfc91ba2487f13b677d27aa0149ea7ac8902b2f9a6bd", checked := Try.checked }
namespace Rows
def none {H : Type} : Left H := { results := [], args := [] }

/-- 'jacquardlaw27.LibraryReserves': WHATEVER THE INPUT: true; the input reads as it did. -/
def libraryReservesSpec : ChangeSpec := { name := "libraryReserves", fn := fun _ => fun
  | [d1, d2] => { results := [.lit (.bool true)], args := [d1, d2] }
  | _ => none }
def libraryReservesRow : OpenClaim := { program := "ytliochikjbalhaa", sum := "5016f6c84c1882f240e7dfc91ba2487f13b677d27aa0149ea7ac8902b2f9a6bd", func := "jacquard/jacquardlaw27.LibraryReserves", spec := "libraryReserves", apart := false }
def LibraryReservesSaid : Prop := libraryReservesRow.holds Try.pinned (OpenSpec.ofChange libraryReservesSpec)

/-- ITS FALSE NEIGHBOUR: 'it returns false'. Refute it at one input. -/
def libraryReservesWrong : ChangeSpec := { name := "libraryReserves", fn := fun _ => fun
  | [d1, d2] => { results := [.lit (.bool false)], args := [d1, d2] }
  | _ => none }
def LibraryReservesWrongFalsely : Prop := libraryReservesRow.holds Try.pinned (OpenSpec.ofChange libraryReservesWrong)

/-- 'jacquardlaw24.DiophantGcd': WHATEVER THE INPUT: true; the input reads as it did. -/
def diophantGcdSpec : ChangeSpec := { name := "diophantGcd", fn := fun _ => fun
  | [d1, d2] => { results := [.lit (.bool true)], args := [d1, d2] }
  | _ => none }
def diophantGcdRow : OpenClaim := { program := "ytliochikjbalhaa", sum := "5016f6c84c1882f240e7dfc91ba2487f13b677d27aa0149ea7ac8902b2f9a6bd", func := "jacquard/jacquardlaw24.DiophantGcd", spec := "diophantGcd", apart := false }
def DiophantGcdSaid : Prop := diophantGcdRow.holds Try.pinned (OpenSpec.ofChange diophantGcdSpec)

/-- ITS FALSE NEIGHBOUR: 'it returns false'. Refute it at one input. -/
def diophantGcdWrong : ChangeSpec := { name := "diophantGcd", fn := fun _ => fun
  | [d1, d2] => { results := [.lit (.bool false)], args := [d1, d2] }
  | _ => none }
def DiophantGcdWrongFalsely : Prop := diophantGcdRow.holds Try.pinned (OpenSpec.ofChange diophantGcdWrong)

/-- 'jacquardlaw55.ExploreDominates': WHATEVER THE INPUT: true; the input reads as it did. -/
def exploreDominatesSpec : ChangeSpec := { name := "exploreDominates", fn := fun _ => fun
  | [d1, d2, d3] => { results := [.lit (.bool true)], args := [d1, d2, d3] }
  | _ => none }
def exploreDominatesRow : OpenClaim := { program := "ytliochikjbalhaa", sum := "5016f6c84c1882f240e7dfc91ba2487f13b677d27aa0149ea7ac8902b2f9a6bd", func := "jacquard/jacquardlaw55.ExploreDominates", spec := "exploreDominates", unfollowed := true, recurses := true, apart := false }
def ExploreDominatesSaid : Prop := exploreDominatesRow.holds Try.pinned (OpenSpec.ofChange exploreDominatesSpec)

/-- ITS FALSE NEIGHBOUR: 'it returns false'. Refute it at one input. -/
def exploreDominatesWrong : ChangeSpec := { name := "exploreDominates", fn := fun _ => fun
  | [d1, d2, d3] => { results := [.lit (.bool false)], args := [d1, d2, d3] }
  | _ => none }
def ExploreDominatesWrongFalsely : Prop := exploreDominatesRow.holds Try.pinned (OpenSpec.ofChange exploreDominatesWrong)

/-- 'jacquardlaw38.ColorOverlaps': WHATEVER THE INPUT: true; the input reads as it did. -/
def colorOverlapsSpec : ChangeSpec := { name := "colorOverlaps", fn := fun _ => fun
  | [d1, d2, d3] => { results := [.lit (.bool true)], args := [d1, d2, d3] }
  | _ => none }
def colorOverlapsRow : OpenClaim := { program := "ytliochikjbalhaa", sum := "5016f6c84c1882f240e7dfc91ba2487f13b677d27aa0149ea7ac8902b2f9a6bd", func := "jacquard/jacquardlaw38.ColorOverlaps", spec := "colorOverlaps", unfollowed := true, recurses := true, apart := false }
def ColorOverlapsSaid : Prop := colorOverlapsRow.holds Try.pinned (OpenSpec.ofChange colorOverlapsSpec)

/-- ITS FALSE NEIGHBOUR: 'it returns false'. Refute it at one input. -/
def colorOverlapsWrong : ChangeSpec := { name := "colorOverlaps", fn := fun _ => fun
  | [d1, d2, d3] => { results := [.lit (.bool false)], args := [d1, d2, d3] }
  | _ => none }
def ColorOverlapsWrongFalsely : Prop := colorOverlapsRow.holds Try.pinned (OpenSpec.ofChange colorOverlapsWrong)

/- THE SECOND FORM. 'bulk': how many values and letters a reading holds, each counted each time it is reached (what is shared counts as often as it is met; a slice's spare places count too). A statement '..UptoSaid' is the law's where the arguments, and the package variables that the reading takes, are together of bulk at most 1048576: NARROWER than '..Said'. Prove '..Said' where nothing that the law and all that it calls make is longer than what came in: it says more and counts as full. Else prove '..UptoSaid'. A law counts once. -/
mutual
def uptoBulk {H : Type} : DataW H → Nat
  | .lit (.string bytes) => bytes.length + 1
  | .lit _ => 1
  | .nil => 1
  | .ptr d => uptoBulk d + 1
  | .slice elems spare => uptoBulkAll elems + uptoBulkAll spare + 1
  | .agg parts => uptoBulkAll parts + 1
  | .iface _ d => uptoBulk d + 1
  | .map entries => uptoBulkEntries entries + 1
  | .held _ => 1
def uptoBulkAll {H : Type} : List (DataW H) → Nat
  | [] => 0
  | d :: r => uptoBulk d + uptoBulkAll r
def uptoBulkEntries {H : Type} : List (Lit × DataW H) → Nat
  | [] => 0
  | x :: r => uptoBulkEntry x + uptoBulkEntries r
def uptoBulkEntry {H : Type} : Lit × DataW H → Nat
  | (.string bytes, d) => bytes.length + uptoBulk d + 1
  | (_, d) => uptoBulk d + 1
 end
def uptoSmall : (H : Type) → List (DataW H) → Bool := fun _ ds => decide (uptoBulkAll ds ≤ 1048576)
def OpenSpec.upto (s : _root_.Go.ChangeSpec) : _root_.Go.OpenSpec := { _root_.Go.OpenSpec.ofChange s with cond := some uptoSmall }

/-- 'jacquardlaw27.LibraryReserves', WHERE WHAT IT READS IS OF BULK AT MOST 1048576: true; the input reads as it did. -/
def libraryReservesUptoRow : OpenClaim := { program := "ytliochikjbalhaa", sum := "5016f6c84c1882f240e7dfc91ba2487f13b677d27aa0149ea7ac8902b2f9a6bd", func := "jacquard/jacquardlaw27.LibraryReserves", spec := "libraryReserves", apart := false, narrowed := true }
def LibraryReservesUptoSaid : Prop := libraryReservesUptoRow.holds Try.pinned (OpenSpec.upto libraryReservesSpec)

/-- 'jacquardlaw24.DiophantGcd', WHERE WHAT IT READS IS OF BULK AT MOST 1048576: true; the input reads as it did. -/
def diophantGcdUptoRow : OpenClaim := { program := "ytliochikjbalhaa", sum := "5016f6c84c1882f240e7dfc91ba2487f13b677d27aa0149ea7ac8902b2f9a6bd", func := "jacquard/jacquardlaw24.DiophantGcd", spec := "diophantGcd", apart := false, narrowed := true }
def DiophantGcdUptoSaid : Prop := diophantGcdUptoRow.holds Try.pinned (OpenSpec.upto diophantGcdSpec)

/-- 'jacquardlaw55.ExploreDominates', WHERE WHAT IT READS IS OF BULK AT MOST 1048576: true; the input reads as it did. -/
def exploreDominatesUptoRow : OpenClaim := { program := "ytliochikjbalhaa", sum := "5016f6c84c1882f240e7dfc91ba2487f13b677d27aa0149ea7ac8902b2f9a6bd", func := "jacquard/jacquardlaw55.ExploreDominates", spec := "exploreDominates", unfollowed := true, recurses := true, apart := false, narrowed := true }
def ExploreDominatesUptoSaid : Prop := exploreDominatesUptoRow.holds Try.pinned (OpenSpec.upto exploreDominatesSpec)

/-- 'jacquardlaw38.ColorOverlaps', WHERE WHAT IT READS IS OF BULK AT MOST 1048576: true; the input reads as it did. -/
def colorOverlapsUptoRow : OpenClaim := { program := "ytliochikjbalhaa", sum := "5016f6c84c1882f240e7dfc91ba2487f13b677d27aa0149ea7ac8902b2f9a6bd", func := "jacquard/jacquardlaw38.ColorOverlaps", spec := "colorOverlaps", unfollowed := true, recurses := true, apart := false, narrowed := true }
def ColorOverlapsUptoSaid : Prop := colorOverlapsUptoRow.holds Try.pinned (OpenSpec.upto colorOverlapsSpec)

end Rows
end Go.Proofs.Ytliochikjbalhaa
