/-
  No cell of these rows narrows 'for every input' (looked for: loops, veiled, ifaces, maps, wideKeys, modest, calm, conditions, laid).
  DERIVED. THE GIVEN ROWS OF THIS SEAT. 6 by the template 'for every input the law returns true; each argument reads behind the call as it read before'; 0 by the template 'total and deterministic' (their statements: YtofnegejldgdbaaTotals.lean).
  GIVEN WITH THE SEED: the statements are not yours to turn. If you find one false, say at which input.
  Laid BY PROGRAM, IN A SANDBOX (cutbox-rows.mjs): the forced cells as the released guide's own fill.sh prints them over the translation d62c9acd0d0e9b48… (all of the seat's roots in one cut). By AI agents, Wed Nov 11 2026. No macro, syntax, notation, axiom, sorry.
-/
import Derived.Test.YtofnegejldgdbaaChecked
import GoSem.Claim
import GoSem.ClaimJoined
import GoSem.ClaimMapViews
import Derived.JoinedTies
import Derived.KernelRfl
namespace Go.Proofs.Ytofnegejldgdbaa
/- THE CELL 'sum', in the pinned program and in every row, IS THE sha256 OF THE DUMP (.gsa) THAT YtofnegejldgdbaaProg.lean LOADS. Nothing in Lean hashes anything: it is a label: what it is worth is what the hold of that sum in a sandbox is worth. -/
noncomputable def Try.pinned : Pinned := { name := "ytofnegejldgdbaa", sum := "d62c9acd0d0e9b4883418e62390b34d096e83faf6d914669b6852e1460090176", checked := Try.checked }
namespace Rows
def none {H : Type} : Left H := { results := [], args := [] }

/-- 'jacquardlaw35.SchedcheckArcs': WHATEVER THE INPUT: true; the input reads as it did. -/
def schedcheckArcsSpec : ChangeSpec := { name := "schedcheckArcs", fn := fun _ => fun
  | [d1, d2] => { results := [.lit (.bool true)], args := [d1, d2] }
  | _ => none }
def schedcheckArcsRow : OpenClaim := { program := "ytofnegejldgdbaa", sum := "d62c9acd0d0e9b4883418e62390b34d096e83faf6d914669b6852e1460090176", func := "jacquard/jacquardlaw35.SchedcheckArcs", spec := "schedcheckArcs", unfollowed := true, recurses := true, plainKeys := false, apart := false }
def SchedcheckArcsSaid : Prop := schedcheckArcsRow.holds Try.pinned (OpenSpec.ofChange schedcheckArcsSpec)

/-- ITS FALSE NEIGHBOUR: 'it returns false'. Refute it at one input. -/
def schedcheckArcsWrong : ChangeSpec := { name := "schedcheckArcs", fn := fun _ => fun
  | [d1, d2] => { results := [.lit (.bool false)], args := [d1, d2] }
  | _ => none }
def SchedcheckArcsWrongFalsely : Prop := schedcheckArcsRow.holds Try.pinned (OpenSpec.ofChange schedcheckArcsWrong)

/-- 'jacquardlaw35.SchedcheckLegal': WHATEVER THE INPUT: true; the input reads as it did. -/
def schedcheckLegalSpec : ChangeSpec := { name := "schedcheckLegal", fn := fun _ => fun
  | [d1, d2] => { results := [.lit (.bool true)], args := [d1, d2] }
  | _ => none }
def schedcheckLegalRow : OpenClaim := { program := "ytofnegejldgdbaa", sum := "d62c9acd0d0e9b4883418e62390b34d096e83faf6d914669b6852e1460090176", func := "jacquard/jacquardlaw35.SchedcheckLegal", spec := "schedcheckLegal", unfollowed := true, recurses := true, plainKeys := false, apart := false }
def SchedcheckLegalSaid : Prop := schedcheckLegalRow.holds Try.pinned (OpenSpec.ofChange schedcheckLegalSpec)

/-- ITS FALSE NEIGHBOUR: 'it returns false'. Refute it at one input. -/
def schedcheckLegalWrong : ChangeSpec := { name := "schedcheckLegal", fn := fun _ => fun
  | [d1, d2] => { results := [.lit (.bool false)], args := [d1, d2] }
  | _ => none }
def SchedcheckLegalWrongFalsely : Prop := schedcheckLegalRow.holds Try.pinned (OpenSpec.ofChange schedcheckLegalWrong)

/-- 'jacquardlaw35.SchedcheckClashes': WHATEVER THE INPUT: true; the input reads as it did. -/
def schedcheckClashesSpec : ChangeSpec := { name := "schedcheckClashes", fn := fun _ => fun
  | [d1, d2] => { results := [.lit (.bool true)], args := [d1, d2] }
  | _ => none }
def schedcheckClashesRow : OpenClaim := { program := "ytofnegejldgdbaa", sum := "d62c9acd0d0e9b4883418e62390b34d096e83faf6d914669b6852e1460090176", func := "jacquard/jacquardlaw35.SchedcheckClashes", spec := "schedcheckClashes", unfollowed := true, recurses := true, plainKeys := false, apart := false }
def SchedcheckClashesSaid : Prop := schedcheckClashesRow.holds Try.pinned (OpenSpec.ofChange schedcheckClashesSpec)

/-- ITS FALSE NEIGHBOUR: 'it returns false'. Refute it at one input. -/
def schedcheckClashesWrong : ChangeSpec := { name := "schedcheckClashes", fn := fun _ => fun
  | [d1, d2] => { results := [.lit (.bool false)], args := [d1, d2] }
  | _ => none }
def SchedcheckClashesWrongFalsely : Prop := schedcheckClashesRow.holds Try.pinned (OpenSpec.ofChange schedcheckClashesWrong)

/-- 'jacquardlaw55.ExploreChoices': WHATEVER THE INPUT: true; the input reads as it did. -/
def exploreChoicesSpec : ChangeSpec := { name := "exploreChoices", fn := fun _ => fun
  | [d1, d2] => { results := [.lit (.bool true)], args := [d1, d2] }
  | _ => none }
def exploreChoicesRow : OpenClaim := { program := "ytofnegejldgdbaa", sum := "d62c9acd0d0e9b4883418e62390b34d096e83faf6d914669b6852e1460090176", func := "jacquard/jacquardlaw55.ExploreChoices", spec := "exploreChoices", unfollowed := true, recurses := true, plainKeys := false, apart := false }
def ExploreChoicesSaid : Prop := exploreChoicesRow.holds Try.pinned (OpenSpec.ofChange exploreChoicesSpec)

/-- ITS FALSE NEIGHBOUR: 'it returns false'. Refute it at one input. -/
def exploreChoicesWrong : ChangeSpec := { name := "exploreChoices", fn := fun _ => fun
  | [d1, d2] => { results := [.lit (.bool false)], args := [d1, d2] }
  | _ => none }
def ExploreChoicesWrongFalsely : Prop := exploreChoicesRow.holds Try.pinned (OpenSpec.ofChange exploreChoicesWrong)

/-- 'jacquardlaw55.ExplorePareto': WHATEVER THE INPUT: true; the input reads as it did. -/
def exploreParetoSpec : ChangeSpec := { name := "explorePareto", fn := fun _ => fun
  | [d] => { results := [.lit (.bool true)], args := [d] }
  | _ => none }
def exploreParetoRow : OpenClaim := { program := "ytofnegejldgdbaa", sum := "d62c9acd0d0e9b4883418e62390b34d096e83faf6d914669b6852e1460090176", func := "jacquard/jacquardlaw55.ExplorePareto", spec := "explorePareto", unfollowed := true, recurses := true, plainKeys := false, apart := false }
def ExploreParetoSaid : Prop := exploreParetoRow.holds Try.pinned (OpenSpec.ofChange exploreParetoSpec)

/-- ITS FALSE NEIGHBOUR: 'it returns false'. Refute it at one input. -/
def exploreParetoWrong : ChangeSpec := { name := "explorePareto", fn := fun _ => fun
  | [d] => { results := [.lit (.bool false)], args := [d] }
  | _ => none }
def ExploreParetoWrongFalsely : Prop := exploreParetoRow.holds Try.pinned (OpenSpec.ofChange exploreParetoWrong)

/-- 'jacquardlaw55.ExploreBest': WHATEVER THE INPUT: true; the input reads as it did. -/
def exploreBestSpec : ChangeSpec := { name := "exploreBest", fn := fun _ => fun
  | [d1, d2, d3] => { results := [.lit (.bool true)], args := [d1, d2, d3] }
  | _ => none }
def exploreBestRow : OpenClaim := { program := "ytofnegejldgdbaa", sum := "d62c9acd0d0e9b4883418e62390b34d096e83faf6d914669b6852e1460090176", func := "jacquard/jacquardlaw55.ExploreBest", spec := "exploreBest", unfollowed := true, recurses := true, plainKeys := false, apart := false }
def ExploreBestSaid : Prop := exploreBestRow.holds Try.pinned (OpenSpec.ofChange exploreBestSpec)

/-- ITS FALSE NEIGHBOUR: 'it returns false'. Refute it at one input. -/
def exploreBestWrong : ChangeSpec := { name := "exploreBest", fn := fun _ => fun
  | [d1, d2, d3] => { results := [.lit (.bool false)], args := [d1, d2, d3] }
  | _ => none }
def ExploreBestWrongFalsely : Prop := exploreBestRow.holds Try.pinned (OpenSpec.ofChange exploreBestWrong)

/- THE SECOND FORM. 'bulk': how many values and letters a reading holds, each counted each time it is reached (what is shared counts as often as it is met; a slice's spare places count too). A statement '..UptoSaid' is the law's where the arguments, and the package variables that the reading takes, are together of bulk at most 1048576: NARROWER than '..Said'. Prove '..Said' where nothing that the law and all that it calls make is longer than what came in: it says more and counts as full. Else prove '..UptoSaid'. A law counts once. -/
mutual
def uptoBulk {H : Type} : DataW H → Nat
  | .lit (.string bytes) => bytes.length + 1
  | .lit _ => 1
  | .nil => 1
  | .ptr d => uptoBulk d + 1
  | .slice elems spare => uptoBulkAll elems + uptoBulkAll spare + 1
  | .agg parts => uptoBulkAll parts + 1
  | .iface _ d => uptoBulk d + 1
  | .map entries => uptoBulkEntries entries + 1
  | .held _ => 1
def uptoBulkAll {H : Type} : List (DataW H) → Nat
  | [] => 0
  | d :: r => uptoBulk d + uptoBulkAll r
def uptoBulkEntries {H : Type} : List (Lit × DataW H) → Nat
  | [] => 0
  | x :: r => uptoBulkEntry x + uptoBulkEntries r
def uptoBulkEntry {H : Type} : Lit × DataW H → Nat
  | (.string bytes, d) => bytes.length + uptoBulk d + 1
  | (_, d) => uptoBulk d + 1
 end
def uptoSmall : (H : Type) → List (DataW H) → Bool := fun _ ds => decide (uptoBulkAll ds ≤ 1048576)
def OpenSpec.upto (s : _root_.Go.ChangeSpec) : _root_.Go.OpenSpec := { _root_.Go.OpenSpec.ofChange s with cond := some uptoSmall }

/-- 'jacquardlaw35.SchedcheckArcs', WHERE WHAT IT READS IS OF BULK AT MOST 1048576: true; the input reads as it did. -/
def schedcheckArcsUptoRow : OpenClaim := { program := "ytofnegejldgdbaa", sum := "d62c9acd0d0e9b4883418e62390b34d096e83faf6d914669b6852e1460090176", func := "jacquard/jacquardlaw35.SchedcheckArcs", spec := "schedcheckArcs", unfollowed := true, recurses := true, plainKeys := false, apart := false, narrowed := true }
def SchedcheckArcsUptoSaid : Prop := schedcheckArcsUptoRow.holds Try.pinned (OpenSpec.upto schedcheckArcsSpec)

/-- 'jacquardlaw35.SchedcheckLegal', WHERE WHAT IT READS IS OF BULK AT MOST 1048576: true; the input reads as it did. -/
def schedcheckLegalUptoRow : OpenClaim := { program := "ytofnegejldgdbaa", sum := "d62c9acd0d0e9b4883418e62390b34d096e83faf6d914669b6852e1460090176", func := "jacquard/jacquardlaw35.SchedcheckLegal", spec := "schedcheckLegal", unfollowed := true, recurses := true, plainKeys := false, apart := false, narrowed := true }
def SchedcheckLegalUptoSaid : Prop := schedcheckLegalUptoRow.holds Try.pinned (OpenSpec.upto schedcheckLegalSpec)

/-- 'jacquardlaw35.SchedcheckClashes', WHERE WHAT IT READS IS OF BULK AT MOST 1048576: true; the input reads as it did. -/
def schedcheckClashesUptoRow : OpenClaim := { program := "ytofnegejldgdbaa", sum := "d62c9acd0d0e9b4883418e62390b34d096e83faf6d914669b6852e1460090176", func := "jacquard/jacquardlaw35.SchedcheckClashes", spec := "schedcheckClashes", unfollowed := true, recurses := true, plainKeys := false, apart := false, narrowed := true }
def SchedcheckClashesUptoSaid : Prop := schedcheckClashesUptoRow.holds Try.pinned (OpenSpec.upto schedcheckClashesSpec)

/-- 'jacquardlaw55.ExploreChoices', WHERE WHAT IT READS IS OF BULK AT MOST 1048576: true; the input reads as it did. -/
def exploreChoicesUptoRow : OpenClaim := { program := "ytofnegejldgdbaa", sum := "d62c9acd0d0e9b4883418e62390b34d096e83faf6d914669b6852e1460090176", func := "jacquard/jacquardlaw55.ExploreChoices", spec := "exploreChoices", unfollowed := true, recurses := true, plainKeys := false, apart := false, narrowed := true }
def ExploreChoicesUptoSaid : Prop := exploreChoicesUptoRow.holds Try.pinned (OpenSpec.upto exploreChoicesSpec)

/-- 'jacquardlaw55.ExplorePareto', WHERE WHAT IT READS IS OF BULK AT MOST 1048576: true; the input reads as it did. -/
def exploreParetoUptoRow : OpenClaim := { program := "ytofnegejldgdbaa", sum := "d62c9acd0d0e9b4883418e62390b34d096e83faf6d914669b6852e1460090176", func := "jacquard/jacquardlaw55.ExplorePareto", spec := "explorePareto", unfollowed := true, recurses := true, plainKeys := false, apart := false, narrowed := true }
def ExploreParetoUptoSaid : Prop := exploreParetoUptoRow.holds Try.pinned (OpenSpec.upto exploreParetoSpec)

/-- 'jacquardlaw55.ExploreBest', WHERE WHAT IT READS IS OF BULK AT MOST 1048576: true; the input reads as it did. -/
def exploreBestUptoRow : OpenClaim := { program := "ytofnegejldgdbaa", sum := "d62c9acd0d0e9b4883418e62390b34d096e83faf6d914669b6852e1460090176", func := "jacquard/jacquardlaw55.ExploreBest", spec := "exploreBest", unfollowed := true, recurses := true, plainKeys := false, apart := false, narrowed := true }
def ExploreBestUptoSaid : Prop := exploreBestUptoRow.holds Try.pinned (OpenSpec.upto exploreBestSpec)

end Rows
end Go.Proofs.Ytofnegejldgdbaa
