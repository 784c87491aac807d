/-
  No cell of these rows narrows 'for every input' (looked for: loops, veiled, ifaces, maps, wideKeys, modest, calm, conditions, laid).
  DERIVED. THE GIVEN ROWS OF THIS SEAT. 6 by the template 'for every input the law returns true; each argument reads behind the call as it read before'; 0 by the template 'total and deterministic' (their statements: YtmncgnjginibiaaTotals.lean).
  GIVEN WITH THE SEED: the statements are not yours to turn. If you find one false, say at which input.
  Laid BY PROGRAM, IN A SANDBOX (cutbox-rows.mjs): the forced cells as the released guide's own fill.sh prints them over the translation e74d27301e864447… (all of the seat's roots in one cut). By AI agents, Wed Nov 11 2026. No macro, syntax, notation, axiom, sorry.
-/
import Derived.Test.YtmncgnjginibiaaChecked
import GoSem.Claim
import GoSem.ClaimJoined
import GoSem.ClaimMapViews
import Derived.JoinedTies
import Derived.KernelRfl
namespace Go.Proofs.Ytmncgnjginibiaa
/- THE CELL 'sum', in the pinned program and in every row, IS THE sha256 OF THE DUMP (.gsa) THAT YtmncgnjginibiaaProg.lean LOADS. Nothing in Lean hashes anything: it is a label: what it is worth is what the hold of that sum in a sandbox is worth. -/
noncomputable def Try.pinned : Pinned := { name := "ytmncgnjginibiaa", sum := "e74d27301e864447a0f9e5b0f64e453a467c0f4c182d5fdca13029d32237a20b", checked := Try.checked }
namespace Rows
def none {H : Type} : Left H := { results := [], args := [] }

/-- 'jacquardlaw35.SchedcheckUsage': WHATEVER THE INPUT: true; the input reads as it did. -/
def schedcheckUsageSpec : ChangeSpec := { name := "schedcheckUsage", fn := fun _ => fun
  | [d1, d2] => { results := [.lit (.bool true)], args := [d1, d2] }
  | _ => none }
def schedcheckUsageRow : OpenClaim := { program := "ytmncgnjginibiaa", sum := "e74d27301e864447a0f9e5b0f64e453a467c0f4c182d5fdca13029d32237a20b", func := "jacquard/jacquardlaw35.SchedcheckUsage", spec := "schedcheckUsage", unfollowed := true, recurses := true, plainKeys := false, apart := false }
def SchedcheckUsageSaid : Prop := schedcheckUsageRow.holds Try.pinned (OpenSpec.ofChange schedcheckUsageSpec)

/-- ITS FALSE NEIGHBOUR: 'it returns false'. Refute it at one input. -/
def schedcheckUsageWrong : ChangeSpec := { name := "schedcheckUsage", fn := fun _ => fun
  | [d1, d2] => { results := [.lit (.bool false)], args := [d1, d2] }
  | _ => none }
def SchedcheckUsageWrongFalsely : Prop := schedcheckUsageRow.holds Try.pinned (OpenSpec.ofChange schedcheckUsageWrong)

/-- 'jacquardlaw30.DiffconsEarliest': WHATEVER THE INPUT: true; the input reads as it did. -/
def diffconsEarliestSpec : ChangeSpec := { name := "diffconsEarliest", fn := fun _ => fun
  | [d] => { results := [.lit (.bool true)], args := [d] }
  | _ => none }
def diffconsEarliestRow : OpenClaim := { program := "ytmncgnjginibiaa", sum := "e74d27301e864447a0f9e5b0f64e453a467c0f4c182d5fdca13029d32237a20b", func := "jacquard/jacquardlaw30.DiffconsEarliest", spec := "diffconsEarliest", plainKeys := false, apart := false }
def DiffconsEarliestSaid : Prop := diffconsEarliestRow.holds Try.pinned (OpenSpec.ofChange diffconsEarliestSpec)

/-- ITS FALSE NEIGHBOUR: 'it returns false'. Refute it at one input. -/
def diffconsEarliestWrong : ChangeSpec := { name := "diffconsEarliest", fn := fun _ => fun
  | [d] => { results := [.lit (.bool false)], args := [d] }
  | _ => none }
def DiffconsEarliestWrongFalsely : Prop := diffconsEarliestRow.holds Try.pinned (OpenSpec.ofChange diffconsEarliestWrong)

/-- 'jacquardlaw30.DiffconsAfter': WHATEVER THE INPUT: true; the input reads as it did. -/
def diffconsAfterSpec : ChangeSpec := { name := "diffconsAfter", fn := fun _ => fun
  | [d1, d2] => { results := [.lit (.bool true)], args := [d1, d2] }
  | _ => none }
def diffconsAfterRow : OpenClaim := { program := "ytmncgnjginibiaa", sum := "e74d27301e864447a0f9e5b0f64e453a467c0f4c182d5fdca13029d32237a20b", func := "jacquard/jacquardlaw30.DiffconsAfter", spec := "diffconsAfter", plainKeys := false, apart := false }
def DiffconsAfterSaid : Prop := diffconsAfterRow.holds Try.pinned (OpenSpec.ofChange diffconsAfterSpec)

/-- ITS FALSE NEIGHBOUR: 'it returns false'. Refute it at one input. -/
def diffconsAfterWrong : ChangeSpec := { name := "diffconsAfter", fn := fun _ => fun
  | [d1, d2] => { results := [.lit (.bool false)], args := [d1, d2] }
  | _ => none }
def DiffconsAfterWrongFalsely : Prop := diffconsAfterRow.holds Try.pinned (OpenSpec.ofChange diffconsAfterWrong)

/-- 'jacquardlaw30.DiffconsLatest': WHATEVER THE INPUT: true; the input reads as it did. -/
def diffconsLatestSpec : ChangeSpec := { name := "diffconsLatest", fn := fun _ => fun
  | [d1, d2] => { results := [.lit (.bool true)], args := [d1, d2] }
  | _ => none }
def diffconsLatestRow : OpenClaim := { program := "ytmncgnjginibiaa", sum := "e74d27301e864447a0f9e5b0f64e453a467c0f4c182d5fdca13029d32237a20b", func := "jacquard/jacquardlaw30.DiffconsLatest", spec := "diffconsLatest", plainKeys := false, apart := false }
def DiffconsLatestSaid : Prop := diffconsLatestRow.holds Try.pinned (OpenSpec.ofChange diffconsLatestSpec)

/-- ITS FALSE NEIGHBOUR: 'it returns false'. Refute it at one input. -/
def diffconsLatestWrong : ChangeSpec := { name := "diffconsLatest", fn := fun _ => fun
  | [d1, d2] => { results := [.lit (.bool false)], args := [d1, d2] }
  | _ => none }
def DiffconsLatestWrongFalsely : Prop := diffconsLatestRow.holds Try.pinned (OpenSpec.ofChange diffconsLatestWrong)

/-- 'jacquardlaw55.ExploreChoices': WHATEVER THE INPUT: true; the input reads as it did. -/
def exploreChoicesSpec : ChangeSpec := { name := "exploreChoices", fn := fun _ => fun
  | [d1, d2] => { results := [.lit (.bool true)], args := [d1, d2] }
  | _ => none }
def exploreChoicesRow : OpenClaim := { program := "ytmncgnjginibiaa", sum := "e74d27301e864447a0f9e5b0f64e453a467c0f4c182d5fdca13029d32237a20b", func := "jacquard/jacquardlaw55.ExploreChoices", spec := "exploreChoices", unfollowed := true, recurses := true, plainKeys := false, apart := false }
def ExploreChoicesSaid : Prop := exploreChoicesRow.holds Try.pinned (OpenSpec.ofChange exploreChoicesSpec)

/-- ITS FALSE NEIGHBOUR: 'it returns false'. Refute it at one input. -/
def exploreChoicesWrong : ChangeSpec := { name := "exploreChoices", fn := fun _ => fun
  | [d1, d2] => { results := [.lit (.bool false)], args := [d1, d2] }
  | _ => none }
def ExploreChoicesWrongFalsely : Prop := exploreChoicesRow.holds Try.pinned (OpenSpec.ofChange exploreChoicesWrong)

/-- 'jacquardlaw55.ExplorePareto': WHATEVER THE INPUT: true; the input reads as it did. -/
def exploreParetoSpec : ChangeSpec := { name := "explorePareto", fn := fun _ => fun
  | [d] => { results := [.lit (.bool true)], args := [d] }
  | _ => none }
def exploreParetoRow : OpenClaim := { program := "ytmncgnjginibiaa", sum := "e74d27301e864447a0f9e5b0f64e453a467c0f4c182d5fdca13029d32237a20b", func := "jacquard/jacquardlaw55.ExplorePareto", spec := "explorePareto", unfollowed := true, recurses := true, plainKeys := false, apart := false }
def ExploreParetoSaid : Prop := exploreParetoRow.holds Try.pinned (OpenSpec.ofChange exploreParetoSpec)

/-- ITS FALSE NEIGHBOUR: 'it returns false'. Refute it at one input. -/
def exploreParetoWrong : ChangeSpec := { name := "explorePareto", fn := fun _ => fun
  | [d] => { results := [.lit (.bool false)], args := [d] }
  | _ => none }
def ExploreParetoWrongFalsely : Prop := exploreParetoRow.holds Try.pinned (OpenSpec.ofChange exploreParetoWrong)

/- THE SECOND FORM. 'bulk': how many values and letters a reading holds, each counted each time it is reached (what is shared counts as often as it is met; a slice's spare places count too). A statement '..UptoSaid' is the law's where the arguments, and the package variables that the reading takes, are together of bulk at most 1048576: NARROWER than '..Said'. Prove '..Said' where nothing that the law and all that it calls make is longer than what came in: it says more and counts as full. Else prove '..UptoSaid'. A law counts once. -/
mutual
def uptoBulk {H : Type} : DataW H → Nat
  | .lit (.string bytes) => bytes.length + 1
  | .lit _ => 1
  | .nil => 1
  | .ptr d => uptoBulk d + 1
  | .slice elems spare => uptoBulkAll elems + uptoBulkAll spare + 1
  | .agg parts => uptoBulkAll parts + 1
  | .iface _ d => uptoBulk d + 1
  | .map entries => uptoBulkEntries entries + 1
  | .held _ => 1
def uptoBulkAll {H : Type} : List (DataW H) → Nat
  | [] => 0
  | d :: r => uptoBulk d + uptoBulkAll r
def uptoBulkEntries {H : Type} : List (Lit × DataW H) → Nat
  | [] => 0
  | x :: r => uptoBulkEntry x + uptoBulkEntries r
def uptoBulkEntry {H : Type} : Lit × DataW H → Nat
  | (.string bytes, d) => bytes.length + uptoBulk d + 1
  | (_, d) => uptoBulk d + 1
 end
def uptoSmall : (H : Type) → List (DataW H) → Bool := fun _ ds => decide (uptoBulkAll ds ≤ 1048576)
def OpenSpec.upto (s : _root_.Go.ChangeSpec) : _root_.Go.OpenSpec := { _root_.Go.OpenSpec.ofChange s with cond := some uptoSmall }

/-- 'jacquardlaw35.SchedcheckUsage', WHERE WHAT IT READS IS OF BULK AT MOST 1048576: true; the input reads as it did. -/
def schedcheckUsageUptoRow : OpenClaim := { program := "ytmncgnjginibiaa", sum := "e74d27301e864447a0f9e5b0f64e453a467c0f4c182d5fdca13029d32237a20b", func := "jacquard/jacquardlaw35.SchedcheckUsage", spec := "schedcheckUsage", unfollowed := true, recurses := true, plainKeys := false, apart := false, narrowed := true }
def SchedcheckUsageUptoSaid : Prop := schedcheckUsageUptoRow.holds Try.pinned (OpenSpec.upto schedcheckUsageSpec)

/-- 'jacquardlaw30.DiffconsEarliest', WHERE WHAT IT READS IS OF BULK AT MOST 1048576: true; the input reads as it did. -/
def diffconsEarliestUptoRow : OpenClaim := { program := "ytmncgnjginibiaa", sum := "e74d27301e864447a0f9e5b0f64e453a467c0f4c182d5fdca13029d32237a20b", func := "jacquard/jacquardlaw30.DiffconsEarliest", spec := "diffconsEarliest", plainKeys := false, apart := false, narrowed := true }
def DiffconsEarliestUptoSaid : Prop := diffconsEarliestUptoRow.holds Try.pinned (OpenSpec.upto diffconsEarliestSpec)

/-- 'jacquardlaw30.DiffconsAfter', WHERE WHAT IT READS IS OF BULK AT MOST 1048576: true; the input reads as it did. -/
def diffconsAfterUptoRow : OpenClaim := { program := "ytmncgnjginibiaa", sum := "e74d27301e864447a0f9e5b0f64e453a467c0f4c182d5fdca13029d32237a20b", func := "jacquard/jacquardlaw30.DiffconsAfter", spec := "diffconsAfter", plainKeys := false, apart := false, narrowed := true }
def DiffconsAfterUptoSaid : Prop := diffconsAfterUptoRow.holds Try.pinned (OpenSpec.upto diffconsAfterSpec)

/-- 'jacquardlaw30.DiffconsLatest', WHERE WHAT IT READS IS OF BULK AT MOST 1048576: true; the input reads as it did. -/
def diffconsLatestUptoRow : OpenClaim := { program := "ytmncgnjginibiaa", sum := "e74d27301e864447a0f9e5b0f64e453a467c0f4c182d5fdca13029d32237a20b", func := "jacquard/jacquardlaw30.DiffconsLatest", spec := "diffconsLatest", plainKeys := false, apart := false, narrowed := true }
def DiffconsLatestUptoSaid : Prop := diffconsLatestUptoRow.holds Try.pinned (OpenSpec.upto diffconsLatestSpec)

/-- 'jacquardlaw55.ExploreChoices', WHERE WHAT IT READS IS OF BULK AT MOST 1048576: true; the input reads as it did. -/
def exploreChoicesUptoRow : OpenClaim := { program := "ytmncgnjginibiaa", sum := "e74d27301e864447a0f9e5b0f64e453a467c0f4c182d5fdca13029d32237a20b", func := "jacquard/jacquardlaw55.ExploreChoices", spec := "exploreChoices", unfollowed := true, recurses := true, plainKeys := false, apart := false, narrowed := true }
def ExploreChoicesUptoSaid : Prop := exploreChoicesUptoRow.holds Try.pinned (OpenSpec.upto exploreChoicesSpec)

/-- 'jacquardlaw55.ExplorePareto', WHERE WHAT IT READS IS OF BULK AT MOST 1048576: true; the input reads as it did. -/
def exploreParetoUptoRow : OpenClaim := { program := "ytmncgnjginibiaa", sum := "e74d27301e864447a0f9e5b0f64e453a467c0f4c182d5fdca13029d32237a20b", func := "jacquard/jacquardlaw55.ExplorePareto", spec := "explorePareto", unfollowed := true, recurses := true, plainKeys := false, apart := false, narrowed := true }
def ExploreParetoUptoSaid : Prop := exploreParetoUptoRow.holds Try.pinned (OpenSpec.upto exploreParetoSpec)

end Rows
end Go.Proofs.Ytmncgnjginibiaa
