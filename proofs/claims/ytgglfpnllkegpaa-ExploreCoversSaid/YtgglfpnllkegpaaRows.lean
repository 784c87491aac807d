/-
  No cell of these rows narrows 'for every input' (looked for: loops, veiled, ifaces, maps, wideKeys, modest, calm, conditions, laid).
  DERIVED. THE GIVEN ROWS OF THIS SEAT. 6 by the template 'for every input the law returns true; each argument reads behind the call as it read before'; 0 by the template 'total and deterministic' (their statements: YtgglfpnllkegpaaTotals.lean).
  GIVEN WITH THE SEED: the statements are not yours to turn. If you find one false, say at which input.
  Laid BY PROGRAM, IN A SANDBOX (cutbox-rows.mjs): the forced cells as the released guide's own fill.sh prints them over the translation 0bb484d0dc02b27b… (all of the seat's roots in one cut). By AI agents, Wed Nov 11 2026. No macro, syntax, notation, axiom, sorry.
-/
import Derived.Test.YtgglfpnllkegpaaChecked
import GoSem.Claim
import GoSem.ClaimJoined
import GoSem.ClaimMapViews
import Derived.JoinedTies
import Derived.KernelRfl
namespace Go.Proofs.Ytgglfpnllkegpaa
/- THE CELL 'sum', in the pinned program and in every row, IS THE sha256 OF THE DUMP (.gsa) THAT YtgglfpnllkegpaaProg.lean LOADS. Nothing in Lean hashes anything: it is a label: what it is worth is what the hold of that sum in a sandbox is worth. -/
noncomputable def Try.pinned : Pinned := { name := "ytgglfpnllkegpaa", sum := "0bb484d0dc02b27bf1d2515068d73395f06ea47344231bee38513c85623e6e9c", checked := Try.checked }
namespace Rows
def none {H : Type} : Left H := { results := [], args := [] }

/-- 'jacquardlaw35.SchedcheckAgrees': WHATEVER THE INPUT: true; the input reads as it did. -/
def schedcheckAgreesSpec : ChangeSpec := { name := "schedcheckAgrees", fn := fun _ => fun
  | [d1, d2] => { results := [.lit (.bool true)], args := [d1, d2] }
  | _ => none }
def schedcheckAgreesRow : OpenClaim := { program := "ytgglfpnllkegpaa", sum := "0bb484d0dc02b27bf1d2515068d73395f06ea47344231bee38513c85623e6e9c", func := "jacquard/jacquardlaw35.SchedcheckAgrees", spec := "schedcheckAgrees", unfollowed := true, recurses := true, plainKeys := false, apart := false }
def SchedcheckAgreesSaid : Prop := schedcheckAgreesRow.holds Try.pinned (OpenSpec.ofChange schedcheckAgreesSpec)

/-- ITS FALSE NEIGHBOUR: 'it returns false'. Refute it at one input. -/
def schedcheckAgreesWrong : ChangeSpec := { name := "schedcheckAgrees", fn := fun _ => fun
  | [d1, d2] => { results := [.lit (.bool false)], args := [d1, d2] }
  | _ => none }
def SchedcheckAgreesWrongFalsely : Prop := schedcheckAgreesRow.holds Try.pinned (OpenSpec.ofChange schedcheckAgreesWrong)

/-- 'jacquardlaw35.SchedcheckMoves': WHATEVER THE INPUT: true; the input reads as it did. -/
def schedcheckMovesSpec : ChangeSpec := { name := "schedcheckMoves", fn := fun _ => fun
  | [d1, d2, d3] => { results := [.lit (.bool true)], args := [d1, d2, d3] }
  | _ => none }
def schedcheckMovesRow : OpenClaim := { program := "ytgglfpnllkegpaa", sum := "0bb484d0dc02b27bf1d2515068d73395f06ea47344231bee38513c85623e6e9c", func := "jacquard/jacquardlaw35.SchedcheckMoves", spec := "schedcheckMoves", unfollowed := true, recurses := true, plainKeys := false, apart := false }
def SchedcheckMovesSaid : Prop := schedcheckMovesRow.holds Try.pinned (OpenSpec.ofChange schedcheckMovesSpec)

/-- ITS FALSE NEIGHBOUR: 'it returns false'. Refute it at one input. -/
def schedcheckMovesWrong : ChangeSpec := { name := "schedcheckMoves", fn := fun _ => fun
  | [d1, d2, d3] => { results := [.lit (.bool false)], args := [d1, d2, d3] }
  | _ => none }
def SchedcheckMovesWrongFalsely : Prop := schedcheckMovesRow.holds Try.pinned (OpenSpec.ofChange schedcheckMovesWrong)

/-- 'jacquardlaw35.SchedcheckFewer': WHATEVER THE INPUT: true; the input reads as it did. -/
def schedcheckFewerSpec : ChangeSpec := { name := "schedcheckFewer", fn := fun _ => fun
  | [d1, d2, d3] => { results := [.lit (.bool true)], args := [d1, d2, d3] }
  | _ => none }
def schedcheckFewerRow : OpenClaim := { program := "ytgglfpnllkegpaa", sum := "0bb484d0dc02b27bf1d2515068d73395f06ea47344231bee38513c85623e6e9c", func := "jacquard/jacquardlaw35.SchedcheckFewer", spec := "schedcheckFewer", unfollowed := true, recurses := true, plainKeys := false, apart := false }
def SchedcheckFewerSaid : Prop := schedcheckFewerRow.holds Try.pinned (OpenSpec.ofChange schedcheckFewerSpec)

/-- ITS FALSE NEIGHBOUR: 'it returns false'. Refute it at one input. -/
def schedcheckFewerWrong : ChangeSpec := { name := "schedcheckFewer", fn := fun _ => fun
  | [d1, d2, d3] => { results := [.lit (.bool false)], args := [d1, d2, d3] }
  | _ => none }
def SchedcheckFewerWrongFalsely : Prop := schedcheckFewerRow.holds Try.pinned (OpenSpec.ofChange schedcheckFewerWrong)

/-- 'jacquardlaw35.SchedcheckBusy': WHATEVER THE INPUT: true; the input reads as it did. -/
def schedcheckBusySpec : ChangeSpec := { name := "schedcheckBusy", fn := fun _ => fun
  | [d1, d2, d3] => { results := [.lit (.bool true)], args := [d1, d2, d3] }
  | _ => none }
def schedcheckBusyRow : OpenClaim := { program := "ytgglfpnllkegpaa", sum := "0bb484d0dc02b27bf1d2515068d73395f06ea47344231bee38513c85623e6e9c", func := "jacquard/jacquardlaw35.SchedcheckBusy", spec := "schedcheckBusy", unfollowed := true, recurses := true, plainKeys := false, apart := false }
def SchedcheckBusySaid : Prop := schedcheckBusyRow.holds Try.pinned (OpenSpec.ofChange schedcheckBusySpec)

/-- ITS FALSE NEIGHBOUR: 'it returns false'. Refute it at one input. -/
def schedcheckBusyWrong : ChangeSpec := { name := "schedcheckBusy", fn := fun _ => fun
  | [d1, d2, d3] => { results := [.lit (.bool false)], args := [d1, d2, d3] }
  | _ => none }
def SchedcheckBusyWrongFalsely : Prop := schedcheckBusyRow.holds Try.pinned (OpenSpec.ofChange schedcheckBusyWrong)

/-- 'jacquardlaw55.ExploreCovers': WHATEVER THE INPUT: true; the input reads as it did. -/
def exploreCoversSpec : ChangeSpec := { name := "exploreCovers", fn := fun _ => fun
  | [d] => { results := [.lit (.bool true)], args := [d] }
  | _ => none }
def exploreCoversRow : OpenClaim := { program := "ytgglfpnllkegpaa", sum := "0bb484d0dc02b27bf1d2515068d73395f06ea47344231bee38513c85623e6e9c", func := "jacquard/jacquardlaw55.ExploreCovers", spec := "exploreCovers", unfollowed := true, recurses := true, plainKeys := false, apart := false }
def ExploreCoversSaid : Prop := exploreCoversRow.holds Try.pinned (OpenSpec.ofChange exploreCoversSpec)

/-- ITS FALSE NEIGHBOUR: 'it returns false'. Refute it at one input. -/
def exploreCoversWrong : ChangeSpec := { name := "exploreCovers", fn := fun _ => fun
  | [d] => { results := [.lit (.bool false)], args := [d] }
  | _ => none }
def ExploreCoversWrongFalsely : Prop := exploreCoversRow.holds Try.pinned (OpenSpec.ofChange exploreCoversWrong)

/-- 'jacquardlaw55.ExploreBest': WHATEVER THE INPUT: true; the input reads as it did. -/
def exploreBestSpec : ChangeSpec := { name := "exploreBest", fn := fun _ => fun
  | [d1, d2, d3] => { results := [.lit (.bool true)], args := [d1, d2, d3] }
  | _ => none }
def exploreBestRow : OpenClaim := { program := "ytgglfpnllkegpaa", sum := "0bb484d0dc02b27bf1d2515068d73395f06ea47344231bee38513c85623e6e9c", func := "jacquard/jacquardlaw55.ExploreBest", spec := "exploreBest", unfollowed := true, recurses := true, plainKeys := false, apart := false }
def ExploreBestSaid : Prop := exploreBestRow.holds Try.pinned (OpenSpec.ofChange exploreBestSpec)

/-- ITS FALSE NEIGHBOUR: 'it returns false'. Refute it at one input. -/
def exploreBestWrong : ChangeSpec := { name := "exploreBest", fn := fun _ => fun
  | [d1, d2, d3] => { results := [.lit (.bool false)], args := [d1, d2, d3] }
  | _ => none }
def ExploreBestWrongFalsely : Prop := exploreBestRow.holds Try.pinned (OpenSpec.ofChange exploreBestWrong)

/- THE SECOND FORM. 'bulk': how many values and letters a reading holds, each counted each time it is reached (what is shared counts as often as it is met; a slice's spare places count too). A statement '..UptoSaid' is the law's where the arguments, and the package variables that the reading takes, are together of bulk at most 1048576: NARROWER than '..Said'. Prove '..Said' where nothing that the law and all that it calls make is longer than what came in: it says more and counts as full. Else prove '..UptoSaid'. A law counts once. -/
mutual
def uptoBulk {H : Type} : DataW H → Nat
  | .lit (.string bytes) => bytes.length + 1
  | .lit _ => 1
  | .nil => 1
  | .ptr d => uptoBulk d + 1
  | .slice elems spare => uptoBulkAll elems + uptoBulkAll spare + 1
  | .agg parts => uptoBulkAll parts + 1
  | .iface _ d => uptoBulk d + 1
  | .map entries => uptoBulkEntries entries + 1
  | .held _ => 1
def uptoBulkAll {H : Type} : List (DataW H) → Nat
  | [] => 0
  | d :: r => uptoBulk d + uptoBulkAll r
def uptoBulkEntries {H : Type} : List (Lit × DataW H) → Nat
  | [] => 0
  | x :: r => uptoBulkEntry x + uptoBulkEntries r
def uptoBulkEntry {H : Type} : Lit × DataW H → Nat
  | (.string bytes, d) => bytes.length + uptoBulk d + 1
  | (_, d) => uptoBulk d + 1
 end
def uptoSmall : (H : Type) → List (DataW H) → Bool := fun _ ds => decide (uptoBulkAll ds ≤ 1048576)
def OpenSpec.upto (s : _root_.Go.ChangeSpec) : _root_.Go.OpenSpec := { _root_.Go.OpenSpec.ofChange s with cond := some uptoSmall }

/-- 'jacquardlaw35.SchedcheckAgrees', WHERE WHAT IT READS IS OF BULK AT MOST 1048576: true; the input reads as it did. -/
def schedcheckAgreesUptoRow : OpenClaim := { program := "ytgglfpnllkegpaa", sum := "0bb484d0dc02b27bf1d2515068d73395f06ea47344231bee38513c85623e6e9c", func := "jacquard/jacquardlaw35.SchedcheckAgrees", spec := "schedcheckAgrees", unfollowed := true, recurses := true, plainKeys := false, apart := false, narrowed := true }
def SchedcheckAgreesUptoSaid : Prop := schedcheckAgreesUptoRow.holds Try.pinned (OpenSpec.upto schedcheckAgreesSpec)

/-- 'jacquardlaw35.SchedcheckMoves', WHERE WHAT IT READS IS OF BULK AT MOST 1048576: true; the input reads as it did. -/
def schedcheckMovesUptoRow : OpenClaim := { program := "ytgglfpnllkegpaa", sum := "0bb484d0dc02b27bf1d2515068d73395f06ea47344231bee38513c85623e6e9c", func := "jacquard/jacquardlaw35.SchedcheckMoves", spec := "schedcheckMoves", unfollowed := true, recurses := true, plainKeys := false, apart := false, narrowed := true }
def SchedcheckMovesUptoSaid : Prop := schedcheckMovesUptoRow.holds Try.pinned (OpenSpec.upto schedcheckMovesSpec)

/-- 'jacquardlaw35.SchedcheckFewer', WHERE WHAT IT READS IS OF BULK AT MOST 1048576: true; the input reads as it did. -/
def schedcheckFewerUptoRow : OpenClaim := { program := "ytgglfpnllkegpaa", sum := "0bb484d0dc02b27bf1d2515068d73395f06ea47344231bee38513c85623e6e9c", func := "jacquard/jacquardlaw35.SchedcheckFewer", spec := "schedcheckFewer", unfollowed := true, recurses := true, plainKeys := false, apart := false, narrowed := true }
def SchedcheckFewerUptoSaid : Prop := schedcheckFewerUptoRow.holds Try.pinned (OpenSpec.upto schedcheckFewerSpec)

/-- 'jacquardlaw35.SchedcheckBusy', WHERE WHAT IT READS IS OF BULK AT MOST 1048576: true; the input reads as it did. -/
def schedcheckBusyUptoRow : OpenClaim := { program := "ytgglfpnllkegpaa", sum := "0bb484d0dc02b27bf1d2515068d73395f06ea47344231bee38513c85623e6e9c", func := "jacquard/jacquardlaw35.SchedcheckBusy", spec := "schedcheckBusy", unfollowed := true, recurses := true, plainKeys := false, apart := false, narrowed := true }
def SchedcheckBusyUptoSaid : Prop := schedcheckBusyUptoRow.holds Try.pinned (OpenSpec.upto schedcheckBusySpec)

/-- 'jacquardlaw55.ExploreCovers', WHERE WHAT IT READS IS OF BULK AT MOST 1048576: true; the input reads as it did. -/
def exploreCoversUptoRow : OpenClaim := { program := "ytgglfpnllkegpaa", sum := "0bb484d0dc02b27bf1d2515068d73395f06ea47344231bee38513c85623e6e9c", func := "jacquard/jacquardlaw55.ExploreCovers", spec := "exploreCovers", unfollowed := true, recurses := true, plainKeys := false, apart := false, narrowed := true }
def ExploreCoversUptoSaid : Prop := exploreCoversUptoRow.holds Try.pinned (OpenSpec.upto exploreCoversSpec)

/-- 'jacquardlaw55.ExploreBest', WHERE WHAT IT READS IS OF BULK AT MOST 1048576: true; the input reads as it did. -/
def exploreBestUptoRow : OpenClaim := { program := "ytgglfpnllkegpaa", sum := "0bb484d0dc02b27bf1d2515068d73395f06ea47344231bee38513c85623e6e9c", func := "jacquard/jacquardlaw55.ExploreBest", spec := "exploreBest", unfollowed := true, recurses := true, plainKeys := false, apart := false, narrowed := true }
def ExploreBestUptoSaid : Prop := exploreBestUptoRow.holds Try.pinned (OpenSpec.upto exploreBestSpec)

end Rows
end Go.Proofs.Ytgglfpnllkegpaa
