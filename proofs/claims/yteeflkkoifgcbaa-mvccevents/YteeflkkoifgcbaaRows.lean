/-
  No cell of these rows narrows 'for every input' (looked for: loops, veiled, ifaces, maps, wideKeys, modest, calm, conditions, laid).
  DERIVED. THE GIVEN ROWS OF THIS SEAT. 3 by the template 'for every input the law returns true; each argument reads behind the call as it read before'; 0 by the template 'total and deterministic' (their statements: YteeflkkoifgcbaaTotals.lean).
  GIVEN WITH THE SEED: the statements are not yours to turn. If you find one false, say at which input.
  Laid BY PROGRAM, IN A SANDBOX (cutbox-rows.mjs): the forced cells as the released guide's own fill.sh prints them over the translation 7edeea22c486458e… (all of the seat's roots in one cut). By AI agents, Wed Nov 11 2026. No macro, syntax, notation, axiom, sorry.
-/
import Derived.Test.YteeflkkoifgcbaaChecked
import GoSem.Claim
import GoSem.ClaimJoined
import GoSem.ClaimMapViews
import Derived.JoinedTies
import Derived.KernelRfl
namespace Go.Proofs.Yteeflkkoifgcbaa
/- THE CELL 'sum', in the pinned program and in every row, IS THE sha256 OF THE DUMP (.gsa) THAT YteeflkkoifgcbaaProg.lean LOADS. Nothing in Lean hashes anything: it is a label: what it is worth is what the hold of that sum in a sandbox is worth. -/
noncomputable def Try.pinned : Pinned := { name := "yteeflkkoifgcbaa", sum := "7edeea22c486458e9cf3e86ed5206c0babd404274aca0c93b4922cea7a0ba10f", checked := Try.checked }
namespace Rows
def none {H : Type} : Left H := { results := [], args := [] }

/-- 'horologelaw8.MvccEvents': WHATEVER THE INPUT: true; the input reads as it did. -/
def mvccEventsSpec : ChangeSpec := { name := "mvccEvents", fn := fun _ => fun
  | [d1, d2] => { results := [.lit (.bool true)], args := [d1, d2] }
  | _ => none }
def mvccEventsRow : OpenClaim := { program := "yteeflkkoifgcbaa", sum := "7edeea22c486458e9cf3e86ed5206c0babd404274aca0c93b4922cea7a0ba10f", func := "horologe/horologelaw8.MvccEvents", spec := "mvccEvents", inPlace := ["internal/bytealg.abigen_runtime_cmpstring", "slices.overlaps[horologe/index.item]", "slices.overlaps[*horologe/index.node]"], unfollowed := true, recurses := true, plainKeys := false, apart := false }
def MvccEventsSaid : Prop := mvccEventsRow.holds Try.pinned (OpenSpec.ofChange mvccEventsSpec)

/-- ITS FALSE NEIGHBOUR: 'it returns false'. Refute it at one input. -/
def mvccEventsWrong : ChangeSpec := { name := "mvccEvents", fn := fun _ => fun
  | [d1, d2] => { results := [.lit (.bool false)], args := [d1, d2] }
  | _ => none }
def MvccEventsWrongFalsely : Prop := mvccEventsRow.holds Try.pinned (OpenSpec.ofChange mvccEventsWrong)

/-- 'horologelaw8.MvccFull': WHATEVER THE INPUT: true; the input reads as it did. -/
def mvccFullSpec : ChangeSpec := { name := "mvccFull", fn := fun _ => fun
  | [d1, d2] => { results := [.lit (.bool true)], args := [d1, d2] }
  | _ => none }
def mvccFullRow : OpenClaim := { program := "yteeflkkoifgcbaa", sum := "7edeea22c486458e9cf3e86ed5206c0babd404274aca0c93b4922cea7a0ba10f", func := "horologe/horologelaw8.MvccFull", spec := "mvccFull", inPlace := ["internal/bytealg.abigen_runtime_cmpstring", "slices.overlaps[horologe/index.item]", "slices.overlaps[*horologe/index.node]"], unfollowed := true, recurses := true, plainKeys := false, apart := false }
def MvccFullSaid : Prop := mvccFullRow.holds Try.pinned (OpenSpec.ofChange mvccFullSpec)

/-- ITS FALSE NEIGHBOUR: 'it returns false'. Refute it at one input. -/
def mvccFullWrong : ChangeSpec := { name := "mvccFull", fn := fun _ => fun
  | [d1, d2] => { results := [.lit (.bool false)], args := [d1, d2] }
  | _ => none }
def MvccFullWrongFalsely : Prop := mvccFullRow.holds Try.pinned (OpenSpec.ofChange mvccFullWrong)

/-- 'horologelaw8.MvccVersions': WHATEVER THE INPUT: true; the input reads as it did. -/
def mvccVersionsSpec : ChangeSpec := { name := "mvccVersions", fn := fun _ => fun
  | [d] => { results := [.lit (.bool true)], args := [d] }
  | _ => none }
def mvccVersionsRow : OpenClaim := { program := "yteeflkkoifgcbaa", sum := "7edeea22c486458e9cf3e86ed5206c0babd404274aca0c93b4922cea7a0ba10f", func := "horologe/horologelaw8.MvccVersions", spec := "mvccVersions", inPlace := ["internal/bytealg.abigen_runtime_cmpstring", "slices.overlaps[horologe/index.item]", "slices.overlaps[*horologe/index.node]"], unfollowed := true, recurses := true, plainKeys := false, apart := false }
def MvccVersionsSaid : Prop := mvccVersionsRow.holds Try.pinned (OpenSpec.ofChange mvccVersionsSpec)

/-- ITS FALSE NEIGHBOUR: 'it returns false'. Refute it at one input. -/
def mvccVersionsWrong : ChangeSpec := { name := "mvccVersions", fn := fun _ => fun
  | [d] => { results := [.lit (.bool false)], args := [d] }
  | _ => none }
def MvccVersionsWrongFalsely : Prop := mvccVersionsRow.holds Try.pinned (OpenSpec.ofChange mvccVersionsWrong)

/- THE SECOND FORM. 'bulk': how many values and letters a reading holds, each counted each time it is reached (what is shared counts as often as it is met; a slice's spare places count too). A statement '..UptoSaid' is the law's where the arguments, and the package variables that the reading takes, are together of bulk at most 1048576: NARROWER than '..Said'. Prove '..Said' where nothing that the law and all that it calls make is longer than what came in: it says more and counts as full. Else prove '..UptoSaid'. A law counts once. -/
mutual
def uptoBulk {H : Type} : DataW H → Nat
  | .lit (.string bytes) => bytes.length + 1
  | .lit _ => 1
  | .nil => 1
  | .ptr d => uptoBulk d + 1
  | .slice elems spare => uptoBulkAll elems + uptoBulkAll spare + 1
  | .agg parts => uptoBulkAll parts + 1
  | .iface _ d => uptoBulk d + 1
  | .map entries => uptoBulkEntries entries + 1
  | .held _ => 1
def uptoBulkAll {H : Type} : List (DataW H) → Nat
  | [] => 0
  | d :: r => uptoBulk d + uptoBulkAll r
def uptoBulkEntries {H : Type} : List (Lit × DataW H) → Nat
  | [] => 0
  | x :: r => uptoBulkEntry x + uptoBulkEntries r
def uptoBulkEntry {H : Type} : Lit × DataW H → Nat
  | (.string bytes, d) => bytes.length + uptoBulk d + 1
  | (_, d) => uptoBulk d + 1
 end
def uptoSmall : (H : Type) → List (DataW H) → Bool := fun _ ds => decide (uptoBulkAll ds ≤ 1048576)
def OpenSpec.upto (s : _root_.Go.ChangeSpec) : _root_.Go.OpenSpec := { _root_.Go.OpenSpec.ofChange s with cond := some uptoSmall }

/-- 'horologelaw8.MvccEvents', WHERE WHAT IT READS IS OF BULK AT MOST 1048576: true; the input reads as it did. -/
def mvccEventsUptoRow : OpenClaim := { program := "yteeflkkoifgcbaa", sum := "7edeea22c486458e9cf3e86ed5206c0babd404274aca0c93b4922cea7a0ba10f", func := "horologe/horologelaw8.MvccEvents", spec := "mvccEvents", inPlace := ["internal/bytealg.abigen_runtime_cmpstring", "slices.overlaps[horologe/index.item]", "slices.overlaps[*horologe/index.node]"], unfollowed := true, recurses := true, plainKeys := false, apart := false, narrowed := true }
def MvccEventsUptoSaid : Prop := mvccEventsUptoRow.holds Try.pinned (OpenSpec.upto mvccEventsSpec)

/-- 'horologelaw8.MvccFull', WHERE WHAT IT READS IS OF BULK AT MOST 1048576: true; the input reads as it did. -/
def mvccFullUptoRow : OpenClaim := { program := "yteeflkkoifgcbaa", sum := "7edeea22c486458e9cf3e86ed5206c0babd404274aca0c93b4922cea7a0ba10f", func := "horologe/horologelaw8.MvccFull", spec := "mvccFull", inPlace := ["internal/bytealg.abigen_runtime_cmpstring", "slices.overlaps[horologe/index.item]", "slices.overlaps[*horologe/index.node]"], unfollowed := true, recurses := true, plainKeys := false, apart := false, narrowed := true }
def MvccFullUptoSaid : Prop := mvccFullUptoRow.holds Try.pinned (OpenSpec.upto mvccFullSpec)

/-- 'horologelaw8.MvccVersions', WHERE WHAT IT READS IS OF BULK AT MOST 1048576: true; the input reads as it did. -/
def mvccVersionsUptoRow : OpenClaim := { program := "yteeflkkoifgcbaa", sum := "7edeea22c486458e9cf3e86ed5206c0babd404274aca0c93b4922cea7a0ba10f", func := "horologe/horologelaw8.MvccVersions", spec := "mvccVersions", inPlace := ["internal/bytealg.abigen_runtime_cmpstring", "slices.overlaps[horologe/index.item]", "slices.overlaps[*horologe/index.node]"], unfollowed := true, recurses := true, plainKeys := false, apart := false, narrowed := true }
def MvccVersionsUptoSaid : Prop := mvccVersionsUptoRow.holds Try.pinned (OpenSpec.upto mvccVersionsSpec)

end Rows
end Go.Proofs.Yteeflkkoifgcbaa
