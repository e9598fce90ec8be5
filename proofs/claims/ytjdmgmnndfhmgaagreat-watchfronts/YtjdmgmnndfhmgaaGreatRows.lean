/-
  No cell of these rows narrows 'for every input' (looked for: loops, veiled, ifaces, maps, wideKeys, modest, calm, conditions, laid).
  DERIVED. THE GIVEN ROWS OF THIS SEAT. 3 by the template 'for every input the law returns true; each argument reads behind the call as it read before'; 0 by the template 'total and deterministic' (their statements: YtjdmgmnndfhmgaaGreatTotals.lean).
  GIVEN WITH THE SEED: the statements are not yours to turn. If you find one false, say at which input.
  Laid BY PROGRAM, IN A SANDBOX (cutbox-rows.mjs): the forced cells as the released guide's own fill.sh prints them over the translation 847db710a93ac528… (all of the seat's roots in one cut). By AI agents, Wed Nov 11 2026. No macro, syntax, notation, axiom, sorry.
-/
import Derived.Test.YtjdmgmnndfhmgaaGreatChecked
import GoSem.Claim
import GoSem.ClaimJoined
import GoSem.ClaimMapViews
import Derived.JoinedTies
import Derived.KernelRfl
namespace Go.Proofs.YtjdmgmnndfhmgaaGreat
/- THE CELL 'sum', in the pinned program and in every row, IS THE sha256 OF THE DUMP (.gsa) THAT YtjdmgmnndfhmgaaGreatProg.lean LOADS. Nothing in Lean hashes anything: it is a label: what it is worth is what the hold of that sum in a sandbox is worth. -/
noncomputable def Tryz.pinned : Pinned := { name := "ytjdmgmnndfhmgaagreat", sum := "847db710a93ac528445acb62a086aaf33751e4010219b0dbf67976e4f8964836", checked := Tryz.checked }
namespace Rows
def none {H : Type} : Left H := { results := [], args := [] }

/-- 'horologelaw13.WatchPlays': WHATEVER THE INPUT: true; the input reads as it did. -/
def watchPlaysSpec : ChangeSpec := { name := "watchPlays", fn := fun _ => fun
  | [d] => { results := [.lit (.bool true)], args := [d] }
  | _ => none }
def watchPlaysRow : OpenClaim := { program := "ytjdmgmnndfhmgaagreat", sum := "847db710a93ac528445acb62a086aaf33751e4010219b0dbf67976e4f8964836", func := "horologe/horologelaw13.WatchPlays", spec := "watchPlays", inPlace := ["internal/bytealg.abigen_runtime_cmpstring", "slices.overlaps[horologe/index.item]", "slices.overlaps[*horologe/index.node]"], unfollowed := true, recurses := true, plainKeys := false, apart := false }
def WatchPlaysSaid : Prop := watchPlaysRow.holds Tryz.pinned (OpenSpec.ofChange watchPlaysSpec)

/-- ITS FALSE NEIGHBOUR: 'it returns false'. Refute it at one input. -/
def watchPlaysWrong : ChangeSpec := { name := "watchPlays", fn := fun _ => fun
  | [d] => { results := [.lit (.bool false)], args := [d] }
  | _ => none }
def WatchPlaysWrongFalsely : Prop := watchPlaysRow.holds Tryz.pinned (OpenSpec.ofChange watchPlaysWrong)

/-- 'horologelaw13.WatchFronts': WHATEVER THE INPUT: true; the input reads as it did. -/
def watchFrontsSpec : ChangeSpec := { name := "watchFronts", fn := fun _ => fun
  | [d1, d2, d3, d4] => { results := [.lit (.bool true)], args := [d1, d2, d3, d4] }
  | _ => none }
def watchFrontsRow : OpenClaim := { program := "ytjdmgmnndfhmgaagreat", sum := "847db710a93ac528445acb62a086aaf33751e4010219b0dbf67976e4f8964836", func := "horologe/horologelaw13.WatchFronts", spec := "watchFronts", inPlace := ["internal/bytealg.abigen_runtime_cmpstring", "slices.overlaps[horologe/index.item]", "slices.overlaps[*horologe/index.node]"], unfollowed := true, recurses := true, plainKeys := false, apart := false }
def WatchFrontsSaid : Prop := watchFrontsRow.holds Tryz.pinned (OpenSpec.ofChange watchFrontsSpec)

/-- ITS FALSE NEIGHBOUR: 'it returns false'. Refute it at one input. -/
def watchFrontsWrong : ChangeSpec := { name := "watchFronts", fn := fun _ => fun
  | [d1, d2, d3, d4] => { results := [.lit (.bool false)], args := [d1, d2, d3, d4] }
  | _ => none }
def WatchFrontsWrongFalsely : Prop := watchFrontsRow.holds Tryz.pinned (OpenSpec.ofChange watchFrontsWrong)

/-- 'horologelaw13.WatchBehind': WHATEVER THE INPUT: true; the input reads as it did. -/
def watchBehindSpec : ChangeSpec := { name := "watchBehind", fn := fun _ => fun
  | [d1, d2, d3, d4] => { results := [.lit (.bool true)], args := [d1, d2, d3, d4] }
  | _ => none }
def watchBehindRow : OpenClaim := { program := "ytjdmgmnndfhmgaagreat", sum := "847db710a93ac528445acb62a086aaf33751e4010219b0dbf67976e4f8964836", func := "horologe/horologelaw13.WatchBehind", spec := "watchBehind", inPlace := ["internal/bytealg.abigen_runtime_cmpstring", "slices.overlaps[horologe/index.item]", "slices.overlaps[*horologe/index.node]"], unfollowed := true, recurses := true, plainKeys := false, apart := false }
def WatchBehindSaid : Prop := watchBehindRow.holds Tryz.pinned (OpenSpec.ofChange watchBehindSpec)

/-- ITS FALSE NEIGHBOUR: 'it returns false'. Refute it at one input. -/
def watchBehindWrong : ChangeSpec := { name := "watchBehind", fn := fun _ => fun
  | [d1, d2, d3, d4] => { results := [.lit (.bool false)], args := [d1, d2, d3, d4] }
  | _ => none }
def WatchBehindWrongFalsely : Prop := watchBehindRow.holds Tryz.pinned (OpenSpec.ofChange watchBehindWrong)

/- THE SECOND FORM. 'bulk': how many values and letters a reading holds, each counted each time it is reached (what is shared counts as often as it is met; a slice's spare places count too). A statement '..UptoSaid' is the law's where the arguments, and the package variables that the reading takes, are together of bulk at most 1048576: NARROWER than '..Said'. Prove '..Said' where nothing that the law and all that it calls make is longer than what came in: it says more and counts as full. Else prove '..UptoSaid'. A law counts once. -/
mutual
def uptoBulk {H : Type} : DataW H → Nat
  | .lit (.string bytes) => bytes.length + 1
  | .lit _ => 1
  | .nil => 1
  | .ptr d => uptoBulk d + 1
  | .slice elems spare => uptoBulkAll elems + uptoBulkAll spare + 1
  | .agg parts => uptoBulkAll parts + 1
  | .iface _ d => uptoBulk d + 1
  | .map entries => uptoBulkEntries entries + 1
  | .held _ => 1
def uptoBulkAll {H : Type} : List (DataW H) → Nat
  | [] => 0
  | d :: r => uptoBulk d + uptoBulkAll r
def uptoBulkEntries {H : Type} : List (Lit × DataW H) → Nat
  | [] => 0
  | x :: r => uptoBulkEntry x + uptoBulkEntries r
def uptoBulkEntry {H : Type} : Lit × DataW H → Nat
  | (.string bytes, d) => bytes.length + uptoBulk d + 1
  | (_, d) => uptoBulk d + 1
 end
def uptoSmall : (H : Type) → List (DataW H) → Bool := fun _ ds => decide (uptoBulkAll ds ≤ 1048576)
def OpenSpec.upto (s : _root_.Go.ChangeSpec) : _root_.Go.OpenSpec := { _root_.Go.OpenSpec.ofChange s with cond := some uptoSmall }

/-- 'horologelaw13.WatchPlays', WHERE WHAT IT READS IS OF BULK AT MOST 1048576: true; the input reads as it did. -/
def watchPlaysUptoRow : OpenClaim := { program := "ytjdmgmnndfhmgaagreat", sum := "847db710a93ac528445acb62a086aaf33751e4010219b0dbf67976e4f8964836", func := "horologe/horologelaw13.WatchPlays", spec := "watchPlays", inPlace := ["internal/bytealg.abigen_runtime_cmpstring", "slices.overlaps[horologe/index.item]", "slices.overlaps[*horologe/index.node]"], unfollowed := true, recurses := true, plainKeys := false, apart := false, narrowed := true }
def WatchPlaysUptoSaid : Prop := watchPlaysUptoRow.holds Tryz.pinned (OpenSpec.upto watchPlaysSpec)

/-- 'horologelaw13.WatchFronts', WHERE WHAT IT READS IS OF BULK AT MOST 1048576: true; the input reads as it did. -/
def watchFrontsUptoRow : OpenClaim := { program := "ytjdmgmnndfhmgaagreat", sum := "847db710a93ac528445acb62a086aaf33751e4010219b0dbf67976e4f8964836", func := "horologe/horologelaw13.WatchFronts", spec := "watchFronts", inPlace := ["internal/bytealg.abigen_runtime_cmpstring", "slices.overlaps[horologe/index.item]", "slices.overlaps[*horologe/index.node]"], unfollowed := true, recurses := true, plainKeys := false, apart := false, narrowed := true }
def WatchFrontsUptoSaid : Prop := watchFrontsUptoRow.holds Tryz.pinned (OpenSpec.upto watchFrontsSpec)

/-- 'horologelaw13.WatchBehind', WHERE WHAT IT READS IS OF BULK AT MOST 1048576: true; the input reads as it did. -/
def watchBehindUptoRow : OpenClaim := { program := "ytjdmgmnndfhmgaagreat", sum := "847db710a93ac528445acb62a086aaf33751e4010219b0dbf67976e4f8964836", func := "horologe/horologelaw13.WatchBehind", spec := "watchBehind", inPlace := ["internal/bytealg.abigen_runtime_cmpstring", "slices.overlaps[horologe/index.item]", "slices.overlaps[*horologe/index.node]"], unfollowed := true, recurses := true, plainKeys := false, apart := false, narrowed := true }
def WatchBehindUptoSaid : Prop := watchBehindUptoRow.holds Tryz.pinned (OpenSpec.upto watchBehindSpec)

end Rows
end Go.Proofs.YtjdmgmnndfhmgaaGreat
