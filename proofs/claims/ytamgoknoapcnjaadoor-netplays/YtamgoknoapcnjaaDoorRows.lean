/-
  NARROWER THAN 'FOR EVERY INPUT', by the rows' own cells (each row's printed sentence says how): NetMsgs: laid · NetTurns: laid · NetPlays: laid · NetCuts: laid · NetOrder: laid.
  DERIVED. THE GIVEN ROWS OF THIS SEAT. 5 by the template 'for every input the law returns true; each argument reads behind the call as it read before'; 0 by the template 'total and deterministic' (their statements: YtamgoknoapcnjaaDoorTotals.lean).
  GIVEN WITH THE SEED: the statements are not yours to turn. If you find one false, say at which input.
  Laid BY PROGRAM, IN A SANDBOX (cutbox-rows.mjs): the forced cells as the released guide's own fill.sh prints them over the translation c9f3e700842631c0… (all of the seat's roots in one cut). By AI agents, Wed Nov 11 2026. No macro, syntax, notation, axiom, sorry.
-/
import Derived.Test.YtamgoknoapcnjaaDoorChecked
import GoSem.Claim
import GoSem.ClaimJoined
import GoSem.ClaimMapViews
import Derived.JoinedTies
import Derived.KernelRfl
namespace Go.Proofs.YtamgoknoapcnjaaDoor
/- THE CELL 'sum', in the pinned program and in every row, IS THE sha256 OF THE DUMP (.gsa) THAT YtamgoknoapcnjaaDoorProg.lean LOADS. Nothing in Lean hashes anything: it is a label: what it is worth is what the hold of that sum in a sandbox is worth. -/
noncomputable def Tryd.pinned : Pinned := { name := "ytamgoknoapcnjaadoor", sum := "c9f3e700842631c02421f4631583170ef5f66dd43a3591859740f34345bfa782", checked := Tryd.checked }
namespace Rows
def none {H : Type} : Left H := { results := [], args := [] }

/- WHAT THE LISTED PACKAGE-LEVEL VARIABLES READ AS WHEN THE CALL BEGINS. Each datum BY PROGRAM (the guide's laid-datum.mjs) off the statement by which the dump's own 'gosem.cut.vars' lays the variable. In a bare row this is a premise. The card (YtamgoknoapcnjaaDoorCards.lean) ties it to the program's text. -/
def laid_horologe_pen_halfByteSums {H : Type} : DataW H := .agg [.lit (.int .u32 0), .lit (.int .u32 498536548), .lit (.int .u32 997073096), .lit (.int .u32 651767980), .lit (.int .u32 1994146192), .lit (.int .u32 1802195444), .lit (.int .u32 1303535960), .lit (.int .u32 1342533948), .lit (.int .u32 3988292384), .lit (.int .u32 4027552580), .lit (.int .u32 3604390888), .lit (.int .u32 3412177804), .lit (.int .u32 2607071920), .lit (.int .u32 2262029012), .lit (.int .u32 2685067896), .lit (.int .u32 3183342108)]

/-- 'horologelaw15.NetMsgs': WHATEVER THE INPUT: true; the input reads as it did. -/
def netMsgsSpec : ChangeSpec := { name := "netMsgs", fn := fun _ => fun
  | [d1, d2, d3] => { results := [.lit (.bool true)], args := [d1, d2, d3] }
  | _ => none }
def netMsgsRow : OpenClaim := { program := "ytamgoknoapcnjaadoor", sum := "c9f3e700842631c02421f4631583170ef5f66dd43a3591859740f34345bfa782", func := "horologe/horologelaw15.NetMsgs", spec := "netMsgs", unfollowed := true, recurses := true, named := ["horologe/pen.halfByteSums"], apart := false, laid := [("horologe/pen.halfByteSums", laid_horologe_pen_halfByteSums)] }
def NetMsgsSaid : Prop := netMsgsRow.holds Tryd.pinned (OpenSpec.ofChange netMsgsSpec)

/-- ITS FALSE NEIGHBOUR: 'it returns false'. Refute it at one input. -/
def netMsgsWrong : ChangeSpec := { name := "netMsgs", fn := fun _ => fun
  | [d1, d2, d3] => { results := [.lit (.bool false)], args := [d1, d2, d3] }
  | _ => none }
def NetMsgsWrongFalsely : Prop := netMsgsRow.holds Tryd.pinned (OpenSpec.ofChange netMsgsWrong)

/-- 'horologelaw15.NetTurns': WHATEVER THE INPUT: true; the input reads as it did. -/
def netTurnsSpec : ChangeSpec := { name := "netTurns", fn := fun _ => fun
  | [d1, d2, d3, d4, d5] => { results := [.lit (.bool true)], args := [d1, d2, d3, d4, d5] }
  | _ => none }
def netTurnsRow : OpenClaim := { program := "ytamgoknoapcnjaadoor", sum := "c9f3e700842631c02421f4631583170ef5f66dd43a3591859740f34345bfa782", func := "horologe/horologelaw15.NetTurns", spec := "netTurns", unfollowed := true, recurses := true, named := ["horologe/pen.halfByteSums"], apart := false, laid := [("horologe/pen.halfByteSums", laid_horologe_pen_halfByteSums)] }
def NetTurnsSaid : Prop := netTurnsRow.holds Tryd.pinned (OpenSpec.ofChange netTurnsSpec)

/-- ITS FALSE NEIGHBOUR: 'it returns false'. Refute it at one input. -/
def netTurnsWrong : ChangeSpec := { name := "netTurns", fn := fun _ => fun
  | [d1, d2, d3, d4, d5] => { results := [.lit (.bool false)], args := [d1, d2, d3, d4, d5] }
  | _ => none }
def NetTurnsWrongFalsely : Prop := netTurnsRow.holds Tryd.pinned (OpenSpec.ofChange netTurnsWrong)

/-- 'horologelaw15.NetPlays': WHATEVER THE INPUT: true; the input reads as it did. -/
def netPlaysSpec : ChangeSpec := { name := "netPlays", fn := fun _ => fun
  | [d] => { results := [.lit (.bool true)], args := [d] }
  | _ => none }
def netPlaysRow : OpenClaim := { program := "ytamgoknoapcnjaadoor", sum := "c9f3e700842631c02421f4631583170ef5f66dd43a3591859740f34345bfa782", func := "horologe/horologelaw15.NetPlays", spec := "netPlays", unfollowed := true, recurses := true, named := ["horologe/pen.halfByteSums"], apart := false, laid := [("horologe/pen.halfByteSums", laid_horologe_pen_halfByteSums)] }
def NetPlaysSaid : Prop := netPlaysRow.holds Tryd.pinned (OpenSpec.ofChange netPlaysSpec)

/-- ITS FALSE NEIGHBOUR: 'it returns false'. Refute it at one input. -/
def netPlaysWrong : ChangeSpec := { name := "netPlays", fn := fun _ => fun
  | [d] => { results := [.lit (.bool false)], args := [d] }
  | _ => none }
def NetPlaysWrongFalsely : Prop := netPlaysRow.holds Tryd.pinned (OpenSpec.ofChange netPlaysWrong)

/-- 'horologelaw15.NetCuts': WHATEVER THE INPUT: true; the input reads as it did. -/
def netCutsSpec : ChangeSpec := { name := "netCuts", fn := fun _ => fun
  | [d1, d2, d3, d4] => { results := [.lit (.bool true)], args := [d1, d2, d3, d4] }
  | _ => none }
def netCutsRow : OpenClaim := { program := "ytamgoknoapcnjaadoor", sum := "c9f3e700842631c02421f4631583170ef5f66dd43a3591859740f34345bfa782", func := "horologe/horologelaw15.NetCuts", spec := "netCuts", unfollowed := true, recurses := true, named := ["horologe/pen.halfByteSums"], apart := false, laid := [("horologe/pen.halfByteSums", laid_horologe_pen_halfByteSums)] }
def NetCutsSaid : Prop := netCutsRow.holds Tryd.pinned (OpenSpec.ofChange netCutsSpec)

/-- ITS FALSE NEIGHBOUR: 'it returns false'. Refute it at one input. -/
def netCutsWrong : ChangeSpec := { name := "netCuts", fn := fun _ => fun
  | [d1, d2, d3, d4] => { results := [.lit (.bool false)], args := [d1, d2, d3, d4] }
  | _ => none }
def NetCutsWrongFalsely : Prop := netCutsRow.holds Tryd.pinned (OpenSpec.ofChange netCutsWrong)

/-- 'horologelaw15.NetOrder': WHATEVER THE INPUT: true; the input reads as it did. -/
def netOrderSpec : ChangeSpec := { name := "netOrder", fn := fun _ => fun
  | [d1, d2] => { results := [.lit (.bool true)], args := [d1, d2] }
  | _ => none }
def netOrderRow : OpenClaim := { program := "ytamgoknoapcnjaadoor", sum := "c9f3e700842631c02421f4631583170ef5f66dd43a3591859740f34345bfa782", func := "horologe/horologelaw15.NetOrder", spec := "netOrder", unfollowed := true, recurses := true, named := ["horologe/pen.halfByteSums"], apart := false, laid := [("horologe/pen.halfByteSums", laid_horologe_pen_halfByteSums)] }
def NetOrderSaid : Prop := netOrderRow.holds Tryd.pinned (OpenSpec.ofChange netOrderSpec)

/-- ITS FALSE NEIGHBOUR: 'it returns false'. Refute it at one input. -/
def netOrderWrong : ChangeSpec := { name := "netOrder", fn := fun _ => fun
  | [d1, d2] => { results := [.lit (.bool false)], args := [d1, d2] }
  | _ => none }
def NetOrderWrongFalsely : Prop := netOrderRow.holds Tryd.pinned (OpenSpec.ofChange netOrderWrong)

/- THE SECOND FORM. 'bulk': how many values and letters a reading holds, each counted each time it is reached (what is shared counts as often as it is met; a slice's spare places count too). A statement '..UptoSaid' is the law's where the arguments, and the package variables that the reading takes, are together of bulk at most 1048576: NARROWER than '..Said'. Prove '..Said' where nothing that the law and all that it calls make is longer than what came in: it says more and counts as full. Else prove '..UptoSaid'. A law counts once. -/
mutual
def uptoBulk {H : Type} : DataW H → Nat
  | .lit (.string bytes) => bytes.length + 1
  | .lit _ => 1
  | .nil => 1
  | .ptr d => uptoBulk d + 1
  | .slice elems spare => uptoBulkAll elems + uptoBulkAll spare + 1
  | .agg parts => uptoBulkAll parts + 1
  | .iface _ d => uptoBulk d + 1
  | .map entries => uptoBulkEntries entries + 1
  | .held _ => 1
def uptoBulkAll {H : Type} : List (DataW H) → Nat
  | [] => 0
  | d :: r => uptoBulk d + uptoBulkAll r
def uptoBulkEntries {H : Type} : List (Lit × DataW H) → Nat
  | [] => 0
  | x :: r => uptoBulkEntry x + uptoBulkEntries r
def uptoBulkEntry {H : Type} : Lit × DataW H → Nat
  | (.string bytes, d) => bytes.length + uptoBulk d + 1
  | (_, d) => uptoBulk d + 1
 end
def uptoSmall : (H : Type) → List (DataW H) → Bool := fun _ ds => decide (uptoBulkAll ds ≤ 1048576)
def OpenSpec.upto (s : _root_.Go.ChangeSpec) : _root_.Go.OpenSpec := { _root_.Go.OpenSpec.ofChange s with cond := some uptoSmall }

/-- 'horologelaw15.NetMsgs', WHERE WHAT IT READS IS OF BULK AT MOST 1048576: true; the input reads as it did. -/
def netMsgsUptoRow : OpenClaim := { program := "ytamgoknoapcnjaadoor", sum := "c9f3e700842631c02421f4631583170ef5f66dd43a3591859740f34345bfa782", func := "horologe/horologelaw15.NetMsgs", spec := "netMsgs", unfollowed := true, recurses := true, named := ["horologe/pen.halfByteSums"], apart := false, laid := [("horologe/pen.halfByteSums", laid_horologe_pen_halfByteSums)], narrowed := true }
def NetMsgsUptoSaid : Prop := netMsgsUptoRow.holds Tryd.pinned (OpenSpec.upto netMsgsSpec)

/-- 'horologelaw15.NetTurns', WHERE WHAT IT READS IS OF BULK AT MOST 1048576: true; the input reads as it did. -/
def netTurnsUptoRow : OpenClaim := { program := "ytamgoknoapcnjaadoor", sum := "c9f3e700842631c02421f4631583170ef5f66dd43a3591859740f34345bfa782", func := "horologe/horologelaw15.NetTurns", spec := "netTurns", unfollowed := true, recurses := true, named := ["horologe/pen.halfByteSums"], apart := false, laid := [("horologe/pen.halfByteSums", laid_horologe_pen_halfByteSums)], narrowed := true }
def NetTurnsUptoSaid : Prop := netTurnsUptoRow.holds Tryd.pinned (OpenSpec.upto netTurnsSpec)

/-- 'horologelaw15.NetPlays', WHERE WHAT IT READS IS OF BULK AT MOST 1048576: true; the input reads as it did. -/
def netPlaysUptoRow : OpenClaim := { program := "ytamgoknoapcnjaadoor", sum := "c9f3e700842631c02421f4631583170ef5f66dd43a3591859740f34345bfa782", func := "horologe/horologelaw15.NetPlays", spec := "netPlays", unfollowed := true, recurses := true, named := ["horologe/pen.halfByteSums"], apart := false, laid := [("horologe/pen.halfByteSums", laid_horologe_pen_halfByteSums)], narrowed := true }
def NetPlaysUptoSaid : Prop := netPlaysUptoRow.holds Tryd.pinned (OpenSpec.upto netPlaysSpec)

/-- 'horologelaw15.NetCuts', WHERE WHAT IT READS IS OF BULK AT MOST 1048576: true; the input reads as it did. -/
def netCutsUptoRow : OpenClaim := { program := "ytamgoknoapcnjaadoor", sum := "c9f3e700842631c02421f4631583170ef5f66dd43a3591859740f34345bfa782", func := "horologe/horologelaw15.NetCuts", spec := "netCuts", unfollowed := true, recurses := true, named := ["horologe/pen.halfByteSums"], apart := false, laid := [("horologe/pen.halfByteSums", laid_horologe_pen_halfByteSums)], narrowed := true }
def NetCutsUptoSaid : Prop := netCutsUptoRow.holds Tryd.pinned (OpenSpec.upto netCutsSpec)

/-- 'horologelaw15.NetOrder', WHERE WHAT IT READS IS OF BULK AT MOST 1048576: true; the input reads as it did. -/
def netOrderUptoRow : OpenClaim := { program := "ytamgoknoapcnjaadoor", sum := "c9f3e700842631c02421f4631583170ef5f66dd43a3591859740f34345bfa782", func := "horologe/horologelaw15.NetOrder", spec := "netOrder", unfollowed := true, recurses := true, named := ["horologe/pen.halfByteSums"], apart := false, laid := [("horologe/pen.halfByteSums", laid_horologe_pen_halfByteSums)], narrowed := true }
def NetOrderUptoSaid : Prop := netOrderUptoRow.holds Tryd.pinned (OpenSpec.upto netOrderSpec)

end Rows
end Go.Proofs.YtamgoknoapcnjaaDoor
