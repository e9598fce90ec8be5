/-
  DERIVED. GIVEN WITH THE SEED: THE CARDS: each row of YtjcdjignfjkgaaaDoorRows.lean that lists a variable, with what it lists TIED to the program's text (the seventh form; the later family's looks); each row that meets fmt, with fmt's text TOLD by the authors' own Lean function (tested against real Go, not proved from fmt's source: count such statements apart). THE CARD IS WHAT COUNTS. Prove the row's statement (the work); the ties are given (YtjcdjignfjkgaaaDoorTie.lean); close each card by the builder's one call (the guide's Derived/Test/ToyasCard.lean, 'card_holds'). Laid BY PROGRAM, IN A SANDBOX (cutbox-door.mjs). By AI agents, Wed Nov 11 2026. No macro, syntax, notation, axiom, sorry.
-/
import Derived.Test.YtjcdjignfjkgaaaDoorRows
import GoSem.ClaimSeven
namespace Go.Proofs.YtjcdjignfjkgaaaDoor
namespace Rows

/-- THE TIED CARD OF 'horologelaw1.PenWrites'. -/
def penWritesCard : Claim7 := { stood := { row := penWritesRow, standIns := [], harness := (true, "23c24faffd4b77da8aa6b3ca9000e2b9ee582fdcb1bef8aa9ccff5265e1fcc3d"), looks := false }, kinds := [], alts := [], laidByText := true, laidKinds := [.data], laidTests := true, laidLooks := .later }
def PenWritesCardSaid : Prop := Claim7.holds Tryd.pinned (.plain (OpenSpec.ofChange penWritesSpec)) penWritesCard

/-- THE TIED CARD OF 'horologelaw1.PenReads'. -/
def penReadsCard : Claim7 := { stood := { row := penReadsRow, standIns := [], harness := (true, "23c24faffd4b77da8aa6b3ca9000e2b9ee582fdcb1bef8aa9ccff5265e1fcc3d"), looks := false }, kinds := [], alts := [], laidByText := true, laidKinds := [.data], laidTests := true, laidLooks := .later }
def PenReadsCardSaid : Prop := Claim7.holds Tryd.pinned (.plain (OpenSpec.ofChange penReadsSpec)) penReadsCard

/-- THE TIED CARD OF 'horologelaw1.PenFrames'. -/
def penFramesCard : Claim7 := { stood := { row := penFramesRow, standIns := [], harness := (true, "23c24faffd4b77da8aa6b3ca9000e2b9ee582fdcb1bef8aa9ccff5265e1fcc3d"), looks := false }, kinds := [], alts := [], laidByText := true, laidKinds := [.data], laidTests := true, laidLooks := .later }
def PenFramesCardSaid : Prop := Claim7.holds Tryd.pinned (.plain (OpenSpec.ofChange penFramesSpec)) penFramesCard

/-- THE TIED CARD OF 'horologelaw1.PenTurns'. -/
def penTurnsCard : Claim7 := { stood := { row := penTurnsRow, standIns := [], harness := (true, "23c24faffd4b77da8aa6b3ca9000e2b9ee582fdcb1bef8aa9ccff5265e1fcc3d"), looks := false }, kinds := [], alts := [], laidByText := true, laidKinds := [.data], laidTests := true, laidLooks := .later }
def PenTurnsCardSaid : Prop := Claim7.holds Tryd.pinned (.plain (OpenSpec.ofChange penTurnsSpec)) penTurnsCard

/-- THE TIED CARD OF 'horologelaw1.PenJoins'. -/
def penJoinsCard : Claim7 := { stood := { row := penJoinsRow, standIns := [], harness := (true, "23c24faffd4b77da8aa6b3ca9000e2b9ee582fdcb1bef8aa9ccff5265e1fcc3d"), looks := false }, kinds := [], alts := [], laidByText := true, laidKinds := [.data], laidTests := true, laidLooks := .later }
def PenJoinsCardSaid : Prop := Claim7.holds Tryd.pinned (.plain (OpenSpec.ofChange penJoinsSpec)) penJoinsCard

/-- THE TIED CARD OF 'horologelaw1.PenKept'. -/
def penKeptCard : Claim7 := { stood := { row := penKeptRow, standIns := [], harness := (true, "23c24faffd4b77da8aa6b3ca9000e2b9ee582fdcb1bef8aa9ccff5265e1fcc3d"), looks := false }, kinds := [], alts := [], laidByText := true, laidKinds := [.data], laidTests := true, laidLooks := .later }
def PenKeptCardSaid : Prop := Claim7.holds Tryd.pinned (.plain (OpenSpec.ofChange penKeptSpec)) penKeptCard

/-- THE SECOND FORM's CARD OF 'horologelaw1.PenWrites'. -/
def penWritesUptoCard : Claim7 := { stood := { row := penWritesUptoRow, standIns := [], harness := (true, "23c24faffd4b77da8aa6b3ca9000e2b9ee582fdcb1bef8aa9ccff5265e1fcc3d"), looks := false }, kinds := [], alts := [], laidByText := true, laidKinds := [.data], laidTests := true, laidLooks := .later }
def PenWritesUptoCardSaid : Prop := Claim7.holds Tryd.pinned (.plain (OpenSpec.upto penWritesSpec)) penWritesUptoCard

/-- THE SECOND FORM's CARD OF 'horologelaw1.PenReads'. -/
def penReadsUptoCard : Claim7 := { stood := { row := penReadsUptoRow, standIns := [], harness := (true, "23c24faffd4b77da8aa6b3ca9000e2b9ee582fdcb1bef8aa9ccff5265e1fcc3d"), looks := false }, kinds := [], alts := [], laidByText := true, laidKinds := [.data], laidTests := true, laidLooks := .later }
def PenReadsUptoCardSaid : Prop := Claim7.holds Tryd.pinned (.plain (OpenSpec.upto penReadsSpec)) penReadsUptoCard

/-- THE SECOND FORM's CARD OF 'horologelaw1.PenFrames'. -/
def penFramesUptoCard : Claim7 := { stood := { row := penFramesUptoRow, standIns := [], harness := (true, "23c24faffd4b77da8aa6b3ca9000e2b9ee582fdcb1bef8aa9ccff5265e1fcc3d"), looks := false }, kinds := [], alts := [], laidByText := true, laidKinds := [.data], laidTests := true, laidLooks := .later }
def PenFramesUptoCardSaid : Prop := Claim7.holds Tryd.pinned (.plain (OpenSpec.upto penFramesSpec)) penFramesUptoCard

/-- THE SECOND FORM's CARD OF 'horologelaw1.PenTurns'. -/
def penTurnsUptoCard : Claim7 := { stood := { row := penTurnsUptoRow, standIns := [], harness := (true, "23c24faffd4b77da8aa6b3ca9000e2b9ee582fdcb1bef8aa9ccff5265e1fcc3d"), looks := false }, kinds := [], alts := [], laidByText := true, laidKinds := [.data], laidTests := true, laidLooks := .later }
def PenTurnsUptoCardSaid : Prop := Claim7.holds Tryd.pinned (.plain (OpenSpec.upto penTurnsSpec)) penTurnsUptoCard

/-- THE SECOND FORM's CARD OF 'horologelaw1.PenJoins'. -/
def penJoinsUptoCard : Claim7 := { stood := { row := penJoinsUptoRow, standIns := [], harness := (true, "23c24faffd4b77da8aa6b3ca9000e2b9ee582fdcb1bef8aa9ccff5265e1fcc3d"), looks := false }, kinds := [], alts := [], laidByText := true, laidKinds := [.data], laidTests := true, laidLooks := .later }
def PenJoinsUptoCardSaid : Prop := Claim7.holds Tryd.pinned (.plain (OpenSpec.upto penJoinsSpec)) penJoinsUptoCard

/-- THE SECOND FORM's CARD OF 'horologelaw1.PenKept'. -/
def penKeptUptoCard : Claim7 := { stood := { row := penKeptUptoRow, standIns := [], harness := (true, "23c24faffd4b77da8aa6b3ca9000e2b9ee582fdcb1bef8aa9ccff5265e1fcc3d"), looks := false }, kinds := [], alts := [], laidByText := true, laidKinds := [.data], laidTests := true, laidLooks := .later }
def PenKeptUptoCardSaid : Prop := Claim7.holds Tryd.pinned (.plain (OpenSpec.upto penKeptSpec)) penKeptUptoCard
end Rows
end Go.Proofs.YtjcdjignfjkgaaaDoor
