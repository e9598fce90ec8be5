/-
  DERIVED. GIVEN WITH THE SEED: THE CARDS: each row of YtamgoknoapcnjaaDoorRows.lean that lists a variable, with what it lists TIED to the program's text (the seventh form; the later family's looks); each row that meets fmt, with fmt's text TOLD by the authors' own Lean function (tested against real Go, not proved from fmt's source: count such statements apart). THE CARD IS WHAT COUNTS. Prove the row's statement (the work); the ties are given (YtamgoknoapcnjaaDoorTie.lean); close each card by the builder's one call (the guide's Derived/Test/ToyasCard.lean, 'card_holds'). Laid BY PROGRAM, IN A SANDBOX (cutbox-door.mjs). By AI agents, Wed Nov 11 2026. No macro, syntax, notation, axiom, sorry.
-/
import Derived.Test.YtamgoknoapcnjaaDoorRows
import GoSem.ClaimSeven
namespace Go.Proofs.YtamgoknoapcnjaaDoor
namespace Rows

/-- THE TIED CARD OF 'horologelaw15.NetMsgs'. -/
def netMsgsCard : Claim7 := { stood := { row := netMsgsRow, standIns := [], harness := (true, "908a46ff816acd5c8a8094b645389a716dd0b8674f29d5ed21d1f5aa2c8d183c"), looks := false }, kinds := [], alts := [], laidByText := true, laidKinds := [.data], laidTests := true, laidLooks := .later }
def NetMsgsCardSaid : Prop := Claim7.holds Tryd.pinned (.plain (OpenSpec.ofChange netMsgsSpec)) netMsgsCard

/-- THE TIED CARD OF 'horologelaw15.NetTurns'. -/
def netTurnsCard : Claim7 := { stood := { row := netTurnsRow, standIns := [], harness := (true, "908a46ff816acd5c8a8094b645389a716dd0b8674f29d5ed21d1f5aa2c8d183c"), looks := false }, kinds := [], alts := [], laidByText := true, laidKinds := [.data], laidTests := true, laidLooks := .later }
def NetTurnsCardSaid : Prop := Claim7.holds Tryd.pinned (.plain (OpenSpec.ofChange netTurnsSpec)) netTurnsCard

/-- THE TIED CARD OF 'horologelaw15.NetPlays'. -/
def netPlaysCard : Claim7 := { stood := { row := netPlaysRow, standIns := [], harness := (true, "908a46ff816acd5c8a8094b645389a716dd0b8674f29d5ed21d1f5aa2c8d183c"), looks := false }, kinds := [], alts := [], laidByText := true, laidKinds := [.data], laidTests := true, laidLooks := .later }
def NetPlaysCardSaid : Prop := Claim7.holds Tryd.pinned (.plain (OpenSpec.ofChange netPlaysSpec)) netPlaysCard

/-- THE TIED CARD OF 'horologelaw15.NetCuts'. -/
def netCutsCard : Claim7 := { stood := { row := netCutsRow, standIns := [], harness := (true, "908a46ff816acd5c8a8094b645389a716dd0b8674f29d5ed21d1f5aa2c8d183c"), looks := false }, kinds := [], alts := [], laidByText := true, laidKinds := [.data], laidTests := true, laidLooks := .later }
def NetCutsCardSaid : Prop := Claim7.holds Tryd.pinned (.plain (OpenSpec.ofChange netCutsSpec)) netCutsCard

/-- THE TIED CARD OF 'horologelaw15.NetOrder'. -/
def netOrderCard : Claim7 := { stood := { row := netOrderRow, standIns := [], harness := (true, "908a46ff816acd5c8a8094b645389a716dd0b8674f29d5ed21d1f5aa2c8d183c"), looks := false }, kinds := [], alts := [], laidByText := true, laidKinds := [.data], laidTests := true, laidLooks := .later }
def NetOrderCardSaid : Prop := Claim7.holds Tryd.pinned (.plain (OpenSpec.ofChange netOrderSpec)) netOrderCard

/-- THE SECOND FORM's CARD OF 'horologelaw15.NetMsgs'. -/
def netMsgsUptoCard : Claim7 := { stood := { row := netMsgsUptoRow, standIns := [], harness := (true, "908a46ff816acd5c8a8094b645389a716dd0b8674f29d5ed21d1f5aa2c8d183c"), looks := false }, kinds := [], alts := [], laidByText := true, laidKinds := [.data], laidTests := true, laidLooks := .later }
def NetMsgsUptoCardSaid : Prop := Claim7.holds Tryd.pinned (.plain (OpenSpec.upto netMsgsSpec)) netMsgsUptoCard

/-- THE SECOND FORM's CARD OF 'horologelaw15.NetTurns'. -/
def netTurnsUptoCard : Claim7 := { stood := { row := netTurnsUptoRow, standIns := [], harness := (true, "908a46ff816acd5c8a8094b645389a716dd0b8674f29d5ed21d1f5aa2c8d183c"), looks := false }, kinds := [], alts := [], laidByText := true, laidKinds := [.data], laidTests := true, laidLooks := .later }
def NetTurnsUptoCardSaid : Prop := Claim7.holds Tryd.pinned (.plain (OpenSpec.upto netTurnsSpec)) netTurnsUptoCard

/-- THE SECOND FORM's CARD OF 'horologelaw15.NetPlays'. -/
def netPlaysUptoCard : Claim7 := { stood := { row := netPlaysUptoRow, standIns := [], harness := (true, "908a46ff816acd5c8a8094b645389a716dd0b8674f29d5ed21d1f5aa2c8d183c"), looks := false }, kinds := [], alts := [], laidByText := true, laidKinds := [.data], laidTests := true, laidLooks := .later }
def NetPlaysUptoCardSaid : Prop := Claim7.holds Tryd.pinned (.plain (OpenSpec.upto netPlaysSpec)) netPlaysUptoCard

/-- THE SECOND FORM's CARD OF 'horologelaw15.NetCuts'. -/
def netCutsUptoCard : Claim7 := { stood := { row := netCutsUptoRow, standIns := [], harness := (true, "908a46ff816acd5c8a8094b645389a716dd0b8674f29d5ed21d1f5aa2c8d183c"), looks := false }, kinds := [], alts := [], laidByText := true, laidKinds := [.data], laidTests := true, laidLooks := .later }
def NetCutsUptoCardSaid : Prop := Claim7.holds Tryd.pinned (.plain (OpenSpec.upto netCutsSpec)) netCutsUptoCard

/-- THE SECOND FORM's CARD OF 'horologelaw15.NetOrder'. -/
def netOrderUptoCard : Claim7 := { stood := { row := netOrderUptoRow, standIns := [], harness := (true, "908a46ff816acd5c8a8094b645389a716dd0b8674f29d5ed21d1f5aa2c8d183c"), looks := false }, kinds := [], alts := [], laidByText := true, laidKinds := [.data], laidTests := true, laidLooks := .later }
def NetOrderUptoCardSaid : Prop := Claim7.holds Tryd.pinned (.plain (OpenSpec.upto netOrderSpec)) netOrderUptoCard
end Rows
end Go.Proofs.YtamgoknoapcnjaaDoor
