/-
  DERIVED. GIVEN WITH THE SEED: THE CARDS: each row of YtdcpfjlnagigaaaGreatDoorRows.lean that lists a variable, with what it lists TIED to the program's text (the seventh form; the later family's looks); each row that meets fmt, with fmt's text TOLD by the authors' own Lean function (tested against real Go, not proved from fmt's source: count such statements apart). THE CARD IS WHAT COUNTS. Prove the row's statement (the work); the ties are given (YtdcpfjlnagigaaaGreatDoorTie.lean); close each card by the builder's one call (the guide's Derived/Test/ToyasCard.lean, 'card_holds'). Laid BY PROGRAM, IN A SANDBOX (cutbox-door.mjs). By AI agents, Wed Nov 11 2026. No macro, syntax, notation, axiom, sorry.
-/
import Derived.Test.YtdcpfjlnagigaaaGreatDoorRows
import GoSem.ClaimSeven
namespace Go.Proofs.YtdcpfjlnagigaaaGreatDoor
namespace Rows

/-- THE TIED CARD OF 'horologelaw4.ShotsPlay'. -/
def shotsPlayCard : Claim7 := { stood := { row := shotsPlayRow, standIns := [], harness := (true, "01f3b4b972fc5a43196751d68085366155a28df778bd245817fec6cde3770a11"), looks := false }, kinds := [], alts := [], laidByText := true, laidKinds := [.data, .data, .data, .data], laidTests := true, laidLooks := .later }
def ShotsPlayCardSaid : Prop := Claim7.holds Tryz.pinned (.plain (OpenSpec.ofChange shotsPlaySpec)) shotsPlayCard

/-- THE TIED CARD OF 'horologelaw4.ShotsCrash'. -/
def shotsCrashCard : Claim7 := { stood := { row := shotsCrashRow, standIns := [], harness := (true, "01f3b4b972fc5a43196751d68085366155a28df778bd245817fec6cde3770a11"), looks := false }, kinds := [], alts := [], laidByText := true, laidKinds := [.data, .data, .data, .data], laidTests := true, laidLooks := .later }
def ShotsCrashCardSaid : Prop := Claim7.holds Tryz.pinned (.plain (OpenSpec.ofChange shotsCrashSpec)) shotsCrashCard

/-- THE TIED CARD OF 'horologelaw4.ShotsNewest'. -/
def shotsNewestCard : Claim7 := { stood := { row := shotsNewestRow, standIns := [], harness := (true, "01f3b4b972fc5a43196751d68085366155a28df778bd245817fec6cde3770a11"), looks := false }, kinds := [], alts := [], laidByText := true, laidKinds := [.data, .data, .data, .data], laidTests := true, laidLooks := .later }
def ShotsNewestCardSaid : Prop := Claim7.holds Tryz.pinned (.plain (OpenSpec.ofChange shotsNewestSpec)) shotsNewestCard

/-- THE SECOND FORM's CARD OF 'horologelaw4.ShotsPlay'. -/
def shotsPlayUptoCard : Claim7 := { stood := { row := shotsPlayUptoRow, standIns := [], harness := (true, "01f3b4b972fc5a43196751d68085366155a28df778bd245817fec6cde3770a11"), looks := false }, kinds := [], alts := [], laidByText := true, laidKinds := [.data, .data, .data, .data], laidTests := true, laidLooks := .later }
def ShotsPlayUptoCardSaid : Prop := Claim7.holds Tryz.pinned (.plain (OpenSpec.upto shotsPlaySpec)) shotsPlayUptoCard

/-- THE SECOND FORM's CARD OF 'horologelaw4.ShotsCrash'. -/
def shotsCrashUptoCard : Claim7 := { stood := { row := shotsCrashUptoRow, standIns := [], harness := (true, "01f3b4b972fc5a43196751d68085366155a28df778bd245817fec6cde3770a11"), looks := false }, kinds := [], alts := [], laidByText := true, laidKinds := [.data, .data, .data, .data], laidTests := true, laidLooks := .later }
def ShotsCrashUptoCardSaid : Prop := Claim7.holds Tryz.pinned (.plain (OpenSpec.upto shotsCrashSpec)) shotsCrashUptoCard

/-- THE SECOND FORM's CARD OF 'horologelaw4.ShotsNewest'. -/
def shotsNewestUptoCard : Claim7 := { stood := { row := shotsNewestUptoRow, standIns := [], harness := (true, "01f3b4b972fc5a43196751d68085366155a28df778bd245817fec6cde3770a11"), looks := false }, kinds := [], alts := [], laidByText := true, laidKinds := [.data, .data, .data, .data], laidTests := true, laidLooks := .later }
def ShotsNewestUptoCardSaid : Prop := Claim7.holds Tryz.pinned (.plain (OpenSpec.upto shotsNewestSpec)) shotsNewestUptoCard
end Rows
end Go.Proofs.YtdcpfjlnagigaaaGreatDoor
