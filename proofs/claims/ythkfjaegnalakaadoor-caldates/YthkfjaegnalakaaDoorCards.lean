/-
  DERIVED. GIVEN WITH THE SEED: THE CARDS: each row of YthkfjaegnalakaaDoorRows.lean that lists a variable, with what it lists TIED to the program's text (the seventh form; the later family's looks); each row that meets fmt, with fmt's text TOLD by the authors' own Lean function (tested against real Go, not proved from fmt's source: count such statements apart). THE CARD IS WHAT COUNTS. Prove the row's statement (the work); the ties are given (YthkfjaegnalakaaDoorTie.lean); close each card by the builder's one call (the guide's Derived/Test/ToyasCard.lean, 'card_holds'). Laid BY PROGRAM, IN A SANDBOX (cutbox-door.mjs). By AI agents, Wed Nov 11 2026. No macro, syntax, notation, axiom, sorry.
-/
import Derived.Test.YthkfjaegnalakaaDoorRows
import GoSem.ClaimSeven
namespace Go.Proofs.YthkfjaegnalakaaDoor
namespace Rows

/-- THE TIED CARD OF 'horologelaw5.CalDates'. -/
def calDatesCard : Claim7 := { stood := { row := calDatesRow, standIns := [], harness := (true, "d658538f236da9664f7340568582315ccc62c31a30d4d6760014bde0c0ac0031"), looks := false }, kinds := [], alts := [], laidByText := true, laidKinds := [.data, .data], laidTests := true, laidLooks := .later }
def CalDatesCardSaid : Prop := Claim7.holds Tryd.pinned (.plain (OpenSpec.ofChange calDatesSpec)) calDatesCard

/-- THE TIED CARD OF 'horologelaw5.CalBack'. -/
def calBackCard : Claim7 := { stood := { row := calBackRow, standIns := [], harness := (true, "d658538f236da9664f7340568582315ccc62c31a30d4d6760014bde0c0ac0031"), looks := false }, kinds := [], alts := [], laidByText := true, laidKinds := [.data, .data], laidTests := true, laidLooks := .later }
def CalBackCardSaid : Prop := Claim7.holds Tryd.pinned (.plain (OpenSpec.ofChange calBackSpec)) calBackCard

/-- THE TIED CARD OF 'horologelaw5.CalYears'. -/
def calYearsCard : Claim7 := { stood := { row := calYearsRow, standIns := [], harness := (true, "d658538f236da9664f7340568582315ccc62c31a30d4d6760014bde0c0ac0031"), looks := false }, kinds := [], alts := [], laidByText := true, laidKinds := [.data, .data], laidTests := true, laidLooks := .later }
def CalYearsCardSaid : Prop := Claim7.holds Tryd.pinned (.plain (OpenSpec.ofChange calYearsSpec)) calYearsCard

/-- THE TIED CARD OF 'horologelaw5.CalWeeks'. -/
def calWeeksCard : Claim7 := { stood := { row := calWeeksRow, standIns := [], harness := (true, "d658538f236da9664f7340568582315ccc62c31a30d4d6760014bde0c0ac0031"), looks := false }, kinds := [], alts := [], laidByText := true, laidKinds := [.data, .data], laidTests := true, laidLooks := .later }
def CalWeeksCardSaid : Prop := Claim7.holds Tryd.pinned (.plain (OpenSpec.ofChange calWeeksSpec)) calWeeksCard

/-- THE TIED CARD OF 'horologelaw5.CalBounds'. -/
def calBoundsCard : Claim7 := { stood := { row := calBoundsRow, standIns := [], harness := (true, "d658538f236da9664f7340568582315ccc62c31a30d4d6760014bde0c0ac0031"), looks := false }, kinds := [], alts := [], laidByText := true, laidKinds := [.data, .data], laidTests := true, laidLooks := .later }
def CalBoundsCardSaid : Prop := Claim7.holds Tryd.pinned (.plain (OpenSpec.ofChange calBoundsSpec)) calBoundsCard

/-- THE SECOND FORM's CARD OF 'horologelaw5.CalDates'. -/
def calDatesUptoCard : Claim7 := { stood := { row := calDatesUptoRow, standIns := [], harness := (true, "d658538f236da9664f7340568582315ccc62c31a30d4d6760014bde0c0ac0031"), looks := false }, kinds := [], alts := [], laidByText := true, laidKinds := [.data, .data], laidTests := true, laidLooks := .later }
def CalDatesUptoCardSaid : Prop := Claim7.holds Tryd.pinned (.plain (OpenSpec.upto calDatesSpec)) calDatesUptoCard

/-- THE SECOND FORM's CARD OF 'horologelaw5.CalBack'. -/
def calBackUptoCard : Claim7 := { stood := { row := calBackUptoRow, standIns := [], harness := (true, "d658538f236da9664f7340568582315ccc62c31a30d4d6760014bde0c0ac0031"), looks := false }, kinds := [], alts := [], laidByText := true, laidKinds := [.data, .data], laidTests := true, laidLooks := .later }
def CalBackUptoCardSaid : Prop := Claim7.holds Tryd.pinned (.plain (OpenSpec.upto calBackSpec)) calBackUptoCard

/-- THE SECOND FORM's CARD OF 'horologelaw5.CalYears'. -/
def calYearsUptoCard : Claim7 := { stood := { row := calYearsUptoRow, standIns := [], harness := (true, "d658538f236da9664f7340568582315ccc62c31a30d4d6760014bde0c0ac0031"), looks := false }, kinds := [], alts := [], laidByText := true, laidKinds := [.data, .data], laidTests := true, laidLooks := .later }
def CalYearsUptoCardSaid : Prop := Claim7.holds Tryd.pinned (.plain (OpenSpec.upto calYearsSpec)) calYearsUptoCard

/-- THE SECOND FORM's CARD OF 'horologelaw5.CalWeeks'. -/
def calWeeksUptoCard : Claim7 := { stood := { row := calWeeksUptoRow, standIns := [], harness := (true, "d658538f236da9664f7340568582315ccc62c31a30d4d6760014bde0c0ac0031"), looks := false }, kinds := [], alts := [], laidByText := true, laidKinds := [.data, .data], laidTests := true, laidLooks := .later }
def CalWeeksUptoCardSaid : Prop := Claim7.holds Tryd.pinned (.plain (OpenSpec.upto calWeeksSpec)) calWeeksUptoCard

/-- THE SECOND FORM's CARD OF 'horologelaw5.CalBounds'. -/
def calBoundsUptoCard : Claim7 := { stood := { row := calBoundsUptoRow, standIns := [], harness := (true, "d658538f236da9664f7340568582315ccc62c31a30d4d6760014bde0c0ac0031"), looks := false }, kinds := [], alts := [], laidByText := true, laidKinds := [.data, .data], laidTests := true, laidLooks := .later }
def CalBoundsUptoCardSaid : Prop := Claim7.holds Tryd.pinned (.plain (OpenSpec.upto calBoundsSpec)) calBoundsUptoCard
end Rows
end Go.Proofs.YthkfjaegnalakaaDoor
