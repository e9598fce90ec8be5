/-
  DERIVED. GIVEN WITH THE SEED: THE CARDS: each row of YtdojpnhjnhecmabDoorRows.lean that lists a variable, with what it lists TIED to the program's text (the seventh form; the later family's looks); each row that meets fmt, with fmt's text TOLD by the authors' own Lean function (tested against real Go, not proved from fmt's source: count such statements apart). THE CARD IS WHAT COUNTS. Prove the row's statement (the work); the ties are given (YtdojpnhjnhecmabDoorTie.lean); close each card by the builder's one call (the guide's Derived/Test/ToyasCard.lean, 'card_holds'). Laid BY PROGRAM, IN A SANDBOX (cutbox-door.mjs). By AI agents, Wed Nov 11 2026. No macro, syntax, notation, axiom, sorry.
-/
import Derived.Test.YtdojpnhjnhecmabDoorRows
import GoSem.ClaimSeven
namespace Go.Proofs.YtdojpnhjnhecmabDoor
namespace Rows

/-- THE TIED CARD OF 'horologelaw6.CronNever'. -/
def cronNeverCard : Claim7 := { stood := { row := cronNeverRow, standIns := [], harness := (true, "83b7134bb8ee6f3c25f03031aefa055cd8cc628bd99454f908b25848ecb0c5e0"), looks := false }, kinds := [], alts := [], laidByText := true, laidKinds := [.data, .data, .data, .data, .data, .data], laidTests := true, laidLooks := .later }
def CronNeverCardSaid : Prop := Claim7.holds Tryd.pinned (.plain (OpenSpec.ofChange cronNeverSpec)) cronNeverCard

/-- THE TIED CARD OF 'horologelaw6.CronSteps'. -/
def cronStepsCard : Claim7 := { stood := { row := cronStepsRow, standIns := [], harness := (true, "83b7134bb8ee6f3c25f03031aefa055cd8cc628bd99454f908b25848ecb0c5e0"), looks := false }, kinds := [], alts := [], laidByText := true, laidKinds := [.data, .data, .data, .data, .data, .data], laidTests := true, laidLooks := .later }
def CronStepsCardSaid : Prop := Claim7.holds Tryd.pinned (.plain (OpenSpec.ofChange cronStepsSpec)) cronStepsCard

/-- THE TIED CARD OF 'horologelaw6.CronBlanks'. -/
def cronBlanksCard : Claim7 := { stood := { row := cronBlanksRow, standIns := [], harness := (true, "83b7134bb8ee6f3c25f03031aefa055cd8cc628bd99454f908b25848ecb0c5e0"), looks := false }, kinds := [], alts := [], laidByText := true, laidKinds := [.data, .data, .data, .data, .data, .data], laidTests := true, laidLooks := .later }
def CronBlanksCardSaid : Prop := Claim7.holds Tryd.pinned (.plain (OpenSpec.ofChange cronBlanksSpec)) cronBlanksCard

/-- THE SECOND FORM's CARD OF 'horologelaw6.CronNever'. -/
def cronNeverUptoCard : Claim7 := { stood := { row := cronNeverUptoRow, standIns := [], harness := (true, "83b7134bb8ee6f3c25f03031aefa055cd8cc628bd99454f908b25848ecb0c5e0"), looks := false }, kinds := [], alts := [], laidByText := true, laidKinds := [.data, .data, .data, .data, .data, .data], laidTests := true, laidLooks := .later }
def CronNeverUptoCardSaid : Prop := Claim7.holds Tryd.pinned (.plain (OpenSpec.upto cronNeverSpec)) cronNeverUptoCard

/-- THE SECOND FORM's CARD OF 'horologelaw6.CronSteps'. -/
def cronStepsUptoCard : Claim7 := { stood := { row := cronStepsUptoRow, standIns := [], harness := (true, "83b7134bb8ee6f3c25f03031aefa055cd8cc628bd99454f908b25848ecb0c5e0"), looks := false }, kinds := [], alts := [], laidByText := true, laidKinds := [.data, .data, .data, .data, .data, .data], laidTests := true, laidLooks := .later }
def CronStepsUptoCardSaid : Prop := Claim7.holds Tryd.pinned (.plain (OpenSpec.upto cronStepsSpec)) cronStepsUptoCard

/-- THE SECOND FORM's CARD OF 'horologelaw6.CronBlanks'. -/
def cronBlanksUptoCard : Claim7 := { stood := { row := cronBlanksUptoRow, standIns := [], harness := (true, "83b7134bb8ee6f3c25f03031aefa055cd8cc628bd99454f908b25848ecb0c5e0"), looks := false }, kinds := [], alts := [], laidByText := true, laidKinds := [.data, .data, .data, .data, .data, .data], laidTests := true, laidLooks := .later }
def CronBlanksUptoCardSaid : Prop := Claim7.holds Tryd.pinned (.plain (OpenSpec.upto cronBlanksSpec)) cronBlanksUptoCard
end Rows
end Go.Proofs.YtdojpnhjnhecmabDoor
