/-
  DERIVED. GIVEN WITH THE SEED: THE CARDS: each row of YtdojpnhjnhecmaaDoorRows.lean that lists a variable, with what it lists TIED to the program's text (the seventh form; the later family's looks); each row that meets fmt, with fmt's text TOLD by the authors' own Lean function (tested against real Go, not proved from fmt's source: count such statements apart). THE CARD IS WHAT COUNTS. Prove the row's statement (the work); the ties are given (YtdojpnhjnhecmaaDoorTie.lean); close each card by the builder's one call (the guide's Derived/Test/ToyasCard.lean, 'card_holds'). Laid BY PROGRAM, IN A SANDBOX (cutbox-door.mjs). By AI agents, Wed Nov 11 2026. No macro, syntax, notation, axiom, sorry.
-/
import Derived.Test.YtdojpnhjnhecmaaDoorRows
import GoSem.ClaimSeven
namespace Go.Proofs.YtdojpnhjnhecmaaDoor
namespace Rows

/-- THE TIED CARD OF 'horologelaw6.CronTexts'. -/
def cronTextsCard : Claim7 := { stood := { row := cronTextsRow, standIns := [], harness := (true, "17373c8db59c49a656c2ccf0ebd1c1223c6afede2ad453406c6563b065dd5541"), looks := false }, kinds := [], alts := [], laidByText := true, laidKinds := [.data, .data, .data, .data, .data, .data], laidTests := true, laidLooks := .later }
def CronTextsCardSaid : Prop := Claim7.holds Tryd.pinned (.plain (OpenSpec.ofChange cronTextsSpec)) cronTextsCard

/-- THE TIED CARD OF 'horologelaw6.CronFinds'. -/
def cronFindsCard : Claim7 := { stood := { row := cronFindsRow, standIns := [], harness := (true, "17373c8db59c49a656c2ccf0ebd1c1223c6afede2ad453406c6563b065dd5541"), looks := false }, kinds := [], alts := [], laidByText := true, laidKinds := [.data, .data, .data, .data, .data, .data], laidTests := true, laidLooks := .later }
def CronFindsCardSaid : Prop := Claim7.holds Tryd.pinned (.plain (OpenSpec.ofChange cronFindsSpec)) cronFindsCard

/-- THE TIED CARD OF 'horologelaw6.CronNext'. -/
def cronNextCard : Claim7 := { stood := { row := cronNextRow, standIns := [], harness := (true, "17373c8db59c49a656c2ccf0ebd1c1223c6afede2ad453406c6563b065dd5541"), looks := false }, kinds := [], alts := [], laidByText := true, laidKinds := [.data, .data, .data, .data, .data, .data], laidTests := true, laidLooks := .later }
def CronNextCardSaid : Prop := Claim7.holds Tryd.pinned (.plain (OpenSpec.ofChange cronNextSpec)) cronNextCard

/-- THE TIED CARD OF 'horologelaw6.CronFields'. -/
def cronFieldsCard : Claim7 := { stood := { row := cronFieldsRow, standIns := [], harness := (true, "17373c8db59c49a656c2ccf0ebd1c1223c6afede2ad453406c6563b065dd5541"), looks := false }, kinds := [], alts := [], laidByText := true, laidKinds := [.data, .data, .data, .data, .data, .data], laidTests := true, laidLooks := .later }
def CronFieldsCardSaid : Prop := Claim7.holds Tryd.pinned (.plain (OpenSpec.ofChange cronFieldsSpec)) cronFieldsCard

/-- THE TIED CARD OF 'horologelaw6.CronDays'. -/
def cronDaysCard : Claim7 := { stood := { row := cronDaysRow, standIns := [], harness := (true, "17373c8db59c49a656c2ccf0ebd1c1223c6afede2ad453406c6563b065dd5541"), looks := false }, kinds := [], alts := [], laidByText := true, laidKinds := [.data, .data, .data, .data, .data, .data], laidTests := true, laidLooks := .later }
def CronDaysCardSaid : Prop := Claim7.holds Tryd.pinned (.plain (OpenSpec.ofChange cronDaysSpec)) cronDaysCard

/-- THE TIED CARD OF 'horologelaw6.CronEvery'. -/
def cronEveryCard : Claim7 := { stood := { row := cronEveryRow, standIns := [], harness := (true, "17373c8db59c49a656c2ccf0ebd1c1223c6afede2ad453406c6563b065dd5541"), looks := false }, kinds := [], alts := [], laidByText := true, laidKinds := [.data, .data, .data, .data, .data, .data], laidTests := true, laidLooks := .later }
def CronEveryCardSaid : Prop := Claim7.holds Tryd.pinned (.plain (OpenSpec.ofChange cronEverySpec)) cronEveryCard

/-- THE SECOND FORM's CARD OF 'horologelaw6.CronTexts'. -/
def cronTextsUptoCard : Claim7 := { stood := { row := cronTextsUptoRow, standIns := [], harness := (true, "17373c8db59c49a656c2ccf0ebd1c1223c6afede2ad453406c6563b065dd5541"), looks := false }, kinds := [], alts := [], laidByText := true, laidKinds := [.data, .data, .data, .data, .data, .data], laidTests := true, laidLooks := .later }
def CronTextsUptoCardSaid : Prop := Claim7.holds Tryd.pinned (.plain (OpenSpec.upto cronTextsSpec)) cronTextsUptoCard

/-- THE SECOND FORM's CARD OF 'horologelaw6.CronFinds'. -/
def cronFindsUptoCard : Claim7 := { stood := { row := cronFindsUptoRow, standIns := [], harness := (true, "17373c8db59c49a656c2ccf0ebd1c1223c6afede2ad453406c6563b065dd5541"), looks := false }, kinds := [], alts := [], laidByText := true, laidKinds := [.data, .data, .data, .data, .data, .data], laidTests := true, laidLooks := .later }
def CronFindsUptoCardSaid : Prop := Claim7.holds Tryd.pinned (.plain (OpenSpec.upto cronFindsSpec)) cronFindsUptoCard

/-- THE SECOND FORM's CARD OF 'horologelaw6.CronNext'. -/
def cronNextUptoCard : Claim7 := { stood := { row := cronNextUptoRow, standIns := [], harness := (true, "17373c8db59c49a656c2ccf0ebd1c1223c6afede2ad453406c6563b065dd5541"), looks := false }, kinds := [], alts := [], laidByText := true, laidKinds := [.data, .data, .data, .data, .data, .data], laidTests := true, laidLooks := .later }
def CronNextUptoCardSaid : Prop := Claim7.holds Tryd.pinned (.plain (OpenSpec.upto cronNextSpec)) cronNextUptoCard

/-- THE SECOND FORM's CARD OF 'horologelaw6.CronFields'. -/
def cronFieldsUptoCard : Claim7 := { stood := { row := cronFieldsUptoRow, standIns := [], harness := (true, "17373c8db59c49a656c2ccf0ebd1c1223c6afede2ad453406c6563b065dd5541"), looks := false }, kinds := [], alts := [], laidByText := true, laidKinds := [.data, .data, .data, .data, .data, .data], laidTests := true, laidLooks := .later }
def CronFieldsUptoCardSaid : Prop := Claim7.holds Tryd.pinned (.plain (OpenSpec.upto cronFieldsSpec)) cronFieldsUptoCard

/-- THE SECOND FORM's CARD OF 'horologelaw6.CronDays'. -/
def cronDaysUptoCard : Claim7 := { stood := { row := cronDaysUptoRow, standIns := [], harness := (true, "17373c8db59c49a656c2ccf0ebd1c1223c6afede2ad453406c6563b065dd5541"), looks := false }, kinds := [], alts := [], laidByText := true, laidKinds := [.data, .data, .data, .data, .data, .data], laidTests := true, laidLooks := .later }
def CronDaysUptoCardSaid : Prop := Claim7.holds Tryd.pinned (.plain (OpenSpec.upto cronDaysSpec)) cronDaysUptoCard

/-- THE SECOND FORM's CARD OF 'horologelaw6.CronEvery'. -/
def cronEveryUptoCard : Claim7 := { stood := { row := cronEveryUptoRow, standIns := [], harness := (true, "17373c8db59c49a656c2ccf0ebd1c1223c6afede2ad453406c6563b065dd5541"), looks := false }, kinds := [], alts := [], laidByText := true, laidKinds := [.data, .data, .data, .data, .data, .data], laidTests := true, laidLooks := .later }
def CronEveryUptoCardSaid : Prop := Claim7.holds Tryd.pinned (.plain (OpenSpec.upto cronEverySpec)) cronEveryUptoCard
end Rows
end Go.Proofs.YtdojpnhjnhecmaaDoor
