/-
  DERIVED. GIVEN WITH THE SEED: THE CARDS: each row of YtenbnmbbfeekpaaGreatDoorRows.lean that lists a variable, with what it lists TIED to the program's text (the seventh form; the later family's looks); each row that meets fmt, with fmt's text TOLD by the authors' own Lean function (tested against real Go, not proved from fmt's source: count such statements apart). THE CARD IS WHAT COUNTS. Prove the row's statement (the work); the ties are given (YtenbnmbbfeekpaaGreatDoorTie.lean); close each card by the builder's one call (the guide's Derived/Test/ToyasCard.lean, 'card_holds'). Laid BY PROGRAM, IN A SANDBOX (cutbox-door.mjs). By AI agents, Wed Nov 11 2026. No macro, syntax, notation, axiom, sorry.
-/
import Derived.Test.YtenbnmbbfeekpaaGreatDoorRows
import GoSem.ClaimSeven
namespace Go.Proofs.YtenbnmbbfeekpaaGreatDoor
namespace Rows

/-- THE TIED CARD OF 'upkeeplaw.Checks'. -/
def checksCard : Claim7 := { stood := { row := checksRow, standIns := [], harness := (true, "9888f0622fb486aa2a9bc5b338ad70762ff95a4ffc471fb539aea34fc6b5eedc"), looks := false }, kinds := [], alts := [], laidByText := true, laidKinds := [.data, .data, .data], laidTests := true, laidLooks := .later }
def ChecksCardSaid : Prop := Claim7.holds Tryz.pinned (.plain (OpenSpec.ofChange checksSpec)) checksCard

/-- THE TIED CARD OF 'upkeeplaw.Shows'. -/
def showsCard : Claim7 := { stood := { row := showsRow, standIns := [], harness := (true, "9888f0622fb486aa2a9bc5b338ad70762ff95a4ffc471fb539aea34fc6b5eedc"), looks := false }, kinds := [], alts := [], laidByText := true, laidKinds := [.data, .data, .data], laidTests := true, laidLooks := .later }
def ShowsCardSaid : Prop := Claim7.holds Tryz.pinned (.plain (OpenSpec.ofChange showsSpec)) showsCard

/-- THE TIED CARD OF 'upkeeplaw.Valids'. -/
def validsCard : Claim7 := { stood := { row := validsRow, standIns := [], harness := (true, "9888f0622fb486aa2a9bc5b338ad70762ff95a4ffc471fb539aea34fc6b5eedc"), looks := false }, kinds := [], alts := [], laidByText := true, laidKinds := [.data, .data, .data], laidTests := true, laidLooks := .later }
def ValidsCardSaid : Prop := Claim7.holds Tryz.pinned (.plain (OpenSpec.ofChange validsSpec)) validsCard

/-- THE TIED CARD OF 'upkeeplaw.Scores'. -/
def scoresCard : Claim7 := { stood := { row := scoresRow, standIns := [], harness := (true, "9888f0622fb486aa2a9bc5b338ad70762ff95a4ffc471fb539aea34fc6b5eedc"), looks := false }, kinds := [], alts := [], laidByText := true, laidKinds := [.data, .data, .data], laidTests := true, laidLooks := .later }
def ScoresCardSaid : Prop := Claim7.holds Tryz.pinned (.plain (OpenSpec.ofChange scoresSpec)) scoresCard

/-- THE TIED CARD OF 'upkeeplaw.Solves'. -/
def solvesCard : Claim7 := { stood := { row := solvesRow, standIns := [], harness := (true, "9888f0622fb486aa2a9bc5b338ad70762ff95a4ffc471fb539aea34fc6b5eedc"), looks := false }, kinds := [], alts := [], laidByText := true, laidKinds := [.data, .data, .data], laidTests := true, laidLooks := .later }
def SolvesCardSaid : Prop := Claim7.holds Tryz.pinned (.plain (OpenSpec.ofChange solvesSpec)) solvesCard

/-- THE TIED CARD OF 'upkeeplaw.Choices'. -/
def choicesCard : Claim7 := { stood := { row := choicesRow, standIns := [], harness := (true, "9888f0622fb486aa2a9bc5b338ad70762ff95a4ffc471fb539aea34fc6b5eedc"), looks := false }, kinds := [], alts := [], laidByText := true, laidKinds := [.data, .data, .data], laidTests := true, laidLooks := .later }
def ChoicesCardSaid : Prop := Claim7.holds Tryz.pinned (.plain (OpenSpec.ofChange choicesSpec)) choicesCard

/-- THE SECOND FORM's CARD OF 'upkeeplaw.Checks'. -/
def checksUptoCard : Claim7 := { stood := { row := checksUptoRow, standIns := [], harness := (true, "9888f0622fb486aa2a9bc5b338ad70762ff95a4ffc471fb539aea34fc6b5eedc"), looks := false }, kinds := [], alts := [], laidByText := true, laidKinds := [.data, .data, .data], laidTests := true, laidLooks := .later }
def ChecksUptoCardSaid : Prop := Claim7.holds Tryz.pinned (.plain (OpenSpec.upto checksSpec)) checksUptoCard

/-- THE SECOND FORM's CARD OF 'upkeeplaw.Shows'. -/
def showsUptoCard : Claim7 := { stood := { row := showsUptoRow, standIns := [], harness := (true, "9888f0622fb486aa2a9bc5b338ad70762ff95a4ffc471fb539aea34fc6b5eedc"), looks := false }, kinds := [], alts := [], laidByText := true, laidKinds := [.data, .data, .data], laidTests := true, laidLooks := .later }
def ShowsUptoCardSaid : Prop := Claim7.holds Tryz.pinned (.plain (OpenSpec.upto showsSpec)) showsUptoCard

/-- THE SECOND FORM's CARD OF 'upkeeplaw.Valids'. -/
def validsUptoCard : Claim7 := { stood := { row := validsUptoRow, standIns := [], harness := (true, "9888f0622fb486aa2a9bc5b338ad70762ff95a4ffc471fb539aea34fc6b5eedc"), looks := false }, kinds := [], alts := [], laidByText := true, laidKinds := [.data, .data, .data], laidTests := true, laidLooks := .later }
def ValidsUptoCardSaid : Prop := Claim7.holds Tryz.pinned (.plain (OpenSpec.upto validsSpec)) validsUptoCard

/-- THE SECOND FORM's CARD OF 'upkeeplaw.Scores'. -/
def scoresUptoCard : Claim7 := { stood := { row := scoresUptoRow, standIns := [], harness := (true, "9888f0622fb486aa2a9bc5b338ad70762ff95a4ffc471fb539aea34fc6b5eedc"), looks := false }, kinds := [], alts := [], laidByText := true, laidKinds := [.data, .data, .data], laidTests := true, laidLooks := .later }
def ScoresUptoCardSaid : Prop := Claim7.holds Tryz.pinned (.plain (OpenSpec.upto scoresSpec)) scoresUptoCard

/-- THE SECOND FORM's CARD OF 'upkeeplaw.Solves'. -/
def solvesUptoCard : Claim7 := { stood := { row := solvesUptoRow, standIns := [], harness := (true, "9888f0622fb486aa2a9bc5b338ad70762ff95a4ffc471fb539aea34fc6b5eedc"), looks := false }, kinds := [], alts := [], laidByText := true, laidKinds := [.data, .data, .data], laidTests := true, laidLooks := .later }
def SolvesUptoCardSaid : Prop := Claim7.holds Tryz.pinned (.plain (OpenSpec.upto solvesSpec)) solvesUptoCard

/-- THE SECOND FORM's CARD OF 'upkeeplaw.Choices'. -/
def choicesUptoCard : Claim7 := { stood := { row := choicesUptoRow, standIns := [], harness := (true, "9888f0622fb486aa2a9bc5b338ad70762ff95a4ffc471fb539aea34fc6b5eedc"), looks := false }, kinds := [], alts := [], laidByText := true, laidKinds := [.data, .data, .data], laidTests := true, laidLooks := .later }
def ChoicesUptoCardSaid : Prop := Claim7.holds Tryz.pinned (.plain (OpenSpec.upto choicesSpec)) choicesUptoCard
end Rows
end Go.Proofs.YtenbnmbbfeekpaaGreatDoor
