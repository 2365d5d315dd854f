/-
  DERIVED. GIVEN WITH THE SEED: THE CARDS: each row of YtenbnmbbfeekpabGreatDoorRows.lean that lists a variable, with what it lists TIED to the program's text (the seventh form; the later family's looks); each row that meets fmt, with fmt's text TOLD by the authors' own Lean function (tested against real Go, not proved from fmt's source: count such statements apart). THE CARD IS WHAT COUNTS. Prove the row's statement (the work); the ties are given (YtenbnmbbfeekpabGreatDoorTie.lean); close each card by the builder's one call (the guide's Derived/Test/ToyasCard.lean, 'card_holds'). Laid BY PROGRAM, IN A SANDBOX (cutbox-door.mjs). By AI agents, Wed Nov 11 2026. No macro, syntax, notation, axiom, sorry.
-/
import Derived.Test.YtenbnmbbfeekpabGreatDoorRows
import GoSem.ClaimSeven
namespace Go.Proofs.YtenbnmbbfeekpabGreatDoor
namespace Rows

/-- THE TIED CARD OF 'upkeepkeep.Reduced'. -/
def reducedCard : Claim7 := { stood := { row := reducedRow, standIns := [], harness := (true, "186085a0c39db3b161873f3709f0bcdea1e3a239c28d050b74e4f5911db534a0"), looks := false }, kinds := [], alts := [], laidByText := true, laidKinds := [.data, .data, .data], laidTests := true, laidLooks := .later }
def ReducedCardSaid : Prop := Claim7.holds Tryz.pinned (.plain (OpenSpec.ofChange reducedSpec)) reducedCard

/-- THE TIED CARD OF 'upkeeplaw.All'. -/
def allCard : Claim7 := { stood := { row := allRow, standIns := [], harness := (true, "186085a0c39db3b161873f3709f0bcdea1e3a239c28d050b74e4f5911db534a0"), looks := false }, kinds := [], alts := [], laidByText := true, laidKinds := [.data, .data, .data], laidTests := true, laidLooks := .later }
def AllCardSaid : Prop := Claim7.holds Tryz.pinned (.plain (OpenSpec.ofChange allSpec)) allCard

/-- THE SECOND FORM's CARD OF 'upkeepkeep.Reduced'. -/
def reducedUptoCard : Claim7 := { stood := { row := reducedUptoRow, standIns := [], harness := (true, "186085a0c39db3b161873f3709f0bcdea1e3a239c28d050b74e4f5911db534a0"), looks := false }, kinds := [], alts := [], laidByText := true, laidKinds := [.data, .data, .data], laidTests := true, laidLooks := .later }
def ReducedUptoCardSaid : Prop := Claim7.holds Tryz.pinned (.plain (OpenSpec.upto reducedSpec)) reducedUptoCard

/-- THE SECOND FORM's CARD OF 'upkeeplaw.All'. -/
def allUptoCard : Claim7 := { stood := { row := allUptoRow, standIns := [], harness := (true, "186085a0c39db3b161873f3709f0bcdea1e3a239c28d050b74e4f5911db534a0"), looks := false }, kinds := [], alts := [], laidByText := true, laidKinds := [.data, .data, .data], laidTests := true, laidLooks := .later }
def AllUptoCardSaid : Prop := Claim7.holds Tryz.pinned (.plain (OpenSpec.upto allSpec)) allUptoCard
end Rows
end Go.Proofs.YtenbnmbbfeekpabGreatDoor
