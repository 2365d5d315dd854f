/-
  DERIVED. GIVEN WITH THE SEED: THE CARDS: each row of YtenbnmbbfeekpabDoorRows.lean that lists a variable, with what it lists TIED to the program's text (the seventh form; the later family's looks); each row that meets fmt, with fmt's text TOLD by the authors' own Lean function (tested against real Go, not proved from fmt's source: count such statements apart). THE CARD IS WHAT COUNTS. Prove the row's statement (the work); the ties are given (YtenbnmbbfeekpabDoorTie.lean); close each card by the builder's one call (the guide's Derived/Test/ToyasCard.lean, 'card_holds'). Laid BY PROGRAM, IN A SANDBOX (cutbox-door.mjs). By AI agents, Wed Nov 11 2026. No macro, syntax, notation, axiom, sorry.
-/
import Derived.Test.YtenbnmbbfeekpabDoorRows
import GoSem.ClaimSeven
namespace Go.Proofs.YtenbnmbbfeekpabDoor
namespace Rows

/-- THE TIED CARD OF 'upkeepkeep.Aside'. -/
def asideCard : Claim7 := { stood := { row := asideRow, standIns := [], harness := (true, "b1ab0ff4f615cf978fc00a9cf73962757277e82ae5059f510844745f618a9df8"), looks := false }, kinds := [], alts := [], laidByText := true, laidKinds := [.data, .data, .data], laidTests := true, laidLooks := .later }
def AsideCardSaid : Prop := Claim7.holds Tryd.pinned (.plain (OpenSpec.ofChange asideSpec)) asideCard

/-- THE SECOND FORM's CARD OF 'upkeepkeep.Aside'. -/
def asideUptoCard : Claim7 := { stood := { row := asideUptoRow, standIns := [], harness := (true, "b1ab0ff4f615cf978fc00a9cf73962757277e82ae5059f510844745f618a9df8"), looks := false }, kinds := [], alts := [], laidByText := true, laidKinds := [.data, .data, .data], laidTests := true, laidLooks := .later }
def AsideUptoCardSaid : Prop := Claim7.holds Tryd.pinned (.plain (OpenSpec.upto asideSpec)) asideUptoCard
end Rows
end Go.Proofs.YtenbnmbbfeekpabDoor
