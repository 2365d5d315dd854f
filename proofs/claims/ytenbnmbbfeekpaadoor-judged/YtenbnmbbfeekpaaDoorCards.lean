/-
  DERIVED. GIVEN WITH THE SEED: THE CARDS: each row of YtenbnmbbfeekpaaDoorRows.lean that lists a variable, with what it lists TIED to the program's text (the seventh form; the later family's looks); each row that meets fmt, with fmt's text TOLD by the authors' own Lean function (tested against real Go, not proved from fmt's source: count such statements apart). THE CARD IS WHAT COUNTS. Prove the row's statement (the work); the ties are given (YtenbnmbbfeekpaaDoorTie.lean); close each card by the builder's one call (the guide's Derived/Test/ToyasCard.lean, 'card_holds'). Laid BY PROGRAM, IN A SANDBOX (cutbox-door.mjs). By AI agents, Wed Nov 11 2026. No macro, syntax, notation, axiom, sorry.
-/
import Derived.Test.YtenbnmbbfeekpaaDoorRows
import GoSem.ClaimSeven
namespace Go.Proofs.YtenbnmbbfeekpaaDoor
namespace Rows

/-- THE TIED CARD OF 'upkeepkeep.Judged'. -/
def judgedCard : Claim7 := { stood := { row := judgedRow, standIns := [], harness := (true, "5ce4c88cf0f203ea0573ba8437daaee4f4647219e189dbb7305bbc65ec36a106"), looks := false }, kinds := [], alts := [], laidByText := true, laidKinds := [.data, .data, .data], laidTests := true, laidLooks := .later }
def JudgedCardSaid : Prop := Claim7.holds Tryd.pinned (.plain (OpenSpec.ofChange judgedSpec)) judgedCard

/-- THE TIED CARD OF 'upkeepkeep.Shown'. -/
def shownCard : Claim7 := { stood := { row := shownRow, standIns := [], harness := (true, "5ce4c88cf0f203ea0573ba8437daaee4f4647219e189dbb7305bbc65ec36a106"), looks := false }, kinds := [], alts := [], laidByText := true, laidKinds := [.data, .data, .data], laidTests := true, laidLooks := .later }
def ShownCardSaid : Prop := Claim7.holds Tryd.pinned (.plain (OpenSpec.ofChange shownSpec)) shownCard

/-- THE TIED CARD OF 'upkeepkeep.Prefixed'. -/
def prefixedCard : Claim7 := { stood := { row := prefixedRow, standIns := [], harness := (true, "5ce4c88cf0f203ea0573ba8437daaee4f4647219e189dbb7305bbc65ec36a106"), looks := false }, kinds := [], alts := [], laidByText := true, laidKinds := [.data, .data, .data], laidTests := true, laidLooks := .later }
def PrefixedCardSaid : Prop := Claim7.holds Tryd.pinned (.plain (OpenSpec.ofChange prefixedSpec)) prefixedCard

/-- THE TIED CARD OF 'upkeepkeep.Calm'. -/
def calmCard : Claim7 := { stood := { row := calmRow, standIns := [], harness := (true, "5ce4c88cf0f203ea0573ba8437daaee4f4647219e189dbb7305bbc65ec36a106"), looks := false }, kinds := [], alts := [], laidByText := true, laidKinds := [.data, .data, .data], laidTests := true, laidLooks := .later }
def CalmCardSaid : Prop := Claim7.holds Tryd.pinned (.plain (OpenSpec.ofChange calmSpec)) calmCard

/-- THE SECOND FORM's CARD OF 'upkeepkeep.Judged'. -/
def judgedUptoCard : Claim7 := { stood := { row := judgedUptoRow, standIns := [], harness := (true, "5ce4c88cf0f203ea0573ba8437daaee4f4647219e189dbb7305bbc65ec36a106"), looks := false }, kinds := [], alts := [], laidByText := true, laidKinds := [.data, .data, .data], laidTests := true, laidLooks := .later }
def JudgedUptoCardSaid : Prop := Claim7.holds Tryd.pinned (.plain (OpenSpec.upto judgedSpec)) judgedUptoCard

/-- THE SECOND FORM's CARD OF 'upkeepkeep.Shown'. -/
def shownUptoCard : Claim7 := { stood := { row := shownUptoRow, standIns := [], harness := (true, "5ce4c88cf0f203ea0573ba8437daaee4f4647219e189dbb7305bbc65ec36a106"), looks := false }, kinds := [], alts := [], laidByText := true, laidKinds := [.data, .data, .data], laidTests := true, laidLooks := .later }
def ShownUptoCardSaid : Prop := Claim7.holds Tryd.pinned (.plain (OpenSpec.upto shownSpec)) shownUptoCard

/-- THE SECOND FORM's CARD OF 'upkeepkeep.Prefixed'. -/
def prefixedUptoCard : Claim7 := { stood := { row := prefixedUptoRow, standIns := [], harness := (true, "5ce4c88cf0f203ea0573ba8437daaee4f4647219e189dbb7305bbc65ec36a106"), looks := false }, kinds := [], alts := [], laidByText := true, laidKinds := [.data, .data, .data], laidTests := true, laidLooks := .later }
def PrefixedUptoCardSaid : Prop := Claim7.holds Tryd.pinned (.plain (OpenSpec.upto prefixedSpec)) prefixedUptoCard

/-- THE SECOND FORM's CARD OF 'upkeepkeep.Calm'. -/
def calmUptoCard : Claim7 := { stood := { row := calmUptoRow, standIns := [], harness := (true, "5ce4c88cf0f203ea0573ba8437daaee4f4647219e189dbb7305bbc65ec36a106"), looks := false }, kinds := [], alts := [], laidByText := true, laidKinds := [.data, .data, .data], laidTests := true, laidLooks := .later }
def CalmUptoCardSaid : Prop := Claim7.holds Tryd.pinned (.plain (OpenSpec.upto calmSpec)) calmUptoCard
end Rows
end Go.Proofs.YtenbnmbbfeekpaaDoor
