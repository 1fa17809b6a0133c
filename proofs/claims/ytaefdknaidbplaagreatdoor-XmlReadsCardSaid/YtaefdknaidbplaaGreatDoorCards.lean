/-
  DERIVED. GIVEN WITH THE SEED: THE CARDS: each row of YtaefdknaidbplaaGreatDoorRows.lean that lists a variable, with what it lists TIED to the program's text (the seventh form; the later family's looks); each row that meets fmt, with fmt's text TOLD by the authors' own Lean function (tested against real Go, not proved from fmt's source: count such statements apart). THE CARD IS WHAT COUNTS. Prove the row's statement (the work); the ties are given (YtaefdknaidbplaaGreatDoorTie.lean); close each card by the builder's one call (the guide's Derived/Test/ToyasCard.lean, 'card_holds'). Laid BY PROGRAM, IN A SANDBOX (cutbox-door.mjs). By AI agents, Wed Nov 11 2026. No macro, syntax, notation, axiom, sorry.
-/
import Derived.Test.YtaefdknaidbplaaGreatDoorRows
import GoSem.ClaimSeven
namespace Go.Proofs.YtaefdknaidbplaaGreatDoor
namespace Rows

/-- THE TIED CARD OF 'kiosklaw11.XmlReads'. -/
def xmlReadsCard : Claim7 := { stood := { row := xmlReadsRow, standIns := [], harness := (true, "b0f87db5d8c08607ae84762427b751e9c0e73ecdc88832a6fcd06a0a5ab891cb"), looks := true }, kinds := [], alts := [], laidByText := true, laidKinds := [.data, .data, .data, .data, .sentinel, .sentinel, .data, .pinned], laidTests := true, laidLooks := .later }
def XmlReadsCardSaid : Prop := Claim7.holds Tryz.pinned (.plain (OpenSpec.ofChange xmlReadsSpec)) xmlReadsCard

/-- THE TIED CARD OF 'kiosklaw11.XmlWrites'. -/
def xmlWritesCard : Claim7 := { stood := { row := xmlWritesRow, standIns := [], harness := (true, "b0f87db5d8c08607ae84762427b751e9c0e73ecdc88832a6fcd06a0a5ab891cb"), looks := true }, kinds := [], alts := [], laidByText := true, laidKinds := [.data, .data, .data, .data, .sentinel, .sentinel, .data, .pinned], laidTests := true, laidLooks := .later }
def XmlWritesCardSaid : Prop := Claim7.holds Tryz.pinned (.plain (OpenSpec.ofChange xmlWritesSpec)) xmlWritesCard

/-- THE SECOND FORM's CARD OF 'kiosklaw11.XmlReads'. -/
def xmlReadsUptoCard : Claim7 := { stood := { row := xmlReadsUptoRow, standIns := [], harness := (true, "b0f87db5d8c08607ae84762427b751e9c0e73ecdc88832a6fcd06a0a5ab891cb"), looks := true }, kinds := [], alts := [], laidByText := true, laidKinds := [.data, .data, .data, .data, .sentinel, .sentinel, .data, .pinned], laidTests := true, laidLooks := .later }
def XmlReadsUptoCardSaid : Prop := Claim7.holds Tryz.pinned (.plain (OpenSpec.upto xmlReadsSpec)) xmlReadsUptoCard

/-- THE SECOND FORM's CARD OF 'kiosklaw11.XmlWrites'. -/
def xmlWritesUptoCard : Claim7 := { stood := { row := xmlWritesUptoRow, standIns := [], harness := (true, "b0f87db5d8c08607ae84762427b751e9c0e73ecdc88832a6fcd06a0a5ab891cb"), looks := true }, kinds := [], alts := [], laidByText := true, laidKinds := [.data, .data, .data, .data, .sentinel, .sentinel, .data, .pinned], laidTests := true, laidLooks := .later }
def XmlWritesUptoCardSaid : Prop := Claim7.holds Tryz.pinned (.plain (OpenSpec.upto xmlWritesSpec)) xmlWritesUptoCard
end Rows
end Go.Proofs.YtaefdknaidbplaaGreatDoor
