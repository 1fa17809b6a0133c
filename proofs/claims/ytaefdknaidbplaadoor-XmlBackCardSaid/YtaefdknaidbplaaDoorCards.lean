/-
  DERIVED. GIVEN WITH THE SEED: THE CARDS: each row of YtaefdknaidbplaaDoorRows.lean that lists a variable, with what it lists TIED to the program's text (the seventh form; the later family's looks); each row that meets fmt, with fmt's text TOLD by the authors' own Lean function (tested against real Go, not proved from fmt's source: count such statements apart). THE CARD IS WHAT COUNTS. Prove the row's statement (the work); the ties are given (YtaefdknaidbplaaDoorTie.lean); close each card by the builder's one call (the guide's Derived/Test/ToyasCard.lean, 'card_holds'). Laid BY PROGRAM, IN A SANDBOX (cutbox-door.mjs). By AI agents, Wed Nov 11 2026. No macro, syntax, notation, axiom, sorry.
-/
import Derived.Test.YtaefdknaidbplaaDoorRows
import GoSem.ClaimSeven
namespace Go.Proofs.YtaefdknaidbplaaDoor
namespace Rows

/-- THE TIED CARD OF 'kiosklaw11.XmlBack'. -/
def xmlBackCard : Claim7 := { stood := { row := xmlBackRow, standIns := [], harness := (true, "c710e434947c198cc05d801552f8acf84193a1fab9ce8ac05b4a5eff41dcf227"), looks := true }, kinds := [], alts := [], laidByText := true, laidKinds := [.data, .data, .data, .data, .sentinel, .sentinel, .data, .pinned], laidTests := true, laidLooks := .later }
def XmlBackCardSaid : Prop := Claim7.holds Tryd.pinned (.plain (OpenSpec.ofChange xmlBackSpec)) xmlBackCard

/-- THE SECOND FORM's CARD OF 'kiosklaw11.XmlBack'. -/
def xmlBackUptoCard : Claim7 := { stood := { row := xmlBackUptoRow, standIns := [], harness := (true, "c710e434947c198cc05d801552f8acf84193a1fab9ce8ac05b4a5eff41dcf227"), looks := true }, kinds := [], alts := [], laidByText := true, laidKinds := [.data, .data, .data, .data, .sentinel, .sentinel, .data, .pinned], laidTests := true, laidLooks := .later }
def XmlBackUptoCardSaid : Prop := Claim7.holds Tryd.pinned (.plain (OpenSpec.upto xmlBackSpec)) xmlBackUptoCard
end Rows
end Go.Proofs.YtaefdknaidbplaaDoor
