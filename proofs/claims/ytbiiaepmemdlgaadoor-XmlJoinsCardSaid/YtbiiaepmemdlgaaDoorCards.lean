/-
  DERIVED. GIVEN WITH THE SEED: THE CARDS: each row of YtbiiaepmemdlgaaDoorRows.lean that lists a variable, with what it lists TIED to the program's text (the seventh form; the later family's looks); each row that meets fmt, with fmt's text TOLD by the authors' own Lean function (tested against real Go, not proved from fmt's source: count such statements apart). THE CARD IS WHAT COUNTS. Prove the row's statement (the work); the ties are given (YtbiiaepmemdlgaaDoorTie.lean); close each card by the builder's one call (the guide's Derived/Test/ToyasCard.lean, 'card_holds'). Laid BY PROGRAM, IN A SANDBOX (cutbox-door.mjs). By AI agents, Wed Nov 11 2026. No macro, syntax, notation, axiom, sorry.
-/
import Derived.Test.YtbiiaepmemdlgaaDoorRows
import GoSem.ClaimSeven
namespace Go.Proofs.YtbiiaepmemdlgaaDoor
namespace Rows

/-- THE TIED CARD OF 'kiosklaw11.XmlBack'. -/
def xmlBackCard : Claim7 := { stood := { row := xmlBackRow, standIns := [], harness := (true, "7c1f08abdeb8fe8c35bbb1bd44f407ad5142f5a45c43efccadb916aecc1abb15"), looks := true }, kinds := [], alts := [], laidByText := true, laidKinds := [.data, .data, .data, .data, .sentinel, .sentinel, .data, .pinned], laidTests := true, laidLooks := .later }
def XmlBackCardSaid : Prop := Claim7.holds Tryd.pinned (.plain (OpenSpec.ofChange xmlBackSpec)) xmlBackCard

/-- THE TIED CARD OF 'kiosklaw11.XmlEscapes'. -/
def xmlEscapesCard : Claim7 := { stood := { row := xmlEscapesRow, standIns := [], harness := (true, "7c1f08abdeb8fe8c35bbb1bd44f407ad5142f5a45c43efccadb916aecc1abb15"), looks := true }, kinds := [], alts := [], laidByText := true, laidKinds := [.data, .data, .data, .data, .sentinel, .sentinel, .data, .pinned], laidTests := true, laidLooks := .later }
def XmlEscapesCardSaid : Prop := Claim7.holds Tryd.pinned (.plain (OpenSpec.ofChange xmlEscapesSpec)) xmlEscapesCard

/-- THE TIED CARD OF 'kiosklaw11.XmlSilent'. -/
def xmlSilentCard : Claim7 := { stood := { row := xmlSilentRow, standIns := [], harness := (true, "7c1f08abdeb8fe8c35bbb1bd44f407ad5142f5a45c43efccadb916aecc1abb15"), looks := true }, kinds := [], alts := [], laidByText := true, laidKinds := [.data, .data, .data, .data, .sentinel, .sentinel, .data, .pinned], laidTests := true, laidLooks := .later }
def XmlSilentCardSaid : Prop := Claim7.holds Tryd.pinned (.plain (OpenSpec.ofChange xmlSilentSpec)) xmlSilentCard

/-- THE TIED CARD OF 'kiosklaw11.XmlRefs'. -/
def xmlRefsCard : Claim7 := { stood := { row := xmlRefsRow, standIns := [], harness := (true, "7c1f08abdeb8fe8c35bbb1bd44f407ad5142f5a45c43efccadb916aecc1abb15"), looks := true }, kinds := [], alts := [], laidByText := true, laidKinds := [.data, .data, .data, .data, .sentinel, .sentinel, .data, .pinned], laidTests := true, laidLooks := .later }
def XmlRefsCardSaid : Prop := Claim7.holds Tryd.pinned (.plain (OpenSpec.ofChange xmlRefsSpec)) xmlRefsCard

/-- THE TIED CARD OF 'kiosklaw11.XmlJoins'. -/
def xmlJoinsCard : Claim7 := { stood := { row := xmlJoinsRow, standIns := [], harness := (true, "7c1f08abdeb8fe8c35bbb1bd44f407ad5142f5a45c43efccadb916aecc1abb15"), looks := true }, kinds := [], alts := [], laidByText := true, laidKinds := [.data, .data, .data, .data, .sentinel, .sentinel, .data, .pinned], laidTests := true, laidLooks := .later }
def XmlJoinsCardSaid : Prop := Claim7.holds Tryd.pinned (.plain (OpenSpec.ofChange xmlJoinsSpec)) xmlJoinsCard

/-- THE SECOND FORM's CARD OF 'kiosklaw11.XmlBack'. -/
def xmlBackUptoCard : Claim7 := { stood := { row := xmlBackUptoRow, standIns := [], harness := (true, "7c1f08abdeb8fe8c35bbb1bd44f407ad5142f5a45c43efccadb916aecc1abb15"), looks := true }, kinds := [], alts := [], laidByText := true, laidKinds := [.data, .data, .data, .data, .sentinel, .sentinel, .data, .pinned], laidTests := true, laidLooks := .later }
def XmlBackUptoCardSaid : Prop := Claim7.holds Tryd.pinned (.plain (OpenSpec.upto xmlBackSpec)) xmlBackUptoCard

/-- THE SECOND FORM's CARD OF 'kiosklaw11.XmlEscapes'. -/
def xmlEscapesUptoCard : Claim7 := { stood := { row := xmlEscapesUptoRow, standIns := [], harness := (true, "7c1f08abdeb8fe8c35bbb1bd44f407ad5142f5a45c43efccadb916aecc1abb15"), looks := true }, kinds := [], alts := [], laidByText := true, laidKinds := [.data, .data, .data, .data, .sentinel, .sentinel, .data, .pinned], laidTests := true, laidLooks := .later }
def XmlEscapesUptoCardSaid : Prop := Claim7.holds Tryd.pinned (.plain (OpenSpec.upto xmlEscapesSpec)) xmlEscapesUptoCard

/-- THE SECOND FORM's CARD OF 'kiosklaw11.XmlSilent'. -/
def xmlSilentUptoCard : Claim7 := { stood := { row := xmlSilentUptoRow, standIns := [], harness := (true, "7c1f08abdeb8fe8c35bbb1bd44f407ad5142f5a45c43efccadb916aecc1abb15"), looks := true }, kinds := [], alts := [], laidByText := true, laidKinds := [.data, .data, .data, .data, .sentinel, .sentinel, .data, .pinned], laidTests := true, laidLooks := .later }
def XmlSilentUptoCardSaid : Prop := Claim7.holds Tryd.pinned (.plain (OpenSpec.upto xmlSilentSpec)) xmlSilentUptoCard

/-- THE SECOND FORM's CARD OF 'kiosklaw11.XmlRefs'. -/
def xmlRefsUptoCard : Claim7 := { stood := { row := xmlRefsUptoRow, standIns := [], harness := (true, "7c1f08abdeb8fe8c35bbb1bd44f407ad5142f5a45c43efccadb916aecc1abb15"), looks := true }, kinds := [], alts := [], laidByText := true, laidKinds := [.data, .data, .data, .data, .sentinel, .sentinel, .data, .pinned], laidTests := true, laidLooks := .later }
def XmlRefsUptoCardSaid : Prop := Claim7.holds Tryd.pinned (.plain (OpenSpec.upto xmlRefsSpec)) xmlRefsUptoCard

/-- THE SECOND FORM's CARD OF 'kiosklaw11.XmlJoins'. -/
def xmlJoinsUptoCard : Claim7 := { stood := { row := xmlJoinsUptoRow, standIns := [], harness := (true, "7c1f08abdeb8fe8c35bbb1bd44f407ad5142f5a45c43efccadb916aecc1abb15"), looks := true }, kinds := [], alts := [], laidByText := true, laidKinds := [.data, .data, .data, .data, .sentinel, .sentinel, .data, .pinned], laidTests := true, laidLooks := .later }
def XmlJoinsUptoCardSaid : Prop := Claim7.holds Tryd.pinned (.plain (OpenSpec.upto xmlJoinsSpec)) xmlJoinsUptoCard
end Rows
end Go.Proofs.YtbiiaepmemdlgaaDoor
