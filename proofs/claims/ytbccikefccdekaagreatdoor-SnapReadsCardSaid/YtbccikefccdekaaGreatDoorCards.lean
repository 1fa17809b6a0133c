/-
  DERIVED. GIVEN WITH THE SEED: THE CARDS: each row of YtbccikefccdekaaGreatDoorRows.lean that lists a variable, with what it lists TIED to the program's text (the seventh form; the later family's looks); each row that meets fmt, with fmt's text TOLD by the authors' own Lean function (tested against real Go, not proved from fmt's source: count such statements apart). THE CARD IS WHAT COUNTS. Prove the row's statement (the work); the ties are given (YtbccikefccdekaaGreatDoorTie.lean); close each card by the builder's one call (the guide's Derived/Test/ToyasCard.lean, 'card_holds'). Laid BY PROGRAM, IN A SANDBOX (cutbox-door.mjs). By AI agents, Wed Nov 11 2026. No macro, syntax, notation, axiom, sorry.
-/
import Derived.Test.YtbccikefccdekaaGreatDoorRows
import GoSem.ClaimSeven
namespace Go.Proofs.YtbccikefccdekaaGreatDoor
namespace Rows

/-- THE TIED CARD OF 'kiosklaw4.SnapPacks'. -/
def snapPacksCard : Claim7 := { stood := { row := snapPacksRow, standIns := [], harness := (true, "8d5b0826b2696653f65b58ac569e798e653cd907194cdf1fc11b530c844709a2"), looks := true }, kinds := [], alts := [], laidByText := true, laidKinds := [.data, .data, .data, .sentinel, .sentinel, .data], laidTests := true, laidLooks := .later }
def SnapPacksCardSaid : Prop := Claim7.holds Tryz.pinned (.plain (OpenSpec.ofChange snapPacksSpec)) snapPacksCard

/-- THE TIED CARD OF 'kiosklaw4.SnapReads'. -/
def snapReadsCard : Claim7 := { stood := { row := snapReadsRow, standIns := [], harness := (true, "8d5b0826b2696653f65b58ac569e798e653cd907194cdf1fc11b530c844709a2"), looks := true }, kinds := [], alts := [], laidByText := true, laidKinds := [.data, .data, .data, .sentinel, .sentinel, .data], laidTests := true, laidLooks := .later }
def SnapReadsCardSaid : Prop := Claim7.holds Tryz.pinned (.plain (OpenSpec.ofChange snapReadsSpec)) snapReadsCard

/-- THE TIED CARD OF 'kiosklaw4.SnapKeeps'. -/
def snapKeepsCard : Claim7 := { stood := { row := snapKeepsRow, standIns := [], harness := (true, "8d5b0826b2696653f65b58ac569e798e653cd907194cdf1fc11b530c844709a2"), looks := true }, kinds := [], alts := [], laidByText := true, laidKinds := [.data, .data, .data, .sentinel, .sentinel, .data], laidTests := true, laidLooks := .later }
def SnapKeepsCardSaid : Prop := Claim7.holds Tryz.pinned (.plain (OpenSpec.ofChange snapKeepsSpec)) snapKeepsCard

/-- THE SECOND FORM's CARD OF 'kiosklaw4.SnapPacks'. -/
def snapPacksUptoCard : Claim7 := { stood := { row := snapPacksUptoRow, standIns := [], harness := (true, "8d5b0826b2696653f65b58ac569e798e653cd907194cdf1fc11b530c844709a2"), looks := true }, kinds := [], alts := [], laidByText := true, laidKinds := [.data, .data, .data, .sentinel, .sentinel, .data], laidTests := true, laidLooks := .later }
def SnapPacksUptoCardSaid : Prop := Claim7.holds Tryz.pinned (.plain (OpenSpec.upto snapPacksSpec)) snapPacksUptoCard

/-- THE SECOND FORM's CARD OF 'kiosklaw4.SnapReads'. -/
def snapReadsUptoCard : Claim7 := { stood := { row := snapReadsUptoRow, standIns := [], harness := (true, "8d5b0826b2696653f65b58ac569e798e653cd907194cdf1fc11b530c844709a2"), looks := true }, kinds := [], alts := [], laidByText := true, laidKinds := [.data, .data, .data, .sentinel, .sentinel, .data], laidTests := true, laidLooks := .later }
def SnapReadsUptoCardSaid : Prop := Claim7.holds Tryz.pinned (.plain (OpenSpec.upto snapReadsSpec)) snapReadsUptoCard

/-- THE SECOND FORM's CARD OF 'kiosklaw4.SnapKeeps'. -/
def snapKeepsUptoCard : Claim7 := { stood := { row := snapKeepsUptoRow, standIns := [], harness := (true, "8d5b0826b2696653f65b58ac569e798e653cd907194cdf1fc11b530c844709a2"), looks := true }, kinds := [], alts := [], laidByText := true, laidKinds := [.data, .data, .data, .sentinel, .sentinel, .data], laidTests := true, laidLooks := .later }
def SnapKeepsUptoCardSaid : Prop := Claim7.holds Tryz.pinned (.plain (OpenSpec.upto snapKeepsSpec)) snapKeepsUptoCard
end Rows
end Go.Proofs.YtbccikefccdekaaGreatDoor
