/-
  No cell of these rows narrows 'for every input' (looked for: loops, veiled, ifaces, maps, wideKeys, modest, calm, conditions, laid).
  DERIVED. THE GIVEN ROWS OF THIS SEAT. 7 by the template 'for every input the law returns true; each argument reads behind the call as it read before'; 0 by the template 'total and deterministic' (their statements: YtcjhiegiccekpaaTotals.lean).
  GIVEN WITH THE SEED: the statements are not yours to turn. If you find one false, say at which input.
  Laid BY PROGRAM, IN A SANDBOX (cutbox-rows.mjs): the forced cells as the released guide's own fill.sh prints them over the translation c0999c384d63da41… (all of the seat's roots in one cut). By AI agents, Wed Nov 11 2026. No macro, syntax, notation, axiom, sorry.
-/
import Derived.Test.YtcjhiegiccekpaaChecked
import GoSem.Claim
import GoSem.ClaimJoined
import GoSem.ClaimMapViews
import Derived.JoinedTies
import Derived.KernelRfl
namespace Go.Proofs.Ytcjhiegiccekpaa
/- THE CELL 'sum', in the pinned program and in every row, IS THE sha256 OF THE DUMP (.gsa) THAT YtcjhiegiccekpaaProg.lean LOADS. Nothing in Lean hashes anything: it is a label: what it is worth is what the hold of that sum in a sandbox is worth. -/
noncomputable def Try.pinned : Pinned := { name := "ytcjhiegiccekpaa", sum := "c0999c384d63da41b340084ca081c5758ac7eb17d506d0a4f008f8c364e558d9", checked := Try.checked }
namespace Rows
def none {H : Type} : Left H := { results := [], args := [] }

/-- 'kiosklaw9.ConfRows': WHATEVER THE INPUT: true; the input reads as it did. -/
def confRowsSpec : ChangeSpec := { name := "confRows", fn := fun _ => fun
  | [d1, d2, d3] => { results := [.lit (.bool true)], args := [d1, d2, d3] }
  | _ => none }
def confRowsRow : OpenClaim := { program := "ytcjhiegiccekpaa", sum := "c0999c384d63da41b340084ca081c5758ac7eb17d506d0a4f008f8c364e558d9", func := "kiosk/kiosklaw9.ConfRows", spec := "confRows", inPlace := ["slices.overlaps[int]"], unfollowed := true, recurses := true, apart := false }
def ConfRowsSaid : Prop := confRowsRow.holds Try.pinned (OpenSpec.ofChange confRowsSpec)

/-- ITS FALSE NEIGHBOUR: 'it returns false'. Refute it at one input. -/
def confRowsWrong : ChangeSpec := { name := "confRows", fn := fun _ => fun
  | [d1, d2, d3] => { results := [.lit (.bool false)], args := [d1, d2, d3] }
  | _ => none }
def ConfRowsWrongFalsely : Prop := confRowsRow.holds Try.pinned (OpenSpec.ofChange confRowsWrong)

/-- 'kiosklaw9.ConfMost': WHATEVER THE INPUT: true; the input reads as it did. -/
def confMostSpec : ChangeSpec := { name := "confMost", fn := fun _ => fun
  | [d1, d2, d3] => { results := [.lit (.bool true)], args := [d1, d2, d3] }
  | _ => none }
def confMostRow : OpenClaim := { program := "ytcjhiegiccekpaa", sum := "c0999c384d63da41b340084ca081c5758ac7eb17d506d0a4f008f8c364e558d9", func := "kiosk/kiosklaw9.ConfMost", spec := "confMost", recurses := true, apart := false }
def ConfMostSaid : Prop := confMostRow.holds Try.pinned (OpenSpec.ofChange confMostSpec)

/-- ITS FALSE NEIGHBOUR: 'it returns false'. Refute it at one input. -/
def confMostWrong : ChangeSpec := { name := "confMost", fn := fun _ => fun
  | [d1, d2, d3] => { results := [.lit (.bool false)], args := [d1, d2, d3] }
  | _ => none }
def ConfMostWrongFalsely : Prop := confMostRow.holds Try.pinned (OpenSpec.ofChange confMostWrong)

/-- 'kiosklaw9.ConfMeets': WHATEVER THE INPUT: true; the input reads as it did. -/
def confMeetsSpec : ChangeSpec := { name := "confMeets", fn := fun _ => fun
  | [d1, d2, d3, d4] => { results := [.lit (.bool true)], args := [d1, d2, d3, d4] }
  | _ => none }
def confMeetsRow : OpenClaim := { program := "ytcjhiegiccekpaa", sum := "c0999c384d63da41b340084ca081c5758ac7eb17d506d0a4f008f8c364e558d9", func := "kiosk/kiosklaw9.ConfMeets", spec := "confMeets", inPlace := ["slices.overlaps[int]"], unfollowed := true, recurses := true, apart := false }
def ConfMeetsSaid : Prop := confMeetsRow.holds Try.pinned (OpenSpec.ofChange confMeetsSpec)

/-- ITS FALSE NEIGHBOUR: 'it returns false'. Refute it at one input. -/
def confMeetsWrong : ChangeSpec := { name := "confMeets", fn := fun _ => fun
  | [d1, d2, d3, d4] => { results := [.lit (.bool false)], args := [d1, d2, d3, d4] }
  | _ => none }
def ConfMeetsWrongFalsely : Prop := confMeetsRow.holds Try.pinned (OpenSpec.ofChange confMeetsWrong)

/-- 'kiosklaw9.ConfAgrees': WHATEVER THE INPUT: true; the input reads as it did. -/
def confAgreesSpec : ChangeSpec := { name := "confAgrees", fn := fun _ => fun
  | [d1, d2, d3] => { results := [.lit (.bool true)], args := [d1, d2, d3] }
  | _ => none }
def confAgreesRow : OpenClaim := { program := "ytcjhiegiccekpaa", sum := "c0999c384d63da41b340084ca081c5758ac7eb17d506d0a4f008f8c364e558d9", func := "kiosk/kiosklaw9.ConfAgrees", spec := "confAgrees", recurses := true, apart := false }
def ConfAgreesSaid : Prop := confAgreesRow.holds Try.pinned (OpenSpec.ofChange confAgreesSpec)

/-- ITS FALSE NEIGHBOUR: 'it returns false'. Refute it at one input. -/
def confAgreesWrong : ChangeSpec := { name := "confAgrees", fn := fun _ => fun
  | [d1, d2, d3] => { results := [.lit (.bool false)], args := [d1, d2, d3] }
  | _ => none }
def ConfAgreesWrongFalsely : Prop := confAgreesRow.holds Try.pinned (OpenSpec.ofChange confAgreesWrong)

/-- 'kiosklaw9.ConfTurns': WHATEVER THE INPUT: true; the input reads as it did. -/
def confTurnsSpec : ChangeSpec := { name := "confTurns", fn := fun _ => fun
  | [d1, d2] => { results := [.lit (.bool true)], args := [d1, d2] }
  | _ => none }
def confTurnsRow : OpenClaim := { program := "ytcjhiegiccekpaa", sum := "c0999c384d63da41b340084ca081c5758ac7eb17d506d0a4f008f8c364e558d9", func := "kiosk/kiosklaw9.ConfTurns", spec := "confTurns", inPlace := ["slices.overlaps[int]"], unfollowed := true, recurses := true, apart := false }
def ConfTurnsSaid : Prop := confTurnsRow.holds Try.pinned (OpenSpec.ofChange confTurnsSpec)

/-- ITS FALSE NEIGHBOUR: 'it returns false'. Refute it at one input. -/
def confTurnsWrong : ChangeSpec := { name := "confTurns", fn := fun _ => fun
  | [d1, d2] => { results := [.lit (.bool false)], args := [d1, d2] }
  | _ => none }
def ConfTurnsWrongFalsely : Prop := confTurnsRow.holds Try.pinned (OpenSpec.ofChange confTurnsWrong)

/-- 'kiosklaw9.ConfGrows': WHATEVER THE INPUT: true; the input reads as it did. -/
def confGrowsSpec : ChangeSpec := { name := "confGrows", fn := fun _ => fun
  | [d1, d2, d3] => { results := [.lit (.bool true)], args := [d1, d2, d3] }
  | _ => none }
def confGrowsRow : OpenClaim := { program := "ytcjhiegiccekpaa", sum := "c0999c384d63da41b340084ca081c5758ac7eb17d506d0a4f008f8c364e558d9", func := "kiosk/kiosklaw9.ConfGrows", spec := "confGrows", recurses := true, apart := false }
def ConfGrowsSaid : Prop := confGrowsRow.holds Try.pinned (OpenSpec.ofChange confGrowsSpec)

/-- ITS FALSE NEIGHBOUR: 'it returns false'. Refute it at one input. -/
def confGrowsWrong : ChangeSpec := { name := "confGrows", fn := fun _ => fun
  | [d1, d2, d3] => { results := [.lit (.bool false)], args := [d1, d2, d3] }
  | _ => none }
def ConfGrowsWrongFalsely : Prop := confGrowsRow.holds Try.pinned (OpenSpec.ofChange confGrowsWrong)

/-- 'kiosklaw9.ConfSteps': WHATEVER THE INPUT: true; the input reads as it did. -/
def confStepsSpec : ChangeSpec := { name := "confSteps", fn := fun _ => fun
  | [d1, d2, d3] => { results := [.lit (.bool true)], args := [d1, d2, d3] }
  | _ => none }
def confStepsRow : OpenClaim := { program := "ytcjhiegiccekpaa", sum := "c0999c384d63da41b340084ca081c5758ac7eb17d506d0a4f008f8c364e558d9", func := "kiosk/kiosklaw9.ConfSteps", spec := "confSteps", inPlace := ["slices.overlaps[int]"], unfollowed := true, recurses := true, apart := false }
def ConfStepsSaid : Prop := confStepsRow.holds Try.pinned (OpenSpec.ofChange confStepsSpec)

/-- ITS FALSE NEIGHBOUR: 'it returns false'. Refute it at one input. -/
def confStepsWrong : ChangeSpec := { name := "confSteps", fn := fun _ => fun
  | [d1, d2, d3] => { results := [.lit (.bool false)], args := [d1, d2, d3] }
  | _ => none }
def ConfStepsWrongFalsely : Prop := confStepsRow.holds Try.pinned (OpenSpec.ofChange confStepsWrong)

/- THE SECOND FORM. 'bulk': how many values and letters a reading holds, each counted each time it is reached (what is shared counts as often as it is met; a slice's spare places count too). A statement '..UptoSaid' is the law's where the arguments, and the package variables that the reading takes, are together of bulk at most 1048576: NARROWER than '..Said'. Prove '..Said' where nothing that the law and all that it calls make is longer than what came in: it says more and counts as full. Else prove '..UptoSaid'. A law counts once. -/
mutual
def uptoBulk {H : Type} : DataW H → Nat
  | .lit (.string bytes) => bytes.length + 1
  | .lit _ => 1
  | .nil => 1
  | .ptr d => uptoBulk d + 1
  | .slice elems spare => uptoBulkAll elems + uptoBulkAll spare + 1
  | .agg parts => uptoBulkAll parts + 1
  | .iface _ d => uptoBulk d + 1
  | .map entries => uptoBulkEntries entries + 1
  | .held _ => 1
def uptoBulkAll {H : Type} : List (DataW H) → Nat
  | [] => 0
  | d :: r => uptoBulk d + uptoBulkAll r
def uptoBulkEntries {H : Type} : List (Lit × DataW H) → Nat
  | [] => 0
  | x :: r => uptoBulkEntry x + uptoBulkEntries r
def uptoBulkEntry {H : Type} : Lit × DataW H → Nat
  | (.string bytes, d) => bytes.length + uptoBulk d + 1
  | (_, d) => uptoBulk d + 1
 end
def uptoSmall : (H : Type) → List (DataW H) → Bool := fun _ ds => decide (uptoBulkAll ds ≤ 1048576)
def OpenSpec.upto (s : _root_.Go.ChangeSpec) : _root_.Go.OpenSpec := { _root_.Go.OpenSpec.ofChange s with cond := some uptoSmall }

/-- 'kiosklaw9.ConfRows', WHERE WHAT IT READS IS OF BULK AT MOST 1048576: true; the input reads as it did. -/
def confRowsUptoRow : OpenClaim := { program := "ytcjhiegiccekpaa", sum := "c0999c384d63da41b340084ca081c5758ac7eb17d506d0a4f008f8c364e558d9", func := "kiosk/kiosklaw9.ConfRows", spec := "confRows", inPlace := ["slices.overlaps[int]"], unfollowed := true, recurses := true, apart := false, narrowed := true }
def ConfRowsUptoSaid : Prop := confRowsUptoRow.holds Try.pinned (OpenSpec.upto confRowsSpec)

/-- 'kiosklaw9.ConfMost', WHERE WHAT IT READS IS OF BULK AT MOST 1048576: true; the input reads as it did. -/
def confMostUptoRow : OpenClaim := { program := "ytcjhiegiccekpaa", sum := "c0999c384d63da41b340084ca081c5758ac7eb17d506d0a4f008f8c364e558d9", func := "kiosk/kiosklaw9.ConfMost", spec := "confMost", recurses := true, apart := false, narrowed := true }
def ConfMostUptoSaid : Prop := confMostUptoRow.holds Try.pinned (OpenSpec.upto confMostSpec)

/-- 'kiosklaw9.ConfMeets', WHERE WHAT IT READS IS OF BULK AT MOST 1048576: true; the input reads as it did. -/
def confMeetsUptoRow : OpenClaim := { program := "ytcjhiegiccekpaa", sum := "c0999c384d63da41b340084ca081c5758ac7eb17d506d0a4f008f8c364e558d9", func := "kiosk/kiosklaw9.ConfMeets", spec := "confMeets", inPlace := ["slices.overlaps[int]"], unfollowed := true, recurses := true, apart := false, narrowed := true }
def ConfMeetsUptoSaid : Prop := confMeetsUptoRow.holds Try.pinned (OpenSpec.upto confMeetsSpec)

/-- 'kiosklaw9.ConfAgrees', WHERE WHAT IT READS IS OF BULK AT MOST 1048576: true; the input reads as it did. -/
def confAgreesUptoRow : OpenClaim := { program := "ytcjhiegiccekpaa", sum := "c0999c384d63da41b340084ca081c5758ac7eb17d506d0a4f008f8c364e558d9", func := "kiosk/kiosklaw9.ConfAgrees", spec := "confAgrees", recurses := true, apart := false, narrowed := true }
def ConfAgreesUptoSaid : Prop := confAgreesUptoRow.holds Try.pinned (OpenSpec.upto confAgreesSpec)

/-- 'kiosklaw9.ConfTurns', WHERE WHAT IT READS IS OF BULK AT MOST 1048576: true; the input reads as it did. -/
def confTurnsUptoRow : OpenClaim := { program := "ytcjhiegiccekpaa", sum := "c0999c384d63da41b340084ca081c5758ac7eb17d506d0a4f008f8c364e558d9", func := "kiosk/kiosklaw9.ConfTurns", spec := "confTurns", inPlace := ["slices.overlaps[int]"], unfollowed := true, recurses := true, apart := false, narrowed := true }
def ConfTurnsUptoSaid : Prop := confTurnsUptoRow.holds Try.pinned (OpenSpec.upto confTurnsSpec)

/-- 'kiosklaw9.ConfGrows', WHERE WHAT IT READS IS OF BULK AT MOST 1048576: true; the input reads as it did. -/
def confGrowsUptoRow : OpenClaim := { program := "ytcjhiegiccekpaa", sum := "c0999c384d63da41b340084ca081c5758ac7eb17d506d0a4f008f8c364e558d9", func := "kiosk/kiosklaw9.ConfGrows", spec := "confGrows", recurses := true, apart := false, narrowed := true }
def ConfGrowsUptoSaid : Prop := confGrowsUptoRow.holds Try.pinned (OpenSpec.upto confGrowsSpec)

/-- 'kiosklaw9.ConfSteps', WHERE WHAT IT READS IS OF BULK AT MOST 1048576: true; the input reads as it did. -/
def confStepsUptoRow : OpenClaim := { program := "ytcjhiegiccekpaa", sum := "c0999c384d63da41b340084ca081c5758ac7eb17d506d0a4f008f8c364e558d9", func := "kiosk/kiosklaw9.ConfSteps", spec := "confSteps", inPlace := ["slices.overlaps[int]"], unfollowed := true, recurses := true, apart := false, narrowed := true }
def ConfStepsUptoSaid : Prop := confStepsUptoRow.holds Try.pinned (OpenSpec.upto confStepsSpec)

end Rows
end Go.Proofs.Ytcjhiegiccekpaa
