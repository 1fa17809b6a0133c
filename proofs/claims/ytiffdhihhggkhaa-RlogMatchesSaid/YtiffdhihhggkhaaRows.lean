/-
  No cell of these rows narrows 'for every input' (looked for: loops, veiled, ifaces, maps, wideKeys, modest, calm, conditions, laid).
  DERIVED. THE GIVEN ROWS OF THIS SEAT. 6 by the template 'for every input the law returns true; each argument reads behind the call as it read before'; 0 by the template 'total and deterministic' (their statements: YtiffdhihhggkhaaTotals.lean).
  GIVEN WITH THE SEED: the statements are not yours to turn. If you find one false, say at which input.
  Laid BY PROGRAM, IN A SANDBOX (cutbox-rows.mjs): the forced cells as the released guide's own fill.sh prints them over the translation 7f11a0859c6fae75… (all of the seat's roots in one cut). By AI agents, Wed Nov 11 2026. No macro, syntax, notation, axiom, sorry.
-/
import Derived.Test.YtiffdhihhggkhaaChecked
import GoSem.Claim
import GoSem.ClaimJoined
import GoSem.ClaimMapViews
import Derived.JoinedTies
import Derived.KernelRfl
namespace Go.Proofs.Ytiffdhihhggkhaa
/- THE CELL 'sum', in the pinned program and in every row, IS THE sha256 OF THE DUMP (.gsa) THAT YtiffdhihhggkhaaProg.lean LOADS. Nothing in Lean hashes anything: it is a label: what it is worth is what the hold of that sum in a sandbox is worth. -/
noncomputable def Try.pinned : Pinned := { name := "ytiffdhihhggkhaa", sum := "7f11a0859c6fae75cca2f47da83cded4e9d3cac0e1d052c1027783a957dd3914", checked := Try.checked }
namespace Rows
def none {H : Type} : Left H := { results := [], args := [] }

/-- 'kiosklaw8.RlogPlays': WHATEVER THE INPUT: true; the input reads as it did. -/
def rlogPlaysSpec : ChangeSpec := { name := "rlogPlays", fn := fun _ => fun
  | [d1, d2, d3, d4, d5, d6, d7] => { results := [.lit (.bool true)], args := [d1, d2, d3, d4, d5, d6, d7] }
  | _ => none }
def rlogPlaysRow : OpenClaim := { program := "ytiffdhihhggkhaa", sum := "7f11a0859c6fae75cca2f47da83cded4e9d3cac0e1d052c1027783a957dd3914", func := "kiosk/kiosklaw8.RlogPlays", spec := "rlogPlays", inPlace := ["slices.overlaps[kiosk/api.Entry]"], unfollowed := true, recurses := true, apart := false }
def RlogPlaysSaid : Prop := rlogPlaysRow.holds Try.pinned (OpenSpec.ofChange rlogPlaysSpec)

/-- ITS FALSE NEIGHBOUR: 'it returns false'. Refute it at one input. -/
def rlogPlaysWrong : ChangeSpec := { name := "rlogPlays", fn := fun _ => fun
  | [d1, d2, d3, d4, d5, d6, d7] => { results := [.lit (.bool false)], args := [d1, d2, d3, d4, d5, d6, d7] }
  | _ => none }
def RlogPlaysWrongFalsely : Prop := rlogPlaysRow.holds Try.pinned (OpenSpec.ofChange rlogPlaysWrong)

/-- 'kiosklaw8.RlogMatches': WHATEVER THE INPUT: true; the input reads as it did. -/
def rlogMatchesSpec : ChangeSpec := { name := "rlogMatches", fn := fun _ => fun
  | [d1, d2, d3, d4, d5, d6] => { results := [.lit (.bool true)], args := [d1, d2, d3, d4, d5, d6] }
  | _ => none }
def rlogMatchesRow : OpenClaim := { program := "ytiffdhihhggkhaa", sum := "7f11a0859c6fae75cca2f47da83cded4e9d3cac0e1d052c1027783a957dd3914", func := "kiosk/kiosklaw8.RlogMatches", spec := "rlogMatches", inPlace := ["slices.overlaps[kiosk/api.Entry]"], unfollowed := true, recurses := true, apart := false }
def RlogMatchesSaid : Prop := rlogMatchesRow.holds Try.pinned (OpenSpec.ofChange rlogMatchesSpec)

/-- ITS FALSE NEIGHBOUR: 'it returns false'. Refute it at one input. -/
def rlogMatchesWrong : ChangeSpec := { name := "rlogMatches", fn := fun _ => fun
  | [d1, d2, d3, d4, d5, d6] => { results := [.lit (.bool false)], args := [d1, d2, d3, d4, d5, d6] }
  | _ => none }
def RlogMatchesWrongFalsely : Prop := rlogMatchesRow.holds Try.pinned (OpenSpec.ofChange rlogMatchesWrong)

/-- 'kiosklaw8.RlogCompacts': WHATEVER THE INPUT: true; the input reads as it did. -/
def rlogCompactsSpec : ChangeSpec := { name := "rlogCompacts", fn := fun _ => fun
  | [d1, d2, d3] => { results := [.lit (.bool true)], args := [d1, d2, d3] }
  | _ => none }
def rlogCompactsRow : OpenClaim := { program := "ytiffdhihhggkhaa", sum := "7f11a0859c6fae75cca2f47da83cded4e9d3cac0e1d052c1027783a957dd3914", func := "kiosk/kiosklaw8.RlogCompacts", spec := "rlogCompacts", inPlace := ["slices.overlaps[kiosk/api.Entry]"], unfollowed := true, recurses := true, apart := false }
def RlogCompactsSaid : Prop := rlogCompactsRow.holds Try.pinned (OpenSpec.ofChange rlogCompactsSpec)

/-- ITS FALSE NEIGHBOUR: 'it returns false'. Refute it at one input. -/
def rlogCompactsWrong : ChangeSpec := { name := "rlogCompacts", fn := fun _ => fun
  | [d1, d2, d3] => { results := [.lit (.bool false)], args := [d1, d2, d3] }
  | _ => none }
def RlogCompactsWrongFalsely : Prop := rlogCompactsRow.holds Try.pinned (OpenSpec.ofChange rlogCompactsWrong)

/-- 'kiosklaw8.RlogRestores': WHATEVER THE INPUT: true; the input reads as it did. -/
def rlogRestoresSpec : ChangeSpec := { name := "rlogRestores", fn := fun _ => fun
  | [d1, d2, d3, d4] => { results := [.lit (.bool true)], args := [d1, d2, d3, d4] }
  | _ => none }
def rlogRestoresRow : OpenClaim := { program := "ytiffdhihhggkhaa", sum := "7f11a0859c6fae75cca2f47da83cded4e9d3cac0e1d052c1027783a957dd3914", func := "kiosk/kiosklaw8.RlogRestores", spec := "rlogRestores", inPlace := ["slices.overlaps[kiosk/api.Entry]"], unfollowed := true, recurses := true, apart := false }
def RlogRestoresSaid : Prop := rlogRestoresRow.holds Try.pinned (OpenSpec.ofChange rlogRestoresSpec)

/-- ITS FALSE NEIGHBOUR: 'it returns false'. Refute it at one input. -/
def rlogRestoresWrong : ChangeSpec := { name := "rlogRestores", fn := fun _ => fun
  | [d1, d2, d3, d4] => { results := [.lit (.bool false)], args := [d1, d2, d3, d4] }
  | _ => none }
def RlogRestoresWrongFalsely : Prop := rlogRestoresRow.holds Try.pinned (OpenSpec.ofChange rlogRestoresWrong)

/-- 'kiosklaw8.RlogAdds': WHATEVER THE INPUT: true; the input reads as it did. -/
def rlogAddsSpec : ChangeSpec := { name := "rlogAdds", fn := fun _ => fun
  | [d1, d2, d3] => { results := [.lit (.bool true)], args := [d1, d2, d3] }
  | _ => none }
def rlogAddsRow : OpenClaim := { program := "ytiffdhihhggkhaa", sum := "7f11a0859c6fae75cca2f47da83cded4e9d3cac0e1d052c1027783a957dd3914", func := "kiosk/kiosklaw8.RlogAdds", spec := "rlogAdds", inPlace := ["slices.overlaps[kiosk/api.Entry]"], unfollowed := true, recurses := true, apart := false }
def RlogAddsSaid : Prop := rlogAddsRow.holds Try.pinned (OpenSpec.ofChange rlogAddsSpec)

/-- ITS FALSE NEIGHBOUR: 'it returns false'. Refute it at one input. -/
def rlogAddsWrong : ChangeSpec := { name := "rlogAdds", fn := fun _ => fun
  | [d1, d2, d3] => { results := [.lit (.bool false)], args := [d1, d2, d3] }
  | _ => none }
def RlogAddsWrongFalsely : Prop := rlogAddsRow.holds Try.pinned (OpenSpec.ofChange rlogAddsWrong)

/-- 'kiosklaw8.RlogNewer': WHATEVER THE INPUT: true; the input reads as it did. -/
def rlogNewerSpec : ChangeSpec := { name := "rlogNewer", fn := fun _ => fun
  | [d1, d2, d3, d4] => { results := [.lit (.bool true)], args := [d1, d2, d3, d4] }
  | _ => none }
def rlogNewerRow : OpenClaim := { program := "ytiffdhihhggkhaa", sum := "7f11a0859c6fae75cca2f47da83cded4e9d3cac0e1d052c1027783a957dd3914", func := "kiosk/kiosklaw8.RlogNewer", spec := "rlogNewer", inPlace := ["slices.overlaps[kiosk/api.Entry]"], unfollowed := true, recurses := true, apart := false }
def RlogNewerSaid : Prop := rlogNewerRow.holds Try.pinned (OpenSpec.ofChange rlogNewerSpec)

/-- ITS FALSE NEIGHBOUR: 'it returns false'. Refute it at one input. -/
def rlogNewerWrong : ChangeSpec := { name := "rlogNewer", fn := fun _ => fun
  | [d1, d2, d3, d4] => { results := [.lit (.bool false)], args := [d1, d2, d3, d4] }
  | _ => none }
def RlogNewerWrongFalsely : Prop := rlogNewerRow.holds Try.pinned (OpenSpec.ofChange rlogNewerWrong)

/- THE SECOND FORM. 'bulk': how many values and letters a reading holds, each counted each time it is reached (what is shared counts as often as it is met; a slice's spare places count too). A statement '..UptoSaid' is the law's where the arguments, and the package variables that the reading takes, are together of bulk at most 1048576: NARROWER than '..Said'. Prove '..Said' where nothing that the law and all that it calls make is longer than what came in: it says more and counts as full. Else prove '..UptoSaid'. A law counts once. -/
mutual
def uptoBulk {H : Type} : DataW H → Nat
  | .lit (.string bytes) => bytes.length + 1
  | .lit _ => 1
  | .nil => 1
  | .ptr d => uptoBulk d + 1
  | .slice elems spare => uptoBulkAll elems + uptoBulkAll spare + 1
  | .agg parts => uptoBulkAll parts + 1
  | .iface _ d => uptoBulk d + 1
  | .map entries => uptoBulkEntries entries + 1
  | .held _ => 1
def uptoBulkAll {H : Type} : List (DataW H) → Nat
  | [] => 0
  | d :: r => uptoBulk d + uptoBulkAll r
def uptoBulkEntries {H : Type} : List (Lit × DataW H) → Nat
  | [] => 0
  | x :: r => uptoBulkEntry x + uptoBulkEntries r
def uptoBulkEntry {H : Type} : Lit × DataW H → Nat
  | (.string bytes, d) => bytes.length + uptoBulk d + 1
  | (_, d) => uptoBulk d + 1
 end
def uptoSmall : (H : Type) → List (DataW H) → Bool := fun _ ds => decide (uptoBulkAll ds ≤ 1048576)
def OpenSpec.upto (s : _root_.Go.ChangeSpec) : _root_.Go.OpenSpec := { _root_.Go.OpenSpec.ofChange s with cond := some uptoSmall }

/-- 'kiosklaw8.RlogPlays', WHERE WHAT IT READS IS OF BULK AT MOST 1048576: true; the input reads as it did. -/
def rlogPlaysUptoRow : OpenClaim := { program := "ytiffdhihhggkhaa", sum := "7f11a0859c6fae75cca2f47da83cded4e9d3cac0e1d052c1027783a957dd3914", func := "kiosk/kiosklaw8.RlogPlays", spec := "rlogPlays", inPlace := ["slices.overlaps[kiosk/api.Entry]"], unfollowed := true, recurses := true, apart := false, narrowed := true }
def RlogPlaysUptoSaid : Prop := rlogPlaysUptoRow.holds Try.pinned (OpenSpec.upto rlogPlaysSpec)

/-- 'kiosklaw8.RlogMatches', WHERE WHAT IT READS IS OF BULK AT MOST 1048576: true; the input reads as it did. -/
def rlogMatchesUptoRow : OpenClaim := { program := "ytiffdhihhggkhaa", sum := "7f11a0859c6fae75cca2f47da83cded4e9d3cac0e1d052c1027783a957dd3914", func := "kiosk/kiosklaw8.RlogMatches", spec := "rlogMatches", inPlace := ["slices.overlaps[kiosk/api.Entry]"], unfollowed := true, recurses := true, apart := false, narrowed := true }
def RlogMatchesUptoSaid : Prop := rlogMatchesUptoRow.holds Try.pinned (OpenSpec.upto rlogMatchesSpec)

/-- 'kiosklaw8.RlogCompacts', WHERE WHAT IT READS IS OF BULK AT MOST 1048576: true; the input reads as it did. -/
def rlogCompactsUptoRow : OpenClaim := { program := "ytiffdhihhggkhaa", sum := "7f11a0859c6fae75cca2f47da83cded4e9d3cac0e1d052c1027783a957dd3914", func := "kiosk/kiosklaw8.RlogCompacts", spec := "rlogCompacts", inPlace := ["slices.overlaps[kiosk/api.Entry]"], unfollowed := true, recurses := true, apart := false, narrowed := true }
def RlogCompactsUptoSaid : Prop := rlogCompactsUptoRow.holds Try.pinned (OpenSpec.upto rlogCompactsSpec)

/-- 'kiosklaw8.RlogRestores', WHERE WHAT IT READS IS OF BULK AT MOST 1048576: true; the input reads as it did. -/
def rlogRestoresUptoRow : OpenClaim := { program := "ytiffdhihhggkhaa", sum := "7f11a0859c6fae75cca2f47da83cded4e9d3cac0e1d052c1027783a957dd3914", func := "kiosk/kiosklaw8.RlogRestores", spec := "rlogRestores", inPlace := ["slices.overlaps[kiosk/api.Entry]"], unfollowed := true, recurses := true, apart := false, narrowed := true }
def RlogRestoresUptoSaid : Prop := rlogRestoresUptoRow.holds Try.pinned (OpenSpec.upto rlogRestoresSpec)

/-- 'kiosklaw8.RlogAdds', WHERE WHAT IT READS IS OF BULK AT MOST 1048576: true; the input reads as it did. -/
def rlogAddsUptoRow : OpenClaim := { program := "ytiffdhihhggkhaa", sum := "7f11a0859c6fae75cca2f47da83cded4e9d3cac0e1d052c1027783a957dd3914", func := "kiosk/kiosklaw8.RlogAdds", spec := "rlogAdds", inPlace := ["slices.overlaps[kiosk/api.Entry]"], unfollowed := true, recurses := true, apart := false, narrowed := true }
def RlogAddsUptoSaid : Prop := rlogAddsUptoRow.holds Try.pinned (OpenSpec.upto rlogAddsSpec)

/-- 'kiosklaw8.RlogNewer', WHERE WHAT IT READS IS OF BULK AT MOST 1048576: true; the input reads as it did. -/
def rlogNewerUptoRow : OpenClaim := { program := "ytiffdhihhggkhaa", sum := "7f11a0859c6fae75cca2f47da83cded4e9d3cac0e1d052c1027783a957dd3914", func := "kiosk/kiosklaw8.RlogNewer", spec := "rlogNewer", inPlace := ["slices.overlaps[kiosk/api.Entry]"], unfollowed := true, recurses := true, apart := false, narrowed := true }
def RlogNewerUptoSaid : Prop := rlogNewerUptoRow.holds Try.pinned (OpenSpec.upto rlogNewerSpec)

end Rows
end Go.Proofs.Ytiffdhihhggkhaa
