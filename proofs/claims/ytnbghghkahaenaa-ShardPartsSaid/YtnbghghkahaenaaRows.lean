/-
  No cell of these rows narrows 'for every input' (looked for: loops, veiled, ifaces, maps, wideKeys, modest, calm, conditions, laid).
  DERIVED. THE GIVEN ROWS OF THIS SEAT. 5 by the template 'for every input the law returns true; each argument reads behind the call as it read before'; 0 by the template 'total and deterministic' (their statements: YtnbghghkahaenaaTotals.lean).
  GIVEN WITH THE SEED: the statements are not yours to turn. If you find one false, say at which input.
  Laid BY PROGRAM, IN A SANDBOX (cutbox-rows.mjs): the forced cells as the released guide's own fill.sh prints them over the translation 918c11646f448150… (all of the seat's roots in one cut). By AI agents, Wed Nov 11 2026. No macro, syntax, notation, axiom, sorry.
-/
import Derived.Test.YtnbghghkahaenaaChecked
import GoSem.Claim
import GoSem.ClaimJoined
import GoSem.ClaimMapViews
import Derived.JoinedTies
import Derived.KernelRfl
namespace Go.Proofs.Ytnbghghkahaenaa
/- THE CELL 'sum', in the pinned program and in every row, IS THE sha256 OF THE DUMP (.gsa) THAT YtnbghghkahaenaaProg.lean LOADS. Nothing in Lean hashes anything: it is a label: what it is worth is what the hold of that sum in a sandbox is worth. -/
noncomputable def Try.pinned : Pinned := { name := "ytnbghghkahaenaa", sum := "918c11646f44815062bfe7ff42dd412061e7b7bf7b76d273c959e3463a38982a", checked := Try.checked }
namespace Rows
def none {H : Type} : Left H := { results := [], args := [] }

/-- 'kiosklaw14.ShardOf': WHATEVER THE INPUT: true; the input reads as it did. -/
def shardOfSpec : ChangeSpec := { name := "shardOf", fn := fun _ => fun
  | [d] => { results := [.lit (.bool true)], args := [d] }
  | _ => none }
def shardOfRow : OpenClaim := { program := "ytnbghghkahaenaa", sum := "918c11646f44815062bfe7ff42dd412061e7b7bf7b76d273c959e3463a38982a", func := "kiosk/kiosklaw14.ShardOf", spec := "shardOf", unfollowed := true, recurses := true, apart := false }
def ShardOfSaid : Prop := shardOfRow.holds Try.pinned (OpenSpec.ofChange shardOfSpec)

/-- ITS FALSE NEIGHBOUR: 'it returns false'. Refute it at one input. -/
def shardOfWrong : ChangeSpec := { name := "shardOf", fn := fun _ => fun
  | [d] => { results := [.lit (.bool false)], args := [d] }
  | _ => none }
def ShardOfWrongFalsely : Prop := shardOfRow.holds Try.pinned (OpenSpec.ofChange shardOfWrong)

/-- 'kiosklaw14.ShardParts': WHATEVER THE INPUT: true; the input reads as it did. -/
def shardPartsSpec : ChangeSpec := { name := "shardParts", fn := fun _ => fun
  | [d1, d2] => { results := [.lit (.bool true)], args := [d1, d2] }
  | _ => none }
def shardPartsRow : OpenClaim := { program := "ytnbghghkahaenaa", sum := "918c11646f44815062bfe7ff42dd412061e7b7bf7b76d273c959e3463a38982a", func := "kiosk/kiosklaw14.ShardParts", spec := "shardParts", unfollowed := true, recurses := true, apart := false }
def ShardPartsSaid : Prop := shardPartsRow.holds Try.pinned (OpenSpec.ofChange shardPartsSpec)

/-- ITS FALSE NEIGHBOUR: 'it returns false'. Refute it at one input. -/
def shardPartsWrong : ChangeSpec := { name := "shardParts", fn := fun _ => fun
  | [d1, d2] => { results := [.lit (.bool false)], args := [d1, d2] }
  | _ => none }
def ShardPartsWrongFalsely : Prop := shardPartsRow.holds Try.pinned (OpenSpec.ofChange shardPartsWrong)

/-- 'kiosklaw14.ShardAll': WHATEVER THE INPUT: true; the input reads as it did. -/
def shardAllSpec : ChangeSpec := { name := "shardAll", fn := fun _ => fun
  | [d1, d2] => { results := [.lit (.bool true)], args := [d1, d2] }
  | _ => none }
def shardAllRow : OpenClaim := { program := "ytnbghghkahaenaa", sum := "918c11646f44815062bfe7ff42dd412061e7b7bf7b76d273c959e3463a38982a", func := "kiosk/kiosklaw14.ShardAll", spec := "shardAll", unfollowed := true, recurses := true, apart := false }
def ShardAllSaid : Prop := shardAllRow.holds Try.pinned (OpenSpec.ofChange shardAllSpec)

/-- ITS FALSE NEIGHBOUR: 'it returns false'. Refute it at one input. -/
def shardAllWrong : ChangeSpec := { name := "shardAll", fn := fun _ => fun
  | [d1, d2] => { results := [.lit (.bool false)], args := [d1, d2] }
  | _ => none }
def ShardAllWrongFalsely : Prop := shardAllRow.holds Try.pinned (OpenSpec.ofChange shardAllWrong)

/-- 'kiosklaw14.ShardSteps': WHATEVER THE INPUT: true; the input reads as it did. -/
def shardStepsSpec : ChangeSpec := { name := "shardSteps", fn := fun _ => fun
  | [d1, d2] => { results := [.lit (.bool true)], args := [d1, d2] }
  | _ => none }
def shardStepsRow : OpenClaim := { program := "ytnbghghkahaenaa", sum := "918c11646f44815062bfe7ff42dd412061e7b7bf7b76d273c959e3463a38982a", func := "kiosk/kiosklaw14.ShardSteps", spec := "shardSteps", unfollowed := true, recurses := true, apart := false }
def ShardStepsSaid : Prop := shardStepsRow.holds Try.pinned (OpenSpec.ofChange shardStepsSpec)

/-- ITS FALSE NEIGHBOUR: 'it returns false'. Refute it at one input. -/
def shardStepsWrong : ChangeSpec := { name := "shardSteps", fn := fun _ => fun
  | [d1, d2] => { results := [.lit (.bool false)], args := [d1, d2] }
  | _ => none }
def ShardStepsWrongFalsely : Prop := shardStepsRow.holds Try.pinned (OpenSpec.ofChange shardStepsWrong)

/-- 'kiosklaw14.ShardNames': WHATEVER THE INPUT: true; the input reads as it did. -/
def shardNamesSpec : ChangeSpec := { name := "shardNames", fn := fun _ => fun
  | [d1, d2] => { results := [.lit (.bool true)], args := [d1, d2] }
  | _ => none }
def shardNamesRow : OpenClaim := { program := "ytnbghghkahaenaa", sum := "918c11646f44815062bfe7ff42dd412061e7b7bf7b76d273c959e3463a38982a", func := "kiosk/kiosklaw14.ShardNames", spec := "shardNames", unfollowed := true, recurses := true, apart := false }
def ShardNamesSaid : Prop := shardNamesRow.holds Try.pinned (OpenSpec.ofChange shardNamesSpec)

/-- ITS FALSE NEIGHBOUR: 'it returns false'. Refute it at one input. -/
def shardNamesWrong : ChangeSpec := { name := "shardNames", fn := fun _ => fun
  | [d1, d2] => { results := [.lit (.bool false)], args := [d1, d2] }
  | _ => none }
def ShardNamesWrongFalsely : Prop := shardNamesRow.holds Try.pinned (OpenSpec.ofChange shardNamesWrong)

/- THE SECOND FORM. 'bulk': how many values and letters a reading holds, each counted each time it is reached (what is shared counts as often as it is met; a slice's spare places count too). A statement '..UptoSaid' is the law's where the arguments, and the package variables that the reading takes, are together of bulk at most 1048576: NARROWER than '..Said'. Prove '..Said' where nothing that the law and all that it calls make is longer than what came in: it says more and counts as full. Else prove '..UptoSaid'. A law counts once. -/
mutual
def uptoBulk {H : Type} : DataW H → Nat
  | .lit (.string bytes) => bytes.length + 1
  | .lit _ => 1
  | .nil => 1
  | .ptr d => uptoBulk d + 1
  | .slice elems spare => uptoBulkAll elems + uptoBulkAll spare + 1
  | .agg parts => uptoBulkAll parts + 1
  | .iface _ d => uptoBulk d + 1
  | .map entries => uptoBulkEntries entries + 1
  | .held _ => 1
def uptoBulkAll {H : Type} : List (DataW H) → Nat
  | [] => 0
  | d :: r => uptoBulk d + uptoBulkAll r
def uptoBulkEntries {H : Type} : List (Lit × DataW H) → Nat
  | [] => 0
  | x :: r => uptoBulkEntry x + uptoBulkEntries r
def uptoBulkEntry {H : Type} : Lit × DataW H → Nat
  | (.string bytes, d) => bytes.length + uptoBulk d + 1
  | (_, d) => uptoBulk d + 1
 end
def uptoSmall : (H : Type) → List (DataW H) → Bool := fun _ ds => decide (uptoBulkAll ds ≤ 1048576)
def OpenSpec.upto (s : _root_.Go.ChangeSpec) : _root_.Go.OpenSpec := { _root_.Go.OpenSpec.ofChange s with cond := some uptoSmall }

/-- 'kiosklaw14.ShardOf', WHERE WHAT IT READS IS OF BULK AT MOST 1048576: true; the input reads as it did. -/
def shardOfUptoRow : OpenClaim := { program := "ytnbghghkahaenaa", sum := "918c11646f44815062bfe7ff42dd412061e7b7bf7b76d273c959e3463a38982a", func := "kiosk/kiosklaw14.ShardOf", spec := "shardOf", unfollowed := true, recurses := true, apart := false, narrowed := true }
def ShardOfUptoSaid : Prop := shardOfUptoRow.holds Try.pinned (OpenSpec.upto shardOfSpec)

/-- 'kiosklaw14.ShardParts', WHERE WHAT IT READS IS OF BULK AT MOST 1048576: true; the input reads as it did. -/
def shardPartsUptoRow : OpenClaim := { program := "ytnbghghkahaenaa", sum := "918c11646f44815062bfe7ff42dd412061e7b7bf7b76d273c959e3463a38982a", func := "kiosk/kiosklaw14.ShardParts", spec := "shardParts", unfollowed := true, recurses := true, apart := false, narrowed := true }
def ShardPartsUptoSaid : Prop := shardPartsUptoRow.holds Try.pinned (OpenSpec.upto shardPartsSpec)

/-- 'kiosklaw14.ShardAll', WHERE WHAT IT READS IS OF BULK AT MOST 1048576: true; the input reads as it did. -/
def shardAllUptoRow : OpenClaim := { program := "ytnbghghkahaenaa", sum := "918c11646f44815062bfe7ff42dd412061e7b7bf7b76d273c959e3463a38982a", func := "kiosk/kiosklaw14.ShardAll", spec := "shardAll", unfollowed := true, recurses := true, apart := false, narrowed := true }
def ShardAllUptoSaid : Prop := shardAllUptoRow.holds Try.pinned (OpenSpec.upto shardAllSpec)

/-- 'kiosklaw14.ShardSteps', WHERE WHAT IT READS IS OF BULK AT MOST 1048576: true; the input reads as it did. -/
def shardStepsUptoRow : OpenClaim := { program := "ytnbghghkahaenaa", sum := "918c11646f44815062bfe7ff42dd412061e7b7bf7b76d273c959e3463a38982a", func := "kiosk/kiosklaw14.ShardSteps", spec := "shardSteps", unfollowed := true, recurses := true, apart := false, narrowed := true }
def ShardStepsUptoSaid : Prop := shardStepsUptoRow.holds Try.pinned (OpenSpec.upto shardStepsSpec)

/-- 'kiosklaw14.ShardNames', WHERE WHAT IT READS IS OF BULK AT MOST 1048576: true; the input reads as it did. -/
def shardNamesUptoRow : OpenClaim := { program := "ytnbghghkahaenaa", sum := "918c11646f44815062bfe7ff42dd412061e7b7bf7b76d273c959e3463a38982a", func := "kiosk/kiosklaw14.ShardNames", spec := "shardNames", unfollowed := true, recurses := true, apart := false, narrowed := true }
def ShardNamesUptoSaid : Prop := shardNamesUptoRow.holds Try.pinned (OpenSpec.upto shardNamesSpec)

end Rows
end Go.Proofs.Ytnbghghkahaenaa
