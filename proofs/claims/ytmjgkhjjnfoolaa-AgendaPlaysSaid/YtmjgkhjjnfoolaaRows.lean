/-
  No cell of these rows narrows 'for every input' (looked for: loops, veiled, ifaces, maps, wideKeys, modest, calm, conditions, laid).
  DERIVED. THE GIVEN ROWS OF THIS SEAT. 5 by the template 'for every input the law returns true; each argument reads behind the call as it read before'; 0 by the template 'total and deterministic' (their statements: YtmjgkhjjnfoolaaTotals.lean).
  GIVEN WITH THE SEED: the statements are not yours to turn. If you find one false, say at which input.
  Laid BY PROGRAM, IN A SANDBOX (cutbox-rows.mjs): the forced cells as the released guide's own fill.sh prints them over the translation 3f3341077dc3b68f… (all of the seat's roots in one cut). By AI agents, Wed Nov 11 2026. No macro, syntax, notation, axiom, sorry.
-/
import Derived.Test.YtmjgkhjjnfoolaaChecked
import GoSem.Claim
import GoSem.ClaimJoined
import GoSem.ClaimMapViews
import Derived.JoinedTies
import Derived.KernelRfl
namespace Go.Proofs.Ytmjgkhjjnfoolaa
/- THE CELL 'sum', in the pinned program and in every row, IS THE sha256 OF THE DUMP (.gsa) THAT YtmjgkhjjnfoolaaProg.lean LOADS. Nothing in Lean hashes anything: it is a label: what it is worth is what the hold of that sum in a sandbox is worth. -/
noncomputable def Try.pinned : Pinned := { name := "ytmjgkhjjnfoolaa", sum := "3f3341077dc3b68fac6d04e926304936344d43acf3914bec489005875a84a901", checked := Try.checked }
namespace Rows
def none {H : Type} : Left H := { results := [], args := [] }

/-- 'kiosklaw5.AgendaPlays': WHATEVER THE INPUT: true; the input reads as it did. -/
def agendaPlaysSpec : ChangeSpec := { name := "agendaPlays", fn := fun _ => fun
  | [d1, d2] => { results := [.lit (.bool true)], args := [d1, d2] }
  | _ => none }
def agendaPlaysRow : OpenClaim := { program := "ytmjgkhjjnfoolaa", sum := "3f3341077dc3b68fac6d04e926304936344d43acf3914bec489005875a84a901", func := "kiosk/kiosklaw5.AgendaPlays", spec := "agendaPlays", unfollowed := true, recurses := true, apart := false }
def AgendaPlaysSaid : Prop := agendaPlaysRow.holds Try.pinned (OpenSpec.ofChange agendaPlaysSpec)

/-- ITS FALSE NEIGHBOUR: 'it returns false'. Refute it at one input. -/
def agendaPlaysWrong : ChangeSpec := { name := "agendaPlays", fn := fun _ => fun
  | [d1, d2] => { results := [.lit (.bool false)], args := [d1, d2] }
  | _ => none }
def AgendaPlaysWrongFalsely : Prop := agendaPlaysRow.holds Try.pinned (OpenSpec.ofChange agendaPlaysWrong)

/-- 'kiosklaw5.AgendaSorts': WHATEVER THE INPUT: true; the input reads as it did. -/
def agendaSortsSpec : ChangeSpec := { name := "agendaSorts", fn := fun _ => fun
  | [d] => { results := [.lit (.bool true)], args := [d] }
  | _ => none }
def agendaSortsRow : OpenClaim := { program := "ytmjgkhjjnfoolaa", sum := "3f3341077dc3b68fac6d04e926304936344d43acf3914bec489005875a84a901", func := "kiosk/kiosklaw5.AgendaSorts", spec := "agendaSorts", unfollowed := true, recurses := true, apart := false }
def AgendaSortsSaid : Prop := agendaSortsRow.holds Try.pinned (OpenSpec.ofChange agendaSortsSpec)

/-- ITS FALSE NEIGHBOUR: 'it returns false'. Refute it at one input. -/
def agendaSortsWrong : ChangeSpec := { name := "agendaSorts", fn := fun _ => fun
  | [d] => { results := [.lit (.bool false)], args := [d] }
  | _ => none }
def AgendaSortsWrongFalsely : Prop := agendaSortsRow.holds Try.pinned (OpenSpec.ofChange agendaSortsWrong)

/-- 'kiosklaw5.AgendaLeaves': WHATEVER THE INPUT: true; the input reads as it did. -/
def agendaLeavesSpec : ChangeSpec := { name := "agendaLeaves", fn := fun _ => fun
  | [d1, d2, d3] => { results := [.lit (.bool true)], args := [d1, d2, d3] }
  | _ => none }
def agendaLeavesRow : OpenClaim := { program := "ytmjgkhjjnfoolaa", sum := "3f3341077dc3b68fac6d04e926304936344d43acf3914bec489005875a84a901", func := "kiosk/kiosklaw5.AgendaLeaves", spec := "agendaLeaves", unfollowed := true, recurses := true, apart := false }
def AgendaLeavesSaid : Prop := agendaLeavesRow.holds Try.pinned (OpenSpec.ofChange agendaLeavesSpec)

/-- ITS FALSE NEIGHBOUR: 'it returns false'. Refute it at one input. -/
def agendaLeavesWrong : ChangeSpec := { name := "agendaLeaves", fn := fun _ => fun
  | [d1, d2, d3] => { results := [.lit (.bool false)], args := [d1, d2, d3] }
  | _ => none }
def AgendaLeavesWrongFalsely : Prop := agendaLeavesRow.holds Try.pinned (OpenSpec.ofChange agendaLeavesWrong)

/-- 'kiosklaw5.AgendaOrders': WHATEVER THE INPUT: true; the input reads as it did. -/
def agendaOrdersSpec : ChangeSpec := { name := "agendaOrders", fn := fun _ => fun
  | [d1, d2] => { results := [.lit (.bool true)], args := [d1, d2] }
  | _ => none }
def agendaOrdersRow : OpenClaim := { program := "ytmjgkhjjnfoolaa", sum := "3f3341077dc3b68fac6d04e926304936344d43acf3914bec489005875a84a901", func := "kiosk/kiosklaw5.AgendaOrders", spec := "agendaOrders", unfollowed := true, recurses := true, apart := false }
def AgendaOrdersSaid : Prop := agendaOrdersRow.holds Try.pinned (OpenSpec.ofChange agendaOrdersSpec)

/-- ITS FALSE NEIGHBOUR: 'it returns false'. Refute it at one input. -/
def agendaOrdersWrong : ChangeSpec := { name := "agendaOrders", fn := fun _ => fun
  | [d1, d2] => { results := [.lit (.bool false)], args := [d1, d2] }
  | _ => none }
def AgendaOrdersWrongFalsely : Prop := agendaOrdersRow.holds Try.pinned (OpenSpec.ofChange agendaOrdersWrong)

/-- 'kiosklaw5.AgendaSteps': WHATEVER THE INPUT: true; the input reads as it did. -/
def agendaStepsSpec : ChangeSpec := { name := "agendaSteps", fn := fun _ => fun
  | [d1, d2, d3] => { results := [.lit (.bool true)], args := [d1, d2, d3] }
  | _ => none }
def agendaStepsRow : OpenClaim := { program := "ytmjgkhjjnfoolaa", sum := "3f3341077dc3b68fac6d04e926304936344d43acf3914bec489005875a84a901", func := "kiosk/kiosklaw5.AgendaSteps", spec := "agendaSteps", unfollowed := true, recurses := true, apart := false }
def AgendaStepsSaid : Prop := agendaStepsRow.holds Try.pinned (OpenSpec.ofChange agendaStepsSpec)

/-- ITS FALSE NEIGHBOUR: 'it returns false'. Refute it at one input. -/
def agendaStepsWrong : ChangeSpec := { name := "agendaSteps", fn := fun _ => fun
  | [d1, d2, d3] => { results := [.lit (.bool false)], args := [d1, d2, d3] }
  | _ => none }
def AgendaStepsWrongFalsely : Prop := agendaStepsRow.holds Try.pinned (OpenSpec.ofChange agendaStepsWrong)

/- THE SECOND FORM. 'bulk': how many values and letters a reading holds, each counted each time it is reached (what is shared counts as often as it is met; a slice's spare places count too). A statement '..UptoSaid' is the law's where the arguments, and the package variables that the reading takes, are together of bulk at most 1048576: NARROWER than '..Said'. Prove '..Said' where nothing that the law and all that it calls make is longer than what came in: it says more and counts as full. Else prove '..UptoSaid'. A law counts once. -/
mutual
def uptoBulk {H : Type} : DataW H → Nat
  | .lit (.string bytes) => bytes.length + 1
  | .lit _ => 1
  | .nil => 1
  | .ptr d => uptoBulk d + 1
  | .slice elems spare => uptoBulkAll elems + uptoBulkAll spare + 1
  | .agg parts => uptoBulkAll parts + 1
  | .iface _ d => uptoBulk d + 1
  | .map entries => uptoBulkEntries entries + 1
  | .held _ => 1
def uptoBulkAll {H : Type} : List (DataW H) → Nat
  | [] => 0
  | d :: r => uptoBulk d + uptoBulkAll r
def uptoBulkEntries {H : Type} : List (Lit × DataW H) → Nat
  | [] => 0
  | x :: r => uptoBulkEntry x + uptoBulkEntries r
def uptoBulkEntry {H : Type} : Lit × DataW H → Nat
  | (.string bytes, d) => bytes.length + uptoBulk d + 1
  | (_, d) => uptoBulk d + 1
 end
def uptoSmall : (H : Type) → List (DataW H) → Bool := fun _ ds => decide (uptoBulkAll ds ≤ 1048576)
def OpenSpec.upto (s : _root_.Go.ChangeSpec) : _root_.Go.OpenSpec := { _root_.Go.OpenSpec.ofChange s with cond := some uptoSmall }

/-- 'kiosklaw5.AgendaPlays', WHERE WHAT IT READS IS OF BULK AT MOST 1048576: true; the input reads as it did. -/
def agendaPlaysUptoRow : OpenClaim := { program := "ytmjgkhjjnfoolaa", sum := "3f3341077dc3b68fac6d04e926304936344d43acf3914bec489005875a84a901", func := "kiosk/kiosklaw5.AgendaPlays", spec := "agendaPlays", unfollowed := true, recurses := true, apart := false, narrowed := true }
def AgendaPlaysUptoSaid : Prop := agendaPlaysUptoRow.holds Try.pinned (OpenSpec.upto agendaPlaysSpec)

/-- 'kiosklaw5.AgendaSorts', WHERE WHAT IT READS IS OF BULK AT MOST 1048576: true; the input reads as it did. -/
def agendaSortsUptoRow : OpenClaim := { program := "ytmjgkhjjnfoolaa", sum := "3f3341077dc3b68fac6d04e926304936344d43acf3914bec489005875a84a901", func := "kiosk/kiosklaw5.AgendaSorts", spec := "agendaSorts", unfollowed := true, recurses := true, apart := false, narrowed := true }
def AgendaSortsUptoSaid : Prop := agendaSortsUptoRow.holds Try.pinned (OpenSpec.upto agendaSortsSpec)

/-- 'kiosklaw5.AgendaLeaves', WHERE WHAT IT READS IS OF BULK AT MOST 1048576: true; the input reads as it did. -/
def agendaLeavesUptoRow : OpenClaim := { program := "ytmjgkhjjnfoolaa", sum := "3f3341077dc3b68fac6d04e926304936344d43acf3914bec489005875a84a901", func := "kiosk/kiosklaw5.AgendaLeaves", spec := "agendaLeaves", unfollowed := true, recurses := true, apart := false, narrowed := true }
def AgendaLeavesUptoSaid : Prop := agendaLeavesUptoRow.holds Try.pinned (OpenSpec.upto agendaLeavesSpec)

/-- 'kiosklaw5.AgendaOrders', WHERE WHAT IT READS IS OF BULK AT MOST 1048576: true; the input reads as it did. -/
def agendaOrdersUptoRow : OpenClaim := { program := "ytmjgkhjjnfoolaa", sum := "3f3341077dc3b68fac6d04e926304936344d43acf3914bec489005875a84a901", func := "kiosk/kiosklaw5.AgendaOrders", spec := "agendaOrders", unfollowed := true, recurses := true, apart := false, narrowed := true }
def AgendaOrdersUptoSaid : Prop := agendaOrdersUptoRow.holds Try.pinned (OpenSpec.upto agendaOrdersSpec)

/-- 'kiosklaw5.AgendaSteps', WHERE WHAT IT READS IS OF BULK AT MOST 1048576: true; the input reads as it did. -/
def agendaStepsUptoRow : OpenClaim := { program := "ytmjgkhjjnfoolaa", sum := "3f3341077dc3b68fac6d04e926304936344d43acf3914bec489005875a84a901", func := "kiosk/kiosklaw5.AgendaSteps", spec := "agendaSteps", unfollowed := true, recurses := true, apart := false, narrowed := true }
def AgendaStepsUptoSaid : Prop := agendaStepsUptoRow.holds Try.pinned (OpenSpec.upto agendaStepsSpec)

end Rows
end Go.Proofs.Ytmjgkhjjnfoolaa
