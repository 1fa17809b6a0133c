/-
  No cell of these rows narrows 'for every input' (looked for: loops, veiled, ifaces, maps, wideKeys, modest, calm, conditions, laid).
  DERIVED. THE GIVEN ROWS OF THIS SEAT. 6 by the template 'for every input the law returns true; each argument reads behind the call as it read before'; 0 by the template 'total and deterministic' (their statements: YtppjojjejabaeaaTotals.lean).
  GIVEN WITH THE SEED: the statements are not yours to turn. If you find one false, say at which input.
  Laid BY PROGRAM, IN A SANDBOX (cutbox-rows.mjs): the forced cells as the released guide's own fill.sh prints them over the translation 70d8d13c1b069041… (all of the seat's roots in one cut). By AI agents, Wed Nov 11 2026. No macro, syntax, notation, axiom, sorry.
-/
import Derived.Test.YtppjojjejabaeaaChecked
import GoSem.Claim
import GoSem.ClaimJoined
import GoSem.ClaimMapViews
import Derived.JoinedTies
import Derived.KernelRfl
namespace Go.Proofs.Ytppjojjejabaeaa
/- THE CELL 'sum', in the pinned program and in every row, IS THE sha256 OF THE DUMP (.gsa) THAT YtppjojjejabaeaaProg.lean LOADS. Nothing in Lean hashes anything: it is a label: what it is worth is what the hold of that sum in a sandbox is worth. -/
noncomputable def Try.pinned : Pinned := { name := "ytppjojjejabaeaa", sum := "70d8d13c1b069041585cb32167a17fd1f8006ad313fa57ee8530b7129ecfe377", checked := Try.checked }
namespace Rows
def none {H : Type} : Left H := { results := [], args := [] }

/-- 'kiosklaw7.MsgPacks': WHATEVER THE INPUT: true; the input reads as it did. -/
def msgPacksSpec : ChangeSpec := { name := "msgPacks", fn := fun _ => fun
  | [d1, d2] => { results := [.lit (.bool true)], args := [d1, d2] }
  | _ => none }
def msgPacksRow : OpenClaim := { program := "ytppjojjejabaeaa", sum := "70d8d13c1b069041585cb32167a17fd1f8006ad313fa57ee8530b7129ecfe377", func := "kiosk/kiosklaw7.MsgPacks", spec := "msgPacks", inPlace := ["internal/abi.NoEscape"], unfollowed := true, recurses := true, apart := false }
def MsgPacksSaid : Prop := msgPacksRow.holds Try.pinned (OpenSpec.ofChange msgPacksSpec)

/-- ITS FALSE NEIGHBOUR: 'it returns false'. Refute it at one input. -/
def msgPacksWrong : ChangeSpec := { name := "msgPacks", fn := fun _ => fun
  | [d1, d2] => { results := [.lit (.bool false)], args := [d1, d2] }
  | _ => none }
def MsgPacksWrongFalsely : Prop := msgPacksRow.holds Try.pinned (OpenSpec.ofChange msgPacksWrong)

/-- 'kiosklaw7.MsgReads': WHATEVER THE INPUT: true; the input reads as it did. -/
def msgReadsSpec : ChangeSpec := { name := "msgReads", fn := fun _ => fun
  | [d1, d2, d3, d4] => { results := [.lit (.bool true)], args := [d1, d2, d3, d4] }
  | _ => none }
def msgReadsRow : OpenClaim := { program := "ytppjojjejabaeaa", sum := "70d8d13c1b069041585cb32167a17fd1f8006ad313fa57ee8530b7129ecfe377", func := "kiosk/kiosklaw7.MsgReads", spec := "msgReads", inPlace := ["internal/abi.NoEscape"], unfollowed := true, recurses := true, apart := false }
def MsgReadsSaid : Prop := msgReadsRow.holds Try.pinned (OpenSpec.ofChange msgReadsSpec)

/-- ITS FALSE NEIGHBOUR: 'it returns false'. Refute it at one input. -/
def msgReadsWrong : ChangeSpec := { name := "msgReads", fn := fun _ => fun
  | [d1, d2, d3, d4] => { results := [.lit (.bool false)], args := [d1, d2, d3, d4] }
  | _ => none }
def MsgReadsWrongFalsely : Prop := msgReadsRow.holds Try.pinned (OpenSpec.ofChange msgReadsWrong)

/-- 'kiosklaw7.MsgBack': WHATEVER THE INPUT: true; the input reads as it did. -/
def msgBackSpec : ChangeSpec := { name := "msgBack", fn := fun _ => fun
  | [d1, d2, d3] => { results := [.lit (.bool true)], args := [d1, d2, d3] }
  | _ => none }
def msgBackRow : OpenClaim := { program := "ytppjojjejabaeaa", sum := "70d8d13c1b069041585cb32167a17fd1f8006ad313fa57ee8530b7129ecfe377", func := "kiosk/kiosklaw7.MsgBack", spec := "msgBack", inPlace := ["internal/abi.NoEscape"], unfollowed := true, recurses := true, apart := false }
def MsgBackSaid : Prop := msgBackRow.holds Try.pinned (OpenSpec.ofChange msgBackSpec)

/-- ITS FALSE NEIGHBOUR: 'it returns false'. Refute it at one input. -/
def msgBackWrong : ChangeSpec := { name := "msgBack", fn := fun _ => fun
  | [d1, d2, d3] => { results := [.lit (.bool false)], args := [d1, d2, d3] }
  | _ => none }
def MsgBackWrongFalsely : Prop := msgBackRow.holds Try.pinned (OpenSpec.ofChange msgBackWrong)

/-- 'kiosklaw7.MsgEnds': WHATEVER THE INPUT: true; the input reads as it did. -/
def msgEndsSpec : ChangeSpec := { name := "msgEnds", fn := fun _ => fun
  | [d1, d2, d3] => { results := [.lit (.bool true)], args := [d1, d2, d3] }
  | _ => none }
def msgEndsRow : OpenClaim := { program := "ytppjojjejabaeaa", sum := "70d8d13c1b069041585cb32167a17fd1f8006ad313fa57ee8530b7129ecfe377", func := "kiosk/kiosklaw7.MsgEnds", spec := "msgEnds", inPlace := ["internal/abi.NoEscape"], unfollowed := true, recurses := true, apart := false }
def MsgEndsSaid : Prop := msgEndsRow.holds Try.pinned (OpenSpec.ofChange msgEndsSpec)

/-- ITS FALSE NEIGHBOUR: 'it returns false'. Refute it at one input. -/
def msgEndsWrong : ChangeSpec := { name := "msgEnds", fn := fun _ => fun
  | [d1, d2, d3] => { results := [.lit (.bool false)], args := [d1, d2, d3] }
  | _ => none }
def MsgEndsWrongFalsely : Prop := msgEndsRow.holds Try.pinned (OpenSpec.ofChange msgEndsWrong)

/-- 'kiosklaw7.MsgRows': WHATEVER THE INPUT: true; the input reads as it did. -/
def msgRowsSpec : ChangeSpec := { name := "msgRows", fn := fun _ => fun
  | [d1, d2, d3] => { results := [.lit (.bool true)], args := [d1, d2, d3] }
  | _ => none }
def msgRowsRow : OpenClaim := { program := "ytppjojjejabaeaa", sum := "70d8d13c1b069041585cb32167a17fd1f8006ad313fa57ee8530b7129ecfe377", func := "kiosk/kiosklaw7.MsgRows", spec := "msgRows", inPlace := ["internal/abi.NoEscape"], unfollowed := true, recurses := true, apart := false }
def MsgRowsSaid : Prop := msgRowsRow.holds Try.pinned (OpenSpec.ofChange msgRowsSpec)

/-- ITS FALSE NEIGHBOUR: 'it returns false'. Refute it at one input. -/
def msgRowsWrong : ChangeSpec := { name := "msgRows", fn := fun _ => fun
  | [d1, d2, d3] => { results := [.lit (.bool false)], args := [d1, d2, d3] }
  | _ => none }
def MsgRowsWrongFalsely : Prop := msgRowsRow.holds Try.pinned (OpenSpec.ofChange msgRowsWrong)

/-- 'kiosklaw7.MsgTurns': WHATEVER THE INPUT: true; the input reads as it did. -/
def msgTurnsSpec : ChangeSpec := { name := "msgTurns", fn := fun _ => fun
  | [d] => { results := [.lit (.bool true)], args := [d] }
  | _ => none }
def msgTurnsRow : OpenClaim := { program := "ytppjojjejabaeaa", sum := "70d8d13c1b069041585cb32167a17fd1f8006ad313fa57ee8530b7129ecfe377", func := "kiosk/kiosklaw7.MsgTurns", spec := "msgTurns", inPlace := ["internal/abi.NoEscape"], unfollowed := true, recurses := true, apart := false }
def MsgTurnsSaid : Prop := msgTurnsRow.holds Try.pinned (OpenSpec.ofChange msgTurnsSpec)

/-- ITS FALSE NEIGHBOUR: 'it returns false'. Refute it at one input. -/
def msgTurnsWrong : ChangeSpec := { name := "msgTurns", fn := fun _ => fun
  | [d] => { results := [.lit (.bool false)], args := [d] }
  | _ => none }
def MsgTurnsWrongFalsely : Prop := msgTurnsRow.holds Try.pinned (OpenSpec.ofChange msgTurnsWrong)

/- THE SECOND FORM. 'bulk': how many values and letters a reading holds, each counted each time it is reached (what is shared counts as often as it is met; a slice's spare places count too). A statement '..UptoSaid' is the law's where the arguments, and the package variables that the reading takes, are together of bulk at most 1048576: NARROWER than '..Said'. Prove '..Said' where nothing that the law and all that it calls make is longer than what came in: it says more and counts as full. Else prove '..UptoSaid'. A law counts once. -/
mutual
def uptoBulk {H : Type} : DataW H → Nat
  | .lit (.string bytes) => bytes.length + 1
  | .lit _ => 1
  | .nil => 1
  | .ptr d => uptoBulk d + 1
  | .slice elems spare => uptoBulkAll elems + uptoBulkAll spare + 1
  | .agg parts => uptoBulkAll parts + 1
  | .iface _ d => uptoBulk d + 1
  | .map entries => uptoBulkEntries entries + 1
  | .held _ => 1
def uptoBulkAll {H : Type} : List (DataW H) → Nat
  | [] => 0
  | d :: r => uptoBulk d + uptoBulkAll r
def uptoBulkEntries {H : Type} : List (Lit × DataW H) → Nat
  | [] => 0
  | x :: r => uptoBulkEntry x + uptoBulkEntries r
def uptoBulkEntry {H : Type} : Lit × DataW H → Nat
  | (.string bytes, d) => bytes.length + uptoBulk d + 1
  | (_, d) => uptoBulk d + 1
 end
def uptoSmall : (H : Type) → List (DataW H) → Bool := fun _ ds => decide (uptoBulkAll ds ≤ 1048576)
def OpenSpec.upto (s : _root_.Go.ChangeSpec) : _root_.Go.OpenSpec := { _root_.Go.OpenSpec.ofChange s with cond := some uptoSmall }

/-- 'kiosklaw7.MsgPacks', WHERE WHAT IT READS IS OF BULK AT MOST 1048576: true; the input reads as it did. -/
def msgPacksUptoRow : OpenClaim := { program := "ytppjojjejabaeaa", sum := "70d8d13c1b069041585cb32167a17fd1f8006ad313fa57ee8530b7129ecfe377", func := "kiosk/kiosklaw7.MsgPacks", spec := "msgPacks", inPlace := ["internal/abi.NoEscape"], unfollowed := true, recurses := true, apart := false, narrowed := true }
def MsgPacksUptoSaid : Prop := msgPacksUptoRow.holds Try.pinned (OpenSpec.upto msgPacksSpec)

/-- 'kiosklaw7.MsgReads', WHERE WHAT IT READS IS OF BULK AT MOST 1048576: true; the input reads as it did. -/
def msgReadsUptoRow : OpenClaim := { program := "ytppjojjejabaeaa", sum := "70d8d13c1b069041585cb32167a17fd1f8006ad313fa57ee8530b7129ecfe377", func := "kiosk/kiosklaw7.MsgReads", spec := "msgReads", inPlace := ["internal/abi.NoEscape"], unfollowed := true, recurses := true, apart := false, narrowed := true }
def MsgReadsUptoSaid : Prop := msgReadsUptoRow.holds Try.pinned (OpenSpec.upto msgReadsSpec)

/-- 'kiosklaw7.MsgBack', WHERE WHAT IT READS IS OF BULK AT MOST 1048576: true; the input reads as it did. -/
def msgBackUptoRow : OpenClaim := { program := "ytppjojjejabaeaa", sum := "70d8d13c1b069041585cb32167a17fd1f8006ad313fa57ee8530b7129ecfe377", func := "kiosk/kiosklaw7.MsgBack", spec := "msgBack", inPlace := ["internal/abi.NoEscape"], unfollowed := true, recurses := true, apart := false, narrowed := true }
def MsgBackUptoSaid : Prop := msgBackUptoRow.holds Try.pinned (OpenSpec.upto msgBackSpec)

/-- 'kiosklaw7.MsgEnds', WHERE WHAT IT READS IS OF BULK AT MOST 1048576: true; the input reads as it did. -/
def msgEndsUptoRow : OpenClaim := { program := "ytppjojjejabaeaa", sum := "70d8d13c1b069041585cb32167a17fd1f8006ad313fa57ee8530b7129ecfe377", func := "kiosk/kiosklaw7.MsgEnds", spec := "msgEnds", inPlace := ["internal/abi.NoEscape"], unfollowed := true, recurses := true, apart := false, narrowed := true }
def MsgEndsUptoSaid : Prop := msgEndsUptoRow.holds Try.pinned (OpenSpec.upto msgEndsSpec)

/-- 'kiosklaw7.MsgRows', WHERE WHAT IT READS IS OF BULK AT MOST 1048576: true; the input reads as it did. -/
def msgRowsUptoRow : OpenClaim := { program := "ytppjojjejabaeaa", sum := "70d8d13c1b069041585cb32167a17fd1f8006ad313fa57ee8530b7129ecfe377", func := "kiosk/kiosklaw7.MsgRows", spec := "msgRows", inPlace := ["internal/abi.NoEscape"], unfollowed := true, recurses := true, apart := false, narrowed := true }
def MsgRowsUptoSaid : Prop := msgRowsUptoRow.holds Try.pinned (OpenSpec.upto msgRowsSpec)

/-- 'kiosklaw7.MsgTurns', WHERE WHAT IT READS IS OF BULK AT MOST 1048576: true; the input reads as it did. -/
def msgTurnsUptoRow : OpenClaim := { program := "ytppjojjejabaeaa", sum := "70d8d13c1b069041585cb32167a17fd1f8006ad313fa57ee8530b7129ecfe377", func := "kiosk/kiosklaw7.MsgTurns", spec := "msgTurns", inPlace := ["internal/abi.NoEscape"], unfollowed := true, recurses := true, apart := false, narrowed := true }
def MsgTurnsUptoSaid : Prop := msgTurnsUptoRow.holds Try.pinned (OpenSpec.upto msgTurnsSpec)

end Rows
end Go.Proofs.Ytppjojjejabaeaa
