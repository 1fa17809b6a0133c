/-
  NARROWER THAN 'FOR EVERY INPUT', by the rows' own cells (each row's printed sentence says how): CodecNumbers: laid · CodecTexts: laid · CodecFrames: laid · CodecBack: laid · CodecCuts: laid · CodecRows: laid · CodecSums: laid · CodecFramed: laid.
  DERIVED. THE GIVEN ROWS OF THIS SEAT. 8 by the template 'for every input the law returns true; each argument reads behind the call as it read before'; 0 by the template 'total and deterministic' (their statements: YtpfchdplcbjfdaaDoorTotals.lean).
  GIVEN WITH THE SEED: the statements are not yours to turn. If you find one false, say at which input.
  Laid BY PROGRAM, IN A SANDBOX (cutbox-rows.mjs): the forced cells as the released guide's own fill.sh prints them over the translation 5ded66f34a25aca7… (all of the seat's roots in one cut). By AI agents, Wed Nov 11 2026. No macro, syntax, notation, axiom, sorry.
-/
import Derived.Test.YtpfchdplcbjfdaaDoorChecked
import GoSem.Claim
import GoSem.ClaimJoined
import GoSem.ClaimMapViews
import Derived.JoinedTies
import Derived.KernelRfl
namespace Go.Proofs.YtpfchdplcbjfdaaDoor
/- THE CELL 'sum', in the pinned program and in every row, IS THE sha256 OF THE DUMP (.gsa) THAT YtpfchdplcbjfdaaDoorProg.lean LOADS. Nothing in Lean hashes anything: it is a label: what it is worth is what the hold of that sum in a sandbox is worth. -/
noncomputable def Tryd.pinned : Pinned := { name := "ytpfchdplcbjfdaadoor", sum := "5ded66f34a25aca77766db8798eca23bf15b60591b9e4515e5ce9da61cedbfb5", checked := Tryd.checked }
namespace Rows
def none {H : Type} : Left H := { results := [], args := [] }

/- WHAT THE LISTED PACKAGE-LEVEL VARIABLES READ AS WHEN THE CALL BEGINS. Each datum BY PROGRAM (the guide's laid-datum.mjs) off the statement by which the dump's own 'gosem.cut.vars' lays the variable. In a bare row this is a premise. The card (YtpfchdplcbjfdaaDoorCards.lean) ties it to the program's text. -/
def laid_kiosk_codec_steps {H : Type} : DataW H := .agg [.lit (.int .u32 0), .lit (.int .u32 274646895), .lit (.int .u32 549293790), .lit (.int .u32 820201905), .lit (.int .u32 1098587580), .lit (.int .u32 1361435347), .lit (.int .u32 1640403810), .lit (.int .u32 1905808397), .lit (.int .u32 2197175160), .lit (.int .u32 2460548119), .lit (.int .u32 2722870694), .lit (.int .u32 2987750089), .lit (.int .u32 3280807620), .lit (.int .u32 3553878443), .lit (.int .u32 3811616794), .lit (.int .u32 4084100981)]

/-- 'kiosklaw1.CodecNumbers': WHATEVER THE INPUT: true; the input reads as it did. -/
def codecNumbersSpec : ChangeSpec := { name := "codecNumbers", fn := fun _ => fun
  | [d1, d2, d3] => { results := [.lit (.bool true)], args := [d1, d2, d3] }
  | _ => none }
def codecNumbersRow : OpenClaim := { program := "ytpfchdplcbjfdaadoor", sum := "5ded66f34a25aca77766db8798eca23bf15b60591b9e4515e5ce9da61cedbfb5", func := "kiosk/kiosklaw1.CodecNumbers", spec := "codecNumbers", inPlace := ["internal/abi.NoEscape"], unfollowed := true, recurses := true, named := ["kiosk/codec.steps"], apart := false, laid := [("kiosk/codec.steps", laid_kiosk_codec_steps)] }
def CodecNumbersSaid : Prop := codecNumbersRow.holds Tryd.pinned (OpenSpec.ofChange codecNumbersSpec)

/-- ITS FALSE NEIGHBOUR: 'it returns false'. Refute it at one input. -/
def codecNumbersWrong : ChangeSpec := { name := "codecNumbers", fn := fun _ => fun
  | [d1, d2, d3] => { results := [.lit (.bool false)], args := [d1, d2, d3] }
  | _ => none }
def CodecNumbersWrongFalsely : Prop := codecNumbersRow.holds Tryd.pinned (OpenSpec.ofChange codecNumbersWrong)

/-- 'kiosklaw1.CodecTexts': WHATEVER THE INPUT: true; the input reads as it did. -/
def codecTextsSpec : ChangeSpec := { name := "codecTexts", fn := fun _ => fun
  | [d1, d2, d3, d4] => { results := [.lit (.bool true)], args := [d1, d2, d3, d4] }
  | _ => none }
def codecTextsRow : OpenClaim := { program := "ytpfchdplcbjfdaadoor", sum := "5ded66f34a25aca77766db8798eca23bf15b60591b9e4515e5ce9da61cedbfb5", func := "kiosk/kiosklaw1.CodecTexts", spec := "codecTexts", inPlace := ["internal/abi.NoEscape"], unfollowed := true, recurses := true, named := ["kiosk/codec.steps"], apart := false, laid := [("kiosk/codec.steps", laid_kiosk_codec_steps)] }
def CodecTextsSaid : Prop := codecTextsRow.holds Tryd.pinned (OpenSpec.ofChange codecTextsSpec)

/-- ITS FALSE NEIGHBOUR: 'it returns false'. Refute it at one input. -/
def codecTextsWrong : ChangeSpec := { name := "codecTexts", fn := fun _ => fun
  | [d1, d2, d3, d4] => { results := [.lit (.bool false)], args := [d1, d2, d3, d4] }
  | _ => none }
def CodecTextsWrongFalsely : Prop := codecTextsRow.holds Tryd.pinned (OpenSpec.ofChange codecTextsWrong)

/-- 'kiosklaw1.CodecFrames': WHATEVER THE INPUT: true; the input reads as it did. -/
def codecFramesSpec : ChangeSpec := { name := "codecFrames", fn := fun _ => fun
  | [d1, d2] => { results := [.lit (.bool true)], args := [d1, d2] }
  | _ => none }
def codecFramesRow : OpenClaim := { program := "ytpfchdplcbjfdaadoor", sum := "5ded66f34a25aca77766db8798eca23bf15b60591b9e4515e5ce9da61cedbfb5", func := "kiosk/kiosklaw1.CodecFrames", spec := "codecFrames", inPlace := ["internal/abi.NoEscape"], unfollowed := true, recurses := true, named := ["kiosk/codec.steps"], apart := false, laid := [("kiosk/codec.steps", laid_kiosk_codec_steps)] }
def CodecFramesSaid : Prop := codecFramesRow.holds Tryd.pinned (OpenSpec.ofChange codecFramesSpec)

/-- ITS FALSE NEIGHBOUR: 'it returns false'. Refute it at one input. -/
def codecFramesWrong : ChangeSpec := { name := "codecFrames", fn := fun _ => fun
  | [d1, d2] => { results := [.lit (.bool false)], args := [d1, d2] }
  | _ => none }
def CodecFramesWrongFalsely : Prop := codecFramesRow.holds Tryd.pinned (OpenSpec.ofChange codecFramesWrong)

/-- 'kiosklaw1.CodecBack': WHATEVER THE INPUT: true; the input reads as it did. -/
def codecBackSpec : ChangeSpec := { name := "codecBack", fn := fun _ => fun
  | [d1, d2, d3] => { results := [.lit (.bool true)], args := [d1, d2, d3] }
  | _ => none }
def codecBackRow : OpenClaim := { program := "ytpfchdplcbjfdaadoor", sum := "5ded66f34a25aca77766db8798eca23bf15b60591b9e4515e5ce9da61cedbfb5", func := "kiosk/kiosklaw1.CodecBack", spec := "codecBack", inPlace := ["internal/abi.NoEscape"], unfollowed := true, recurses := true, named := ["kiosk/codec.steps"], apart := false, laid := [("kiosk/codec.steps", laid_kiosk_codec_steps)] }
def CodecBackSaid : Prop := codecBackRow.holds Tryd.pinned (OpenSpec.ofChange codecBackSpec)

/-- ITS FALSE NEIGHBOUR: 'it returns false'. Refute it at one input. -/
def codecBackWrong : ChangeSpec := { name := "codecBack", fn := fun _ => fun
  | [d1, d2, d3] => { results := [.lit (.bool false)], args := [d1, d2, d3] }
  | _ => none }
def CodecBackWrongFalsely : Prop := codecBackRow.holds Tryd.pinned (OpenSpec.ofChange codecBackWrong)

/-- 'kiosklaw1.CodecCuts': WHATEVER THE INPUT: true; the input reads as it did. -/
def codecCutsSpec : ChangeSpec := { name := "codecCuts", fn := fun _ => fun
  | [d1, d2, d3] => { results := [.lit (.bool true)], args := [d1, d2, d3] }
  | _ => none }
def codecCutsRow : OpenClaim := { program := "ytpfchdplcbjfdaadoor", sum := "5ded66f34a25aca77766db8798eca23bf15b60591b9e4515e5ce9da61cedbfb5", func := "kiosk/kiosklaw1.CodecCuts", spec := "codecCuts", inPlace := ["internal/abi.NoEscape"], unfollowed := true, recurses := true, named := ["kiosk/codec.steps"], apart := false, laid := [("kiosk/codec.steps", laid_kiosk_codec_steps)] }
def CodecCutsSaid : Prop := codecCutsRow.holds Tryd.pinned (OpenSpec.ofChange codecCutsSpec)

/-- ITS FALSE NEIGHBOUR: 'it returns false'. Refute it at one input. -/
def codecCutsWrong : ChangeSpec := { name := "codecCuts", fn := fun _ => fun
  | [d1, d2, d3] => { results := [.lit (.bool false)], args := [d1, d2, d3] }
  | _ => none }
def CodecCutsWrongFalsely : Prop := codecCutsRow.holds Tryd.pinned (OpenSpec.ofChange codecCutsWrong)

/-- 'kiosklaw1.CodecRows': WHATEVER THE INPUT: true; the input reads as it did. -/
def codecRowsSpec : ChangeSpec := { name := "codecRows", fn := fun _ => fun
  | [d] => { results := [.lit (.bool true)], args := [d] }
  | _ => none }
def codecRowsRow : OpenClaim := { program := "ytpfchdplcbjfdaadoor", sum := "5ded66f34a25aca77766db8798eca23bf15b60591b9e4515e5ce9da61cedbfb5", func := "kiosk/kiosklaw1.CodecRows", spec := "codecRows", inPlace := ["internal/abi.NoEscape"], unfollowed := true, recurses := true, named := ["kiosk/codec.steps"], apart := false, laid := [("kiosk/codec.steps", laid_kiosk_codec_steps)] }
def CodecRowsSaid : Prop := codecRowsRow.holds Tryd.pinned (OpenSpec.ofChange codecRowsSpec)

/-- ITS FALSE NEIGHBOUR: 'it returns false'. Refute it at one input. -/
def codecRowsWrong : ChangeSpec := { name := "codecRows", fn := fun _ => fun
  | [d] => { results := [.lit (.bool false)], args := [d] }
  | _ => none }
def CodecRowsWrongFalsely : Prop := codecRowsRow.holds Tryd.pinned (OpenSpec.ofChange codecRowsWrong)

/-- 'kiosklaw1.CodecSums': WHATEVER THE INPUT: true; the input reads as it did. -/
def codecSumsSpec : ChangeSpec := { name := "codecSums", fn := fun _ => fun
  | [d1, d2, d3] => { results := [.lit (.bool true)], args := [d1, d2, d3] }
  | _ => none }
def codecSumsRow : OpenClaim := { program := "ytpfchdplcbjfdaadoor", sum := "5ded66f34a25aca77766db8798eca23bf15b60591b9e4515e5ce9da61cedbfb5", func := "kiosk/kiosklaw1.CodecSums", spec := "codecSums", inPlace := ["internal/abi.NoEscape"], unfollowed := true, recurses := true, named := ["kiosk/codec.steps"], apart := false, laid := [("kiosk/codec.steps", laid_kiosk_codec_steps)] }
def CodecSumsSaid : Prop := codecSumsRow.holds Tryd.pinned (OpenSpec.ofChange codecSumsSpec)

/-- ITS FALSE NEIGHBOUR: 'it returns false'. Refute it at one input. -/
def codecSumsWrong : ChangeSpec := { name := "codecSums", fn := fun _ => fun
  | [d1, d2, d3] => { results := [.lit (.bool false)], args := [d1, d2, d3] }
  | _ => none }
def CodecSumsWrongFalsely : Prop := codecSumsRow.holds Tryd.pinned (OpenSpec.ofChange codecSumsWrong)

/-- 'kiosklaw1.CodecFramed': WHATEVER THE INPUT: true; the input reads as it did. -/
def codecFramedSpec : ChangeSpec := { name := "codecFramed", fn := fun _ => fun
  | [d] => { results := [.lit (.bool true)], args := [d] }
  | _ => none }
def codecFramedRow : OpenClaim := { program := "ytpfchdplcbjfdaadoor", sum := "5ded66f34a25aca77766db8798eca23bf15b60591b9e4515e5ce9da61cedbfb5", func := "kiosk/kiosklaw1.CodecFramed", spec := "codecFramed", inPlace := ["internal/abi.NoEscape"], unfollowed := true, recurses := true, named := ["kiosk/codec.steps"], apart := false, laid := [("kiosk/codec.steps", laid_kiosk_codec_steps)] }
def CodecFramedSaid : Prop := codecFramedRow.holds Tryd.pinned (OpenSpec.ofChange codecFramedSpec)

/-- ITS FALSE NEIGHBOUR: 'it returns false'. Refute it at one input. -/
def codecFramedWrong : ChangeSpec := { name := "codecFramed", fn := fun _ => fun
  | [d] => { results := [.lit (.bool false)], args := [d] }
  | _ => none }
def CodecFramedWrongFalsely : Prop := codecFramedRow.holds Tryd.pinned (OpenSpec.ofChange codecFramedWrong)

/- THE SECOND FORM. 'bulk': how many values and letters a reading holds, each counted each time it is reached (what is shared counts as often as it is met; a slice's spare places count too). A statement '..UptoSaid' is the law's where the arguments, and the package variables that the reading takes, are together of bulk at most 1048576: NARROWER than '..Said'. Prove '..Said' where nothing that the law and all that it calls make is longer than what came in: it says more and counts as full. Else prove '..UptoSaid'. A law counts once. -/
mutual
def uptoBulk {H : Type} : DataW H → Nat
  | .lit (.string bytes) => bytes.length + 1
  | .lit _ => 1
  | .nil => 1
  | .ptr d => uptoBulk d + 1
  | .slice elems spare => uptoBulkAll elems + uptoBulkAll spare + 1
  | .agg parts => uptoBulkAll parts + 1
  | .iface _ d => uptoBulk d + 1
  | .map entries => uptoBulkEntries entries + 1
  | .held _ => 1
def uptoBulkAll {H : Type} : List (DataW H) → Nat
  | [] => 0
  | d :: r => uptoBulk d + uptoBulkAll r
def uptoBulkEntries {H : Type} : List (Lit × DataW H) → Nat
  | [] => 0
  | x :: r => uptoBulkEntry x + uptoBulkEntries r
def uptoBulkEntry {H : Type} : Lit × DataW H → Nat
  | (.string bytes, d) => bytes.length + uptoBulk d + 1
  | (_, d) => uptoBulk d + 1
 end
def uptoSmall : (H : Type) → List (DataW H) → Bool := fun _ ds => decide (uptoBulkAll ds ≤ 1048576)
def OpenSpec.upto (s : _root_.Go.ChangeSpec) : _root_.Go.OpenSpec := { _root_.Go.OpenSpec.ofChange s with cond := some uptoSmall }

/-- 'kiosklaw1.CodecNumbers', WHERE WHAT IT READS IS OF BULK AT MOST 1048576: true; the input reads as it did. -/
def codecNumbersUptoRow : OpenClaim := { program := "ytpfchdplcbjfdaadoor", sum := "5ded66f34a25aca77766db8798eca23bf15b60591b9e4515e5ce9da61cedbfb5", func := "kiosk/kiosklaw1.CodecNumbers", spec := "codecNumbers", inPlace := ["internal/abi.NoEscape"], unfollowed := true, recurses := true, named := ["kiosk/codec.steps"], apart := false, laid := [("kiosk/codec.steps", laid_kiosk_codec_steps)], narrowed := true }
def CodecNumbersUptoSaid : Prop := codecNumbersUptoRow.holds Tryd.pinned (OpenSpec.upto codecNumbersSpec)

/-- 'kiosklaw1.CodecTexts', WHERE WHAT IT READS IS OF BULK AT MOST 1048576: true; the input reads as it did. -/
def codecTextsUptoRow : OpenClaim := { program := "ytpfchdplcbjfdaadoor", sum := "5ded66f34a25aca77766db8798eca23bf15b60591b9e4515e5ce9da61cedbfb5", func := "kiosk/kiosklaw1.CodecTexts", spec := "codecTexts", inPlace := ["internal/abi.NoEscape"], unfollowed := true, recurses := true, named := ["kiosk/codec.steps"], apart := false, laid := [("kiosk/codec.steps", laid_kiosk_codec_steps)], narrowed := true }
def CodecTextsUptoSaid : Prop := codecTextsUptoRow.holds Tryd.pinned (OpenSpec.upto codecTextsSpec)

/-- 'kiosklaw1.CodecFrames', WHERE WHAT IT READS IS OF BULK AT MOST 1048576: true; the input reads as it did. -/
def codecFramesUptoRow : OpenClaim := { program := "ytpfchdplcbjfdaadoor", sum := "5ded66f34a25aca77766db8798eca23bf15b60591b9e4515e5ce9da61cedbfb5", func := "kiosk/kiosklaw1.CodecFrames", spec := "codecFrames", inPlace := ["internal/abi.NoEscape"], unfollowed := true, recurses := true, named := ["kiosk/codec.steps"], apart := false, laid := [("kiosk/codec.steps", laid_kiosk_codec_steps)], narrowed := true }
def CodecFramesUptoSaid : Prop := codecFramesUptoRow.holds Tryd.pinned (OpenSpec.upto codecFramesSpec)

/-- 'kiosklaw1.CodecBack', WHERE WHAT IT READS IS OF BULK AT MOST 1048576: true; the input reads as it did. -/
def codecBackUptoRow : OpenClaim := { program := "ytpfchdplcbjfdaadoor", sum := "5ded66f34a25aca77766db8798eca23bf15b60591b9e4515e5ce9da61cedbfb5", func := "kiosk/kiosklaw1.CodecBack", spec := "codecBack", inPlace := ["internal/abi.NoEscape"], unfollowed := true, recurses := true, named := ["kiosk/codec.steps"], apart := false, laid := [("kiosk/codec.steps", laid_kiosk_codec_steps)], narrowed := true }
def CodecBackUptoSaid : Prop := codecBackUptoRow.holds Tryd.pinned (OpenSpec.upto codecBackSpec)

/-- 'kiosklaw1.CodecCuts', WHERE WHAT IT READS IS OF BULK AT MOST 1048576: true; the input reads as it did. -/
def codecCutsUptoRow : OpenClaim := { program := "ytpfchdplcbjfdaadoor", sum := "5ded66f34a25aca77766db8798eca23bf15b60591b9e4515e5ce9da61cedbfb5", func := "kiosk/kiosklaw1.CodecCuts", spec := "codecCuts", inPlace := ["internal/abi.NoEscape"], unfollowed := true, recurses := true, named := ["kiosk/codec.steps"], apart := false, laid := [("kiosk/codec.steps", laid_kiosk_codec_steps)], narrowed := true }
def CodecCutsUptoSaid : Prop := codecCutsUptoRow.holds Tryd.pinned (OpenSpec.upto codecCutsSpec)

/-- 'kiosklaw1.CodecRows', WHERE WHAT IT READS IS OF BULK AT MOST 1048576: true; the input reads as it did. -/
def codecRowsUptoRow : OpenClaim := { program := "ytpfchdplcbjfdaadoor", sum := "5ded66f34a25aca77766db8798eca23bf15b60591b9e4515e5ce9da61cedbfb5", func := "kiosk/kiosklaw1.CodecRows", spec := "codecRows", inPlace := ["internal/abi.NoEscape"], unfollowed := true, recurses := true, named := ["kiosk/codec.steps"], apart := false, laid := [("kiosk/codec.steps", laid_kiosk_codec_steps)], narrowed := true }
def CodecRowsUptoSaid : Prop := codecRowsUptoRow.holds Tryd.pinned (OpenSpec.upto codecRowsSpec)

/-- 'kiosklaw1.CodecSums', WHERE WHAT IT READS IS OF BULK AT MOST 1048576: true; the input reads as it did. -/
def codecSumsUptoRow : OpenClaim := { program := "ytpfchdplcbjfdaadoor", sum := "5ded66f34a25aca77766db8798eca23bf15b60591b9e4515e5ce9da61cedbfb5", func := "kiosk/kiosklaw1.CodecSums", spec := "codecSums", inPlace := ["internal/abi.NoEscape"], unfollowed := true, recurses := true, named := ["kiosk/codec.steps"], apart := false, laid := [("kiosk/codec.steps", laid_kiosk_codec_steps)], narrowed := true }
def CodecSumsUptoSaid : Prop := codecSumsUptoRow.holds Tryd.pinned (OpenSpec.upto codecSumsSpec)

/-- 'kiosklaw1.CodecFramed', WHERE WHAT IT READS IS OF BULK AT MOST 1048576: true; the input reads as it did. -/
def codecFramedUptoRow : OpenClaim := { program := "ytpfchdplcbjfdaadoor", sum := "5ded66f34a25aca77766db8798eca23bf15b60591b9e4515e5ce9da61cedbfb5", func := "kiosk/kiosklaw1.CodecFramed", spec := "codecFramed", inPlace := ["internal/abi.NoEscape"], unfollowed := true, recurses := true, named := ["kiosk/codec.steps"], apart := false, laid := [("kiosk/codec.steps", laid_kiosk_codec_steps)], narrowed := true }
def CodecFramedUptoSaid : Prop := codecFramedUptoRow.holds Tryd.pinned (OpenSpec.upto codecFramedSpec)

end Rows
end Go.Proofs.YtpfchdplcbjfdaaDoor
