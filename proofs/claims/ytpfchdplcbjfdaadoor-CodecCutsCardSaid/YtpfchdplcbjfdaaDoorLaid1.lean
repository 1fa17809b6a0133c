/-
  LAYER 1's rows list the checksum's table: what that list gives; a world that holds it.
-/
import Derived.Test.YtpfchdplcbjfdaaDoorLaw
import Derived.Test.YtpfchdplcbjfdaaDoorCrc
import Derived.Test.YtpfchdplcbjfdaaDoorCards
import Derived.Test.YtpfchdplcbjfdaaDoorTie
import Derived.Deep.DeepHandedRow
import Derived.Lib.LaidTab
namespace Go.Proofs.YtpfchdplcbjfdaaDoor
open Go.ChangeShapes Go.WideShapes Go.ChangeAt Go.RowKit
set_option linter.unusedVariables false

theorem gTab : Tryd.prog.globalNamed "kiosk/codec.steps" = some 0 := by kernel_rfl
theorem gTabType : (Tryd.prog.globals[0]?).map (·.type) = some 68 := by kernel_rfl
theorem cellsTab : Tryd.prog.cellsOf 68 = 16 := by kernel_rfl
theorem cellsU32 : Tryd.prog.cellsOf 41 = 1 := by kernel_rfl

theorem steps_of {W : World} (h : laidMetH Tryd.prog [("kiosk/codec.steps", Rows.laid_kiosk_codec_steps)] W) : Steps W ∧ 0 < W.heap.size := by
  have ht : Lib.TabIs Tryd.prog W "kiosk/codec.steps" .u32 [0, 274646895, 549293790, 820201905, 1098587580, 1361435347, 1640403810, 1905808397, 2197175160, 2460548119, 2722870694, 2987750089, 3280807620, 3553878443, 3811616794, 4084100981] :=
    Lib.tabIs_of_head (rest := []) gTab gTabType Tryd.underlying68 Tryd.underlying41 cellsU32 cellsTab h
  have hS : Steps W := by
    intro i hi
    have := ht.cell gTab i (by simpa using hi)
    rw [this]
    match i, hi with
    | 0, _ | 1, _ | 2, _ | 3, _ | 4, _ | 5, _ | 6, _ | 7, _ | 8, _ | 9, _ | 10, _ | 11, _ | 12, _ | 13, _ | 14, _ | 15, _ => rfl
    | n + 16, h => omega
  exact ⟨hS, World.block_lt_of_cell? W _ (hS 0 (by omega))⟩

/-- A world for the witness: the settled one, the table holding what its initialiser lays. -/
noncomputable def laidWorld (os : Os) : World :=
  { World.holding Tryd.prog os ⟨#[], #[], []⟩ with heap := (World.holding Tryd.prog os ⟨#[], #[], []⟩).heap.modify 0 fun
      | .cells _ t frozen => .cells #[.int .u32 0, .int .u32 274646895, .int .u32 549293790, .int .u32 820201905, .int .u32 1098587580, .int .u32 1361435347, .int .u32 1640403810, .int .u32 1905808397, .int .u32 2197175160, .int .u32 2460548119, .int .u32 2722870694, .int .u32 2987750089, .int .u32 3280807620, .int .u32 3553878443, .int .u32 3811616794, .int .u32 4084100981] t frozen
      | o => o }
end Go.Proofs.YtpfchdplcbjfdaaDoor
