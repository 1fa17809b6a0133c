import Derived.Test.YtbccikefccdekaaGreatDoorMq1J
import Derived.Test.YtbccikefccdekaaGreatDoorCards
import Derived.Test.YtbccikefccdekaaGreatDoorTie
import Derived.Deep.DeepHandedRow
import Derived.Lib.LaidTab
import Derived.Stop.LaidErr
import Derived.MakeChecks
import Derived.Lay
/-
  LAYER 4's rows list six variables: what that list gives; a world that holds them.
-/
namespace Go.Proofs.YtbccikefccdekaaGreatDoor
open Go.ChangeShapes Go.WideShapes Go.ChangeAt Go.RowKit
set_option linter.unusedVariables false
set_option maxRecDepth 100000

theorem g3Tab : Tryz.prog.globalNamed "kiosk/codec.steps" = some 0 := by kernel_rfl
theorem g3TabType : (Tryz.prog.globals[0]?).map (·.type) = some 136 := by kernel_rfl
theorem g3PowType : (Tryz.prog.globals[3]?).map (·.type) = some 176 := by kernel_rfl
theorem g3Syn : Tryz.prog.globalNamed "strconv.ErrSyntax" = some 1 := by kernel_rfl
theorem g3SynType : (Tryz.prog.globals[1]?).map (·.type) = some 56 := by kernel_rfl
theorem g3Rng : Tryz.prog.globalNamed "strconv.ErrRange" = some 2 := by kernel_rfl
theorem g3RngType : (Tryz.prog.globals[2]?).map (·.type) = some 56 := by kernel_rfl
theorem c3Tab : Tryz.prog.cellsOf 136 = 16 := by kernel_rfl
theorem c3U32 : Tryz.prog.cellsOf 112 = 1 := by kernel_rfl
theorem c3Pow : Tryz.prog.cellsOf 176 = 20 := by kernel_rfl
theorem c3U64 : Tryz.prog.cellsOf 109 = 1 := by kernel_rfl
theorem c3Err : Tryz.prog.cellsOf 181 = 1 := by kernel_rfl
theorem c3Str : Tryz.prog.cellsOf 9 = 1 := by kernel_rfl
theorem star3 : "*" ++ "errors.errorString" = "*errors.errorString" := by decide
theorem row3Err (u : TypeId) (h : Tryz.prog.typeName? 3 u = some "*errors.errorString") : u = 179 :=
  typeName_ptr_named (nm := "errors.errorString") (by rw [star3]; kernel_rfl) (by kernel_rfl) (by decide) u (by rw [star3]; exact h)

theorem glob_of {W : World} (h : laidMetH Tryz.prog Rows.snapKeepsRow.laid W) : Sn.Glob W W.heap.size := by
  rw [MakeChecks.laidMetH_plain _ _ _ (by kernel_rfl)] at h
  have h2 : laidMet Tryz.prog (("internal/strconv.uint64pow10", Rows.laid_internal_strconv_uint64pow10) :: ("strconv.ErrRange", Rows.laid_strconv_ErrRange) :: ("strconv.ErrSyntax", Rows.laid_strconv_ErrSyntax) :: ("kiosk/codec.steps", Rows.laid_kiosk_codec_steps) :: []) W := h.tail.tail
  have hp : Lib.TabIs Tryz.prog W "internal/strconv.uint64pow10" .u64 Lib.pow10Tab := Lib.tabIs_of_head Sn.gPow g3PowType Tryz.underlying176 Tryz.underlying109 c3U64 c3Pow h2
  obtain ⟨a1, s1, hv1, -, -, -⟩ := laid_sentinel h2.tail g3Rng g3RngType Tryz.underlying56 row3Err Tryz.underlying179 Tryz.underlying181 rfl rfl Tryz.underlying9 c3Err c3Str
  obtain ⟨a2, s2, hv2, -, -, -⟩ := laid_sentinel h2.tail.tail g3Syn g3SynType Tryz.underlying56 row3Err Tryz.underlying179 Tryz.underlying181 rfl rfl Tryz.underlying9 c3Err c3Str
  have ht : Lib.TabIs Tryz.prog W "kiosk/codec.steps" .u32 [0, 274646895, 549293790, 820201905, 1098587580, 1361435347, 1640403810, 1905808397, 2197175160, 2460548119, 2722870694, 2987750089, 3280807620, 3553878443, 3811616794, 4084100981] :=
    Lib.tabIs_of_head (rest := []) g3Tab g3TabType Tryz.underlying136 Tryz.underlying112 c3U32 c3Tab h2.tail.tail.tail
  have hS : Steps W := by
    intro i hi
    have := ht.cell g3Tab i (by simpa using hi)
    rw [this]
    match i, hi with
    | 0, _ | 1, _ | 2, _ | 3, _ | 4, _ | 5, _ | 6, _ | 7, _ | 8, _ | 9, _ | 10, _ | 11, _ | 12, _ | 13, _ | 14, _ | 15, _ => rfl
    | n + 16, h => omega
  have e1 : W.cell? ⟨2, 0, none⟩ = some (.iface 179 (.pointer (some a1))) := by simpa using World.var?_cell g3Rng hv1 0
  have e2 : W.cell? ⟨1, 0, none⟩ = some (.iface 179 (.pointer (some a2))) := by simpa using World.var?_cell g3Syn hv2 0
  have e3 := hp.cell Sn.gPow 0 (by decide)
  exact ⟨hS, World.block_lt_of_cell? W _ (hS 0 (by omega)), hp, World.block_lt_of_cell? W _ e3, ⟨_, e2, .inr ⟨_, _, rfl⟩⟩, World.block_lt_of_cell? W _ e2, ⟨_, e1, .inr ⟨_, _, rfl⟩⟩, World.block_lt_of_cell? W _ e1⟩

/-- A world for the witness. -/
noncomputable def laidWorld (os : Os) : World := World.laidAll Tryz.prog os Rows.snapKeepsRow.laid
theorem laidWorld_met (os : Os) (args : Array Value) : laidMet Tryz.prog Rows.snapKeepsRow.laid ((laidWorld os).forCall (fun _ _ => 0) ⟨#[], args, []⟩).memory :=
  laidMet_laidAll args (by kernel_rfl) (by kernel_rfl)
end Go.Proofs.YtbccikefccdekaaGreatDoor

