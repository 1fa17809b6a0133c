import Derived.Test.YtjoeamlidmmioaaGreatDoorXmJbJ
/-
  LAYER 11 (xml): rows of bytes.
-/
namespace Go.Proofs.YtjoeamlidmmioaaGreatDoor
open Go.RowKit
set_option linter.unusedVariables false
set_option maxRecDepth 100000

def byTy : RowTy UInt8 := ⟨70, 5, 1, 1, fun c => [.int .u8 c.toNat], .int .u8 0⟩
theorem byTy_ok : byTy.Ok := ⟨fun _ => rfl, fun c u h => by simp [byTy] at h; subst h; rfl, by decide, Tryz.underlying70, by kernel_rfl, by kernel_rfl, rfl, by decide⟩
theorem byFlat (l : List UInt8) : byTy.flat l = Lib.byteCells l := by
  induction l with
  | nil => rfl
  | cons c r ih => rw [show byTy.flat (c :: r) = byTy.cs c ++ byTy.flat r from rfl, ih]; simp [byTy, Lib.byteCells]
end Go.Proofs.YtjoeamlidmmioaaGreatDoor

