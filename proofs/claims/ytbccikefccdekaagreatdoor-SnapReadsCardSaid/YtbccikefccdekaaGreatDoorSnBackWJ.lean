import Derived.Test.YtbccikefccdekaaGreatDoorSnShownJ
import Derived.Test.YtbccikefccdekaaGreatDoorMq7J
/-
  LAYER 4 (snap), the law SnapBack: what the call does.
-/
namespace Go.Proofs.YtbccikefccdekaaGreatDoor
open Go.RowKit Go.Shelf
attribute [local go_sem] Oper.semAt_some
set_option linter.unusedVariables false
set_option maxRecDepth 100000

theorem unpack_err {S : List UInt8} {U : Bs} {er : Nat} (h : unpackS S = (U, er)) (he : er ≠ 0) : U = bs0 := by
  unfold unpackS at h
  split at h
  · exact (congrArg Prod.fst h).symm
  · split at h
    · exact (congrArg Prod.fst h).symm
    · split at h
      · exact (congrArg Prod.fst h).symm
      · split at h
        · exact (congrArg Prod.fst h).symm
        · split at h
          · exact (congrArg Prod.fst h).symm
          · exact absurd (congrArg Prod.snd h).symm he
abbrev bc (b : Bs) (vv : Value) : Array Value := #[.int .i64 b.ix, .int .i64 b.tm, vv, .string (mk b.data)]
section
variable {wx : World} {B0 : Nat}
theorem snPk_c {b : Bs} {vv : Value} (h : BAt wx vv b) (hg : Sn.Glob wx B0) (hB0 : B0 ≤ wx.heap.size) : Calls Tryz.prog 8 #[.agg (bc b vv)] wx fun e w' => e = .returned (.tuple #[.string (mk (packR b)), .int .i64 (packE b)]) ∧ Below wx.heap.size wx w' :=
  snPack_any h hg.steps (Nat.lt_of_lt_of_le hg.hsteps hB0)
theorem snUp_c {S : ByteArray} {U : Bs} {er : Nat} (hS : S.size ≤ 100000000) (hu : unpackS S.data.toList = (U, er)) (hg : Sn.Glob wx B0) (hB0 : B0 ≤ wx.heap.size) : Calls Tryz.prog 12 #[.string S] wx fun e w' => ∃ va vc, e = .returned (.tuple #[.agg (bc U (.slice va U.vot.length vc)), .int .i64 (er : Int)]) ∧ Below wx.heap.size wx w' ∧ BAt w' (.slice va U.vot.length vc) U := by
  refine (snUnpack_any S wx hS hg.steps (Nat.lt_of_lt_of_le hg.hsteps hB0)).mono ?_
  rintro e w' ⟨v, he, hb, hba, -⟩
  rw [hu] at he hba
  obtain ⟨va, vc, rfl, -⟩ := hba.vot
  exact ⟨va, vc, he, hb, hba⟩
theorem snSame_c {b : Bs} {v1 v2 : Value} (h1 : BAt wx v1 b) (h2 : BAt wx v2 b) : Calls Tryz.prog 14 #[.agg (bc b v1), .agg (bc b v2)] wx fun e w' => e = .returned (.bool true) ∧ Below wx.heap.size wx w' := by
  refine (snSame_any h1 h2).mono ?_
  rintro e wy ⟨he, hb⟩
  exact ⟨by rw [he]; simp, hb⟩
end
end Go.Proofs.YtbccikefccdekaaGreatDoor


