import Derived.Test.YtbccikefccdekaaGreatDoorSnGIntsJ
import Derived.BigQuiet
/-
  GENERAL: slices.Clone of ints (XGClone0, in the namespace Gr).
-/
namespace Go.Proofs.YtbccikefccdekaaGreatDoor.Gr
open Go.RowKit
set_option linter.unusedVariables false
set_option maxRecDepth 100000

def ClPost {α : Type} (T : RowTy α) (w : World) (L : List α) (e : Ending) (w' : World) : Prop := ∃ a cap, e = .returned (.slice a L.length cap) ∧ RMid T w w' (.slice a L.length cap) L
set_option maxHeartbeats 4000000 in
theorem cloneN_any {w : World} {v : Value} {L : List Int} (h : RAt numTy w v L) (hL : L.length ≤ 1000000) :
    Calls Tryz.prog 54 #[v] w (ClPost numTy w L) := by
  have hr := h
  obtain ⟨ao, cap, rfl, hlc, hnone, _, _⟩ := h
  cases ao with
  | none =>
    have h0 : cap = 0 := hnone rfl
    subst h0
    have hl0 : L = [] := List.length_eq_zero_iff.1 (by omega)
    subst hl0
    have HF : Hid (ClPost numTy w [] (.returned (.slice none 0 0)) w) := hid ⟨none, 0, rfl, rMid_nil w⟩
    clear hr hlc hnone
    have hq : ∀ wx, Sem.run Tryz.prog (binOp .eql 22 (.slice none 0 0) (.slice none 0 0)) wx = .ok (.bool true) wx := fun wx => by rfl
    simp only [List.length_nil]
    go_enter Tryz.func54, Tryz.ntmps54
    go_wp2
    go_ret
    exact HF.out
  | some ad =>
    have hb : Below w.heap.size w (w.alloc (.cells #[] 3)) := (Below.refl _ _).alloc (Nat.le_refl _) _
    have hm : RMid numTy w (w.alloc (.cells #[] 3)) (.slice (some ⟨w.heap.size, 0, none⟩) 0 0) [] := rMid_empty hb (own.new w _ _) (Nat.le_refl _)
    obtain ⟨a1, c1, w1, e1, m1, _⟩ := hm.app numTy_ok 22 (hr.below hb) (by simp; omega)
    rw [show ([] : List Int).length + L.length = L.length by simp] at e1 m1
    rw [List.nil_append] at m1
    have HF : Hid (ClPost numTy w L (.returned (.slice a1 L.length c1)) w1) := hid ⟨a1, c1, rfl, m1⟩
    have E1 := hid e1
    have hq : ∀ wx, Sem.run Tryz.prog (binOp .eql 22 (.slice (some ad) L.length cap) (.slice none 0 0)) wx = .ok (.bool false) wx := fun wx => by rfl
    clear e1 m1 hm hb hr hnone
    generalize L.length = n at *
    go_enter Tryz.func54, Tryz.ntmps54
    go_wp2_with (at_builtin; refine wpList_append_at E1.out (by with_reducible rfl) rfl _ _ rfl rfl rfl rfl ?_)
    go_ret
    exact HF.out
theorem run_lohi {α : Type} {R : RowTy α} (o : R.Ok) (wx : World) (ao : Option Addr) (L cap i j : Nat) (hi : i ≤ j) (hj : j ≤ cap) : (Instr.slice R.st (.slice ao L cap) (some (.int .i64 (i : Int))) (some (.int .i64 (j : Int))) none).run Tryz.prog wx = .ok (R.from ao j cap i) wx := by
  obtain ⟨i0, hi0, _, hz1, _⟩ := o.parts
  have h := run_slice_lh (P := Tryz.prog) wx R.st ao L cap (by rw [o.elem]; exact o.under) .i64 .i64 (i : Int) (j : Int) (by omega) (by omega) (by omega)
  rw [h, o.elem]
  simp [RowTy.from, sizeOf, typeInfo, hi0, hz1, sliced, Result.andThen]
end Go.Proofs.YtbccikefccdekaaGreatDoor.Gr

