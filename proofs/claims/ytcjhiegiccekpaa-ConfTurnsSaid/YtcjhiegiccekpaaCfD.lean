/-
  LAYER 9 (conf), THE PROGRAM: With, Without.
-/
import Derived.Test.YtcjhiegiccekpaaCfC
import Derived.Test.YtcjhiegiccekpaaGNumIns
namespace Go.Proofs.Ytcjhiegiccekpaa
open Go.RowKit Go.Shelf Go.Sort
set_option linter.unusedVariables false
set_option maxRecDepth 100000

theorem with1_gives (x y : Int) (B : Nat) (W : World) (hc : W.cell? ⟨B, 0, none⟩ = some (.int .i64 x)) :
    FnGives Try.prog 34 #[.pointer (some ⟨B, 0, none⟩)] #[.int .i64 y] (.bool (decide (x < y))) W := by
  show Calls Try.prog 34 #[.int .i64 y, .pointer (some ⟨B, 0, none⟩)] W _
  go_enter Try.func34, Try.ntmps34
  go_wp2
  all_goals (go_ret; exact ⟨by simp_all, 0, rfl⟩)
theorem with1_pred (x : Int) (B : Nat) (w : World) (hB : B < w.heap.size) (hc : w.cell? ⟨B, 0, none⟩ = some (.int .i64 x)) :
    PredAt Try.prog 34 #[.pointer (some ⟨B, 0, none⟩)] (Value.int .i64) (fun y => decide (x < y)) w :=
  fun W y hb => with1_gives x y B W ((hb.cell (p := ⟨B, 0, none⟩) hB).trans hc)
theorem without1_gives (x y : Int) (B : Nat) (W : World) (hc : W.cell? ⟨B, 0, none⟩ = some (.int .i64 x)) :
    FnGives Try.prog 37 #[.pointer (some ⟨B, 0, none⟩)] #[.int .i64 y] (.bool (decide (y = x))) W := by
  show Calls Try.prog 37 #[.int .i64 y, .pointer (some ⟨B, 0, none⟩)] W _
  by_cases h : y = x
  · subst h
    rw [decide_eq_true rfl]
    have hq : (y == y) = true := beq_self_eq_true _
    go_enter Try.func37, Try.ntmps37
    go_wp2
    go_ret
    exact ⟨rfl, 0, rfl⟩
  · rw [decide_eq_false h]
    have hq : (y == x) = false := beq_false_of_ne h
    clear h
    go_enter Try.func37, Try.ntmps37
    go_wp2
    go_ret
    exact ⟨rfl, 0, rfl⟩
theorem without1_pred (x : Int) (B : Nat) (w : World) (hB : B < w.heap.size) (hc : w.cell? ⟨B, 0, none⟩ = some (.int .i64 x)) :
    PredAt Try.prog 37 #[.pointer (some ⟨B, 0, none⟩)] (Value.int .i64) (fun y => decide (y = x)) w :=
  fun W y hb => without1_gives x y B W ((hb.cell (p := ⟨B, 0, none⟩) hB).trans hc)
theorem without1_over (x : Int) (B blk size : Nat) (w : World) (hB : B < w.heap.size) (hne : B ≠ blk) (hc : w.cell? ⟨B, 0, none⟩ = some (.int .i64 x)) :
    PredOver Try.prog 37 #[.pointer (some ⟨B, 0, none⟩)] (Value.int .i64) (fun y => decide (y = x)) blk 0 size w :=
  fun n os dk y _ => without1_gives x y B _ (by
    unfold sortWorld
    rw [cell?_grow _ _ _ (by show B < (putRow _ _ _ _ _).heap.size; rw [size_putRow]; exact hB), cell?_putRow_other _ _ blk 0 _ _ (Or.inl hne)]
    exact hc)
theorem without_is (l : List Int) (x : Int) : (l.filter fun y => !decide (y = x)) = withoutC l x := by
  unfold withoutC
  congr 1
  funext y
  rw [← decide_not]
theorem cutN_num {w0 w : World} {K : List Int} {e : Ending} {w' : World} (hb : Go.RowKit.Below w0.heap.size w0 w) (h : CutN w K e w') : NumPost w0 K e w' := by
  obtain ⟨a, cap, he, hm⟩ := h
  exact ⟨a, _, cap, he, rfl, hm.row.rAt, hb.trans (hm.below.mono hb.size)⟩
set_option maxHeartbeats 4000000 in
theorem without_any {w : World} {v : Value} {l : List Int} (x : Int) (h : NumIn w v l) : Calls Try.prog 20 #[v, .int .i64 x] w (NumPost w (withoutC l x)) := by
  have hl := h.len
  have hb1 : Go.RowKit.Below w.heap.size w (w.alloc (.cells #[.int .i64 x] 3)) := (Below.refl _ _).alloc (Nat.le_refl _) _
  have ho := own.new w #[.int .i64 x] 3
  have hz : (w.alloc (.cells #[.int .i64 x] 3)).heap.size = w.heap.size + 1 := by simp
  have C1 := hid (cloneN_any (h.row.below hb1) (by omega))
  have C2 : Hid (∀ w2 a cap, RMid numTy (w.alloc (.cells #[.int .i64 x] 3)) w2 (.slice a l.length cap) l → Calls Try.prog 36 #[.slice a l.length cap, .func (.func 37) #[] #[.pointer (some ⟨w.heap.size, 0, none⟩)]] w2 (NumPost w (withoutC l x))) := hid (fun w2 a cap hm => by
    have hc : w2.cell? ⟨w.heap.size, 0, none⟩ = some (.int .i64 x) := (hm.below.cell (p := ⟨w.heap.size, 0, none⟩) (by rw [hz]; show w.heap.size < w.heap.size + 1; omega)).trans (by rw [ho.cell]; rfl)
    have hB : w.heap.size < w2.heap.size := by have := hm.below.size; omega
    refine (deleteN_any (fun y => decide (y = x)) 37 #[.pointer (some ⟨w.heap.size, 0, none⟩)] (enters_of Try.func37 (by kernel_rfl) rfl) hm (by omega) (without1_pred x w.heap.size w2 hB hc) (fun g hg _ _ _ => without1_over x w.heap.size g l.length w2 hB (by omega) hc)).mono ?_
    intro e w' hcut
    rw [without_is] at hcut
    exact cutN_num hb1 hcut)
  obtain ⟨ao, cap, rfl, -⟩ := nums_at h.row
  clear h ho hz
  go_enter Try.func20, Try.ntmps20
  go_wp2_with (first | (go_at_call 32; (with_reducible refine C1.out.mono ?_); rintro e w2 ⟨a2, cap2, rfl, hm⟩; have C3 := hid (C2.out w2 a2 cap2 hm); clear hm) | (go_at_call 36; (with_reducible refine C3.out.mono ?_); intro e w3 hp; obtain ⟨a3, n3, c3, rfl, hq⟩ := hp; have HF := hid hq; clear hq))
  go_ret
  exact ⟨a3, n3, c3, rfl, HF.out⟩
end Go.Proofs.Ytcjhiegiccekpaa
