/-
  LAYER 9 (conf), THE PROGRAM: With.
-/
import Derived.Test.YtcjhiegiccekpaaCfD
namespace Go.Proofs.Ytcjhiegiccekpaa
open Go.RowKit Go.Shelf Go.Sort
set_option linter.unusedVariables false
set_option maxRecDepth 100000

/-- Where a number is put: ahead of the first that is greater, or at the end. -/
theorem with_place {l : List Int} {x : Int} (hx : x ∉ l) : (Lib.idxBy (fun _ y => decide (x < y)) l default = -1 ∧ withC l x = l.take l.length ++ x :: l.drop l.length) ∨ ∃ k : Nat, k < l.length ∧ Lib.idxBy (fun _ y => decide (x < y)) l default = (k : Int) ∧ withC l x = l.take k ++ x :: l.drop k := by
  rcases idxByFrom_spec (fun _ y => decide (x < y)) default l 0 with ⟨e1, hall⟩ | ⟨k, hk, e1, ht, hall⟩
  · refine .inl ⟨e1, with_find hx (Nat.le_refl _) (fun j hj => ?_) (fun h => absurd h (Nat.lt_irrefl _))⟩
    have := hall j hj
    rw [getElem!_pos l j hj] at this
    simpa using this
  · refine .inr ⟨k, hk, by rw [← Nat.zero_add k]; exact e1, with_find hx (by omega) (fun j hj => ?_) (fun h => ?_)⟩
    · have := hall j hj
      rw [getElem!_pos l j (by omega)] at this
      simpa using this
    · rw [getElem!_pos l k hk] at ht
      simpa using ht
set_option maxHeartbeats 8000000 in
theorem with_any {w : World} {v : Value} {l : List Int} (x : Int) (h : NumIn w v l) : Calls Try.prog 18 #[v, .int .i64 x] w (NumPost w (withC l x)) := by
  have hl := h.len
  have hb1 : Go.RowKit.Below w.heap.size w (w.alloc (.cells #[.int .i64 x] 3)) := (Below.refl _ _).alloc (Nat.le_refl _) _
  have ho := own.new w #[.int .i64 x] 3
  have hz : (w.alloc (.cells #[.int .i64 x] 3)).heap.size = w.heap.size + 1 := by simp
  have hcell : ∀ wx, Go.RowKit.Below (w.alloc (.cells #[.int .i64 x] 3)).heap.size (w.alloc (.cells #[.int .i64 x] 3)) wx → wx.cell? ⟨w.heap.size, 0, none⟩ = some (.int .i64 x) ∧ w.heap.size < wx.heap.size := fun wx hb =>
    ⟨(hb.cell (p := ⟨w.heap.size, 0, none⟩) (by rw [hz]; show w.heap.size < w.heap.size + 1; omega)).trans (by rw [ho.cell]; rfl), by have := hb.size; omega⟩
  have HCell := hid hcell
  have C1 := hid (cloneN_any (h.row.below hb1) (by omega))
  have C2 : Hid (∀ w2 a cap, RMid numTy (w.alloc (.cells #[.int .i64 x] 3)) w2 (.slice a l.length cap) l → Go.RowKit.Below (w.alloc (.cells #[.int .i64 x] 3)).heap.size (w.alloc (.cells #[.int .i64 x] 3)) w2 ∧ Hid (NumPost w l (.returned (.slice a l.length cap)) w2) ∧ Hid (Calls Try.prog 15 #[.slice a l.length cap, .int .i64 x] w2 fun e w' => e = .returned (.bool (hasC l x)) ∧ w' = w2) ∧ Hid (Calls Try.prog 33 #[.slice a l.length cap, .func (.func 34) #[] #[.pointer (some ⟨w.heap.size, 0, none⟩)]] w2 (QPost w2 (.int .i64 (Lib.idxBy (fun _ y => decide (x < y)) l default)))) ∧ Hid (∀ (i q : Nat), i ≤ l.length → withC l x = l.take i ++ x :: l.drop i → Calls Try.prog 35 #[.slice a l.length cap, .int .i64 (i : Int), .slice (some ⟨w2.heap.size, 0, none⟩) 1 1] ((w2.drewN q).alloc (.cells #[.int .i64 x] 3)) (NumPost w (withC l x)))) := hid (fun w2 a cap hm => by
    have hrow := hm.row.rAt
    refine ⟨hm.below, hid ⟨a, _, cap, rfl, rfl, hrow, hb1.trans (hm.below.mono hb1.size)⟩, hid (has_any x hrow (by omega)), hid (indexN_any (fun y => decide (x < y)) _ _ (enters_of Try.func34 (by kernel_rfl) rfl) hrow (by omega) (with1_pred x _ w2 (hcell w2 hm.below).2 (hcell w2 hm.below).1)), hid (fun i q hi hw => ?_)⟩
    have hbq : Go.RowKit.Below w2.heap.size w2 ((w2.drewN q).alloc (.cells #[.int .i64 x] 3)) := (drewN_below w2 q).alloc (Nat.le_refl _) _
    have hm2 := hm.later hbq
    refine (insertN_any x hm2 (by omega) hi (own.new (w2.drewN q) _ _) (fun e => ?_)).mono ?_
    · have := hm.row.lt _ e
      exact absurd this (Nat.lt_irrefl _)
    · intro e w' hcut
      rw [hw]
      exact cutN_num hb1 hcut)
  obtain ⟨ao, cap, rfl, -⟩ := nums_at h.row
  clear h ho hz hcell
  by_cases hx : x ∈ l
  · rw [with_in hx]
    have hh : hasC l x = true := decide_eq_true hx
    rw [hh] at C2
    clear hx hh
    go_enter Try.func18, Try.ntmps18
    go_wp2_with (first | (go_at_call 32; (with_reducible refine C1.out.mono ?_); rintro e w2 ⟨a2, cap2, rfl, hm⟩; obtain ⟨hb2, HF, D1, -, -⟩ := C2.out w2 a2 cap2 hm; obtain ⟨c0, -⟩ := HCell.out w2 hb2; clear hm hb2) | (go_at_call 15; (with_reducible refine D1.out.mono ?_); rintro e w2 ⟨rfl, rfl⟩))
    go_ret
    exact HF.out
  · have hh : hasC l x = false := decide_eq_false hx
    rw [hh] at C2
    rcases with_place hx with ⟨hi, hw⟩ | ⟨k, hk, hi, hw⟩
    · rw [hi] at C2
      have HW := hid hw
      clear hx hh hi hw
      go_enter Try.func18, Try.ntmps18
      go_wp2_with (first | (go_at_call 32; (with_reducible refine C1.out.mono ?_); rintro e w2 ⟨a2, cap2, rfl, hm⟩; obtain ⟨hb2, -, D1, D2, D3⟩ := C2.out w2 a2 cap2 hm; obtain ⟨c0, -⟩ := HCell.out w2 hb2; clear hm hb2) | (go_at_call 15; (with_reducible refine D1.out.mono ?_); rintro e w2 ⟨rfl, rfl⟩) | (go_at_call 33; (with_reducible refine D2.out.mono ?_); rintro e w4 ⟨rfl, q, rfl⟩; have c1 : (w2.drewN q).cell? ⟨w.heap.size, 0, none⟩ = some (.int .i64 x) := c0) | (go_at_call 35; (with_reducible refine (D3.out _ q (Nat.le_refl _) HW.out).mono ?_); intro e w5 hp; obtain ⟨a3, n3, c3, rfl, hq⟩ := hp; have HF := hid hq; clear hq))
      go_ret
      exact ⟨a3, n3, c3, rfl, HF.out⟩
    · rw [hi] at C2
      have HW := hid hw
      have HK := hid (Nat.le_of_lt hk)
      have hk0 : ¬ (k : Int) < 0 := by omega
      clear hx hh hi hw
      go_enter Try.func18, Try.ntmps18
      go_wp2_with (first | (go_at_call 32; (with_reducible refine C1.out.mono ?_); rintro e w2 ⟨a2, cap2, rfl, hm⟩; obtain ⟨hb2, -, D1, D2, D3⟩ := C2.out w2 a2 cap2 hm; obtain ⟨c0, -⟩ := HCell.out w2 hb2; clear hm hb2) | (go_at_call 15; (with_reducible refine D1.out.mono ?_); rintro e w2 ⟨rfl, rfl⟩) | (go_at_call 33; (with_reducible refine D2.out.mono ?_); rintro e w4 ⟨rfl, q, rfl⟩; have c1 : (w2.drewN q).cell? ⟨w.heap.size, 0, none⟩ = some (.int .i64 x) := c0) | (go_at_call 35; (with_reducible refine (D3.out _ q HK.out HW.out).mono ?_); intro e w5 hp; obtain ⟨a3, n3, c3, rfl, hq⟩ := hp; have HF := hid hq; clear hq))
      go_ret
      exact ⟨a3, n3, c3, rfl, HF.out⟩
end Go.Proofs.Ytcjhiegiccekpaa
