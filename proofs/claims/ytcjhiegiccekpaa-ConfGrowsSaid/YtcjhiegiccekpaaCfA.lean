/-
  LAYER 9 (conf), THE PROGRAM: sorted, rising, common, Right, Most, Agreed, Next.
-/
import Derived.Test.YtcjhiegiccekpaaCfProg
import Derived.Test.YtcjhiegiccekpaaCfMath2
import Derived.Test.YtcjhiegiccekpaaGNumSort
namespace Go.Proofs.Ytcjhiegiccekpaa
open Go.RowKit
set_option linter.unusedVariables false
set_option maxRecDepth 100000

def SrtPost (w : World) (L : List Int) (e : Ending) (w' : World) : Prop := ∃ a cap, e = .returned (.slice a L.length cap) ∧ RMid numTy w w' (.slice a L.length cap) (srtC L)
set_option maxHeartbeats 4000000 in
theorem sorted_any {w : World} {v : Value} {L : List Int} (h : RAt numTy w v L) (hL : L.length ≤ 1000000) :
    Calls Try.prog 39 #[v] w (SrtPost w L) := by
  have C1 := hid (cloneN_any h hL)
  have C2 : Hid (∀ w1 a cap, RMid numTy w w1 (.slice a L.length cap) L → Calls Try.prog 46 #[.slice a L.length cap] w1 fun e w' => e = .returned (.tuple #[]) ∧ Hid (SrtPost w L (.returned (.slice a L.length cap)) w')) := hid (fun w1 a cap hm => (sortN_any hm hL).mono (fun e w' ⟨he, hr⟩ => ⟨he, hid ⟨a, cap, rfl, hr⟩⟩))
  obtain ⟨a0, c0, rfl, -⟩ := nums_at h
  clear h
  go_enter Try.func39, Try.ntmps39
  go_wp2_with (first | (go_at_call 32; (with_reducible refine C1.out.mono ?_); rintro e w1 ⟨a, cap, rfl, hm⟩; have HM := hid hm; clear hm; have C3 := hid (C2.out w1 a cap HM.out)) | (go_at_call 46; (with_reducible refine C3.out.mono ?_); rintro e w2 ⟨rfl, HF⟩))
  go_ret
  exact HF.out
set_option maxHeartbeats 4000000 in
theorem rising_any {w : World} {v : Value} {L : List Int} (h : RAt numTy w v L) (hL : L.length ≤ 100000) :
    Calls Try.prog 28 #[v] w (BoolPost9 w (decide (Inc L))) := by
  have C1 := hid (sorted_any h (by omega))
  have hs := srt_len L
  have hc := Lib.compact_length_le (srtC L)
  rw [← rising_is]
  have C2 : Hid (∀ w1 a cap, RMid numTy w w1 (.slice a L.length cap) (srtC L) → Calls Try.prog 41 #[.slice a L.length cap] w1 (CutN w (Lib.compact (srtC L)))) := hid (fun w1 a cap hm => compactN_any hm (by omega))
  have C3 : Hid (∀ w1 a cap, RMid numTy w w1 (.slice a (Lib.compact (srtC L)).length cap) (Lib.compact (srtC L)) → Calls Try.prog 40 #[v, .slice a (Lib.compact (srtC L)).length cap] w1 fun e w' => e = .returned (.bool (L == Lib.compact (srtC L))) ∧ Below w.heap.size w w') := hid (fun w1 a cap hm => (equalN_any (h.below hm.below) hm.row.rAt (by omega) (by omega)).mono (fun e w' h => ⟨h.below.1, hm.below.trans (h.below.2.mono hm.below.size)⟩))
  obtain ⟨a0, c0, rfl, -⟩ := nums_at h
  clear h hs hc
  generalize (L == Lib.compact (srtC L)) = b at *
  go_enter Try.func28, Try.ntmps28
  go_wp2_with (first | (go_at_call 39; (with_reducible refine C1.out.mono ?_); rintro e w1 ⟨a, cap, rfl, hm⟩; have C4 := hid (C2.out w1 a cap hm); clear hm) | (go_at_call 41; (with_reducible refine C4.out.mono ?_); rintro e w2 ⟨a2, cap2, rfl, hm⟩; have C5 := hid (C3.out w2 a2 cap2 hm); clear hm) | (go_at_call 40; (with_reducible refine C5.out.mono ?_); rintro e w3 ⟨rfl, hb⟩))
  go_ret
  exact ⟨rfl, hb⟩
/-- Counting those of l that m has: c of the first k. -/
def CmRel (l m : List Int) (w : World) (u v : Value) (wr : World) : Prop := ∃ (k c : Nat), k ≤ l.length ∧ u = .int .i64 (c : Int) ∧ v = .int .i64 (k : Int) ∧ Below w.heap.size w wr ∧ c ≤ k ∧ Hid (c = comC (l.take k) m)
set_option maxHeartbeats 8000000 in
theorem common_any {w : World} {v u : Value} {l m : List Int} (hv : RAt numTy w v l) (hu : RAt numTy w u m) (hl : l.length ≤ 100000) (hy : m.length ≤ 100000) :
    Calls Try.prog 38 #[v, u] w fun e w' => e = .returned (.int .i64 (comC l m : Nat)) ∧ Below w.heap.size w w' := by
  have C1 := hid (sorted_any hu (by omega))
  have hs := srt_len m
  have C2 : Hid (∀ w1 a cap, RMid numTy w w1 (.slice a m.length cap) (srtC m) → Below w.heap.size w w1 ∧ ∀ wx, Below w1.heap.size w1 wx → ∀ x, Calls Try.prog 45 #[.slice a m.length cap, .int .i64 x] wx fun e w' => (∃ j : Int, e = .returned (.tuple #[.int .i64 j, .bool (hasC m x)])) ∧ Below wx.heap.size wx w') := hid (fun w1 a cap hm => ⟨hm.below, fun wx hb x => (searchN_any x (hm.row.rAt.below hb) (by omega) (srt_sorted m)).mono (fun e w' h => ⟨⟨_, by rw [← srt_contains]; exact h.below.1⟩, h.below.2⟩)⟩)
  obtain ⟨ao, cap, rfl, hat⟩ := nums_in hv
  obtain ⟨bo, cap2, rfl, -⟩ := nums_in hu
  have HAt := hid hat
  obtain ⟨C, hC⟩ : ∃ C : Nat, comC l m = C := ⟨_, rfl⟩
  rw [hC]
  have HC := hid hC
  clear hat hv hu hC hs
  obtain ⟨n, hn⟩ : ∃ n, l.length = n := ⟨_, rfl⟩
  rw [hn] at HAt hl
  rw [hn]
  have HN := hid hn
  clear hn
  go_enter Try.func38, Try.ntmps38
  go_wp2_with (go_at_call 39; (with_reducible refine C1.out.mono ?_); rintro e w1 ⟨a1, cap1, rfl, hm⟩; obtain ⟨hb1, hsr⟩ := C2.out w1 a1 cap1 hm; have HB1 := hid hb1; have HSr := hid hsr; clear hm hb1 hsr)
  go_loopw [5, 14] (CmRel l m w1) (fun _ i _ => n - (intOf i).toNat)
  case atStart => exact ⟨0, 0, Nat.zero_le _, rfl, rfl, Below.refl _ _, Nat.le_refl _, hid (by unfold comC; simp)⟩
  case round =>
    obtain ⟨k, c, hk, rfl, rfl, hbw, hck, hq⟩ := hrel
    by_cases hkn : k < n
    · have hkI : (k : Int) < (n : Int) := by omega
      obtain ⟨sb, so, rfl, c0⟩ := HAt.out _ (HB1.out.trans (hbw.mono HB1.out.size)) k hkn
      have hkl : k < l.length := by rw [HN.out]; exact hkn
      have hcm := com_more (m := m) hkl
      have D1 := hid (HSr.out wr hbw (l.getD k 0))
      have HKn : Hid (k + 1 ≤ l.length) := hid hkl
      have hc := hq.out
      have HBw := hid hbw
      generalize l.getD k 0 = y at *
      obtain ⟨t, ht⟩ : ∃ t, hasC m y = t := ⟨_, rfl⟩
      rw [ht] at D1 hcm
      clear hk ht hbw hkl
      cases t with
      | true =>
        have HCc : Hid (c + 1 = comC (l.take (k + 1)) m) := hid (by rw [hcm, ← hc]; rfl)
        clear hcm hc
        go_wp2_with (go_at_call 45; (with_reducible refine D1.out.mono ?_); rintro e w2 ⟨⟨j, rfl⟩, hb2⟩; have HB2 := hid hb2; clear hb2)
        go_roundw
        case rel => exact ⟨k + 1, c + 1, HKn.out, by go_num, by go_num, HBw.out.trans (HB2.out.mono HBw.out.size), by omega, HCc⟩
        case measure => simp [intOf]; omega
      | false =>
        have HCc : Hid (c = comC (l.take (k + 1)) m) := hid (by rw [hcm, ← hc]; rfl)
        clear hcm hc
        go_wp2_with (go_at_call 45; (with_reducible refine D1.out.mono ?_); rintro e w2 ⟨⟨j, rfl⟩, hb2⟩; have HB2 := hid hb2; clear hb2)
        go_roundw
        case rel => exact ⟨k + 1, c, HKn.out, by go_num, by go_num, HBw.out.trans (HB2.out.mono HBw.out.size), by omega, HCc⟩
        case measure => simp [intOf]; omega
    · have hkn2 : k = l.length := by have := HN.out; omega
      have hkI : (n : Int) ≤ (k : Int) := by omega
      have hc := hq.out
      rw [hkn2, List.take_length, HC.out] at hc
      subst hc
      have HBw := hid (HB1.out.trans (hbw.mono HB1.out.size))
      have hkb : k ≤ n := by have := HN.out; omega
      clear hkn2 hk hbw
      go_wp2
      go_ret
      exact ⟨rfl, HBw.out⟩
end Go.Proofs.Ytcjhiegiccekpaa
