/-
  LAYER 9 (conf), THE DOCUMENT's ANSWER: Next, Without, With.
-/
import Derived.Test.YtcjhiegiccekpaaCfRefA
import Derived.Test.YtcjhiegiccekpaaGPut
import Derived.Deep.DeepCutAuto
import Derived.RegionTactic
namespace Go.Proofs.Ytcjhiegiccekpaa
open Go.RowKit
set_option linter.unusedVariables false
set_option maxRecDepth 100000

theorem right_len {l : List Int} (h : rightC l = true) : 3 ≤ l.length ∧ l.length ≤ 7 := by
  unfold rightC at h
  simp only [Bool.and_eq_true, decide_eq_true_eq] at h
  exact ⟨h.1.2, h.2⟩
set_option maxHeartbeats 8000000 in
theorem refNext_any {w : World} {v u : Value} {l m : List Int} (hv : RAt numTy w v l) (hu : RAt numTy w u m) (hl : l.length ≤ 100000) (hm : m.length ≤ 100000) :
    Calls Try.prog 14 #[v, u] w fun e w' => e = .returned (.bool (nextC l m)) ∧ Below w.heap.size w w' := by
  have HH := hid (fun wx (hb : Below w.heap.size w wx) x => refHas_any x (hu.below hb) (by omega))
  have HR1 := hid (refRight_any hv (by omega))
  have HR2 := hid (fun wx (hb : Below w.heap.size w wx) => refRight_any (hu.below hb) (by omega))
  obtain ⟨ao, cap, rfl, hat⟩ := nums_in hv
  obtain ⟨bo, cap2, rfl, -⟩ := nums_in hu
  have HAt := hid hat
  obtain ⟨b, hb⟩ : ∃ b, nextC l m = b := ⟨_, rfl⟩
  rw [hb]
  have HB := hid hb
  have hnx : nextC l m = (rightC l && rightC m && ((decide (m.length = l.length + 1) && decide (comC l m = l.length)) || (decide (m.length + 1 = l.length) && decide (comC l m = m.length)))) := rfl
  have HX := hid hnx
  have HL1 := hid (right_len (l := l))
  have HL2 := hid (right_len (l := m))
  clear hat hv hb hu hnx
  obtain ⟨n, hn⟩ : ∃ n, l.length = n := ⟨_, rfl⟩
  rw [hn] at HAt hl HX HL1 HR1
  rw [hn]
  have HN := hid hn
  obtain ⟨n2, hn2⟩ : ∃ n, m.length = n := ⟨_, rfl⟩
  rw [hn2] at HH HR2 HX HL2 ⊢
  obtain ⟨c1, hc1⟩ : ∃ t, rightC l = t := ⟨_, rfl⟩
  obtain ⟨c2, hc2⟩ : ∃ t, rightC m = t := ⟨_, rfl⟩
  rw [hc1] at HR1 HX HL1
  rw [hc2] at HR2 HX HL2
  clear hn hn2 hm hc1 hc2
  by_cases hcc : c1 = true ∧ c2 = true
  · obtain ⟨rfl, rfl⟩ := hcc
    obtain ⟨l1, l2⟩ := HL1.out rfl
    obtain ⟨l3, l4⟩ := HL2.out rfl
    clear HL1 HL2 hl
    go_enter Try.func14, Try.ntmps14
    go_wp2_with (first
      | (go_at_call 12; (with_reducible refine HR1.out.mono ?_); rintro e w1 ⟨rfl, hb1⟩)
      | (go_at_call 12; (with_reducible refine (HR2.out _ hb1).mono ?_); rintro e w2 ⟨rfl, hb2⟩; have hb12 := hb1.trans (hb2.mono hb1.size)))
    clear HR1 HR2
    go_loopw [7, 8] (ComRel l m w) (fun _ i _ => n - (intOf i).toNat)
    case atStart => exact ⟨0, 0, Nat.zero_le _, rfl, rfl, hb12, Nat.le_refl _, hid (by unfold comC; simp)⟩
    case round =>
      clear hb1 hb2 hb12
      obtain ⟨k, c, hk, rfl, rfl, hbw, hck, hq⟩ := hrel
      by_cases hkn : k < n
      · have hkI : (k : Int) < (n : Int) := by omega
        obtain ⟨sb, so, rfl, c0⟩ := HAt.out _ hbw k hkn
        have hkl : k < l.length := by rw [HN.out]; exact hkn
        have hcm := com_more (m := m) hkl
        have C1 := hid (HH.out wr hbw (l.getD k 0))
        have HKn : Hid (k + 1 ≤ l.length) := hid hkl
        have hc := hq.out
        have HBw := hid hbw
        generalize l.getD k 0 = y at *
        obtain ⟨t, ht⟩ : ∃ t, hasC m y = t := ⟨_, rfl⟩
        rw [ht] at C1 hcm
        clear hk ht hbw hkl
        cases t with
        | true =>
          have HC : Hid (c + 1 = comC (l.take (k + 1)) m) := hid (by rw [hcm, ← hc]; rfl)
          clear hcm hc
          go_wp2_with (go_at_call 16; (with_reducible refine C1.out.mono ?_); rintro e w1 ⟨rfl, rfl⟩)
          go_roundw
          case rel => exact ⟨k + 1, c + 1, HKn.out, by go_num, by go_num, HBw.out, by omega, HC⟩
          case measure => simp [intOf]; omega
        | false =>
          have HC : Hid (c = comC (l.take (k + 1)) m) := hid (by rw [hcm, ← hc]; rfl)
          clear hcm hc
          go_wp2_with (go_at_call 16; (with_reducible refine C1.out.mono ?_); rintro e w1 ⟨rfl, rfl⟩)
          go_roundw
          case rel => exact ⟨k + 1, c, HKn.out, by go_num, by go_num, HBw.out, by omega, HC⟩
          case measure => simp [intOf]; omega
      · have hkn2 : k = l.length := by have := HN.out; omega
        have hkI : (n : Int) ≤ (k : Int) := by omega
        have hc := hq.out
        rw [hkn2, List.take_length] at hc
        have HBw := hid hbw
        have hkb : k ≤ n := by have := HN.out; omega
        have hbb := HB.out.symm.trans HX.out
        rw [← hc] at hbb
        clear hkn2 hk hc hbw
        simp only [Bool.true_and] at hbb
        by_cases hA : n2 = n + 1
        · have q1 : ((n2 : Int) == (n : Int) + 1) = true := by rw [hA]; simp
          rw [decide_eq_true hA, decide_eq_false (by omega : ¬ n2 + 1 = n)] at hbb
          have q2 : ((n2 : Int) == (n : Int) - 1) = false := beq_false_of_ne (by omega)
          by_cases hC : c = n
          · have q3 : ((c : Int) == (n : Int)) = true := by rw [hC]; simp
            obtain rfl : b = true := hbb.trans (by simp [hC])
            clear hbb hA hC
            go_wp2
            go_ret
            exact ⟨by first | rfl | simp [*], HBw.out⟩
          · have q3 : ((c : Int) == (n : Int)) = false := beq_false_of_ne (by omega)
            obtain rfl : b = false := hbb.trans (by simp [hC])
            clear hbb hA hC
            go_wp2
            go_ret
            exact ⟨by first | rfl | simp [*], HBw.out⟩
        · have q1 : ((n2 : Int) == (n : Int) + 1) = false := beq_false_of_ne (by omega)
          rw [decide_eq_false hA] at hbb
          by_cases hB2 : n2 + 1 = n
          · have q2 : ((n2 : Int) == (n : Int) - 1) = true := by rw [show (n : Int) - 1 = (n2 : Int) by omega]; simp
            rw [decide_eq_true hB2] at hbb
            by_cases hC : c = n2
            · have q3 : ((c : Int) == (n2 : Int)) = true := by rw [hC]; simp
              obtain rfl : b = true := hbb.trans (by simp [hC])
              clear hbb hA hB2 hC
              go_wp2
              go_ret
              exact ⟨by first | rfl | simp [*], HBw.out⟩
            · have q3 : ((c : Int) == (n2 : Int)) = false := beq_false_of_ne (by omega)
              obtain rfl : b = false := hbb.trans (by simp [hC])
              clear hbb hA hB2 hC
              go_wp2
              go_ret
              exact ⟨by first | rfl | simp [*], HBw.out⟩
          · have q2 : ((n2 : Int) == (n : Int) - 1) = false := beq_false_of_ne (by omega)
            rw [decide_eq_false hB2] at hbb
            obtain rfl : b = false := hbb.trans (by simp)
            clear hbb hA hB2
            go_wp2
            go_ret
            exact ⟨by first | rfl | simp [*], HBw.out⟩
  · have hb0 : b = false := HB.out.symm.trans (HX.out.trans (by
      cases c1 <;> cases c2 <;> first | rfl | exact absurd ⟨rfl, rfl⟩ hcc))
    subst hb0
    clear HX HB HL1 HL2
    cases c1 with
    | false =>
      clear hcc
      go_enter Try.func14, Try.ntmps14
      go_wp2_with (first
        | (go_at_call 12; (with_reducible refine HR1.out.mono ?_); rintro e w1 ⟨rfl, hb1⟩)
        | (go_at_call 12; (with_reducible refine (HR2.out _ hb1).mono ?_); rintro e w2 ⟨rfl, hb2⟩; have hb12 := hb1.trans (hb2.mono hb1.size)))
      go_ret
      exact ⟨rfl, hb12⟩
    | true =>
      cases c2 with
      | true => exact absurd ⟨rfl, rfl⟩ hcc
      | false =>
        clear hcc
        go_enter Try.func14, Try.ntmps14
        go_wp2_with (first
          | (go_at_call 12; (with_reducible refine HR1.out.mono ?_); rintro e w1 ⟨rfl, hb1⟩)
          | (go_at_call 12; (with_reducible refine (HR2.out _ hb1).mono ?_); rintro e w2 ⟨rfl, hb2⟩; have hb12 := hb1.trans (hb2.mono hb1.size)))
        go_ret
        exact ⟨rfl, hb12⟩
theorem without_more {l : List Int} {k : Nat} (x : Int) (hk : k < l.length) : withoutC (l.take (k + 1)) x = withoutC (l.take k) x ++ (if l.getD k 0 = x then [] else [l.getD k 0]) := by
  unfold withoutC
  rw [take_more hk, List.filter_append, List.filter_cons, List.filter_nil]
  by_cases h : l.getD k 0 = x
  · rw [if_pos h, if_neg (by simp only [decide_eq_true_eq]; exact fun e => e h)]
  · rw [if_neg h, if_pos (by simpa using h)]
theorem without_len (l : List Int) (x : Int) : (withoutC l x).length ≤ l.length := List.length_filter_le _ _
def WoRel (l : List Int) (x : Int) (w : World) (u v : Value) (wr : World) : Prop := ∃ (k n : Nat) (a : Option Addr) (c : Nat), k ≤ l.length ∧ u = .slice a n c ∧ v = .int .i64 (k : Int) ∧ Hid (RMid numTy w wr (.slice a n c) (withoutC (l.take k) x) ∧ n = (withoutC (l.take k) x).length)
def NumPost (w : World) (L : List Int) (e : Ending) (w' : World) : Prop := ∃ a n c, e = .returned (.slice a n c) ∧ n = L.length ∧ RAt numTy w' (.slice a n c) L ∧ Below w.heap.size w w'
set_option maxHeartbeats 4000000 in
theorem refWithout_any {w : World} {v : Value} {l : List Int} (x : Int) (hv : RAt numTy w v l) (hl : l.length ≤ 100000) :
    Calls Try.prog 21 #[v, .int .i64 x] w (NumPost w (withoutC l x)) := by
  obtain ⟨ao, cap, rfl, hat⟩ := nums_in hv
  have HAt := hid hat
  clear hat hv
  obtain ⟨n, hn⟩ : ∃ n, l.length = n := ⟨_, rfl⟩
  rw [hn] at HAt hl
  rw [hn]
  have HN := hid hn
  clear hn
  go_enter Try.func21, Try.ntmps21
  go_wp2
  go_loopw [5, 6] (WoRel l x w) (fun _ i _ => n - (intOf i).toNat)
  case atStart => exact ⟨0, 0, none, 0, Nat.zero_le _, rfl, rfl, hid ⟨by rw [List.take_zero]; exact rMid_nil w, by simp [withoutC]⟩⟩
  case round =>
    obtain ⟨k, n5, a, c, hk, rfl, rfl, hq⟩ := hrel
    by_cases hkn : k < n
    · have hkI : (k : Int) < (n : Int) := by omega
      obtain ⟨sb, so, rfl, c0⟩ := HAt.out _ hq.out.1.below k hkn
      have hkl : k < l.length := by rw [HN.out]; exact hkn
      have hwm := without_more x hkl
      have HKn : Hid (k + 1 ≤ l.length) := hid hkl
      have hnl := without_len (l.take k) x
      rw [List.length_take] at hnl
      clear hk
      by_cases hyx : l.getD k 0 = x
      · rw [if_pos hyx, List.append_nil] at hwm
        generalize l.getD k 0 = y at *
        have q1 : (y == x) = true := by rw [hyx]; exact beq_self_eq_true _
        have q2 : (y != x) = false := by rw [hyx]; exact bne_self_eq_false _
        have HM : Hid (RMid numTy w wr (.slice a n5 c) (withoutC (l.take (k + 1)) x) ∧ n5 = (withoutC (l.take (k + 1)) x).length) := hid (by rw [hwm]; exact hq.out)
        clear hwm hyx hkl hnl
        go_wp2
        go_roundw
        case rel => exact ⟨k + 1, n5, a, c, HKn.out, rfl, by go_num, HM⟩
        case measure => simp [intOf]; omega
      · rw [if_neg hyx] at hwm
        generalize l.getD k 0 = y at *
        have q1 : (y == x) = false := beq_false_of_ne hyx
        have q2 : (y != x) = true := by simp [bne, q1]
        obtain ⟨a5, c5, w5, hrun, h5⟩ := hq.out.1.push numTy_ok 22 3 y #[.int .i64 y] rfl (by have := HN.out; omega)
        rw [← hq.out.2] at hrun h5
        rw [← hwm] at h5
        have HRun : Hid ((Builtin.append_ #[22, 22] 22 #[.slice a n5 c, .slice (some ⟨wr.heap.size, 0, none⟩) 1 1]).run Try.prog (wr.alloc (.cells #[.int .i64 y] 3)) = .ok (.slice a5 (n5 + 1) c5) w5) := hid hrun
        have HM : Hid (RMid numTy w w5 (.slice a5 (n5 + 1) c5) (withoutC (l.take (k + 1)) x) ∧ n5 + 1 = (withoutC (l.take (k + 1)) x).length) := hid ⟨h5, by rw [hwm, List.length_append, ← hq.out.2]; rfl⟩
        clear hwm hyx hkl hnl hrun h5
        go_wp2_with (at_builtin; refine wpList_append_at HRun.out (by with_reducible rfl) rfl _ _ rfl rfl rfl rfl ?_)
        go_roundw
        case rel => exact ⟨k + 1, n5 + 1, a5, c5, HKn.out, rfl, by go_num, HM⟩
        case measure => simp [intOf]; omega
    · have hkn2 : k = l.length := by have := HN.out; omega
      have hkI : (n : Int) ≤ (k : Int) := by omega
      have hqq := hq.out
      rw [hkn2, List.take_length] at hqq
      have HQ := hid hqq
      clear hkn2 hk hqq
      go_wp2
      go_ret
      exact ⟨a, n5, c, rfl, HQ.out.2, HQ.out.1.row.rAt, HQ.out.1.below⟩
end Go.Proofs.Ytcjhiegiccekpaa
