/-
  LAYER 9 (conf), THE DOCUMENT's ANSWER: Right, Has, Most, Next.
-/
import Derived.Test.YtcjhiegiccekpaaCfMath
import Derived.Test.YtcjhiegiccekpaaGRis
import Derived.Test.YtcjhiegiccekpaaGInts
import Derived.BigQuiet
namespace Go.Proofs.Ytcjhiegiccekpaa
open Go.RowKit
set_option linter.unusedVariables false
set_option maxRecDepth 100000

/-- A row of ints as the walks read it. -/
theorem nums_in {w : World} {v : Value} {xs : List Int} (hv : RAt numTy w v xs) : ∃ ao cap, v = .slice ao xs.length cap ∧ ∀ wx, Below w.heap.size w wx → ∀ k, k < xs.length → ∃ sb so, ao = some ⟨sb, so, none⟩ ∧ wx.cell? ⟨sb, so + k, none⟩ = some (.int .i64 (xs.getD k 0)) := by
  obtain ⟨ao, cap, rfl, hat⟩ := nums_at hv
  exact ⟨ao, cap, rfl, fun wx hb k hk => by
    obtain ⟨sb, so, e, hlt, hc⟩ := hat k hk
    exact ⟨sb, so, e, (hb.cell (p := ⟨sb, so + k, none⟩) hlt).trans hc⟩⟩
theorem take_more {l : List Int} {k : Nat} (hk : k < l.length) : l.take (k + 1) = l.take k ++ [l.getD k 0] := by
  rw [List.take_add_one, List.getElem?_eq_getElem hk]
  simp [List.getD, hk]
theorem getD_mem {l : List Int} {k : Nat} (hk : k < l.length) : l.getD k 0 ∈ l := by
  simp [List.getD, hk]
def HasRel (l : List Int) (x : Int) (w : World) (u : Value) (wr : World) : Prop := ∃ k : Nat, k ≤ l.length ∧ u = .int .i64 (k : Int) ∧ wr = w ∧ Hid (hasC (l.take k) x = false)
set_option maxHeartbeats 4000000 in
theorem refHas_any {w : World} {v : Value} {l : List Int} (x : Int) (hv : RAt numTy w v l) (hl : l.length ≤ 1000000) :
    Calls Try.prog 16 #[v, .int .i64 x] w fun e w' => e = .returned (.bool (hasC l x)) ∧ w' = w := by
  obtain ⟨ao, cap, rfl, hat⟩ := nums_in hv
  have HAt := hid (hat w (Below.refl _ _))
  obtain ⟨b, hb⟩ : ∃ b, hasC l x = b := ⟨_, rfl⟩
  rw [hb]
  have HB := hid hb
  clear hat hv hb
  obtain ⟨n, hn⟩ : ∃ n, l.length = n := ⟨_, rfl⟩
  rw [hn] at HAt hl
  rw [hn]
  have HN := hid hn
  clear hn
  go_enter Try.func16, Try.ntmps16
  go_wp2
  go_loopw [5] (HasRel l x w) (fun i _ => n - (intOf i).toNat)
  case atStart => exact ⟨0, Nat.zero_le _, rfl, rfl, hid (by unfold hasC; simp)⟩
  case round =>
    obtain ⟨k, hk, rfl, rfl, hq⟩ := hrel
    by_cases hkn : k < n
    · have hkI : (k : Int) < (n : Int) := by omega
      obtain ⟨sb, so, rfl, c0⟩ := HAt.out k hkn
      have hkl : k < l.length := by rw [HN.out]; exact hkn
      have hm := getD_mem hkl
      have ht := take_more hkl
      obtain ⟨y, hy⟩ : ∃ y, l.getD k 0 = y := ⟨_, rfl⟩
      rw [hy] at c0 hm ht
      have HKn : Hid (k + 1 ≤ l.length) := hid hkl
      clear hk
      by_cases hyx : y = x
      · have q1 : (y == x) = true := by rw [hyx]; exact beq_self_eq_true _
        obtain rfl : b = true := HB.out.symm.trans (by unfold hasC; rw [← hyx]; exact decide_eq_true hm)
        clear hm ht hy hyx hkl
        go_wp2
        go_ret
        exact ⟨rfl, rfl⟩
      · have q1 : (y == x) = false := beq_false_of_ne hyx
        have HX : Hid (hasC (l.take (k + 1)) x = false) := hid (by
          have := hq.out
          unfold hasC at *
          rw [ht]
          simp only [decide_eq_false_iff_not, List.mem_append, List.mem_singleton] at *
          exact fun e => by
            rcases e with e | e
            · exact this e
            · exact hyx e.symm)
        clear hm ht hy hyx hkl
        go_wp2
        go_roundw
        case rel => exact ⟨k + 1, HKn.out, by go_num, rfl, HX⟩
        case measure => simp [intOf]; omega
    · have hkn2 : k = n := by have := HN.out; omega
      have hkI : (n : Int) ≤ (k : Int) := by omega
      obtain rfl : b = false := HB.out.symm.trans (by have := hq.out; rw [List.take_of_length_le (by have := HN.out; omega)] at this; exact this)
      clear hkn2 hk
      go_wp2
      go_ret
      exact ⟨rfl, rfl⟩
theorem rightC_is (l : List Int) : rightC l = (risingF 0 l && decide (3 ≤ l.length) && decide (l.length ≤ 7)) := rfl
set_option maxHeartbeats 4000000 in
theorem refRight_any {w : World} {v : Value} {l : List Int} (hv : RAt numTy w v l) (hl : l.length ≤ 1000000) :
    Calls Try.prog 12 #[v] w fun e w' => e = .returned (.bool (rightC l)) ∧ Below w.heap.size w w' := by
  have HR := hid (refRising_any hv hl)
  obtain ⟨ao, cap, rfl, -⟩ := nums_in hv
  rw [rightC_is]
  obtain ⟨b, hb⟩ : ∃ b, risingF 0 l = b := ⟨_, rfl⟩
  rw [hb] at HR
  rw [hb]
  clear hb hv
  generalize l.length = n at *
  cases b with
  | false =>
    go_enter Try.func12, Try.ntmps12
    go_wp2_with (go_at_call 29; (with_reducible refine HR.out.mono ?_); rintro e w1 ⟨rfl, hb⟩)
    go_ret
    exact ⟨rfl, hb⟩
  | true =>
    by_cases h3 : 3 ≤ n
    · have h3I : (3 : Int) ≤ (n : Int) := by omega
      by_cases h7 : n ≤ 7
      · have h7I : (n : Int) ≤ 7 := by omega
        rw [decide_eq_true h3, decide_eq_true h7]
        go_enter Try.func12, Try.ntmps12
        go_wp2_with (go_at_call 29; (with_reducible refine HR.out.mono ?_); rintro e w1 ⟨rfl, hb⟩)
        go_ret
        exact ⟨by first | rfl | simp [*], hb⟩
      · have h7I : (7 : Int) < (n : Int) := by omega
        rw [decide_eq_true h3, decide_eq_false h7]
        go_enter Try.func12, Try.ntmps12
        go_wp2_with (go_at_call 29; (with_reducible refine HR.out.mono ?_); rintro e w1 ⟨rfl, hb⟩)
        go_ret
        exact ⟨by first | rfl | (simp; omega), hb⟩
    · have h3I : (n : Int) < 3 := by omega
      rw [decide_eq_false h3]
      go_enter Try.func12, Try.ntmps12
      go_wp2_with (go_at_call 29; (with_reducible refine HR.out.mono ?_); rintro e w1 ⟨rfl, hb⟩)
      go_ret
      exact ⟨by first | rfl | (simp; omega), hb⟩
theorem com_more {l m : List Int} {k : Nat} (hk : k < l.length) : comC (l.take (k + 1)) m = comC (l.take k) m + (if hasC m (l.getD k 0) = true then 1 else 0) := by
  unfold comC
  rw [take_more hk, List.countP_append, List.countP_singleton]
theorem com_len (l m : List Int) : comC l m ≤ l.length := List.countP_le_length
/-- Counting those of l that m has: c of the first k. -/
def ComRel (l m : List Int) (w : World) (u v : Value) (wr : World) : Prop := ∃ (k c : Nat), k ≤ l.length ∧ u = .int .i64 (c : Int) ∧ v = .int .i64 (k : Int) ∧ Below w.heap.size w wr ∧ c ≤ k ∧ Hid (c = comC (l.take k) m)
set_option maxHeartbeats 4000000 in
theorem refMost_any {w : World} {v u : Value} {l yes : List Int} (hv : RAt numTy w v l) (hu : RAt numTy w u yes) (hl : l.length ≤ 100000) (hy : yes.length ≤ 100000) :
    Calls Try.prog 23 #[v, u] w fun e w' => e = .returned (.bool (mostC l yes)) ∧ Below w.heap.size w w' := by
  have HH := hid (fun wx (hb : Below w.heap.size w wx) x => refHas_any x (hu.below hb) (by omega))
  obtain ⟨ao, cap, rfl, hat⟩ := nums_in hv
  obtain ⟨bo, cap2, rfl, -⟩ := nums_in hu
  have HAt := hid hat
  obtain ⟨b, hb⟩ : ∃ b, mostC l yes = b := ⟨_, rfl⟩
  rw [hb]
  have HB := hid hb
  clear hat hv hb hu
  obtain ⟨n, hn⟩ : ∃ n, l.length = n := ⟨_, rfl⟩
  rw [hn] at HAt hl
  rw [hn]
  have HN := hid hn
  obtain ⟨n2, hn2⟩ : ∃ n, yes.length = n := ⟨_, rfl⟩
  rw [hn2] at HH ⊢
  clear hn hn2 hy
  go_enter Try.func23, Try.ntmps23
  go_wp2
  go_loopw [5, 6] (ComRel l yes w) (fun _ i _ => n - (intOf i).toNat)
  case atStart => exact ⟨0, 0, Nat.zero_le _, rfl, rfl, Below.refl _ _, Nat.le_refl _, hid (by unfold comC; simp)⟩
  case round =>
    obtain ⟨k, c, hk, rfl, rfl, hbw, hck, hq⟩ := hrel
    by_cases hkn : k < n
    · have hkI : (k : Int) < (n : Int) := by omega
      obtain ⟨sb, so, rfl, c0⟩ := HAt.out _ hbw k hkn
      have hkl : k < l.length := by rw [HN.out]; exact hkn
      have hcm := com_more (m := yes) hkl
      have C1 := hid (HH.out wr hbw (l.getD k 0))
      have HKn : Hid (k + 1 ≤ l.length) := hid hkl
      have hc := hq.out
      have HBw := hid hbw
      generalize l.getD k 0 = y at *
      obtain ⟨t, ht⟩ : ∃ t, hasC yes y = t := ⟨_, rfl⟩
      rw [ht] at C1 hcm
      clear hk ht hbw hkl
      cases t with
      | true =>
        have HC : Hid (c + 1 = comC (l.take (k + 1)) yes) := hid (by rw [hcm, ← hc]; rfl)
        clear hcm hc
        go_wp2_with (go_at_call 16; (with_reducible refine C1.out.mono ?_); rintro e w1 ⟨rfl, rfl⟩)
        go_roundw
        case rel => exact ⟨k + 1, c + 1, HKn.out, by go_num, by go_num, HBw.out, by omega, HC⟩
        case measure => simp [intOf]; omega
      | false =>
        have HC : Hid (c = comC (l.take (k + 1)) yes) := hid (by rw [hcm, ← hc]; rfl)
        clear hcm hc
        go_wp2_with (go_at_call 16; (with_reducible refine C1.out.mono ?_); rintro e w1 ⟨rfl, rfl⟩)
        go_roundw
        case rel => exact ⟨k + 1, c, HKn.out, by go_num, by go_num, HBw.out, by omega, HC⟩
        case measure => simp [intOf]; omega
    · have hkn2 : k = l.length := by have := HN.out; omega
      have hkI : (n : Int) ≤ (k : Int) := by omega
      have hc := hq.out
      rw [hkn2, List.take_length] at hc
      have HBw := hid hbw
      have hkb : k ≤ n := by have := HN.out; omega
      have hbb := HB.out
      unfold mostC at hbb
      rw [← hc, HN.out] at hbb
      by_cases hd : n < 2 * c
      · obtain rfl : b = true := hbb.symm.trans (decide_eq_true hd)
        have hdI : (n : Int) < 2 * (c : Int) := by omega
        clear hkn2 hk hc hbb hd hbw
        go_wp2
        go_ret
        exact ⟨by first | rfl | (simp; omega), HBw.out⟩
      · obtain rfl : b = false := hbb.symm.trans (decide_eq_false hd)
        have hdI : 2 * (c : Int) ≤ (n : Int) := by omega
        clear hkn2 hk hc hbb hd hbw
        go_wp2
        go_ret
        exact ⟨by first | rfl | (simp; omega), HBw.out⟩
end Go.Proofs.Ytcjhiegiccekpaa
