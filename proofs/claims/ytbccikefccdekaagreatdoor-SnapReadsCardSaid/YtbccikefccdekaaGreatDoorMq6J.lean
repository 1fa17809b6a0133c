import Derived.Test.YtbccikefccdekaaGreatDoorMq1J
import Derived.Test.YtbccikefccdekaaGreatDoorMq0J
import Derived.BigQuiet
/-
  LAYER 4 (snap), THE PROGRAM: rightVoters, Right, unframe.
-/
namespace Go.Proofs.YtbccikefccdekaaGreatDoor
open Go.RowKit
set_option linter.unusedVariables false
set_option maxRecDepth 100000

/-- A row of ints, wherever it lies. -/
theorem ints_in {w : World} {B : Nat} {v : Value} {xs : List Int} (h : IntsAt w B v xs) (hB : B ≤ w.heap.size) : ∃ a cap, v = .slice a xs.length cap ∧ ∀ wx, Below w.heap.size w wx → ∀ k, k < xs.length → ∃ sb so, a = some ⟨sb, so, none⟩ ∧ wx.cell? ⟨sb, so + k, none⟩ = some (.int .i64 (xs.getD k 0)) := by
  obtain ⟨a, cap, rfl, hc⟩ := h
  refine ⟨a, cap, rfl, fun wx hb k hk => ?_⟩
  obtain ⟨sb, so, e, hlt, hx⟩ := hc (fun e => by rw [e] at hk; simp at hk)
  exact ⟨sb, so, e, (hb.cell (p := ⟨sb, so + k, none⟩) (show sb < w.heap.size by omega)).trans (hx k _ (by simp [List.getD, hk]))⟩
theorem rising_cons (b v : Int) (r : List Int) : risingF b (v :: r) = (decide (b < v) && decide (v ≤ 9) && risingF v r) := rfl
def RvRel (l : List Int) (w : World) (ub ui : Value) (wr : World) : Prop := ∃ (k : Nat) (b : Int), k ≤ l.length ∧ ub = .int .i64 b ∧ ui = .int .i64 (k : Int) ∧ wr = w ∧ Hid (risingF 0 l = risingF b (l.drop k))
set_option maxHeartbeats 4000000 in
theorem rightVoters_any {w : World} {B : Nat} {v : Value} {l : List Int} (h : IntsAt w B v l) (hB : B ≤ w.heap.size) (hl : l.length ≤ 1000000) :
    Calls Tryz.prog 28 #[v] w fun e w' => e = .returned (.bool (risingF 0 l && decide (l ≠ []))) ∧ w = w' := by
  obtain ⟨ao, cap, rfl, hat⟩ := ints_in h hB
  have HAt := hid (hat w (Below.refl _ _))
  obtain ⟨b0, hb0⟩ : ∃ b, (risingF 0 l && decide (l ≠ [])) = b := ⟨_, rfl⟩
  rw [hb0]
  have HB := hid hb0
  obtain ⟨n, hn⟩ : ∃ n, l.length = n := ⟨_, rfl⟩
  rw [hn] at HAt hl
  rw [hn]
  have HN := hid hn
  clear h hat hb0 hn
  go_enter Tryz.func28, Tryz.ntmps28
  go_wp2
  go_loopw [3, 8] (RvRel l w) (fun _ i _ => n - (intOf i).toNat)
  case atStart => exact ⟨0, 0, Nat.zero_le _, rfl, rfl, rfl, hid rfl⟩
  case round =>
    obtain ⟨k, b, hk, rfl, rfl, rfl, hq⟩ := hrel
    by_cases hkn : k < n
    · have hkI : (k : Int) < (n : Int) := by omega
      obtain ⟨sb, so, rfl, c0⟩ := HAt.out k hkn
      have hkl : k < l.length := by rw [HN.out]; exact hkn
      have hdrop : l.drop k = l.getD k 0 :: l.drop (k + 1) := by rw [List.drop_eq_getElem_cons hkl]; congr 1; simp [List.getD, hkl]
      have hq1 := hq.out
      rw [hdrop, rising_cons] at hq1
      have HKn : Hid (k + 1 ≤ l.length) := hid hkl
      generalize l.getD k 0 = y at *
      clear hk hdrop hq hkl
      by_cases h1 : y ≤ b
      · have d1 : decide (y ≤ b) = true := decide_eq_true h1
        obtain rfl : b0 = false := HB.out.symm.trans (by rw [hq1, decide_eq_false (by omega : ¬ b < y)]; rfl)
        clear hq1 h1
        go_wp2
        go_ret
        exact ⟨rfl, rfl⟩
      · have d1 : decide (y ≤ b) = false := decide_eq_false h1
        by_cases h2 : 9 < y
        · have d2 : decide ((9 : Int) < y) = true := decide_eq_true h2
          obtain rfl : b0 = false := HB.out.symm.trans (by rw [hq1, decide_eq_false (by omega : ¬ y ≤ 9), Bool.and_false, Bool.false_and, Bool.false_and])
          clear hq1 h1 h2
          go_wp2
          go_ret
          exact ⟨rfl, rfl⟩
        · have d2 : decide ((9 : Int) < y) = false := decide_eq_false h2
          have HQ : Hid (risingF 0 l = risingF y (l.drop (k + 1))) := hid (by rw [hq1, decide_eq_true (by omega : b < y), decide_eq_true (by omega : y ≤ 9)]; rfl)
          clear hq1 h1 h2
          go_wp2
          go_roundw
          case rel => exact ⟨k + 1, y, HKn.out, rfl, by go_num, rfl, HQ⟩
          case measure => simp [intOf]; omega
    · have hkn2 : k = n := by have := HN.out; omega
      have hkI : (n : Int) ≤ (k : Int) := by omega
      have hq1 := hq.out
      have hr : risingF 0 l = true := by rw [hq1, List.drop_of_length_le (by have := HN.out; omega)]; rfl
      have hb := HB.out
      rw [hr, Bool.true_and] at hb
      by_cases h0 : n = 0
      · obtain rfl : b0 = false := hb.symm.trans (by have := HN.out; rw [h0] at this; rw [List.length_eq_zero_iff.1 this]; rfl)
        have hI : ¬ (0 : Int) < (n : Int) := by omega
        clear hq1 hq hr hb hkn2 hk
        go_wp2
        go_ret
        exact ⟨by first | rfl | (simp; omega), rfl⟩
      · obtain rfl : b0 = true := hb.symm.trans (decide_eq_true (fun e => h0 (by rw [← HN.out, e]; rfl)))
        have hI : (0 : Int) < (n : Int) := by omega
        clear hq1 hq hr hb hkn2 hk h0
        go_wp2
        go_ret
        exact ⟨by first | rfl | (simp; omega), rfl⟩
end Go.Proofs.YtbccikefccdekaaGreatDoor

/-
  LAYER 4 (snap), THE PROGRAM: unframe, frame.
-/
namespace Go.Proofs.YtbccikefccdekaaGreatDoor
open Go.RowKit
set_option linter.unusedVariables false
set_option maxRecDepth 100000

def unfSRes (l : List UInt8) : Value := .tuple #[.string (mk (unframeS l).1), .string (mk (l.drop (unframeS l).2.1)), .int .i64 ((unframeS l).2.2 : Nat)]
set_option maxHeartbeats 4000000 in
theorem snUnframe_any (s : ByteArray) (w : World) (hs : s.size ≤ maxLen) (hT : Steps w) :
    Calls Tryz.prog 29 #[.string s] w fun e w' => e = .returned (unfSRes s.data.toList) ∧ Below w.heap.size w w' := by
  have C1 := unframe_any s w hs hT
  unfold unfrRes at C1
  unfold unfSRes
  have hsz : (unframe s.data.toList).2.1 ≤ s.size := by
    rcases unframe_cases s.data.toList with ⟨e, h, _⟩ | ⟨p, h, _, h3, _⟩
    · rw [h]; exact Nat.zero_le _
    · rw [h, ← str_len]; exact h3
  unfold maxLen at hs
  obtain ⟨p1, n1, e1, hu⟩ : ∃ p n e, unframe s.data.toList = (p, n, e) := ⟨_, _, _, rfl⟩
  have hS : unframeS s.data.toList = (p1, n1, if e1 = 10 then 8 else e1) := by unfold unframeS; rw [hu]
  rw [hu] at C1 hsz
  rw [hS]
  simp only at C1 hsz ⊢
  have HSl := fun wx => slice_l (s := s) (lo := (n1 : Int)) (l := s.data.toList.drop n1) (by omega) (by omega) (by simp) wx
  have HC := hid C1
  clear C1 hS hu
  generalize mk p1 = pb at *
  generalize mk (s.data.toList.drop n1) = rb at *
  have hI : (n1 : Int) ≤ (s.size : Int) := by omega
  by_cases h10 : e1 = 10
  · subst h10
    rw [if_pos rfl]
    go_enter Tryz.func29, Tryz.ntmps29
    go_wp2_with (go_at_call 52; (with_reducible refine HC.out.mono ?_); rintro e w1 ⟨rfl, hb⟩)
    go_quiet (fail)
    go_wp2
    go_ret3
    exact ⟨rfl, below_drew hb _⟩
  · rw [if_neg h10]
    have hq : ((e1 : Int) == 10) = false := by simp; omega
    clear h10
    go_enter Tryz.func29, Tryz.ntmps29
    go_wp2_with (go_at_call 52; (with_reducible refine HC.out.mono ?_); rintro e w1 ⟨rfl, hb⟩)
    go_quiet (fail)
    go_wp2
    go_ret3
    exact ⟨rfl, below_drew hb _⟩
end Go.Proofs.YtbccikefccdekaaGreatDoor

