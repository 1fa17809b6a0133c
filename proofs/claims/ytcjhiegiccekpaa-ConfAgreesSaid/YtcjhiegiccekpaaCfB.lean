/-
  LAYER 9 (conf), THE PROGRAM: Right, Most, Agreed, Next, Has.
-/
import Derived.Test.YtcjhiegiccekpaaCfA
namespace Go.Proofs.Ytcjhiegiccekpaa
open Go.RowKit
set_option linter.unusedVariables false
set_option maxRecDepth 100000

theorem right_small {l : List Int} (h : ¬ (3 ≤ l.length ∧ l.length ≤ 7)) : rightC l = false := by
  unfold rightC
  rcases Nat.lt_or_ge l.length 3 with e | e
  · rw [decide_eq_false (by omega : ¬ 3 ≤ l.length), Bool.and_false, Bool.false_and]
  · rw [decide_eq_false (by omega : ¬ l.length ≤ 7), Bool.and_false]
theorem right_ends {l : List Int} (h3 : 3 ≤ l.length) (h7 : l.length ≤ 7) : rightC l = (decide (Inc l) && decide (1 ≤ l.getD 0 0) && decide (l.getD (l.length - 1) 0 ≤ 9)) := by
  unfold rightC
  rw [decide_eq_true h3, decide_eq_true h7, Bool.and_true, Bool.and_true, rising_ends (by omega)]
set_option maxHeartbeats 8000000 in
theorem right_any {w : World} {v : Value} {l : List Int} (h : NumIn w v l) : Calls Try.prog 11 #[v] w (BoolPost9 w (rightC l)) := by
  have hl := h.len
  have C1 := hid (rising_any h.row (by omega))
  obtain ⟨ao, cap, rfl, hat⟩ := nums_in h.row
  have HAt := hid hat
  clear hat h
  by_cases h3 : 3 ≤ l.length
  · by_cases h7 : l.length ≤ 7
    · have hR := right_ends h3 h7
      obtain ⟨b0, e0⟩ : ∃ b, decide (Inc l) = b := ⟨_, rfl⟩
      obtain ⟨sb, so, rfl, c0⟩ := HAt.out w (Below.refl _ _) 0 (by omega)
      have HC : Hid (∀ wx, Below w.heap.size w wx → wx.cell? ⟨sb, so, none⟩ = some (.int .i64 (l.getD 0 0)) ∧ wx.cell? ⟨sb, so + (l.length - 1), none⟩ = some (.int .i64 (l.getD (l.length - 1) 0))) := hid (fun wx hb => by
        obtain ⟨sb1, so1, e1, c1⟩ := HAt.out wx hb 0 (by omega)
        obtain ⟨sb2, so2, e2, c2⟩ := HAt.out wx hb (l.length - 1) (by omega)
        cases e1
        cases e2
        exact ⟨c1, c2⟩)
      rw [e0] at C1 hR
      rw [hR]
      clear hR e0 c0 HAt
      generalize l.getD 0 0 = x at *
      generalize l.getD (l.length - 1) 0 = y at *
      generalize l.length = n at *
      have h3I : (3 : Int) ≤ (n : Int) := by omega
      have h7I : (n : Int) ≤ 7 := by omega
      have hd3 : decide ((3 : Int) ≤ (n : Int)) = true := decide_eq_true h3I
      have hd7 : decide ((n : Int) ≤ 7) = true := decide_eq_true h7I
      have hd0 : decide ((0 : Int) < (n : Int)) = true := decide_eq_true (by omega)
      have hn1 : IntKind.i64.wrap ((n : Int) - 1) = ((n - 1 : Nat) : Int) := by rw [IntKind.wrap_i64] <;> omega
      cases b0 with
      | false =>
        go_enter Try.func11, Try.ntmps11
        go_wp2_with (go_at_call 28; (with_reducible refine C1.out.mono ?_); rintro e w1 ⟨rfl, hb⟩)
        go_ret
        exact ⟨rfl, hb⟩
      | true =>
        by_cases hx : 1 ≤ x
        · by_cases hy : y ≤ 9
          · rw [decide_eq_true hx, decide_eq_true hy]
            have dx : decide ((1 : Int) ≤ x) = true := decide_eq_true hx
            have dy : decide (y ≤ (9 : Int)) = true := decide_eq_true hy
            go_enter Try.func11, Try.ntmps11
            go_wp2_with (go_at_call 28; (with_reducible refine C1.out.mono ?_); rintro e w1 ⟨rfl, hb⟩; obtain ⟨c1, c2⟩ := HC.out w1 hb)
            go_ret
            exact ⟨rfl, hb⟩
          · rw [decide_eq_true hx, decide_eq_false hy]
            have dx : decide ((1 : Int) ≤ x) = true := decide_eq_true hx
            have dy : decide (y ≤ (9 : Int)) = false := decide_eq_false hy
            go_enter Try.func11, Try.ntmps11
            go_wp2_with (go_at_call 28; (with_reducible refine C1.out.mono ?_); rintro e w1 ⟨rfl, hb⟩; obtain ⟨c1, c2⟩ := HC.out w1 hb)
            go_ret
            exact ⟨rfl, hb⟩
        · rw [decide_eq_false hx]
          have dx : decide ((1 : Int) ≤ x) = false := decide_eq_false hx
          go_enter Try.func11, Try.ntmps11
          go_wp2_with (go_at_call 28; (with_reducible refine C1.out.mono ?_); rintro e w1 ⟨rfl, hb⟩; obtain ⟨c1, c2⟩ := HC.out w1 hb)
          go_ret
          exact ⟨rfl, hb⟩
    · rw [right_small (by omega)]
      clear C1 HAt
      generalize l.length = n at *
      have hd3 : decide ((3 : Int) ≤ (n : Int)) = true := decide_eq_true (by omega)
      have hd7 : decide ((n : Int) ≤ 7) = false := decide_eq_false (by omega)
      go_enter Try.func11, Try.ntmps11
      go_wp2
      go_ret
      exact ⟨rfl, Below.refl _ _⟩
  · rw [right_small (by omega)]
    clear C1 HAt
    generalize l.length = n at *
    have hd3 : decide ((3 : Int) ≤ (n : Int)) = false := decide_eq_false (by omega)
    go_enter Try.func11, Try.ntmps11
    go_wp2
    go_ret
    exact ⟨rfl, Below.refl _ _⟩
set_option maxHeartbeats 4000000 in
theorem has_any {w : World} {v : Value} {l : List Int} (x : Int) (h : RAt numTy w v l) (hl : l.length ≤ 1000000) : Calls Try.prog 15 #[v, .int .i64 x] w fun e w' => e = .returned (.bool (hasC l x)) ∧ w' = w := by
  have hb : l.contains x = hasC l x := by unfold hasC; rw [Bool.eq_iff_iff, List.contains_iff_mem, decide_eq_true_eq]
  have C1 := hid (containsN_any x h hl)
  rw [hb] at C1
  generalize hasC l x = b at *
  obtain ⟨ao, cap, rfl, -⟩ := nums_at h
  clear h hb
  generalize l.length = n at *
  go_enter Try.func15, Try.ntmps15
  go_wp2_with (go_at_call 31; (with_reducible refine C1.out.mono ?_); rintro e w1 ⟨rfl, rfl⟩)
  go_ret
  exact ⟨rfl, rfl⟩
set_option maxHeartbeats 4000000 in
theorem most_any {w : World} {v u : Value} {l m : List Int} (h : NumIn w v l) (k : NumIn w u m) : Calls Try.prog 22 #[v, u] w (BoolPost9 w (mostC l m)) := by
  have hl := h.len
  have hm := k.len
  have C1 := hid (common_any h.row k.row (by omega) (by omega))
  obtain ⟨ao, cap, rfl, -⟩ := nums_at h.row
  obtain ⟨ao2, cap2, rfl, -⟩ := nums_at k.row
  have hc := com_len l m
  have hM : mostC l m = decide ((l.length : Int) / 2 < (comC l m : Int)) := by
    unfold mostC
    rw [Bool.eq_iff_iff, decide_eq_true_eq, decide_eq_true_eq]
    omega
  rw [hM]
  clear h k hM
  generalize comC l m = c at *
  generalize l.length = n at *
  generalize m.length = n2 at *
  have hq : (n : Int).tdiv 2 = (n : Int) / 2 := Int.tdiv_eq_ediv_of_nonneg (by omega)
  have hw : IntKind.i64.wrap ((n : Int) / 2) = (n : Int) / 2 := by rw [IntKind.wrap_i64] <;> omega
  go_enter Try.func22, Try.ntmps22
  go_wp2_with (go_at_call 38; (with_reducible refine C1.out.mono ?_); rintro e w1 ⟨rfl, hb⟩)
  go_ret
  exact ⟨rfl, hb⟩
end Go.Proofs.Ytcjhiegiccekpaa
