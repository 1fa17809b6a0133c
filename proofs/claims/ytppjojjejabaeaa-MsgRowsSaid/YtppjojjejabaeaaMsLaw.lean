/-
  LAYER 7 (msg): the laws' own helpers: pick, sameInts, same, small.
-/
import Derived.Test.YtppjojjejabaeaaMsRow
import Derived.Deep.DeepCutAuto
namespace Go.Proofs.Ytppjojjejabaeaa
open Go.RowKit
set_option linter.unusedVariables false
set_option maxRecDepth 100000

def pickZ (c n : Int) : Int := (if c < 0 then -(c + 1) else c) % n
theorem pickZ_range (c n : Int) (hn : 0 < n) : 0 ≤ pickZ c n ∧ pickZ c n < n := ⟨Int.emod_nonneg _ (by omega), Int.emod_lt_of_pos _ hn⟩
theorem pick_any (c n : Int) (w : World) (hn : 0 < n) (hn2 : n ≤ 1000000000) (h0 : -9223372036854775808 ≤ c) (h1 : c ≤ 9223372036854775807) :
    Calls Try.prog 17 #[.int .i64 c, .int .i64 n] w fun e w' => e = .returned (.int .i64 (pickZ c n)) ∧ w = w' := by
  unfold pickZ
  by_cases h : c < 0
  · rw [if_pos h]
    have hc : 0 ≤ -(c + 1) := by omega
    have hc2 : -(c + 1) ≤ 9223372036854775807 := by omega
    go_enter Try.func17, Try.ntmps17
    go_wp2
    go_ret
    refine ⟨?_, rfl⟩
    show Ending.returned (.int .i64 _) = _
    congr 2
    first | rfl | (rw [← Int.tmod_eq_emod_of_nonneg hc]; simp [Int.neg_tmod])
  · rw [if_neg h]
    have hc : 0 ≤ c := by omega
    go_enter Try.func17, Try.ntmps17
    go_wp2
    go_ret
    exact ⟨by first | rfl | (congr 2; exact Int.tmod_eq_emod_of_nonneg hc), rfl⟩
def SiRel (w : World) (n : Nat) (u : Value) (wr : World) : Prop := ∃ k : Nat, k ≤ n ∧ u = .int .i64 (k : Int) ∧ Below w.heap.size w wr
set_option maxHeartbeats 2000000 in
theorem sameInts_same {w : World} {v1 v2 : Value} {xs : List Int} (h1 : RAt numTy w v1 xs) (h2 : RAt numTy w v2 xs) (hl : xs.length ≤ maxLen) :
    Calls Try.prog 22 #[v1, v2] w fun e w' => e = .returned (.bool true) ∧ Below w.heap.size w w' := by
  obtain ⟨a1, c1, rfl, hat1⟩ := nums_at h1
  obtain ⟨a2, c2, rfl, hat2⟩ := nums_at h2
  have HAt : Hid (∀ wx, Below w.heap.size w wx → ∀ k, k < xs.length → ∃ sb so sc sd, a1 = some ⟨sb, so, none⟩ ∧ a2 = some ⟨sc, sd, none⟩ ∧ wx.cell? ⟨sb, so + k, none⟩ = some (.int .i64 (xs.getD k 0)) ∧ wx.cell? ⟨sc, sd + k, none⟩ = some (.int .i64 (xs.getD k 0))) := hid (fun wx hb k hk => by
    obtain ⟨sb, so, e, hlt, hc⟩ := hat1 k hk
    obtain ⟨sc, sd, e', hlt', hc'⟩ := hat2 k hk
    exact ⟨sb, so, sc, sd, e, e', (hb.cell (p := ⟨sb, so + k, none⟩) hlt).trans hc, (hb.cell (p := ⟨sc, sd + k, none⟩) hlt').trans hc'⟩)
  unfold maxLen at hl
  clear hat1 hat2 h1 h2
  generalize xs.length = n at *
  go_enter Try.func22, Try.ntmps22
  go_wp2
  go_loopw [5] (SiRel w n) (fun i _ => n - (intOf i).toNat)
  case atStart => exact ⟨0, Nat.zero_le _, rfl, Below.refl _ _⟩
  case round =>
    obtain ⟨k, hk, rfl, hbw⟩ := hrel
    by_cases hkn : k < n
    · have hkI : (k : Int) < (n : Int) := by omega
      obtain ⟨sb, so, sc, sd, rfl, rfl, d1, d2⟩ := HAt.out _ hbw k hkn
      have HBw := hid (fun nq => below_drew hbw nq)
      clear hbw
      generalize xs.getD k 0 = x at *
      have q : (x != x) = false := bne_self_eq_false _
      go_wp2
      go_quiet (fail)
      all_goals
        go_wp2
        go_roundw
        case rel => exact ⟨k + 1, by omega, by go_num, HBw.out _⟩
        case measure => simp [intOf]; omega
    · obtain rfl : k = n := by omega
      have HBw := hid hbw
      clear hbw
      go_wp2
      go_ret
      exact ⟨rfl, HBw.out⟩
end Go.Proofs.Ytppjojjejabaeaa
