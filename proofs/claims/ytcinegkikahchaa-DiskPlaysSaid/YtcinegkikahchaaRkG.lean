/-
  LAYER 2 (disk), THE DOCUMENT's ANSWER: Name.
-/
import Derived.Test.YtcinegkikahchaaRkF
namespace Go.Proofs.Ytcinegkikahchaa
open Go.RowKit Go.Maps
set_option linter.unusedVariables false
set_option maxRecDepth 100000

set_option maxHeartbeats 1000000 in
theorem refName_any (s : ByteArray) (w : World) (hs : s.size ≤ maxLen) :
    Calls Try.prog 14 #[.string s] w fun e w' => e = .returned (.bool (isName s.data.toList)) ∧ w = w' := by
  unfold maxLen at hs
  go_enter Try.func14, Try.ntmps14
  go_wp2
  go_loop [3] (fun i => ∃ k : Nat, k ≤ s.size ∧ i = .int .i64 k ∧ Hid ((s.data.toList.take k).all nameByte = true)) (fun i => s.size - (intOf i).toNat)
  case atStart => exact ⟨0, Nat.zero_le _, rfl, hid (by simp)⟩
  case round =>
    obtain ⟨k, hk, rfl, hall⟩ := hrel
    by_cases hlt : k < s.size
    · have hc := nameByte_cases s[k]
      have hb : (s[k].toNat : Int) < 256 := by have := UInt8.toNat_lt s[k]; omega
      rcases hc with ⟨hc, h⟩ | ⟨hc, h⟩
      · have H := hid hc
        clear hc
        rcases h with ⟨h1, h2⟩ | ⟨h1, h2⟩
        · go_wp2
          go_round
          case rel => exact ⟨k + 1, by omega, by go_num, hid (all_snoc hlt hall.out H.out)⟩
          case measure => simp [intOf]; omega
        · have h3 : (s[k].toNat : Int) < 97 := by omega
          go_wp2
          go_round
          case rel => exact ⟨k + 1, by omega, by go_num, hid (all_snoc hlt hall.out H.out)⟩
          case measure => simp [intOf]; omega
      · have H := hid hc
        clear hc
        rcases h with h | ⟨h1, h2⟩ | h
        · go_wp2
          go_ret
          exact ⟨ret_bool (isName_bad hlt H.out).symm, rfl⟩
        · have d1 : decide ((s[k].toNat : Int) ≤ 57) = false := by simp; omega
          go_wp2
          go_ret
          exact ⟨ret_bool (isName_bad hlt H.out).symm, rfl⟩
        · have d1 : decide ((s[k].toNat : Int) ≤ 57) = false := by simp; omega
          have d2 : decide ((s[k].toNat : Int) ≤ 122) = false := by simp; omega
          have d3 : decide (97 ≤ (s[k].toNat : Int)) = true := by simp; omega
          have d4 : decide (48 ≤ (s[k].toNat : Int)) = true := by simp; omega
          go_wp2
          go_ret
          exact ⟨ret_bool (isName_bad hlt H.out).symm, rfl⟩
    · obtain rfl : k = s.size := by omega
      have hfin := hid (isName_all hall.out)
      by_cases h1 : 1 ≤ s.size
      · have d1 : decide (1 ≤ (s.size : Int)) = true := by simp; omega
        by_cases h2 : s.size ≤ 24
        · have d2 : decide ((s.size : Int) ≤ 24) = true := by simp; omega
          go_wp2
          go_ret
          exact ⟨ret_bool (by rw [hfin.out]; simp [h1, h2]), rfl⟩
        · have d2 : decide ((s.size : Int) ≤ 24) = false := by simp; omega
          go_wp2
          go_ret
          exact ⟨ret_bool (by rw [hfin.out]; simp [h2]), rfl⟩
      · have d1 : decide (1 ≤ (s.size : Int)) = false := by simp; omega
        go_wp2
        go_ret
        exact ⟨ret_bool (by rw [hfin.out]; simp [h1]), rfl⟩

end Go.Proofs.Ytcinegkikahchaa
