/-
  LAYER 1: the checksum: the program's Crc (by a table for four bits) and the document's (bit by bit): both return 'crc'. Condition: the table's cells hold its sixteen numbers ('Steps').
-/
import Derived.Test.YtpfchdplcbjfdaaDoorBase
import Derived.Test.YtpfchdplcbjfdaaDoorCodecMath
import Derived.WalkKit
namespace Go.Proofs.YtpfchdplcbjfdaaDoor
open Go.RowKit
set_option linter.unusedVariables false


/-- The table's cells hold its numbers. -/
def Steps (w : World) : Prop := ∀ i, i < 16 → w.cell? ⟨0, i, none⟩ = some (.int .u32 (tab i))

theorem Steps.below {B : Nat} {w w' : World} (h : Steps w) (hb : Below B w w') (hB : 0 < B) : Steps w' :=
  fun i hi => (hb.cell (p := ⟨0, i, none⟩) hB).trans (h i hi)
theorem Steps.drew {w : World} (h : Steps w) : Steps w.drew := h

theorem and15 (a : Nat) (h : a < 4294967296) : bits .and .u32 (a : Int) 15 = ((a % 16 : Nat) : Int) := by
  have := u32_and_nat a 15 h (by omega)
  rw [nat_mask4] at this
  exact this

theorem crcReg_snoc (r : Nat) (l : List UInt8) (c : UInt8) : crcReg r (l ++ [c]) = byteStep (crcReg r l) c.toNat := by simp [crcReg]

theorem take_snoc' (s : ByteArray) (k : Nat) (h : k < s.size) : s.data.toList.take (k + 1) = s.data.toList.take k ++ [s[k]] := by
  rw [List.take_succ_eq_append_getElem (by simpa using h)]; rfl

theorem crcReg_step (s : ByteArray) (k : Nat) (h : k < s.size) : crcReg 4294967295 (s.data.toList.take (k + 1)) = byteStep (crcReg 4294967295 (s.data.toList.take k)) s[k].toNat := by
  rw [take_snoc' s k h, crcReg_snoc]

set_option maxHeartbeats 400000 in
theorem crc_any (s : ByteArray) (w : World) (hs : s.size ≤ maxLen) (hT : Steps w) :
    Calls Tryd.prog 28 #[.string s] w fun e w' => e = .returned (.int .u32 (crc s.data.toList)) ∧ w = w' := by
  unfold maxLen at hs
  go_enter Tryd.func28, Tryd.ntmps28
  go_wp2
  go_loop [3, 7] (fun r i => ∃ k : Nat, k ≤ s.size ∧ i = .int .i64 k ∧ r = .int .u32 (crcReg 4294967295 (s.data.toList.take k) : Nat)) (fun _ i => s.size - (intOf i).toNat)
  case atStart => exact ⟨0, Nat.zero_le _, rfl, rfl⟩
  case round =>
    obtain ⟨k, hk, rfl, rfl⟩ := hrel
    have hx := crcReg_lt (s.data.toList.take k) 4294967295 (by omega)
    by_cases hlt : k < s.size
    · have hst := hid (crcReg_step s k hlt)
      generalize crcReg 4294967295 (s.data.toList.take k) = x at hx hst
      have hc : s[k].toNat < 256 := s[k].toNat_lt
      have hx1 : x ^^^ s[k].toNat < 4294967296 := Nat.xor_lt_two_pow (n := 32) hx (by omega)
      have e1 : bits .xor .u32 (x : Int) (s[k].toNat : Int) = ((x ^^^ s[k].toNat : Nat) : Int) := u32_xor_nat _ _ hx (by omega)
      have hb : byteStep x s[k].toNat = fourSteps (fourSteps (x ^^^ s[k].toNat)) := rfl
      generalize hr : x ^^^ s[k].toNat = r at *
      have e2 := and15 r hx1
      have c2 := hT (r % 16) (by omega)
      have e3 : bits .xor .u32 ((r : Int) / 16) (tab (r % 16) : Int) = ((fourSteps r : Nat) : Int) := by
        rw [fourSteps_tab]; exact u32_xor_nat (r / 16) _ (by omega) (tab_lt _)
      have hx2 := fourSteps_lt hx1
      generalize hr2 : fourSteps r = r2 at *
      have e4 := and15 r2 hx2
      have c4 := hT (r2 % 16) (by omega)
      have e5 : bits .xor .u32 ((r2 : Int) / 16) (tab (r2 % 16) : Int) = ((fourSteps r2 : Nat) : Int) := by
        rw [fourSteps_tab]; exact u32_xor_nat (r2 / 16) _ (by omega) (tab_lt _)
      have HB := hid hb
      have H2 := hid hr2
      clear hr hb hr2
      go_wp2
      go_round
      case rel => exact ⟨k + 1, by omega, by go_num, by rw [hst.out, HB.out]⟩
      case measure => simp [intOf]; omega
    · have e : k = s.size := by omega
      have hcr : crc s.data.toList = crcReg 4294967295 (s.data.toList.take k) ^^^ 4294967295 := by
        rw [List.take_of_length_le (by simp; omega)]; rfl
      have HC := hid hcr
      clear hcr e
      generalize crcReg 4294967295 (s.data.toList.take k) = x at hx HC
      have e1 : bits .xor .u32 IntKind.u32.max (x : Int) = ((x ^^^ 4294967295 : Nat) : Int) := by
        have h := u32_xor_nat 4294967295 x (by omega) hx
        rw [Nat.xor_comm] at h
        exact h
      go_wp2
      all_goals go_ret
      all_goals exact ⟨by rw [HC.out]; rfl, rfl⟩

/-! ### The document's -/
theorem byteStep_eight (r c : Nat) : byteStep r c = bitStep (bitStep (bitStep (bitStep (bitStep (bitStep (bitStep (bitStep (r ^^^ c)))))))) := rfl

/-- k steps of the register. -/
def bitSteps (r : Nat) : Nat → Nat
  | 0 => r
  | k + 1 => bitStep (bitSteps r k)
theorem bitSteps_lt {r : Nat} (h : r < 4294967296) : ∀ k, bitSteps r k < 4294967296
  | 0 => h
  | k + 1 => bitStep_lt (bitSteps_lt h k)

set_option maxHeartbeats 800000 in
theorem refCrc_any (s : ByteArray) (w : World) (hs : s.size ≤ maxLen) :
    Calls Tryd.prog 29 #[.string s] w fun e w' => e = .returned (.int .u32 (crc s.data.toList)) ∧ w = w' := by
  unfold maxLen at hs
  go_enter Tryd.func29, Tryd.ntmps29
  go_wp2
  go_loop [3, 4, 5] (fun r i _ => ∃ k : Nat, k ≤ s.size ∧ i = .int .i64 k ∧ r = .int .u32 (crcReg 4294967295 (s.data.toList.take k) : Nat)) (fun _ i _ => s.size - (intOf i).toNat)
  case atStart => exact ⟨0, Nat.zero_le _, rfl, rfl⟩
  case round =>
    obtain ⟨k, hk, rfl, rfl⟩ := hrel
    have hx := crcReg_lt (s.data.toList.take k) 4294967295 (by omega)
    by_cases hlt : k < s.size
    · have hst := hid (crcReg_step s k hlt)
      generalize crcReg 4294967295 (s.data.toList.take k) = x at hx hst
      have hc : s[k].toNat < 256 := s[k].toNat_lt
      have hx1 : x ^^^ s[k].toNat < 4294967296 := Nat.xor_lt_two_pow (n := 32) hx (by omega)
      have e1 : bits .xor .u32 (x : Int) (s[k].toNat : Int) = ((x ^^^ s[k].toNat : Nat) : Int) := u32_xor_nat _ _ hx (by omega)
      have hb := hid (byteStep_eight x s[k].toNat)
      generalize x ^^^ s[k].toNat = r at *
      go_wp2
      go_loop [3, 5] (fun r' i => ∃ m : Nat, m ≤ 8 ∧ i = .int .i64 m ∧ r' = .int .u32 (bitSteps r m : Nat)) (fun _ i => 8 - (intOf i).toNat)
      case atStart => exact ⟨0, Nat.zero_le _, rfl, rfl⟩
      case round =>
        obtain ⟨m, hm, rfl, rfl⟩ := hrel
        have hy := bitSteps_lt hx1 m
        by_cases hm8 : m < 8
        · have hsm : Hid (bitSteps r (m + 1) = bitStep (bitSteps r m)) := hid rfl
          generalize bitSteps r m = y at hy hsm
          by_cases hodd : y % 2 = 1
          · have e2 : bits .xor .u32 ((y : Int) / 2) 2197175160 = ((bitStep y : Nat) : Int) := by
              unfold bitStep; rw [if_pos hodd]; exact u32_xor_nat (y / 2) 2197175160 (by omega) (by omega)
            go_wp2
            go_round
            case rel => exact ⟨m + 1, by omega, by go_num, by rw [hsm.out]⟩
            case measure => simp [intOf]; omega
          · have e2 : (y : Int) / 2 = ((bitStep y : Nat) : Int) := by
              unfold bitStep; rw [if_neg hodd]; rfl
            have H2 := hid e2
            clear e2
            go_wp2
            go_round
            case rel => exact ⟨m + 1, by omega, by go_num, by rw [hsm.out, ← H2.out]⟩
            case measure => simp [intOf]; omega
        · have e8 : m = 8 := by omega
          subst e8
          go_wp2
          go_round
          case rel => exact ⟨k + 1, by omega, by go_num, by rw [hst.out, hb.out]; rfl⟩
          case measure => simp [intOf]; omega
    · have e : k = s.size := by omega
      have hcr : crc s.data.toList = crcReg 4294967295 (s.data.toList.take k) ^^^ 4294967295 := by
        rw [List.take_of_length_le (by simp; omega)]; rfl
      have HC := hid hcr
      clear hcr e
      generalize crcReg 4294967295 (s.data.toList.take k) = x at hx HC
      have e1 : bits .xor .u32 (x : Int) 4294967295 = ((x ^^^ 4294967295 : Nat) : Int) := u32_xor_nat x 4294967295 hx (by omega)
      go_wp2
      all_goals go_ret
      all_goals exact ⟨by rw [HC.out]; rfl, rfl⟩
end Go.Proofs.YtpfchdplcbjfdaaDoor
