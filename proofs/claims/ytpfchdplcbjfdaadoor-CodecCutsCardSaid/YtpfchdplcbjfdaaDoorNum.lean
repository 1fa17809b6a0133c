/-
  LAYER 1: numbers: what the program's and the document's functions that write them return.
-/
import Derived.Test.YtpfchdplcbjfdaaDoorBuilder
import Derived.Test.YtpfchdplcbjfdaaDoorNumMath
import Derived.Test.YtpfchdplcbjfdaaDoorCrc
import Derived.Test.YtpfchdplcbjfdaaDoorBits
import Derived.WalkKit
import Derived.Deep.QuietTactic
import Derived.BigQuiet
import Derived.Deep.RegionWith
namespace Go.Proofs.YtpfchdplcbjfdaaDoor
open Go.RowKit
set_option linter.unusedVariables false

theorem zigzag_any (n : Int) (w : World) (h0 : -9223372036854775808 ≤ n) (h1 : n ≤ 9223372036854775807) :
    Calls Tryd.prog 43 #[.int .i64 n] w fun e w' => e = .returned (.int .u64 (nat64 n)) ∧ w = w' := by
  have HZ := hid (zig_bits h0 h1)
  go_enter Tryd.func43, Tryd.ntmps43
  go_wp2
  all_goals go_ret
  all_goals exact ⟨by rw [← HZ.out]; rfl, rfl⟩

theorem unzigzag_any (v : Nat) (w : World) (h1 : v < 18446744073709551616) :
    Calls Tryd.prog 32 #[.int .u64 v] w fun e w' => e = .returned (.int .i64 (unz v)) ∧ w = w' := by
  have HZ := hid (unz_bits h1)
  go_enter Tryd.func32, Tryd.ntmps32
  go_wp2
  all_goals go_ret
  all_goals exact ⟨by rw [← HZ.out]; rfl, rfl⟩

theorem natural_any (n : Int) (w : World) (h0 : -9223372036854775808 ≤ n) (h1 : n ≤ 9223372036854775807) :
    Calls Tryd.prog 36 #[.int .i64 n] w fun e w' => e = .returned (.int .u64 (nat64 n)) ∧ w = w' := by
  by_cases hn : 0 ≤ n
  · have HZ : Hid ((nat64 n : Int) = 2 * n) := hid (by unfold nat64; rw [if_pos hn]; omega)
    go_enter Tryd.func36, Tryd.ntmps36
    go_wp2
    all_goals go_ret
    all_goals exact ⟨by rw [HZ.out]; rfl, rfl⟩
  · have HZ : Hid ((nat64 n : Int) = 2 * -(n + 1) + 1) := hid (by unfold nat64; rw [if_neg hn]; omega)
    go_enter Tryd.func36, Tryd.ntmps36
    go_wp2
    all_goals go_ret
    all_goals exact ⟨by rw [HZ.out]; rfl, rfl⟩

theorem len64_nat (x : Nat) (w : World) (h : x < 18446744073709551616) :
    Calls Tryd.prog 44 #[.int .u64 (x : Int)] w fun e w' => e = .returned (.int .i64 ((Lib.bitLen x : Nat) : Int)) ∧ w = w' :=
  (bits_Len64 (x : Int) w (by omega) (by omega)).mono fun e w' ⟨he, hw⟩ => ⟨he, hw.symm⟩

set_option maxHeartbeats 1000000 in
set_option maxRecDepth 100000 in
/-- (*output).number writes a number behind what the builder holds. -/
theorem number_any {T : TypeId} (hT : BlkOk T) (B b : Nat) (l : List UInt8) (n : Int) (w : World) (h0 : -9223372036854775808 ≤ n) (h1 : n ≤ 9223372036854775807) (h : Lib.IsBuilder T 5 B b (Lib.byteCells l) w) (hlen : l.length + 10 ≤ 140737488355328) (hBw : B ≤ w.heap.size) :
    Calls Tryd.prog 34 #[.pointer (some ⟨b, 0, none⟩), .int .i64 n] w fun e w' => e = .returned (.tuple #[]) ∧ Lib.IsBuilder T 5 B b (Lib.byteCells (l ++ enc (nat64 n))) w' ∧ Below B w w' := by
  have hu := nat64_lt h0 h1
  have HZ := zigzag_any n w h0 h1
  generalize nat64 n = v at *
  have ho : v ||| 1 < 18446744073709551616 := by have := or_one v; omega
  have e1 : bits .or .u64 (v : Int) 1 = ((v ||| 1 : Nat) : Int) := u64_or_nat v 1 hu (by omega)
  obtain ⟨g1, g2, g3⟩ := lastG_spec hu
  have hgl : ((Lib.bitLen (v ||| 1) : Nat) : Int) - 1 = ((Lib.bitLen (v ||| 1) - 1 : Nat) : Int) := by
    obtain ⟨_, _, b3⟩ := bitLenAux_bounds 64 (v ||| 1) (by have := or_one v; omega) (by rw [show 2 ^ 64 = 18446744073709551616 from rfl]; exact ho)
    have : Lib.bitLen (v ||| 1) = Lib.bitLenAux 64 (v ||| 1) := rfl
    omega
  have e2 : (((Lib.bitLen (v ||| 1) : Nat) : Int) - 1) / 7 = (lastG v : Int) := by rw [hgl]; unfold lastG; omega
  have L64 := fun w => len64_nat (v ||| 1) w ho
  have hb1 : Lib.bitLen (v ||| 1) ≤ 80 ∧ 1 ≤ Lib.bitLen (v ||| 1) := by
    unfold lastG at g1; omega
  generalize lastG v = G at *
  generalize Lib.bitLen (v ||| 1) = L at *
  have H2 := hid g2
  have H3 := hid g3
  have HL := hid L64
  have HB := hid h
  have HZ' := hid HZ
  have HE2 := hid e2
  have hLG : ((L : Int) - 1) / 7 ≤ 9 ∧ 0 ≤ ((L : Int) - 1) / 7 := by omega
  clear g2 g3 L64 h HZ hgl e2
  go_enter Tryd.func34, Tryd.ntmps34
  go_wp2_with (first
    | (go_at_call 43; refine HZ'.out.mono ?_; rintro e w' ⟨rfl, rfl⟩)
    | (go_at_call 44; refine (HL.out _).mono ?_; rintro e w' ⟨rfl, rfl⟩))
  go_loopw [6] (fun i wr => ∃ j : Nat, j ≤ G ∧ i = .int .i64 (7 * j) ∧ Hid (Lib.IsBuilder T 5 B b (Lib.byteCells (l ++ encC (v / 128 ^ (j + 1)))) wr) ∧ Below B w wr) (fun i _ => (intOf i).toNat)
  case atStart => exact ⟨G, Nat.le_refl _, by (have := HE2.out; congr 1; omega), hid (by rw [H2.out, encC_zero, List.append_nil]; exact HB.out), Below.refl _ _⟩
  case round =>
    obtain ⟨j, hj, rfl, hI, hbl⟩ := hrel
    by_cases hj0 : j = 0
    · subst hj0
      have e4 : bits .andNot .u8 ((v : Int) % 256) 128 = ((v % 128 : Nat) : Int) := by
        rw [show (v : Int) % 256 = ((v % 256 : Nat) : Int) by omega]
        have h := u8_andNot_nat (v % 256) 128 (by omega) (by omega)
        rw [show 255 - 128 = 127 from rfl, nat_mask7] at h
        rw [show ((128 : Nat) : Int) = 128 from rfl] at h
        rw [h]; omega
      have hl2 := encC_length 9 (v / 128) (by omega)
      go_wp2_with (go_at_call 45; refine (writeByte_nat hT B b (l ++ encC (v / 128)) (v % 128) (by omega) _ (by have := hI.out; simpa using this) (by rw [List.length_append]; omega) (by have := hbl.size; omega)).mono ?_; rintro e w1 ⟨rfl, h1, hb2⟩)
      go_end0
      exact ⟨rfl, by rw [enc, ← List.append_assoc]; exact h1, hbl.trans hb2⟩
    · have e3 : bits .or .u8 (IntKind.u8.wrap ((v : Int) / 2 ^ (7 * (j : Int)).toNat)) 128 = ((128 + v / 128 ^ j % 128 : Nat) : Int) := by
        rw [show (7 * (j : Int)).toNat = 7 * j by omega, IntKind.wrap_u8', show ((v : Int) / 2 ^ (7 * j)) % 256 = ((v / 2 ^ (7 * j) % 256 : Nat) : Int) by rw [Int.natCast_emod, Int.natCast_ediv, Int.natCast_pow]; rfl, Nat.pow_mul, show 2 ^ 7 = 128 from rfl]
        generalize v / 128 ^ j = y
        have h := u8_or_nat (y % 256) 128 (by omega) (by omega)
        rw [show ((128 : Nat) : Int) = 128 from rfl] at h
        rw [h]
        have h7 : y % 256 ||| 128 = 128 + y % 128 := by
          have h2 := Nat.or_div_two_pow (a := y % 256) (b := 128) (n := 7)
          have h1 := Nat.or_mod_two_pow (a := y % 256) (b := 128) (n := 7)
          rw [show 2 ^ 7 = 128 from rfl, show 128 % 128 = 0 from rfl, Nat.or_zero] at h1
          rw [show 2 ^ 7 = 128 from rfl, show 128 / 128 = 1 from rfl] at h2
          have : y % 256 / 128 = 0 ∨ y % 256 / 128 = 1 := by omega
          rcases this with h | h
          · rw [h, show 0 ||| 1 = 1 from rfl] at h2; omega
          · rw [h, show 1 ||| 1 = 1 from rfl] at h2; omega
        rw [h7]
      have HE := hid e3
      clear e3
      have hl2 := encC_length 9 (v / 128 ^ (j + 1)) (Nat.lt_of_le_of_lt (Nat.div_le_div_left (show 128 ^ 1 ≤ 128 ^ (j + 1) from Nat.pow_le_pow_right (by omega) (by omega)) (by omega)) (by omega))
      go_wp2_with fail
      go_region_with (go_at_call 45; rw [HE.out]; refine (writeByte_nat hT B b _ (128 + v / 128 ^ j % 128) (by omega) _ (builder_drew hI.out) (by rw [List.length_append]; omega) (by have := hbl.size; simp; omega)).mono ?_; rintro e w1 ⟨rfl, h1, hb2⟩)
      go_wp2
      go_roundw
      case rel =>
        refine ⟨j - 1, by omega, by congr 1; omega, hid ?_, hbl.trans (Below.trans (Below.drew (Below.refl _ _)) hb2)⟩
        rw [show j - 1 + 1 = j by omega, encC_step (H3.out j (by omega) hj), ← List.append_assoc]
        exact h1
      case measure => simp [intOf]; omega
end Go.Proofs.YtpfchdplcbjfdaaDoor
