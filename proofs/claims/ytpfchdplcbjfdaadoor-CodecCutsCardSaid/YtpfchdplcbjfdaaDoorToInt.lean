/-
  LAYER 1: ToInt, the program's and the document's: both return what 'toInt' says.
-/
import Derived.Test.YtpfchdplcbjfdaaDoorInts
namespace Go.Proofs.YtpfchdplcbjfdaaDoor
open Go.RowKit
set_option linter.unusedVariables false

/-- What ToInt returns. -/
def intRes : Option (Nat × List UInt8) → Value
  | none => .tuple #[.int .i64 0, .string ⟨#[]⟩, .bool false]
  | some (v, r) => .tuple #[.int .i64 (unz v), .string (mk r), .bool true]

theorem toIntI_cons (u : Nat) (c : UInt8) (r : List UInt8) : toIntI u (c :: r) = if 144115188075855871 < u then none else if c.toNat < 128 then some (u * 128 + c.toNat % 128, r) else toIntI (u * 128 + c.toNat % 128) r := rfl

theorem andNot128 (c : Nat) (hc : c < 256) : bits .andNot .u8 (c : Int) 128 = ((c % 128 : Nat) : Int) := by
  have h := u8_andNot_nat c 128 hc (by omega)
  rw [show 255 - 128 = 127 from rfl, nat_mask7] at h
  exact h
theorem or_seven (u c : Nat) (hu : u ≤ 144115188075855871) : bits .or .u64 ((u : Int) * 128) ((c : Int) % 128) = ((u * 128 + c % 128 : Nat) : Int) := by
  have h := u64_or_nat (u * 128) (c % 128) (by omega) (by omega)
  rw [nat_join 7 (u * 128) (c % 128) (by omega) (by omega)] at h
  rw [← h]; rfl

theorem hasPrefix128 (l : List UInt8) : Lib.hasPrefix l [128] = decide (l.head? = some 128) := by
  cases l with
  | nil => rfl
  | cons c r =>
    show ((128 : UInt8) == c && List.isPrefixOf [] r) = _
    rw [List.head?_cons, show List.isPrefixOf ([] : List UInt8) r = true from by cases r <;> rfl, Bool.and_true, Bool.eq_iff_iff, beq_iff_eq, decide_eq_true_iff]
    exact ⟨fun h => by rw [h], fun h => (Option.some.inj h).symm⟩

set_option maxHeartbeats 1000000 in
set_option maxRecDepth 100000 in
theorem toInt_any (s : ByteArray) (w : World) (hs : s.size ≤ maxLen) :
    Calls Tryd.prog 12 #[.string s] w fun e w' => e = .returned (intRes (toInt s.data.toList)) ∧ ∃ m, w' = w.drewN m := by
  unfold maxLen at hs
  have HP := hid (fun w => strings_HasPrefix s ⟨#[128]⟩ w)
  by_cases hp : s.data.toList.head? = some 128
  · have hres : toInt s.data.toList = none := by unfold toInt; rw [if_pos hp]
    have HR := hid hres
    have hb : Lib.hasPrefix s.data.toList [128] = true := by rw [hasPrefix128]; simpa using hp
    clear hres hp
    go_enter Tryd.func12, Tryd.ntmps12
    go_wp2_with (go_at_call 31; refine (HP.out _).mono ?_; rintro e w' ⟨rfl, rfl⟩)
    go_ret3
    exact ⟨by rw [HR.out]; rfl, 0, rfl⟩
  · have hres : toInt s.data.toList = toIntI 0 (s.data.toList.drop 0) := by unfold toInt; rw [if_neg hp]; rfl
    have HR := hid hres
    have hb : Lib.hasPrefix s.data.toList [128] = false := by rw [hasPrefix128]; simpa using hp
    clear hres hp
    go_enter Tryd.func12, Tryd.ntmps12
    go_wp2_with (go_at_call 31; refine (HP.out _).mono ?_; rintro e w' ⟨rfl, rfl⟩)
    go_loop [5, 6, 11] (fun u _ i => ∃ k x : Nat, k ≤ s.size ∧ i = .int .i64 k ∧ u = .int .u64 x ∧ x < 18446744073709551616 ∧ Hid (toInt s.data.toList = toIntI x (s.data.toList.drop k))) (fun _ _ i => s.size - (intOf i).toNat)
    case atStart => exact ⟨0, 0, Nat.zero_le _, rfl, rfl, by omega, HR⟩
    case round =>
      obtain ⟨k, x, hk, rfl, rfl, hx, hI⟩ := hrel
      by_cases hlt : k < s.size
      · have hst := hI.out
        rw [drop_cons s k hlt, toIntI_cons] at hst
        have hc : s[k].toNat < 256 := s[k].toNat_lt
        by_cases hbig : 144115188075855871 < x
        · rw [if_pos hbig] at hst
          have HS := hid hst
          clear hst
          go_wp2
          go_ret3
          exact ⟨by rw [HS.out]; rfl, 0, rfl⟩
        · rw [if_neg hbig] at hst
          have e1 := andNot128 s[k].toNat hc
          have e2 := or_seven x s[k].toNat (by omega)
          have hbig' : x ≤ 144115188075855871 := by omega
          have hnew : x * 128 + s[k].toNat % 128 < 18446744073709551616 := by omega
          by_cases hend : s[k].toNat < 128
          · rw [if_pos hend] at hst
            have HS := hid hst
            have HU := hid (fun w => unzigzag_any (x * 128 + s[k].toNat % 128) w hnew)
            have hx2 : s.extract (k + 1) s.size = mk (s.data.toList.drop (k + 1)) := extract_drop s (k + 1) _ rfl
            have HX2 := hid hx2
            generalize x * 128 + s[k].toNat % 128 = y at *
            clear hst hx2
            go_wp2
            go_quiet ((go_at_call 32; exact quiet_eq (HU.out _)))
            go_wp2
            go_ret3
            exact ⟨by rw [HS.out, intRes, ← HX2.out]; rfl, _, rfl⟩
          · rw [if_neg hend] at hst
            have HS := hid hst
            generalize hy : x * 128 + s[k].toNat % 128 = y at *
            clear hst
            have HY := hid hy
            clear hy
            go_wp2
            go_round
            case rel => exact ⟨k + 1, y, by omega, by go_num, rfl, hnew, HS⟩
            case measure => simp [intOf]; omega
      · have hst := hI.out
        rw [List.drop_eq_nil_of_le (by rw [str_len]; omega), toIntI] at hst
        have HS := hid hst
        clear hst
        go_wp2
        go_ret3
        exact ⟨by rw [HS.out]; rfl, 0, rfl⟩
end Go.Proofs.YtpfchdplcbjfdaaDoor
