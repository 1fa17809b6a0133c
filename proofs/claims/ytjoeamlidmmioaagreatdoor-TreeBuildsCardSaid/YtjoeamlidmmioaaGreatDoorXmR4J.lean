import Derived.Test.YtjoeamlidmmioaaGreatDoorXmR3J
/-
  LAYER 11 (xml), THE DOCUMENT's: what digits say.
-/
namespace Go.Proofs.YtjoeamlidmmioaaGreatDoor
open Go.RowKit
set_option linter.unusedVariables false
set_option maxRecDepth 100000

def nmb (b m : Nat) (a : List UInt8) : Option Nat := if m < a.length then none else digsX b a
def nmbV (o : Option Nat) : Value := match o with | some v => .tuple #[.int .i64 (v : Nat), .bool true] | none => .tuple #[.int .i64 0, .bool false]
theorem foldL_take (b : Nat) (a : List UInt8) (k : Nat) {c : UInt8} (h : a[k]? = some c) (v : Option Nat) : (a.take (k + 1)).foldl (digitX b) v = digitX b ((a.take k).foldl (digitX b) v) c := by
  rw [List.take_add_one, h]; simp
theorem foldL_bad (b : Nat) (a : List UInt8) (k : Nat) (h : (a.take k).foldl (digitX b) (some 0) = none) : a.foldl (digitX b) (some 0) = none := by
  have e : a = a.take k ++ a.drop k := (List.take_append_drop k a).symm
  rw [e, List.foldl_append, h, digit_none]
theorem nmb_bad {b m : Nat} {a : List UInt8} (k : Nat) (h : (a.take k).foldl (digitX b) (some 0) = none) : nmb b m a = none := by
  unfold nmb digsX
  split
  · rfl
  · split
    · rfl
    · exact foldL_bad b a k h
set_option maxHeartbeats 8000000 in
theorem number_any (a : List UInt8) (ha : a.length ≤ 1000000) (b m : Nat) (hbm : (b = 10 ∧ m = 7) ∨ (b = 16 ∧ m = 6)) (w : World) :
    Calls Tryz.prog 86 #[.string (mk a), .int .i64 (b : Nat), .int .i64 (m : Nat)] w fun e w' => e = .returned (nmbV (nmb b m a)) ∧ w = w' := by
  have hms : (mk a).size = a.length := mk_size a
  have hpow : ∀ j, j ≤ m → b ^ j ≤ 20000000 := fun j hj => by
    have h1 : b ^ j ≤ b ^ m := Nat.pow_le_pow_right (by omega) hj
    rcases hbm with ⟨rfl, rfl⟩ | ⟨rfl, rfl⟩
    · have : (10 : Nat) ^ 7 = 10000000 := by decide
      omega
    · have : (16 : Nat) ^ 6 = 16777216 := by decide
      omega
  have hb0 : 0 < b := by omega
  have hb16 : b ≤ 16 := by omega
  have hm7 : m ≤ 7 := by omega
  have HP := hid hpow
  have HBM := hid hbm
  clear hpow hbm
  go_enter Tryz.func86, Tryz.ntmps86
  go_wp2
  go_loopw [8, 9] (fun u i wr => ∃ j v : Nat, j ≤ a.length ∧ j ≤ m ∧ u = .int .i64 v ∧ i = .int .i64 j ∧ w = wr ∧ Hid ((a.take j).foldl (digitX b) (some 0) = some v)) (fun u i _ => a.length - (intOf i).toNat)
  case atStart => exact ⟨0, 0, by omega, by omega, rfl, rfl, (by first | trivial | rfl), hid rfl⟩
  case round =>
    obtain ⟨j, v, hj, hjm, rfl, rfl, rfl, hF⟩ := hrel
    have hv : v < 20000000 := by
      have h1 := digs_lt b m hb0 _ _ _ hF.out
      have h2 := HP.out j hjm
      rw [List.length_take, Nat.min_eq_left hj] at h1
      omega
    by_cases hlt : j < a.length
    · have h1 : ((j : Int) < ((mk a).size : Int)) := by omega
      have hx : a[j]? = some a[j] := by simp [hlt]
      generalize a[j] = x at hx
      have x1 := fun wx => ix_at hx (q := (j : Int)) rfl wx
      have hstep := foldL_take b a j hx (some 0)
      rw [hF.out] at hstep
      have H1 := hid (six_any x)
      cases hs : sixX x with
      | none =>
        have e1 : sixI x = -1 := by unfold sixI; rw [hs]
        rw [e1] at H1
        have HR : Hid (nmb b m a = none) := hid (nmb_bad (j + 1) (by rw [hstep]; simp [digitX, hs]))
        clear hstep hF hx
        go_wp2_with (go_at_call 104; (with_reducible refine (H1.out _).mono ?_); rintro e w1 ⟨rfl, rfl⟩)
        go_ret2
        exact ⟨by rw [HR.out]; rfl, rfl⟩
      | some d =>
        have e1 : sixI x = (d : Nat) := by unfold sixI; rw [hs]
        rw [e1] at H1
        have hd : d < 256 := by
          have := x.toNat_lt
          unfold sixX at hs
          split at hs
          · cases hs; omega
          · split at hs
            · cases hs; omega
            · split at hs
              · cases hs; omega
              · cases hs
        by_cases hdb : d < b
        · by_cases hjm2 : j < m
          · have n1 : ¬ ((b : Int) ≤ (d : Int)) := by omega
            have n2 : ¬ ((m : Int) ≤ (j : Int)) := by omega
            have HR : Hid ((a.take (j + 1)).foldl (digitX b) (some 0) = some (b * v + d)) := hid (by rw [hstep]; simp [digitX, hs, hdb])
            have hbv : b * v ≤ 16 * 20000000 := Nat.mul_le_mul hb16 (by omega)
            have hw2 : IntKind.i64.wrap ((b : Int) * (v : Int)) = ((b * v : Nat) : Int) := by rw [show ((b : Int) * (v : Int)) = ((b * v : Nat) : Int) by push_cast; rfl]; exact IntWalk.i64_in _ (by omega)
            generalize b * v = pp at *
            clear hstep hF hx
            go_wp2_with (go_at_call 104; (with_reducible refine (H1.out _).mono ?_); rintro e w1 ⟨rfl, rfl⟩)
            go_roundw
            case rel => exact ⟨j + 1, pp + d, by omega, by omega, by go_num, by go_num, (by first | trivial | rfl), HR⟩
            case measure => simp [intOf]; omega
          · have n1 : ¬ ((b : Int) ≤ (d : Int)) := by omega
            have n2 : ((m : Int) ≤ (j : Int)) := by omega
            have HR : Hid (nmb b m a = none) := hid (by unfold nmb; rw [if_pos (by omega)])
            clear hstep hF hx
            go_wp2_with (go_at_call 104; (with_reducible refine (H1.out _).mono ?_); rintro e w1 ⟨rfl, rfl⟩)
            go_ret2
            exact ⟨by rw [HR.out]; rfl, rfl⟩
        · have n1 : ((b : Int) ≤ (d : Int)) := by omega
          have HR : Hid (nmb b m a = none) := hid (nmb_bad (j + 1) (by rw [hstep]; simp [digitX, hs, hdb]))
          clear hstep hF hx
          go_wp2_with (go_at_call 104; (with_reducible refine (H1.out _).mono ?_); rintro e w1 ⟨rfl, rfl⟩)
          go_ret2
          exact ⟨by rw [HR.out]; rfl, rfl⟩
    · obtain rfl : j = a.length := by omega
      have h1 : ¬ (((a.length : Nat) : Int) < ((mk a).size : Int)) := by omega
      have hf := hF.out
      rw [List.take_of_length_le (Nat.le_refl _)] at hf
      by_cases h0 : a = []
      · subst h0
        simp at hf
        subst hf
        clear hF
        go_wp2
        go_ret2
        exact ⟨rfl, rfl⟩
      · have HR : Hid (nmb b m a = some v) := hid (by unfold nmb digsX; rw [if_neg (by omega), if_neg h0]; exact hf)
        have hl : 0 < a.length := List.length_pos_iff.2 h0
        have h2 : ((0 : Int) < ((mk a).size : Int)) := by omega
        clear hf hF h0
        go_wp2
        go_ret2
        exact ⟨by rw [HR.out]; rfl, rfl⟩
end Go.Proofs.YtjoeamlidmmioaaGreatDoor

