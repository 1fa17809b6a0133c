/-
  LAYER 11 (xml), THE LAWS' OWN HELPERS: decimal, hex, value.
-/
import Derived.Test.YtbiiaepmemdlgaaDoorXmLw
import Derived.Test.YtbiiaepmemdlgaaDoorXmRfm
namespace Go.Proofs.YtbiiaepmemdlgaaDoor
open Go.RowKit
set_option linter.unusedVariables false
set_option maxRecDepth 100000

theorem mk_app (a b : List UInt8) : mk a ++ mk b = mk (a ++ b) := by
  apply ByteArray.ext
  rw [ByteArray.data_append]
  simp [mk]
theorem dec_ext_run (n : Nat) (h : n < 10) (wx : World) : (Instr.slice 9 (.string ⟨#[48, 49, 50, 51, 52, 53, 54, 55, 56, 57]⟩) (some (.int .i64 (n : Nat))) (some (.int .i64 ((n : Int) + 1))) none).run Tryd.prog wx = .ok (.string (mk (numS 10 n))) wx := by
  rw [numS_small h]
  refine slice_lh (lo := (n : Int)) (hi := (n : Int) + 1) (by omega) (by omega) (by show (n : Int) + 1 ≤ 10; omega) ?_ wx
  match n, h with
  | 0, _ | 1, _ | 2, _ | 3, _ | 4, _ | 5, _ | 6, _ | 7, _ | 8, _ | 9, _ => rfl
  | n + 10, h => omega
theorem hex_ext_run (n : Nat) (h : n < 16) (wx : World) : (Instr.slice 9 (.string ⟨#[48, 49, 50, 51, 52, 53, 54, 55, 56, 57, 97, 98, 99, 100, 101, 102]⟩) (some (.int .i64 (n : Nat))) (some (.int .i64 ((n : Int) + 1))) none).run Tryd.prog wx = .ok (.string (mk (numS 16 n))) wx := by
  rw [numS_small h]
  refine slice_lh (lo := (n : Int)) (hi := (n : Int) + 1) (by omega) (by omega) (by show (n : Int) + 1 ≤ 16; omega) ?_ wx
  match n, h with
  | 0, _ | 1, _ | 2, _ | 3, _ | 4, _ | 5, _ | 6, _ | 7, _ | 8, _ | 9, _ | 10, _ | 11, _ | 12, _ | 13, _ | 14, _ | 15, _ => rfl
  | n + 16, h => omega
set_option maxHeartbeats 2000000 in
theorem decimal_any (w : World) (n : Nat) (hn : n ≤ 9999999) : Calls Tryd.prog 14 #[.int .i64 (n : Nat)] w fun e w' => e = .returned (.string (mk (numS 10 n))) ∧ w = w' := by
  induction n using Nat.strongRecOn with
  | _ n ih =>
    by_cases h : n < 10
    · have hI : (n : Int) < 10 := by omega
      have x1 : ∀ wx : World, (Instr.slice 9 (.string ⟨#[48, 49, 50, 51, 52, 53, 54, 55, 56, 57]⟩) (some (.int .i64 (n : Nat))) (some (.int .i64 ((n : Int) + 1))) none).run Tryd.prog wx = .ok (.string (mk (numS 10 n))) wx := fun wx => dec_ext_run n h wx
      clear ih
      go_enter Tryd.func14, Tryd.ntmps14
      go_wp2
      go_ret
      exact ⟨rfl, rfl⟩
    · have hI : ¬ (n : Int) < 10 := by omega
      have h1 := ih (n / 10) (Nat.div_lt_self (by omega) (by omega)) (by omega)
      have h2 := ih (n % 10) (by omega) (by omega)
      rw [show ((n / 10 : Nat) : Int) = (n : Int) / 10 by omega] at h1
      rw [show ((n % 10 : Nat) : Int) = (n : Int) % 10 by omega] at h2
      have H1 := hid h1
      have H2 := hid h2
      have HE : Hid (mk (numS 10 (n / 10)) ++ mk (numS 10 (n % 10)) = mk (numS 10 n)) := hid (by rw [mk_app, numS_big (b := 10) (n := n) (by omega) (by omega), numS_small (n := n % 10) (Nat.mod_lt _ (by omega))])
      have hz1 : (mk (numS 10 (n / 10))).size ≤ 10 := by rw [mk_size]; exact Nat.le_trans (numS_len (by omega) 7 _ (by omega)) (by omega)
      have hz2 : (mk (numS 10 (n % 10))).size ≤ 10 := by rw [mk_size]; exact Nat.le_trans (numS_len (by omega) 7 _ (by omega)) (by omega)
      have hz3 : ¬ (9223372036854775807 < (mk (numS 10 (n / 10))).size + (mk (numS 10 (n % 10))).size) := by omega
      clear ih h1 h2
      go_enter Tryd.func14, Tryd.ntmps14
      go_wp2_with (go_at_call 14; first
        | ((with_reducible refine H1.out.mono ?_); rintro e w1 ⟨rfl, rfl⟩)
        | ((with_reducible refine H2.out.mono ?_); rintro e w1 ⟨rfl, rfl⟩))
      go_ret
      exact ⟨by rw [← HE.out]; rfl, rfl⟩
set_option maxHeartbeats 2000000 in
theorem hex_any (w : World) (n : Nat) (hn : n ≤ 9999999) : Calls Tryd.prog 15 #[.int .i64 (n : Nat)] w fun e w' => e = .returned (.string (mk (numS 16 n))) ∧ w = w' := by
  induction n using Nat.strongRecOn with
  | _ n ih =>
    by_cases h : n < 16
    · have hI : (n : Int) < 16 := by omega
      have x1 : ∀ wx : World, (Instr.slice 9 (.string ⟨#[48, 49, 50, 51, 52, 53, 54, 55, 56, 57, 97, 98, 99, 100, 101, 102]⟩) (some (.int .i64 (n : Nat))) (some (.int .i64 ((n : Int) + 1))) none).run Tryd.prog wx = .ok (.string (mk (numS 16 n))) wx := fun wx => hex_ext_run n h wx
      clear ih
      go_enter Tryd.func15, Tryd.ntmps15
      go_wp2
      go_ret
      exact ⟨rfl, rfl⟩
    · have hI : ¬ (n : Int) < 16 := by omega
      have h1 := ih (n / 16) (Nat.div_lt_self (by omega) (by omega)) (by omega)
      have h2 := ih (n % 16) (by omega) (by omega)
      rw [show ((n / 16 : Nat) : Int) = (n : Int) / 16 by omega] at h1
      rw [show ((n % 16 : Nat) : Int) = (n : Int) % 16 by omega] at h2
      have H1 := hid h1
      have H2 := hid h2
      have HE : Hid (mk (numS 16 (n / 16)) ++ mk (numS 16 (n % 16)) = mk (numS 16 n)) := hid (by rw [mk_app, numS_big (b := 16) (n := n) (by omega) (by omega), numS_small (n := n % 16) (Nat.mod_lt _ (by omega))])
      have hz1 : (mk (numS 16 (n / 16))).size ≤ 10 := by rw [mk_size]; exact Nat.le_trans (numS_len (by omega) 7 _ (by omega)) (by omega)
      have hz2 : (mk (numS 16 (n % 16))).size ≤ 10 := by rw [mk_size]; exact Nat.le_trans (numS_len (by omega) 7 _ (by omega)) (by omega)
      have hz3 : ¬ (9223372036854775807 < (mk (numS 16 (n / 16))).size + (mk (numS 16 (n % 16))).size) := by omega
      clear ih h1 h2
      go_enter Tryd.func15, Tryd.ntmps15
      go_wp2_with (go_at_call 15; first
        | ((with_reducible refine H1.out.mono ?_); rintro e w1 ⟨rfl, rfl⟩)
        | ((with_reducible refine H2.out.mono ?_); rintro e w1 ⟨rfl, rfl⟩))
      go_ret
      exact ⟨by rw [← HE.out]; rfl, rfl⟩
theorem firstV_bd (c : Nat) (h : c < 256) : -256 ≤ firstV c ∧ firstV c ≤ 256 := by
  unfold firstV
  split
  · omega
  · split
    · omega
    · split <;> omega
theorem bytV_snoc {l : List UInt8} (c : UInt8) (h : l ≠ []) : bytV (l ++ [c]) = 64 * bytV l + ((c.toNat % 64 : Nat) : Int) := by
  cases l with
  | nil => exact absurd rfl h
  | cons a r => simp [bytV, List.foldl_append]
theorem bytV_one (c : UInt8) : bytV [c] = firstV c.toNat := rfl
set_option maxHeartbeats 4000000 in
theorem value_any (w : World) (s : ByteArray) (hs : s.size ≤ 4) : Calls Tryd.prog 16 #[.string s] w fun e w' => e = .returned (.int .i64 (bytV s.data.toList)) ∧ w = w' := by
  have hsz : s.data.toList.length = s.size := str_len s
  go_enter Tryd.func16, Tryd.ntmps16
  go_wp2
  go_loopw [3, 4] (fun v i wr => ∃ k : Nat, k ≤ s.size ∧ i = .int .i64 k ∧ v = .int .i64 (bytV (s.data.toList.take k)) ∧ w = wr ∧ Hid (-(1000 * 64 ^ k - 100) ≤ bytV (s.data.toList.take k) ∧ bytV (s.data.toList.take k) ≤ 1000 * 64 ^ k - 100)) (fun v i _ => s.size - (intOf i).toNat)
  case atStart => exact ⟨0, by omega, rfl, rfl, rfl, hid (by simp [bytV])⟩
  case round =>
    obtain ⟨k, hk, rfl, rfl, rfl, hB⟩ := hrel
    by_cases hlt : k < s.size
    · have ht : s.data.toList.take (k + 1) = s.data.toList.take k ++ [s[k]'hlt] := by rw [List.take_succ_eq_append_getElem (by omega)]; rfl
      have hcb : (s[k]'hlt).toNat < 256 := (s[k]'hlt).toNat_lt
      have hk3 : k ≤ 3 := by omega
      by_cases h0 : k = 0
      · subst h0
        have hV : bytV (s.data.toList.take (0 + 1)) = firstV (s[0]'hlt).toNat := by rw [ht]; rfl
        have HF : Hid (-(1000 * 64 ^ (0 + 1) - 100) ≤ bytV (s.data.toList.take (0 + 1)) ∧ bytV (s.data.toList.take (0 + 1)) ≤ 1000 * 64 ^ (0 + 1) - 100) := hid (by rw [hV]; have := firstV_bd _ hcb; omega)
        have HV := hid hV
        clear hB ht hV
        by_cases h1 : (s[0]'hlt).toNat < 128
        · have h1' : (((s[0]'hlt).toNat : Nat) : Int) < 128 := by omega
          have HW : Hid (firstV (s[0]'hlt).toNat = ((s[0]'hlt).toNat : Nat)) := hid (by unfold firstV; rw [if_pos h1])
          go_wp2
          exact ⟨⟨1, by omega, rfl, by rw [HV.out, HW.out], trivial, HF.out⟩, by simp [intOf]; omega⟩
        · have h1' : ¬ (((s[0]'hlt).toNat : Nat) : Int) < 128 := by omega
          by_cases h2 : (s[0]'hlt).toNat < 224
          · have h2' : (((s[0]'hlt).toNat : Nat) : Int) < 224 := by omega
            have HW : Hid (firstV (s[0]'hlt).toNat = ((s[0]'hlt).toNat : Nat) - 192) := hid (by unfold firstV; rw [if_neg h1, if_pos h2])
            go_wp2
            exact ⟨⟨1, by omega, rfl, by rw [HV.out, HW.out], trivial, HF.out⟩, by simp [intOf]; omega⟩
          · have h2' : ¬ (((s[0]'hlt).toNat : Nat) : Int) < 224 := by omega
            by_cases h3 : (s[0]'hlt).toNat < 240
            · have h3' : (((s[0]'hlt).toNat : Nat) : Int) < 240 := by omega
              have HW : Hid (firstV (s[0]'hlt).toNat = ((s[0]'hlt).toNat : Nat) - 224) := hid (by unfold firstV; rw [if_neg h1, if_neg h2, if_pos h3])
              go_wp2
              exact ⟨⟨1, by omega, rfl, by rw [HV.out, HW.out], trivial, HF.out⟩, by simp [intOf]; omega⟩
            · have h3' : ¬ (((s[0]'hlt).toNat : Nat) : Int) < 240 := by omega
              have HW : Hid (firstV (s[0]'hlt).toNat = ((s[0]'hlt).toNat : Nat) - 240) := hid (by unfold firstV; rw [if_neg h1, if_neg h2, if_neg h3])
              go_wp2
              exact ⟨⟨1, by omega, rfl, by rw [HV.out, HW.out], trivial, HF.out⟩, by simp [intOf]; omega⟩
      · have hV : bytV (s.data.toList.take (k + 1)) = 64 * bytV (s.data.toList.take k) + (((s[k]'hlt).toNat % 64 : Nat) : Int) := by
          rw [ht, bytV_snoc]
          intro e
          have := congrArg List.length e
          rw [List.length_take, List.length_nil] at this
          omega
        have h0' : (0 : Int) < (k : Int) := by omega
        have hb := hB.out
        have hb2 : -268435456 ≤ bytV (s.data.toList.take k) ∧ bytV (s.data.toList.take k) ≤ 268435456 := by
          match k, hk3 with
          | 0, _ | 1, _ | 2, _ | 3, _ => constructor <;> omega
        have HF : Hid (-(1000 * 64 ^ (k + 1) - 100) ≤ bytV (s.data.toList.take (k + 1)) ∧ bytV (s.data.toList.take (k + 1)) ≤ 1000 * 64 ^ (k + 1) - 100) := hid (by rw [hV, Int.pow_succ]; omega)
        obtain ⟨hb3, hb4⟩ := hb2
        have HV := hid hV
        clear hB ht hV hb
        generalize bytV (s.data.toList.take k) = V at *
        go_wp2
        exact ⟨⟨k + 1, by omega, by go_num, by rw [HV.out]; rfl, trivial, HF.out⟩, by simp [intOf]; omega⟩
    · go_wp2
      go_ret
      exact ⟨by have : s.data.toList.take k = s.data.toList := List.take_of_length_le (by omega)
                rw [this]; rfl, rfl⟩
end Go.Proofs.YtbiiaepmemdlgaaDoor
