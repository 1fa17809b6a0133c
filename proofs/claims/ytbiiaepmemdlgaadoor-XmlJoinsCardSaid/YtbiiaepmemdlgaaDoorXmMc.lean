/-
  LAYER 11 (xml), THE PROGRAM: the reader's name.
-/
import Derived.Test.YtbiiaepmemdlgaaDoorXmMb
namespace Go.Proofs.YtbiiaepmemdlgaaDoor
open Go.RowKit
set_option linter.unusedVariables false
set_option maxRecDepth 100000

set_option maxHeartbeats 4000000 in
theorem rName_any {w : World} {F : Nat → Prop} {b : Nat} {s : RSt} (h : RIs w F b s) (hl : s.rest.length ≤ 100000) :
    Calls Tryd.prog 35 #[.pointer (some ⟨b, 0, none⟩)] w fun q w' => q = .returned (.tuple #[.string (mk (nameX s.rest).1), .bool (decide ((nameX s.rest).1 ≠ []))]) ∧ RTo F w w' b { s with rest := (nameX s.rest).2 } := by
  obtain ⟨c0, f0, hlt⟩ := rIs_rest h
  have HS := hid (fun w1 (hb : Below w.heap.size w w1) => rIs_store h hb (nameX s.rest).2)
  have HL := hid (fun k hk => name_lt (s := s.rest) (k := k) hk)
  have HE := hid (fun c hc => name_end (s := s.rest) (c := c) hc)
  have hN := nameX_len s.rest
  obtain ⟨ht, hd⟩ := name_take s.rest
  obtain ⟨S, hS⟩ : ∃ S, mk s.rest = S := ⟨_, rfl⟩
  have hSd : S.data.toList = s.rest := by rw [← hS]; rfl
  have hsz : s.rest.length = S.size := by rw [← hSd]; rfl
  obtain ⟨N, hNN⟩ : ∃ N, (nameX s.rest).1.length = N := ⟨_, rfl⟩
  have HD : Hid (decide (0 < (N : Int)) = decide ((nameX s.rest).1 ≠ [])) := hid (decide_eq_decide.2 (by rw [← hNN]; exact ⟨fun h => List.length_pos_iff.1 (by omega), fun h => by have := List.length_pos_iff.2 h; omega⟩))
  have HZ : Hid (N = 0 → (nameX s.rest).1 = []) := hid (fun h => List.length_eq_zero_iff.1 (by omega))
  rw [hNN] at HL HE ht hd hN
  have HZ2 : Hid (N = 0 → mk (nameX s.rest).2 = S) := hid (fun h => str_ext (by rw [mk_data, ← hd, h, hSd]; rfl))
  rw [hS] at c0
  have l1 := hid (fun wx (h0 : (N : Int) ≤ S.size) => slice_h (s := S) (hi := (N : Int)) (l := (nameX s.rest).1) (by omega) h0 (by rw [hSd]; simpa using ht) wx)
  have l2 := hid (fun wx (h0 : (N : Int) ≤ S.size) => slice_l (s := S) (lo := (N : Int)) (l := (nameX s.rest).2) (by omega) h0 (by rw [hSd]; simpa using hd) wx)
  have hNl : N ≤ S.size := by omega
  have hSl : S.size ≤ 100000 := by omega
  have HG : Hid (∀ k (hk : k < S.size), s.rest[k]? = some (S[k]'hk)) := hid (fun k hk => by rw [← hSd]; simp [hk]; rfl)
  have HC := hid (fun (nm : List UInt8) wx (hb : nm.length ≤ 100000) => clone_any (mk nm) wx (by rw [mk_size]; omega))
  have hnl : (nameX s.rest).1.length ≤ 100000 := by omega
  clear ht hd hNN hN hsz hSd hS h hl
  generalize (nameX s.rest).1 = nm at *
  generalize (nameX s.rest).2 = rs at *
  go_enter Tryd.func35, Tryd.ntmps35
  go_wp2
  go_loop [4] (fun i => ∃ k : Nat, k ≤ N ∧ i = .int .i64 k) (fun i => N - (intOf i).toNat)
  case atStart => exact ⟨0, Nat.zero_le _, rfl⟩
  case round =>
    obtain ⟨k, hk, rfl⟩ := hrel
    by_cases hkN : k < N
    · have hks : k < S.size := by omega
      obtain ⟨c, hc, hcase⟩ := HL.out k hkN
      have hcc : S[k] = c := by have := HG.out k hks; rw [hc] at this; exact (Option.some.inj this).symm
      have B1 : Hid (∀ wx, Calls Tryd.prog 48 #[.int .u8 (S[k].toNat : Nat)] wx fun e w' => e = .returned (.bool (begX c)) ∧ wx = w') := hid (fun wx => by rw [hcc]; exact begins_any c wx)
      have B2 : Hid (∀ wx, Calls Tryd.prog 49 #[.int .u8 (S[k].toNat : Nat)] wx fun e w' => e = .returned (.bool (conX c)) ∧ wx = w') := hid (fun wx => by rw [hcc]; exact continues_any c wx)
      clear hc hcc
      rcases hcase with hb | ⟨hb, h0, hcn⟩
      · rw [hb] at B1
        clear hb
        go_wp2_with (first | (go_at_call 48; (with_reducible refine (B1.out _).mono ?_); rintro e w1 ⟨rfl, rfl⟩))
        go_round
        case rel => exact ⟨k + 1, by omega, by go_num⟩
        case measure => simp [intOf]; omega
      · rw [hb] at B1
        rw [hcn] at B2
        clear hb hcn
        go_wp2_with (first | (go_at_call 48; (with_reducible refine (B1.out _).mono ?_); rintro e w1 ⟨rfl, rfl⟩) | (go_at_call 49; (with_reducible refine (B2.out _).mono ?_); rintro e w1 ⟨rfl, rfl⟩))
        go_round
        case rel => exact ⟨k + 1, by omega, by go_num⟩
        case measure => simp [intOf]; omega
    · obtain rfl : k = N := by omega
      have r1 := fun wx => l1.out wx (by omega)
      have r2 := fun wx => l2.out wx (by omega)
      clear hkN
      by_cases hks : k < S.size
      · have hc := HG.out k hks
        obtain ⟨hb, hcn⟩ := HE.out _ hc
        have B1 : Hid (∀ wx, Calls Tryd.prog 48 #[.int .u8 (S[k].toNat : Nat)] wx fun e w' => e = .returned (.bool false) ∧ wx = w') := hid (fun wx => by rw [← hb]; exact begins_any _ wx)
        by_cases h0 : 0 < k
        · have hcn := hcn h0
          have B2 : Hid (∀ wx, Calls Tryd.prog 49 #[.int .u8 (S[k].toNat : Nat)] wx fun e w' => e = .returned (.bool false) ∧ wx = w') := hid (fun wx => by rw [← hcn]; exact continues_any _ wx)
          clear hb hcn hc
          go_wp2_with (first | (go_at_call 48; (with_reducible refine (B1.out _).mono ?_); rintro e w1 ⟨rfl, rfl⟩) | (go_at_call 49; (with_reducible refine (B2.out _).mono ?_); rintro e w1 ⟨rfl, rfl⟩) | (go_at_call 50; (with_reducible refine (HC.out _ _ hnl).mono ?_)))
          rintro e w1 ⟨rfl, hb⟩
          have c0' : w1.cell? ⟨b, 0, none⟩ = some (.string S) := (hb.cell (p := ⟨b, 0, none⟩) hlt).trans c0
          have f0' : w1.frozen? ⟨b, 0, none⟩ = false := (hb.frozen (p := ⟨b, 0, none⟩) hlt).trans f0
          go_wp2
          go_ret2
          exact ⟨by rw [← HD.out]; first | rfl | simp [h0], HS.out _ hb⟩
        · have hk0 : k = 0 := by omega
          subst hk0
          have hnm : nm = [] := HZ.out rfl
          have hz2 := hid (HZ2.out rfl)
          subst hnm
          have H0 : Hid (Calls Tryd.prog 50 #[.string ByteArray.empty] w fun e w' => e = .returned (.string ByteArray.empty) ∧ Below w.heap.size w w') := hid (clone_any ByteArray.empty w (by decide))
          clear hb hcn hc h0
          go_wp2_with (first | (go_at_call 48; (with_reducible refine (B1.out _).mono ?_); rintro e w1 ⟨rfl, rfl⟩) | (go_at_call 50; (with_reducible refine H0.out.mono ?_)))
          rintro e w1 ⟨rfl, hb⟩
          have c0' : w1.cell? ⟨b, 0, none⟩ = some (.string S) := (hb.cell (p := ⟨b, 0, none⟩) hlt).trans c0
          have f0' : w1.frozen? ⟨b, 0, none⟩ = false := (hb.frozen (p := ⟨b, 0, none⟩) hlt).trans f0
          go_wp2
          go_ret2
          have hq := HS.out _ hb
          rw [hz2.out] at hq
          exact ⟨by rw [← HD.out]; first | rfl | simp, hq⟩
      · have hkd : decide (k < S.size) = false := by simpa using hks
        have hkd2 : S.size ≤ k := by omega
        clear hks
        go_wp2_with (go_at_call 50; (with_reducible refine (HC.out _ _ hnl).mono ?_))
        rintro e w1 rfl hb
        have c0' : w1.cell? ⟨b, 0, none⟩ = some (.string S) := (hb.cell (p := ⟨b, 0, none⟩) hlt).trans c0
        have f0' : w1.frozen? ⟨b, 0, none⟩ = false := (hb.frozen (p := ⟨b, 0, none⟩) hlt).trans f0
        go_wp2
        go_ret2
        exact ⟨by rw [← HD.out]; first | rfl | simp, HS.out _ hb⟩
end Go.Proofs.YtbiiaepmemdlgaaDoor
