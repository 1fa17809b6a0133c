import Derived.Test.YtpcafkinpkepcaaGreatDoorWq6
/-
  Wq7: RefToInt, in one text.
-/
/-
  LAYER 1: the document's ToInt.
-/
namespace Go.Proofs.YtpcafkinpkepcaaGreatDoor
open Go.RowKit
set_option linter.unusedVariables false
set_option maxRecDepth 100000

theorem toIntR_cons (p : List UInt8) (v : Nat) (c : UInt8) (r : List UInt8) : toIntR p v (c :: r) = if p.length < 10 then
      (if c.toNat < 128 then (if enc ((128 * v + c.toNat % 128) % 18446744073709551616) = p ++ [c] then some ((128 * v + c.toNat % 128) % 18446744073709551616, r) else none)
       else toIntR (p ++ [c]) ((128 * v + c.toNat % 128) % 18446744073709551616) r)
    else none := rfl

theorem take_len (s : ByteArray) (k : Nat) (h : k ≤ s.size) : (s.data.toList.take k).length = k := by
  rw [List.length_take, str_len]; omega

theorem wrap_u64 (n : Int) : IntKind.u64.wrap n = n % 18446744073709551616 := by simp [IntKind.wrap, IntKind.bits, IntKind.signed]

set_option maxHeartbeats 1000000 in
set_option maxRecDepth 100000 in
theorem refToInt_any (s : ByteArray) (w : World) (hs : s.size ≤ maxLen) :
    Calls Tryz.prog 158 #[.string s] w fun e w' => e = .returned (intRes (toInt s.data.toList)) ∧ Below w.heap.size w w' := by
  unfold maxLen at hs
  have HR : Hid (toInt s.data.toList = toIntR (s.data.toList.take 0) 0 (s.data.toList.drop 0)) := hid (toIntR_eq _).symm
  go_enter Tryz.func158, Tryz.ntmps158
  go_wp2_with fail
  go_loopw [5, 6, 7] (fun v i _ wr => ∃ k x : Nat, k ≤ s.size ∧ i = .int .i64 k ∧ v = .int .u64 x ∧ x < 18446744073709551616 ∧ Hid (toInt s.data.toList = toIntR (s.data.toList.take k) x (s.data.toList.drop k)) ∧ w = wr) (fun _ i _ _ => s.size - (intOf i).toNat)
  case atStart => exact ⟨0, 0, Nat.zero_le _, rfl, rfl, by omega, HR, rfl⟩
  case round =>
    obtain ⟨k, x, hk, rfl, rfl, hx, hI, rfl⟩ := hrel
    by_cases hlt : k < s.size
    · have hst := hI.out
      rw [drop_cons s k hlt, toIntR_cons, take_len s k hk] at hst
      have hc : s[k].toNat < 256 := s[k].toNat_lt
      by_cases h10 : k < 10
      · rw [if_pos h10, ← take_snoc' s k hlt] at hst
        have e2 : IntKind.u64.wrap (IntKind.u64.wrap (128 * (x : Int)) + (s[k].toNat : Int) % 128) = (((128 * x + s[k].toNat % 128) % 18446744073709551616 : Nat) : Int) := by
          rw [wrap_u64, wrap_u64]; omega
        have hy : (128 * x + s[k].toNat % 128) % 18446744073709551616 < 18446744073709551616 := Nat.mod_lt _ (by omega)
        generalize (128 * x + s[k].toNat % 128) % 18446744073709551616 = y at *
        by_cases hend : s[k].toNat < 128
        · rw [if_pos hend] at hst
          have HS := hid hst
          clear hst
          have hxk : s.extract (k + 1) s.size = mk (s.data.toList.drop (k + 1)) := extract_drop s (k + 1) _ rfl
          have hxt : s.extract 0 (k + 1) = mk (s.data.toList.take (k + 1)) := extract_take s (k + 1)
          have HX := hid hxk
          have HT := hid hxt
          clear hxk hxt
          by_cases hodd : y % 2 = 1
          · have hn : unz y = -((y : Int) / 2) - 1 := by unfold unz; rw [if_pos hodd]; omega
            have HI := fun w => refInt_any (-((y : Int) / 2) - 1) w (by omega) (by omega)
            rw [← hn, nat64_unz, hn] at HI
            have HII := hid HI
            have HN := hid hn
            clear HI hn
            have htl : (s.extract 0 (k + 1)).toList = s.data.toList.take (k + 1) := by rw [HT.out, Lib.toList_data, mk_data]
            have b1 : (k : Int) + 1 ≤ (s.size : Int) := by omega
            have b2 : (0 : Int) ≤ (k : Int) + 1 := by omega
            by_cases hq : enc y = s.data.toList.take (k + 1)
            · have hst2 := HS.out
              rw [if_pos hq] at hst2
              have HS2 := hid hst2
              have hq' : (enc y == (s.extract 0 (k + 1)).toList) = true := by rw [htl, hq, beq_self_eq_true]
              clear hst2 hq htl
              go_wp2_with fail
              have s1 : IntKind.i64.wrap ((k : Int) + 1) = (k : Int) + 1 := IntWalk.i64_in _ (by omega)
              have s2 : ((k : Int) + 1).toNat = k + 1 := by omega
              go_region_with (go_at_call 153; refine (HII.out _).mono ?_; rintro e w1 ⟨rfl, hb⟩)
              go_wp2
              go_quiet (fail)
              clear s1 s2
              go_wp2
              go_ret3
              exact ⟨by rw [HS2.out, intRes, HN.out, ← HX.out]; rfl, below_drew (Below.trans (Below.drew (Below.refl _ _)) hb) _⟩
            · have hst2 := HS.out
              rw [if_neg hq] at hst2
              have HS2 := hid hst2
              have hq' : (enc y == (s.extract 0 (k + 1)).toList) = false := by rw [htl]; exact beq_eq_false_iff_ne.2 hq
              clear hst2 hq htl
              go_wp2_with fail
              have s1 : IntKind.i64.wrap ((k : Int) + 1) = (k : Int) + 1 := IntWalk.i64_in _ (by omega)
              have s2 : ((k : Int) + 1).toNat = k + 1 := by omega
              go_region_with (go_at_call 153; refine (HII.out _).mono ?_; rintro e w1 ⟨rfl, hb⟩)
              clear s1 s2
              go_wp2
              go_ret3
              exact ⟨by rw [HS2.out]; rfl, Below.trans (Below.drew (Below.refl _ _)) hb⟩
          · have hn : unz y = (y : Int) / 2 := by unfold unz; rw [if_neg hodd]; omega
            have HI := fun w => refInt_any ((y : Int) / 2) w (by omega) (by omega)
            rw [← hn, nat64_unz, hn] at HI
            have HII := hid HI
            have HN := hid hn
            clear HI hn
            have htl : (s.extract 0 (k + 1)).toList = s.data.toList.take (k + 1) := by rw [HT.out, Lib.toList_data, mk_data]
            have b1 : (k : Int) + 1 ≤ (s.size : Int) := by omega
            have b2 : (0 : Int) ≤ (k : Int) + 1 := by omega
            by_cases hq : enc y = s.data.toList.take (k + 1)
            · have hst2 := HS.out
              rw [if_pos hq] at hst2
              have HS2 := hid hst2
              have hq' : (enc y == (s.extract 0 (k + 1)).toList) = true := by rw [htl, hq, beq_self_eq_true]
              clear hst2 hq htl
              go_wp2_with fail
              have s1 : IntKind.i64.wrap ((k : Int) + 1) = (k : Int) + 1 := IntWalk.i64_in _ (by omega)
              have s2 : ((k : Int) + 1).toNat = k + 1 := by omega
              go_region_with (go_at_call 153; refine (HII.out _).mono ?_; rintro e w1 ⟨rfl, hb⟩)
              go_wp2
              go_quiet (fail)
              clear s1 s2
              go_wp2
              go_ret3
              exact ⟨by rw [HS2.out, intRes, HN.out, ← HX.out]; rfl, below_drew (Below.trans (Below.drew (Below.refl _ _)) hb) _⟩
            · have hst2 := HS.out
              rw [if_neg hq] at hst2
              have HS2 := hid hst2
              have hq' : (enc y == (s.extract 0 (k + 1)).toList) = false := by rw [htl]; exact beq_eq_false_iff_ne.2 hq
              clear hst2 hq htl
              go_wp2_with fail
              have s1 : IntKind.i64.wrap ((k : Int) + 1) = (k : Int) + 1 := IntWalk.i64_in _ (by omega)
              have s2 : ((k : Int) + 1).toNat = k + 1 := by omega
              go_region_with (go_at_call 153; refine (HII.out _).mono ?_; rintro e w1 ⟨rfl, hb⟩)
              clear s1 s2
              go_wp2
              go_ret3
              exact ⟨by rw [HS2.out]; rfl, Below.trans (Below.drew (Below.refl _ _)) hb⟩
        · rw [if_neg hend] at hst
          have HS := hid hst
          clear hst
          go_wp2_with fail
          go_roundw
          case rel => exact ⟨k + 1, y, by omega, by go_num, rfl, hy, HS, by trivial⟩
          case measure => simp [intOf]; omega
      · rw [if_neg h10] at hst
        have HS := hid hst
        clear hst
        go_wp2_with fail
        go_ret3
        exact ⟨by rw [HS.out]; rfl, Below.refl _ _⟩
    · have hst := hI.out
      rw [List.drop_eq_nil_of_le (by rw [str_len]; omega), toIntR] at hst
      have HS := hid hst
      clear hst
      go_wp2_with fail
      go_ret3
      exact ⟨by rw [HS.out]; rfl, Below.refl _ _⟩
end Go.Proofs.YtpcafkinpkepcaaGreatDoor

