/-
  LAYER 14 (shard), THE PROGRAM: Name, Hash, Of.
-/
import Derived.Test.YtnbghghkahaenaaShRef
import Derived.Lib.ConvBytes
namespace Go.Proofs.Ytnbghghkahaenaa
open Go.RowKit
set_option linter.unusedVariables false
set_option maxRecDepth 100000

/-- []byte(s). -/
theorem run_bytes14 (w : World) (s : ByteArray) :
    ∃ cap w', (convert 9 35 (.string s)).run Try.prog w = .ok (.slice (some ⟨w.heap.size, 0, none⟩) s.size cap) w' ∧ (∀ k (h : k < s.size), w'.cell? ⟨w.heap.size, k, none⟩ = some (.int .u8 s[k].toNat)) ∧ Below w.heap.size w w' ∧ s.size ≤ cap := by
  refine ⟨_, _, Lib.run_convert_string_bytes (P := Try.prog) w 9 35 5 s Try.underlying9 Try.underlying35 Try.underlying5, fun j hlt => ?_, ⟨rfl, rfl, rfl, by rw [Lib.bytesWorld_size]; omega, fun k hk => Lib.bytesWorld_at_old w _ s k hk⟩, ?_⟩
  · rw [Lib.bytesWorld_cell w _ s j hlt]
    have hj : s.data.toList[j]? = some s[j] := by
      rw [List.getElem?_eq_getElem (by simpa using hlt)]; rfl
    simp [List.getD, hj]
  · exact grownCap_ge _ _ _ _
set_option maxHeartbeats 4000000 in
theorem shHash_any (w : World) (s : ByteArray) (hs : s.size ≤ 1000000000) : Calls Try.prog 11 #[.string s] w fun e w' => e = .returned (.int .u32 (hashL s.data.toList : Nat)) ∧ Below w.heap.size w w' := by
  obtain ⟨H, hH⟩ : ∃ H, hashL s.data.toList = H := ⟨_, rfl⟩
  rw [hH]
  have HH := hid hH
  clear hH
  obtain ⟨cap, w1, hrun, hc, hb1, hcap⟩ := run_bytes14 w s
  have HC := hid hc
  have HB := hid hb1
  clear hc hb1
  go_enter Try.func11, Try.ntmps11
  go_wp2
  go_loop [3, 9] (fun h i => ∃ k : Nat, k ≤ s.size ∧ i = .int .i64 k ∧ h = .int .u32 (hashL (s.data.toList.take k) : Nat)) (fun _ i => s.size - (intOf i).toNat)
  case atStart => exact ⟨0, Nat.zero_le _, rfl, rfl⟩
  case round =>
    obtain ⟨k, hk, rfl, rfl⟩ := hrel
    have hx := hashL_lt (s.data.toList.take k)
    by_cases hlt : k < s.size
    · have hst1 : hashL (s.data.toList.take (k + 1)) = hst (hashL (s.data.toList.take k)) s[k] := by rw [take_snocL s k hlt, hashL_snoc]
      have c0 := HC.out k hlt
      generalize hashL (s.data.toList.take k) = x at hx hst1
      have hc : s[k].toNat < 256 := s[k].toNat_lt
      have hx1 : x ^^^ s[k].toNat < 4294967296 := Nat.xor_lt_two_pow (n := 32) hx (by omega)
      have e1 : bits .xor .u32 (x : Int) (s[k].toNat : Int) = ((x ^^^ s[k].toNat : Nat) : Int) := u32_xor_nat _ _ (by omega) (by omega)
      unfold hst at hst1
      generalize hr : x ^^^ s[k].toNat = r at *
      have HS : Hid (((hashL (s.data.toList.take (k + 1)) : Nat) : Int) = (r : Int) * 16777619 % 4294967296) := hid (by rw [hst1]; omega)
      clear hst1 hr
      go_wp2
      go_round
      case rel => exact ⟨k + 1, by omega, by go_num, by rw [HS.out]⟩
      case measure => simp [intOf]; omega
    · obtain rfl : k = s.size := by omega
      rw [List.take_of_length_le (by simp), HH.out] at hx ⊢
      go_wp2
      go_ret
      exact ⟨rfl, HB.out⟩
set_option maxHeartbeats 4000000 in
theorem shOf_any (w : World) (s : ByteArray) (hs : s.size ≤ 1000000000) : Calls Try.prog 13 #[.string s] w fun e w' => e = .returned (.int .i64 (ofL s : Nat)) ∧ Below w.heap.size w w' := by
  have C1 := hid (shHash_any w s hs)
  have hx := hashL_lt s.data.toList
  unfold ofL
  generalize hashL s.data.toList = x at *
  go_enter Try.func13, Try.ntmps13
  go_wp2_with (go_at_call 11; (with_reducible refine C1.out.mono ?_); rintro e w1 ⟨rfl, hb⟩)
  go_ret
  exact ⟨by first | rfl | (push_cast; rfl), hb⟩
set_option maxHeartbeats 4000000 in
theorem shName_any (w : World) (s : ByteArray) (hs : s.size ≤ 1000000000) : Calls Try.prog 9 #[.string s] w fun e w' => e = .returned (.bool (nameL s.data.toList)) ∧ Below w.heap.size w w' := by
  obtain ⟨b, hb⟩ : ∃ b, nameL s.data.toList = b := ⟨_, rfl⟩
  rw [hb]
  have HB : Hid (((s.data.toList.all nameOk && decide (1 ≤ s.size)) && decide (s.size ≤ 60)) = b) := hid (by rw [← hb]; unfold nameL; rw [show s.data.toList.length = s.size by simp])
  clear hb
  obtain ⟨cap, w1, hrun, hc, hb1, hcap⟩ := run_bytes14 w s
  have HC := hid hc
  have HW := hid hb1
  clear hc hb1
  by_cases h1 : 1 ≤ s.size
  · have q1 : (s.toList == []) = false := by
      apply beq_false_of_ne
      intro e
      have := congrArg List.length e
      rw [List.length_nil] at this
      have h2 : s.toList.length = s.size := by rw [Lib.toList_data]; simp
      omega
    by_cases h2 : s.size ≤ 60
    · have q2 : ¬ (60 : Int) < (s.size : Int) := by omega
      have hbb := HB.out
      rw [decide_eq_true h1, decide_eq_true h2, Bool.and_true, Bool.and_true] at hbb
      have HB2 := hid hbb
      clear hbb HB
      go_enter Try.func9, Try.ntmps9
      go_wp2
      go_loop [15] (fun i => ∃ k : Nat, k ≤ s.size ∧ i = .int .i64 k ∧ Hid ((s.data.toList.take k).all nameOk = true)) (fun i => s.size - (intOf i).toNat)
      case atStart => exact ⟨0, Nat.zero_le _, rfl, hid rfl⟩
      case round =>
        obtain ⟨k, hk, rfl, hq⟩ := hrel
        by_cases hlt : k < s.size
        · have hm := all_more s k hlt
          rw [hq.out, Bool.true_and] at hm
          have c0 := HC.out k hlt
          have hnn : (s.data.toList.all nameOk) = true → nameOk s[k] = true := fun h => by
            exact List.all_eq_true.1 h _ (show s[k] ∈ s.data.toList from by rw [show s[k] = s.data.toList[k]'(by simpa using hlt) from rfl]; exact List.getElem_mem _)
          have hok : nameOk s[k] = (decide (33 ≤ s[k].toNat) && decide (s[k].toNat ≤ 126)) := rfl
          have hc : s[k].toNat < 256 := s[k].toNat_lt
          generalize hr : s[k].toNat = c at *
          by_cases h1 : c < 33
          · have hf : nameOk s[k] = false := by rw [hok, decide_eq_false (by omega)]; rfl
            obtain rfl : b = false := HB2.out.symm.trans (by
              cases hx : s.data.toList.all nameOk with
              | false => rfl
              | true => rw [hnn hx] at hf; cases hf)
            have r1 : (c : Int) < 33 := by omega
            clear hm hnn hok hf
            go_wp2
            go_ret
            exact ⟨rfl, HW.out⟩
          · have r1 : ¬ (c : Int) < 33 := by omega
            by_cases h2 : 126 < c
            · have hf : nameOk s[k] = false := by rw [hok, decide_eq_false (by omega : ¬ c ≤ 126), Bool.and_false]
              obtain rfl : b = false := HB2.out.symm.trans (by
                cases hx : s.data.toList.all nameOk with
                | false => rfl
                | true => rw [hnn hx] at hf; cases hf)
              have r2 : (126 : Int) < (c : Int) := by omega
              clear hm hnn hok hf
              go_wp2
              go_ret
              exact ⟨rfl, HW.out⟩
            · have r2 : ¬ (126 : Int) < (c : Int) := by omega
              have hf : nameOk s[k] = true := by rw [hok, decide_eq_true (by omega : 33 ≤ c), decide_eq_true (by omega : c ≤ 126)]; rfl
              have HM : Hid ((s.data.toList.take (k + 1)).all nameOk = true) := hid (hm.trans hf)
              clear hm hnn hok hf
              go_wp2
              go_round
              case rel => exact ⟨k + 1, by omega, by go_num, HM⟩
              case measure => simp [intOf]; omega
        · obtain rfl : k = s.size := by omega
          have hqq := hq.out
          rw [List.take_of_length_le (by simp), HB2.out] at hqq
          subst hqq
          clear hq
          go_wp2
          go_ret
          exact ⟨rfl, HW.out⟩
    · have q2 : (60 : Int) < (s.size : Int) := by omega
      have hbb := HB.out
      rw [decide_eq_false h2, Bool.and_false] at hbb
      subst hbb
      go_enter Try.func9, Try.ntmps9
      go_wp2
      go_ret
      exact ⟨rfl, Below.refl _ _⟩
  · have q1 : (s.toList == []) = true := by
      have h2 : s.toList.length = s.size := by rw [Lib.toList_data]; simp
      rw [List.length_eq_zero_iff.1 (by omega : s.toList.length = 0)]
      rfl
    have hbb := HB.out
    rw [decide_eq_false h1, Bool.and_false, Bool.false_and] at hbb
    subst hbb
    go_enter Try.func9, Try.ntmps9
    go_wp2
    go_ret
    exact ⟨rfl, Below.refl _ _⟩
end Go.Proofs.Ytnbghghkahaenaa
