/-
  strconv.ParseUint at base 10 (at most seven digits) and at base 16 (at most six), 32 bits (written by tools/gen11_pu.py).
-/
import Derived.Test.YtbiiaepmemdlgaaDoorXmMc
namespace Go.Proofs.YtbiiaepmemdlgaaDoor
open Go.RowKit
set_option linter.unusedVariables false
set_option maxRecDepth 100000

/-- The byte with its bit 32 laid. -/
def lowN (n : Nat) : Nat := n ||| 32
theorem lowN_all : ∀ n : Fin 256, (97 ≤ n.val ∧ n.val ≤ 122 → lowN n.val = n.val) ∧ (65 ≤ n.val ∧ n.val ≤ 90 → lowN n.val = n.val + 32) ∧ ((97 ≤ lowN n.val ∧ lowN n.val ≤ 122) → (97 ≤ n.val ∧ n.val ≤ 122) ∨ (65 ≤ n.val ∧ n.val ≤ 90)) ∧ lowN n.val < 256 := by decide +kernel
theorem lowN_of {n : Nat} (h : n < 256) : (97 ≤ n ∧ n ≤ 122 → lowN n = n) ∧ (65 ≤ n ∧ n ≤ 90 → lowN n = n + 32) ∧ ((97 ≤ lowN n ∧ lowN n ≤ 122) → (97 ≤ n ∧ n ≤ 122) ∨ (65 ≤ n ∧ n ≤ 90)) ∧ lowN n < 256 := lowN_all ⟨n, h⟩
theorem or_all : ∀ n : Fin 256, bits .or .u8 (n.val : Int) 32 = ((lowN n.val : Nat) : Int) := by decide +kernel
set_option maxHeartbeats 400000 in
theorem lower_any (n : Nat) (h : n < 256) (w : World) : Calls Tryd.prog 85 #[.int .u8 (n : Nat)] w fun e w' => e = .returned (.int .u8 (lowN n : Nat)) ∧ w = w' := by
  have e1 : bits .or .u8 (n : Int) 32 = ((lowN n : Nat) : Int) := or_all ⟨n, h⟩
  generalize lowN n = l at *
  go_enter Tryd.func85, Tryd.ntmps85
  go_wp2
  go_ret
  exact ⟨rfl, rfl⟩
theorem six_nat (c : UInt8) : sixX c = if 48 ≤ c.toNat ∧ c.toNat ≤ 57 then some (c.toNat - 48) else if 97 ≤ c.toNat ∧ c.toNat ≤ 102 then some (c.toNat - 87) else if 65 ≤ c.toNat ∧ c.toNat ≤ 70 then some (c.toNat - 55) else none := by
  unfold sixX digX
  simp [UInt8.le_iff_toNat_le]
/-- The digit of a byte, as the program reads it. -/
theorem digit_kinds (c : UInt8) (b : Nat) (hb : b = 10 ∨ b = 16) : (48 ≤ c.toNat ∧ c.toNat ≤ 57 ∧ ∀ v, digitX b (some v) c = some (b * v + (c.toNat - 48))) ∨
    (¬ (48 ≤ c.toNat ∧ c.toNat ≤ 57) ∧ 97 ≤ lowN c.toNat ∧ lowN c.toNat ≤ 122 ∧ c.toNat ≠ 95 ∧ lowN c.toNat - 87 < b ∧ ∀ v, digitX b (some v) c = some (b * v + (lowN c.toNat - 87))) ∨
    (¬ (48 ≤ c.toNat ∧ c.toNat ≤ 57) ∧ 97 ≤ lowN c.toNat ∧ lowN c.toNat ≤ 122 ∧ c.toNat ≠ 95 ∧ b ≤ lowN c.toNat - 87 ∧ ∀ v, digitX b (some v) c = none) ∨
    (¬ (48 ≤ c.toNat ∧ c.toNat ≤ 57) ∧ ¬ (97 ≤ lowN c.toNat ∧ lowN c.toNat ≤ 122) ∧ ∀ v, digitX b (some v) c = none) := by
  have hc : c.toNat < 256 := c.toNat_lt
  obtain ⟨h1, h2, h3, h4⟩ := lowN_of hc
  have hs := six_nat c
  by_cases hd : 48 ≤ c.toNat ∧ c.toNat ≤ 57
  · left
    refine ⟨hd.1, hd.2, fun v => ?_⟩
    rw [if_pos hd] at hs
    simp only [digitX, hs, Option.bind_some]
    rw [if_pos (by omega)]
  · right
    rw [if_neg hd] at hs
    by_cases ha : 97 ≤ c.toNat ∧ c.toNat ≤ 122
    · have hl := h1 ha
      by_cases hf : c.toNat ≤ 102
      · rw [if_pos ⟨ha.1, hf⟩] at hs
        by_cases hx : c.toNat - 87 < b
        · left
          refine ⟨hd, by omega, by omega, by omega, by omega, fun v => ?_⟩
          simp only [digitX, hs, Option.bind_some]
          rw [if_pos hx, hl]
        · right; left
          refine ⟨hd, by omega, by omega, by omega, by omega, fun v => ?_⟩
          simp only [digitX, hs, Option.bind_some]
          rw [if_neg hx]
      · rw [if_neg (by omega), if_neg (by omega)] at hs
        right; left
        refine ⟨hd, by omega, by omega, by omega, by omega, fun v => ?_⟩
        simp only [digitX, hs, Option.bind_some, Option.bind_none]
    · by_cases hA : 65 ≤ c.toNat ∧ c.toNat ≤ 90
      · have hl := h2 hA
        rw [if_neg (by omega)] at hs
        by_cases hf : c.toNat ≤ 70
        · rw [if_pos ⟨hA.1, hf⟩] at hs
          by_cases hx : c.toNat - 55 < b
          · left
            refine ⟨hd, by omega, by omega, by omega, by omega, fun v => ?_⟩
            simp only [digitX, hs, Option.bind_some]
            rw [if_pos hx, hl]
            congr 2
          · right; left
            refine ⟨hd, by omega, by omega, by omega, by omega, fun v => ?_⟩
            simp only [digitX, hs, Option.bind_some]
            rw [if_neg hx]
        · rw [if_neg (by omega)] at hs
          right; left
          refine ⟨hd, by omega, by omega, by omega, by omega, fun v => ?_⟩
          simp only [digitX, hs, Option.bind_some, Option.bind_none]
      · rw [if_neg (by omega), if_neg (by omega)] at hs
        right; right
        refine ⟨hd, fun hh => ?_, fun v => ?_⟩
        · rcases h3 hh with k | k
          · exact ha k
          · exact hA k
        · simp only [digitX, hs, Option.bind_some, Option.bind_none]
theorem digit_none (b : Nat) (l : List UInt8) : l.foldl (digitX b) none = none := by
  induction l with
  | nil => rfl
  | cons c r ih => exact ih
theorem fold_take (b : Nat) (s : ByteArray) (k : Nat) (h : k < s.size) (v : Option Nat) : (s.data.toList.take (k + 1)).foldl (digitX b) v = digitX b ((s.data.toList.take k).foldl (digitX b) v) s[k] := by
  have e : s.data.toList.take (k + 1) = s.data.toList.take k ++ [s[k]] := by rw [List.take_succ_eq_append_getElem (by simpa using h)]; rfl
  rw [e, List.foldl_append]; rfl
theorem fold_bad (b : Nat) (s : ByteArray) (k : Nat) (h : (s.data.toList.take k).foldl (digitX b) (some 0) = none) : s.data.toList.foldl (digitX b) (some 0) = none := by
  conv => lhs; rw [← List.take_append_drop k s.data.toList]
  rw [List.foldl_append, h, digit_none]
theorem pow_step {b v k e : Nat} (hv : v < b ^ k) (he : e < b) : b * v + e < b ^ (k + 1) := by
  rw [Nat.pow_succ, Nat.mul_comm _ b]
  have h : b * (v + 1) ≤ b * b ^ k := Nat.mul_le_mul_left b hv
  rw [Nat.mul_add] at h
  omega
def puRes (o : Option Nat) : Value := match o with
  | some v => .tuple #[.int .u64 (v : Nat), .nilIface]
  | none => .tuple #[.int .u64 0, .iface 111 (.int .i64 2)]
def PuPost (w : World) (o : Option Nat) (e : Ending) (w' : World) : Prop := e = .returned (puRes o) ∧ Below w.heap.size w w'
theorem size_ne {s : ByteArray} (h : s.size ≠ 0) : s.data.toList ≠ [] := fun e => h (by have : s.data.toList.length = 0 := by rw [e]; rfl
                                                                                        rw [str_len] at this; exact this)

set_option maxHeartbeats 8000000 in
theorem pu10_any (s : ByteArray) (w : World) (hs : s.size ≤ 7) : Calls Tryd.prog 80 #[.string s, .int .i64 10, .int .i64 32] w (PuPost w (digsX 10 s.data.toList)) := by
  by_cases h0 : s.size = 0
  · have hn : s.data.toList = [] := List.length_eq_zero_iff.1 (by rw [str_len]; exact h0)
    have he : s.toList = [] := by rw [Lib.toList_data, hn]
    have he2 : s.toList.isEmpty = true := by rw [he]; rfl
    have HP : Hid (digsX 10 s.data.toList = none) := hid (by rw [hn]; rfl)
    clear hn hs
    go_enter Tryd.func80, Tryd.ntmps80
    go_wp2
    go_ret2
    exact ⟨by rw [HP.out]; rfl, Below.refl _ _⟩
  · have hne := size_ne h0
    have he2 : s.toList.isEmpty = false := by rw [Lib.toList_data]; cases hx : s.data.toList with
      | nil => exact absurd hx hne
      | cons => rfl
    have he3 : (!s.toList.isEmpty) = true := by rw [he2]; rfl
    have he4 : (s.toList == []) = false := by rw [Lib.toList_data]; cases hx : s.data.toList with
      | nil => exact absurd hx hne
      | cons => rfl
    have HP : Hid (digsX 10 s.data.toList = s.data.toList.foldl (digitX 10) (some 0)) := hid (by unfold digsX; rw [if_neg hne])
    obtain ⟨cap, w1, hrun, hrow, hb, hcap, hz⟩ := run_bytes w s
    obtain ⟨hr1, hr2, hr3⟩ := hrow
    have HR := hid hr2
    have HB := hid hb
    have HF := hid (fun k hk => fold_take 10 s k hk (some 0))
    have HX := hid (fun k hk => fold_bad 10 s k hk)
    have HC : Hid (∀ k (hk : k < s.size), s.data.toList[k]? = some (s[k]'hk)) := hid (fun k hk => by simp [hk]; rfl)
    clear hr1 hr2 hr3 hb hz hne hcap
    have hmv : IntKind.u64.wrap (IntKind.u64.wrap 4294967296 - 1) = 4294967295 := by
      rw [IntKind.wrap_u64, IntKind.wrap_u64]
      decide
    go_enter Tryd.func80, Tryd.ntmps80
    go_wp2
    go_loop [12, 13, 101] (fun vu vn vi => ∃ (k v : Nat) (a : Int), vu = .bool false ∧ vn = .int .u64 a ∧ vi = .int .i64 k ∧ k ≤ s.size ∧ Hid (a = (v : Int) ∧ v < 10 ^ k ∧ (s.data.toList.take k).foldl (digitX 10) (some 0) = some v)) (fun _ _ vi => s.size - (intOf vi).toNat)
    case atStart => exact ⟨0, 0, 0, rfl, rfl, rfl, Nat.zero_le _, rfl, by decide, rfl⟩
    case round =>
      obtain ⟨k, v, a, rfl, rfl, rfl, hk, hh⟩ := hrel
      obtain ⟨ha, hv, hI⟩ := hh.out
      clear hh
      by_cases hlt : k < s.size
      · have c1 := HR.out k s[k] (HC.out k hlt)
        have hf := HF.out k hlt
        rw [hI] at hf
        have hc : s[k].toNat < 256 := s[k].toNat_lt
        have HL : Hid (∀ wx, Calls Tryd.prog 85 #[.int .u8 (s[k].toNat : Nat)] wx fun e w' => e = .returned (.int .u8 (lowN s[k].toNat : Nat)) ∧ wx = w') := hid (fun wx => lower_any _ hc wx)
        have hpow : 10 ^ k ≤ 10 ^ 7 := Nat.pow_le_pow_right (by decide) (by omega)
        have hvv : v < 10000000 := Nat.lt_of_lt_of_le hv hpow
        have a0 : 0 ≤ a := by omega
        have a1 : a < 10000000 := by omega
        have hll := (lowN_of hc).2.2.2
        have HBAD : Hid (digitX 10 (some v) s[k] = none → digsX 10 s.data.toList = none) := hid (fun h => HP.out.trans (HX.out (k + 1) (hf.trans h)))
        have hkk := digit_kinds s[k] 10 (by decide)
        rcases hkk with ⟨d1, d2, d3⟩ | ⟨d1, d2, d3, d4, d5, d6⟩ | ⟨d1, d2, d3, d4, d5, d6⟩ | ⟨d1, d2, d3⟩
        · have HN : Hid (a * 10 + ((s[k].toNat : Int) - 48) = ((10 * v + (s[k].toNat - 48) : Nat) : Int) ∧ 10 * v + (s[k].toNat - 48) < 10 ^ (k + 1) ∧ (s.data.toList.take (k + 1)).foldl (digitX 10) (some 0) = some (10 * v + (s[k].toNat - 48))) := hid ⟨by omega, pow_step hv (by omega), hf.trans (d3 v)⟩
          clear d3 hf hv hpow ha hvv hI
          generalize lowN s[k].toNat = lo at *
          generalize hcn : s[k].toNat = c at *
          clear hcn
          go_wp2
          refine ⟨⟨k + 1, 10 * v + (c - 48), a * 10 + ((c : Int) - 48), rfl, (by first | rfl | (congr 1; omega)), (by first | rfl | go_num | (congr 1; omega)), by omega, HN⟩, by simp [intOf]; omega⟩
        · have HN : Hid (a * 10 + ((lowN s[k].toNat : Int) - 97 + 10) = ((10 * v + (lowN s[k].toNat - 87) : Nat) : Int) ∧ 10 * v + (lowN s[k].toNat - 87) < 10 ^ (k + 1) ∧ (s.data.toList.take (k + 1)).foldl (digitX 10) (some 0) = some (10 * v + (lowN s[k].toNat - 87))) := hid ⟨by omega, pow_step hv (by omega), hf.trans (d6 v)⟩
          clear d6 hf hv hpow ha hvv hI
          generalize lowN s[k].toNat = lo at *
          generalize hcn : s[k].toNat = c at *
          clear hcn
          first
            | (exfalso; omega)
            | (have d5' : (lo : Int) - 97 + 10 < 10 := by omega
               clear d5
               go_wp2_with (go_at_call 85; (with_reducible refine (HL.out _).mono ?_); rintro e w' ⟨rfl, rfl⟩)
               all_goals refine ⟨⟨k + 1, 10 * v + (lo - 87), a * 10 + ((lo : Int) - 97 + 10), rfl, (by first | rfl | (congr 1; omega)), (by first | rfl | go_num | (congr 1; omega)), by omega, HN⟩, by simp [intOf]; omega⟩)
        · have HN := hid (HBAD.out (d6 v))
          clear d6 hf hv hpow ha hvv hI
          generalize lowN s[k].toNat = lo at *
          generalize hcn : s[k].toNat = c at *
          clear hcn
          have d5' : 10 ≤ (lo : Int) - 97 + 10 := by omega
          clear d5
          go_wp2_with (go_at_call 85; (with_reducible refine (HL.out _).mono ?_); rintro e w' ⟨rfl, rfl⟩)
          all_goals (go_ret2; exact ⟨by rw [HN.out]; rfl, HB.out⟩)
        · have HN := hid (HBAD.out (d3 v))
          clear d3 hf hv hpow ha hvv hI
          by_cases h95 : s[k].toNat = 95
          · have HL5 : Hid (∀ wx, Calls Tryd.prog 85 #[.int .u8 95] wx fun e w' => e = .returned (.int .u8 127) ∧ wx = w') := hid (fun wx => lower_any 95 (by decide) wx)
            rw [h95] at c1
            clear h95 hc hll d1 d2 HL
            go_wp2_with (go_at_call 85; (with_reducible refine (HL5.out _).mono ?_); rintro e w' ⟨rfl, rfl⟩)
            all_goals (go_ret2; exact ⟨by rw [HN.out]; rfl, HB.out⟩)
          · generalize lowN s[k].toNat = lo at *
            generalize hcn : s[k].toNat = c at *
            clear hcn
            go_wp2_with (go_at_call 85; (with_reducible refine (HL.out _).mono ?_); rintro e w' ⟨rfl, rfl⟩)
            all_goals (go_ret2; exact ⟨by rw [HN.out]; rfl, HB.out⟩)
      · obtain rfl : k = s.size := by omega
        have HN : Hid (digsX 10 s.data.toList = some v) := hid (by rw [HP.out, ← hI, List.take_of_length_le (by rw [str_len]; exact Nat.le_refl _)])
        subst ha
        have hkd : decide (s.size < s.size) = false := by simp
        clear hv hI
        go_wp2
        go_ret2
        exact ⟨by rw [HN.out]; rfl, HB.out⟩

set_option maxHeartbeats 8000000 in
theorem pu16_any (s : ByteArray) (w : World) (hs : s.size ≤ 6) : Calls Tryd.prog 80 #[.string s, .int .i64 16, .int .i64 32] w (PuPost w (digsX 16 s.data.toList)) := by
  by_cases h0 : s.size = 0
  · have hn : s.data.toList = [] := List.length_eq_zero_iff.1 (by rw [str_len]; exact h0)
    have he : s.toList = [] := by rw [Lib.toList_data, hn]
    have he2 : s.toList.isEmpty = true := by rw [he]; rfl
    have HP : Hid (digsX 16 s.data.toList = none) := hid (by rw [hn]; rfl)
    clear hn hs
    go_enter Tryd.func80, Tryd.ntmps80
    go_wp2
    go_ret2
    exact ⟨by rw [HP.out]; rfl, Below.refl _ _⟩
  · have hne := size_ne h0
    have he2 : s.toList.isEmpty = false := by rw [Lib.toList_data]; cases hx : s.data.toList with
      | nil => exact absurd hx hne
      | cons => rfl
    have he3 : (!s.toList.isEmpty) = true := by rw [he2]; rfl
    have he4 : (s.toList == []) = false := by rw [Lib.toList_data]; cases hx : s.data.toList with
      | nil => exact absurd hx hne
      | cons => rfl
    have HP : Hid (digsX 16 s.data.toList = s.data.toList.foldl (digitX 16) (some 0)) := hid (by unfold digsX; rw [if_neg hne])
    obtain ⟨cap, w1, hrun, hrow, hb, hcap, hz⟩ := run_bytes w s
    obtain ⟨hr1, hr2, hr3⟩ := hrow
    have HR := hid hr2
    have HB := hid hb
    have HF := hid (fun k hk => fold_take 16 s k hk (some 0))
    have HX := hid (fun k hk => fold_bad 16 s k hk)
    have HC : Hid (∀ k (hk : k < s.size), s.data.toList[k]? = some (s[k]'hk)) := hid (fun k hk => by simp [hk]; rfl)
    clear hr1 hr2 hr3 hb hz hne hcap
    have hmv : IntKind.u64.wrap (IntKind.u64.wrap 4294967296 - 1) = 4294967295 := by
      rw [IntKind.wrap_u64, IntKind.wrap_u64]
      decide
    go_enter Tryd.func80, Tryd.ntmps80
    go_wp2
    go_loop [12, 13, 101] (fun vu vn vi => ∃ (k v : Nat) (a : Int), vu = .bool false ∧ vn = .int .u64 a ∧ vi = .int .i64 k ∧ k ≤ s.size ∧ Hid (a = (v : Int) ∧ v < 16 ^ k ∧ (s.data.toList.take k).foldl (digitX 16) (some 0) = some v)) (fun _ _ vi => s.size - (intOf vi).toNat)
    case atStart => exact ⟨0, 0, 0, rfl, rfl, rfl, Nat.zero_le _, rfl, by decide, rfl⟩
    case round =>
      obtain ⟨k, v, a, rfl, rfl, rfl, hk, hh⟩ := hrel
      obtain ⟨ha, hv, hI⟩ := hh.out
      clear hh
      by_cases hlt : k < s.size
      · have c1 := HR.out k s[k] (HC.out k hlt)
        have hf := HF.out k hlt
        rw [hI] at hf
        have hc : s[k].toNat < 256 := s[k].toNat_lt
        have HL : Hid (∀ wx, Calls Tryd.prog 85 #[.int .u8 (s[k].toNat : Nat)] wx fun e w' => e = .returned (.int .u8 (lowN s[k].toNat : Nat)) ∧ wx = w') := hid (fun wx => lower_any _ hc wx)
        have hpow : 16 ^ k ≤ 16 ^ 6 := Nat.pow_le_pow_right (by decide) (by omega)
        have hvv : v < 16777216 := Nat.lt_of_lt_of_le hv hpow
        have a0 : 0 ≤ a := by omega
        have a1 : a < 16777216 := by omega
        have hll := (lowN_of hc).2.2.2
        have HBAD : Hid (digitX 16 (some v) s[k] = none → digsX 16 s.data.toList = none) := hid (fun h => HP.out.trans (HX.out (k + 1) (hf.trans h)))
        have hkk := digit_kinds s[k] 16 (by decide)
        rcases hkk with ⟨d1, d2, d3⟩ | ⟨d1, d2, d3, d4, d5, d6⟩ | ⟨d1, d2, d3, d4, d5, d6⟩ | ⟨d1, d2, d3⟩
        · have HN : Hid (a * 16 + ((s[k].toNat : Int) - 48) = ((16 * v + (s[k].toNat - 48) : Nat) : Int) ∧ 16 * v + (s[k].toNat - 48) < 16 ^ (k + 1) ∧ (s.data.toList.take (k + 1)).foldl (digitX 16) (some 0) = some (16 * v + (s[k].toNat - 48))) := hid ⟨by omega, pow_step hv (by omega), hf.trans (d3 v)⟩
          clear d3 hf hv hpow ha hvv hI
          generalize lowN s[k].toNat = lo at *
          generalize hcn : s[k].toNat = c at *
          clear hcn
          go_wp2
          refine ⟨⟨k + 1, 16 * v + (c - 48), a * 16 + ((c : Int) - 48), rfl, (by first | rfl | (congr 1; omega)), (by first | rfl | go_num | (congr 1; omega)), by omega, HN⟩, by simp [intOf]; omega⟩
        · have HN : Hid (a * 16 + ((lowN s[k].toNat : Int) - 97 + 10) = ((16 * v + (lowN s[k].toNat - 87) : Nat) : Int) ∧ 16 * v + (lowN s[k].toNat - 87) < 16 ^ (k + 1) ∧ (s.data.toList.take (k + 1)).foldl (digitX 16) (some 0) = some (16 * v + (lowN s[k].toNat - 87))) := hid ⟨by omega, pow_step hv (by omega), hf.trans (d6 v)⟩
          clear d6 hf hv hpow ha hvv hI
          generalize lowN s[k].toNat = lo at *
          generalize hcn : s[k].toNat = c at *
          clear hcn
          first
            | (exfalso; omega)
            | (have d5' : (lo : Int) - 97 + 10 < 16 := by omega
               clear d5
               go_wp2_with (go_at_call 85; (with_reducible refine (HL.out _).mono ?_); rintro e w' ⟨rfl, rfl⟩)
               all_goals refine ⟨⟨k + 1, 16 * v + (lo - 87), a * 16 + ((lo : Int) - 97 + 10), rfl, (by first | rfl | (congr 1; omega)), (by first | rfl | go_num | (congr 1; omega)), by omega, HN⟩, by simp [intOf]; omega⟩)
        · have HN := hid (HBAD.out (d6 v))
          clear d6 hf hv hpow ha hvv hI
          generalize lowN s[k].toNat = lo at *
          generalize hcn : s[k].toNat = c at *
          clear hcn
          have d5' : 16 ≤ (lo : Int) - 97 + 10 := by omega
          clear d5
          go_wp2_with (go_at_call 85; (with_reducible refine (HL.out _).mono ?_); rintro e w' ⟨rfl, rfl⟩)
          all_goals (go_ret2; exact ⟨by rw [HN.out]; rfl, HB.out⟩)
        · have HN := hid (HBAD.out (d3 v))
          clear d3 hf hv hpow ha hvv hI
          by_cases h95 : s[k].toNat = 95
          · have HL5 : Hid (∀ wx, Calls Tryd.prog 85 #[.int .u8 95] wx fun e w' => e = .returned (.int .u8 127) ∧ wx = w') := hid (fun wx => lower_any 95 (by decide) wx)
            rw [h95] at c1
            clear h95 hc hll d1 d2 HL
            go_wp2_with (go_at_call 85; (with_reducible refine (HL5.out _).mono ?_); rintro e w' ⟨rfl, rfl⟩)
            all_goals (go_ret2; exact ⟨by rw [HN.out]; rfl, HB.out⟩)
          · generalize lowN s[k].toNat = lo at *
            generalize hcn : s[k].toNat = c at *
            clear hcn
            go_wp2_with (go_at_call 85; (with_reducible refine (HL.out _).mono ?_); rintro e w' ⟨rfl, rfl⟩)
            all_goals (go_ret2; exact ⟨by rw [HN.out]; rfl, HB.out⟩)
      · obtain rfl : k = s.size := by omega
        have HN : Hid (digsX 16 s.data.toList = some v) := hid (by rw [HP.out, ← hI, List.take_of_length_le (by rw [str_len]; exact Nat.le_refl _)])
        subst ha
        have hkd : decide (s.size < s.size) = false := by simp
        clear hv hI
        go_wp2
        go_ret2
        exact ⟨by rw [HN.out]; rfl, HB.out⟩
end Go.Proofs.YtbiiaepmemdlgaaDoor
