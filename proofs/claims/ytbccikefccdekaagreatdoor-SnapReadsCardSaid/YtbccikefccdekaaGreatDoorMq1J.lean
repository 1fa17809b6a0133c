import Derived.Test.YtbccikefccdekaaGreatDoorMq0J
import Derived.Maps.RangeWalk
import Derived.Test.YtbccikefccdekaaGreatDoorProg
import Derived.Shelf.Strconv.Itoa3
import Derived.Shelf.Strconv.AtoiAll
import Derived.WalkLawsBesides
import Derived.Lib.ItoaLen
/-
  LAYER 1: words of four bytes; frames.
-/
namespace Go.Proofs.YtbccikefccdekaaGreatDoor
open Go.RowKit
set_option linter.unusedVariables false
set_option maxRecDepth 100000

theorem word_row (w : World) (n : Nat) (hn : n < 4294967296) :
    (convert 33 9 (.slice (some ⟨w.heap.size, 0, none⟩) 4 4)).run Tryz.prog (w.alloc (.cells #[.int .u8 ((n : Int) / 16777216), .int .u8 ((n : Int) / 65536 % 256), .int .u8 ((n : Int) / 256 % 256), .int .u8 ((n : Int) % 256)] 5)) =
      .ok (.string (mk (word n))) (w.alloc (.cells #[.int .u8 ((n : Int) / 16777216), .int .u8 ((n : Int) / 65536 % 256), .int .u8 ((n : Int) / 256 % 256), .int .u8 ((n : Int) % 256)] 5)) := by
  refine run_string (l := word n) rfl ?_
  intro j c hj
  have hh : (w.alloc (.cells #[.int .u8 ((n : Int) / 16777216), .int .u8 ((n : Int) / 65536 % 256), .int .u8 ((n : Int) / 256 % 256), .int .u8 ((n : Int) % 256)] 5)).heap[w.heap.size]? = _ := heap_alloc_new w _
  rw [Lib.cell_of_heap hh]
  match j, hj with
  | 0, hj => simp [word] at hj; subst hj; rw [ofNat_toNat (by omega)]; simp
  | 1, hj => simp [word] at hj; subst hj; simp
  | 2, hj => simp [word] at hj; subst hj; simp
  | 3, hj => simp [word] at hj; subst hj; simp
  | j + 4, hj => simp [word] at hj

set_option maxHeartbeats 1000000 in
set_option maxRecDepth 100000 in
theorem word_any (n : Nat) (w : World) (hn : n < 4294967296) :
    Calls Tryz.prog 106 #[.int .u32 n] w fun e w' => e = .returned (.string (mk (word n))) ∧ Below w.heap.size w w' := by
  have hrs := word_row w n hn
  go_enter Tryz.func106, Tryz.ntmps106
  go_wp2
  go_ret
  exact ⟨rfl, Below.alloc (Below.refl _ _) (Nat.le_refl _) _⟩
set_option maxHeartbeats 1000000 in
set_option maxRecDepth 100000 in
theorem four_any (n : Nat) (w : World) (hn : n < 4294967296) :
    Calls Tryz.prog 79 #[.int .u32 n] w fun e w' => e = .returned (.string (mk (word n))) ∧ Below w.heap.size w w' := by
  have hrs := word_row w n hn
  go_enter Tryz.func79, Tryz.ntmps79
  go_wp2
  go_ret
  exact ⟨rfl, Below.alloc (Below.refl _ _) (Nat.le_refl _) _⟩
theorem be_bits (a b c d : Nat) (ha : a < 256) (hb : b < 256) (hc : c < 256) (hd : d < 256) :
    bits .or .u32 (bits .or .u32 (bits .or .u32 ((a : Int) % 4294967296 * 16777216 % 4294967296) ((b : Int) % 4294967296 * 65536 % 4294967296)) ((c : Int) % 4294967296 * 256 % 4294967296)) ((d : Int) % 4294967296) = ((16777216 * a + 65536 * b + 256 * c + d : Nat) : Int) := by
  rw [show (a : Int) % 4294967296 * 16777216 % 4294967296 = ((16777216 * a : Nat) : Int) by omega, show (b : Int) % 4294967296 * 65536 % 4294967296 = ((65536 * b : Nat) : Int) by omega,
    show (c : Int) % 4294967296 * 256 % 4294967296 = ((256 * c : Nat) : Int) by omega, show (d : Int) % 4294967296 = ((d : Nat) : Int) by omega]
  rw [u32_or_nat _ _ (by omega) (by omega), nat_join 24 (16777216 * a) (65536 * b) (by omega) (by omega)]
  rw [u32_or_nat _ _ (by omega) (by omega), nat_join 16 (16777216 * a + 65536 * b) (256 * c) (by omega) (by omega)]
  rw [u32_or_nat _ _ (by omega) (by omega), nat_join 8 (16777216 * a + 65536 * b + 256 * c) d (by omega) (by omega)]

theorem toWordL_get (s : ByteArray) (h0 : 0 < s.size) (h1 : 1 < s.size) (h2 : 2 < s.size) (h3 : 3 < s.size) :
    toWordL s.data.toList = 16777216 * s[0].toNat + 65536 * s[1].toNat + 256 * s[2].toNat + s[3].toNat := by
  obtain ⟨a, b, c, d, r, hr⟩ := four_of (l := s.data.toList) (by rw [str_len]; omega)
  have : s = mk (a :: b :: c :: d :: r) := str_ext (by rw [hr]; rfl)
  subst this
  rfl

set_option maxHeartbeats 1000000 in
set_option maxRecDepth 100000 in
theorem toWord_any (s : ByteArray) (w : World) (hs : 4 ≤ s.size) (hm : s.size ≤ 9223372036854775807) :
    Calls Tryz.prog 81 #[.string s] w fun e w' => e = .returned (.int .u32 (toWordL s.data.toList)) ∧ ∃ m, w' = w.drewN m := by
  have h0 : 0 < s.size := by omega
  have h1 : 1 < s.size := by omega
  have h2 : 2 < s.size := by omega
  have h3 : 3 < s.size := by omega
  have i0 : (0 : Int) < s.size := by omega
  have i1 : (1 : Int) < s.size := by omega
  have i2 : (2 : Int) < s.size := by omega
  have i3 : (3 : Int) < s.size := by omega
  have HW := hid (toWordL_get s h0 h1 h2 h3)
  have HB := hid (be_bits s[0].toNat s[1].toNat s[2].toNat s[3].toNat s[0].toNat_lt s[1].toNat_lt s[2].toNat_lt s[3].toNat_lt)
  go_enter Tryz.func81, Tryz.ntmps81
  go_wp2
  go_quiet (fail)
  go_wp2
  go_ret
  exact ⟨by rw [HW.out, ← HB.out]; rfl, _, rfl⟩

set_option maxHeartbeats 1000000 in
set_option maxRecDepth 100000 in
theorem frame_any (s : ByteArray) (w : World) (hs : s.size ≤ 65536) (hT : Steps w) (h0 : 0 < w.heap.size) :
    Calls Tryz.prog 74 #[.string s] w fun e w' => e = .returned (.tuple #[.string (mk (frameL s.data.toList)), .int .i64 0]) ∧ Below w.heap.size w w' := by
  have z1 := mk_size (word s.size)
  rw [word_length] at z1
  have hcrc : crc (mk (word s.size) ++ s).data.toList = crc (word s.data.toList.length ++ s.data.toList) := by rw [append_data, mk_data, str_len]
  have HC := hid hcrc
  have hcl := crc_lt (word s.data.toList.length ++ s.data.toList)
  have hfr : mk (word s.size) ++ mk (word (crc (word s.data.toList.length ++ s.data.toList))) ++ s = mk (frameL s.data.toList) := by
    apply str_ext; rw [append_data, append_data]; rfl
  have HF := hid hfr
  have z2 := mk_size (word (crc (word s.data.toList.length ++ s.data.toList)))
  rw [word_length] at z2
  clear hcrc hfr
  generalize crc (word s.data.toList.length ++ s.data.toList) = c at *
  go_enter Tryz.func74, Tryz.ntmps74
  go_wp2_with (first
    | (go_at_call 82; refine (crc_any _ _ (by rw [ByteArray.size_append, z1]; unfold maxLen; omega) (hT.below hb h0)).mono ?_; rw [HC.out]; rintro e w2 ⟨rfl, rfl⟩)
    | (go_at_call 106; first | ((with_reducible refine (word_any s.size _ (by omega)).mono ?_); rintro e w1 ⟨rfl, hb⟩) | ((with_reducible refine (word_any c _ hcl).mono ?_); rintro e w3 ⟨rfl, hb3⟩)))
  go_ret2
  exact ⟨by rw [← HF.out]; rfl, hb.trans (hb3.mono hb.size)⟩

theorem frame_long (s : ByteArray) (w : World) (hs : 65536 < s.size) (hm : s.size ≤ maxLen) :
    Calls Tryz.prog 74 #[.string s] w fun e w' => e = .returned (.tuple #[.string ⟨#[]⟩, .int .i64 10]) ∧ w = w' := by
  unfold maxLen at hm
  go_enter Tryz.func74, Tryz.ntmps74
  go_wp2
  go_ret2
  exact ⟨rfl, rfl⟩
theorem refFrame_long (s : ByteArray) (w : World) (hs : 65536 < s.size) (hm : s.size ≤ maxLen) :
    Calls Tryz.prog 51 #[.string s] w fun e w' => e = .returned (.tuple #[.string ⟨#[]⟩, .int .i64 10]) ∧ w = w' := by
  unfold maxLen at hm
  go_enter Tryz.func51, Tryz.ntmps51
  go_wp2
  go_ret2
  exact ⟨rfl, rfl⟩

set_option maxHeartbeats 1000000 in
set_option maxRecDepth 100000 in
theorem refFrame_any (s : ByteArray) (w : World) (hs : s.size ≤ 65536) :
    Calls Tryz.prog 51 #[.string s] w fun e w' => e = .returned (.tuple #[.string (mk (frameL s.data.toList)), .int .i64 0]) ∧ Below w.heap.size w w' := by
  have z1 := mk_size (word s.size)
  rw [word_length] at z1
  have hcrc : crc (mk (word s.size) ++ s).data.toList = crc (word s.data.toList.length ++ s.data.toList) := by rw [append_data, mk_data, str_len]
  have HC := hid hcrc
  have hcl := crc_lt (word s.data.toList.length ++ s.data.toList)
  have hfr : mk (word s.size) ++ mk (word (crc (word s.data.toList.length ++ s.data.toList))) ++ s = mk (frameL s.data.toList) := by
    apply str_ext; rw [append_data, append_data]; rfl
  have HF := hid hfr
  have z2 := mk_size (word (crc (word s.data.toList.length ++ s.data.toList)))
  rw [word_length] at z2
  clear hcrc hfr
  generalize crc (word s.data.toList.length ++ s.data.toList) = c at *
  go_enter Tryz.func51, Tryz.ntmps51
  go_wp2_with (first
    | (go_at_call 80; refine (refCrc_any _ _ (by rw [ByteArray.size_append, z1]; unfold maxLen; omega)).mono ?_; rw [HC.out]; rintro e w2 ⟨rfl, rfl⟩)
    | (go_at_call 79; first | ((with_reducible refine (four_any s.size _ (by omega)).mono ?_); rintro e w1 ⟨rfl, hb⟩) | ((with_reducible refine (four_any c _ hcl).mono ?_); rintro e w3 ⟨rfl, hb3⟩)))
  go_ret2
  exact ⟨by rw [← HF.out]; rfl, hb.trans (hb3.mono hb.size)⟩

/-- What Unframe returns. -/
def unfrRes (l : List UInt8) : Value := .tuple #[.string (mk (unframe l).1), .int .i64 (unframe l).2.1, .int .i64 (unframe l).2.2]

set_option maxHeartbeats 2000000 in
set_option maxRecDepth 100000 in
theorem unframe_any (s : ByteArray) (w : World) (hs : s.size ≤ maxLen) (hT : Steps w) :
    Calls Tryz.prog 52 #[.string s] w fun e w' => e = .returned (unfrRes s.data.toList) ∧ Below w.heap.size w w' := by
  unfold maxLen at hs
  by_cases h4 : s.size < 4
  · have HU : Hid (unframe s.data.toList = ([], 0, 8)) := hid (by unfold unframe; rw [str_len, if_pos h4])
    go_enter Tryz.func52, Tryz.ntmps52
    go_wp2
    go_ret3
    exact ⟨by rw [unfrRes, HU.out]; rfl, Below.refl _ _⟩
  · have hTW := hid (fun w => toWord_any s w (by omega) (by omega))
    have hn := toWordL_lt s.data.toList
    by_cases hlong : 65536 < toWordL s.data.toList
    · have HU : Hid (unframe s.data.toList = ([], 0, 10)) := hid (by unfold unframe; rw [str_len, if_neg h4, if_pos hlong])
      generalize toWordL s.data.toList = n at *
      go_enter Tryz.func52, Tryz.ntmps52
      go_wp2_with (go_at_call 81; refine (hTW.out _).mono ?_; rintro e w1 ⟨rfl, hm⟩)
      go_ret3
      obtain ⟨m, rfl⟩ := hm
      exact ⟨by rw [unfrRes, HU.out]; rfl, below_drew (Below.refl _ _) _⟩
    · by_cases hshort : s.size < 8 + toWordL s.data.toList
      · have HU : Hid (unframe s.data.toList = ([], 0, 8)) := hid (by unfold unframe; rw [str_len, if_neg h4, if_neg hlong, if_pos hshort])
        generalize toWordL s.data.toList = n at *
        go_enter Tryz.func52, Tryz.ntmps52
        go_wp2_with (go_at_call 81; refine (hTW.out _).mono ?_; rintro e w1 ⟨rfl, hm⟩)
        go_ret3
        obtain ⟨m, rfl⟩ := hm
        exact ⟨by rw [unfrRes, HU.out]; rfl, below_drew (Below.refl _ _) _⟩
      · have hst : unframe s.data.toList = if crc (s.data.toList.take 4 ++ (s.data.toList.drop 8).take (toWordL s.data.toList)) ≠ toWordL (s.data.toList.drop 4) then ([], 0, 9) else ((s.data.toList.drop 8).take (toWordL s.data.toList), 8 + toWordL s.data.toList, 0) := by
          unfold unframe; rw [str_len, if_neg h4, if_neg hlong, if_neg hshort]
        have HS := hid hst
        clear hst
        generalize toWordL s.data.toList = n at *
        have l8 := fun wx => slice_lh (s := s) (lo := 8) (hi := 8 + (n : Int)) (l := (s.data.toList.drop 8).take n) (by omega) (by omega) (by omega) (by congr 1; omega) wx
        have l4 := fun wx => slice_l (s := s) (lo := 4) (l := s.data.toList.drop 4) (by omega) (by omega) rfl wx
        have l0 := fun wx => slice_h (s := s) (hi := 4) (l := s.data.toList.take 4) (by omega) (by omega) rfl wx
        have z8 : (mk ((s.data.toList.drop 8).take n)).size ≤ 65536 := by rw [mk_size, List.length_take]; omega
        have z0 : (mk (s.data.toList.take 4)).size ≤ 4 := by rw [mk_size, List.length_take]; omega
        have z4 : 4 ≤ (mk (s.data.toList.drop 4)).size ∧ (mk (s.data.toList.drop 4)).size ≤ 9223372036854775807 := by rw [mk_size, List.length_drop, str_len]; omega
        have hC := fun w (h : Steps w) => crc_any (mk (s.data.toList.take 4) ++ mk ((s.data.toList.drop 8).take n)) w (by rw [ByteArray.size_append]; unfold maxLen; omega) h
        rw [mk_append, mk_data] at hC
        rw [← mk_append] at hC
        have hW4 := fun w => toWord_any (mk (s.data.toList.drop 4)) w z4.1 z4.2
        rw [mk_data] at hW4
        have HC := hid hC
        have HW := hid hW4
        clear hC hW4
        generalize s.data.toList.take 4 ++ (s.data.toList.drop 8).take n = q at *
        generalize hp : (s.data.toList.drop 8).take n = p at *
        have hd1 := toWordL_lt (s.data.toList.drop 4)
        have hd2 := crc_lt q
        generalize toWordL (s.data.toList.drop 4) = t at *
        generalize crc q = c at *
        by_cases hq : c = t
        · have hst := HS.out
          rw [if_neg (by simp [hq])] at hst
          have HS2 := hid hst
          have hq' : ((c : Int) == (t : Int)) = true := by rw [hq]; exact beq_self_eq_true _
          have HQ := hid hq
          clear hst hq hp HS
          go_enter Tryz.func52, Tryz.ntmps52
          go_wp2_with (go_at_call 81; refine (hTW.out _).mono ?_; rintro e w1 ⟨rfl, hm⟩)
          have hm2 : Steps w1 ∧ Below w.heap.size w w1 := by obtain ⟨m, rfl⟩ := hm; exact ⟨hT, below_drew (Below.refl _ _) _⟩
          clear hm
          go_quiet ((first | (go_at_call 82; exact quiet_eq (HC.out _ hm2.1)) | (go_at_call 81; exact Calls.quiet_of (HW.out _))))
          go_wp2
          go_ret3
          exact ⟨by rw [unfrRes, HS2.out]; rfl, below_drew hm2.2 _⟩
        · have hst := HS.out
          rw [if_pos hq] at hst
          have HS2 := hid hst
          have hq' : ((c : Int) == (t : Int)) = false := by rw [beq_eq_false_iff_ne]; omega
          have HQ := hid hq
          clear hst hq hp HS
          go_enter Tryz.func52, Tryz.ntmps52
          go_wp2_with (go_at_call 81; refine (hTW.out _).mono ?_; rintro e w1 ⟨rfl, hm⟩)
          have hm2 : Steps w1 ∧ Below w.heap.size w w1 := by obtain ⟨m, rfl⟩ := hm; exact ⟨hT, below_drew (Below.refl _ _) _⟩
          clear hm
          go_quiet ((first | (go_at_call 82; exact quiet_eq (HC.out _ hm2.1)) | (go_at_call 81; exact Calls.quiet_of (HW.out _))))
          go_wp2
          go_ret3
          exact ⟨by rw [unfrRes, HS2.out]; rfl, below_drew hm2.2 _⟩

/-! ### The document's Unframe -/
def beVal (l : List UInt8) : Nat := l.foldl (fun n c => 256 * n + c.toNat) 0
theorem beVal_snoc (l : List UInt8) (c : UInt8) : beVal (l ++ [c]) = 256 * beVal l + c.toNat := by simp [beVal]
theorem beVal_step (s : ByteArray) (k : Nat) (h : k < s.size) : beVal (s.data.toList.take (k + 1)) = 256 * beVal (s.data.toList.take k) + s[k].toNat := by
  rw [take_snoc' s k h, beVal_snoc]
theorem beVal_four {l : List UInt8} (h : 4 ≤ l.length) : beVal (l.take 4) = toWordL l := by
  obtain ⟨a, b, c, d, r, rfl⟩ := four_of h
  simp [beVal, toWordL]; omega
theorem beVal_lt (l : List UInt8) : ∀ k, beVal (l.take k) < 256 ^ k := by
  intro k
  induction k with
  | zero => simp [beVal]
  | succ k ih =>
    by_cases hk : k < l.length
    · rw [List.take_succ_eq_append_getElem hk, beVal_snoc, Nat.pow_succ]
      have := l[k].toNat_lt
      omega
    · rw [List.take_of_length_le (by omega)] at *
      rw [Nat.pow_succ]; omega

set_option maxHeartbeats 2000000 in
set_option maxRecDepth 100000 in
theorem refUnframe_any (s : ByteArray) (w : World) (hs : s.size ≤ maxLen) :
    Calls Tryz.prog 56 #[.string s] w fun e w' => e = .returned (unfrRes s.data.toList) ∧ Below w.heap.size w w' := by
  unfold maxLen at hs
  by_cases h4 : s.size < 4
  · have HU : Hid (unframe s.data.toList = ([], 0, 8)) := hid (by unfold unframe; rw [str_len, if_pos h4])
    go_enter Tryz.func56, Tryz.ntmps56
    go_wp2
    go_ret3
    exact ⟨by rw [unfrRes, HU.out]; rfl, Below.refl _ _⟩
  · have hbe := hid (beVal_four (l := s.data.toList) (by rw [str_len]; omega))
    have hst : unframe s.data.toList = if 65536 < toWordL s.data.toList then ([], 0, 10) else if s.size < 8 + toWordL s.data.toList then ([], 0, 8) else if crc (s.data.toList.take 4 ++ (s.data.toList.drop 8).take (toWordL s.data.toList)) ≠ toWordL (s.data.toList.drop 4) then ([], 0, 9) else ((s.data.toList.drop 8).take (toWordL s.data.toList), 8 + toWordL s.data.toList, 0) := by
      unfold unframe; rw [str_len, if_neg h4]
    have HS := hid hst
    clear hst
    have hn := toWordL_lt s.data.toList
    generalize toWordL s.data.toList = n at *
    go_enter Tryz.func56, Tryz.ntmps56
    go_wp2_with fail
    go_loopw [5, 6] (fun x i wr => ∃ k : Nat, k ≤ 4 ∧ i = .int .i64 k ∧ x = .int .i64 (beVal (s.data.toList.take k) : Nat) ∧ w = wr) (fun _ i _ => 4 - (intOf i).toNat)
    case atStart => exact ⟨0, Nat.zero_le _, rfl, rfl, rfl⟩
    case round =>
      obtain ⟨k, hk, rfl, rfl, rfl⟩ := hrel
      by_cases hlt : k < 4
      · have hv := beVal_lt s.data.toList k
        have hv3 : beVal (s.data.toList.take k) < 256 ^ 3 := Nat.lt_of_lt_of_le hv (Nat.pow_le_pow_right (by omega) (by omega))
        have hks : k < s.size := by omega
        have hsn := hid (beVal_step s k hks)
        generalize beVal (s.data.toList.take k) = x at *
        have hc : s[k].toNat < 256 := s[k].toNat_lt
        clear hv
        go_wp2_with fail
        go_roundw
        case rel => exact ⟨k + 1, by omega, by go_num, by rw [hsn.out]; go_num, by trivial⟩
        case measure => simp [intOf]; omega
      · have hk4 : k = 4 := by omega
        subst hk4
        rw [hbe.out]
        clear hbe
        by_cases hlong : 65536 < n
        · have HU : Hid (unframe s.data.toList = ([], 0, 10)) := hid (by rw [HS.out, if_pos hlong])
          go_wp2_with fail
          go_ret3
          exact ⟨by rw [unfrRes, HU.out]; rfl, Below.refl _ _⟩
        · by_cases hshort : s.size < 8 + n
          · have HU : Hid (unframe s.data.toList = ([], 0, 8)) := hid (by rw [HS.out, if_neg hlong, if_pos hshort])
            go_wp2_with fail
            go_ret3
            exact ⟨by rw [unfrRes, HU.out]; rfl, Below.refl _ _⟩
          · have l8 := fun wx => slice_lh (s := s) (lo := 8) (hi := 8 + (n : Int)) (l := (s.data.toList.drop 8).take n) (by omega) (by omega) (by omega) (by congr 1; omega) wx
            have l4 := fun wx => slice_lh (s := s) (lo := 4) (hi := 8) (l := (s.data.toList.drop 4).take 4) (by omega) (by omega) (by omega) rfl wx
            have l0 := fun wx => slice_h (s := s) (hi := 4) (l := s.data.toList.take 4) (by omega) (by omega) rfl wx
            have z8 : (mk ((s.data.toList.drop 8).take n)).size ≤ 65536 := by rw [mk_size, List.length_take]; omega
            have z0 : (mk (s.data.toList.take 4)).size ≤ 4 := by rw [mk_size, List.length_take]; omega
            have hC := fun w => refCrc_any (mk (s.data.toList.take 4) ++ mk ((s.data.toList.drop 8).take n)) w (by rw [ByteArray.size_append]; unfold maxLen; omega)
            rw [mk_append, mk_data] at hC
            rw [← mk_append] at hC
            have HC := hid hC
            clear hC
            have hst := HS.out
            rw [if_neg hlong, if_neg hshort] at hst
            have hwt := word_toWord (l := s.data.toList.drop 4) (by rw [List.length_drop, str_len]; omega)
            have hd1 := toWordL_lt (s.data.toList.drop 4)
            have hd2 := crc_lt (s.data.toList.take 4 ++ (s.data.toList.drop 8).take n)
            have s1 : IntKind.i64.wrap (8 + (n : Int)) = 8 + (n : Int) := IntWalk.i64_in _ (by omega)
            generalize s.data.toList.take 4 ++ (s.data.toList.drop 8).take n = q at *
            generalize hp : (s.data.toList.drop 8).take n = p at *
            generalize toWordL (s.data.toList.drop 4) = t at *
            rw [← hwt] at l4
            generalize crc q = c at *
            have HF := hid (fun w => four_any c w hd2)
            by_cases hq : c = t
            · rw [if_neg (by simp [hq])] at hst
              have HS2 := hid hst
              have hq' : ((mk (word t)).toList == (mk (word c)).toList) = true := by rw [hq]; exact beq_self_eq_true _
              clear hst hq hp HS hwt
              go_wp2_with fail
              go_region_with (first
                | (go_at_call 80; refine (HC.out _).mono ?_; rintro e w2 ⟨rfl, rfl⟩)
                | (go_at_call 79; refine (HF.out _).mono ?_; rintro e w3 ⟨rfl, hb⟩))
              go_wp2_with fail
              go_ret3
              exact ⟨by rw [unfrRes, HS2.out]; rfl, Below.trans (Below.drew (Below.refl _ _)) hb⟩
            · rw [if_pos hq] at hst
              have HS2 := hid hst
              have hq' : ((mk (word t)).toList == (mk (word c)).toList) = false := by
                rw [beq_eq_false_iff_ne, Lib.toList_data, Lib.toList_data, mk_data, mk_data]
                intro h
                apply hq
                have h1 := toWord_word hd1 []
                have h2 := toWord_word hd2 []
                rw [List.append_nil] at h1 h2
                rw [← h1, ← h2, h]
              clear hst hq hp HS hwt
              go_wp2_with fail
              go_region_with (first
                | (go_at_call 80; refine (HC.out _).mono ?_; rintro e w2 ⟨rfl, rfl⟩)
                | (go_at_call 79; refine (HF.out _).mono ?_; rintro e w3 ⟨rfl, hb⟩))
              go_wp2_with fail
              go_ret3
              exact ⟨by rw [unfrRes, HS2.out]; rfl, Below.trans (Below.drew (Below.refl _ _)) hb⟩
end Go.Proofs.YtbccikefccdekaaGreatDoor

/-
  LAYER 1: texts and bools: what the program's and the document's functions return.
-/
namespace Go.Proofs.YtbccikefccdekaaGreatDoor
open Go.RowKit
set_option linter.unusedVariables false
set_option maxRecDepth 100000

/-- What ToText says. -/
def toText (l : List UInt8) : Option (List UInt8 × List UInt8) :=
  match toInt l with
  | none => none
  | some (v, r) => if unz v < 0 ∨ (r.length : Int) < unz v then none else some (r.take (unz v).toNat, r.drop (unz v).toNat)
def textRes : Option (List UInt8 × List UInt8) → Value
  | none => .tuple #[.string ⟨#[]⟩, .string ⟨#[]⟩, .bool false]
  | some (a, r) => .tuple #[.string (mk a), .string (mk r), .bool true]
theorem toInt_rest {l : List UInt8} {v : Nat} {r : List UInt8} (h : toInt l = some (v, r)) : r.length ≤ l.length := by
  obtain ⟨_, rfl⟩ := toInt_sound h
  rw [List.length_append]; omega


theorem txts_snoc (l : List ByteArray) (s : ByteArray) : txts (l ++ [s]) = txts l ++ txt s.data.toList := by simp [txts]
theorem txt_length (s : ByteArray) (h : s.size ≤ 9223372036854775807) : (txt s.data.toList).length ≤ 10 + s.size := by
  have := enc_length (nat64_lt (n := (s.data.toList.length : Int)) (by omega) (by rw [str_len]; omega))
  rw [txt, List.length_append, str_len] at *
  omega

end Go.Proofs.YtbccikefccdekaaGreatDoor


/-
  THE PLAIN MATHEMATICS OF LAYER 1 (codec): what was written is read as it was.
-/
namespace Go.Proofs.YtbccikefccdekaaGreatDoor
set_option linter.unusedVariables false
set_option maxRecDepth 100000

theorem toText_txt (t s : List UInt8) (ht : t.length ≤ 9223372036854775807) : toText (txt t ++ s) = some (t, s) := by
  unfold toText txt
  rw [List.append_assoc, toInt_enc (nat64_lt (by omega) (by omega))]
  simp only [unz_nat64]
  rw [if_neg (by simp; omega), Int.toNat_natCast]
  simp

theorem toWord_frame (l s : List UInt8) (hl : l.length ≤ 65536) : toWordL (frameL l ++ s) = l.length := by
  unfold frameL
  rw [List.append_assoc, List.append_assoc]
  exact toWord_word (by omega) _
theorem unframe_frame (l s : List UInt8) (hl : l.length ≤ 65536) : unframe (frameL l ++ s) = (l, 8 + l.length, 0) := by
  have h1 := toWord_frame l s hl
  have h4 : (frameL l ++ s).take 4 = word l.length := by unfold frameL; rw [List.append_assoc, List.append_assoc]; rfl
  have h8 : ((frameL l ++ s).drop 8).take l.length = l := by
    unfold frameL
    rw [List.append_assoc, List.append_assoc]
    show (l ++ s).take l.length = l
    simp
  have hd : toWordL ((frameL l ++ s).drop 4) = crc (word l.length ++ l) := by
    unfold frameL
    rw [List.append_assoc, List.append_assoc]
    exact toWord_word (crc_lt _) _
  unfold unframe
  rw [h1, h4, h8, hd, if_neg (by rw [List.length_append, frameL_length]; omega), if_neg (by omega), if_neg (by rw [List.length_append, frameL_length]; omega), if_neg (by simp)]

theorem unframe_cases (l : List UInt8) : (∃ e, (unframe l) = ([], 0, e) ∧ (e = 8 ∨ e = 9 ∨ e = 10)) ∨ ∃ p : List UInt8, unframe l = (p, 8 + p.length, 0) ∧ p.length ≤ 65536 ∧ 8 + p.length ≤ l.length ∧ frameL p = l.take (8 + p.length) := by
  unfold unframe
  by_cases h1 : l.length < 4
  · rw [if_pos h1]; exact .inl ⟨8, rfl, .inl rfl⟩
  · rw [if_neg h1]
    by_cases h2 : 65536 < toWordL l
    · rw [if_pos h2]; exact .inl ⟨10, rfl, .inr (.inr rfl)⟩
    · rw [if_neg h2]
      by_cases h3 : l.length < 8 + toWordL l
      · rw [if_pos h3]; exact .inl ⟨8, rfl, .inl rfl⟩
      · rw [if_neg h3]
        by_cases h4 : crc (l.take 4 ++ (l.drop 8).take (toWordL l)) ≠ toWordL (l.drop 4)
        · rw [if_pos h4]; exact .inl ⟨9, rfl, .inr (.inl rfl)⟩
        · rw [if_neg h4]
          have h4 : crc (l.take 4 ++ (l.drop 8).take (toWordL l)) = toWordL (l.drop 4) := Decidable.not_not.1 h4
          have hlen : ((l.drop 8).take (toWordL l)).length = toWordL l := by rw [List.length_take, List.length_drop]; omega
          refine .inr ⟨(l.drop 8).take (toWordL l), by rw [hlen], by omega, by omega, ?_⟩
          unfold frameL
          rw [hlen, word_toWord (by omega), h4, word_toWord (by rw [List.length_drop]; omega)]
          rw [show 8 + toWordL l = 4 + (4 + toWordL l) by omega, List.take_add, List.take_add, List.drop_drop, List.append_assoc]

/-! ### The sum is linear -/
def xor3 : List UInt8 → List UInt8 → List UInt8 → List UInt8
  | a :: l, b :: m, c :: n => (a ^^^ b ^^^ c) :: xor3 l m n
  | _, _, _ => []
theorem byteStep_xor (r s c d : Nat) : byteStep (r ^^^ s) (c ^^^ d) = byteStep r c ^^^ byteStep s d := by
  unfold byteStep
  rw [show r ^^^ s ^^^ (c ^^^ d) = (r ^^^ c) ^^^ (s ^^^ d) by rw [Nat.xor_assoc, ← Nat.xor_assoc s, Nat.xor_comm s c, Nat.xor_assoc c, ← Nat.xor_assoc], fourSteps_xor, fourSteps_xor]
theorem crcReg_xor3 : ∀ (l m n : List UInt8) (r s t : Nat), l.length = m.length → m.length = n.length → crcReg (r ^^^ s ^^^ t) (xor3 l m n) = crcReg r l ^^^ crcReg s m ^^^ crcReg t n
  | [], [], [], r, s, t, _, _ => rfl
  | a :: l, b :: m, c :: n, r, s, t, h1, h2 => by
    show crcReg (byteStep (r ^^^ s ^^^ t) (a ^^^ b ^^^ c).toNat) (xor3 l m n) = crcReg (byteStep r a.toNat) l ^^^ crcReg (byteStep s b.toNat) m ^^^ crcReg (byteStep t c.toNat) n
    rw [UInt8.toNat_xor, UInt8.toNat_xor, byteStep_xor, byteStep_xor]
    exact crcReg_xor3 l m n _ _ _ (by simpa using h1) (by simpa using h2)
theorem crc_xor3 (l m n : List UInt8) (h1 : l.length = m.length) (h2 : m.length = n.length) : crc (xor3 l m n) = crc l ^^^ crc m ^^^ crc n := by
  unfold crc
  have h := crcReg_xor3 l m n 4294967295 4294967295 4294967295 h1 h2
  rw [show 4294967295 ^^^ 4294967295 ^^^ 4294967295 = 4294967295 from rfl] at h
  rw [h]
  generalize crcReg 4294967295 l = x; generalize crcReg 4294967295 m = y; generalize crcReg 4294967295 n = z
  apply Nat.eq_of_testBit_eq
  intro i
  simp only [Nat.testBit_xor]
  generalize Nat.testBit x i = a; generalize Nat.testBit y i = b; generalize Nat.testBit z i = c; generalize Nat.testBit 4294967295 i = d
  cases a <;> cases b <;> cases c <;> cases d <;> rfl
theorem xor3_length : ∀ (l m n : List UInt8), l.length = m.length → m.length = n.length → (xor3 l m n).length = l.length
  | [], [], [], _, _ => rfl
  | a :: l, b :: m, c :: n, h1, h2 => by simp only [xor3, List.length_cons]; rw [xor3_length l m n (by simpa using h1) (by simpa using h2)]
theorem xor3_get : ∀ (l m n : List UInt8) (i : Nat) (a b c : UInt8), l[i]? = some a → m[i]? = some b → n[i]? = some c → (xor3 l m n)[i]? = some (a ^^^ b ^^^ c)
  | a :: l, b :: m, c :: n, 0, x, y, z, h1, h2, h3 => by simp at h1 h2 h3; subst h1 h2 h3; rfl
  | a :: l, b :: m, c :: n, i + 1, x, y, z, h1, h2, h3 => by simpa [xor3] using xor3_get l m n i x y z (by simpa using h1) (by simpa using h2) (by simpa using h3)

/-! ### A frame cut short, or with a bit turned -/
theorem unframe_cut (l : List UInt8) (hl : l.length ≤ 65536) (p : Nat) (hp : p < 8 + l.length) : unframe ((frameL l).take p) = ([], 0, 8) := by
  have hlen : ((frameL l).take p).length = p := by rw [List.length_take, frameL_length]; omega
  unfold unframe
  by_cases h4 : p < 4
  · rw [hlen, if_pos h4]
  · have htw : toWordL ((frameL l).take p) = l.length := by
      unfold frameL
      rw [List.append_assoc, List.take_append, show (word l.length).take p = word l.length from List.take_of_length_le (by rw [word_length]; omega)]
      exact toWord_word (by omega) _
    rw [hlen, htw, if_neg h4, if_neg (by omega), if_pos (by omega)]

/-- The register behind n noughts. -/
def zeros (r : Nat) : Nat → Nat
  | 0 => r
  | n + 1 => zeros (byteStep r 0) n
theorem crcReg_shift : ∀ (l : List UInt8) (x y : Nat), crcReg (x ^^^ y) l = crcReg x l ^^^ zeros y l.length
  | [], x, y => rfl
  | c :: l, x, y => by
    show crcReg (byteStep (x ^^^ y) c.toNat) l = crcReg (byteStep x c.toNat) l ^^^ zeros (byteStep y 0) l.length
    have h := byteStep_xor x y c.toNat 0
    rw [Nat.xor_zero] at h
    rw [h, crcReg_shift l]
theorem bitStep_pos {r : Nat} (h : r < 4294967296) (h0 : r ≠ 0) : bitStep r ≠ 0 := by
  unfold bitStep
  split
  · intro hx
    have h2 : r / 2 ^^^ 2197175160 ^^^ 2197175160 = 0 ^^^ 2197175160 := by rw [hx]
    rw [Nat.xor_assoc, Nat.xor_self, Nat.xor_zero, Nat.zero_xor] at h2
    omega
  · omega
theorem fourSteps_pos {r : Nat} (h : r < 4294967296) (h0 : r ≠ 0) : fourSteps r ≠ 0 :=
  bitStep_pos (bitStep_lt (bitStep_lt (bitStep_lt h))) (bitStep_pos (bitStep_lt (bitStep_lt h)) (bitStep_pos (bitStep_lt h) (bitStep_pos h h0)))
theorem byteStep_pos {r c : Nat} (h : r < 4294967296) (hc : c < 256) (h0 : r ^^^ c ≠ 0) : byteStep r c ≠ 0 :=
  fourSteps_pos (fourSteps_lt (Nat.xor_lt_two_pow (n := 32) h (by omega))) (fourSteps_pos (Nat.xor_lt_two_pow (n := 32) h (by omega)) h0)
theorem zeros_pos : ∀ (n r : Nat), r < 4294967296 → r ≠ 0 → zeros r n ≠ 0
  | 0, r, _, h => h
  | n + 1, r, h, h0 => zeros_pos n _ (byteStep_lt h (by omega)) (byteStep_pos h (by omega) (by rw [Nat.xor_zero]; exact h0))

/-- A byte that is another one turns the sum. -/
theorem crc_turn (p q : List UInt8) (c e : UInt8) (he : e ≠ 0) : crc (p ++ (c ^^^ e) :: q) ≠ crc (p ++ c :: q) := by
  unfold crc
  have h1 : ∀ d : UInt8, crcReg 4294967295 (p ++ d :: q) = crcReg (byteStep (crcReg 4294967295 p) d.toNat) q := fun d => by simp [crcReg]
  rw [h1, h1, UInt8.toNat_xor]
  have h2 := byteStep_xor (crcReg 4294967295 p) 0 c.toNat e.toNat
  rw [Nat.xor_zero] at h2
  rw [h2, crcReg_shift]
  have h3 : e.toNat ≠ 0 := fun h => he (by rw [← of_toNat e, h]; rfl)
  have h4 := zeros_pos q.length (byteStep 0 e.toNat) (byteStep_lt (by omega) e.toNat_lt) (byteStep_pos (by omega) e.toNat_lt (by rw [Nat.zero_xor]; exact h3))
  generalize crcReg (byteStep (crcReg 4294967295 p) c.toNat) q = x
  generalize zeros (byteStep 0 e.toNat) q.length = z at h4
  intro h
  apply h4
  have h5 : x ^^^ (x ^^^ z ^^^ 4294967295 ^^^ 4294967295) = x ^^^ (x ^^^ 4294967295 ^^^ 4294967295) := by rw [h]
  rw [Nat.xor_assoc _ 4294967295, Nat.xor_assoc _ 4294967295, Nat.xor_self, Nat.xor_zero, Nat.xor_zero, ← Nat.xor_assoc, Nat.xor_self, Nat.zero_xor] at h5
  exact h5

theorem set_split {l : List UInt8} {k : Nat} (hk : k < l.length) (c : UInt8) : l.set k c = l.take k ++ c :: l.drop (k + 1) := List.set_eq_take_append_cons_drop.trans (if_pos hk)

theorem unframe_turn (l : List UInt8) (hl : l.length ≤ 65536) (k : Nat) (h4 : 4 ≤ k) (hk : k < 8 + l.length) (c e : UInt8) (hc : (frameL l)[k]? = some c) (he : e ≠ 0) :
    unframe ((frameL l).set k (c ^^^ e)) = ([], 0, 9) := by
  have hflen := frameL_length l
  have hce : c ^^^ e ≠ c := by
    intro h
    apply he
    have : c ^^^ (c ^^^ e) = c ^^^ c := by rw [h]
    rw [← UInt8.xor_assoc, UInt8.xor_self, UInt8.zero_xor] at this
    exact this
  have hlen : ((frameL l).set k (c ^^^ e)).length = 8 + l.length := by rw [List.length_set, hflen]
  have ht4 : ((frameL l).set k (c ^^^ e)).take 4 = word l.length := by
    rw [List.take_set_of_le h4]; unfold frameL; rw [List.append_assoc]; rfl
  have htw : toWordL ((frameL l).set k (c ^^^ e)) = l.length := by
    have h1 : ((frameL l).set k (c ^^^ e)) = word l.length ++ ((frameL l).set k (c ^^^ e)).drop 4 := by rw [← ht4, List.take_append_drop]
    rw [h1]; exact toWord_word (by omega) _
  unfold unframe
  rw [hlen, htw, ht4, if_neg (by omega), if_neg (by omega), if_neg (by omega), if_pos ?_]
  -- the sum
  by_cases h8 : k < 8
  · have hd8 : ((frameL l).set k (c ^^^ e)).drop 8 = l := by
      rw [List.drop_set_of_lt h8]; unfold frameL; rw [List.append_assoc]; rfl
    rw [hd8, List.take_length]
    intro h
    have hw := word_toWord (l := ((frameL l).set k (c ^^^ e)).drop 4) (by rw [List.length_drop, hlen]; omega)
    rw [← h] at hw
    have hw0 : word (crc (word l.length ++ l)) = ((frameL l).drop 4).take 4 := by unfold frameL; rw [List.append_assoc]; rfl
    rw [hw0] at hw
    have hg := congrArg (fun m => m[k - 4]?) hw
    rw [List.getElem?_take_of_lt (by omega), List.getElem?_take_of_lt (by omega), List.getElem?_drop, List.getElem?_drop, show 4 + (k - 4) = k by omega, hc, List.getElem?_set_self (by omega)] at hg
    exact hce (Option.some.inj hg).symm
  · have hd4 : toWordL (((frameL l).set k (c ^^^ e)).drop 4) = crc (word l.length ++ l) := by
      have h1 : (((frameL l).set k (c ^^^ e)).drop 4).take 4 = word (crc (word l.length ++ l)) := by
        rw [List.drop_set, if_neg (by omega), List.take_set_of_le (by omega)]; unfold frameL; rw [List.append_assoc]; rfl
      have h2 : ((frameL l).set k (c ^^^ e)).drop 4 = word (crc (word l.length ++ l)) ++ (((frameL l).set k (c ^^^ e)).drop 4).drop 4 := by rw [← h1, List.take_append_drop]
      rw [h2]; exact toWord_word (crc_lt _) _
    have hd8 : ((frameL l).set k (c ^^^ e)).drop 8 = l.set (k - 8) (c ^^^ e) := by
      rw [List.drop_set, if_neg (by omega)]; unfold frameL; rw [List.append_assoc]; rfl
    have hcl : l[k - 8]? = some c := by
      rw [← hc]; unfold frameL
      rw [List.getElem?_append_right (by rw [List.length_append, word_length, word_length]; omega), List.length_append, word_length, word_length]
    have hkl : k - 8 < l.length := by omega
    rw [hd4, hd8, show (l.set (k - 8) (c ^^^ e)).take l.length = l.set (k - 8) (c ^^^ e) from List.take_of_length_le (by rw [List.length_set]; exact Nat.le_refl _), set_split hkl]
    have hlc : l = l.take (k - 8) ++ c :: l.drop (k - 8 + 1) := by
      rw [List.getElem?_eq_getElem hkl] at hcl
      rw [← Option.some.inj hcl, ← List.drop_eq_getElem_cons hkl, List.take_append_drop]
    have := crc_turn (word l.length ++ l.take (k - 8)) (l.drop (k - 8 + 1)) c e he
    rw [List.append_assoc, List.append_assoc, ← hlc] at this
    exact this
end Go.Proofs.YtbccikefccdekaaGreatDoor

/-
  LAYER 4 (snap), plain mathematics: a base's bytes, and what is read of bytes.
-/
namespace Go.Proofs.YtbccikefccdekaaGreatDoor
set_option linter.unusedVariables false
set_option maxRecDepth 100000

structure Bs where
  ix : Int
  tm : Int
  vot : List Int
  data : List UInt8
def bs0 : Bs := ⟨0, 0, [], []⟩
def rightS (b : Bs) : Bool := decide (1 ≤ b.ix ∧ b.ix ≤ 1099511627776) && decide (0 ≤ b.tm ∧ b.tm ≤ 1099511627776) && (risingF 0 b.vot && decide (b.vot ≠ [])) && decide (b.data.length ≤ 4000000)
def I64s (n : Int) : Prop := -9223372036854775808 ≤ n ∧ n ≤ 9223372036854775807
theorem rightS_parts {b : Bs} (h : rightS b = true) : (1 ≤ b.ix ∧ b.ix ≤ 1099511627776) ∧ (0 ≤ b.tm ∧ b.tm ≤ 1099511627776) ∧ risingF 0 b.vot = true ∧ b.vot ≠ [] ∧ b.data.length ≤ 4000000 := by
  unfold rightS at h
  simp only [Bool.and_eq_true, decide_eq_true_eq] at h
  exact ⟨h.1.1.1, h.1.1.2, h.1.2.1, h.1.2.2, h.2⟩
theorem rightS_vot {b : Bs} (h : rightS b = true) : b.vot.length ≤ 9 ∧ ∀ v ∈ b.vot, 0 < v ∧ v ≤ 9 := by
  obtain ⟨_, _, h3, _, _⟩ := rightS_parts h
  obtain ⟨h4, h5⟩ := risingF_len b.vot 0 h3 (by omega)
  exact ⟨by omega, h5⟩
/-! ### rows of numbers -/
def numsF : Nat → List UInt8 → Option (List Int)
  | _, [] => some []
  | 0, _ => none
  | k + 1, s => match toInt s with
    | none => none
    | some (v, r) => (numsF k r).map (unz v :: ·)
def nums (s : List UInt8) : Option (List Int) := numsF s.length s
theorem encs_cons (n : Int) (l : List Int) : encs (n :: l) = enc (nat64 n) ++ encs l := rfl
theorem numsF_encs : ∀ (l : List Int) (k : Nat), (∀ n ∈ l, I64s n) → (encs l).length ≤ k → numsF k (encs l) = some l
  | [], k, _, _ => by cases k <;> rfl
  | n :: l, k, h, hk => by
    have h1 := h n (List.mem_cons_self ..)
    have hp := enc_pos (nat64 n)
    rw [encs_cons, List.length_append] at hk
    cases k with
    | zero => omega
    | succ k =>
      have hne : enc (nat64 n) ++ encs l ≠ [] := fun e => by
        have := congrArg List.length e
        rw [List.length_append, List.length_nil] at this
        omega
      rw [encs_cons]
      obtain ⟨c, r, hcr⟩ := List.exists_cons_of_ne_nil hne
      rw [hcr]
      unfold numsF
      rw [← hcr, toInt_enc (nat64_lt h1.1 h1.2)]
      show (numsF k (encs l)).map (unz (nat64 n) :: ·) = _
      rw [numsF_encs l k (fun x hx => h x (List.mem_cons_of_mem _ hx)) (by omega), unz_nat64]
      rfl
theorem numsF_sound : ∀ (k : Nat) (s : List UInt8) (l : List Int), numsF k s = some l → encs l = s ∧ ∀ n ∈ l, I64s n
  | k, [], l, h => by
    have h2 : some [] = some l := by cases k <;> exact h
    cases h2
    exact ⟨rfl, fun n hn => by cases hn⟩
  | 0, c :: s, l, h => by cases h
  | k + 1, c :: s, l, h => by
    unfold numsF at h
    cases ht : toInt (c :: s) with
    | none => rw [ht] at h; cases h
    | some p =>
      obtain ⟨v, r⟩ := p
      rw [ht] at h
      obtain ⟨hv, hs⟩ := toInt_sound ht
      cases hn : numsF k r with
      | none =>
        have h2 : (numsF k r).map (unz v :: ·) = some l := h
        rw [hn] at h2; cases h2
      | some m =>
        have h2 : (numsF k r).map (unz v :: ·) = some l := h
        rw [hn] at h2
        cases h2
        obtain ⟨h3, h4⟩ := numsF_sound k r m hn
        refine ⟨by rw [encs_cons, nat64_unz, h3, hs], fun n hn2 => ?_⟩
        rcases List.mem_cons.1 hn2 with e | e
        · rw [e]; exact unz_lo hv
        · exact h4 n e
theorem nums_encs {l : List Int} (h : ∀ n ∈ l, I64s n) : nums (encs l) = some l := numsF_encs l _ h (Nat.le_refl _)
theorem nums_sound {s : List UInt8} {l : List Int} (h : nums s = some l) : encs l = s ∧ ∀ n ∈ l, I64s n := numsF_sound _ s l h
/-! ### chunks -/
def chunksF : Nat → List UInt8 → List (List UInt8)
  | _, [] => []
  | 0, _ => []
  | k + 1, d => d.take 1000 :: chunksF k (d.drop 1000)
def chunksS (d : List UInt8) : List (List UInt8) := chunksF d.length d
theorem chunksF_fuel : ∀ (k m : Nat) (d : List UInt8), d.length ≤ k → d.length ≤ m → chunksF k d = chunksF m d
  | k, m, [], _, _ => by cases k <;> cases m <;> rfl
  | 0, m, c :: d, h, _ => by simp at h
  | k + 1, 0, c :: d, _, h => by simp at h
  | k + 1, m + 1, c :: d, h1, h2 => by
    show (c :: d).take 1000 :: chunksF k ((c :: d).drop 1000) = (c :: d).take 1000 :: chunksF m ((c :: d).drop 1000)
    have hl : ((c :: d).drop 1000).length ≤ d.length := by rw [List.length_drop, List.length_cons]; omega
    rw [List.length_cons] at h1 h2
    rw [chunksF_fuel k m _ (by omega) (by omega)]
theorem chunksS_nil : chunksS [] = [] := rfl
theorem chunksS_cons {d : List UInt8} (h : d ≠ []) : chunksS d = d.take 1000 :: chunksS (d.drop 1000) := by
  obtain ⟨c, r, rfl⟩ := List.exists_cons_of_ne_nil h
  show (c :: r).take 1000 :: chunksF r.length ((c :: r).drop 1000) = _
  congr 1
  exact chunksF_fuel _ _ _ (by rw [List.length_drop, List.length_cons]; omega) (Nat.le_refl _)
def headN (b : Bs) : List Int := b.ix :: b.tm :: (b.vot.length : Int) :: (b.vot ++ [(b.data.length : Int)])
def headS (b : Bs) : List UInt8 := encs (headN b)
def framesS (b : Bs) : List (List UInt8) := frameL (headS b) :: (chunksS b.data).map frameL
def packS (b : Bs) : List UInt8 := (framesS b).flatten
/-! ### reading -/
def unframeS (s : List UInt8) : List UInt8 × Nat × Nat := ((unframe s).1, (unframe s).2.1, if (unframe s).2.2 = 10 then 8 else (unframe s).2.2)
theorem unframeS_frame (l s : List UInt8) (hl : l.length ≤ 65536) : unframeS (frameL l ++ s) = (l, 8 + l.length, 0) := by
  unfold unframeS
  rw [unframe_frame l s hl]
  rfl
theorem unframeS_cases (l : List UInt8) : (∃ e, unframeS l = ([], 0, e) ∧ (e = 8 ∨ e = 9)) ∨ ∃ p : List UInt8, unframeS l = (p, 8 + p.length, 0) ∧ p.length ≤ 65536 ∧ 8 + p.length ≤ l.length ∧ frameL p = l.take (8 + p.length) := by
  unfold unframeS
  rcases unframe_cases l with ⟨e, h, he⟩ | ⟨p, h, h2⟩
  · rw [h]
    rcases he with rfl | rfl | rfl
    · exact .inl ⟨8, rfl, .inl rfl⟩
    · exact .inl ⟨9, rfl, .inr rfl⟩
    · exact .inl ⟨8, rfl, .inl rfl⟩
  · rw [h]
    exact .inr ⟨p, rfl, h2⟩
/-- The chunks at the beginning of s that are n bytes in all: these, what follows, the error. -/
def dataF : Nat → List UInt8 → Nat → List UInt8 × List UInt8 × Nat
  | _, s, 0 => ([], s, 0)
  | 0, s, _ + 1 => ([], [], 8)
  | k + 1, s, n + 1 =>
    if (unframeS s).2.2 ≠ 0 then ([], [], (unframeS s).2.2)
    else if (unframeS s).1.length ≠ min 1000 (n + 1) then ([], [], 8)
    else if (dataF k (s.drop (unframeS s).2.1) (n + 1 - (unframeS s).1.length)).2.2 ≠ 0 then ([], [], (dataF k (s.drop (unframeS s).2.1) (n + 1 - (unframeS s).1.length)).2.2)
    else ((unframeS s).1 ++ (dataF k (s.drop (unframeS s).2.1) (n + 1 - (unframeS s).1.length)).1, (dataF k (s.drop (unframeS s).2.1) (n + 1 - (unframeS s).1.length)).2.1, 0)
def dataS (s : List UInt8) (n : Nat) : List UInt8 × List UInt8 × Nat := dataF n s n
def chunkBytes (d : List UInt8) : List UInt8 := ((chunksS d).map frameL).flatten
theorem chunkBytes_cons {d : List UInt8} (h : d ≠ []) : chunkBytes d = frameL (d.take 1000) ++ chunkBytes (d.drop 1000) := by
  unfold chunkBytes
  rw [chunksS_cons h]
  rfl
theorem drop_frame (p s : List UInt8) : (frameL p ++ s).drop (8 + p.length) = s := by
  rw [← frameL_length, List.drop_left]
theorem dataF_pack : ∀ (k : Nat) (d t : List UInt8), d.length ≤ k → dataF k (chunkBytes d ++ t) d.length = (d, t, 0)
  | k, [], t, _ => by cases k <;> rfl
  | 0, c :: d, t, h => by simp at h
  | k + 1, c :: d, t, h => by
    have hne : c :: d ≠ [] := by simp
    have hl : ((c :: d).take 1000).length = min 1000 (d.length + 1) := by rw [List.length_take, List.length_cons]
    have hu : unframeS (chunkBytes (c :: d) ++ t) = ((c :: d).take 1000, 8 + ((c :: d).take 1000).length, 0) := by
      rw [chunkBytes_cons hne, List.append_assoc]
      exact unframeS_frame _ _ (by rw [hl]; omega)
    have hdrop : (chunkBytes (c :: d) ++ t).drop (8 + ((c :: d).take 1000).length) = chunkBytes ((c :: d).drop 1000) ++ t := by
      rw [chunkBytes_cons hne, List.append_assoc, drop_frame]
    have hrest : d.length + 1 - ((c :: d).take 1000).length = ((c :: d).drop 1000).length := by rw [hl, List.length_drop, List.length_cons]; omega
    have ih := dataF_pack k ((c :: d).drop 1000) t (by rw [List.length_drop, List.length_cons]; rw [List.length_cons] at h; omega)
    rw [List.length_cons]
    unfold dataF
    rw [hu]
    simp only
    rw [if_neg (by simp), if_neg (by rw [hl]; simp), hdrop, hrest, ih]
    simp only
    rw [if_neg (by simp), List.take_append_drop]
theorem dataF_sound : ∀ (k : Nat) (s : List UInt8) (n : Nat) (d t : List UInt8), n ≤ k → dataF k s n = (d, t, 0) → d.length = n ∧ s = chunkBytes d ++ t
  | k, s, 0, d, t, _, h => by
    have h2 : (([], s, 0) : List UInt8 × List UInt8 × Nat) = (d, t, 0) := by cases k <;> exact h
    simp only [Prod.mk.injEq] at h2
    obtain ⟨rfl, rfl, _⟩ := h2
    exact ⟨rfl, rfl⟩
  | 0, s, n + 1, d, t, hk, _ => by omega
  | k + 1, s, n + 1, d, t, hk, h => by
    unfold dataF at h
    rcases unframeS_cases s with ⟨e, hu, he⟩ | ⟨p, hu, hp, hps, hpf⟩
    · rw [hu] at h
      simp only at h
      rw [if_pos (by omega)] at h
      simp only [Prod.mk.injEq] at h
      omega
    · rw [hu] at h
      simp only at h
      rw [if_neg (by simp)] at h
      by_cases hm : p.length ≠ min 1000 (n + 1)
      · rw [if_pos hm] at h
        simp only [Prod.mk.injEq] at h
        omega
      · rw [if_neg hm] at h
        have hm : p.length = min 1000 (n + 1) := Decidable.not_not.1 hm
        obtain ⟨r1, r2, r3, hr⟩ : ∃ r1 r2 r3, dataF k (s.drop (8 + p.length)) (n + 1 - p.length) = (r1, r2, r3) := ⟨_, _, _, rfl⟩
        rw [hr] at h
        simp only at h
        by_cases h3 : r3 ≠ 0
        · rw [if_pos h3] at h
          simp only [Prod.mk.injEq] at h
          exact absurd h.2.2 h3
        · rw [if_neg h3] at h
          have h3 : r3 = 0 := Decidable.not_not.1 h3
          subst h3
          simp only [Prod.mk.injEq] at h
          obtain ⟨rfl, rfl, _⟩ := h
          obtain ⟨i1, i2⟩ := dataF_sound k _ _ r1 r2 (by omega) hr
          have hs : s = frameL p ++ s.drop (8 + p.length) := by rw [hpf, List.take_append_drop]
          refine ⟨by rw [List.length_append, i1]; omega, ?_⟩
          have hpne : p ≠ [] := fun e => by rw [e] at hm; simp at hm; omega
          have hne : p ++ r1 ≠ [] := by simp [hpne]
          have htk : (p ++ r1).take 1000 = p ∧ (p ++ r1).drop 1000 = r1 := by
            by_cases hn : 1000 ≤ n + 1
            · have : p.length = 1000 := by omega
              rw [← this]
              exact ⟨List.take_left, List.drop_left⟩
            · have hr0 : r1 = [] := List.length_eq_zero_iff.1 (by omega)
              subst hr0
              rw [List.append_nil]
              exact ⟨List.take_of_length_le (by omega), List.drop_of_length_le (by omega)⟩
          rw [chunkBytes_cons hne, htk.1, htk.2, List.append_assoc, ← i2]
          exact hs
theorem dataS_pack (d t : List UInt8) : dataS (chunkBytes d ++ t) d.length = (d, t, 0) := dataF_pack _ d t (Nat.le_refl _)
theorem dataS_sound {s : List UInt8} {n : Nat} {d t : List UInt8} (h : dataS s n = (d, t, 0)) : d.length = n ∧ s = chunkBytes d ++ t := dataF_sound n s n d t (Nat.le_refl _) h
end Go.Proofs.YtbccikefccdekaaGreatDoor

/-
  LAYER 4 (snap), plain mathematics: what is packed is read as it was; what is read is packed so; how long it is; cut short it is none.
-/
namespace Go.Proofs.YtbccikefccdekaaGreatDoor
set_option linter.unusedVariables false
set_option maxRecDepth 100000

/-- A base without its data, and how long these are, out of the numbers of a head. -/
def headB (l : List Int) : Bs × Int := (⟨l.getD 0 0, l.getD 1 0, (l.drop 3).take (l.length - 4), []⟩, l.getD (l.length - 1) 0)
def headOk (l : List Int) : Bool := decide (4 ≤ l.length) && decide (l.getD 2 0 = (l.length : Int) - 4) && rightS (headB l).1 && decide (0 ≤ (headB l).2 ∧ (headB l).2 ≤ 4000000)
def unpackS (s : List UInt8) : Bs × Nat :=
  if (unframeS s).2.2 ≠ 0 then (bs0, (unframeS s).2.2) else
  match nums (unframeS s).1 with
  | none => (bs0, 8)
  | some l =>
    if headOk l = false then (bs0, 8) else
    if (dataS (s.drop (unframeS s).2.1) (headB l).2.toNat).2.2 ≠ 0 then (bs0, (dataS (s.drop (unframeS s).2.1) (headB l).2.toNat).2.2) else
    if (dataS (s.drop (unframeS s).2.1) (headB l).2.toNat).2.1 ≠ [] then (bs0, 8) else
    ({ (headB l).1 with data := (dataS (s.drop (unframeS s).2.1) (headB l).2.toNat).1 }, 0)
theorem headN_I64 {b : Bs} (h : rightS b = true) : ∀ n ∈ headN b, I64s n := by
  obtain ⟨h1, h2, _, _, h5⟩ := rightS_parts h
  obtain ⟨h6, h7⟩ := rightS_vot h
  intro n hn
  unfold headN at hn
  simp only [List.mem_cons, List.mem_append, List.not_mem_nil, or_false] at hn
  unfold I64s
  rcases hn with e | e | e | e | e
  · omega
  · omega
  · omega
  · have := h7 n e; omega
  · omega
theorem headN_length (b : Bs) : (headN b).length = b.vot.length + 4 := by
  unfold headN
  simp only [List.length_cons, List.length_append, List.length_nil]
theorem headN_B (b : Bs) : headB (headN b) = ({ b with data := [] }, (b.data.length : Int)) := by
  have hl := headN_length b
  unfold headB
  rw [hl]
  have h3 : (headN b).drop 3 = b.vot ++ [(b.data.length : Int)] := rfl
  have h4 : (headN b).getD (b.vot.length + 4 - 1) 0 = (b.data.length : Int) := by
    unfold headN
    rw [show b.vot.length + 4 - 1 = b.vot.length + 3 by omega]
    show (b.vot ++ [(b.data.length : Int)]).getD b.vot.length 0 = _
    simp [List.getD]
  rw [h3, h4, show b.vot.length + 4 - 4 = b.vot.length by omega, List.take_left]
  rfl
theorem rightS_data {b : Bs} (d : List UInt8) (h : rightS b = true) (hd : d.length ≤ 4000000) : rightS { b with data := d } = true := by
  obtain ⟨h1, h2, h3, h4, h5⟩ := rightS_parts h
  unfold rightS
  simp only [Bool.and_eq_true, decide_eq_true_eq]
  exact ⟨⟨⟨h1, h2⟩, h3, h4⟩, hd⟩
theorem headN_ok {b : Bs} (h : rightS b = true) : headOk (headN b) = true := by
  obtain ⟨_, _, _, _, h5⟩ := rightS_parts h
  unfold headOk
  rw [headN_B, headN_length]
  simp only [Bool.and_eq_true, decide_eq_true_eq]
  refine ⟨⟨⟨by omega, ?_⟩, rightS_data [] h (by simp)⟩, by omega, by omega⟩
  show (b.vot.length : Int) = _
  omega
theorem headOk_parts {l : List Int} (h : headOk l = true) : 4 ≤ l.length ∧ l.getD 2 0 = (l.length : Int) - 4 ∧ rightS (headB l).1 = true ∧ 0 ≤ (headB l).2 ∧ (headB l).2 ≤ 4000000 := by
  unfold headOk at h
  simp only [Bool.and_eq_true, decide_eq_true_eq] at h
  exact ⟨h.1.1.1, h.1.1.2, h.1.2, h.2.1, h.2.2⟩
/-- The numbers that make such a head. -/
theorem headOk_is {l : List Int} (h : headOk l = true) (d : List UInt8) (hd : (d.length : Int) = (headB l).2) : l = headN { (headB l).1 with data := d } := by
  obtain ⟨h1, h2, _, _, _⟩ := headOk_parts h
  match l, h1 with
  | a :: b :: c :: r, h1 =>
    have hr : 1 ≤ r.length := by simp only [List.length_cons] at h1; omega
    unfold headN headB at *
    simp only [List.length_cons] at h2 hd ⊢
    have e1 : r.length + 1 + 1 + 1 - 4 = r.length - 1 := by omega
    have e2 : r.length + 1 + 1 + 1 - 1 = (r.length - 1) + 3 := by omega
    have e3 : (a :: b :: c :: r).getD ((r.length - 1) + 3) 0 = r.getD (r.length - 1) 0 := rfl
    have e4 : (a :: b :: c :: r).drop 3 = r := rfl
    have e5 : c = (r.length : Int) + 1 + 1 + 1 - 4 := by
      have : (a :: b :: c :: r).getD 2 0 = c := rfl
      rw [← this]; omega
    have e6 : ((r.take (r.length - 1)).length : Int) = c := by rw [List.length_take]; omega
    rw [e2, e3] at hd
    rw [e1, e4, e6, hd]
    have e7 : r.take (r.length - 1) ++ [r.getD (r.length - 1) 0] = r := by
      have : r.getD (r.length - 1) 0 = r[r.length - 1]'(by omega) := by simp [List.getD, List.getElem?_eq_getElem (show r.length - 1 < r.length by omega)]
      rw [this, List.take_append_getElem, show r.length - 1 + 1 = r.length by omega, List.take_length]
    rw [e7]
    rfl
  | [], h1 => simp at h1
  | [a], h1 => simp at h1
  | [a, b], h1 => simp at h1
theorem headS_len {b : Bs} (h : rightS b = true) : (headS b).length ≤ 130 := by
  have h1 := headN_I64 h
  have h2 : (encs (headN b)).length ≤ 10 * (headN b).length := by
    generalize headN b = l at h1
    induction l with
    | nil => simp [encs]
    | cons n r ih =>
      have hn := h1 n (List.mem_cons_self ..)
      have h3 := enc_length (nat64_lt hn.1 hn.2)
      have h4 := ih (fun x hx => h1 x (List.mem_cons_of_mem _ hx))
      rw [encs_cons, List.length_append, List.length_cons]
      omega
  have h3 := (rightS_vot h).1
  rw [headN_length] at h2
  unfold headS
  omega
theorem packS_is (b : Bs) : packS b = frameL (headS b) ++ chunkBytes b.data := rfl
theorem unpack_pack {b : Bs} (h : rightS b = true) : unpackS (packS b) = (b, 0) := by
  have hl := headS_len h
  have hu : unframeS (packS b) = (headS b, 8 + (headS b).length, 0) := by rw [packS_is]; exact unframeS_frame _ _ (by omega)
  have hd : (packS b).drop (8 + (headS b).length) = chunkBytes b.data := by rw [packS_is, drop_frame]
  have hn : nums (headS b) = some (headN b) := nums_encs (headN_I64 h)
  have hdat := dataS_pack b.data []
  rw [List.append_nil] at hdat
  unfold unpackS
  rw [hu]
  simp only
  rw [if_neg (by simp), hn]
  simp only
  rw [if_neg (by rw [headN_ok h]; simp), hd, headN_B]
  simp only [Int.toNat_natCast]
  rw [hdat]
  simp
theorem pack_unpack {s : List UInt8} {b : Bs} (h : unpackS s = (b, 0)) : rightS b = true ∧ packS b = s := by
  unfold unpackS at h
  rcases unframeS_cases s with ⟨e, hu, he⟩ | ⟨p, hu, hp, hps, hpf⟩
  · rw [hu] at h
    simp only at h
    rw [if_pos (by omega)] at h
    simp only [Prod.mk.injEq] at h
    omega
  · rw [hu] at h
    simp only at h
    rw [if_neg (by simp)] at h
    cases hn : nums p with
    | none =>
      rw [hn] at h
      simp only [Prod.mk.injEq] at h
      omega
    | some l =>
      rw [hn] at h
      simp only at h
      obtain ⟨n1, n2⟩ := nums_sound hn
      by_cases ho : headOk l = false
      · rw [if_pos ho] at h
        simp only [Prod.mk.injEq] at h
        omega
      · rw [if_neg ho] at h
        have ho : headOk l = true := by simpa using ho
        obtain ⟨o1, o2, o3, o4, o5⟩ := headOk_parts ho
        obtain ⟨r1, r2, r3, hr⟩ : ∃ r1 r2 r3, dataS (s.drop (8 + p.length)) (headB l).2.toNat = (r1, r2, r3) := ⟨_, _, _, rfl⟩
        rw [hr] at h
        simp only at h
        by_cases h3 : r3 ≠ 0
        · rw [if_pos h3] at h
          simp only [Prod.mk.injEq] at h
          exact absurd h.2 h3
        · rw [if_neg h3] at h
          have h3 : r3 = 0 := Decidable.not_not.1 h3
          subst h3
          by_cases h2 : r2 ≠ []
          · rw [if_pos h2] at h
            simp only [Prod.mk.injEq] at h
            omega
          · rw [if_neg h2] at h
            have h2 : r2 = [] := Decidable.not_not.1 h2
            subst h2
            simp only [Prod.mk.injEq] at h
            obtain ⟨hb, _⟩ := h
            obtain ⟨d1, d2⟩ := dataS_sound hr
            have hdl : (r1.length : Int) = (headB l).2 := by rw [d1]; omega
            have hl := headOk_is ho r1 hdl
            rw [hb] at hl
            have hright : rightS b = true := by
              rw [← hb]
              exact rightS_data r1 o3 (by omega)
            refine ⟨hright, ?_⟩
            have hbd : b.data = r1 := by rw [← hb]
            rw [packS_is, hbd]
            unfold headS
            rw [← hl, n1, hpf, List.append_nil] at *
            rw [← d2, List.take_append_drop]
end Go.Proofs.YtbccikefccdekaaGreatDoor

/-
  SMALL LAWS THAT EVERY LAYER WITH OBJECTS USES: what a call may turn ('Chg S w w'': the blocks of S, and new ones); a block known whole ('own').
-/
namespace Go.Proofs.YtbccikefccdekaaGreatDoor
open Go.RowKit
set_option linter.unusedVariables false
set_option maxRecDepth 100000

/-- Of what was there, only blocks of S have turned. -/
structure Chg (S : Nat → Prop) (w w' : World) : Prop where
  os : w'.os = w.os
  tape : w'.tape = w.tape
  output : w'.output = w.output
  size : w.heap.size ≤ w'.heap.size
  block : ∀ b, b < w.heap.size → ¬ S b → w'.heap[b]? = w.heap[b]?
/-- S, and what has been laid since. -/
def grow (S : Nat → Prop) (w w' : World) : Nat → Prop := fun b => S b ∨ (w.heap.size ≤ b ∧ b < w'.heap.size)

theorem Chg.refl (S : Nat → Prop) (w : World) : Chg S w w := ⟨rfl, rfl, rfl, Nat.le_refl _, fun _ _ _ => rfl⟩
theorem Chg.trans {S T : Nat → Prop} {a b c : World} (h : Chg S a b) (k : Chg T b c) (hT : ∀ x, T x → S x ∨ a.heap.size ≤ x) : Chg S a c :=
  ⟨k.os.trans h.os, k.tape.trans h.tape, k.output.trans h.output, Nat.le_trans h.size k.size, fun x hx hs =>
    (k.block x (Nat.lt_of_lt_of_le hx h.size) (fun ht => by rcases hT x ht with h1 | h1; exact hs h1; omega)).trans (h.block x hx hs)⟩
theorem Chg.mono {S T : Nat → Prop} {w w' : World} (h : Chg S w w') (hs : ∀ x, S x → T x) : Chg T w w' := ⟨h.os, h.tape, h.output, h.size, fun b hb ht => h.block b hb (fun k => ht (hs b k))⟩
theorem Chg.of_below {S : Nat → Prop} {w w' : World} (h : Below w.heap.size w w') : Chg S w w' := ⟨h.os, h.tape, h.output, h.size, fun b hb _ => h.block b hb⟩
theorem Chg.below {S : Nat → Prop} {w w' : World} {B : Nat} (h : Chg S w w') (hB : B ≤ w.heap.size) (hS : ∀ b, S b → B ≤ b) : Below B w w' :=
  ⟨h.os, h.tape, h.output, h.size, fun b hb => h.block b (by omega) (fun k => by have := hS b k; omega)⟩
theorem Chg.of_grown {w w' : World} {row : Option Nat} (h : w.grownBy w' row) : Chg (fun b => row = some b) w w' := ⟨h.os, h.tape, h.output, h.size, fun b hb hn => h.block b hb (fun e => hn e.symm)⟩
theorem Chg.setCell (w : World) (p : Addr) (u : Value) : Chg (fun b => b = p.block) w (w.setCell p u) := ⟨rfl, rfl, rfl, by simp [World.setCell], fun b hb hn => Below.heap_setCell _ _ _ _ hn⟩
theorem Chg.alloc (S : Nat → Prop) (w : World) (o : Obj) : Chg S w (w.alloc o) := ⟨rfl, rfl, rfl, by simp, fun b hb _ => Below.heap_alloc _ _ _ hb⟩
theorem Chg.drewN {S : Nat → Prop} {a w : World} (h : Chg S a w) (n : Nat) : Chg S a (w.drewN n) := ⟨h.os, h.tape, h.output, h.size, h.block⟩
theorem setCell_size (w : World) (p : Addr) (u : Value) : (w.setCell p u).heap.size = w.heap.size := by simp [World.setCell]
theorem Chg.keep {S T : Nat → Prop} {w w' : World} (h : Chg S w w') (hT : ∀ b, T b → b < w.heap.size ∧ ¬ S b) : ∀ b, T b → w'.heap[b]? = w.heap[b]? := fun b hb => h.block b (hT b hb).1 (hT b hb).2
theorem grow_mono {S : Nat → Prop} {w w' : World} : ∀ b, S b → grow S w w' b := fun b h => .inl h
theorem grow_lt {S : Nat → Prop} {w w' : World} (hS : ∀ b, S b → b < w.heap.size) (hs : w.heap.size ≤ w'.heap.size) : ∀ b, grow S w w' b → b < w'.heap.size := fun b h => by
  rcases h with h | h
  · have := hS b h; omega
  · exact h.2
theorem grow_ge {S : Nat → Prop} {w w' : World} {B : Nat} (hS : ∀ b, S b → B ≤ b) (hB : B ≤ w.heap.size) : ∀ b, grow S w w' b → B ≤ b := fun b h => by
  rcases h with h | h
  · exact hS b h
  · omega

/-- A block of cells, known whole. -/
def own (w : World) (b : Nat) (cs : Array Value) (T : TypeId) : Prop := w.heap[b]? = some (.cells cs T (0, 0))
theorem own.cell {w : World} {b : Nat} {cs : Array Value} {T : TypeId} (h : own w b cs T) (k : Nat) : w.cell? ⟨b, k, none⟩ = cs[k]? := Lib.cell_of_heap h k
theorem own.frozen {w : World} {b : Nat} {cs : Array Value} {T : TypeId} (h : own w b cs T) (k : Nat) : w.frozen? ⟨b, k, none⟩ = false := Lib.frozen_of_heap h k
theorem own.lt {w : World} {b : Nat} {cs : Array Value} {T : TypeId} (h : own w b cs T) : b < w.heap.size := (Array.getElem?_eq_some_iff.1 h).1
theorem own.set {w : World} {b : Nat} {cs : Array Value} {T : TypeId} (h : own w b cs T) (k : Nat) (v : Value) : own (w.setCell ⟨b, k, none⟩ v) b (cs.setIfInBounds k v) T := by
  unfold own at *
  simp [World.setCell, Array.getElem?_modify, h]
theorem own.other {w : World} {b : Nat} {cs : Array Value} {T : TypeId} (h : own w b cs T) {p : Addr} (hp : b ≠ p.block) (v : Value) : own (w.setCell p v) b cs T := by
  unfold own at *
  rw [Below.heap_setCell _ _ _ _ hp]; exact h
theorem own.new (w : World) (cs : Array Value) (T : TypeId) : own (w.alloc (.cells cs T)) w.heap.size cs T := heap_alloc_new w _
theorem own.chg {w w' : World} {S : Nat → Prop} {b : Nat} {cs : Array Value} {T : TypeId} (h : own w b cs T) (hc : Chg S w w') (hb : ¬ S b) : own w' b cs T := by
  unfold own at *
  rw [hc.block b (Array.getElem?_eq_some_iff.1 h).1 hb]; exact h
theorem own.same {w w' : World} {b : Nat} {cs : Array Value} {T : TypeId} (h : own w b cs T) (hb : w'.heap[b]? = w.heap[b]?) : own w' b cs T := by
  unfold own at *
  rw [hb]; exact h

theorem ownsRow_same {w w' : World} {B : Nat} {e : TypeId} {size : Nat} {v : Value} {n : Nat} {xs : List Value} (h : w.ownsRow B e size v n xs) (hs : ∀ b, v.ownBlock = some b → w'.heap[b]? = w.heap[b]?) : w'.ownsRow B e size v n xs := by
  obtain ⟨h1, h2⟩ := h
  refine ⟨h1, ?_⟩
  rcases h2 with h2 | ⟨g, cap, cur, hv, hB, hg, h3⟩
  · exact .inl h2
  · exact .inr ⟨g, cap, cur, hv, hB, by rw [hs g (by rw [hv]; rfl)]; exact hg, h3⟩
theorem ownsMap_same {H : Type} {w w' : World} {P : Program} {k : TypeId} {R : Value → Option (DataW H × List MemPlace)} {b n : Nat} {D : DataW H} (h : w.ownsMap P k R b n D) (hs : w'.heap[b]? = w.heap[b]?) : w'.ownsMap P k R b n D := by
  obtain ⟨es, clock, hb, r⟩ := h
  exact ⟨es, clock, by rw [hs]; exact hb, r⟩
theorem ownsMap_tight {H : Type} {w : World} {P : Program} {k : TypeId} {R : Value → Option (DataW H × List MemPlace)} {b n : Nat} {D : DataW H} (h : w.ownsMap P k R b n D) : w.ownsMap P k R b (Maps.size D) D := by
  obtain ⟨es, clock, hb, F, _, rfl⟩ := h
  exact ⟨es, clock, hb, F, by simp [Maps.size, length_sorted], rfl⟩
theorem mapTurned_chg {w w' : World} {b : Nat} (h : w.mapTurned w' b) : Chg (fun x => x = b) w w' := (Chg.of_grown h.grown).mono (fun x e => by cases e; rfl)
theorem mapTurned_size {w w' : World} {b : Nat} (h : w.mapTurned w' b) : w'.heap.size = w.heap.size := by
  obtain ⟨es, clock, es', clock', hb, rfl⟩ := h
  simp [ChangeMaps.setBlock]

/-- One segment of a row of numbers exchanged for another. -/
theorem nodup_swap {A X Y B : List Nat} {N : Nat} (h : (A ++ (X ++ B)).Nodup) (hY : Y.Nodup) (hlt : ∀ b ∈ A ++ (X ++ B), b < N) (hsub : ∀ b ∈ Y, b ∈ X ∨ N ≤ b) : (A ++ (Y ++ B)).Nodup := by
  rw [List.nodup_append] at h ⊢
  obtain ⟨hA, hXB, hd⟩ := h
  rw [List.nodup_append] at hXB ⊢
  obtain ⟨hX, hB, hd2⟩ := hXB
  refine ⟨hA, ⟨hY, hB, fun b hb c hc e => ?_⟩, fun b hb c hc e => ?_⟩
  · subst e
    rcases hsub b hb with h1 | h1
    · exact hd2 b h1 b hc rfl
    · have := hlt b (by simp [hc]); omega
  · subst e
    rcases List.mem_append.1 hc with hc | hc
    · rcases hsub b hc with h1 | h1
      · exact hd b hb b (by simp [h1]) rfl
      · have := hlt b (by simp [hb]); omega
    · exact hd b hb b (by simp [hc]) rfl
end Go.Proofs.YtbccikefccdekaaGreatDoor

/-
  strconv.Itoa and strconv.Atoi: the library's contracts, laid (the tables of numbers in plain words).
-/
namespace Go.Proofs.YtbccikefccdekaaGreatDoor
open Go.Shelf
set_option maxRecDepth 100000
def Tryz.itoaA_ren : Go.Shelf.Ren := ⟨fun | 171 => 89 | 243 => 111 | 246 => 132 | 283 => 143 | 284 => 144 | 285 => 145 | 286 => 146 | 129 => 101 | 317 => 150 | 318 => 151 | 319 => 152 | 320 => 153 | 337 => 156 | 338 => 157 | n => n, fun | 3 => 3 | 9 => 9 | 2 => 2 | 4 => 4 | 171 => 164 | 0 => 0 | 53 => 109 | 37 => 33 | 5 => 5 | 173 => 166 | 212 => 176 | 51 => 112 | 20 => 20 | 213 => 177 | 46 => 103 | 232 => 182 | 233 => 183 | n => n, fun | 17 => 3 | 18 => 4 | 19 => 5 | n => n⟩
theorem Tryz.itoaA : Go.Proofs.LaysM.n171 Tryz.prog Tryz.itoaA_ren := {
  mixed := by kernel_rfl
  f129 := Tryz.func101.trans (congrArg some (by kernel_rfl))
  f171 := Tryz.func89.trans (congrArg some (by kernel_rfl))
  f243 := Tryz.func111.trans (congrArg some (by kernel_rfl))
  f246 := Tryz.func132.trans (congrArg some (by kernel_rfl))
  f283 := Tryz.func143.trans (congrArg some (by kernel_rfl))
  f284 := Tryz.func144.trans (congrArg some (by kernel_rfl))
  f285 := Tryz.func145.trans (congrArg some (by kernel_rfl))
  f286 := Tryz.func146.trans (congrArg some (by kernel_rfl))
  f317 := Tryz.func150.trans (congrArg some (by kernel_rfl))
  f318 := Tryz.func151.trans (congrArg some (by kernel_rfl))
  f319 := Tryz.func152.trans (congrArg some (by kernel_rfl))
  f320 := Tryz.func153.trans (congrArg some (by kernel_rfl))
  f337 := Tryz.func156.trans (congrArg some (by kernel_rfl))
  f338 := Tryz.func157.trans (congrArg some (by kernel_rfl))
  t0 := Tryz.underlying0
  a0 := Tryz.isAgg0
  z0 := Tryz.sizeOf0
  v0 := Tryz.zeroValue0
  t2 := Tryz.underlying2
  a2 := Tryz.isAgg2
  z2 := Tryz.sizeOf2
  v2 := Tryz.zeroValue2
  t3 := Tryz.underlying3
  a3 := Tryz.isAgg3
  z3 := Tryz.sizeOf3
  v3 := Tryz.zeroValue3
  t4 := Tryz.underlying4
  a4 := Tryz.isAgg4
  z4 := Tryz.sizeOf4
  v4 := Tryz.zeroValue4
  t5 := Tryz.underlying5
  a5 := Tryz.isAgg5
  z5 := Tryz.sizeOf5
  v5 := Tryz.zeroValue5
  t9 := Tryz.underlying9
  a9 := Tryz.isAgg9
  z9 := Tryz.sizeOf9
  v9 := Tryz.zeroValue9
  t20 := Tryz.underlying20
  a20 := Tryz.isAgg20
  z20 := Tryz.sizeOf20
  v20 := Tryz.zeroValue20
  t37 := Tryz.underlying33
  a37 := Tryz.isAgg33
  z37 := Tryz.sizeOf33
  v37 := Tryz.zeroValue33
  t46 := Tryz.underlying103
  a46 := Tryz.isAgg103
  z46 := Tryz.sizeOf103
  v46 := Tryz.zeroValue103
  t51 := Tryz.underlying112
  a51 := Tryz.isAgg112
  z51 := Tryz.sizeOf112
  v51 := Tryz.zeroValue112
  t53 := Tryz.underlying109
  a53 := Tryz.isAgg109
  z53 := Tryz.sizeOf109
  v53 := Tryz.zeroValue109
  t171 := Tryz.underlying164
  a171 := Tryz.isAgg164
  z171 := Tryz.sizeOf164
  v171 := Tryz.zeroValue164
  t173 := Tryz.underlying166
  a173 := Tryz.isAgg166
  z173 := Tryz.sizeOf166
  v173 := Tryz.zeroValue166
  t212 := Tryz.underlying176
  a212 := Tryz.isAgg176
  z212 := Tryz.sizeOf176
  v212 := Tryz.zeroValue176
  t213 := Tryz.underlying177
  a213 := Tryz.isAgg177
  z213 := Tryz.sizeOf177
  t232 := Tryz.underlying182
  a232 := Tryz.isAgg182
  z232 := Tryz.sizeOf182
  v232 := Tryz.zeroValue182
  t233 := Tryz.underlying183
  a233 := Tryz.isAgg183
  z233 := Tryz.sizeOf183
  v233 := Tryz.zeroValue183
  g17 := by kernel_rfl
  g18 := by kernel_rfl
  g19 := by kernel_rfl
  i0 := by kernel_rfl
  i2 := by kernel_rfl
  i3 := by kernel_rfl
  i4 := by kernel_rfl
  i5 := by kernel_rfl
  i9 := by kernel_rfl
  i20 := by kernel_rfl
  i37 := by kernel_rfl
  i46 := by kernel_rfl
  i51 := by kernel_rfl
  i53 := by kernel_rfl
  i171 := by kernel_rfl
  i173 := by kernel_rfl
  i212 := by kernel_rfl
  i232 := by kernel_rfl
  i233 := by kernel_rfl
  m17 := by kernel_rfl
  m18 := by kernel_rfl
  m19 := by kernel_rfl }
def Tryz.atoiA_ren : Go.Shelf.Ren := ⟨fun | 172 => 103 | 244 => 118 | 245 => 119 | 247 => 134 | 279 => 135 | 280 => 136 | 281 => 137 | 282 => 138 | 287 => 147 | 316 => 112 | 171 => 89 | 205 => 148 | 321 => 154 | 322 => 155 | 243 => 111 | 246 => 132 | 283 => 143 | 284 => 144 | 285 => 145 | 286 => 146 | 129 => 101 | 317 => 150 | 318 => 151 | 319 => 152 | 320 => 153 | 337 => 156 | 338 => 157 | n => n, fun | 9 => 9 | 3 => 3 | 75 => 56 | 76 => 57 | 4 => 4 | 5 => 5 | 167 => 156 | 37 => 33 | 0 => 0 | 85 => 157 | 2 => 2 | 168 => 159 | 53 => 109 | 175 => 168 | 46 => 103 | 210 => 171 | 127 => 87 | 145 => 181 | 143 => 179 | 21 => 21 | 171 => 164 | 173 => 166 | 212 => 176 | 51 => 112 | 20 => 20 | 213 => 177 | 232 => 182 | 233 => 183 | 80 => 59 | n => n, fun | 15 => 1 | 16 => 2 | 17 => 3 | 18 => 4 | 19 => 5 | n => n⟩
theorem Tryz.atoiA : Go.Proofs.LaysC.n172 Tryz.prog Tryz.atoiA_ren := {
  mixed := by kernel_rfl
  f129 := Tryz.func101.trans (congrArg some (by kernel_rfl))
  f171 := Tryz.func89.trans (congrArg some (by kernel_rfl))
  f172 := Tryz.func103.trans (congrArg some (by kernel_rfl))
  f205 := Tryz.func148.trans (congrArg some (by kernel_rfl))
  f243 := Tryz.func111.trans (congrArg some (by kernel_rfl))
  f244 := Tryz.func118.trans (congrArg some (by kernel_rfl))
  f245 := Tryz.func119.trans (congrArg some (by kernel_rfl))
  f246 := Tryz.func132.trans (congrArg some (by kernel_rfl))
  f247 := Tryz.func134.trans (congrArg some (by kernel_rfl))
  f279 := Tryz.func135.trans (congrArg some (by kernel_rfl))
  f280 := Tryz.func136.trans (congrArg some (by kernel_rfl))
  f281 := Tryz.func137.trans (congrArg some (by kernel_rfl))
  f282 := Tryz.func138.trans (congrArg some (by kernel_rfl))
  f283 := Tryz.func143.trans (congrArg some (by kernel_rfl))
  f284 := Tryz.func144.trans (congrArg some (by kernel_rfl))
  f285 := Tryz.func145.trans (congrArg some (by kernel_rfl))
  f286 := Tryz.func146.trans (congrArg some (by kernel_rfl))
  f287 := Tryz.func147.trans (congrArg some (by kernel_rfl))
  f316 := Tryz.func112.trans (congrArg some (by kernel_rfl))
  f317 := Tryz.func150.trans (congrArg some (by kernel_rfl))
  f318 := Tryz.func151.trans (congrArg some (by kernel_rfl))
  f319 := Tryz.func152.trans (congrArg some (by kernel_rfl))
  f320 := Tryz.func153.trans (congrArg some (by kernel_rfl))
  f321 := Tryz.func154.trans (congrArg some (by kernel_rfl))
  f322 := Tryz.func155.trans (congrArg some (by kernel_rfl))
  f337 := Tryz.func156.trans (congrArg some (by kernel_rfl))
  f338 := Tryz.func157.trans (congrArg some (by kernel_rfl))
  t0 := Tryz.underlying0
  a0 := Tryz.isAgg0
  z0 := Tryz.sizeOf0
  v0 := Tryz.zeroValue0
  t2 := Tryz.underlying2
  a2 := Tryz.isAgg2
  z2 := Tryz.sizeOf2
  v2 := Tryz.zeroValue2
  t3 := Tryz.underlying3
  a3 := Tryz.isAgg3
  z3 := Tryz.sizeOf3
  v3 := Tryz.zeroValue3
  t4 := Tryz.underlying4
  a4 := Tryz.isAgg4
  z4 := Tryz.sizeOf4
  v4 := Tryz.zeroValue4
  t5 := Tryz.underlying5
  a5 := Tryz.isAgg5
  z5 := Tryz.sizeOf5
  v5 := Tryz.zeroValue5
  t9 := Tryz.underlying9
  a9 := Tryz.isAgg9
  z9 := Tryz.sizeOf9
  v9 := Tryz.zeroValue9
  t20 := Tryz.underlying20
  a20 := Tryz.isAgg20
  z20 := Tryz.sizeOf20
  v20 := Tryz.zeroValue20
  t21 := Tryz.underlying21
  a21 := Tryz.isAgg21
  z21 := Tryz.sizeOf21
  v21 := Tryz.zeroValue21
  t37 := Tryz.underlying33
  a37 := Tryz.isAgg33
  z37 := Tryz.sizeOf33
  v37 := Tryz.zeroValue33
  t46 := Tryz.underlying103
  a46 := Tryz.isAgg103
  z46 := Tryz.sizeOf103
  v46 := Tryz.zeroValue103
  t51 := Tryz.underlying112
  a51 := Tryz.isAgg112
  z51 := Tryz.sizeOf112
  v51 := Tryz.zeroValue112
  t53 := Tryz.underlying109
  a53 := Tryz.isAgg109
  z53 := Tryz.sizeOf109
  v53 := Tryz.zeroValue109
  t75 := Tryz.underlying56
  a75 := Tryz.isAgg56
  z75 := Tryz.sizeOf56
  v75 := Tryz.zeroValue56
  t76 := Tryz.underlying57
  a76 := Tryz.isAgg57
  z76 := Tryz.sizeOf57
  v76 := Tryz.zeroValue57
  t85 := Tryz.underlying157
  a85 := Tryz.isAgg157
  z85 := Tryz.sizeOf157
  v85 := Tryz.zeroValue157
  t127 := Tryz.underlying87
  a127 := Tryz.isAgg87
  z127 := Tryz.sizeOf87
  v127 := Tryz.zeroValue87
  t143 := Tryz.underlying179
  a143 := Tryz.isAgg179
  z143 := Tryz.sizeOf179
  v143 := Tryz.zeroValue179
  t145 := Tryz.underlying181
  a145 := Tryz.isAgg181
  z145 := Tryz.sizeOf181
  v145 := Tryz.zeroValue181
  t167 := Tryz.underlying156
  a167 := Tryz.isAgg156
  z167 := Tryz.sizeOf156
  v167 := Tryz.zeroValue156
  t168 := Tryz.underlying159
  a168 := Tryz.isAgg159
  z168 := Tryz.sizeOf159
  v168 := Tryz.zeroValue159
  t171 := Tryz.underlying164
  a171 := Tryz.isAgg164
  z171 := Tryz.sizeOf164
  v171 := Tryz.zeroValue164
  t173 := Tryz.underlying166
  a173 := Tryz.isAgg166
  z173 := Tryz.sizeOf166
  v173 := Tryz.zeroValue166
  t175 := Tryz.underlying168
  a175 := Tryz.isAgg168
  z175 := Tryz.sizeOf168
  v175 := Tryz.zeroValue168
  t210 := Tryz.underlying171
  a210 := Tryz.isAgg171
  z210 := Tryz.sizeOf171
  v210 := Tryz.zeroValue171
  t212 := Tryz.underlying176
  a212 := Tryz.isAgg176
  z212 := Tryz.sizeOf176
  v212 := Tryz.zeroValue176
  t213 := Tryz.underlying177
  a213 := Tryz.isAgg177
  z213 := Tryz.sizeOf177
  t232 := Tryz.underlying182
  a232 := Tryz.isAgg182
  z232 := Tryz.sizeOf182
  v232 := Tryz.zeroValue182
  t233 := Tryz.underlying183
  a233 := Tryz.isAgg183
  z233 := Tryz.sizeOf183
  v233 := Tryz.zeroValue183
  g15 := by kernel_rfl
  g16 := by kernel_rfl
  g17 := by kernel_rfl
  g18 := by kernel_rfl
  g19 := by kernel_rfl
  t80 := Tryz.underlying59
  a80 := Tryz.isAgg59
  z80 := Tryz.sizeOf59
  v80 := Tryz.zeroValue59
  i0 := by kernel_rfl
  i2 := by kernel_rfl
  i3 := by kernel_rfl
  i4 := by kernel_rfl
  i5 := by kernel_rfl
  i9 := by kernel_rfl
  i20 := by kernel_rfl
  i21 := by kernel_rfl
  i37 := by kernel_rfl
  i46 := by kernel_rfl
  i51 := by kernel_rfl
  i53 := by kernel_rfl
  i75 := by kernel_rfl
  i76 := by kernel_rfl
  i80 := by kernel_rfl
  i85 := by kernel_rfl
  i127 := by kernel_rfl
  i143 := by kernel_rfl
  i145 := by kernel_rfl
  i167 := by kernel_rfl
  i168 := by kernel_rfl
  i171 := by kernel_rfl
  i173 := by kernel_rfl
  i175 := by kernel_rfl
  i210 := by kernel_rfl
  i212 := by kernel_rfl
  i232 := by kernel_rfl
  i233 := by kernel_rfl
  m15 := by kernel_rfl
  m16 := by kernel_rfl
  m17 := by kernel_rfl
  m18 := by kernel_rfl
  m19 := by kernel_rfl
  c0 := by kernel_rfl
  c2 := by kernel_rfl
  c3 := by kernel_rfl
  c4 := by kernel_rfl
  c5 := by kernel_rfl
  c9 := by kernel_rfl
  c20 := by kernel_rfl
  c21 := by kernel_rfl
  c37 := by kernel_rfl
  c46 := by kernel_rfl
  c51 := by kernel_rfl
  c53 := by kernel_rfl
  c75 := by kernel_rfl
  c76 := by kernel_rfl
  c80 := by kernel_rfl
  c85 := by kernel_rfl
  c127 := by kernel_rfl
  c143 := by kernel_rfl
  c145 := by kernel_rfl
  c167 := by kernel_rfl
  c168 := by kernel_rfl
  c171 := by kernel_rfl
  c173 := by kernel_rfl
  c175 := by kernel_rfl
  c210 := by kernel_rfl
  c212 := by kernel_rfl
  c213 := by kernel_rfl
  c232 := by kernel_rfl
  c233 := by kernel_rfl }
end Go.Proofs.YtbccikefccdekaaGreatDoor

/-
  LAYER 4 (snap): names of snapshots' files (written by tools/gen4_files.py out of XWlNum).
-/
namespace Go.Proofs.YtbccikefccdekaaGreatDoor.Sn
open Go.RowKit
set_option linter.unusedVariables false
set_option maxRecDepth 100000

def I64 (n : Int) : Prop := -9223372036854775808 ≤ n ∧ n ≤ 9223372036854775807

/-- The package-level variables that the layer's calls read; all lie below block B. -/
structure Glob (w : World) (B : Nat) : Prop where
  steps : Steps w
  hsteps : 0 < B
  pow : Lib.TabIs Tryz.prog w "internal/strconv.uint64pow10" .u64 Lib.pow10Tab
  hpow : 3 < B
  syn : ∃ ev, w.cell? ⟨1, 0, none⟩ = some ev ∧ (ev = .nilIface ∨ ∃ te pe, ev = .iface te pe)
  hsyn : 1 < B
  rng : ∃ ev, w.cell? ⟨2, 0, none⟩ = some ev ∧ (ev = .nilIface ∨ ∃ te pe, ev = .iface te pe)
  hrng : 2 < B
theorem gPow : Tryz.prog.globalNamed "internal/strconv.uint64pow10" = some 3 := by kernel_rfl
theorem Glob.same {w w' : World} {B : Nat} (h : Glob w B) (hs : ∀ b, b < B → w'.heap[b]? = w.heap[b]?) : Glob w' B := by
  obtain ⟨h1, h2, h3, h4, ⟨e1, h5, h6⟩, h7, ⟨e2, h8, h9⟩, h10⟩ := h
  refine ⟨fun i hi => (World.cell?_of_block (w := w) (a := ⟨0, i, none⟩) (hs _ h2)).trans (h1 i hi), h2, ?_, h4, ⟨e1, (World.cell?_of_block (w := w) (a := ⟨1, 0, none⟩) (hs _ h7)).trans h5, h6⟩, h7, ⟨e2, (World.cell?_of_block (w := w) (a := ⟨2, 0, none⟩) (hs _ h10)).trans h8, h9⟩, h10⟩
  unfold Lib.TabIs World.var? at *
  rw [gPow] at h3 ⊢
  simp only [Option.bind_some] at h3 ⊢
  rw [hs _ h4]; exact h3
theorem Glob.below {w w' : World} {B : Nat} (h : Glob w B) {B' : Nat} (hb : Below B' w w') (hB : B ≤ B') : Glob w' B := h.same fun b hlt => hb.block b (by omega)
theorem Glob.chg {w w' : World} {B : Nat} {S : Nat → Prop} (h : Glob w B) (hc : Chg S w w') (hB : B ≤ w.heap.size) (hS : ∀ b, S b → B ≤ b) : Glob w' B := h.same fun b hlt => hc.block b (by omega) (fun k => by have := hS b k; omega)

theorem below_ahead (w : World) (n : Nat) (os : Array Obj) : Below w.heap.size w (Sort.grow (w.drewN n) os) :=
  ⟨rfl, rfl, rfl, by show w.heap.size ≤ (w.heap ++ os).size; rw [Array.size_append]; omega, fun b hb => by show (w.heap ++ os)[b]? = _; exact Array.getElem?_append_left hb⟩
theorem itoa_any (n : Int) (w : World) {B : Nat} (hg : Glob w B) (h : I64 n) : Calls Tryz.prog 89 #[.int .i64 n] w fun e w' => e = .returned (.string (mk (Lib.itoa n))) ∧ Below w.heap.size w w' :=
  (Any.strconv_Itoa Tryz.itoaA n h.1 h.2 w hg.pow).mono fun e w' ⟨he, k, os, hw⟩ => ⟨he, by rw [hw]; exact below_ahead w k os⟩
/-- A segment's name. -/
def segN (n : Int) : List UInt8 := 112 :: Lib.itoa n
theorem segName_any (n : Int) (w : World) {B : Nat} (hg : Glob w B) (h : I64 n) : Calls Tryz.prog 60 #[.int .i64 n] w fun e w' => e = .returned (.string (mk (segN n))) ∧ Below w.heap.size w w' := by
  have HI := hid (itoa_any n w hg h)
  have he : (ByteArray.mk #[112]) ++ mk (Lib.itoa n) = mk (segN n) := mk_append [112] (Lib.itoa n)
  have hd : (mk (Lib.itoa n)).size ≤ 21 := by rw [mk_size]; exact Lib.itoa_length_le n h.1 h.2
  clear h hg
  generalize mk (segN n) = r at *
  generalize mk (Lib.itoa n) = d at *
  go_enter Tryz.func60, Tryz.ntmps60
  go_wp2_with (go_at_call 89; (with_reducible refine HI.out.mono ?_); rintro e w1 ⟨rfl, hb⟩)
  go_ret
  exact ⟨rfl, hb⟩

/-! ### strconv.Atoi -/
def atoiV (l : List UInt8) (v ev : Value) : Prop := match Lib.atoiAll l with
  | .ok n => v = .int .i64 n ∧ ev = .nilIface
  | _ => ∃ k te pe, v = .int .i64 k ∧ ev = .iface te pe
theorem atoi_any (s : ByteArray) (w : World) {B : Nat} (hg : Glob w B) (hB : B ≤ w.heap.size) (hs : s.size ≤ 1000) : Calls Tryz.prog 103 #[.string s] w fun e w' => ∃ v ev, e = .returned (.tuple #[v, ev]) ∧ atoiV s.data.toList v ev ∧ Below w.heap.size w w' := by
  cases h : Lib.atoiAll s.data.toList with
  | ok n =>
    refine (Any.strconv_Atoi_ok Tryz.atoiA s (by omega) n h w).mono ?_
    rintro e w' ⟨he, hw⟩
    refine ⟨_, _, he, by unfold atoiV; rw [h]; exact ⟨rfl, rfl⟩, ?_⟩
    rcases hw with rfl | ⟨t, rfl⟩
    · exact Below.refl _ _
    · exact ⟨rfl, rfl, rfl, by rw [Lib.bytesWorld_size]; omega, fun k hk => Lib.bytesWorld_at_old w _ t k hk⟩
  | range =>
    obtain ⟨ev, h1, h2⟩ := hg.rng
    refine (Any.strconv_Atoi_range Tryz.atoiA s (by omega) h ev w h1 h2).mono ?_
    rintro e w' ⟨N, he, _, _, hb⟩
    exact ⟨_, _, he, by unfold atoiV; rw [h]; exact ⟨_, _, _, rfl, rfl⟩, hb⟩
  | _ =>
    obtain ⟨ev, h1, h2⟩ := hg.syn
    refine (Any.strconv_Atoi_syntax Tryz.atoiA s (by omega) h ev w h1 h2).mono ?_
    rintro e w' ⟨N, he, _, _, hb⟩
    exact ⟨_, _, he, by unfold atoiV; rw [h]; exact ⟨_, _, _, rfl, rfl⟩, hb⟩
/-- The number of a segment's name; 0: it is none. -/
def segV (l : List UInt8) : Nat := match l with
  | [] => 0
  | c :: r => match Lib.atoiAll r with
    | .ok v => if 1 ≤ v ∧ v ≤ 999999999999999999 ∧ c :: r = segN v then v.toNat else 0
    | _ => 0
theorem segV_le (l : List UInt8) : segV l ≤ 999999999999999999 := by
  unfold segV
  split
  · omega
  · split
    · split <;> omega
    · omega
theorem segV_nil : segV [] = 0 := rfl
theorem segV_cons (c : UInt8) (r : List UInt8) : segV (c :: r) = match Lib.atoiAll r with
    | .ok v => if 1 ≤ v ∧ v ≤ 999999999999999999 ∧ c :: r = segN v then v.toNat else 0
    | _ => 0 := rfl
set_option maxHeartbeats 2000000 in
theorem segNum_any (s : ByteArray) (w : World) {B : Nat} (hg : Glob w B) (hB : B ≤ w.heap.size) (hs : s.size ≤ 1000) : Calls Tryz.prog 69 #[.string s] w fun e w' => e = .returned (.int .i64 (segV s.data.toList : Int)) ∧ Below w.heap.size w w' := by
  cases hl : s.data.toList with
  | nil =>
    have hq : (s.toList == []) = true := by rw [Lib.toList_data, hl]; rfl
    have hq1 : s.toList = [] := by rw [Lib.toList_data, hl]
    rw [segV_nil]
    go_enter Tryz.func69, Tryz.ntmps69
    go_wp2
    go_ret
    exact ⟨rfl, Below.refl _ _⟩
  | cons c r =>
    have hz : s.size = r.length + 1 := by rw [← str_len, hl]; rfl
    have hq : (s.toList == []) = false := by rw [Lib.toList_data, hl]; rfl
    have hq1 : s.toList ≠ [] := by rw [Lib.toList_data, hl]; simp
    have l1 := fun wx => slice_l (s := s) (lo := 1) (l := r) (by omega) (by omega) (by rw [hl]; rfl) wx
    have hA := hid (atoi_any (mk r) w hg hB (by rw [mk_size]; omega))
    rw [mk_data] at hA
    unfold atoiV at hA
    have hseg := segV_cons c r
    cases ha : Lib.atoiAll r with
    | ok v =>
      rw [ha] at hA hseg
      simp only at hA hseg
      have hvb := Lib.atoiAll_bounds ha
      have HA : Hid (Calls Tryz.prog 103 #[.string (mk r)] w fun e w' => e = .returned (.tuple #[.int .i64 v, .nilIface]) ∧ Below w.heap.size w w') := hid (hA.out.mono fun e w' ⟨v', ev, he, ⟨h1, h2⟩, hb⟩ => ⟨by rw [he, h1, h2], hb⟩)
      clear hA
      by_cases h1 : v < 1
      · rw [hseg, if_neg (by omega)]
        clear hseg ha hl hg
        generalize mk r = rb at *
        go_enter Tryz.func69, Tryz.ntmps69
        go_wp2_with (go_at_call 103; (with_reducible refine HA.out.mono ?_); rintro e w1 ⟨rfl, hb⟩)
        go_ret
        exact ⟨rfl, hb⟩
      · by_cases h2 : 999999999999999999 < v
        · rw [hseg, if_neg (by omega)]
          clear hseg ha hl hg
          generalize mk r = rb at *
          go_enter Tryz.func69, Tryz.ntmps69
          go_wp2_with (go_at_call 103; (with_reducible refine HA.out.mono ?_); rintro e w1 ⟨rfl, hb⟩)
          go_ret
          exact ⟨rfl, hb⟩
        · have HS := hid (fun wx (hb : Below w.heap.size w wx) => segName_any v wx (hg.below hb hB) ⟨by omega, by omega⟩)
          by_cases h3 : c :: r = segN v
          · rw [hseg, if_pos ⟨by omega, by omega, h3⟩]
            have he : mk (segN v) = s := str_ext (by rw [mk_data, hl, h3])
            rw [he] at HS
            have hv : ((v.toNat : Nat) : Int) = v := by omega
            rw [hv]
            clear hseg ha hl hg h3 he hv
            generalize mk r = rb at *
            go_enter Tryz.func69, Tryz.ntmps69
            go_wp2_with (first | (go_at_call 103; (with_reducible refine HA.out.mono ?_); rintro e w1 ⟨rfl, hb⟩) | (go_at_call 60; (with_reducible refine (HS.out _ hb).mono ?_); rintro e w2 ⟨rfl, hb2⟩))
            go_ret
            exact ⟨rfl, hb.trans (hb2.mono hb.size)⟩
          · rw [hseg, if_neg (fun h => h3 h.2.2)]
            have hne : (s.toList == (mk (segN v)).toList) = false := by rw [beq_eq_false_iff_ne, Lib.toList_data, Lib.toList_data, mk_data, hl]; exact h3
            clear hseg ha hl hg h3
            generalize mk r = rb at *
            generalize mk (segN v) = sb at *
            go_enter Tryz.func69, Tryz.ntmps69
            go_wp2_with (first | (go_at_call 103; (with_reducible refine HA.out.mono ?_); rintro e w1 ⟨rfl, hb⟩) | (go_at_call 60; (with_reducible refine (HS.out _ hb).mono ?_); rintro e w2 ⟨rfl, hb2⟩))
            go_ret
            exact ⟨rfl, hb.trans (hb2.mono hb.size)⟩
    | _ =>
      rw [ha] at hA hseg
      simp only at hA hseg
      rw [hseg]
      clear hseg ha hl hg
      generalize mk r = rb at *
      go_enter Tryz.func69, Tryz.ntmps69
      go_wp2_with (go_at_call 103; (with_reducible refine hA.out.mono ?_); rintro e w1 ⟨v, ev, rfl, ⟨k, te, pe, rfl, rfl⟩, hb⟩)
      go_ret
      exact ⟨rfl, hb⟩
theorem notSeg_any (s : ByteArray) (w : World) {B : Nat} (hg : Glob w B) (hB : B ≤ w.heap.size) (hs : s.size ≤ 1000) : Calls Tryz.prog 65 #[.string s] w fun e w' => e = .returned (.bool (decide (segV s.data.toList = 0))) ∧ Below w.heap.size w w' := by
  have HN := hid (segNum_any s w hg hB hs)
  have hq : (((segV s.data.toList : Nat) : Int) == 0) = decide (segV s.data.toList = 0) := by rw [Bool.eq_iff_iff]; simp
  have HQ := hid hq
  clear hg hq
  generalize hn : segV s.data.toList = n at *
  clear hn
  by_cases h0 : n = 0
  · subst h0
    go_enter Tryz.func65, Tryz.ntmps65
    go_wp2_with (go_at_call 69; (with_reducible refine HN.out.mono ?_); rintro e w1 ⟨rfl, hb⟩)
    go_ret
    exact ⟨rfl, hb⟩
  · have h1 : ((n : Int) == 0) = false := beq_eq_false_iff_ne.2 (by omega)
    rw [show decide (n = 0) = false by simpa using h0]
    go_enter Tryz.func65, Tryz.ntmps65
    go_wp2_with (go_at_call 69; (with_reducible refine HN.out.mono ?_); rintro e w1 ⟨rfl, hb⟩)
    go_ret
    exact ⟨rfl, hb⟩
end Go.Proofs.YtbccikefccdekaaGreatDoor.Sn

