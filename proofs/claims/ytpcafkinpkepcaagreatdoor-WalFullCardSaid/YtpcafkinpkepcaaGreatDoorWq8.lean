import Derived.Test.YtpcafkinpkepcaaGreatDoorWq7
/-
  Wq8: Frame, in one text.
-/
/-
  LAYER 1: words of four bytes; frames.
-/
namespace Go.Proofs.YtpcafkinpkepcaaGreatDoor
open Go.RowKit
set_option linter.unusedVariables false
set_option maxRecDepth 100000

theorem word_row (w : World) (n : Nat) (hn : n < 4294967296) :
    (convert 93 9 (.slice (some ⟨w.heap.size, 0, none⟩) 4 4)).run Tryz.prog (w.alloc (.cells #[.int .u8 ((n : Int) / 16777216), .int .u8 ((n : Int) / 65536 % 256), .int .u8 ((n : Int) / 256 % 256), .int .u8 ((n : Int) % 256)] 5)) =
      .ok (.string (mk (word n))) (w.alloc (.cells #[.int .u8 ((n : Int) / 16777216), .int .u8 ((n : Int) / 65536 % 256), .int .u8 ((n : Int) / 256 % 256), .int .u8 ((n : Int) % 256)] 5)) := by
  refine run_string (l := word n) rfl ?_
  intro j c hj
  have hh : (w.alloc (.cells #[.int .u8 ((n : Int) / 16777216), .int .u8 ((n : Int) / 65536 % 256), .int .u8 ((n : Int) / 256 % 256), .int .u8 ((n : Int) % 256)] 5)).heap[w.heap.size]? = _ := heap_alloc_new w _
  rw [Lib.cell_of_heap hh]
  match j, hj with
  | 0, hj => simp [word] at hj; subst hj; rw [ofNat_toNat (by omega)]; simp
  | 1, hj => simp [word] at hj; subst hj; simp
  | 2, hj => simp [word] at hj; subst hj; simp
  | 3, hj => simp [word] at hj; subst hj; simp
  | j + 4, hj => simp [word] at hj

set_option maxHeartbeats 1000000 in
set_option maxRecDepth 100000 in
theorem word_any (n : Nat) (w : World) (hn : n < 4294967296) :
    Calls Tryz.prog 190 #[.int .u32 n] w fun e w' => e = .returned (.string (mk (word n))) ∧ Below w.heap.size w w' := by
  have hrs := word_row w n hn
  go_enter Tryz.func190, Tryz.ntmps190
  go_wp2
  go_ret
  exact ⟨rfl, Below.alloc (Below.refl _ _) (Nat.le_refl _) _⟩
set_option maxHeartbeats 1000000 in
set_option maxRecDepth 100000 in
theorem four_any (n : Nat) (w : World) (hn : n < 4294967296) :
    Calls Tryz.prog 165 #[.int .u32 n] w fun e w' => e = .returned (.string (mk (word n))) ∧ Below w.heap.size w w' := by
  have hrs := word_row w n hn
  go_enter Tryz.func165, Tryz.ntmps165
  go_wp2
  go_ret
  exact ⟨rfl, Below.alloc (Below.refl _ _) (Nat.le_refl _) _⟩
theorem be_bits (a b c d : Nat) (ha : a < 256) (hb : b < 256) (hc : c < 256) (hd : d < 256) :
    bits .or .u32 (bits .or .u32 (bits .or .u32 ((a : Int) % 4294967296 * 16777216 % 4294967296) ((b : Int) % 4294967296 * 65536 % 4294967296)) ((c : Int) % 4294967296 * 256 % 4294967296)) ((d : Int) % 4294967296) = ((16777216 * a + 65536 * b + 256 * c + d : Nat) : Int) := by
  rw [show (a : Int) % 4294967296 * 16777216 % 4294967296 = ((16777216 * a : Nat) : Int) by omega, show (b : Int) % 4294967296 * 65536 % 4294967296 = ((65536 * b : Nat) : Int) by omega,
    show (c : Int) % 4294967296 * 256 % 4294967296 = ((256 * c : Nat) : Int) by omega, show (d : Int) % 4294967296 = ((d : Nat) : Int) by omega]
  rw [u32_or_nat _ _ (by omega) (by omega), nat_join 24 (16777216 * a) (65536 * b) (by omega) (by omega)]
  rw [u32_or_nat _ _ (by omega) (by omega), nat_join 16 (16777216 * a + 65536 * b) (256 * c) (by omega) (by omega)]
  rw [u32_or_nat _ _ (by omega) (by omega), nat_join 8 (16777216 * a + 65536 * b + 256 * c) d (by omega) (by omega)]

theorem toWordL_get (s : ByteArray) (h0 : 0 < s.size) (h1 : 1 < s.size) (h2 : 2 < s.size) (h3 : 3 < s.size) :
    toWordL s.data.toList = 16777216 * s[0].toNat + 65536 * s[1].toNat + 256 * s[2].toNat + s[3].toNat := by
  obtain ⟨a, b, c, d, r, hr⟩ := four_of (l := s.data.toList) (by rw [str_len]; omega)
  have : s = mk (a :: b :: c :: d :: r) := str_ext (by rw [hr]; rfl)
  subst this
  rfl

set_option maxHeartbeats 1000000 in
set_option maxRecDepth 100000 in
theorem toWord_any (s : ByteArray) (w : World) (hs : 4 ≤ s.size) (hm : s.size ≤ 9223372036854775807) :
    Calls Tryz.prog 199 #[.string s] w fun e w' => e = .returned (.int .u32 (toWordL s.data.toList)) ∧ ∃ m, w' = w.drewN m := by
  have h0 : 0 < s.size := by omega
  have h1 : 1 < s.size := by omega
  have h2 : 2 < s.size := by omega
  have h3 : 3 < s.size := by omega
  have i0 : (0 : Int) < s.size := by omega
  have i1 : (1 : Int) < s.size := by omega
  have i2 : (2 : Int) < s.size := by omega
  have i3 : (3 : Int) < s.size := by omega
  have HW := hid (toWordL_get s h0 h1 h2 h3)
  have HB := hid (be_bits s[0].toNat s[1].toNat s[2].toNat s[3].toNat s[0].toNat_lt s[1].toNat_lt s[2].toNat_lt s[3].toNat_lt)
  go_enter Tryz.func199, Tryz.ntmps199
  go_wp2
  go_quiet (fail)
  go_wp2
  go_ret
  exact ⟨by rw [HW.out, ← HB.out]; rfl, _, rfl⟩

set_option maxHeartbeats 1000000 in
set_option maxRecDepth 100000 in
theorem frame_any (s : ByteArray) (w : World) (hs : s.size ≤ 65536) (hT : Steps w) (h0 : 0 < w.heap.size) :
    Calls Tryz.prog 144 #[.string s] w fun e w' => e = .returned (.tuple #[.string (mk (frameL s.data.toList)), .int .i64 0]) ∧ Below w.heap.size w w' := by
  have z1 := mk_size (word s.size)
  rw [word_length] at z1
  have hcrc : crc (mk (word s.size) ++ s).data.toList = crc (word s.data.toList.length ++ s.data.toList) := by rw [append_data, mk_data, str_len]
  have HC := hid hcrc
  have hcl := crc_lt (word s.data.toList.length ++ s.data.toList)
  have hfr : mk (word s.size) ++ mk (word (crc (word s.data.toList.length ++ s.data.toList))) ++ s = mk (frameL s.data.toList) := by
    apply str_ext; rw [append_data, append_data]; rfl
  have HF := hid hfr
  have z2 := mk_size (word (crc (word s.data.toList.length ++ s.data.toList)))
  rw [word_length] at z2
  clear hcrc hfr
  generalize crc (word s.data.toList.length ++ s.data.toList) = c at *
  go_enter Tryz.func144, Tryz.ntmps144
  go_wp2_with (first
    | (go_at_call 191; refine (crc_any _ _ (by rw [ByteArray.size_append, z1]; unfold maxLen; omega) (hT.below hb h0)).mono ?_; rw [HC.out]; rintro e w2 ⟨rfl, rfl⟩)
    | (go_at_call 190; first | ((with_reducible refine (word_any s.size _ (by omega)).mono ?_); rintro e w1 ⟨rfl, hb⟩) | ((with_reducible refine (word_any c _ hcl).mono ?_); rintro e w3 ⟨rfl, hb3⟩)))
  go_ret2
  exact ⟨by rw [← HF.out]; rfl, hb.trans (hb3.mono hb.size)⟩

theorem frame_long (s : ByteArray) (w : World) (hs : 65536 < s.size) (hm : s.size ≤ maxLen) :
    Calls Tryz.prog 144 #[.string s] w fun e w' => e = .returned (.tuple #[.string ⟨#[]⟩, .int .i64 10]) ∧ w = w' := by
  unfold maxLen at hm
  go_enter Tryz.func144, Tryz.ntmps144
  go_wp2
  go_ret2
  exact ⟨rfl, rfl⟩
theorem refFrame_long (s : ByteArray) (w : World) (hs : 65536 < s.size) (hm : s.size ≤ maxLen) :
    Calls Tryz.prog 122 #[.string s] w fun e w' => e = .returned (.tuple #[.string ⟨#[]⟩, .int .i64 10]) ∧ w = w' := by
  unfold maxLen at hm
  go_enter Tryz.func122, Tryz.ntmps122
  go_wp2
  go_ret2
  exact ⟨rfl, rfl⟩

set_option maxHeartbeats 1000000 in
set_option maxRecDepth 100000 in
theorem refFrame_any (s : ByteArray) (w : World) (hs : s.size ≤ 65536) :
    Calls Tryz.prog 122 #[.string s] w fun e w' => e = .returned (.tuple #[.string (mk (frameL s.data.toList)), .int .i64 0]) ∧ Below w.heap.size w w' := by
  have z1 := mk_size (word s.size)
  rw [word_length] at z1
  have hcrc : crc (mk (word s.size) ++ s).data.toList = crc (word s.data.toList.length ++ s.data.toList) := by rw [append_data, mk_data, str_len]
  have HC := hid hcrc
  have hcl := crc_lt (word s.data.toList.length ++ s.data.toList)
  have hfr : mk (word s.size) ++ mk (word (crc (word s.data.toList.length ++ s.data.toList))) ++ s = mk (frameL s.data.toList) := by
    apply str_ext; rw [append_data, append_data]; rfl
  have HF := hid hfr
  have z2 := mk_size (word (crc (word s.data.toList.length ++ s.data.toList)))
  rw [word_length] at z2
  clear hcrc hfr
  generalize crc (word s.data.toList.length ++ s.data.toList) = c at *
  go_enter Tryz.func122, Tryz.ntmps122
  go_wp2_with (first
    | (go_at_call 166; refine (refCrc_any _ _ (by rw [ByteArray.size_append, z1]; unfold maxLen; omega)).mono ?_; rw [HC.out]; rintro e w2 ⟨rfl, rfl⟩)
    | (go_at_call 165; first | ((with_reducible refine (four_any s.size _ (by omega)).mono ?_); rintro e w1 ⟨rfl, hb⟩) | ((with_reducible refine (four_any c _ hcl).mono ?_); rintro e w3 ⟨rfl, hb3⟩)))
  go_ret2
  exact ⟨by rw [← HF.out]; rfl, hb.trans (hb3.mono hb.size)⟩

/-- What Unframe returns. -/
def unfrRes (l : List UInt8) : Value := .tuple #[.string (mk (unframe l).1), .int .i64 (unframe l).2.1, .int .i64 (unframe l).2.2]

set_option maxHeartbeats 2000000 in
set_option maxRecDepth 100000 in
theorem unframe_any (s : ByteArray) (w : World) (hs : s.size ≤ maxLen) (hT : Steps w) :
    Calls Tryz.prog 154 #[.string s] w fun e w' => e = .returned (unfrRes s.data.toList) ∧ Below w.heap.size w w' := by
  unfold maxLen at hs
  by_cases h4 : s.size < 4
  · have HU : Hid (unframe s.data.toList = ([], 0, 8)) := hid (by unfold unframe; rw [str_len, if_pos h4])
    go_enter Tryz.func154, Tryz.ntmps154
    go_wp2
    go_ret3
    exact ⟨by rw [unfrRes, HU.out]; rfl, Below.refl _ _⟩
  · have hTW := hid (fun w => toWord_any s w (by omega) (by omega))
    have hn := toWordL_lt s.data.toList
    by_cases hlong : 65536 < toWordL s.data.toList
    · have HU : Hid (unframe s.data.toList = ([], 0, 10)) := hid (by unfold unframe; rw [str_len, if_neg h4, if_pos hlong])
      generalize toWordL s.data.toList = n at *
      go_enter Tryz.func154, Tryz.ntmps154
      go_wp2_with (go_at_call 199; refine (hTW.out _).mono ?_; rintro e w1 ⟨rfl, hm⟩)
      go_ret3
      obtain ⟨m, rfl⟩ := hm
      exact ⟨by rw [unfrRes, HU.out]; rfl, below_drew (Below.refl _ _) _⟩
    · by_cases hshort : s.size < 8 + toWordL s.data.toList
      · have HU : Hid (unframe s.data.toList = ([], 0, 8)) := hid (by unfold unframe; rw [str_len, if_neg h4, if_neg hlong, if_pos hshort])
        generalize toWordL s.data.toList = n at *
        go_enter Tryz.func154, Tryz.ntmps154
        go_wp2_with (go_at_call 199; refine (hTW.out _).mono ?_; rintro e w1 ⟨rfl, hm⟩)
        go_ret3
        obtain ⟨m, rfl⟩ := hm
        exact ⟨by rw [unfrRes, HU.out]; rfl, below_drew (Below.refl _ _) _⟩
      · have hst : unframe s.data.toList = if crc (s.data.toList.take 4 ++ (s.data.toList.drop 8).take (toWordL s.data.toList)) ≠ toWordL (s.data.toList.drop 4) then ([], 0, 9) else ((s.data.toList.drop 8).take (toWordL s.data.toList), 8 + toWordL s.data.toList, 0) := by
          unfold unframe; rw [str_len, if_neg h4, if_neg hlong, if_neg hshort]
        have HS := hid hst
        clear hst
        generalize toWordL s.data.toList = n at *
        have l8 := fun wx => slice_lh (s := s) (lo := 8) (hi := 8 + (n : Int)) (l := (s.data.toList.drop 8).take n) (by omega) (by omega) (by omega) (by congr 1; omega) wx
        have l4 := fun wx => slice_l (s := s) (lo := 4) (l := s.data.toList.drop 4) (by omega) (by omega) rfl wx
        have l0 := fun wx => slice_h (s := s) (hi := 4) (l := s.data.toList.take 4) (by omega) (by omega) rfl wx
        have z8 : (mk ((s.data.toList.drop 8).take n)).size ≤ 65536 := by rw [mk_size, List.length_take]; omega
        have z0 : (mk (s.data.toList.take 4)).size ≤ 4 := by rw [mk_size, List.length_take]; omega
        have z4 : 4 ≤ (mk (s.data.toList.drop 4)).size ∧ (mk (s.data.toList.drop 4)).size ≤ 9223372036854775807 := by rw [mk_size, List.length_drop, str_len]; omega
        have hC := fun w (h : Steps w) => crc_any (mk (s.data.toList.take 4) ++ mk ((s.data.toList.drop 8).take n)) w (by rw [ByteArray.size_append]; unfold maxLen; omega) h
        rw [mk_append, mk_data] at hC
        rw [← mk_append] at hC
        have hW4 := fun w => toWord_any (mk (s.data.toList.drop 4)) w z4.1 z4.2
        rw [mk_data] at hW4
        have HC := hid hC
        have HW := hid hW4
        clear hC hW4
        generalize s.data.toList.take 4 ++ (s.data.toList.drop 8).take n = q at *
        generalize hp : (s.data.toList.drop 8).take n = p at *
        have hd1 := toWordL_lt (s.data.toList.drop 4)
        have hd2 := crc_lt q
        generalize toWordL (s.data.toList.drop 4) = t at *
        generalize crc q = c at *
        by_cases hq : c = t
        · have hst := HS.out
          rw [if_neg (by simp [hq])] at hst
          have HS2 := hid hst
          have hq' : ((c : Int) == (t : Int)) = true := by rw [hq]; exact beq_self_eq_true _
          have HQ := hid hq
          clear hst hq hp HS
          go_enter Tryz.func154, Tryz.ntmps154
          go_wp2_with (go_at_call 199; refine (hTW.out _).mono ?_; rintro e w1 ⟨rfl, hm⟩)
          have hm2 : Steps w1 ∧ Below w.heap.size w w1 := by obtain ⟨m, rfl⟩ := hm; exact ⟨hT, below_drew (Below.refl _ _) _⟩
          clear hm
          go_quiet ((first | (go_at_call 191; exact quiet_eq (HC.out _ hm2.1)) | (go_at_call 199; exact Calls.quiet_of (HW.out _))))
          go_wp2
          go_ret3
          exact ⟨by rw [unfrRes, HS2.out]; rfl, below_drew hm2.2 _⟩
        · have hst := HS.out
          rw [if_pos hq] at hst
          have HS2 := hid hst
          have hq' : ((c : Int) == (t : Int)) = false := by rw [beq_eq_false_iff_ne]; omega
          have HQ := hid hq
          clear hst hq hp HS
          go_enter Tryz.func154, Tryz.ntmps154
          go_wp2_with (go_at_call 199; refine (hTW.out _).mono ?_; rintro e w1 ⟨rfl, hm⟩)
          have hm2 : Steps w1 ∧ Below w.heap.size w w1 := by obtain ⟨m, rfl⟩ := hm; exact ⟨hT, below_drew (Below.refl _ _) _⟩
          clear hm
          go_quiet ((first | (go_at_call 191; exact quiet_eq (HC.out _ hm2.1)) | (go_at_call 199; exact Calls.quiet_of (HW.out _))))
          go_wp2
          go_ret3
          exact ⟨by rw [unfrRes, HS2.out]; rfl, below_drew hm2.2 _⟩

/-! ### The document's Unframe -/
def beVal (l : List UInt8) : Nat := l.foldl (fun n c => 256 * n + c.toNat) 0
theorem beVal_snoc (l : List UInt8) (c : UInt8) : beVal (l ++ [c]) = 256 * beVal l + c.toNat := by simp [beVal]
theorem beVal_step (s : ByteArray) (k : Nat) (h : k < s.size) : beVal (s.data.toList.take (k + 1)) = 256 * beVal (s.data.toList.take k) + s[k].toNat := by
  rw [take_snoc' s k h, beVal_snoc]
theorem beVal_four {l : List UInt8} (h : 4 ≤ l.length) : beVal (l.take 4) = toWordL l := by
  obtain ⟨a, b, c, d, r, rfl⟩ := four_of h
  simp [beVal, toWordL]; omega
theorem beVal_lt (l : List UInt8) : ∀ k, beVal (l.take k) < 256 ^ k := by
  intro k
  induction k with
  | zero => simp [beVal]
  | succ k ih =>
    by_cases hk : k < l.length
    · rw [List.take_succ_eq_append_getElem hk, beVal_snoc, Nat.pow_succ]
      have := l[k].toNat_lt
      omega
    · rw [List.take_of_length_le (by omega)] at *
      rw [Nat.pow_succ]; omega

set_option maxHeartbeats 2000000 in
set_option maxRecDepth 100000 in
theorem refUnframe_any (s : ByteArray) (w : World) (hs : s.size ≤ maxLen) :
    Calls Tryz.prog 140 #[.string s] w fun e w' => e = .returned (unfrRes s.data.toList) ∧ Below w.heap.size w w' := by
  unfold maxLen at hs
  by_cases h4 : s.size < 4
  · have HU : Hid (unframe s.data.toList = ([], 0, 8)) := hid (by unfold unframe; rw [str_len, if_pos h4])
    go_enter Tryz.func140, Tryz.ntmps140
    go_wp2
    go_ret3
    exact ⟨by rw [unfrRes, HU.out]; rfl, Below.refl _ _⟩
  · have hbe := hid (beVal_four (l := s.data.toList) (by rw [str_len]; omega))
    have hst : unframe s.data.toList = if 65536 < toWordL s.data.toList then ([], 0, 10) else if s.size < 8 + toWordL s.data.toList then ([], 0, 8) else if crc (s.data.toList.take 4 ++ (s.data.toList.drop 8).take (toWordL s.data.toList)) ≠ toWordL (s.data.toList.drop 4) then ([], 0, 9) else ((s.data.toList.drop 8).take (toWordL s.data.toList), 8 + toWordL s.data.toList, 0) := by
      unfold unframe; rw [str_len, if_neg h4]
    have HS := hid hst
    clear hst
    have hn := toWordL_lt s.data.toList
    generalize toWordL s.data.toList = n at *
    go_enter Tryz.func140, Tryz.ntmps140
    go_wp2_with fail
    go_loopw [5, 6] (fun x i wr => ∃ k : Nat, k ≤ 4 ∧ i = .int .i64 k ∧ x = .int .i64 (beVal (s.data.toList.take k) : Nat) ∧ w = wr) (fun _ i _ => 4 - (intOf i).toNat)
    case atStart => exact ⟨0, Nat.zero_le _, rfl, rfl, rfl⟩
    case round =>
      obtain ⟨k, hk, rfl, rfl, rfl⟩ := hrel
      by_cases hlt : k < 4
      · have hv := beVal_lt s.data.toList k
        have hv3 : beVal (s.data.toList.take k) < 256 ^ 3 := Nat.lt_of_lt_of_le hv (Nat.pow_le_pow_right (by omega) (by omega))
        have hks : k < s.size := by omega
        have hsn := hid (beVal_step s k hks)
        generalize beVal (s.data.toList.take k) = x at *
        have hc : s[k].toNat < 256 := s[k].toNat_lt
        clear hv
        go_wp2_with fail
        go_roundw
        case rel => exact ⟨k + 1, by omega, by go_num, by rw [hsn.out]; go_num, by trivial⟩
        case measure => simp [intOf]; omega
      · have hk4 : k = 4 := by omega
        subst hk4
        rw [hbe.out]
        clear hbe
        by_cases hlong : 65536 < n
        · have HU : Hid (unframe s.data.toList = ([], 0, 10)) := hid (by rw [HS.out, if_pos hlong])
          go_wp2_with fail
          go_ret3
          exact ⟨by rw [unfrRes, HU.out]; rfl, Below.refl _ _⟩
        · by_cases hshort : s.size < 8 + n
          · have HU : Hid (unframe s.data.toList = ([], 0, 8)) := hid (by rw [HS.out, if_neg hlong, if_pos hshort])
            go_wp2_with fail
            go_ret3
            exact ⟨by rw [unfrRes, HU.out]; rfl, Below.refl _ _⟩
          · have l8 := fun wx => slice_lh (s := s) (lo := 8) (hi := 8 + (n : Int)) (l := (s.data.toList.drop 8).take n) (by omega) (by omega) (by omega) (by congr 1; omega) wx
            have l4 := fun wx => slice_lh (s := s) (lo := 4) (hi := 8) (l := (s.data.toList.drop 4).take 4) (by omega) (by omega) (by omega) rfl wx
            have l0 := fun wx => slice_h (s := s) (hi := 4) (l := s.data.toList.take 4) (by omega) (by omega) rfl wx
            have z8 : (mk ((s.data.toList.drop 8).take n)).size ≤ 65536 := by rw [mk_size, List.length_take]; omega
            have z0 : (mk (s.data.toList.take 4)).size ≤ 4 := by rw [mk_size, List.length_take]; omega
            have hC := fun w => refCrc_any (mk (s.data.toList.take 4) ++ mk ((s.data.toList.drop 8).take n)) w (by rw [ByteArray.size_append]; unfold maxLen; omega)
            rw [mk_append, mk_data] at hC
            rw [← mk_append] at hC
            have HC := hid hC
            clear hC
            have hst := HS.out
            rw [if_neg hlong, if_neg hshort] at hst
            have hwt := word_toWord (l := s.data.toList.drop 4) (by rw [List.length_drop, str_len]; omega)
            have hd1 := toWordL_lt (s.data.toList.drop 4)
            have hd2 := crc_lt (s.data.toList.take 4 ++ (s.data.toList.drop 8).take n)
            have s1 : IntKind.i64.wrap (8 + (n : Int)) = 8 + (n : Int) := IntWalk.i64_in _ (by omega)
            generalize s.data.toList.take 4 ++ (s.data.toList.drop 8).take n = q at *
            generalize hp : (s.data.toList.drop 8).take n = p at *
            generalize toWordL (s.data.toList.drop 4) = t at *
            rw [← hwt] at l4
            generalize crc q = c at *
            have HF := hid (fun w => four_any c w hd2)
            by_cases hq : c = t
            · rw [if_neg (by simp [hq])] at hst
              have HS2 := hid hst
              have hq' : ((mk (word t)).toList == (mk (word c)).toList) = true := by rw [hq]; exact beq_self_eq_true _
              clear hst hq hp HS hwt
              go_wp2_with fail
              go_region_with (first
                | (go_at_call 166; refine (HC.out _).mono ?_; rintro e w2 ⟨rfl, rfl⟩)
                | (go_at_call 165; refine (HF.out _).mono ?_; rintro e w3 ⟨rfl, hb⟩))
              go_wp2_with fail
              go_ret3
              exact ⟨by rw [unfrRes, HS2.out]; rfl, Below.trans (Below.drew (Below.refl _ _)) hb⟩
            · rw [if_pos hq] at hst
              have HS2 := hid hst
              have hq' : ((mk (word t)).toList == (mk (word c)).toList) = false := by
                rw [beq_eq_false_iff_ne, Lib.toList_data, Lib.toList_data, mk_data, mk_data]
                intro h
                apply hq
                have h1 := toWord_word hd1 []
                have h2 := toWord_word hd2 []
                rw [List.append_nil] at h1 h2
                rw [← h1, ← h2, h]
              clear hst hq hp HS hwt
              go_wp2_with fail
              go_region_with (first
                | (go_at_call 166; refine (HC.out _).mono ?_; rintro e w2 ⟨rfl, rfl⟩)
                | (go_at_call 165; refine (HF.out _).mono ?_; rintro e w3 ⟨rfl, hb⟩))
              go_wp2_with fail
              go_ret3
              exact ⟨by rw [unfrRes, HS2.out]; rfl, Below.trans (Below.drew (Below.refl _ _)) hb⟩
end Go.Proofs.YtpcafkinpkepcaaGreatDoor

