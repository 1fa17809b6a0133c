/-
  LAYER 12 (tree), the walk of TreeSqueezes.
-/
import Derived.Test.YthbliboahnjahaaGreatDoorTrShown
namespace Go.Proofs.YthbliboahnjahaaGreatDoor
open Go.RowKit
set_option linter.unusedVariables false
set_option maxRecDepth 100000

def SqRel (w : World) (s T : ByteArray) (kv iv : Value) (wr : World) : Prop := ∃ i k o g, i ≤ s.size ∧ k ≤ T.size ∧ kv = .int .i64 (k : Nat) ∧ iv = .int .i64 (i : Nat) ∧ Below w.heap.size w wr ∧ Hid (T.data.toList.drop k = sqG o g (s.data.toList.drop i))
theorem drop_cons_at {T : ByteArray} {k : Nat} {c : UInt8} {r : List UInt8} (h : T.data.toList.drop k = c :: r) : ∃ hk : k < T.size, T[k]'hk = c ∧ T.data.toList.drop (k + 1) = r := by
  have hl : k < T.data.toList.length := by
    rcases Nat.lt_or_ge k T.data.toList.length with q | q
    · exact q
    · rw [List.drop_eq_nil_of_le q] at h; cases h
  have hl2 : k < T.size := by rw [← str_len]; exact hl
  refine ⟨hl2, ?_, ?_⟩
  · rw [List.drop_eq_getElem_cons hl] at h
    exact (List.cons.inj h).1
  · rw [List.drop_eq_getElem_cons hl] at h
    exact (List.cons.inj h).2
theorem byte_ne {c : UInt8} {n : Nat} (h : c.toNat ≠ n) : (((c.toNat : Nat) : Int) == (n : Int)) = false := beq_eq_false_iff_ne.2 (by omega)
theorem spc_cases {c : UInt8} (h : spcX c = true) : c.toNat = 32 ∨ (c.toNat ≠ 32 ∧ c.toNat = 9) ∨ (c.toNat ≠ 32 ∧ c.toNat ≠ 9 ∧ c.toNat = 10) ∨ (c.toNat ≠ 32 ∧ c.toNat ≠ 9 ∧ c.toNat ≠ 10 ∧ c.toNat = 13) := by
  rw [← gap_byte] at h
  simp [gapR] at h
  omega
theorem spc_not {c : UInt8} (h : spcX c = false) : c.toNat ≠ 32 ∧ c.toNat ≠ 9 ∧ c.toNat ≠ 10 ∧ c.toNat ≠ 13 := by
  rw [← gap_byte] at h
  simp [gapR] at h
  omega
set_option maxHeartbeats 16000000 in
theorem treeSqueezes_any {w : World} (hG : Gb w.heap.size w) (s : ByteArray) : Calls Tryz.prog 6 #[.string s] w fun e w' => e = .returned (.bool true) ∧ Below w.heap.size w w' := by
  have HS := hid (trShown_any hG)
  by_cases hbig : 2000 < s.size
  · have hI : (2000 : Int) < (s.size : Int) := by omega
    clear hG
    go_enter Tryz.func6, Tryz.ntmps6
    go_wp2_with (go_at_call 9; (with_reducible refine HS.out.mono ?_); rintro e w1 ⟨rfl, hb⟩)
    go_ret
    exact ⟨rfl, hb⟩
  · have hI : ¬ (2000 : Int) < (s.size : Int) := by omega
    obtain ⟨T, hT⟩ : ∃ T : ByteArray, mk (sqX s.data.toList) = T := ⟨_, rfl⟩
    have hTl : T.data.toList = sqX s.data.toList := by rw [← hT, mk_data]
    have hTs : T.size ≤ 4000 := by
      rw [← str_len, hTl]
      have := sqG_len s.data.toList false false
      rw [str_len] at this
      unfold sqX; omega
    have H1 : Hid (∀ wx, Calls Tryz.prog 27 #[.string s] wx fun e w' => e = .returned (.string T) ∧ Below wx.heap.size wx w') := hid (fun wx => by have := squeeze_any s (by omega) wx; rw [hT] at this; exact this)
    have H2 : Hid (∀ wx, Calls Tryz.prog 27 #[.string T] wx fun e w' => e = .returned (.string T) ∧ Below wx.heap.size wx w') := hid (fun wx => by
      have := squeeze_any T (by omega) wx
      rw [hTl, sq_again, hT] at this; exact this)
    have q0 : (T.toList == T.toList) = true := beq_self_eq_true _
    have HTl := hid hTl
    have hs2 : s.size ≤ 2000 := by omega
    clear hG hT hbig
    have HL : Hid (∀ w1, Below w.heap.size w w1 → SqRel w s T (.int .i64 0) (.int .i64 0) w1) := hid (fun w1 hb => ⟨0, 0, false, false, Nat.zero_le _, Nat.zero_le _, rfl, rfl, hb, hid (by rw [HTl.out]; rfl)⟩)
    have HW : Hid (∀ (b : Bool), b = true → True) := hid (fun _ _ => trivial)
    by_cases he : T.size = 0
    · have hne : T.toList.isEmpty = true := by
        rw [Lib.toList_data]
        have := str_len T
        rw [he] at this
        rw [List.length_eq_zero_iff.1 this]; rfl
      clear hTl he
      as_aux_lemma =>
      go_enter Tryz.func6, Tryz.ntmps6
      go_wp2_with (first
        | (go_at_call 9; (with_reducible refine HS.out.mono ?_); rintro e w1 ⟨rfl, hb⟩)
        | (go_at_call 27; first
          | ((with_reducible refine (H1.out _).mono ?_); rintro e w2 ⟨rfl, hb2⟩; (have hb := hb.trans (hb2.mono hb.size)))
          | ((with_reducible refine (H2.out _).mono ?_); rintro e w3 ⟨rfl, hb2⟩; (have hb := hb.trans (hb2.mono hb.size)))))
      go_loopw [5, 6] (SqRel w s T) (fun _ i _ => s.size - (intOf i).toNat)
      case atStart => exact HL.out _ hb
      case round =>
        clear HL hb
        obtain ⟨i, k, o, g, hi, hk, rfl, rfl, hb, HD⟩ := hrel
        by_cases hlt : i < s.size
        · have hiI : (i : Int) < (s.size : Int) := by omega
          have hwi : wrap64 ((i : Int) + 1) = (i : Int) + 1 := by unfold wrap64; omega
          have hwk : wrap64 ((k : Int) + 1) = (k : Int) + 1 := by unfold wrap64; omega
          have hdr : s.data.toList.drop i = (s[i]'hlt) :: s.data.toList.drop (i + 1) := by
            rw [List.drop_eq_getElem_cons (by rw [str_len]; exact hlt)]; rfl
          cases hsp : spcX (s[i]'hlt) with
          | true =>
            have HR : Hid (∀ wr, Below w.heap.size w wr → SqRel w s T (.int .i64 (k : Int)) (.int .i64 ((i : Int) + 1)) wr) := hid (fun wr hb => ⟨i + 1, k, o, o, by omega, hk, rfl, by go_num, hb, hid (by rw [HD.out, hdr, sqG_space hsp])⟩)
            rcases spc_cases hsp with hc | ⟨h32, hc⟩ | ⟨h32, h9, hc⟩ | ⟨h32, h9, h10, hc⟩
            · have e0 : ((((s[i]'hlt).toNat : Nat) : Int) == 32) = true := by rw [hc]; rfl
              clear hsp hdr HD
              go_wp2
              go_roundw
              case rel => exact HR.out _ hb
              case measure =>
                show s.size - (intOf (.int .i64 ((i : Int) + 1))).toNat < s.size - (intOf (.int .i64 (i : Int))).toNat
                simp only [intOf]; omega
            · have e0 : ((((s[i]'hlt).toNat : Nat) : Int) == 32) = false := byte_ne h32
              have e1 : ((((s[i]'hlt).toNat : Nat) : Int) == 9) = true := by rw [hc]; rfl
              clear hsp hdr HD
              go_wp2
              go_roundw
              case rel => exact HR.out _ hb
              case measure =>
                show s.size - (intOf (.int .i64 ((i : Int) + 1))).toNat < s.size - (intOf (.int .i64 (i : Int))).toNat
                simp only [intOf]; omega
            · have e0 : ((((s[i]'hlt).toNat : Nat) : Int) == 32) = false := byte_ne h32
              have e1 : ((((s[i]'hlt).toNat : Nat) : Int) == 9) = false := byte_ne h9
              have e2 : ((((s[i]'hlt).toNat : Nat) : Int) == 10) = true := by rw [hc]; rfl
              clear hsp hdr HD
              go_wp2
              go_roundw
              case rel => exact HR.out _ hb
              case measure =>
                show s.size - (intOf (.int .i64 ((i : Int) + 1))).toNat < s.size - (intOf (.int .i64 (i : Int))).toNat
                simp only [intOf]; omega
            · have e0 : ((((s[i]'hlt).toNat : Nat) : Int) == 32) = false := byte_ne h32
              have e1 : ((((s[i]'hlt).toNat : Nat) : Int) == 9) = false := byte_ne h9
              have e2 : ((((s[i]'hlt).toNat : Nat) : Int) == 10) = false := byte_ne h10
              have e3 : ((((s[i]'hlt).toNat : Nat) : Int) == 13) = true := by rw [hc]; rfl
              clear hsp hdr HD
              go_wp2
              go_roundw
              case rel => exact HR.out _ hb
              case measure =>
                show s.size - (intOf (.int .i64 ((i : Int) + 1))).toNat < s.size - (intOf (.int .i64 (i : Int))).toNat
                simp only [intOf]; omega
          | false =>
            obtain ⟨h32, h9, h10, h13⟩ := spc_not hsp
            have e0 : ((((s[i]'hlt).toNat : Nat) : Int) == 32) = false := byte_ne h32
            have e1 : ((((s[i]'hlt).toNat : Nat) : Int) == 9) = false := byte_ne h9
            have e2 : ((((s[i]'hlt).toNat : Nat) : Int) == 10) = false := byte_ne h10
            have e3 : ((((s[i]'hlt).toNat : Nat) : Int) == 13) = false := byte_ne h13
            cases g with
            | true =>
              have hD := HD.out
              rw [hdr, sqG_gap hsp] at hD
              obtain ⟨hk1, t1, hD2⟩ := drop_cons_at hD
              obtain ⟨hk2, t2, hD3⟩ := drop_cons_at hD2
              have HR : Hid (∀ wr, Below w.heap.size w wr → SqRel w s T (.int .i64 ((k : Int) + 1 + 1)) (.int .i64 ((i : Int) + 1)) wr) := hid (fun wr hb => ⟨i + 1, k + 2, true, false, by omega, by omega, by go_num, by go_num, hb, hid hD3⟩)
              have hkI : (k : Int) < (T.size : Int) := by omega
              have hkI2 : (k : Int) + 1 < (T.size : Int) := by omega
              have hkI3 : ¬ ((T.size : Int) ≤ (k : Int) + 1) := by omega
              have f1 : ((((T[k]'hk1).toNat : Nat) : Int) == 32) = true := by rw [t1]; rfl
              have f2 : ((((T[k + 1]'hk2).toNat : Nat) : Int) == (((s[i]'hlt).toNat : Nat) : Int)) = true := by rw [t2]; exact beq_self_eq_true _
              have hwk2 : wrap64 ((k : Int) + 1 + 1) = (k : Int) + 1 + 1 := by unfold wrap64; omega
              clear hsp hdr HD hD hD2 hD3 t1 t2
              go_wp2
              go_roundw
              case rel => exact HR.out _ hb
              case measure =>
                show s.size - (intOf (.int .i64 ((i : Int) + 1))).toNat < s.size - (intOf (.int .i64 (i : Int))).toNat
                simp only [intOf]; omega
            | false =>
              have hD := HD.out
              rw [hdr, sqG_word hsp] at hD
              obtain ⟨hk1, t1, hD2⟩ := drop_cons_at hD
              have HR : Hid (∀ wr, Below w.heap.size w wr → SqRel w s T (.int .i64 ((k : Int) + 1)) (.int .i64 ((i : Int) + 1)) wr) := hid (fun wr hb => ⟨i + 1, k + 1, true, false, by omega, by omega, by go_num, by go_num, hb, hid hD2⟩)
              have hkI : (k : Int) < (T.size : Int) := by omega
              have hkI3 : ¬ ((T.size : Int) ≤ (k : Int)) := by omega
              have f1 : ((((T[k]'hk1).toNat : Nat) : Int) == 32) = false := by rw [t1]; exact e0
              have f2 : ((((T[k]'hk1).toNat : Nat) : Int) == (((s[i]'hlt).toNat : Nat) : Int)) = true := by rw [t1]; exact beq_self_eq_true _
              clear hsp hdr HD hD hD2 t1
              go_wp2
              go_roundw
              case rel => exact HR.out _ hb
              case measure =>
                show s.size - (intOf (.int .i64 ((i : Int) + 1))).toNat < s.size - (intOf (.int .i64 (i : Int))).toNat
                simp only [intOf]; omega
        · have hiI : ¬ (i : Int) < (s.size : Int) := by omega
          have hkT : k = T.size := by
            have := HD.out
            rw [show s.data.toList.drop i = [] from List.drop_eq_nil_of_le (by rw [str_len]; omega)] at this
            have h2 := congrArg List.length this
            rw [List.length_drop, str_len] at h2
            simp [sqG] at h2
            omega
          have f3 : ((k : Int) == (T.size : Int)) = true := by rw [hkT]; exact beq_self_eq_true _
          clear hkT HD
          go_wp2
          go_ret
          exact ⟨rfl, hb⟩
    · have hne : T.toList.isEmpty = false := by
        rw [Lib.toList_data]
        have := str_len T
        cases h : T.data.toList with
        | nil => rw [h] at this; simp at this; omega
        | cons _ _ => rfl
      have h0 : 0 < T.size := by omega
      have hl1 : T.size - 1 < T.size := by omega
      have i0 : (((T[0]'h0).toNat : Nat) : Int) ≠ 32 := by
        have hx : (sqX s.data.toList)[0]? = some (T[0]'h0) := by
          rw [← hTl]; simp [h0]; rfl
        have := sq_head _ _ hx
        intro q
        exact this (UInt8.toNat_inj.1 (by show (T[0]'h0).toNat = 32; omega))
      have i1 : (((T[T.size - 1]'hl1).toNat : Nat) : Int) ≠ 32 := by
        have hx : (sqX s.data.toList).getLast? = some (T[T.size - 1]'hl1) := by
          rw [← hTl, List.getLast?_eq_getElem?, str_len]; simp [hl1]; rfl
        have := sq_last1 _ _ _ _ hx
        intro q
        exact this (UInt8.toNat_inj.1 (by show (T[T.size - 1]'hl1).toNat = 32; omega))
      have j0 : ((((T[0]'h0).toNat : Nat) : Int) == 32) = false := beq_eq_false_iff_ne.2 i0
      have j1 : ((((T[T.size - 1]'hl1).toNat : Nat) : Int) == 32) = false := beq_eq_false_iff_ne.2 i1
      have hw1 : wrap64 ((T.size : Int) - 1) = (T.size : Int) - 1 := by unfold wrap64; omega
      have hlt1 : (T.size : Int) - 1 < (T.size : Int) := by omega
      have hlt2 : ¬ ((T.size : Int) - 1 < 0) := by omega
      have hlt3 : (0 : Int) < (T.size : Int) := by omega
      clear hTl i0 i1
      as_aux_lemma =>
      go_enter Tryz.func6, Tryz.ntmps6
      go_wp2_with (first
        | (go_at_call 9; (with_reducible refine HS.out.mono ?_); rintro e w1 ⟨rfl, hb⟩)
        | (go_at_call 27; first
          | ((with_reducible refine (H1.out _).mono ?_); rintro e w2 ⟨rfl, hb2⟩; (have hb := hb.trans (hb2.mono hb.size)))
          | ((with_reducible refine (H2.out _).mono ?_); rintro e w3 ⟨rfl, hb2⟩; (have hb := hb.trans (hb2.mono hb.size)))))
      go_loopw [5, 6] (SqRel w s T) (fun _ i _ => s.size - (intOf i).toNat)
      case atStart => exact HL.out _ hb
      case round =>
        clear HL hb
        obtain ⟨i, k, o, g, hi, hk, rfl, rfl, hb, HD⟩ := hrel
        by_cases hlt : i < s.size
        · have hiI : (i : Int) < (s.size : Int) := by omega
          have hwi : wrap64 ((i : Int) + 1) = (i : Int) + 1 := by unfold wrap64; omega
          have hwk : wrap64 ((k : Int) + 1) = (k : Int) + 1 := by unfold wrap64; omega
          have hdr : s.data.toList.drop i = (s[i]'hlt) :: s.data.toList.drop (i + 1) := by
            rw [List.drop_eq_getElem_cons (by rw [str_len]; exact hlt)]; rfl
          cases hsp : spcX (s[i]'hlt) with
          | true =>
            have HR : Hid (∀ wr, Below w.heap.size w wr → SqRel w s T (.int .i64 (k : Int)) (.int .i64 ((i : Int) + 1)) wr) := hid (fun wr hb => ⟨i + 1, k, o, o, by omega, hk, rfl, by go_num, hb, hid (by rw [HD.out, hdr, sqG_space hsp])⟩)
            rcases spc_cases hsp with hc | ⟨h32, hc⟩ | ⟨h32, h9, hc⟩ | ⟨h32, h9, h10, hc⟩
            · have e0 : ((((s[i]'hlt).toNat : Nat) : Int) == 32) = true := by rw [hc]; rfl
              clear hsp hdr HD
              go_wp2
              go_roundw
              case rel => exact HR.out _ hb
              case measure =>
                show s.size - (intOf (.int .i64 ((i : Int) + 1))).toNat < s.size - (intOf (.int .i64 (i : Int))).toNat
                simp only [intOf]; omega
            · have e0 : ((((s[i]'hlt).toNat : Nat) : Int) == 32) = false := byte_ne h32
              have e1 : ((((s[i]'hlt).toNat : Nat) : Int) == 9) = true := by rw [hc]; rfl
              clear hsp hdr HD
              go_wp2
              go_roundw
              case rel => exact HR.out _ hb
              case measure =>
                show s.size - (intOf (.int .i64 ((i : Int) + 1))).toNat < s.size - (intOf (.int .i64 (i : Int))).toNat
                simp only [intOf]; omega
            · have e0 : ((((s[i]'hlt).toNat : Nat) : Int) == 32) = false := byte_ne h32
              have e1 : ((((s[i]'hlt).toNat : Nat) : Int) == 9) = false := byte_ne h9
              have e2 : ((((s[i]'hlt).toNat : Nat) : Int) == 10) = true := by rw [hc]; rfl
              clear hsp hdr HD
              go_wp2
              go_roundw
              case rel => exact HR.out _ hb
              case measure =>
                show s.size - (intOf (.int .i64 ((i : Int) + 1))).toNat < s.size - (intOf (.int .i64 (i : Int))).toNat
                simp only [intOf]; omega
            · have e0 : ((((s[i]'hlt).toNat : Nat) : Int) == 32) = false := byte_ne h32
              have e1 : ((((s[i]'hlt).toNat : Nat) : Int) == 9) = false := byte_ne h9
              have e2 : ((((s[i]'hlt).toNat : Nat) : Int) == 10) = false := byte_ne h10
              have e3 : ((((s[i]'hlt).toNat : Nat) : Int) == 13) = true := by rw [hc]; rfl
              clear hsp hdr HD
              go_wp2
              go_roundw
              case rel => exact HR.out _ hb
              case measure =>
                show s.size - (intOf (.int .i64 ((i : Int) + 1))).toNat < s.size - (intOf (.int .i64 (i : Int))).toNat
                simp only [intOf]; omega
          | false =>
            obtain ⟨h32, h9, h10, h13⟩ := spc_not hsp
            have e0 : ((((s[i]'hlt).toNat : Nat) : Int) == 32) = false := byte_ne h32
            have e1 : ((((s[i]'hlt).toNat : Nat) : Int) == 9) = false := byte_ne h9
            have e2 : ((((s[i]'hlt).toNat : Nat) : Int) == 10) = false := byte_ne h10
            have e3 : ((((s[i]'hlt).toNat : Nat) : Int) == 13) = false := byte_ne h13
            cases g with
            | true =>
              have hD := HD.out
              rw [hdr, sqG_gap hsp] at hD
              obtain ⟨hk1, t1, hD2⟩ := drop_cons_at hD
              obtain ⟨hk2, t2, hD3⟩ := drop_cons_at hD2
              have HR : Hid (∀ wr, Below w.heap.size w wr → SqRel w s T (.int .i64 ((k : Int) + 1 + 1)) (.int .i64 ((i : Int) + 1)) wr) := hid (fun wr hb => ⟨i + 1, k + 2, true, false, by omega, by omega, by go_num, by go_num, hb, hid hD3⟩)
              have hkI : (k : Int) < (T.size : Int) := by omega
              have hkI2 : (k : Int) + 1 < (T.size : Int) := by omega
              have hkI3 : ¬ ((T.size : Int) ≤ (k : Int) + 1) := by omega
              have f1 : ((((T[k]'hk1).toNat : Nat) : Int) == 32) = true := by rw [t1]; rfl
              have f2 : ((((T[k + 1]'hk2).toNat : Nat) : Int) == (((s[i]'hlt).toNat : Nat) : Int)) = true := by rw [t2]; exact beq_self_eq_true _
              have hwk2 : wrap64 ((k : Int) + 1 + 1) = (k : Int) + 1 + 1 := by unfold wrap64; omega
              clear hsp hdr HD hD hD2 hD3 t1 t2
              go_wp2
              go_roundw
              case rel => exact HR.out _ hb
              case measure =>
                show s.size - (intOf (.int .i64 ((i : Int) + 1))).toNat < s.size - (intOf (.int .i64 (i : Int))).toNat
                simp only [intOf]; omega
            | false =>
              have hD := HD.out
              rw [hdr, sqG_word hsp] at hD
              obtain ⟨hk1, t1, hD2⟩ := drop_cons_at hD
              have HR : Hid (∀ wr, Below w.heap.size w wr → SqRel w s T (.int .i64 ((k : Int) + 1)) (.int .i64 ((i : Int) + 1)) wr) := hid (fun wr hb => ⟨i + 1, k + 1, true, false, by omega, by omega, by go_num, by go_num, hb, hid hD2⟩)
              have hkI : (k : Int) < (T.size : Int) := by omega
              have hkI3 : ¬ ((T.size : Int) ≤ (k : Int)) := by omega
              have f1 : ((((T[k]'hk1).toNat : Nat) : Int) == 32) = false := by rw [t1]; exact e0
              have f2 : ((((T[k]'hk1).toNat : Nat) : Int) == (((s[i]'hlt).toNat : Nat) : Int)) = true := by rw [t1]; exact beq_self_eq_true _
              clear hsp hdr HD hD hD2 t1
              go_wp2
              go_roundw
              case rel => exact HR.out _ hb
              case measure =>
                show s.size - (intOf (.int .i64 ((i : Int) + 1))).toNat < s.size - (intOf (.int .i64 (i : Int))).toNat
                simp only [intOf]; omega
        · have hiI : ¬ (i : Int) < (s.size : Int) := by omega
          have hkT : k = T.size := by
            have := HD.out
            rw [show s.data.toList.drop i = [] from List.drop_eq_nil_of_le (by rw [str_len]; omega)] at this
            have h2 := congrArg List.length this
            rw [List.length_drop, str_len] at h2
            simp [sqG] at h2
            omega
          have f3 : ((k : Int) == (T.size : Int)) = true := by rw [hkT]; exact beq_self_eq_true _
          clear hkT HD
          go_wp2
          go_ret
          exact ⟨rfl, hb⟩
end Go.Proofs.YthbliboahnjahaaGreatDoor
