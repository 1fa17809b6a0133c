/-
  LAYER 11 (xml), THE DOCUMENT's: Escape, Write.
-/
import Derived.Test.YtaefdknaidbplaaGreatDoorXmWr
import Derived.Test.YtaefdknaidbplaaGreatDoorXmAsW
import Derived.Deep.RegionHeld3
namespace Go.Proofs.YtaefdknaidbplaaGreatDoor
open Go.RowKit
set_option linter.unusedVariables false
set_option maxRecDepth 100000

/-- string(b), of a row of bytes that one owns. -/
theorem run_str {w : World} {v : Value} {l : List UInt8} (h : ROwn byTy w v l) : (convert 45 9 v).run Tryz.prog w = .ok (.string (mk l)) w := by
  have hb : Bytes w 0 v l := by unfold ROwn at h; rw [byFlat] at h; exact h
  by_cases h0 : l = []
  · subst h0
    rcases h.2 with ⟨rfl, _⟩ | ⟨g, cap, cur, rfl, _⟩
    · rfl
    · exact run_convert_bytes_arg (P := Tryz.prog) w 45 5 Tryz.underlying45 Tryz.underlying5 g 0 0 cap [] rfl (fun i hi => by omega) 9 Tryz.underlying9
  · obtain ⟨g, cap, rfl, _, _, _, _, hc, _⟩ := Bytes.shape hb h0
    exact run_string rfl hc
/-- A text put behind a row of bytes. -/
theorem RMid.text {w wr : World} {v : Value} {l : List UInt8} (h : RMid byTy w wr v l) (s : ByteArray) (ty : TypeId) (hl : l.length + s.size ≤ 140000000000000) :
    ∃ ao cap w5, (Builtin.append_ #[45, 9] ty #[v, .string s]).run Tryz.prog wr = .ok (.slice ao (l ++ s.data.toList).length cap) w5 ∧ RMid byTy w w5 (.slice ao (l ++ s.data.toList).length cap) (l ++ s.data.toList) := by
  obtain ⟨i0, hi, hz0, hz1, hz2⟩ := infoByte_parts
  have hrow : wr.ownsRow 0 5 1 v l.length (Lib.byteCells l) := by have := h.row; unfold ROwn at this; rw [byFlat] at this; exact this
  obtain ⟨v', w2, hr, hown', hgrow, _⟩ := Lib.run_append_own_string (P := Tryz.prog) wr 0 45 9 ty 5 i0 Tryz.underlying45 Tryz.underlying9 hi hz0 hz1 hz2 v l.length _ hrow s (by unfold maxLen; omega) (by omega) (Nat.zero_le _)
  have hblk := append_str_block hrow (by unfold maxLen; omega) (by omega) hr
  have hll : l.length + s.size = (l ++ s.data.toList).length := by rw [List.length_append, str_len]
  obtain ⟨ao, cap, rfl⟩ : ∃ ao cap, v' = .slice ao (l ++ s.data.toList).length cap := by
    rcases hown'.2 with ⟨hv, hn⟩ | ⟨g, cap, cur, hv, _⟩
    · exact ⟨none, 0, by rw [hv, ← hll, hn]⟩
    · exact ⟨some ⟨g, 0, none⟩, cap, by rw [hv, ← hll]⟩
  refine ⟨ao, cap, w2, hr, ⟨?_, fun b e => ?_, h.below.grown hgrow h.below.size h.new⟩⟩
  · unfold ROwn
    rw [byFlat, ← byteCells_append, ← Lib.strCells_eq]
    rw [hll] at hown'
    exact hown'
  · rcases hblk with k | k
    · exact h.new b (by rw [← k]; exact e)
    · rw [k] at e; cases e; exact h.below.size
def EscRel (w : World) (l : List UInt8) (v i : Value) (wr : World) : Prop := ∃ (k : Nat) (ao : Option Addr) (cap : Nat), k ≤ l.length ∧ i = .int .i64 k ∧ v = .slice ao (escX (l.take k)).length cap ∧ Hid (RMid byTy w wr (.slice ao (escX (l.take k)).length cap) (escX (l.take k)))
theorem escX_app (l m : List UInt8) : escX (l ++ m) = escX l ++ escX m := by simp [escX]
theorem esc_text {w wr : World} {v : Value} {l : List UInt8} (h : RMid byTy w wr v l) (s : ByteArray) (ty : TypeId) (hl : l.length + s.size ≤ 140000000000000) :
    ∃ ao n cap w5, (Builtin.append_ #[45, 9] ty #[v, .string s]).run Tryz.prog wr = .ok (.slice ao n cap) w5 ∧ n = (l ++ s.data.toList).length ∧ RMid byTy w w5 (.slice ao n cap) (l ++ s.data.toList) := by
  obtain ⟨ao, cap, w5, h1, h2⟩ := h.text s ty hl
  exact ⟨ao, _, cap, w5, h1, rfl, h2⟩
theorem esc_byte {w wr : World} {v : Value} {l : List UInt8} (h : RMid byTy w wr v l) (c : UInt8) (ty : TypeId) (hl : l.length ≤ 1000000) :
    ∃ ao n cap w5, (Builtin.append_ #[45, 45] ty #[v, .slice (some ⟨wr.heap.size, 0, none⟩) 1 1]).run Tryz.prog (wr.alloc (.cells #[.int .u8 (c.toNat : Nat)] 5)) = .ok (.slice ao n cap) w5 ∧ n = (l ++ [c]).length ∧ RMid byTy w w5 (.slice ao n cap) (l ++ [c]) := by
  obtain ⟨ao, cap, w5, h1, h2⟩ := h.push byTy_ok ty 5 c #[.int .u8 (c.toNat : Nat)] rfl hl
  exact ⟨ao, _, cap, w5, h1, by simp, h2⟩
theorem escB_38 : escB 38 = [38, 97, 109, 112, 59] := rfl
theorem escB_60 : escB 60 = [38, 108, 116, 59] := rfl
theorem escB_62 : escB 62 = [38, 103, 116, 59] := rfl
theorem escB_34 : escB 34 = [38, 113, 117, 111, 116, 59] := rfl
theorem escB_39 : escB 39 = [38, 97, 112, 111, 115, 59] := rfl
theorem escB_no {c : UInt8} (h0 : c ≠ 38) (h1 : c ≠ 60) (h2 : c ≠ 62) (h3 : c ≠ 34) (h4 : c ≠ 39) : escB c = [c] := by unfold escB; rw [if_neg h0, if_neg h1, if_neg h2, if_neg h3, if_neg h4]
theorem u8_eq {c : UInt8} {a : UInt8} {q : Int} (hq : q = (a.toNat : Nat)) (h : c = a) : ((c.toNat : Int) == q) = true := by subst h hq; simp
theorem u8_neq {c : UInt8} {a : UInt8} {q : Int} (hq : q = (a.toNat : Nat)) (h : ¬ c = a) : ((c.toNat : Int) == q) = false := by
  subst hq
  rw [beq_eq_false_iff_ne]
  intro e
  exact h (UInt8.toNat_inj.1 (by omega))
set_option maxHeartbeats 8000000 in
theorem refEscape_any {w : World} (s : ByteArray) (hs : s.size ≤ 100000) :
    Calls Tryz.prog 13 #[.string s] w fun e w' => e = .returned (.string (mk (escX s.data.toList))) ∧ Below w.heap.size w w' := by
  have hsl := str_len s
  go_enter Tryz.func13, Tryz.ntmps13
  go_wp2
  go_loopw [3, 4] (EscRel w s.data.toList) (fun v i _ => s.size - (intOf i).toNat)
  case atStart => exact ⟨0, none, 0, Nat.zero_le _, rfl, rfl, hid (rMid_nil w)⟩
  case round =>
    obtain ⟨k, ao, cap, hk, rfl, rfl, hM⟩ := hrel
    have hle := escX_le (s.data.toList.take k)
    rw [List.length_take] at hle
    by_cases hlt : k < s.size
    · have hkI : (k : Int) < (s.size : Int) := by omega
      have ht : s.data.toList.take (k + 1) = s.data.toList.take k ++ [s[k]'hlt] := by rw [List.take_succ_eq_append_getElem (by omega)]; rfl
      have HR : Hid (∀ a2 n2 c2 w2 m i, m = escX (s.data.toList.take k) ++ escB (s[k]'hlt) → n2 = m.length → RMid byTy w w2 (.slice a2 n2 c2) m → i = .int .i64 ((k + 1 : Nat) : Int) → EscRel w s.data.toList (.slice a2 n2 c2) i w2) := hid (fun a2 n2 c2 w2 m i e hn h hi => by
        subst hn hi
        have e2 : escX (s.data.toList.take (k + 1)) = m := by rw [ht, escX_app, e]; congr 1; simp [escX]
        exact ⟨k + 1, a2, c2, by omega, rfl, by rw [e2], hid (by rw [e2]; exact h)⟩)
      have hb38 : (38 : Int) = ((38 : UInt8).toNat : Nat) := rfl
      have hb60 : (60 : Int) = ((60 : UInt8).toNat : Nat) := rfl
      have hb62 : (62 : Int) = ((62 : UInt8).toNat : Nat) := rfl
      have hb34 : (34 : Int) = ((34 : UInt8).toNat : Nat) := rfl
      have hb39 : (39 : Int) = ((39 : UInt8).toNat : Nat) := rfl
      clear ht
      by_cases e38 : s[k]'hlt = 38
      · have q38 := u8_eq hb38 e38
        obtain ⟨a2, n2, c2, w5, hrun, hn2, hM2⟩ := esc_text hM.out ⟨#[38, 97, 109, 112, 59]⟩ 45 (by have e : (⟨#[38, 97, 109, 112, 59]⟩ : ByteArray).size = 5 := rfl; rw [e]; omega)
        have HF := hid (HR.out a2 n2 c2 w5 _ · (by rw [e38, escB_38]) hn2 hM2)
        clear hM hM2 hn2 HR hle hb38 hb60 hb62 hb34 hb39 e38 
        go_wp2_with (at_builtin; refine wpList_append_at hrun rfl rfl _ _ rfl rfl rfl rfl ?_)
        go_roundw
        case rel => exact HF.out _ (by go_num)
        case measure => simp [intOf]; omega
      by_cases e60 : s[k]'hlt = 60
      · have q60 := u8_eq hb60 e60
        have q38 := u8_neq hb38 e38
        obtain ⟨a2, n2, c2, w5, hrun, hn2, hM2⟩ := esc_text hM.out ⟨#[38, 108, 116, 59]⟩ 45 (by have e : (⟨#[38, 108, 116, 59]⟩ : ByteArray).size = 4 := rfl; rw [e]; omega)
        have HF := hid (HR.out a2 n2 c2 w5 _ · (by rw [e60, escB_60]) hn2 hM2)
        clear hM hM2 hn2 HR hle hb38 hb60 hb62 hb34 hb39 e60 e38
        go_wp2_with (at_builtin; refine wpList_append_at hrun rfl rfl _ _ rfl rfl rfl rfl ?_)
        go_roundw
        case rel => exact HF.out _ (by go_num)
        case measure => simp [intOf]; omega
      by_cases e62 : s[k]'hlt = 62
      · have q62 := u8_eq hb62 e62
        have q38 := u8_neq hb38 e38
        have q60 := u8_neq hb60 e60
        obtain ⟨a2, n2, c2, w5, hrun, hn2, hM2⟩ := esc_text hM.out ⟨#[38, 103, 116, 59]⟩ 45 (by have e : (⟨#[38, 103, 116, 59]⟩ : ByteArray).size = 4 := rfl; rw [e]; omega)
        have HF := hid (HR.out a2 n2 c2 w5 _ · (by rw [e62, escB_62]) hn2 hM2)
        clear hM hM2 hn2 HR hle hb38 hb60 hb62 hb34 hb39 e62 e38 e60
        go_wp2_with (at_builtin; refine wpList_append_at hrun rfl rfl _ _ rfl rfl rfl rfl ?_)
        go_roundw
        case rel => exact HF.out _ (by go_num)
        case measure => simp [intOf]; omega
      by_cases e34 : s[k]'hlt = 34
      · have q34 := u8_eq hb34 e34
        have q38 := u8_neq hb38 e38
        have q60 := u8_neq hb60 e60
        have q62 := u8_neq hb62 e62
        obtain ⟨a2, n2, c2, w5, hrun, hn2, hM2⟩ := esc_text hM.out ⟨#[38, 113, 117, 111, 116, 59]⟩ 45 (by have e : (⟨#[38, 113, 117, 111, 116, 59]⟩ : ByteArray).size = 6 := rfl; rw [e]; omega)
        have HF := hid (HR.out a2 n2 c2 w5 _ · (by rw [e34, escB_34]) hn2 hM2)
        clear hM hM2 hn2 HR hle hb38 hb60 hb62 hb34 hb39 e34 e38 e60 e62
        go_wp2_with (at_builtin; refine wpList_append_at hrun rfl rfl _ _ rfl rfl rfl rfl ?_)
        go_roundw
        case rel => exact HF.out _ (by go_num)
        case measure => simp [intOf]; omega
      by_cases e39 : s[k]'hlt = 39
      · have q39 := u8_eq hb39 e39
        have q38 := u8_neq hb38 e38
        have q60 := u8_neq hb60 e60
        have q62 := u8_neq hb62 e62
        have q34 := u8_neq hb34 e34
        obtain ⟨a2, n2, c2, w5, hrun, hn2, hM2⟩ := esc_text hM.out ⟨#[38, 97, 112, 111, 115, 59]⟩ 45 (by have e : (⟨#[38, 97, 112, 111, 115, 59]⟩ : ByteArray).size = 6 := rfl; rw [e]; omega)
        have HF := hid (HR.out a2 n2 c2 w5 _ · (by rw [e39, escB_39]) hn2 hM2)
        clear hM hM2 hn2 HR hle hb38 hb60 hb62 hb34 hb39 e39 e38 e60 e62 e34
        go_wp2_with (at_builtin; refine wpList_append_at hrun rfl rfl _ _ rfl rfl rfl rfl ?_)
        go_roundw
        case rel => exact HF.out _ (by go_num)
        case measure => simp [intOf]; omega
      have q38 := u8_neq hb38 e38
      have q60 := u8_neq hb60 e60
      have q62 := u8_neq hb62 e62
      have q34 := u8_neq hb34 e34
      have q39 := u8_neq hb39 e39
      obtain ⟨a2, n2, c2, w5, hrun, hn2, hM2⟩ := esc_byte hM.out (s[k]'hlt) 45 (by omega)
      have HF := hid (HR.out a2 n2 c2 w5 _ · (by rw [escB_no e38 e60 e62 e34 e39]) hn2 hM2)
      clear hM hM2 hn2 HR hle hb38 hb60 hb62 hb34 hb39 e38 e60 e62 e34 e39
      go_wp2_with (at_builtin; refine wpList_append_at hrun rfl rfl _ _ rfl rfl rfl rfl ?_)
      go_roundw
      case rel => exact HF.out _ (by go_num)
      case measure => simp [intOf]; omega
    · obtain rfl : k = s.data.toList.length := by omega
      have hfull : s.data.toList.take s.data.toList.length = s.data.toList := List.take_of_length_le (Nat.le_refl _)
      rw [hfull] at hM hle ⊢
      have hr := run_str hM.out.row
      have HB := hid hM.out.below
      have hkI : ¬ ((s.data.toList.length : Nat) : Int) < (s.size : Int) := by omega
      clear hM hfull hle
      go_wp2
      go_ret
      exact ⟨rfl, HB.out⟩
end Go.Proofs.YtaefdknaidbplaaGreatDoor
