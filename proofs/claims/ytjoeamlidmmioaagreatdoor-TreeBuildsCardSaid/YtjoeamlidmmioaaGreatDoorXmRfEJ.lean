import Derived.Test.YtjoeamlidmmioaaGreatDoorXmByJ
import Derived.Test.YtjoeamlidmmioaaGreatDoorMq5J
import Derived.Test.YtjoeamlidmmioaaGreatDoorXmJeJ
import Derived.Test.YtjoeamlidmmioaaGreatDoorXmAsWJ
import Derived.Deep.RegionHeld3
/-
  LAYER 11 (xml), THE DOCUMENT's: Escape, Write.
-/
namespace Go.Proofs.YtjoeamlidmmioaaGreatDoor
open Go.RowKit
set_option linter.unusedVariables false
set_option maxRecDepth 100000

/-- string(b), of a row of bytes that one owns. -/
theorem run_str {w : World} {v : Value} {l : List UInt8} (h : ROwn byTy w v l) : (convert 70 9 v).run Tryz.prog w = .ok (.string (mk l)) w := by
  have hb : Bytes w 0 v l := by unfold ROwn at h; rw [byFlat] at h; exact h
  by_cases h0 : l = []
  · subst h0
    rcases h.2 with ⟨rfl, _⟩ | ⟨g, cap, cur, rfl, _⟩
    · rfl
    · exact run_convert_bytes_arg (P := Tryz.prog) w 70 5 Tryz.underlying70 Tryz.underlying5 g 0 0 cap [] rfl (fun i hi => by omega) 9 Tryz.underlying9
  · obtain ⟨g, cap, rfl, _, _, _, _, hc, _⟩ := Bytes.shape hb h0
    exact run_string rfl hc
/-- A text put behind a row of bytes. -/
theorem RMid.text {w wr : World} {v : Value} {l : List UInt8} (h : RMid byTy w wr v l) (s : ByteArray) (ty : TypeId) (hl : l.length + s.size ≤ 140000000000000) :
    ∃ ao cap w5, (Builtin.append_ #[70, 9] ty #[v, .string s]).run Tryz.prog wr = .ok (.slice ao (l ++ s.data.toList).length cap) w5 ∧ RMid byTy w w5 (.slice ao (l ++ s.data.toList).length cap) (l ++ s.data.toList) := by
  obtain ⟨i0, hi, hz0, hz1, hz2⟩ := infoByte_parts
  have hrow : wr.ownsRow 0 5 1 v l.length (Lib.byteCells l) := by have := h.row; unfold ROwn at this; rw [byFlat] at this; exact this
  obtain ⟨v', w2, hr, hown', hgrow, _⟩ := Lib.run_append_own_string (P := Tryz.prog) wr 0 70 9 ty 5 i0 Tryz.underlying70 Tryz.underlying9 hi hz0 hz1 hz2 v l.length _ hrow s (by unfold maxLen; omega) (by omega) (Nat.zero_le _)
  have hblk := append_str_block hrow (by unfold maxLen; omega) (by omega) hr
  have hll : l.length + s.size = (l ++ s.data.toList).length := by rw [List.length_append, str_len]
  obtain ⟨ao, cap, rfl⟩ : ∃ ao cap, v' = .slice ao (l ++ s.data.toList).length cap := by
    rcases hown'.2 with ⟨hv, hn⟩ | ⟨g, cap, cur, hv, _⟩
    · exact ⟨none, 0, by rw [hv, ← hll, hn]⟩
    · exact ⟨some ⟨g, 0, none⟩, cap, by rw [hv, ← hll]⟩
  refine ⟨ao, cap, w2, hr, ⟨?_, fun b e => ?_, h.below.grown hgrow h.below.size h.new⟩⟩
  · unfold ROwn
    rw [byFlat, ← byteCells_append, ← Lib.strCells_eq]
    rw [hll] at hown'
    exact hown'
  · rcases hblk with k | k
    · exact h.new b (by rw [← k]; exact e)
    · rw [k] at e; cases e; exact h.below.size
def EscRel (w : World) (l : List UInt8) (v i : Value) (wr : World) : Prop := ∃ (k : Nat) (ao : Option Addr) (cap : Nat), k ≤ l.length ∧ i = .int .i64 k ∧ v = .slice ao (escX (l.take k)).length cap ∧ Hid (RMid byTy w wr (.slice ao (escX (l.take k)).length cap) (escX (l.take k)))
theorem escX_app (l m : List UInt8) : escX (l ++ m) = escX l ++ escX m := by simp [escX]
theorem esc_text {w wr : World} {v : Value} {l : List UInt8} (h : RMid byTy w wr v l) (s : ByteArray) (ty : TypeId) (hl : l.length + s.size ≤ 140000000000000) :
    ∃ ao n cap w5, (Builtin.append_ #[70, 9] ty #[v, .string s]).run Tryz.prog wr = .ok (.slice ao n cap) w5 ∧ n = (l ++ s.data.toList).length ∧ RMid byTy w w5 (.slice ao n cap) (l ++ s.data.toList) := by
  obtain ⟨ao, cap, w5, h1, h2⟩ := h.text s ty hl
  exact ⟨ao, _, cap, w5, h1, rfl, h2⟩
theorem esc_byte {w wr : World} {v : Value} {l : List UInt8} (h : RMid byTy w wr v l) (c : UInt8) (ty : TypeId) (hl : l.length ≤ 1000000) :
    ∃ ao n cap w5, (Builtin.append_ #[70, 70] ty #[v, .slice (some ⟨wr.heap.size, 0, none⟩) 1 1]).run Tryz.prog (wr.alloc (.cells #[.int .u8 (c.toNat : Nat)] 5)) = .ok (.slice ao n cap) w5 ∧ n = (l ++ [c]).length ∧ RMid byTy w w5 (.slice ao n cap) (l ++ [c]) := by
  obtain ⟨ao, cap, w5, h1, h2⟩ := h.push byTy_ok ty 5 c #[.int .u8 (c.toNat : Nat)] rfl hl
  exact ⟨ao, _, cap, w5, h1, by simp, h2⟩
theorem escB_38 : escB 38 = [38, 97, 109, 112, 59] := rfl
theorem escB_60 : escB 60 = [38, 108, 116, 59] := rfl
theorem escB_62 : escB 62 = [38, 103, 116, 59] := rfl
theorem escB_34 : escB 34 = [38, 113, 117, 111, 116, 59] := rfl
theorem escB_39 : escB 39 = [38, 97, 112, 111, 115, 59] := rfl
theorem escB_no {c : UInt8} (h0 : c ≠ 38) (h1 : c ≠ 60) (h2 : c ≠ 62) (h3 : c ≠ 34) (h4 : c ≠ 39) : escB c = [c] := by unfold escB; rw [if_neg h0, if_neg h1, if_neg h2, if_neg h3, if_neg h4]
theorem u8_eq {c : UInt8} {a : UInt8} {q : Int} (hq : q = (a.toNat : Nat)) (h : c = a) : ((c.toNat : Int) == q) = true := by subst h hq; simp
theorem u8_neq {c : UInt8} {a : UInt8} {q : Int} (hq : q = (a.toNat : Nat)) (h : ¬ c = a) : ((c.toNat : Int) == q) = false := by
  subst hq
  rw [beq_eq_false_iff_ne]
  intro e
  exact h (UInt8.toNat_inj.1 (by omega))
end Go.Proofs.YtjoeamlidmmioaaGreatDoor


