/-
  LAYER 11 (xml): XmlSilent's walk.
-/
import Derived.Test.YtbiiaepmemdlgaaDoorXmAsW
import Derived.Test.YtbiiaepmemdlgaaDoorXmLw
import Derived.Test.YtbiiaepmemdlgaaDoorXmSep
namespace Go.Proofs.YtbiiaepmemdlgaaDoor
open Go.RowKit
set_option linter.unusedVariables false
set_option maxRecDepth 100000

theorem read_cases {l : List UInt8} (hl : l.length ≤ 20000) : (∃ L n, readX l = (some L, n) ∧ readR l = (L, 0, 0)) ∨ ∃ n : Nat, readX l = (none, n) ∧ readR l = ([], 8, (n : Int)) := by
  rcases h : readX l with ⟨o, n⟩
  cases o with
  | some L => exact .inl ⟨L, n, rfl, readR_of hl h⟩
  | none => exact .inr ⟨n, rfl, readR_bad hl h _ rfl⟩
theorem tok_take {w : World} {a : Option Addr} {n c k : Nat} {M : List TkX} (h : TokAt w (.slice a n c) M) (hk : k ≤ M.length) : TokAt w (.slice a k c) (M.take k) ∧ k ≤ c ∧ (a = none → c = 0) := by
  obtain ⟨V, h1, h2, h3⟩ := h
  obtain ⟨a', c', e, hc, hn, _⟩ := h1.at tkTy_ok
  cases e
  refine ⟨⟨V.take k, h1.take tkTy_ok (by rw [h2]; exact hk), by simp [h2], fun i x t hx ht => ?_⟩, by omega, hn⟩
  have hi : i < k := by
    have := (List.getElem?_eq_some_iff.1 hx).1
    rw [List.length_take] at this
    omega
  rw [List.getElem?_take_of_lt hi] at hx ht
  exact h3 i x t hx ht
/-- What stands behind the text. -/
theorem tail_at {w : World} {a : Option Addr} {n c : Nat} {L : List TkX} (h : TokAt w (.slice a n c) (L ++ tailT)) : ∃ sb so, a = some ⟨sb, so, none⟩ ∧ ∀ wx, Below w.heap.size w wx → wx.cell? ⟨sb, so + L.length * 4 + 1, none⟩ = some (.string ⟨#[113]⟩) ∧ wx.cell? ⟨sb, so + (L.length + 1) * 4, none⟩ = some (.int .i64 2) ∧ wx.cell? ⟨sb, so + (L.length + 2) * 4 + 1, none⟩ = some (.string ⟨#[114]⟩) ∧ wx.cell? ⟨sb, so + (L.length + 3) * 4 + 1, none⟩ = some (.string ⟨#[114]⟩) := by
  obtain ⟨a', c', e, hat⟩ := tks_at h
  cases e
  obtain ⟨sb, so, _, _, e0, -, f0⟩ := hat L.length (openT [113] []) (by simp [tailT])
  obtain ⟨sb1, so1, _, _, e1, -, f1⟩ := hat (L.length + 1) (closeT [113]) (by simp [tailT])
  obtain ⟨sb2, so2, _, _, e2, -, f2⟩ := hat (L.length + 2) (openT [114] []) (by simp [tailT])
  obtain ⟨sb3, so3, _, _, e3, -, f3⟩ := hat (L.length + 3) (closeT [114]) (by simp [tailT])
  subst e0
  cases e1
  cases e2
  cases e3
  exact ⟨sb, so, rfl, fun wx hb => ⟨(f0 wx hb).2.1, (f1 wx hb).1, (f2 wx hb).2.1, (f3 wx hb).2.1⟩⟩
theorem idx4 (q : Int) : (wrap64 (q.tmod 4 + 4)).tmod 4 = 0 ∨ (wrap64 (q.tmod 4 + 4)).tmod 4 = 1 ∨ (wrap64 (q.tmod 4 + 4)).tmod 4 = 2 ∨ (wrap64 (q.tmod 4 + 4)).tmod 4 = 3 := by
  have hb : -3 ≤ q.tmod 4 ∧ q.tmod 4 ≤ 3 := by
    rcases Int.le_total 0 q with h | h
    · rw [Int.tmod_eq_emod_of_nonneg h]; omega
    · obtain ⟨p, rfl⟩ : ∃ p, q = -p := ⟨-q, by omega⟩
      rw [Int.neg_tmod, Int.tmod_eq_emod_of_nonneg (by omega)]
      omega
  have hw : wrap64 (q.tmod 4 + 4) = q.tmod 4 + 4 := by unfold wrap64; omega
  rw [hw, Int.tmod_eq_emod_of_nonneg (by omega)]
  omega
theorem silT (s c b : ByteArray) : ((⟨#[60, 33, 45, 45]⟩ : ByteArray) ++ c ++ ⟨#[45, 45, 62]⟩ ++ s ++ ⟨#[60, 63]⟩ ++ c ++ ⟨#[63, 62, 60, 113]⟩ ++ b ++ ⟨#[47, 62, 60, 114]⟩ ++ b ++ ⟨#[62, 60, 47, 114]⟩ ++ b ++ ⟨#[62]⟩).data.toList = [60, 33, 45, 45] ++ c.data.toList ++ [45, 45, 62] ++ (s.data.toList ++ ([60, 63] ++ c.data.toList ++ [63, 62] ++ tailX b.data.toList)) := by
  simp only [ByteArray.data_append, Array.toList_append, tailX]
  simp
def SilRel (w1 : World) (c : ByteArray) (i : Value) (wr : World) : Prop := ∃ k : Nat, k ≤ c.size ∧ i = .int .i64 k ∧ w1 = wr ∧ ∀ x ∈ c.data.toList.take k, x ≠ 45 ∧ x ≠ 63
set_option maxHeartbeats 16000000 in
theorem xmlSilent_any {w : World} (hG : Gb w.heap.size w) (s c : ByteArray) (q : Int) (hq : -9223372036854775808 ≤ q ∧ q ≤ 9223372036854775807) : Calls Tryd.prog 5 #[.string s, .string c, .int .i64 q] w fun e w' => e = .returned (.bool true) ∧ Below w.heap.size w w' := by
  have HS := hid (shown_any hG)
  by_cases hl : 2000 < s.size
  · have hlI : (2000 : Int) < (s.size : Int) := by omega
    clear hG hq
    go_enter Tryd.func5, Tryd.ntmps5
    go_wp2_with (go_at_call 8; (with_reducible refine HS.out.mono ?_); rintro e w1 ⟨rfl, hb1⟩)
    go_ret
    exact ⟨rfl, hb1⟩
  by_cases hc : 300 < c.size
  · have hcI : (300 : Int) < (c.size : Int) := by omega
    clear hG hq
    go_enter Tryd.func5, Tryd.ntmps5
    go_wp2_with (go_at_call 8; (with_reducible refine HS.out.mono ?_); rintro e w1 ⟨rfl, hb1⟩)
    go_ret
    exact ⟨rfl, hb1⟩
  have hlI : ¬ (2000 : Int) < (s.size : Int) := by omega
  have hcI : ¬ (300 : Int) < (c.size : Int) := by omega
  have hsl : s.data.toList.length = s.size := str_len s
  have hcl : c.data.toList.length = c.size := str_len c
  rcases read_cases (l := s.data.toList) (by omega) with ⟨L, n, h1, hR⟩ | ⟨n, h1, hR⟩
  · have R1 := hid (kRead hG s (by omega) _ hR)
    have HG := hid hG
    have H1 := hid h1
    have HQ := hid hq
    clear hG h1 hR hq
    go_enter Tryd.func5, Tryd.ntmps5
    go_wp2_with (first
      | (go_at_call 8; (with_reducible refine HS.out.mono ?_); rintro e w1 ⟨rfl, hb1⟩)
      | (go_at_call 9; (with_reducible refine (R1.out _ hb1).mono ?_); rintro e w2 ⟨a2, c2, rfl, t2, hb2, _⟩))
    go_loopw [11] (SilRel w2 c) (fun i _ => c.size - (intOf i).toNat)
    case atStart => exact ⟨0, Nat.zero_le _, rfl, rfl, fun x h => by simp at h⟩
    case round =>
      obtain ⟨k, hk, rfl, rfl, hN⟩ := hrel
      have HN := hid hN
      clear hN
      by_cases hlt : k < c.size
      · have hkI : (k : Int) < (c.size : Int) := by omega
        have ht : c.data.toList.take (k + 1) = c.data.toList.take k ++ [c[k]'hlt] := by rw [List.take_succ_eq_append_getElem (by omega)]; rfl
        by_cases m1 : c[k]'hlt = 45
        · have m1' : ((((c[k]'hlt).toNat : Nat) : Int) == 45) = true := by rw [m1]; rfl
          clear ht
          go_wp2
          go_ret
          exact ⟨rfl, hb2⟩
        · have m1' : ((((c[k]'hlt).toNat : Nat) : Int) == 45) = false := u8_ne (a := c[k]'hlt) (c := 45) (fun e => m1 e.symm)
          by_cases m2 : c[k]'hlt = 63
          · have m2' : ((((c[k]'hlt).toNat : Nat) : Int) == 63) = true := by rw [m2]; rfl
            clear ht
            go_wp2
            go_ret
            exact ⟨rfl, hb2⟩
          · have m2' : ((((c[k]'hlt).toNat : Nat) : Int) == 63) = false := u8_ne (a := c[k]'hlt) (c := 63) (fun e => m2 e.symm)
            have HN2 : Hid (∀ x ∈ c.data.toList.take (k + 1), x ≠ 45 ∧ x ≠ 63) := hid (fun x hx => by
              rw [ht] at hx
              rcases List.mem_append.1 hx with hx | hx
              · exact HN.out x hx
              · simp at hx; subst hx; exact ⟨m1, m2⟩)
            clear ht m1 m2
            go_wp2
            exact ⟨⟨k + 1, by omega, by go_num, rfl, HN2.out⟩, by simp [intOf]; omega⟩
      · obtain rfl : k = c.size := by omega
        have hNN : (45 : UInt8) ∉ c.data.toList ∧ (63 : UInt8) ∉ c.data.toList := by
          have hh := HN.out
          rw [List.take_of_length_le (by omega)] at hh
          exact ⟨fun h => (hh _ h).1 rfl, fun h => (hh _ h).2 rfl⟩
        have hWb : Hid (Below w.heap.size w (w2.alloc (.cells #[.string ⟨#[32]⟩, .string ⟨#[9]⟩, .string ⟨#[10, 13]⟩, .string ⟨#[]⟩] 9))) := hid (hb2.alloc hb2.size _)
        have hWc : Hid (Below w2.heap.size w2 (w2.alloc (.cells #[.string ⟨#[32]⟩, .string ⟨#[9]⟩, .string ⟨#[10, 13]⟩, .string ⟨#[]⟩] 9))) := hid ((Below.refl _ _).alloc (Nat.le_refl _) _)
        have HT2 := hid t2
        rcases idx4 q with hx | hx | hx | hx
        · have R2 := hid (kRead HG.out (⟨#[60, 33, 45, 45]⟩ ++ c ++ ⟨#[45, 45, 62]⟩ ++ s ++ ⟨#[60, 63]⟩ ++ c ++ ⟨#[63, 62, 60, 113]⟩ ++ ⟨#[32]⟩ ++ ⟨#[47, 62, 60, 114]⟩ ++ ⟨#[32]⟩ ++ ⟨#[62, 60, 47, 114]⟩ ++ ⟨#[32]⟩ ++ ⟨#[62]⟩) (by
            simp only [ByteArray.size_append]
            have e1 : (⟨#[60, 33, 45, 45]⟩ : ByteArray).size = 4 := rfl
            have e2 : (⟨#[45, 45, 62]⟩ : ByteArray).size = 3 := rfl
            have e3 : (⟨#[60, 63]⟩ : ByteArray).size = 2 := rfl
            have e4 : (⟨#[63, 62, 60, 113]⟩ : ByteArray).size = 4 := rfl
            have e5 : (⟨#[32]⟩ : ByteArray).size = 1 := rfl
            have e6 : (⟨#[47, 62, 60, 114]⟩ : ByteArray).size = 4 := rfl
            have e7 : (⟨#[62, 60, 47, 114]⟩ : ByteArray).size = 4 := rfl
            have e8 : (⟨#[62]⟩ : ByteArray).size = 1 := rfl
            omega) (L ++ tailT, 0, 0) (by
            rw [silT]
            refine readR_of ?_ (read_silent (k := 0) H1.out hNN.1 hNN.2 (by omega))
            simp [tailX]
            omega))
          have z0 : ¬ (9223372036854775807 < 4 + c.size) := by omega
          have z1 : ¬ (9223372036854775807 < 4 + c.size + 3) := by omega
          have z2 : ¬ (9223372036854775807 < 4 + c.size + 3 + s.size) := by omega
          have z3 : ¬ (9223372036854775807 < 4 + c.size + 3 + s.size + 2) := by omega
          have z4 : ¬ (9223372036854775807 < 4 + c.size + 3 + s.size + 2 + c.size) := by omega
          have z5 : ¬ (9223372036854775807 < 4 + c.size + 3 + s.size + 2 + c.size + 4) := by omega
          have z6 : ¬ (9223372036854775807 < 4 + c.size + 3 + s.size + 2 + c.size + 4 + 1) := by omega
          have z7 : ¬ (9223372036854775807 < 4 + c.size + 3 + s.size + 2 + c.size + 4 + 1 + 4) := by omega
          have z8 : ¬ (9223372036854775807 < 4 + c.size + 3 + s.size + 2 + c.size + 4 + 1 + 4 + 1) := by omega
          have z9 : ¬ (9223372036854775807 < 4 + c.size + 3 + s.size + 2 + c.size + 4 + 1 + 4 + 1 + 4) := by omega
          have z10 : ¬ (9223372036854775807 < 4 + c.size + 3 + s.size + 2 + c.size + 4 + 1 + 4 + 1 + 4 + 1) := by omega
          have z11 : ¬ (9223372036854775807 < 4 + c.size + 3 + s.size + 2 + c.size + 4 + 1 + 4 + 1 + 4 + 1 + 1) := by omega
          clear hNN
          go_wp2_with (first
            | (go_at_call 9; (with_reducible refine (R2.out _ hWb.out).mono ?_); rintro e w3 ⟨a3, c3, rfl, t3, hb3, hbb3⟩; (have HAs := hid (as_any ((HT2.out.below hWc.out).below hbb3))); (have HT3 := hid t3); clear t3)
            | (go_at_call 11; (with_reducible refine HAs.out.mono ?_)))
          rintro e w4 ⟨hb4, rfl | ⟨a5, c5, rfl, k5, l5, m5⟩⟩
          · go_wp2
            go_ret
            exact ⟨rfl, hb3.trans (hb4.mono hb3.size)⟩
          · obtain ⟨tt, tc, tn⟩ := tok_take HT3.out (k := L.length) (by simp)
            rw [List.take_left] at tt
            obtain ⟨sb, so, rfl, hf⟩ := tail_at HT3.out
            have HAl := hid (alike_same (tt.below hb4) k5 (by omega) (fun t ht => by have := m5 t ht; omega))
            have HF := hid hf
            have xs : ∀ wx : World, (Instr.slice 23 (.slice (some ⟨sb, so, none⟩) (L.length + 4) c3) none (some (.int .i64 (L.length : Nat))) none).run Tryd.prog wx = .ok (.slice (some ⟨sb, so, none⟩) L.length c3) wx := fun wx => run_to tkTy_ok wx (some ⟨sb, so, none⟩) (L.length + 4) c3 L.length tc (fun h => by cases h)
            have htl : tailT.length = 4 := rfl
            clear tt hf tn
            go_wp2_with (go_at_call 12; (with_reducible refine HAl.out.mono ?_); rintro e w5 ⟨rfl, hb5⟩; obtain ⟨x0, x1, x2, x3⟩ := HF.out w5 (hb4.trans (hb5.mono hb4.size)))
            go_ret
            exact ⟨rfl, hb3.trans ((hb4.trans (hb5.mono hb4.size)).mono hb3.size)⟩
        · have R2 := hid (kRead HG.out (⟨#[60, 33, 45, 45]⟩ ++ c ++ ⟨#[45, 45, 62]⟩ ++ s ++ ⟨#[60, 63]⟩ ++ c ++ ⟨#[63, 62, 60, 113]⟩ ++ ⟨#[9]⟩ ++ ⟨#[47, 62, 60, 114]⟩ ++ ⟨#[9]⟩ ++ ⟨#[62, 60, 47, 114]⟩ ++ ⟨#[9]⟩ ++ ⟨#[62]⟩) (by
            simp only [ByteArray.size_append]
            have e1 : (⟨#[60, 33, 45, 45]⟩ : ByteArray).size = 4 := rfl
            have e2 : (⟨#[45, 45, 62]⟩ : ByteArray).size = 3 := rfl
            have e3 : (⟨#[60, 63]⟩ : ByteArray).size = 2 := rfl
            have e4 : (⟨#[63, 62, 60, 113]⟩ : ByteArray).size = 4 := rfl
            have e5 : (⟨#[9]⟩ : ByteArray).size = 1 := rfl
            have e6 : (⟨#[47, 62, 60, 114]⟩ : ByteArray).size = 4 := rfl
            have e7 : (⟨#[62, 60, 47, 114]⟩ : ByteArray).size = 4 := rfl
            have e8 : (⟨#[62]⟩ : ByteArray).size = 1 := rfl
            omega) (L ++ tailT, 0, 0) (by
            rw [silT]
            refine readR_of ?_ (read_silent (k := 1) H1.out hNN.1 hNN.2 (by omega))
            simp [tailX]
            omega))
          have z0 : ¬ (9223372036854775807 < 4 + c.size) := by omega
          have z1 : ¬ (9223372036854775807 < 4 + c.size + 3) := by omega
          have z2 : ¬ (9223372036854775807 < 4 + c.size + 3 + s.size) := by omega
          have z3 : ¬ (9223372036854775807 < 4 + c.size + 3 + s.size + 2) := by omega
          have z4 : ¬ (9223372036854775807 < 4 + c.size + 3 + s.size + 2 + c.size) := by omega
          have z5 : ¬ (9223372036854775807 < 4 + c.size + 3 + s.size + 2 + c.size + 4) := by omega
          have z6 : ¬ (9223372036854775807 < 4 + c.size + 3 + s.size + 2 + c.size + 4 + 1) := by omega
          have z7 : ¬ (9223372036854775807 < 4 + c.size + 3 + s.size + 2 + c.size + 4 + 1 + 4) := by omega
          have z8 : ¬ (9223372036854775807 < 4 + c.size + 3 + s.size + 2 + c.size + 4 + 1 + 4 + 1) := by omega
          have z9 : ¬ (9223372036854775807 < 4 + c.size + 3 + s.size + 2 + c.size + 4 + 1 + 4 + 1 + 4) := by omega
          have z10 : ¬ (9223372036854775807 < 4 + c.size + 3 + s.size + 2 + c.size + 4 + 1 + 4 + 1 + 4 + 1) := by omega
          have z11 : ¬ (9223372036854775807 < 4 + c.size + 3 + s.size + 2 + c.size + 4 + 1 + 4 + 1 + 4 + 1 + 1) := by omega
          clear hNN
          go_wp2_with (first
            | (go_at_call 9; (with_reducible refine (R2.out _ hWb.out).mono ?_); rintro e w3 ⟨a3, c3, rfl, t3, hb3, hbb3⟩; (have HAs := hid (as_any ((HT2.out.below hWc.out).below hbb3))); (have HT3 := hid t3); clear t3)
            | (go_at_call 11; (with_reducible refine HAs.out.mono ?_)))
          rintro e w4 ⟨hb4, rfl | ⟨a5, c5, rfl, k5, l5, m5⟩⟩
          · go_wp2
            go_ret
            exact ⟨rfl, hb3.trans (hb4.mono hb3.size)⟩
          · obtain ⟨tt, tc, tn⟩ := tok_take HT3.out (k := L.length) (by simp)
            rw [List.take_left] at tt
            obtain ⟨sb, so, rfl, hf⟩ := tail_at HT3.out
            have HAl := hid (alike_same (tt.below hb4) k5 (by omega) (fun t ht => by have := m5 t ht; omega))
            have HF := hid hf
            have xs : ∀ wx : World, (Instr.slice 23 (.slice (some ⟨sb, so, none⟩) (L.length + 4) c3) none (some (.int .i64 (L.length : Nat))) none).run Tryd.prog wx = .ok (.slice (some ⟨sb, so, none⟩) L.length c3) wx := fun wx => run_to tkTy_ok wx (some ⟨sb, so, none⟩) (L.length + 4) c3 L.length tc (fun h => by cases h)
            have htl : tailT.length = 4 := rfl
            clear tt hf tn
            go_wp2_with (go_at_call 12; (with_reducible refine HAl.out.mono ?_); rintro e w5 ⟨rfl, hb5⟩; obtain ⟨x0, x1, x2, x3⟩ := HF.out w5 (hb4.trans (hb5.mono hb4.size)))
            go_ret
            exact ⟨rfl, hb3.trans ((hb4.trans (hb5.mono hb4.size)).mono hb3.size)⟩
        · have R2 := hid (kRead HG.out (⟨#[60, 33, 45, 45]⟩ ++ c ++ ⟨#[45, 45, 62]⟩ ++ s ++ ⟨#[60, 63]⟩ ++ c ++ ⟨#[63, 62, 60, 113]⟩ ++ ⟨#[10, 13]⟩ ++ ⟨#[47, 62, 60, 114]⟩ ++ ⟨#[10, 13]⟩ ++ ⟨#[62, 60, 47, 114]⟩ ++ ⟨#[10, 13]⟩ ++ ⟨#[62]⟩) (by
            simp only [ByteArray.size_append]
            have e1 : (⟨#[60, 33, 45, 45]⟩ : ByteArray).size = 4 := rfl
            have e2 : (⟨#[45, 45, 62]⟩ : ByteArray).size = 3 := rfl
            have e3 : (⟨#[60, 63]⟩ : ByteArray).size = 2 := rfl
            have e4 : (⟨#[63, 62, 60, 113]⟩ : ByteArray).size = 4 := rfl
            have e5 : (⟨#[10, 13]⟩ : ByteArray).size = 2 := rfl
            have e6 : (⟨#[47, 62, 60, 114]⟩ : ByteArray).size = 4 := rfl
            have e7 : (⟨#[62, 60, 47, 114]⟩ : ByteArray).size = 4 := rfl
            have e8 : (⟨#[62]⟩ : ByteArray).size = 1 := rfl
            omega) (L ++ tailT, 0, 0) (by
            rw [silT]
            refine readR_of ?_ (read_silent (k := 2) H1.out hNN.1 hNN.2 (by omega))
            simp [tailX]
            omega))
          have z0 : ¬ (9223372036854775807 < 4 + c.size) := by omega
          have z1 : ¬ (9223372036854775807 < 4 + c.size + 3) := by omega
          have z2 : ¬ (9223372036854775807 < 4 + c.size + 3 + s.size) := by omega
          have z3 : ¬ (9223372036854775807 < 4 + c.size + 3 + s.size + 2) := by omega
          have z4 : ¬ (9223372036854775807 < 4 + c.size + 3 + s.size + 2 + c.size) := by omega
          have z5 : ¬ (9223372036854775807 < 4 + c.size + 3 + s.size + 2 + c.size + 4) := by omega
          have z6 : ¬ (9223372036854775807 < 4 + c.size + 3 + s.size + 2 + c.size + 4 + 2) := by omega
          have z7 : ¬ (9223372036854775807 < 4 + c.size + 3 + s.size + 2 + c.size + 4 + 2 + 4) := by omega
          have z8 : ¬ (9223372036854775807 < 4 + c.size + 3 + s.size + 2 + c.size + 4 + 2 + 4 + 2) := by omega
          have z9 : ¬ (9223372036854775807 < 4 + c.size + 3 + s.size + 2 + c.size + 4 + 2 + 4 + 2 + 4) := by omega
          have z10 : ¬ (9223372036854775807 < 4 + c.size + 3 + s.size + 2 + c.size + 4 + 2 + 4 + 2 + 4 + 2) := by omega
          have z11 : ¬ (9223372036854775807 < 4 + c.size + 3 + s.size + 2 + c.size + 4 + 2 + 4 + 2 + 4 + 2 + 1) := by omega
          clear hNN
          go_wp2_with (first
            | (go_at_call 9; (with_reducible refine (R2.out _ hWb.out).mono ?_); rintro e w3 ⟨a3, c3, rfl, t3, hb3, hbb3⟩; (have HAs := hid (as_any ((HT2.out.below hWc.out).below hbb3))); (have HT3 := hid t3); clear t3)
            | (go_at_call 11; (with_reducible refine HAs.out.mono ?_)))
          rintro e w4 ⟨hb4, rfl | ⟨a5, c5, rfl, k5, l5, m5⟩⟩
          · go_wp2
            go_ret
            exact ⟨rfl, hb3.trans (hb4.mono hb3.size)⟩
          · obtain ⟨tt, tc, tn⟩ := tok_take HT3.out (k := L.length) (by simp)
            rw [List.take_left] at tt
            obtain ⟨sb, so, rfl, hf⟩ := tail_at HT3.out
            have HAl := hid (alike_same (tt.below hb4) k5 (by omega) (fun t ht => by have := m5 t ht; omega))
            have HF := hid hf
            have xs : ∀ wx : World, (Instr.slice 23 (.slice (some ⟨sb, so, none⟩) (L.length + 4) c3) none (some (.int .i64 (L.length : Nat))) none).run Tryd.prog wx = .ok (.slice (some ⟨sb, so, none⟩) L.length c3) wx := fun wx => run_to tkTy_ok wx (some ⟨sb, so, none⟩) (L.length + 4) c3 L.length tc (fun h => by cases h)
            have htl : tailT.length = 4 := rfl
            clear tt hf tn
            go_wp2_with (go_at_call 12; (with_reducible refine HAl.out.mono ?_); rintro e w5 ⟨rfl, hb5⟩; obtain ⟨x0, x1, x2, x3⟩ := HF.out w5 (hb4.trans (hb5.mono hb4.size)))
            go_ret
            exact ⟨rfl, hb3.trans ((hb4.trans (hb5.mono hb4.size)).mono hb3.size)⟩
        · have R2 := hid (kRead HG.out (⟨#[60, 33, 45, 45]⟩ ++ c ++ ⟨#[45, 45, 62]⟩ ++ s ++ ⟨#[60, 63]⟩ ++ c ++ ⟨#[63, 62, 60, 113]⟩ ++ ⟨#[]⟩ ++ ⟨#[47, 62, 60, 114]⟩ ++ ⟨#[]⟩ ++ ⟨#[62, 60, 47, 114]⟩ ++ ⟨#[]⟩ ++ ⟨#[62]⟩) (by
            simp only [ByteArray.size_append]
            have e1 : (⟨#[60, 33, 45, 45]⟩ : ByteArray).size = 4 := rfl
            have e2 : (⟨#[45, 45, 62]⟩ : ByteArray).size = 3 := rfl
            have e3 : (⟨#[60, 63]⟩ : ByteArray).size = 2 := rfl
            have e4 : (⟨#[63, 62, 60, 113]⟩ : ByteArray).size = 4 := rfl
            have e5 : (⟨#[]⟩ : ByteArray).size = 0 := rfl
            have e6 : (⟨#[47, 62, 60, 114]⟩ : ByteArray).size = 4 := rfl
            have e7 : (⟨#[62, 60, 47, 114]⟩ : ByteArray).size = 4 := rfl
            have e8 : (⟨#[62]⟩ : ByteArray).size = 1 := rfl
            omega) (L ++ tailT, 0, 0) (by
            rw [silT]
            refine readR_of ?_ (read_silent (k := 3) H1.out hNN.1 hNN.2 (by omega))
            simp [tailX]
            omega))
          have z0 : ¬ (9223372036854775807 < 4 + c.size) := by omega
          have z1 : ¬ (9223372036854775807 < 4 + c.size + 3) := by omega
          have z2 : ¬ (9223372036854775807 < 4 + c.size + 3 + s.size) := by omega
          have z3 : ¬ (9223372036854775807 < 4 + c.size + 3 + s.size + 2) := by omega
          have z4 : ¬ (9223372036854775807 < 4 + c.size + 3 + s.size + 2 + c.size) := by omega
          have z5 : ¬ (9223372036854775807 < 4 + c.size + 3 + s.size + 2 + c.size + 4) := by omega
          have z7 : ¬ (9223372036854775807 < 4 + c.size + 3 + s.size + 2 + c.size + 4 + 4) := by omega
          have z9 : ¬ (9223372036854775807 < 4 + c.size + 3 + s.size + 2 + c.size + 4 + 4 + 4) := by omega
          have z11 : ¬ (9223372036854775807 < 4 + c.size + 3 + s.size + 2 + c.size + 4 + 4 + 4 + 1) := by omega
          clear hNN
          go_wp2_with (first
            | (go_at_call 9; (with_reducible refine (R2.out _ hWb.out).mono ?_); rintro e w3 ⟨a3, c3, rfl, t3, hb3, hbb3⟩; (have HAs := hid (as_any ((HT2.out.below hWc.out).below hbb3))); (have HT3 := hid t3); clear t3)
            | (go_at_call 11; (with_reducible refine HAs.out.mono ?_)))
          rintro e w4 ⟨hb4, rfl | ⟨a5, c5, rfl, k5, l5, m5⟩⟩
          · go_wp2
            go_ret
            exact ⟨rfl, hb3.trans (hb4.mono hb3.size)⟩
          · obtain ⟨tt, tc, tn⟩ := tok_take HT3.out (k := L.length) (by simp)
            rw [List.take_left] at tt
            obtain ⟨sb, so, rfl, hf⟩ := tail_at HT3.out
            have HAl := hid (alike_same (tt.below hb4) k5 (by omega) (fun t ht => by have := m5 t ht; omega))
            have HF := hid hf
            have xs : ∀ wx : World, (Instr.slice 23 (.slice (some ⟨sb, so, none⟩) (L.length + 4) c3) none (some (.int .i64 (L.length : Nat))) none).run Tryd.prog wx = .ok (.slice (some ⟨sb, so, none⟩) L.length c3) wx := fun wx => run_to tkTy_ok wx (some ⟨sb, so, none⟩) (L.length + 4) c3 L.length tc (fun h => by cases h)
            have htl : tailT.length = 4 := rfl
            clear tt hf tn
            go_wp2_with (go_at_call 12; (with_reducible refine HAl.out.mono ?_); rintro e w5 ⟨rfl, hb5⟩; obtain ⟨x0, x1, x2, x3⟩ := HF.out w5 (hb4.trans (hb5.mono hb4.size)))
            go_ret
            exact ⟨rfl, hb3.trans ((hb4.trans (hb5.mono hb4.size)).mono hb3.size)⟩
  · have R1 := hid (kRead hG s (by omega) _ hR)
    clear hG h1 hR hq
    go_enter Tryd.func5, Tryd.ntmps5
    go_wp2_with (first
      | (go_at_call 8; (with_reducible refine HS.out.mono ?_); rintro e w1 ⟨rfl, hb1⟩)
      | (go_at_call 9; (with_reducible refine (R1.out _ hb1).mono ?_); rintro e w2 ⟨a2, c2, rfl, t2, hb2, _⟩))
    go_ret
    exact ⟨rfl, hb2⟩
end Go.Proofs.YtbiiaepmemdlgaaDoor
