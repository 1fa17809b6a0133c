/-
  LAYER 11 (xml): XmlEscapes' walk.
-/
import Derived.Test.YtbiiaepmemdlgaaDoorXmLw
namespace Go.Proofs.YtbiiaepmemdlgaaDoor
open Go.RowKit
set_option linter.unusedVariables false
set_option maxRecDepth 100000

theorem esc_at {w : World} {a : Option Addr} {n c : Nat} {l : List UInt8} (h : TokAt w (.slice a n c) (openT [97] [⟨[120], l⟩] :: endW l ++ [closeT [97]])) :
    ∃ sb so ab ao ac, a = some ⟨sb, so, none⟩ ∧ w.cell? ⟨sb, so + 2, none⟩ = some (.slice (some ⟨ab, ao, none⟩) 1 ac) ∧ w.cell? ⟨ab, ao, none⟩ = some (.string ⟨#[120]⟩) ∧ w.cell? ⟨ab, ao + 1, none⟩ = some (.string (mk l)) ∧ (l ≠ [] → w.cell? ⟨sb, so + 4 + 3, none⟩ = some (.string (mk l))) := by
  obtain ⟨a', c', e, hat⟩ := tks_at h
  cases e
  obtain ⟨sb, so, aa, ac, rfl, hr, hc⟩ := hat 0 _ rfl
  obtain ⟨_, _, e2, hat2⟩ := ats_at hr
  cases e2
  obtain ⟨ab, ao, rfl, hc2⟩ := hat2 0 _ rfl
  obtain ⟨-, -, x2, -⟩ := hc w (Below.refl _ _)
  obtain ⟨y0, y1⟩ := hc2 w (Below.refl _ _)
  refine ⟨sb, so, ab, ao, ac, rfl, by simpa [openT] using x2, by simp only [Nat.zero_mul, Nat.add_zero] at y0; exact y0, by simpa using y1, fun h0 => ?_⟩
  have e1 : (openT [97] [⟨[120], l⟩] :: endW l ++ [closeT [97]])[1]? = some (wordsT l) := by unfold endW; rw [if_neg h0]; rfl
  obtain ⟨sb', so', aa', ac', e3, -, hc3⟩ := hat 1 _ e1
  cases e3
  obtain ⟨-, -, -, x3⟩ := hc3 w (Below.refl _ _)
  simpa [wordsT] using x3
theorem esc_one {w : World} {a : Option Addr} {n c : Nat} {l : List UInt8} (h : TokAt w (.slice a n c) [wordsT l]) : ∃ sb so, a = some ⟨sb, so, none⟩ ∧ w.cell? ⟨sb, so, none⟩ = some (.int .i64 3) ∧ w.cell? ⟨sb, so + 3, none⟩ = some (.string (mk l)) := by
  obtain ⟨a', c', e, hat⟩ := tks_at h
  cases e
  obtain ⟨sb, so, aa, ac, rfl, hr, hc⟩ := hat 0 _ rfl
  obtain ⟨x0, -, -, x3⟩ := hc w (Below.refl _ _)
  exact ⟨sb, so, rfl, by simpa [wordsT] using x0, by simpa [wordsT] using x3⟩
set_option maxHeartbeats 8000000 in
theorem xmlEscapes_any {w : World} (hG : Gb w.heap.size w) (s : ByteArray) : Calls Tryd.prog 4 #[.string s] w fun e w' => e = .returned (.bool true) ∧ Below w.heap.size w w' := by
  have HS := hid (shown_any hG)
  by_cases hl : 1500 < s.size
  · have hlI : (1500 : Int) < (s.size : Int) := by omega
    clear hG
    go_enter Tryd.func4, Tryd.ntmps4
    go_wp2_with (go_at_call 8; (with_reducible refine HS.out.mono ?_); rintro e w1 ⟨rfl, hb1⟩)
    go_ret
    exact ⟨rfl, hb1⟩
  · have hlI : ¬ (1500 : Int) < (s.size : Int) := by omega
    obtain ⟨l, rfl⟩ : ∃ l, s = mk l := ⟨s.data.toList, by simp [mk]⟩
    rw [mk_size] at hl
    have hel := escF_len l
    have E1 := hid (kEscape hG (mk l) (by rw [mk_size]; omega) (escX l) (by rw [mk_data]))
    have R1 := hid (kRead hG (mk (escX l)) (by rw [mk_size]; unfold escX; omega) (endW l, 0, 0) (by rw [mk_data]; exact readR_of (by unfold escX; omega) (read_esc l)))
    have R2 := hid (kRead hG (⟨#[60, 97, 32, 120, 61, 39]⟩ ++ mk (escX l) ++ ⟨#[39, 62]⟩ ++ mk (escX l) ++ ⟨#[60, 47, 97, 62]⟩) (by
      simp only [ByteArray.size_append, mk_size]
      have : (escX l).length ≤ 6 * l.length := hel
      have e1 : (⟨#[60, 97, 32, 120, 61, 39]⟩ : ByteArray).size = 6 := rfl
      have e2 : (⟨#[39, 62]⟩ : ByteArray).size = 2 := rfl
      have e3 : (⟨#[60, 47, 97, 62]⟩ : ByteArray).size = 4 := rfl
      omega) (openT [97] [⟨[120], l⟩] :: endW l ++ [closeT [97]], 0, 0) (by
      simp only [ByteArray.data_append, Array.toList_append, mk_data]
      refine readR_of ?_ (read_both l)
      have : (escX l).length ≤ 6 * l.length := hel
      simp
      omega))
    have hsz : (mk (escX l)).size ≤ 9000 := by rw [mk_size]; have : (escX l).length ≤ 6 * l.length := hel; omega
    have z1 : ¬ (9223372036854775807 < 6 + (mk (escX l)).size) := by omega
    have z2 : ¬ (9223372036854775807 < 6 + (mk (escX l)).size + 2) := by omega
    have z3 : ¬ (9223372036854775807 < 6 + (mk (escX l)).size + 2 + (mk (escX l)).size) := by omega
    have z4 : ¬ (9223372036854775807 < 6 + (mk (escX l)).size + 2 + (mk (escX l)).size + 4) := by omega
    by_cases h0 : l = []
    · subst h0
      obtain ⟨i1, i2, i3⟩ := str_isnil
      clear hG
      go_enter Tryd.func4, Tryd.ntmps4
      go_wp2_with (first
        | (go_at_call 8; (with_reducible refine HS.out.mono ?_); rintro e w1 ⟨rfl, hb1⟩)
        | (go_at_call 13; (with_reducible refine (E1.out _ hb1).mono ?_); rintro e w2 ⟨rfl, hb2, _⟩)
        | (go_at_call 9; (with_reducible refine (R1.out _ hb2).mono ?_); rintro e w3 ⟨a3, c3, rfl, t3, hb3, _⟩)
        | (go_at_call 9; (with_reducible refine (R2.out _ hb3).mono ?_); rintro e w4 ⟨a4, c4, rfl, t4, hb4, _⟩; obtain ⟨sb, so, ab, ao, ac, rfl, x0, x1, x2, x3⟩ := esc_at t4))
      go_ret
      exact ⟨rfl, hb4⟩
    · have h2 := h0
      obtain ⟨i1, i2, i3⟩ := str_nil h0
      have hE : endW l = [wordsT l] := by unfold endW; rw [if_neg h0]
      have q1 : ((mk l).toList == (mk l).toList) = true := beq_self_eq_true _
      rw [hE] at R1
      have R2' := R2
      rw [hE] at R2
      clear hG
      go_enter Tryd.func4, Tryd.ntmps4
      go_wp2_with (first
        | (go_at_call 8; (with_reducible refine HS.out.mono ?_); rintro e w1 ⟨rfl, hb1⟩)
        | (go_at_call 13; (with_reducible refine (E1.out _ hb1).mono ?_); rintro e w2 ⟨rfl, hb2, _⟩)
        | (go_at_call 9; (with_reducible refine (R1.out _ hb2).mono ?_); rintro e w3 ⟨a3, c3, rfl, t3, hb3, _⟩; obtain ⟨sc, sd, rfl, z0, z1⟩ := esc_one t3)
        | (go_at_call 9; (with_reducible refine (R2.out _ hb3).mono ?_); rintro e w4 ⟨a4, c4, rfl, t4, hb4, _⟩; rw [← hE] at t4; obtain ⟨sb, so, ab, ao, ac, rfl, x0, x1, x2, x3⟩ := esc_at t4; (have x4 := x3 h2)))
      go_ret
      exact ⟨rfl, hb4⟩
end Go.Proofs.YtbiiaepmemdlgaaDoor
