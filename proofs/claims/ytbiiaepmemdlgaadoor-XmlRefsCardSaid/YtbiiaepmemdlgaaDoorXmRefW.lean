/-
  LAYER 11 (xml): XmlRefs' walk.
-/
import Derived.Test.YtbiiaepmemdlgaaDoorXmRfW
namespace Go.Proofs.YtbiiaepmemdlgaaDoor
open Go.RowKit
set_option linter.unusedVariables false
set_option maxRecDepth 100000

theorem ref_one {w : World} {a : Option Addr} {n c : Nat} {l : List UInt8} (h : TokAt w (.slice a n c) [wordsT l]) : ∃ sb so, a = some ⟨sb, so, none⟩ ∧ sb < w.heap.size ∧ w.cell? ⟨sb, so + 3, none⟩ = some (.string (mk l)) := by
  obtain ⟨a', c', e, hat⟩ := tks_at h
  cases e
  obtain ⟨sb, so, aa, ac, rfl, hr, hc⟩ := hat 0 _ rfl
  obtain ⟨x0, -, -, x3⟩ := hc w (Below.refl _ _)
  exact ⟨sb, so, rfl, World.block_lt_of_cell? w _ x0, by simpa [wordsT] using x3⟩
set_option maxHeartbeats 8000000 in
theorem xmlRefs_any {w : World} (hG : Gb w.heap.size w) (r : Int) (hr : -9223372036854775808 ≤ r ∧ r ≤ 9223372036854775807) : Calls Tryd.prog 6 #[.int .i64 r] w fun e w' => e = .returned (.bool true) ∧ Below w.heap.size w w' := by
  have HS := hid (shown_any hG)
  by_cases hl : r < 0
  · clear hG
    go_enter Tryd.func6, Tryd.ntmps6
    go_wp2_with (go_at_call 8; (with_reducible refine HS.out.mono ?_); rintro e w1 ⟨rfl, hb1⟩)
    go_ret
    exact ⟨rfl, hb1⟩
  · by_cases hu : 9999999 < r
    · clear hG
      go_enter Tryd.func6, Tryd.ntmps6
      go_wp2_with (go_at_call 8; (with_reducible refine HS.out.mono ?_); rintro e w1 ⟨rfl, hb1⟩)
      go_ret
      exact ⟨rfl, hb1⟩
    · obtain ⟨n, hrn⟩ : ∃ n : Nat, r = (n : Int) := ⟨r.toNat, by omega⟩
      have hn : n ≤ 9999999 := by omega
      have hd := numS_len (b := 10) (by omega) 6 n (by omega)
      have hh := numS_len (b := 16) (by omega) 5 n (by omega)
      have hd0 := fun wx => decimal_any wx n hn
      have hh0 := fun wx => hex_any wx n hn
      rw [← hrn] at hd0 hh0
      have HD := hid hd0
      have HH := hid hh0
      clear hd0 hh0
      have z1 : ¬ (9223372036854775807 < 2 + (mk (numS 10 n)).size) := by rw [mk_size]; omega
      have z2 : ¬ (9223372036854775807 < 2 + (mk (numS 10 n)).size + 1) := by rw [mk_size]; omega
      have z3 : ¬ (9223372036854775807 < 3 + (mk (numS 16 n)).size) := by rw [mk_size]; omega
      have z4 : ¬ (9223372036854775807 < 3 + (mk (numS 16 n)).size + 1) := by rw [mk_size]; omega
      have s1 : (⟨#[38, 35]⟩ ++ mk (numS 10 n) ++ ⟨#[59]⟩ : ByteArray).size ≤ 1000000 := by
        simp only [ByteArray.size_append, mk_size]
        have e1 : (⟨#[38, 35]⟩ : ByteArray).size = 2 := rfl
        have e2 : (⟨#[59]⟩ : ByteArray).size = 1 := rfl
        omega
      have s2 : (⟨#[38, 35, 120]⟩ ++ mk (numS 16 n) ++ ⟨#[59]⟩ : ByteArray).size ≤ 1000000 := by
        simp only [ByteArray.size_append, mk_size]
        have e1 : (⟨#[38, 35, 120]⟩ : ByteArray).size = 3 := rfl
        have e2 : (⟨#[59]⟩ : ByteArray).size = 1 := rfl
        omega
      have d1 : (⟨#[38, 35]⟩ ++ mk (numS 10 n) ++ ⟨#[59]⟩ : ByteArray).data.toList = [38, 35] ++ numS 10 n ++ [59] := by
        simp only [ByteArray.data_append, Array.toList_append, mk_data]
      have d2 : (⟨#[38, 35, 120]⟩ ++ mk (numS 16 n) ++ ⟨#[59]⟩ : ByteArray).data.toList = [38, 35, 120] ++ numS 16 n ++ [59] := by
        simp only [ByteArray.data_append, Array.toList_append, mk_data]
      have l1 : ([38, 35] ++ numS 10 n ++ [59] : List UInt8).length ≤ 20000 := by simp; omega
      have l2 : ([38, 35, 120] ++ numS 16 n ++ [59] : List UInt8).length ≤ 20000 := by simp; omega
      have g1 := read_dec n hn
      have g2 := read_hex n hn
      by_cases hx : runeX n = true
      · rw [if_pos hx] at g1 g2
        have R1 := hid (kRead hG _ s1 ([wordsT (utfX n)], 0, 0) (by rw [d1]; exact readR_of l1 g1))
        have R2 := hid (kRead hG _ s2 ([wordsT (utfX n)], 0, 0) (by rw [d2]; exact readR_of l2 g2))
        unfold runeX at hx
        simp at hx
        obtain ⟨⟨hx1, hx2⟩, hx3⟩ := hx
        have i1 : (1 : Int) ≤ r := by omega
        have i2 : r ≤ 1114111 := by omega
        obtain ⟨u1, u2, u3⟩ := utfX_sz n
        have HV := hid (fun wx => value_any wx (mk (utfX n)) (by rw [mk_size]; exact u2))
        have hv : bytV (mk (utfX n)).data.toList = (n : Int) := by rw [mk_data]; exact bytV_utf n (by omega)
        rw [hv, ← hrn] at HV
        have hsz : ((mk (utfX n)).size : Int) = ((utfX n).length : Int) := by rw [mk_size]
        have q1 : ((mk (utfX n)).toList == (mk (utfX n)).toList) = true := beq_self_eq_true _
        clear hG s1 s2 d1 d2 l1 l2 g1 g2 hv
        by_cases h6 : n < 128
        · have h6' : r < 128 := by omega
          have hL : (utfX n).length = 1 := u3.2 h6
          have hz1 : (mk (utfX n)).size = 1 := by rw [mk_size]; exact hL
          have HRN := hid hrn
          clear hx1 hx2 hx3 h6 hd hh hr hn hrn u1 u2 u3
          go_enter Tryd.func6, Tryd.ntmps6
          go_wp2_with (first
            | (go_at_call 8; (with_reducible refine HS.out.mono ?_); rintro e w1 ⟨rfl, hb1⟩)
            | (go_at_call 14; (with_reducible refine (HD.out _).mono ?_); rintro e _ ⟨rfl, rfl⟩)
            | (go_at_call 15; (with_reducible refine (HH.out _).mono ?_); rintro e _ ⟨rfl, rfl⟩)
            | (go_at_call 9; first
              | ((with_reducible refine (R1.out _ hb1).mono ?_); rintro e w3 ⟨a3, c3, rfl, t3, hb3, _⟩; obtain ⟨sb, so, rfl, hsb, x3⟩ := ref_one t3)
              | ((with_reducible refine (R2.out _ hb3).mono ?_); rintro e w4 ⟨a4, c4, rfl, t4, hb4, hbb⟩; obtain ⟨sc, sd, rfl, hsc, y3⟩ := ref_one t4; (have x4 := (hbb.cell (p := ⟨sb, so + 3, none⟩) hsb).trans x3))))
          go_quiet (fail)
          all_goals
            go_wp2_with (go_at_call 16; (with_reducible refine (HV.out _).mono ?_); rintro e _ ⟨rfl, rfl⟩)
            go_ret
            exact ⟨rfl, below_drew hb4 _⟩
        · have HD6 : Hid (decide (r < 128) = false) := hid (decide_eq_false (by omega))
          have hL : (utfX n).length ≠ 1 := fun e => h6 (u3.1 e)
          have v1 : (1 : Int) ≤ ((mk (utfX n)).size : Int) := by rw [mk_size]; omega
          have v2 : ((mk (utfX n)).size : Int) ≤ 4 := by rw [mk_size]; omega
          have HQ : Hid ((((utfX n).length : Int) == 1) = false) := hid (by simp; omega)
          have i3 : r < 55296 ∨ (57343 : Int) < r := by omega
          have HRN := hid hrn
          clear hx1 hx2 hx3 h6 hd hh hr hn hrn u1 u2 u3
          go_enter Tryd.func6, Tryd.ntmps6
          go_wp2_with (first
            | (go_at_call 8; (with_reducible refine HS.out.mono ?_); rintro e w1 ⟨rfl, hb1⟩)
            | (go_at_call 14; (with_reducible refine (HD.out _).mono ?_); rintro e _ ⟨rfl, rfl⟩)
            | (go_at_call 15; (with_reducible refine (HH.out _).mono ?_); rintro e _ ⟨rfl, rfl⟩)
            | (go_at_call 9; first
              | ((with_reducible refine (R1.out _ hb1).mono ?_); rintro e w3 ⟨a3, c3, rfl, t3, hb3, _⟩; obtain ⟨sb, so, rfl, hsb, x3⟩ := ref_one t3)
              | ((with_reducible refine (R2.out _ hb3).mono ?_); rintro e w4 ⟨a4, c4, rfl, t4, hb4, hbb⟩; obtain ⟨sc, sd, rfl, hsc, y3⟩ := ref_one t4; (have x4 := (hbb.cell (p := ⟨sb, so + 3, none⟩) hsb).trans x3))))
          all_goals first
            | (rename ((!decide (r < 55296)) = true ∧ (!decide ((57343 : Int) < r)) = true) => hq; exfalso; simp only [Bool.not_eq_true', decide_eq_false_iff_not] at hq; omega)
            | (clear i3
               go_quiet (fail)
               all_goals
                 go_wp2_with (go_at_call 16; (with_reducible refine (HV.out _).mono ?_); rintro e _ ⟨rfl, rfl⟩)
                 go_ret
                 exact ⟨ret_bool (by rw [HQ.out, HD6.out]; rfl), below_drew hb4 _⟩)
      · rw [if_neg hx] at g1 g2
        have R1 := hid (kRead hG _ s1 ([], 8, 0) (by rw [d1]; exact readR_bad l1 g1 0 rfl))
        have R2 := hid (kRead hG _ s2 ([], 8, 0) (by rw [d2]; exact readR_bad l2 g2 0 rfl))
        unfold runeX at hx
        simp at hx
        clear hG s1 s2 d1 d2 l1 l2 g1 g2 hd hh
        by_cases k1 : r < 1
        · clear hx hn hrn hr
          go_enter Tryd.func6, Tryd.ntmps6
          go_wp2_with (first
            | (go_at_call 8; (with_reducible refine HS.out.mono ?_); rintro e w1 ⟨rfl, hb1⟩)
            | (go_at_call 14; (with_reducible refine (HD.out _).mono ?_); rintro e _ ⟨rfl, rfl⟩)
            | (go_at_call 15; (with_reducible refine (HH.out _).mono ?_); rintro e _ ⟨rfl, rfl⟩)
            | (go_at_call 9; first
              | ((with_reducible refine (R1.out _ hb1).mono ?_); rintro e w3 ⟨a3, c3, rfl, t3, hb3, _⟩)
              | ((with_reducible refine (R2.out _ hb3).mono ?_); rintro e w4 ⟨a4, c4, rfl, t4, hb4, hbb⟩)))
          go_ret
          exact ⟨rfl, hb4⟩
        · by_cases k2 : (1114111 : Int) < r
          · have k2' : ¬ r ≤ 1114111 := by omega
            clear hx hn hrn hr
            go_enter Tryd.func6, Tryd.ntmps6
            go_wp2_with (first
              | (go_at_call 8; (with_reducible refine HS.out.mono ?_); rintro e w1 ⟨rfl, hb1⟩)
              | (go_at_call 14; (with_reducible refine (HD.out _).mono ?_); rintro e _ ⟨rfl, rfl⟩)
              | (go_at_call 15; (with_reducible refine (HH.out _).mono ?_); rintro e _ ⟨rfl, rfl⟩)
              | (go_at_call 9; first
                | ((with_reducible refine (R1.out _ hb1).mono ?_); rintro e w3 ⟨a3, c3, rfl, t3, hb3, _⟩)
                | ((with_reducible refine (R2.out _ hb3).mono ?_); rintro e w4 ⟨a4, c4, rfl, t4, hb4, hbb⟩)))
            go_ret
            exact ⟨rfl, hb4⟩
          · have k3 : ¬ r < 55296 := by omega
            have k4 : ¬ (57343 : Int) < r := by omega
            clear hx hn hrn hr
            go_enter Tryd.func6, Tryd.ntmps6
            go_wp2_with (first
              | (go_at_call 8; (with_reducible refine HS.out.mono ?_); rintro e w1 ⟨rfl, hb1⟩)
              | (go_at_call 14; (with_reducible refine (HD.out _).mono ?_); rintro e _ ⟨rfl, rfl⟩)
              | (go_at_call 15; (with_reducible refine (HH.out _).mono ?_); rintro e _ ⟨rfl, rfl⟩)
              | (go_at_call 9; first
                | ((with_reducible refine (R1.out _ hb1).mono ?_); rintro e w3 ⟨a3, c3, rfl, t3, hb3, _⟩)
                | ((with_reducible refine (R2.out _ hb3).mono ?_); rintro e w4 ⟨a4, c4, rfl, t4, hb4, hbb⟩)))
            all_goals first
              | (rename ((!decide (r < 55296)) = false ∨ (!decide ((57343 : Int) < r)) = false) => hq; exfalso; simp only [Bool.not_eq_false', decide_eq_true_eq] at hq; omega)
              | (go_ret
                 exact ⟨rfl, hb4⟩)
end Go.Proofs.YtbiiaepmemdlgaaDoor
