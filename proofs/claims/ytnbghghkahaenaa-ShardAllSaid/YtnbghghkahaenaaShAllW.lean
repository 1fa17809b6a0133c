/-
  LAYER 14 (shard), the law ShardAll: its walk.
-/
import Derived.Test.YtnbghghkahaenaaShPartsW
namespace Go.Proofs.Ytnbghghkahaenaa
open Go.RowKit
set_option linter.unusedVariables false
set_option maxRecDepth 100000

def AllRel (L : List ByteArray) (w : World) (u v : Value) (wr : World) : Prop := ∃ (i c : Nat), i ≤ 8 ∧ c ≤ 100 * i ∧ u = .int .i64 (c : Int) ∧ v = .int .i64 (i : Int) ∧ Below w.heap.size w wr ∧ Hid (c = sumL L i)
set_option maxHeartbeats 8000000 in
theorem shardAll_main (HP : ShProg) {w : World} {v : Value} {L : List ByteArray} (s : ByteArray) (hv : RAt strTy w v L) (hl : L.length ≤ 100) (hs : s.size ≤ 300) : Calls Try.prog 5 #[v, .string s] w (ShownPost14 w) := by
  have HS := hid (shown14 HP w)
  have HPh := hid HP
  have HV := hid hv
  obtain ⟨ao, cap, rfl, hat⟩ := strs_in hv
  have HAt := hid hat
  have hlI : (L.length : Int) ≤ 100 := by omega
  have hsI : (s.size : Int) ≤ 300 := by omega
  have HOf := hid (fun wx => HP.of wx s (by omega))
  have hof := ofL_lt s
  have HCn := hid (cnt_own L s)
  have HCo := hid (cnt_other L s)
  obtain ⟨f, hf⟩ : ∃ f, ofL s = f := ⟨_, rfl⟩
  rw [hf] at HOf HCn HCo hof
  clear hat hv HP hf
  obtain ⟨ln, hn⟩ : ∃ n, L.length = n := ⟨_, rfl⟩
  rw [hn] at hl hlI HV
  rw [hn]
  have HN := hid hn
  clear hn
  go_enter Try.func5, Try.ntmps5
  go_upto_region 5 with (go_at_call 8; (with_reducible refine HS.out.mono ?_); rintro e w1 ⟨rfl, hb1⟩)
  clear HS
  go_loopw [6] (SzRel L w) (fun i _ => ln - (intOf i).toNat)
  case atStart => exact ⟨0, Nat.zero_le _, rfl, hb1, hid (fun s hs => by simp at hs)⟩
  case round =>
    clear hb1
    obtain ⟨k, hk, rfl, hbw, hq⟩ := hrel
    by_cases hkn : k < ln
    · have hkI : (k : Int) < (ln : Int) := by omega
      obtain ⟨x, hx⟩ : ∃ x, L[k]? = some x := ⟨_, List.getElem?_eq_getElem (by rw [HN.out]; exact hkn)⟩
      obtain ⟨sb, so, rfl, c0⟩ := HAt.out _ hbw k x hx
      have HKn : Hid (k + 1 ≤ L.length) := hid (by rw [HN.out]; exact hkn)
      by_cases hs : x.size ≤ 300
      · have hsI : (x.size : Int) ≤ 300 := by omega
        have HQ := hid (sz_more hx hq.out hs)
        clear hx hs hk
        go_wp2
        go_roundw
        case rel => exact ⟨k + 1, HKn.out, by go_num, hbw, HQ⟩
        case measure => simp [intOf]; omega
      · have hsI : (300 : Int) < (x.size : Int) := by omega
        clear hx hs hk
        go_wp2
        go_ret
        exact ⟨rfl, hbw⟩
    · have hkI : (ln : Int) ≤ (k : Int) := by omega
      have hqq := hq.out
      rw [List.take_of_length_le (by have := HN.out; omega)] at hqq
      have HBr := hid hbw
      have hV1 := HV.out.below hbw
      have HV1 := hid hV1
      have K1 := hid (HPh.out.parts hV1 (by have := HN.out; omega) (fun s hs => by have := hqq s hs; omega))
      clear hqq hbw hV1 hq hk
      go_upto_region 10 with (go_at_call 15; (with_reducible refine K1.out.mono ?_); rintro e w2 ⟨pa, pc, rfl, hp, hb2⟩)
      clear K1
      have HPt := hid hp
      have HV2 := hid (HV1.out.below hb2)
      have HB2 := hid (HBr.out.trans (hb2.mono HBr.out.size))
      have hbs : Below w2.heap.size w2 w2 := Below.refl _ _
      clear hp hb2 HV1 HBr
      go_wp2
      go_loopw [8, 9] (AllRel L w2) (fun _ i _ => 8 - (intOf i).toNat)
      case atStart => exact ⟨0, 0, by omega, by omega, rfl, rfl, hbs, hid rfl⟩
      case round =>
        clear hbs
        obtain ⟨i, c, hi, hc, rfl, rfl, hbw, hq⟩ := hrel
        by_cases hi8 : i < 8
        · have hiI : (i : Int) < 8 := by omega
          obtain ⟨sb, so, qa, qc, rfl, hcell⟩ := parts_in HPt.out i hi8
          have HC := hid hcell
          obtain ⟨c0, -⟩ := hcell wr hbw
          have hpl := part_len L (i : Int)
          rw [HN.out] at hpl
          have HSum : Hid (c + (partL L (i : Int)).length = sumL L (i + 1)) := hid (by rw [hq.out]; rfl)
          have C1 := hid (HOf.out wr)
          have HCo2 : Hid ((f : Int) ≠ (i : Int) → cntL (partL L (i : Int)) s = 0) := hid (HCo.out (i : Int))
          obtain ⟨M, hM⟩ : ∃ M, partL L (i : Int) = M := ⟨_, rfl⟩
          rw [hM] at HC c0 hpl HSum HCo2
          have hcm : c + M.length ≤ 100 * (i + 1) := by omega
          have hci : c + M.length ≤ 900 := by omega
          clear hcell hM
          by_cases hfi : i = f
          · subst hfi
            have q1 : ((i : Int) != (i : Int)) = false := bne_self_eq_false _
            clear HCo2
            go_wp2_with (go_at_call 13; (with_reducible refine C1.out.mono ?_); rintro e w3 ⟨rfl, h⟩; have hbw := hbw.trans (h.mono hbw.size); clear h)
            go_roundw
            case rel => exact ⟨i + 1, c + M.length, by omega, hcm, by go_num, by go_num, hbw, HSum⟩
            case measure => simp [intOf]; omega
          · have q1 : ((i : Int) != (f : Int)) = true := by
              have : ((i : Int) == (f : Int)) = false := beq_false_of_ne (by omega)
              simp [bne, this]
            have hz := HCo2.out (by omega)
            have C2 : Hid (∀ wx, Below w2.heap.size w2 wx → Calls Try.prog 19 #[.slice qa M.length qc, .string s] wx fun e w' => e = .returned (.int .i64 0) ∧ w' = wx) := hid (fun wx hb => by
              have := count_any s (HC.out wx hb).2.out (by omega)
              rw [hz] at this
              exact this)
            have HCC : Hid (∀ wx, Below w2.heap.size w2 wx → wx.cell? ⟨sb, so + i, none⟩ = some (.slice qa M.length qc)) := hid (fun wx hb => (HC.out wx hb).1)
            clear HCo2 hz hfi
            go_wp2_with (first
              | (go_at_call 13; (with_reducible refine C1.out.mono ?_); rintro e w3 ⟨rfl, h⟩; have hbw := hbw.trans (h.mono hbw.size); have c1 := HCC.out _ hbw; clear h)
              | (go_at_call 19; (with_reducible refine (C2.out _ hbw).mono ?_); rintro e w4 ⟨rfl, rfl⟩))
            go_roundw
            case rel => exact ⟨i + 1, c + M.length, by omega, hcm, by go_num, by go_num, hbw, HSum⟩
            case measure => simp [intOf]; omega
        · have hi0 : i = 8 := by omega
          subst hi0
          have hall := hq.out
          rw [sumL_all, HN.out] at hall
          subst hall
          obtain ⟨sb, so, qa, qc, rfl, hcell⟩ := parts_in HPt.out f hof
          have HC := hid hcell
          have C1 := hid (HOf.out wr)
          have hpl := part_len L (f : Int)
          rw [HN.out] at hpl
          have C2 : Hid (∀ wx, Below w2.heap.size w2 wx → Calls Try.prog 19 #[.slice qa (partL L (f : Int)).length qc, .string s] wx fun e w' => e = .returned (.int .i64 (cntL L s : Nat)) ∧ w' = wx) := hid (fun wx hb => by
            have := count_any s (HC.out wx hb).2.out (by omega)
            rw [HCn.out] at this
            exact this)
          have C3 : Hid (∀ wx, Below w2.heap.size w2 wx → Calls Try.prog 19 #[.slice ao c cap, .string s] wx fun e w' => e = .returned (.int .i64 (cntL L s : Nat)) ∧ w' = wx) := hid (fun wx hb => count_any s (HV2.out.below hb) (by have := HN.out; omega))
          have HCC : Hid (∀ wx, Below w2.heap.size w2 wx → wx.cell? ⟨sb, so + f, none⟩ = some (.slice qa (partL L (f : Int)).length qc)) := hid (fun wx hb => (HC.out wx hb).1)
          have hfI : (f : Int) < 8 := by omega
          have q1 : ((c : Int) == (c : Int)) = true := beq_self_eq_true _
          obtain ⟨M, hM⟩ : ∃ M, partL L (f : Int) = M := ⟨_, rfl⟩
          rw [hM] at C2 HCC hpl
          obtain ⟨cn, hcn⟩ : ∃ q, ((cntL L s : Nat) : Int) = q := ⟨_, rfl⟩
          rw [hcn] at C2 C3
          have q2 : (cn == cn) = true := beq_self_eq_true _
          clear hcell hM HC HCn HCo hq hcn
          go_wp2_with (first
            | (go_at_call 13; (with_reducible refine C1.out.mono ?_); rintro e w3 ⟨rfl, h⟩; have hbw := hbw.trans (h.mono hbw.size); have c1 := HCC.out _ hbw; clear h)
            | (go_at_call 19; (with_reducible refine (C2.out _ hbw).mono ?_); rintro e w4 ⟨rfl, rfl⟩)
            | (go_at_call 19; (with_reducible refine (C3.out _ hbw).mono ?_); rintro e w4 ⟨rfl, rfl⟩))
          go_ret
          exact ⟨by first | rfl | simp, HB2.out.trans (hbw.mono HB2.out.size)⟩
set_option maxHeartbeats 4000000 in
theorem shardAll_walk (HP : ShProg) {w : World} {v : Value} {L : List ByteArray} (s : ByteArray) (hv : RAt strTy w v L) : Calls Try.prog 5 #[v, .string s] w (ShownPost14 w) := by
  by_cases hs : L.length ≤ 100 ∧ s.size ≤ 300
  · exact shardAll_main HP s hv hs.1 hs.2
  have HS := hid (shown14 HP w)
  obtain ⟨ao, cap, rfl, -⟩ := strs_in hv
  clear HP hv
  by_cases h1 : L.length ≤ 100
  · have hlI : (L.length : Int) ≤ 100 := by omega
    have hsI : (300 : Int) < (s.size : Int) := by omega
    clear hs h1
    go_enter Try.func5, Try.ntmps5
    go_wp2_with (go_at_call 8; (with_reducible refine HS.out.mono ?_); rintro e w1 ⟨rfl, hb⟩)
    go_ret
    exact ⟨rfl, hb⟩
  · have hlI : (100 : Int) < (L.length : Int) := by omega
    clear hs h1
    go_enter Try.func5, Try.ntmps5
    go_wp2_with (go_at_call 8; (with_reducible refine HS.out.mono ?_); rintro e w1 ⟨rfl, hb⟩)
    go_ret
    exact ⟨rfl, hb⟩
end Go.Proofs.Ytnbghghkahaenaa
