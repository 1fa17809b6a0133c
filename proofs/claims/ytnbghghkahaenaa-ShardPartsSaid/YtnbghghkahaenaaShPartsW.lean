/-
  LAYER 14 (shard), the laws ShardParts and ShardAll: their walks.
-/
import Derived.Test.YtnbghghkahaenaaShProg
import Derived.Deep.RegionHeld3
import Derived.Deep.DeepCutAuto
namespace Go.Proofs.Ytnbghghkahaenaa
open Go.RowKit
set_option linter.unusedVariables false
set_option maxRecDepth 100000

/-- The i-th part, as the walks read it. -/
theorem parts_in {w : World} {a : Option Addr} {c : Nat} {L : List ByteArray} (h : PartsAt w (.slice a 8 c) L) (i : Nat) (hi : i < 8) : ∃ sb so pa pc, a = some ⟨sb, so, none⟩ ∧ ∀ wx, Below w.heap.size w wx → wx.cell? ⟨sb, so + i, none⟩ = some (.slice pa (partL L (i : Int)).length pc) ∧ Hid (RAt strTy wx (.slice pa (partL L (i : Int)).length pc) (partL L (i : Int))) := by
  obtain ⟨R, h1, h2, h3⟩ := h
  obtain ⟨a', cap', e, _, _, hc⟩ := h2.at sTy_ok
  simp only [Value.slice.injEq] at e
  obtain ⟨rfl, -, rfl⟩ := e
  obtain ⟨r, hr⟩ : ∃ r, R[i]? = some r := ⟨_, List.getElem?_eq_getElem (by omega)⟩
  obtain ⟨sb, so, e, hlt, hcs⟩ := hc i r hr
  obtain ⟨h4, h5⟩ := h3 i r hr
  have h6 := hcs 0 _ rfl
  rw [show sTy.n = 1 from rfl, Nat.mul_one, Nat.add_zero] at h6
  refine ⟨sb, so, r.a, r.c, e, fun wx hb => ⟨?_, hid ?_⟩⟩
  · rw [← h4]
    exact (hb.cell (p := ⟨sb, so + i, none⟩) hlt).trans h6
  · rw [← h4]
    exact h5.below hb
theorem parts_len {w : World} {a : Option Addr} {c n : Nat} {L : List ByteArray} (h : PartsAt w (.slice a n c) L) : n = 8 := by
  obtain ⟨R, h1, h2, h3⟩ := h
  obtain ⟨a', cap', e, _⟩ := h2
  simp only [Value.slice.injEq] at e
  omega
def SzRel (L : List ByteArray) (w : World) (v : Value) (wr : World) : Prop := ∃ k : Nat, k ≤ L.length ∧ v = .int .i64 (k : Int) ∧ Below w.heap.size w wr ∧ Hid (∀ s ∈ L.take k, s.size ≤ 300)
def PtRel (w : World) (v : Value) (wr : World) : Prop := ∃ i : Nat, i ≤ 8 ∧ v = .int .i64 (i : Int) ∧ Below w.heap.size w wr
theorem sz_more {L : List ByteArray} {k : Nat} {x : ByteArray} (hx : L[k]? = some x) (h : ∀ s ∈ L.take k, s.size ≤ 300) (hs : x.size ≤ 300) : ∀ s ∈ L.take (k + 1), s.size ≤ 300 := fun s hm => by
  rw [List.take_add_one, hx, Option.toList] at hm
  rcases List.mem_append.1 hm with e | e
  · exact h s e
  · rw [List.mem_singleton] at e; rw [e]; exact hs
set_option maxHeartbeats 8000000 in
theorem shardParts_main (HP : ShProg) {w : World} {v : Value} {L : List ByteArray} (n : Int) (hv : RAt strTy w v L) (hl : L.length ≤ 100) : Calls Try.prog 4 #[v, .int .i64 n] w (ShownPost14 w) := by
  have HS := hid (shown14 HP w)
  have HPh := hid HP
  have HV := hid hv
  obtain ⟨ao, cap, rfl, hat⟩ := strs_in hv
  have HAt := hid hat
  have hlI : (L.length : Int) ≤ 100 := by omega
  clear hat hv HP
  obtain ⟨ln, hn⟩ : ∃ n, L.length = n := ⟨_, rfl⟩
  rw [hn] at hl hlI HV
  rw [hn]
  have HN := hid hn
  clear hn
  go_enter Try.func4, Try.ntmps4
  go_upto_region 5 with (go_at_call 8; (with_reducible refine HS.out.mono ?_); rintro e w1 ⟨rfl, hb1⟩)
  clear HS
  go_loopw [6] (SzRel L w) (fun i _ => ln - (intOf i).toNat)
  case atStart => exact ⟨0, Nat.zero_le _, rfl, hb1, hid (fun s hs => by simp at hs)⟩
  case round =>
    clear hb1
    obtain ⟨k, hk, rfl, hbw, hq⟩ := hrel
    by_cases hkn : k < ln
    · have hkI : (k : Int) < (ln : Int) := by omega
      obtain ⟨x, hx⟩ : ∃ x, L[k]? = some x := ⟨_, List.getElem?_eq_getElem (by rw [HN.out]; exact hkn)⟩
      obtain ⟨sb, so, rfl, c0⟩ := HAt.out _ hbw k x hx
      have HKn : Hid (k + 1 ≤ L.length) := hid (by rw [HN.out]; exact hkn)
      by_cases hs : x.size ≤ 300
      · have hsI : (x.size : Int) ≤ 300 := by omega
        have HQ := hid (sz_more hx hq.out hs)
        clear hx hs hk
        go_wp2
        go_roundw
        case rel => exact ⟨k + 1, HKn.out, by go_num, hbw, HQ⟩
        case measure => simp [intOf]; omega
      · have hsI : (300 : Int) < (x.size : Int) := by omega
        clear hx hs hk
        go_wp2
        go_ret
        exact ⟨rfl, hbw⟩
    · have hkI : (ln : Int) ≤ (k : Int) := by omega
      have hqq := hq.out
      rw [List.take_of_length_le (by have := HN.out; omega)] at hqq
      have HSz := hid hqq
      have HBr := hid hbw
      have hV1 := HV.out.below hbw
      have HV1 := hid hV1
      have K1 := hid (HPh.out.parts hV1 (by have := HN.out; omega) (fun s hs => by have := hqq s hs; omega))
      clear hqq hbw hV1 hq hk
      go_upto_region 10 with (go_at_call 15; (with_reducible refine K1.out.mono ?_); rintro e w2 ⟨pa, pc, rfl, hp, hb2⟩)
      clear K1
      have HPt := hid hp
      have hV2 := HV1.out.below hb2
      have HV2 := hid hV2
      have HB2 := hid (HBr.out.trans (hb2.mono HBr.out.size))
      have K2 := hid (HPh.out.part n hV2 (by have := HN.out; omega) (fun s hs => by have := HSz.out s hs; omega))
      have K3 : Hid (∀ wx u M, RAt strTy wx u M → Below w2.heap.size w2 wx → Calls Try.prog 18 #[.slice ao ln cap, .int .i64 n] wx fun e w' => ∃ a c, e = .returned (.slice a (partL L n).length c) ∧ Hid (RAt strTy w' (.slice a (partL L n).length c) (partL L n) ∧ RAt strTy w' u M) ∧ Below w2.heap.size w2 w') := hid (fun wx u M hu hb => (refPart_any n (HV2.out.below hb) (by have := HN.out; omega) (fun s hs => by have := HSz.out s hs; omega)).mono fun e w' ⟨a, c, he, h1, h2⟩ => ⟨a, c, he, hid ⟨h1, hu.below h2⟩, hb.trans (h2.mono hb.size)⟩)
      have hpl := part_len L n
      have HPl := hid hpl
      clear hp hV2 hb2 HV1 HBr hpl
      go_upto_region 12 with (first
        | (go_at_call 17; (with_reducible refine K2.out.mono ?_); rintro e w3 ⟨a3, c3, rfl, h3, hb3⟩)
        | (go_at_call 18; (with_reducible refine (K3.out _ _ _ h3 hb3).mono ?_); rintro e w4 ⟨a4, c4, rfl, h4, hb4⟩; have C1 := hid (same14 h4.out.2 h4.out.1 (by have := HPl.out; have := HN.out; omega)))
        | (go_at_call 16; (with_reducible refine C1.out.mono ?_); rintro e w5 ⟨rfl, hb5⟩))
      have hb6 := hb4.trans (hb5.mono hb4.size)
      clear K2 K3 h3 h4 hb3 hb4 hb5 C1
      go_wp2
      go_loopw [8] (PtRel w2) (fun i _ => 8 - (intOf i).toNat)
      case atStart => exact ⟨0, by omega, rfl, hb6⟩
      case round =>
        clear hb6
        obtain ⟨i, hi, rfl, hbw⟩ := hrel
        by_cases hi8 : i < 8
        · have hiI : (i : Int) < 8 := by omega
          obtain ⟨sb, so, qa, qc, rfl, hcell⟩ := parts_in HPt.out i hi8
          have HC := hid hcell
          obtain ⟨c0, -⟩ := hcell wr hbw
          have K3 : Hid (∀ wx, Below w2.heap.size w2 wx → Calls Try.prog 18 #[.slice ao ln cap, .int .i64 (i : Int)] wx fun e w' => ∃ a c, e = .returned (.slice a (partL L (i : Int)).length c) ∧ Hid (RAt strTy w' (.slice a (partL L (i : Int)).length c) (partL L (i : Int))) ∧ Below w2.heap.size w2 w') := hid (fun wx hb => (refPart_any (i : Int) (HV2.out.below hb) (by have := HN.out; omega) (fun s hs => by have := HSz.out s hs; omega)).mono fun e w' ⟨a, c, he, h1, h2⟩ => ⟨a, c, he, hid h1, hb.trans (h2.mono hb.size)⟩)
          have HPl := hid (part_len L (i : Int))
          obtain ⟨M, hM⟩ : ∃ M, partL L (i : Int) = M := ⟨_, rfl⟩
          rw [hM] at HC K3 HPl c0
          have hbd : Below w2.heap.size w2 wr.drew := hbw.drew
          have hS : ∀ wx, Below w2.heap.size w2 wx → wx.cell? ⟨sb, so + i, none⟩ = some (.slice qa M.length qc) := fun wx hb => (HC.out wx hb).1
          have HSS := hid hS
          clear hcell hM hS
          have hb := hbd
          go_upto_region 15 with (fail)
          go_region_held3 (fun wx => wx.cell? ⟨sb, so + i, none⟩ = some (.slice qa M.length qc))
            (first | (with_reducible exact HSS.out _ hbd) | (with_reducible exact HSS.out _ hb) | (with_reducible assumption))
            (first
              | (go_at_call 18; (with_reducible refine (K3.out _ hb).mono ?_); rintro e w7 ⟨a7, c7, rfl, h7, hb⟩; have C1 := hid (same14 (HC.out _ hb).2.out h7.out (by have := HPl.out; have := HN.out; omega)))
              | (go_at_call 16; (with_reducible refine C1.out.mono ?_); rintro e w8 ⟨rfl, hb8⟩; have hb := hb.trans (hb8.mono hb.size)))
          all_goals
            go_wp2
            go_roundw
            case rel => exact ⟨i + 1, by omega, by go_num, hb⟩
            case measure => simp [intOf]; omega
        · have hi0 : i = 8 := by omega
          subst hi0
          have HBw := hid (HB2.out.trans (hbw.mono HB2.out.size))
          clear hbw
          go_wp2
          go_ret
          exact ⟨rfl, HBw.out⟩
set_option maxHeartbeats 4000000 in
theorem shardParts_walk (HP : ShProg) {w : World} {v : Value} {L : List ByteArray} (n : Int) (hv : RAt strTy w v L) : Calls Try.prog 4 #[v, .int .i64 n] w (ShownPost14 w) := by
  by_cases hs : L.length ≤ 100
  · exact shardParts_main HP n hv hs
  have HS := hid (shown14 HP w)
  obtain ⟨ao, cap, rfl, -⟩ := strs_in hv
  have hlI : (100 : Int) < (L.length : Int) := by omega
  clear HP hv hs
  go_enter Try.func4, Try.ntmps4
  go_wp2_with (go_at_call 8; (with_reducible refine HS.out.mono ?_); rintro e w1 ⟨rfl, hb⟩)
  go_ret
  exact ⟨rfl, hb⟩
theorem cnt_more {L : List ByteArray} {k : Nat} {x : ByteArray} (s : ByteArray) (hk : L[k]? = some x) : cntL (L.take (k + 1)) s = cntL (L.take k) s + (if decide (x = s) = true then 1 else 0) := by
  unfold cntL
  rw [List.take_add_one, hk, Option.toList, List.countP_append, List.countP_singleton]
def CtRel (L : List ByteArray) (s : ByteArray) (w : World) (u v : Value) (wr : World) : Prop := ∃ (k c : Nat), k ≤ L.length ∧ c ≤ k ∧ u = .int .i64 (c : Int) ∧ v = .int .i64 (k : Int) ∧ wr = w ∧ Hid (c = cntL (L.take k) s)
set_option maxHeartbeats 4000000 in
theorem count_any {w : World} {v : Value} {L : List ByteArray} (s : ByteArray) (hv : RAt strTy w v L) (hl : L.length ≤ 100000) : Calls Try.prog 19 #[v, .string s] w fun e w' => e = .returned (.int .i64 (cntL L s : Nat)) ∧ w' = w := by
  obtain ⟨ao, cap, rfl, hat⟩ := strs_in hv
  have HAt := hid (hat w (Below.refl _ _))
  obtain ⟨r, hr⟩ : ∃ r, cntL L s = r := ⟨_, rfl⟩
  rw [hr]
  have HR := hid hr
  clear hat hv hr
  obtain ⟨ln, hn⟩ : ∃ n, L.length = n := ⟨_, rfl⟩
  rw [hn] at hl
  rw [hn]
  have HN := hid hn
  clear hn
  go_enter Try.func19, Try.ntmps19
  go_wp2
  go_loopw [5, 6] (CtRel L s w) (fun _ i _ => ln - (intOf i).toNat)
  case atStart => exact ⟨0, 0, Nat.zero_le _, Nat.le_refl _, rfl, rfl, rfl, hid (by simp [cntL])⟩
  case round =>
    obtain ⟨k, c, hk, hck, rfl, rfl, rfl, hq⟩ := hrel
    by_cases hkn : k < ln
    · have hkI : (k : Int) < (ln : Int) := by omega
      obtain ⟨x, hx⟩ : ∃ x, L[k]? = some x := ⟨_, List.getElem?_eq_getElem (by rw [HN.out]; exact hkn)⟩
      obtain ⟨sb, so, rfl, c0⟩ := HAt.out k x hx
      have HKn : Hid (k + 1 ≤ L.length) := hid (by rw [HN.out]; exact hkn)
      have hcm := cnt_more s hx
      rw [← hq.out] at hcm
      clear hx hk
      by_cases hxs : x = s
      · rw [decide_eq_true hxs, if_pos rfl] at hcm
        have HC : Hid (c + 1 = cntL (L.take (k + 1)) s) := hid hcm.symm
        have q1 : (x == s) = true := by rw [hxs]; first | rfl | simp | (show (s.data == s.data) = true; simp)
        have q2 : (x.toList == s.toList) = true := by rw [hxs]; exact beq_self_eq_true _
        clear hcm hxs
        go_wp2
        go_roundw
        case rel => exact ⟨k + 1, c + 1, HKn.out, by omega, by go_num, by go_num, rfl, HC⟩
        case measure => simp [intOf]; omega
      · rw [decide_eq_false hxs, if_neg (by simp)] at hcm
        have HC : Hid (c = cntL (L.take (k + 1)) s) := hid hcm.symm
        have q2 : (x.toList == s.toList) = false := beq_false_of_ne (fun e => hxs (by
          rw [Lib.toList_data, Lib.toList_data] at e
          cases x; cases s
          exact congrArg ByteArray.mk (Array.toList_inj.1 e)))
        clear hcm hxs
        go_wp2
        go_roundw
        case rel => exact ⟨k + 1, c, HKn.out, by omega, by go_num, by go_num, rfl, HC⟩
        case measure => simp [intOf]; omega
    · have hkI : (ln : Int) ≤ (k : Int) := by omega
      have hqq := hq.out
      rw [List.take_of_length_le (by have := HN.out; omega), HR.out] at hqq
      subst hqq
      clear hk
      go_wp2
      go_ret
      exact ⟨rfl, rfl⟩
end Go.Proofs.Ytnbghghkahaenaa
