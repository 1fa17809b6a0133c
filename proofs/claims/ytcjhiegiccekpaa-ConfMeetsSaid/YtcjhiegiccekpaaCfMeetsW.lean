/-
  LAYER 9 (conf), the law ConfMeets: meet, and its walk.
-/
import Derived.Test.YtcjhiegiccekpaaCfStepsW
namespace Go.Proofs.Ytcjhiegiccekpaa
open Go.RowKit
set_option linter.unusedVariables false
set_option maxRecDepth 100000

def MeRel (w : World) (l a b : List Int) (u : Value) (wr : World) : Prop := ∃ k : Nat, k ≤ l.length ∧ u = .int .i64 (k : Int) ∧ Below w.heap.size w wr ∧ Hid (meetC (l.take k) a b = false)
theorem meet_more {l a b : List Int} {k : Nat} (hk : k < l.length) : meetC (l.take (k + 1)) a b = (meetC (l.take k) a b || (hasC a (l.getD k 0) && hasC b (l.getD k 0))) := by
  unfold meetC
  rw [take_more hk, List.any_append]
  simp
theorem meet_at {l a b : List Int} {k : Nat} (hk : k < l.length) (h1 : hasC a (l.getD k 0) = true) (h2 : hasC b (l.getD k 0) = true) : meetC l a b = true := meetC_true.2 ⟨_, getD_mem hk, h1, h2⟩
set_option maxHeartbeats 8000000 in
theorem meet_any (HP : CfProg) {w : World} {vl va vb : Value} {l a b : List Int} (hl : NumIn w vl l) (ha : NumIn w va a) (hb : NumIn w vb b) : Calls Try.prog 26 #[vl, va, vb] w (KB w (meetC l a b)) := by
  have HA := hid (fun x hx => k_has HP ha x hx)
  have HBb := hid (fun x hx => k_has HP hb x hx)
  have HNum := hid hl.num
  have hln := hl.len
  obtain ⟨ao, cap, rfl, hat⟩ := nums_in hl.row
  obtain ⟨bo, cap2, rfl, -⟩ := nums_in ha.row
  obtain ⟨co, cap3, rfl, -⟩ := nums_in hb.row
  have HAt := hid hat
  obtain ⟨r, hr⟩ : ∃ r, meetC l a b = r := ⟨_, rfl⟩
  rw [hr]
  have HR := hid hr
  clear hat hl ha hb hr HP
  obtain ⟨n, hn⟩ : ∃ n, l.length = n := ⟨_, rfl⟩
  rw [hn] at HAt hln
  rw [hn]
  have HN := hid hn
  clear hn
  go_enter Try.func26, Try.ntmps26
  go_wp2
  go_loopw [7] (MeRel w l a b) (fun i _ => n - (intOf i).toNat)
  case atStart => exact ⟨0, Nat.zero_le _, rfl, Below.refl _ _, hid (by simp [meetC])⟩
  case round =>
    obtain ⟨k, hk, rfl, hbw, hq⟩ := hrel
    by_cases hkn : k < n
    · have hkI : (k : Int) < (n : Int) := by omega
      obtain ⟨sb, so, rfl, c0⟩ := HAt.out _ hbw k hkn
      have hkl : k < l.length := by rw [HN.out]; exact hkn
      have hmm := meet_more (a := a) (b := b) hkl
      have hma := meet_at (a := a) (b := b) hkl
      rw [hq.out, Bool.false_or] at hmm
      have hx := HNum.out _ (getD_mem hkl)
      have C1 := hid (HA.out _ hx wr hbw)
      have C2 := hid (HBb.out _ hx)
      have HC0 : Hid (∀ wx, Below w.heap.size w wx → wx.cell? ⟨sb, so + k, none⟩ = some (.int .i64 (l.getD k 0))) := hid (fun wx hb => by
        obtain ⟨sb', so', e, c⟩ := HAt.out wx hb k hkn
        cases e
        exact c)
      have HKn : Hid (k + 1 ≤ l.length) := hid hkl
      generalize l.getD k 0 = x at *
      obtain ⟨t1, h1⟩ : ∃ t, hasC a x = t := ⟨_, rfl⟩
      obtain ⟨t2, h2⟩ : ∃ t, hasC b x = t := ⟨_, rfl⟩
      rw [h1] at C1 hmm hma
      rw [h2] at C2 hmm hma
      clear h1 h2 hx hk hkl
      cases t1 with
      | true =>
        cases t2 with
        | true =>
          obtain rfl : r = true := HR.out.symm.trans (hma rfl rfl)
          clear hmm hma
          go_wp2_with (first
            | (go_at_call 15; (with_reducible refine C1.out.mono ?_); rintro e w1 ⟨rfl, hb1⟩; have c1 := HC0.out _ hb1)
            | (go_at_call 15; (with_reducible refine (C2.out _ hb1).mono ?_); rintro e w2 ⟨rfl, hb2⟩))
          go_ret
          exact ⟨rfl, hb2⟩
        | false =>
          have HF : Hid (meetC (l.take (k + 1)) a b = false) := hid hmm
          clear hmm hma
          go_wp2_with (first
            | (go_at_call 15; (with_reducible refine C1.out.mono ?_); rintro e w1 ⟨rfl, hb1⟩; have c1 := HC0.out _ hb1)
            | (go_at_call 15; (with_reducible refine (C2.out _ hb1).mono ?_); rintro e w2 ⟨rfl, hb2⟩))
          go_roundw
          case rel => exact ⟨k + 1, HKn.out, by go_num, hb2, HF⟩
          case measure => simp [intOf]; omega
      | false =>
        have HF : Hid (meetC (l.take (k + 1)) a b = false) := hid hmm
        clear hmm hma
        go_wp2_with (first
          | (go_at_call 15; (with_reducible refine C1.out.mono ?_); rintro e w1 ⟨rfl, hb1⟩; have c1 := HC0.out _ hb1)
          | (go_at_call 15; (with_reducible refine (C2.out _ hb1).mono ?_); rintro e w2 ⟨rfl, hb2⟩))
        go_roundw
        case rel => exact ⟨k + 1, HKn.out, by go_num, hb2, HF⟩
        case measure => simp [intOf]; omega
    · have hkI : (n : Int) ≤ (k : Int) := by omega
      have hqq := hq.out
      rw [List.take_of_length_le (by have := HN.out; omega)] at hqq
      obtain rfl : r = false := HR.out.symm.trans hqq
      clear hqq hk
      go_wp2
      go_ret
      exact ⟨rfl, hbw⟩
theorem k_meet (HP : CfProg) {W : World} {vl va vb : Value} {l a b : List Int} (hl : NumIn W vl l) (ha : NumIn W va a) (hb : NumIn W vb b) : ∀ wx, Below W.heap.size W wx → Calls Try.prog 26 #[vl, va, vb] wx (KB W (meetC l a b)) := fun wx h => (meet_any HP (hl.below h) (ha.below h) (hb.below h)).mono fun e w' ⟨he, k⟩ => ⟨he, h.trans (k.mono h.size)⟩
set_option maxHeartbeats 16000000 in
theorem confMeets_main (HP : CfProg) {w : World} {v va vb : Value} {l a b : List Int} (x : Int) (hx : I64c x) (hv : NumIn w v l) (ha : NumIn w va a) (hbb : NumIn w vb b) (hl : l.length ≤ 20) (hla : a.length ≤ 60) (hlb : b.length ≤ 60) : Calls Try.prog 5 #[v, va, vb, .int .i64 x] w (ShownPost9 w) := by
  have HS := hid (shown_any9 HP w)
  have K3 := hid (k_with HP hv x hx)
  have K4 := hid (k_has2 HP hv x hx)
  have K5 := hid (k_without HP hv x hx)
  have HX := hid hx
  have HV := hid hv
  have HA := hid ha
  have HB := hid hbb
  have HL := hid hl
  obtain ⟨ao, cap, rfl, -⟩ := nums_in hv.row
  obtain ⟨bo, cap2, rfl, -⟩ := nums_in ha.row
  obtain ⟨co, cap3, rfl, -⟩ := nums_in hbb.row
  have hlI : (l.length : Int) ≤ 20 := by omega
  have haI : (a.length : Int) ≤ 60 := by omega
  have hbI : (b.length : Int) ≤ 60 := by omega
  have HPh := hid HP
  obtain ⟨t, ht⟩ : ∃ t, hasC l x = t := ⟨_, rfl⟩
  have HTn : Hid (turnC l x = if t = true then withoutC l x else withC l x) := hid (by unfold turnC; rw [ht])
  rw [ht] at K4
  obtain ⟨M, hM⟩ : ∃ M, turnC l x = M := ⟨_, rfl⟩
  rw [hM] at HTn
  have HM := hid hM
  have hb : Below w.heap.size w w := Below.refl _ _
  clear HP hx hv ha hbb hl hla hlb ht hM
  go_enter Try.func5, Try.ntmps5
  go_upto_if 39 with (first
    | (go_at_call 10; (with_reducible refine HS.out.mono ?_); rintro e w1 ⟨rfl, hb⟩)
    | (go_at_call 18; (with_reducible refine (K3.out _ hb).mono ?_); rintro e w3 ⟨a3, _, c3, rfl, rfl, h3, hb⟩)
    | (go_at_call 15; (with_reducible refine (K4.out _ _ _ h3.out hb).mono ?_); rintro e w4 ⟨rfl, h4, hb⟩))
  go_cut [10] (fun u wx => ∃ a n c, u = .slice a n c ∧ n = M.length ∧ Hid (RAt numTy wx (.slice a n c) M) ∧ Below w.heap.size w wx)
  case first =>
    cases t with
    | true =>
      have h5 := HTn.out
      rw [if_pos rfl] at h5
      subst h5
      go_wp2_with (go_at_call 20; (with_reducible refine (K5.out _ hb).mono ?_); rintro e w5 ⟨a5, _, c5, rfl, rfl, h5, hb⟩)
      go_meet
      exact ⟨_, _, _, rfl, rfl, h5, hb⟩
    | false =>
      have h5 := HTn.out
      rw [if_neg (by simp)] at h5
      subst h5
      go_wp2
      go_meet
      exact ⟨_, _, _, rfl, rfl, h4, hb⟩
  case rest =>
  obtain ⟨ma, _, mc, rfl, rfl, hm, hbW⟩ := hcut
  clear hb h3 h4 K3 K4 K5 HS
  generalize wc = W at *
  have hMn := turn_in HV.out HX.out (by have := HL.out; omega) (by rw [HM.out]; exact hm.out)
  rw [HM.out] at hMn
  have hv1 := HV.out.below hbW
  have ha1 := HA.out.below hbW
  have hb1 := HB.out.below hbW
  have HBW := hid hbW
  have R1 := hid (k_right HPh.out hv1)
  have R2 := hid (k_right HPh.out hMn)
  have N1 := hid (k_next HPh.out hv1 hMn)
  have N2 := hid (k_next HPh.out hMn hv1)
  have M1 := hid (k_most HPh.out hv1 ha1)
  have M2 := hid (k_most HPh.out hv1 hb1)
  have M3 := hid (k_most HPh.out hMn hb1)
  have E1 := hid (k_meet HPh.out hv1 ha1 hb1)
  have E2 := hid (k_meet HPh.out hMn ha1 hb1)
  have hb : Below W.heap.size W W := Below.refl _ _
  clear hMn hv1 ha1 hb1 hbW hm HTn HV HA HB HPh HX HL
  by_cases hrr : rightC l = true ∧ rightC M = true
  · obtain ⟨r1, r2⟩ := hrr
    obtain ⟨hn1, hn2⟩ := turn_next x r1
    obtain ⟨o, -, -⟩ := turn_one x (right_inc r1)
    rw [HM.out] at hn1 hn2 o
    rw [r1] at R1
    rw [r2] at R2
    rw [hn1, r2] at N1
    rw [hn2, r2] at N2
    have h12 := most_meet (l := l) (a := a) (b := b)
    have h13 : mostC l a = true → mostC M b = true → meetC l a b = true ∨ meetC M a b = true := fun p q => by
      rcases o with o | o
      · exact one_meet o p q
      · exact one_meet' o p q
    obtain ⟨b1, e1⟩ : ∃ t, mostC l a = t := ⟨_, rfl⟩
    obtain ⟨b2, e2⟩ : ∃ t, mostC l b = t := ⟨_, rfl⟩
    obtain ⟨b3, e3⟩ : ∃ t, mostC M b = t := ⟨_, rfl⟩
    obtain ⟨b4, e4⟩ : ∃ t, meetC l a b = t := ⟨_, rfl⟩
    obtain ⟨b5, e5⟩ : ∃ t, meetC M a b = t := ⟨_, rfl⟩
    rw [e1] at M1 h12 h13
    rw [e2] at M2 h12
    rw [e3] at M3 h13
    rw [e4] at E1 h12 h13
    rw [e5] at E2 h13
    clear e1 e2 e3 e4 e5 o r1 r2 hn1 hn2 HM
    go_upto_region 15 with (first
      | (go_at_call 11; (with_reducible refine (R1.out _ hb).mono ?_); rintro e w2 ⟨rfl, hb⟩)
      | (go_at_call 11; (with_reducible refine (R2.out _ hb).mono ?_); rintro e w2 ⟨rfl, hb⟩)
      | (go_at_call 13; (with_reducible refine (N1.out _ hb).mono ?_); rintro e w3 ⟨rfl, hb⟩)
      | (go_at_call 13; (with_reducible refine (N2.out _ hb).mono ?_); rintro e w3 ⟨rfl, hb⟩)
      | (go_at_call 22; (with_reducible refine (M1.out _ hb).mono ?_); rintro e w3 ⟨rfl, hb⟩))
    have HZ := hid hb
    have hb := HZ.out
    clear R1 R2 N1 N2 M1
    have HEq : Hid (b1 = true → b2 = true → b4 = true) := hid h12
    have HEq2 : Hid (b1 = true → b3 = true → b4 = true ∨ b5 = true) := hid h13
    clear h12 h13
    cases b1 with
    | false =>
      go_wp2
      go_ret
      exact ⟨by first | rfl | simp, HBW.out.trans (hb.mono HBW.out.size)⟩
    | true =>
      cases b4 with
      | true =>
        cases b2 <;> cases b3
        all_goals
          go_wp2_with (first
            | (go_at_call 22; (with_reducible refine (M2.out _ hb).mono ?_); rintro e w3 ⟨rfl, hb⟩)
            | (go_at_call 22; (with_reducible refine (M3.out _ hb).mono ?_); rintro e w3 ⟨rfl, hb⟩)
            | (go_at_call 26; (with_reducible refine (E1.out _ hb).mono ?_); rintro e w3 ⟨rfl, hb⟩)
            | (go_at_call 26; (with_reducible refine (E2.out _ hb).mono ?_); rintro e w3 ⟨rfl, hb⟩))
          go_ret
          exact ⟨by first | rfl | simp, HBW.out.trans (hb.mono HBW.out.size)⟩
      | false =>
        obtain rfl : b2 = false := by cases b2 with | false => rfl | true => exact absurd (HEq.out rfl rfl) (by simp)
        cases b3 with
        | false =>
          go_wp2_with (first
            | (go_at_call 22; (with_reducible refine (M2.out _ hb).mono ?_); rintro e w3 ⟨rfl, hb⟩)
            | (go_at_call 22; (with_reducible refine (M3.out _ hb).mono ?_); rintro e w3 ⟨rfl, hb⟩)
            | (go_at_call 26; (with_reducible refine (E1.out _ hb).mono ?_); rintro e w3 ⟨rfl, hb⟩)
            | (go_at_call 26; (with_reducible refine (E2.out _ hb).mono ?_); rintro e w3 ⟨rfl, hb⟩))
          go_ret
          exact ⟨by first | rfl | simp, HBW.out.trans (hb.mono HBW.out.size)⟩
        | true =>
          obtain rfl : b5 = true := by
            rcases HEq2.out rfl rfl with e | e
            · cases e
            · exact e
          go_wp2_with (first
            | (go_at_call 22; (with_reducible refine (M2.out _ hb).mono ?_); rintro e w3 ⟨rfl, hb⟩)
            | (go_at_call 22; (with_reducible refine (M3.out _ hb).mono ?_); rintro e w3 ⟨rfl, hb⟩)
            | (go_at_call 26; (with_reducible refine (E1.out _ hb).mono ?_); rintro e w3 ⟨rfl, hb⟩)
            | (go_at_call 26; (with_reducible refine (E2.out _ hb).mono ?_); rintro e w3 ⟨rfl, hb⟩))
          go_ret
          exact ⟨by first | rfl | simp, HBW.out.trans (hb.mono HBW.out.size)⟩
  · obtain ⟨r1, e1⟩ : ∃ t, rightC l = t := ⟨_, rfl⟩
    obtain ⟨r2, e2⟩ : ∃ t, rightC M = t := ⟨_, rfl⟩
    rw [e1] at R1 hrr
    rw [e2] at R2 hrr
    clear e1 e2 N1 N2 M1 M2 M3 E1 E2 HM
    cases r1 with
    | false =>
      clear hrr
      go_wp2_with (first
        | (go_at_call 11; (with_reducible refine (R1.out _ hb).mono ?_); rintro e w2 ⟨rfl, hb⟩)
        | (go_at_call 11; (with_reducible refine (R2.out _ hb).mono ?_); rintro e w2 ⟨rfl, hb⟩))
      go_ret
      exact ⟨rfl, HBW.out.trans (hb.mono HBW.out.size)⟩
    | true =>
      cases r2 with
      | true => exact absurd ⟨rfl, rfl⟩ hrr
      | false =>
        clear hrr
        go_wp2_with (first
          | (go_at_call 11; (with_reducible refine (R1.out _ hb).mono ?_); rintro e w2 ⟨rfl, hb⟩)
          | (go_at_call 11; (with_reducible refine (R2.out _ hb).mono ?_); rintro e w2 ⟨rfl, hb⟩))
        go_ret
        exact ⟨rfl, HBW.out.trans (hb.mono HBW.out.size)⟩
set_option maxHeartbeats 4000000 in
theorem confMeets_walk (HP : CfProg) {w : World} {v va vb : Value} {l a b : List Int} (x : Int) (hx : I64c x) (hv : RAt numTy w v l) (hvn : ∀ n ∈ l, I64c n) (ha : RAt numTy w va a) (han : ∀ n ∈ a, I64c n) (hb : RAt numTy w vb b) (hbn : ∀ n ∈ b, I64c n) : Calls Try.prog 5 #[v, va, vb, .int .i64 x] w (ShownPost9 w) := by
  by_cases hs : l.length ≤ 20 ∧ a.length ≤ 60 ∧ b.length ≤ 60
  · exact confMeets_main HP x hx ⟨hv, by omega, hvn⟩ ⟨ha, by omega, han⟩ ⟨hb, by omega, hbn⟩ hs.1 hs.2.1 hs.2.2
  have HS := hid (shown_any9 HP w)
  obtain ⟨ao, cap, rfl, -⟩ := nums_in hv
  obtain ⟨bo, cap2, rfl, -⟩ := nums_in ha
  obtain ⟨co, cap3, rfl, -⟩ := nums_in hb
  clear HP hv ha hb hvn han hbn
  by_cases h1 : l.length ≤ 20
  · have hlI : (l.length : Int) ≤ 20 := by omega
    by_cases h2 : a.length ≤ 60
    · have hmI : (a.length : Int) ≤ 60 := by omega
      have hkI : (60 : Int) < (b.length : Int) := by omega
      clear hs h1 h2
      go_enter Try.func5, Try.ntmps5
      go_wp2_with (go_at_call 10; (with_reducible refine HS.out.mono ?_); rintro e w1 ⟨rfl, hb⟩)
      go_ret
      exact ⟨rfl, hb⟩
    · have hmI : (60 : Int) < (a.length : Int) := by omega
      clear hs h1 h2
      go_enter Try.func5, Try.ntmps5
      go_wp2_with (go_at_call 10; (with_reducible refine HS.out.mono ?_); rintro e w1 ⟨rfl, hb⟩)
      go_ret
      exact ⟨rfl, hb⟩
  · have hlI : (20 : Int) < (l.length : Int) := by omega
    clear hs h1
    go_enter Try.func5, Try.ntmps5
    go_wp2_with (go_at_call 10; (with_reducible refine HS.out.mono ?_); rintro e w1 ⟨rfl, hb⟩)
    go_ret
    exact ⟨rfl, hb⟩
end Go.Proofs.Ytcjhiegiccekpaa
