/-
  LAYER 8 (rlog), the law RlogNewer: its walk. (Written by wip/tools/gen8_laws.py.)
-/
import Derived.Test.YtiffdhihhggkhaaMq5
import Derived.Deep.RegionHeld3
import Derived.BigQuiet
import Derived.Deep.DeepCutAuto
import Derived.Deep.CutRange
namespace Go.Proofs.Ytiffdhihhggkhaa
open Go.RowKit
set_option linter.unusedVariables false
set_option maxRecDepth 100000

set_option maxHeartbeats 16000000 in
theorem rlogNewer_main {R : RlRep} (HP : RlProg R) (b c : Int) (v1 v3 : Value) (l m : List Pa) (w : World) (hbi : I64' b) (h1 : RAt pTy w v1 l) (hi1 : ∀ p ∈ l, PaIn w p) (hl1 : l.length ≤ maxLen) (hci : I64' c) (h3 : RAt pTy w v3 m) (hi3 : ∀ p ∈ m, PaIn w p) (hl3 : m.length ≤ maxLen) (hs1 : smallP l = true) (hs3 : smallP m = true) :
    Calls Try.prog 8 #[.int .i64 b, v1, .int .i64 c, v3] w (ShownPost w) := by
  have HS := hid (shown_any HP w)
  have HSm1 : Hid (∀ wx, Below w.heap.size w wx → Calls Try.prog 10 #[v1] wx fun e w' => e = .returned (.bool true) ∧ wx = w') := hid (fun wx h => by have := small_any wx v1 l (h1.below h) hl1; rw [hs1] at this; exact this)
  have HSm3 : Hid (∀ wx, Below w.heap.size w wx → Calls Try.prog 10 #[v3] wx fun e w' => e = .returned (.bool true) ∧ wx = w') := hid (fun wx h => by have := small_any wx v3 m (h3.below h) hl3; rw [hs3] at this; exact this)
  have HBs1 := hid (fun wx => base_any b 1 wx hbi ⟨by decide, by decide⟩)
  have HBs3 := hid (fun wx => base_any c 1 wx hci ⟨by decide, by decide⟩)
  have pb := pickZ_range b 30 (by omega)
  have pc := pickZ_range c 30 (by omega)
  have HE1 := hid (fun wx (h : Below w.heap.size w wx) => entries_at h1 hi1 hs1 (pickZ b 30 + 1) (by omega) wx h)
  have HE3 := hid (fun wx (h : Below w.heap.size w wx) => entries_at h3 hi3 hs3 (pickZ c 30 + 1) (by omega) wx h)
  have HN1 := hid (fun wx g ev hv he => new_at HP hi1 hs1 b 1 (wx := wx) g ev hv he)
  have HN3 := hid (fun wx g ev hv he => new_at HP hi3 hs3 c 1 (wx := wx) g ev hv he)
  have hb1 := logOf_b b 1 hi1 hs1
  have hb3 := logOf_b c 1 hi3 hs3
  have HB1 := hid hb1
  have HB3 := hid hb3
  obtain ⟨g1, hg1⟩ : ∃ g, logOf b 1 l = g := ⟨_, rfl⟩
  obtain ⟨g3, hg3⟩ : ∃ g, logOf c 1 m = g := ⟨_, rfl⟩
  rw [hg1] at HN1 HB1 hb1
  rw [hg3] at HN3 HB3 hb3
  have HLa : Hid (∀ (s : Rl) wx F r, Lg R w wx F r s → Calls Try.prog 24 #[.pointer (some ⟨r, 0, none⟩)] wx fun e w' => e = .returned (.int .i64 s.last) ∧ Below wx.heap.size wx w') := hid (fun s wx F r h => HP.last h.is h.b)
  have HTe : Hid (∀ (s : Rl) wx F r, Lg R w wx F r s → ∃ ok, Calls Try.prog 28 #[.pointer (some ⟨r, 0, none⟩), .int .i64 s.last] wx fun e w' => e = .returned (.tuple #[.int .i64 (lastT s), .bool ok]) ∧ Below wx.heap.size wx w') := hid (fun s wx F r h => ⟨_, HP.term s.last h.is h.b (last_i64 h.b)⟩)
  have HNr : Hid (∀ (s s' : Rl) wx F r, RlB s' → Lg R w wx F r s → Calls Try.prog 21 #[.pointer (some ⟨r, 0, none⟩), .int .i64 s'.last, .int .i64 (lastT s')] wx fun e w' => e = .returned (.bool (newerL s s'.last (lastT s'))) ∧ Below wx.heap.size wx w') := hid (fun s s' wx F r hb h => HP.newer s'.last (lastT s') h.is h.b (last_i64 hb) (lastT_i64 hb))
  have hn := newer_two g1 g3
  obtain ⟨o1, ho1⟩ : ∃ o, newerL g1 g3.last (lastT g3) = o := ⟨_, rfl⟩
  obtain ⟨o3, ho3⟩ : ∃ o, newerL g3 g1.last (lastT g1) = o := ⟨_, rfl⟩
  rw [ho1, ho3] at hn
  have HNr1 := hid (fun wx F r h => HNr.out g1 g3 wx F r hb3 h)
  have HNr3 := hid (fun wx F r h => HNr.out g3 g1 wx F r hb1 h)
  rw [ho1] at HNr1
  rw [ho3] at HNr3
  have HLa1 := hid (HLa.out g1)
  have HLa3 := hid (HLa.out g3)
  have HTe1 := hid (HTe.out g1)
  have HTe3 := hid (HTe.out g3)
  generalize g1.last = la1 at *
  generalize g3.last = la3 at *
  generalize lastT g1 = t1 at *
  generalize lastT g3 = t3 at *
  have HN := hid hn
  clear HP HNr HLa HTe hbi hci h1 h3 hi1 hi3 hl1 hl3 hs1 hs3 hg1 hg3 hb1 hb3 pb pc ho1 ho3 hn
  go_enter Try.func8, Try.ntmps8
  go_upto_region 8 with (first
      | (go_at_call 9; (with_reducible refine HS.out.mono ?_); rintro e w1 ⟨rfl, hb1⟩)
      | (go_at_call 10; (with_reducible refine (HSm1.out _ hb1).mono ?_); rintro e w2 ⟨rfl, rfl⟩)
      | (go_at_call 10; (with_reducible refine (HSm3.out _ hb1).mono ?_); rintro e w2 ⟨rfl, rfl⟩)
      | (go_at_call 14; (with_reducible refine (HBs1.out _).mono ?_); rintro e w3 ⟨ga, rfl, hm⟩; have HX1 := hid (bx_of (b := b) (t := 1) hm); have hb3 := hb1.trans (hm.below.mono hb1.size); clear hm)
      | (go_at_call 14; (with_reducible refine (HBs3.out _).mono ?_); rintro e w4 ⟨gc, rfl, hm⟩; have HX2 := hid (bx_of (b := c) (t := 1) hm); have HX3 := hid (HX1.out.below (hm.below.trans ((Below.refl _ _).alloc hm.below.size (.cells #[.int .i64 (pickZ c 30), .int .i64 (pickZ 1 9), .slice (some ⟨gc, 0, none⟩) 3 3, .string bB] 33)))); have HB4 := hid (((hb3.alloc hb3.size (.cells #[.int .i64 (pickZ b 30), .int .i64 (pickZ 1 9), .slice (some ⟨ga, 0, none⟩) 3 3, .string bB] 33)).trans (hm.below.mono (hb3.alloc hb3.size _).size)).alloc ((hb3.alloc hb3.size (.cells #[.int .i64 (pickZ b 30), .int .i64 (pickZ 1 9), .slice (some ⟨ga, 0, none⟩) 3 3, .string bB] 33)).trans (hm.below.mono (hb3.alloc hb3.size _).size)).size (.cells #[.int .i64 (pickZ c 30), .int .i64 (pickZ 1 9), .slice (some ⟨gc, 0, none⟩) 3 3, .string bB] 33)); clear hm))
  clear HX1 HBs1 HBs3 HSm1 HSm3 HS hb1 hb3
  generalize w4.alloc (.cells #[.int .i64 (pickZ c 30), .int .i64 (pickZ 1 9), .slice (some ⟨gc, 0, none⟩) 3 3, .string bB] 33) = wB at *
  generalize w3.heap.size = xa at *
  generalize w4.heap.size = xc at *
  go_cut [14] (fun u wx => ∃ r F, u = .pointer (some ⟨r, 0, none⟩) ∧ Hid (Lg R w wx F r g1 ∧ BxAt wx xc gc c 1))
  case first =>
    have HK := hid (fun wx (h : Below wB.heap.size wB wx) => bx_s (HX3.out.below h) h)
    have hbd : Below wB.heap.size wB wB.drew := (Below.refl _ _).drew
    have hwr := wrap_b b
    have HEc : Hid (∀ wx, Below wB.heap.size wB wx → _) := hid (fun wx h => HE1.out wx (HB4.out.trans (h.mono HB4.out.size)))
    go_region_held3 (fun wx => (wx.cell? ⟨xa, 0, none⟩ = some (.int .i64 (pickZ b 30)) ∧ wx.cell? ⟨xa, 1, none⟩ = some (.int .i64 (pickZ 1 9)) ∧ wx.cell? ⟨xa, 2, none⟩ = some (.slice (some ⟨ga, 0, none⟩) 3 3) ∧ wx.cell? ⟨xa, 3, none⟩ = some (.string bB) ∧ Below wB.heap.size wB wx))
      (first | (with_reducible exact HK.out _ hbd) | (with_reducible exact HK.out _ hbk) | (with_reducible assumption))
      (first
        | (go_at_call 11; (with_reducible refine (HEc.out _ (And.right (And.right (And.right (And.right (by assumption)))))).mono ?_); rintro e w5 ⟨ea, ec, rfl, hm⟩; have hbk : Below wB.heap.size wB w5 := Below.trans (And.right (And.right (And.right (And.right (by assumption))))) (hm.below.mono (Below.size (And.right (And.right (And.right (And.right (by assumption))))))); have HB5 := hid hbk; have HNc := hid (HN1.out w5 ga _ (HX3.out.below hbk).row hm.row.rAt); clear hm)
        | (go_at_call 13; (with_reducible refine HNc.out.mono ?_); rintro e w6 ⟨r, F, rfl, hi, hn, hbb⟩; have hbk : Below wB.heap.size wB w6 := HB5.out.trans (hbb.mono HB5.out.size); have HLG := hid (lg_made HB4.out HB5.out hi hn hbb HB1.out); have HBK := hid hbk; clear hi hn hbb))
    all_goals
      go_wp2
      go_meet
      exact ⟨r, F, rfl, hid ⟨HLG.out, HX2.out.below HBK.out⟩⟩
  case rest =>
  obtain ⟨r1, F1, rfl, hq⟩ := hcut
  generalize wc = wD at *
  have HL1 := hid hq.out.1
  have HX4 := hid hq.out.2
  have HBD := hid hq.out.1.below
  clear hq HX3 HX2 HB4 HE1 HN1
  go_upto_region 9 with (fail)
  go_cut [15] (fun u wx => ∃ r F, u = .pointer (some ⟨r, 0, none⟩) ∧ Hid (Lg R w wx F r g3 ∧ Lg R w wx F1 r1 g1))
  case first =>
    have HK := hid (fun wx (h : Below wD.heap.size wD wx) => bx_s (HX4.out.below h) h)
    have hbd : Below wD.heap.size wD wD.drew := (Below.refl _ _).drew
    have hwr := wrap_b c
    have HEc : Hid (∀ wx, Below wD.heap.size wD wx → _) := hid (fun wx h => HE3.out wx (HBD.out.trans (h.mono HBD.out.size)))
    go_region_held3 (fun wx => (wx.cell? ⟨xc, 0, none⟩ = some (.int .i64 (pickZ c 30)) ∧ wx.cell? ⟨xc, 1, none⟩ = some (.int .i64 (pickZ 1 9)) ∧ wx.cell? ⟨xc, 2, none⟩ = some (.slice (some ⟨gc, 0, none⟩) 3 3) ∧ wx.cell? ⟨xc, 3, none⟩ = some (.string bB) ∧ Below wD.heap.size wD wx))
      (first | (with_reducible exact HK.out _ hbd) | (with_reducible exact HK.out _ hbk) | (with_reducible assumption))
      (first
        | (go_at_call 11; (with_reducible refine (HEc.out _ (And.right (And.right (And.right (And.right (by assumption)))))).mono ?_); rintro e w5 ⟨ea, ec, rfl, hm⟩; have hbk : Below wD.heap.size wD w5 := Below.trans (And.right (And.right (And.right (And.right (by assumption))))) (hm.below.mono (Below.size (And.right (And.right (And.right (And.right (by assumption))))))); have HB5 := hid hbk; have HNc := hid (HN3.out w5 gc _ (HX4.out.below hbk).row hm.row.rAt); clear hm)
        | (go_at_call 13; (with_reducible refine HNc.out.mono ?_); rintro e w6 ⟨r, F, rfl, hi, hn, hbb⟩; have hbk : Below wD.heap.size wD w6 := HB5.out.trans (hbb.mono HB5.out.size); have HLG := hid (lg_made HBD.out HB5.out hi hn hbb HB3.out); have HBK := hid hbk; clear hi hn hbb))
    all_goals
      go_wp2
      go_meet
      exact ⟨r, F, rfl, hid ⟨HLG.out, HL1.out.later HBK.out⟩⟩
  case rest =>
  obtain ⟨r3, F3, rfl, hq⟩ := hcut
  generalize wc = wE at *
  have C1 := hid (HLa1.out _ _ _ hq.out.2)
  clear HL1 HX4 HBD HE3 HN3
  go_upto_region 16 with (first
    | (go_at_call 24; (with_reducible refine C1.out.mono ?_); rintro e w7 ⟨rfl, hb⟩; have P1 := hid (And.intro (hq.out.1.later hb) (hq.out.2.later hb)); obtain ⟨ok1, hT⟩ := HTe1.out _ _ _ P1.out.2; have C2 := hid hT; clear hb hT)
    | (go_at_call 28; (with_reducible refine C2.out.mono ?_); rintro e w8 ⟨rfl, hb⟩; have P2 := hid (And.intro (P1.out.1.later hb) (P1.out.2.later hb)); have C3 := hid (HLa3.out _ _ _ P2.out.1); clear hb)
    | (go_at_call 24; (with_reducible refine C3.out.mono ?_); rintro e w9 ⟨rfl, hb⟩; have P3 := hid (And.intro (P2.out.1.later hb) (P2.out.2.later hb)); obtain ⟨ok3, hT⟩ := HTe3.out _ _ _ P3.out.1; have C4 := hid hT; clear hb hT)
    | (go_at_call 28; (with_reducible refine C4.out.mono ?_); rintro e w10 ⟨rfl, hb⟩; have P4 := hid (And.intro (P3.out.1.later hb) (P3.out.2.later hb)); have C5 := hid (HLa3.out _ _ _ P4.out.1); clear hb)
    | (go_at_call 24; (with_reducible refine C5.out.mono ?_); rintro e w11 ⟨rfl, hb⟩; have P5 := hid (And.intro (P4.out.1.later hb) (P4.out.2.later hb)); have C6 := hid (HNr1.out _ _ _ P5.out.2); clear hb)
    | (go_at_call 21; (with_reducible refine C6.out.mono ?_); rintro e w12 ⟨rfl, hb⟩; have P6 := hid (And.intro (P5.out.1.later hb) (P5.out.2.later hb)); have C7 := hid (HLa1.out _ _ _ P6.out.2); clear hb)
    | (go_at_call 24; (with_reducible refine C7.out.mono ?_); rintro e w13 ⟨rfl, hb⟩; have P7 := hid (And.intro (P6.out.1.later hb) (P6.out.2.later hb)); have C8 := hid (HNr3.out _ _ _ P7.out.1); clear hb)
    | (go_at_call 21; (with_reducible refine C8.out.mono ?_); rintro e w14 ⟨rfl, hb⟩; have P8 := hid (And.intro (P7.out.1.later hb) (P7.out.2.later hb)); have C9 := hid (HLa1.out _ _ _ P8.out.2); clear hb))
  have hF := hid (fun w15 (hb : Below w14.heap.size w14 w15) => HLa3.out _ _ _ (P8.out.1.later hb))
  have hP := hid (fun w15 (hb : Below w14.heap.size w14 w15) => (P8.out.1.later hb).below)
  obtain ⟨hn1, hn2⟩ := HN.out
  cases o1 with
  | false =>
    cases o3 with
    | false => cases hn1
    | true =>
      by_cases ht : t1 = t3
      · have hl : la1 ≠ la3 := fun e => by rw [decide_eq_true ht, decide_eq_true e] at hn2; cases hn2
        subst ht
        have q1 : (t1 == t1) = true := beq_self_eq_true _
        have q2 : (la1 == la3) = false := beq_false_of_ne hl
        clear hn1 hn2 hl
        go_wp2_with (first
          | (go_at_call 24; (with_reducible refine C9.out.mono ?_); rintro e w15 ⟨rfl, hb5⟩; have C10 := hid (hF.out _ hb5))
          | (go_at_call 24; (with_reducible refine C10.out.mono ?_); rintro e w16 ⟨rfl, hb6⟩; have HZ := hid (hP.out _ (hb5.trans (hb6.mono hb5.size))); clear hb6))
        go_ret
        exact ⟨rfl, HZ.out⟩
      · have q1 : (t1 == t3) = false := beq_false_of_ne ht
        clear hn1 hn2 ht
        go_wp2
        go_ret
        exact ⟨rfl, P8.out.1.below⟩
  | true =>
    cases o3 with
    | false =>
      by_cases ht : t1 = t3
      · have hl : la1 ≠ la3 := fun e => by rw [decide_eq_true ht, decide_eq_true e] at hn2; cases hn2
        subst ht
        have q1 : (t1 == t1) = true := beq_self_eq_true _
        have q2 : (la1 == la3) = false := beq_false_of_ne hl
        clear hn1 hn2 hl
        go_wp2_with (first
          | (go_at_call 24; (with_reducible refine C9.out.mono ?_); rintro e w15 ⟨rfl, hb5⟩; have C10 := hid (hF.out _ hb5))
          | (go_at_call 24; (with_reducible refine C10.out.mono ?_); rintro e w16 ⟨rfl, hb6⟩; have HZ := hid (hP.out _ (hb5.trans (hb6.mono hb5.size))); clear hb6))
        go_ret
        exact ⟨rfl, HZ.out⟩
      · have q1 : (t1 == t3) = false := beq_false_of_ne ht
        clear hn1 hn2 ht
        go_wp2
        go_ret
        exact ⟨rfl, P8.out.1.below⟩
    | true =>
      have hn3 := hn2.symm
      simp only [Bool.and_eq_true, decide_eq_true_eq, Bool.and_self] at hn3
      obtain ⟨rfl, rfl⟩ := hn3
      have q1 : (t1 == t1) = true := beq_self_eq_true _
      have q2 : (la1 == la1) = true := beq_self_eq_true _
      clear hn1 hn2
      go_wp2_with (first
        | (go_at_call 24; (with_reducible refine C9.out.mono ?_); rintro e w15 ⟨rfl, hb5⟩; have C10 := hid (hF.out _ hb5))
        | (go_at_call 24; (with_reducible refine C10.out.mono ?_); rintro e w16 ⟨rfl, hb6⟩; have HZ := hid (hP.out _ (hb5.trans (hb6.mono hb5.size))); clear hb6))
      go_ret
      exact ⟨rfl, HZ.out⟩
set_option maxHeartbeats 4000000 in
theorem rlogNewer_walk {R : RlRep} (HP : RlProg R) (b c : Int) (v1 v3 : Value) (l m : List Pa) (w : World) (hbi : I64' b) (h1 : RAt pTy w v1 l) (hi1 : ∀ p ∈ l, PaIn w p) (hl1 : l.length ≤ maxLen) (hci : I64' c) (h3 : RAt pTy w v3 m) (hi3 : ∀ p ∈ m, PaIn w p) (hl3 : m.length ≤ maxLen) :
    Calls Try.prog 8 #[.int .i64 b, v1, .int .i64 c, v3] w (ShownPost w) := by
  by_cases hs : smallP l = true ∧ smallP m = true
  · exact rlogNewer_main HP b c v1 v3 l m w hbi h1 hi1 hl1 hci h3 hi3 hl3 hs.1 hs.2
  have HS := hid (shown_any HP w)
  have HSm0 : Hid (∀ wx, Below w.heap.size w wx → Calls Try.prog 10 #[v1] wx fun e w' => e = .returned (.bool (smallP l)) ∧ wx = w') := hid (fun wx h => small_any wx v1 l (h1.below h) hl1)
  have HSm1 : Hid (∀ wx, Below w.heap.size w wx → Calls Try.prog 10 #[v3] wx fun e w' => e = .returned (.bool (smallP m)) ∧ wx = w') := hid (fun wx h => small_any wx v3 m (h3.below h) hl3)
  obtain ⟨s0, hs0⟩ : ∃ s, smallP l = s := ⟨_, rfl⟩
  rw [hs0] at HSm0 hs
  obtain ⟨s1, hs1⟩ : ∃ s, smallP m = s := ⟨_, rfl⟩
  rw [hs1] at HSm1 hs
  have HH := hid hs
  clear HP hs hs0 hs1
  cases s0 with
  | false =>
    go_enter Try.func8, Try.ntmps8
    go_wp2_with (first | (go_at_call 9; (with_reducible refine HS.out.mono ?_); rintro e w1 ⟨rfl, hb1⟩) | (go_at_call 10; (with_reducible refine (HSm0.out _ hb1).mono ?_); rintro e w2 ⟨rfl, rfl⟩) | (go_at_call 10; (with_reducible refine (HSm1.out _ hb1).mono ?_); rintro e w2 ⟨rfl, rfl⟩))
    go_ret
    exact ⟨rfl, hb1⟩
  | true =>
    cases s1 with
    | true => exact absurd ⟨rfl, rfl⟩ HH.out
    | false =>
      go_enter Try.func8, Try.ntmps8
      go_wp2_with (first | (go_at_call 9; (with_reducible refine HS.out.mono ?_); rintro e w1 ⟨rfl, hb1⟩) | (go_at_call 10; (with_reducible refine (HSm0.out _ hb1).mono ?_); rintro e w2 ⟨rfl, rfl⟩) | (go_at_call 10; (with_reducible refine (HSm1.out _ hb1).mono ?_); rintro e w2 ⟨rfl, rfl⟩))
      go_ret
      exact ⟨rfl, hb1⟩
end Go.Proofs.Ytiffdhihhggkhaa
