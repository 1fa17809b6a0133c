/-
  LAYER 8 (rlog), the law RlogMatches: its walk. (Written by wip/tools/gen8_laws.py.)
-/
import Derived.Test.YtiffdhihhggkhaaRlMatch0
import Derived.Deep.RegionHeld3
import Derived.BigQuiet
import Derived.Deep.DeepCutAuto
import Derived.Deep.CutRange
namespace Go.Proofs.Ytiffdhihhggkhaa
open Go.RowKit
set_option linter.unusedVariables false
set_option maxRecDepth 100000

def mtQ (b ci ct cf : Int) (l m : List Pa) : (Int × Int × Bool) × Rl := matchL (logOf b 1 l) (pickZ b 30 + pickZ ci ((l.length : Int) + 3)) (pickZ ct 9) (pickZ b 30 + pickZ cf ((l.length : Int) + 1)) (entsE m (pickZ b 30 + pickZ ci ((l.length : Int) + 3) + 1))
set_option maxHeartbeats 16000000 in
theorem rlogMatches_no {R : RlRep} (HP : RlProg R) (b ci ct cf : Int) (v1 v5 : Value) (l m : List Pa) (w : World) (hbi : I64' b) (hii : I64' ci) (hti : I64' ct) (hfi : I64' cf) (h1 : RAt pTy w v1 l) (hi1 : ∀ p ∈ l, PaIn w p) (hl1 : l.length ≤ maxLen) (hs1 : smallP l = true) (h5 : RAt pTy w v5 m) (hi5 : ∀ p ∈ m, PaIn w p) (hl5 : m.length ≤ maxLen) (hs5 : smallP m = true) (hC : (mtQ b ci ct cf l m).1.2.2 = false) :
    Calls Try.prog 4 #[.int .i64 b, v1, .int .i64 ci, .int .i64 ct, .int .i64 cf, v5] w (ShownPost w) := by
  have HS := hid (shown_any HP w)
  have HSm1 : Hid (∀ wx, Below w.heap.size w wx → Calls Try.prog 10 #[v1] wx fun e w' => e = .returned (.bool true) ∧ wx = w') := hid (fun wx h => by have := small_any wx v1 l (h1.below h) hl1; rw [hs1] at this; exact this)
  have HBs1 := hid (fun wx => base_any b 1 wx hbi ⟨by decide, by decide⟩)
  have pb := pickZ_range b 30 (by omega)
  have HE1 := hid (fun wx (h : Below w.heap.size w wx) => entries_at h1 hi1 hs1 (pickZ b 30 + 1) (by omega) wx h)
  have HN1 := hid (fun wx g ev hv he => new_at HP hi1 hs1 b 1 (wx := wx) g ev hv he)
  have hb1 := logOf_b b 1 hi1 hs1
  have HB1 := hid hb1
  have hls := (smallP_of hs1).1
  obtain ⟨g1, hg1⟩ : ∃ g, logOf b 1 l = g := ⟨_, rfl⟩
  have hgl : g1.ents.length ≤ 60 := by rw [← hg1]; show (entsE l _).length ≤ 60; rw [entsE_len]; exact hls
  rw [hg1] at HN1 HB1 hb1
  have HSm5 : Hid (∀ wx, Below w.heap.size w wx → Calls Try.prog 10 #[v5] wx fun e w' => e = .returned (.bool true) ∧ wx = w') := hid (fun wx h => by have := small_any wx v5 m (h5.below h) hl5; rw [hs5] at this; exact this)
  obtain ⟨va, vcap, rfl, -⟩ := pa_at h1
  have hgb : g1.bi = pickZ b 30 := by rw [← hg1]; rfl
  have hgla : g1.last = pickZ b 30 + l.length := by rw [← hg1]; exact logOf_last b 1 l
  have hml := (smallP_of hs5).1
  have pi := pickZ_range ci ((l.length : Int) + 3) (by omega)
  have pf := pickZ_range cf ((l.length : Int) + 1) (by omega)
  have pt := pickZ_range ct 9 (by omega)
  have HPi := hid (fun wx => pick_any ci ((l.length : Int) + 3) wx (by omega) (by omega) hii.1 hii.2)
  have HPf := hid (fun wx => pick_any cf ((l.length : Int) + 1) wx (by omega) (by omega) hfi.1 hfi.2)
  have HPt := hid (fun wx => pick_any ct 9 wx (by omega) (by omega) hti.1 hti.2)
  obtain ⟨ki, hki⟩ : ∃ k, pickZ ci ((l.length : Int) + 3) = k := ⟨_, rfl⟩
  obtain ⟨kf, hkf⟩ : ∃ k, pickZ cf ((l.length : Int) + 1) = k := ⟨_, rfl⟩
  obtain ⟨tm, htm⟩ : ∃ k, pickZ ct 9 = k := ⟨_, rfl⟩
  rw [hki] at HPi pi
  rw [hkf] at HPf pf
  rw [htm] at HPt pt
  have hw3 : IntKind.i64.wrap ((l.length : Int) + 3) = (l.length : Int) + 3 := by rw [IntKind.wrap_i64]; omega
  have hw1 : IntKind.i64.wrap ((l.length : Int) + 1) = (l.length : Int) + 1 := by rw [IntKind.wrap_i64]; omega
  have hwi : IntKind.i64.wrap (pickZ b 30 + ki) = pickZ b 30 + ki := by rw [IntKind.wrap_i64]; omega
  have hwf : IntKind.i64.wrap (pickZ b 30 + kf) = pickZ b 30 + kf := by rw [IntKind.wrap_i64]; omega
  obtain ⟨at_, hat⟩ : ∃ k, pickZ b 30 + ki = k := ⟨_, rfl⟩
  obtain ⟨fx, hfx⟩ : ∃ k, pickZ b 30 + kf = k := ⟨_, rfl⟩
  have hfb : g1.bi ≤ fx := by omega
  have hfl : fx ≤ g1.last := by omega
  have hatb : 0 ≤ at_ ∧ at_ ≤ 1000 := by omega
  obtain ⟨E, hE⟩ : ∃ E, entsE m (at_ + 1) = E := ⟨_, rfl⟩
  have hEr : Rises at_ E := by rw [← hE]; exact entsE_rises m at_
  have hEl : E.length ≤ 60 := by rw [← hE, entsE_len]; exact hml
  have hEm : ∀ e ∈ E, MeIs e := by rw [← hE]; exact meIs_entsE hi5 hs5 (by omega)
  have HE5 : Hid (∀ wx, Below w.heap.size w wx → Calls Try.prog 11 #[v5, .int .i64 (at_ + 1)] wx (EsPost wx E)) := hid (fun wx h => by have := entries_at h5 hi5 hs5 (at_ + 1) (by omega) wx h; rw [hE] at this; exact this)
  have hwa : IntKind.i64.wrap (at_ + 1) = at_ + 1 := by rw [IntKind.wrap_i64]; omega
  obtain ⟨n, f, is, g2, hg2⟩ : ∃ n f is g, matchL g1 at_ tm fx E = ((n, f, is), g) := ⟨_, _, _, _, rfl⟩
  unfold mtQ at hC
  rw [hg1, hki, hkf, htm, hat, hfx, hE, hg2] at hC
  have HC := hid hC
  have hB2 : RlB g2 := by have := hb1.match_ at_ tm fx E hEm hfb hfl (by omega); rw [hg2] at this; exact this
  have hlen2 : g2.ents.length ≤ 120 ∧ g2.bi = pickZ b 30 := by have := match_len (g := g1) at_ tm fx E; rw [hg2] at this; exact ⟨by have := this.1; simp only at this; omega, this.2.trans hgb⟩
  have HMt : Hid (∀ (s s' : Rl) n f is, RlB s' → s.bi ≤ fx → fx ≤ s.last → matchL s at_ tm fx E = ((n, f, is), s') → ∀ wx F r ev, Lg R w wx F r s → Apart enTy wx F ev E → Calls Try.prog 25 #[.pointer (some ⟨r, 0, none⟩), .int .i64 at_, .int .i64 tm, .int .i64 fx, ev] wx (MtPost R w wx F r (.tuple #[.int .i64 n, .int .i64 f, .bool is]) s')) := hid (fun s s' n f is hb h2 h3 hm wx F r ev h ha => by
    have := HP.match_ at_ tm fx ev E h.is h.b ha (by omega) hEm ⟨by omega, by omega⟩ ⟨by omega, by omega⟩ h2 h3
    rw [hm] at this
    exact mt_of h hb this)
  have HLa : Hid (∀ (s : Rl) wx F r, Lg R w wx F r s → Calls Try.prog 24 #[.pointer (some ⟨r, 0, none⟩)] wx fun e w' => e = .returned (.int .i64 s.last) ∧ Below wx.heap.size wx w') := hid (fun s wx F r h => HP.last h.is h.b)
  have HSl : Hid (∀ (s : Rl) (fr most : Int) (W : List Me) (k : Nat), I64' fr → I64' most → sliceL s fr most = W → W.length = k → ∀ wx F r, Lg R w wx F r s → Calls Try.prog 19 #[.pointer (some ⟨r, 0, none⟩), .int .i64 fr, .int .i64 most] wx fun e w' => ∃ a c, e = .returned (.slice a k c) ∧ RMid enTy wx w' (.slice a k c) W) := hid (fun s fr most W k h1 h2 hW hk wx F r h => by
    have := HP.slice fr most h.is h.b h1 h2
    rw [hW] at this
    refine this.mono fun e w' ⟨vv, he, hm⟩ => ?_
    obtain ⟨a, c, rfl, _⟩ := hm.row.slice
    subst hk
    exact ⟨a, c, he, hm⟩)
  obtain ⟨W, hW⟩ : ∃ W, g1.ents = W := ⟨_, rfl⟩
  obtain ⟨V, hV⟩ : ∃ V, g2.ents = V := ⟨_, rfl⟩
  have hsl1 : sliceL g1 (pickZ b 30 + 1) 1000 = W := by rw [← hW, ← hgb]; exact sliceL_all (by omega)
  have hsl2 : sliceL g2 (pickZ b 30 + 1) 1000 = V := by rw [← hV, ← hlen2.2]; exact sliceL_all (by omega)
  obtain ⟨wn, hwn⟩ : ∃ k, W.length = k := ⟨_, rfl⟩
  obtain ⟨vn, hvn⟩ : ∃ k, V.length = k := ⟨_, rfl⟩
  obtain ⟨en, hen⟩ : ∃ k, E.length = k := ⟨_, rfl⟩
  have HW1 := hid (fun wx F r h => HSl.out g1 (pickZ b 30 + 1) 1000 W wn ⟨by omega, by omega⟩ ⟨by decide, by decide⟩ hsl1 hwn wx F r h)
  have HV1 := hid (fun wx F r h => HSl.out g2 (pickZ b 30 + 1) 1000 V vn ⟨by omega, by omega⟩ ⟨by decide, by decide⟩ hsl2 hvn wx F r h)
  have HM1 := hid (fun wx F r ev h ha => HMt.out g1 g2 n f is hB2 hfb hfl hg2 wx F r ev h ha)
  rw [hen] at hEl
  have HE5' : Hid (∀ wx, Below w.heap.size w wx → Calls Try.prog 11 #[v5, .int .i64 (at_ + 1)] wx fun e w' => ∃ a c, e = .returned (.slice a en c) ∧ RMid enTy wx w' (.slice a en c) E) := hid (fun wx h => (HE5.out wx h).mono fun e w' ⟨a, c, he, hm⟩ => by rw [hen] at he hm; exact ⟨a, c, he, hm⟩)
  obtain ⟨la, hla⟩ : ∃ k, g1.last = k := ⟨_, rfl⟩
  have HLa1 := hid (fun wx F r h => HLa.out g1 wx F r h)
  rw [hla] at HLa1
  have HG := hid (And.intro hg2 (And.intro hfb (And.intro hfl (And.intro hEr (And.intro hb1 hB2)))))
  have HBi := hid (And.intro hgb (And.intro hlen2 (And.intro hla (And.intro hW hV))))
  have HN := hid (And.intro hwn (And.intro hvn hen))
  have HPb := hid (And.intro pb (And.intro hatb (And.intro hEl (And.intro hgl hml))))
  have HAT := hid (And.intro hat hfx)
  have hpx : pickZ b 30 ≤ fx ∧ fx ≤ 200 := by omega
  have HFX := hid hpx
  clear HP hbi hii hti hfi h1 hi1 hl1 hs1 h5 hi5 hl5 hs5 hls hg1 hgl hb1 hgb hgla hml pi pf pt hki hkf htm hat hfx hfb hfl hatb hE hEr hEl hEm HE5 hg2 hB2 hlen2 hW hV hsl1 hsl2 hwn hvn hen hla pb hpx hC
  go_enter Try.func4, Try.ntmps4
  go_upto_region 7 with (first
      | (go_at_call 9; (with_reducible refine HS.out.mono ?_); rintro e w1 ⟨rfl, hb1⟩)
      | (go_at_call 10; (with_reducible refine (HSm1.out _ hb1).mono ?_); rintro e w2 ⟨rfl, rfl⟩)
      | (go_at_call 10; (with_reducible refine (HSm5.out _ hb1).mono ?_); rintro e w2 ⟨rfl, rfl⟩)
      | (go_at_call 14; (with_reducible refine (HBs1.out _).mono ?_); rintro e w3 ⟨ga, rfl, hm⟩; have HX1 := hid (bx_of (b := b) (t := 1) hm); have hb3 := hb1.trans (hm.below.mono hb1.size); have HB4 := hid (hb3.alloc hb3.size (.cells #[.int .i64 (pickZ b 30), .int .i64 (pickZ 1 9), .slice (some ⟨ga, 0, none⟩) 3 3, .string bB] 33)); clear hm hb3))
  clear HBs1 HSm1 HS hb1
  generalize w3.alloc (.cells #[.int .i64 (pickZ b 30), .int .i64 (pickZ 1 9), .slice (some ⟨ga, 0, none⟩) 3 3, .string bB] 33) = wB at *
  generalize w3.heap.size = xa at *
  go_cut [17] (fun u wx => ∃ r F, u = .pointer (some ⟨r, 0, none⟩) ∧ Hid (Lg R w wx F r g1 ∧ BxAt wx xa ga b 1 ∧ ¬ F xa ∧ ¬ F ga))
  case first =>
    have HK := hid (fun wx (h : Below wB.heap.size wB wx) => bx_s (HX1.out.below h) h)
    have hbd : Below wB.heap.size wB wB.drew := (Below.refl _ _).drew
    have hwr := wrap_b b
    have HEc : Hid (∀ wx, Below wB.heap.size wB wx → _) := hid (fun wx h => HE1.out wx (HB4.out.trans (h.mono HB4.out.size)))
    go_region_held3 (fun wx => (wx.cell? ⟨xa, 0, none⟩ = some (.int .i64 (pickZ b 30)) ∧ wx.cell? ⟨xa, 1, none⟩ = some (.int .i64 (pickZ 1 9)) ∧ wx.cell? ⟨xa, 2, none⟩ = some (.slice (some ⟨ga, 0, none⟩) 3 3) ∧ wx.cell? ⟨xa, 3, none⟩ = some (.string bB) ∧ Below wB.heap.size wB wx))
      (first | (with_reducible exact HK.out _ hbd) | (with_reducible exact HK.out _ hbk) | (with_reducible assumption))
      (first
        | (go_at_call 11; (with_reducible refine (HEc.out _ (And.right (And.right (And.right (And.right (by assumption)))))).mono ?_); rintro e w5 ⟨ea, ec, rfl, hm⟩; have hbk : Below wB.heap.size wB w5 := Below.trans (And.right (And.right (And.right (And.right (by assumption))))) (hm.below.mono (Below.size (And.right (And.right (And.right (And.right (by assumption))))))); have HB5 := hid hbk; have HNc := hid (HN1.out w5 ga _ (HX1.out.below hbk).row hm.row.rAt); clear hm)
        | (go_at_call 13; (with_reducible refine HNc.out.mono ?_); rintro e w6 ⟨r, F, rfl, hi, hn, hbb⟩; have hbk : Below wB.heap.size wB w6 := HB5.out.trans (hbb.mono HB5.out.size); have HLG := hid (lg_made HB4.out HB5.out hi hn hbb HB1.out); have HBK := hid hbk; have HNX := hid (show ¬ F xa ∧ ¬ F ga from ⟨fun k => by have := hn _ k; have := HB5.out.size; have := HX1.out.box.lt; omega, fun k => by have := hn _ k; have := HB5.out.size; have := HX1.out.glt; omega⟩); clear hi hn hbb))
    all_goals
      go_wp2
      go_meet
      exact ⟨r, F, rfl, hid ⟨HLG.out, HX1.out.below HBK.out, HNX.out.1, HNX.out.2⟩⟩
  case rest =>
  obtain ⟨r1, F1, rfl, hq⟩ := hcut
  generalize wc = wD at *
  have C0 := hid (HW1.out _ _ _ hq.out.1)
  obtain ⟨k0, k1, k2, k3, -⟩ := bx_s hq.out.2.1 (Below.refl _ _)
  have hwb := wrap_b b
  clear HX1 HB4 HE1 HN1 HB1 HSm5
  go_upto_region 12 with (first
    | (go_at_call 19; (with_reducible refine C0.out.mono ?_); rintro e w4 ⟨wa, wcp, rfl, hm⟩; have S1 := hid (show MtSt R w w4 F1 r1 g1 xa ga b (.slice wa wn wcp) W from ⟨hq.out.1.later hm.below, hq.out.2.1.below hm.below, hq.out.2.2, apart_new hm (fun k e => R.lt hq.out.1.is k e)⟩); have C1 := hid (HLa1.out _ _ _ S1.out.lg); clear hm)
    | (go_at_call 24; (with_reducible refine C1.out.mono ?_); rintro e w5 ⟨rfl, hb⟩; have S2 := hid (S1.out.later hb); clear hb))
  clear hq C0 k0 k1 k2 k3
  go_cut [20] (fun u wx => u = .int .i64 at_ ∧ Hid (MtSt R w wx F1 r1 g1 xa ga b (.slice wa wn wcp) W))
  case first =>
    obtain ⟨k0, k1, k2, k3, -⟩ := bx_s S2.out.bx (Below.refl _ _)
    have HBn := hid (fun n => S2.out.later (below_drew (Below.refl _ _) n))
    go_wp2
    go_quiet ((go_at_call 12; exact quiet_eq (HPi.out _)))
    all_goals
      go_wp2
      go_meet
      exact ⟨by rw [HAT.out.1], hid (HBn.out _)⟩
  case rest =>
  obtain ⟨rfl, S3⟩ := hcut
  generalize wc = wE at *
  clear S1 S2 C1
  go_upto_region 13 with (fail)
  go_cut [21] (fun u wx => u = .int .i64 fx ∧ Hid (MtSt R w wx F1 r1 g1 xa ga b (.slice wa wn wcp) W))
  case first =>
    obtain ⟨k0, k1, k2, k3, -⟩ := bx_s S3.out.bx (Below.refl _ _)
    have HBn := hid (fun n => S3.out.later (below_drew (Below.refl _ _) n))
    go_wp2
    go_quiet ((go_at_call 12; exact quiet_eq (HPf.out _)))
    all_goals
      go_wp2
      go_meet
      exact ⟨by rw [HAT.out.2], hid (HBn.out _)⟩
  case rest =>
  obtain ⟨rfl, S4⟩ := hcut
  generalize wc = wF at *
  clear S3 HPi HPf
  have C2 := hid (HE5'.out _ S4.out.lg.below)
  go_upto_region 17 with (first
    | (go_at_call 11; (with_reducible refine C2.out.mono ?_); rintro e w6 ⟨ea, ec, rfl, hm⟩; have S5 := hid (S4.out.later hm.below); have AE := hid (apart_new (F := F1) hm (fun k e => R.lt S4.out.lg.is k e)); have C3 := hid (HM1.out _ _ _ _ S5.out.lg AE.out); clear hm)
    | (go_at_call 12; (with_reducible refine (HPt.out _).mono ?_); rintro e w7 ⟨rfl, rfl⟩)
    | (go_at_call 25; (with_reducible refine C3.out.mono ?_); rintro e w8 ⟨rfl, F2, hL, hch, hF⟩; have S6 := hid (S5.out.turn hL hch hF); have AE2 := hid (AE.out.turn hch hF); obtain ⟨k0, k1, k2, k3, -⟩ := bx_s S6.out.bx (Below.refl _ _); have C4 := hid (HV1.out _ _ _ hL); clear hL hch hF)
    | (go_at_call 19; (with_reducible refine C4.out.mono ?_); rintro e w9 ⟨na, nc, rfl, hm⟩; have S7 := hid (S6.out.later hm.below); have AE3 := hid (AE2.out.below hm.below); have AN := hid (apart_new (F := F2) hm (fun k e => R.lt S6.out.lg.is k e)); clear hm k0 k1 k2 k3))
  have HP0 : Hid (0 ≤ g1.bi) := hid HG.out.2.2.2.2.1.ok.pos
  obtain rfl : is = false := HC.out
  obtain ⟨hf0, hgg, hnl⟩ := match_false HG.out.1
  subst hf0
  have hVW : V = W := by rw [← HBi.out.2.2.2.2, hgg]; exact HBi.out.2.2.2.1
  subst hVW
  have hvw : vn = wn := HN.out.2.1.symm.trans HN.out.1
  subst hvw
  have C5 := hid (same_same S7.out.was.row AN.out.row (by have h1 := HPb.out.2.2.2.1; have h2 := HBi.out.2.2.2.1; rw [h2] at h1; unfold maxLen; omega))
  clear hgg
  go_wp2_with (go_at_call 18; (with_reducible refine C5.out.mono ?_); rintro e w10 ⟨rfl, hb⟩; have HZ := hid (S7.out.lg.later hb).below; clear hb)
  go_ret
  exact ⟨rfl, HZ.out⟩
end Go.Proofs.Ytiffdhihhggkhaa
