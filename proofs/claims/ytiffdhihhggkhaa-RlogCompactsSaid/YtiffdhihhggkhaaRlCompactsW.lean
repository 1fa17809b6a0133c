/-
  LAYER 8 (rlog), the law RlogCompacts: its walk. (Written by wip/tools/gen8_laws.py.)
-/
import Derived.Test.YtiffdhihhggkhaaMq5
import Derived.Deep.RegionHeld3
import Derived.BigQuiet
import Derived.Deep.DeepCutAuto
import Derived.Deep.CutRange
namespace Go.Proofs.Ytiffdhihhggkhaa
open Go.RowKit
set_option linter.unusedVariables false
set_option maxRecDepth 100000

def CoRel (w7 : World) (ix la : Int) (u : Value) (wr : World) : Prop := ∃ k : Int, ix ≤ k ∧ k ≤ la + 1 ∧ u = .int .i64 k ∧ Hid (Below w7.heap.size w7 wr)
set_option maxHeartbeats 16000000 in
theorem rlogCompacts_main {R : RlRep} (HP : RlProg R) (b c : Int) (v1 : Value) (l : List Pa) (w : World) (hbi : I64' b) (hci : I64' c) (h1 : RAt pTy w v1 l) (hi1 : ∀ p ∈ l, PaIn w p) (hl1 : l.length ≤ maxLen) (hs1 : smallP l = true) :
    Calls Try.prog 5 #[.int .i64 b, v1, .int .i64 c] w (ShownPost w) := by
  have HS := hid (shown_any HP w)
  have HSm1 : Hid (∀ wx, Below w.heap.size w wx → Calls Try.prog 10 #[v1] wx fun e w' => e = .returned (.bool true) ∧ wx = w') := hid (fun wx h => by have := small_any wx v1 l (h1.below h) hl1; rw [hs1] at this; exact this)
  have HBs1 := hid (fun wx => base_any b 1 wx hbi ⟨by decide, by decide⟩)
  have pb := pickZ_range b 30 (by omega)
  have HE1 := hid (fun wx (h : Below w.heap.size w wx) => entries_at h1 hi1 hs1 (pickZ b 30 + 1) (by omega) wx h)
  have HN1 := hid (fun wx g ev hv he => new_at HP hi1 hs1 b 1 (wx := wx) g ev hv he)
  have hb1 := logOf_b b 1 hi1 hs1
  have HB1 := hid hb1
  have hls := (smallP_of hs1).1
  obtain ⟨g1, hg1⟩ : ∃ g, logOf b 1 l = g := ⟨_, rfl⟩
  have hgl : g1.ents.length ≤ 60 := by rw [← hg1]; show (entsE l _).length ≤ 60; rw [entsE_len]; exact hls
  rw [hg1] at HN1 HB1 hb1
  obtain ⟨va, vcap, rfl, -⟩ := pa_at h1
  have hgb : g1.bi = pickZ b 30 := by rw [← hg1]; rfl
  have hgla : g1.last = pickZ b 30 + l.length := by rw [← hg1]; exact logOf_last b 1 l
  have ppk := pickZ_range c ((l.length : Int) + 2) (by omega)
  have HPk := hid (fun wx => pick_any c ((l.length : Int) + 2) wx (by omega) (by omega) hci.1 hci.2)
  obtain ⟨pk, hpk⟩ : ∃ k, pickZ c ((l.length : Int) + 2) = k := ⟨_, rfl⟩
  rw [hpk] at HPk ppk
  have hwl : IntKind.i64.wrap ((l.length : Int) + 2) = (l.length : Int) + 2 := by rw [IntKind.wrap_i64]; omega
  have hwp : IntKind.i64.wrap (pickZ b 30 + pk) = pickZ b 30 + pk := by rw [IntKind.wrap_i64]; omega
  obtain ⟨ix, hix⟩ : ∃ k, pickZ b 30 + pk = k := ⟨_, rfl⟩
  rw [hix] at hwp
  obtain ⟨la, hla⟩ : ∃ k, g1.last = k := ⟨_, rfl⟩
  have hix2 : pickZ b 30 ≤ ix ∧ ix ≤ 1000 := by omega
  have hlab : la ≤ 1000 := by omega
  have HLen : Hid (l.length ≤ 60) := hid hls
  obtain ⟨e2, g2, hg2⟩ : ∃ e g, compactL g1 ix ⟨#[100]⟩ = (e, g) := ⟨_, _, rfl⟩
  have hB2 : RlB g2 := by have := hb1.compact ix ⟨#[100]⟩ (by decide) (by omega); rw [hg2] at this; exact this
  have HCm : Hid (∀ wx F r, Lg R w wx F r g1 → Calls Try.prog 26 #[.pointer (some ⟨r, 0, none⟩), .int .i64 ix, .string ⟨#[100]⟩] wx (MtPost R w wx F r (.int .i64 e2) g2)) := hid (fun wx F r h => by
    have := HP.compact ix ⟨#[100]⟩ h.is h.b ⟨by omega, by omega⟩ (by decide)
    rw [hg2] at this
    exact mt_of h hB2 this)
  have HLa : Hid (∀ (s : Rl) wx F r, Lg R w wx F r s → Calls Try.prog 24 #[.pointer (some ⟨r, 0, none⟩)] wx fun e w' => e = .returned (.int .i64 s.last) ∧ Below wx.heap.size wx w') := hid (fun s wx F r h => HP.last h.is h.b)
  have HSl : Hid (∀ (s : Rl) (fr most : Int) (W : List Me), I64' fr → I64' most → sliceL s fr most = W → ∀ wx F r, Lg R w wx F r s → Calls Try.prog 19 #[.pointer (some ⟨r, 0, none⟩), .int .i64 fr, .int .i64 most] wx fun e w' => ∃ a c, e = .returned (.slice a W.length c) ∧ RMid enTy wx w' (.slice a W.length c) W) := hid (fun s fr most W h1 h2 hW wx F r h => by
    have := HP.slice fr most h.is h.b h1 h2
    rw [hW] at this
    refine this.mono fun e w' ⟨vv, he, hm⟩ => ?_
    obtain ⟨a, c, rfl, _⟩ := hm.row.slice
    exact ⟨a, c, he, hm⟩)
  have HBa : Hid (∀ (s : Rl) wx F r, Lg R w wx F r s → Calls Try.prog 27 #[.pointer (some ⟨r, 0, none⟩)] wx fun e w' => ∃ vv, e = .returned (.agg #[.int .i64 s.bi, .int .i64 s.bt, vv, .string s.bd]) ∧ RTold numTy wx w' vv s.vot) := hid (fun s wx F r h => HP.base h.is h.b)
  have HTe : Hid (∀ (s : Rl) k tk, I64' k → termL s k = some tk → ∀ wx F r, Lg R w wx F r s → Calls Try.prog 28 #[.pointer (some ⟨r, 0, none⟩), .int .i64 k] wx fun e w' => e = .returned (.tuple #[.int .i64 tk, .bool true]) ∧ Below wx.heap.size wx w') := hid (fun s k tk hk ht wx F r h => by have := HP.term k h.is h.b hk; rw [ht] at this; exact this)
  have HVo : Hid (∀ (s : Rl) k V, I64' k → votersL s k = V → ∀ wx F r, Lg R w wx F r s → Calls Try.prog 30 #[.pointer (some ⟨r, 0, none⟩), .int .i64 k] wx fun e w' => ∃ vv, e = .returned vv ∧ RTold numTy wx w' vv V) := hid (fun s k V hk hV wx F r h => by have := HP.voters k h.is h.b hk; rw [hV] at this; exact this)
  have HG1 := hid hb1
  have HGL := hid (And.intro hgb (And.intro hla hgl))
  have HG2 := hid hg2
  have HIX := hid (And.intro hix2 hlab)
  have HPB := hid pb
  have HIP := hid hix
  have HLP := hid hgla
  clear HP hbi hci h1 hi1 hl1 hs1 hls hg1 hgl hb1 hgb hgla hpk ppk hix2 hlab hg2 hB2 hla hix pb
  go_enter Try.func5, Try.ntmps5
  go_upto_region 6 with (first
      | (go_at_call 9; (with_reducible refine HS.out.mono ?_); rintro e w1 ⟨rfl, hb1⟩)
      | (go_at_call 10; (with_reducible refine (HSm1.out _ hb1).mono ?_); rintro e w2 ⟨rfl, rfl⟩)
      | (go_at_call 14; (with_reducible refine (HBs1.out _).mono ?_); rintro e w3 ⟨ga, rfl, hm⟩; have HX1 := hid (bx_of (b := b) (t := 1) hm); have hb3 := hb1.trans (hm.below.mono hb1.size); have HB4 := hid (hb3.alloc hb3.size (.cells #[.int .i64 (pickZ b 30), .int .i64 (pickZ 1 9), .slice (some ⟨ga, 0, none⟩) 3 3, .string bB] 33)); clear hm hb3))
  clear HBs1 HSm1 HS hb1
  generalize w3.alloc (.cells #[.int .i64 (pickZ b 30), .int .i64 (pickZ 1 9), .slice (some ⟨ga, 0, none⟩) 3 3, .string bB] 33) = wB at *
  generalize w3.heap.size = xa at *
  go_cut [10] (fun u wx => ∃ r F, u = .pointer (some ⟨r, 0, none⟩) ∧ Hid (Lg R w wx F r g1 ∧ BxAt wx xa ga b 1 ∧ ¬ F xa ∧ ¬ F ga))
  case first =>
    have HK := hid (fun wx (h : Below wB.heap.size wB wx) => bx_s (HX1.out.below h) h)
    have hbd : Below wB.heap.size wB wB.drew := (Below.refl _ _).drew
    have hwr := wrap_b b
    have HEc : Hid (∀ wx, Below wB.heap.size wB wx → _) := hid (fun wx h => HE1.out wx (HB4.out.trans (h.mono HB4.out.size)))
    go_region_held3 (fun wx => (wx.cell? ⟨xa, 0, none⟩ = some (.int .i64 (pickZ b 30)) ∧ wx.cell? ⟨xa, 1, none⟩ = some (.int .i64 (pickZ 1 9)) ∧ wx.cell? ⟨xa, 2, none⟩ = some (.slice (some ⟨ga, 0, none⟩) 3 3) ∧ wx.cell? ⟨xa, 3, none⟩ = some (.string bB) ∧ Below wB.heap.size wB wx))
      (first | (with_reducible exact HK.out _ hbd) | (with_reducible exact HK.out _ hbk) | (with_reducible assumption))
      (first
        | (go_at_call 11; (with_reducible refine (HEc.out _ (And.right (And.right (And.right (And.right (by assumption)))))).mono ?_); rintro e w5 ⟨ea, ec, rfl, hm⟩; have hbk : Below wB.heap.size wB w5 := Below.trans (And.right (And.right (And.right (And.right (by assumption))))) (hm.below.mono (Below.size (And.right (And.right (And.right (And.right (by assumption))))))); have HB5 := hid hbk; have HNc := hid (HN1.out w5 ga _ (HX1.out.below hbk).row hm.row.rAt); clear hm)
        | (go_at_call 13; (with_reducible refine HNc.out.mono ?_); rintro e w6 ⟨r, F, rfl, hi, hn, hbb⟩; have hbk : Below wB.heap.size wB w6 := HB5.out.trans (hbb.mono HB5.out.size); have HLG := hid (lg_made HB4.out HB5.out hi hn hbb HB1.out); have HBK := hid hbk; have HNX := hid (show ¬ F xa ∧ ¬ F ga from ⟨fun k => by have := hn _ k; have := HB5.out.size; have := HX1.out.box.lt; omega, fun k => by have := hn _ k; have := HB5.out.size; have := HX1.out.glt; omega⟩); clear hi hn hbb))
    all_goals
      go_wp2
      go_meet
      exact ⟨r, F, rfl, hid ⟨HLG.out, HX1.out.below HBK.out, HNX.out.1, HNX.out.2⟩⟩
  case rest =>
  obtain ⟨r1, F1, rfl, hq⟩ := hcut
  generalize wc = wD at *
  have HL1 := hid hq.out.1
  have HX2 := hid hq.out.2.1
  have HNx := hid hq.out.2.2
  have HBD := hid hq.out.1.below
  clear hq HX1 HB4
  go_upto_region 7 with (fail)
  go_cut [11] (fun u wx => ∃ r F, u = .pointer (some ⟨r, 0, none⟩) ∧ Hid (Lg R w wx F r g1 ∧ Lg R w wx F1 r1 g1 ∧ BxAt wx xa ga b 1 ∧ ∀ k, F k → ¬ F1 k))
  case first =>
    have HK := hid (fun wx (h : Below wD.heap.size wD wx) => bx_s (HX2.out.below h) h)
    have hbd : Below wD.heap.size wD wD.drew := (Below.refl _ _).drew
    have hwr := wrap_b b
    have HEc : Hid (∀ wx, Below wD.heap.size wD wx → _) := hid (fun wx h => HE1.out wx (HBD.out.trans (h.mono HBD.out.size)))
    go_region_held3 (fun wx => (wx.cell? ⟨xa, 0, none⟩ = some (.int .i64 (pickZ b 30)) ∧ wx.cell? ⟨xa, 1, none⟩ = some (.int .i64 (pickZ 1 9)) ∧ wx.cell? ⟨xa, 2, none⟩ = some (.slice (some ⟨ga, 0, none⟩) 3 3) ∧ wx.cell? ⟨xa, 3, none⟩ = some (.string bB) ∧ Below wD.heap.size wD wx))
      (first | (with_reducible exact HK.out _ hbd) | (with_reducible exact HK.out _ hbk) | (with_reducible assumption))
      (first
        | (go_at_call 11; (with_reducible refine (HEc.out _ (And.right (And.right (And.right (And.right (by assumption)))))).mono ?_); rintro e w5 ⟨ea, ec, rfl, hm⟩; have hbk : Below wD.heap.size wD w5 := Below.trans (And.right (And.right (And.right (And.right (by assumption))))) (hm.below.mono (Below.size (And.right (And.right (And.right (And.right (by assumption))))))); have HB5 := hid hbk; have HNc := hid (HN1.out w5 ga _ (HX2.out.below hbk).row hm.row.rAt); clear hm)
        | (go_at_call 13; (with_reducible refine HNc.out.mono ?_); rintro e w6 ⟨r, F, rfl, hi, hn, hbb⟩; have hbk : Below wD.heap.size wD w6 := HB5.out.trans (hbb.mono HB5.out.size); have HLG := hid (lg_made HBD.out HB5.out hi hn hbb HB1.out); have HBK := hid hbk; have HDJ : Hid (∀ k, F k → ¬ F1 k) := hid (fun k e e1 => by have := hn k e; have := R.lt HL1.out.is k e1; have := HB5.out.size; omega); clear hi hn hbb))
    all_goals
      go_wp2
      go_meet
      exact ⟨r, F, rfl, hid ⟨HLG.out, HL1.out.later HBK.out, HX2.out.below HBK.out, HDJ.out⟩⟩
  case rest =>
  obtain ⟨r3, F3, rfl, hq⟩ := hcut
  generalize wc = wE at *
  obtain ⟨hh, hg, hx, hdj⟩ := hq.out
  have HH := hid hh
  have HG := hid hg
  have HX3 := hid hx
  have HDJ := hid hdj
  clear HL1 HX2 HBD HE1 HN1 hq hh hg hx hdj HB1
  go_upto_region 10 with (fail)
  go_cut [12] (fun u wx => u = .int .i64 ix ∧ Hid (Below wE.heap.size wE wx))
  case first =>
    obtain ⟨k0, k1, k2, k3, -⟩ := bx_s HX3.out (Below.refl _ _)
    rw [← HIP.out] at hwp
    have HBn := hid (fun n => below_drew (Below.refl wE.heap.size wE) n)
    go_wp2
    go_quiet ((go_at_call 12; exact quiet_eq (HPk.out _)))
    all_goals
      go_wp2
      go_meet
      exact ⟨by rw [HIP.out], hid (HBn.out _)⟩
  case rest =>
  obtain ⟨rfl, hbF⟩ := hcut
  generalize wc = wF at *
  have HGF := hid (HG.out.later hbF.out)
  have HHF := hid (HH.out.later hbF.out)
  have HXF := hid (HX3.out.below hbF.out)
  have C1 := hid (HCm.out _ _ _ HGF.out)
  clear HG HH HX3 hbF HPk HCm
  go_upto_region 12 with (first
    | (go_at_call 26; (with_reducible refine C1.out.mono ?_); rintro e w7 ⟨rfl, F2, hL, hch, hF⟩; have L4 := hid hL; have H4 := hid (HHF.out.beside hch (fun k e => HGF.out.new k e) (fun k e => HDJ.out k e)); have X4 := hid (HXF.out.turn hch HNx.out.1 HNx.out.2); clear hL hch hF))
  obtain ⟨k0, k1, k2, k3, -⟩ := bx_s X4.out (Below.refl _ _)
  have hbk : Below w7.heap.size w7 w7 := Below.refl _ _
  have KLh : Hid (∀ wx, Below w7.heap.size w7 wx → Calls Try.prog 24 #[.pointer (some ⟨r3, 0, none⟩)] wx fun e w' => e = .returned (.int .i64 la) ∧ Below wx.heap.size wx w') := hid (fun wx h => by have := HLa.out g1 _ _ _ (H4.out.later h); rw [HGL.out.2.1] at this; exact this)
  obtain ⟨W0, hW0⟩ : ∃ W, sliceL g1 (pickZ b 30 + 1) 1000 = W := ⟨_, rfl⟩
  have HWl : Hid (W0.length ≤ maxLen) := hid (by rw [← hW0]; have := sliceL_len g1 (pickZ b 30 + 1) 1000; have := HGL.out.2.2; unfold maxLen; omega)
  have HW0 := hid hW0
  clear HGF HHF HXF C1 HDJ HNx hW0
  by_cases h0 : ix = pickZ b 30
  · have hc := HG2.out
    rw [compact_bad _ (.inl (h0.trans HGL.out.1.symm))] at hc
    cases hc
    have q1 : (ix == pickZ b 30) = true := by rw [h0]; exact beq_self_eq_true _
    have HI0 := hid h0
    clear h0
    go_upto_region 13 with (fail)
    have KSg := hid (fun wx (h : Below w7.heap.size w7 wx) => HSl.out g1 (pickZ b 30 + 1) 1000 W0 (by have := HPB.out; exact ⟨by omega, by omega⟩) ⟨by decide, by decide⟩ HW0.out wx F2 r1 (L4.out.later h))
    have KSh := hid (fun wx (h : Below w7.heap.size w7 wx) => HSl.out g1 (pickZ b 30 + 1) 1000 W0 (by have := HPB.out; exact ⟨by omega, by omega⟩) ⟨by decide, by decide⟩ HW0.out wx F3 r3 (H4.out.later h))
    have HFin := hid (fun wx (h : Below w7.heap.size w7 wx) => (L4.out.later h).below)
    have hwr := wrap_b b
    have HK := hid (fun wx (h : Below w7.heap.size w7 wx) => bx_s (X4.out.below h) h)
    have hbd := hbk.drew
    clear hbk k0 k1 k2 k3
    go_region_held3 (fun wx => (wx.cell? ⟨xa, 0, none⟩ = some (.int .i64 (pickZ b 30)) ∧ wx.cell? ⟨xa, 1, none⟩ = some (.int .i64 (pickZ 1 9)) ∧ wx.cell? ⟨xa, 2, none⟩ = some (.slice (some ⟨ga, 0, none⟩) 3 3) ∧ wx.cell? ⟨xa, 3, none⟩ = some (.string bB) ∧ Below w7.heap.size w7 wx))
      (first | (with_reducible exact HK.out _ hbd) | (with_reducible exact HK.out _ hbk) | (with_reducible assumption))
      (first
        | (go_at_call 19; (with_reducible refine (KSg.out _ (And.right (And.right (And.right (And.right (by assumption)))))).mono ?_); rintro e w8 ⟨sa, sc, rfl, hm⟩; have hbk : Below w7.heap.size w7 w8 := Below.trans (And.right (And.right (And.right (And.right (by assumption))))) (hm.below.mono (Below.size (And.right (And.right (And.right (And.right (by assumption))))))); have HR8 := hid hm.row.rAt; clear hm)
        | (go_at_call 19; (with_reducible refine (KSh.out _ (And.right (And.right (And.right (And.right (by assumption)))))).mono ?_); rintro e w9 ⟨ta, tc, rfl, hm⟩; have hbk : Below w7.heap.size w7 w9 := Below.trans (And.right (And.right (And.right (And.right (by assumption))))) (hm.below.mono (Below.size (And.right (And.right (And.right (And.right (by assumption))))))); have KS9 := hid (same_same (HR8.out.below hm.below) hm.row.rAt HWl.out); clear hm)
        | (go_at_call 18; (with_reducible refine KS9.out.mono ?_); rintro e w10 ⟨rfl, hb8⟩; have hbk : Below w7.heap.size w7 w10 := Below.trans (And.right (And.right (And.right (And.right (by assumption))))) (hb8.mono (Below.size (And.right (And.right (And.right (And.right (by assumption))))))); have HBK := hid hbk))
    all_goals
      go_wp2
      go_ret
      exact ⟨rfl, HFin.out _ HBK.out⟩
  · have q1 : (ix == pickZ b 30) = false := beq_false_of_ne h0
    by_cases h2 : la < ix
    · have hc := HG2.out
      rw [compact_bad _ (.inr (by rw [HGL.out.2.1]; exact h2))] at hc
      cases hc
      have HI0 := hid h0
      clear h0
      go_upto_region 13 with (first | (go_at_call 24; (with_reducible refine (KLh.out _ hbk).mono ?_); rintro e w8 ⟨rfl, hb⟩; replace hbk := hbk.trans (hb.mono hbk.size); clear hb))
      obtain ⟨k0, k1, k2, k3, -⟩ := bx_s (X4.out.below hbk) (Below.refl _ _)
      have KSg := hid (fun wx (h : Below w7.heap.size w7 wx) => HSl.out g1 (pickZ b 30 + 1) 1000 W0 (by have := HPB.out; exact ⟨by omega, by omega⟩) ⟨by decide, by decide⟩ HW0.out wx F2 r1 (L4.out.later h))
      have KSh := hid (fun wx (h : Below w7.heap.size w7 wx) => HSl.out g1 (pickZ b 30 + 1) 1000 W0 (by have := HPB.out; exact ⟨by omega, by omega⟩) ⟨by decide, by decide⟩ HW0.out wx F3 r3 (H4.out.later h))
      have HFin := hid (fun wx (h : Below w7.heap.size w7 wx) => (L4.out.later h).below)
      have hwr := wrap_b b
      have HK := hid (fun wx (h : Below w7.heap.size w7 wx) => bx_s (X4.out.below h) h)
      have hbd := hbk.drew
      clear hbk k0 k1 k2 k3
      go_region_held3 (fun wx => (wx.cell? ⟨xa, 0, none⟩ = some (.int .i64 (pickZ b 30)) ∧ wx.cell? ⟨xa, 1, none⟩ = some (.int .i64 (pickZ 1 9)) ∧ wx.cell? ⟨xa, 2, none⟩ = some (.slice (some ⟨ga, 0, none⟩) 3 3) ∧ wx.cell? ⟨xa, 3, none⟩ = some (.string bB) ∧ Below w7.heap.size w7 wx))
        (first | (with_reducible exact HK.out _ hbd) | (with_reducible exact HK.out _ hbk) | (with_reducible assumption))
        (first
          | (go_at_call 19; (with_reducible refine (KSg.out _ (And.right (And.right (And.right (And.right (by assumption)))))).mono ?_); rintro e w8 ⟨sa, sc, rfl, hm⟩; have hbk : Below w7.heap.size w7 w8 := Below.trans (And.right (And.right (And.right (And.right (by assumption))))) (hm.below.mono (Below.size (And.right (And.right (And.right (And.right (by assumption))))))); have HR8 := hid hm.row.rAt; clear hm)
          | (go_at_call 19; (with_reducible refine (KSh.out _ (And.right (And.right (And.right (And.right (by assumption)))))).mono ?_); rintro e w9 ⟨ta, tc, rfl, hm⟩; have hbk : Below w7.heap.size w7 w9 := Below.trans (And.right (And.right (And.right (And.right (by assumption))))) (hm.below.mono (Below.size (And.right (And.right (And.right (And.right (by assumption))))))); have KS9 := hid (same_same (HR8.out.below hm.below) hm.row.rAt HWl.out); clear hm)
          | (go_at_call 18; (with_reducible refine KS9.out.mono ?_); rintro e w10 ⟨rfl, hb8⟩; have hbk : Below w7.heap.size w7 w10 := Below.trans (And.right (And.right (And.right (And.right (by assumption))))) (hb8.mono (Below.size (And.right (And.right (And.right (And.right (by assumption))))))); have HBK := hid hbk))
      all_goals
        go_wp2
        go_ret
        exact ⟨rfl, HFin.out _ HBK.out⟩
    · have h3 : ix ≤ la := by omega
      have hbl : g1.bi < ix := by have := HIX.out.1.1; have := HGL.out.1; omega
      have hll : ix ≤ g1.last := by rw [HGL.out.2.1]; exact h3
      have hc := HG2.out
      have hla2 := compact_last (g := g1) ⟨#[100]⟩ hbl hll
      have hsl2 := fun m => compact_slice (g := g1) ⟨#[100]⟩ hbl hll m
      have hte2 := fun k hk => compact_term (g := g1) ⟨#[100]⟩ hbl hll k hk
      have hvo2 := fun k hk => compact_voters (g := g1) ⟨#[100]⟩ HG1.out.ok.rises hbl hll k hk
      have hgo := compact_good (g := g1) ⟨#[100]⟩ hbl hll
      rw [hc] at hla2 hsl2 hte2 hvo2
      have he2 : e2 = 0 := by rw [hgo] at hc; exact (congrArg Prod.fst hc).symm
      have hg2b : g2.bi = ix ∧ g2.bd = ⟨#[100]⟩ := by rw [hgo] at hc; have := congrArg Prod.snd hc; simp only at this; rw [← this]; exact ⟨rfl, rfl⟩
      subst he2
      have KLg : Hid (∀ wx, Below w7.heap.size w7 wx → Calls Try.prog 24 #[.pointer (some ⟨r1, 0, none⟩)] wx fun e w' => e = .returned (.int .i64 la) ∧ Below wx.heap.size wx w') := hid (fun wx h => by have := HLa.out g2 _ _ _ (L4.out.later h); rw [show g2.last = la from hla2.trans HGL.out.2.1] at this; exact this)
      have KBg : Hid (∀ wx, Below w7.heap.size w7 wx → Calls Try.prog 27 #[.pointer (some ⟨r1, 0, none⟩)] wx fun e w' => ∃ vv, e = .returned (.agg #[.int .i64 ix, .int .i64 g2.bt, vv, .string ⟨#[100]⟩]) ∧ Below wx.heap.size wx w') := hid (fun wx h => by have := HBa.out g2 _ _ _ (L4.out.later h); rw [hg2b.1, hg2b.2] at this; exact this.mono fun e w' ⟨vv, he, hm⟩ => ⟨vv, he, hm.below⟩)
      have KS9 : Hid (∀ wx, Below w7.heap.size w7 wx → Calls Try.prog 19 #[.pointer (some ⟨r1, 0, none⟩), .int .i64 ix, .int .i64 9] wx fun e w' => ∃ a c, e = .returned (.slice a 0 c) ∧ Below wx.heap.size wx w') := hid (fun wx h => (HSl.out g2 ix 9 [] (by have := HIX.out; have := HPB.out; exact ⟨by omega, by omega⟩) ⟨by decide, by decide⟩ (hsl2 9).2 _ _ _ (L4.out.later h)).mono fun e w' ⟨a, c, he, hm⟩ => ⟨a, c, he, hm.below⟩)
      obtain ⟨W1, hW1⟩ : ∃ W, sliceL g1 (ix + 1) 1000 = W := ⟨_, rfl⟩
      have HW1l : Hid (W1.length ≤ maxLen) := hid (by rw [← hW1]; have := sliceL_len g1 (ix + 1) 1000; have := HGL.out.2.2; unfold maxLen; omega)
      have KSg := hid (fun wx (h : Below w7.heap.size w7 wx) => HSl.out g2 (ix + 1) 1000 W1 (by have := HIX.out; have := HPB.out; exact ⟨by omega, by omega⟩) ⟨by decide, by decide⟩ ((hsl2 1000).1.trans hW1) wx F2 r1 (L4.out.later h))
      have KSh := hid (fun wx (h : Below w7.heap.size w7 wx) => HSl.out g1 (ix + 1) 1000 W1 (by have := HIX.out; have := HPB.out; exact ⟨by omega, by omega⟩) ⟨by decide, by decide⟩ hW1 wx F3 r3 (H4.out.later h))
      have KT : Hid (∀ k, ix ≤ k → k ≤ la → ∃ tk, (∀ wx, Below w7.heap.size w7 wx → Calls Try.prog 28 #[.pointer (some ⟨r1, 0, none⟩), .int .i64 k] wx fun e w' => e = .returned (.tuple #[.int .i64 tk, .bool true]) ∧ Below wx.heap.size wx w') ∧ ∀ wx, Below w7.heap.size w7 wx → Calls Try.prog 28 #[.pointer (some ⟨r3, 0, none⟩), .int .i64 k] wx fun e w' => e = .returned (.tuple #[.int .i64 tk, .bool true]) ∧ Below wx.heap.size wx w') := hid (fun k hk1 hk2 => by
        have hi : I64' k := by have := HIX.out; have := HPB.out; exact ⟨by omega, by omega⟩
        obtain ⟨tk, ht⟩ := termL_some (g := g1) (i := k) (by omega) (by rw [HGL.out.2.1]; exact hk2)
        exact ⟨tk, fun wx h => HTe.out g2 k tk hi ((hte2 k hk1).trans ht) _ _ _ (L4.out.later h), fun wx h => HTe.out g1 k tk hi ht _ _ _ (H4.out.later h)⟩)
      have KV : Hid (∀ k, ix ≤ k → k ≤ la → ∃ V : List Int, V.length ≤ maxLen ∧ (∀ wx, Below w7.heap.size w7 wx → Calls Try.prog 30 #[.pointer (some ⟨r1, 0, none⟩), .int .i64 k] wx fun e w' => ∃ vv, e = .returned vv ∧ RTold numTy wx w' vv V) ∧ ∀ wx, Below w7.heap.size w7 wx → Calls Try.prog 30 #[.pointer (some ⟨r3, 0, none⟩), .int .i64 k] wx fun e w' => ∃ vv, e = .returned vv ∧ RTold numTy wx w' vv V) := hid (fun k hk1 hk2 => by
        have hi : I64' k := by have := HIX.out; have := HPB.out; exact ⟨by omega, by omega⟩
        exact ⟨votersL g1 k, by have := (votersIn_b g1.ents g1.vot k HG1.out.vot HG1.out.vl).2; unfold maxLen; unfold votersL; omega, fun wx h => HVo.out g2 k _ hi (hvo2 k hk1) _ _ _ (L4.out.later h), fun wx h => HVo.out g1 k _ hi rfl _ _ _ (H4.out.later h)⟩)
      have HFin := hid (fun wx (h : Below w7.heap.size w7 wx) => (L4.out.later h).below)
      have hf0 := fun wx x1 vb x3 => base_field0 wx (.int .i64 ix) x1 vb x3 ⟨_, rfl⟩
      have hf3 := fun wx x0 x1 vb => base_field3 wx x0 x1 vb (.string ⟨#[100]⟩) ⟨_, rfl⟩
      have ql : (la != la) = false := bne_self_eq_false _
      have qi : (ix != ix) = false := bne_self_eq_false _
      have qd : (!((⟨#[100]⟩ : ByteArray).toList == (⟨#[100]⟩ : ByteArray).toList)) = false := by rw [beq_self_eq_true]; rfl
      obtain ⟨⟨hi1, hi2⟩, hi3⟩ := HIX.out
      have hi0 := HPB.out.1
      have hwx : IntKind.i64.wrap (ix + 1) = ix + 1 := by rw [IntKind.wrap_i64]; omega
      have HI := hid (And.intro hi1 (And.intro hi2 (And.intro hi3 hi0)))
      clear HSl HLa HBa HTe HVo HG1 HGL HG2 HIX HPB HIP HLP HLen HW0 HWl hc hla2 hsl2 hte2 hvo2 hgo hg2b hbl hll hW1 h0 h2 hi1 hi2 hi3 hi0 hwl
      go_upto_region 17 with (first
        | (go_at_call 24; (with_reducible refine (KLh.out _ hbk).mono ?_); rintro e w8 ⟨rfl, hb⟩; replace hbk := hbk.trans (hb.mono hbk.size); clear hb)
        | (go_at_call 24; (with_reducible refine (KLg.out _ hbk).mono ?_); rintro e w8 ⟨rfl, hb⟩; replace hbk := hbk.trans (hb.mono hbk.size); clear hb)
        | (go_at_call 27; (with_reducible refine (KBg.out _ hbk).mono ?_); rintro e w8 ⟨vb, rfl, hb⟩; replace hbk := hbk.trans (hb.mono hbk.size); clear hb)
        | (go_at_call 19; (with_reducible refine (KS9.out _ hbk).mono ?_); rintro e w8 ⟨sa, sc, rfl, hb⟩; replace hbk := hbk.trans (hb.mono hbk.size); clear hb))
      go_loopw [14] (CoRel w7 ix la) (fun u _ => (la + 1 - intOf u).toNat)
      case atStart => exact ⟨ix, Int.le_refl _, by omega, rfl, hid hbk⟩
      case round =>
        clear hbk
        obtain ⟨k, hk1, hk2, rfl, hbw⟩ := hrel
        have hbk := hbw.out
        by_cases hkl : k ≤ la
        · obtain ⟨tk, hT1, hT3⟩ := KT.out k hk1 hkl
          obtain ⟨V, hVl, hV1, hV3⟩ := KV.out k hk1 hkl
          have KT1 := hid hT1
          have KT3 := hid hT3
          have KV1 := hid hV1
          have KV3 := hid hV3
          have HVl := hid hVl
          have qt : (tk != tk) = false := bne_self_eq_false _
          have hwk : IntKind.i64.wrap (k + 1) = k + 1 := by have := HI.out; rw [IntKind.wrap_i64]; omega
          clear hT1 hT3 hV1 hV3 hVl
          go_wp2_with (first
            | (go_at_call 24; (with_reducible refine (KLh.out _ hbk).mono ?_); rintro e w8 ⟨rfl, hb⟩; replace hbk := hbk.trans (hb.mono hbk.size); clear hb)
            | (go_at_call 28; (with_reducible refine (KT1.out _ hbk).mono ?_); rintro e w8 ⟨rfl, hb⟩; replace hbk := hbk.trans (hb.mono hbk.size); clear hb)
            | (go_at_call 28; (with_reducible refine (KT3.out _ hbk).mono ?_); rintro e w8 ⟨rfl, hb⟩; replace hbk := hbk.trans (hb.mono hbk.size); clear hb)
            | (go_at_call 30; (with_reducible refine (KV1.out _ hbk).mono ?_); rintro e w8 ⟨vv, rfl, hm⟩; replace hbk := hbk.trans (hm.below.mono hbk.size); have HR8 := hid hm.row.rAt; clear hm)
            | (go_at_call 30; (with_reducible refine (KV3.out _ hbk).mono ?_); rintro e w9 ⟨vu, rfl, hm⟩; replace hbk := hbk.trans (hm.below.mono hbk.size); have KS := hid (sameInts_same (HR8.out.below hm.below) hm.row.rAt HVl.out); clear hm)
            | (go_at_call 29; (with_reducible refine KS.out.mono ?_); rintro e w10 ⟨rfl, hb⟩; replace hbk := hbk.trans (hb.mono hbk.size); clear hb))
          go_roundw
          case rel => exact ⟨k + 1, by omega, by omega, rfl, hid hbk⟩
          case measure => simp [intOf]; omega
        · have hkl2 : la < k := by omega
          go_wp2_with (first
            | (go_at_call 24; (with_reducible refine (KLh.out _ hbk).mono ?_); rintro e w8 ⟨rfl, hb⟩; replace hbk := hbk.trans (hb.mono hbk.size); clear hb)
            | (go_at_call 19; (with_reducible refine (KSg.out _ hbk).mono ?_); rintro e w8 ⟨sa, sc, rfl, hm⟩; replace hbk := hbk.trans (hm.below.mono hbk.size); have HR8 := hid hm.row.rAt; clear hm)
            | (go_at_call 19; (with_reducible refine (KSh.out _ hbk).mono ?_); rintro e w9 ⟨ta, tc, rfl, hm⟩; replace hbk := hbk.trans (hm.below.mono hbk.size); have KS := hid (same_same (HR8.out.below hm.below) hm.row.rAt HW1l.out); clear hm)
            | (go_at_call 18; (with_reducible refine KS.out.mono ?_); rintro e w10 ⟨rfl, hb⟩; replace hbk := hbk.trans (hb.mono hbk.size); clear hb))
          go_ret
          exact ⟨rfl, HFin.out _ hbk⟩
set_option maxHeartbeats 4000000 in
theorem rlogCompacts_walk {R : RlRep} (HP : RlProg R) (b c : Int) (v1 : Value) (l : List Pa) (w : World) (hbi : I64' b) (h1 : RAt pTy w v1 l) (hi1 : ∀ p ∈ l, PaIn w p) (hl1 : l.length ≤ maxLen) (hci : I64' c) :
    Calls Try.prog 5 #[.int .i64 b, v1, .int .i64 c] w (ShownPost w) := by
  by_cases hs : smallP l = true
  · exact rlogCompacts_main HP b c v1 l w hbi hci h1 hi1 hl1 hs
  have HS := hid (shown_any HP w)
  have HSm0 : Hid (∀ wx, Below w.heap.size w wx → Calls Try.prog 10 #[v1] wx fun e w' => e = .returned (.bool (smallP l)) ∧ wx = w') := hid (fun wx h => small_any wx v1 l (h1.below h) hl1)
  obtain ⟨s0, hs0⟩ : ∃ s, smallP l = s := ⟨_, rfl⟩
  rw [hs0] at HSm0 hs
  have HH := hid hs
  clear HP hs hs0
  cases s0 with
  | true => exact absurd rfl HH.out
  | false =>
    go_enter Try.func5, Try.ntmps5
    go_wp2_with (first | (go_at_call 9; (with_reducible refine HS.out.mono ?_); rintro e w1 ⟨rfl, hb1⟩) | (go_at_call 10; (with_reducible refine (HSm0.out _ hb1).mono ?_); rintro e w2 ⟨rfl, rfl⟩))
    go_ret
    exact ⟨rfl, hb1⟩
end Go.Proofs.Ytiffdhihhggkhaa
