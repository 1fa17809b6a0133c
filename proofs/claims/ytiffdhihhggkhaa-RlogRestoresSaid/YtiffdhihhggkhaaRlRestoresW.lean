/-
  LAYER 8 (rlog), the law RlogRestores: its walk. (Written by wip/tools/gen8_laws.py.)
-/
import Derived.Test.YtiffdhihhggkhaaMq5
import Derived.Deep.RegionHeld3
import Derived.BigQuiet
import Derived.Deep.DeepCutAuto
import Derived.Deep.CutRange
namespace Go.Proofs.Ytiffdhihhggkhaa
open Go.RowKit
set_option linter.unusedVariables false
set_option maxRecDepth 100000

set_option maxHeartbeats 16000000 in
theorem rlogRestores_main {R : RlRep} (HP : RlProg R) (b i t : Int) (v1 : Value) (l : List Pa) (w : World) (hbi : I64' b) (hii : I64' i) (hti : I64' t) (h1 : RAt pTy w v1 l) (hi1 : ∀ p ∈ l, PaIn w p) (hl1 : l.length ≤ maxLen) (hs1 : smallP l = true) :
    Calls Try.prog 6 #[.int .i64 b, v1, .int .i64 i, .int .i64 t] w (ShownPost w) := by
  have HS := hid (shown_any HP w)
  have HSm1 : Hid (∀ wx, Below w.heap.size w wx → Calls Try.prog 10 #[v1] wx fun e w' => e = .returned (.bool true) ∧ wx = w') := hid (fun wx h => by have := small_any wx v1 l (h1.below h) hl1; rw [hs1] at this; exact this)
  have HBs1 := hid (fun wx => base_any b 1 wx hbi ⟨by decide, by decide⟩)
  have pb := pickZ_range b 30 (by omega)
  have HE1 := hid (fun wx (h : Below w.heap.size w wx) => entries_at h1 hi1 hs1 (pickZ b 30 + 1) (by omega) wx h)
  have HN1 := hid (fun wx g ev hv he => new_at HP hi1 hs1 b 1 (wx := wx) g ev hv he)
  have hb1 := logOf_b b 1 hi1 hs1
  have HB1 := hid hb1
  have hls := (smallP_of hs1).1
  obtain ⟨g1, hg1⟩ : ∃ g, logOf b 1 l = g := ⟨_, rfl⟩
  have hgl : g1.ents.length ≤ 60 := by rw [← hg1]; show (entsE l _).length ≤ 60; rw [entsE_len]; exact hls
  rw [hg1] at HN1 HB1 hb1
  have HBs2 := hid (fun wx => base_any i t wx hii hti)
  have py := pickZ_range i 30 (by omega)
  have pt := pickZ_range t 9 (by omega)
  obtain ⟨W, hW⟩ : ∃ W, sliceL g1 (pickZ i 30 + 1) 1000 = W := ⟨_, rfl⟩
  have hWl : W.length ≤ 60 := by rw [← hW]; have := sliceL_len g1 (pickZ i 30 + 1) 1000; omega
  obtain ⟨kp, hkp⟩ : ∃ k, (restoreL g1 (pickZ i 30) (pickZ t 9) [1, 2, 3] bB).1 = k := ⟨_, rfl⟩
  obtain ⟨g2, hg2⟩ : ∃ k, (restoreL g1 (pickZ i 30) (pickZ t 9) [1, 2, 3] bB).2 = k := ⟨_, rfl⟩
  have hkeep := restore_keep (g := g1) (bi := pickZ i 30) (bt := pickZ t 9) [1, 2, 3] bB
  have hB2 : RlB g2 := by
    rw [← hg2]
    refine ⟨restore_ok hb1.ok _ _ _ _ py.1, by show pickZ i 30 ≤ _; omega, ?_, ⟨by show _ ≤ pickZ t 9; omega, by show pickZ t 9 ≤ _; omega⟩, fun x hx => by
      have hx2 : x ∈ ([1, 2, 3] : List Int) := hx
      simp at hx2
      rcases hx2 with rfl | rfl | rfl <;> exact ⟨by decide, by decide⟩, by show ([1, 2, 3] : List Int).length ≤ 1000; decide, by show bB.size ≤ _; decide, fun e he => ?_⟩
    · show (if _ then _ else _ : List Me).length ≤ 5000
      split
      · rw [List.length_drop]; omega
      · simp
    · have he2 : e ∈ (if termL g1 (pickZ i 30) = some (pickZ t 9) then g1.ents.drop (pickZ i 30 - g1.bi).toNat else []) := he
      split at he2
      · exact hb1.ents e (List.mem_of_mem_drop he2)
      · simp at he2
  have HTe : Hid (∀ wx F r, Lg R w wx F r g1 → Calls Try.prog 28 #[.pointer (some ⟨r, 0, none⟩), .int .i64 (pickZ i 30)] wx fun e w' => e = .returned (.tuple #[.int .i64 ((termL g1 (pickZ i 30)).getD 0), .bool (termL g1 (pickZ i 30)).isSome]) ∧ Below wx.heap.size wx w') := hid (fun wx F r h => HP.term _ h.is h.b ⟨by omega, by omega⟩)
  have HSl : Hid (∀ wx F r, Lg R w wx F r g1 → Calls Try.prog 19 #[.pointer (some ⟨r, 0, none⟩), .int .i64 (pickZ i 30 + 1), .int .i64 1000] wx fun e w' => ∃ a c, e = .returned (.slice a W.length c) ∧ RMid enTy wx w' (.slice a W.length c) W) := hid (fun wx F r h => by
    have := HP.slice (pickZ i 30 + 1) 1000 h.is h.b ⟨by omega, by omega⟩ ⟨by decide, by decide⟩
    rw [hW] at this
    refine this.mono fun e w' ⟨vv, he, hm⟩ => ?_
    obtain ⟨a, c, rfl, _⟩ := hm.row.slice
    exact ⟨a, c, he, hm⟩)
  have HRs : Hid (∀ wx F r y, Lg R w wx F r g1 → Apart numTy wx F (.slice (some ⟨y, 0, none⟩) 3 3) [1, 2, 3] → Calls Try.prog 31 #[.pointer (some ⟨r, 0, none⟩), .agg #[.int .i64 (pickZ i 30), .int .i64 (pickZ t 9), .slice (some ⟨y, 0, none⟩) 3 3, .string bB]] wx (MtPost R w wx F r (.bool kp) g2)) := hid (fun wx F r y h ha => by
    have := HP.restore (pickZ i 30) (pickZ t 9) _ [1, 2, 3] bB h.is h.b ha py.1 (by omega) ⟨by omega, by omega⟩ (fun x hx => by simp at hx; rcases hx with rfl | rfl | rfl <;> exact ⟨by decide, by decide⟩) (by decide) (by decide)
    rw [hkp, hg2] at this
    exact mt_of h hB2 this)
  have HEnd : Hid (kp = false → g2 = ⟨pickZ i 30, pickZ t 9, [1, 2, 3], bB, []⟩) := hid (fun h => by rw [← hg2]; exact restore_no _ _ (hkp.trans h))
  have HEnd2 : Hid (kp = true → sliceL g2 (pickZ i 30 + 1) 1000 = W ∧ g2.last = pickZ i 30 + W.length) := hid (fun h => by rw [← hg2, ← hW]; exact restore_yes _ _ (hkp.trans h) (by omega))
  have HLa2 : Hid (∀ wx F r, Lg R w wx F r g2 → Calls Try.prog 24 #[.pointer (some ⟨r, 0, none⟩)] wx fun e w' => e = .returned (.int .i64 g2.last) ∧ Below wx.heap.size wx w') := hid (fun wx F r h => HP.last h.is h.b)
  have HSl2 : Hid (∀ m, I64' m → ∀ wx F r, Lg R w wx F r g2 → Calls Try.prog 19 #[.pointer (some ⟨r, 0, none⟩), .int .i64 (pickZ i 30 + 1), .int .i64 m] wx fun e w' => ∃ a c, e = .returned (.slice a (sliceL g2 (pickZ i 30 + 1) m).length c) ∧ RMid enTy wx w' (.slice a (sliceL g2 (pickZ i 30 + 1) m).length c) (sliceL g2 (pickZ i 30 + 1) m)) := hid (fun m hm wx F r h => by
    refine (HP.slice (pickZ i 30 + 1) m h.is h.b ⟨by omega, by omega⟩ hm).mono fun e w' ⟨vv, he, hm⟩ => ?_
    obtain ⟨a, c, rfl, _⟩ := hm.row.slice
    exact ⟨a, c, he, hm⟩)
  have HBa2 : Hid (∀ wx F r, Lg R w wx F r g2 → Calls Try.prog 27 #[.pointer (some ⟨r, 0, none⟩)] wx fun e w' => ∃ vv, e = .returned (baseV g2.bi g2.bt vv g2.bd) ∧ RTold numTy wx w' vv g2.vot) := hid (fun wx F r h => HP.base h.is h.b)
  have hwy : IntKind.i64.wrap (pickZ i 30 + 1) = pickZ i 30 + 1 := wrap_b i
  obtain ⟨ot, hot⟩ : ∃ o, termL g1 (pickZ i 30) = o := ⟨_, rfl⟩
  rw [hkp, hot] at hkeep
  rw [hot] at HTe
  have HKP := hid hkeep
  have HWL := hid hWl
  have HPy := hid (And.intro py pt)
  clear HP hbi hii hti h1 hi1 hl1 hs1 hls hg1 hgl hb1 pb hkeep hkp hg2 hB2 hot hW hWl py pt
  go_enter Try.func6, Try.ntmps6
  go_upto_region 6 with (first
      | (go_at_call 9; (with_reducible refine HS.out.mono ?_); rintro e w1 ⟨rfl, hb1⟩)
      | (go_at_call 10; (with_reducible refine (HSm1.out _ hb1).mono ?_); rintro e w2 ⟨rfl, rfl⟩)
      | (go_at_call 14; (with_reducible refine (HBs1.out _).mono ?_); rintro e w3 ⟨ga, rfl, hm⟩; have HX1 := hid (bx_of (b := b) (t := 1) hm); have hb3 := hb1.trans (hm.below.mono hb1.size); have HB4 := hid (hb3.alloc hb3.size (.cells #[.int .i64 (pickZ b 30), .int .i64 (pickZ 1 9), .slice (some ⟨ga, 0, none⟩) 3 3, .string bB] 33)); clear hm hb3))
  clear HBs1 HSm1 HS hb1
  generalize w3.alloc (.cells #[.int .i64 (pickZ b 30), .int .i64 (pickZ 1 9), .slice (some ⟨ga, 0, none⟩) 3 3, .string bB] 33) = wB at *
  generalize w3.heap.size = xa at *
  go_cut [12] (fun u wx => ∃ r F, u = .pointer (some ⟨r, 0, none⟩) ∧ Hid (Lg R w wx F r g1 ∧ BxAt wx xa ga b 1))
  case first =>
    have HK := hid (fun wx (h : Below wB.heap.size wB wx) => bx_s (HX1.out.below h) h)
    have hbd : Below wB.heap.size wB wB.drew := (Below.refl _ _).drew
    have hwr := wrap_b b
    have HEc : Hid (∀ wx, Below wB.heap.size wB wx → _) := hid (fun wx h => HE1.out wx (HB4.out.trans (h.mono HB4.out.size)))
    go_region_held3 (fun wx => (wx.cell? ⟨xa, 0, none⟩ = some (.int .i64 (pickZ b 30)) ∧ wx.cell? ⟨xa, 1, none⟩ = some (.int .i64 (pickZ 1 9)) ∧ wx.cell? ⟨xa, 2, none⟩ = some (.slice (some ⟨ga, 0, none⟩) 3 3) ∧ wx.cell? ⟨xa, 3, none⟩ = some (.string bB) ∧ Below wB.heap.size wB wx))
      (first | (with_reducible exact HK.out _ hbd) | (with_reducible exact HK.out _ hbk) | (with_reducible assumption))
      (first
        | (go_at_call 11; (with_reducible refine (HEc.out _ (And.right (And.right (And.right (And.right (by assumption)))))).mono ?_); rintro e w5 ⟨ea, ec, rfl, hm⟩; have hbk : Below wB.heap.size wB w5 := Below.trans (And.right (And.right (And.right (And.right (by assumption))))) (hm.below.mono (Below.size (And.right (And.right (And.right (And.right (by assumption))))))); have HB5 := hid hbk; have HNc := hid (HN1.out w5 ga _ (HX1.out.below hbk).row hm.row.rAt); clear hm)
        | (go_at_call 13; (with_reducible refine HNc.out.mono ?_); rintro e w6 ⟨r, F, rfl, hi, hn, hbb⟩; have hbk : Below wB.heap.size wB w6 := HB5.out.trans (hbb.mono HB5.out.size); have HLG := hid (lg_made HB4.out HB5.out hi hn hbb HB1.out); have HBK := hid hbk; clear hi hn hbb))
    all_goals
      go_wp2
      go_meet
      exact ⟨r, F, rfl, hid ⟨HLG.out, HX1.out.below HBK.out⟩⟩
  case rest =>
  obtain ⟨r1, F1, rfl, hq⟩ := hcut
  generalize wc = wD at *
  clear HX1 HB4 HE1 HN1
  go_upto_region 13 with (first
    | (go_at_call 14; (with_reducible refine (HBs2.out _).mono ?_); rintro e w4 ⟨gy, rfl, hm⟩; have HX2 := hid (bx_of (b := i) (t := t) hm); have HNy := hid (bx_new (F := F1) hm (fun k e => R.lt hq.out.1.is k e)); have hb4 := hm.below.trans ((Below.refl _ _).alloc hm.below.size (.cells #[.int .i64 (pickZ i 30), .int .i64 (pickZ t 9), .slice (some ⟨gy, 0, none⟩) 3 3, .string bB] 33)); have L1 := hid (hq.out.1.later hb4); have C1 := hid (HTe.out _ _ _ L1.out); obtain ⟨k0, k1, k2, k3, -⟩ := bx_s HX2.out (Below.refl _ _); clear hm hb4)
    | (go_at_call 28; (with_reducible refine C1.out.mono ?_); rintro e w5 ⟨rfl, hb⟩; have L2 := hid (L1.out.later hb); have HX3 := hid (HX2.out.below hb); have C2 := hid (HSl.out _ _ _ L2.out); obtain ⟨k0, k1, k2, k3, -⟩ := bx_s HX3.out (Below.refl _ _); clear hb)
    | (go_at_call 19; (with_reducible refine C2.out.mono ?_); rintro e w6 ⟨wa, wcp, rfl, hm⟩; have L3 := hid (L2.out.later hm.below); have HX4 := hid (HX3.out.below hm.below); have AW := hid (apart_new (F := F1) hm (fun k e => R.lt L2.out.is k e)); have C3 := hid (HRs.out _ _ _ gy L3.out ⟨HX4.out.row, fun k e => by cases e; exact ⟨HNy.out.2, HX4.out.glt⟩⟩); obtain ⟨k0, k1, k2, k3, -⟩ := bx_s HX4.out (Below.refl _ _); clear hm)
    | (go_at_call 31; (with_reducible refine C3.out.mono ?_); rintro e w7 ⟨rfl, F2, hL, hch, hF⟩; have L4 := hid hL; have HX5 := hid (HX4.out.turn hch HNy.out.1 HNy.out.2); have AW2 := hid (AW.out.turn hch hF); obtain ⟨k0, k1, k2, k3, -⟩ := bx_s HX5.out (Below.refl _ _); clear hL hch hF))
  generalize w4.heap.size = yb at *
  clear HBs2 HTe HSl HRs L1 L2 L3 HX2 HX3 HX4 C1 C2 C3 AW
  have hkp := HKP.out
  cases ot with
  | none =>
    obtain rfl : kp = false := hkp
    obtain rfl := HEnd.out rfl
    have KLa : Hid (∀ wx, Below w7.heap.size w7 wx → Calls Try.prog 24 #[.pointer (some ⟨r1, 0, none⟩)] wx fun e w' => e = .returned (.int .i64 (pickZ i 30)) ∧ Below wx.heap.size wx w') := hid (fun wx h => by have := HLa2.out _ _ _ (L4.out.later h); unfold Rl.last at this; simp only [List.length_nil, Int.natCast_zero, Int.add_zero] at this; exact this)
    have KSl : Hid (∀ wx, Below w7.heap.size w7 wx → Calls Try.prog 19 #[.pointer (some ⟨r1, 0, none⟩), .int .i64 (pickZ i 30 + 1), .int .i64 9] wx fun e w' => ∃ a c, e = .returned (.slice a 0 c) ∧ Below wx.heap.size wx w') := hid (fun wx h => (HSl2.out 9 ⟨by decide, by decide⟩ _ _ _ (L4.out.later h)).mono fun e w' ⟨a, c, he, hm⟩ => by
      have h0 := sliceL_len (⟨pickZ i 30, pickZ t 9, [1, 2, 3], bB, []⟩ : Rl) (pickZ i 30 + 1) 9
      have h1 : (sliceL (⟨pickZ i 30, pickZ t 9, [1, 2, 3], bB, []⟩ : Rl) (pickZ i 30 + 1) 9).length = 0 := by simpa using h0
      rw [h1] at he
      exact ⟨a, c, he, hm.below⟩)
    have KBa : Hid (∀ wx, Below w7.heap.size w7 wx → Calls Try.prog 27 #[.pointer (some ⟨r1, 0, none⟩)] wx fun e w' => ∃ vv, e = .returned (.agg #[.int .i64 (pickZ i 30), .int .i64 (pickZ t 9), vv, .string bB]) ∧ Below wx.heap.size wx w') := hid (fun wx h => (HBa2.out _ _ _ (L4.out.later h)).mono fun e w' ⟨vv, he, hm⟩ => ⟨vv, he, hm.below⟩)
    have HFin := hid (fun wx (h : Below w7.heap.size w7 wx) => (L4.out.later h).below)
    have qa : (pickZ i 30 == pickZ i 30) = true := beq_self_eq_true _
    have qt : (pickZ t 9 == pickZ t 9) = true := beq_self_eq_true _
    go_upto_region 16 with (fail)
    have hfd := fun wx vb => base_field1 wx (.int .i64 (pickZ i 30)) (.int .i64 (pickZ t 9)) vb (.string bB) ⟨_, rfl⟩
    have HK := hid (fun wx (h : Below w7.heap.size w7 wx) => bx_s (HX5.out.below h) h)
    have hbd : Below w7.heap.size w7 w7.drew := (Below.refl _ _).drew
    clear k0 k1 k2 k3
    go_region_held3 (fun wx => (wx.cell? ⟨yb, 0, none⟩ = some (.int .i64 (pickZ i 30)) ∧ wx.cell? ⟨yb, 1, none⟩ = some (.int .i64 (pickZ t 9)) ∧ wx.cell? ⟨yb, 2, none⟩ = some (.slice (some ⟨gy, 0, none⟩) 3 3) ∧ wx.cell? ⟨yb, 3, none⟩ = some (.string bB) ∧ Below w7.heap.size w7 wx))
      (first | (with_reducible exact HK.out _ hbd) | (with_reducible exact HK.out _ hbk) | (with_reducible assumption))
      (first
        | (go_at_call 24; (with_reducible refine (KLa.out _ (And.right (And.right (And.right (And.right (by assumption)))))).mono ?_); rintro e w8 ⟨rfl, hb8⟩; have hbk : Below w7.heap.size w7 w8 := Below.trans (And.right (And.right (And.right (And.right (by assumption))))) (hb8.mono (Below.size (And.right (And.right (And.right (And.right (by assumption))))))))
        | (go_at_call 19; (with_reducible refine (KSl.out _ (And.right (And.right (And.right (And.right (by assumption)))))).mono ?_); rintro e w8 ⟨sa, sc, rfl, hb8⟩; have hbk : Below w7.heap.size w7 w8 := Below.trans (And.right (And.right (And.right (And.right (by assumption))))) (hb8.mono (Below.size (And.right (And.right (And.right (And.right (by assumption))))))))
        | (go_at_call 27; (with_reducible refine (KBa.out _ (And.right (And.right (And.right (And.right (by assumption)))))).mono ?_); rintro e w8 ⟨vb, rfl, hb8⟩; have hbk : Below w7.heap.size w7 w8 := Below.trans (And.right (And.right (And.right (And.right (by assumption))))) (hb8.mono (Below.size (And.right (And.right (And.right (And.right (by assumption))))))); have HBK := hid hbk))
    all_goals
      go_wp2
      go_ret
      exact ⟨rfl, HFin.out _ HBK.out⟩
  | some tt =>
    by_cases ht : tt = pickZ t 9
    · have q1 : (tt == pickZ t 9) = true := by rw [ht]; exact beq_self_eq_true _
      obtain rfl : kp = true := by rw [hkp]; simp [ht]
      clear hkp
      have HTT := hid ht
      clear ht
      obtain ⟨hsl, hla⟩ := HEnd2.out rfl
      have KLa : Hid (∀ wx, Below w7.heap.size w7 wx → Calls Try.prog 24 #[.pointer (some ⟨r1, 0, none⟩)] wx fun e w' => e = .returned (.int .i64 (pickZ i 30 + W.length)) ∧ Below wx.heap.size wx w') := hid (fun wx h => by have := HLa2.out _ _ _ (L4.out.later h); rw [hla] at this; exact this)
      have KSl : Hid (∀ wx, Below w7.heap.size w7 wx → Calls Try.prog 19 #[.pointer (some ⟨r1, 0, none⟩), .int .i64 (pickZ i 30 + 1), .int .i64 1000] wx fun e w' => ∃ a c, e = .returned (.slice a W.length c) ∧ RMid enTy wx w' (.slice a W.length c) W) := hid (fun wx h => by have := HSl2.out 1000 ⟨by decide, by decide⟩ _ _ _ (L4.out.later h); rw [hsl] at this; exact this)
      have KSa : Hid (∀ wx va, Below w7.heap.size w7 wx → RAt enTy wx va W → Calls Try.prog 18 #[va, .slice wa W.length wcp] wx fun e w' => e = .returned (.bool true) ∧ Below wx.heap.size wx w') := hid (fun wx va h hr => same_same hr (AW2.out.row.below h) (by have := HWL.out; unfold maxLen; omega))
      have HFin := hid (fun wx (h : Below w7.heap.size w7 wx) => (L4.out.later h).below)
      have hws : IntKind.i64.wrap (pickZ i 30 + (W.length : Int)) = pickZ i 30 + W.length := by have := HWL.out; have := HPy.out.1; rw [IntKind.wrap_i64]; omega
      have qa : (pickZ i 30 + (W.length : Int) == pickZ i 30 + (W.length : Int)) = true := beq_self_eq_true _
      clear hsl hla
      go_upto_region 17 with (fail)
      have HK := hid (fun wx (h : Below w7.heap.size w7 wx) => bx_s (HX5.out.below h) h)
      have hbd : Below w7.heap.size w7 w7.drew := (Below.refl _ _).drew
      clear k0 k1 k2 k3
      go_region_held3 (fun wx => (wx.cell? ⟨yb, 0, none⟩ = some (.int .i64 (pickZ i 30)) ∧ wx.cell? ⟨yb, 1, none⟩ = some (.int .i64 (pickZ t 9)) ∧ wx.cell? ⟨yb, 2, none⟩ = some (.slice (some ⟨gy, 0, none⟩) 3 3) ∧ wx.cell? ⟨yb, 3, none⟩ = some (.string bB) ∧ Below w7.heap.size w7 wx))
        (first | (with_reducible exact HK.out _ hbd) | (with_reducible exact HK.out _ hbk) | (with_reducible assumption))
        (first
          | (go_at_call 19; (with_reducible refine (KSl.out _ (And.right (And.right (And.right (And.right (by assumption)))))).mono ?_); rintro e w8 ⟨sa, sc, rfl, hm⟩; have hbk : Below w7.heap.size w7 w8 := Below.trans (And.right (And.right (And.right (And.right (by assumption))))) (hm.below.mono (Below.size (And.right (And.right (And.right (And.right (by assumption))))))); have KS8 := hid (KSa.out _ _ hbk hm.row.rAt); clear hm)
          | (go_at_call 18; (with_reducible refine KS8.out.mono ?_); rintro e w9 ⟨rfl, hb8⟩; have hbk : Below w7.heap.size w7 w9 := Below.trans (And.right (And.right (And.right (And.right (by assumption))))) (hb8.mono (Below.size (And.right (And.right (And.right (And.right (by assumption))))))))
          | (go_at_call 24; (with_reducible refine (KLa.out _ (And.right (And.right (And.right (And.right (by assumption)))))).mono ?_); rintro e w8 ⟨rfl, hb8⟩; have hbk : Below w7.heap.size w7 w8 := Below.trans (And.right (And.right (And.right (And.right (by assumption))))) (hb8.mono (Below.size (And.right (And.right (And.right (And.right (by assumption))))))); have HBK := hid hbk))
      all_goals
        go_wp2
        go_ret
        exact ⟨rfl, HFin.out _ HBK.out⟩
    · have q1 : (tt == pickZ t 9) = false := beq_false_of_ne ht
      obtain rfl : kp = false := by rw [hkp]; simp [ht]
      clear hkp ht
      obtain rfl := HEnd.out rfl
      have KLa : Hid (∀ wx, Below w7.heap.size w7 wx → Calls Try.prog 24 #[.pointer (some ⟨r1, 0, none⟩)] wx fun e w' => e = .returned (.int .i64 (pickZ i 30)) ∧ Below wx.heap.size wx w') := hid (fun wx h => by have := HLa2.out _ _ _ (L4.out.later h); unfold Rl.last at this; simp only [List.length_nil, Int.natCast_zero, Int.add_zero] at this; exact this)
      have KSl : Hid (∀ wx, Below w7.heap.size w7 wx → Calls Try.prog 19 #[.pointer (some ⟨r1, 0, none⟩), .int .i64 (pickZ i 30 + 1), .int .i64 9] wx fun e w' => ∃ a c, e = .returned (.slice a 0 c) ∧ Below wx.heap.size wx w') := hid (fun wx h => (HSl2.out 9 ⟨by decide, by decide⟩ _ _ _ (L4.out.later h)).mono fun e w' ⟨a, c, he, hm⟩ => by
        have h0 := sliceL_len (⟨pickZ i 30, pickZ t 9, [1, 2, 3], bB, []⟩ : Rl) (pickZ i 30 + 1) 9
        have h1 : (sliceL (⟨pickZ i 30, pickZ t 9, [1, 2, 3], bB, []⟩ : Rl) (pickZ i 30 + 1) 9).length = 0 := by simpa using h0
        rw [h1] at he
        exact ⟨a, c, he, hm.below⟩)
      have KBa : Hid (∀ wx, Below w7.heap.size w7 wx → Calls Try.prog 27 #[.pointer (some ⟨r1, 0, none⟩)] wx fun e w' => ∃ vv, e = .returned (.agg #[.int .i64 (pickZ i 30), .int .i64 (pickZ t 9), vv, .string bB]) ∧ Below wx.heap.size wx w') := hid (fun wx h => (HBa2.out _ _ _ (L4.out.later h)).mono fun e w' ⟨vv, he, hm⟩ => ⟨vv, he, hm.below⟩)
      have HFin := hid (fun wx (h : Below w7.heap.size w7 wx) => (L4.out.later h).below)
      have qa : (pickZ i 30 == pickZ i 30) = true := beq_self_eq_true _
      have qt : (pickZ t 9 == pickZ t 9) = true := beq_self_eq_true _
      go_upto_region 16 with (fail)
      have hfd := fun wx vb => base_field1 wx (.int .i64 (pickZ i 30)) (.int .i64 (pickZ t 9)) vb (.string bB) ⟨_, rfl⟩
      have HK := hid (fun wx (h : Below w7.heap.size w7 wx) => bx_s (HX5.out.below h) h)
      have hbd : Below w7.heap.size w7 w7.drew := (Below.refl _ _).drew
      clear k0 k1 k2 k3
      go_region_held3 (fun wx => (wx.cell? ⟨yb, 0, none⟩ = some (.int .i64 (pickZ i 30)) ∧ wx.cell? ⟨yb, 1, none⟩ = some (.int .i64 (pickZ t 9)) ∧ wx.cell? ⟨yb, 2, none⟩ = some (.slice (some ⟨gy, 0, none⟩) 3 3) ∧ wx.cell? ⟨yb, 3, none⟩ = some (.string bB) ∧ Below w7.heap.size w7 wx))
        (first | (with_reducible exact HK.out _ hbd) | (with_reducible exact HK.out _ hbk) | (with_reducible assumption))
        (first
          | (go_at_call 24; (with_reducible refine (KLa.out _ (And.right (And.right (And.right (And.right (by assumption)))))).mono ?_); rintro e w8 ⟨rfl, hb8⟩; have hbk : Below w7.heap.size w7 w8 := Below.trans (And.right (And.right (And.right (And.right (by assumption))))) (hb8.mono (Below.size (And.right (And.right (And.right (And.right (by assumption))))))))
          | (go_at_call 19; (with_reducible refine (KSl.out _ (And.right (And.right (And.right (And.right (by assumption)))))).mono ?_); rintro e w8 ⟨sa, sc, rfl, hb8⟩; have hbk : Below w7.heap.size w7 w8 := Below.trans (And.right (And.right (And.right (And.right (by assumption))))) (hb8.mono (Below.size (And.right (And.right (And.right (And.right (by assumption))))))))
          | (go_at_call 27; (with_reducible refine (KBa.out _ (And.right (And.right (And.right (And.right (by assumption)))))).mono ?_); rintro e w8 ⟨vb, rfl, hb8⟩; have hbk : Below w7.heap.size w7 w8 := Below.trans (And.right (And.right (And.right (And.right (by assumption))))) (hb8.mono (Below.size (And.right (And.right (And.right (And.right (by assumption))))))); have HBK := hid hbk))
      all_goals
        go_wp2
        go_ret
        exact ⟨rfl, HFin.out _ HBK.out⟩
set_option maxHeartbeats 4000000 in
theorem rlogRestores_walk {R : RlRep} (HP : RlProg R) (b i t : Int) (v1 : Value) (l : List Pa) (w : World) (hbi : I64' b) (h1 : RAt pTy w v1 l) (hi1 : ∀ p ∈ l, PaIn w p) (hl1 : l.length ≤ maxLen) (hii : I64' i) (hti : I64' t) :
    Calls Try.prog 6 #[.int .i64 b, v1, .int .i64 i, .int .i64 t] w (ShownPost w) := by
  by_cases hs : smallP l = true
  · exact rlogRestores_main HP b i t v1 l w hbi hii hti h1 hi1 hl1 hs
  have HS := hid (shown_any HP w)
  have HSm0 : Hid (∀ wx, Below w.heap.size w wx → Calls Try.prog 10 #[v1] wx fun e w' => e = .returned (.bool (smallP l)) ∧ wx = w') := hid (fun wx h => small_any wx v1 l (h1.below h) hl1)
  obtain ⟨s0, hs0⟩ : ∃ s, smallP l = s := ⟨_, rfl⟩
  rw [hs0] at HSm0 hs
  have HH := hid hs
  clear HP hs hs0
  cases s0 with
  | true => exact absurd rfl HH.out
  | false =>
    go_enter Try.func6, Try.ntmps6
    go_wp2_with (first | (go_at_call 9; (with_reducible refine HS.out.mono ?_); rintro e w1 ⟨rfl, hb1⟩) | (go_at_call 10; (with_reducible refine (HSm0.out _ hb1).mono ?_); rintro e w2 ⟨rfl, rfl⟩))
    go_ret
    exact ⟨rfl, hb1⟩
end Go.Proofs.Ytiffdhihhggkhaa
