import Derived.Test.YtbccikefccdekaaGreatDoorSnThHJ
/-
  LAYER 4 (snap), THE PROGRAM: toHead of a head that is well formed, a right one. (Written by tools/gen4_th.py.)
-/
namespace Go.Proofs.YtbccikefccdekaaGreatDoor
open Go.RowKit
set_option linter.unusedVariables false
set_option maxRecDepth 100000

set_option maxHeartbeats 16000000 in
theorem toHead_D (s : ByteArray) (w : World) (hs : s.size ≤ 1000000) (l : List Int) (hn0 : nums s.data.toList = some l) (h4 : ¬ l.length < 4) (h2 : l.getD 2 0 = (l.length : Int) - 4) (hr : rightS ⟨l.getD 0 0, l.getD 1 0, (l.take (l.length - 1)).drop 3, []⟩ = true) (hp : (0 : Int) ≤ l.getD (l.length - 1) 0) (hp1 : l.getD (l.length - 1) 0 ≤ (4000000 : Int)) : Calls Tryz.prog 30 #[.string s] w (HdPost w s.data.toList) := by
  obtain ⟨S, hS⟩ : ∃ S, s.data.toList = S := ⟨_, rfl⟩
  obtain ⟨W0, hW0⟩ : ∃ W0, w.alloc (.cells zbox 24) = W0 := ⟨_, rfl⟩
  have hb0 : Below w.heap.size w W0 := by rw [← hW0]; exact (Below.refl _ _).alloc (Nat.le_refl _) _
  have o0 : own W0 w.heap.size zbox 24 := by rw [← hW0]; exact own.new w _ _
  have HN := hid (snNumbers_any s W0 hs)
  rw [hS] at HN ⊢
  dsimp only [zbox] at hW0 o0
  -- the answer where it is none
  have HZ : Hid (∀ w1, Below W0.heap.size W0 w1 → QBox w1 w.heap.size (.int .i64 0) (.int .i64 0) (.slice none 0 0) (.string ⟨#[]⟩) (.int .i64 0) (.int .i64 0) (.slice none 0 0) (.string ⟨#[]⟩) ∧ Below w.heap.size w (qst4 w1 w.heap.size (.int .i64 0) (.int .i64 0) (.slice none 0 0) (.string ⟨#[]⟩))) := hid (fun w1 h1 => by
    have o1 := o0.same (h1.block _ o0.lt)
    exact ⟨qbox_of o1 _ _ _ _, qst4_below (hb0.trans (h1.mono hb0.size)) (Nat.le_refl _) _ _ _ _⟩)
  have hn : nums S = some l := by rw [← hS]; exact hn0
  obtain ⟨hen, h64⟩ := nums_sound hn
  have hll : l.length ≤ 1000000 := by
    have := encs_ge l
    rw [hen, ← hS, str_len] at this
    omega
  have HN1 : Hid (Calls Tryz.prog 53 #[.string s] W0 fun e w' => ∃ a cap, e = .returned (.tuple #[.slice a l.length cap, .bool true]) ∧ Gr.RMid Gr.numTy W0 w' (.slice a l.length cap) l) := hid (HN.out.mono fun e w' h => by
    rcases h with ⟨h0, _, _⟩ | ⟨l', a, cap, h1, h2, h3⟩
    · rw [hn] at h0; cases h0
    · rw [hn] at h1; cases h1; exact ⟨a, cap, h2, h3⟩)
  have hwr : IntKind.i64.wrap ((l.length : Int) - 1) = (l.length : Int) - 1 := by rw [IntKind.wrap_i64]; omega
  have hwr4 : IntKind.i64.wrap ((l.length : Int) - 4) = (l.length : Int) - 4 := by rw [IntKind.wrap_i64]; omega
  have d4 : decide ((l.length : Int) < 4) = false := decide_eq_false (by omega)
  have hI4 : ¬ (l.length : Int) < 4 := by omega
  have HAt : Hid (∀ w1 a cap, Gr.RMid Gr.numTy W0 w1 (.slice a l.length cap) l → ∃ sb so, a = some ⟨sb, so, none⟩ ∧ sb < w1.heap.size ∧ ∀ wx, Below w1.heap.size w1 wx → ∀ k, k < l.length → wx.cell? ⟨sb, so + k, none⟩ = some (.int .i64 (l.getD k 0))) := hid (fun w1 a cap hm => by
    obtain ⟨a', cap', e, hc⟩ := Gr.nums_at hm.row.rAt
    cases e
    obtain ⟨sb, so, rfl, hlt, _⟩ := hc 0 (by omega)
    refine ⟨sb, so, rfl, hlt, fun wx hb k hk => ?_⟩
    obtain ⟨sb', so', e2, _, h2⟩ := hc k hk
    cases e2
    exact (hb.cell (p := ⟨sb, so + k, none⟩) hlt).trans h2)
  obtain ⟨L, hL⟩ : ∃ L, (l.take (l.length - 1)).drop 3 = L := ⟨_, rfl⟩
  rw [hL] at hr
  have hLl : L.length ≤ 1000000 := by rw [← hL, List.length_drop, List.length_take]; omega
  have hSl : Hid (∀ w1 a cap, Gr.RMid Gr.numTy W0 w1 (.slice a l.length cap) l → ∃ vs, (∀ wx, (Instr.slice 22 (.slice a l.length cap) (some (.int .i64 3)) (some (.int .i64 ((l.length : Int) - 1))) none).run Tryz.prog wx = .ok vs wx) ∧ ∀ wx, Below w1.heap.size w1 wx → Calls Tryz.prog 54 #[vs] wx (Gr.ClPost Gr.numTy wx L)) := hid (fun w1 a cap hm => by
    have hr := hm.row.rAt
    obtain ⟨a', cap', e, hlc, _, _⟩ := id hr
    cases e
    have h1 := hr.take Gr.numTy_ok (k := l.length - 1) (by omega)
    obtain ⟨h3, _⟩ := h1.drop Gr.numTy_ok (k := 3) (by rw [List.length_take]; omega)
    rw [hL] at h3
    refine ⟨_, fun wx => ?_, fun wx hb => Gr.cloneN_any (h3.below hb) hLl⟩
    have := Gr.run_lohi Gr.numTy_ok wx a l.length cap 3 (l.length - 1) (by omega) (by omega)
    rw [show ((l.length - 1 : Nat) : Int) = (l.length : Int) - 1 by omega] at this
    exact this)
  have hq : (l.getD 2 0 == (l.length : Int) - 4) = true := by rw [h2]; simp
  have HA : Hid (∀ w1 a cap, Gr.RMid Gr.numTy W0 w1 (.slice a l.length cap) l → ∃ sb so, a = some ⟨sb, so, none⟩ ∧ ∀ wx, Below w1.heap.size w1 wx → (wx.cell? ⟨sb, so, none⟩ = some (.int .i64 (l.getD 0 0)) ∧ wx.cell? ⟨sb, so + 1, none⟩ = some (.int .i64 (l.getD 1 0)) ∧ wx.cell? ⟨sb, so + 2, none⟩ = some (.int .i64 (l.getD 2 0)) ∧ wx.cell? ⟨sb, so + (l.length - 1), none⟩ = some (.int .i64 (l.getD (l.length - 1) 0)))) := hid (fun w1 a cap hm => by
    obtain ⟨sb, so, e, _, hc⟩ := HAt.out w1 a cap hm
    exact ⟨sb, so, e, fun wx hb => ⟨by have := hc wx hb 0 (by omega); rwa [Nat.add_zero] at this, hc wx hb 1 (by omega), hc wx hb 2 (by omega), hc wx hb _ (by omega)⟩⟩)
  have i0 : (0 : Int) < (l.length : Int) := by omega
  have i1 : (1 : Int) < (l.length : Int) := by omega
  have i2 : (2 : Int) < (l.length : Int) := by omega
  have j0 : 0 < l.length := by omega
  have j0' : ¬ l.length = 0 := by omega
  have j1 : 1 < l.length := by omega
  have j1' : ¬ l.length ≤ 1 := by omega
  have k0 : decide ((0 : Int) < (l.length : Int)) = true := decide_eq_true i0
  have k1 : decide ((1 : Int) < (l.length : Int)) = true := decide_eq_true i1
  have HTr : Hid (∀ (wa wx wy : World), Below wa.heap.size wa wx → Below wx.heap.size wx wy → Below wa.heap.size wa wy) := hid (fun wa wx wy h k => h.trans (k.mono h.size))
  have HDr : Hid (∀ (wa wx : World), Below wa.heap.size wa wx → Below wa.heap.size wa wx.drew) := hid (fun wa wx h => Below.drew h)
  have HAm : Hid (∀ (wa wx : World) cs T, Below wa.heap.size wa wx → Below wa.heap.size wa (wx.alloc (.cells cs T))) := hid (fun wa wx cs T h => (h.alloc h.size _))
  have HRf : Hid (∀ wa : World, Below wa.heap.size wa wa) := hid (fun wa => Below.refl _ _)
  have HFin : Hid (∀ (a : Option Addr) (c : Nat) (wf : World), Below w.heap.size w wf → Gr.RAt Gr.numTy wf (.slice a L.length c) L → (∀ x, (Value.slice a L.length c).ownBlock = some x → w.heap.size ≤ x) → HdPost w S (.returned (.tuple #[.agg #[.int .i64 (l.getD 0 0), .int .i64 (l.getD 1 0), .slice a L.length c, .string ⟨#[]⟩], .int .i64 (l.getD (l.length - 1) 0), .bool (rightS ⟨l.getD 0 0, l.getD 1 0, L, []⟩ && decide ((0 : Int) ≤ l.getD (l.length - 1) 0) && decide (l.getD (l.length - 1) 0 ≤ (4000000 : Int)))])) wf) := hid (fun a c wf hb hr hnw => hd_fin hn (by omega) h2 hL hb hr hnw)
  have HI0 : Hid (I64s (l.getD 0 0) ∧ I64s (l.getD 1 0) ∧ ∀ x ∈ L, I64s x) := hid ⟨by rw [getD_of (by omega : 0 < l.length)]; exact h64 _ (List.getElem_mem _), by rw [getD_of (by omega : 1 < l.length)]; exact h64 _ (List.getElem_mem _), fun x hx => h64 x (List.mem_of_mem_take (List.mem_of_mem_drop (by rw [hL]; exact hx)))⟩
  have HLs : Hid (L.length ≤ 1000000) := hid hLl
  clear HN hn hen h4 hll HAt h2 hL hLl
  generalize l.getD 2 0 = x2 at *
  generalize l.getD 0 0 = x0 at *
  generalize l.getD 1 0 = x1 at *
  generalize l.getD (l.length - 1) 0 = xl at *
  generalize l.length = n at *
  go_enter Tryz.func30, Tryz.ntmps30
  go_upto_region 5 with (go_at_call 53; (with_reducible refine HN1.out.mono ?_); rintro e w1 ⟨a, cap, rfl, hm1⟩; obtain ⟨sb, so, rfl, HC1⟩ := HA.out _ _ _ hm1; obtain ⟨vs, hsl, hcl⟩ := hSl.out _ _ _ hm1; have HCl := hid hcl; have HM1 := hid hm1; have HC := hid HC1; obtain ⟨c0, c1, c2, c3⟩ := HC1 _ (Below.refl _ _); clear hm1 HC1 hcl)
  have HB1 := hid HM1.out.below
  go_cut [8] (fun u8 wx => Hid (ThB w1 x0 x1 L u8 wx))
  case first =>
    have bD : Below w1.heap.size w1 w1.drew := Below.drew (Below.refl _ _)
    have oA : own (w1.alloc (.cells #[.int .i64 0, .int .i64 0, .slice none 0 0, .string ⟨#[]⟩] 24)).drew w1.heap.size #[.int .i64 0, .int .i64 0, .slice none 0 0, .string ⟨#[]⟩] 24 := own.new w1 _ _
    have bA : Below w1.heap.size w1 (w1.alloc (.cells #[.int .i64 0, .int .i64 0, .slice none 0 0, .string ⟨#[]⟩] 24)).drew := Below.drew ((Below.refl _ _).alloc (Nat.le_refl _) _)
    have HSs : Hid (∀ wx, Below w1.heap.size w1 wx → (wx.cell? ⟨sb, so, none⟩ = some (.int .i64 x0) ∧ wx.cell? ⟨sb, so + 1, none⟩ = some (.int .i64 x1)) ∧ Below w1.heap.size w1 wx) := hid (fun wx h => ⟨⟨(HC.out wx h).1, (HC.out wx h).2.1⟩, h⟩)
    have HSet : Hid (∀ wx k v, Below w1.heap.size w1 wx → Below w1.heap.size w1 (wx.setCell ⟨w1.heap.size, k, none⟩ v)) := hid (fun wx k v h => h.setCell (p := ⟨w1.heap.size, k, none⟩) (Nat.le_refl _) v)
    clear HZ HN1 hSl HA HM1 HFin HI0
    go_region_held3 (fun wx => (wx.cell? ⟨sb, so, none⟩ = some (.int .i64 x0) ∧ wx.cell? ⟨sb, so + 1, none⟩ = some (.int .i64 x1)) ∧ Below w1.heap.size w1 wx)
      (first | (with_reducible exact HSs.out _ hbk) | (with_reducible exact HSs.out _ bD) | (with_reducible exact HSs.out _ bA) | (with_reducible exact HSs.out _ (HAm.out _ _ _ _ hbk)) | (with_reducible (refine HSs.out _ ?_; repeat (first | exact hbk | refine HSet.out _ _ _ ?_ | refine HAm.out _ _ _ _ ?_))) | (with_reducible assumption))
      (first
        | (go_at_call 54; (with_reducible refine (HCl.out _ bD).mono ?_); rintro e w3 ⟨a3, c3, rfl, hm3⟩; have hbk : Below w1.heap.size w1 w3 := HTr.out _ _ _ bD hm3.below; have HT3 := @thB_late w1 _ w3 x0 x1 L a3 c3 bD hm3)
        | (go_at_call 54; (with_reducible refine (HCl.out _ bA).mono ?_); rintro e w3 ⟨a3, c3, rfl, hm3⟩; have hbk : Below w1.heap.size w1 w3 := HTr.out _ _ _ bA hm3.below; obtain ⟨⟨n0, n1, n2, n3, g0, g1, g2, g3, -, -, -, -⟩, HT3⟩ := @thB_early w1 w3 x0 x1 L a3 c3 _ (Nat.le_refl _) hbk _ bA.size oA hm3))
    all_goals
      go_wp2
      go_meet
      exact HT3
  case rest =>
    obtain ⟨g, a3, c3, rfl, og, hg, hrow, hbx, hnew⟩ := hcut.out.ex
    have HBx := hid hbx
    have cl := (HC.out wc hbx).2.2.2
    have hidx : ((n : Int) - 1).toNat = n - 1 := by omega
    have hlast : (n : Int) - 1 < (n : Int) := by omega
    have hlast0 : (0 : Int) ≤ (n : Int) - 1 := by omega
    have HG : Hid (∀ wx, Below wc.heap.size wc wx → wx.cell? ⟨g, 0, none⟩ = some (.int .i64 x0) ∧ wx.cell? ⟨g, 1, none⟩ = some (.int .i64 x1) ∧ wx.cell? ⟨g, 2, none⟩ = some (.slice a3 L.length c3) ∧ wx.cell? ⟨g, 3, none⟩ = some (.string ⟨#[]⟩)) := hid (fun wx h => by
      have o := og.same (h.block _ og.lt)
      exact ⟨(o.cell 0).trans rfl, (o.cell 1).trans rfl, (o.cell 2).trans rfl, (o.cell 3).trans rfl⟩)
    have bD : Below wc.heap.size wc wc.drew := Below.drew (Below.refl _ _)
    have HBA : BAt wc (.slice a3 L.length c3) ⟨x0, x1, L, []⟩ := ⟨HI0.out.1, HI0.out.2.1, intsAt_gr hrow, HLs.out, HI0.out.2.2, by simp⟩
    have HR : Hid (∀ wx, Below wc.heap.size wc wx → Calls Tryz.prog 10 #[.agg #[.int .i64 x0, .int .i64 x1, .slice a3 L.length c3, .string ⟨#[]⟩]] wx fun e w' => e = .returned (.bool (rightS ⟨x0, x1, L, []⟩)) ∧ Below wx.heap.size wx w') := hid (fun wx h => snRight_any (HBA.below h))
    have hb1 : Below W0.heap.size W0 wc := HB1.out.trans (hbx.mono HB1.out.size)
    have HRes : Hid (∀ w5, Below wc.heap.size wc w5 → QBox w5 w.heap.size (.int .i64 0) (.int .i64 0) (.slice none 0 0) (.string ⟨#[]⟩) (.int .i64 x0) (.int .i64 x1) (.slice a3 L.length c3) (.string ⟨#[]⟩) ∧ Hid (HdPost w S (.returned (.tuple #[.agg #[.int .i64 x0, .int .i64 x1, .slice a3 L.length c3, .string ⟨#[]⟩], .int .i64 xl, .bool (rightS ⟨x0, x1, L, []⟩ && decide ((0 : Int) ≤ xl) && decide (xl ≤ (4000000 : Int)))])) (qst4 w5 w.heap.size (.int .i64 x0) (.int .i64 x1) (.slice a3 L.length c3) (.string ⟨#[]⟩)))) := hid (fun w5 h5 => by
      have hb5 : Below W0.heap.size W0 w5 := hb1.trans (h5.mono hb1.size)
      have o5 := o0.same (hb5.block _ o0.lt)
      refine ⟨qbox_of o5 _ _ _ _, hid (HFin.out a3 c3 _ (qst4_below (hb0.trans (hb5.mono hb0.size)) (Nat.le_refl _) _ _ _ _) ?_ (fun x e => by have := hnew x e; have := HB1.out.size; have := o0.lt; omega))⟩
      refine (hrow.below h5).same (fun b e hl => (qst4_chg w5 w.heap.size _ _ _ _).block b hl (fun k => ?_)) (qst4_chg w5 w.heap.size _ _ _ _).size
      have := hnew b e
      have := HB1.out.size
      have := o0.lt
      omega)
    have hr0 := hr
    clear og hrow hbx hcut c0 c1 c2 hsl HCl HBA HB1 hb1 o0 hb0 hW0 HZ HN1 hSl HA HM1 HFin HI0 HLs hnew HC hwr hwr4 hq h64 i0 i1 i2 j0 j0' j1 j1' k0 k1 hI4 d4 HDr HAm HRf
    go_upto_region 7 with (fail)
    obtain ⟨y0, y1, y2, y3⟩ := HG.out _ bD
    clear cl hidx hlast hlast0
    have q0 : decide ((0 : Int) ≤ xl) = true := decide_eq_true hp
    have q1 : decide (xl ≤ (4000000 : Int)) = true := decide_eq_true hp1
    rw [hr0, q0, q1] at HRes
    rw [hr0] at HR
    generalize L.length = vl at *
    first | (go_region_with (first
                  | (go_at_call 10; (with_reducible refine (HR.out _ bD).mono ?_); rintro e w5 ⟨rfl, hb5⟩; have b5 : Below wc.heap.size wc w5 := HTr.out _ _ _ bD hb5; obtain ⟨x0', x1', x2', x3'⟩ := HG.out _ b5; obtain ⟨⟨m0, m1, m2, m3, f0, f1, f2, f3, e0, e1, e2, e3⟩, hfin⟩ := HRes.out _ b5))) | (fail "region")
    all_goals
      go_wp2
      exact bodyPost_ret (v := .tuple #[.agg #[.int .i64 x0, .int .i64 x1, .slice a3 vl c3, .string ⟨#[]⟩], .int .i64 xl, .bool true]) (by simp [results, Tryz.results30, go_sem, e0, e1, e2, e3]) rfl hfin.out
end Go.Proofs.YtbccikefccdekaaGreatDoor

