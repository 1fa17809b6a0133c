import Derived.Test.YtgchdlfoehlomaaGreatDoorMq5J
import Derived.WalkLawsBesides
/-
  LAYER 3 (wal), the law WalCuts: its walk.
-/
namespace Go.Proofs.YtgchdlfoehlomaaGreatDoor
open Go.RowKit Go.Maps
set_option linter.unusedVariables false
set_option maxRecDepth 100000

def WsRel (w8 : World) (n : Nat) (u : Value) (wr : World) : Prop := ∃ k : Nat, k ≤ n ∧ u = .int .i64 (k : Int) ∧ Hid (Below w8.heap.size w8 wr)
set_option maxHeartbeats 16000000 in
theorem walCuts_walk (v : Value) (l : List Wa) (ix : Int) (w : World) {B0 : Nat} (hg : Glob w B0) (hB0 : B0 ≤ w.heap.size) (hv : WasAt w w.heap.size v l) (hin : ∀ a ∈ l, WaIn a) (hl : l.length ≤ maxLen) (hix : I64 ix) :
    Calls Tryz.prog 4 #[v, .int .i64 ix] w fun e w' => e = .returned (.bool true) ∧ Below w.heap.size w w' := by
  have HSH := hid (shown3_any w hg hB0)
  have HSM := hid (fun wx (hb : Below w.heap.size w wx) => small3_any v l wx w.heap.size (hv.below hb) hin hl)
  have HWas := hid hv
  obtain ⟨a0, cap, rfl, -⟩ := id hv
  unfold maxLen at hl
  cases hsm : smallW l with
  | false =>
    rw [hsm] at HSM
    clear hsm hin hg hv hix
    go_enter Tryz.func4, Tryz.ntmps4
    go_wp2_with (first
      | (go_at_call 6; (with_reducible refine HSH.out.mono ?_); rintro e w1 ⟨rfl, hb1⟩)
      | (go_at_call 7; (with_reducible refine (HSM.out _ hb1).mono ?_); rintro e w2 ⟨rfl, rfl⟩))
    go_ret
    exact ⟨rfl, hb1⟩
  | true =>
    obtain ⟨hl40, hok⟩ := smallW_ok hsm hin
    rw [hsm] at HSM
    have HBg := hid (fun wx (hb : Below w.heap.size w wx) => begin_any 100000 wx (hg.below hb hB0) (by have := hb.size; omega) (by omega) (by omega))
    have HFu := hid (fun w1 w' q a p mq r ql T S (hb : Below w.heap.size w w1) (h : Begun w1 w' q a p mq r ql T S (open0 (newD 100000)).1 (open0 (newD 100000)).1) => (fc_begun (n := l.length) hb (hg.below hb hB0) hB0 h : FcRel w q p a B0 l.length (.int .i64 0) w'))
    have HOk := hid hok
    have HPi := hid (fun wx => pick3_any ix 40 wx (by omega) (by omega) hix)
    clear hsm hin hg hv hok hix
    go_enter Tryz.func4, Tryz.ntmps4
    go_wp2_with (first
      | (go_at_call 6; (with_reducible refine HSH.out.mono ?_); rintro e w1 ⟨rfl, hb1⟩)
      | (go_at_call 7; (with_reducible refine (HSM.out _ hb1).mono ?_); rintro e w2 ⟨rfl, rfl⟩)
      | (go_at_call 8; (with_reducible refine (HBg.out _ hb1).mono ?_); rintro e w3 ⟨q, a, p, mq, r, ql, T, S, rfl, hB⟩; have HStart := hid (HFu.out _ _ _ _ _ _ _ _ _ _ hb1 hB); clear hB))
    go_loopw [10] (FcRel w q p a B0 l.length) (fun i _ => l.length - (intOf i).toNat)
    case atStart => exact HStart.out
    case round =>
      obtain ⟨k, T, s, g, hk, rfl, hfu⟩ := hrel
      have HF := hid hfu
      clear hfu
      by_cases hlt : k < l.length
      · have hne : l ≠ [] := fun e => by rw [e] at hlt; simp at hlt
        obtain ⟨a1, cap1, hva, hca⟩ := HWas.out.below HF.out.fa.fu.below
        simp only [Value.slice.injEq] at hva
        obtain ⟨rfl, -, rfl⟩ := hva
        obtain ⟨b, o, rfl, hbB, hact⟩ := hca hne
        obtain ⟨kv, nv, hA⟩ := hact k l[k] (by simp [hlt])
        have hac := HOk.out _ (List.getElem_mem hlt)
        have HPk := hid (fun wx => pick3_any l[k].op 10 wx (by omega) (by omega) hac.op)
        have hro := pkRange l[k].op 10 (by omega)
        have d0 := hA.c0
        have d1 := hA.c1
        have d2 := hA.c2
        have d3 := hA.c3
        have d4 := hA.c4
        have d5 := hA.c5
        have d6 := hA.c6
        have d7 := hA.c7
        obtain ⟨ka, kc, rfl, _⟩ := id hA.k
        obtain ⟨na, nc, rfl, _⟩ := id hA.n
        have hDo := fun (hop : pickZ (l[k]'hlt).op 10 < 7) => HF.out.does hlt hl40 (l[k]'hlt) hac hop (.slice ka (l[k]'hlt).keep.length kc) (.slice na (l[k]'hlt).noise.length nc) ⟨_, _, _, rfl⟩ ⟨_, _, _, rfl⟩
        unfold waV at hDo
        have HDo := hid hDo
        clear hDo hA hact hca hne hac
        generalize l[k].op = x0 at *
        generalize l[k].term = x1 at *
        generalize l[k].vote = x2 at *
        generalize l[k].idx = x3 at *
        generalize l[k].n = x4 at *
        generalize l[k].data = x5 at *
        generalize l[k].keep = x6 at *
        generalize l[k].noise = x7 at *
        generalize pickZ x0 10 = o1 at *
        by_cases ho : o1 < 7
        · have HDo := hid (HDo.out ho)
          go_wp2_with (first
            | (go_at_call 10; (with_reducible refine (HPk.out _).mono ?_); rintro e w5 ⟨rfl, rfl⟩)
            | (go_at_call 15; (with_reducible refine HDo.out.mono ?_); rintro e w6 ⟨r6, rfl, hQ⟩; have HQ := hid hQ; clear hQ))
          go_roundw
          case rel => exact HQ.out
          case measure => simp [intOf]; omega
        · clear HDo
          go_wp2_with (go_at_call 10; (with_reducible refine (HPk.out _).mono ?_); rintro e w5 ⟨rfl, rfl⟩)
          go_roundw
          case rel => exact ⟨k + 1, T, s, g, by omega, by go_num, ⟨⟨HF.out.fa.fu.log, HF.out.fa.fu.pair, HF.out.fa.fu.tq, HF.out.fa.fu.good, HF.out.fa.fu.lgin.mono (by omega), HF.out.fa.fu.ge, HF.out.fa.fu.qge, HF.out.fa.fu.glob, HF.out.fa.fu.b0, HF.out.fa.fu.below⟩, HF.out.fa.lie, HF.out.fa.most⟩, HF.out.head⟩
          case measure => simp [intOf]; omega
      · obtain rfl : k = l.length := by omega
        have HQc := hid (fun wx (hx : Below wr.heap.size wr wx) => (show wx.cell? ⟨q, 0, none⟩ = some (.pointer (some ⟨a, 0, none⟩)) ∧ wx.cell? ⟨q, 1, none⟩ = some (.pointer (some ⟨p, 0, none⟩)) from ⟨(own.cell (HF.out.later hx).fa.fu.pair 0).trans rfl, (own.cell (HF.out.later hx).fa.fu.pair 1).trans rfl⟩))
        have HHd := hid (fun wx (hx : Below wr.heap.size wr wx) => (hard_any (HF.out.later hx).fa.fu.log : Calls Tryz.prog 11 #[.pointer (some ⟨p, 0, none⟩)] wx fun e w' => e = .returned (.agg #[.int .i64 g.hd.term, .int .i64 g.hd.vote]) ∧ Below wx.heap.size wx w'))
        have HEs := hid (fun wx (hx : Below wr.heap.size wr wx) => (entries_any (HF.out.later hx).fa.fu.log : Calls Tryz.prog 12 #[.pointer (some ⟨p, 0, none⟩)] wx (CloneEPost wx g.L)))
        have hbk := Below.refl wr.heap.size wr
        obtain ⟨z0, z1⟩ := HQc.out _ hbk
        have hgl : g.L.length ≤ 100000 := HF.out.fa.fu.log.len
        clear HWas HOk
        generalize pickZ ix 40 = i at *
        go_wp2_with (first
          | (go_at_call 12; (with_reducible refine (HEs.out _ hbk).mono ?_); rintro e w5 ⟨v2, rfl, hv2, hb5⟩; have HV2 := hid hv2; obtain ⟨ao2, cap2, rfl, -, -⟩ := hv2.slice; have hbk5 := hbk.trans (hb5.mono hbk.size); obtain ⟨z2, z3⟩ := HQc.out _ hbk5; clear hv2 hb5)
          | (go_at_call 11; (with_reducible refine (HHd.out _ hbk5).mono ?_); rintro e w6 ⟨rfl, hb6⟩; have hbk6 := hbk5.trans (hb6.mono hbk5.size); have HV6 := hid (HV2.out.same (w' := w6.alloc (.cells #[.int .i64 g.hd.term, .int .i64 g.hd.vote] 37)) (fun b hb' => ((hb6.alloc hb6.size _).block b (World.ownsRow.lt HV2.out b hb').2))); have hbk7 := Below.alloc hbk6 (Below.size hbk6) (.cells #[.int .i64 g.hd.term, .int .i64 g.hd.vote] 37); obtain ⟨z4, z5⟩ := HQc.out _ hbk7; have hsz6 := hbk6.size; have HF6 := hid (HF.out.later hbk7); have HE6 : Hid (FuEnd w (w6.alloc (.cells #[.int .i64 g.hd.term, .int .i64 g.hd.vote] 37)) T q p a w6.heap.size wr.heap.size s g g (.slice ao2 g.L.length cap2)) := hid ⟨HF6.out.fa.fu.log, HF6.out.fa.fu.pair, own.new w6 _ _, HV6.out, HF6.out.fa.fu.below⟩; have HCt := hid (HF6.out.cuts HE6.out (fun hT => by have := HF.out.fa.fu.log.lt _ hT; omega) (fun b hT => HF.out.fa.fu.log.lt b hT) i _ (Below.refl _ _)); clear hb6)
          | (go_at_call 10; (with_reducible refine (HPi.out _).mono ?_); rintro e w7 ⟨rfl, rfl⟩)
          | (go_at_call 20; (with_reducible refine HCt.out.mono ?_); rintro e w8 ⟨rfl, hS8, s', g', hE8⟩; have HE8 := hid hE8; obtain ⟨y0, y1, y2, y3⟩ := hS8; have hb8 := Below.refl w8.heap.size w8; have HX8 := hid (fun wx (hx : Below w8.heap.size w8 wx) => (HE8.out.later hx).cells); obtain ⟨names, hnames⟩ : ∃ l, segsL s'.L = l := ⟨_, rfl⟩; have hpos : (1 : Int) ≤ (names.length : Int) := by (have := List.length_pos_iff.2 hE8.lie.ne0; rw [hnames] at this; omega)
             have HEs8 := hid (fun wx (hx : Below w8.heap.size w8 wx) => (by (obtain ⟨T8, h8⟩ := (HE8.out.later hx).log; exact entries_any h8) : Calls Tryz.prog 12 #[.pointer (some ⟨p, 0, none⟩)] wx (CloneEPost wx g.L)))
             have HSg8 := hid (fun wx (hx : Below w8.heap.size w8 wx) => (by (obtain ⟨T8, h8⟩ := (HE8.out.later hx).log; exact h8.segs (HE8.out.later hx).glob (by have := HE8.out.b0; have := HE8.out.below.size; have := hx.size; omega) hnames) : Calls Tryz.prog 21 #[.pointer (some ⟨p, 0, none⟩)] wx fun e w' => ∃ v, e = .returned v ∧ NamesAt w' wx.heap.size v names ∧ Below wx.heap.size wx w'))
             have HSm8 := hid (fun wk vv (hb : Below w8.heap.size w8 wk) (hv : EntsAt wk vv g.L) => (show Calls Tryz.prog 18 #[vv, .slice ao2 g.L.length cap2] wk (fun e w' => e = .returned (.bool true) ∧ Below wk.heap.size wk w') from (same_any vv _ g.L g.L wk hv (HE8.out.later hb).was.ents hgl hgl).mono (by rintro e w' ⟨he, hb2⟩; exact ⟨by rw [he]; simp, hb2⟩)))
             have HOp8 := hid (fun wx (hx : Below w8.heap.size w8 wx) => (HE8.out.later hx).opens)
             clear hE8 HF6 HE6 HCt hnames)
          | (go_at_call 12; (with_reducible refine (HEs8.out _ hb8).mono ?_); rintro e wk ⟨v5, rfl, hv5, hbn⟩; have hb8 := hb8.trans (hbn.mono hb8.size); have HSm5 := hid (HSm8.out _ v5 hb8 hv5.ents); obtain ⟨ao5, cap5, rfl, -, -⟩ := hv5.slice; obtain ⟨x0, x1, x2, x3⟩ := HX8.out _ hb8; clear hbn hv5)
          | (go_at_call 18; (with_reducible refine HSm5.out.mono ?_); rintro e wk ⟨rfl, hbn⟩; have hb8 := hb8.trans (hbn.mono hb8.size); obtain ⟨x4, x5, x6, x7⟩ := HX8.out _ hb8; clear hbn)
          | (go_at_call 21; (with_reducible refine (HSg8.out _ hb8).mono ?_); rintro e wk ⟨v6, rfl, hv6, hbn⟩; obtain ⟨a6, cap6, rfl⟩ := names_slice hv6; have hb8 := hb8.trans (hbn.mono hb8.size); obtain ⟨x8, x9, x10, x11⟩ := HX8.out _ hb8; clear hbn hv6)
          | (go_at_call 17; (with_reducible refine (HOp8.out _ hb8).mono ?_); rintro e w9 ⟨p5, rfl, hC9⟩; have HC9 := hid hC9; clear hC9))
        have HX9 := hid (fun wx (hx : Below w9.heap.size w9 wx) => (HC9.out.later hx).st.cells)
        have hhd : g'.hd = g.hd := HC9.out.st.cut.hd
        have HTl := hid HC9.out.st.cut.tail
        have HHd9 := hid (fun wx (hx : Below w9.heap.size w9 wx) => (by (obtain ⟨T9, h9⟩ := (HC9.out.later hx).new; have h10 := hard_any h9; unfold HardPost at h10; rw [hhd] at h10; exact h10) : Calls Tryz.prog 11 #[.pointer (some ⟨p5, 0, none⟩)] wx fun e w' => e = .returned (.agg #[.int .i64 g.hd.term, .int .i64 g.hd.vote]) ∧ Below wx.heap.size wx w'))
        obtain ⟨nn, hnn⟩ : ∃ n, g'.L.length = n := ⟨_, rfl⟩
        have hg'l : g'.L.length ≤ 100000 := by obtain ⟨T9, h9⟩ := HC9.out.new; exact h9.len
        have HEs9 := hid (fun wx (hx : Below w9.heap.size w9 wx) => (by (obtain ⟨T9, h9⟩ := (HC9.out.later hx).new; refine (entries_any h9).mono ?_; rintro e w' ⟨v, he, hv, hb⟩; obtain ⟨ao, cap, rfl, -, -⟩ := hv.slice; have hv2 := hv.ents; rw [hnn] at he hv2; exact ⟨ao, cap, he, hv2, hb⟩) : Calls Tryz.prog 12 #[.pointer (some ⟨p5, 0, none⟩)] wx fun e w' => ∃ ao cap, e = .returned (.slice ao nn cap) ∧ EntsAt w' (.slice ao nn cap) g'.L ∧ Below wx.heap.size wx w'))
        have hbk : Below w9.heap.size w9 w9.drew := Below.drew (Below.refl _ _)
        clear x0 x1 x2 x3 x4 x5 x6 x7 x8 x9 x10 x11 y0 y1 y2 y3 z0 z1 z2 z3 z4 z5 HX8 HSm5 HEs8 HSg8 HSm8 HOp8 HQc HHd HEs HV2 HV6 HF hb8
        obtain ⟨y0, y1, y2, y3⟩ := HX9.out _ (Below.refl _ _)
        go_region_held3 (fun wx => wx.cell? ⟨q, 0, none⟩ = some (.pointer (some ⟨a, 0, none⟩)) ∧ wx.cell? ⟨q, 1, none⟩ = some (.pointer (some ⟨p, 0, none⟩)) ∧ wx.cell? ⟨w6.heap.size, 0, none⟩ = some (.int .i64 g.hd.term) ∧ wx.cell? ⟨w6.heap.size, 1, none⟩ = some (.int .i64 g.hd.vote))
          (with_reducible exact HX9.out _ hbk)
          (first | (go_at_call 11; (with_reducible refine (HHd9.out _ hbk).mono ?_); rintro e wk ⟨rfl, hbn⟩; have hbk := hbk.trans (hbn.mono hbk.size); clear hbn))
        all_goals
          clear y0 y1 y2 y3 HX9 HHd9
          go_wp2_with (go_at_call 12; (with_reducible refine (HEs9.out _ hbk).mono ?_); rintro e w10 ⟨ao10, cap10, rfl, hv10, hb10⟩; have HV10 := hid hv10; have HB10 := hid (hbk.trans (hb10.mono hbk.size)); clear hv10 hb10)
          go_loopw [17] (WsRel w10 g.L.length) (fun u _ => g.L.length - (intOf u).toNat)
          case atStart => exact ⟨0, Nat.zero_le _, rfl, hid (Below.refl _ _)⟩
          case round =>
            obtain ⟨k, hk, rfl, hS⟩ := hrel
            have HE := hid (HC9.out.later (HB10.out.trans (hS.out.mono HB10.out.size)))
            have HVr := hid (HV10.out.below hS.out)
            by_cases hkn : k < g.L.length
            · have hkI : (k : Int) < (g.L.length : Int) := by omega
              obtain ⟨ao, cap', hva, hca⟩ := HE.out.st.was.ents
              simp only [Value.slice.injEq] at hva
              obtain ⟨rfl, -, rfl⟩ := hva
              obtain ⟨g1, o1, rfl, hg1, hc1⟩ := hca (fun e => by rw [e] at hkn; simp at hkn)
              obtain ⟨c0, c1, c2, c3⟩ := hc1 k hkn
              have hmem := fun h => HTl.out.keeps (e := g.L[k]'hkn) (List.getElem_mem hkn) h
              have HHas := has_any _ g'.L (g.L[k]'hkn) wr HVr.out hg'l
              unfold enV at HHas
              have HHas := hid HHas
              clear hc1 hca
              generalize g.L[k]'hkn = x at *
              by_cases hbig : i < x.idx
              · have hx := hmem hbig
                have HHas2 : Hid (Calls Tryz.prog 22 #[.slice ao10 nn cap10, .agg #[.int .i64 x.idx, .int .i64 x.term, .int .i64 x.kind, .string (mk x.data)]] wr fun e w' => e = .returned (.bool true) ∧ Below wr.heap.size wr w') := hid (HHas.out.mono (by rintro e w' ⟨b, rfl, hb, hw⟩; rw [hb.2 hx]; exact ⟨rfl, hw⟩))
                clear hmem HHas
                generalize mk x.data = db at *
                go_wp2_with (go_at_call 22; (with_reducible refine HHas2.out.mono ?_); rintro e w11 ⟨rfl, hb11⟩)
                go_roundw
                case rel => exact ⟨k + 1, hkn, by go_num, hid (hS.out.trans (hb11.mono hS.out.size))⟩
                case measure => simp [intOf]; omega
              · have hle : x.idx ≤ i := by omega
                clear hmem HHas
                go_wp2
                go_roundw
                case rel => exact ⟨k + 1, hkn, by go_num, hS⟩
                case measure => simp [intOf]; omega
            · obtain rfl : k = g.L.length := by omega
              have hkI : (g.L.length : Int) ≤ (g.L.length : Int) := Int.le_refl _
              cases nn with
              | zero =>
                go_wp2
                go_ret
                exact ⟨rfl, HE.out.st.below⟩
              | succ m =>
                have hml : m < g'.L.length := by omega
                have hmI : (m : Int) ≤ 100000 := by omega
                have hm0 : (0 : Int) ≤ (m : Int) := by omega
                have hW1 : IntKind.i64.wrap ((m : Int) + 1 - 1) = (m : Int) := by rw [show (m : Int) + 1 - 1 = m by omega]; exact IntWalk.i64_in _ (by omega)
                have hW2 : IntKind.i64.wrap (m : Int) = (m : Int) := IntWalk.i64_in _ (by omega)
                obtain ⟨ao, cap', hva, hca⟩ := HVr.out
                simp only [Value.slice.injEq] at hva
                obtain ⟨rfl, -, rfl⟩ := hva
                obtain ⟨g1, o1, rfl, hg1, hc1⟩ := hca (fun e => by rw [e] at hml; simp at hml)
                obtain ⟨c0, c1, c2, c3⟩ := hc1 m hml
                have hx := HTl.out.sub (e := g'.L[m]'hml) (List.getElem_mem hml)
                have HHas := has_any _ g.L (g'.L[m]'hml) wr HE.out.st.was.ents hgl
                unfold enV at HHas
                have HHas := hid HHas
                clear hc1 hca
                generalize g'.L[m]'hml = x at *
                have HHas2 : Hid (Calls Tryz.prog 22 #[.slice ao2 g.L.length cap2, .agg #[.int .i64 x.idx, .int .i64 x.term, .int .i64 x.kind, .string (mk x.data)]] wr fun e w' => e = .returned (.bool true) ∧ Below wr.heap.size wr w') := hid (HHas.out.mono (by rintro e w' ⟨b, rfl, hb, hw⟩; rw [hb.2 hx]; exact ⟨rfl, hw⟩))
                clear HHas
                generalize mk x.data = db at *
                go_wp2_with (go_at_call 22; (with_reducible refine HHas2.out.mono ?_); rintro e w11 ⟨rfl, hb11⟩)
                go_ret
                exact ⟨rfl, HE.out.st.below.trans (hb11.mono HE.out.st.below.size)⟩
end Go.Proofs.YtgchdlfoehlomaaGreatDoor

