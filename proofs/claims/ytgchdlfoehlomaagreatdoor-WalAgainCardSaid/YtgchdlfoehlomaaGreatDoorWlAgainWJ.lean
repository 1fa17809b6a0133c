import Derived.Test.YtgchdlfoehlomaaGreatDoorWlAgainAJ
import Derived.WalkLawsBesides
/-
  LAYER 3 (wal), the law WalAgain: its walk.
-/
namespace Go.Proofs.YtgchdlfoehlomaaGreatDoor
open Go.RowKit Go.Maps
set_option linter.unusedVariables false
set_option maxRecDepth 100000

def SgRel (w8 : World) (n : Nat) (u : Value) (wr : World) : Prop := ∃ k : Nat, k ≤ n ∧ u = .int .i64 (k : Int) ∧ Hid (Below w8.heap.size w8 wr)
set_option maxHeartbeats 16000000 in
theorem walAgain_walk (v : Value) (l : List Wa) (w : World) {B0 : Nat} (hg : Glob w B0) (hB0 : B0 ≤ w.heap.size) (hv : WasAt w w.heap.size v l) (hin : ∀ a ∈ l, WaIn a) (hl : l.length ≤ maxLen) :
    Calls Tryz.prog 5 #[v] w fun e w' => e = .returned (.bool true) ∧ Below w.heap.size w w' := by
  have HSH := hid (shown3_any w hg hB0)
  have HSM := hid (fun wx (hb : Below w.heap.size w wx) => small3_any v l wx w.heap.size (hv.below hb) hin hl)
  have HWas := hid hv
  obtain ⟨a0, cap, rfl, -⟩ := id hv
  unfold maxLen at hl
  cases hsm : smallW l with
  | false =>
    rw [hsm] at HSM
    clear hsm hin hg hv
    go_enter Tryz.func5, Tryz.ntmps5
    go_wp2_with (first
      | (go_at_call 6; (with_reducible refine HSH.out.mono ?_); rintro e w1 ⟨rfl, hb1⟩)
      | (go_at_call 7; (with_reducible refine (HSM.out _ hb1).mono ?_); rintro e w2 ⟨rfl, rfl⟩))
    go_ret
    exact ⟨rfl, hb1⟩
  | true =>
    obtain ⟨hl40, hok⟩ := smallW_ok hsm hin
    rw [hsm] at HSM
    have HBg := hid (fun wx (hb : Below w.heap.size w wx) => begin_any 100000 wx (hg.below hb hB0) (by have := hb.size; omega) (by omega) (by omega))
    have HFu := hid (fun w1 w' q a p mq r ql T S (hb : Below w.heap.size w w1) (h : Begun w1 w' q a p mq r ql T S (open0 (newD 100000)).1 (open0 (newD 100000)).1) => (fa_begun (n := l.length) hb (hg.below hb hB0) hB0 h : FaRel w q p a B0 l.length (.int .i64 0) w'))
    have HOk := hid hok
    clear hsm hin hg hv hok
    go_enter Tryz.func5, Tryz.ntmps5
    go_wp2_with (first
      | (go_at_call 6; (with_reducible refine HSH.out.mono ?_); rintro e w1 ⟨rfl, hb1⟩)
      | (go_at_call 7; (with_reducible refine (HSM.out _ hb1).mono ?_); rintro e w2 ⟨rfl, rfl⟩)
      | (go_at_call 8; (with_reducible refine (HBg.out _ hb1).mono ?_); rintro e w3 ⟨q, a, p, mq, r, ql, T, S, rfl, hB⟩; have HStart := hid (HFu.out _ _ _ _ _ _ _ _ _ _ hb1 hB); clear hB))
    go_loopw [8] (FaRel w q p a B0 l.length) (fun i _ => l.length - (intOf i).toNat)
    case atStart => exact HStart.out
    case round =>
      obtain ⟨k, T, s, g, hk, rfl, hfu⟩ := hrel
      have HF := hid hfu
      clear hfu
      by_cases hlt : k < l.length
      · have hne : l ≠ [] := fun e => by rw [e] at hlt; simp at hlt
        obtain ⟨a1, cap1, hva, hca⟩ := HWas.out.below HF.out.fu.below
        simp only [Value.slice.injEq] at hva
        obtain ⟨rfl, -, rfl⟩ := hva
        obtain ⟨b, o, rfl, hbB, hact⟩ := hca hne
        obtain ⟨kv, nv, hA⟩ := hact k l[k] (by simp [hlt])
        have hac := HOk.out _ (List.getElem_mem hlt)
        have HPk := hid (fun wx => pick3_any l[k].op 10 wx (by omega) (by omega) hac.op)
        have hro := pkRange l[k].op 10 (by omega)
        have d0 := hA.c0
        have d1 := hA.c1
        have d2 := hA.c2
        have d3 := hA.c3
        have d4 := hA.c4
        have d5 := hA.c5
        have d6 := hA.c6
        have d7 := hA.c7
        obtain ⟨ka, kc, rfl, _⟩ := id hA.k
        obtain ⟨na, nc, rfl, _⟩ := id hA.n
        have hDo := fun (hop : pickZ (l[k]'hlt).op 10 < 7) => HF.out.does hlt hl40 (l[k]'hlt) hac hop (.slice ka (l[k]'hlt).keep.length kc) (.slice na (l[k]'hlt).noise.length nc) ⟨_, _, _, rfl⟩ ⟨_, _, _, rfl⟩
        unfold waV at hDo
        have HDo := hid hDo
        clear hDo hA hact hca hne hac
        generalize l[k].op = x0 at *
        generalize l[k].term = x1 at *
        generalize l[k].vote = x2 at *
        generalize l[k].idx = x3 at *
        generalize l[k].n = x4 at *
        generalize l[k].data = x5 at *
        generalize l[k].keep = x6 at *
        generalize l[k].noise = x7 at *
        generalize pickZ x0 10 = o1 at *
        by_cases ho : o1 < 7
        · have HDo := hid (HDo.out ho)
          go_wp2_with (first
            | (go_at_call 10; (with_reducible refine (HPk.out _).mono ?_); rintro e w5 ⟨rfl, rfl⟩)
            | (go_at_call 15; (with_reducible refine HDo.out.mono ?_); rintro e w6 ⟨r6, rfl, hQ⟩; have HQ := hid hQ; clear hQ))
          go_roundw
          case rel => exact HQ.out
          case measure => simp [intOf]; omega
        · clear HDo
          go_wp2_with (go_at_call 10; (with_reducible refine (HPk.out _).mono ?_); rintro e w5 ⟨rfl, rfl⟩)
          go_roundw
          case rel => exact ⟨k + 1, T, s, g, by omega, by go_num, ⟨HF.out.fu.log, HF.out.fu.pair, HF.out.fu.tq, HF.out.fu.good, HF.out.fu.lgin.mono (by omega), HF.out.fu.ge, HF.out.fu.qge, HF.out.fu.glob, HF.out.fu.b0, HF.out.fu.below⟩, HF.out.lie, HF.out.most⟩
          case measure => simp [intOf]; omega
      · obtain rfl : k = l.length := by omega
        have HQc := hid (fun wx (hx : Below wr.heap.size wr wx) => (show wx.cell? ⟨q, 0, none⟩ = some (.pointer (some ⟨a, 0, none⟩)) from (own.cell (HF.out.later hx).fu.pair 0).trans rfl))
        have z0 := HQc.out _ (Below.refl _ _)
        have HOp := hid HF.out.opens
        have hsome := HF.out.lie.ne0
        have hfew := (segsL_in HF.out.fu.good.ok).1
        go_upto_region 14 with (go_at_call 17; (with_reducible refine HOp.out.mono ?_); rintro e w5 ⟨p5, rfl, hT5, -⟩; have HT5 := hid hT5; clear hT5)
        clear HQc z0 HOp HF HWas HOk
        have HX := hid (fun wx (hx : Below w5.heap.size w5 wx) => (HT5.out.later hx).cells)
        have HHd5 := hid (fun wx (hx : Below w5.heap.size w5 wx) => (by obtain ⟨T5, h5⟩ := (HT5.out.later hx).new; exact hard_any h5 : Calls Tryz.prog 11 #[.pointer (some ⟨p5, 0, none⟩)] wx fun e w' => e = .returned (.agg #[.int .i64 g.hd.term, .int .i64 g.hd.vote]) ∧ Below wx.heap.size wx w'))
        have HHd := hid (fun wx (hx : Below w5.heap.size w5 wx) => (by obtain ⟨T5, h5⟩ := (HT5.out.later hx).old; exact hard_any h5 : Calls Tryz.prog 11 #[.pointer (some ⟨p, 0, none⟩)] wx fun e w' => e = .returned (.agg #[.int .i64 g.hd.term, .int .i64 g.hd.vote]) ∧ Below wx.heap.size wx w'))
        have HEs5 := hid (fun wx (hx : Below w5.heap.size w5 wx) => (by obtain ⟨T5, h5⟩ := (HT5.out.later hx).new; exact entries_any h5 : Calls Tryz.prog 12 #[.pointer (some ⟨p5, 0, none⟩)] wx (CloneEPost wx g.L)))
        have HEs := hid (fun wx (hx : Below w5.heap.size w5 wx) => (by obtain ⟨T5, h5⟩ := (HT5.out.later hx).old; exact entries_any h5 : Calls Tryz.prog 12 #[.pointer (some ⟨p, 0, none⟩)] wx (CloneEPost wx g.L)))
        have hgl : g.L.length ≤ 100000 := by obtain ⟨T5, h5⟩ := HT5.out.old; exact h5.len
        obtain ⟨y0, y1⟩ := HX.out _ (Below.refl _ _)
        have HSm := hid (fun wk v1 v2 (h1 : EntsAt wk v1 g.L) (h2 : EntsAt wk v2 g.L) => (show Calls Tryz.prog 18 #[v1, v2] wk (fun e w' => e = .returned (.bool true) ∧ Below wk.heap.size wk w') from by
          refine (same_any v1 v2 g.L g.L wk h1 h2 hgl hgl).mono ?_
          rintro e w' ⟨he, hb2⟩
          exact ⟨by rw [he]; simp, hb2⟩))
        obtain ⟨names, hnames⟩ : ∃ l, segsL s.L = l := ⟨_, rfl⟩
        have hne : names ≠ [] := by rw [← hnames]; exact hsome
        have hl40 : names.length ≤ 40 := by rw [← hnames]; exact hfew
        have HSg5 := hid (fun wx (hx : Below w5.heap.size w5 wx) => (by obtain ⟨T5, h5⟩ := (HT5.out.later hx).new; exact h5.segs (HT5.out.later hx).glob (by have := HT5.out.b0; have := HT5.out.below.size; have := hx.size; omega) hnames : Calls Tryz.prog 21 #[.pointer (some ⟨p5, 0, none⟩)] wx fun e w' => ∃ v, e = .returned v ∧ NamesAt w' wx.heap.size v names ∧ Below wx.heap.size wx w'))
        have HSg := hid (fun wx (hx : Below w5.heap.size w5 wx) => (by obtain ⟨T5, h5⟩ := (HT5.out.later hx).old; exact h5.segs (HT5.out.later hx).glob (by have := HT5.out.b0; have := HT5.out.below.size; have := hx.size; omega) hnames : Calls Tryz.prog 21 #[.pointer (some ⟨p, 0, none⟩)] wx fun e w' => ∃ v, e = .returned v ∧ NamesAt w' wx.heap.size v names ∧ Below wx.heap.size wx w'))
        have hbk : Below w5.heap.size w5 w5.drew := Below.drew (Below.refl _ _)
        go_wp2
        go_region_held3 (fun wx => wx.cell? ⟨q, 0, none⟩ = some (.pointer (some ⟨a, 0, none⟩)) ∧ wx.cell? ⟨q, 1, none⟩ = some (.pointer (some ⟨p, 0, none⟩)))
          (with_reducible exact HX.out _ hbk)
          (first
            | (go_at_call 11; (with_reducible refine (HHd5.out _ hbk).mono ?_); rintro e wk ⟨rfl, hbn⟩; have hbk := hbk.trans (hbn.mono hbk.size); clear hbn)
            | (go_at_call 11; (with_reducible refine (HHd.out _ hbk).mono ?_); rintro e wk ⟨rfl, hbn⟩; have hbk := hbk.trans (hbn.mono hbk.size); clear hbn)
            | (go_at_call 12; (with_reducible refine (HEs5.out _ hbk).mono ?_); rintro e wk ⟨v5, rfl, hv5, hbn⟩; have hbk := hbk.trans (hbn.mono hbk.size); have HV5 := hid hv5.ents; obtain ⟨ao5, cap5, rfl, -, -⟩ := hv5.slice; clear hbn hv5)
            | (go_at_call 12; (with_reducible refine (HEs.out _ hbk).mono ?_); rintro e wk ⟨v6, rfl, hv6, hbn⟩; have hbk := hbk.trans (hbn.mono hbk.size); have HSm5 := hid (HSm.out _ _ v6 (HV5.out.below hbn) hv6.ents); obtain ⟨ao6, cap6, rfl, -, -⟩ := hv6.slice; clear hbn hv6)
            | (go_at_call 18; (with_reducible refine HSm5.out.mono ?_); rintro e wk ⟨rfl, hbn⟩; have hbk := hbk.trans (hbn.mono hbk.size); clear hbn))
        all_goals
          clear HHd5 HHd HEs5 HEs HSm y0 y1
          obtain ⟨y0, y1⟩ := HX.out _ hbk
          go_wp2_with (first
            | (go_at_call 21; (with_reducible refine (HSg5.out _ hbk).mono ?_); rintro e w6 ⟨v6, rfl, hv6, hb6⟩; obtain ⟨a6, cap6, rfl⟩ := names_slice hv6; obtain ⟨g6, rfl⟩ := names_some hv6 hne; have HV6 := hid hv6; have HB6 := hid (hbk.trans (hb6.mono hbk.size)); obtain ⟨z0, z1⟩ := HX.out _ HB6.out; clear hv6 hb6)
            | (go_at_call 21; (with_reducible refine (HSg.out _ HB6.out).mono ?_); rintro e w7 ⟨v7, rfl, hv7, hb7⟩; have HV7 := hid hv7; obtain ⟨a7, cap7, rfl⟩ := names_slice hv7; have HV6 := hid (names_same HV6.out (w' := w7) (hb7.block g6 (names_lt HV6.out).2)); have HB7 := hid (HB6.out.trans (hb7.mono HB6.out.size)); clear hv7 hb7))
          obtain ⟨g7, rfl⟩ := names_some HV7.out hne
          have hg6 := (names_lt HV6.out).2
          have hg7 := (names_lt HV7.out).2
          clear HX y0 y1 z0 z1
          go_wp2
          go_loopw [13] (SgRel w7 names.length) (fun i _ => names.length - (intOf i).toNat)
          case atStart => exact ⟨0, Nat.zero_le _, rfl, hid (Below.refl _ _)⟩
          case round =>
            obtain ⟨k, hk, rfl, hS⟩ := hrel
            by_cases hkn : k < names.length
            · have hkI : (k : Int) < (names.length : Int) := by omega
              have d0 := names_at (names_same HV6.out (w' := wr) (hS.out.block g6 hg6)) hkn
              have d1 := names_at (names_same HV7.out (w' := wr) (hS.out.block g7 hg7)) hkn
              generalize mk names[k] = nb at *
              have q1 : (!nb.toList == nb.toList) = false := by simp
              go_wp2
              go_quiet (fail)
              go_wp2
              go_roundw
              case rel => exact ⟨k + 1, hkn, by go_num, hid (below_drew hS.out _)⟩
              case measure => simp [intOf]; omega
            · obtain rfl : k = names.length := by omega
              have hkI : (names.length : Int) ≤ (names.length : Int) := Int.le_refl _
              go_wp2
              go_ret
              exact ⟨rfl, (HT5.out.below.trans (HB7.out.mono HT5.out.below.size)).trans (hS.out.mono (HT5.out.below.trans (HB7.out.mono HT5.out.below.size)).size)⟩
end Go.Proofs.YtgchdlfoehlomaaGreatDoor

