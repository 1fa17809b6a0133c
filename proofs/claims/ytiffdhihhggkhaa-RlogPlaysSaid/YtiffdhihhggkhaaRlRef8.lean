/-
  LAYER 8 (rlog), THE DOCUMENT's LOG: Restore (its voters' row may be the caller's: the blocks X).
-/
import Derived.Test.YtiffdhihhggkhaaRlRef7
namespace Go.Proofs.Ytiffdhihhggkhaa
open Go.RowKit
set_option linter.unusedVariables false
set_option maxRecDepth 100000

/-- As Turn; but a row of X may be the log's now. -/
def TurnX (X F : Nat → Prop) (w w' : World) (r : Nat) (s : Rl) : Prop := ∃ F', rfRep.Is w' F' r s ∧ Chg F w w' ∧ ∀ b, F' b → F b ∨ w.heap.size ≤ b ∨ X b
theorem rf_finalX {w W W' : World} {F X : Nat → Prop} {r : Nat} {s s' : Rl} {vv lv : Value} (hW : rfRep.Is W F r s) (h0 : Below w.heap.size w W) (ho : own W' r #[.int .i64 s'.bi, .int .i64 s'.bt, vv, .string s'.bd, lv] 70) (hc : Chg (fun b => b = r) W W') (hv : RAt numTy W vv s'.vot) (hl : RAt enTy W lv s'.ents)
    (hbv : ∀ b, vv.ownBlock = some b → X b ∧ b ≠ r ∧ b < W.heap.size) (hbl : ∀ b, lv.ownBlock = some b → w.heap.size ≤ b ∧ b ≠ r ∧ b < W.heap.size) : TurnX X F w W' r s' := by
  obtain ⟨v0, l0, hI⟩ := hW
  refine ⟨fun b => F b ∨ vv.ownBlock = some b ∨ lv.ownBlock = some b, ⟨vv, lv, ho, hv.same (fun b e hb => hc.block b hb (hbv b e).2.1) hc.size, hl.same (fun b e hb => hc.block b hb (hbl b e).2.1) hc.size, .inl hI.fr, fun b e => .inr (.inl e), fun b e => .inr (.inr e), fun b e => ?_, fun e => (hbv r e).2.1 rfl, fun e => (hbl r e).2.1 rfl⟩, ?_, fun b e => ?_⟩
  · have := hc.size
    rcases e with e | e | e
    · have := hI.lt b e; omega
    · have := (hbv b e).2; omega
    · have := (hbl b e).2; omega
  · exact (Chg.of_below (S := F) h0).trans hc (fun b e => .inl (by rw [e]; exact hI.fr))
  · rcases e with e | e | e
    · exact .inl e
    · exact .inr (.inr (hbv b e).1)
    · exact .inr (.inl (hbl b e).1)
theorem rf_drewX {w w' : World} {X F : Nat → Prop} {r : Nat} {s : Rl} (h : TurnX X F w w' r s) (n : Nat) : TurnX X F w (w'.drewN n) r s := by
  obtain ⟨F', hi, hc, hF⟩ := h
  exact ⟨F', rf_later hi (below_drew (Below.refl _ _) n), hc.drewN n, hF⟩
/-- What Restore's ends have in common: base and row are to be stored in the world W. -/
theorem rs_end {w W : World} {F : Nat → Prop} {r : Nat} {s : Rl} (hWI : rfRep.Is W F r s) (h0 : Below w.heap.size w W) (hF : ∀ b, F b → b < w.heap.size) (bi bt : Int) {va : Option Addr} {vn vc : Nat} {vot : List Int} (bd : ByteArray) (hv : RAt numTy w (.slice va vn vc) vot) (hx : ∀ b, (Value.slice va vn vc).ownBlock = some b → ¬ F b ∧ b < w.heap.size) {la : Option Addr} {ln lc : Nat} {L : List Me} (hl : RMid enTy w W (.slice la ln lc) L) :
    ∃ x0 x1 x2 x3 x4, (W.cell? ⟨r, 0, none⟩ = some x0 ∧ W.cell? ⟨r, 1, none⟩ = some x1 ∧ W.cell? ⟨r, 2, none⟩ = some x2 ∧ W.cell? ⟨r, 3, none⟩ = some x3 ∧ W.frozen? ⟨r, 0, none⟩ = false ∧ W.frozen? ⟨r, 1, none⟩ = false ∧ W.frozen? ⟨r, 2, none⟩ = false ∧ W.frozen? ⟨r, 3, none⟩ = false) ∧ (st4 W r (.int .i64 bi) (.int .i64 bt) (.slice va vn vc) (.string bd)).cell? ⟨r, 4, none⟩ = some x4 ∧ (st4 W r (.int .i64 bi) (.int .i64 bt) (.slice va vn vc) (.string bd)).frozen? ⟨r, 4, none⟩ = false ∧
    Hid (TurnX (fun b => (Value.slice va vn vc).ownBlock = some b) F w ((st4 W r (.int .i64 bi) (.int .i64 bt) (.slice va vn vc) (.string bd)).setCell ⟨r, 4, none⟩ (.slice la ln lc)) r ⟨bi, bt, vot, bd, L⟩) := by
  obtain ⟨v0, l0, hI⟩ := id hWI
  have hr := hF r hI.fr
  have o0 : own (W.setCell ⟨r, 0, none⟩ (.int .i64 bi)) r #[.int .i64 bi, .int .i64 s.bt, v0, .string s.bd, l0] 70 := hI.box.set 0 (.int .i64 bi)
  have o1 : own ((W.setCell ⟨r, 0, none⟩ (.int .i64 bi)).setCell ⟨r, 1, none⟩ (.int .i64 bt)) r #[.int .i64 bi, .int .i64 bt, v0, .string s.bd, l0] 70 := o0.set 1 (.int .i64 bt)
  have o2 : own (((W.setCell ⟨r, 0, none⟩ (.int .i64 bi)).setCell ⟨r, 1, none⟩ (.int .i64 bt)).setCell ⟨r, 2, none⟩ (.slice va vn vc)) r #[.int .i64 bi, .int .i64 bt, .slice va vn vc, .string s.bd, l0] 70 := o1.set 2 (.slice va vn vc)
  have o3 : own (st4 W r (.int .i64 bi) (.int .i64 bt) (.slice va vn vc) (.string bd)) r #[.int .i64 bi, .int .i64 bt, .slice va vn vc, .string bd, l0] 70 := o2.set 3 (.string bd)
  have o4 : own ((st4 W r (.int .i64 bi) (.int .i64 bt) (.slice va vn vc) (.string bd)).setCell ⟨r, 4, none⟩ (.slice la ln lc)) r #[.int .i64 bi, .int .i64 bt, .slice va vn vc, .string bd, .slice la ln lc] 70 := o3.set 4 (.slice la ln lc)
  have hch : Chg (fun b => b = r) W ((st4 W r (.int .i64 bi) (.int .i64 bt) (.slice va vn vc) (.string bd)).setCell ⟨r, 4, none⟩ (.slice la ln lc)) := (((((Chg.setCell W ⟨r, 0, none⟩ _).trans (Chg.setCell _ ⟨r, 1, none⟩ _) (fun b e => .inl e)).trans (Chg.setCell _ ⟨r, 2, none⟩ _) (fun b e => .inl e)).trans (Chg.setCell _ ⟨r, 3, none⟩ _) (fun b e => .inl e)).trans (Chg.setCell _ ⟨r, 4, none⟩ _) (fun b e => .inl e))
  refine ⟨_, _, _, _, _, ⟨hI.box.cell 0, hI.box.cell 1, hI.box.cell 2, hI.box.cell 3, hI.box.frozen 0, hI.box.frozen 1, hI.box.frozen 2, hI.box.frozen 3⟩, o3.cell 4, o3.frozen 4, hid (rf_finalX (s' := ⟨bi, bt, vot, bd, L⟩) hWI h0 o4 hch (hv.below h0) hl.row.rAt (fun b e => ⟨e, fun e2 => (hx b e).1 (by rw [e2]; exact hI.fr), by have := (hx b e).2; have := h0.size; omega⟩) (fun b e => ⟨hl.new b e, by have := hl.new b e; omega, hl.row.lt b e⟩))⟩
def RfSRel (w : World) (L : List Me) (j0 : Nat) (u v : Value) (wr : World) : Prop := ∃ (i n : Nat) (a : Option Addr) (cap : Nat), i ≤ L.length ∧ u = .slice a n cap ∧ v = .int .i64 (i : Int) ∧ Hid (RMid enTy w wr (.slice a n cap) ((L.take i).drop j0) ∧ n = ((L.take i).drop j0).length)
def RsPost (w : World) (F X : Nat → Prop) (r : Nat) (s : Rl) (ok : Bool) (e : Ending) (w' : World) : Prop := e = .returned (.bool ok) ∧ TurnX X F w w' r s
set_option maxHeartbeats 8000000 in
theorem rfRestore_any {w : World} {F : Nat → Prop} {r : Nat} {s : Rl} (bi bt : Int) (vv : Value) (vot : List Int) (bd : ByteArray) (h : rfRep.Is w F r s) (hB : RlB s) (hA : Apart numTy w F vv vot) (hbi0 : 0 ≤ bi) (hbi : bi ≤ 100000) (hbt : I64' bt) : Calls Try.prog 37 #[.pointer (some ⟨r, 0, none⟩), baseV bi bt vv bd] w (RsPost w F (fun b => vv.ownBlock = some b) r (restoreL s bi bt vot bd).2 (restoreL s bi bt vot bd).1) := by
  unfold baseV
  have H := hid h
  obtain ⟨va, vc, rfl, hAr⟩ := id hA.row
  clear hAr
  obtain ⟨vn, hvn⟩ : ∃ n, vot.length = n := ⟨_, rfl⟩
  rw [hvn] at hA
  rw [hvn]
  have HA := hid hA
  have hF := rfRep.lt h
  have hz : (w.alloc (.cells #[.int .i64 bi, .int .i64 bt, .slice va vn vc, .string bd] 33)).heap.size = w.heap.size + 1 := by simp
  have b0 : Below w.heap.size w (w.alloc (.cells #[.int .i64 bi, .int .i64 bt, .slice va vn vc, .string bd] 33)) := (Below.refl _ _).alloc (Nat.le_refl _) _
  have ob := own.new w #[.int .i64 bi, .int .i64 bt, .slice va vn vc, .string bd] 33
  have hbiI : I64' bi := by unfold I64'; omega
  have C1 := hid (rfTerm_any bi (rf_later h b0) hB hbiI)
  have d0 := (ob.cell 0).trans rfl
  have HD : Hid (∀ wx, Below (w.heap.size + 1) (w.alloc (.cells #[.int .i64 bi, .int .i64 bt, .slice va vn vc, .string bd] 33)) wx → Below w.heap.size w wx ∧ wx.cell? ⟨w.heap.size, 0, none⟩ = some (.int .i64 bi) ∧ wx.cell? ⟨w.heap.size, 1, none⟩ = some (.int .i64 bt) ∧ wx.cell? ⟨w.heap.size, 2, none⟩ = some (.slice va vn vc) ∧ wx.cell? ⟨w.heap.size, 3, none⟩ = some (.string bd)) := hid (fun wx hb => by
    have o := ob.same (hb.block _ (by omega))
    exact ⟨b0.trans (hb.mono (by omega)), (o.cell 0).trans rfl, (o.cell 1).trans rfl, (o.cell 2).trans rfl, (o.cell 3).trans rfl⟩)
  by_cases hk : termL s bi = some bt
  · obtain ⟨j0, hj0⟩ : ∃ j0, (bi - s.bi).toNat = j0 := ⟨_, rfl⟩
    have HS : Hid (restoreL s bi bt vot bd = (true, ⟨bi, bt, vot, bd, s.ents.drop j0⟩)) := hid (by unfold restoreL; rw [decide_eq_true hk, if_pos hk, hj0])
    rw [HS.out]
    rw [hk] at C1
    simp only [Option.getD_some, Option.isSome_some] at C1
    have hge : s.bi ≤ bi := by
      rcases Int.lt_or_le bi s.bi with h1 | h1
      · rw [termL_none (.inl h1)] at hk; cases hk
      · exact h1
    have HX : Hid (∀ (i : Nat) x, s.ents[i]? = some x → (bi < x.idx ↔ j0 ≤ i)) := hid (fun i x hx => by have := hB.ok.rises i x hx; omega)
    have h2 := hB.len
    clear h hA b0 ob hk
    go_enter Try.func37, Try.ntmps37
    go_upto_region 3 with (go_at_call 40; (with_reducible refine C1.out.mono ?_); rintro e w1 ⟨rfl, hb1⟩; obtain ⟨hbw, e0, e1, e2, e3⟩ := HD.out _ (hb1.mono (by rw [hz]; exact Nat.le_refl _)); have HBw := hid hbw; have HB1 := hid (hb1.mono (B' := w.heap.size + 1) (by rw [hz]; exact Nat.le_refl _)); clear hbw hb1)
    clear d0
    have hWI := rf_later H.out HBw.out
    obtain ⟨va', vc', la', lc', hI, hc⟩ := rf_c hWI
    have hE : ∀ (k : Nat) x, s.ents[k]? = some x → ∃ sb so, la' = some ⟨sb, so, none⟩ ∧ ∀ wx, Below w1.heap.size w1 wx → wx.cell? ⟨sb, so + k * 4, none⟩ = some (.int .i64 x.idx) ∧ wx.cell? ⟨sb, so + k * 4 + 1, none⟩ = some (.int .i64 x.term) ∧ wx.cell? ⟨sb, so + k * 4 + 2, none⟩ = some (.int .i64 x.kind) ∧ wx.cell? ⟨sb, so + k * 4 + 3, none⟩ = some (.string x.dt) := by
      obtain ⟨a', cap', e, hat⟩ := en_at hI.ents
      cases e
      exact hat
    have HE := hid hE
    have HC4 : Hid (∀ wx, Below w1.heap.size w1 wx → wx.cell? ⟨r, 4, none⟩ = some (.slice la' s.ents.length lc') ∧ wx.cell? ⟨w.heap.size, 0, none⟩ = some (.int .i64 bi)) := hid (fun wx hb => ⟨(hc wx hb).c4, (HD.out wx (HB1.out.trans (hb.mono (by have := HB1.out.size; rw [hz] at this; omega)))).2.1⟩)
    have HEnd : Hid (∀ wx, Below w1.heap.size w1 wx → rfRep.Is wx F r s ∧ Below w.heap.size w wx ∧ wx.cell? ⟨w.heap.size, 0, none⟩ = some (.int .i64 bi) ∧ wx.cell? ⟨w.heap.size, 1, none⟩ = some (.int .i64 bt) ∧ wx.cell? ⟨w.heap.size, 2, none⟩ = some (.slice va vn vc) ∧ wx.cell? ⟨w.heap.size, 3, none⟩ = some (.string bd)) := hid (fun wx hb => ⟨rf_later hWI hb, HD.out wx (HB1.out.trans (hb.mono (by have := HB1.out.size; rw [hz] at this; omega)))⟩)
    have HW1 := hid (show w.heap.size ≤ w1.heap.size from HBw.out.size)
    obtain ⟨ln, hln⟩ : ∃ k, s.ents.length = k := ⟨_, rfl⟩
    rw [hln] at HC4 h2
    have HLn := hid hln
    clear hWI hI hc hE hln hj0
    go_wp2
    go_loopw [8, 9] (RfSRel w1 s.ents j0) (fun _ i _ => ln - (intOf i).toNat)
    case atStart => exact ⟨0, 0, none, 0, Nat.zero_le _, rfl, rfl, hid ⟨by rw [List.take_zero, List.drop_nil]; exact rMid_nil w1, by simp⟩⟩
    case round =>
      clear e0 e1 e2 e3
      obtain ⟨i, n, a, cap, hi, rfl, rfl, hq⟩ := hrel
      obtain ⟨c4, b0⟩ := HC4.out wr hq.out.1.below
      have HI := hid hi
      by_cases hin : i < ln
      · have hiI : (i : Int) < (ln : Int) := by omega
        obtain ⟨x, hx⟩ : ∃ x, s.ents[i]? = some x := ⟨_, List.getElem?_eq_getElem (by rw [HLn.out]; exact hin)⟩
        obtain ⟨sb, so, rfl, hce⟩ := HE.out i x hx
        obtain ⟨d0, d1, d2, d3⟩ := hce wr hq.out.1.below
        have HXI := hid (HX.out i x hx)
        have hlen : ((s.ents.take i).drop j0).length = i - j0 := by rw [List.length_drop, List.length_take]; have := HLn.out; omega
        have hq2 := hq.out.2
        rw [hlen] at hq2
        have hq1 : RMid enTy w1 wr.drew (.slice a n cap) ((s.ents.take i).drop j0) := hq.out.1.later (below_drew (Below.refl _ _) 1)
        by_cases hxf : bi < x.idx
        · have hji := HXI.out.1 hxf
          obtain ⟨a5, c5, w5, hrun, h5⟩ := hq1.push enTy_ok 26 49 x #[.int .i64 x.idx, .int .i64 x.term, .int .i64 x.kind, .string x.dt] rfl (by rw [hlen]; omega)
          rw [← hq.out.2] at hrun h5
          have hnext : (s.ents.take i).drop j0 ++ [x] = (s.ents.take (i + 1)).drop j0 := by
            rw [List.take_add_one, hx, Option.toList, List.drop_append_of_le_length (by rw [List.length_take]; have := HLn.out; omega)]
          rw [hnext] at h5
          have HRun : Hid ((Builtin.append_ #[26, 26] 26 #[.slice a n cap, .slice (some ⟨wr.heap.size, 0, none⟩) 1 1]).run Try.prog (wr.alloc (.cells #[.int .i64 x.idx, .int .i64 x.term, .int .i64 x.kind, .string x.dt] 49)).drew = .ok (.slice a5 (n + 1) c5) w5) := hid hrun
          have H5 := hid h5
          have HNx : Hid (n + 1 = ((s.ents.take (i + 1)).drop j0).length) := hid (by rw [← hnext, List.length_append, ← hq.out.2]; rfl)
          clear hrun h5 hnext hx hce hlen hq2 hq1
          go_wp2
          go_region
          all_goals
            go_wp2_with (at_builtin; refine wpList_append_at HRun.out (by with_reducible rfl) rfl _ _ rfl rfl rfl rfl ?_)
            go_roundw
            case rel => exact ⟨i + 1, n + 1, a5, c5, by have := HLn.out; omega, rfl, by go_num, hid ⟨H5.out, HNx.out⟩⟩
            case measure => simp [intOf]; omega
        · have hxf2 : x.idx ≤ bi := by omega
          have hji : ¬ j0 ≤ i := fun h => hxf (HXI.out.2 h)
          have h0 : (s.ents.take i).drop j0 = [] := List.drop_eq_nil_of_le (by rw [List.length_take]; omega)
          have h1 : (s.ents.take (i + 1)).drop j0 = [] := List.drop_eq_nil_of_le (by rw [List.length_take]; omega)
          have hn0 : n = 0 := by have := hq.out.2; rw [h0] at this; exact this
          have H1 : Hid (RMid enTy w1 wr.drew (.slice a n cap) ((s.ents.take (i + 1)).drop j0) ∧ n = ((s.ents.take (i + 1)).drop j0).length) := hid ⟨by rw [h1]; rw [h0] at hq1; exact hq1, by rw [h1]; exact hn0⟩
          clear hx hce hlen hq2 h0 h1 hn0 hq1
          go_wp2
          go_region
          all_goals
            go_wp2
            go_roundw
            case rel => exact ⟨i + 1, n, a, cap, by have := HLn.out; omega, rfl, by go_num, H1⟩
            case measure => simp [intOf]; omega
      · have hin2 : i = ln := by have := HLn.out; omega
        have hiI : (ln : Int) ≤ (i : Int) := by omega
        obtain ⟨hWr, hBr, e0, e1, e2, e3⟩ := HEnd.out wr hq.out.1.below
        have hm : RMid enTy w wr (.slice a n cap) (s.ents.drop j0) := by
          have h1 := hq.out.1
          rw [List.take_of_length_le (by rw [HLn.out]; omega)] at h1
          exact ⟨h1.row, fun b e => by have := h1.new b e; have := HW1.out; omega, hBr⟩
        obtain ⟨x0, x1, x2, x3, x4, ⟨m0, m1, m2, m3, f0, f1, f2, f3⟩, m4, f4, HFin⟩ := rs_end hWr hBr hF bi bt bd HA.out.row HA.out.out hm
        clear hWr hBr hm hin2
        go_wp2
        go_ret
        exact ⟨rfl, HFin.out⟩
  · obtain ⟨o, ho⟩ : ∃ o, termL s bi = o := ⟨_, rfl⟩
    have HS : Hid (restoreL s bi bt vot bd = (false, ⟨bi, bt, vot, bd, []⟩)) := hid (by unfold restoreL; rw [decide_eq_false hk, if_neg hk])
    rw [HS.out]
    rw [ho] at C1 hk
    cases o with
    | none =>
      simp only [Option.getD_none, Option.isSome_none] at C1
      clear h hA b0 ob hk ho
      go_enter Try.func37, Try.ntmps37
      go_upto_region 3 with (go_at_call 40; (with_reducible refine C1.out.mono ?_); rintro e w1 ⟨rfl, hb1⟩; obtain ⟨hbw, e0, e1, e2, e3⟩ := HD.out _ (hb1.mono (by rw [hz]; exact Nat.le_refl _)); have HBw := hid hbw; clear hbw hb1)
      clear d0
      have hWI := rf_later H.out HBw.out
      obtain ⟨va', vc', la', lc', hI, hc⟩ := rf_c hWI
      obtain ⟨c0, c1, c2, c3, c4⟩ := hc _ (Below.refl _ _)
      obtain ⟨x0, x1, x2, x3, x4, ⟨m0, m1, m2, m3, f0, f1, f2, f3⟩, m4, f4, HE⟩ := rs_end hWI HBw.out hF bi bt bd HA.out.row HA.out.out ((rMid_nil (R := enTy) w).later HBw.out)
      clear hWI hI hc c0 c1 c2 c3
      by_cases hn : 0 < s.ents.length
      · have hnI : (0 : Int) < (s.ents.length : Int) := by omega
        go_wp2
        go_loopw [8, 9] (fun u v wr => u = .slice none 0 0 ∧ v = .int .i64 0 ∧ wr = w1) (fun _ i _ => 1)
        case atStart => exact ⟨rfl, rfl, rfl⟩
        case round =>
          obtain ⟨rfl, rfl, rfl⟩ := hrel
          go_wp2
          go_ret
          exact ⟨rfl, HE.out⟩
      · have hnI : (s.ents.length : Int) ≤ 0 := by omega
        go_wp2
        go_loopw [8, 9] (fun u v wr => u = .slice none 0 0 ∧ v = .int .i64 0 ∧ wr = w1) (fun _ i _ => 1)
        case atStart => exact ⟨rfl, rfl, rfl⟩
        case round =>
          obtain ⟨rfl, rfl, rfl⟩ := hrel
          go_wp2
          go_ret
          exact ⟨rfl, HE.out⟩
    | some t =>
      simp only [Option.getD_some, Option.isSome_some] at C1
      have hq : (t == bt) = false := beq_false_of_ne (fun e => hk (by rw [e]))
      clear h hA b0 ob hk ho
      go_enter Try.func37, Try.ntmps37
      go_upto_region 3 with (go_at_call 40; (with_reducible refine C1.out.mono ?_); rintro e w1 ⟨rfl, hb1⟩; obtain ⟨hbw, e0, e1, e2, e3⟩ := HD.out _ (hb1.mono (by rw [hz]; exact Nat.le_refl _)); have HBw := hid hbw; clear hbw hb1)
      clear d0
      have hWI := rf_later H.out HBw.out
      obtain ⟨va', vc', la', lc', hI, hc⟩ := rf_c hWI
      obtain ⟨c0, c1, c2, c3, c4⟩ := hc _ (Below.refl _ _)
      obtain ⟨x0, x1, x2, x3, x4, ⟨m0, m1, m2, m3, f0, f1, f2, f3⟩, m4, f4, HE⟩ := rs_end hWI HBw.out hF bi bt bd HA.out.row HA.out.out ((rMid_nil (R := enTy) w).later HBw.out)
      clear hWI hI hc c0 c1 c2 c3
      by_cases hn : 0 < s.ents.length
      · have hnI : (0 : Int) < (s.ents.length : Int) := by omega
        go_wp2
        go_loopw [8, 9] (fun u v wr => u = .slice none 0 0 ∧ v = .int .i64 0 ∧ wr = w1) (fun _ i _ => 1)
        case atStart => exact ⟨rfl, rfl, rfl⟩
        case round =>
          obtain ⟨rfl, rfl, rfl⟩ := hrel
          go_wp2
          go_ret
          exact ⟨rfl, HE.out⟩
      · have hnI : (s.ents.length : Int) ≤ 0 := by omega
        go_wp2
        go_loopw [8, 9] (fun u v wr => u = .slice none 0 0 ∧ v = .int .i64 0 ∧ wr = w1) (fun _ i _ => 1)
        case atStart => exact ⟨rfl, rfl, rfl⟩
        case round =>
          obtain ⟨rfl, rfl, rfl⟩ := hrel
          go_wp2
          go_ret
          exact ⟨rfl, HE.out⟩
end Go.Proofs.Ytiffdhihhggkhaa
