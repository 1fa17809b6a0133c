/-
  LAYER 7 (msg), THE DOCUMENT's ANSWER: bytes, Pack.
-/
import Derived.Test.YtppjojjejabaeaaMsRefR
import Derived.Deep.RegionHeld3
namespace Go.Proofs.Ytppjojjejabaeaa
open Go.RowKit
set_option linter.unusedVariables false
set_option maxRecDepth 100000

theorem txt_len {t : ByteArray} (h : t.size ≤ 4000000) : (txt t.data.toList).length ≤ 4000010 := by
  unfold txt
  rw [List.length_append]
  have := eI_len (n := (t.data.toList.length : Int)) ⟨by omega, by rw [str_len]; omega⟩
  unfold eI at this
  rw [str_len] at *
  omega
theorem eE_len {e : Me} (h : i64b e.idx ∧ i64b e.term ∧ i64b e.kind ∧ e.dt.size ≤ 4000000) : (eE e).length ≤ 4000040 := by
  unfold eE
  simp only [List.length_append]
  have h1 := eI_len h.1
  have h2 := eI_len h.2.1
  have h3 := eI_len h.2.2.1
  have h4 := txt_len h.2.2.2
  omega
theorem eEs_len : ∀ (l : List Me), (∀ e ∈ l, i64b e.idx ∧ i64b e.term ∧ i64b e.kind ∧ e.dt.size ≤ 4000000) → (eEs l).length ≤ 4000040 * l.length
  | [], _ => by simp [eEs]
  | x :: r, h => by
    have e : eEs (x :: r) = eE x ++ eEs r := by simp [eEs]
    rw [e, List.length_append, List.length_cons]
    have h1 := eE_len (h x (by simp))
    have h2 := eEs_len r (fun y hy => h y (by simp [hy]))
    omega
def BhRel (w : World) (L : List Int) (u3 u5 : Value) (wr : World) : Prop := ∃ k : Nat, k ≤ 7 ∧ u3 = .string (mk (encs (L.take k))) ∧ u5 = .int .i64 (k : Int) ∧ Below w.heap.size w wr
def BeRel (w : World) (A : List UInt8) (L : List Me) (u3 u6 : Value) (wr : World) : Prop := ∃ k : Nat, k ≤ L.length ∧ u3 = .string (mk (A ++ eEs (L.take k))) ∧ u6 = .int .i64 (k : Int) ∧ Below w.heap.size w wr
def StrPost (w : World) (l : List UInt8) (e : Ending) (w' : World) : Prop := e = .returned (.string (mk l)) ∧ Below w.heap.size w w'
set_option maxHeartbeats 8000000 in
theorem refBytes_any {w : World} (m : Ms) (ev vv : Value) (hm : MsAt w m ev vv) (hr : MsB m) :
    Calls Try.prog 27 #[msV m ev vv] w (StrPost w (eM m)) := by
  have hbB : Below w.heap.size w (w.alloc (.cells (msCells m ev vv) 27)) := (Below.refl _ _).alloc (Nat.le_refl _) _
  obtain ⟨wB, hwB⟩ : ∃ wB, w.alloc (.cells (msCells m ev vv) 27) = wB := ⟨_, rfl⟩
  have hat := hm.below hbB
  obtain ⟨ea, ec, rfl, hea⟩ := ents_at hat.ents
  obtain ⟨va, vc, rfl, _⟩ := nums_at hat.vot
  rw [hwB] at hbB hat hea
  have obx : own wB w.heap.size (msCells m (.slice ea m.ents.length ec) (.slice va m.vot.length vc)) 27 := by rw [← hwB]; exact own.new w _ _
  have HBox : Hid (∀ wx, Below wB.heap.size wB wx → own wx w.heap.size (msCells m (.slice ea m.ents.length ec) (.slice va m.vot.length vc)) 27) := hid (fun wx h => obx.same (h.block _ obx.lt))
  have HE := hid hea
  have HVo := hid (fun wx (h : Below wB.heap.size wB wx) => refVoters_any (hat.vot.below h) hr.vot (by have := hr.vl; omega))
  have HPoss : Hid (∀ wx, Below wB.heap.size wB wx → Below w.heap.size w wx) := hid (fun wx h => hbB.trans (h.mono (by rw [← hwB]; simp)))
  have HRt := hid hr
  -- the row of the heads
  have hb7 : Below wB.heap.size wB (wB.alloc (.cells #[.int .i64 m.kind, .int .i64 m.fr, .int .i64 m.to_, .int .i64 m.term, .int .i64 m.index, .int .i64 m.logTerm, .int .i64 m.commit] 3)) := (Below.refl _ _).alloc (Nat.le_refl _) _
  have hrow : RAt numTy (wB.alloc (.cells #[.int .i64 m.kind, .int .i64 m.fr, .int .i64 m.to_, .int .i64 m.term, .int .i64 m.index, .int .i64 m.logTerm, .int .i64 m.commit] 3)) (.slice (some ⟨wB.heap.size, 0, none⟩) 7 7) (heads m) := nums_lit wB (heads m) 3 7 rfl (by unfold maxLen; omega)
  obtain ⟨w7, hw7⟩ : ∃ w7, wB.alloc (.cells #[.int .i64 m.kind, .int .i64 m.fr, .int .i64 m.to_, .int .i64 m.term, .int .i64 m.index, .int .i64 m.logTerm, .int .i64 m.commit] 3) = w7 := ⟨_, rfl⟩
  rw [hw7] at hb7 hrow
  obtain ⟨a7, c7, e7, hat7⟩ := nums_at hrow
  cases e7
  have HH : Hid (∀ wx, Below w7.heap.size w7 wx → ∀ k, k < 7 → wx.cell? ⟨wB.heap.size, k, none⟩ = some (.int .i64 ((heads m).getD k 0))) := hid (fun wx hb k hk => by
    obtain ⟨sb, so, e, hlt, hc⟩ := hat7 k hk
    cases e
    rw [Nat.zero_add] at hc
    exact (hb.cell (p := ⟨wB.heap.size, k, none⟩) hlt).trans hc)
  have HStart : Hid (BhRel w7 (heads m) (.string ⟨#[]⟩) (.int .i64 0) w7) := hid ⟨0, by omega, by rw [List.take_zero]; rfl, rfl, Below.refl _ _⟩
  have H7 : Hid (∀ wx, Below w7.heap.size w7 wx → Below wB.heap.size wB wx) := hid (fun wx h => hb7.trans (h.mono hb7.size))
  clear hm hat hea hbB obx hr hrow hat7 hb7
  have HWB := hid hwB
  have HW7 := hid hw7
  have c0 := (HBox.out _ (Below.refl _ wB)).cell 0
  have c1 := (HBox.out _ (Below.refl _ wB)).cell 1
  have c2 := (HBox.out _ (Below.refl _ wB)).cell 2
  have c3 := (HBox.out _ (Below.refl _ wB)).cell 3
  have c4 := (HBox.out _ (Below.refl _ wB)).cell 4
  have c5 := (HBox.out _ (Below.refl _ wB)).cell 5
  have c6 := (HBox.out _ (Below.refl _ wB)).cell 6
  have HCell : Hid (∀ wx, Below w7.heap.size w7 wx → wx.cell? ⟨w.heap.size, 7, none⟩ = some (.bool m.ok) ∧ wx.cell? ⟨w.heap.size, 8, none⟩ = some (.slice ea m.ents.length ec) ∧ wx.cell? ⟨w.heap.size, 9, none⟩ = some (.int .i64 m.bi) ∧ wx.cell? ⟨w.heap.size, 10, none⟩ = some (.int .i64 m.bt) ∧ wx.cell? ⟨w.heap.size, 11, none⟩ = some (.slice va m.vot.length vc) ∧ wx.cell? ⟨w.heap.size, 12, none⟩ = some (.string m.bd) ∧ wx.cell? ⟨w.heap.size, 13, none⟩ = some (.string m.dt)) := hid (fun wx h => by
    have o := HBox.out _ (H7.out _ h)
    exact ⟨(o.cell 7).trans rfl, (o.cell 8).trans rfl, (o.cell 9).trans rfl, (o.cell 10).trans rfl, (o.cell 11).trans rfl, (o.cell 12).trans rfl, (o.cell 13).trans rfl⟩)
  unfold msV
  unfold msCells at *
  simp only [List.getElem?_toArray, List.getElem?_cons_zero, List.getElem?_cons_succ] at c0 c1 c2 c3 c4 c5 c6
  go_enter Try.func27, Try.ntmps27
  go_wp2
  clear hwB hw7 c0 c1 c2 c3 c4 c5 c6
  go_loopw [3, 5] (BhRel w7 (heads m)) (fun _ i _ => 7 - (intOf i).toNat)
  case atStart => exact HStart.out
  case round =>
    obtain ⟨k, hk, rfl, rfl, hbw⟩ := hrel
    by_cases hkl : k < 7
    · have hkI : (k : Int) < 7 := by omega
      have cK := HH.out _ hbw k hkl
      have hget : (heads m).getD k 0 = (heads m)[k]'(by simpa [heads] using hkl) := by simp [List.getD, heads, hkl]
      have hxk := HRt.out.heads _ (List.getElem_mem (by simpa [heads] using hkl : k < (heads m).length))
      rw [← hget] at hxk
      have HTk : Hid (encs ((heads m).take (k + 1)) = encs ((heads m).take k) ++ eI ((heads m).getD k 0)) := hid (by rw [List.take_add_one, List.getElem?_eq_getElem (by simpa [heads] using hkl), hget]; exact encs_snocI _ _)
      have hsz : (mk (encs ((heads m).take k))).size ≤ 70 := by
        rw [mk_size]
        have h2 := encs_len ((heads m).take k) (fun y hy => HRt.out.heads y (List.mem_of_mem_take hy))
        rw [List.length_take] at h2
        omega
      have hsz2 : (mk (eI ((heads m).getD k 0))).size ≤ 10 := by rw [mk_size]; exact eI_len hxk
      have HI := hid (rInt_any ((heads m).getD k 0) wr hxk)
      have HAp : Hid (mk (encs ((heads m).take k)) ++ mk (eI ((heads m).getD k 0)) = mk (encs ((heads m).take (k + 1)))) := hid (by rw [mk_append, HTk.out])
      have HBw := hid hbw
      clear hget HTk hbw hxk
      obtain ⟨S, hS⟩ : ∃ S, mk (encs ((heads m).take k)) = S := ⟨_, rfl⟩
      rw [hS] at hsz HAp
      rw [hS]
      clear hS
      generalize (heads m).getD k 0 = x at *
      generalize mk (eI x) = t at *
      go_wp2_with (go_at_call 38; (with_reducible refine HI.out.mono ?_); rintro e w2 ⟨rfl, hb2⟩)
      go_roundw
      case rel => exact ⟨k + 1, by omega, by rw [← HAp.out], by go_num, HBw.out.trans (hb2.mono HBw.out.size)⟩
      case measure => simp [intOf]; omega
    · obtain rfl : k = 7 := by omega
      have htake : (heads m).take 7 = heads m := rfl
      rw [htake]
      have hel := HRt.out.el
      obtain ⟨S, hS⟩ : ∃ S, mk (encs (heads m)) = S := ⟨_, rfl⟩
      obtain ⟨tb, htb⟩ : ∃ tb, mk (eB m.ok) = tb := ⟨_, rfl⟩
      obtain ⟨tn, htn⟩ : ∃ tn, mk (eI (m.ents.length : Int)) = tn := ⟨_, rfl⟩
      have hs1 : S.size ≤ 70 := by
        rw [← hS, mk_size]
        have := encs_len (heads m) HRt.out.heads
        simpa [heads] using this
      have hs2 : tb.size = 1 := by rw [← htb]; rfl
      have hs3 : tn.size ≤ 10 := by rw [← htn, mk_size]; exact eI_len ⟨by omega, by omega⟩
      have HBo : Hid (∀ wx, Calls Try.prog 49 #[.bool m.ok] wx fun e w' => e = .returned (.string tb) ∧ wx = w') := hid (fun wx => by rw [← htb]; exact refBool_any m.ok wx)
      have HIn : Hid (∀ wx, Calls Try.prog 38 #[.int .i64 (m.ents.length : Int)] wx fun e w' => e = .returned (.string tn) ∧ Below wx.heap.size wx w') := hid (fun wx => by rw [← htn]; exact rInt_any _ wx ⟨by omega, by omega⟩)
      obtain ⟨A, hA⟩ : ∃ A, encs (heads m) ++ eB m.ok ++ eI (m.ents.length : Int) = A := ⟨_, rfl⟩
      have HAp : Hid (S ++ tb ++ tn = mk A) := hid (by rw [← hS, ← htb, ← htn, mk_append, mk_append, hA])
      have hAl : A.length ≤ 81 := by
        have : (mk A).size = (S ++ tb ++ tn).size := by rw [HAp.out]
        rw [mk_size, ByteArray.size_append, ByteArray.size_append] at this
        omega
      have HAe := hid hA
      rw [hS]
      have q1 : ¬ 9223372036854775807 < S.size + tb.size := by omega
      have q2 : ¬ 9223372036854775807 < S.size + tb.size + tn.size := by omega
      have HK : Hid (∀ wx, Below w7.heap.size w7 wx → (wx.cell? ⟨w.heap.size, 7, none⟩ = some (.bool m.ok) ∧ wx.cell? ⟨w.heap.size, 8, none⟩ = some (.slice ea m.ents.length ec)) ∧ Below w7.heap.size w7 wx) := hid (fun wx h => ⟨⟨(HCell.out _ h).1, (HCell.out _ h).2.1⟩, h⟩)
      have hbd := Below.drew hbw
      clear hS htb htn hA htake hs1 hs2 hs3
      go_wp2
      go_region_held3 (fun wx => (wx.cell? ⟨w.heap.size, 7, none⟩ = some (.bool m.ok) ∧ wx.cell? ⟨w.heap.size, 8, none⟩ = some (.slice ea m.ents.length ec)) ∧ Below w7.heap.size w7 wx)
        (first | (with_reducible exact HK.out _ hbd) | (with_reducible exact HK.out _ hbk) | (with_reducible assumption))
        (first
          | (go_at_call 49; (with_reducible refine (HBo.out _).mono ?_); rintro e w2 ⟨rfl, rfl⟩)
          | (go_at_call 38; (with_reducible refine (HIn.out _).mono ?_); rintro e w3 ⟨rfl, hb3⟩; have hbk : Below w7.heap.size w7 w3 := Below.trans (And.right (by assumption)) (hb3.mono (Below.size (And.right (by assumption))))))
      go_wp2
      go_loopw [3, 6] (BeRel w7 A m.ents) (fun _ i _ => m.ents.length - (intOf i).toNat)
      case atStart => exact ⟨0, Nat.zero_le _, by rw [HAp.out]; simp [eEs], rfl, hbk⟩
      case round =>
        clear HAp q1 q2 HBo HIn HK hbd hbk
        obtain ⟨k, hk, rfl, rfl, hbw⟩ := hrel
        obtain ⟨_, c8, c9, c10, c11, c12, c13⟩ := HCell.out _ hbw
        by_cases hkl : k < m.ents.length
        · have hkI : (k : Int) < (m.ents.length : Int) := by omega
          obtain ⟨x, hx⟩ : ∃ x, m.ents[k] = x := ⟨_, rfl⟩
          have hxk : m.ents[k]? = some x := by rw [List.getElem?_eq_getElem hkl, hx]
          obtain ⟨hx1, hx2, hx3, hx4⟩ := HRt.out.ents x (List.mem_of_getElem? hxk)
          obtain ⟨sb, so, rfl, hcs⟩ := HE.out k x hxk
          obtain ⟨d0, d1, d2, d3⟩ := hcs _ (H7.out _ hbw)
          obtain ⟨S0, hS0⟩ : ∃ S0, mk (A ++ eEs (m.ents.take k)) = S0 := ⟨_, rfl⟩
          obtain ⟨ti, hti⟩ : ∃ t, mk (eI x.idx) = t := ⟨_, rfl⟩
          obtain ⟨tt, htt⟩ : ∃ t, mk (eI x.term) = t := ⟨_, rfl⟩
          obtain ⟨tk, htk⟩ : ∃ t, mk (eI x.kind) = t := ⟨_, rfl⟩
          obtain ⟨td, htd⟩ : ∃ t, mk (txt x.dt.data.toList) = t := ⟨_, rfl⟩
          have z0 : S0.size ≤ 81 + 8 * 4000040 := by
            rw [← hS0, mk_size, List.length_append]
            have h2 := eEs_len (m.ents.take k) (fun y hy => HRt.out.ents y (List.mem_of_mem_take hy))
            rw [List.length_take] at h2
            omega
          have z1 : ti.size ≤ 10 := by rw [← hti, mk_size]; exact eI_len hx1
          have z2 : tt.size ≤ 10 := by rw [← htt, mk_size]; exact eI_len hx2
          have z3 : tk.size ≤ 10 := by rw [← htk, mk_size]; exact eI_len hx3
          have z4 : td.size ≤ 4000010 := by rw [← htd, mk_size]; exact txt_len hx4
          have q1 : ¬ 9223372036854775807 < S0.size + ti.size := by omega
          have q2 : ¬ 9223372036854775807 < S0.size + ti.size + tt.size := by omega
          have q3 : ¬ 9223372036854775807 < S0.size + ti.size + tt.size + tk.size := by omega
          have q4 : ¬ 9223372036854775807 < S0.size + ti.size + tt.size + tk.size + td.size := by omega
          have HI1 : Hid (∀ wx, Calls Try.prog 38 #[.int .i64 x.idx] wx fun e w' => e = .returned (.string ti) ∧ Below wx.heap.size wx w') := hid (fun wx => by rw [← hti]; exact rInt_any _ wx hx1)
          have HI2 : Hid (∀ wx, Calls Try.prog 38 #[.int .i64 x.term] wx fun e w' => e = .returned (.string tt) ∧ Below wx.heap.size wx w') := hid (fun wx => by rw [← htt]; exact rInt_any _ wx hx2)
          have HI3 : Hid (∀ wx, Calls Try.prog 38 #[.int .i64 x.kind] wx fun e w' => e = .returned (.string tk) ∧ Below wx.heap.size wx w') := hid (fun wx => by rw [← htk]; exact rInt_any _ wx hx3)
          have HT4 : Hid (∀ wx, Calls Try.prog 50 #[.string x.dt] wx fun e w' => e = .returned (.string td) ∧ Below wx.heap.size wx w') := hid (fun wx => by rw [← htd]; exact refText_any x.dt wx (by omega))
          have HAp : Hid (S0 ++ ti ++ tt ++ tk ++ td = mk (A ++ eEs (m.ents.take (k + 1)))) := hid (by
            rw [← hS0, ← hti, ← htt, ← htk, ← htd, mk_append, mk_append, mk_append, mk_append, List.take_add_one, hxk]
            simp [eEs, eE, List.append_assoc])
          obtain ⟨W, hW⟩ : ∃ W, wr.alloc (.cells #[.int .i64 x.idx, .int .i64 x.term, .int .i64 x.kind, .string x.dt] 49) = W := ⟨_, rfl⟩
          have ob : own W wr.heap.size #[.int .i64 x.idx, .int .i64 x.term, .int .i64 x.kind, .string x.dt] 49 := by rw [← hW]; exact own.new wr _ _
          have HBW : Hid (Below w7.heap.size w7 W) := hid (by rw [← hW]; exact hbw.alloc hbw.size _)
          have HK : Hid (∀ wx, Below W.heap.size W wx → (wx.cell? ⟨wr.heap.size, 0, none⟩ = some (.int .i64 x.idx) ∧ wx.cell? ⟨wr.heap.size, 1, none⟩ = some (.int .i64 x.term) ∧ wx.cell? ⟨wr.heap.size, 2, none⟩ = some (.int .i64 x.kind) ∧ wx.cell? ⟨wr.heap.size, 3, none⟩ = some (.string x.dt)) ∧ Below W.heap.size W wx) := hid (fun wx h => by
            have o := ob.same (h.block _ ob.lt)
            exact ⟨⟨(o.cell 0).trans rfl, (o.cell 1).trans rfl, (o.cell 2).trans rfl, (o.cell 3).trans rfl⟩, h⟩)
          have hbd : Below W.heap.size W W.drew := Below.drew (Below.refl _ _)
          rw [hS0]
          clear hx hxk hcs hS0 hti htt htk htd z0 z1 z2 z3 z4 ob hbw hx1 hx2 hx3 hx4
          go_wp2
          clear hW
          go_region_held3 (fun wx => (wx.cell? ⟨wr.heap.size, 0, none⟩ = some (.int .i64 x.idx) ∧ wx.cell? ⟨wr.heap.size, 1, none⟩ = some (.int .i64 x.term) ∧ wx.cell? ⟨wr.heap.size, 2, none⟩ = some (.int .i64 x.kind) ∧ wx.cell? ⟨wr.heap.size, 3, none⟩ = some (.string x.dt)) ∧ Below W.heap.size W wx)
            (first | (with_reducible exact HK.out _ hbk) | (with_reducible exact HK.out _ hbd) | (with_reducible assumption))
            (first
              | (go_at_call 50; (with_reducible refine (HT4.out _).mono ?_); rintro e w3 ⟨rfl, hb3⟩; have hbk : Below W.heap.size W w3 := Below.trans (And.right (by assumption)) (hb3.mono (Below.size (And.right (by assumption)))))
              | (go_at_call 38; (with_reducible refine (HI1.out _).mono ?_); rintro e w3 ⟨rfl, hb3⟩; have hbk : Below W.heap.size W w3 := Below.trans (And.right (by assumption)) (hb3.mono (Below.size (And.right (by assumption)))))
              | (go_at_call 38; (with_reducible refine (HI2.out _).mono ?_); rintro e w3 ⟨rfl, hb3⟩; have hbk : Below W.heap.size W w3 := Below.trans (And.right (by assumption)) (hb3.mono (Below.size (And.right (by assumption)))))
              | (go_at_call 38; (with_reducible refine (HI3.out _).mono ?_); rintro e w3 ⟨rfl, hb3⟩; have hbk : Below W.heap.size W w3 := Below.trans (And.right (by assumption)) (hb3.mono (Below.size (And.right (by assumption))))))
          all_goals
            have hfin := HBW.out.trans (hbk.mono HBW.out.size)
            have HFN := hid hfin
            clear hfin
            go_wp2
            go_roundw
            case rel => exact ⟨k + 1, by omega, by rw [← HAp.out], by go_num, HFN.out⟩
            case measure => simp [intOf]; omega
        · obtain rfl : k = m.ents.length := by omega
          rw [List.take_length]
          obtain ⟨S0, hS0⟩ : ∃ S0, mk (A ++ eEs m.ents) = S0 := ⟨_, rfl⟩
          obtain ⟨ti, hti⟩ : ∃ t, mk (eI m.bi) = t := ⟨_, rfl⟩
          obtain ⟨tt, htt⟩ : ∃ t, mk (eI m.bt) = t := ⟨_, rfl⟩
          obtain ⟨tv, htv⟩ : ∃ t, mk (eV m.vot) = t := ⟨_, rfl⟩
          obtain ⟨tk, htk⟩ : ∃ t, mk (txt m.bd.data.toList) = t := ⟨_, rfl⟩
          obtain ⟨td, htd⟩ : ∃ t, mk (txt m.dt.data.toList) = t := ⟨_, rfl⟩
          have z0 : S0.size ≤ 81 + 8 * 4000040 := by
            rw [← hS0, mk_size, List.length_append]
            have h2 := eEs_len m.ents HRt.out.ents
            omega
          have z1 : ti.size ≤ 10 := by rw [← hti, mk_size]; exact eI_len HRt.out.bi
          have z2 : tt.size ≤ 10 := by rw [← htt, mk_size]; exact eI_len HRt.out.bt
          have z3 : tv.size ≤ 100 := by
            rw [← htv, mk_size]
            unfold eV
            rw [List.length_append]
            have h1 := HRt.out.vl
            have h2 := encs_len m.vot HRt.out.vot
            have h3 := eI_len (n := (m.vot.length : Int)) ⟨by omega, by omega⟩
            omega
          have z4 : tk.size ≤ 4000010 := by rw [← htk, mk_size]; exact txt_len HRt.out.bd
          have z5 : td.size ≤ 4000010 := by rw [← htd, mk_size]; exact txt_len HRt.out.dt
          have q1 : ¬ 9223372036854775807 < S0.size + ti.size := by omega
          have q2 : ¬ 9223372036854775807 < S0.size + ti.size + tt.size := by omega
          have q3 : ¬ 9223372036854775807 < S0.size + ti.size + tt.size + tv.size := by omega
          have q4 : ¬ 9223372036854775807 < S0.size + ti.size + tt.size + tv.size + tk.size := by omega
          have q5 : ¬ 9223372036854775807 < S0.size + ti.size + tt.size + tv.size + tk.size + td.size := by omega
          have HI1 : Hid (∀ wx, Calls Try.prog 38 #[.int .i64 m.bi] wx fun e w' => e = .returned (.string ti) ∧ Below wx.heap.size wx w') := hid (fun wx => by rw [← hti]; exact rInt_any _ wx HRt.out.bi)
          have HI2 : Hid (∀ wx, Calls Try.prog 38 #[.int .i64 m.bt] wx fun e w' => e = .returned (.string tt) ∧ Below wx.heap.size wx w') := hid (fun wx => by rw [← htt]; exact rInt_any _ wx HRt.out.bt)
          have HV3 : Hid (∀ wx, Below w7.heap.size w7 wx → Calls Try.prog 16 #[.slice va m.vot.length vc] wx fun e w' => e = .returned (.string tv) ∧ Below wx.heap.size wx w') := hid (fun wx h => by rw [← htv]; exact HVo.out _ (H7.out _ h))
          have hzb := HRt.out.bd
          have hzd := HRt.out.dt
          have HT4 : Hid (∀ wx, Calls Try.prog 50 #[.string m.bd] wx fun e w' => e = .returned (.string tk) ∧ Below wx.heap.size wx w') := hid (fun wx => by rw [← htk]; exact refText_any m.bd wx (by omega))
          have HT5 : Hid (∀ wx, Calls Try.prog 50 #[.string m.dt] wx fun e w' => e = .returned (.string td) ∧ Below wx.heap.size wx w') := hid (fun wx => by rw [← htd]; exact refText_any m.dt wx (by omega))
          have HAp : Hid (S0 ++ ti ++ tt ++ tv ++ tk ++ td = mk (eM m)) := hid (by
            rw [← hS0, ← hti, ← htt, ← htv, ← htk, ← htd, mk_append, mk_append, mk_append, mk_append, mk_append, ← HAe.out]
            rfl)
          have HK : Hid (∀ wx, Below w7.heap.size w7 wx → (wx.cell? ⟨w.heap.size, 9, none⟩ = some (.int .i64 m.bi) ∧ wx.cell? ⟨w.heap.size, 10, none⟩ = some (.int .i64 m.bt) ∧ wx.cell? ⟨w.heap.size, 11, none⟩ = some (.slice va m.vot.length vc) ∧ wx.cell? ⟨w.heap.size, 12, none⟩ = some (.string m.bd) ∧ wx.cell? ⟨w.heap.size, 13, none⟩ = some (.string m.dt)) ∧ Below w7.heap.size w7 wx) := hid (fun wx h => ⟨⟨(HCell.out _ h).2.2.1, (HCell.out _ h).2.2.2.1, (HCell.out _ h).2.2.2.2.1, (HCell.out _ h).2.2.2.2.2.1, (HCell.out _ h).2.2.2.2.2.2⟩, h⟩)
          have hbd := Below.drew hbw
          rw [hS0]
          clear hS0 hti htt htv htk htd z0 z1 z2 z3 z4 z5 hzb hzd hbw
          go_wp2
          go_region_held3 (fun wx => (wx.cell? ⟨w.heap.size, 9, none⟩ = some (.int .i64 m.bi) ∧ wx.cell? ⟨w.heap.size, 10, none⟩ = some (.int .i64 m.bt) ∧ wx.cell? ⟨w.heap.size, 11, none⟩ = some (.slice va m.vot.length vc) ∧ wx.cell? ⟨w.heap.size, 12, none⟩ = some (.string m.bd) ∧ wx.cell? ⟨w.heap.size, 13, none⟩ = some (.string m.dt)) ∧ Below w7.heap.size w7 wx)
            (first | (with_reducible exact HK.out _ hbk) | (with_reducible exact HK.out _ hbd) | (with_reducible assumption))
            (first
              | (go_at_call 16; (with_reducible refine (HV3.out _ (And.right (by assumption))).mono ?_); rintro e w3 ⟨rfl, hb3⟩; have hbk : Below w7.heap.size w7 w3 := Below.trans (And.right (by assumption)) (hb3.mono (Below.size (And.right (by assumption)))))
              | (go_at_call 50; (with_reducible refine (HT4.out _).mono ?_); rintro e w3 ⟨rfl, hb3⟩; have hbk : Below w7.heap.size w7 w3 := Below.trans (And.right (by assumption)) (hb3.mono (Below.size (And.right (by assumption)))))
              | (go_at_call 50; (with_reducible refine (HT5.out _).mono ?_); rintro e w3 ⟨rfl, hb3⟩; have hbk : Below w7.heap.size w7 w3 := Below.trans (And.right (by assumption)) (hb3.mono (Below.size (And.right (by assumption)))))
              | (go_at_call 38; (with_reducible refine (HI1.out _).mono ?_); rintro e w3 ⟨rfl, hb3⟩; have hbk : Below w7.heap.size w7 w3 := Below.trans (And.right (by assumption)) (hb3.mono (Below.size (And.right (by assumption)))))
              | (go_at_call 38; (with_reducible refine (HI2.out _).mono ?_); rintro e w3 ⟨rfl, hb3⟩; have hbk : Below w7.heap.size w7 w3 := Below.trans (And.right (by assumption)) (hb3.mono (Below.size (And.right (by assumption))))))
          all_goals
            have HFN := hid (HPoss.out _ (H7.out _ hbk))
            clear hbk
            go_wp2
            go_ret
            exact ⟨by rw [← HAp.out]; rfl, HFN.out⟩
end Go.Proofs.Ytppjojjejabaeaa
