/-
  LAYER 8 (rlog): the law's does: Match.
-/
import Derived.Test.YtiffdhihhggkhaaRlDoesA
import Derived.Test.YtiffdhihhggkhaaRlRef10
namespace Go.Proofs.Ytiffdhihhggkhaa
open Go.RowKit
set_option linter.unusedVariables false
set_option maxRecDepth 100000

section
variable {R : RlRep} {w0 w : World} {F1 F2 : Nat → Prop} {r1 r2 : Nat} {s : Rl} {op ix tm fx : Int} {pa : Option Addr} {pc : Nat} {l : List Pa} {n : Int}
set_option maxHeartbeats 16000000 in
theorem doesMatch (HP : RlProg R) (h : DoIn R w0 w F1 F2 r1 r2 s op ix tm fx pa pc l n) {o : Int} (ho : pickZ op 7 = o) (h2 : 2 ≤ o) (h4 : o ≤ 4) : Calls Try.prog 16 #[.pointer (some ⟨r1, 0, none⟩), .pointer (some ⟨r2, 0, none⟩), .agg #[.int .i64 op, .int .i64 ix, .int .i64 tm, .int .i64 fx, .slice pa l.length pc]] w (DoPost R w0 w F1 F2 r1 r2 (n + 60)) := by
  have HPk := hid (fun wx => pick_any op 7 wx (by omega) (by omega) h.op.1 h.op.2)
  rw [ho] at HPk
  have HPi := hid (fun wx => pick_any ix 40 wx (by omega) (by omega) h.ix.1 h.ix.2)
  obtain ⟨ln, hln⟩ : ∃ k, l.length = k := ⟨_, rfl⟩
  rw [hln]
  have hb0 : Below w.heap.size w (w.alloc (actO op ix tm fx pa pc ln)) := (Below.refl _ _).alloc (Nat.le_refl _) _
  have ob := own.new w #[.int .i64 op, .int .i64 ix, .int .i64 tm, .int .i64 fx, .slice pa ln pc] 38
  obtain ⟨k0, k1, k2, k3, k4⟩ := act5 ob _ (Below.refl _ _)
  have HB := hid hb0
  have HO0 := hid ob
  have HT := hid h.two
  have HL := hid (And.intro h.last h.n1)
  have HSm := hid h.sm
  have HIn := hid h.in_
  have HIX := hid (And.intro h.ix h.tm)
  have hlen := (smallP_of h.sm).1
  have HEs : Hid (∀ wx, Below w0.heap.size w0 wx → Calls Try.prog 11 #[.slice pa ln pc, .int .i64 0] wx (EsPost wx (entsE l 0))) := by
    have := hid (fun wx hb => entries_at h.row h.in_ h.sm 0 ⟨by decide, by decide⟩ wx hb)
    rw [hln] at this
    exact this
  have HFx := hid (fixed_any fx (h.two.later hb0).m.is h.two.m.b h.fx)
  have hpf := pickZ_range fx (s.ents.length + 1) (by omega)
  obtain ⟨f, hf⟩ : ∃ f, s.bi + pickZ fx (s.ents.length + 1) = f := ⟨_, rfl⟩
  have HF : Hid (s.bi ≤ f ∧ f ≤ s.last) := hid ⟨by omega, by unfold Rl.last; omega⟩
  rw [hf] at HFx
  have HNx : Hid (¬ F1 w.heap.size ∧ ¬ F2 w.heap.size) := hid ⟨fun e => by have := R.lt HT.out.g.is _ e; omega, fun e => by have := rfRep.lt HT.out.m.is _ e; omega⟩
  have HLn := hid (And.intro hln hlen)
  have hi1 := h.ix.1
  have hi2 := h.ix.2
  clear h ho hln ob hb0 hpf hf hlen
  go_enter Try.func16, Try.ntmps16
  go_upto_region 13 with (first
    | (go_at_call 12; (with_reducible refine (HPk.out _).mono ?_); rintro e w5 ⟨rfl, rfl⟩)
    | (go_at_call 38; (with_reducible refine HFx.out.mono ?_); rintro e w1 ⟨rfl, hb1⟩))
  have HO1 := hid (HO0.out.same (hb1.block _ HO0.out.lt))
  have HT1 := hid ((HT.out.later HB.out).later hb1)
  have HZ1 : Hid (Ch2 F1 F2 w w1) := hid ((Ch2.start HB.out).below hb1)
  clear k0 k1 k2 k3 k4 HO0 HT HB hb1 HFx HPk
  obtain ⟨k0, k1, k2, k3, k4⟩ := act5 HO1.out _ (Below.refl _ _)
  go_upto_if 85 with (fail)
  go_cut [9] (fun u wx => ∃ j, u = .int .i64 j ∧ Hid (I64' j) ∧ wx = w1)
  case first =>
    have HJ : Hid (I64' (pickZ ix 40)) := hid (by have := pickZ_range ix 40 (by omega); exact ⟨by omega, by omega⟩)
    go_wp2_with (go_at_call 12; (with_reducible refine (HPi.out _).mono ?_); rintro e w5 ⟨rfl, rfl⟩)
    all_goals
      go_meet
      first
        | exact ⟨_, rfl, HJ, rfl⟩
        | exact ⟨_, rfl, hid HIX.out.1, rfl⟩
  case rest =>
  obtain ⟨j, rfl, HJ, rfl⟩ := hcut
  clear HPi hi1 hi2
  have HMe := hid (meIs_entsE (i := 0) HIn.out HSm.out ⟨by decide, by decide⟩)
  have HLe : Hid ((entsE l 0).length ≤ 60) := hid (by rw [entsE_len]; exact HLn.out.2)
  obtain ⟨L, hL⟩ : ∃ L, entsE l 0 = L := ⟨_, rfl⟩
  rw [hL] at HEs HMe HLe
  obtain ⟨mx, my, mb, s1, hcs⟩ : ∃ mx my mb s1, matchL s j tm f L = ((mx, my, mb), s1) := ⟨_, _, _, _, rfl⟩
  have HCs := hid hcs
  have HRB : Hid (RlB s1) := hid (by
    have hB := HT1.out.g.b
    have := hB.len_last
    have := HLe.out
    have := HL.out
    have h5 := hB.match_ j tm f L HMe.out HF.out.1 HF.out.2 (by omega)
    rw [HCs.out] at h5
    exact h5)
  have HLa : Hid (s1.last ≤ n + 60) := hid (by
    have h5 := last_matchL (g := s) j tm f L HF.out.1 HF.out.2
    rw [HCs.out] at h5
    have := HLe.out
    have := HL.out
    have h6 : s1.last ≤ s.last + L.length := h5
    omega)
  have HG : Hid (∀ W v, Two R w0 W F1 F2 r1 r2 s s → Apart enTy W F1 v L → Calls Try.prog 25 #[.pointer (some ⟨r1, 0, none⟩), .int .i64 j, .int .i64 tm, .int .i64 f, v] W fun e w' => e = .returned (.tuple #[.int .i64 mx, .int .i64 my, .bool mb]) ∧ ∃ F1', Two R w0 w' F1' F2 r1 r2 s1 s ∧ Chg F1 W w') := hid (fun W v hT hA => by
    refine (HP.match_ j tm f v L hT.g.is hT.g.b hA (by have := HLe.out; omega) HMe.out HJ.out HIX.out.2 HF.out.1 HF.out.2).mono ?_
    rw [HCs.out]
    rintro e w' ⟨rfl, ht⟩
    have hc : Chg F1 W w' := by obtain ⟨_, _, hc, _⟩ := ht; exact hc
    obtain ⟨F1', h2, -⟩ := hT.turn_g ht HRB.out
    exact ⟨rfl, F1', h2, hc⟩)
  have HD : Hid (∀ W F1' v, Two R w0 W F1' F2 r1 r2 s1 s → Apart enTy W F2 v L → Calls Try.prog 39 #[.pointer (some ⟨r2, 0, none⟩), .int .i64 j, .int .i64 tm, .int .i64 f, v] W fun e w' => e = .returned (.tuple #[.int .i64 mx, .int .i64 my, .bool mb]) ∧ (∃ F2', Two R w0 w' F1' F2' r1 r2 s1 s1) ∧ Chg F2 W w') := hid (fun W F1' v hT hA => by
    refine (rfMatch_any j tm f v L hT.m.is hT.m.b hA (by have := HLe.out; omega) (fun e he => (HMe.out e he).1.term) HJ.out HIX.out.2 HF.out.1 HF.out.2 (by rw [HCs.out]; exact HRB.out)).mono ?_
    rw [HCs.out]
    rintro e w' ⟨rfl, ht⟩
    have hc : Chg F2 W w' := by obtain ⟨_, _, hc, _⟩ := ht; exact hc
    exact ⟨rfl, hT.turn_m (X := fun _ => False) (turnX_of ht) HRB.out (fun b e => e.elim), hc⟩)
  clear hcs hL HMe HLe HF HJ HIX HSm HIn HLn
  obtain ⟨Ln, hLn⟩ : ∃ k, L.length = k := ⟨_, rfl⟩
  have HE2 : Hid (∀ wx, Below w0.heap.size w0 wx → Calls Try.prog 11 #[.slice pa ln pc, .int .i64 0] wx fun e w' => ∃ a c, e = .returned (.slice a Ln c) ∧ RMid enTy wx w' (.slice a Ln c) L) := hid (fun wx hb => by
    refine (HEs.out wx hb).mono ?_
    rintro e w' ⟨a, c, rfl, hm⟩
    rw [hLn] at hm ⊢
    exact ⟨a, c, rfl, hm⟩)
  clear HEs hLn
  go_upto_region 16 with (fail)
  have HO7 := hid (HO1.out.same (w' := wc.drew) rfl)
  have HT8 : Hid (Two R w0 wc.drew F1 F2 r1 r2 s s) := hid (HT1.out.later (Below.drew (Below.refl _ _)))
  have HK1 := hid (act5 HO7.out _ (Below.refl _ _))
  have HZ : Hid (Ch2 F1 F2 w wc.drew) := hid HZ1.out.drew
  go_region_held3 (fun wx => wx.cell? ⟨w.heap.size, 0, none⟩ = some (.int .i64 op) ∧ wx.cell? ⟨w.heap.size, 1, none⟩ = some (.int .i64 ix) ∧ wx.cell? ⟨w.heap.size, 2, none⟩ = some (.int .i64 tm) ∧ wx.cell? ⟨w.heap.size, 3, none⟩ = some (.int .i64 fx) ∧ wx.cell? ⟨w.heap.size, 4, none⟩ = some (.slice pa ln pc))
    (first | (with_reducible exact HK1.out) | (with_reducible exact HK2.out) | (with_reducible exact HK3.out) | (with_reducible assumption))
    (first
      | (go_at_call 11; (with_reducible refine (HE2.out _ HT8.out.g.below).mono ?_); rintro e w6 ⟨ga, gc, rfl, hm⟩; have HT6 := hid (HT8.out.later hm.below); have HA6 := hid (apart_new hm (R.lt HT8.out.g.is)); have HO6 := hid (HO7.out.same (hm.below.block _ HO7.out.lt)); have HK2 := hid (act5 HO6.out _ (Below.refl _ _)); have HZ6 := hid (HZ.out.below hm.below); clear hm)
      | (go_at_call 25; (with_reducible refine (HG.out _ _ HT6.out HA6.out).mono ?_); rintro e w8 ⟨rfl, F1', hT9, hc9⟩; have HT9 := hid hT9; have HO9 := hid (HO6.out.same (hc9.block _ HO6.out.lt HNx.out.1)); have HK3 := hid (act5 HO9.out _ (Below.refl _ _)); have HZ9 := hid (HZ6.out.g hc9); clear hT9 hc9))
  all_goals
    go_upto_region 17 with (fail)
    clear HT8 HK1 HT6 HA6 HO6 HK2 HO7 HK3 HO1 HT1 HZ1 HZ HZ6 k0 k1 k2 k3 k4
    have HO7 := hid (HO9.out.same (w' := w8.drew) rfl)
    have HT8 : Hid (Two R w0 w8.drew F1' F2 r1 r2 s1 s) := hid (HT9.out.later (Below.drew (Below.refl _ _)))
    have HK1 := hid (act5 HO7.out _ (Below.refl _ _))
    have HZ : Hid (Ch2 F1 F2 w w8.drew) := hid HZ9.out.drew
    obtain ⟨k0, k1, k2, k3, k4⟩ := act5 HO9.out _ (Below.refl _ _)
    go_region_held3 (fun wx => wx.cell? ⟨w.heap.size, 0, none⟩ = some (.int .i64 op) ∧ wx.cell? ⟨w.heap.size, 1, none⟩ = some (.int .i64 ix) ∧ wx.cell? ⟨w.heap.size, 2, none⟩ = some (.int .i64 tm) ∧ wx.cell? ⟨w.heap.size, 3, none⟩ = some (.int .i64 fx) ∧ wx.cell? ⟨w.heap.size, 4, none⟩ = some (.slice pa ln pc))
      (first | (with_reducible exact HK1.out) | (with_reducible exact HK2.out) | (with_reducible exact HK3.out) | (with_reducible assumption))
      (first
        | (go_at_call 11; (with_reducible refine (HE2.out _ HT8.out.g.below).mono ?_); rintro e w6 ⟨ha, hc, rfl, hm⟩; have HT6 := hid (HT8.out.later hm.below); have HA6 := hid (apart_new hm (rfRep.lt HT8.out.m.is)); have HO6 := hid (HO7.out.same (hm.below.block _ HO7.out.lt)); have HK2 := hid (act5 HO6.out _ (Below.refl _ _)); have HZ6 := hid (HZ.out.below hm.below); clear hm)
        | (go_at_call 39; (with_reducible refine (HD.out _ _ _ HT6.out HA6.out).mono ?_); rintro e w10 ⟨rfl, ⟨F2', hT11⟩, hc11⟩; have HT11 := hid hT11; have HK3 := hid (act5 (HO6.out.same (hc11.block _ HO6.out.lt HNx.out.2)) _ (Below.refl _ _)); have HZ11 := hid (HZ6.out.m hc11); clear hT11 hc11))
    all_goals
      have q1 : (mx == mx) = true := beq_self_eq_true _
      have q2 : (my == my) = true := beq_self_eq_true _
      have q3 : (mb == mb) = true := beq_self_eq_true _
      go_wp2
      go_ret
      exact ⟨by first | rfl | simp, F1', F2', _, HT11.out, HLa.out, HZ11.out⟩
end
end Go.Proofs.Ytiffdhihhggkhaa
