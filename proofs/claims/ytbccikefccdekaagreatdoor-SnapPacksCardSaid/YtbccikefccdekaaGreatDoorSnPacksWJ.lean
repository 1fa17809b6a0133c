import Derived.Test.YtbccikefccdekaaGreatDoorSrCJ
import Derived.Test.YtbccikefccdekaaGreatDoorSnShownJ
import Derived.Test.YtbccikefccdekaaGreatDoorSnArgJ
/-
  LAYER 4 (snap), the law SnapPacks: what the call does.
-/
namespace Go.Proofs.YtbccikefccdekaaGreatDoor
open Go.RowKit Go.Shelf
attribute [local go_sem] Oper.semAt_some
set_option linter.unusedVariables false
set_option maxRecDepth 100000

set_option maxHeartbeats 16000000 in
theorem snapPacks_walk (W : World) {B0 : Nat} (b : Bs) (vv : Value) (hg : Sn.Glob W B0) (hB0 : B0 ≤ W.heap.size) (ha : BArg W vv b) :
    Calls Tryz.prog 3 #[bval b vv] W fun e W' => e = .returned (.bool true) ∧ Below W.heap.size W W' := by
  obtain ⟨wa, wc, rfl, -⟩ := ha.vot
  dsimp only [bval]
  obtain ⟨W1, hW1⟩ : ∃ W1, W.alloc (.cells #[.int .i64 b.ix, .int .i64 b.tm, .slice wa b.vot.length wc, .string (mk b.data)] 24) = W1 := ⟨_, rfl⟩
  have b1 : Below W.heap.size W W1 := by rw [← hW1]; exact (Below.refl _ _).alloc (Nat.le_refl _) _
  have o1 : own W1 W.heap.size (bcells b (.slice wa b.vot.length wc)) 24 := by rw [← hW1]; exact own.new _ _ _
  have HX : Hid (∀ wx, Below W1.heap.size W1 wx → (wx.cell? ⟨W.heap.size, 0, none⟩ = some (.int .i64 b.ix) ∧ wx.cell? ⟨W.heap.size, 1, none⟩ = some (.int .i64 b.tm) ∧ wx.cell? ⟨W.heap.size, 2, none⟩ = some (.slice wa b.vot.length wc) ∧ wx.cell? ⟨W.heap.size, 3, none⟩ = some (.string (mk b.data))) ∧ Below W1.heap.size W1 wx) := hid (fun wx hb => by
    have o2 := o1.same (hb.block _ o1.lt)
    exact ⟨⟨(o2.cell 0).trans rfl, (o2.cell 1).trans rfl, (o2.cell 2).trans rfl, (o2.cell 3).trans rfl⟩, hb⟩)
  have HG : Hid (∀ wx, Below W1.heap.size W1 wx → Below W.heap.size W wx ∧ Sn.Glob wx B0 ∧ B0 ≤ wx.heap.size) := hid (fun wx hb => by
    have h2 := b1.trans (hb.mono b1.size)
    exact ⟨h2, hg.below h2 hB0, Nat.le_trans hB0 h2.size⟩)
  have HSh := hid (shown4_any W1 (HG.out W1 (Below.refl _ _)).2.1 (HG.out W1 (Below.refl _ _)).2.2)
  have HSm : Hid (∀ wx, Calls Tryz.prog 7 #[.agg #[.int .i64 b.ix, .int .i64 b.tm, .slice wa b.vot.length wc, .string (mk b.data)]] wx fun e w' => e = .returned (.bool (smallB b)) ∧ Below wx.heap.size wx w') := hid (fun wx => snSmall_any ⟨wa, wc, rfl⟩)
  cases hsm : smallB b with
  | false =>
    rw [hsm] at HSm
    clear hg ha o1 b1 hsm
    go_enter Tryz.func3, Tryz.ntmps3
    go_wp2_with (first
      | (go_at_call 6; (with_reducible refine HSh.out.mono ?_); rintro e w2 ⟨rfl, hbw⟩; obtain ⟨⟨q0, q1, q2, q3⟩, -⟩ := HX.out _ hbw)
      | (go_at_call 7; (with_reducible refine (HSm.out _).mono ?_); rintro e w3 ⟨rfl, hb⟩; have hbw := hbw.trans (hb.mono hbw.size); clear hb))
    go_ret
    exact ⟨rfl, (HG.out _ hbw).1⟩
  | true =>
    rw [hsm] at HSm
    have hbd : b.vot.length ≤ 20 ∧ b.data.length ≤ 5000 := by
      unfold smallB at hsm
      simp only [Bool.and_eq_true, decide_eq_true_eq] at hsm
      exact hsm
    have hba : BAt W (.slice wa b.vot.length wc) b := ha.bat (by omega) (by omega)
    have HPk : Hid (∀ wx, Below W1.heap.size W1 wx → Calls Tryz.prog 8 #[.agg #[.int .i64 b.ix, .int .i64 b.tm, .slice wa b.vot.length wc, .string (mk b.data)]] wx fun e w' => e = .returned (.tuple #[.string (mk (packR b)), .int .i64 (packE b)]) ∧ Below wx.heap.size wx w') := hid (fun wx hb => snPack_any (hba.below (HG.out wx hb).1) (HG.out wx hb).2.1.steps (Nat.lt_of_lt_of_le (HG.out wx hb).2.1.hsteps (HG.out wx hb).2.2))
    have HPr : Hid (∀ wx, Below W1.heap.size W1 wx → Calls Tryz.prog 9 #[.agg #[.int .i64 b.ix, .int .i64 b.tm, .slice wa b.vot.length wc, .string (mk b.data)]] wx fun e w' => e = .returned (.tuple #[.string (mk (packR b)), .int .i64 (packE b)]) ∧ Below wx.heap.size wx w') := hid (fun wx hb => srPack_any (hba.below (HG.out wx hb).1))
    have HR1 : Hid (∀ wx, Below W1.heap.size W1 wx → Calls Tryz.prog 10 #[.agg #[.int .i64 b.ix, .int .i64 b.tm, .slice wa b.vot.length wc, .string (mk b.data)]] wx fun e w' => e = .returned (.bool (rightS b)) ∧ Below wx.heap.size wx w') := hid (fun wx hb => snRight_any (hba.below (HG.out wx hb).1))
    have HR2 : Hid (∀ wx, Below W1.heap.size W1 wx → Calls Tryz.prog 11 #[.agg #[.int .i64 b.ix, .int .i64 b.tm, .slice wa b.vot.length wc, .string (mk b.data)]] wx fun e w' => e = .returned (.bool (rightS b)) ∧ Below wx.heap.size wx w') := hid (fun wx hb => srRight_any (hba.below (HG.out wx hb).1))
    have HDr : Hid (∀ wx, Below W1.heap.size W1 wx → Below W1.heap.size W1 wx.drew) := hid (fun wx h => Below.drew h)
    have HTr : Hid (∀ wx wy, Below W1.heap.size W1 wx → Below wx.heap.size wx wy → Below W1.heap.size W1 wy) := hid (fun wx wy h k => h.trans (k.mono h.size))
    clear hg ha o1 b1 hsm hba hbd
    generalize mk (packR b) = pb at *
    generalize packE b = pe at *
    generalize rightS b = r at *
    have e1 : (pb.toList == pb.toList) = true := beq_self_eq_true _
    have e2 : (pe == pe) = true := beq_self_eq_true _
    have e3 : (r == r) = true := beq_self_eq_true _
    go_enter Tryz.func3, Tryz.ntmps3
    go_upto_region 7 with (first
      | (go_at_call 6; (with_reducible refine HSh.out.mono ?_); rintro e w2 ⟨rfl, hbw⟩; obtain ⟨⟨q0, q1, q2, q3⟩, -⟩ := HX.out _ hbw)
      | (go_at_call 7; (with_reducible refine (HSm.out _).mono ?_); rintro e w3 ⟨rfl, hb⟩; have hbw := hbw.trans (hb.mono hbw.size); clear hb; obtain ⟨⟨q0, q1, q2, q3⟩, -⟩ := HX.out _ hbw)
      | (go_at_call 8; (with_reducible refine (HPk.out _ hbw).mono ?_); rintro e w4 ⟨rfl, hb⟩; have hbw := hbw.trans (hb.mono hbw.size); clear hb; obtain ⟨⟨q0, q1, q2, q3⟩, -⟩ := HX.out _ hbw)
      | (go_at_call 9; (with_reducible refine (HPr.out _ hbw).mono ?_); rintro e w5 ⟨rfl, hb⟩; have hbw := hbw.trans (hb.mono hbw.size); clear hb; obtain ⟨⟨q0, q1, q2, q3⟩, -⟩ := HX.out _ hbw))
    have HBW := hid hbw
    clear hbw
    go_region_held3 (fun wx => (wx.cell? ⟨W.heap.size, 0, none⟩ = some (.int .i64 b.ix) ∧ wx.cell? ⟨W.heap.size, 1, none⟩ = some (.int .i64 b.tm) ∧ wx.cell? ⟨W.heap.size, 2, none⟩ = some (.slice wa b.vot.length wc) ∧ wx.cell? ⟨W.heap.size, 3, none⟩ = some (.string (mk b.data))) ∧ Below W1.heap.size W1 wx)
      (first | (with_reducible exact HX.out _ hbk) | (with_reducible (refine HX.out _ ?_; repeat (first | exact HBW.out | exact And.right (by assumption) | refine HDr.out _ ?_))) | (with_reducible assumption))
      (first
        | (go_at_call 10; (with_reducible refine (HR1.out _ (And.right (by assumption))).mono ?_); rintro e w3 ⟨rfl, hbi⟩; have hbk : Below W1.heap.size W1 w3 := HTr.out _ _ (And.right (by assumption)) hbi)
        | (go_at_call 11; (with_reducible refine (HR2.out _ (And.right (by assumption))).mono ?_); rintro e w3 ⟨rfl, hbi⟩; have hbk : Below W1.heap.size W1 w3 := HTr.out _ _ (And.right (by assumption)) hbi))
    all_goals
      have HFN := hid (HG.out _ hbk).1
      clear hbk
      go_wp2
      go_ret
      exact ⟨rfl, HFN.out⟩
end Go.Proofs.YtbccikefccdekaaGreatDoor

