/-
  LAYER 7 (msg), THE PROGRAM: Right.
-/
import Derived.Test.YtppjojjejabaeaaMsPrD
namespace Go.Proofs.Ytppjojjejabaeaa
open Go.RowKit
set_option linter.unusedVariables false
set_option maxRecDepth 100000

theorem rightM_is (m : Ms) : rightM m = (decide (1 ≤ m.kind) && decide (m.kind ≤ 6) && (nodeB m.fr && nodeB m.to_) && (inN m.term && inN m.index && inN m.logTerm && inN m.commit) && decide (m.ents.length ≤ 8) && m.ents.all rightE && rightB m && decide (m.dt.size ≤ 4000000)) := by
  unfold rightM rightB nodeB
  rw [risA_eq]
  unfold nodeB
  ac_rfl
set_option maxHeartbeats 16000000 in
theorem right_any {w : World} (m : Ms) (ev vv : Value) (hm : MsAt w m ev vv) (hin : MsIn m) :
    Calls Try.prog 13 #[msV m ev vv] w (BoolPost' w (rightM m)) := by
  have HRE := hid (rightM_is m)
  obtain ⟨b, hb⟩ : ∃ b, rightM m = b := ⟨_, rfl⟩
  rw [hb] at HRE ⊢
  obtain ⟨ea, ec, rfl, _⟩ := ents_at hm.ents
  obtain ⟨va, vc, rfl, _⟩ := nums_at hm.vot
  obtain ⟨wB, hwB⟩ : ∃ wB, w.alloc (.cells (msCells m (.slice ea m.ents.length ec) (.slice va m.vot.length vc)) 27) = wB := ⟨_, rfl⟩
  have hszB : wB.heap.size = w.heap.size + 1 := by rw [← hwB]; simp
  have hbB : Below w.heap.size w wB := by rw [← hwB]; exact (Below.refl _ _).alloc (Nat.le_refl _) _
  have obx : own wB w.heap.size (msCells m (.slice ea m.ents.length ec) (.slice va m.vot.length vc)) 27 := by rw [← hwB]; exact own.new w _ _
  obtain ⟨w2, hw2⟩ : ∃ w2, wB.alloc (.cells #[.int .i64 m.fr, .int .i64 m.to_] 3) = w2 := ⟨_, rfl⟩
  have hb2 : Below wB.heap.size wB w2 := by rw [← hw2]; exact (Below.refl _ _).alloc (Nat.le_refl _) _
  have hsz2 : w2.heap.size = w.heap.size + 2 := by rw [← hw2]; simp [hszB]
  obtain ⟨w4, hw4⟩ : ∃ w4, w2.alloc (.cells #[.int .i64 m.term, .int .i64 m.index, .int .i64 m.logTerm, .int .i64 m.commit] 3) = w4 := ⟨_, rfl⟩
  have hb4 : Below wB.heap.size wB w4 := hb2.trans (by rw [← hw4]; exact (Below.refl _ _).alloc (by omega) _)
  have HE1 := hid (everyN2 m.fr m.to_ wB (w.heap.size + 1) hszB)
  have HE2 := hid (every4 m.term m.index m.logTerm m.commit w2 (w.heap.size + 2) hsz2)
  rw [hw2] at HE1
  rw [hw4] at HE2
  have hat := hm.below (hbB.trans (hb4.mono hbB.size))
  have HEn : Hid (∀ wx, Below w4.heap.size w4 wx → Calls Try.prog 31 #[.func (.func 32) #[] #[], .slice ea m.ents.length ec] wx (BoolPost' wx (m.ents.all rightE))) := hid (fun wx h => everyEnt_any (hat.ents.below h) hin.el)
  have HBa : Hid (∀ wx, Below w4.heap.size w4 wx → Calls Try.prog 33 #[.agg #[.int .i64 m.bi, .int .i64 m.bt, .slice va m.vot.length vc, .string m.bd]] wx (BoolPost' wx (rightB m))) := hid (fun wx h => rightBase_any m (hat.vot.below h) hin.vl)
  have HDt := hid (rightData_any m.dt)
  have HC : Hid (∀ wx, Below wB.heap.size wB wx → wx.cell? ⟨w.heap.size, 3, none⟩ = some (.int .i64 m.term) ∧ wx.cell? ⟨w.heap.size, 4, none⟩ = some (.int .i64 m.index) ∧ wx.cell? ⟨w.heap.size, 5, none⟩ = some (.int .i64 m.logTerm) ∧ wx.cell? ⟨w.heap.size, 6, none⟩ = some (.int .i64 m.commit) ∧ wx.cell? ⟨w.heap.size, 8, none⟩ = some (.slice ea m.ents.length ec) ∧ wx.cell? ⟨w.heap.size, 9, none⟩ = some (.int .i64 m.bi) ∧ wx.cell? ⟨w.heap.size, 10, none⟩ = some (.int .i64 m.bt) ∧ wx.cell? ⟨w.heap.size, 11, none⟩ = some (.slice va m.vot.length vc) ∧ wx.cell? ⟨w.heap.size, 12, none⟩ = some (.string m.bd) ∧ wx.cell? ⟨w.heap.size, 13, none⟩ = some (.string m.dt)) := hid (fun wx h => by
    have o := obx.same (h.block _ obx.lt)
    exact ⟨(o.cell 3).trans rfl, (o.cell 4).trans rfl, (o.cell 5).trans rfl, (o.cell 6).trans rfl, (o.cell 8).trans rfl, (o.cell 9).trans rfl, (o.cell 10).trans rfl, (o.cell 11).trans rfl, (o.cell 12).trans rfl, (o.cell 13).trans rfl⟩)
  have HbB := hid hbB
  have HB2 := hid hb2
  have HB4 := hid hb4
  have HPoss : Hid (∀ wx, Below wB.heap.size wB wx → Below w.heap.size w wx) := hid (fun wx h => hbB.trans (h.mono hbB.size))
  have c0 : wB.cell? ⟨w.heap.size, 0, none⟩ = some (.int .i64 m.kind) := (obx.cell 0).trans rfl
  have c1 : wB.cell? ⟨w.heap.size, 1, none⟩ = some (.int .i64 m.fr) := (obx.cell 1).trans rfl
  have c2 : wB.cell? ⟨w.heap.size, 2, none⟩ = some (.int .i64 m.to_) := (obx.cell 2).trans rfl
  have hel := hin.el
  unfold maxLen at hel
  have HP0 := hid (HPoss.out _ (Below.refl _ _))
  have HP2 := hid (HPoss.out _ HB2.out)
  have HP4 := hid (HPoss.out _ HB4.out)
  have HCC := hid (HC.out _ HB2.out)
  have HCD := hid (HC.out _ HB4.out)
  have HRf := hid (Below.refl w4.heap.size w4)
  clear hb hm hat obx hbB hb2 hb4 hin
  unfold msV
  unfold msCells at *
  generalize (nodeB m.fr && nodeB m.to_) = b0 at *
  generalize (inN m.term && inN m.index && inN m.logTerm && inN m.commit) = b1 at *
  generalize m.ents.all rightE = b2 at *
  generalize rightB m = b3 at *
  by_cases hk1 : 1 ≤ m.kind
  case neg =>
    have d1 : decide (1 ≤ m.kind) = false := decide_eq_false hk1
    obtain rfl : b = false := by rw [HRE.out, d1]; rfl
    go_enter Try.func13, Try.ntmps13
    go_wp2
    go_ret
    exact ⟨rfl, HP0.out⟩
  have d1 : decide (1 ≤ m.kind) = true := decide_eq_true hk1
  by_cases hk6 : m.kind ≤ 6
  case neg =>
    have d2 : decide (m.kind ≤ 6) = false := decide_eq_false hk6
    obtain rfl : b = false := by rw [HRE.out, d1, d2]; rfl
    go_enter Try.func13, Try.ntmps13
    go_wp2
    go_ret
    exact ⟨rfl, HP0.out⟩
  have d2 : decide (m.kind ≤ 6) = true := decide_eq_true hk6
  rw [d1, d2] at HRE
  cases b0 with
  | false =>
    obtain rfl : b = false := by rw [HRE.out]; rfl
    go_enter Try.func13, Try.ntmps13
    go_wp2_with (first
        | (go_at_call 28; (with_reducible refine HE1.out.mono ?_); rintro e w1 ⟨rfl, rfl⟩; obtain ⟨c3, c4, c5, c6, _, _, _, _, _, _⟩ := HCC.out))
    go_ret
    exact ⟨rfl, HP2.out⟩
  | true =>
  cases b1 with
  | false =>
    obtain rfl : b = false := by rw [HRE.out]; rfl
    go_enter Try.func13, Try.ntmps13
    go_wp2_with (first
        | (go_at_call 28; (with_reducible refine HE1.out.mono ?_); rintro e w1 ⟨rfl, rfl⟩; obtain ⟨c3, c4, c5, c6, _, _, _, _, _, _⟩ := HCC.out)
        | (go_at_call 28; (with_reducible refine HE2.out.mono ?_); rintro e w1 ⟨rfl, rfl⟩; obtain ⟨_, _, _, _, c8, c9, c10, c11, c12, c13⟩ := HCD.out))
    go_ret
    exact ⟨rfl, HP4.out⟩
  | true =>
  by_cases he8 : m.ents.length ≤ 8
  case neg =>
    have he8I : ¬ (m.ents.length : Int) ≤ 8 := by omega
    have d3 : decide ((m.ents.length : Int) ≤ 8) = false := decide_eq_false he8I
    have d4 : decide (m.ents.length ≤ 8) = false := decide_eq_false he8
    obtain rfl : b = false := by rw [HRE.out, d4]; rfl
    go_enter Try.func13, Try.ntmps13
    go_wp2_with (first
        | (go_at_call 28; (with_reducible refine HE1.out.mono ?_); rintro e w1 ⟨rfl, rfl⟩; obtain ⟨c3, c4, c5, c6, _, _, _, _, _, _⟩ := HCC.out)
        | (go_at_call 28; (with_reducible refine HE2.out.mono ?_); rintro e w1 ⟨rfl, rfl⟩; obtain ⟨_, _, _, _, c8, c9, c10, c11, c12, c13⟩ := HCD.out))
    go_ret
    exact ⟨rfl, HP4.out⟩
  have he8I : (m.ents.length : Int) ≤ 8 := by omega
  have d3 : decide ((m.ents.length : Int) ≤ 8) = true := decide_eq_true he8I
  have d4 : decide (m.ents.length ≤ 8) = true := decide_eq_true he8
  rw [d4] at HRE
  cases b2 with
  | false =>
    obtain rfl : b = false := by rw [HRE.out]; rfl
    go_enter Try.func13, Try.ntmps13
    go_wp2_with (first
        | (go_at_call 28; (with_reducible refine HE1.out.mono ?_); rintro e w1 ⟨rfl, rfl⟩; obtain ⟨c3, c4, c5, c6, _, _, _, _, _, _⟩ := HCC.out)
        | (go_at_call 28; (with_reducible refine HE2.out.mono ?_); rintro e w1 ⟨rfl, rfl⟩; obtain ⟨_, _, _, _, c8, c9, c10, c11, c12, c13⟩ := HCD.out)
        | (go_at_call 31; (with_reducible refine (HEn.out _ HRf.out).mono ?_); rintro e w5 ⟨rfl, hb5⟩; obtain ⟨_, _, _, _, k8, k9, k10, k11, k12, k13⟩ := HC.out _ (HB4.out.trans (hb5.mono HB4.out.size)); have HB5 := hid hb5; have HP5 := hid (HPoss.out _ (HB4.out.trans (hb5.mono HB4.out.size))); clear hb5))
    go_ret
    exact ⟨rfl, HP5.out⟩
  | true =>
  cases b3 with
  | false =>
    obtain rfl : b = false := by rw [HRE.out]; rfl
    go_enter Try.func13, Try.ntmps13
    go_wp2_with (first
        | (go_at_call 28; (with_reducible refine HE1.out.mono ?_); rintro e w1 ⟨rfl, rfl⟩; obtain ⟨c3, c4, c5, c6, _, _, _, _, _, _⟩ := HCC.out)
        | (go_at_call 28; (with_reducible refine HE2.out.mono ?_); rintro e w1 ⟨rfl, rfl⟩; obtain ⟨_, _, _, _, c8, c9, c10, c11, c12, c13⟩ := HCD.out)
        | (go_at_call 31; (with_reducible refine (HEn.out _ HRf.out).mono ?_); rintro e w5 ⟨rfl, hb5⟩; obtain ⟨_, _, _, _, k8, k9, k10, k11, k12, k13⟩ := HC.out _ (HB4.out.trans (hb5.mono HB4.out.size)); have HB5 := hid hb5; have HP5 := hid (HPoss.out _ (HB4.out.trans (hb5.mono HB4.out.size))); clear hb5)
        | (go_at_call 33; (with_reducible refine (HBa.out _ HB5.out).mono ?_); rintro e w6 ⟨rfl, hb6⟩; have hb7 := HB5.out.trans (hb6.mono HB5.out.size); obtain ⟨_, _, _, _, _, _, _, _, _, j13⟩ := HC.out _ (HB4.out.trans (hb7.mono HB4.out.size)); have HP6 := hid (HPoss.out _ (HB4.out.trans (hb7.mono HB4.out.size))); clear hb6 hb7))
    go_ret
    exact ⟨rfl, HP6.out⟩
  | true =>
    obtain ⟨bd, hbd⟩ : ∃ bd, decide (m.dt.size ≤ 4000000) = bd := ⟨_, rfl⟩
    rw [hbd] at HDt HRE
    obtain rfl : b = bd := by rw [HRE.out]; rfl
    clear hbd
    go_enter Try.func13, Try.ntmps13
    go_wp2_with (first
        | (go_at_call 28; (with_reducible refine HE1.out.mono ?_); rintro e w1 ⟨rfl, rfl⟩; obtain ⟨c3, c4, c5, c6, _, _, _, _, _, _⟩ := HCC.out)
        | (go_at_call 28; (with_reducible refine HE2.out.mono ?_); rintro e w1 ⟨rfl, rfl⟩; obtain ⟨_, _, _, _, c8, c9, c10, c11, c12, c13⟩ := HCD.out)
        | (go_at_call 31; (with_reducible refine (HEn.out _ HRf.out).mono ?_); rintro e w5 ⟨rfl, hb5⟩; obtain ⟨_, _, _, _, k8, k9, k10, k11, k12, k13⟩ := HC.out _ (HB4.out.trans (hb5.mono HB4.out.size)); have HB5 := hid hb5; have HP5 := hid (HPoss.out _ (HB4.out.trans (hb5.mono HB4.out.size))); clear hb5)
        | (go_at_call 33; (with_reducible refine (HBa.out _ HB5.out).mono ?_); rintro e w6 ⟨rfl, hb6⟩; have hb7 := HB5.out.trans (hb6.mono HB5.out.size); obtain ⟨_, _, _, _, _, _, _, _, _, j13⟩ := HC.out _ (HB4.out.trans (hb7.mono HB4.out.size)); have HP6 := hid (HPoss.out _ (HB4.out.trans (hb7.mono HB4.out.size))); clear hb6 hb7)
        | (go_at_call 34; (with_reducible refine (HDt.out _).mono ?_); rintro e w7 ⟨rfl, rfl⟩))
    go_ret
    exact ⟨rfl, HP6.out⟩
end Go.Proofs.Ytppjojjejabaeaa
