/-
  LAYER 7 (msg): MsgPacks: its walk. (Written by wip/tools/gen7_packs.py.)
-/
import Derived.Test.YtppjojjejabaeaaMsProg
import Derived.Deep.DeepCutAuto
import Derived.Deep.RegionHeld3
namespace Go.Proofs.Ytppjojjejabaeaa
open Go.RowKit
set_option linter.unusedVariables false
set_option maxRecDepth 100000

set_option maxHeartbeats 8000000 in
theorem msgPacks_walk (HP : MsProg) (m : Ms) (ev vv v1 : Value) (xs : List Int) (w : World) (hm : MsAt w m ev vv) (hi : MsIn m) (hx : RAt numTy w v1 xs) (hxi : ∀ x ∈ xs, I64' x) (hxl : xs.length ≤ maxLen) :
    Calls Try.prog 3 #[msV m ev vv, v1] w (ShownPost w) := by
  obtain ⟨wB, hwB⟩ : ∃ wB, w.alloc (.cells (msCells m ev vv) 27) = wB := ⟨_, rfl⟩
  have hbB : Below w.heap.size w wB := by rw [← hwB]; exact (Below.refl _ _).alloc (Nat.le_refl _) _
  have obx : own wB w.heap.size (msCells m ev vv) 27 := by rw [← hwB]; exact own.new w _ _
  have hat := hm.below hbB
  have hxB := hx.below hbB
  have hzB : w.heap.size < wB.heap.size := by rw [← hwB]; simp
  have HPoss : Hid (∀ wx, Below wB.heap.size wB wx → ShownPost w (.returned (.bool true)) wx) := hid (fun wx h => ⟨rfl, hbB.trans (h.mono (by omega))⟩)
  have HBx := hid (fun wx (h : Below wB.heap.size wB wx) => msBox_of (obx.same (h.block _ obx.lt)))
  have HS := hid (shown_any HP wB)
  have HSm : Hid (∀ wx, Below wB.heap.size wB wx → Calls Try.prog 10 #[.agg #[.int .i64 m.kind, .int .i64 m.fr, .int .i64 m.to_, .int .i64 m.term, .int .i64 m.index, .int .i64 m.logTerm, .int .i64 m.commit, .bool m.ok, ev, .int .i64 m.bi, .int .i64 m.bt, vv, .string m.bd, .string m.dt]] wx fun e w' => e = .returned (.bool (smallM m)) ∧ Below wB.heap.size wB w') := hid (fun wx h => (small_any m ev vv (hat.below h) hi).mono fun e w' ⟨he, hb⟩ => ⟨he, h.trans (hb.mono h.size)⟩)
  obtain ⟨S, c, hSc⟩ : ∃ S c, packN m = (S, c) := ⟨_, _, rfl⟩
  obtain ⟨br, hbr⟩ : ∃ br, rightM m = br := ⟨_, rfl⟩
  have HR1 : Hid (m.vot.length ≤ 1000000 → ∀ wx, Below wB.heap.size wB wx → Calls Try.prog 13 #[.agg #[.int .i64 m.kind, .int .i64 m.fr, .int .i64 m.to_, .int .i64 m.term, .int .i64 m.index, .int .i64 m.logTerm, .int .i64 m.commit, .bool m.ok, ev, .int .i64 m.bi, .int .i64 m.bt, vv, .string m.bd, .string m.dt]] wx fun e w' => e = .returned (.bool br) ∧ Below wx.heap.size wx w') := hid (fun hvl wx h => (HP.right m ev vv (hat.below h) hi).mono fun e w' ⟨he, hb⟩ => ⟨by rw [he, hbr], hb⟩)
  have HR2 : Hid (m.vot.length ≤ 1000000 → ∀ wx, Below wB.heap.size wB wx → Calls Try.prog 14 #[.agg #[.int .i64 m.kind, .int .i64 m.fr, .int .i64 m.to_, .int .i64 m.term, .int .i64 m.index, .int .i64 m.logTerm, .int .i64 m.commit, .bool m.ok, ev, .int .i64 m.bi, .int .i64 m.bt, vv, .string m.bd, .string m.dt]] wx fun e w' => e = .returned (.bool br) ∧ Below wx.heap.size wx w') := hid (fun hvl wx h => (refRight_any m ev vv (hat.below h) hi.el hvl).mono fun e w' ⟨he, hb⟩ => ⟨by rw [he, hbr], hb⟩)
  have HP1 : Hid (m.vot.length ≤ 1000000 → ∀ wx, Below wB.heap.size wB wx → Calls Try.prog 11 #[.agg #[.int .i64 m.kind, .int .i64 m.fr, .int .i64 m.to_, .int .i64 m.term, .int .i64 m.index, .int .i64 m.logTerm, .int .i64 m.commit, .bool m.ok, ev, .int .i64 m.bi, .int .i64 m.bt, vv, .string m.bd, .string m.dt]] wx fun e w' => e = .returned (.tuple #[.string (mk S), .int .i64 c]) ∧ Below wB.heap.size wB w') := hid (fun hvl wx h => (HP.pack m ev vv (hat.below h) hi hvl).mono fun e w' ⟨he, hb⟩ => ⟨by rw [he, hSc], h.trans (hb.mono h.size)⟩)
  have HP2 : Hid (m.vot.length ≤ 1000000 → ∀ wx, Below wB.heap.size wB wx → Calls Try.prog 12 #[.agg #[.int .i64 m.kind, .int .i64 m.fr, .int .i64 m.to_, .int .i64 m.term, .int .i64 m.index, .int .i64 m.logTerm, .int .i64 m.commit, .bool m.ok, ev, .int .i64 m.bi, .int .i64 m.bt, vv, .string m.bd, .string m.dt]] wx fun e w' => e = .returned (.tuple #[.string (mk S), .int .i64 c]) ∧ Below wB.heap.size wB w') := hid (fun hvl wx h => (refPack_any m ev vv (hat.below h) hi hvl).mono fun e w' ⟨he, hb⟩ => ⟨by rw [he, hSc], h.trans (hb.mono h.size)⟩)
  have HV1 : Hid (xs.length ≤ 1000000 → ∀ wx, Below wB.heap.size wB wx → Calls Try.prog 15 #[v1] wx fun e w' => e = .returned (.string (mk (eV xs))) ∧ Below wx.heap.size wx w') := hid (fun hl wx h => HP.voters (hxB.below h) hxi hl)
  have HV2 : Hid (xs.length ≤ 1000000 → ∀ wx, Below wB.heap.size wB wx → Calls Try.prog 16 #[v1] wx fun e w' => e = .returned (.string (mk (eV xs))) ∧ Below wx.heap.size wx w') := hid (fun hl wx h => refVoters_any (hxB.below h) hxi hl)
  obtain ⟨ea, ec, rfl, _⟩ := ents_at hat.ents
  obtain ⟨va, vc, rfl, _⟩ := nums_at hat.vot
  obtain ⟨xa, xc, rfl, _⟩ := nums_at hxB
  clear hm hi hat hx hxB hxi hSc hbr
  obtain ⟨k0, k1, k2, k3, k4, k5, k6, k7, k8, k9, k10, k11, k12, k13⟩ := HBx.out _ (Below.refl _ wB)
  have HW := hid hwB
  obtain ⟨bs, hbs⟩ : ∃ bs, smallM m = bs := ⟨_, rfl⟩
  rw [hbs] at HSm
  have HBS := hid hbs
  have hxl2 := hxl
  unfold maxLen at hxl2
  clear hbs obx hzB hbB HP hxl
  unfold msV
  unfold msCells at *
  cases bs with
  | false =>
    go_enter Try.func3, Try.ntmps3
    go_wp2_with (first
      | (go_at_call 9; (with_reducible refine HS.out.mono ?_); rintro e w1 ⟨rfl, hb1⟩; obtain ⟨k0, k1, k2, k3, k4, k5, k6, k7, k8, k9, k10, k11, k12, k13⟩ := HBx.out _ hb1)
      | (go_at_call 10; (with_reducible refine (HSm.out _ hb1).mono ?_); rintro e w2 ⟨rfl, hb2⟩))
    go_ret
    exact HPoss.out _ hb2
  | true =>
  by_cases hl : xs.length ≤ 100
  case neg =>
    have hlI : (100 : Int) < (xs.length : Int) := by omega
    go_enter Try.func3, Try.ntmps3
    go_wp2_with (first
      | (go_at_call 9; (with_reducible refine HS.out.mono ?_); rintro e w1 ⟨rfl, hb1⟩; obtain ⟨k0, k1, k2, k3, k4, k5, k6, k7, k8, k9, k10, k11, k12, k13⟩ := HBx.out _ hb1)
      | (go_at_call 10; (with_reducible refine (HSm.out _ hb1).mono ?_); rintro e w2 ⟨rfl, hb2⟩))
    go_ret
    exact HPoss.out _ hb2
  have hlI : (xs.length : Int) ≤ 100 := by omega
  have hs := HBS.out
  have hvl : m.vot.length ≤ 1000000 := by
    unfold smallM at hs
    simp only [Bool.and_eq_true, decide_eq_true_eq] at hs
    omega
  have K1 := hid (HP1.out hvl)
  have K2 := hid (HP2.out hvl)
  have K3 := hid (HR1.out hvl)
  have K4 := hid (HR2.out hvl)
  have K5 := hid (HV1.out (by omega))
  have K6 := hid (HV2.out (by omega))
  have qs : ((mk S).toList == (mk S).toList) = true := beq_self_eq_true _
  have qc : (c == c) = true := beq_self_eq_true _
  have qb : (br == br) = true := beq_self_eq_true _
  obtain ⟨V, hV⟩ : ∃ V, mk (eV xs) = V := ⟨_, rfl⟩
  rw [hV] at K5 K6
  have qv : (V.toList == V.toList) = true := beq_self_eq_true _
  have HK : Hid (∀ wx, Below wB.heap.size wB wx → (wx.cell? ⟨w.heap.size, 0, none⟩ = some (.int .i64 m.kind) ∧ wx.cell? ⟨w.heap.size, 1, none⟩ = some (.int .i64 m.fr) ∧ wx.cell? ⟨w.heap.size, 2, none⟩ = some (.int .i64 m.to_) ∧ wx.cell? ⟨w.heap.size, 3, none⟩ = some (.int .i64 m.term) ∧ wx.cell? ⟨w.heap.size, 4, none⟩ = some (.int .i64 m.index) ∧ wx.cell? ⟨w.heap.size, 5, none⟩ = some (.int .i64 m.logTerm) ∧ wx.cell? ⟨w.heap.size, 6, none⟩ = some (.int .i64 m.commit) ∧ wx.cell? ⟨w.heap.size, 7, none⟩ = some (.bool m.ok) ∧ wx.cell? ⟨w.heap.size, 8, none⟩ = some (.slice ea m.ents.length ec) ∧ wx.cell? ⟨w.heap.size, 9, none⟩ = some (.int .i64 m.bi) ∧ wx.cell? ⟨w.heap.size, 10, none⟩ = some (.int .i64 m.bt) ∧ wx.cell? ⟨w.heap.size, 11, none⟩ = some (.slice va m.vot.length vc) ∧ wx.cell? ⟨w.heap.size, 12, none⟩ = some (.string m.bd) ∧ wx.cell? ⟨w.heap.size, 13, none⟩ = some (.string m.dt)) ∧ Below wB.heap.size wB wx) := hid (fun wx h => by
    obtain ⟨k0, k1, k2, k3, k4, k5, k6, k7, k8, k9, k10, k11, k12, k13⟩ := HBx.out _ h
    exact ⟨⟨k0, k1, k2, k3, k4, k5, k6, k7, k8, k9, k10, k11, k12, k13⟩, h⟩)
  clear HP1 HP2 HR1 HR2 HV1 HV2 hV hs hvl hl hxl2
  go_enter Try.func3, Try.ntmps3
  go_upto_region 7 with (first
    | (go_at_call 9; (with_reducible refine HS.out.mono ?_); rintro e w1 ⟨rfl, hb1⟩; obtain ⟨k0, k1, k2, k3, k4, k5, k6, k7, k8, k9, k10, k11, k12, k13⟩ := HBx.out _ hb1)
    | (go_at_call 10; (with_reducible refine (HSm.out _ hb1).mono ?_); rintro e w2 ⟨rfl, hb2⟩; obtain ⟨k0, k1, k2, k3, k4, k5, k6, k7, k8, k9, k10, k11, k12, k13⟩ := HBx.out _ hb2)
    | (go_at_call 11; (with_reducible refine (K1.out _ hb2).mono ?_); rintro e w3 ⟨rfl, hb3⟩; obtain ⟨k0, k1, k2, k3, k4, k5, k6, k7, k8, k9, k10, k11, k12, k13⟩ := HBx.out _ hb3)
    | (go_at_call 12; (with_reducible refine (K2.out _ hb3).mono ?_); rintro e w4 ⟨rfl, hb4⟩; obtain ⟨k0, k1, k2, k3, k4, k5, k6, k7, k8, k9, k10, k11, k12, k13⟩ := HBx.out _ hb4))
  have hbd := Below.drew hb4
  clear k0 k1 k2 k3 k4 k5 k6 k7 k8 k9 k10 k11 k12 k13
  go_region_held3 (fun wx => (wx.cell? ⟨w.heap.size, 0, none⟩ = some (.int .i64 m.kind) ∧ wx.cell? ⟨w.heap.size, 1, none⟩ = some (.int .i64 m.fr) ∧ wx.cell? ⟨w.heap.size, 2, none⟩ = some (.int .i64 m.to_) ∧ wx.cell? ⟨w.heap.size, 3, none⟩ = some (.int .i64 m.term) ∧ wx.cell? ⟨w.heap.size, 4, none⟩ = some (.int .i64 m.index) ∧ wx.cell? ⟨w.heap.size, 5, none⟩ = some (.int .i64 m.logTerm) ∧ wx.cell? ⟨w.heap.size, 6, none⟩ = some (.int .i64 m.commit) ∧ wx.cell? ⟨w.heap.size, 7, none⟩ = some (.bool m.ok) ∧ wx.cell? ⟨w.heap.size, 8, none⟩ = some (.slice ea m.ents.length ec) ∧ wx.cell? ⟨w.heap.size, 9, none⟩ = some (.int .i64 m.bi) ∧ wx.cell? ⟨w.heap.size, 10, none⟩ = some (.int .i64 m.bt) ∧ wx.cell? ⟨w.heap.size, 11, none⟩ = some (.slice va m.vot.length vc) ∧ wx.cell? ⟨w.heap.size, 12, none⟩ = some (.string m.bd) ∧ wx.cell? ⟨w.heap.size, 13, none⟩ = some (.string m.dt)) ∧ Below wB.heap.size wB wx)
    (first | (with_reducible exact HK.out _ hbd) | (with_reducible exact HK.out _ hbk) | (with_reducible assumption))
    (first
      | (go_at_call 13; (with_reducible refine (K3.out _ (And.right (by assumption))).mono ?_); rintro e w5 ⟨rfl, hb5⟩; have hbk : Below wB.heap.size wB w5 := Below.trans (And.right (by assumption)) (hb5.mono (Below.size (And.right (by assumption)))))
      | (go_at_call 14; (with_reducible refine (K4.out _ (And.right (by assumption))).mono ?_); rintro e w5 ⟨rfl, hb5⟩; have hbk : Below wB.heap.size wB w5 := Below.trans (And.right (by assumption)) (hb5.mono (Below.size (And.right (by assumption)))))
      | (go_at_call 15; (with_reducible refine (K5.out _ (And.right (by assumption))).mono ?_); rintro e w5 ⟨rfl, hb5⟩; have hbk : Below wB.heap.size wB w5 := Below.trans (And.right (by assumption)) (hb5.mono (Below.size (And.right (by assumption)))))
      | (go_at_call 16; (with_reducible refine (K6.out _ (And.right (by assumption))).mono ?_); rintro e w5 ⟨rfl, hb5⟩; have hbk : Below wB.heap.size wB w5 := Below.trans (And.right (by assumption)) (hb5.mono (Below.size (And.right (by assumption))))))
  go_wp2
  go_ret
  exact HPoss.out _ hbk
end Go.Proofs.Ytppjojjejabaeaa
