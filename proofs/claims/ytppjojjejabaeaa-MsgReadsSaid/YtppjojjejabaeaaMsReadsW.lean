/-
  LAYER 7 (msg): MsgReads: its walk. (Written by wip/tools/gen7_turned.py.)
-/
import Derived.Test.YtppjojjejabaeaaMsReads
import Derived.Test.YtppjojjejabaeaaMsEndsW
namespace Go.Proofs.Ytppjojjejabaeaa
open Go.RowKit
set_option linter.unusedVariables false
set_option maxRecDepth 100000

set_option maxHeartbeats 8000000 in
theorem msgReads_walk (HP : MsProg) (s : ByteArray) (m : Ms) (ev vv : Value) (at_ to_ : Int) (w : World) (hsz : s.size ≤ maxLen) (hm : MsAt w m ev vv) (hi : MsIn m) (hat_ : I64' at_) (hto : I64' to_) :
    Calls Try.prog 4 #[.string s, msV m ev vv, .int .i64 at_, .int .i64 to_] w (ShownPost w) := by
  obtain ⟨wB, hwB⟩ : ∃ wB, w.alloc (.cells (msCells m ev vv) 27) = wB := ⟨_, rfl⟩
  have hbB : Below w.heap.size w wB := by rw [← hwB]; exact (Below.refl _ _).alloc (Nat.le_refl _) _
  have obx : own wB w.heap.size (msCells m ev vv) 27 := by rw [← hwB]; exact own.new w _ _
  have hat := hm.below hbB
  have hzB : w.heap.size < wB.heap.size := by rw [← hwB]; simp
  have HPoss : Hid (∀ wx, Below wB.heap.size wB wx → ShownPost w (.returned (.bool true)) wx) := hid (fun wx h => ⟨rfl, hbB.trans (h.mono (by omega))⟩)
  have HBx := hid (fun wx (h : Below wB.heap.size wB wx) => msBox_of (obx.same (h.block _ obx.lt)))
  have HS := hid (shown_any HP wB)
  have HSm : Hid (∀ wx, Below wB.heap.size wB wx → Calls Try.prog 10 #[.agg #[.int .i64 m.kind, .int .i64 m.fr, .int .i64 m.to_, .int .i64 m.term, .int .i64 m.index, .int .i64 m.logTerm, .int .i64 m.commit, .bool m.ok, ev, .int .i64 m.bi, .int .i64 m.bt, vv, .string m.bd, .string m.dt]] wx fun e w' => e = .returned (.bool (smallM m)) ∧ Below wB.heap.size wB w') := hid (fun wx h => (small_any m ev vv (hat.below h) hi).mono fun e w' ⟨he, hb⟩ => ⟨he, h.trans (hb.mono h.size)⟩)
  obtain ⟨S, c, hSc⟩ : ∃ S c, packN m = (S, c) := ⟨_, _, rfl⟩
  have HP1 : Hid (m.vot.length ≤ 1000000 → ∀ wx, Below wB.heap.size wB wx → Calls Try.prog 12 #[.agg #[.int .i64 m.kind, .int .i64 m.fr, .int .i64 m.to_, .int .i64 m.term, .int .i64 m.index, .int .i64 m.logTerm, .int .i64 m.commit, .bool m.ok, ev, .int .i64 m.bi, .int .i64 m.bt, vv, .string m.bd, .string m.dt]] wx fun e w' => e = .returned (.tuple #[.string (mk S), .int .i64 c]) ∧ Below wB.heap.size wB w') := hid (fun hvl wx h => (refPack_any m ev vv (hat.below h) hi hvl).mono fun e w' ⟨he, hb⟩ => ⟨by rw [he, hSc], h.trans (hb.mono h.size)⟩)
  have HR : Hid (∀ t : ByteArray, t.size ≤ 10000000 → ∀ wx, Below wB.heap.size wB wx → Calls Try.prog 18 #[.string t] wx fun e w' => e = .returned (.bool true) ∧ Below wB.heap.size wB w') := hid (fun t ht wx h => (reads_any HP t ht wx).mono fun e w' ⟨he, hb⟩ => ⟨he, h.trans (hb.mono h.size)⟩)
  obtain ⟨ea, ec, rfl, _⟩ := ents_at hat.ents
  obtain ⟨va, vc, rfl, _⟩ := nums_at hat.vot
  have HSC := hid hSc
  clear hm hi hat hSc
  obtain ⟨k0, k1, k2, k3, k4, k5, k6, k7, k8, k9, k10, k11, k12, k13⟩ := HBx.out _ (Below.refl _ wB)
  have HW := hid hwB
  obtain ⟨bs, hbs⟩ : ∃ bs, smallM m = bs := ⟨_, rfl⟩
  rw [hbs] at HSm
  have HBS := hid hbs
  unfold maxLen at hsz
  clear hbs obx hzB hbB HP
  unfold msV
  unfold msCells at *
  cases bs with
  | false =>
    go_enter Try.func4, Try.ntmps4
    go_wp2_with (first
      | (go_at_call 9; (with_reducible refine HS.out.mono ?_); rintro e w1 ⟨rfl, hb1⟩; obtain ⟨k0, k1, k2, k3, k4, k5, k6, k7, k8, k9, k10, k11, k12, k13⟩ := HBx.out _ hb1)
      | (go_at_call 10; (with_reducible refine (HSm.out _ hb1).mono ?_); rintro e w2 ⟨rfl, hb2⟩; obtain ⟨k0, k1, k2, k3, k4, k5, k6, k7, k8, k9, k10, k11, k12, k13⟩ := HBx.out _ hb2))
    go_ret
    exact HPoss.out _ hb2
  | true =>
  by_cases hl : s.size ≤ 3000
  case neg =>
    have hlI : (3000 : Int) < (s.size : Int) := by omega
    go_enter Try.func4, Try.ntmps4
    go_wp2_with (first
      | (go_at_call 9; (with_reducible refine HS.out.mono ?_); rintro e w1 ⟨rfl, hb1⟩; obtain ⟨k0, k1, k2, k3, k4, k5, k6, k7, k8, k9, k10, k11, k12, k13⟩ := HBx.out _ hb1)
      | (go_at_call 10; (with_reducible refine (HSm.out _ hb1).mono ?_); rintro e w2 ⟨rfl, hb2⟩; obtain ⟨k0, k1, k2, k3, k4, k5, k6, k7, k8, k9, k10, k11, k12, k13⟩ := HBx.out _ hb2))
    go_ret
    exact HPoss.out _ hb2
  have hlI : (s.size : Int) ≤ 3000 := by omega
  have hs := HBS.out
  have hvl : m.vot.length ≤ 1000000 := by
    unfold smallM at hs
    simp only [Bool.and_eq_true, decide_eq_true_eq] at hs
    omega
  have K1 := hid (HP1.out hvl)
  have R1 := hid (HR.out s (by omega))
  clear HP1
  have hsc := HSC.out
  unfold packN at hsc
  by_cases hr : rightM m = true
  case neg =>
    rw [if_neg hr] at hsc
    cases hsc
    have q0 : (!(mk []).toList.isEmpty) = false := by rw [Lib.toList_data]; rfl
    have R2 := hid (HR.out (mk []) (by decide))
    clear hr hs hvl hl hsz
    go_enter Try.func4, Try.ntmps4
    go_wp2_with (first
      | (go_at_call 9; (with_reducible refine HS.out.mono ?_); rintro e w1 ⟨rfl, hb1⟩; obtain ⟨k0, k1, k2, k3, k4, k5, k6, k7, k8, k9, k10, k11, k12, k13⟩ := HBx.out _ hb1)
      | (go_at_call 10; (with_reducible refine (HSm.out _ hb1).mono ?_); rintro e w2 ⟨rfl, hb2⟩; obtain ⟨k0, k1, k2, k3, k4, k5, k6, k7, k8, k9, k10, k11, k12, k13⟩ := HBx.out _ hb2)
      | (go_at_call 12; (with_reducible refine (K1.out _ hb2).mono ?_); rintro e w3 ⟨rfl, hb3⟩)
      | (go_at_call 18; (with_reducible refine (R1.out _ hb3).mono ?_); rintro e w4 ⟨rfl, hb4⟩)
      | (go_at_call 18; (with_reducible refine (R2.out _ hb4).mono ?_); rintro e w5 ⟨rfl, hb5⟩))
    go_ret
    exact HPoss.out _ hb5
  rw [if_pos hr] at hsc
  cases hsc
  have hlen := eM_short hr hs
  have hpos := eM_pos m
  have hzs : (mk (eM m)).size = (eM m).length := rfl
  have hpk := pickZ_range at_ ((mk (eM m)).size : Int) (by omega)
  have HPi := hid (fun wx => pick_any at_ ((mk (eM m)).size : Int) wx (by omega) (by omega) hat_.1 hat_.2)
  obtain ⟨p, hp⟩ : ∃ p : Nat, pickZ at_ ((mk (eM m)).size : Int) = (p : Int) := ⟨(pickZ at_ ((mk (eM m)).size : Int)).toNat, by omega⟩
  rw [hp] at HPi hpk
  have q0 : (!(mk (eM m)).toList.isEmpty) = true := by
    rw [Lib.toList_data, mk_data]
    cases he : eM m with
    | nil => rw [he] at hpos; simp at hpos
    | cons a b => rfl
  have HZS := hid hzs
  clear hp hr hs hvl hl hsz hzs
  go_enter Try.func4, Try.ntmps4
  go_wp2_with (first
      | (go_at_call 9; (with_reducible refine HS.out.mono ?_); rintro e w1 ⟨rfl, hb1⟩; obtain ⟨k0, k1, k2, k3, k4, k5, k6, k7, k8, k9, k10, k11, k12, k13⟩ := HBx.out _ hb1)
      | (go_at_call 10; (with_reducible refine (HSm.out _ hb1).mono ?_); rintro e w2 ⟨rfl, hb2⟩; obtain ⟨k0, k1, k2, k3, k4, k5, k6, k7, k8, k9, k10, k11, k12, k13⟩ := HBx.out _ hb2)
      | (go_at_call 12; (with_reducible refine (K1.out _ hb2).mono ?_); rintro e w3 ⟨rfl, hb3⟩))
  obtain ⟨cap, w5, hrun, hrow, hb5, hcap, hz5⟩ := run_bytes w3 (mk (eM m))
  have hbb := hb3.trans (hb5.mono hb3.size)
  have hg0 := hb3.size
  rw [hrun]
  simp only [Result.andThen]
  rw [Oper.upon_value]
  rw [mk_data] at hrow
  have hpl : p < (eM m).length := by have := HZS.out; omega
  obtain ⟨nv, hnv⟩ : ∃ nv : UInt8, to_ % 256 = (nv.toNat : Int) := ⟨UInt8.ofNat (to_ % 256).toNat, by rw [UInt8.toNat_ofNat']; omega⟩
  have c1 := hrow.2.1 p (eM m)[p] (by simp [hpl])
  have f1 := hrow.2.2 p hpl
  have hset := hrow.set p hpl nv _ hnv
  have hbl : Below wB.heap.size wB (w5.setCell ⟨w3.heap.size, p, none⟩ (.int .u8 (to_ % 256))) := hbb.setCell (p := ⟨w3.heap.size, p, none⟩) hg0 _
  have hrs := run_string (w := w5.setCell ⟨w3.heap.size, p, none⟩ (.int .u8 (to_ % 256))) (g := w3.heap.size) (n := (mk (eM m)).size) (cap := cap) (l := (eM m).set p nv) (by rw [mk_size, List.length_set]) hset.2.1
  have R2 := hid (HR.out ⟨((eM m).set p nv).toArray⟩ (by show ((eM m).set p nv).length ≤ _; rw [List.length_set]; omega))
  have HBL := hid hbl
  have HRS := hid hrs
  clear hrow hset hbl hrs hrun hb5 hz5 hbb hnv
  generalize w3.heap.size = g at *
  generalize (eM m)[p] = old at *
  have i0 : (0 : Int) ≤ (p : Int) := by omega
  have i1 : (p : Int) < ((mk (eM m)).size : Int) := by omega
  have hwu : IntKind.u8.wrap to_ = to_ % 256 := by simp [IntKind.wrap, IntKind.bits, IntKind.signed]
  go_wp2_with (go_at_call 17; (with_reducible refine (HPi.out _).mono ?_); rintro e w6 ⟨rfl, rfl⟩)
  rw [HRS.out]
  simp only [Result.andThen]
  rw [Oper.upon_value]
  go_wp2_with (first
      | (go_at_call 18; (with_reducible refine (R1.out _ HBL.out).mono ?_); rintro e w4 ⟨rfl, hb4⟩)
      | (go_at_call 18; (with_reducible refine (R2.out _ hb4).mono ?_); rintro e w5 ⟨rfl, hb5⟩))
  go_ret
  exact HPoss.out _ hb5
end Go.Proofs.Ytppjojjejabaeaa
