/-
  LAYER 8 (rlog): the law's does: Restore.
-/
import Derived.Test.YtiffdhihhggkhaaRlDoesA
import Derived.Test.YtiffdhihhggkhaaRlRef8
namespace Go.Proofs.Ytiffdhihhggkhaa
open Go.RowKit
set_option linter.unusedVariables false
set_option maxRecDepth 100000

section
variable {R : RlRep} {w0 w : World} {F1 F2 : Nat → Prop} {r1 r2 : Nat} {s : Rl} {op ix tm fx : Int} {pa : Option Addr} {pc : Nat} {l : List Pa} {n : Int}
theorem base_i64 (x n : Int) (h0 : 0 < n) (h1 : n ≤ 1000) : I64' (pickZ x n) := by
  have := pickZ_range x n h0
  exact ⟨by omega, by omega⟩
theorem vot3 : (∀ x ∈ ([1, 2, 3] : List Int), I64' x) ∧ ([1, 2, 3] : List Int).length ≤ 1000 := ⟨fun x hx => by
  simp at hx
  rcases hx with rfl | rfl | rfl <;> exact ⟨by decide, by decide⟩, by decide⟩
set_option maxHeartbeats 16000000 in
theorem doesRestore (HP : RlProg R) (h : DoIn R w0 w F1 F2 r1 r2 s op ix tm fx pa pc l n) (ho : pickZ op 7 = 6) : Calls Try.prog 16 #[.pointer (some ⟨r1, 0, none⟩), .pointer (some ⟨r2, 0, none⟩), .agg #[.int .i64 op, .int .i64 ix, .int .i64 tm, .int .i64 fx, .slice pa l.length pc]] w (DoPost R w0 w F1 F2 r1 r2 (n + 60)) := by
  have HPk := hid (fun wx => pick_any op 7 wx (by omega) (by omega) h.op.1 h.op.2)
  rw [ho] at HPk
  obtain ⟨ln, hln⟩ : ∃ k, l.length = k := ⟨_, rfl⟩
  rw [hln]
  have hb0 : Below w.heap.size w (w.alloc (actO op ix tm fx pa pc ln)) := (Below.refl _ _).alloc (Nat.le_refl _) _
  have ob := own.new w #[.int .i64 op, .int .i64 ix, .int .i64 tm, .int .i64 fx, .slice pa ln pc] 38
  obtain ⟨k0, k1, k2, k3, k4⟩ := act5 ob _ (Below.refl _ _)
  have HB := hid hb0
  have HO0 := hid ob
  have HT := hid h.two
  have hpb := pickZ_range ix 30 (by omega)
  have HBs := hid (fun wx => base_any ix tm wx h.ix h.tm)
  have hRB : RlB (restoreL s (pickZ ix 30) (pickZ tm 9) [1, 2, 3] bB).2 := h.two.g.b.restore _ _ _ _ hpb.1 (by omega) (base_i64 _ _ (by omega) (by omega)) vot3.1 vot3.2 (by decide)
  have hla := last_restoreL (g := s) (n := n + 60) (pickZ ix 30) (pickZ tm 9) [1, 2, 3] bB (by have := h.last; omega) (by have := h.n0; omega)
  obtain ⟨ce, s1, hcs⟩ : ∃ ce s1, restoreL s (pickZ ix 30) (pickZ tm 9) [1, 2, 3] bB = (ce, s1) := ⟨_, _, rfl⟩
  rw [hcs] at hRB hla
  have HRB := hid hRB
  have HLa : Hid (s1.last ≤ n + 60) := hid hla
  have HCs := hid hcs
  have HPB := hid hpb
  have HG : Hid (∀ W g, Two R w0 W F1 F2 r1 r2 s s → Apart numTy W F1 (.slice (some ⟨g, 0, none⟩) 3 3) [1, 2, 3] → Calls Try.prog 31 #[.pointer (some ⟨r1, 0, none⟩), .agg #[.int .i64 (pickZ ix 30), .int .i64 (pickZ tm 9), .slice (some ⟨g, 0, none⟩) 3 3, .string bB]] W fun e w' => e = .returned (.bool ce) ∧ ∃ F1', Two R w0 w' F1' F2 r1 r2 s1 s ∧ Chg F1 W w') := hid (fun W g hT hA => by
    refine (HP.restore (pickZ ix 30) (pickZ tm 9) _ [1, 2, 3] bB hT.g.is hT.g.b hA HPB.out.1 (by have := HPB.out; omega) (base_i64 _ _ (by omega) (by omega)) vot3.1 vot3.2 (by decide)).mono ?_
    rw [HCs.out]
    rintro e w' ⟨rfl, ht⟩
    have hc : Chg F1 W w' := by obtain ⟨_, _, hc, _⟩ := ht; exact hc
    obtain ⟨F1', h2, -⟩ := hT.turn_g ht HRB.out
    exact ⟨rfl, F1', h2, hc⟩)
  have HD : Hid (∀ W F1' g, Two R w0 W F1' F2 r1 r2 s1 s → Apart numTy W F2 (.slice (some ⟨g, 0, none⟩) 3 3) [1, 2, 3] → w0.heap.size ≤ g ∧ ¬ F1' g → Calls Try.prog 37 #[.pointer (some ⟨r2, 0, none⟩), .agg #[.int .i64 (pickZ ix 30), .int .i64 (pickZ tm 9), .slice (some ⟨g, 0, none⟩) 3 3, .string bB]] W fun e w' => e = .returned (.bool ce) ∧ (∃ F2', Two R w0 w' F1' F2' r1 r2 s1 s1) ∧ Chg F2 W w') := hid (fun W F1' g hT hA hg => by
    refine (rfRestore_any (pickZ ix 30) (pickZ tm 9) _ [1, 2, 3] bB hT.m.is hT.m.b hA HPB.out.1 (by have := HPB.out; omega) (base_i64 _ _ (by omega) (by omega))).mono ?_
    rw [HCs.out]
    rintro e w' ⟨rfl, ht⟩
    have hc : Chg F2 W w' := by obtain ⟨_, _, hc, _⟩ := ht; exact hc
    exact ⟨rfl, hT.turn_m ht HRB.out (fun b e => by cases e; exact hg), hc⟩)
  have HNx : Hid (¬ F1 w.heap.size ∧ ¬ F2 w.heap.size) := hid ⟨fun e => by have := R.lt HT.out.g.is _ e; omega, fun e => by have := rfRep.lt HT.out.m.is _ e; omega⟩
  clear h ho hRB hcs hla hln ob hb0 hpb
  go_enter Try.func16, Try.ntmps16
  go_upto_region 11 with (go_at_call 12; (with_reducible refine (HPk.out _).mono ?_); rintro e w5 ⟨rfl, rfl⟩)
  generalize (w.alloc (actO op ix tm fx pa pc ln)) = W at *
  have HO7 := hid (HO0.out.same (w' := W.drew) rfl)
  have HT8 : Hid (Two R w0 W.drew F1 F2 r1 r2 s s) := hid ((HT.out.later HB.out).later (Below.drew (Below.refl _ _)))
  have HK1 := hid (act5 HO7.out _ (Below.refl _ _))
  have HZ : Hid (Ch2 F1 F2 w W.drew) := hid (Ch2.start HB.out).drew
  clear HPk HT HO0
  go_region_held3 (fun wx => wx.cell? ⟨w.heap.size, 0, none⟩ = some (.int .i64 op) ∧ wx.cell? ⟨w.heap.size, 1, none⟩ = some (.int .i64 ix) ∧ wx.cell? ⟨w.heap.size, 2, none⟩ = some (.int .i64 tm) ∧ wx.cell? ⟨w.heap.size, 3, none⟩ = some (.int .i64 fx) ∧ wx.cell? ⟨w.heap.size, 4, none⟩ = some (.slice pa ln pc))
    (first | (with_reducible exact HK1.out) | (with_reducible exact HK2.out) | (with_reducible exact HK3.out) | (with_reducible exact HK4.out) | (with_reducible exact HK5.out) | (with_reducible assumption))
    (first
      | (go_at_call 14; (with_reducible refine (HBs.out W.drew).mono ?_); rintro e w6 ⟨g6, rfl, hm⟩; have HT6 := hid (HT8.out.later hm.below); have HA6 := hid (apart_new hm (R.lt HT8.out.g.is)); have HO6 := hid (HO7.out.same (hm.below.block _ HO7.out.lt)); have HK2 := hid (act5 HO6.out _ (Below.refl _ _)); have HZ6 := hid (HZ.out.below hm.below); clear hm)
      | (go_at_call 31; (with_reducible refine (HG.out _ _ HT6.out HA6.out).mono ?_); rintro e w8 ⟨rfl, F1', hT9, hc9⟩; have HT9 := hid hT9; have HO9 := hid (HO6.out.same (hc9.block _ HO6.out.lt HNx.out.1)); have HK3 := hid (act5 HO9.out _ (Below.refl _ _)); have HZ9 := hid (HZ6.out.g hc9); clear hT9 hc9)
      | (go_at_call 14; (with_reducible refine (HBs.out w8).mono ?_); rintro e w9 ⟨g9, rfl, hm⟩; have HT10 := hid (HT9.out.later hm.below); have HA10 := hid (apart_new hm (rfRep.lt HT9.out.m.is)); have HN10 : Hid (w0.heap.size ≤ g9 ∧ ¬ F1' g9) := hid ⟨by have := hm.new g9 rfl; have := HT9.out.g.below.size; omega, fun e => by have := R.lt HT9.out.g.is _ e; have := hm.new g9 rfl; omega⟩; have HO10 := hid (HO9.out.same (hm.below.block _ HO9.out.lt)); have HK4 := hid (act5 HO10.out _ (Below.refl _ _)); have HZ10 := hid (HZ9.out.below hm.below); clear hm)
      | (go_at_call 37; (with_reducible refine (HD.out _ _ _ HT10.out HA10.out HN10.out).mono ?_); rintro e w11 ⟨rfl, ⟨F2', hT11⟩, hc11⟩; have HT11 := hid hT11; have HC11 := hid hc11; have HK5 := hid (act5 (HO10.out.same (hc11.block _ HO10.out.lt HNx.out.2)) _ (Below.refl _ _)); clear hT11 hc11))
  all_goals
    go_wp2
    go_ret
    exact ⟨by first | rfl | simp, F1', F2', _, HT11.out, HLa.out, HZ10.out.m HC11.out⟩
end
end Go.Proofs.Ytiffdhihhggkhaa
