/-
  LAYER 8 (rlog): the law's does: Compact.
-/
import Derived.Test.YtiffdhihhggkhaaRlDoesA
import Derived.Test.YtiffdhihhggkhaaRlRef7
namespace Go.Proofs.Ytiffdhihhggkhaa
open Go.RowKit
set_option linter.unusedVariables false
set_option maxRecDepth 100000

section
variable {R : RlRep} {w0 w : World} {F1 F2 : Nat → Prop} {r1 r2 : Nat} {s : Rl} {op ix tm fx : Int} {pa : Option Addr} {pc : Nat} {l : List Pa} {n : Int}
set_option maxHeartbeats 16000000 in
theorem doesCompact (HP : RlProg R) (h : DoIn R w0 w F1 F2 r1 r2 s op ix tm fx pa pc l n) (ho : pickZ op 7 = 5) : Calls Try.prog 16 #[.pointer (some ⟨r1, 0, none⟩), .pointer (some ⟨r2, 0, none⟩), .agg #[.int .i64 op, .int .i64 ix, .int .i64 tm, .int .i64 fx, .slice pa l.length pc]] w (DoPost R w0 w F1 F2 r1 r2 (n + 60)) := by
  have HPk := hid (fun wx => pick_any op 7 wx (by omega) (by omega) h.op.1 h.op.2)
  rw [ho] at HPk
  obtain ⟨ln, hln⟩ : ∃ k, l.length = k := ⟨_, rfl⟩
  rw [hln]
  have hb0 : Below w.heap.size w (w.alloc (actO op ix tm fx pa pc ln)) := (Below.refl _ _).alloc (Nat.le_refl _) _
  have ob := own.new w #[.int .i64 op, .int .i64 ix, .int .i64 tm, .int .i64 fx, .slice pa ln pc] 38
  obtain ⟨k0, k1, k2, k3, k4⟩ := act5 ob _ (Below.refl _ _)
  have HB := hid hb0
  have HO0 := hid ob
  have HT := hid h.two
  have HL := hid (And.intro h.last h.n1)
  have hix := h.ix
  have hRB : RlB (compactL s ix ⟨#[99]⟩).2 := by
    have hB := h.two.g.b
    by_cases hc : ix ≤ 100000
    · exact hB.compact ix ⟨#[99]⟩ (by decide) hc
    · have hl := hB.last
      unfold compactL
      rw [if_pos (.inr (by have := h.last; have := h.n1; omega))]
      exact hB
  obtain ⟨ce, s1, hcs⟩ : ∃ ce s1, compactL s ix ⟨#[99]⟩ = (ce, s1) := ⟨_, _, rfl⟩
  have hla := last_compactL s ix ⟨#[99]⟩
  rw [hcs] at hRB hla
  have HRB := hid hRB
  have HLa : Hid (s1.last ≤ n + 60) := hid (by have := HL.out; have h5 : s1.last ≤ s.last := hla; omega)
  have HIx := hid hix
  have HCs := hid hcs
  have HG : Hid (∀ W, Two R w0 W F1 F2 r1 r2 s s → Calls Try.prog 26 #[.pointer (some ⟨r1, 0, none⟩), .int .i64 ix, .string ⟨#[99]⟩] W fun e w' => e = .returned (.int .i64 ce) ∧ ∃ F1', Two R w0 w' F1' F2 r1 r2 s1 s ∧ Chg F1 W w') := hid (fun W hT => by
    refine (HP.compact ix ⟨#[99]⟩ hT.g.is hT.g.b HIx.out (by decide)).mono ?_
    rw [HCs.out]
    rintro e w' ⟨rfl, ht⟩
    have hc : Chg F1 W w' := by obtain ⟨_, _, hc, _⟩ := ht; exact hc
    obtain ⟨F1', h2, -⟩ := hT.turn_g ht HRB.out
    exact ⟨rfl, F1', h2, hc⟩)
  have HD : Hid (∀ W F1', Two R w0 W F1' F2 r1 r2 s1 s → Calls Try.prog 36 #[.pointer (some ⟨r2, 0, none⟩), .int .i64 ix, .string ⟨#[99]⟩] W fun e w' => e = .returned (.int .i64 ce) ∧ (∃ F2', Two R w0 w' F1' F2' r1 r2 s1 s1) ∧ Chg F2 W w') := hid (fun W F1' hT => by
    refine (rfCompact_any ix ⟨#[99]⟩ hT.m.is hT.m.b HIx.out (by decide)).mono ?_
    rw [HCs.out]
    rintro e w' ⟨rfl, ht⟩
    have hc : Chg F2 W w' := by obtain ⟨_, _, hc, _⟩ := ht; exact hc
    exact ⟨rfl, hT.turn_m (X := fun _ => False) (turnX_of ht) HRB.out (fun b e => e.elim), hc⟩)
  have HNx : Hid (¬ F1 w.heap.size ∧ ¬ F2 w.heap.size) := hid ⟨fun e => by have := R.lt HT.out.g.is _ e; omega, fun e => by have := rfRep.lt HT.out.m.is _ e; omega⟩
  clear h ho hRB hcs hla hix hln ob hb0
  go_enter Try.func16, Try.ntmps16
  go_upto_region 9 with (go_at_call 12; (with_reducible refine (HPk.out _).mono ?_); rintro e w5 ⟨rfl, rfl⟩)
  generalize (w.alloc (actO op ix tm fx pa pc ln)) = W at *
  have HO7 := hid (HO0.out.same (w' := W.drew) rfl)
  have HT8 : Hid (Two R w0 W.drew F1 F2 r1 r2 s s) := hid ((HT.out.later HB.out).later (Below.drew (Below.refl _ _)))
  have HK1 := hid (act5 HO7.out _ (Below.refl _ _))
  clear HPk
  go_region_held3 (fun wx => wx.cell? ⟨w.heap.size, 0, none⟩ = some (.int .i64 op) ∧ wx.cell? ⟨w.heap.size, 1, none⟩ = some (.int .i64 ix) ∧ wx.cell? ⟨w.heap.size, 2, none⟩ = some (.int .i64 tm) ∧ wx.cell? ⟨w.heap.size, 3, none⟩ = some (.int .i64 fx) ∧ wx.cell? ⟨w.heap.size, 4, none⟩ = some (.slice pa ln pc))
    (first | (with_reducible exact HK1.out) | (with_reducible exact HK2.out) | (with_reducible exact HK3.out) | (with_reducible assumption))
    (first
      | (go_at_call 26; (with_reducible refine (HG.out _ HT8.out).mono ?_); rintro e w8 ⟨rfl, F1', hT9, hc9⟩; have HT9 := hid hT9; have HO9 := hid (HO7.out.same (hc9.block _ HO7.out.lt HNx.out.1)); have HK2 := hid (act5 HO9.out _ (Below.refl _ _)); have HC9 := hid hc9; clear hT9 hc9)
      | (go_at_call 36; (with_reducible refine (HD.out _ _ HT9.out).mono ?_); rintro e w9 ⟨rfl, ⟨F2', hT10⟩, hc10⟩; have HT10 := hid hT10; have HC10 := hid hc10; have HK3 := hid (act5 (HO9.out.same (hc10.block _ HO9.out.lt HNx.out.2)) _ (Below.refl _ _)); clear hT10 hc10))
  all_goals
    go_wp2
    go_ret
    exact ⟨rfl, F1', F2', _, HT10.out, HLa.out, ((Ch2.start (F1 := F1) (F2 := F2) HB.out).drew.g HC9.out).m HC10.out⟩
end
end Go.Proofs.Ytiffdhihhggkhaa
