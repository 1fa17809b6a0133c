/-
  LAYER 8 (rlog): the law's does: Add.
-/
import Derived.Test.YtiffdhihhggkhaaRlDoes
import Derived.Test.YtiffdhihhggkhaaRlRef6
import Derived.Deep.RegionHeld3
namespace Go.Proofs.Ytiffdhihhggkhaa
open Go.RowKit
set_option linter.unusedVariables false
set_option maxRecDepth 100000

/-- What does is given. -/
structure DoIn (R : RlRep) (w0 w : World) (F1 F2 : Nat → Prop) (r1 r2 : Nat) (s : Rl) (op ix tm fx : Int) (pa : Option Addr) (pc : Nat) (l : List Pa) (n : Int) : Prop where
  two : Two R w0 w F1 F2 r1 r2 s s
  op : I64' op
  ix : I64' ix
  tm : I64' tm
  fx : I64' fx
  row : RAt pTy w0 (.slice pa l.length pc) l
  in_ : ∀ p ∈ l, PaIn w0 p
  sm : smallP l = true
  last : s.last ≤ n
  n0 : 40 ≤ n
  n1 : n ≤ 2500
abbrev actO (op ix tm fx : Int) (pa : Option Addr) (pc ln : Nat) : Obj := .cells #[.int .i64 op, .int .i64 ix, .int .i64 tm, .int .i64 fx, .slice pa ln pc] 38
theorem act5 {W : World} {g : Nat} {a b c d e : Value} {T : Nat} (o : own W g #[a, b, c, d, e] T) : ∀ wx, Below W.heap.size W wx → wx.cell? ⟨g, 0, none⟩ = some a ∧ wx.cell? ⟨g, 1, none⟩ = some b ∧ wx.cell? ⟨g, 2, none⟩ = some c ∧ wx.cell? ⟨g, 3, none⟩ = some d ∧ wx.cell? ⟨g, 4, none⟩ = some e := fun wx hb => by
  have o := o.same (hb.block _ o.lt)
  exact ⟨(o.cell 0).trans rfl, (o.cell 1).trans rfl, (o.cell 2).trans rfl, (o.cell 3).trans rfl, (o.cell 4).trans rfl⟩
section
variable {R : RlRep} {w0 w : World} {F1 F2 : Nat → Prop} {r1 r2 : Nat} {s : Rl} {op ix tm fx : Int} {pa : Option Addr} {pc : Nat} {l : List Pa} {n : Int}
set_option maxHeartbeats 8000000 in
theorem doesAdd0 (h : DoIn R w0 w F1 F2 r1 r2 s op ix tm fx pa pc [] n) (ho : pickZ op 7 = 0 ∨ pickZ op 7 = 1) : Calls Try.prog 16 #[.pointer (some ⟨r1, 0, none⟩), .pointer (some ⟨r2, 0, none⟩), .agg #[.int .i64 op, .int .i64 ix, .int .i64 tm, .int .i64 fx, .slice pa 0 pc]] w (DoPost R w0 w F1 F2 r1 r2 (n + 60)) := by
  have HPk := hid (fun wx => pick_any op 7 wx (by omega) (by omega) h.op.1 h.op.2)
  have HT := hid h.two
  have HN := hid h.last
  have HB : Hid (Below w.heap.size w (w.alloc (actO op ix tm fx pa pc 0))) := hid ((Below.refl _ _).alloc (Nat.le_refl _) _)
  obtain ⟨o, hoo⟩ : ∃ o, pickZ op 7 = o := ⟨_, rfl⟩
  rw [hoo] at HPk ho
  clear h hoo
  rcases ho with rfl | rfl
  · go_enter Try.func16, Try.ntmps16
    go_wp2_with (go_at_call 12; (with_reducible refine (HPk.out _).mono ?_); rintro e w5 ⟨rfl, rfl⟩)
    go_ret
    exact ⟨rfl, F1, F2, s, HT.out.later HB.out, by have := HN.out; omega, Ch2.start HB.out⟩
  · go_enter Try.func16, Try.ntmps16
    go_wp2_with (go_at_call 12; (with_reducible refine (HPk.out _).mono ?_); rintro e w5 ⟨rfl, rfl⟩)
    go_ret
    exact ⟨rfl, F1, F2, s, HT.out.later HB.out, by have := HN.out; omega, Ch2.start HB.out⟩
set_option maxHeartbeats 16000000 in
theorem doesAdd1 (HP : RlProg R) {p : Pa} {rest : List Pa} (h : DoIn R w0 w F1 F2 r1 r2 s op ix tm fx pa pc (p :: rest) n) (ho : pickZ op 7 = 0 ∨ pickZ op 7 = 1) : Calls Try.prog 16 #[.pointer (some ⟨r1, 0, none⟩), .pointer (some ⟨r2, 0, none⟩), .agg #[.int .i64 op, .int .i64 ix, .int .i64 tm, .int .i64 fx, .slice pa (p :: rest).length pc]] w (DoPost R w0 w F1 F2 r1 r2 (n + 60)) := by
  have HPk := hid (fun wx => pick_any op 7 wx (by omega) (by omega) h.op.1 h.op.2)
  have hb0 : Below w.heap.size w (w.alloc (actO op ix tm fx pa pc (p :: rest).length)) := (Below.refl _ _).alloc (Nat.le_refl _) _
  have ob := own.new w #[.int .i64 op, .int .i64 ix, .int .i64 tm, .int .i64 fx, .slice pa (p :: rest).length pc] 38
  obtain ⟨sb, so, rfl, hcp⟩ : ∃ sb so, pa = some ⟨sb, so, none⟩ ∧ ∀ wx, Below w0.heap.size w0 wx → wx.cell? ⟨sb, so, none⟩ = some (.int .i64 p.term) ∧ wx.cell? ⟨sb, so + 1, none⟩ = some (.int .i64 p.kind) ∧ wx.cell? ⟨sb, so + 2, none⟩ = some (.string p.dt) ∧ wx.cell? ⟨sb, so + 3, none⟩ = some (.slice p.va p.V.length p.vc) := by
    obtain ⟨a, cap, e, hat⟩ := pa_at h.row
    cases e
    obtain ⟨sb, so, e, hlt, d0, d1, d2, d3⟩ := hat 0 p rfl
    exact ⟨sb, so, e, fun wx hb => ⟨(hb.cell (p := ⟨sb, so, none⟩) hlt).trans (by simpa using d0), (hb.cell (p := ⟨sb, so + 1, none⟩) hlt).trans (by simpa using d1), (hb.cell (p := ⟨sb, so + 2, none⟩) hlt).trans (by simpa using d2), (hb.cell (p := ⟨sb, so + 3, none⟩) hlt).trans (by simpa using d3)⟩⟩
  have hsz : ((p :: rest).length : Int) ≤ 60 ∧ 0 < ((p :: rest).length : Int) := by
    have := (smallP_of h.sm).1
    simp only [List.length_cons] at this ⊢
    push_cast
    omega
  have hpin := h.in_ p (by simp)
  have hpV := (smallP_of h.sm).2 p (by simp)
  have hme := meB_entE hpin hpV 0
  have HEn := hid (fun wx (hb : Below w0.heap.size w0 wx) => entry_any p 0 wx (hpin.below hb) (by omega))
  obtain ⟨x, hx⟩ : ∃ x, entE p 0 = x := ⟨_, rfl⟩
  rw [hx] at hme HEn
  obtain ⟨ln, hln⟩ : ∃ k, (p :: rest).length = k := ⟨_, rfl⟩
  rw [hln] at hsz hb0 ob
  rw [hln]
  obtain ⟨hz1, hz2⟩ := hsz
  have hb00 := h.two.g.below.trans (hb0.mono h.two.g.below.size)
  obtain ⟨d0, d1, d2, d3⟩ := hcp _ hb00
  have HB0 := hid hb00
  obtain ⟨k0, k1, k2, k3, k4⟩ := act5 ob _ (Below.refl _ _)
  have HT := hid h.two
  have HL := hid (And.intro h.last h.n1)
  have HB := hid hb0
  have HM := hid hme
  obtain ⟨o, hoo⟩ : ∃ o, pickZ op 7 = o := ⟨_, rfl⟩
  rw [hoo] at HPk ho
  clear h hoo hcp hpin hpV hme hx hln hb0 hb00 ob
  have HG : Hid (∀ W, Two R w0 W F1 F2 r1 r2 s s → Calls Try.prog 33 #[.pointer (some ⟨r1, 0, none⟩), .int .i64 x.term, .int .i64 x.kind, .string x.dt] W fun e w' => e = .returned (.agg #[.int .i64 (s.last + 1), .int .i64 x.term, .int .i64 x.kind, .string x.dt]) ∧ ∃ F1', Two R w0 w' F1' F2 r1 r2 (addL s x.term x.kind x.dt) s ∧ Chg F1 W w') := hid (fun W hT => by
    have hlen := hT.g.b.len_last
    have := HL.out
    refine (HP.add x.term x.kind x.dt hT.g.is hT.g.b HM.out.term HM.out.kind HM.out.dt (by omega)).mono ?_
    rintro e w' ⟨rfl, ht⟩
    have hc : Chg F1 W w' := by obtain ⟨_, _, hc, _⟩ := ht; exact hc
    obtain ⟨F1', h2, -⟩ := hT.turn_g ht (hT.g.b.add _ _ _ HM.out.term HM.out.kind HM.out.dt (by omega))
    exact ⟨rfl, F1', h2, hc⟩)
  have HD : Hid (∀ W F1', Two R w0 W F1' F2 r1 r2 (addL s x.term x.kind x.dt) s → Calls Try.prog 35 #[.pointer (some ⟨r2, 0, none⟩), .int .i64 x.term, .int .i64 x.kind, .string x.dt] W fun e w' => e = .returned (.agg #[.int .i64 (s.last + 1), .int .i64 x.term, .int .i64 x.kind, .string x.dt]) ∧ (∃ F2', Two R w0 w' F1' F2' r1 r2 (addL s x.term x.kind x.dt) (addL s x.term x.kind x.dt)) ∧ Chg F2 W w') := hid (fun W F1' hT => by
    have hlen := hT.m.b.len_last
    have := HL.out
    refine (rfAdd_any x.term x.kind x.dt hT.m.is hT.m.b HM.out.term HM.out.kind HM.out.dt (by omega)).mono ?_
    rintro e w' ⟨rfl, ht⟩
    have hc : Chg F2 W w' := by obtain ⟨_, _, hc, _⟩ := ht; exact hc
    exact ⟨rfl, hT.turn_m (X := fun _ => False) (turnX_of ht) (hT.m.b.add _ _ _ HM.out.term HM.out.kind HM.out.dt (by omega)) (fun b e => e.elim), hc⟩)
  have hlast : (addL s x.term x.kind x.dt).last ≤ n + 60 := by rw [last_addL]; have := HL.out; omega
  have HLa := hid hlast
  clear hlast
  rcases ho with rfl | rfl
  · go_enter Try.func16, Try.ntmps16
    go_upto_region 7 with (first
      | (go_at_call 12; (with_reducible refine (HPk.out _).mono ?_); rintro e w5 ⟨rfl, rfl⟩)
      | (go_at_call 32; (with_reducible refine (HEn.out _ HB0.out).mono ?_); rintro e w6 ⟨rfl, hb6⟩; unfold entV))
    have hb7 := HB.out.trans (hb6.mono HB.out.size)
    have hb8 := hb7.alloc hb7.size (.cells #[.int .i64 x.idx, .int .i64 x.term, .int .i64 x.kind, .string x.dt] 49)
    have o7 := own.new w6 #[.int .i64 x.idx, .int .i64 x.term, .int .i64 x.kind, .string x.dt] 49
    have hzz : w.heap.size ≤ w6.heap.size := hb7.size
    clear hb7 hb6 HPk HEn HB k0 k1 k2 k3 k4 d0 d1 d2 d3
    generalize (w6.alloc (.cells #[.int .i64 x.idx, .int .i64 x.term, .int .i64 x.kind, .string x.dt] 49)) = W at *
    generalize w6.heap.size = gx at *
    have HT7 := hid (HT.out.later hb8)
    have HO7 := hid (o7.same (w' := W.drew) rfl)
    have HT8 : Hid (Two R w0 W.drew F1 F2 r1 r2 s s) := hid (HT7.out.later (Below.drew (Below.refl _ _)))
    have HNx : Hid (¬ F1 gx ∧ ¬ F2 gx) := hid ⟨fun e => by have := R.lt HT.out.g.is _ e; omega, fun e => by have := rfRep.lt HT.out.m.is _ e; omega⟩
    have HSz := hid hb8
    obtain ⟨p0, p1, p2, p3⟩ := own4 o7 W (Below.refl _ _)
    have HK1 := hid (own4 HO7.out _ (Below.refl _ _))
    clear hb8 o7 HT hzz
    go_region_held3 (fun wx => wx.cell? ⟨gx, 0, none⟩ = some (.int .i64 x.idx) ∧ wx.cell? ⟨gx, 1, none⟩ = some (.int .i64 x.term) ∧ wx.cell? ⟨gx, 2, none⟩ = some (.int .i64 x.kind) ∧ wx.cell? ⟨gx, 3, none⟩ = some (.string x.dt))
      (first | (with_reducible exact HK1.out) | (with_reducible exact HK2.out) | (with_reducible exact HK3.out) | (with_reducible assumption))
      (first
        | (go_at_call 33; (with_reducible refine (HG.out _ HT8.out).mono ?_); rintro e w8 ⟨rfl, F1', hT9, hc9⟩; have HT9 := hid hT9; have HO9 := hid (HO7.out.same (hc9.block _ HO7.out.lt HNx.out.1)); have HK2 := hid (own4 HO9.out _ (Below.refl _ _)); have HC9 := hid hc9; clear hT9 hc9)
        | (go_at_call 35; (with_reducible refine (HD.out _ _ HT9.out).mono ?_); rintro e w9 ⟨rfl, ⟨F2', hT10⟩, hc10⟩; have HT10 := hid hT10; have HC10 := hid hc10; have HK3 := hid (own4 (HO9.out.same (hc10.block _ HO9.out.lt HNx.out.2)) _ (Below.refl _ _)); clear hT10 hc10))
    all_goals
      go_wp2
      go_ret
      exact ⟨rfl, F1', F2', _, HT10.out, HLa.out, ((Ch2.start (F1 := F1) (F2 := F2) HSz.out).drew.g HC9.out).m HC10.out⟩
  · go_enter Try.func16, Try.ntmps16
    go_upto_region 7 with (first
      | (go_at_call 12; (with_reducible refine (HPk.out _).mono ?_); rintro e w5 ⟨rfl, rfl⟩)
      | (go_at_call 32; (with_reducible refine (HEn.out _ HB0.out).mono ?_); rintro e w6 ⟨rfl, hb6⟩; unfold entV))
    have hb7 := HB.out.trans (hb6.mono HB.out.size)
    have hb8 := hb7.alloc hb7.size (.cells #[.int .i64 x.idx, .int .i64 x.term, .int .i64 x.kind, .string x.dt] 49)
    have o7 := own.new w6 #[.int .i64 x.idx, .int .i64 x.term, .int .i64 x.kind, .string x.dt] 49
    have hzz : w.heap.size ≤ w6.heap.size := hb7.size
    clear hb7 hb6 HPk HEn HB k0 k1 k2 k3 k4 d0 d1 d2 d3
    generalize (w6.alloc (.cells #[.int .i64 x.idx, .int .i64 x.term, .int .i64 x.kind, .string x.dt] 49)) = W at *
    generalize w6.heap.size = gx at *
    have HT7 := hid (HT.out.later hb8)
    have HO7 := hid (o7.same (w' := W.drew) rfl)
    have HT8 : Hid (Two R w0 W.drew F1 F2 r1 r2 s s) := hid (HT7.out.later (Below.drew (Below.refl _ _)))
    have HNx : Hid (¬ F1 gx ∧ ¬ F2 gx) := hid ⟨fun e => by have := R.lt HT.out.g.is _ e; omega, fun e => by have := rfRep.lt HT.out.m.is _ e; omega⟩
    have HSz := hid hb8
    obtain ⟨p0, p1, p2, p3⟩ := own4 o7 W (Below.refl _ _)
    have HK1 := hid (own4 HO7.out _ (Below.refl _ _))
    clear hb8 o7 HT hzz
    go_region_held3 (fun wx => wx.cell? ⟨gx, 0, none⟩ = some (.int .i64 x.idx) ∧ wx.cell? ⟨gx, 1, none⟩ = some (.int .i64 x.term) ∧ wx.cell? ⟨gx, 2, none⟩ = some (.int .i64 x.kind) ∧ wx.cell? ⟨gx, 3, none⟩ = some (.string x.dt))
      (first | (with_reducible exact HK1.out) | (with_reducible exact HK2.out) | (with_reducible exact HK3.out) | (with_reducible assumption))
      (first
        | (go_at_call 33; (with_reducible refine (HG.out _ HT8.out).mono ?_); rintro e w8 ⟨rfl, F1', hT9, hc9⟩; have HT9 := hid hT9; have HO9 := hid (HO7.out.same (hc9.block _ HO7.out.lt HNx.out.1)); have HK2 := hid (own4 HO9.out _ (Below.refl _ _)); have HC9 := hid hc9; clear hT9 hc9)
        | (go_at_call 35; (with_reducible refine (HD.out _ _ HT9.out).mono ?_); rintro e w9 ⟨rfl, ⟨F2', hT10⟩, hc10⟩; have HT10 := hid hT10; have HC10 := hid hc10; have HK3 := hid (own4 (HO9.out.same (hc10.block _ HO9.out.lt HNx.out.2)) _ (Below.refl _ _)); clear hT10 hc10))
    all_goals
      go_wp2
      go_ret
      exact ⟨rfl, F1', F2', _, HT10.out, HLa.out, ((Ch2.start (F1 := F1) (F2 := F2) HSz.out).drew.g HC9.out).m HC10.out⟩
end
end Go.Proofs.Ytiffdhihhggkhaa
