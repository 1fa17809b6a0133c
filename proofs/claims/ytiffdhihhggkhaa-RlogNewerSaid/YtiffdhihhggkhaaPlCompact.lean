/-
  LAYER 8 (rlog), THE PROGRAM's LOG: Compact, Restore.
-/
import Derived.Test.YtiffdhihhggkhaaPlReb2
import Derived.Test.YtiffdhihhggkhaaPlVots
namespace Go.Proofs.Ytiffdhihhggkhaa
open Go.RowKit
set_option linter.unusedVariables false
set_option maxRecDepth 100000

theorem pl_stay {w w' : World} {F : Nat → Prop} {r : Nat} {s : Rl} (h : plRep.Is w F r s) (hb : Below w.heap.size w w') : Turn plRep F w w' r s := ⟨F, pl_later h hb, Chg.of_below hb, fun b e => .inl e⟩
theorem turnV_turn {w w3 w' : World} {F : Nat → Prop} {r : Nat} {s : Rl} {nv : Value} (hb : Below w.heap.size w w3) (hn : ∀ b, nv.ownBlock = some b → w.heap.size ≤ b) (h : TurnV nv F w3 w' r s) : Turn plRep F w w' r s := by
  obtain ⟨F', hi, hc, hF⟩ := h
  have := hb.size
  refine ⟨F', hi, (Chg.of_below hb).trans hc (fun b e => .inl e), fun b e => ?_⟩
  rcases hF b e with k | k | k
  · exact .inl k
  · exact .inr (by omega)
  · exact .inr (hn b k)
set_option maxHeartbeats 8000000 in
theorem plCompact_any {w : World} {F : Nat → Prop} {r : Nat} {s : Rl} (i : Int) (d : ByteArray) (h : plRep.Is w F r s) (hB : RlB s) (hi : I64' i) (hd : d.size ≤ 100000) : Calls Try.prog 26 #[.pointer (some ⟨r, 0, none⟩), .int .i64 i, .string d] w fun e w' => e = .returned (.int .i64 (compactL s i d).1) ∧ Turn plRep F w w' r (compactL s i d).2 := by
  have H := hid h
  have C1 := hid (plLast_any h hB)
  obtain ⟨va, vc, la, lc, hI, hc⟩ := pl_c h
  have c0 := (hc w (Below.refl _ _)).c0
  by_cases e1 : i ≤ s.bi
  · have ht : compactL s i d = (2, s) := by unfold compactL; rw [if_pos (.inl e1)]
    rw [ht]
    have d1 : decide (i ≤ s.bi) = true := decide_eq_true e1
    clear hc hB hI ht C1 h
    go_enter Try.func26, Try.ntmps26
    go_wp2
    go_ret
    exact ⟨rfl, pl_stay H.out (Below.refl _ _)⟩
  have d1 : decide (i ≤ s.bi) = false := decide_eq_false e1
  by_cases e3 : s.last < i
  · have ht : compactL s i d = (2, s) := by unfold compactL; rw [if_pos (.inr e3)]
    rw [ht]
    have d2 : decide (s.last < i) = true := decide_eq_true e3
    clear hc hB hI ht h
    go_enter Try.func26, Try.ntmps26
    go_wp2_with (go_at_call 24; (with_reducible refine C1.out.mono ?_); rintro e w1 ⟨rfl, hb⟩)
    go_ret
    exact ⟨rfl, pl_stay H.out hb⟩
  have d2 : decide (s.last < i) = false := decide_eq_false e3
  have HT : Hid (compactL s i d = (0, ⟨i, (termL s i).getD 0, votersL s i, d, s.ents.drop (i - s.bi).toNat⟩)) := hid (by unfold compactL; rw [if_neg (by omega)])
  have HTm : Hid (∀ wx, Below w.heap.size w wx → ∃ ok, Calls Try.prog 28 #[.pointer (some ⟨r, 0, none⟩), .int .i64 i] wx (PlPost wx (.tuple #[.int .i64 ((termL s i).getD 0), .bool ok]))) := hid (fun wx hb => ⟨_, plTerm_any i (pl_later h hb) hB hi⟩)
  have HVo := hid (fun wx (hb : Below w.heap.size w wx) => plVoters_any i (pl_later h hb) hB hi)
  have hF := plRep.lt h
  have HR : Hid (∀ wx, Below w.heap.size w wx → ∀ w3 vv V t, RMid numTy wx w3 vv V → Calls Try.prog 48 #[.pointer (some ⟨r, 0, none⟩), .agg #[.int .i64 i, .int .i64 t, vv, .string d]] w3 fun e w' => e = .returned (.tuple #[]) ∧ Turn plRep F w w' r ⟨i, t, V, d, s.ents.drop (i - s.bi).toNat⟩) := hid (fun wx hb w3 vv V t hm => by
    have hb3 : Below w.heap.size w w3 := hb.trans (hm.below.mono hb.size)
    have hz := hb.size
    refine (plRebase_any i t vv V d (pl_later h hb3) hB (by omega) (by omega) hm.row.rAt (fun b e => ⟨fun k => by have := hF b k; have := hm.new b e; omega, hm.row.lt b e⟩)).mono ?_
    rintro e w' ⟨rfl, ht⟩
    exact ⟨rfl, turnV_turn hb3 (fun b e => by have := hm.new b e; omega) ht⟩)
  clear hc hB hI h hF
  obtain ⟨tm, htm⟩ : ∃ t, (termL s i).getD 0 = t := ⟨_, rfl⟩
  obtain ⟨V, hV⟩ : ∃ t, votersL s i = t := ⟨_, rfl⟩
  rw [htm, hV] at HT
  rw [htm] at HTm
  rw [hV] at HVo
  rw [HT.out]
  clear htm hV HT e1 e3
  generalize s.ents.drop (i - s.bi).toNat = E at *
  go_enter Try.func26, Try.ntmps26
  go_wp2_with (first
    | (go_at_call 24; (with_reducible refine C1.out.mono ?_); rintro e w1 ⟨rfl, hb1⟩; obtain ⟨ok, hT⟩ := HTm.out _ hb1; have C2 := hid hT; clear hT)
    | (go_at_call 28; (with_reducible refine C2.out.mono ?_); rintro e w2 ⟨rfl, hb2⟩; have hb12 := hb1.trans (hb2.mono hb1.size); have C3 := hid (HVo.out _ hb12))
    | (go_at_call 30; (with_reducible refine C3.out.mono ?_); rintro e w3 ⟨vv, rfl, hm⟩; obtain ⟨a3, c3, rfl, -⟩ := hm.row.slice; have C4 := hid (HR.out _ hb12 _ _ _ tm hm); clear hm)
    | (go_at_call 48; (with_reducible refine C4.out.mono ?_); rintro e w4 ⟨rfl, hT⟩; have HTu := hid hT; clear hT))
  go_ret
  exact ⟨rfl, HTu.out⟩
abbrev st5 (w : World) (b : Nat) (u0 u1 u2 u3 u4 : Value) : World := ((((w.setCell ⟨b, 0, none⟩ u0).setCell ⟨b, 1, none⟩ u1).setCell ⟨b, 2, none⟩ u2).setCell ⟨b, 3, none⟩ u3).setCell ⟨b, 4, none⟩ u4
set_option maxHeartbeats 8000000 in
theorem plRestore_any {w : World} {F : Nat → Prop} {r : Nat} {s : Rl} (bi bt : Int) (vv : Value) (vot : List Int) (bd : ByteArray) (h : plRep.Is w F r s) (hB : RlB s) (hA : Apart numTy w F vv vot) (h0 : 0 ≤ bi) (h1 : bi ≤ 100000) (hbt : I64' bt) (hvl : vot.length ≤ 1000) :
    Calls Try.prog 31 #[.pointer (some ⟨r, 0, none⟩), baseV bi bt vv bd] w fun e w' => e = .returned (.bool (restoreL s bi bt vot bd).1) ∧ Turn plRep F w w' r (restoreL s bi bt vot bd).2 := by
  unfold baseV
  obtain ⟨na, nc, rfl, _⟩ := id hA.row
  have hbiI : I64' bi := ⟨by omega, by omega⟩
  obtain ⟨W, hW⟩ : ∃ W, w.alloc (.cells #[.int .i64 bi, .int .i64 bt, .slice na vot.length nc, .string bd] 33) = W := ⟨_, rfl⟩
  have ob : own W w.heap.size #[.int .i64 bi, .int .i64 bt, .slice na vot.length nc, .string bd] 33 := by rw [← hW]; exact own.new w _ _
  have hbW : Below w.heap.size w W := by rw [← hW]; exact (Below.refl _ _).alloc (Nat.le_refl _) _
  have C1 := hid (plHas_any bi bt (pl_later h hbW) hB hbiI hbt)
  have HC : Hid (∀ wx, Below W.heap.size W wx → wx.cell? ⟨w.heap.size, 0, none⟩ = some (.int .i64 bi) ∧ wx.cell? ⟨w.heap.size, 1, none⟩ = some (.int .i64 bt) ∧ wx.cell? ⟨w.heap.size, 2, none⟩ = some (.slice na vot.length nc) ∧ wx.cell? ⟨w.heap.size, 3, none⟩ = some (.string bd)) := hid (fun wx hb => by
    have o := ob.same (hb.block _ ob.lt)
    exact ⟨(o.cell 0).trans rfl, (o.cell 1).trans rfl, (o.cell 2).trans rfl, (o.cell 3).trans rfl⟩)
  obtain ⟨k0, k1, k2, k3⟩ := HC.out W (Below.refl _ _)
  have HO := hid (fun wx (hb : Below W.heap.size W wx) => plOwn_any bi bt (.slice na vot.length nc) vot bd ((hA.row.below hbW).below hb) (by omega))
  have hF := plRep.lt h
  have hne : ∀ wx, Below W.heap.size W wx → w.heap.size ≤ wx.heap.size := fun wx hb => Nat.le_trans hbW.size hb.size
  by_cases hk : termL s bi = some bt
  · have hr : restoreL s bi bt vot bd = (true, ⟨bi, bt, vot, bd, s.ents.drop (bi - s.bi).toNat⟩) := by unfold restoreL; rw [decide_eq_true hk, if_pos hk]
    have hin : s.bi ≤ bi ∧ bi ≤ s.last := by
      refine ⟨?_, ?_⟩
      · rcases Int.lt_or_le bi s.bi with h2 | h2
        · rw [termL_none (.inl h2)] at hk; cases hk
        · exact h2
      · rcases Int.lt_or_le s.last bi with h2 | h2
        · rw [termL_none (.inr h2)] at hk; cases hk
        · exact h2
    rw [hr]
    have hd : decide (termL s bi = some bt) = true := decide_eq_true hk
    rw [hd] at C1
    have HR : Hid (∀ wx, Below W.heap.size W wx → ∀ w3 vv, RMid numTy wx w3 vv vot → Calls Try.prog 48 #[.pointer (some ⟨r, 0, none⟩), .agg #[.int .i64 bi, .int .i64 bt, vv, .string bd]] w3 fun e w' => e = .returned (.tuple #[]) ∧ Turn plRep F w w' r ⟨bi, bt, vot, bd, s.ents.drop (bi - s.bi).toNat⟩) := hid (fun wx hb w3 vv hm => by
      have hz := hne wx hb
      have hb3 : Below w.heap.size w w3 := (hbW.trans (hb.mono hbW.size)).trans (hm.below.mono hz)
      refine (plRebase_any bi bt vv vot bd (pl_later h hb3) hB hin.1 hin.2 hm.row.rAt (fun b e => ⟨fun k => by have := hF b k; have := hm.new b e; omega, hm.row.lt b e⟩)).mono ?_
      rintro e w' ⟨rfl, ht⟩
      exact ⟨rfl, turnV_turn hb3 (fun b e => by have := hm.new b e; omega) ht⟩)
    clear h hB hA ob hF hne hk hr hin hd hbW hbt hbiI h0 h1
    generalize s.ents.drop (bi - s.bi).toNat = E at *
    go_enter Try.func31, Try.ntmps31
    go_wp2_with (first
      | (go_at_call 44; (with_reducible refine C1.out.mono ?_); rintro e w1 ⟨rfl, hb1⟩; obtain ⟨m0, m1, m2, m3⟩ := HC.out w1 hb1; have C2 := hid (HO.out w1 hb1); have HB1 := hid hb1; clear hb1)
      | (go_at_call 34; (with_reducible refine C2.out.mono ?_); rintro e w2 ⟨a2, c2, rfl, hm⟩; have C3 := hid (HR.out _ HB1.out _ _ hm); clear hm)
      | (go_at_call 48; (with_reducible refine C3.out.mono ?_); rintro e w4 ⟨rfl, hT⟩; have HTu := hid hT; clear hT))
    go_ret
    exact ⟨rfl, HTu.out⟩
  · have hr : restoreL s bi bt vot bd = (false, ⟨bi, bt, vot, bd, []⟩) := by unfold restoreL; rw [decide_eq_false hk, if_neg hk]
    rw [hr]
    have hd : decide (termL s bi = some bt) = false := decide_eq_false hk
    rw [hd] at C1
    obtain ⟨v0, l0, hI⟩ := id h
    have HR : Hid (∀ wx, Below W.heap.size W wx → ∀ w3 vv, RMid numTy wx w3 vv vot → (w3.cell? ⟨r, 0, none⟩ = some (.int .i64 s.bi) ∧ w3.cell? ⟨r, 1, none⟩ = some (.int .i64 s.bt) ∧ w3.cell? ⟨r, 2, none⟩ = some v0 ∧ w3.cell? ⟨r, 3, none⟩ = some (.string s.bd) ∧ w3.cell? ⟨r, 4, none⟩ = some l0) ∧ (w3.frozen? ⟨r, 0, none⟩ = false ∧ w3.frozen? ⟨r, 1, none⟩ = false ∧ w3.frozen? ⟨r, 2, none⟩ = false ∧ w3.frozen? ⟨r, 3, none⟩ = false ∧ w3.frozen? ⟨r, 4, none⟩ = false) ∧ Hid (Turn plRep F w (st5 w3 r (.int .i64 bi) (.int .i64 bt) vv (.string bd) (.slice none 0 0)) r ⟨bi, bt, vot, bd, []⟩)) := hid (fun wx hb w3 vv hm => by
      have hz := hne wx hb
      have hb3 : Below w.heap.size w w3 := (hbW.trans (hb.mono hbW.size)).trans (hm.below.mono hz)
      have o := hI.box.same (hb3.block _ hI.box.lt)
      refine ⟨⟨(o.cell 0).trans rfl, (o.cell 1).trans rfl, (o.cell 2).trans rfl, (o.cell 3).trans rfl, (o.cell 4).trans rfl⟩, ⟨o.frozen 0, o.frozen 1, o.frozen 2, o.frozen 3, o.frozen 4⟩, hid ?_⟩
      have p0 : own (w3.setCell ⟨r, 0, none⟩ (.int .i64 bi)) r #[.int .i64 bi, .int .i64 s.bt, v0, .string s.bd, l0] 68 := o.set 0 (.int .i64 bi)
      have p1 : own ((w3.setCell ⟨r, 0, none⟩ (.int .i64 bi)).setCell ⟨r, 1, none⟩ (.int .i64 bt)) r #[.int .i64 bi, .int .i64 bt, v0, .string s.bd, l0] 68 := p0.set 1 (.int .i64 bt)
      have p2 : own (((w3.setCell ⟨r, 0, none⟩ (.int .i64 bi)).setCell ⟨r, 1, none⟩ (.int .i64 bt)).setCell ⟨r, 2, none⟩ vv) r #[.int .i64 bi, .int .i64 bt, vv, .string s.bd, l0] 68 := p1.set 2 vv
      have p3 : own ((((w3.setCell ⟨r, 0, none⟩ (.int .i64 bi)).setCell ⟨r, 1, none⟩ (.int .i64 bt)).setCell ⟨r, 2, none⟩ vv).setCell ⟨r, 3, none⟩ (.string bd)) r #[.int .i64 bi, .int .i64 bt, vv, .string bd, l0] 68 := p2.set 3 (.string bd)
      have p4 : own (st5 w3 r (.int .i64 bi) (.int .i64 bt) vv (.string bd) (.slice none 0 0)) r #[.int .i64 bi, .int .i64 bt, vv, .string bd, .slice none 0 0] 68 := p3.set 4 (.slice none 0 0)
      have hcs : Chg (fun b => b = r) w3 (st5 w3 r (.int .i64 bi) (.int .i64 bt) vv (.string bd) (.slice none 0 0)) := (((((Chg.setCell w3 ⟨r, 0, none⟩ _).trans (Chg.setCell _ ⟨r, 1, none⟩ _) (fun b e => .inl e)).trans (Chg.setCell _ ⟨r, 2, none⟩ _) (fun b e => .inl e)).trans (Chg.setCell _ ⟨r, 3, none⟩ _) (fun b e => .inl e)).trans (Chg.setCell _ ⟨r, 4, none⟩ _) (fun b e => .inl e))
      have hz2 := hcs.size
      have hz3 := hb3.size
      have hr := hF r hI.fr
      have hnr : ∀ b, vv.ownBlock = some b → b ≠ r := fun b e e2 => by have := hm.new b e; omega
      refine ⟨fun b => F b ∨ vv.ownBlock = some b, ⟨vv, .slice none 0 0, p4, hm.row.rAt.same (fun b e hb => hcs.block b hb (hnr b e)) hz2, rOwn_nil _, .inl hI.fr, fun b e => .inr e, fun b e => by simp [Value.ownBlock] at e, fun b e => ?_, fun e => hnr r e rfl, fun e => by simp [Value.ownBlock] at e, fun b e k => by simp [Value.ownBlock] at k⟩, ?_, fun b e => ?_⟩
      · rcases e with e | e
        · have := hF b e; omega
        · have := hm.row.lt b e; omega
      · exact (Chg.of_below hb3).trans hcs (fun b e => .inl (by rw [e]; exact hI.fr))
      · rcases e with e | e
        · exact .inl e
        · exact .inr (by have := hm.new b e; omega))
    clear h hB hA ob hF hne hk hr hd hI hbW hbt hbiI h0 h1
    go_enter Try.func31, Try.ntmps31
    go_wp2_with (first
      | (go_at_call 44; (with_reducible refine C1.out.mono ?_); rintro e w1 ⟨rfl, hb1⟩; obtain ⟨m0, m1, m2, m3⟩ := HC.out w1 hb1; have C2 := hid (HO.out w1 hb1); have HB1 := hid hb1; clear hb1)
      | (go_at_call 34; (with_reducible refine C2.out.mono ?_); rintro e w2 ⟨a2, c2, rfl, hm⟩; obtain ⟨⟨q0, q1, q2, q3, q4⟩, ⟨g0, g1, g2, g3, g4⟩, hT⟩ := HR.out _ HB1.out _ _ hm; clear hm))
    go_ret
    exact ⟨rfl, hT.out⟩
end Go.Proofs.Ytiffdhihhggkhaa
