/-
  LAYER 8 (rlog), THE PROGRAM's LOG: rebase.
-/
import Derived.Test.YtiffdhihhggkhaaPlRebase
namespace Go.Proofs.Ytiffdhihhggkhaa
open Go.RowKit
set_option linter.unusedVariables false
set_option maxRecDepth 100000

/-- As Turn; but the block of a row that was handed in may be the log's now. -/
def TurnV (vv : Value) (F : Nat → Prop) (w w' : World) (r : Nat) (s : Rl) : Prop := ∃ F', plRep.Is w' F' r s ∧ Chg F w w' ∧ ∀ b, F' b → F b ∨ w.heap.size ≤ b ∨ vv.ownBlock = some b
/-- Its base stored anew. -/
theorem pl_base {w w2 : World} {F F2 : Nat → Prop} {r : Nat} {s : Rl} {vv lv : Value} (h : PlIs w2 F2 r s vv lv) {i t : Int} {nv : Value} {V : List Int} {d : ByteArray} (hv : RAt numTy w2 nv V) (hout : ∀ b, nv.ownBlock = some b → ¬ F2 b ∧ b < w2.heap.size)
    (hc : Chg F w w2) (hF : ∀ b, F2 b → F b ∨ w.heap.size ≤ b) : TurnV nv F w (st4 w2 r (.int .i64 i) (.int .i64 t) nv (.string d)) r ⟨i, t, V, d, s.ents⟩ := by
  have o0 : own (w2.setCell ⟨r, 0, none⟩ (.int .i64 i)) r #[.int .i64 i, .int .i64 s.bt, vv, .string s.bd, lv] 68 := h.box.set 0 (.int .i64 i)
  have o1 : own ((w2.setCell ⟨r, 0, none⟩ (.int .i64 i)).setCell ⟨r, 1, none⟩ (.int .i64 t)) r #[.int .i64 i, .int .i64 t, vv, .string s.bd, lv] 68 := o0.set 1 (.int .i64 t)
  have o2 : own (((w2.setCell ⟨r, 0, none⟩ (.int .i64 i)).setCell ⟨r, 1, none⟩ (.int .i64 t)).setCell ⟨r, 2, none⟩ nv) r #[.int .i64 i, .int .i64 t, nv, .string s.bd, lv] 68 := o1.set 2 nv
  have o3 : own (st4 w2 r (.int .i64 i) (.int .i64 t) nv (.string d)) r #[.int .i64 i, .int .i64 t, nv, .string d, lv] 68 := o2.set 3 (.string d)
  have hcs : Chg (fun b => b = r) w2 (st4 w2 r (.int .i64 i) (.int .i64 t) nv (.string d)) := ((((Chg.setCell w2 ⟨r, 0, none⟩ _).trans (Chg.setCell _ ⟨r, 1, none⟩ _) (fun b e => .inl e)).trans (Chg.setCell _ ⟨r, 2, none⟩ _) (fun b e => .inl e)).trans (Chg.setCell _ ⟨r, 3, none⟩ _) (fun b e => .inl e))
  have hz := hcs.size
  have hnr : ∀ b, nv.ownBlock = some b → b ≠ r := fun b e e2 => (hout b e).1 (by rw [e2]; exact h.fr)
  refine ⟨fun b => F2 b ∨ nv.ownBlock = some b, ⟨nv, lv, o3, hv.same (fun b e hb => hcs.block b hb (hnr b e)) hz, h.ents.same (fun b e => hcs.block b (h.ents.lt b e) (fun k => h.nl (by rw [e, k]))), .inl h.fr, fun b e => .inr e, fun b e => .inl (h.fl b e), fun b e => ?_, fun e => hnr r e rfl, h.nl, fun b e k => (hout b e).1 (h.fl b k)⟩, ?_, fun b e => ?_⟩
  · rcases e with e | e
    · have := h.lt b e; omega
    · have := (hout b e).2; omega
  · exact hc.trans hcs (fun b e => by rw [e]; exact hF r h.fr)
  · rcases e with e | e
    · rcases hF b e with k | k
      · exact .inl k
      · exact .inr (.inl k)
    · exact .inr (.inr e)
theorem turnV_drew {nv : Value} {F : Nat → Prop} {w w' : World} {r : Nat} {s : Rl} (h : TurnV nv F w w' r s) (n : Nat) : TurnV nv F w (w'.drewN n) r s := by
  obtain ⟨F', hi, hc, hF⟩ := h
  exact ⟨F', pl_later hi (below_drew (Below.refl _ _) n), hc.drewN n, hF⟩
/-- What rebase finds behind Delete. -/
structure RbAt (w : World) (F : Nat → Prop) (r b : Nat) (s : Rl) (i t : Int) (nv : Value) (V : List Int) (d : ByteArray) (L : List Me) (v lv : Value) (w2 : World) : Prop where
  c4 : w2.cell? ⟨r, 4, none⟩ = some lv
  f4 : w2.frozen? ⟨r, 4, none⟩ = false
  k0 : w2.cell? ⟨b, 0, none⟩ = some (.int .i64 i)
  m0 : (w2.setCell ⟨r, 4, none⟩ v).cell? ⟨b, 0, none⟩ = some (.int .i64 i)
  m1 : (w2.setCell ⟨r, 4, none⟩ v).cell? ⟨b, 1, none⟩ = some (.int .i64 t)
  m2 : (w2.setCell ⟨r, 4, none⟩ v).cell? ⟨b, 2, none⟩ = some nv
  m3 : (w2.setCell ⟨r, 4, none⟩ v).cell? ⟨b, 3, none⟩ = some (.string d)
  n0 : ∃ u, (w2.setCell ⟨r, 4, none⟩ v).cell? ⟨r, 0, none⟩ = some u
  n1 : ∃ u, (w2.setCell ⟨r, 4, none⟩ v).cell? ⟨r, 1, none⟩ = some u
  n2 : ∃ u, (w2.setCell ⟨r, 4, none⟩ v).cell? ⟨r, 2, none⟩ = some u
  n3 : ∃ u, (w2.setCell ⟨r, 4, none⟩ v).cell? ⟨r, 3, none⟩ = some u
  g0 : (w2.setCell ⟨r, 4, none⟩ v).frozen? ⟨r, 0, none⟩ = false
  g1 : (w2.setCell ⟨r, 4, none⟩ v).frozen? ⟨r, 1, none⟩ = false
  g2 : (w2.setCell ⟨r, 4, none⟩ v).frozen? ⟨r, 2, none⟩ = false
  g3 : (w2.setCell ⟨r, 4, none⟩ v).frozen? ⟨r, 3, none⟩ = false
  turn : Hid (TurnV nv F w (st4 (w2.setCell ⟨r, 4, none⟩ v) r (.int .i64 i) (.int .i64 t) nv (.string d)) r ⟨i, t, V, d, L⟩)
theorem rb_of {w w1 w2 : World} {F : Nat → Prop} {r b : Nat} {s : Rl} {i t : Int} {nv : Value} {V : List Int} {d : ByteArray} {lv v vv : Value} {L : List Me} (hF : ∀ b, F b → b < w.heap.size) (hv : RAt numTy w nv V) (hout : ∀ b, nv.ownBlock = some b → ¬ F b ∧ b < w.heap.size) (hb : w.heap.size ≤ b) (h0 : Below w.heap.size w w1) (hob : own w1 b #[.int .i64 i, .int .i64 t, nv, .string d] 33)
    (hI : PlIs w1 F r s vv lv) (hro : ROwn enTy w2 v L) (hc : Chg (fun b => lv.ownBlock = some b) w1 w2) (hat : ∀ b, v.ownBlock = some b → lv.ownBlock = some b ∨ w1.heap.size ≤ b) : RbAt w F r b s i t nv V d L v lv w2 := by
  obtain ⟨f1, f2, F2, ⟨vv2, lv2, h2⟩, hc2, hF2⟩ := pl_row hI hro hc hat
  have hbF : ¬ F b := fun e => by have := hF b e; omega
  have ob2 := hob.chg hc (fun e => hbF (hI.fl b e))
  have ob3 := hob.chg hc2 hbF
  refine ⟨f1, f2, (ob2.cell 0).trans rfl, (ob3.cell 0).trans rfl, (ob3.cell 1).trans rfl, (ob3.cell 2).trans rfl, (ob3.cell 3).trans rfl, ⟨_, (h2.box.cell 0).trans rfl⟩, ⟨_, (h2.box.cell 1).trans rfl⟩, ⟨_, (h2.box.cell 2).trans rfl⟩, ⟨_, (h2.box.cell 3).trans rfl⟩, h2.box.frozen 0, h2.box.frozen 1, h2.box.frozen 2, h2.box.frozen 3, hid ?_⟩
  have hz0 := h0.size
  have hcw : Chg F w (w2.setCell ⟨r, 4, none⟩ v) := (Chg.of_below h0).trans hc2 (fun b e => .inl e)
  have hz := hcw.size
  exact pl_base (s := { s with ents := L }) h2 (hv.same (fun b e hb => hcw.block b hb (hout b e).1) hz) (fun b e => ⟨fun k => by
    rcases hF2 b k with k | k
    · exact (hout b e).1 k
    · have := (hout b e).2; omega, by have := (hout b e).2; omega⟩) hcw (fun b e => by
    rcases hF2 b e with k | k
    · exact .inl k
    · exact .inr (by omega))
set_option maxHeartbeats 16000000 in
theorem plRebase_any {w : World} {F : Nat → Prop} {r : Nat} {s : Rl} (i t : Int) (nv : Value) (V : List Int) (d : ByteArray) (h : plRep.Is w F r s) (hB : RlB s) (hi : s.bi ≤ i) (hl : i ≤ s.last) (hv : RAt numTy w nv V) (hout : ∀ b, nv.ownBlock = some b → ¬ F b ∧ b < w.heap.size) :
    Calls Try.prog 48 #[.pointer (some ⟨r, 0, none⟩), .agg #[.int .i64 i, .int .i64 t, nv, .string d]] w fun e w' => e = .returned (.tuple #[]) ∧ TurnV nv F w w' r ⟨i, t, V, d, s.ents.drop (i - s.bi).toNat⟩ := by
  obtain ⟨na, nc, rfl, _⟩ := id hv
  have hlast := hB.last
  have hbi := hB.bi
  have hpos := hB.ok.pos
  have hlen := hB.len
  have hiI : I64' i := ⟨by omega, by omega⟩
  obtain ⟨n, hn⟩ : ∃ n : Nat, (n : Int) = i - s.bi := ⟨(i - s.bi).toNat, by omega⟩
  have hnl : n ≤ s.ents.length := by unfold Rl.last at hl; omega
  have hst : stp s i = (n : Int) := by rw [(stp_in hB hiI).2 ⟨hi, hl⟩, hn]
  have hnn : (i - s.bi).toNat = n := by omega
  rw [hnn]
  have hwn : IntKind.i64.wrap (n : Int) = (n : Int) := by rw [IntKind.wrap_i64]; omega
  obtain ⟨W, hW⟩ : ∃ W, w.alloc (.cells #[.int .i64 i, .int .i64 t, .slice na V.length nc, .string d] 33) = W := ⟨_, rfl⟩
  have ob : own W w.heap.size #[.int .i64 i, .int .i64 t, .slice na V.length nc, .string d] 33 := by rw [← hW]; exact own.new w _ _
  have hbW : Below w.heap.size w W := by rw [← hW]; exact (Below.refl _ _).alloc (Nat.le_refl _) _
  have hWI := pl_later h hbW
  obtain ⟨va, vc, la, lc, hI, hc⟩ := pl_c hWI
  have HS := hid (fun wx (hb : Below W.heap.size W wx) => (by have := plSteps_any i (pl_later hWI hb) hiI; rw [hst] at this; exact this : Calls Try.prog 42 #[.pointer (some ⟨r, 0, none⟩), .int .i64 i] wx (PlPost wx (.int .u64 (n : Int)))))
  have HD := hid (fun wx (hb : Below W.heap.size W wx) => delFront_any (hI.ents.below hb) hnl (by omega))
  have HC : Hid (∀ wx, Below W.heap.size W wx → wx.cell? ⟨r, 4, none⟩ = some (.slice la s.ents.length lc) ∧ wx.cell? ⟨w.heap.size, 0, none⟩ = some (.int .i64 i)) := hid (fun wx hb => ⟨(hc wx hb).c4, ((ob.same (hb.block _ ob.lt)).cell 0).trans rfl⟩)
  have hF := plRep.lt h
  have HR : Hid (∀ w1, Below W.heap.size W w1 → ∀ w2 a2 c2, FrPost w1 (.slice la s.ents.length lc) s.ents n (.returned (.slice a2 (s.ents.length - n) c2)) w2 → RbAt w F r w.heap.size s i t (.slice na V.length nc) V d (s.ents.drop n) (.slice a2 (s.ents.length - n) c2) (.slice la s.ents.length lc) w2) := hid (fun w1 hb w2 a2 c2 hp => by
    obtain ⟨a', c', e, hro, hch, hat⟩ := hp
    cases e
    have hI1 : PlIs w1 F r s (.slice va s.vot.length vc) (.slice la s.ents.length lc) := ⟨hI.box.same (hb.block _ hI.box.lt), hI.vot.below hb, hI.ents.below hb, hI.fr, hI.fv, hI.fl, fun b e => Nat.lt_of_lt_of_le (hI.lt b e) hb.size, hI.nv, hI.nl, hI.vl⟩
    exact rb_of (L := s.ents.drop n) hF hv hout (Nat.le_refl _) (hbW.trans (hb.mono hbW.size)) (ob.same (hb.block _ ob.lt)) hI1 hro hch (fun b e => .inl (hat b e)))
  have hne : ¬ r = w.heap.size := fun e => by have := hF r hI.fr; omega
  have hne2 : ¬ w.heap.size = r := fun e => hne e.symm
  obtain ⟨c4, k0⟩ := HC.out W (Below.refl _ _)
  obtain ⟨c4d, k0d⟩ := HC.out W.drew (Below.drew (Below.refl _ _))
  clear h hc hI hWI hv hout hnn hst hiI hn hnl hlast hbi hpos hlen hi hl hB ob hF
  have HCw := HC
  go_enter Try.func48, Try.ntmps48
  go_upto_region 1 with (fail)
  clear hW
  go_cut [] (fun wx => ∃ w2 a2 c2, wx = w2.setCell ⟨r, 4, none⟩ (.slice a2 (s.ents.length - n) c2) ∧ RbAt w F r w.heap.size s i t (.slice na V.length nc) V d (s.ents.drop n) (.slice a2 (s.ents.length - n) c2) (.slice la s.ents.length lc) w2)
  case first =>
    go_wp2
    go_region_with (first
      | (go_at_call 42; (with_reducible refine (HS.out _ (Below.drew (Below.refl _ _))).mono ?_); rintro e w1 ⟨rfl, hb⟩; have hb1 := (Below.drew (Below.refl W.heap.size W)).trans hb; obtain ⟨c4e, k0e⟩ := HCw.out w1 hb1; have C2 := hid (HD.out w1 hb1); have HB1 := hid hb1; clear hb hb1)
      | (go_at_call 57; (with_reducible refine C2.out.mono ?_); rintro e w2 hp; obtain ⟨a2, c2, rfl⟩ : ∃ a2 c2, e = .returned (.slice a2 (s.ents.length - n) c2) := (by obtain ⟨a2, c2, he, -⟩ := hp; exact ⟨a2, c2, he⟩); have HRb := hid (HR.out _ HB1.out _ _ _ hp); have c4f := HRb.out.c4; have f4f := HRb.out.f4; have k0f := HRb.out.k0; clear hp))
    all_goals
      go_wp2
      go_meet
      exact ⟨_, _, _, rfl, HRb.out⟩
  case rest =>
    obtain ⟨w2, a2, c2, rfl, hR⟩ := hcut
    obtain ⟨_, _, _, m0, m1, m2, m3, ⟨u0, n0⟩, ⟨u1, n1⟩, ⟨u2, n2⟩, ⟨u3, n3⟩, g0, g1, g2, g3, hT⟩ := hR
    clear HS HD HC HCw HR c4 k0 c4d k0d
    generalize w2.setCell ⟨r, 4, none⟩ (.slice a2 (s.ents.length - n) c2) = W2 at *
    go_wp2
    go_end0
    exact ⟨rfl, hT.out⟩
end Go.Proofs.Ytiffdhihhggkhaa
