/-
  LAYER 7 (msg), THE DOCUMENT's Unpack: what lies in memory while it reads.
-/
import Derived.Test.YtppjojjejabaeaaMsRdr
namespace Go.Proofs.Ytppjojjejabaeaa
open Go.RowKit
set_option linter.unusedVariables false
set_option maxRecDepth 100000

def zMs : Ms := ⟨0, 0, 0, 0, 0, 0, 0, false, [], 0, 0, [], ⟨#[]⟩, ⟨#[]⟩⟩
abbrev zV : Value := .slice none 0 0
/-- The result's box, the reader, the message's box (g), its rows. -/
structure UpM (w wr : World) (g : Nat) (s : RS) (m : Ms) (ev vv : Value) : Prop where
  res : own wr w.heap.size (msCells zMs zV zV) 27
  rdr : own wr (w.heap.size + 1) (rdCells s) 87
  msg : own wr g (msCells m ev vv) 27
  ents : ROwn enTy wr ev m.ents
  vot : ROwn numTy wr vv m.vot
  en : ∀ b, ev.ownBlock = some b → g < b
  vn : ∀ b, vv.ownBlock = some b → g < b
  below : Below w.heap.size w wr
  ord : w.heap.size + 1 < g
  short : s.1.length ≤ maxLen
theorem UpM.turn {w wr w' : World} {g : Nat} {s s' : RS} {m : Ms} {ev vv : Value} (h : UpM w wr g s m ev vv) (hc : Chg (fun b => b = w.heap.size + 1) wr w') (hr : own w' (w.heap.size + 1) (rdCells s') 87) (hs : s'.1.length ≤ maxLen) : UpM w w' g s' m ev vv := by
  have ho := h.ord
  refine ⟨h.res.chg hc (by omega), hr, h.msg.chg hc (by omega), h.ents.same (fun b e => hc.block b (h.ents.lt b e) (by have := h.en b e; omega)), h.vot.same (fun b e => hc.block b (h.vot.lt b e) (by have := h.vn b e; omega)), h.en, h.vn, h.below.trans (hc.below h.below.size (fun b e => by omega)), ho, hs⟩
theorem UpM.later {w wr w' : World} {g : Nat} {s : RS} {m : Ms} {ev vv : Value} (h : UpM w wr g s m ev vv) (hb : Below wr.heap.size wr w') : UpM w w' g s m ev vv :=
  ⟨h.res.same (hb.block _ h.res.lt), h.rdr.same (hb.block _ h.rdr.lt), h.msg.same (hb.block _ h.msg.lt), h.ents.below hb, h.vot.below hb, h.en, h.vn, h.below.trans (hb.mono h.below.size), h.ord, h.short⟩
/-- A cell of the message stored; its rows may be others. -/
theorem UpM.put {w wr : World} {g : Nat} {s : RS} {m m' : Ms} {ev vv ev' vv' : Value} (h : UpM w wr g s m ev vv) (j : Nat) (u : Value) (hm : (msCells m ev vv).setIfInBounds j u = msCells m' ev' vv') (he : ROwn enTy wr ev' m'.ents) (hv : ROwn numTy wr vv' m'.vot) (hen : ∀ b, ev'.ownBlock = some b → g < b) (hvn : ∀ b, vv'.ownBlock = some b → g < b) : UpM w (wr.setCell ⟨g, j, none⟩ u) g s m' ev' vv' := by
  have ho := h.ord
  have hs : ∀ b, b ≠ g → (wr.setCell ⟨g, j, none⟩ u).heap[b]? = wr.heap[b]? := fun b hb => Below.heap_setCell _ _ _ _ hb
  refine ⟨h.res.same (hs _ (by omega)), h.rdr.same (hs _ (by omega)), ?_, he.same (fun b e => hs b (by have := hen b e; omega)), hv.same (fun b e => hs b (by have := hvn b e; omega)), hen, hvn, h.below.setCell (by show w.heap.size ≤ g; omega) _, ho, h.short⟩
  rw [← hm]
  exact h.msg.set j u
theorem upM_rput {w wr : World} {g : Nat} {s : RS} {m : Ms} {ev vv : Value} (h : UpM w wr g s m ev vv) (r : List UInt8) (hr : r.length ≤ maxLen) : UpM w (wr.setCell ⟨w.heap.size + 1, 0, none⟩ (.string (mk r))) g (r, s.2) m ev vv :=
  h.turn (Chg.setCell wr ⟨w.heap.size + 1, 0, none⟩ _) (h.rdr.set 0 _) hr
theorem upInt {w wr : World} {g : Nat} {s : RS} {m : Ms} {ev vv : Value} (h : UpM w wr g s m ev vv) :
    Calls Try.prog 55 #[.pointer (some ⟨w.heap.size + 1, 0, none⟩)] wr fun e w' => e = .returned (.int .i64 (rdI s).1) ∧ UpM w w' g (rdI s).2 m ev vv :=
  (rdInt_any s h.rdr h.short).mono fun e w' ⟨he, ho, hc, hs⟩ => ⟨he, h.turn hc ho hs⟩
theorem upText {w wr : World} {g : Nat} {s : RS} {m : Ms} {ev vv : Value} (h : UpM w wr g s m ev vv) :
    Calls Try.prog 57 #[.pointer (some ⟨w.heap.size + 1, 0, none⟩)] wr fun e w' => e = .returned (.string (rdT s).1) ∧ UpM w w' g (rdT s).2 m ev vv :=
  (rdText_any s h.rdr h.short).mono fun e w' ⟨he, ho, hc, hs⟩ => ⟨he, h.turn hc ho hs⟩
theorem upM_r0 {w wr : World} {g : Nat} {s : RS} {m : Ms} {ev vv : Value} (h : UpM w wr g s m ev vv) : wr.cell? ⟨w.heap.size + 1, 0, none⟩ = some (.string (mk s.1)) ∧ wr.cell? ⟨w.heap.size + 1, 1, none⟩ = some (.bool s.2) ∧ wr.frozen? ⟨w.heap.size + 1, 0, none⟩ = false :=
  ⟨(h.rdr.cell 0).trans rfl, (h.rdr.cell 1).trans rfl, h.rdr.frozen 0⟩
theorem UpM.at {w wr : World} {g : Nat} {s : RS} {m : Ms} {ev vv : Value} (h : UpM w wr g s m ev vv) : MsAt wr m ev vv := ⟨h.ents.rAt, h.vot.rAt⟩
theorem dV_short {l r : List UInt8} {xs : List Int} (h : dV l = some (xs, r)) : r.length ≤ l.length := by
  obtain ⟨_, _, rfl⟩ := dV_sound h
  rw [List.length_append]; omega
/-- ToVoters, of what the reader has left. -/
theorem upVot {w wr : World} {g : Nat} {s : RS} {m : Ms} {ev vv : Value} (h : UpM w wr g s m ev vv) :
    Calls Try.prog 40 #[.string (mk s.1)] wr fun e w' => ∃ a cap, e = .returned (.tuple #[.slice a (lenV s).1.length cap, .string (mk (lenV s).2.1.1), .bool (lenV s).2.2]) ∧ UpM w w' g s m ev vv ∧ ROwn numTy w' (.slice a (lenV s).1.length cap) (lenV s).1 ∧ (∀ b, (Value.slice a (lenV s).1.length cap).ownBlock = some b → g < b) ∧ (lenV s).2.1.1.length ≤ maxLen ∧ (lenV s).2.1.2 = s.2 := by
  have hs := h.short
  refine (refToVoters_any s.1 wr hs).mono ?_
  intro e w' hp
  unfold TVPost at hp
  unfold lenV
  cases hd : dV s.1 with
  | none =>
    rw [hd] at hp
    exact ⟨none, 0, hp.1, h.later hp.2, rOwn_nil _, fun b e => by simp [Value.ownBlock] at e, by simp, rfl⟩
  | some p =>
    obtain ⟨xs, r⟩ := p
    rw [hd] at hp
    obtain ⟨a, cap, he, hm⟩ := hp
    have := dV_short hd
    exact ⟨a, cap, he, h.later hm.below, hm.row, fun b e => by have := hm.new b e; have := h.msg.lt; omega, by show r.length ≤ maxLen; omega, rfl⟩
/-- An entry put behind, and stored. -/
theorem UpM.entry {w wr : World} {g : Nat} {s : RS} {m : Ms} {ev : Value} (h : UpM w wr g s m ev zV) (hvot : m.vot = []) (x : Me) (hl : m.ents.length ≤ 1000) :
    ∃ a cap w5, (Builtin.append_ #[22, 22] 22 #[ev, .slice (some ⟨wr.heap.size, 0, none⟩) 1 1]).run Try.prog (wr.alloc (.cells #[.int .i64 x.idx, .int .i64 x.term, .int .i64 x.kind, .string x.dt] 49)) = .ok (.slice a (m.ents.length + 1) cap) w5 ∧
      w5.cell? ⟨g, 8, none⟩ = some ev ∧ w5.frozen? ⟨g, 8, none⟩ = false ∧ UpM w (w5.setCell ⟨g, 8, none⟩ (.slice a (m.ents.length + 1) cap)) g s { m with ents := m.ents ++ [x] } (.slice a (m.ents.length + 1) cap) zV := by
  have hb : Below wr.heap.size wr (wr.alloc (.cells #[.int .i64 x.idx, .int .i64 x.term, .int .i64 x.kind, .string x.dt] 49)) := (Below.refl _ _).alloc (Nat.le_refl _) _
  have h1 := h.later hb
  have hz : (wr.alloc (.cells #[.int .i64 x.idx, .int .i64 x.term, .int .i64 x.kind, .string x.dt] 49)).heap.size = wr.heap.size + 1 := by simp
  have ho := h.ord
  have hgl := h.msg.lt
  obtain ⟨a, cap, w5, hr, hrow, hg, hat⟩ := run_app enTy_ok _ 22 ev _ m.ents [x] h1.ents (rAt_box enTy_ok (own.new wr #[.int .i64 x.idx, .int .i64 x.term, .int .i64 x.kind, .string x.dt] 49) rfl) (by simp; omega)
  rw [show m.ents.length + [x].length = m.ents.length + 1 from rfl] at hr hrow hat
  have hc := Chg.of_grown hg
  have hen : ∀ b, (Value.slice a (m.ents.length + 1) cap).ownBlock = some b → g < b := fun b e => by
    rcases hat with k | k
    · exact h.en b (by rw [← k]; exact e)
    · rw [k] at e; cases e; omega
  have hx : ∀ b, b ≤ g → ¬ ev.ownBlock = some b := fun b hb e => by have := h.en b e; omega
  have o8 : own w5 g (msCells m ev zV) 27 := h1.msg.chg hc (hx g (Nat.le_refl _))
  have hs : ∀ b, b ≠ g → (w5.setCell ⟨g, 8, none⟩ (.slice a (m.ents.length + 1) cap)).heap[b]? = w5.heap[b]? := fun b hb => Below.heap_setCell _ _ _ _ hb
  refine ⟨a, cap, w5, hr, (o8.cell 8).trans rfl, o8.frozen 8, ⟨?_, ?_, o8.set 8 _, hrow.same (fun b e => hs b (by have := hen b e; omega)), ?_, hen, h.vn, ?_, ho, h.short⟩⟩
  · exact (h1.res.chg hc (hx _ (by omega))).same (hs _ (by omega))
  · exact (h1.rdr.chg hc (hx _ (by omega))).same (hs _ (by omega))
  · show ROwn numTy _ zV m.vot
    rw [hvot]
    exact rOwn_nil _
  · exact (h1.below.trans (hc.below h1.below.size (fun b e => by have := h.en b e; omega))).setCell (by show w.heap.size ≤ g; omega) _
section
variable {w w1 : World} {g : Nat} {s : RS} {m : Ms} {ev vv : Value}
theorem upM_9 (h : UpM w w1 g s m ev vv) (n : Int) : w1.cell? ⟨g, 9, none⟩ = some (.int .i64 m.bi) ∧ w1.frozen? ⟨g, 9, none⟩ = false ∧ UpM w (w1.setCell ⟨g, 9, none⟩ (.int .i64 n)) g s { m with bi := n } ev vv :=
  ⟨(h.msg.cell 9).trans rfl, h.msg.frozen 9, h.put 9 _ rfl h.ents h.vot h.en h.vn⟩
theorem upM_10 (h : UpM w w1 g s m ev vv) (n : Int) : w1.cell? ⟨g, 10, none⟩ = some (.int .i64 m.bt) ∧ w1.frozen? ⟨g, 10, none⟩ = false ∧ UpM w (w1.setCell ⟨g, 10, none⟩ (.int .i64 n)) g s { m with bt := n } ev vv :=
  ⟨(h.msg.cell 10).trans rfl, h.msg.frozen 10, h.put 10 _ rfl h.ents h.vot h.en h.vn⟩
theorem upM_11 (h : UpM w w1 g s m ev vv) {v2 : Value} {xs : List Int} (hv : ROwn numTy w1 v2 xs) (hn : ∀ b, v2.ownBlock = some b → g < b) : w1.cell? ⟨g, 11, none⟩ = some vv ∧ w1.frozen? ⟨g, 11, none⟩ = false ∧ UpM w (w1.setCell ⟨g, 11, none⟩ v2) g s { m with vot := xs } ev v2 :=
  ⟨(h.msg.cell 11).trans rfl, h.msg.frozen 11, h.put 11 _ rfl h.ents hv h.en hn⟩
theorem upM_12 (h : UpM w w1 g s m ev vv) (n : ByteArray) : w1.cell? ⟨g, 12, none⟩ = some (.string m.bd) ∧ w1.frozen? ⟨g, 12, none⟩ = false ∧ UpM w (w1.setCell ⟨g, 12, none⟩ (.string n)) g s { m with bd := n } ev vv :=
  ⟨(h.msg.cell 12).trans rfl, h.msg.frozen 12, h.put 12 _ rfl h.ents h.vot h.en h.vn⟩
theorem upM_13 (h : UpM w w1 g s m ev vv) (n : ByteArray) : w1.cell? ⟨g, 13, none⟩ = some (.string m.dt) ∧ w1.frozen? ⟨g, 13, none⟩ = false ∧ UpM w (w1.setCell ⟨g, 13, none⟩ (.string n)) g s { m with dt := n } ev vv :=
  ⟨(h.msg.cell 13).trans rfl, h.msg.frozen 13, h.put 13 _ rfl h.ents h.vot h.en h.vn⟩
end
end Go.Proofs.Ytppjojjejabaeaa
