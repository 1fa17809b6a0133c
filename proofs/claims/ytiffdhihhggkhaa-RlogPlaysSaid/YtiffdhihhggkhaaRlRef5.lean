/-
  LAYER 8 (rlog), THE DOCUMENT's LOG: Add.
-/
import Derived.Test.YtiffdhihhggkhaaRlRef4
import Derived.Test.YtiffdhihhggkhaaMq1
import Derived.Deep.AppendLies
import Derived.RegionTactic
namespace Go.Proofs.Ytiffdhihhggkhaa
open Go.RowKit
set_option linter.unusedVariables false
set_option maxRecDepth 100000

/-- The entries' row is another one now. -/
theorem rf_row {w w2 : World} {F : Nat → Prop} {r : Nat} {s : Rl} (h : rfRep.Is w F r s) {v : Value} {L : List Me} (hm : RMid enTy w w2 v L) : Turn rfRep F w (w2.setCell ⟨r, 4, none⟩ v) r { s with ents := L } := by
  obtain ⟨vv, lv, h⟩ := h
  have hbox : own w2 r #[.int .i64 s.bi, .int .i64 s.bt, vv, .string s.bd, lv] 70 := h.box.same (hm.below.block _ h.box.lt)
  have hsz : (w2.setCell ⟨r, 4, none⟩ v).heap.size = w2.heap.size := setCell_size _ _ _
  have hs : ∀ b, b ≠ r → (w2.setCell ⟨r, 4, none⟩ v).heap[b]? = w2.heap[b]? := fun b hb => Below.heap_setCell _ _ _ _ hb
  refine ⟨fun b => F b ∨ (v.ownBlock = some b), ⟨vv, v, ?_, ?_, ?_, .inl h.fr, fun b e => .inl (h.fv b e), fun b e => .inr e, fun b e => ?_, h.nv, fun e => by have := hm.new _ e; have := h.box.lt; omega⟩, ?_, fun b e => ?_⟩
  · exact hbox.set 4 v
  · exact (h.vot.below hm.below).same (fun b e _ => hs b (fun e2 => h.nv (by rw [e, e2]))) (by rw [hsz]; exact Nat.le_refl _)
  · exact (hm.row.same (fun b e => hs b (fun e2 => by have := hm.new b e; have := h.box.lt; omega))).rAt
  · rcases e with e | e
    · have := h.lt b e; have := hm.below.size; omega
    · have := hm.row.lt b e; omega
  · refine ⟨hm.below.os, hm.below.tape, hm.below.output, by rw [hsz]; exact hm.below.size, fun b hb hn => ?_⟩
    rw [hs b (fun e => hn (by rw [e]; exact h.fr))]
    exact hm.below.block b hb
  · rcases e with e | e
    · exact .inl e
    · exact .inr (hm.new b e)
/-- What the ends of Add have in common: in the world W (the boxes stand), the entries' row made anew. -/
theorem rf_end {w W w2 : World} {F : Nat → Prop} {r g8 ge : Nat} {s : Rl} {v : Value} {L : List Me} {x : Me} (hW : rfRep.Is W F r s) (h0 : Below w.heap.size w W) (hF : ∀ b, F b → b < w.heap.size) (h8 : own W g8 #[.int .i64 0, .int .i64 0, .int .i64 0, .string ⟨#[]⟩] 49) (he : own W ge #[.int .i64 x.idx, .int .i64 x.term, .int .i64 x.kind, .string x.dt] 49) (n8 : w.heap.size ≤ g8) (ne : w.heap.size ≤ ge) (h8e : g8 ≠ ge) (hm : RMid enTy W w2 v L) :
    w2.cell? ⟨r, 4, none⟩ = W.cell? ⟨r, 4, none⟩ ∧ w2.frozen? ⟨r, 4, none⟩ = false ∧ ((w2.setCell ⟨r, 4, none⟩ v).cell? ⟨ge, 0, none⟩ = some (.int .i64 x.idx) ∧ (w2.setCell ⟨r, 4, none⟩ v).cell? ⟨ge, 1, none⟩ = some (.int .i64 x.term) ∧ (w2.setCell ⟨r, 4, none⟩ v).cell? ⟨ge, 2, none⟩ = some (.int .i64 x.kind) ∧ (w2.setCell ⟨r, 4, none⟩ v).cell? ⟨ge, 3, none⟩ = some (.string x.dt)) ∧
    Box4 (w2.setCell ⟨r, 4, none⟩ v) g8 (.int .i64 0) (.int .i64 0) (.int .i64 0) (.string ⟨#[]⟩) (.int .i64 x.idx) (.int .i64 x.term) (.int .i64 x.kind) (.string x.dt) ∧ Hid (Turn rfRep F w (st4 (w2.setCell ⟨r, 4, none⟩ v) g8 (.int .i64 x.idx) (.int .i64 x.term) (.int .i64 x.kind) (.string x.dt)) r { s with ents := L }) := by
  obtain ⟨vv, lv, hI⟩ := id hW
  have hr : r < w.heap.size := hF r hI.fr
  have hb2 := hm.below
  have o8 := (h8.same (hb2.block _ h8.lt)).same (w' := w2.setCell ⟨r, 4, none⟩ v) (Below.heap_setCell _ _ _ _ (by show g8 ≠ r; omega))
  have oe := (he.same (hb2.block _ he.lt)).same (w' := w2.setCell ⟨r, 4, none⟩ v) (Below.heap_setCell _ _ _ _ (by show ge ≠ r; omega))
  have orr := hI.box.same (hb2.block _ hI.box.lt)
  refine ⟨(orr.cell 4).trans (hI.box.cell 4).symm, orr.frozen 4, ⟨(oe.cell 0).trans rfl, (oe.cell 1).trans rfl, (oe.cell 2).trans rfl, (oe.cell 3).trans rfl⟩, box4_of o8 _ _ _ _, hid ?_⟩
  obtain ⟨F', hi', hc', hF'⟩ := rf_row hW hm
  have hz := h0.size
  have hcs : Chg (fun b => b = g8) (w2.setCell ⟨r, 4, none⟩ v) (st4 (w2.setCell ⟨r, 4, none⟩ v) g8 (.int .i64 x.idx) (.int .i64 x.term) (.int .i64 x.kind) (.string x.dt)) := ((((Chg.setCell _ ⟨g8, 0, none⟩ _).trans (Chg.setCell _ ⟨g8, 1, none⟩ _) (fun b e => .inl e)).trans (Chg.setCell _ ⟨g8, 2, none⟩ _) (fun b e => .inl e)).trans (Chg.setCell _ ⟨g8, 3, none⟩ _) (fun b e => .inl e))
  have hnF : ¬ F' g8 := fun e => by
    rcases hF' _ e with k | k
    · have := hF _ k; omega
    · have := h8.lt; omega
  refine ⟨F', rfRep.same hi' hcs.size (fun b e => hcs.block b (rfRep.lt hi' b e) (fun e2 => hnF (by rw [← e2]; exact e))), ?_, fun b e => ?_⟩
  · have h1 : Chg F w W := Chg.of_below h0
    have h2 : Chg F w (w2.setCell ⟨r, 4, none⟩ v) := h1.trans hc' (fun b e => .inl e)
    exact h2.trans hcs (fun b e => .inr (by rw [e]; exact n8))
  · rcases hF' b e with k | k
    · exact .inl k
    · exact .inr (by omega)
end Go.Proofs.Ytiffdhihhggkhaa
