/-
  GENERAL: the runs of 'append(append([]T{}, L..), x)', for any row: in the three orders in which the empty row and x's box may be laid. (After XNtSend's put_runs; how it is used: XRlRef5, XNtSend.)
-/
import Derived.Test.YtcjhiegiccekpaaGRow
namespace Go.Proofs.Ytcjhiegiccekpaa
open Go.RowKit
set_option linter.unusedVariables false
set_option maxRecDepth 100000

section
variable {α : Type} {T : RowTy α}
structure GPut (T : RowTy α) (w : World) (lv : Value) (L : List α) (x : α) (cs : Array Value) (W : World) (g0 gF : Nat) (lay : Bool) (a1 : Option Addr) (b1 : Nat) (w1 : World) (a2 : Option Addr) (b2 : Nat) (w2 : World) : Prop where
  e1 : (Builtin.append_ #[T.st, T.st] T.st #[.slice (some ⟨g0, 0, none⟩) 0 0, lv]).run Try.prog W = .ok (.slice a1 L.length b1) w1
  b1w : Below w.heap.size w w1
  e2 : (Builtin.append_ #[T.st, T.st] T.st #[.slice a1 L.length b1, .slice (some ⟨if lay then w1.heap.size else gF, 0, none⟩) 1 1]).run Try.prog (if lay then w1.alloc (.cells cs T.el) else w1) = .ok (.slice a2 (L.length + 1) b2) w2
  row : RMid T w w2 (.slice a2 (L.length + 1) b2) (L ++ [x])
theorem gput_plan1 (o : T.Ok) {w wx : World} {lv : Value} {L : List α} {g0 : Nat} (hv : RAt T w lv L) (hl : L.length ≤ 100000) (hm : RMid T w wx (.slice (some ⟨g0, 0, none⟩) 0 0) []) :
    ∃ a1 b1 w1, (Builtin.append_ #[T.st, T.st] T.st #[.slice (some ⟨g0, 0, none⟩) 0 0, lv]).run Try.prog wx = .ok (.slice a1 L.length b1) w1 ∧ RMid T w w1 (.slice a1 L.length b1) L ∧ (∀ b, b < wx.heap.size → b ≠ g0 → w1.heap[b]? = wx.heap[b]?) := by
  obtain ⟨a1, b1, w1, e1, m1, k1⟩ := hm.app o T.st (hv.below hm.below) (by simp; omega)
  have z1 : ([] : List α).length + L.length = L.length := by simp
  rw [z1] at e1 m1
  rw [List.nil_append] at m1
  exact ⟨a1, b1, w1, e1, m1, fun b hb hne => k1 b hb (fun e => hne (by cases e; rfl))⟩
theorem gput_plan2 (o : T.Ok) {w wx : World} {L : List α} (hl : L.length ≤ 100000) {v1 : Value} {gF : Nat} {x : α} {cs : Array Value} (hcs : cs.toList = T.cs x) (hm : RMid T w wx v1 L) (ho : own wx gF cs T.el) :
    ∃ a2 b2 w2, (Builtin.append_ #[T.st, T.st] T.st #[v1, .slice (some ⟨gF, 0, none⟩) 1 1]).run Try.prog wx = .ok (.slice a2 (L.length + 1) b2) w2 ∧ RMid T w w2 (.slice a2 (L.length + 1) b2) (L ++ [x]) := by
  obtain ⟨a2, b2, w2, e2, m2, _⟩ := hm.app o T.st (rAt_box o ho hcs) (by simp; omega)
  exact ⟨a2, b2, w2, e2, m2⟩
theorem gput_runs (o : T.Ok) {w : World} {lv : Value} {L : List α} (hv : RAt T w lv L) (hl : L.length ≤ 100000) (x : α) (cs : Array Value) (hcs : cs.toList = T.cs x) :
    (∃ a1 b1 w1 a2 b2 w2, GPut T w lv L x cs ((w.alloc (.cells #[] T.el)).alloc (.cells cs T.el)).drew w.heap.size (w.heap.size + 1) false a1 b1 w1 a2 b2 w2) ∧
    (∃ a1 b1 w1 a2 b2 w2, GPut T w lv L x cs ((w.alloc (.cells cs T.el)).alloc (.cells #[] T.el)).drew (w.heap.size + 1) w.heap.size false a1 b1 w1 a2 b2 w2) ∧
    (∃ a1 b1 w1 a2 b2 w2, GPut T w lv L x cs (w.alloc (.cells #[] T.el)).drew w.heap.size 0 true a1 b1 w1 a2 b2 w2) := by
  have z0 : (w.alloc (.cells #[] T.el)).heap.size = w.heap.size + 1 := by simp
  have z1 : (w.alloc (.cells cs T.el)).heap.size = w.heap.size + 1 := by simp
  have B0 : Below w.heap.size w (w.alloc (.cells #[] T.el)).drew := (Below.alloc (Below.refl _ _) (Nat.le_refl _) _).drew
  have B01 : Below w.heap.size w ((w.alloc (.cells #[] T.el)).alloc (.cells cs T.el)).drew := (Below.alloc (Below.alloc (Below.refl _ _) (Nat.le_refl _) _) (by simp) _).drew
  have B10 : Below w.heap.size w ((w.alloc (.cells cs T.el)).alloc (.cells #[] T.el)).drew := (Below.alloc (Below.alloc (Below.refl _ _) (Nat.le_refl _) _) (by simp) _).drew
  have R0 : RMid T w _ (.slice (some ⟨w.heap.size, 0, none⟩) 0 0) [] := rMid_empty B0 (own.new w #[] _) (Nat.le_refl _)
  have R01 : RMid T w _ (.slice (some ⟨w.heap.size, 0, none⟩) 0 0) [] := rMid_empty B01 (own.same (own.new w #[] T.el) ((Below.alloc (Below.refl _ _) (Nat.le_refl _) (.cells cs T.el)).block _ (by rw [z0]; omega))) (Nat.le_refl _)
  have R10 : RMid T w _ (.slice (some ⟨w.heap.size + 1, 0, none⟩) 0 0) [] := rMid_empty B10 (by rw [← z1]; exact own.new (w.alloc (.cells cs T.el)) #[] _) (by omega)
  have O01 : own ((w.alloc (.cells #[] T.el)).alloc (.cells cs T.el)).drew (w.heap.size + 1) cs T.el := by rw [← z0]; exact own.new (w.alloc (.cells #[] T.el)) _ _
  have O10 : own ((w.alloc (.cells cs T.el)).alloc (.cells #[] T.el)).drew w.heap.size cs T.el := own.same (own.new w _ T.el) ((Below.alloc (Below.refl _ _) (Nat.le_refl _) (.cells #[] T.el)).block _ (by rw [z1]; omega))
  refine ⟨?_, ?_, ?_⟩
  · obtain ⟨a1, b1, w1, e1, m1, k1⟩ := gput_plan1 o hv hl R01
    obtain ⟨a2, b2, w2, e2, hT⟩ := gput_plan2 o hl hcs m1 (own.same O01 (k1 _ O01.lt (by omega)))
    exact ⟨a1, b1, w1, a2, b2, w2, e1, m1.below, e2, hT⟩
  · obtain ⟨a1, b1, w1, e1, m1, k1⟩ := gput_plan1 o hv hl R10
    obtain ⟨a2, b2, w2, e2, hT⟩ := gput_plan2 o hl hcs m1 (own.same O10 (k1 _ O10.lt (by omega)))
    exact ⟨a1, b1, w1, a2, b2, w2, e1, m1.below, e2, hT⟩
  · obtain ⟨a1, b1, w1, e1, m1, k1⟩ := gput_plan1 o hv hl R0
    have bC : Below w1.heap.size w1 (w1.alloc (.cells cs T.el)) := Below.alloc (Below.refl _ _) (Nat.le_refl _) _
    obtain ⟨a2, b2, w2, e2, hT⟩ := gput_plan2 o hl hcs (m1.later bC) (own.new w1 _ T.el)
    exact ⟨a1, b1, w1, a2, b2, w2, e1, m1.below, e2, hT⟩
end
end Go.Proofs.Ytcjhiegiccekpaa
