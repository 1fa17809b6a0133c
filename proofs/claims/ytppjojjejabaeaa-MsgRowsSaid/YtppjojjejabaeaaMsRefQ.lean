/-
  LAYER 7 (msg), THE DOCUMENT's ANSWER: Pack.
-/
import Derived.Test.YtppjojjejabaeaaMsRefP
namespace Go.Proofs.Ytppjojjejabaeaa
open Go.RowKit
set_option linter.unusedVariables false
set_option maxRecDepth 100000

/-- The box's cells. -/
structure MsBox (w : World) (g : Nat) (m : Ms) (ev vv : Value) : Prop where
  c0 : w.cell? ⟨g, 0, none⟩ = some (.int .i64 m.kind)
  c1 : w.cell? ⟨g, 1, none⟩ = some (.int .i64 m.fr)
  c2 : w.cell? ⟨g, 2, none⟩ = some (.int .i64 m.to_)
  c3 : w.cell? ⟨g, 3, none⟩ = some (.int .i64 m.term)
  c4 : w.cell? ⟨g, 4, none⟩ = some (.int .i64 m.index)
  c5 : w.cell? ⟨g, 5, none⟩ = some (.int .i64 m.logTerm)
  c6 : w.cell? ⟨g, 6, none⟩ = some (.int .i64 m.commit)
  c7 : w.cell? ⟨g, 7, none⟩ = some (.bool m.ok)
  c8 : w.cell? ⟨g, 8, none⟩ = some (ev)
  c9 : w.cell? ⟨g, 9, none⟩ = some (.int .i64 m.bi)
  c10 : w.cell? ⟨g, 10, none⟩ = some (.int .i64 m.bt)
  c11 : w.cell? ⟨g, 11, none⟩ = some (vv)
  c12 : w.cell? ⟨g, 12, none⟩ = some (.string m.bd)
  c13 : w.cell? ⟨g, 13, none⟩ = some (.string m.dt)
theorem msBox_of {w : World} {g : Nat} {m : Ms} {ev vv : Value} (o : own w g (msCells m ev vv) 27) : MsBox w g m ev vv :=
  ⟨(o.cell 0).trans rfl, (o.cell 1).trans rfl, (o.cell 2).trans rfl, (o.cell 3).trans rfl, (o.cell 4).trans rfl, (o.cell 5).trans rfl, (o.cell 6).trans rfl, (o.cell 7).trans rfl, (o.cell 8).trans rfl, (o.cell 9).trans rfl, (o.cell 10).trans rfl, (o.cell 11).trans rfl, (o.cell 12).trans rfl, (o.cell 13).trans rfl⟩
/-- What Pack says. -/
def packN (m : Ms) : List UInt8 × Int := if rightM m = true then (eM m, 0) else ([], 1)
def PackPost (w : World) (q : List UInt8 × Int) (e : Ending) (w' : World) : Prop := e = .returned (.tuple #[.string (mk q.1), .int .i64 q.2]) ∧ Below w.heap.size w w'
theorem refPack_any {w : World} (m : Ms) (ev vv : Value) (hm : MsAt w m ev vv) (hi : MsIn m) (hvl : m.vot.length ≤ 1000000) :
    Calls Try.prog 12 #[msV m ev vv] w (PackPost w (packN m)) := by
  have hbB : Below w.heap.size w (w.alloc (.cells (msCells m ev vv) 27)) := (Below.refl _ _).alloc (Nat.le_refl _) _
  have HR := hid (refRight_any m ev vv (hm.below hbB) hi.el hvl)
  have HBy := hid (fun wx (h : Below (w.alloc (.cells (msCells m ev vv) 27)).heap.size (w.alloc (.cells (msCells m ev vv) 27)) wx) (hr : rightM m = true) => refBytes_any m ev vv ((hm.below hbB).below h) (rightM_b hr))
  have HBx := hid (fun wx (h : Below (w.alloc (.cells (msCells m ev vv) 27)).heap.size (w.alloc (.cells (msCells m ev vv) 27)) wx) => msBox_of ((own.new w (msCells m ev vv) 27).same (h.block _ (by simp))))
  have HPoss : Hid (∀ wx, Below (w.alloc (.cells (msCells m ev vv) 27)).heap.size (w.alloc (.cells (msCells m ev vv) 27)) wx → Below w.heap.size w wx) := hid (fun wx h => hbB.trans (h.mono (by simp)))
  obtain ⟨ea, ec, rfl, _⟩ := ents_at hm.ents
  obtain ⟨va, vc, rfl, _⟩ := nums_at hm.vot
  unfold packN
  clear hm hi hvl hbB
  cases hr : rightM m with
  | false =>
    rw [hr] at HR
    simp only [Bool.false_eq_true, if_false]
    clear hr HBy
    unfold msV at *
    unfold msCells at *
    go_enter Try.func12, Try.ntmps12
    go_wp2_with (go_at_call 14; (with_reducible refine HR.out.mono ?_); rintro e w1 ⟨rfl, hb1⟩)
    go_ret2
    exact ⟨rfl, HPoss.out _ hb1⟩
  | true =>
    rw [hr] at HR
    have HBy2 := hid (fun wx h => HBy.out wx h hr)
    simp only [if_true]
    obtain ⟨S, hS⟩ : ∃ S, eM m = S := ⟨_, rfl⟩
    rw [hS] at HBy2
    rw [hS]
    clear hr HBy hS
    unfold msV at *
    unfold msCells at *
    go_enter Try.func12, Try.ntmps12
    go_wp2_with (first
      | (go_at_call 14; (with_reducible refine HR.out.mono ?_); rintro e w1 ⟨rfl, hb1⟩; obtain ⟨k0, k1, k2, k3, k4, k5, k6, k7, k8, k9, k10, k11, k12, k13⟩ := HBx.out _ hb1)
      | (go_at_call 27; (with_reducible refine (HBy2.out _ hb1).mono ?_); rintro e w2 ⟨rfl, hb2⟩; have hb3 := hid (hb1.trans (hb2.mono hb1.size))))
    go_ret2
    exact ⟨rfl, HPoss.out _ hb3.out⟩
end Go.Proofs.Ytppjojjejabaeaa
