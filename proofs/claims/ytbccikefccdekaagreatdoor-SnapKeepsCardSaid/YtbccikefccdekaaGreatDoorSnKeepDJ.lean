import Derived.Test.YtbccikefccdekaaGreatDoorMq4J
import Derived.Test.YtbccikefccdekaaGreatDoorSnLengthsWJ
/-
  LAYER 4 (snap), the law SnapKeeps: behind the Load.
-/
namespace Go.Proofs.YtbccikefccdekaaGreatDoor
open Go.RowKit Go.Shelf
attribute [local go_sem] Oper.semAt_some
set_option linter.unusedVariables false
set_option maxRecDepth 100000
section
variable {W wr w5 : World} {a P Q : Nat} {o : Option Bs} {nx u last : Bs} {s sc : Dk} {va : Option Addr} {vc : Nat}
theorem bat_of {b o : Nat} {x : Bs} {vv : Value} (h : BeAt W W.heap.size b o x vv) (hi : BIn x) (hs : smallB x = true) : BAt W vv x := by
  unfold smallB at hs
  simp only [Bool.and_eq_true, decide_eq_true_eq] at hs
  exact ⟨hi.ix, hi.tm, h.vot, by omega, hi.v64, by omega⟩
theorem KBox.boxB {g : Nat} {b : Bs} (h : KBox W g b wr) : ∃ pa pc, BoxB g b (.slice pa b.vot.length pc) wr ∧ BAt wr (.slice pa b.vot.length pc) b := by
  obtain ⟨vv, h1, h2, _⟩ := h
  obtain ⟨pa, pc, rfl, -⟩ := h2.vot
  exact ⟨pa, pc, boxB_of h1, h2⟩
theorem BoxB.below {g : Nat} {b : Bs} {vv : Value} {w w' : World} (h : BoxB g b vv w) (hg : g < w.heap.size) (hb : Below w.heap.size w w') : BoxB g b vv w' :=
  ⟨(hb.cell (p := ⟨g, 0, none⟩) hg).trans h.1, (hb.cell (p := ⟨g, 1, none⟩) hg).trans h.2.1, (hb.cell (p := ⟨g, 2, none⟩) hg).trans h.2.2.1, (hb.cell (p := ⟨g, 3, none⟩) hg).trans h.2.2.2⟩
theorem kend_tail (hl : o.getD bs0 = last) (h : KEnd W a P Q o nx sc w5) (hu : BAt w5 (.slice va u.vot.length vc) u) {W6 : World} (hW6 : w5.alloc (.cells (bc u (.slice va u.vot.length vc)) 24) = W6) :
    ∃ pa pc qa qc, BoxB P last (.slice pa last.vot.length pc) W6 ∧ BoxB w5.heap.size u (.slice va u.vot.length vc) W6 ∧
      Hid (Calls Tryz.prog 14 #[.agg (bc u (.slice va u.vot.length vc)), .agg (bc last (.slice pa last.vot.length pc))] W6 fun e w' => e = .returned (.bool (decide (u = last))) ∧ Below W6.heap.size W6 w') ∧
      Hid (∀ w7, Below W6.heap.size W6 w7 → BoxB w5.heap.size u (.slice va u.vot.length vc) w7 ∧ BoxB Q nx (.slice qa nx.vot.length qc) w7 ∧ Below W.heap.size W w7 ∧ Calls Tryz.prog 14 #[.agg (bc u (.slice va u.vot.length vc)), .agg (bc nx (.slice qa nx.vot.length qc))] w7 fun e w' => e = .returned (.bool (decide (u = nx))) ∧ w'.cell? ⟨w5.heap.size, 0, none⟩ = some (.int .i64 u.ix) ∧ Below W.heap.size W w') := by
  have hb6 : Below w5.heap.size w5 W6 := by rw [← hW6]; exact (Below.refl _ _).alloc (Nat.le_refl _) _
  have o6 : own W6 w5.heap.size (bc u (.slice va u.vot.length vc)) 24 := by rw [← hW6]; exact own.new _ _ _
  have h6 := h.later hb6
  have hu6 := hu.below hb6
  have hP := h6.was
  rw [hl] at hP
  obtain ⟨pa, pc, p1, p2⟩ := hP.boxB
  obtain ⟨qa, qc, q1, q2⟩ := h6.nxt.boxB
  obtain ⟨_, oQ, _, _⟩ := h6.nxt
  refine ⟨pa, pc, qa, qc, p1, boxB_of o6, hid ?_, hid fun w7 hb7 => ⟨boxB_of (o6.same (hb7.block _ o6.lt)), q1.below oQ.lt hb7, h6.bel.trans (hb7.mono h6.bel.size), ?_⟩⟩
  · exact snSame_any hu6 p2
  · refine (snSame_any (hu6.below hb7) (q2.below hb7)).mono ?_
    rintro e w' ⟨he, hb8⟩
    have o7 := o6.same (hb7.block _ o6.lt)
    have hbW := h6.bel.trans (hb7.mono h6.bel.size)
    exact ⟨he, ((o7.same (hb8.block _ o7.lt)).cell 0).trans rfl, hbW.trans (hb8.mono hbW.size)⟩
theorem kst_found (h : KSt W a P Q o nx s wr) (ks ns : List Int) : ((loadS (crash s ks ns)).getD bs0 = o.getD bs0 ∨ (loadS (crash s ks ns)).getD bs0 = nx) ∧ (loadS (crash s ks ns)).isSome = decide (((loadS (crash s ks ns)).getD bs0).ix > 0) := by
  have key : ∀ x : Bs, rightS x = true → (some x).isSome = decide (((some x).getD bs0).ix > 0) := fun x hx => by
    have := (rightS_parts hx).1
    show true = decide (x.ix > 0)
    rw [decide_eq_true (by omega)]
  rcases (h.load ks ns).2 with k | ⟨hr, k⟩
  · rw [k]
    refine ⟨.inl rfl, ?_⟩
    cases ho : o with
    | none => rfl
    | some x => exact key x (h.ro x ho)
  · rw [k]
    exact ⟨.inr rfl, key nx hr⟩
/-- A base stored into a box, the world behind it by a name. -/
structure P4 (w WP : World) (g : Nat) (b : Bs) (vv : Value) (r0 r1 r2 r3 : Value) : Prop where
  k0 : w.cell? ⟨g, 0, none⟩ = some r0
  k1 : w.cell? ⟨g, 1, none⟩ = some r1
  k2 : w.cell? ⟨g, 2, none⟩ = some r2
  k3 : w.cell? ⟨g, 3, none⟩ = some r3
  f0 : w.frozen? ⟨g, 0, none⟩ = false
  f1 : w.frozen? ⟨g, 1, none⟩ = false
  f2 : w.frozen? ⟨g, 2, none⟩ = false
  f3 : w.frozen? ⟨g, 3, none⟩ = false
  eq : (((w.setCell ⟨g, 0, none⟩ (.int .i64 b.ix)).setCell ⟨g, 1, none⟩ (.int .i64 b.tm)).setCell ⟨g, 2, none⟩ vv).setCell ⟨g, 3, none⟩ (.string (mk b.data)) = WP
  e0 : WP.cell? ⟨g, 0, none⟩ = some (.int .i64 b.ix)
  e1 : WP.cell? ⟨g, 1, none⟩ = some (.int .i64 b.tm)
  e2 : WP.cell? ⟨g, 2, none⟩ = some vv
  e3 : WP.cell? ⟨g, 3, none⟩ = some (.string (mk b.data))
theorem puts_named {w WP : World} {g : Nat} {b : Bs} {vv : Value} (h : Puts w g b vv) (e : kst w g b vv = WP) : ∃ r0 r1 r2 r3, P4 w WP g b vv r0 r1 r2 r3 := by
  obtain ⟨r0, r1, r2, r3, q⟩ := h
  have q0 := q.e0
  have q1 := q.e1
  have q2 := q.e2
  have q3 := q.e3
  have e' : qst4 w g (.int .i64 b.ix) (.int .i64 b.tm) vv (.string (mk b.data)) = WP := e
  rw [e'] at q0 q1 q2 q3
  exact ⟨r0, r1, r2, r3, q.k0, q.k1, q.k2, q.k3, q.f0, q.f1, q.f2, q.f3, e, q0, q1, q2, q3⟩
end
end Go.Proofs.YtbccikefccdekaaGreatDoor

