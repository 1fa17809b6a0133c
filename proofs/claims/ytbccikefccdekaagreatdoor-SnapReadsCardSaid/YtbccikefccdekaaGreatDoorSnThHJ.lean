import Derived.Test.YtbccikefccdekaaGreatDoorSnHdJ
import Derived.Test.YtbccikefccdekaaGreatDoorSnCloneJ
import Derived.Deep.RegionHeld3
import Derived.Deep.DeepCutAuto
/-
  LAYER 4 (snap), THE PROGRAM: toHead, what its walks share.
-/
namespace Go.Proofs.YtbccikefccdekaaGreatDoor
open Go.RowKit
set_option linter.unusedVariables false
set_option maxRecDepth 100000

/-! ### a struct of four cells stored into its box -/
abbrev qst4 (w : World) (b : Nat) (u0 u1 u2 u3 : Value) : World := (((w.setCell ⟨b, 0, none⟩ u0).setCell ⟨b, 1, none⟩ u1).setCell ⟨b, 2, none⟩ u2).setCell ⟨b, 3, none⟩ u3
theorem qst4_own {w : World} {b : Nat} {T : TypeId} {a0 a1 a2 a3 : Value} (h : own w b #[a0, a1, a2, a3] T) (u0 u1 u2 u3 : Value) : own (qst4 w b u0 u1 u2 u3) b #[u0, u1, u2, u3] T := by
  have h0 := h.set 0 u0
  have h1 := h0.set 1 u1
  have h2 := h1.set 2 u2
  exact h2.set 3 u3
structure QBox (w2 : World) (b : Nat) (a0 a1 a2 a3 u0 u1 u2 u3 : Value) : Prop where
  k0 : w2.cell? ⟨b, 0, none⟩ = some a0
  k1 : w2.cell? ⟨b, 1, none⟩ = some a1
  k2 : w2.cell? ⟨b, 2, none⟩ = some a2
  k3 : w2.cell? ⟨b, 3, none⟩ = some a3
  f0 : w2.frozen? ⟨b, 0, none⟩ = false
  f1 : w2.frozen? ⟨b, 1, none⟩ = false
  f2 : w2.frozen? ⟨b, 2, none⟩ = false
  f3 : w2.frozen? ⟨b, 3, none⟩ = false
  e0 : (qst4 w2 b u0 u1 u2 u3).cell? ⟨b, 0, none⟩ = some u0
  e1 : (qst4 w2 b u0 u1 u2 u3).cell? ⟨b, 1, none⟩ = some u1
  e2 : (qst4 w2 b u0 u1 u2 u3).cell? ⟨b, 2, none⟩ = some u2
  e3 : (qst4 w2 b u0 u1 u2 u3).cell? ⟨b, 3, none⟩ = some u3
theorem qbox_of {w2 : World} {b : Nat} {T : TypeId} {a0 a1 a2 a3 : Value} (h : own w2 b #[a0, a1, a2, a3] T) (u0 u1 u2 u3 : Value) : QBox w2 b a0 a1 a2 a3 u0 u1 u2 u3 :=
  ⟨(h.cell 0).trans rfl, (h.cell 1).trans rfl, (h.cell 2).trans rfl, (h.cell 3).trans rfl, h.frozen 0, h.frozen 1, h.frozen 2, h.frozen 3, ((qst4_own h u0 u1 u2 u3).cell 0).trans rfl, ((qst4_own h u0 u1 u2 u3).cell 1).trans rfl, ((qst4_own h u0 u1 u2 u3).cell 2).trans rfl, ((qst4_own h u0 u1 u2 u3).cell 3).trans rfl⟩
theorem qst4_below {B : Nat} {w w2 : World} {b : Nat} (h : Below B w w2) (hb : B ≤ b) (u0 u1 u2 u3 : Value) : Below B w (qst4 w2 b u0 u1 u2 u3) := (((h.setCell hb u0).setCell hb u1).setCell hb u2).setCell hb u3
theorem qst4_chg (w2 : World) (b : Nat) (u0 u1 u2 u3 : Value) : Chg (fun x => x = b) w2 (qst4 w2 b u0 u1 u2 u3) :=
  (((Chg.setCell w2 ⟨b, 0, none⟩ _).trans (Chg.setCell _ ⟨b, 1, none⟩ _) (fun x e => .inl e)).trans (Chg.setCell _ ⟨b, 2, none⟩ _) (fun x e => .inl e)).trans (Chg.setCell _ ⟨b, 3, none⟩ _) (fun x e => .inl e)

def HdPost (w : World) (S : List UInt8) (e : Ending) (w' : World) : Prop := ∃ b a k c n ok, e = .returned (.tuple #[bval b (.slice a k c), .int .i64 n, .bool ok]) ∧ Below w.heap.size w w' ∧ (match nums S with | none => ok = false | some l => ok = headOk l ∧ (ok = true → b = (headB l).1 ∧ n = (headB l).2 ∧ BAt w' (.slice a k c) b ∧ ∀ x, (Value.slice a k c).ownBlock = some x → w.heap.size ≤ x))
theorem encs_ge : ∀ l : List Int, l.length ≤ (encs l).length
  | [] => Nat.le_refl _
  | n :: r => by
    have := encs_ge r
    have := enc_pos (nat64 n)
    rw [encs_cons, List.length_append, List.length_cons]
    omega
theorem headOk_bad {l : List Int} (h : l.length < 4 ∨ l.getD 2 0 ≠ (l.length : Int) - 4) : headOk l = false := by
  cases e : headOk l with
  | false => rfl
  | true =>
    obtain ⟨h1, h2, _⟩ := headOk_parts e
    omega
abbrev zbox : Array Value := #[.int .i64 0, .int .i64 0, .slice none 0 0, .string ⟨#[]⟩]
theorem intsAt_gr {w : World} {v : Value} {xs : List Int} (h : Gr.RAt Gr.numTy w v xs) : IntsAt w w.heap.size v xs := by
  obtain ⟨a, cap, rfl, hc⟩ := Gr.nums_at h
  refine ⟨a, cap, rfl, fun hne => ?_⟩
  obtain ⟨sb, so, e, hlt, _⟩ := hc 0 (List.length_pos_iff.2 hne)
  refine ⟨sb, so, e, hlt, fun j x hj => ?_⟩
  obtain ⟨h1, rfl⟩ := List.getElem?_eq_some_iff.1 hj
  obtain ⟨sb', so', e', _, h2⟩ := hc j h1
  rw [e] at e'
  cases e'
  rw [h2]
  simp [List.getD, h1]
theorem bAt_right {w : World} {vv : Value} {b : Bs} (h : rightS b = true) (hv : IntsAt w w.heap.size vv b.vot) : BAt w vv b := by
  obtain ⟨h1, h2, _, _, h5⟩ := rightS_parts h
  obtain ⟨h6, h7⟩ := rightS_vot h
  exact ⟨by unfold I64s; omega, by unfold I64s; omega, hv, by omega, fun v hv' => by have := h7 v hv'; unfold I64s; omega, by omega⟩
theorem hd_fin {w wf : World} {S : List UInt8} {l L : List Int} {a : Option Addr} {c : Nat} (hn : nums S = some l) (h4 : 4 ≤ l.length) (h2 : l.getD 2 0 = (l.length : Int) - 4) (hL : (l.take (l.length - 1)).drop 3 = L) (hb : Below w.heap.size w wf) (hr : Gr.RAt Gr.numTy wf (.slice a L.length c) L) (hnw : ∀ x, (Value.slice a L.length c).ownBlock = some x → w.heap.size ≤ x) :
    HdPost w S (.returned (.tuple #[.agg #[.int .i64 (l.getD 0 0), .int .i64 (l.getD 1 0), .slice a L.length c, .string ⟨#[]⟩], .int .i64 (l.getD (l.length - 1) 0), .bool (rightS ⟨l.getD 0 0, l.getD 1 0, L, []⟩ && decide ((0 : Int) ≤ l.getD (l.length - 1) 0) && decide (l.getD (l.length - 1) 0 ≤ (4000000 : Int)))])) wf := by
  refine ⟨⟨l.getD 0 0, l.getD 1 0, L, []⟩, a, L.length, c, l.getD (l.length - 1) 0, _, rfl, hb, ?_⟩
  rw [hn]
  have e1 : (headB l).1 = ⟨l.getD 0 0, l.getD 1 0, L, []⟩ := by
    unfold headB
    simp only
    congr 1
    rw [← hL, List.drop_take]
    congr 1
  have e2 : (headB l).2 = l.getD (l.length - 1) 0 := rfl
  have ho : headOk l = (rightS ⟨l.getD 0 0, l.getD 1 0, L, []⟩ && decide ((0 : Int) ≤ l.getD (l.length - 1) 0) && decide (l.getD (l.length - 1) 0 ≤ (4000000 : Int))) := by
    unfold headOk
    rw [e1, e2, decide_eq_true h4, decide_eq_true h2, Bool.true_and, Bool.true_and, Bool.and_assoc]
    congr 1
    rw [Bool.eq_iff_iff]
    simp
  refine ⟨ho.symm, fun hok => ⟨e1.symm, e2.symm, ?_⟩⟩
  simp only [Bool.and_eq_true] at hok
  exact ⟨bAt_right hok.1.1 (intsAt_gr hr), hnw⟩
/-- Behind toHead's struct. -/
structure ThB (w1 : World) (x0 x1 : Int) (L : List Int) (u8 : Value) (wx : World) : Prop where
  ex : ∃ g a c, u8 = .pointer (some ⟨g, 0, none⟩) ∧ own wx g #[.int .i64 x0, .int .i64 x1, .slice a L.length c, .string ⟨#[]⟩] 24 ∧ w1.heap.size ≤ g ∧ Gr.RAt Gr.numTy wx (.slice a L.length c) L ∧ Below w1.heap.size w1 wx ∧ ∀ b, (Value.slice a L.length c).ownBlock = some b → w1.heap.size ≤ b
theorem thB_late {w1 w2 w3 : World} {x0 x1 : Int} {L : List Int} {a : Option Addr} {c : Nat} (h2 : Below w1.heap.size w1 w2) (hm : Gr.RMid Gr.numTy w2 w3 (.slice a L.length c) L) : Hid (ThB w1 x0 x1 L (.pointer (some ⟨w3.heap.size, 0, none⟩)) (w3.alloc (.cells #[.int .i64 x0, .int .i64 x1, .slice a L.length c, .string ⟨#[]⟩] 24))) := by
  have h3 : Below w1.heap.size w1 w3 := h2.trans (hm.below.mono h2.size)
  exact ⟨w3.heap.size, a, c, rfl, own.new w3 _ _, h3.size, hm.row.rAt.below ((Below.refl _ _).alloc (Nat.le_refl _) _), h3.alloc h3.size _, fun b e => by have := hm.new b e; have := h2.size; omega⟩
theorem thB_early {w1 w3 : World} {x0 x1 : Int} {L : List Int} {a : Option Addr} {c g : Nat} (hg : w1.heap.size ≤ g) (hb : Below w1.heap.size w1 w3) {w2 : World} (h12 : w1.heap.size ≤ w2.heap.size) (ho : own w2 g #[.int .i64 0, .int .i64 0, .slice none 0 0, .string ⟨#[]⟩] 24) (hm : Gr.RMid Gr.numTy w2 w3 (.slice a L.length c) L) :
    QBox w3 g (.int .i64 0) (.int .i64 0) (.slice none 0 0) (.string ⟨#[]⟩) (.int .i64 x0) (.int .i64 x1) (.slice a L.length c) (.string ⟨#[]⟩) ∧ Hid (ThB w1 x0 x1 L (.pointer (some ⟨g, 0, none⟩)) (qst4 w3 g (.int .i64 x0) (.int .i64 x1) (.slice a L.length c) (.string ⟨#[]⟩))) := by
  have o3 := ho.same (hm.below.block _ ho.lt)
  refine ⟨qbox_of o3 _ _ _ _, ⟨g, a, c, rfl, qst4_own o3 _ _ _ _, hg, ?_, qst4_below hb hg _ _ _ _, fun b e => by have := hm.new b e; omega⟩⟩
  refine hm.row.rAt.same (fun b e hl => (qst4_chg w3 g _ _ _ _).block b hl (fun k => ?_)) (qst4_chg w3 g _ _ _ _).size
  have := hm.new b e
  have := ho.lt
  omega
end Go.Proofs.YtbccikefccdekaaGreatDoor

