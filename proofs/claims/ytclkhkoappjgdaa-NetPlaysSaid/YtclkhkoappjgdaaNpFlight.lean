/-
  LAYER 6 (net), THE PROGRAM: New, Flight.
-/
import Derived.Test.YtclkhkoappjgdaaNpIs
namespace Go.Proofs.Ytclkhkoappjgdaa
open Go.RowKit Go.Maps
set_option linter.unusedVariables false
set_option maxRecDepth 100000

section
variable {w0 w : World} {X : Nat → Prop} {r : Nat} {s : Nt}
abbrev nz : Nt := ⟨[], [], 0⟩
theorem qNew (hb : Below w0.heap.size w0 w) (hX : ∀ b, X b → b < w.heap.size) :
    Calls Try.prog 10 #[] w fun e w' => ∃ r, e = .returned (.pointer (some ⟨r, 0, none⟩)) ∧ PGo w0 w w' X r nz := by
  have hB : Below w.heap.size w (w.alloc (.cells #[.slice none 0 0, .int .i64 0, .nilFunc] 57)) := (Below.refl _ _).alloc (Nat.le_refl _) _
  have hz : (w.alloc (.cells #[.slice none 0 0, .int .i64 0, .nilFunc] 57)).heap.size = w.heap.size + 1 := by simp
  have HF : Hid (PGo w0 w (w.alloc (.cells #[.slice none 0 0, .int .i64 0, .nilFunc] 57)) X w.heap.size nz) := hid
    ⟨⟨⟨fun b => b = w.heap.size, ⟨fun _ => False, _, _, ⟨own.new w _ _, rOwn_nil _, .inl ⟨rfl, rfl⟩, by simp [Value.ownBlock], fun e => e, fun b _ e => e, fun b e => e.elim, by simp, by simp, by simp⟩, rfl, fun b e => by simp [Value.ownBlock] at e, fun b e => e.elim, fun b e => by omega⟩, fun b e => ⟨by have := hb.size; omega, fun y => by have := hX b y; omega⟩⟩, hb.trans (hB.mono hb.size), fun b y => by have := hX b y; omega⟩, Same.of_below hX hB, hB.size⟩
  clear hB hz hb hX
  go_enter Try.func10, Try.ntmps10
  go_wp2
  go_ret
  exact ⟨_, rfl, HF.out⟩
def ClonePost (w : World) (L : List Lt) (e : Ending) (w' : World) : Prop := ∃ a cap, e = .returned (.slice a L.length cap) ∧ RMid plTy w w' (.slice a L.length cap) L
set_option maxHeartbeats 4000000 in
theorem clone_any {v : Value} {L : List Lt} (h : RAt plTy w v L) (hL : L.length ≤ 1000000) :
    Calls Try.prog 33 #[v] w (ClonePost w L) := by
  have hr := h
  obtain ⟨ao, cap, rfl, hlc, hnone, _, _⟩ := h
  cases ao with
  | none =>
    have h0 : cap = 0 := hnone rfl
    subst h0
    have hl0 : L = [] := List.length_eq_zero_iff.1 (by omega)
    subst hl0
    have HF : Hid (ClonePost w [] (.returned (.slice none 0 0)) w) := hid ⟨none, 0, rfl, rMid_nil w⟩
    clear hr hlc hnone
    have hq : ∀ wx, Sem.run Try.prog (binOp .eql 46 (.slice none 0 0) (.slice none 0 0)) wx = .ok (.bool true) wx := fun wx => by rfl
    simp only [List.length_nil]
    go_enter Try.func33, Try.ntmps33
    go_wp2
    go_ret
    exact HF.out
  | some ad =>
    have hb : Below w.heap.size w (w.alloc (.cells #[] 37)) := (Below.refl _ _).alloc (Nat.le_refl _) _
    have hm : RMid plTy w (w.alloc (.cells #[] 37)) (.slice (some ⟨w.heap.size, 0, none⟩) 0 0) [] := rMid_empty hb (own.new w _ _) (Nat.le_refl _)
    obtain ⟨a1, c1, w1, e1, m1, _⟩ := hm.app plTy_ok 46 (hr.below hb) (by simp; omega)
    rw [show ([] : List Lt).length + L.length = L.length by simp] at e1 m1
    rw [List.nil_append] at m1
    have HF : Hid (ClonePost w L (.returned (.slice a1 L.length c1)) w1) := hid ⟨a1, c1, rfl, m1⟩
    have E1 := hid e1
    have hq : ∀ wx, Sem.run Try.prog (binOp .eql 46 (.slice (some ad) L.length cap) (.slice none 0 0)) wx = .ok (.bool false) wx := fun wx => by rfl
    clear e1 m1 hm hb hr hnone
    generalize L.length = n at *
    go_enter Try.func33, Try.ntmps33
    go_wp2_with (at_builtin; refine wpList_append_at E1.out (by with_reducible rfl) rfl _ _ rfl rfl rfl rfl ?_)
    go_ret
    exact HF.out
theorem qFlight (h : PHas w0 w X r s) :
    Calls Try.prog 18 #[.pointer (some ⟨r, 0, none⟩)] w fun e w' => ClonePost w s.L e w' ∧ PGo w0 w w' X r s := by
  obtain ⟨T, lv, fv, hp⟩ := h.net
  have HC := hid (clone_any hp.row.rAt (by have := hp.ll; omega))
  have c0 : w.cell? ⟨r, 0, none⟩ = some lv := (hp.head.cell 0).trans rfl
  have HG : Hid (∀ e w', ClonePost w s.L e w' → PGo w0 w w' X r s) := hid (fun e w' hc => by
    obtain ⟨a, c, rfl, hm⟩ := hc
    exact h.go hm.below)
  obtain ⟨ao, cap, rfl, _⟩ := hp.row.slice
  clear h hp
  generalize s.L = L at *
  go_enter Try.func18, Try.ntmps18
  go_wp2_with (go_at_call 33; (with_reducible refine HC.out.mono ?_); rintro e w1 hc; have HGo := hid (HG.out _ _ hc); have HCl := hid hc; obtain ⟨a1, c1, rfl, -⟩ := hc)
  go_ret
  exact ⟨HCl.out, HGo.out⟩
end
end Go.Proofs.Ytclkhkoappjgdaa
