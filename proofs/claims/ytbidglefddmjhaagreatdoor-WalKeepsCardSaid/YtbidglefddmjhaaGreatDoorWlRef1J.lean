import Derived.Test.YtbidglefddmjhaaGreatDoorWlRef0J
import Derived.Test.YtbidglefddmjhaaGreatDoorWlOpen0J
import Derived.Test.YtbidglefddmjhaaGreatDoorMq2J
import Derived.Test.YtbidglefddmjhaaGreatDoorMq6J
import Derived.Test.YtbidglefddmjhaaGreatDoorMqbJ
/-
  LAYER 3 (wal), THE DOCUMENT's ANSWER: Open of a new disk; begin.
-/
namespace Go.Proofs.YtbidglefddmjhaaGreatDoor
open Go.RowKit Go.Maps
set_option linter.unusedVariables false
set_option maxRecDepth 100000

def RefLog (w : World) (q r : Nat) (g : Hd) (v : Value) : Prop := own w q #[.pointer (some ⟨r, 0, none⟩), .int .i64 g.term, .int .i64 g.vote, v] 54
set_option maxHeartbeats 4000000 in
theorem numbers0_any {w : World} {q r : Nat} {g : Hd} {v : Value} (hq : RefLog w q r g v) {S : Nat → Prop} {s : Dk} (h : RefIs w S r s) (hL : s.L = []) :
    Calls Tryz.prog 18 #[.pointer (some ⟨q, 0, none⟩)] w fun e w' => e = .returned (.slice none 0 0) ∧ Below w.heap.size w w' := by
  obtain ⟨v', h⟩ := h
  have c0 := (hq.cell 0).trans rfl
  have d0 := h.head.cell 0
  simp at d0
  obtain ⟨ao, cap, rfl, -, -, -⟩ := h.row.slice
  rw [hL] at d0
  clear hq h
  go_enter Tryz.func18, Tryz.ntmps18
  go_wp2
  refine wp_loop_rounds 1 ?_
  rw [rounds_succ]
  go_wp2
  go_ret
  exact ⟨rfl, Below.refl _ _⟩
def RefOpenPost (w : World) (S : Nat → Prop) (r : Nat) (s' : Dk) (e : Ending) (w' : World) : Prop :=
  ∃ q S', e = .returned (.tuple #[.pointer (some ⟨q, 0, none⟩), .int .i64 0]) ∧ RefIs w' S' r s' ∧ (∀ b, S' b → S b ∨ w.heap.size ≤ b) ∧ ¬ S' q ∧ RefLog w' q r ⟨0, 0⟩ (.slice none 0 0) ∧ Chg S w w' ∧ w.heap.size ≤ q
set_option maxHeartbeats 8000000 in
theorem refOpen0_any {w : World} {S : Nat → Prop} {r : Nat} {s : Dk} (h : RefIs w S r s) (hL : s.L = []) (hd : s.dead = false) (hok : (open0 s).2 = 0) :
    Calls Tryz.prog 30 #[.pointer (some ⟨r, 0, none⟩)] w (RefOpenPost w S r (open0 s).1) := by
  have hlt := refIs_lt h
  have hb0 : Below w.heap.size w (w.alloc (.cells #[.pointer (some ⟨r, 0, none⟩), .int .i64 0, .int .i64 0, .slice none 0 0] 54)) := (Below.refl _ _).alloc (Nat.le_refl _) _
  have hbx : RefLog (w.alloc (.cells #[.pointer (some ⟨r, 0, none⟩), .int .i64 0, .int .i64 0, .slice none 0 0] 54)) w.heap.size r ⟨0, 0⟩ (.slice none 0 0) := own.new w _ _
  have g3 : (w.alloc (.cells #[.pointer (some ⟨r, 0, none⟩), .int .i64 0, .int .i64 0, .slice none 0 0] 54)).cell? ⟨r, 3, none⟩ = some (.bool false) := by
    obtain ⟨v, h1⟩ := h.below hb0
    have := h1.head.cell 3
    rw [hd] at this
    exact this.trans rfl
  have hz : (w.alloc (.cells #[.pointer (some ⟨r, 0, none⟩), .int .i64 0, .int .i64 0, .slice none 0 0] 54)).heap.size = w.heap.size + 1 := by simp
  have HN := hid (numbers0_any hbx (h.below hb0) hL)
  have HF : Hid (∀ wx, Calls Tryz.prog 79 #[.agg #[.int .i64 1, .int .i64 0, .int .i64 0, .int .i64 0, .int .i64 0, .int .i64 0, .string ⟨#[]⟩]] wx fun e w' => e = .returned (.string (mk (rcL (.hard ⟨0, 0⟩)))) ∧ Below wx.heap.size wx w') :=
    hid (fun wx => refFrameHard_any ⟨0, 0⟩ ⟨0, 0, 0, []⟩ ⟨by show _ ≤ (0 : Int); omega, by show (0 : Int) ≤ _; omega⟩ ⟨by show _ ≤ (0 : Int); omega, by show (0 : Int) ≤ _; omega⟩ wx)
  have hs2 : (rcL (.hard ⟨0, 0⟩)).length ≤ 100 := by
    have := encs_length [1, 0, 0] (by intro m hm; simp at hm; rcases hm with rfl | rfl <;> exact ⟨by omega, by omega⟩)
    unfold rcL
    rw [frameL_length]
    simp only [payL]
    simp at this
    omega
  have hw1 : (⟨#[119, 49]⟩ : ByteArray).data.toList = segN 1 := by rw [show (1 : Int) = ((1 : Nat) : Int) from rfl, segN_nat, Lib.decDigits_one (by omega)]; rfl
  have HL := hid (fun wx (hx : Below (w.heap.size + 1) (w.alloc (.cells #[.pointer (some ⟨r, 0, none⟩), .int .i64 0, .int .i64 0, .slice none 0 0] 54)) wx) => (show Calls Tryz.prog 78 #[.pointer (some ⟨w.heap.size, 0, none⟩), .string ⟨#[119, 49]⟩, .string (mk (rcL (.hard ⟨0, 0⟩)))] wx (fun e w' => e = .returned (.int .i64 0) ∧ RefOpenPost w S r (open0 s).1 (.returned (.tuple #[.pointer (some ⟨w.heap.size, 0, none⟩), .int .i64 0])) w') from by
    have hbw := hb0.trans (hx.mono (by omega))
    have hxs := hx.size
    rw [hz] at hxs
    have hbx2 : RefLog wx w.heap.size r ⟨0, 0⟩ (.slice none 0 0) := hbx.same (hx.block _ (by omega))
    have hnS : ¬ S w.heap.size := fun e => by have := hlt _ e; omega
    refine (lay_any (h.below hbw) ⟨by omega, hnS, (hbx2.cell 0).trans rfl⟩ ⟨#[119, 49]⟩ (mk (rcL (.hard ⟨0, 0⟩))) (by decide) (by rw [mk_size]; omega)).mono ?_
    rintro e w' ⟨he, hR, hc⟩
    rw [hw1, mk_data] at he hR
    have h0 : (wrL s (segN 1) (rcL (.hard ⟨0, 0⟩))).2 = 0 := hok
    rw [h0] at he
    refine ⟨he, w.heap.size, _, rfl, hR, fun b hb => ?_, fun e => ?_, hbx2.same (hc.block _ (by omega) hnS), (Chg.of_below hbw).trans hc (fun b hb => .inl hb), Nat.le_refl _⟩
    · rcases hb with hb | hb
      · exact .inl hb
      · exact .inr (by omega)
    · rcases e with e | e
      · exact hnS e
      · omega))
  have HZ := hid hz
  clear h hL hd hok hb0 hbx hz hs2 hw1 hlt
  generalize mk (rcL (.hard ⟨0, 0⟩)) = R at *
  generalize (open0 s).1 = s' at *
  go_enter Tryz.func30, Tryz.ntmps30
  go_wp2_with (first
    | (go_at_call 18; (with_reducible refine HN.out.mono ?_); rintro e w1 ⟨rfl, hb1⟩; rw [HZ.out] at hb1)
    | (go_at_call 79; (with_reducible refine (HF.out _).mono ?_); rintro e w2 ⟨rfl, hb2⟩; have hb12 := hb1.trans (hb2.mono (by have := hb1.size; rw [HZ.out] at this; exact this)))
    | (go_at_call 78; (with_reducible refine (HL.out _ hb12).mono ?_); rintro e w3 ⟨rfl, hp3⟩; have HP3 := hid hp3; clear hp3))
  go_ret2
  exact HP3.out
end Go.Proofs.YtbidglefddmjhaaGreatDoor

