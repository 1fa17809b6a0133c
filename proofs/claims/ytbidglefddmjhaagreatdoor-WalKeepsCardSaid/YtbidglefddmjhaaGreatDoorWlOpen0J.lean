import Derived.Test.YtbidglefddmjhaaGreatDoorWlResetJ
import Derived.Test.YtbidglefddmjhaaGreatDoorMq0J
/-
  LAYER 3 (wal): Open, of a disk without segments, where there is room for the first one.
-/
namespace Go.Proofs.YtbidglefddmjhaaGreatDoor
open Go.RowKit Go.Maps
set_option linter.unusedVariables false
set_option maxRecDepth 100000

def g0 : Lg := ⟨⟨0, 0⟩, []⟩
theorem g0_ok : g0.Ok := ⟨⟨by decide, ⟨by decide, by decide⟩, ⟨by decide, by decide⟩⟩, fun k hk => by simp [g0] at hk, fun e he => by simp [g0] at he⟩
def open0 (s : Dk) : Dk × Int := wrL s (segN 1) (rcL (.hard ⟨0, 0⟩))
def OpenPost (w : World) (S : Nat → Prop) (a : Nat) (s' : Dk) (e : Ending) (w' : World) : Prop :=
  ∃ p T, e = .returned (.tuple #[.pointer (some ⟨p, 0, none⟩), .int .i64 0]) ∧ LogAt w' T p a s' g0 ∧ (∀ b, T b → S b ∨ w.heap.size ≤ b) ∧ Chg S w w' ∧ w.heap.size ≤ p
set_option maxHeartbeats 8000000 in
theorem open0_any {w : World} {S : Nat → Prop} {a : Nat} {s : Dk} {B0 : Nat} (h : DiskIs w S a s) (hg : Glob w B0) (hB0 : B0 ≤ w.heap.size) (hseg : segsL s.L = []) (hok : (open0 s).2 = 0) :
    Calls Tryz.prog 29 #[.pointer (some ⟨a, 0, none⟩)] w (OpenPost w S a (open0 s).1) := by
  have hlt := diskIs_lt h
  have hbA : Below w.heap.size w (w.alloc (.cells #[.pointer (some ⟨a, 0, none⟩), .int .i64 0, .int .i64 0, .slice none 0 0] 108)) := (Below.refl _ _).alloc (Nat.le_refl _) _
  have hLA : LogAt (w.alloc (.cells #[.pointer (some ⟨a, 0, none⟩), .int .i64 0, .int .i64 0, .slice none 0 0] 108)) (fun b => S b ∨ b = w.heap.size) w.heap.size a s g0 := by
    refine ⟨⟨S, .slice none 0 0, h.below hbA, ⟨own.new w _ _, EntRow.none _ _, (fun e => by cases e), Nat.zero_le _⟩, (fun e => by have := hlt _ e; omega), (fun b e => by cases e), fun b hb => .inl hb, .inr rfl, (fun b e => by cases e)⟩, fun b hb => ?_, g0_ok, by simp [g0]⟩
    rcases hb with hb | hb
    · have := hlt b hb; simp; omega
    · rw [hb]; simp
  have hR : RsAt (w.alloc (.cells #[.pointer (some ⟨a, 0, none⟩), .int .i64 0, .int .i64 0, .slice none 0 0] 108)) (fun b => S b ∨ b = w.heap.size) w.heap.size a s g0 B0 (w.alloc (.cells #[.pointer (some ⟨a, 0, none⟩), .int .i64 0, .int .i64 0, .slice none 0 0] 108)) := ⟨hLA, Below.refl _ _, hg.below hbA hB0, by have := hbA.size; omega⟩
  have hc0 := (own.new w #[.pointer (some ⟨a, 0, none⟩), .int .i64 0, .int .i64 0, .slice none 0 0] 108).cell 0
  have HSeg := hid (segments_any (p := w.heap.size) (h.below hbA) (hc0.trans rfl) hR.glob hR.size)
  have HC := hid (fun wx (hx : RsAt (w.alloc (.cells #[.pointer (some ⟨a, 0, none⟩), .int .i64 0, .int .i64 0, .slice none 0 0] 108)) (fun b => S b ∨ b = w.heap.size) w.heap.size a s g0 B0 wx) => (show wx.cell? ⟨w.heap.size, 1, none⟩ = some (.int .i64 0) ∧ wx.cell? ⟨w.heap.size, 2, none⟩ = some (.int .i64 0) from ⟨hx.log.cells.2.1, hx.log.cells.2.2.1⟩))
  have HSn := hid (fun wx (hx : RsAt (w.alloc (.cells #[.pointer (some ⟨a, 0, none⟩), .int .i64 0, .int .i64 0, .slice none 0 0] 108)) (fun b => S b ∨ b = w.heap.size) w.heap.size a s g0 B0 wx) => segName_any 1 wx hx.glob ⟨by omega, by omega⟩)
  have HHr : Hid (∀ wx, RsAt (w.alloc (.cells #[.pointer (some ⟨a, 0, none⟩), .int .i64 0, .int .i64 0, .slice none 0 0] 108)) (fun b => S b ∨ b = w.heap.size) w.heap.size a s g0 B0 wx → Calls Tryz.prog 76 #[.agg #[.int .i64 0, .int .i64 0]] wx fun e w' => e = .returned (.string (mk (rcL (.hard ⟨0, 0⟩)))) ∧ Below wx.heap.size wx w') := hid (fun wx hx => hardRec_any ⟨0, 0⟩ wx hx.glob hx.size ⟨by show _ ≤ (0 : Int); omega, by show (0 : Int) ≤ _; omega⟩ ⟨by show _ ≤ (0 : Int); omega, by show (0 : Int) ≤ _; omega⟩)
  have hs1 : (segN 1).length ≤ 24 := by
    have := Lib.itoa_length_le 1 (by omega) (by omega)
    unfold segN
    simp
    omega
  have hs2 : (rcL (.hard ⟨0, 0⟩)).length ≤ 100 := by
    have := encs_length [1, 0, 0] (by intro m hm; simp at hm; rcases hm with rfl | rfl <;> exact ⟨by omega, by omega⟩)
    unfold rcL
    rw [frameL_length]
    simp only [payL]
    simp at this
    omega
  have HWr := hid (fun wx (hx : RsAt (w.alloc (.cells #[.pointer (some ⟨a, 0, none⟩), .int .i64 0, .int .i64 0, .slice none 0 0] 108)) (fun b => S b ∨ b = w.heap.size) w.heap.size a s g0 B0 wx) => (show Calls Tryz.prog 74 #[.pointer (some ⟨w.heap.size, 0, none⟩), .string (mk (segN 1)), .string (mk (rcL (.hard ⟨0, 0⟩)))] wx fun e wy => e = .returned (.int .i64 0) ∧ OpenPost w S a (open0 s).1 (.returned (.tuple #[.pointer (some ⟨w.heap.size, 0, none⟩), .int .i64 0])) wy from by
    refine (hx.log.run.write (fun b hb => ?_) (mk (segN 1)) (mk (rcL (.hard ⟨0, 0⟩))) (by rw [mk_size]; unfold maxLen; omega) (by rw [mk_size]; omega)).mono ?_
    · have := hx.from_.size
      rcases hb with hb | hb
      · have := hlt b hb; simp at *; omega
      · rw [hb]; simp at *; omega
    · rintro e wy ⟨he, hrun⟩
      have h0 : (wrL s (mk (segN 1)).data.toList (mk (rcL (.hard ⟨0, 0⟩))).data.toList).2 = 0 := hok
      rw [h0] at he
      have hfw : Below w.heap.size w wx := hbA.trans (hx.from_.mono hbA.size)
      refine ⟨he, w.heap.size, _, rfl, hrun.1, fun b hb => ?_, ?_, Nat.le_refl _⟩
      · have := hfw.size
        rcases hb with (hb | hb) | hb
        · exact .inl hb
        · exact .inr (by omega)
        · exact .inr (by omega)
      · exact (Chg.of_below hfw).trans hrun.2 (fun b hb => hb.imp id (fun e => by omega))))
  have HR := hid hR
  have HN := hid hseg
  clear h hg hok hlt hbA hLA hR hc0 hseg hs1 hs2
  generalize mk (segN 1) = sn at *
  generalize mk (rcL (.hard ⟨0, 0⟩)) = hr at *
  generalize (open0 s).1 = s' at *
  unfold SegsPost at HSeg
  go_enter Tryz.func29, Tryz.ntmps29
  go_wp2_with (go_at_call 19; (with_reducible refine HSeg.out.mono ?_); rintro e w1 ⟨v1, rfl, hv1, hb1⟩; rw [HN.out] at hv1; obtain ⟨a1, cap1, rfl⟩ := names_slice hv1; clear hv1; have HR := hid (HR.out.below hb1); obtain ⟨x1, x2⟩ := HC.out _ HR.out)
  have HR := hid (HR.out.below (Below.drew (Below.refl _ _)))
  go_region_with (first
    | (go_at_call 75; (with_reducible refine (HSn.out _ HR.out).mono ?_); rintro e w2 ⟨rfl, hb2⟩; have HR := hid (HR.out.below hb2); obtain ⟨y1, y2⟩ := HC.out _ HR.out; clear hb2)
    | (go_at_call 76; (with_reducible refine (HHr.out _ HR.out).mono ?_); rintro e w2 ⟨rfl, hb2⟩; have HR := hid (HR.out.below hb2); obtain ⟨y1, y2⟩ := HC.out _ HR.out; clear hb2)
    | (go_at_call 74; (with_reducible refine (HWr.out _ HR.out).mono ?_); rintro e w3 ⟨rfl, hp3⟩; have HP3 := hid hp3; clear hp3))
  all_goals
    go_wp2
    refine wp_loop_rounds 1 ?_
    rw [rounds_succ]
    go_wp2
    go_ret2
    exact HP3.out
end Go.Proofs.YtbidglefddmjhaaGreatDoor

