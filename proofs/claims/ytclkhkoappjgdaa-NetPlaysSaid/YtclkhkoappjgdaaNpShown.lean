/-
  LAYER 6 (net): shown.
-/
import Derived.Test.YtclkhkoappjgdaaNpFlight
import Derived.Test.YtclkhkoappjgdaaNtModelA
import Derived.Deep.DeepCutAuto
namespace Go.Proofs.Ytclkhkoappjgdaa
open Go.RowKit Go.Maps
set_option linter.unusedVariables false
set_option maxRecDepth 100000

abbrev LA : Lt := ⟨1, 2, ⟨#[97]⟩⟩
abbrev LB : Lt := ⟨1, 3, ⟨#[98]⟩⟩
abbrev noX : Nat → Prop := fun _ => False
theorem i64s (n : Int) (h0 : -1000 ≤ n) (h1 : n ≤ 1000) : I64' n := ⟨by omega, by omega⟩
theorem letters3 {w w' : World} {v : Value} {a b c : Lt} (h : RMid plTy w w' v [a, b, c]) : ∃ g cap, v = .slice (some ⟨g, 0, none⟩) 3 cap ∧ w'.cell? ⟨g, 0, none⟩ = some (.int .i64 a.fr) ∧ w'.cell? ⟨g, 1, none⟩ = some (.int .i64 a.to_) ∧ w'.cell? ⟨g, 2, none⟩ = some (.string a.dt) ∧ w'.cell? ⟨g, 5, none⟩ = some (.string b.dt) ∧ w'.cell? ⟨g, 8, none⟩ = some (.string c.dt) := by
  have hr := h.row
  obtain ⟨ao, cap, rfl, _⟩ := hr.slice
  obtain ⟨g, rfl, _, hc, _⟩ := hr.at plTy_ok (by simp)
  exact ⟨g, cap, rfl, hc 0 a rfl 0 _ rfl, hc 0 a rfl 1 _ rfl, hc 0 a rfl 2 _ rfl, hc 1 b rfl 2 _ rfl, hc 2 c rfl 2 _ rfl⟩
def ShownPost (w : World) (e : Ending) (w' : World) : Prop := e = .returned (.bool true) ∧ Below w.heap.size w w'
set_option maxHeartbeats 8000000 in
theorem shown_any (w : World) : Calls Try.prog 8 #[] w (ShownPost w) := by
  have HN := hid (qNew (w0 := w) (X := noX) (Below.refl _ w) (fun _ e => e.elim))
  have e1 : nz.send LA = ⟨[LA], [], 0⟩ := rfl
  have e2 : (⟨[LA], [], 0⟩ : Nt).send LB = ⟨[LA, LB], [], 0⟩ := rfl
  have e3 : twiceN ⟨[LA, LB], [], 0⟩ 0 = (⟨[LA, LB, LA], [], 0⟩, true) := rfl
  have e4 : lateN ⟨[LA, LB, LA], [], 0⟩ 0 = (⟨[LB, LA, LA], [], 0⟩, true) := rfl
  have e5 : takeN ⟨[LB, LA, LA], [1], 0⟩ 0 = (⟨[LB, LA, LA], [1], 0⟩, zl, false) := rfl
  have e6 : (⟨[LB, LA, LA], [1], 0⟩ : Nt).apart 2 3 = false := rfl
  have e7 : takeN ⟨[LB, LA, LA], [], 0⟩ 0 = (⟨[LA, LA], [], 0⟩, LB, true) := rfl
  have e8 : loseN ⟨[LA, LA], [], 0⟩ 0 = (⟨[LA], [], 1⟩, true) := rfl
  have H1 : Hid (∀ wx r, PHas w wx noX r nz → Calls Try.prog 12 #[.pointer (some ⟨r, 0, none⟩), .int .i64 1, .int .i64 2, .string ⟨#[97]⟩] wx fun e w' => e = .returned (.tuple #[]) ∧ PHas w w' noX r ⟨[LA], [], 0⟩) := hid (fun wx r h => (qSend h (by simp) (i64s 1 (by omega) (by omega)) (i64s 2 (by omega) (by omega))).mono fun e w' ⟨he, hg⟩ => ⟨he, hg.has⟩)
  have H2 : Hid (∀ wx r, PHas w wx noX r ⟨[LA], [], 0⟩ → Calls Try.prog 12 #[.pointer (some ⟨r, 0, none⟩), .int .i64 1, .int .i64 3, .string ⟨#[98]⟩] wx fun e w' => e = .returned (.tuple #[]) ∧ PHas w w' noX r ⟨[LA, LB], [], 0⟩) := hid (fun wx r h => (qSend h (by simp) (i64s 1 (by omega) (by omega)) (i64s 3 (by omega) (by omega))).mono fun e w' ⟨he, hg⟩ => ⟨he, hg.has⟩)
  have H3 : Hid (∀ wx r, PHas w wx noX r ⟨[LA, LB], [], 0⟩ → Calls Try.prog 25 #[.pointer (some ⟨r, 0, none⟩), .int .i64 0] wx fun e w' => e = .returned (.bool true) ∧ PHas w w' noX r ⟨[LA, LB, LA], [], 0⟩) := hid (fun wx r h => (qTwice h (by simp) 0).mono fun e w' ⟨he, hg⟩ => ⟨by rw [e3] at he; exact he, by rw [e3] at hg; exact hg.has⟩)
  have H4 : Hid (∀ wx r, PHas w wx noX r ⟨[LA, LB, LA], [], 0⟩ → Calls Try.prog 24 #[.pointer (some ⟨r, 0, none⟩), .int .i64 0] wx fun e w' => e = .returned (.bool true) ∧ PHas w w' noX r ⟨[LB, LA, LA], [], 0⟩) := hid (fun wx r h => (qLate h (by simp) 0).mono fun e w' ⟨he, hg⟩ => ⟨by rw [e4] at he; exact he, by rw [e4] at hg; exact hg.has⟩)
  have H5 : Hid (∀ wx r, PHas w wx noX r ⟨[LB, LA, LA], [], 0⟩ → Calls Try.prog 18 #[.pointer (some ⟨r, 0, none⟩)] wx fun e w' => (∃ g cap, e = .returned (.slice (some ⟨g, 0, none⟩) 3 cap) ∧ w'.cell? ⟨g, 0, none⟩ = some (.int .i64 1) ∧ w'.cell? ⟨g, 1, none⟩ = some (.int .i64 3) ∧ w'.cell? ⟨g, 2, none⟩ = some (.string ⟨#[98]⟩) ∧ w'.cell? ⟨g, 5, none⟩ = some (.string ⟨#[97]⟩) ∧ w'.cell? ⟨g, 8, none⟩ = some (.string ⟨#[97]⟩)) ∧ PHas w w' noX r ⟨[LB, LA, LA], [], 0⟩) := hid (fun wx r h => (qFlight h).mono fun e w' ⟨⟨a, cap, he, hm⟩, hg⟩ => by
    obtain ⟨g, cap', hv, hc⟩ := letters3 hm
    refine ⟨⟨g, cap', by rw [he]; exact congrArg _ hv, hc⟩, hg.has⟩)
  have H6 : Hid (∀ wx r, PHas w wx noX r ⟨[LB, LA, LA], [], 0⟩ → Calls Try.prog 21 #[.pointer (some ⟨r, 0, none⟩), .slice (some ⟨wx.heap.size, 0, none⟩) 1 1] (wx.alloc (.cells #[.int .i64 1] 3)) fun e w' => e = .returned (.tuple #[]) ∧ PHas w w' noX r ⟨[LB, LA, LA], [1], 0⟩) := hid (fun wx r h => (qSplit (h.later ((Below.refl _ _).alloc (Nat.le_refl _) _)) (nums_lit wx [1] 3 1 rfl (by unfold maxLen; omega)) (fun n hn => by simp at hn; subst hn; exact i64s 1 (by omega) (by omega)) (by simp)).mono fun e w' ⟨he, hg⟩ => ⟨he, hg.has⟩)
  have H7 : Hid (∀ wx r, PHas w wx noX r ⟨[LB, LA, LA], [1], 0⟩ → Calls Try.prog 22 #[.pointer (some ⟨r, 0, none⟩), .int .i64 0] wx fun e w' => e = .returned (.tuple #[.agg #[.int .i64 0, .int .i64 0, .string ⟨#[]⟩], .bool false]) ∧ PHas w w' noX r ⟨[LB, LA, LA], [1], 0⟩) := hid (fun wx r h => (qTake h 0).mono fun e w' ⟨he, hg⟩ => ⟨by rw [e5] at he; exact he, by rw [e5] at hg; exact hg.has⟩)
  have H8 : Hid (∀ wx r o, PHas w wx noX r ⟨[LB, LA, LA], [1], 0⟩ → Calls Try.prog 19 #[.pointer (some ⟨r, 0, none⟩), .int .i64 2, .int .i64 3] (wx.alloc o) fun e w' => e = .returned (.bool false) ∧ PHas w w' noX r ⟨[LB, LA, LA], [1], 0⟩) := hid (fun wx r o h => (qApart (h.later ((Below.refl _ _).alloc (Nat.le_refl _) o)) (i64s 2 (by omega) (by omega)) (i64s 3 (by omega) (by omega))).mono fun e w' ⟨he, hg⟩ => ⟨by rw [e6] at he; exact he, hg.has⟩)
  have H9 : Hid (∀ wx r, PHas w wx noX r ⟨[LB, LA, LA], [1], 0⟩ → Calls Try.prog 23 #[.pointer (some ⟨r, 0, none⟩)] wx fun e w' => e = .returned (.tuple #[]) ∧ PHas w w' noX r ⟨[LB, LA, LA], [], 0⟩) := hid (fun wx r h => (qWhole h).mono fun e w' ⟨he, hg⟩ => ⟨he, hg.has⟩)
  have H10 : Hid (∀ wx r, PHas w wx noX r ⟨[LB, LA, LA], [], 0⟩ → Calls Try.prog 22 #[.pointer (some ⟨r, 0, none⟩), .int .i64 0] wx fun e w' => e = .returned (.tuple #[.agg #[.int .i64 1, .int .i64 3, .string ⟨#[98]⟩], .bool true]) ∧ PHas w w' noX r ⟨[LA, LA], [], 0⟩) := hid (fun wx r h => (qTake h 0).mono fun e w' ⟨he, hg⟩ => ⟨by rw [e7] at he; exact he, by rw [e7] at hg; exact hg.has⟩)
  have H11 : Hid (∀ wx r, PHas w wx noX r ⟨[LA, LA], [], 0⟩ → Calls Try.prog 26 #[.pointer (some ⟨r, 0, none⟩), .int .i64 0] (wx.alloc (pl1 LB)) fun e w' => e = .returned (.bool true) ∧ w'.cell? ⟨wx.heap.size, 2, none⟩ = some (.string ⟨#[98]⟩) ∧ PHas w w' noX r ⟨[LA], [], 1⟩) := hid (fun wx r h => by
    have hb : Below wx.heap.size wx (wx.alloc (pl1 LB)) := (Below.refl _ _).alloc (Nat.le_refl _) _
    have h' : PHas w (wx.alloc (pl1 LB)) (fun b => b = wx.heap.size) r ⟨[LA, LA], [], 0⟩ := h.turn (Chg.of_below hb) (h.below.trans (hb.mono h.below.size)) (fun b y => ⟨.inr (by omega), by subst y; simp⟩)
    refine (qLose h' (by simp) 0).mono fun e w' ⟨he, hg⟩ => ?_
    rw [e8] at he hg
    exact ⟨he, ((own.new wx _ 37).same (hg.same _ rfl)).cell 2 |>.trans rfl, hg.has.mono (fun _ y => y.elim)⟩)
  have H12 : Hid (∀ wx r, PHas w wx noX r ⟨[LA], [], 1⟩ → Calls Try.prog 17 #[.pointer (some ⟨r, 0, none⟩)] wx fun e w' => e = .returned (.int .i64 1) ∧ wx = w') := hid (fun wx r h => qLost h)
  have HF : Hid (∀ wx r, PHas w wx noX r ⟨[LA], [], 1⟩ → ShownPost w (.returned (.bool true)) wx) := hid (fun wx r h => ⟨rfl, h.below⟩)
  clear e1 e2 e3 e4 e5 e6 e7 e8
  unfold pl1 at *
  go_enter Try.func8, Try.ntmps8
  go_wp2_with (first
    | (go_at_call 10; (with_reducible refine HN.out.mono ?_); rintro e w1 ⟨r, rfl, hh0⟩; have hh := hid hh0.has; clear hh0)
    | (go_at_call 12; (with_reducible refine (H1.out _ _ hh.out).mono ?_); rintro e w2 ⟨rfl, hh0⟩; have hh := hid hh0; clear hh0)
    | (go_at_call 12; (with_reducible refine (H2.out _ _ hh.out).mono ?_); rintro e w2 ⟨rfl, hh0⟩; have hh := hid hh0; clear hh0)
    | (go_at_call 25; (with_reducible refine (H3.out _ _ hh.out).mono ?_); rintro e w2 ⟨rfl, hh0⟩; have hh := hid hh0; clear hh0)
    | (go_at_call 24; (with_reducible refine (H4.out _ _ hh.out).mono ?_); rintro e w2 ⟨rfl, hh0⟩; have hh := hid hh0; clear hh0)
    | (go_at_call 18; (with_reducible refine (H5.out _ _ hh.out).mono ?_); rintro e w2 ⟨⟨g, cap, rfl, c0, c1, c2, c5, c8⟩, hh0⟩; have hh := hid hh0; clear hh0)
    | (go_at_call 21; (with_reducible refine (H6.out _ _ hh.out).mono ?_); rintro e w2 ⟨rfl, hh0⟩; have hh := hid hh0; clear hh0)
    | (go_at_call 22; (with_reducible refine (H7.out _ _ hh.out).mono ?_); rintro e w2 ⟨rfl, hh0⟩; have hh := hid hh0; clear hh0)
    | (go_at_call 19; (with_reducible refine (H8.out _ _ _ hh.out).mono ?_); rintro e w2 ⟨rfl, hh0⟩; have hh := hid hh0; clear hh0)
    | (go_at_call 23; (with_reducible refine (H9.out _ _ hh.out).mono ?_); rintro e w2 ⟨rfl, hh0⟩; have hh := hid hh0; clear hh0)
    | (go_at_call 22; (with_reducible refine (H10.out _ _ hh.out).mono ?_); rintro e w2 ⟨rfl, hh0⟩; have hh := hid hh0; clear hh0)
    | (go_at_call 26; (with_reducible refine (H11.out _ _ hh.out).mono ?_); rintro e w2 ⟨rfl, d2, hh0⟩; have hh := hid hh0; clear hh0)
    | (go_at_call 17; (with_reducible refine (H12.out _ _ hh.out).mono ?_); rintro e w2 ⟨rfl, rfl⟩))
  go_ret
  exact HF.out _ _ hh.out
end Go.Proofs.Ytclkhkoappjgdaa
