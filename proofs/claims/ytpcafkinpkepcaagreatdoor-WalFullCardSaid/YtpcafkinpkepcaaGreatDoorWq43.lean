import Derived.Test.YtpcafkinpkepcaaGreatDoorWq42
import Derived.Test.YtpcafkinpkepcaaGreatDoorWq12
import Derived.Test.YtpcafkinpkepcaaGreatDoorWq38
import Derived.Test.YtpcafkinpkepcaaGreatDoorWq23
import Derived.Test.YtpcafkinpkepcaaGreatDoorWq36
import Derived.Test.YtpcafkinpkepcaaGreatDoorWq40
/-
  Wq43: WlOpen0, WlRef1, in one text.
-/
/-
  LAYER 3 (wal): Open, of a disk without segments, where there is room for the first one.
-/
namespace Go.Proofs.YtpcafkinpkepcaaGreatDoor
open Go.RowKit Go.Maps
set_option linter.unusedVariables false
set_option maxRecDepth 100000

def g0 : Lg := ⟨⟨0, 0⟩, []⟩
theorem g0_ok : g0.Ok := ⟨⟨by decide, ⟨by decide, by decide⟩, ⟨by decide, by decide⟩⟩, fun k hk => by simp [g0] at hk, fun e he => by simp [g0] at he⟩
def open0 (s : Dk) : Dk × Int := wrL s (segN 1) (rcL (.hard ⟨0, 0⟩))
def OpenPost (w : World) (S : Nat → Prop) (a : Nat) (s' : Dk) (e : Ending) (w' : World) : Prop :=
  ∃ p T, e = .returned (.tuple #[.pointer (some ⟨p, 0, none⟩), .int .i64 0]) ∧ LogAt w' T p a s' g0 ∧ (∀ b, T b → S b ∨ w.heap.size ≤ b) ∧ Chg S w w' ∧ w.heap.size ≤ p
set_option maxHeartbeats 8000000 in
theorem open0_any {w : World} {S : Nat → Prop} {a : Nat} {s : Dk} {B0 : Nat} (h : DiskIs w S a s) (hg : Glob w B0) (hB0 : B0 ≤ w.heap.size) (hseg : segsL s.L = []) (hok : (open0 s).2 = 0) :
    Calls Tryz.prog 32 #[.pointer (some ⟨a, 0, none⟩)] w (OpenPost w S a (open0 s).1) := by
  have hlt := diskIs_lt h
  have hbA : Below w.heap.size w (w.alloc (.cells #[.pointer (some ⟨a, 0, none⟩), .int .i64 0, .int .i64 0, .slice none 0 0] 112)) := (Below.refl _ _).alloc (Nat.le_refl _) _
  have hLA : LogAt (w.alloc (.cells #[.pointer (some ⟨a, 0, none⟩), .int .i64 0, .int .i64 0, .slice none 0 0] 112)) (fun b => S b ∨ b = w.heap.size) w.heap.size a s g0 := by
    refine ⟨⟨S, .slice none 0 0, h.below hbA, ⟨own.new w _ _, EntRow.none _ _, (fun e => by cases e), Nat.zero_le _⟩, (fun e => by have := hlt _ e; omega), (fun b e => by cases e), fun b hb => .inl hb, .inr rfl, (fun b e => by cases e)⟩, fun b hb => ?_, g0_ok, by simp [g0]⟩
    rcases hb with hb | hb
    · have := hlt b hb; simp; omega
    · rw [hb]; simp
  have hR : RsAt (w.alloc (.cells #[.pointer (some ⟨a, 0, none⟩), .int .i64 0, .int .i64 0, .slice none 0 0] 112)) (fun b => S b ∨ b = w.heap.size) w.heap.size a s g0 B0 (w.alloc (.cells #[.pointer (some ⟨a, 0, none⟩), .int .i64 0, .int .i64 0, .slice none 0 0] 112)) := ⟨hLA, Below.refl _ _, hg.below hbA hB0, by have := hbA.size; omega⟩
  have hc0 := (own.new w #[.pointer (some ⟨a, 0, none⟩), .int .i64 0, .int .i64 0, .slice none 0 0] 112).cell 0
  have HSeg := hid (segments_any (p := w.heap.size) (h.below hbA) (hc0.trans rfl) hR.glob hR.size)
  have HC := hid (fun wx (hx : RsAt (w.alloc (.cells #[.pointer (some ⟨a, 0, none⟩), .int .i64 0, .int .i64 0, .slice none 0 0] 112)) (fun b => S b ∨ b = w.heap.size) w.heap.size a s g0 B0 wx) => (show wx.cell? ⟨w.heap.size, 1, none⟩ = some (.int .i64 0) ∧ wx.cell? ⟨w.heap.size, 2, none⟩ = some (.int .i64 0) from ⟨hx.log.cells.2.1, hx.log.cells.2.2.1⟩))
  have HSn := hid (fun wx (hx : RsAt (w.alloc (.cells #[.pointer (some ⟨a, 0, none⟩), .int .i64 0, .int .i64 0, .slice none 0 0] 112)) (fun b => S b ∨ b = w.heap.size) w.heap.size a s g0 B0 wx) => segName_any 1 wx hx.glob ⟨by omega, by omega⟩)
  have HHr : Hid (∀ wx, RsAt (w.alloc (.cells #[.pointer (some ⟨a, 0, none⟩), .int .i64 0, .int .i64 0, .slice none 0 0] 112)) (fun b => S b ∨ b = w.heap.size) w.heap.size a s g0 B0 wx → Calls Tryz.prog 80 #[.agg #[.int .i64 0, .int .i64 0]] wx fun e w' => e = .returned (.string (mk (rcL (.hard ⟨0, 0⟩)))) ∧ Below wx.heap.size wx w') := hid (fun wx hx => hardRec_any ⟨0, 0⟩ wx hx.glob hx.size ⟨by show _ ≤ (0 : Int); omega, by show (0 : Int) ≤ _; omega⟩ ⟨by show _ ≤ (0 : Int); omega, by show (0 : Int) ≤ _; omega⟩)
  have hs1 : (segN 1).length ≤ 24 := by
    have := Lib.itoa_length_le 1 (by omega) (by omega)
    unfold segN
    simp
    omega
  have hs2 : (rcL (.hard ⟨0, 0⟩)).length ≤ 100 := by
    have := encs_length [1, 0, 0] (by intro m hm; simp at hm; rcases hm with rfl | rfl <;> exact ⟨by omega, by omega⟩)
    unfold rcL
    rw [frameL_length]
    simp only [payL]
    simp at this
    omega
  have HWr := hid (fun wx (hx : RsAt (w.alloc (.cells #[.pointer (some ⟨a, 0, none⟩), .int .i64 0, .int .i64 0, .slice none 0 0] 112)) (fun b => S b ∨ b = w.heap.size) w.heap.size a s g0 B0 wx) => (show Calls Tryz.prog 78 #[.pointer (some ⟨w.heap.size, 0, none⟩), .string (mk (segN 1)), .string (mk (rcL (.hard ⟨0, 0⟩)))] wx fun e wy => e = .returned (.int .i64 0) ∧ OpenPost w S a (open0 s).1 (.returned (.tuple #[.pointer (some ⟨w.heap.size, 0, none⟩), .int .i64 0])) wy from by
    refine (hx.log.run.write (fun b hb => ?_) (mk (segN 1)) (mk (rcL (.hard ⟨0, 0⟩))) (by rw [mk_size]; unfold maxLen; omega) (by rw [mk_size]; omega)).mono ?_
    · have := hx.from_.size
      rcases hb with hb | hb
      · have := hlt b hb; simp at *; omega
      · rw [hb]; simp at *; omega
    · rintro e wy ⟨he, hrun⟩
      have h0 : (wrL s (mk (segN 1)).data.toList (mk (rcL (.hard ⟨0, 0⟩))).data.toList).2 = 0 := hok
      rw [h0] at he
      have hfw : Below w.heap.size w wx := hbA.trans (hx.from_.mono hbA.size)
      refine ⟨he, w.heap.size, _, rfl, hrun.1, fun b hb => ?_, ?_, Nat.le_refl _⟩
      · have := hfw.size
        rcases hb with (hb | hb) | hb
        · exact .inl hb
        · exact .inr (by omega)
        · exact .inr (by omega)
      · exact (Chg.of_below hfw).trans hrun.2 (fun b hb => hb.imp id (fun e => by omega))))
  have HR := hid hR
  have HN := hid hseg
  clear h hg hok hlt hbA hLA hR hc0 hseg hs1 hs2
  generalize mk (segN 1) = sn at *
  generalize mk (rcL (.hard ⟨0, 0⟩)) = hr at *
  generalize (open0 s).1 = s' at *
  unfold SegsPost at HSeg
  go_enter Tryz.func32, Tryz.ntmps32
  go_wp2_with (go_at_call 22; (with_reducible refine HSeg.out.mono ?_); rintro e w1 ⟨v1, rfl, hv1, hb1⟩; rw [HN.out] at hv1; obtain ⟨a1, cap1, rfl⟩ := names_slice hv1; clear hv1; have HR := hid (HR.out.below hb1); obtain ⟨x1, x2⟩ := HC.out _ HR.out)
  have HR := hid (HR.out.below (Below.drew (Below.refl _ _)))
  go_region_with (first
    | (go_at_call 79; (with_reducible refine (HSn.out _ HR.out).mono ?_); rintro e w2 ⟨rfl, hb2⟩; have HR := hid (HR.out.below hb2); obtain ⟨y1, y2⟩ := HC.out _ HR.out; clear hb2)
    | (go_at_call 80; (with_reducible refine (HHr.out _ HR.out).mono ?_); rintro e w2 ⟨rfl, hb2⟩; have HR := hid (HR.out.below hb2); obtain ⟨y1, y2⟩ := HC.out _ HR.out; clear hb2)
    | (go_at_call 78; (with_reducible refine (HWr.out _ HR.out).mono ?_); rintro e w3 ⟨rfl, hp3⟩; have HP3 := hid hp3; clear hp3))
  all_goals
    go_wp2
    refine wp_loop_rounds 1 ?_
    rw [rounds_succ]
    go_wp2
    go_ret2
    exact HP3.out
end Go.Proofs.YtpcafkinpkepcaaGreatDoor

/-
  LAYER 3 (wal), THE DOCUMENT's ANSWER: Open of a new disk; begin.
-/
namespace Go.Proofs.YtpcafkinpkepcaaGreatDoor
open Go.RowKit Go.Maps
set_option linter.unusedVariables false
set_option maxRecDepth 100000

def RefLog (w : World) (q r : Nat) (g : Hd) (v : Value) : Prop := own w q #[.pointer (some ⟨r, 0, none⟩), .int .i64 g.term, .int .i64 g.vote, v] 54
set_option maxHeartbeats 4000000 in
theorem numbers0_any {w : World} {q r : Nat} {g : Hd} {v : Value} (hq : RefLog w q r g v) {S : Nat → Prop} {s : Dk} (h : RefIs w S r s) (hL : s.L = []) :
    Calls Tryz.prog 21 #[.pointer (some ⟨q, 0, none⟩)] w fun e w' => e = .returned (.slice none 0 0) ∧ Below w.heap.size w w' := by
  obtain ⟨v', h⟩ := h
  have c0 := (hq.cell 0).trans rfl
  have d0 := h.head.cell 0
  simp at d0
  obtain ⟨ao, cap, rfl, -, -, -⟩ := h.row.slice
  rw [hL] at d0
  clear hq h
  go_enter Tryz.func21, Tryz.ntmps21
  go_wp2
  refine wp_loop_rounds 1 ?_
  rw [rounds_succ]
  go_wp2
  go_ret
  exact ⟨rfl, Below.refl _ _⟩
def RefOpenPost (w : World) (S : Nat → Prop) (r : Nat) (s' : Dk) (e : Ending) (w' : World) : Prop :=
  ∃ q S', e = .returned (.tuple #[.pointer (some ⟨q, 0, none⟩), .int .i64 0]) ∧ RefIs w' S' r s' ∧ (∀ b, S' b → S b ∨ w.heap.size ≤ b) ∧ ¬ S' q ∧ RefLog w' q r ⟨0, 0⟩ (.slice none 0 0) ∧ Chg S w w' ∧ w.heap.size ≤ q
set_option maxHeartbeats 8000000 in
theorem refOpen0_any {w : World} {S : Nat → Prop} {r : Nat} {s : Dk} (h : RefIs w S r s) (hL : s.L = []) (hd : s.dead = false) (hok : (open0 s).2 = 0) :
    Calls Tryz.prog 33 #[.pointer (some ⟨r, 0, none⟩)] w (RefOpenPost w S r (open0 s).1) := by
  have hlt := refIs_lt h
  have hb0 : Below w.heap.size w (w.alloc (.cells #[.pointer (some ⟨r, 0, none⟩), .int .i64 0, .int .i64 0, .slice none 0 0] 54)) := (Below.refl _ _).alloc (Nat.le_refl _) _
  have hbx : RefLog (w.alloc (.cells #[.pointer (some ⟨r, 0, none⟩), .int .i64 0, .int .i64 0, .slice none 0 0] 54)) w.heap.size r ⟨0, 0⟩ (.slice none 0 0) := own.new w _ _
  have g3 : (w.alloc (.cells #[.pointer (some ⟨r, 0, none⟩), .int .i64 0, .int .i64 0, .slice none 0 0] 54)).cell? ⟨r, 3, none⟩ = some (.bool false) := by
    obtain ⟨v, h1⟩ := h.below hb0
    have := h1.head.cell 3
    rw [hd] at this
    exact this.trans rfl
  have hz : (w.alloc (.cells #[.pointer (some ⟨r, 0, none⟩), .int .i64 0, .int .i64 0, .slice none 0 0] 54)).heap.size = w.heap.size + 1 := by simp
  have HN := hid (numbers0_any hbx (h.below hb0) hL)
  have HF : Hid (∀ wx, Calls Tryz.prog 83 #[.agg #[.int .i64 1, .int .i64 0, .int .i64 0, .int .i64 0, .int .i64 0, .int .i64 0, .string ⟨#[]⟩]] wx fun e w' => e = .returned (.string (mk (rcL (.hard ⟨0, 0⟩)))) ∧ Below wx.heap.size wx w') :=
    hid (fun wx => refFrameHard_any ⟨0, 0⟩ ⟨0, 0, 0, []⟩ ⟨by show _ ≤ (0 : Int); omega, by show (0 : Int) ≤ _; omega⟩ ⟨by show _ ≤ (0 : Int); omega, by show (0 : Int) ≤ _; omega⟩ wx)
  have hs2 : (rcL (.hard ⟨0, 0⟩)).length ≤ 100 := by
    have := encs_length [1, 0, 0] (by intro m hm; simp at hm; rcases hm with rfl | rfl <;> exact ⟨by omega, by omega⟩)
    unfold rcL
    rw [frameL_length]
    simp only [payL]
    simp at this
    omega
  have hw1 : (⟨#[119, 49]⟩ : ByteArray).data.toList = segN 1 := by rw [show (1 : Int) = ((1 : Nat) : Int) from rfl, segN_nat, Lib.decDigits_one (by omega)]; rfl
  have HL := hid (fun wx (hx : Below (w.heap.size + 1) (w.alloc (.cells #[.pointer (some ⟨r, 0, none⟩), .int .i64 0, .int .i64 0, .slice none 0 0] 54)) wx) => (show Calls Tryz.prog 82 #[.pointer (some ⟨w.heap.size, 0, none⟩), .string ⟨#[119, 49]⟩, .string (mk (rcL (.hard ⟨0, 0⟩)))] wx (fun e w' => e = .returned (.int .i64 0) ∧ RefOpenPost w S r (open0 s).1 (.returned (.tuple #[.pointer (some ⟨w.heap.size, 0, none⟩), .int .i64 0])) w') from by
    have hbw := hb0.trans (hx.mono (by omega))
    have hxs := hx.size
    rw [hz] at hxs
    have hbx2 : RefLog wx w.heap.size r ⟨0, 0⟩ (.slice none 0 0) := hbx.same (hx.block _ (by omega))
    have hnS : ¬ S w.heap.size := fun e => by have := hlt _ e; omega
    refine (lay_any (h.below hbw) ⟨by omega, hnS, (hbx2.cell 0).trans rfl⟩ ⟨#[119, 49]⟩ (mk (rcL (.hard ⟨0, 0⟩))) (by decide) (by rw [mk_size]; omega)).mono ?_
    rintro e w' ⟨he, hR, hc⟩
    rw [hw1, mk_data] at he hR
    have h0 : (wrL s (segN 1) (rcL (.hard ⟨0, 0⟩))).2 = 0 := hok
    rw [h0] at he
    refine ⟨he, w.heap.size, _, rfl, hR, fun b hb => ?_, fun e => ?_, hbx2.same (hc.block _ (by omega) hnS), (Chg.of_below hbw).trans hc (fun b hb => .inl hb), Nat.le_refl _⟩
    · rcases hb with hb | hb
      · exact .inl hb
      · exact .inr (by omega)
    · rcases e with e | e
      · exact hnS e
      · omega))
  have HZ := hid hz
  clear h hL hd hok hb0 hbx hz hs2 hw1 hlt
  generalize mk (rcL (.hard ⟨0, 0⟩)) = R at *
  generalize (open0 s).1 = s' at *
  go_enter Tryz.func33, Tryz.ntmps33
  go_wp2_with (first
    | (go_at_call 21; (with_reducible refine HN.out.mono ?_); rintro e w1 ⟨rfl, hb1⟩; rw [HZ.out] at hb1)
    | (go_at_call 83; (with_reducible refine (HF.out _).mono ?_); rintro e w2 ⟨rfl, hb2⟩; have hb12 := hb1.trans (hb2.mono (by have := hb1.size; rw [HZ.out] at this; exact this)))
    | (go_at_call 82; (with_reducible refine (HL.out _ hb12).mono ?_); rintro e w3 ⟨rfl, hp3⟩; have HP3 := hid hp3; clear hp3))
  go_ret2
  exact HP3.out
end Go.Proofs.YtpcafkinpkepcaaGreatDoor

