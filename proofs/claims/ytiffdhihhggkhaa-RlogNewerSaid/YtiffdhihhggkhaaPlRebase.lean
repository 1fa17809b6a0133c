/-
  LAYER 8 (rlog), THE PROGRAM's LOG: slices.Delete of the front, rebase.
-/
import Derived.Test.YtiffdhihhggkhaaMq6
import Derived.Test.YtiffdhihhggkhaaMq1
import Derived.Deep.RegionHeld3
namespace Go.Proofs.Ytiffdhihhggkhaa
open Go.RowKit
set_option linter.unusedVariables false
set_option maxRecDepth 100000

theorem enTy_z : ∀ u ∈ enTy.zero.cells.toList, u.oneCell' = true := by
  intro u hu
  have : u ∈ [Value.int .i64 0, Value.int .i64 0, Value.int .i64 0, Value.string ⟨#[]⟩] := hu
  simp at this
  rcases this with rfl | rfl <;> rfl
def FrPost (w : World) (lv : Value) (L : List Me) (n : Nat) (e : Ending) (w' : World) : Prop :=
  ∃ a c, e = .returned (.slice a (L.length - n) c) ∧ ROwn enTy w' (.slice a (L.length - n) c) (L.drop n) ∧ Chg (fun b => lv.ownBlock = some b) w w' ∧ ∀ b, (Value.slice a (L.length - n) c).ownBlock = some b → lv.ownBlock = some b
set_option maxHeartbeats 4000000 in
theorem delFront_any {w : World} {a : Option Addr} {cap : Nat} {L : List Me} (h : ROwn enTy w (.slice a L.length cap) L) {n : Nat} (hn : n ≤ L.length) (hl : L.length ≤ 100000) :
    Calls Try.prog 57 #[.slice a L.length cap, .int .i64 0, .int .i64 (n : Int)] w (FrPost w (.slice a L.length cap) L n) := by
  obtain ⟨_, _, e, hlc, hnone, hcm⟩ := h.slice
  cases e
  have hkI : (n : Int) ≤ (L.length : Int) := by omega
  have hkc : (L.length : Int) ≤ (cap : Int) := by omega
  by_cases h0 : n = 0
  · subst h0
    have HF : Hid (FrPost w (.slice a L.length cap) L 0 (.returned (.slice a L.length cap)) w) := hid ⟨a, cap, rfl, h, Chg.refl _ _, fun b e => e⟩
    clear h hn hnone
    generalize L.length = len at *
    go_enter Try.func57, Try.ntmps57
    go_wp2_with (fail)
    go_ret
    exact HF.out
  have hpos : 0 < n := by omega
  rcases h.2 with ⟨hv, hz⟩ | ⟨g, cap', cur, hv, _⟩
  · omega
  cases hv
  obtain ⟨w1, w2, e1, e2, h2, hc⟩ := (show ROwn enTy w.drew _ L from h).front enTy_ok enTy_z hpos hn 26
  have l1 : ∀ wx : World, (Instr.slice 26 (.slice (some ⟨g, 0, none⟩) L.length cap) none (some (.int .i64 0)) none).run Try.prog wx = .ok (.slice (some ⟨g, 0, none⟩) 0 cap) wx := fun wx => run_to enTy_ok wx _ L.length cap 0 (by omega) (by simp)
  have l2 : ∀ wx : World, (Instr.slice 26 (.slice (some ⟨g, 0, none⟩) L.length cap) (some (.int .i64 (n : Int))) none none).run Try.prog wx = .ok (enTy.from (some ⟨g, 0, none⟩) L.length cap n) wx := fun wx => run_from enTy_ok wx (some ⟨g, 0, none⟩) L.length cap n hn hlc
  have l3 : ∀ wx : World, (Instr.slice 26 (.slice (some ⟨g, 0, none⟩) (L.length - n) cap) (some (.int .i64 ((L.length - n : Nat) : Int))) (some (.int .i64 (L.length : Int))) none).run Try.prog wx = .ok (.slice (some ⟨g, (L.length - n) * 4, none⟩) n (cap - (L.length - n))) wx := fun wx => by
    have := run_mid enTy_ok wx g (L.length - n) (L.length - n) L.length cap (by omega) hlc
    rw [show L.length - (L.length - n) = n by omega] at this
    exact this
  have HF : Hid (FrPost w (.slice (some ⟨g, 0, none⟩) L.length cap) L n (.returned (.slice (some ⟨g, 0, none⟩) (L.length - n) cap)) w2) := hid ⟨_, _, rfl, h2, ⟨hc.os, hc.tape, hc.output, hc.size, fun b hb hn => hc.block b hb (fun e => hn (by rw [e]; rfl))⟩, fun b e => e⟩
  have hne : ((0 : Int) == (n : Int)) = false := beq_eq_false_iff_ne.2 (by omega)
  have E1 := hid e1
  have hcl : ∀ ty2, (Builtin.clear_ #[26] ty2 #[.slice (some ⟨g, (L.length - n) * 4, none⟩) n (cap - (L.length - n))]).run Try.prog w1 = .ok (.tuple #[]) w2 := fun ty2 => e2 ty2 _
  clear e1 e2 h2 hc h hnone
  generalize L.length - n = n1 at *
  generalize enTy.from (some ⟨g, 0, none⟩) L.length cap n = vf at *
  go_enter Try.func57, Try.ntmps57
  go_wp2_with (fail)
  go_region_law (refine step_append_at E1.out (by with_reducible rfl) rfl _ _ rfl rfl rfl rfl ?_)
  go_wp2
  go_ret
  exact HF.out
end Go.Proofs.Ytiffdhihhggkhaa
