/-
  LAYER 6 (net), THE PROGRAM: look, Delete, pull, Apart, Flight, New.
-/
import Derived.Test.YtclkhkoappjgdaaNpNet
namespace Go.Proofs.Ytclkhkoappjgdaa
open Go.RowKit Go.Maps
set_option linter.unusedVariables false
set_option maxRecDepth 100000

abbrev pl1 (x : Lt) : Obj := .cells #[.int .i64 x.fr, .int .i64 x.to_, .string x.dt] 37
section
variable {w : World} {T : Nat → Prop} {r : Nat} {lv fv : Value} {s : Nt}
/-- The k-th letter's cells, as the walk spells them. -/
theorem PNet.letter (h : PNet w T r lv fv s) {k : Nat} (hk : k < s.L.length) {x : Lt} (hx : s.L[k] = x) : ∃ g cap, lv = .slice (some ⟨g, 0, none⟩) s.L.length cap ∧ s.L.length ≤ cap ∧ g < w.heap.size ∧ w.cell? ⟨g, k * 3, none⟩ = some (.int .i64 x.fr) ∧ w.cell? ⟨g, k * 3 + 1, none⟩ = some (.int .i64 x.to_) ∧ w.cell? ⟨g, k * 3 + 2, none⟩ = some (.string x.dt) := by
  have hr := h.row
  obtain ⟨ao, cap, hv, hlc, _⟩ := hr.slice
  subst hv
  obtain ⟨g, rfl, hlt, hc, _⟩ := hr.at plTy_ok (by omega)
  have h1 := hc k x (by rw [List.getElem?_eq_getElem hk, hx])
  exact ⟨g, cap, rfl, hlc, hlt, h1 0 _ rfl, h1 1 _ rfl, h1 2 _ rfl⟩
theorem pLook_yes (h : PNet w T r lv fv s) {k : Nat} (hk : k < s.L.length) {x : Lt} (hx : s.L[k] = x) :
    Calls Try.prog 36 #[.pointer (some ⟨r, 0, none⟩), .int .i64 (k : Int)] w fun e w' => e = .returned (.tuple #[.agg #[.int .i64 x.fr, .int .i64 x.to_, .string x.dt], .bool true]) ∧ Below w.heap.size w w' := by
  have hb0 : Below w.heap.size w (w.alloc pl0) := (Below.refl _ _).alloc (Nat.le_refl _) _
  have h' := h.below hb0
  obtain ⟨g, cap, hv, _, hlt, c1, c2, c3⟩ := h'.letter hk hx
  have hlt' : g < w.heap.size := h.row.lt g (by rw [hv]; rfl)
  have c0 : (w.alloc pl0).cell? ⟨r, 0, none⟩ = some (.slice (some ⟨g, 0, none⟩) s.L.length cap) := by rw [← hv]; exact (h'.head.cell 0).trans rfl
  have hkI : (k : Int) < (s.L.length : Int) := by omega
  have n1 : ¬ g = w.heap.size := by omega
  have HF : Hid (Below w.heap.size w (w.alloc (pl1 x))) := hid ((Below.refl _ _).alloc (Nat.le_refl _) _)
  have n0 := h.head.lt
  unfold pl0 at *
  clear h h' hx hv hb0 hlt
  go_enter Try.func36, Try.ntmps36
  go_wp2
  exact bodyPost_ret (v := .tuple #[.agg #[.int .i64 x.fr, .int .i64 x.to_, .string x.dt], .bool true]) (by simp [results, Try.results36, go_sem]) rfl ⟨rfl, HF.out⟩
/-- slices.Delete(s, k, k+1) of letters. -/
def DelPost (w : World) (g cap : Nat) (L : List Lt) (k : Nat) (e : Ending) (w' : World) : Prop :=
  e = .returned (.slice (some ⟨g, 0, none⟩) (L.length - 1) cap) ∧ ROwn plTy w' (.slice (some ⟨g, 0, none⟩) (L.length - 1) cap) (outL L k) ∧ Chg (fun b => b = g) w w'
set_option maxHeartbeats 4000000 in
theorem del_any {g cap : Nat} {L : List Lt} (h : ROwn plTy w (.slice (some ⟨g, 0, none⟩) L.length cap) L) {k : Nat} (hk : k < L.length) (hl : L.length ≤ 1000) :
    Calls Try.prog 40 #[.slice (some ⟨g, 0, none⟩) L.length cap, .int .i64 (k : Int), .int .i64 ((k : Int) + 1)] w (DelPost w g cap L k) := by
  have hown := h
  obtain ⟨_, _, e, hlc, _, hcm⟩ := h.slice
  cases e
  obtain ⟨w1, w2, e1, e2, h2, hc⟩ := (show ROwn plTy w.drew _ L from h).del plTy_ok plTy_z hk 46
  have l1 : ∀ wx : World, (Instr.slice 46 (.slice (some ⟨g, 0, none⟩) L.length cap) none (some (.int .i64 (k : Int))) none).run Try.prog wx = .ok (.slice (some ⟨g, 0, none⟩) k cap) wx := fun wx => run_to plTy_ok wx _ L.length cap k (by omega) (by simp)
  have l2 : ∀ wx : World, (Instr.slice 46 (.slice (some ⟨g, 0, none⟩) L.length cap) (some (.int .i64 ((k : Int) + 1))) none none).run Try.prog wx = .ok (plTy.from (some ⟨g, 0, none⟩) L.length cap (k + 1)) wx := fun wx => by
    have := run_from plTy_ok wx (some ⟨g, 0, none⟩) L.length cap (k + 1) (by omega) hlc
    push_cast at this
    exact this
  have l3 : ∀ wx : World, (Instr.slice 46 (.slice (some ⟨g, 0, none⟩) (L.length - 1) cap) (some (.int .i64 ((L.length - 1 : Nat) : Int))) (some (.int .i64 (L.length : Int))) none).run Try.prog wx = .ok (.slice (some ⟨g, (L.length - 1) * 3, none⟩) 1 (cap - (L.length - 1))) wx := fun wx => run_last plTy_ok wx g L.length cap (by omega) hlc
  have HF : Hid (DelPost w g cap L k (.returned (.slice (some ⟨g, 0, none⟩) (L.length - 1) cap)) w2) := hid ⟨rfl, h2, ⟨hc.os, hc.tape, hc.output, hc.size, hc.block⟩⟩
  have hne : ((k : Int) == (k : Int) + 1) = false := beq_eq_false_iff_ne.2 (by omega)
  have E1 := hid e1
  have hkI : (k : Int) + 1 ≤ (L.length : Int) := by omega
  have hkc : (L.length : Int) ≤ (cap : Int) := by omega
  have hcl : ∀ ty2, (Builtin.clear_ #[46] ty2 #[.slice (some ⟨g, (L.length - 1) * 3, none⟩) 1 (cap - (L.length - 1))]).run Try.prog w1 = .ok (.tuple #[]) w2 := e2
  clear e1 e2 h2 hc h hown
  generalize L.length - 1 = n1 at *
  generalize plTy.from (some ⟨g, 0, none⟩) L.length cap (k + 1) = vf at *
  go_enter Try.func40, Try.ntmps40
  go_wp2_with (fail)
  go_region_law (refine step_append_at E1.out (by with_reducible rfl) rfl _ _ rfl rfl rfl rfl ?_)
  go_wp2
  go_ret
  exact HF.out
end
end Go.Proofs.Ytclkhkoappjgdaa
