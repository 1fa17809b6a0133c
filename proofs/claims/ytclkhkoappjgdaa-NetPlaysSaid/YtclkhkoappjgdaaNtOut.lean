/-
  LAYER 6 (net), THE DOCUMENT's ANSWER: out.
-/
import Derived.Test.YtclkhkoappjgdaaNtRef
import Derived.BigRegion
namespace Go.Proofs.Ytclkhkoappjgdaa
open Go.RowKit
set_option linter.unusedVariables false
set_option maxRecDepth 100000

abbrev rl0 : Obj := .cells #[] 36
section
variable {w : World} {r : Nat} {lv gv : Value} {s : Nt}
/-- The net with another row of letters. -/
theorem RNet.withRow {w w2 : World} {r : Nat} {lv v2 gv : Value} {s : Nt} {M : List Lt} (h : RNet w r lv gv s) (hm : RMid rlTy w w2 v2 M) (hl : M.length ≤ 1000) : RTurn w (w2.setCell ⟨r, 0, none⟩ v2) r lv v2 gv { s with L := M } := by
  have hr := h.head.lt
  have hz := hm.below.size
  have hsz : (w2.setCell ⟨r, 0, none⟩ v2).heap.size = w2.heap.size := setCell_size _ _ _
  have h2 := h.below hm.below
  have hs : ∀ b, b ≠ r → (w2.setCell ⟨r, 0, none⟩ v2).heap[b]? = w2.heap[b]? := fun b hb => Below.heap_setCell _ _ _ _ hb
  have hv : ∀ b, v2.ownBlock = some b → b ≠ r := fun b e h => by have := hm.new b e; omega
  refine ⟨⟨h2.head.set 0 v2, hm.row.rAt.same (fun b e hl => hs b (hv b e)) (by omega), h2.grp.keep (fun hG b e hl => hs b (fun h' => h.ap2 hG (by rw [e, h']))) (by omega), fun e => hv r e rfl, h.ap2, hl, h.gl, h.lo, fun b e => by rw [hsz]; exact hm.row.lt b e⟩, ?_, fun b e => .inr ⟨hm.new b e, by rw [hsz]; exact hm.row.lt b e⟩⟩
  exact (Chg.of_below hm.below).trans (Chg.setCell w2 ⟨r, 0, none⟩ v2) (fun b e => .inl e)
/-- What out's row is made by. -/
theorem out_plan (h : RNet w r lv gv s) {ao : Option Addr} {cap : Nat} (hv : lv = .slice ao s.L.length cap) (k : Nat) (hk : k < s.L.length) :
    ∃ a1 b1 w1 a2 b2 w2, (Builtin.append_ #[28, 28] 28 #[.slice (some ⟨w.heap.size, 0, none⟩) 0 0, .slice ao k cap]).run Try.prog (w.alloc rl0).drew = .ok (.slice a1 k b1) w1 ∧ Below w.heap.size w w1 ∧
      (Builtin.append_ #[28, 28] 28 #[.slice a1 k b1, rlTy.from ao s.L.length cap (k + 1)]).run Try.prog w1 = .ok (.slice a2 (s.L.length - 1) b2) w2 ∧ Below w.heap.size w w2 ∧ RTurn w (w2.setCell ⟨r, 0, none⟩ (.slice a2 (s.L.length - 1) b2)) r lv (.slice a2 (s.L.length - 1) b2) gv (s.out k) := by
  subst hv
  have hb : Below w.heap.size w (w.alloc rl0).drew := (Below.alloc (Below.refl _ _) (Nat.le_refl _) _).drew
  have ho : own (w.alloc rl0).drew w.heap.size #[] rlTy.el := own.new w #[] _
  have m0 : RMid rlTy w (w.alloc rl0).drew (.slice (some ⟨w.heap.size, 0, none⟩) 0 0) [] := rMid_empty hb ho (Nat.le_refl _)
  have hl1 : (s.L.take k).length = k := by rw [List.length_take]; omega
  have hl2 : (s.L.drop (k + 1)).length = s.L.length - (k + 1) := List.length_drop
  have hll := h.ll
  obtain ⟨a1, b1, w1, e1, m1, _⟩ := m0.app rlTy_ok 28 ((h.row.take rlTy_ok (by omega : k ≤ s.L.length)).below hb) (by simp; omega)
  have z1 : ([] : List Lt).length + (s.L.take k).length = k := by rw [hl1]; simp
  rw [z1] at e1 m1
  rw [List.nil_append] at m1
  obtain ⟨a2, b2, w2, e2, m2, _⟩ := m1.app rlTy_ok 28 (((h.row.drop rlTy_ok (by omega : k + 1 ≤ s.L.length)).1).below m1.below) (by omega)
  have z2 : (s.L.take k).length + (s.L.drop (k + 1)).length = s.L.length - 1 := by omega
  rw [hl1] at e2 m2 z2
  rw [z2] at e2 m2
  exact ⟨a1, b1, w1, a2, b2, w2, e1, m1.below, e2, m2.below, h.withRow m2 (by show (outL s.L k).length ≤ 1000; rw [outL_len hk]; omega)⟩
set_option maxHeartbeats 8000000 in
theorem rOut_any (h : RNet w r lv gv s) (k : Nat) (hk : k < s.L.length) :
    Calls Try.prog 28 #[.pointer (some ⟨r, 0, none⟩), .int .i64 (k : Int)] w fun e w' => e = .returned (.tuple #[]) ∧ ∃ lv', RTurn w w' r lv lv' gv (s.out k) := by
  have hrow := h.row
  obtain ⟨ao, cap, hv, hcap, hno, _⟩ := hrow.at rlTy_ok
  obtain ⟨a1, b1, w1, a2, b2, w2, e1, hb1, e2, hb2, hT⟩ := out_plan h hv k hk
  have HT := hid hT
  have hll := h.ll
  subst hv
  have hr := h.head.lt
  have c0 : w.cell? ⟨r, 0, none⟩ = some (.slice ao s.L.length cap) := (h.head.cell 0).trans rfl
  have k0 : (w.alloc rl0).cell? ⟨r, 0, none⟩ = some (.slice ao s.L.length cap) := ((Below.alloc (Below.refl _ _) (Nat.le_refl w.heap.size) rl0).cell (p := ⟨r, 0, none⟩) hr).trans c0
  have k1 : w1.cell? ⟨r, 0, none⟩ = some (.slice ao s.L.length cap) := (hb1.cell (p := ⟨r, 0, none⟩) hr).trans c0
  have k2 : w2.cell? ⟨r, 0, none⟩ = some (.slice ao s.L.length cap) := (hb2.cell (p := ⟨r, 0, none⟩) hr).trans c0
  have f2 : w2.frozen? ⟨r, 0, none⟩ = false := (hb2.frozen (p := ⟨r, 0, none⟩) hr).trans (h.head.frozen 0)
  have l1 : ∀ wx : World, (Instr.slice 28 (.slice ao s.L.length cap) none (some (.int .i64 (k : Int))) none).run Try.prog wx = .ok (.slice ao k cap) wx := fun wx => run_to rlTy_ok wx ao s.L.length cap k (by omega) hno
  have l2 : ∀ wx : World, (Instr.slice 28 (.slice ao s.L.length cap) (some (.int .i64 ((k : Int) + 1))) none none).run Try.prog wx = .ok (rlTy.from ao s.L.length cap (k + 1)) wx := fun wx => by
    have := run_from rlTy_ok wx ao s.L.length cap (k + 1) (by omega) hcap
    push_cast at this
    exact this
  have hW : IntKind.i64.wrap ((k : Int) + 1) = (k : Int) + 1 := IntWalk.i64_in _ (by omega)
  have E1 := hid e1
  have E2 := hid e2
  clear h hrow hT e1 e2 hb1 hb2 hno hcap hll
  generalize rlTy.from ao s.L.length cap (k + 1) = vf at *
  generalize s.L.length - 1 = n1 at *
  go_enter Try.func28, Try.ntmps28
  go_wp2
  go_region_law (first
    | (refine step_append_at E1.out (by with_reducible rfl) rfl _ _ rfl rfl rfl rfl ?_)
    | (refine step_append_at E2.out (by with_reducible rfl) rfl _ _ rfl rfl rfl rfl ?_))
  all_goals
    go_wp2
    go_end0
    exact ⟨rfl, _, HT.out⟩
end
end Go.Proofs.Ytclkhkoappjgdaa
