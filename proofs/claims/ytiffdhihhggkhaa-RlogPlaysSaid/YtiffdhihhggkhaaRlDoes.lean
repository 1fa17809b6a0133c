/-
  LAYER 8 (rlog): the law's fixed; does, act by act.
-/
import Derived.Test.YtiffdhihhggkhaaRlTwo
import Derived.Test.YtiffdhihhggkhaaRlRef10
import Derived.BigQuiet
namespace Go.Proofs.Ytiffdhihhggkhaa
open Go.RowKit
set_option linter.unusedVariables false
set_option maxRecDepth 100000

set_option maxHeartbeats 4000000 in
theorem fixed_any {w : World} {F : Nat → Prop} {r : Nat} {s : Rl} (n : Int) (h : rfRep.Is w F r s) (hB : RlB s) (hn : I64' n) : Calls Try.prog 38 #[.pointer (some ⟨r, 0, none⟩), .int .i64 n] w fun e w' => e = .returned (.int .i64 (s.bi + pickZ n (s.ents.length + 1))) ∧ Below w.heap.size w w' := by
  obtain ⟨va, vc, la, lc, _, hc⟩ := rf_c h
  obtain ⟨c0, c1, c2, c3, c4⟩ := hc w (Below.refl _ _)
  have h1 := hB.bi
  have h2 := hB.len
  have h3 := hB.ok.pos
  have hp := pickZ_range n (s.ents.length + 1) (by omega)
  have HPk := hid (fun wx => pick_any n (s.ents.length + 1) wx (by omega) (by omega) hn.1 hn.2)
  obtain ⟨q, hq⟩ : ∃ q, pickZ n (s.ents.length + 1) = q := ⟨_, rfl⟩
  rw [hq] at hp HPk
  rw [hq]
  have hwr : IntKind.i64.wrap (s.bi + q) = s.bi + q := by rw [IntKind.wrap_i64]; omega
  have HBw := hid (fun n => below_drew (Below.refl w.heap.size w) n)
  clear h hc hB hq hn
  generalize s.bi = bi at *
  generalize s.ents.length = ln at *
  go_enter Try.func38, Try.ntmps38
  go_wp2
  go_quiet ((go_at_call 12; exact quiet_eq (HPk.out _)))
  all_goals
    go_wp2
    go_ret
    exact ⟨rfl, HBw.out _⟩
end Go.Proofs.Ytiffdhihhggkhaa
