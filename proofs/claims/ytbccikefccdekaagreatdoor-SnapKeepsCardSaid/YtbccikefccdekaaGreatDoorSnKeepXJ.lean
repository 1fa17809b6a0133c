import Derived.Test.YtbccikefccdekaaGreatDoorSnKeepWJ
/-
  LAYER 4 (snap), the law SnapKeeps: what the call does, whatever is handed in.
-/
namespace Go.Proofs.YtbccikefccdekaaGreatDoor
open Go.RowKit Go.Shelf
attribute [local go_sem] Oper.semAt_some
set_option linter.unusedVariables false
set_option maxRecDepth 100000

set_option maxHeartbeats 8000000 in
theorem snapKeeps_walk (W : World) {B0 : Nat} (bv kv nv : Value) (after : Int) (l : List Bs) (ks ns : List Int) (hg : Sn.Glob W B0) (hB0 : B0 ≤ W.heap.size) (hl : BesAt W W.heap.size bv l) (hin : ∀ x ∈ l, BIn x) (hll : l.length ≤ maxLen) (hat : I64s after)
    (hk : IntsAt W W.heap.size kv ks) (hkl : ks.length ≤ maxLen) (hk64 : ∀ n ∈ ks, I64s n) (hn : IntsAt W W.heap.size nv ns) (hnl : ns.length ≤ maxLen) :
    Calls Tryz.prog 5 #[bv, .int .i64 after, kv, nv] W fun e W' => e = .returned (.bool true) ∧ Below W.heap.size W W' := by
  by_cases h10 : l.length ≤ 10
  · by_cases h60 : ks.length ≤ 60
    · by_cases h61 : ns.length ≤ 60
      · exact snapKeeps_main W bv kv nv after l ks ns hg hB0 hl hin h10 hat hk h60 hk64 hn h61
      · have HSh := hid (shown4_any W hg hB0)
        obtain ⟨la, lc, rfl, -⟩ := hl
        obtain ⟨ka, kc, rfl, -⟩ := hk
        obtain ⟨na, nc, rfl, -⟩ := hn
        have hl1 : ¬ (10 : Int) < (l.length : Int) := by omega
        have hl2 : ¬ (60 : Int) < (ks.length : Int) := by omega
        have hl3 : (60 : Int) < (ns.length : Int) := by omega
        unfold maxLen at *
        clear hin hk64 hg
        go_enter Tryz.func5, Tryz.ntmps5
        go_wp2_with (go_at_call 6; (with_reducible refine HSh.out.mono ?_); rintro e w1 ⟨rfl, hb1⟩)
        go_ret
        exact ⟨rfl, hb1⟩
    · have HSh := hid (shown4_any W hg hB0)
      obtain ⟨la, lc, rfl, -⟩ := hl
      obtain ⟨ka, kc, rfl, -⟩ := hk
      obtain ⟨na, nc, rfl, -⟩ := hn
      have hl1 : ¬ (10 : Int) < (l.length : Int) := by omega
      have hl2 : (60 : Int) < (ks.length : Int) := by omega
      unfold maxLen at *
      clear hin hk64 hg
      go_enter Tryz.func5, Tryz.ntmps5
      go_wp2_with (go_at_call 6; (with_reducible refine HSh.out.mono ?_); rintro e w1 ⟨rfl, hb1⟩)
      go_ret
      exact ⟨rfl, hb1⟩
  · have HSh := hid (shown4_any W hg hB0)
    obtain ⟨la, lc, rfl, -⟩ := hl
    obtain ⟨ka, kc, rfl, -⟩ := hk
    obtain ⟨na, nc, rfl, -⟩ := hn
    have hl1 : (10 : Int) < (l.length : Int) := by omega
    unfold maxLen at *
    clear hin hk64 hg
    go_enter Tryz.func5, Tryz.ntmps5
    go_wp2_with (go_at_call 6; (with_reducible refine HSh.out.mono ?_); rintro e w1 ⟨rfl, hb1⟩)
    go_ret
    exact ⟨rfl, hb1⟩
end Go.Proofs.YtbccikefccdekaaGreatDoor

