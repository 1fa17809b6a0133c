/-
  LAYER 8 (rlog), the law RlogMatches: its walk. (Written by wip/tools/gen8_laws.py.)
-/
import Derived.Test.YtiffdhihhggkhaaRlMatchZero
import Derived.Test.YtiffdhihhggkhaaRlMatchPos
import Derived.Deep.RegionHeld3
import Derived.BigQuiet
import Derived.Deep.DeepCutAuto
import Derived.Deep.CutRange
namespace Go.Proofs.Ytiffdhihhggkhaa
open Go.RowKit
set_option linter.unusedVariables false
set_option maxRecDepth 100000

theorem rlogMatches_main {R : RlRep} (HP : RlProg R) (b ci ct cf : Int) (v1 v5 : Value) (l m : List Pa) (w : World) (hbi : I64' b) (hii : I64' ci) (hti : I64' ct) (hfi : I64' cf) (h1 : RAt pTy w v1 l) (hi1 : ∀ p ∈ l, PaIn w p) (hl1 : l.length ≤ maxLen) (hs1 : smallP l = true) (h5 : RAt pTy w v5 m) (hi5 : ∀ p ∈ m, PaIn w p) (hl5 : m.length ≤ maxLen) (hs5 : smallP m = true) :
    Calls Try.prog 4 #[.int .i64 b, v1, .int .i64 ci, .int .i64 ct, .int .i64 cf, v5] w (ShownPost w) := by
  cases hq : (mtQ b ci ct cf l m).1.2.2 with
  | false => exact rlogMatches_no HP b ci ct cf v1 v5 l m w hbi hii hti hfi h1 hi1 hl1 hs1 h5 hi5 hl5 hs5 hq
  | true =>
    by_cases hf : (mtQ b ci ct cf l m).1.2.1 = 0
    · exact rlogMatches_zero HP b ci ct cf v1 v5 l m w hbi hii hti hfi h1 hi1 hl1 hs1 h5 hi5 hl5 hs5 ⟨hq, hf⟩
    · exact rlogMatches_pos HP b ci ct cf v1 v5 l m w hbi hii hti hfi h1 hi1 hl1 hs1 h5 hi5 hl5 hs5 ⟨hq, hf⟩
set_option maxHeartbeats 4000000 in
theorem rlogMatches_walk {R : RlRep} (HP : RlProg R) (b ci ct cf : Int) (v1 v5 : Value) (l m : List Pa) (w : World) (hbi : I64' b) (h1 : RAt pTy w v1 l) (hi1 : ∀ p ∈ l, PaIn w p) (hl1 : l.length ≤ maxLen) (hii : I64' ci) (hti : I64' ct) (hfi : I64' cf) (h5 : RAt pTy w v5 m) (hi5 : ∀ p ∈ m, PaIn w p) (hl5 : m.length ≤ maxLen) :
    Calls Try.prog 4 #[.int .i64 b, v1, .int .i64 ci, .int .i64 ct, .int .i64 cf, v5] w (ShownPost w) := by
  by_cases hs : smallP l = true ∧ smallP m = true
  · exact rlogMatches_main HP b ci ct cf v1 v5 l m w hbi hii hti hfi h1 hi1 hl1 hs.1 h5 hi5 hl5 hs.2
  have HS := hid (shown_any HP w)
  have HSm0 : Hid (∀ wx, Below w.heap.size w wx → Calls Try.prog 10 #[v1] wx fun e w' => e = .returned (.bool (smallP l)) ∧ wx = w') := hid (fun wx h => small_any wx v1 l (h1.below h) hl1)
  have HSm1 : Hid (∀ wx, Below w.heap.size w wx → Calls Try.prog 10 #[v5] wx fun e w' => e = .returned (.bool (smallP m)) ∧ wx = w') := hid (fun wx h => small_any wx v5 m (h5.below h) hl5)
  obtain ⟨s0, hs0⟩ : ∃ s, smallP l = s := ⟨_, rfl⟩
  rw [hs0] at HSm0 hs
  obtain ⟨s1, hs1⟩ : ∃ s, smallP m = s := ⟨_, rfl⟩
  rw [hs1] at HSm1 hs
  have HH := hid hs
  clear HP hs hs0 hs1
  cases s0 with
  | false =>
    go_enter Try.func4, Try.ntmps4
    go_wp2_with (first | (go_at_call 9; (with_reducible refine HS.out.mono ?_); rintro e w1 ⟨rfl, hb1⟩) | (go_at_call 10; (with_reducible refine (HSm0.out _ hb1).mono ?_); rintro e w2 ⟨rfl, rfl⟩) | (go_at_call 10; (with_reducible refine (HSm1.out _ hb1).mono ?_); rintro e w2 ⟨rfl, rfl⟩))
    go_ret
    exact ⟨rfl, hb1⟩
  | true =>
    cases s1 with
    | true => exact absurd ⟨rfl, rfl⟩ HH.out
    | false =>
      go_enter Try.func4, Try.ntmps4
      go_wp2_with (first | (go_at_call 9; (with_reducible refine HS.out.mono ?_); rintro e w1 ⟨rfl, hb1⟩) | (go_at_call 10; (with_reducible refine (HSm0.out _ hb1).mono ?_); rintro e w2 ⟨rfl, rfl⟩) | (go_at_call 10; (with_reducible refine (HSm1.out _ hb1).mono ?_); rintro e w2 ⟨rfl, rfl⟩))
      go_ret
      exact ⟨rfl, hb1⟩
end Go.Proofs.Ytiffdhihhggkhaa
