/-
  LAYER 7 (msg), THE PROGRAM: rightBase, Right.
-/
import Derived.Test.YtppjojjejabaeaaMsPrC
namespace Go.Proofs.Ytppjojjejabaeaa
open Go.RowKit
set_option linter.unusedVariables false
set_option maxRecDepth 100000

theorem every4 (a b c d : Int) (wx : World) (g : Nat) (hg : wx.heap.size = g) : Calls Try.prog 28 #[.func (.func 30) #[] #[], .slice (some ⟨g, 0, none⟩) 4 4] (wx.alloc (.cells #[.int .i64 a, .int .i64 b, .int .i64 c, .int .i64 d] 3)) fun e w' => e = .returned (.bool (inN a && inN b && inN c && inN d)) ∧ wx.alloc (.cells #[.int .i64 a, .int .i64 b, .int .i64 c, .int .i64 d] 3) = w' := by
  subst hg
  have := everyInt_any _ isNumber_enters inN isNumber_any (nums_lit wx [a, b, c, d] 3 4 rfl (by decide)) (by simp [maxLen])
  simpa [Bool.and_assoc] using this
theorem everyN2 (a b : Int) (wx : World) (g : Nat) (hg : wx.heap.size = g) : Calls Try.prog 28 #[.func (.func 29) #[] #[], .slice (some ⟨g, 0, none⟩) 2 2] (wx.alloc (.cells #[.int .i64 a, .int .i64 b] 3)) fun e w' => e = .returned (.bool (nodeB a && nodeB b)) ∧ wx.alloc (.cells #[.int .i64 a, .int .i64 b] 3) = w' := by
  subst hg
  have := everyInt_any _ isNode_enters nodeB isNode_any (nums_lit wx [a, b] 3 2 rfl (by decide)) (by simp [maxLen])
  simpa using this
def rightB (m : Ms) : Bool := (inN m.bi && inN m.bt) && m.vot.all nodeB && risA m.vot && decide (m.bd.size ≤ 4000000)
set_option maxHeartbeats 8000000 in
theorem rightBase_any (m : Ms) {w : World} {vv : Value} (hv : RAt numTy w vv m.vot) (hl : m.vot.length ≤ maxLen) :
    Calls Try.prog 33 #[.agg #[.int .i64 m.bi, .int .i64 m.bt, vv, .string m.bd]] w (BoolPost' w (rightB m)) := by
  have HRE : Hid (rightB m = ((inN m.bi && inN m.bt) && m.vot.all nodeB && risA m.vot && decide (m.bd.size ≤ 4000000))) := hid rfl
  obtain ⟨b, hb⟩ : ∃ b, rightB m = b := ⟨_, rfl⟩
  rw [hb] at HRE ⊢
  obtain ⟨va, vc, rfl, _⟩ := nums_at hv
  have hbB : Below w.heap.size w ((w.alloc (.cells #[.int .i64 m.bi, .int .i64 m.bt, .slice va m.vot.length vc, .string m.bd] 25)).alloc (.cells #[.int .i64 m.bi, .int .i64 m.bt] 3)) := ((Below.refl _ _).alloc (Nat.le_refl _) _).alloc (by simp) _
  have HBw : Hid (∀ wx, wx = (w.alloc (.cells #[.int .i64 m.bi, .int .i64 m.bt, .slice va m.vot.length vc, .string m.bd] 25)).alloc (.cells #[.int .i64 m.bi, .int .i64 m.bt] 3) → Below w.heap.size w wx) := hid (fun wx h => by subst h; exact hbB)
  have HEv := hid (every2 m.bi m.bt (w.alloc (.cells #[.int .i64 m.bi, .int .i64 m.bt, .slice va m.vot.length vc, .string m.bd] 25)) (w.heap.size + 1) (by simp))
  have HNo := hid (everyInt_any _ isNode_enters nodeB isNode_any (hv.below hbB) hl)
  have HRi := hid (rising_any (hv.below hbB) hl)
  have obx : own ((w.alloc (.cells #[.int .i64 m.bi, .int .i64 m.bt, .slice va m.vot.length vc, .string m.bd] 25)).alloc (.cells #[.int .i64 m.bi, .int .i64 m.bt] 3)) w.heap.size #[.int .i64 m.bi, .int .i64 m.bt, .slice va m.vot.length vc, .string m.bd] 25 := (own.new w _ _).same (Below.heap_alloc _ _ _ (by simp))
  have HC : Hid (∀ wx, Below ((w.alloc (.cells #[.int .i64 m.bi, .int .i64 m.bt, .slice va m.vot.length vc, .string m.bd] 25)).alloc (.cells #[.int .i64 m.bi, .int .i64 m.bt] 3)).heap.size ((w.alloc (.cells #[.int .i64 m.bi, .int .i64 m.bt, .slice va m.vot.length vc, .string m.bd] 25)).alloc (.cells #[.int .i64 m.bi, .int .i64 m.bt] 3)) wx → wx.cell? ⟨w.heap.size, 3, none⟩ = some (.string m.bd) ∧ Below w.heap.size w wx) := hid (fun wx h => ⟨((obx.same (h.block _ obx.lt)).cell 3).trans rfl, hbB.trans (h.mono hbB.size)⟩)
  have HDt := hid (rightData_any m.bd)
  clear hb hv obx hbB
  generalize (inN m.bi && inN m.bt) = b0 at *
  generalize m.vot.all nodeB = b1 at *
  generalize risA m.vot = b2 at *
  cases b0 with
  | false =>
    obtain rfl : b = false := by rw [HRE.out]; rfl
    go_enter Try.func33, Try.ntmps33
    go_wp2_with (go_at_call 28; (with_reducible refine HEv.out.mono ?_); rintro e w1 ⟨rfl, rfl⟩)
    go_ret
    exact ⟨rfl, HBw.out _ rfl⟩
  | true =>
  cases b1 with
  | false =>
    obtain rfl : b = false := by rw [HRE.out]; rfl
    go_enter Try.func33, Try.ntmps33
    go_wp2_with (first
      | (go_at_call 28; (with_reducible refine HEv.out.mono ?_); rintro e w1 ⟨rfl, rfl⟩)
      | (go_at_call 28; (with_reducible refine HNo.out.mono ?_); rintro e w1 ⟨rfl, rfl⟩))
    go_ret
    exact ⟨rfl, HBw.out _ rfl⟩
  | true =>
  cases b2 with
  | false =>
    obtain rfl : b = false := by rw [HRE.out]; rfl
    go_enter Try.func33, Try.ntmps33
    go_wp2_with (first
      | (go_at_call 28; (with_reducible refine HEv.out.mono ?_); rintro e w1 ⟨rfl, rfl⟩)
      | (go_at_call 28; (with_reducible refine HNo.out.mono ?_); rintro e w1 ⟨rfl, rfl⟩)
      | (go_at_call 51; (with_reducible refine HRi.out.mono ?_); rintro e w1 ⟨rfl, hb1⟩; obtain ⟨c3, hb2⟩ := HC.out _ hb1; have HB2 := hid hb2; clear hb1 hb2))
    go_ret
    exact ⟨rfl, HB2.out⟩
  | true =>
    obtain ⟨bd, hbd⟩ : ∃ bd, decide (m.bd.size ≤ 4000000) = bd := ⟨_, rfl⟩
    rw [hbd] at HDt HRE
    obtain rfl : b = bd := by rw [HRE.out]; rfl
    clear hbd
    go_enter Try.func33, Try.ntmps33
    go_wp2_with (first
      | (go_at_call 28; (with_reducible refine HEv.out.mono ?_); rintro e w1 ⟨rfl, rfl⟩)
      | (go_at_call 28; (with_reducible refine HNo.out.mono ?_); rintro e w1 ⟨rfl, rfl⟩)
      | (go_at_call 34; (with_reducible refine (HDt.out _).mono ?_); rintro e w2 ⟨rfl, rfl⟩)
      | (go_at_call 51; (with_reducible refine HRi.out.mono ?_); rintro e w1 ⟨rfl, hb1⟩; obtain ⟨c3, hb2⟩ := HC.out _ hb1; have HB2 := hid hb2; clear hb1 hb2))
    go_ret
    exact ⟨rfl, HB2.out⟩
end Go.Proofs.Ytppjojjejabaeaa
