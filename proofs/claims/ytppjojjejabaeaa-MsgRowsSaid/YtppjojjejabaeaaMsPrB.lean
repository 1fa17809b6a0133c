/-
  LAYER 7 (msg), THE PROGRAM: rightEntry, every entry, rising.
-/
import Derived.Test.YtppjojjejabaeaaMsPrA
import Derived.Test.YtppjojjejabaeaaMsRefR
namespace Go.Proofs.Ytppjojjejabaeaa
open Go.RowKit
set_option linter.unusedVariables false
set_option maxRecDepth 100000

/-- every(isNumber, a, b) over the row that is built for it. -/
theorem every2 (a b : Int) (wx : World) (g : Nat) (hg : wx.heap.size = g) : Calls Try.prog 28 #[.func (.func 30) #[] #[], .slice (some ⟨g, 0, none⟩) 2 2] (wx.alloc (.cells #[.int .i64 a, .int .i64 b] 3)) fun e w' => e = .returned (.bool (inN a && inN b)) ∧ wx.alloc (.cells #[.int .i64 a, .int .i64 b] 3) = w' := by
  subst hg
  have := everyInt_any _ isNumber_enters inN isNumber_any (nums_lit wx [a, b] 3 2 rfl (by decide)) (by simp [maxLen])
  simpa using this
set_option maxHeartbeats 4000000 in
theorem rightEntry_any (x : Me) (w : World) : Calls Try.prog 32 #[.agg #[.int .i64 x.idx, .int .i64 x.term, .int .i64 x.kind, .string x.dt]] w (BoolPost' w (rightE x)) := by
  have HRE : Hid (rightE x = ((inN x.idx && inN x.term) && decide (1 ≤ x.kind) && decide (x.kind ≤ 3) && decide (x.dt.size ≤ 4000000))) := hid rfl
  obtain ⟨b, hb⟩ : ∃ b, rightE x = b := ⟨_, rfl⟩
  rw [hb] at HRE ⊢
  have HBw : Hid (∀ wx, wx = (w.alloc (.cells #[.int .i64 x.idx, .int .i64 x.term, .int .i64 x.kind, .string x.dt] 49)).alloc (.cells #[.int .i64 x.idx, .int .i64 x.term] 3) → Below w.heap.size w wx) := hid (fun wx h => by subst h; exact ((Below.refl _ _).alloc (Nat.le_refl _) _).alloc (by simp) _)
  have HEv := hid (every2 x.idx x.term (w.alloc (.cells #[.int .i64 x.idx, .int .i64 x.term, .int .i64 x.kind, .string x.dt] 49)) (w.heap.size + 1) (by simp))
  have HDt := hid (rightData_any x.dt)
  clear hb
  generalize (inN x.idx && inN x.term) = b0 at *
  cases b0 with
  | false =>
    obtain rfl : b = false := by rw [HRE.out]; rfl
    go_enter Try.func32, Try.ntmps32
    go_wp2_with (go_at_call 28; (with_reducible refine HEv.out.mono ?_); rintro e w1 ⟨rfl, rfl⟩)
    go_ret
    exact ⟨rfl, HBw.out _ rfl⟩
  | true =>
  by_cases h1 : 1 ≤ x.kind
  · have d1 : decide (1 ≤ x.kind) = true := decide_eq_true h1
    by_cases h3 : x.kind ≤ 3
    · have d3 : decide (x.kind ≤ 3) = true := decide_eq_true h3
      obtain ⟨bd, hbd⟩ : ∃ bd, decide (x.dt.size ≤ 4000000) = bd := ⟨_, rfl⟩
      rw [hbd] at HDt HRE
      obtain rfl : b = bd := by rw [HRE.out, d1, d3]; rfl
      clear hbd
      go_enter Try.func32, Try.ntmps32
      go_wp2_with (first
        | (go_at_call 28; (with_reducible refine HEv.out.mono ?_); rintro e w1 ⟨rfl, rfl⟩)
        | (go_at_call 34; (with_reducible refine (HDt.out _).mono ?_); rintro e w1 ⟨rfl, rfl⟩))
      go_ret
      exact ⟨rfl, HBw.out _ rfl⟩
    · have d3 : decide (x.kind ≤ 3) = false := decide_eq_false h3
      obtain rfl : b = false := by rw [HRE.out, d1, d3]; rfl
      go_enter Try.func32, Try.ntmps32
      go_wp2_with (go_at_call 28; (with_reducible refine HEv.out.mono ?_); rintro e w1 ⟨rfl, rfl⟩)
      go_ret
      exact ⟨rfl, HBw.out _ rfl⟩
  · have d1 : decide (1 ≤ x.kind) = false := decide_eq_false h1
    obtain rfl : b = false := by rw [HRE.out, d1]; rfl
    go_enter Try.func32, Try.ntmps32
    go_wp2_with (go_at_call 28; (with_reducible refine HEv.out.mono ?_); rintro e w1 ⟨rfl, rfl⟩)
    go_ret
    exact ⟨rfl, HBw.out _ rfl⟩

theorem rightEntry_enters : Enters 32 := enters_of Try.func32 (by kernel_rfl) rfl
set_option maxHeartbeats 4000000 in
theorem everyEnt_any {w : World} {v : Value} {xs : List Me} (hv : RAt enTy w v xs) (hl : xs.length ≤ maxLen) :
    Calls Try.prog 31 #[.func (.func 32) #[] #[], v] w (BoolPost' w (xs.all rightE)) := by
  obtain ⟨ao, cap, rfl, hat⟩ := ents_at hv
  have HAt := hid hat
  obtain ⟨b, hb⟩ : ∃ b, xs.all rightE = b := ⟨_, rfl⟩
  rw [hb]
  have HB := hid hb
  unfold maxLen at hl
  clear hat hv hb
  go_enter Try.func31, Try.ntmps31
  go_wp2
  go_loopw [9] (RgRel w xs) (fun i _ => xs.length - (intOf i).toNat)
  case atStart => exact ⟨0, Nat.zero_le _, rfl, Below.refl _ _, hid rfl⟩
  case round =>
    obtain ⟨k, hk, rfl, hbw, hA⟩ := hrel
    by_cases hkl : k < xs.length
    · have hkI : (k : Int) < (xs.length : Int) := by omega
      obtain ⟨x, hx⟩ : ∃ x, xs[k] = x := ⟨_, rfl⟩
      have hxk : xs[k]? = some x := by rw [List.getElem?_eq_getElem hkl, hx]
      obtain ⟨sb, so, rfl, hcs⟩ := HAt.out k x hxk
      obtain ⟨c0, c1, c2, c3⟩ := hcs _ hbw
      have HNx : Hid (rightE x = true → ∀ wx, Below w.heap.size w wx → RgRel w xs (.int .i64 ((k + 1 : Nat) : Int)) wx) := hid (fun h wx hwx => ⟨k + 1, by omega, rfl, hwx, hid (by
        rw [List.take_add_one, hxk, List.all_append, hA.out]
        simp [h])⟩)
      have HNo : Hid (rightE x = false → b = false) := hid (fun h => by
        rw [← HB.out, List.all_eq_false]
        exact ⟨x, List.mem_of_getElem? hxk, by rw [h]; simp⟩)
      have HRx := hid (rightEntry_any x)
      have HBw : Hid (Below w.heap.size w (wr.alloc (.cells #[.int .i64 x.idx, .int .i64 x.term, .int .i64 x.kind, .string x.dt] 49))) := hid (hbw.alloc hbw.size _)
      clear hx hxk hcs hbw
      generalize rightE x = y at *
      cases y with
      | false =>
        obtain rfl := HNo.out rfl
        go_wp2_with (go_at_call 32; (with_reducible refine (HRx.out _).mono ?_); rintro e w1 ⟨rfl, hb1⟩; have HB1 := hid (HBw.out.trans (hb1.mono HBw.out.size)); clear hb1)
        go_ret
        exact ⟨rfl, HB1.out⟩
      | true =>
        go_wp2_with (go_at_call 32; (with_reducible refine (HRx.out _).mono ?_); rintro e w1 ⟨rfl, hb1⟩; have HB1 := hid (HBw.out.trans (hb1.mono HBw.out.size)); clear hb1)
        go_roundw
        case rel => exact HNx.out (by trivial) _ HB1.out
        case measure => simp [intOf]; omega
    · have hA2 := hA.out
      rw [List.take_of_length_le (by omega)] at hA2
      obtain rfl : b = true := HB.out.symm.trans hA2
      have HBw := hid hbw
      clear hA2 hbw
      go_wp2
      go_ret
      exact ⟨rfl, HBw.out⟩
end Go.Proofs.Ytppjojjejabaeaa
