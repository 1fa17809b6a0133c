/-
  LAYER 7 (msg), THE PROGRAM: every, isNode, isNumber, rightData, rising.
-/
import Derived.Test.YtppjojjejabaeaaMsRow
import Derived.Deep.RegionHeld3
namespace Go.Proofs.Ytppjojjejabaeaa
open Go.RowKit
set_option linter.unusedVariables false
set_option maxRecDepth 100000

def nodeB (n : Int) : Bool := decide (1 ≤ n) && decide (n ≤ 9)
theorem isNode_any (n : Int) (w : World) : Calls Try.prog 29 #[.int .i64 n] w fun e w' => e = .returned (.bool (nodeB n)) ∧ w = w' := by
  by_cases h0 : 1 ≤ n
  · have e : nodeB n = decide (n ≤ 9) := by unfold nodeB; rw [decide_eq_true h0, Bool.true_and]
    rw [e]
    clear e
    go_enter Try.func29, Try.ntmps29
    go_wp2
    go_ret
    exact ⟨rfl, rfl⟩
  · have e : nodeB n = false := by unfold nodeB; rw [decide_eq_false h0, Bool.false_and]
    have hn : n < 1 := by omega
    rw [e]
    clear e h0
    go_enter Try.func29, Try.ntmps29
    go_wp2
    go_ret
    exact ⟨rfl, rfl⟩
theorem isNumber_any (n : Int) (w : World) : Calls Try.prog 30 #[.int .i64 n] w fun e w' => e = .returned (.bool (inN n)) ∧ w = w' := by
  by_cases h0 : 0 ≤ n
  · have e : inN n = decide (n ≤ 1099511627776) := by unfold inN; rw [decide_eq_true h0, Bool.true_and]
    rw [e]
    clear e
    go_enter Try.func30, Try.ntmps30
    go_wp2
    go_ret
    exact ⟨rfl, rfl⟩
  · have e : inN n = false := by unfold inN; rw [decide_eq_false h0, Bool.false_and]
    have hn : n < 0 := by omega
    rw [e]
    clear e h0
    go_enter Try.func30, Try.ntmps30
    go_wp2
    go_ret
    exact ⟨rfl, rfl⟩
theorem rightData_any (s : ByteArray) (w : World) : Calls Try.prog 34 #[.string s] w fun e w' => e = .returned (.bool (decide (s.size ≤ 4000000))) ∧ w = w' := by
  go_enter Try.func34, Try.ntmps34
  go_wp2
  go_ret
  exact ⟨by simp; omega, rfl⟩

/-- A function with a body, entered by its number. -/
def Enters (f : FuncId) : Prop := ∀ (args : Array Value) (w : World), (callFunc f args).run Try.prog w = .ok (.enter f args) w
theorem enters_of {f : FuncId} {fn : Func} {c : Code} (hf : Try.prog.funcs[f]? = some fn) (hname : (fn.name == "runtime.NumGoroutine") = false) (hb : fn.body = some c) : Enters f := fun args w => by
  have h1 : fn.name ≠ "runtime.NumGoroutine" := by simpa using hname
  simp [callFunc, hf, h1, hb]
theorem isNode_enters : Enters 29 := enters_of Try.func29 (by kernel_rfl) rfl
theorem isNumber_enters : Enters 30 := enters_of Try.func30 (by kernel_rfl) rfl

set_option maxHeartbeats 2000000 in
theorem everyInt_any (f : FuncId) (hen : Enters f) (p : Int → Bool) (hf : ∀ x wx, Calls Try.prog f #[.int .i64 x] wx fun e w' => e = .returned (.bool (p x)) ∧ wx = w') {w : World} {v : Value} {xs : List Int} (hv : RAt numTy w v xs) (hl : xs.length ≤ maxLen) :
    Calls Try.prog 28 #[.func (.func f) #[] #[], v] w fun e w' => e = .returned (.bool (xs.all p)) ∧ w = w' := by
  obtain ⟨ao, cap, rfl, hat⟩ := nums_at hv
  have HAt := hid hat
  have eg : ∀ (args : Array Value) (w : World), (callFunc f args).run Try.prog w = .ok (.enter f args) w := hen
  have HF := hid hf
  clear hen
  obtain ⟨b, hb⟩ : ∃ b, xs.all p = b := ⟨_, rfl⟩
  rw [hb]
  have HB := hid hb
  unfold maxLen at hl
  clear hat hv hb hf
  go_enter Try.func28, Try.ntmps28
  go_wp2
  go_loopw [9] (fun i wr => ∃ k : Nat, k ≤ xs.length ∧ i = .int .i64 k ∧ wr = w ∧ Hid ((xs.take k).all p = true)) (fun i _ => xs.length - (intOf i).toNat)
  case atStart => exact ⟨0, Nat.zero_le _, rfl, rfl, hid rfl⟩
  case round =>
    obtain ⟨k, hk, rfl, rfl, hA⟩ := hrel
    by_cases hkl : k < xs.length
    · have hkI : (k : Int) < (xs.length : Int) := by omega
      obtain ⟨sb, so, rfl, hlt, c0⟩ := HAt.out k hkl
      have hget : xs.getD k 0 = xs[k] := by simp [List.getD, hkl]
      have hT1 : Hid ((xs.take (k + 1)).all p = p (xs.getD k 0)) := hid (by rw [List.take_succ_eq_append_getElem hkl, List.all_append, hA.out, hget]; simp)
      have hT2 : Hid (p (xs.getD k 0) = false → b = false) := hid (fun h => by
        rw [← HB.out]
        rw [List.all_eq_false]
        exact ⟨xs[k], List.getElem_mem _, by rw [← hget, h]; simp⟩)
      have HFx := hid (HF.out (xs.getD k 0))
      clear hget
      generalize xs.getD k 0 = x at *
      generalize p x = y at *
      cases y with
      | false =>
        obtain rfl := hT2.out rfl
        go_wp2_with ((with_reducible refine (HFx.out _).mono ?_); rintro e w1 ⟨rfl, rfl⟩)
        go_ret
        exact ⟨rfl, rfl⟩
      | true =>
        go_wp2_with ((with_reducible refine (HFx.out _).mono ?_); rintro e w1 ⟨rfl, rfl⟩)
        go_roundw
        case rel => exact ⟨k + 1, by omega, by go_num, by trivial, hT1⟩
        case measure => simp [intOf]; omega
    · have hA2 := hA.out
      rw [List.take_of_length_le (by omega)] at hA2
      obtain rfl : b = true := HB.out.symm.trans hA2
      clear hA2
      go_wp2
      go_ret
      exact ⟨rfl, rfl⟩
end Go.Proofs.Ytppjojjejabaeaa
