/-
  LAYER 7 (msg), THE PROGRAM: rising, rightBase, Right.
-/
import Derived.Test.YtppjojjejabaeaaMsPrB
import Derived.BigQuiet
namespace Go.Proofs.Ytppjojjejabaeaa
open Go.RowKit
set_option linter.unusedVariables false
set_option maxRecDepth 100000

/-- Rising from one to the next. -/
def risT (p : Int) : List Int → Bool
  | [] => true
  | x :: r => decide (p < x) && risT x r
def risA : List Int → Bool
  | [] => true
  | x :: r => risT x r
theorem risT_eq : ∀ (l : List Int) (p : Int), risingF p l = (l.all (fun x => decide (x ≤ 9)) && risT p l)
  | [], p => rfl
  | x :: r, p => by
    rw [risingF, risT_eq r x, List.all_cons, risT]
    cases decide (p < x) <;> cases decide (x ≤ 9) <;> simp
theorem risA_eq (l : List Int) : risingF 0 l = (l.all nodeB && risA l) := by
  cases l with
  | nil => rfl
  | cons x r =>
    rw [risT_eq]
    have key : ∀ (r : List Int) (p : Int), 1 ≤ p → risT p r = true → (r.all (fun x => decide (x ≤ 9)) = r.all nodeB) := by
      intro r
      induction r with
      | nil => intro p _ _; rfl
      | cons y s ih =>
        intro p hp h
        rw [risT] at h
        simp only [Bool.and_eq_true, decide_eq_true_eq] at h
        rw [List.all_cons, List.all_cons, ih y (by omega) h.2]
        congr 1
        unfold nodeB
        rw [decide_eq_true (by omega : 1 ≤ y), Bool.true_and]
    by_cases hx : 1 ≤ x
    · have e1 : risT 0 (x :: r) = risT x r := by rw [risT, decide_eq_true (by omega : 0 < x), Bool.true_and]
      rw [e1]
      show _ = ((x :: r).all nodeB && risT x r)
      cases h : risT x r with
      | false => simp
      | true =>
        rw [Bool.and_true, Bool.and_true, List.all_cons, List.all_cons, key r x hx h]
        congr 1
        unfold nodeB
        rw [decide_eq_true hx, Bool.true_and]
    · have e1 : risT 0 (x :: r) = false := by rw [risT, decide_eq_false (by omega : ¬ 0 < x), Bool.false_and]
      have e2 : nodeB x = false := by unfold nodeB; rw [decide_eq_false hx, Bool.false_and]
      have e3 : (x :: r).all nodeB = false := by rw [List.all_cons, e2, Bool.false_and]
      rw [e1, e3, Bool.and_false, Bool.false_and]
def RsRel (w : World) (xs : List Int) (u : Value) (wr : World) : Prop :=
  ∃ k : Nat, 1 ≤ k ∧ (k ≤ xs.length ∨ k = 1) ∧ u = .int .i64 (k : Int) ∧ Below w.heap.size w wr ∧ Hid (k ≤ xs.length → risA xs = risT (xs.getD (k - 1) 0) (xs.drop k))
set_option maxHeartbeats 4000000 in
theorem rising_any {w : World} {v : Value} {xs : List Int} (hv : RAt numTy w v xs) (hl : xs.length ≤ maxLen) :
    Calls Try.prog 51 #[v] w fun e w' => e = .returned (.bool (risA xs)) ∧ Below w.heap.size w w' := by
  obtain ⟨ao, cap, rfl, hat⟩ := nums_at hv
  have HAt := hid hat
  obtain ⟨b, hb⟩ : ∃ b, risA xs = b := ⟨_, rfl⟩
  rw [hb]
  have HB := hid hb
  unfold maxLen at hl
  clear hat hv hb
  go_enter Try.func51, Try.ntmps51
  go_wp2
  go_loopw [3] (RsRel w xs) (fun i _ => xs.length + 1 - (intOf i).toNat)
  case atStart => exact ⟨1, Nat.le_refl _,   .inr rfl, rfl, Below.refl _ _, hid (fun h => by
    cases xs with
    | nil => simp at h
    | cons x r => rfl)⟩
  case round =>
    obtain ⟨k, hk1, hk, rfl, hbw, hR⟩ := hrel
    have HBw : Hid (∀ n, Below w.heap.size w (wr.drewN n)) := hid (fun n => below_drew hbw n)
    by_cases hkl : k < xs.length
    · have hkI : (k : Int) < (xs.length : Int) := by omega
      obtain ⟨j, hj⟩ : ∃ j, k = j + 1 := ⟨k - 1, by omega⟩
      have hjI : (j : Int) < (xs.length : Int) := by omega
      obtain ⟨sb, so, rfl, hlt, c0⟩ := HAt.out j (by omega)
      obtain ⟨sb', so', e', _, c1⟩ := HAt.out k hkl
      cases e'
      have hc0 : wr.cell? ⟨sb, so + j, none⟩ = some (.int .i64 (xs.getD j 0)) := (hbw.cell (p := ⟨sb, so + j, none⟩) hlt).trans c0
      have hc1 : wr.cell? ⟨sb, so + k, none⟩ = some (.int .i64 (xs.getD k 0)) := (hbw.cell (p := ⟨sb, so + k, none⟩) hlt).trans c1
      have hR2 := hR.out (by omega)
      rw [List.drop_eq_getElem_cons hkl, show xs[k] = xs.getD k 0 by simp [List.getD, hkl], risT, show k - 1 = j by omega] at hR2
      have HNo : Hid (xs.getD k 0 ≤ xs.getD j 0 → b = false) := hid (fun h => by rw [← HB.out, hR2, decide_eq_false (by omega)]; rfl)
      have HNx : Hid (¬ xs.getD k 0 ≤ xs.getD j 0 → risA xs = risT (xs.getD k 0) (xs.drop (k + 1))) := hid (fun h => by rw [hR2, decide_eq_true (by omega), Bool.true_and])
      have hW : IntKind.i64.wrap ((k : Int) - 1) = (j : Int) := by rw [show (k : Int) - 1 = (j : Int) by omega]; exact IntWalk.i64_in _ (by omega)
      have HJ := hid hj
      clear hR2 c0 c1 hR hj hbw
      obtain ⟨x, hx⟩ : ∃ x, xs.getD k 0 = x := ⟨_, rfl⟩
      obtain ⟨p, hp⟩ : ∃ p, xs.getD j 0 = p := ⟨_, rfl⟩
      rw [hx] at hc1 HNo HNx
      rw [hp] at hc0 HNo HNx
      have HX := hid hx
      clear hx hp
      by_cases hxp : x ≤ p
      · have d5 : decide (x ≤ p) = true := decide_eq_true hxp
        obtain rfl := HNo.out hxp
        go_wp2
        go_quiet (fail)
        all_goals
          go_wp2
          go_ret
          exact ⟨rfl, HBw.out _⟩
      · have d5 : decide (x ≤ p) = false := decide_eq_false hxp
        have HN2 := hid (HNx.out hxp)
        go_wp2
        go_quiet (fail)
        all_goals
          go_wp2
          go_roundw
          case rel => exact ⟨k + 1, by omega, .inl hkl, by go_num, HBw.out _, hid (fun _ => by rw [Nat.add_sub_cancel, HX.out]; exact HN2.out)⟩
          case measure => simp [intOf]; omega
    · have hk2 : ¬ (k : Int) < (xs.length : Int) := by omega
      have e : risA xs = true := by
        cases xs with
        | nil => rfl
        | cons y r =>
          rw [hR.out (by rcases hk with h | h; exact h; subst h; simp), List.drop_of_length_le (by omega)]
          rfl
      obtain rfl : b = true := HB.out.symm.trans e
      clear e
      go_wp2
      go_ret
      exact ⟨rfl, HBw.out 0⟩
end Go.Proofs.Ytppjojjejabaeaa
