/-
  GENERAL: the document's Rising.
-/
import Derived.Test.YtcjhiegiccekpaaGRis0
import Derived.Test.YtcjhiegiccekpaaGInts
import Derived.Deep.DeepCutAuto
namespace Go.Proofs.Ytcjhiegiccekpaa
open Go.RowKit
set_option linter.unusedVariables false
set_option maxRecDepth 100000

/-- The number ahead of the k-th one. -/
def prevZ (xs : List Int) (k : Nat) : Int := if k = 0 then 0 else xs.getD (k - 1) 0
def RisRel (xs : List Int) (w : World) (u : Value) (wr : World) : Prop :=
  ∃ k : Nat, k ≤ xs.length ∧ u = .int .i64 (k : Int) ∧ Below w.heap.size w wr ∧ Hid (risingF 0 xs = risingF (prevZ xs k) (xs.drop k)) ∧ Hid (0 < k → 1 ≤ prevZ xs k) ∧ Hid ((k : Int) ≤ prevZ xs k)
set_option maxHeartbeats 4000000 in
theorem refRising_any {w : World} {v : Value} {xs : List Int} (hv : RAt numTy w v xs) (hl : xs.length ≤ 1000000) :
    Calls Try.prog 29 #[v] w fun e w' => e = .returned (.bool (risingF 0 xs)) ∧ Below w.heap.size w w' := by
  obtain ⟨ao, cap, rfl, hat⟩ := nums_at hv
  have HAt : Hid (∀ wx, Below w.heap.size w wx → ∀ k, k < xs.length → ∃ sb so, ao = some ⟨sb, so, none⟩ ∧ wx.cell? ⟨sb, so + k, none⟩ = some (.int .i64 (xs.getD k 0))) := hid (fun wx hb k hk => by
    obtain ⟨sb, so, e, hlt, hc⟩ := hat k hk
    exact ⟨sb, so, e, (hb.cell (p := ⟨sb, so + k, none⟩) hlt).trans hc⟩)
  obtain ⟨b, hb⟩ : ∃ b, risingF 0 xs = b := ⟨_, rfl⟩
  rw [hb]
  have HB := hid hb
  clear hat hv hb
  go_enter Try.func29, Try.ntmps29
  go_wp2
  go_loopw [3] (RisRel xs w) (fun i _ => xs.length - (intOf i).toNat)
  case atStart => exact ⟨0, Nat.zero_le _, rfl, Below.refl _ _, hid (by simp [prevZ]), hid (by simp), hid (by simp [prevZ])⟩
  case round =>
    obtain ⟨k, hk, rfl, hbw, hR, hP, hQ⟩ := hrel
    by_cases hkl : k < xs.length
    · have hkI : (k : Int) < (xs.length : Int) := by omega
      obtain ⟨sb, so, rfl, c0⟩ := HAt.out _ hbw k hkl
      have hdrop : xs.drop k = xs.getD k 0 :: xs.drop (k + 1) := by
        rw [List.drop_eq_getElem_cons hkl]
        simp [List.getD, hkl]
      have hprev : prevZ xs (k + 1) = xs.getD k 0 := by unfold prevZ; simp
      have hR2 := hR.out
      rw [hdrop] at hR2
      rw [show risingF (prevZ xs k) (xs.getD k 0 :: xs.drop (k + 1)) = (decide (prevZ xs k < xs.getD k 0) && decide (xs.getD k 0 ≤ 9) && risingF (xs.getD k 0) (xs.drop (k + 1))) from rfl] at hR2
      have HNx : Hid (prevZ xs k < xs.getD k 0 → xs.getD k 0 ≤ 9 → ∀ wx, Below w.heap.size w wx → RisRel xs w (.int .i64 ((k : Int) + 1)) wx) := hid (fun h1 h2 wx hbx => ⟨k + 1, by omega, by push_cast; rfl, hbx, hid (by rw [hprev, hR2, decide_eq_true h1, decide_eq_true h2]; rfl), hid (fun _ => by rw [hprev]; have := hQ.out; omega), hid (by rw [hprev]; have := hQ.out; push_cast; omega)⟩)
      have HNo : Hid (¬ (prevZ xs k < xs.getD k 0 ∧ xs.getD k 0 ≤ 9) → risingF 0 xs = false) := hid (fun h => by
        rw [hR2]
        by_cases h1 : prevZ xs k < xs.getD k 0
        · rw [decide_eq_true h1, decide_eq_false (fun h2 => h ⟨h1, h2⟩)]; rfl
        · rw [decide_eq_false h1]; rfl)
      have HD : Hid (∀ nq, Below w.heap.size w (wr.drewN nq)) := hid (fun nq => below_drew hbw nq)
      have HJ : Hid (∀ j, k = j + 1 → wr.cell? ⟨sb, so + j, none⟩ = some (.int .i64 (prevZ xs k))) := hid (fun j hj => by
        subst hj
        have e0 : prevZ xs (j + 1) = xs.getD j 0 := by unfold prevZ; simp
        rw [e0]
        obtain ⟨sb', so', e, c⟩ := HAt.out _ hbw j (by omega)
        cases e
        exact c)
      have HZ : Hid (k = 0 → prevZ xs k = 0) := hid (fun h => by unfold prevZ; rw [if_pos h])
      have hP1 := hP.out
      have hQ1 := hQ.out
      clear hR2 hdrop hprev hbw
      generalize xs.getD k 0 = x at *
      generalize prevZ xs k = p at *
      by_cases hx1 : x < 1
      · have d1 : decide (x < 1) = true := decide_eq_true hx1
        obtain rfl : b = false := HB.out.symm.trans (HNo.out (by omega))
        go_wp2
        go_quiet (fail)
        all_goals
          go_wp2
          go_ret
          exact ⟨rfl, HD.out _⟩
      · have d1 : decide (x < 1) = false := decide_eq_false hx1
        by_cases hx9 : 9 < x
        · have d2 : decide (9 < x) = true := decide_eq_true hx9
          obtain rfl : b = false := HB.out.symm.trans (HNo.out (by omega))
          go_wp2
          go_quiet (fail)
          all_goals
            go_wp2
            go_ret
            exact ⟨rfl, HD.out _⟩
        · have d2 : decide (9 < x) = false := decide_eq_false hx9
          by_cases hk0 : k = 0
          · have d3 : decide (0 < (k : Int)) = false := decide_eq_false (by omega)
            have d4 : decide (0 < k) = false := decide_eq_false (by omega)
            have HR2 := hid (fun nq => HNx.out (by have := HZ.out hk0; omega) (by omega) _ (HD.out nq))
            have HK0 := hid hk0
            clear hk0
            go_wp2
            go_quiet (fail)
            all_goals
              go_wp2
              go_roundw
              case rel => exact HR2.out _
              case measure => simp [intOf]; omega
          · obtain ⟨j, hj⟩ : ∃ j, k = j + 1 := ⟨k - 1, by omega⟩
            have cj := HJ.out j hj
            have hWk : IntKind.i64.wrap ((k : Int) - 1) = (j : Int) := by rw [show (k : Int) - 1 = (j : Int) by omega]; exact IntWalk.i64_in _ (by omega)
            have hjI : (j : Int) < (xs.length : Int) := by omega
            have hkp : (0 : Int) < (k : Int) := by omega
            have d3 : decide (0 < (k : Int)) = true := decide_eq_true hkp
            have d4 : decide (0 < k) = true := decide_eq_true (by omega)
            have HJ2 := hid hj
            clear hj hk0
            by_cases hxp : x ≤ p
            · have d5 : decide (x ≤ p) = true := decide_eq_true hxp
              obtain rfl : b = false := HB.out.symm.trans (HNo.out (by omega))
              go_wp2
              go_quiet (fail)
              all_goals
                go_wp2
                go_ret
                exact ⟨rfl, HD.out _⟩
            · have d5 : decide (x ≤ p) = false := decide_eq_false hxp
              have HR2 := hid (fun nq => HNx.out (by omega) (by omega) _ (HD.out nq))
              go_wp2
              go_quiet (fail)
              all_goals
                go_wp2
                go_roundw
                case rel => exact HR2.out _
                case measure => simp [intOf]; omega
    · obtain rfl : k = xs.length := by omega
      have e : risingF 0 xs = true := by rw [hR.out, List.drop_length]; rfl
      obtain rfl : b = true := HB.out.symm.trans e
      have h9 := (risingF_len xs 0 e (by omega)).1
      have h9I : (xs.length : Int) ≤ 9 := by omega
      have HBw := hid hbw
      clear e h9 hbw
      go_wp2
      go_ret
      exact ⟨rfl, HBw.out⟩
end Go.Proofs.Ytcjhiegiccekpaa
