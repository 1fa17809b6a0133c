import Derived.Test.YtbccikefccdekaaGreatDoorSnRtJ
import Derived.Test.YtbccikefccdekaaGreatDoorMq0J
/-
  LAYER 4 (snap), THE DOCUMENT's ANSWER: Right. (Written by wip/tools/gen4_ref.py.)
-/
namespace Go.Proofs.YtbccikefccdekaaGreatDoor
open Go.RowKit
set_option linter.unusedVariables false
set_option maxRecDepth 100000

/-- The number ahead of the k-th one. -/
def prevS (xs : List Int) (k : Nat) : Int := if k = 0 then 0 else xs.getD (k - 1) 0
def SrRel (xs : List Int) (W1 : World) (u : Value) (wr : World) : Prop :=
  ∃ k : Nat, k ≤ xs.length ∧ u = .int .i64 (k : Int) ∧ Below W1.heap.size W1 wr ∧ Hid (risingF 0 xs = risingF (prevS xs k) (xs.drop k)) ∧ Hid (0 < k → 1 ≤ prevS xs k) ∧ Hid ((k : Int) ≤ prevS xs k)
set_option maxHeartbeats 16000000 in
theorem srRight_any {w : World} {b : Bs} {vv : Value} (h : BAt w vv b) : Calls Tryz.prog 11 #[bval b vv] w fun e w' => e = .returned (.bool (rightS b)) ∧ Below w.heap.size w w' := by
  obtain ⟨W1, hW1⟩ : ∃ W1, w.alloc (.cells #[.int .i64 b.ix, .int .i64 b.tm, vv, .string (mk b.data)] 24) = W1 := ⟨_, rfl⟩
  have hb1 : Below w.heap.size w W1 := by rw [← hW1]; exact (Below.refl _ _).alloc (Nat.le_refl _) _
  have o1 : own W1 w.heap.size (bcells b vv) 24 := by rw [← hW1]; exact own.new _ _ _
  have hv1 := (h.below hb1).vot
  have hvl := h.vl
  dsimp only [bval]
  obtain ⟨ao, cap, rfl, hat⟩ := hv1
  have HBx : Hid (∀ wx, Below W1.heap.size W1 wx → wx.cell? ⟨w.heap.size, 0, none⟩ = some (.int .i64 b.ix) ∧ wx.cell? ⟨w.heap.size, 1, none⟩ = some (.int .i64 b.tm) ∧ wx.cell? ⟨w.heap.size, 2, none⟩ = some (.slice ao b.vot.length cap) ∧ wx.cell? ⟨w.heap.size, 3, none⟩ = some (.string (mk b.data)) ∧ Below w.heap.size w wx) := hid (fun wx hb => by
    have o2 := o1.same (hb.block _ o1.lt)
    exact ⟨(o2.cell 0).trans rfl, (o2.cell 1).trans rfl, (o2.cell 2).trans rfl, (o2.cell 3).trans rfl, hb1.trans (hb.mono hb1.size)⟩)
  have HAt : Hid (∀ wx, Below W1.heap.size W1 wx → ∀ k, k < b.vot.length → ∃ sb so, ao = some ⟨sb, so, none⟩ ∧ wx.cell? ⟨sb, so + k, none⟩ = some (.int .i64 (b.vot.getD k 0))) := hid (fun wx hb k hk => by
    obtain ⟨sb, so, e, hlt, hc⟩ := hat (fun e => by rw [e] at hk; exact absurd hk (Nat.not_lt_zero _))
    refine ⟨sb, so, e, (hb.cell (p := ⟨sb, so + k, none⟩) hlt).trans (hc k _ ?_)⟩
    simp [List.getD, hk])
  obtain ⟨r, hr⟩ : ∃ r, rightS b = r := ⟨_, rfl⟩
  rw [hr]
  have HRes : Hid (r = _) := hid (hr.symm.trans (rightS_is b))
  have hsz : (mk b.data).size = b.data.length := mk_size _
  clear hr h hb1 o1 hat
  generalize mk b.data = ds at *
  rw [← hsz] at HRes
  generalize b.ix = ix at *
  generalize b.tm = tm at *
  generalize b.vot = xs at *
  clear hsz
  go_enter Tryz.func11, Tryz.ntmps11
  go_wp2
  go_loopw [3] (SrRel xs W1) (fun i _ => xs.length - (intOf i).toNat)
  case atStart => exact ⟨0, Nat.zero_le _, rfl, Below.refl _ _, hid (by simp [prevS]), hid (by simp), hid (by simp [prevS])⟩
  case round =>
    obtain ⟨k, hk, rfl, hbw, hR, hP, hQ⟩ := hrel
    obtain ⟨p0, p1, p2, p3, -⟩ := HBx.out _ hbw
    have HD : Hid (∀ nq, Below w.heap.size w (wr.drewN nq)) := hid (fun nq => below_drew (HBx.out _ hbw).2.2.2.2 nq)
    by_cases hkl : k < xs.length
    · have hkI : (k : Int) < (xs.length : Int) := by omega
      obtain ⟨sb, so, rfl, c0⟩ := HAt.out _ hbw k hkl
      have hdrop : xs.drop k = xs.getD k 0 :: xs.drop (k + 1) := by
        rw [List.drop_eq_getElem_cons hkl]
        simp [List.getD, hkl]
      have hprev : prevS xs (k + 1) = xs.getD k 0 := by unfold prevS; simp
      have hR2 := hR.out
      rw [hdrop] at hR2
      rw [show risingF (prevS xs k) (xs.getD k 0 :: xs.drop (k + 1)) = (decide (prevS xs k < xs.getD k 0) && decide (xs.getD k 0 ≤ 9) && risingF (xs.getD k 0) (xs.drop (k + 1))) from rfl] at hR2
      have HD1 : Hid (∀ nq, Below W1.heap.size W1 (wr.drewN nq)) := hid (fun nq => below_drew hbw nq)
      have HNx : Hid (prevS xs k < xs.getD k 0 → xs.getD k 0 ≤ 9 → ∀ wx, Below W1.heap.size W1 wx → SrRel xs W1 (.int .i64 ((k : Int) + 1)) wx) := hid (fun h1 h2 wx hbx => ⟨k + 1, by omega, by push_cast; rfl, hbx, hid (by rw [hprev, hR2, decide_eq_true h1, decide_eq_true h2]; rfl), hid (fun _ => by rw [hprev]; have := hQ.out; omega), hid (by rw [hprev]; have := hQ.out; push_cast; omega)⟩)
      have HNo : Hid (¬ (prevS xs k < xs.getD k 0 ∧ xs.getD k 0 ≤ 9) → r = false) := hid (fun h => by
        have hf : risingF 0 xs = false := by
          rw [hR2]
          by_cases h1 : prevS xs k < xs.getD k 0
          · rw [decide_eq_true h1, decide_eq_false (fun h2 => h ⟨h1, h2⟩)]; rfl
          · rw [decide_eq_false h1]; rfl
        rw [HRes.out, hf]
        simp)
      have HJ : Hid (∀ j, k = j + 1 → wr.cell? ⟨sb, so + j, none⟩ = some (.int .i64 (prevS xs k))) := hid (fun j hj => by
        subst hj
        have e0 : prevS xs (j + 1) = xs.getD j 0 := by unfold prevS; simp
        rw [e0]
        obtain ⟨sb', so', e, c⟩ := HAt.out _ hbw j (by omega)
        cases e
        exact c)
      have HZ : Hid (k = 0 → prevS xs k = 0) := hid (fun h => by unfold prevS; rw [if_pos h])
      have hP1 := hP.out
      have hQ1 := hQ.out
      clear hR2 hdrop hprev hbw
      generalize xs.getD k 0 = x at *
      generalize prevS xs k = p at *
      by_cases hx1 : x < 1
      · have d1 : decide (x < 1) = true := decide_eq_true hx1
        obtain rfl : r = false := HNo.out (by omega)
        go_wp2
        go_quiet (fail)
        all_goals
          go_wp2
          go_ret
          exact ⟨rfl, HD.out _⟩
      · have d1 : decide (x < 1) = false := decide_eq_false hx1
        by_cases hx9 : 9 < x
        · have d2 : decide (9 < x) = true := decide_eq_true hx9
          obtain rfl : r = false := HNo.out (by omega)
          go_wp2
          go_quiet (fail)
          all_goals
            go_wp2
            go_ret
            exact ⟨rfl, HD.out _⟩
        · have d2 : decide (9 < x) = false := decide_eq_false hx9
          by_cases hk0 : k = 0
          · have d3 : decide (0 < (k : Int)) = false := decide_eq_false (by omega)
            have d4 : decide (0 < k) = false := decide_eq_false (by omega)
            have HR2 := hid (fun nq => HNx.out (by have := HZ.out hk0; omega) (by omega) _ (HD1.out nq))
            have HK0 := hid hk0
            clear hk0
            go_wp2
            go_quiet (fail)
            all_goals
              go_wp2
              go_roundw
              case rel => exact HR2.out _
              case measure => simp [intOf]; omega
          · obtain ⟨j, hj⟩ : ∃ j, k = j + 1 := ⟨k - 1, by omega⟩
            have cj := HJ.out j hj
            have hWk : IntKind.i64.wrap ((k : Int) - 1) = (j : Int) := by rw [show (k : Int) - 1 = (j : Int) by omega]; exact IntWalk.i64_in _ (by omega)
            have hjI : (j : Int) < (xs.length : Int) := by omega
            have hkp : (0 : Int) < (k : Int) := by omega
            have d3 : decide (0 < (k : Int)) = true := decide_eq_true hkp
            have d4 : decide (0 < k) = true := decide_eq_true (by omega)
            have HJ2 := hid hj
            clear hj hk0
            by_cases hxp : x ≤ p
            · have d5 : decide (x ≤ p) = true := decide_eq_true hxp
              obtain rfl : r = false := HNo.out (by omega)
              go_wp2
              go_quiet (fail)
              all_goals
                go_wp2
                go_ret
                exact ⟨rfl, HD.out _⟩
            · have d5 : decide (x ≤ p) = false := decide_eq_false hxp
              have HR2 := hid (fun nq => HNx.out (by omega) (by omega) _ (HD1.out nq))
              go_wp2
              go_quiet (fail)
              all_goals
                go_wp2
                go_roundw
                case rel => exact HR2.out _
                case measure => simp [intOf]; omega
    · obtain rfl : k = xs.length := by omega
      have e : risingF 0 xs = true := by rw [hR.out, List.drop_length]; rfl
      have h9 := (risingF_len xs 0 e (by omega)).1
      have h9I : (xs.length : Int) ≤ 9 := by omega
      have d9 : decide ((xs.length : Int) ≤ 9) = true := decide_eq_true h9I
      have hRes := HRes.out
      rw [e, Bool.true_and] at hRes
      have HRs := hid hRes
      have HE := hid (HD.out 0)
      clear hRes e hR hP hQ h9 HRes
      by_cases h0 : (1 : Int) ≤ ix
      rotate_left
      · have d : decide ((1 : Int) ≤ ix) = false := decide_eq_false h0
        obtain rfl : r = false := by rw [HRs.out]; simp [h0]
        clear HRs
        go_wp2
        go_ret
        exact ⟨rfl, HE.out⟩
      have dh0 : decide ((1 : Int) ≤ ix) = true := decide_eq_true h0
      by_cases h1 : ix ≤ (1099511627776 : Int)
      rotate_left
      · have d : decide (ix ≤ (1099511627776 : Int)) = false := decide_eq_false h1
        obtain rfl : r = false := by rw [HRs.out]; simp [h1]
        clear HRs
        go_wp2
        go_ret
        exact ⟨rfl, HE.out⟩
      have dh1 : decide (ix ≤ (1099511627776 : Int)) = true := decide_eq_true h1
      by_cases h2 : (0 : Int) ≤ tm
      rotate_left
      · have d : decide ((0 : Int) ≤ tm) = false := decide_eq_false h2
        obtain rfl : r = false := by rw [HRs.out]; simp [h2]
        clear HRs
        go_wp2
        go_ret
        exact ⟨rfl, HE.out⟩
      have dh2 : decide ((0 : Int) ≤ tm) = true := decide_eq_true h2
      by_cases h3 : tm ≤ (1099511627776 : Int)
      rotate_left
      · have d : decide (tm ≤ (1099511627776 : Int)) = false := decide_eq_false h3
        obtain rfl : r = false := by rw [HRs.out]; simp [h3]
        clear HRs
        go_wp2
        go_ret
        exact ⟨rfl, HE.out⟩
      have dh3 : decide (tm ≤ (1099511627776 : Int)) = true := decide_eq_true h3
      by_cases h4 : 1 ≤ xs.length
      rotate_left
      · have h4I : ¬ (1 : Int) ≤ (xs.length : Int) := by omega
        have d : decide ((1 : Int) ≤ (xs.length : Int)) = false := decide_eq_false h4I
        have hne : xs = [] := List.length_eq_zero_iff.1 (by omega)
        obtain rfl : r = false := by rw [HRs.out, hne]; simp
        clear HRs hne
        go_wp2
        go_ret
        exact ⟨rfl, HE.out⟩
      have h4I : (1 : Int) ≤ (xs.length : Int) := by omega
      have dh4 : decide ((1 : Int) ≤ (xs.length : Int)) = true := decide_eq_true h4I
      have HNe : Hid (xs ≠ []) := hid (fun e => by rw [e] at h4; exact absurd h4 (by decide))
      by_cases h5 : (ds.size : Int) ≤ (4000000 : Int)
      · have d5 : decide ((ds.size : Int) ≤ (4000000 : Int)) = true := decide_eq_true h5
        obtain rfl : r = true := by
          have := HNe.out
          rw [HRs.out]; simp [h0, h1, h2, h3, h5, this]
        clear HRs
        go_wp2
        go_ret
        exact ⟨rfl, HE.out⟩
      · have d5 : decide ((ds.size : Int) ≤ (4000000 : Int)) = false := decide_eq_false h5
        obtain rfl : r = false := by rw [HRs.out]; simp [h5]
        clear HRs
        go_wp2
        go_ret
        exact ⟨rfl, HE.out⟩
end Go.Proofs.YtbccikefccdekaaGreatDoor

