/-
  LAYER 8 (rlog), THE PROGRAM: rising, voters, sets.
-/
import Derived.Test.YtiffdhihhggkhaaMq4
import Derived.Test.YtiffdhihhggkhaaMq5
import Derived.BigQuiet
namespace Go.Proofs.Ytiffdhihhggkhaa
open Go.RowKit
set_option linter.unusedVariables false
set_option maxRecDepth 100000

def PrRel (xs : List Int) (w : World) (u v : Value) (wr : World) : Prop :=
  ∃ (k : Nat) (p : Int), k ≤ xs.length ∧ u = .int .i64 p ∧ v = .int .i64 (k : Int) ∧ Hid (risingF 0 xs = risingF p (xs.drop k)) ∧ w = wr
set_option maxHeartbeats 4000000 in
theorem plRising_any {w : World} {v : Value} {xs : List Int} (hv : RAt numTy w v xs) (hl : xs.length ≤ 1000000) :
    Calls Try.prog 60 #[v] w fun e w' => e = .returned (.bool (risingF 0 xs)) ∧ w = w' := by
  obtain ⟨ao, cap, rfl, hat⟩ := nums_at hv
  have HAt := hid hat
  obtain ⟨b, hb⟩ : ∃ b, risingF 0 xs = b := ⟨_, rfl⟩
  rw [hb]
  have HB := hid hb
  clear hat hv hb
  go_enter Try.func60, Try.ntmps60
  go_wp2
  go_loopw [3, 8] (PrRel xs w) (fun _ i _ => xs.length - (intOf i).toNat)
  case atStart => exact ⟨0, 0, Nat.zero_le _, rfl, rfl, hid rfl, rfl⟩
  case round =>
    obtain ⟨k, p, hk, rfl, rfl, hR, rfl⟩ := hrel
    by_cases hkl : k < xs.length
    · have hkI : (k : Int) < (xs.length : Int) := by omega
      obtain ⟨sb, so, rfl, hlt, c0⟩ := HAt.out k hkl
      have hdrop : xs.drop k = xs.getD k 0 :: xs.drop (k + 1) := by
        rw [List.drop_eq_getElem_cons hkl]
        simp [List.getD, hkl]
      have hR2 := hR.out
      rw [hdrop] at hR2
      rw [show risingF p (xs.getD k 0 :: xs.drop (k + 1)) = (decide (p < xs.getD k 0) && decide (xs.getD k 0 ≤ 9) && risingF (xs.getD k 0) (xs.drop (k + 1))) from rfl] at hR2
      have HR2 := hid hR2
      clear hR2 hdrop hlt
      obtain ⟨x, hx⟩ : ∃ x, xs.getD k 0 = x := ⟨_, rfl⟩
      rw [hx] at c0 HR2
      have HX := hid hx
      clear hx
      by_cases h1 : x ≤ p
      · have d1 : decide (x ≤ p) = true := decide_eq_true h1
        obtain rfl : b = false := by rw [← HB.out, HR2.out, decide_eq_false (by omega : ¬ p < x)]; rfl
        go_wp2
        go_ret
        exact ⟨rfl, rfl⟩
      · have d1 : decide (x ≤ p) = false := decide_eq_false h1
        by_cases h2 : 9 < x
        · have d2 : decide (9 < x) = true := decide_eq_true h2
          obtain rfl : b = false := by rw [← HB.out, HR2.out, decide_eq_false (by omega : ¬ x ≤ 9), Bool.and_false]; rfl
          go_wp2
          go_ret
          exact ⟨rfl, rfl⟩
        · have d2 : decide (9 < x) = false := decide_eq_false h2
          have HN : Hid (risingF 0 xs = risingF x (xs.drop (k + 1))) := hid (by rw [HR2.out, decide_eq_true (by omega : p < x), decide_eq_true (by omega : x ≤ 9)]; rfl)
          go_wp2
          go_roundw
          case rel => exact ⟨k + 1, x, hkl, rfl, by go_num, HN, rfl⟩
          case measure => simp [intOf]; omega
    · have hkn : (xs.length : Int) ≤ (k : Int) := by omega
      obtain rfl : b = true := by rw [← HB.out, hR.out, List.drop_of_length_le (by omega)]; rfl
      go_wp2
      go_ret
      exact ⟨rfl, rfl⟩
def VsPost (w : World) (q : Option (List Int)) (e : Ending) (w' : World) : Prop := ∃ a n c, e = .returned (.tuple #[.slice a n c, .bool q.isSome]) ∧ Below w.heap.size w w' ∧ ∀ l, q = some l → n = l.length ∧ RMid numTy w w' (.slice a n c) l
set_option maxHeartbeats 8000000 in
theorem plVoters1_any (x : Me) (w : World) (hx : MeB x) : Calls Try.prog 51 #[.agg #[.int .i64 x.idx, .int .i64 x.term, .int .i64 x.kind, .string x.dt]] w (VsPost w (setsE x)) := by
  obtain ⟨wB, hwB⟩ : ∃ wB, w.alloc (.cells #[.int .i64 x.idx, .int .i64 x.term, .int .i64 x.kind, .string x.dt] 49) = wB := ⟨_, rfl⟩
  have obx : own wB w.heap.size #[.int .i64 x.idx, .int .i64 x.term, .int .i64 x.kind, .string x.dt] 49 := by rw [← hwB]; exact own.new w _ _
  have hbB : Below w.heap.size w wB := by rw [← hwB]; exact (Below.refl _ _).alloc (Nat.le_refl _) _
  by_cases hk : x.kind = 3
  · have q1 : (x.kind != 3) = false := by rw [hk]; rfl
    have HT := hid (toVoters_any x.dt.data.toList wB (by rw [str_len]; have := hx.dt; unfold maxLen; omega))
    rw [mk_of] at HT
    cases hq : dV x.dt.data.toList with
    | none =>
      have hs : setsE x = none := by unfold setsE; rw [if_pos hk, hq]
      rw [hs]
      rw [hq] at HT
      unfold TVPost at HT
      have HB := hid hbB
      subst hwB
      clear obx hbB hs hq hx hk
      go_enter Try.func51, Try.ntmps51
      go_wp2_with (go_at_call 59; (with_reducible refine HT.out.mono ?_); rintro e w1 ⟨rfl, hb1⟩)
      go_ret2
      exact ⟨none, 0, 0, rfl, HB.out.trans (hb1.mono HB.out.size), fun l e => by cases e⟩
    | some p =>
      obtain ⟨xs, rr⟩ := p
      rw [hq] at HT
      obtain ⟨hxi, hxl, _⟩ := dV_sound hq
      have HR := hid (fun wx v (hv : RAt numTy wx v xs) => plRising_any hv (by omega))
      obtain ⟨b, hb⟩ : ∃ b, risingF 0 xs = b := ⟨_, rfl⟩
      rw [hb] at HR
      have HB := hid hbB
      have HM : Hid (∀ wx v, RMid numTy wB wx v xs → RMid numTy w wx v xs) := hid (fun wx v h => ⟨h.row, fun k e => by have := h.new k e; have := hbB.size; omega, hbB.trans (h.below.mono hbB.size)⟩)
      cases hr : (mk rr).toList.isEmpty with
      | true =>
        have hrr : rr = [] := by
          rw [Lib.toList_data] at hr
          exact List.isEmpty_iff.1 hr
        subst hrr
        have hr2 : (!(mk ([] : List UInt8)).toList.isEmpty) = false := by rw [hr]; rfl
        cases b with
        | true =>
          have hs : setsE x = some xs := by unfold setsE; rw [if_pos hk, hq]; simp only [hb, if_true]
          rw [hs]
          unfold TVPost at HT
          subst hwB
          clear obx hbB hs hq hx hk hxi hxl hb
          go_enter Try.func51, Try.ntmps51
          go_wp2_with (first
            | (go_at_call 59; (with_reducible refine HT.out.mono ?_); rintro e w1 ⟨a, cap, rfl, hm⟩; have C2 := hid (HR.out _ _ hm.row.rAt); have HM1 := hid (HM.out _ _ hm); clear hm)
            | (go_at_call 60; (with_reducible refine C2.out.mono ?_); rintro e w2 ⟨rfl, rfl⟩))
          go_ret2
          exact ⟨a, xs.length, cap, rfl, HM1.out.below, fun l e => by cases e; exact ⟨rfl, HM1.out⟩⟩
        | false =>
          have hs : setsE x = none := by unfold setsE; rw [if_pos hk, hq]; simp only [hb, Bool.false_eq_true, if_false]
          rw [hs]
          unfold TVPost at HT
          subst hwB
          clear obx hbB hs hq hx hk hxi hxl hb
          go_enter Try.func51, Try.ntmps51
          go_wp2_with (first
            | (go_at_call 59; (with_reducible refine HT.out.mono ?_); rintro e w1 ⟨a, cap, rfl, hm⟩; have C2 := hid (HR.out _ _ hm.row.rAt); have HM1 := hid (HM.out _ _ hm); clear hm)
            | (go_at_call 60; (with_reducible refine C2.out.mono ?_); rintro e w2 ⟨rfl, rfl⟩))
          go_ret2
          exact ⟨none, 0, 0, rfl, HM1.out.below, fun l e => by cases e⟩
      | false =>
        have hrr : rr ≠ [] := fun e => by subst e; rw [Lib.toList_data] at hr; cases hr
        have hr2 : (!(mk rr).toList.isEmpty) = true := by rw [hr]; rfl
        have hs : setsE x = none := by
          unfold setsE
          rw [if_pos hk, hq]
          cases rr with
          | nil => exact absurd rfl hrr
          | cons _ _ => rfl
        rw [hs]
        unfold TVPost at HT
        subst hwB
        clear obx hbB hs hq hx hk hxi hxl hb hrr
        go_enter Try.func51, Try.ntmps51
        go_wp2_with (go_at_call 59; (with_reducible refine HT.out.mono ?_); rintro e w1 ⟨a, cap, rfl, hm⟩; have HM1 := hid (HM.out _ _ hm); clear hm)
        go_ret2
        exact ⟨none, 0, 0, rfl, HM1.out.below, fun l e => by cases e⟩
  · have q1 : (x.kind != 3) = true := by simpa using hk
    have hs : setsE x = none := by unfold setsE; rw [if_neg hk]
    rw [hs]
    have HB := hid hbB
    subst hwB
    clear obx hbB hs hx hk
    go_enter Try.func51, Try.ntmps51
    go_wp2
    go_ret2
    exact ⟨none, 0, 0, rfl, HB.out, fun l e => by cases e⟩
/-- Does an entry set the voters, up to the Index i? -/
def setsAt (i : Int) (x : Me) : Bool := (setsE x).isSome && decide (x.idx ≤ i)
set_option maxHeartbeats 4000000 in
theorem plSets_any (i : Int) (x : Me) (w : World) (hx : MeB x) : Calls Try.prog 50 #[.int .i64 i, .agg #[.int .i64 x.idx, .int .i64 x.term, .int .i64 x.kind, .string x.dt]] w fun e w' => e = .returned (.bool (setsAt i x)) ∧ Below w.heap.size w w' := by
  have HV := hid (plVoters1_any x (w.alloc (.cells #[.int .i64 x.idx, .int .i64 x.term, .int .i64 x.kind, .string x.dt] 49)) hx)
  have HB : Hid (Below w.heap.size w (w.alloc (.cells #[.int .i64 x.idx, .int .i64 x.term, .int .i64 x.kind, .string x.dt] 49))) := hid ((Below.refl _ _).alloc (Nat.le_refl _) _)
  have obx := own.new w #[.int .i64 x.idx, .int .i64 x.term, .int .i64 x.kind, .string x.dt] 49
  have HO : Hid (∀ wx, Below (w.alloc (.cells #[.int .i64 x.idx, .int .i64 x.term, .int .i64 x.kind, .string x.dt] 49)).heap.size (w.alloc (.cells #[.int .i64 x.idx, .int .i64 x.term, .int .i64 x.kind, .string x.dt] 49)) wx → wx.cell? ⟨w.heap.size, 0, none⟩ = some (.int .i64 x.idx)) := hid (fun wx hb => ((obx.same (hb.block _ obx.lt)).cell 0).trans rfl)
  unfold VsPost at HV
  unfold setsAt
  cases hs : setsE x with
  | none =>
    rw [hs] at HV
    clear obx hs
    simp only [Option.isSome, Bool.false_and]
    go_enter Try.func50, Try.ntmps50
    go_wp2_with (go_at_call 51; (with_reducible refine HV.out.mono ?_); rintro e w1 ⟨a, n, c, rfl, hb1, -⟩)
    go_ret
    exact ⟨rfl, HB.out.trans (hb1.mono HB.out.size)⟩
  | some l =>
    rw [hs] at HV
    clear obx hs
    simp only [Option.isSome, Bool.true_and]
    go_enter Try.func50, Try.ntmps50
    go_wp2_with (go_at_call 51; (with_reducible refine HV.out.mono ?_); rintro e w1 ⟨a, n, c, rfl, hb1, -⟩; have c0 := HO.out _ hb1)
    go_ret
    exact ⟨rfl, HB.out.trans (hb1.mono HB.out.size)⟩
end Go.Proofs.Ytiffdhihhggkhaa
