/-
  LAYER 8 (rlog), THE DOCUMENT's LOG: sets, Voters.
-/
import Derived.Test.YtiffdhihhggkhaaRlRef2
namespace Go.Proofs.Ytiffdhihhggkhaa
open Go.RowKit
set_option linter.unusedVariables false
set_option maxRecDepth 100000

def SePost (w : World) (q : Option (List Int)) (e : Ending) (w' : World) : Prop := ∃ a n c, e = .returned (.tuple #[.slice a n c, .bool q.isSome]) ∧ Below w.heap.size w w' ∧ ∀ l, q = some l → n = l.length ∧ RMid numTy w w' (.slice a n c) l
set_option maxHeartbeats 8000000 in
theorem rfSets_any (x : Me) (w : World) (hx : MeB x) : Calls Try.prog 54 #[.agg #[.int .i64 x.idx, .int .i64 x.term, .int .i64 x.kind, .string x.dt]] w (SePost w (setsE x)) := by
  obtain ⟨wB, hwB⟩ : ∃ wB, w.alloc (.cells #[.int .i64 x.idx, .int .i64 x.term, .int .i64 x.kind, .string x.dt] 49) = wB := ⟨_, rfl⟩
  have obx : own wB w.heap.size #[.int .i64 x.idx, .int .i64 x.term, .int .i64 x.kind, .string x.dt] 49 := by rw [← hwB]; exact own.new w _ _
  have hbB : Below w.heap.size w wB := by rw [← hwB]; exact (Below.refl _ _).alloc (Nat.le_refl _) _
  by_cases hk : x.kind = 3
  · have q1 : (x.kind != 3) = false := by rw [hk]; rfl
    have HT := hid (refToVoters_any x.dt.data.toList wB (by rw [str_len]; have := hx.dt; unfold maxLen; omega))
    rw [mk_of] at HT
    cases hq : dV x.dt.data.toList with
    | none =>
      have hs : setsE x = none := by unfold setsE; rw [if_pos hk, hq]
      rw [hs]
      rw [hq] at HT
      have HR := hid (fun wx => refRising_any (w := wx) (v := .slice none 0 0) (xs := []) (rAt_nil wx) (by simp))
      unfold TVPost at HT
      have HB := hid hbB
      subst hwB
      clear obx hbB hs hq hx hk
      go_enter Try.func54, Try.ntmps54
      go_wp2_with (first
        | (go_at_call 62; (with_reducible refine HT.out.mono ?_); rintro e w1 ⟨rfl, hb1⟩)
        | (go_at_call 63; (with_reducible refine (HR.out _).mono ?_); rintro e w2 ⟨rfl, hb2⟩))
      go_ret2
      exact ⟨none, 0, 0, rfl, HB.out.trans ((hb1.trans (hb2.mono hb1.size)).mono HB.out.size), fun l e => by cases e⟩
    | some p =>
      obtain ⟨xs, rr⟩ := p
      rw [hq] at HT
      obtain ⟨hxi, hxl, _⟩ := dV_sound hq
      have HR := hid (fun wx v (hv : RAt numTy wx v xs) => refRising_any hv (by omega))
      obtain ⟨b, hb⟩ : ∃ b, risingF 0 xs = b := ⟨_, rfl⟩
      rw [hb] at HR
      have HB := hid hbB
      have HM : Hid (∀ wx v, RMid numTy wB wx v xs → RMid numTy w wx v xs) := hid (fun wx v h => ⟨h.row, fun k e => by have := h.new k e; have := hbB.size; omega, hbB.trans (h.below.mono hbB.size)⟩)
      cases hr : (mk rr).toList == ([] : List UInt8) with
      | true =>
        have hrr : rr = [] := by
          rw [Lib.toList_data] at hr
          have h2 : (rr == ([] : List UInt8)) = true := hr
          cases rr with
          | nil => rfl
          | cons _ _ => cases h2
        subst hrr
        cases b with
        | true =>
          have hs : setsE x = some xs := by unfold setsE; rw [if_pos hk, hq]; simp only [hb, if_true]
          rw [hs]
          unfold TVPost at HT
          subst hwB
          clear obx hbB hs hq hx hk hxi hxl hb
          go_enter Try.func54, Try.ntmps54
          go_wp2_with (first
            | (go_at_call 62; (with_reducible refine HT.out.mono ?_); rintro e w1 ⟨a, cap, rfl, hm⟩; have C2 := hid (HR.out _ _ hm.row.rAt); have HM1 := hid (HM.out _ _ hm); clear hm)
            | (go_at_call 63; (with_reducible refine C2.out.mono ?_); rintro e w2 ⟨rfl, hb2⟩))
          go_ret2
          exact ⟨a, xs.length, cap, rfl, (HM1.out.later hb2).below, fun l e => by cases e; exact ⟨rfl, HM1.out.later hb2⟩⟩
        | false =>
          have hs : setsE x = none := by unfold setsE; rw [if_pos hk, hq]; simp only [hb, Bool.false_eq_true, if_false]
          rw [hs]
          unfold TVPost at HT
          subst hwB
          clear obx hbB hs hq hx hk hxi hxl hb
          go_enter Try.func54, Try.ntmps54
          go_wp2_with (first
            | (go_at_call 62; (with_reducible refine HT.out.mono ?_); rintro e w1 ⟨a, cap, rfl, hm⟩; have C2 := hid (HR.out _ _ hm.row.rAt); have HM1 := hid (HM.out _ _ hm); clear hm)
            | (go_at_call 63; (with_reducible refine C2.out.mono ?_); rintro e w2 ⟨rfl, hb2⟩))
          go_ret2
          exact ⟨a, xs.length, cap, rfl, (HM1.out.later hb2).below, fun l e => by cases e⟩
      | false =>
        have hrr : rr ≠ [] := fun e => by subst e; rw [Lib.toList_data] at hr; cases hr
        have hs : setsE x = none := by
          unfold setsE
          rw [if_pos hk, hq]
          cases rr with
          | nil => exact absurd rfl hrr
          | cons _ _ => rfl
        rw [hs]
        unfold TVPost at HT
        subst hwB
        clear obx hbB hs hq hx hk hxi hxl hb hrr
        go_enter Try.func54, Try.ntmps54
        go_wp2_with (first
          | (go_at_call 62; (with_reducible refine HT.out.mono ?_); rintro e w1 ⟨a, cap, rfl, hm⟩; have C2 := hid (HR.out _ _ hm.row.rAt); have HM1 := hid (HM.out _ _ hm); clear hm)
          | (go_at_call 63; (with_reducible refine C2.out.mono ?_); rintro e w2 ⟨rfl, hb2⟩))
        go_ret2
        exact ⟨a, xs.length, cap, rfl, (HM1.out.later hb2).below, fun l e => by cases e⟩
  · have q1 : (x.kind != 3) = true := by simpa using hk
    have hs : setsE x = none := by unfold setsE; rw [if_neg hk]
    rw [hs]
    have HB := hid hbB
    subst hwB
    clear obx hbB hs hx hk
    go_enter Try.func54, Try.ntmps54
    go_wp2
    go_ret2
    exact ⟨none, 0, 0, rfl, HB.out, fun l e => by cases e⟩
end Go.Proofs.Ytiffdhihhggkhaa
