/-
  LAYER 9 (conf), THE DOCUMENT's ANSWER: Agreed.
-/
import Derived.Test.YtcjhiegiccekpaaCfRefA
import Derived.RegionTactic
namespace Go.Proofs.Ytcjhiegiccekpaa
open Go.RowKit
set_option linter.unusedVariables false
set_option maxRecDepth 100000

theorem bestC_snoc : ∀ (l : List Int) (o : Option Int) (x : Int), bestC o (l ++ [x]) = match bestC o l with | none => some x | some b => some (if b < x then x else b)
  | [], none, x => rfl
  | [], some b, x => rfl
  | y :: r, none, x => bestC_snoc r (some y) x
  | y :: r, some b, x => bestC_snoc r (some (if b < y then y else b)) x
theorem best_more {ms : List Int} {i : Nat} (hi : i < ms.length) : bestC none ((ms.take (i + 1)).filter (agrOk ms)) = if agrOk ms (ms.getD i 0) = true then (match bestC none ((ms.take i).filter (agrOk ms)) with | none => some (ms.getD i 0) | some b => some (if b < ms.getD i 0 then ms.getD i 0 else b)) else bestC none ((ms.take i).filter (agrOk ms)) := by
  rw [take_more hi, List.filter_append, List.filter_cons, List.filter_nil]
  by_cases h : agrOk ms (ms.getD i 0) = true
  · rw [if_pos h, if_pos h, bestC_snoc]
  · rw [if_neg h, if_neg h, List.append_nil]
theorem ge_more {ms : List Int} {k : Nat} (c : Int) (hk : k < ms.length) : geC (ms.take (k + 1)) c = geC (ms.take k) c + (if decide (c ≤ ms.getD k 0) = true then 1 else 0) := by
  unfold geC
  rw [take_more hk, List.countP_append, List.countP_singleton]
def AgRel (ms : List Int) (w : World) (u3 u4 u5 : Value) (wr : World) : Prop := ∃ (i : Nat) (o : Option Int), i ≤ ms.length ∧ u3 = .int .i64 (o.getD 0) ∧ u4 = .bool o.isSome ∧ u5 = .int .i64 (i : Int) ∧ Hid (Below w.heap.size w wr) ∧ Hid (o = bestC none ((ms.take i).filter (agrOk ms)))
def AgIn (ms : List Int) (c : Int) (w : World) (u6 u7 : Value) (wr : World) : Prop := ∃ (k n : Nat), k ≤ ms.length ∧ n ≤ k ∧ u6 = .int .i64 (n : Int) ∧ u7 = .int .i64 (k : Int) ∧ Hid (Below w.heap.size w wr) ∧ Hid (n = geC (ms.take k) c)
set_option maxHeartbeats 8000000 in
theorem refAgreed_any {w : World} {v : Value} {ms : List Int} (hv : RAt numTy w v ms) (hl : ms.length ≤ 100000) :
    Calls Try.prog 25 #[v] w fun e w' => e = .returned (.int .i64 (agreedC ms)) ∧ Below w.heap.size w w' := by
  obtain ⟨ao, cap, rfl, hat⟩ := nums_in hv
  have HAt := hid hat
  clear hat hv
  obtain ⟨ln, hn⟩ : ∃ n, ms.length = n := ⟨_, rfl⟩
  rw [hn] at HAt hl
  rw [hn]
  have HN := hid hn
  clear hn
  go_enter Try.func25, Try.ntmps25
  go_wp2
  go_loopw [3, 4, 5] (AgRel ms w) (fun _ _ i _ => ln - (intOf i).toNat)
  case atStart => exact ⟨0, none, Nat.zero_le _, rfl, rfl, rfl, hid (Below.refl _ _), hid (by simp [bestC])⟩
  case round =>
    obtain ⟨i, o, hi, rfl, rfl, rfl, hbw, ho⟩ := hrel
    by_cases hin : i < ln
    · have hiI : (i : Int) < (ln : Int) := by omega
      have hil : i < ms.length := by rw [HN.out]; exact hin
      have HBm := hid (best_more hil)
      obtain ⟨sb, so, rfl, c0⟩ := HAt.out _ hbw.out i hin
      have HC0 : Hid (∀ wx, Below w.heap.size w wx → wx.cell? ⟨sb, so + i, none⟩ = some (.int .i64 (ms.getD i 0))) := hid (fun wx hb => by
        obtain ⟨sb', so', e, c⟩ := HAt.out wx hb i hin
        cases e
        exact c)
      have HIn : Hid (i + 1 ≤ ms.length) := hid hil
      obtain ⟨x, hx⟩ : ∃ x, ms.getD i 0 = x := ⟨_, rfl⟩
      rw [hx] at HBm HC0 c0
      rw [← ho.out] at HBm
      have HOk : Hid (agrOk ms x = decide (ln < 2 * geC ms x)) := hid (by unfold agrOk; rw [HN.out])
      have HOld := hid (And.intro hbw.out ho.out)
      clear hi hil hx c0 hbw
      go_wp2
      go_loopw [6, 7] (AgIn ms x w) (fun _ k _ => ln - (intOf k).toNat)
      case atStart => exact ⟨0, 0, Nat.zero_le _, Nat.le_refl _, rfl, rfl, hid HOld.out.1, hid (by unfold geC; simp)⟩
      case round =>
        rename_i wr2
        obtain ⟨k, n, hk, hnk, rfl, rfl, hbw, hcn⟩ := hrel
        by_cases hkn : k < ln
        · have hkI : (k : Int) < (ln : Int) := by omega
          have hkl : k < ms.length := by rw [HN.out]; exact hkn
          obtain ⟨sb', so', e, c1⟩ := HAt.out _ hbw.out k hkn
          cases e
          have c0 := HC0.out _ hbw.out
          have hgm := ge_more x hkl
          have HKn : Hid (k + 1 ≤ ms.length) := hid hkl
          have HBw := hid (fun nq => below_drew hbw.out nq)
          have hcc := hcn.out
          generalize ms.getD k 0 = y at *
          clear hk hkl
          by_cases hxy : x ≤ y
          · rw [decide_eq_true hxy] at hgm
            have HC : Hid (n + 1 = geC (ms.take (k + 1)) x) := hid (by rw [hgm, ← hcc]; rfl)
            clear hgm hcc
            go_wp2
            go_quiet (fail)
            all_goals
              go_wp2
              go_roundw
              case rel => exact ⟨k + 1, n + 1, HKn.out, by omega, by go_num, by go_num, hid (HBw.out _), HC⟩
              case measure => simp [intOf]; omega
          · have hyx : y < x := by omega
            rw [decide_eq_false hxy] at hgm
            have HC : Hid (n = geC (ms.take (k + 1)) x) := hid (by rw [hgm, ← hcc]; rfl)
            clear hgm hcc hxy
            go_wp2
            go_quiet (fail)
            all_goals
              go_wp2
              go_roundw
              case rel => exact ⟨k + 1, n, HKn.out, by omega, by go_num, by go_num, hid (HBw.out _), HC⟩
              case measure => simp [intOf]; omega
        · have hkI : (ln : Int) ≤ (k : Int) := by omega
          have hkb : k ≤ ln := by have := HN.out; omega
          have hcc := hcn.out
          rw [List.take_of_length_le (by have := HN.out; omega)] at hcc
          have c0 := HC0.out _ hbw.out
          have hok := HOk.out
          rw [← hcc] at hok
          have HBw := hid hbw.out
          have hbm := HBm.out
          rw [hok] at hbm
          clear hk hcn hcc hok hbw HC0 HBm HOk HOld
          by_cases hgt : ln < 2 * n
          · have hgI : (ln : Int) < 2 * (n : Int) := by omega
            rw [decide_eq_true hgt, if_pos rfl] at hbm
            cases o with
            | none =>
              have HO : Hid (some x = bestC none ((ms.take (i + 1)).filter (agrOk ms))) := hid (by rw [hbm])
              clear hbm
              go_wp2
              go_roundw
              case rel => exact ⟨i + 1, some x, HIn.out, rfl, rfl, by go_num, HBw, HO⟩
              case measure => simp [intOf]; omega
            | some b =>
              by_cases hbx : b < x
              · have HO : Hid (some x = bestC none ((ms.take (i + 1)).filter (agrOk ms))) := hid (by rw [hbm]; simp only [if_pos hbx])
                clear hbm
                go_wp2
                go_roundw
                case rel => exact ⟨i + 1, some x, HIn.out, rfl, rfl, by go_num, HBw, HO⟩
                case measure => simp [intOf]; omega
              · have hxb : x ≤ b := by omega
                have HO : Hid (some b = bestC none ((ms.take (i + 1)).filter (agrOk ms))) := hid (by rw [hbm]; simp only [if_neg hbx])
                clear hbm hbx
                go_wp2
                go_roundw
                case rel => exact ⟨i + 1, some b, HIn.out, rfl, rfl, by go_num, HBw, HO⟩
                case measure => simp [intOf]; omega
          · have hgI : 2 * (n : Int) ≤ (ln : Int) := by omega
            rw [decide_eq_false hgt, if_neg (by simp)] at hbm
            have HO : Hid (o = bestC none ((ms.take (i + 1)).filter (agrOk ms))) := hid hbm.symm
            clear hbm hgt
            go_wp2
            go_roundw
            case rel => exact ⟨i + 1, o, HIn.out, rfl, rfl, by go_num, HBw, HO⟩
            case measure => simp [intOf]; omega
    · have hiI : (ln : Int) ≤ (i : Int) := by omega
      have hoo := ho.out
      rw [List.take_of_length_le (by have := HN.out; omega)] at hoo
      have HO : Hid (agreedC ms = o.getD 0) := hid (by unfold agreedC; rw [hoo])
      clear hoo hi
      go_wp2
      go_ret
      exact ⟨show Ending.returned (.int .i64 (o.getD 0)) = Ending.returned (.int .i64 (agreedC ms)) by rw [HO.out], hbw.out⟩
end Go.Proofs.Ytcjhiegiccekpaa
