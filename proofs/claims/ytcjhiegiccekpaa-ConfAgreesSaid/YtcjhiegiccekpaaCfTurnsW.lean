/-
  LAYER 9 (conf), the law ConfTurns: its walk.
-/
import Derived.Test.YtcjhiegiccekpaaCfStepsW
namespace Go.Proofs.Ytcjhiegiccekpaa
open Go.RowKit
set_option linter.unusedVariables false
set_option maxRecDepth 100000

theorem inc_more {l : List Int} {j : Nat} (hj : j + 1 < l.length) (h : Inc (l.take (j + 1))) (hlt : l.getD j 0 < l.getD (j + 1) 0) : Inc (l.take (j + 1 + 1)) := by
  rw [take_more hj]
  rw [take_more (k := j) (by omega)] at h ⊢
  have h1 := List.pairwise_append.1 h
  refine List.pairwise_append.2 ⟨h, List.pairwise_singleton _ _, fun a ha b hb => ?_⟩
  rw [List.mem_singleton] at hb
  subst hb
  rcases List.mem_append.1 ha with e | e
  · have := h1.2.2 a e _ (List.mem_singleton.2 rfl); omega
  · rw [List.mem_singleton] at e; subst e; exact hlt
theorem inc_at {l : List Int} {j : Nat} (h : Inc l) (hj : j + 1 < l.length) : l.getD j 0 < l.getD (j + 1) 0 := by
  have := List.pairwise_iff_getElem.1 h j (j + 1) (by omega) hj (by omega)
  simpa [List.getD, hj, (by omega : j < l.length)] using this
theorem inc_one (l : List Int) : Inc (l.take 1) := by
  cases l with
  | nil => simp [Inc]
  | cons x r => simp [Inc]
theorem k_without2 (HP : CfProg) {W : World} {v : Value} {l : List Int} (h : NumIn W v l) (x : Int) (hx : I64c x) : ∀ wx u M, RAt numTy wx u M → Below W.heap.size W wx → Calls Try.prog 20 #[v, .int .i64 x] wx (KL2 W (withoutC l x) u M) := fun wx u M hu hb => kl2_of hb hu (HP.without x (h.below hb) hx)
def TuRel (l : List Int) (w : World) (v : Value) (wr : World) : Prop := ∃ j : Nat, (j = 0 ∨ j + 1 ≤ l.length) ∧ v = .int .i64 ((j + 1 : Nat) : Int) ∧ Below w.heap.size w wr ∧ Hid (Inc (l.take (j + 1)))
def TuRel2 (l : List Int) (w : World) (v : Value) (wr : World) : Prop := ∃ j : Nat, (j = 0 ∨ j + 1 ≤ l.length) ∧ v = .int .i64 ((j + 1 : Nat) : Int) ∧ Below w.heap.size w wr
set_option maxHeartbeats 16000000 in
theorem confTurns_main (HP : CfProg) {w : World} {v : Value} {l : List Int} (x : Int) (hx : I64c x) (hv : NumIn w v l) (hl : l.length ≤ 60) : Calls Try.prog 7 #[v, .int .i64 x] w (ShownPost9 w) := by
  have HS := hid (shown_any9 HP w)
  have HPh := hid HP
  have HV := hid hv
  have HX := hid hx
  have HL := hid hl
  obtain ⟨ao, cap, rfl, hat⟩ := nums_in hv.row
  have HAt := hid hat
  have hlI : (l.length : Int) ≤ 60 := by omega
  clear hat hv hx HP
  obtain ⟨n, hn⟩ : ∃ n, l.length = n := ⟨_, rfl⟩
  rw [hn] at HAt hl hlI HV
  rw [hn]
  have HN := hid hn
  clear hn
  go_enter Try.func7, Try.ntmps7
  go_upto_region 5 with (go_at_call 10; (with_reducible refine HS.out.mono ?_); rintro e w1 ⟨rfl, hb1⟩)
  clear HS
  go_loopw [6] (TuRel l w) (fun i _ => n - (intOf i).toNat)
  case atStart => exact ⟨0, .inl rfl, rfl, hb1, hid (inc_one l)⟩
  case round =>
    clear hb1
    obtain ⟨j, hj, rfl, hbw, hq⟩ := hrel
    by_cases hjn : j + 1 < n
    · have hjI : ((j + 1 : Nat) : Int) < (n : Int) := by omega
      have hjI2 : (j : Int) < (n : Int) := by omega
      obtain ⟨sb, so, rfl, c0⟩ := HAt.out _ hbw (j + 1) hjn
      obtain ⟨sb', so', e, c1⟩ := HAt.out _ hbw j (by omega)
      cases e
      have hjl : j + 1 < l.length := by rw [HN.out]; exact hjn
      have hmore := inc_more hjl hq.out
      have hWk : IntKind.i64.wrap (((j + 1 : Nat) : Int) - 1) = (j : Int) := by rw [show ((j + 1 : Nat) : Int) - 1 = (j : Int) by omega]; exact IntWalk.i64_in _ (by omega)
      have HBw := hid (fun nq => below_drew hbw nq)
      have HJ : Hid (j + 1 + 1 ≤ l.length) := hid hjl
      generalize l.getD (j + 1) 0 = y at *
      generalize l.getD j 0 = z at *
      clear hjl hbw hj
      by_cases hyz : y ≤ z
      · clear hmore
        go_wp2
        go_quiet (fail)
        all_goals
          go_wp2
          go_ret
          exact ⟨rfl, HBw.out _⟩
      · have hzy : z < y := by omega
        have HI := hid (hmore hzy)
        clear hmore hyz
        go_wp2
        go_quiet (fail)
        all_goals
          go_wp2
          go_roundw
          case rel => exact ⟨j + 1, .inr HJ.out, by go_num, HBw.out _, HI⟩
          case measure => simp [intOf]; omega
    · have hjI : (n : Int) ≤ ((j + 1 : Nat) : Int) := by omega
      have hinc : Inc l := by
        have h := hq.out
        rwa [List.take_of_length_le (by have := HN.out; omega)] at h
      have HInc := hid hinc
      have hV1 := HV.out.below hbw
      have K5 := hid (k_has HPh.out hV1 x HX.out)
      have K7 := hid (k_with HPh.out hV1 x HX.out)
      have K9 := hid (k_without2 HPh.out hV1 x HX.out)
      have HBr := hid hbw
      have HV1 := hid hV1
      obtain ⟨t, ht⟩ : ∃ t, hasC l x = t := ⟨_, rfl⟩
      rw [ht] at K5
      have HT := hid ht
      obtain ⟨A, hA⟩ : ∃ A, withC l x = A := ⟨_, rfl⟩
      obtain ⟨B, hB⟩ : ∃ B, withoutC l x = B := ⟨_, rfl⟩
      rw [hA] at K7
      rw [hB] at K9
      have HA := hid hA
      have HB := hid hB
      have hAl := with_len l x
      rw [hA, HN.out] at hAl
      have hAi : Inc A := by
        rw [← hA]
        by_cases hxx : x ∈ l
        · rw [with_in hxx]; exact hinc
        · exact (with_one l x hinc hxx).2.1
      have HAi := hid hAi
      have HAl := hid hAl
      have hb : Below wr.heap.size wr wr := Below.refl _ _
      clear hinc hV1 hbw ht hA hB hAi hAl HV hj hq hjn
      go_upto_region 13 with (first
        | (go_at_call 15; (with_reducible refine (K5.out _ hb).mono ?_); rintro e w6 ⟨rfl, hb⟩)
        | (go_at_call 18; (with_reducible refine (K7.out _ hb).mono ?_); rintro e w8 ⟨a8, _, c8, rfl, rfl, h8, hb⟩)
        | (go_at_call 20; (with_reducible refine (K9.out _ _ _ h8.out hb).mono ?_); rintro e w9 ⟨a9, _, c9, rfl, rfl, h9, hb⟩))
      clear K5 K7 K9
      have HAn : Hid (NumIn w9 (.slice a8 A.length c8) A) := hid (by
        have := in_with (x := x) HV1.out HX.out (by have := HN.out; omega) (show RAt numTy w9 (.slice a8 A.length c8) (withC l x) by rw [HA.out]; exact h9.out.2)
        rw [HA.out] at this
        exact this)
      have HBn : Hid (NumIn w9 (.slice a9 B.length c9) B) := hid (by
        have := in_without (x := x) HV1.out (show RAt numTy w9 (.slice a9 B.length c9) (withoutC l x) by rw [HB.out]; exact h9.out.1)
        rw [HB.out] at this
        exact this)
      have HVn := hid (HV1.out.below hb)
      have HBW := hid (HBr.out.trans (hb.mono HBr.out.size))
      obtain ⟨a8', c8', e8, hat8⟩ := nums_in HAn.out.row
      cases e8
      have HAt8 := hid hat8
      have hb9 : Below w9.heap.size w9 w9 := Below.refl _ _
      obtain ⟨nA, hnA⟩ : ∃ k, A.length = k := ⟨_, rfl⟩
      rw [hnA] at HAt8 HAn
      have HNA := hid hnA
      have hnAb : nA ≤ n + 1 := by rw [← hnA]; exact HAl.out
      have hnAI : (nA : Int) ≤ (n : Int) + 1 := by omega
      rw [hnA]
      clear hb h8 h9 HV1 hat8 hnA
      go_loopw [10] (TuRel2 A w9) (fun i _ => nA - (intOf i).toNat)
      case atStart => exact ⟨0, .inl rfl, rfl, hb9⟩
      case round =>
        clear hb9
        obtain ⟨i, hi, rfl, hbw⟩ := hrel
        by_cases hin : i + 1 < nA
        · have hiI : ((i + 1 : Nat) : Int) < (nA : Int) := by omega
          have hiI2 : (i : Int) < (nA : Int) := by omega
          obtain ⟨sb, so, rfl, c0⟩ := HAt8.out _ hbw (i + 1) hin
          obtain ⟨sb', so', e, c1⟩ := HAt8.out _ hbw i (by omega)
          cases e
          have hil : i + 1 < A.length := by rw [HNA.out]; exact hin
          have hlt := inc_at HAi.out hil
          have hWk : IntKind.i64.wrap (((i + 1 : Nat) : Int) - 1) = (i : Int) := by rw [show ((i + 1 : Nat) : Int) - 1 = (i : Int) by omega]; exact IntWalk.i64_in _ (by omega)
          have HBw := hid (fun nq => below_drew hbw nq)
          have HJ : Hid (i + 1 + 1 ≤ A.length) := hid hil
          generalize A.getD (i + 1) 0 = y at *
          generalize A.getD i 0 = z at *
          clear hil hbw hi
          go_wp2
          go_quiet (fail)
          all_goals
            go_wp2
            go_roundw
            case rel => exact ⟨i + 1, .inr HJ.out, by go_num, HBw.out _⟩
            case measure => simp [intOf]; omega
        · have hiI : (nA : Int) ≤ ((i + 1 : Nat) : Int) := by omega
          have hAn := HAn.out.below hbw
          have hBn := HBn.out.below hbw
          have hVn := HVn.out.below hbw
          have HBZ := hid (HBW.out.trans (hbw.mono HBW.out.size))
          have hb : Below wr.heap.size wr wr := Below.refl _ _
          cases t with
          | true =>
            have hxl : x ∈ l := of_decide_eq_true HT.out
            have hAl2 : A = l := by rw [← HA.out]; exact with_in hxl
            have hBw := (without_one l x HInc.out hxl).2.2.2
            have hBl := (without_one l x HInc.out hxl).1.len
            rw [HB.out] at hBw hBl
            subst hAl2
            have S1 := hid (fun wx (h : Below wr.heap.size wr wx) => k_same (W := wr) h (hAn.below h).row (hVn.below h).row (by have := HN.out; omega))
            have K7 := hid (k_with HPh.out hBn x HX.out)
            rw [hBw] at K7
            have S2 : Hid (∀ wx a c, RAt numTy wx (.slice a A.length c) A → Below wr.heap.size wr wx → Calls Try.prog 17 #[.slice a A.length c, .slice ao n cap] wx (KB wr true)) := hid (fun wx a c h1 h => k_same (W := wr) h h1 (hVn.below h).row (by have := HN.out; omega))
            have hle : ((B.length : Nat) : Int) = (n : Int) - 1 := by have := HN.out; omega
            have q1 : (((B.length : Nat) : Int) == (n : Int) - 1) = true := by rw [hle]; exact beq_self_eq_true _
            have hwr : IntKind.i64.wrap ((n : Int) - 1) = (n : Int) - 1 := by rw [IntKind.wrap_i64]; omega
            obtain ⟨nB, hnB⟩ : ∃ k, B.length = k := ⟨_, rfl⟩
            rw [hnB] at K7 q1 hle ⊢
            obtain ⟨nA2, hnA2⟩ : ∃ k, A.length = k := ⟨_, rfl⟩
            rw [hnA2] at S2
            have HnA2 := hid hnA2
            clear hAn hBn hVn hBw hBl hxl hnB hi hin hnA2
            go_wp2_with (first
              | (go_at_call 17; (with_reducible refine (S1.out _ hb).mono ?_); rintro e w3 ⟨rfl, hb⟩)
              | (go_at_call 18; (with_reducible refine (K7.out _ hb).mono ?_); rintro e w4 ⟨a4, _, c4, rfl, rfl, h4, hb⟩; rw [HnA2.out] at h4 ⊢)
              | (go_at_call 17; (with_reducible refine (S2.out _ _ _ h4.out hb).mono ?_); rintro e w5 ⟨rfl, hb⟩))
            go_ret
            exact ⟨by first | rfl | simp, HBZ.out.trans (hb.mono HBZ.out.size)⟩
          | false =>
            have hxl : x ∉ l := of_decide_eq_false HT.out
            have hBl2 : B = l := by rw [← HB.out]; exact without_out hxl
            have hAw := (with_one l x HInc.out hxl).2.2
            have hAl3 := (with_one l x HInc.out hxl).1.len
            rw [HA.out] at hAw hAl3
            subst hBl2
            have S1 := hid (fun wx (h : Below wr.heap.size wr wx) => k_same (W := wr) h (hBn.below h).row (hVn.below h).row (by have := HN.out; omega))
            have K7 := hid (k_without HPh.out hAn x HX.out)
            rw [hAw] at K7
            have S2 : Hid (∀ wx a c, RAt numTy wx (.slice a B.length c) B → Below wr.heap.size wr wx → Calls Try.prog 17 #[.slice a B.length c, .slice ao n cap] wx (KB wr true)) := hid (fun wx a c h1 h => k_same (W := wr) h h1 (hVn.below h).row (by have := HN.out; omega))
            have hle : (nA : Int) = (n : Int) + 1 := by have := HN.out; have := HNA.out; omega
            have q1 : ((nA : Int) == (n : Int) + 1) = true := by rw [hle]; exact beq_self_eq_true _
            have hwr : IntKind.i64.wrap ((n : Int) + 1) = (n : Int) + 1 := by rw [IntKind.wrap_i64]; omega
            clear hAn hBn hVn hAw hAl3 hxl hi hin
            go_wp2_with (first
              | (go_at_call 17; (with_reducible refine (S1.out _ hb).mono ?_); rintro e w3 ⟨rfl, hb⟩)
              | (go_at_call 20; (with_reducible refine (K7.out _ hb).mono ?_); rintro e w4 ⟨a4, _, c4, rfl, rfl, h4, hb⟩)
              | (go_at_call 17; (with_reducible refine (S2.out _ _ _ h4.out hb).mono ?_); rintro e w5 ⟨rfl, hb⟩))
            go_ret
            exact ⟨by first | rfl | simp, HBZ.out.trans (hb.mono HBZ.out.size)⟩
set_option maxHeartbeats 4000000 in
theorem confTurns_walk (HP : CfProg) {w : World} {v : Value} {l : List Int} (x : Int) (hx : I64c x) (hv : RAt numTy w v l) (hvn : ∀ n ∈ l, I64c n) : Calls Try.prog 7 #[v, .int .i64 x] w (ShownPost9 w) := by
  by_cases hs : l.length ≤ 60
  · exact confTurns_main HP x hx ⟨hv, by omega, hvn⟩ hs
  have HS := hid (shown_any9 HP w)
  obtain ⟨ao, cap, rfl, -⟩ := nums_in hv
  have hlI : (60 : Int) < (l.length : Int) := by omega
  clear HP hv hvn hs
  go_enter Try.func7, Try.ntmps7
  go_wp2_with (go_at_call 10; (with_reducible refine HS.out.mono ?_); rintro e w1 ⟨rfl, hb⟩)
  go_ret
  exact ⟨rfl, hb⟩
end Go.Proofs.Ytcjhiegiccekpaa
