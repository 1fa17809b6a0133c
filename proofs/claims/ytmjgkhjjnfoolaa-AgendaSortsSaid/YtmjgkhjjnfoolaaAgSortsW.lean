/-
  LAYER 5, the law AgendaSorts: its walk.
-/
import Derived.Test.YtmjgkhjjnfoolaaAgItems
namespace Go.Proofs.Ytmjgkhjjnfoolaa
open Go.RowKit Go.Maps
set_option linter.unusedVariables false
set_option maxRecDepth 100000

/-- A region of more than 64 operations stands in halves: List.append, not '++'. -/
theorem lapp_cons {α : Type} (a : α) (l m : List α) : List.append (a :: l) m = a :: List.append l m := rfl
theorem lapp_nil {α : Type} (m : List α) : List.append [] m = m := rfl
def SortsRel (w : World) (p : Nat) (l : List Int) (i : Value) (wr : World) : Prop := ∃ (k : Nat) (F : Nat → Prop), k ≤ l.length ∧ i = .int .i64 (k : Int) ∧ Hid (Has w wr p F l (List.range k))
set_option maxHeartbeats 8000000 in
theorem agendaSorts_walk (v : Value) (l : List Int) (w : World) (hv : IntsAt w w.heap.size v l) (hx : ∀ n ∈ l, -9223372036854775808 ≤ n ∧ n ≤ 9223372036854775807) (hl : l.length ≤ maxLen) :
    Calls Try.prog 4 #[v] w fun e w' => e = .returned (.bool true) ∧ Below w.heap.size w w' := by
  have HV := hid hv
  have HX := hid hx
  obtain ⟨a, cap, rfl, hat⟩ := hv.at
  have hSh := hid (shown_any w)
  clear hv hx
  by_cases hlen : l.length ≤ 300
  · have hlI : (l.length : Int) ≤ 300 := by omega
    clear hat
    have hNew := hid (fun wx => anew_any wx)
    go_enter Try.func4, Try.ntmps4
    go_wp2_with (first
      | (go_at_call 8; (with_reducible refine hSh.out.mono ?_); rintro e w1 ⟨rfl, hb1⟩)
      | (go_at_call 9; (with_reducible refine (hNew.out _).mono ?_); rintro e w2 ⟨p, rfl, hp, hi, hb2⟩; have HO := hid (own_made hb1 hp hi hb2); clear hi hb2 hp))
    go_loopw [5] (SortsRel w p l) (fun i _ => l.length - (intOf i).toNat)
    case atStart => exact ⟨0, _, Nat.zero_le _, rfl, hid ⟨_, HO.out, List.Perm.refl _⟩⟩
    case round =>
      obtain ⟨k, F, hk, rfl, hH⟩ := hrel
      by_cases hkl : k < l.length
      · obtain ⟨a', cap', hae, hat⟩ := (HV.out.below hH.out.below).at
        obtain ⟨sb, so, ha, hsb, c1⟩ := hat k hkl
        cases hae
        subst ha
        have hkI : (k : Int) < (l.length : Int) := by omega
        have HPut := hid (hH.out.put HX.out hkl (by omega) (by simp) (by simp; omega))
        clear hat
        generalize l.getD k 0 = x at *
        go_wp2_with (go_at_call 16; (with_reducible refine HPut.out.mono ?_); rintro e w3 ⟨rfl, F', -, hH'⟩)
        go_roundw
        case rel => exact ⟨k + 1, F', by omega, by go_num, hid (by rw [range_snoc]; exact hH')⟩
        case measure => simp [intOf]; omega
      · obtain rfl : k = l.length := by omega
        obtain ⟨S, hO, hp⟩ := hH.out
        have hSl : S.length = l.length := by rw [hp.length_eq]; simp [itms]
        obtain ⟨e1, e2⟩ := due_all hO.is.ok.inr
        have HDue := hid (due_own hO (by omega) 9223372036854775807 e1 e2)
        have HLen := hid (fun wx F (h : Own w wx p F []) => alen_any h.is)
        have HSl := hid hSl
        have HS := hid hO.is.ok.srt
        have HP := hid hp
        clear hO hp e1 e2 hSl
        have hq0 : ((0 : Int) != 0) = false := rfl
        have hql : ((l.length : Int) != (l.length : Int)) = false := by simp
        go_wp2_with (first
          | (go_at_call 15; (with_reducible refine HDue.out.mono ?_); rintro e w4 ⟨v, F', rfl, hO, hT⟩; have HO := hid hO; have HT := hid hT; obtain ⟨ad, capd, rfl, _⟩ := hT.row.slice; rw [List.length_map, HSl.out]; clear hO hT)
          | (go_at_call 19; (with_reducible refine (HLen.out _ _ HO.out).mono ?_); rintro e w5 ⟨rfl, rfl⟩))
        have hTi := HT.out.ints
        have hBel := HO.out.below
        obtain ⟨a3, cap3, hae3, hat3⟩ := (HV.out.below hBel).at
        obtain ⟨a4, cap4, hae4, hat4⟩ := hTi.at
        simp only [Value.slice.injEq] at hae3 hae4
        obtain ⟨rfl, -, rfl⟩ := hae3
        obtain ⟨rfl, -, rfl⟩ := hae4
        have H3 := hid hat3
        have H4 : Hid (∀ i, i < l.length → ∃ sb so, ad = some ⟨sb, so, none⟩ ∧ sb < w4.heap.size ∧ w4.cell? ⟨sb, so + i, none⟩ = some (.int .i64 ((S.map Prod.snd).getD i 0))) := hid (fun i hi => by
          obtain ⟨sb, so, h1, h2, h3⟩ := hat4 i (by rw [List.length_map, HSl.out]; exact hi)
          exact ⟨sb, so, h1, h2, h3⟩)
        clear hat3 hat4 hTi
        have HB := hid hBel
        clear hBel
        have hkth : ∀ k, k < l.length → ∃ i, i < l.length ∧ (S.map Prod.snd).getD k 0 = (i : Int) ∧ S.getD k (0, 0) = itm l i := fun k hk => by
          have hk' : k < S.length := by rw [HSl.out]; exact hk
          obtain ⟨i, hi, e⟩ := sorted_at HP.out hk'
          exact ⟨i, List.mem_range.1 hi, by simp [List.getD, hk', e, itm], by simp [List.getD, hk', e]⟩
        have HK := hid hkth
        clear hkth
        go_loopw [7] (fun i wr => ∃ k : Nat, k ≤ l.length ∧ i = .int .i64 (k : Int) ∧ Below w4.heap.size w4 wr) (fun i _ => l.length - (intOf i).toNat)
        case atStart => exact ⟨0, Nat.zero_le _, rfl, Below.refl _ _⟩
        case round =>
          obtain ⟨k, hk, rfl, hbw⟩ := hrel
          by_cases hkl : k < l.length
          · obtain ⟨i, hi, hd, hs⟩ := HK.out k hkl
            obtain ⟨sb, so, rfl, b1, c1⟩ := H4.out k hkl
            obtain ⟨sc, sp, rfl, b2, c2⟩ := H3.out i hi
            have b2 : sc < w4.heap.size := by have := HB.out.size; omega
            rw [hd, ← hbw.cell (p := ⟨sb, so + k, none⟩) b1] at c1
            rw [← hbw.cell (p := ⟨sc, sp + i, none⟩) b2] at c2
            have hkI : (k : Int) < (l.length : Int) := by omega
            have hiI : (i : Int) < (l.length : Int) := by omega
            have HD := hid hs
            obtain ⟨t, ht⟩ : ∃ t, l.getD i 0 = t := ⟨_, rfl⟩
            rw [ht] at c2
            have HT1 := hid ht
            clear hd hs ht
            have d1 : decide ((i : Int) < 0) = false := decide_eq_false (by omega)
            have d2 : decide ((l.length : Int) ≤ (i : Int)) = false := decide_eq_false (by omega)
            have d2' : decide (l.length ≤ i) = false := decide_eq_false (by omega)
            rcases Nat.eq_zero_or_pos k with hk0 | hk0
            · subst hk0
              rw [Nat.add_zero] at c1
              have d3 : decide ((0 : Int) < 0) = false := rfl
              go_wp2
              simp only [lapp_cons, lapp_nil]
              go_quiet (fail)
              go_wp2
              go_roundw
              case rel => exact ⟨1, by omega, by go_num, below_drew hbw _⟩
              case measure => simp [intOf]; omega
            · obtain ⟨j, hj⟩ : ∃ j, k = j + 1 := ⟨k - 1, by omega⟩
              have HJ := hid hj
              have hkp : (0 : Int) < (k : Int) := by omega
              have hW : IntKind.i64.wrap ((k : Int) - 1) = (j : Int) := by rw [show (k : Int) - 1 = (j : Int) by omega]; exact IntWalk.i64_in _ (by omega)
              clear hj
              have hjl : j < l.length := by have := HJ.out; omega
              obtain ⟨i', hi', hd', hs'⟩ := HK.out j hjl
              obtain ⟨sb', so', hh, -, c3⟩ := H4.out j hjl
              cases hh
              obtain ⟨sc', sp', hh, -, c4⟩ := H3.out i' hi'
              cases hh
              rw [hd', ← hbw.cell (p := ⟨sb, so + j, none⟩) b1] at c3
              rw [← hbw.cell (p := ⟨sc, sp + i', none⟩) b2] at c4
              have hjI : (j : Int) < (l.length : Int) := by omega
              have hiI' : (i' : Int) < (l.length : Int) := by omega
              have hjs : j + 1 < S.length := by have := HJ.out; rw [HSl.out]; omega
              have hst := sorted_step HS.out (k := j) hjs
              have e1 : S.getD (j + 1) (0, 0) = S[j + 1]'hjs := by simp [List.getD, hjs]
              have e2 : S.getD j (0, 0) = S[j]'(by omega) := by simp [List.getD, show j < S.length by omega]
              rw [← e1, ← e2, ← HJ.out, HD.out, hs', bf_iff] at hst
              unfold itm at hst
              simp only at hst
              rw [HT1.out] at hst
              obtain ⟨t', ht'⟩ : ∃ t', l.getD i' 0 = t' := ⟨_, rfl⟩
              rw [ht'] at c4 hst
              clear hd' hs' ht' e1 e2 hjs
              have d3 : decide (0 < (k : Int)) = true := decide_eq_true (by omega)
              have d3' : decide (0 < k) = true := decide_eq_true (by omega)
              by_cases hlt : t' < t
              · have d4 : decide (t < t') = false := decide_eq_false (by omega)
                have hq : (t == t') = false := beq_eq_false_iff_ne.2 (by omega)
                clear hst
                go_wp2
                simp only [lapp_cons, lapp_nil]
                go_quiet (fail)
                go_wp2
                go_roundw
                case rel => exact ⟨k + 1, by omega, by go_num, below_drew hbw _⟩
                case measure => simp [intOf]; omega
              · obtain rfl : t' = t := by omega
                have hii : (i' : Int) < (i : Int) := by omega
                have d4 : decide (t' < t') = false := decide_eq_false (by omega)
                have d5 : decide ((i : Int) ≤ (i' : Int)) = false := decide_eq_false (by omega)
                have d5' : decide (i ≤ i') = false := decide_eq_false (by omega)
                have hq : (t' == t') = true := by simp
                clear hst hlt
                go_wp2
                simp only [lapp_cons, lapp_nil]
                go_quiet (fail)
                go_wp2
                go_roundw
                case rel => exact ⟨k + 1, by omega, by go_num, below_drew hbw _⟩
                case measure => simp [intOf]; omega
          · obtain rfl : k = l.length := by omega
            go_wp2
            go_ret
            exact ⟨rfl, HB.out.trans (hbw.mono HB.out.size)⟩
  · have hlI : ¬ (l.length : Int) ≤ 300 := by omega
    clear hat
    go_enter Try.func4, Try.ntmps4
    go_wp2_with (go_at_call 8; (with_reducible refine hSh.out.mono ?_); rintro e w1 ⟨rfl, hb1⟩)
    go_ret
    exact ⟨rfl, hb1⟩
end Go.Proofs.Ytmjgkhjjnfoolaa
