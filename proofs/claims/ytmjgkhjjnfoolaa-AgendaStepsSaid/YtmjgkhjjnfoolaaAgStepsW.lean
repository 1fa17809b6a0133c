/-
  LAYER 5, the law AgendaSteps: its walk.
-/
import Derived.Test.YtmjgkhjjnfoolaaAgTwo
namespace Go.Proofs.Ytmjgkhjjnfoolaa
open Go.RowKit Go.Maps
set_option linter.unusedVariables false
set_option maxRecDepth 100000

/-- Two rows put behind an empty one. -/
theorem app_two (wy : World) (v1 v2 : Value) (xs1 xs2 : List Int) (h1 : IntsAt wy wy.heap.size v1 xs1) (h2 : IntsAt wy wy.heap.size v2 xs2) (hb : xs1.length + xs2.length ≤ 10000) :
    ∃ va wa vb wb, (Builtin.append_ #[33, 33] 33 #[.slice (some ⟨wy.heap.size, 0, none⟩) 0 0, v1]).run Try.prog (wy.alloc (.cells #[] 3)) = .ok va wa ∧
      (Builtin.append_ #[33, 33] 33 #[va, v2]).run Try.prog wa = .ok vb wb ∧ NumRow wb vb (xs1 ++ xs2) ∧ Below wy.heap.size wy wb ∧ (∀ b, vb.ownBlock = some b → wy.heap.size ≤ b) := by
  have hb0 : Below wy.heap.size wy (wy.alloc (.cells #[] 3)) := (Below.refl _ _).alloc (Nat.le_refl _) _
  have hz : (wy.alloc (.cells #[] 3)).heap.size = wy.heap.size + 1 := by simp
  have hr0 : NumRow (wy.alloc (.cells #[] 3)) (.slice (some ⟨wy.heap.size, 0, none⟩) 0 0) [] :=
    ⟨rfl, .inr ⟨wy.heap.size, 0, #[], rfl, Nat.zero_le _, heap_alloc_new wy _, Nat.le_refl _, Nat.zero_le _, rfl, rfl⟩⟩
  obtain ⟨va, wa, e1, r1, g1, a1⟩ := run_nums' _ 33 _ [] xs1 v1 hr0 (h1.below hb0) (by simp; omega)
  rw [List.nil_append] at r1
  have hb1 : Below wy.heap.size wy wa := hb0.grown g1 (by omega) (fun k hk => by cases hk; exact Nat.le_refl _)
  have ha : ∀ b, va.ownBlock = some b → wy.heap.size ≤ b := fun b hb => by
    rcases a1 with h | h
    · rw [h] at hb; cases hb; exact Nat.le_refl _
    · rw [h] at hb; cases hb; rw [hz]; omega
  obtain ⟨vb, wb, e2, r2, g2, a2⟩ := run_nums' wa 33 va xs1 xs2 v2 r1 (h2.below hb1) (by omega)
  exact ⟨va, wa, vb, wb, e1, e2, r2, hb1.grown g2 hb1.size ha, fun b hb => by
    rcases a2 with h | h
    · exact ha b (by rw [← h]; exact hb)
    · rw [h] at hb; cases hb; exact hb1.size⟩
structure StepsAt (w wr : World) (p q : Nat) (F G : Nat → Prop) (l : List Int) (k : Nat) (S : List It) : Prop where
  two : Two w wr p q F G S S
  perm : S.Perm (itms l (List.range k))
def StepsRel (w : World) (p q : Nat) (l : List Int) (i : Value) (wr : World) : Prop := ∃ (k : Nat) (F G : Nat → Prop) (S : List It), k ≤ l.length ∧ i = .int .i64 (k : Int) ∧ Hid (StepsAt w wr p q F G l k S)
set_option maxHeartbeats 8000000 in
theorem agendaSteps_walk (v : Value) (l : List Int) (t1 t2 : Int) (w : World) (hv : IntsAt w w.heap.size v l) (hx : ∀ n ∈ l, -9223372036854775808 ≤ n ∧ n ≤ 9223372036854775807) (hl : l.length ≤ maxLen)
    (ht1 : -9223372036854775808 ≤ t1 ∧ t1 ≤ 9223372036854775807) (ht2 : -9223372036854775808 ≤ t2 ∧ t2 ≤ 9223372036854775807) :
    Calls Try.prog 7 #[v, .int .i64 t1, .int .i64 t2] w fun e w' => e = .returned (.bool true) ∧ Below w.heap.size w w' := by
  have HV := hid hv
  have HX := hid hx
  obtain ⟨a, cap, rfl, hat⟩ := hv.at
  have hSh := hid (shown_any w)
  clear hv hx
  by_cases hlen : l.length ≤ 200
  · have hlI : (l.length : Int) ≤ 200 := by omega
    clear hat
    have hN1 := hid (fun wx (h : Below w.heap.size w wx) => new_one h)
    have hN2 := hid (fun wx p (h : Own w wx p (fun b => b = p) []) => new_two h)
    go_enter Try.func7, Try.ntmps7
    go_wp2_with (first
      | (go_at_call 8; (with_reducible refine hSh.out.mono ?_); rintro e w1 ⟨rfl, hb1⟩)
      | (go_at_call 9; first
        | ((with_reducible refine (hN2.out _ _ HO.out).mono ?_); rintro e w3 ⟨q, rfl, hT⟩; have HTwo := hid hT; clear hT)
        | ((with_reducible refine (hN1.out _ hb1).mono ?_); rintro e w2 ⟨p, rfl, hO⟩; have HO := hid hO; clear hO)))
    go_loopw [10] (StepsRel w p q l) (fun i _ => l.length - (intOf i).toNat)
    case atStart => exact ⟨0, _, _, [], Nat.zero_le _, rfl, hid ⟨HTwo.out, List.Perm.refl _⟩⟩
    case round =>
      obtain ⟨k, F, G, S, hk, rfl, hH⟩ := hrel
      have hSl : S.length = k := by rw [hH.out.perm.length_eq]; simp [itms]
      by_cases hkl : k < l.length
      · obtain ⟨a', cap', hae, hat⟩ := (HV.out.below hH.out.two.a.below).at
        obtain ⟨sb, so, ha, hsb, c1⟩ := hat k hkl
        cases hae
        subst ha
        have hkI : (k : Int) < (l.length : Int) := by omega
        have hin := itm_in HX.out hkl (by omega)
        obtain ⟨x, hxx⟩ : ∃ x, l.getD k 0 = x := ⟨_, rfl⟩
        rw [itm_is hxx] at hin
        rw [hxx] at c1
        have HP1 := hid (put_turn hH.out.two.a x (k : Int) hin (by omega))
        have HP2 := hid (fun w3 F' (h : Two w w3 p q F' G (insS (x, (k : Int)) (delS (k : Int) S)) S) => put_turn h.b x (k : Int) hin (by omega))
        have HC : Hid (∀ w3, Chg F wr w3 → w3.cell? ⟨sb, so + k, none⟩ = some (.int .i64 x)) := hid (fun w3 hc => by
          have hb := hc.below (B := w.heap.size) hH.out.two.a.below.size hH.out.two.a.new
          rw [hb.cell (p := ⟨sb, so + k, none⟩) hsb]; exact c1)
        have HPm := hid (itm_put hH.out.perm (i := k) (by simp) hxx)
        clear hat hin hSl hxx
        go_wp2_with (go_at_call 16; first
          | ((with_reducible refine HP1.out.mono ?_); rintro e w3 ⟨rfl, F', hO, hT⟩; have HT2 := hid (hH.out.two.turn hO hT); have c2 := HC.out _ hT.chg; clear hO hT)
          | ((refine (HP2.out _ _ HT2.out).mono ?_); rintro e w4 ⟨rfl, G', hO, hT⟩; have HT3 := hid (HT2.out.swap.turn hO hT).swap; clear hO hT))
        go_roundw
        case rel => exact ⟨k + 1, F', G', _, by omega, by go_num, hid ⟨HT3.out, by rw [range_snoc]; exact HPm.out⟩⟩
        case measure => simp [intOf]; omega
      · obtain rfl : k = l.length := by omega
        have h1 : S.length ≤ 1000 := by omega
        obtain ⟨m1, hm1⟩ : ∃ m1, (if t2 < t1 then t2 else t1) = m1 := ⟨_, rfl⟩
        obtain ⟨m2, hm2⟩ : ∃ m2, (if t1 < t2 then t2 else t1) = m2 := ⟨_, rfl⟩
        have hm : m1 ≤ m2 := by subst hm1 hm2; split <;> split <;> omega
        obtain ⟨k1, k2⟩ := drop_le hm S
        have l1 := dueS_le m1 S
        have l2 := restS_le m1 S
        have l3 := dueS_le m2 (restS m1 S)
        have l4 := dueS_le m2 S
        have hD1 := hid (due_turn hH.out.two.a h1 m1 rfl rfl)
        have hD2 := hid (fun w3 F' (h : Two w w3 p q F' G (restS m1 S) S) => due_turn h.a (by omega) m2 rfl rfl)
        have hD3 := hid (fun w3 F' R (h : Two w w3 p q F' G R S) => due_turn h.b (by omega) m2 rfl rfl)
        have hApp := hid (fun wy v1 v2 (h1 : IntsAt wy wy.heap.size v1 ((dueS m1 S).map Prod.snd)) (h2 : IntsAt wy wy.heap.size v2 ((dueS m2 (restS m1 S)).map Prod.snd)) => app_two wy v1 v2 _ _ h1 h2 (by simp only [List.length_map]; omega))
        have hSame := hid (fun wx va vb (ha : IntsAt wx wx.heap.size va ((dueS m1 S).map Prod.snd ++ (dueS m2 (restS m1 S)).map Prod.snd)) (hb : IntsAt wx wx.heap.size vb ((dueS m2 S).map Prod.snd)) => same_any wx va vb _ _ ha hb (by simp only [List.length_append, List.length_map]; omega) (by simp only [List.length_map]; omega))
        have hL1 := hid (fun w3 F' G' (h : Two w w3 p q F' G' (restS m2 S) (restS m2 S)) => alen_any h.a.is)
        have hL2 := hid (fun w3 F' G' (h : Two w w3 p q F' G' (restS m2 S) (restS m2 S)) => alen_any h.b.is)
        have hdec : decide ((dueS m1 S).map Prod.snd ++ (dueS m2 (restS m1 S)).map Prod.snd = (dueS m2 S).map Prod.snd) = true := decide_eq_true (by rw [← List.map_append, k1])
        rw [hdec] at hSame
        have hq : (((restS m2 S).length : Int) == ((restS m2 S).length : Int)) = true := by simp
        have HK2 := hid k2
        clear hSl hdec k1 k2 l1 l2 l3 l4 hm
        go_wp2_with (first
          | (go_at_call 15; first
            | ((with_reducible refine hD1.out.mono ?_); rintro e w3 ⟨v1, F1, rfl, hO, hT, hU⟩; have HT1 := hid (hH.out.two.turn hO hU); have HV1 := hid hT; have HU1 := hid hU; clear hO hT hU)
            | ((with_reducible refine (hD2.out _ _ HT1.out).mono ?_); rintro e w4 ⟨v2, F2, rfl, hO, hT, hU⟩; rw [HK2.out] at hO; have HT2 := hid (HT1.out.turn hO hU); have HV2 := hid hT; have HV1' := hid (HV1.out.turn hU); clear hO hT hU; obtain ⟨va, wa, vb, wb, e1, e2, rB, bB, nB⟩ := hApp.out w4 v1 v2 HV1'.out.ints HV2.out.ints; have HT3 := hid (HT2.out.later bB); have HVB := hid (show Told w4 wb G vb _ from ⟨rB, fun b hb => ⟨nB b hb, fun hg => by have := HT2.out.b.is.lt b hg; have := nB b hb; omega⟩⟩); clear rB bB nB)
            | ((with_reducible refine (hD3.out _ _ _ HT3.out).mono ?_); rintro e w5 ⟨v3, G2, rfl, hO, hT, hU⟩; have HT4 := hid (HT3.out.swap.turn hO hU).swap; have HV3 := hid hT; have HVB' := hid (HVB.out.turn hU); clear hO hT hU))
          | (at_builtin; first
            | (refine wpList_append_at e1 (by with_reducible rfl) rfl _ _ rfl rfl rfl rfl ?_)
            | (refine wpList_append_at e2 (by with_reducible rfl) rfl _ _ rfl rfl rfl rfl ?_))
          | (go_at_call 14; (with_reducible refine (hSame.out _ _ _ HVB'.out.ints HV3.out.ints).mono ?_); rintro e w6 ⟨rfl, hb6⟩; have HT5 := hid (HT4.out.later hb6); clear hb6)
          | (go_at_call 19; first
            | ((with_reducible refine (hL1.out _ _ _ HT5.out).mono ?_); rintro e w7 ⟨rfl, rfl⟩)
            | ((with_reducible refine (hL2.out _ _ _ HT5.out).mono ?_); rintro e w7 ⟨rfl, rfl⟩)))
        go_ret
        exact ⟨rfl, HT5.out.a.below⟩
  · have hlI : ¬ (l.length : Int) ≤ 200 := by omega
    clear hat
    go_enter Try.func7, Try.ntmps7
    go_wp2_with (go_at_call 8; (with_reducible refine hSh.out.mono ?_); rintro e w1 ⟨rfl, hb1⟩)
    go_ret
    exact ⟨rfl, hb1⟩
end Go.Proofs.Ytmjgkhjjnfoolaa
