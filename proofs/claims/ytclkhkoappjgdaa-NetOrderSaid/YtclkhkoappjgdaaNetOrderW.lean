/-
  LAYER 6 (net): NetOrder: its walk.
-/
import Derived.Test.YtclkhkoappjgdaaNetOrderA
import Derived.Deep.DeepCutAuto
import Derived.Deep.CutRange
namespace Go.Proofs.Ytclkhkoappjgdaa
open Go.RowKit Go.Maps
set_option linter.unusedVariables false
set_option maxRecDepth 100000

def Ord1 (w : World) (r : Nat) (xs : List ByteArray) (u9 u10 : Value) (wr : World) : Prop :=
  ∃ (i : Nat) (a : Option Addr) (cap : Nat), i ≤ xs.length ∧ u9 = .slice a i cap ∧ u10 = .int .i64 (i : Int) ∧ RMid strTy w wr (.slice a i cap) (xs.take i) ∧ PHas w wr (rowX (.slice a i cap)) r (ordN (xs.take i))
def Ord2 (w : World) (r : Nat) (v : Value) (Z : List ByteArray) (u : Value) (wr : World) : Prop :=
  ∃ i : Nat, i ≤ Z.length ∧ u = .int .i64 (i : Int) ∧ RAt strTy wr v Z ∧ PHas w wr (rowX v) r (ordN (Z.drop i))
theorem RMid.stay {α : Type} {R : RowTy α} {w wr w' : World} {v : Value} {L : List α} (h : RMid R w wr v L) (hs : ∀ b, v.ownBlock = some b → w'.heap[b]? = wr.heap[b]?) (hb : Below w.heap.size w w') : RMid R w w' v L := ⟨h.row.same hs, h.new, hb⟩
set_option maxHeartbeats 8000000 in
theorem netOrder_walk (v : Value) (xs : List ByteArray) (lt tw : Int) (w : World) (hv : RAt strTy w v xs) (hx : ∀ s ∈ xs, s.size ≤ maxLen) (hl : xs.length ≤ maxLen) (h1 : I64' lt) (h2 : I64' tw) : Calls Try.prog 6 #[v, .int .i64 lt, .int .i64 tw] w (ShownPost w) := by
  have HS := hid (shown_any w)
  have HV := hid hv
  obtain ⟨ao, cap, rfl, hat⟩ := strs_at hv
  by_cases h0 : xs.length = 0
  · have hq : ((xs.length : Int) == 0) = true := beq_iff_eq.2 (by omega)
    have hle : (xs.length : Int) ≤ 100 := by omega
    clear hv hx hat h0
    generalize xs.length = n at *
    go_enter Try.func6, Try.ntmps6
    go_wp2_with (go_at_call 8; (with_reducible refine HS.out.mono ?_); rintro e w1 ⟨rfl, hb1⟩)
    go_ret
    exact ⟨rfl, hb1⟩
  by_cases h100 : xs.length ≤ 100
  · have hq : ((xs.length : Int) == 0) = false := beq_eq_false_iff_ne.2 (by omega)
    have hle : (xs.length : Int) ≤ 100 := by omega
    have HN := hid (fun wx (hb : Below w.heap.size w wx) => qNew (w0 := w) (w := wx) (X := noX) hb (fun _ e => e.elim))
    have HAt : Hid (∀ wx, Below w.heap.size w wx → ∀ i (hi : i < xs.length), ∃ sb so, ao = some ⟨sb, so, none⟩ ∧ wx.cell? ⟨sb, so + i, none⟩ = some (.string (xs[i]'hi))) := hid (fun wx hb i hi => by
      obtain ⟨sb, so, e, hlt, hc⟩ := hat i _ (List.getElem?_eq_getElem hi)
      exact ⟨sb, so, e, (hb.cell (p := ⟨sb, so + i, none⟩) hlt).trans hc⟩)
    have HX := hid hx
    clear hv hx hat
    go_enter Try.func6, Try.ntmps6
    go_wp2_with (first
      | (go_at_call 8; (with_reducible refine HS.out.mono ?_); rintro e w1 ⟨rfl, hb1⟩)
      | (go_at_call 10; (with_reducible refine (HN.out _ hb1).mono ?_); rintro e w2 ⟨r, rfl, hh0⟩; have hh := hid hh0.has; clear hh0))
    go_loopw [9, 10] (Ord1 w r xs) (fun _ u _ => xs.length - (intOf u).toNat)
    case atStart =>
      refine ⟨0, none, 0, Nat.zero_le _, rfl, rfl, ?_, ?_⟩
      · exact ⟨rOwn_nil _, fun b e => by simp [Value.ownBlock] at e, hh.out.below⟩
      · exact hh.out.turn (X := noX) (Chg.refl _ _) hh.out.below (fun b e => by simp [rowX, Value.ownBlock] at e)
    case round =>
      obtain ⟨i, a, wcap, hi, rfl, rfl, hm0, hh0⟩ := hrel
      have hm := hid hm0
      have hh := hid hh0
      clear hm0 hh0
      by_cases hin : i < xs.length
      · have hinI : (i : Int) < (xs.length : Int) := by omega
        obtain ⟨sb, so, rfl, c0⟩ := HAt.out _ hh.out.below i hin
        have hsz := HX.out _ (List.getElem_mem hin)
        have HTk : Hid (xs.take (i + 1) = xs.take i ++ [xs[i]'hin]) := hid (by rw [List.take_add_one, List.getElem?_eq_getElem hin]; rfl)
        have hlt : (xs.take i).length = i := by rw [List.length_take]; omega
        have HSd := hid (qSend hh.out (by simp [ordN]) (d := xs[i]'hin) (i64s 1 (by omega) (by omega)) (i64s 2 (by omega) (by omega)))
        have HC2 : Hid (∀ wx, Below w.heap.size w wx → wx.cell? ⟨sb, so + i, none⟩ = some (.string (xs[i]'hin))) := hid (fun wx hb => by
          obtain ⟨sb', so', e, hc⟩ := HAt.out wx hb i hin
          cases e
          exact hc)
        have hse := ord_send (xs.take i) (xs[i]'hin) (by omega)
        unfold mk12 at hse
        rw [hse] at HSd
        clear hse
        generalize (xs[i]'hin) = x at *
        by_cases hx3 : x.size ≤ 300
        · have hx3I : (x.size : Int) ≤ 300 := by omega
          have HPush : Hid (∀ w3, PGo w wr w3 (rowX (.slice a i wcap)) r (ordN (xs.take i ++ [x])) → w3.cell? ⟨sb, so + i, none⟩ = some (.string x) ∧ ∃ ao2 cap2 w5, (Builtin.append_ #[53, 53] 53 #[.slice a i wcap, .slice (some ⟨w3.heap.size, 0, none⟩) 1 1]).run Try.prog (w3.alloc (sbox x)) = .ok (.slice ao2 (i + 1) cap2) w5 ∧ Hid (Ord1 w r xs (.slice ao2 (i + 1) cap2) (.int .i64 ((i + 1 : Nat) : Int)) w5)) := hid (fun w3 hg => by
            have hm3 := hm.out.stay (fun b e => hg.same b e) hg.has.below
            obtain ⟨ao2, cap2, w5, hr, hm5, hh5⟩ := push_has hm3 hg.has x (by omega)
            rw [hlt] at hr hm5 hh5
            exact ⟨HC2.out w3 hg.has.below, ao2, cap2, w5, hr, hid ⟨i + 1, ao2, cap2, by omega, rfl, rfl, by rw [HTk.out]; exact hm5, by rw [HTk.out]; exact hh5⟩⟩)
          clear hlt
          go_wp2_with (first
            | (go_at_call 12; (with_reducible refine HSd.out.mono ?_); rintro e w3 ⟨rfl, hg⟩; obtain ⟨d0, ao2, cap2, w5, hrun, HR⟩ := HPush.out _ hg; have HRun := hid hrun; clear hg hrun)
            | (at_builtin; refine wpList_append_at HRun.out (by with_reducible rfl) rfl _ _ rfl rfl rfl rfl ?_))
          go_roundw
          case rel => exact HR.out
          case measure => simp [intOf]; omega
        · have hx3I : (300 : Int) < (x.size : Int) := by omega
          go_wp2
          go_ret
          exact ⟨rfl, hh.out.below⟩
      · obtain rfl : i = xs.length := by omega
        rw [List.take_length] at hm hh
        have hh5 := hid (hh.out.mono (Y := noX) (fun _ y => y.elim))
        have HP1 := hid (fun wx => pick_any lt (xs.length : Int) wx (by omega) (by omega) h1.1 h1.2)
        have HP2 := hid (fun wx => pick_any tw (xs.length : Int) wx (by omega) (by omega) h2.1 h2.2)
        have hr1 := pickZ_range lt (xs.length : Int) (by omega)
        have hr2 := pickZ_range tw (xs.length : Int) (by omega)
        obtain ⟨kk, hkk⟩ : ∃ kk : Nat, pickZ lt (xs.length : Int) = (kk : Int) := ⟨(pickZ lt (xs.length : Int)).toNat, by omega⟩
        obtain ⟨mm, hmm⟩ : ∃ mm : Nat, pickZ tw (xs.length : Int) = (mm : Int) := ⟨(pickZ tw (xs.length : Int)).toNat, by omega⟩
        rw [hkk] at HP1 hr1
        rw [hmm] at HP2 hr2
        clear hkk hmm hm hh
        have hkn : kk < xs.length := by omega
        have hkI : (kk : Int) < (xs.length : Int) := by omega
        obtain ⟨x, hxe⟩ : ∃ x, xs[kk] = x := ⟨_, rfl⟩
        have hYl := outB_len hkn
        have hLt := ord_late xs kk hkn
        rw [hxe] at hYl hLt
        obtain ⟨Y, hY⟩ : ∃ Y, outB xs kk ++ [x] = Y := ⟨_, rfl⟩
        rw [hY] at hYl hLt
        have hmY : mm < Y.length := by omega
        have hTw := ord_twice Y mm hmY (by omega)
        obtain ⟨y, hye⟩ : ∃ y, Y[mm] = y := ⟨_, rfl⟩
        rw [hye] at hTw
        have HLate := hid (qLate hh5.out (by simp [ordN]) (kk : Int))
        have HTwice := hid (fun wx (h : PHas w wx noX r (ordN Y)) => qTwice h (by simp [ordN]) (mm : Int))
        rw [hLt] at HLate
        rw [hTw] at HTwice
        clear hLt hTw
        obtain ⟨sb, so, rfl, _⟩ := HAt.out _ hh5.out.below kk hkn
        have HC2 : Hid (∀ wx, Below w.heap.size w wx → wx.cell? ⟨sb, so + kk, none⟩ = some (.string x)) := hid (fun wx hb => by
          obtain ⟨sb', so', e, hc⟩ := HAt.out wx hb kk hkn
          cases e
          rw [hc, hxe])
        have HYY : Hid (Y[mm]? = some y) := hid (by rw [List.getElem?_eq_getElem hmY, hye])
        have HYd := hid hY
        have hW : IntKind.i64.wrap ((kk : Int) + 1) = (kk : Int) + 1 := IntWalk.i64_in _ (by omega)
        clear hY hye hxe hmY
        go_upto_region 17 with (first
          | (go_at_call 11; (with_reducible refine (HP1.out _).mono ?_); rintro e w3 ⟨rfl, rfl⟩)
          | (go_at_call 11; (with_reducible refine (HP2.out _).mono ?_); rintro e w3 ⟨rfl, rfl⟩)
          | (go_at_call 24; (with_reducible refine HLate.out.mono ?_); rintro e w4 ⟨rfl, hg⟩; have hh6 := hid hg.has; clear hg)
          | (go_at_call 25; (with_reducible refine (HTwice.out _ hh6.out).mono ?_); rintro e w5 ⟨rfl, hg⟩; have hh7 := hid hg.has; clear hg))
        go_cut [9] (fun u wx => ∃ a3 c3, u = .slice a3 xs.length c3 ∧ RMid strTy w5 wx (.slice a3 xs.length c3) Y)
        case first =>
          have hV5 := HV.out.below hh7.out.below
          have bE : Below w5.heap.size w5 (w5.alloc semp).drew := ((Below.refl _ _).alloc (Nat.le_refl _) _).drew
          have zE : (w5.alloc semp).heap.size = w5.heap.size + 1 := by simp
          have zB : (w5.alloc (sbox x)).heap.size = w5.heap.size + 1 := by simp
          have bEB : Below w5.heap.size w5 ((w5.alloc semp).alloc (sbox x)).drew := (((Below.refl _ _).alloc (Nat.le_refl _) _).alloc (by simp) _).drew
          have bBE : Below w5.heap.size w5 ((w5.alloc (sbox x)).alloc semp).drew := (((Below.refl _ _).alloc (Nat.le_refl _) _).alloc (by simp) _).drew
          have bB : Below w5.heap.size w5 (w5.alloc (sbox x)) := (Below.refl _ _).alloc (Nat.le_refl _) _
          have mE : RMid strTy w5 (w5.alloc semp).drew (.slice (some ⟨w5.heap.size, 0, none⟩) 0 0) [] := rMid_empty bE (own.new w5 _ _) (Nat.le_refl _)
          have mEB : RMid strTy w5 ((w5.alloc semp).alloc (sbox x)).drew (.slice (some ⟨w5.heap.size, 0, none⟩) 0 0) [] := rMid_empty bEB (own.same (own.new w5 _ 9) (Below.heap_alloc _ _ _ (by omega))) (Nat.le_refl _)
          have mBE : RMid strTy w5 ((w5.alloc (sbox x)).alloc semp).drew (.slice (some ⟨w5.heap.size + 1, 0, none⟩) 0 0) [] := rMid_empty bBE (by rw [← zB]; exact own.new (w5.alloc (sbox x)) _ _) (by omega)
          obtain ⟨aA1, cA1, wA1, aA2, cA2, wA2, aA3, cA3, wA3, PA⟩ := ord_plan hV5 hkn (by omega) x (gB := w5.heap.size + 1) 0 mEB (fun _ => ⟨by rw [← zE]; exact own.new (w5.alloc semp) _ _, by omega⟩) (by omega)
          obtain ⟨aB1, cB1, wB1, aB2, cB2, wB2, aB3, cB3, wB3, PB⟩ := ord_plan hV5 hkn (by omega) x (gB := w5.heap.size) 0 mBE (fun _ => ⟨own.same (own.new w5 _ 9) (Below.heap_alloc _ _ _ (by omega)), by omega⟩) (by omega)
          obtain ⟨aC1, cC1, wC1, aC2, cC2, wC2, aC3, cC3, wC3, PC⟩ := ord_plan hV5 hkn (by omega) x (gB := 0) 1 mE (fun h => by omega) (by omega)
          obtain ⟨aD1, cD1, wD1, aD2, cD2, wD2, aD3, cD3, wD3, PD⟩ := ord_plan hV5 hkn (by omega) x (gB := 0) 2 mE (fun h => by omega) (by omega)
          obtain ⟨rfl, rfl, rfl⟩ : aC1 = aD1 ∧ cC1 = cD1 ∧ wC1 = wD1 := by
            have h := PC.e1.symm.trans PD.e1
            simp only [Result.ok.injEq, Value.slice.injEq, true_and] at h
            exact ⟨h.1.1, h.1.2, h.2⟩
          have bw := hh7.out.below
          have bz := bw.size
          have f0 := HC2.out w5 bw
          have f1 := HC2.out (w5.alloc semp) (bw.alloc bz _)
          have f2 := HC2.out wC1 (bw.trans (PC.b1.mono bz))
          have f3 := HC2.out wD2 (bw.trans (PD.b2.mono bz))
          have f4 := HC2.out (w5.alloc (sbox x)) (bw.alloc bz _)
          have HFA := hid PA.fin
          have HFB := hid PB.fin
          have HFC := hid PC.fin
          have HFD := hid PD.fin
          rw [HYd.out] at HFA HFB HFC HFD
          have eA1 := hid PA.e1
          have eA2 := hid PA.e2
          have eA3 := hid PA.e3
          have eB1 := hid PB.e1
          have eB2 := hid PB.e2
          have eB3 := hid PB.e3
          have eC1 := hid PC.e1
          have eC2 := hid PC.e2
          have eC3 := hid PC.e3
          have eD2 := hid PD.e2
          have eD3 := hid PD.e3
          simp only [if_true, if_false, show ¬ ((0 : Nat) = 1) by omega, show ¬ ((0 : Nat) = 2) by omega, show ¬ ((1 : Nat) = 0) by omega, show ¬ ((1 : Nat) = 2) by omega, show ¬ ((2 : Nat) = 0) by omega, show ¬ ((2 : Nat) = 1) by omega] at eA2 eA3 eB2 eB3 eC2 eC3 eD2 eD3
          obtain ⟨_, _, ev, hlc, hnn, _⟩ := hV5
          cases ev
          have l1 : ∀ wx : World, (Instr.slice 53 (.slice (some ⟨sb, so, none⟩) xs.length cap) none (some (.int .i64 (kk : Int))) none).run Try.prog wx = .ok (.slice (some ⟨sb, so, none⟩) kk cap) wx := fun wx => run_to strTy_ok wx _ xs.length cap kk (by omega) (by simp)
          have l2 : ∀ wx : World, (Instr.slice 53 (.slice (some ⟨sb, so, none⟩) xs.length cap) (some (.int .i64 ((kk : Int) + 1))) none none).run Try.prog wx = .ok (strTy.from (some ⟨sb, so, none⟩) xs.length cap (kk + 1)) wx := fun wx => by
            have := run_from strTy_ok wx (some ⟨sb, so, none⟩) xs.length cap (kk + 1) (by omega) hlc
            push_cast at this
            exact this
          clear PA PB PC PD mE mEB mBE bE bEB bBE bB zE zB bw bz hlc hnn hYl
          generalize strTy.from (some ⟨sb, so, none⟩) xs.length cap (kk + 1) = vf at *
          generalize xs.length - 1 = n1 at *
          go_region_law (first
            | (refine step_append_at eA1.out (by with_reducible rfl) rfl _ _ rfl rfl rfl rfl ?_)
            | (refine step_append_at eA2.out (by with_reducible rfl) rfl _ _ rfl rfl rfl rfl ?_)
            | (refine step_append_at eA3.out (by with_reducible rfl) rfl _ _ rfl rfl rfl rfl ?_)
            | (refine step_append_at eB1.out (by with_reducible rfl) rfl _ _ rfl rfl rfl rfl ?_)
            | (refine step_append_at eB2.out (by with_reducible rfl) rfl _ _ rfl rfl rfl rfl ?_)
            | (refine step_append_at eB3.out (by with_reducible rfl) rfl _ _ rfl rfl rfl rfl ?_)
            | (refine step_append_at eC1.out (by with_reducible rfl) rfl _ _ rfl rfl rfl rfl ?_)
            | (refine step_append_at eC2.out (by with_reducible rfl) rfl _ _ rfl rfl rfl rfl ?_)
            | (refine step_append_at eC3.out (by with_reducible rfl) rfl _ _ rfl rfl rfl rfl ?_)
            | (refine step_append_at eD2.out (by with_reducible rfl) rfl _ _ rfl rfl rfl rfl ?_)
            | (refine step_append_at eD3.out (by with_reducible rfl) rfl _ _ rfl rfl rfl rfl ?_))
          all_goals
            go_wp2
            go_meet
            first
              | exact ⟨_, _, rfl, HFA.out⟩
              | exact ⟨_, _, rfl, HFB.out⟩
              | exact ⟨_, _, rfl, HFC.out⟩
              | exact ⟨_, _, rfl, HFD.out⟩
        case rest =>
          obtain ⟨a3, c3, rfl, hmY⟩ := hcut
          generalize wc = W at *
          have bw := hh7.out.below
          have hm8 : RMid strTy w W (.slice a3 xs.length c3) Y := ⟨hmY.row, fun b e => Nat.le_trans bw.size (hmY.new b e), bw.trans (hmY.below.mono bw.size)⟩
          have hh8 : PHas w W (rowX (.slice a3 xs.length c3)) r (ordN (Y ++ [y])) := hh7.out.turn (X := noX) (Chg.of_below hmY.below) hm8.below (fun b e => ⟨.inr (hmY.new b e), hmY.row.lt b e⟩)
          obtain ⟨a6, c6, w6, hrun, hm9, hh9⟩ := push_has hm8 hh8 y (by omega)
          obtain ⟨a7, c7, e7, hat7⟩ := strs_at hmY.row.rAt
          rw [hYl] at e7
          cases e7
          obtain ⟨g7, o7, rfl, _, cy⟩ := hat7 mm y HYY.out
          rw [hYl] at hrun hm9 hh9
          have hZl : (Y ++ [y]).length = xs.length + 1 := by simp [hYl]
          have hmI : (mm : Int) < (xs.length : Int) := by omega
          have HRun := hid hrun
          have HH9 := hid hh9
          have HRow := hid hm9.row.rAt
          obtain ⟨Z, hZ⟩ : ∃ Z, Y ++ [y] = Z := ⟨_, rfl⟩
          rw [hZ] at HH9 HRow hZl
          obtain ⟨N, hN⟩ : ∃ N, xs.length + 1 = N := ⟨_, rfl⟩
          rw [hN] at HRun HH9 HRow hZl
          have hNb : N ≤ 101 := by omega
          clear hrun hh9 hm9 hh8 hm8 hmY bw hat7 hZ hYl hN hW HC2
          go_wp2_with (at_builtin; refine wpList_append_at HRun.out (by with_reducible rfl) rfl _ _ rfl rfl rfl rfl ?_)
          go_loopw [13] (Ord2 w r (.slice a6 N c6) Z) (fun u _ => N - (intOf u).toNat)
          case atStart => exact ⟨0, Nat.zero_le _, rfl, HRow.out, HH9.out⟩
          case round =>
            obtain ⟨i, hi, rfl, hrow, hh0⟩ := hrel
            have hh := hid hh0
            clear hh0
            by_cases hiN : i < N
            · have hiI : (i : Int) < (N : Int) := by omega
              have hiZ : i < Z.length := by omega
              obtain ⟨a8, c8, e8, hat8⟩ := strs_at hrow
              rw [hZl] at e8
              cases e8
              obtain ⟨z, hz⟩ : ∃ z, Z[i] = z := ⟨_, rfl⟩
              have hzi : Z[i]? = some z := by rw [List.getElem?_eq_getElem hiZ, hz]
              obtain ⟨g8, o8, rfl, _, cz⟩ := hat8 i z hzi
              have hdrop : Z.drop i = z :: Z.drop (i + 1) := by rw [List.drop_eq_getElem_cons hiZ, hz]
              have hQ := qTake hh.out 0
              rw [hdrop, ord_take] at hQ
              unfold mk12 at hQ
              have HRw := hid hrow
              have HT : Hid (Calls Try.prog 22 #[.pointer (some ⟨r, 0, none⟩), .int .i64 0] wr fun e w' => e = .returned (.tuple #[.agg #[.int .i64 1, .int .i64 2, .string z], .bool true]) ∧ (w'.alloc (.cells #[.int .i64 1, .int .i64 2, .string z] 37)).cell? ⟨g8, o8 + i, none⟩ = some (.string z) ∧ Hid (∀ nq, Ord2 w r (.slice (some ⟨g8, o8, none⟩) N c6) Z (.int .i64 ((i : Int) + 1)) ((w'.alloc (.cells #[.int .i64 1, .int .i64 2, .string z] 37)).drewN nq))) := hid (hQ.mono fun e w' ⟨he, hg⟩ => by
                have hb : Below w'.heap.size w' (w'.alloc (.cells #[.int .i64 1, .int .i64 2, .string z] 37)) := (Below.refl _ _).alloc (Nat.le_refl _) _
                have hr2 := (HRw.out.stay (fun b e => hg.same b e)).below hb
                obtain ⟨a9, c9, e9, hat9⟩ := strs_at hr2
                rw [hZl] at e9
                cases e9
                obtain ⟨g9, o9, e9, _, cz9⟩ := hat9 i z hzi
                cases e9
                exact ⟨he, cz9, hid (fun nq => ⟨i + 1, by omega, by push_cast; rfl, hr2.drewN nq, (hg.has.later hb).later (below_drew (Below.refl _ _) nq)⟩)⟩)
              have qz : (z.toList == z.toList) = true := beq_self_eq_true _
              clear hQ hrow hat8 hz hzi hdrop
              go_wp2_with (go_at_call 22; (with_reducible refine HT.out.mono ?_); rintro e w7 ⟨rfl, d0, HR⟩)
              go_quiet (fail)
              all_goals
                go_wp2
                go_roundw
                case rel => exact HR.out _
                case measure => simp [intOf]; omega
            · obtain rfl : i = N := by omega
              rw [List.drop_of_length_le (by omega)] at hh
              have hQ := qTake hh.out 0
              rw [ord_none] at hQ
              simp only [zl] at hQ
              have HT := hid hQ
              have HLo := hid (fun wx (h : PHas w wx (rowX (.slice a6 i c6)) r (ordN [])) => (show Calls Try.prog 17 #[.pointer (some ⟨r, 0, none⟩)] wx fun e w' => e = .returned (.int .i64 0) ∧ wx = w' from qLost h))
              clear hQ hrow
              go_wp2_with (first
                | (go_at_call 22; (with_reducible refine HT.out.mono ?_); rintro e w8 ⟨rfl, hg⟩; have hh10 := hid (hg.has.later ((Below.refl _ _).alloc (Nat.le_refl _) (.cells #[.int .i64 0, .int .i64 0, .string ⟨#[]⟩] 37))); clear hg)
                | (go_at_call 17; (with_reducible refine (HLo.out _ hh10.out).mono ?_); rintro e w9 ⟨rfl, rfl⟩))
              go_ret
              exact ⟨rfl, hh10.out.below⟩
  · have hq : (100 : Int) < (xs.length : Int) := by omega
    clear hv hx hat h0
    generalize xs.length = n at *
    go_enter Try.func6, Try.ntmps6
    go_wp2_with (go_at_call 8; (with_reducible refine HS.out.mono ?_); rintro e w1 ⟨rfl, hb1⟩)
    go_ret
    exact ⟨rfl, hb1⟩
end Go.Proofs.Ytclkhkoappjgdaa
