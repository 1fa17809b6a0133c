/-
  LAYER 5, the law AgendaLeaves: its walk.
-/
import Derived.Test.YtmjgkhjjnfoolaaAgLeavesM
namespace Go.Proofs.Ytmjgkhjjnfoolaa
open Go.RowKit Go.Maps
set_option linter.unusedVariables false
set_option maxRecDepth 100000

/-- One int put behind a row that lies apart from the agenda. -/
theorem app_one {w w1 : World} {p : Nat} {F : Nat → Prop} {S : List It} {v : Value} {xs : List Int} (ho : Own w w1 p F S) (ht : Told w w1 F v xs) (x : Int) (hl : xs.length ≤ 1000) :
    ∃ v' w5, (Builtin.append_ #[33, 33] 33 #[v, .slice (some ⟨w1.heap.size, 0, none⟩) 1 1]).run Try.prog (w1.alloc (.cells #[.int .i64 x] 3)) = .ok v' w5 ∧ Own w w5 p F S ∧ Told w w5 F v' (xs ++ [x]) := by
  have hb : Below w1.heap.size w1 (w1.alloc (.cells #[.int .i64 x] 3)) := (Below.refl _ _).alloc (Nat.le_refl _) _
  have hz : (w1.alloc (.cells #[.int .i64 x] 3)).heap.size = w1.heap.size + 1 := by simp
  obtain ⟨v', w5, hr, hrow, hg, hat⟩ := run_nums' _ 33 v xs [x] _ (ht.later hb).row (ints_lit w1 [x] 1 rfl) (by simp; omega)
  have hc := Chg.of_grown hg
  have hn : ∀ b, v'.ownBlock = some b → w.heap.size ≤ b ∧ ¬ F b := fun b e => by
    rcases hat with k | k
    · exact ht.new b (by rw [← k]; exact e)
    · rw [k] at e
      cases e
      exact ⟨by have := ho.below.size; omega, fun hf => by have := ho.is.lt _ hf; omega⟩
  refine ⟨v', w5, hr, ⟨(ho.is.below hb).same (fun b hf => hc.block b (by have := ho.is.lt b hf; omega) (fun e => (ht.new b e).2 hf)) hc.size, ho.new, ?_⟩, hrow, hn⟩
  exact (ho.below.trans (hb.mono ho.below.size)).grown hg (by have := ho.below.size; omega) (fun b e => (ht.new b e).1)
theorem told_nil (w wx : World) (F : Nat → Prop) : Told w wx F (.slice none 0 0) [] := ⟨numRow_nil wx, fun b e => by simp [Value.ownBlock] at e⟩
def Lv1 (w : World) (p : Nat) (l : List Int) (i : Value) (wr : World) : Prop := ∃ (k : Nat) (F : Nat → Prop), k ≤ l.length ∧ i = .int .i64 (k : Int) ∧ Hid (Has w wr p F l (List.range k))
structure LvAt (w wr : World) (p : Nat) (F : Nat → Prop) (S : List It) (l dr : List Int) : Prop where
  own : Own w wr p F S
  perm : S.Perm (itms l (lvI l.length dr))
def Lv2 (w : World) (p : Nat) (l dr : List Int) (i : Value) (wr : World) : Prop := ∃ (k : Nat) (F : Nat → Prop) (S : List It), k ≤ dr.length ∧ i = .int .i64 (k : Int) ∧ Hid (LvAt w wr p F S l (dr.take k))
def cast (J : List Nat) : List Int := J.map (fun j : Nat => (j : Int))
theorem cast_snoc (J : List Nat) (k : Nat) : cast (J ++ [k]) = cast J ++ [(k : Int)] := by simp [cast]
def Lv3 (w : World) (p : Nat) (l dr : List Int) (now : Int) (v i : Value) (wr : World) : Prop := ∃ (k : Nat) (F : Nat → Prop) (S : List It), k ≤ l.length ∧ i = .int .i64 (k : Int) ∧ Hid (LvAt w wr p F S l dr) ∧ Hid (Told w wr F v (cast (lvJ l dr now k)))
set_option maxHeartbeats 8000000 in
theorem agendaLeaves_walk (v u : Value) (l dr : List Int) (now : Int) (w : World) (hv : IntsAt w w.heap.size v l) (hx : ∀ n ∈ l, -9223372036854775808 ≤ n ∧ n ≤ 9223372036854775807) (hl : l.length ≤ maxLen)
    (ht : -9223372036854775808 ≤ now ∧ now ≤ 9223372036854775807) (hu : IntsAt w w.heap.size u dr) (hy : ∀ n ∈ dr, -9223372036854775808 ≤ n ∧ n ≤ 9223372036854775807) (hdl : dr.length ≤ maxLen) :
    Calls Try.prog 5 #[v, .int .i64 now, u] w fun e w' => e = .returned (.bool true) ∧ Below w.heap.size w w' := by
  have HV := hid hv
  have HU := hid hu
  have HX := hid hx
  have HY := hid hy
  obtain ⟨a, cap, rfl, hat⟩ := hv.at
  obtain ⟨b, cab, rfl, hbt⟩ := hu.at
  have hSh := hid (shown_any w)
  clear hv hx hu hy hat hbt
  by_cases hlen : l.length ≤ 200
  · have hlI : (l.length : Int) ≤ 200 := by omega
    by_cases hlen2 : dr.length ≤ 100
    · have hlI2 : (dr.length : Int) ≤ 100 := by omega
      have hN1 := hid (fun wx (h : Below w.heap.size w wx) => new_one h)
      go_enter Try.func5, Try.ntmps5
      go_wp2_with (first
        | (go_at_call 8; (with_reducible refine hSh.out.mono ?_); rintro e w1 ⟨rfl, hb1⟩)
        | (go_at_call 9; (with_reducible refine (hN1.out _ hb1).mono ?_); rintro e w2 ⟨p, rfl, hO⟩; have HO := hid hO; clear hO))
      go_loopw [9] (Lv1 w p l) (fun i _ => l.length - (intOf i).toNat)
      case atStart => exact ⟨0, _, Nat.zero_le _, rfl, hid ⟨_, HO.out, List.Perm.refl _⟩⟩
      case round =>
        obtain ⟨k, F, hk, rfl, hH⟩ := hrel
        by_cases hkl : k < l.length
        · obtain ⟨a', cap', hae, hat⟩ := (HV.out.below hH.out.below).at
          obtain ⟨sb, so, ha, hsb, c1⟩ := hat k hkl
          cases hae
          subst ha
          have hkI : (k : Int) < (l.length : Int) := by omega
          have HPut := hid (hH.out.put HX.out hkl (by omega) (by simp) (by simp; omega))
          clear hat
          generalize l.getD k 0 = x at *
          go_wp2_with (go_at_call 16; (with_reducible refine HPut.out.mono ?_); rintro e w3 ⟨rfl, F', -, hH'⟩)
          go_roundw
          case rel => exact ⟨k + 1, F', by omega, by go_num, hid (by rw [range_snoc]; exact hH')⟩
          case measure => simp [intOf]; omega
        · obtain rfl : k = l.length := by omega
          obtain ⟨S0, hO0, hp0⟩ := hH.out.own
          have H0 : Hid (LvAt w wr p F S0 l []) := hid ⟨hO0, by rw [lvI_nil]; exact hp0⟩
          clear hO0 hp0
          go_wp2
          go_loopw [11] (Lv2 w p l dr) (fun i _ => dr.length - (intOf i).toNat)
          case atStart => exact ⟨0, F, S0, Nat.zero_le _, rfl, H0⟩
          case round =>
            obtain ⟨k, F, S, hk, rfl, hL⟩ := hrel
            by_cases hkl : k < dr.length
            · obtain ⟨a', cap', hae, hat⟩ := (HU.out.below hL.out.own.below).at
              obtain ⟨sb, so, ha, hsb, c1⟩ := hat k hkl
              cases hae
              subst ha
              have hkI : (k : Int) < (dr.length : Int) := by omega
              have hdI : I64 (dr.getD k 0) := by
                have e : dr.getD k 0 = dr[k] := by simp [List.getD, hkl]
                rw [e]; exact HY.out _ (List.getElem_mem hkl)
              have HDrop := hid (adrop_any hL.out.own.is hdI)
              have HPm : Hid ((delS (dr.getD k 0) S).Perm (itms l (lvI l.length (dr.take (k + 1))))) := hid (by
                rw [List.take_add_one, getD_cell hkl]
                exact lv_drop hL.out.perm)
              clear hat hdI
              generalize dr.getD k 0 = x at *
              go_wp2_with (go_at_call 11; (with_reducible refine HDrop.out.mono ?_); rintro e w3 ⟨rfl, F', ht'⟩; have HT := hid ht'; clear ht')
              go_roundw
              case rel => exact ⟨k + 1, F', _, by omega, by go_num, hid ⟨hL.out.own.to HT.out, HPm.out⟩⟩
              case measure => simp [intOf]; omega
            · obtain rfl : k = dr.length := by omega
              rw [List.take_of_length_le (Nat.le_refl _)] at hL
              go_wp2
              go_loopw [10, 12] (Lv3 w p l dr now) (fun _ i _ => l.length - (intOf i).toNat)
              case atStart => exact ⟨0, F, S, Nat.zero_le _, rfl, hL, hid (told_nil _ _ _)⟩
              case round =>
                obtain ⟨k, F, S, hk, rfl, hL, hT⟩ := hrel
                have hjl := lvJ_len l dr now k
                by_cases hkl : k < l.length
                · obtain ⟨a', cap', hae, hat⟩ := (HV.out.below hL.out.own.below).at
                  obtain ⟨sb, so, ha, hsb, c1⟩ := hat k hkl
                  cases hae
                  subst ha
                  have hkI : (k : Int) < (l.length : Int) := by omega
                  have HAt := hid (aat_any hL.out.own.is (id := (k : Int)) (by unfold I64; omega))
                  rw [lv_fnd hL.out.own.is.ok hL.out.perm hkl] at HAt
                  have HHas := hid (fun wx (h : Below wr.heap.size wr wx) => has_any wx _ dr (k : Int) (((HU.out.below hL.out.own.below).below (h.mono hL.out.own.below.size)).mono (Nat.le_trans hL.out.own.below.size h.size)) (by omega))
                  have HC : Hid (∀ wx, Below wr.heap.size wr wx → wx.cell? ⟨sb, so + k, none⟩ = some (.int .i64 (l.getD k 0))) := hid (fun wx h => by
                    rw [h.cell (p := ⟨sb, so + k, none⟩) (by have := hL.out.own.below.size; exact Nat.lt_of_lt_of_le hsb this)]; exact c1)
                  by_cases hm : (k : Int) ∈ dr
                  · have HNo := hid (lvJ_no (l := l) (now := now) (.inl hm))
                    rw [if_pos hm] at HAt
                    rw [show decide ((k : Int) ∈ dr) = true from decide_eq_true hm] at HHas
                    simp only [atV] at HAt
                    clear hat hm c1
                    go_wp2_with (first
                      | (go_at_call 20; (with_reducible refine HAt.out.mono ?_); rintro e w3 ⟨rfl, hb3⟩)
                      | (go_at_call 22; (with_reducible refine (HHas.out _ hb3).mono ?_); rintro e w4 ⟨rfl, rfl⟩))
                    go_roundw
                    case rel => exact ⟨k + 1, F, S, by omega, by go_num, hid ⟨hL.out.own.later hb3, hL.out.perm⟩, hid (by rw [HNo.out]; exact hT.out.later hb3)⟩
                    case measure => simp [intOf]; omega
                  · by_cases hn : now < l.getD k 0
                    · have HYes := hid (lvJ_yes hm hn)
                      rw [if_neg hm] at HAt
                      rw [show decide ((k : Int) ∈ dr) = false from decide_eq_false hm] at HHas
                      simp only [atV, itm] at HAt
                      have HApp := hid (fun wx (h : Below wr.heap.size wr wx) => app_one (hL.out.own.later h) (hT.out.later h) (k : Int) (by unfold cast; rw [List.length_map]; omega))
                      clear hat hm c1
                      generalize l.getD k 0 = x at *
                      go_wp2_with (first
                        | (go_at_call 20; (with_reducible refine HAt.out.mono ?_); rintro e w3 ⟨rfl, hb3⟩; have c2 := HC.out _ hb3; obtain ⟨v5, w5, e5, hO5, hT5⟩ := HApp.out _ hb3; have HO5 := hid hO5; have HT5 := hid hT5; clear hO5 hT5)
                        | (go_at_call 22; (with_reducible refine (HHas.out _ hb3).mono ?_); rintro e w4 ⟨rfl, rfl⟩)
                        | (at_builtin; (refine wpList_append_at e5 (by with_reducible rfl) rfl _ _ rfl rfl rfl rfl ?_)))
                      go_roundw
                      case rel => exact ⟨k + 1, F, S, by omega, by go_num, hid ⟨HO5.out, hL.out.perm⟩, hid (by rw [HYes.out, cast_snoc]; exact HT5.out)⟩
                      case measure => simp [intOf]; omega
                    · have HNo := hid (lvJ_no (l := l) (dr := dr) (now := now) (k := k) (.inr (by omega)))
                      rw [if_neg hm] at HAt
                      rw [show decide ((k : Int) ∈ dr) = false from decide_eq_false hm] at HHas
                      simp only [atV, itm] at HAt
                      clear hat hm c1
                      generalize l.getD k 0 = x at *
                      go_wp2_with (first
                        | (go_at_call 20; (with_reducible refine HAt.out.mono ?_); rintro e w3 ⟨rfl, hb3⟩; have c2 := HC.out _ hb3)
                        | (go_at_call 22; (with_reducible refine (HHas.out _ hb3).mono ?_); rintro e w4 ⟨rfl, rfl⟩))
                      go_roundw
                      case rel => exact ⟨k + 1, F, S, by omega, by go_num, hid ⟨hL.out.own.later hb3, hL.out.perm⟩, hid (by rw [HNo.out]; exact hT.out.later hb3)⟩
                      case measure => simp [intOf]; omega
                · obtain rfl : k = l.length := by omega
                  have hSl : S.length ≤ 1000 := by rw [hL.out.perm.length_eq]; unfold itms lvI; rw [List.length_map]; have := List.length_filter_le (fun i : Nat => decide ((i : Int) ∉ dr)) (List.range l.length); rw [List.length_range] at this; omega
                  have hDl := dueS_le now S
                  have hDl2 : (dueS now S).length ≤ 1000 := by omega
                  have HDue := hid (due_turn hL.out.own hSl now rfl rfl)
                  have HR := hid (lv_rest (now := now) hL.out.own.is.ok hL.out.perm)
                  obtain ⟨av, cav, hve, _⟩ := hT.out.row.slice
                  have hcl : (cast (lvJ l dr now l.length)).length = (lvJ l dr now l.length).length := by unfold cast; rw [List.length_map]
                  rw [hcl] at hve
                  subst hve
                  have HCl := hid hcl
                  clear hSl hcl
                  go_wp2_with (go_at_call 15; (with_reducible refine HDue.out.mono ?_); rintro e w4 ⟨vd, F', rfl, hO, hD, hU⟩; have HO := hid hO; have HD := hid hD; have HT := hid (hT.out.turn hU); obtain ⟨ad, cad, rfl, _⟩ := hD.row.slice; rw [List.length_map]; clear hO hD hU)
                  have hIL : ∀ wx, Below w4.heap.size w4 wx → IntsAt wx w.heap.size (.slice a l.length cap) l ∧ IntsAt wx wx.heap.size (.slice b dr.length cab) dr ∧ IntsAt wx wx.heap.size (.slice ad ((dueS now S).map Prod.snd).length cad) ((dueS now S).map Prod.snd) ∧ IntsAt wx wx.heap.size (.slice av (cast (lvJ l dr now l.length)).length cav) (cast (lvJ l dr now l.length)) := fun wx hb => by
                    have hbw := HO.out.below
                    have hbx := hbw.trans (hb.mono hbw.size)
                    refine ⟨HV.out.below hbx, (HU.out.below hbx).mono hbx.size, (HD.out.later hb).ints, ?_⟩
                    rw [HCl.out]
                    exact (HT.out.later hb).ints
                  have HIL := hid hIL
                  clear hIL
                  go_loopw [16] (fun i wr => ∃ k : Nat, k ≤ (dueS now S).length ∧ i = .int .i64 (k : Int) ∧ Below w4.heap.size w4 wr) (fun i _ => (dueS now S).length - (intOf i).toNat)
                  case atStart => exact ⟨0, Nat.zero_le _, rfl, Below.refl _ _⟩
                  case round =>
                    obtain ⟨k, hk, rfl, hbw⟩ := hrel
                    obtain ⟨i1, i2, i3, i4⟩ := HIL.out _ hbw
                    by_cases hkd : k < (dueS now S).length
                    · obtain ⟨i, hi, hidr, hd, hle⟩ := lv_due hL.out.perm hkd
                      obtain ⟨a', cap', hae, hat⟩ := i1.at
                      obtain ⟨sb, so, ha, _, c1⟩ := hat i hi
                      cases hae
                      subst ha
                      obtain ⟨a', cap', hae, hat'⟩ := i3.at
                      obtain ⟨sc, sp, ha, _, c2⟩ := hat' k (by rw [List.length_map]; exact hkd)
                      simp only [Value.slice.injEq] at hae
                      obtain ⟨rfl, -, -⟩ := hae
                      subst ha
                      rw [hd] at c2
                      have HHas := hid (has_any wr _ dr (i : Int) i2 (by omega))
                      rw [show decide ((i : Int) ∈ dr) = false from decide_eq_false hidr] at HHas
                      have hkI : (k : Int) < ((dueS now S).length : Int) := by omega
                      have hiI : (i : Int) < (l.length : Int) := by omega
                      clear hat hat' i1 i2 i3 i4 hidr hd
                      generalize l.getD i 0 = x at *
                      generalize (dueS now S).length = nd at *
                      go_wp2_with (go_at_call 22; (with_reducible refine HHas.out.mono ?_); rintro e w5 ⟨rfl, rfl⟩)
                      go_roundw
                      case rel => exact ⟨k + 1, by omega, by go_num, hbw⟩
                      case measure => simp [intOf]; omega
                    · obtain rfl : k = (dueS now S).length := by omega
                      clear i1 i2 i3 i4
                      have HRI := hid HO.out.is.ok
                      have hjl2 := hjl
                      go_wp2
                      go_loopw [17] (fun i wr => ∃ k : Nat, k ≤ (lvJ l dr now l.length).length ∧ i = .int .i64 (k : Int) ∧ Below w4.heap.size w4 wr) (fun i _ => (lvJ l dr now l.length).length - (intOf i).toNat)
                      case atStart => exact ⟨0, Nat.zero_le _, rfl, hbw⟩
                      case round =>
                        obtain ⟨k, hk, rfl, hbw⟩ := hrel
                        obtain ⟨i1, i2, i3, i4⟩ := HIL.out _ hbw
                        by_cases hkd : k < (lvJ l dr now l.length).length
                        · obtain ⟨j, hj⟩ : ∃ j, (lvJ l dr now l.length)[k] = j := ⟨_, rfl⟩
                          have hjm : j ∈ lvJ l dr now l.length := by rw [← hj]; exact List.getElem_mem hkd
                          have hjlt := (lvJ_mem.1 hjm).1
                          obtain ⟨a', cap', hae, hat⟩ := i1.at
                          obtain ⟨sb, so, ha, hsb, c1⟩ := hat j hjlt
                          cases hae
                          subst ha
                          obtain ⟨a', cap', hae, hat'⟩ := i4.at
                          obtain ⟨sc, sp, ha, _, c2⟩ := hat' k (by rw [HCl.out]; exact hkd)
                          simp only [Value.slice.injEq] at hae
                          obtain ⟨rfl, -, -⟩ := hae
                          subst ha
                          rw [show (cast (lvJ l dr now l.length)).getD k 0 = (j : Int) by unfold cast; simp [List.getD, hkd, hj]] at c2
                          have HAt := hid (fun (hi : I64 (j : Int)) => aat_any (HO.out.later hbw).is hi)
                          rw [lv_left HO.out.is.ok HR.out hjm] at HAt
                          simp only [atV, itm] at HAt
                          have hji : I64 (j : Int) := by unfold I64; omega
                          have HC : Hid (∀ wx, Below wr.heap.size wr wx → wx.cell? ⟨sb, so + j, none⟩ = some (.int .i64 (l.getD j 0)) ∧ wx.cell? ⟨sc, sp + k, none⟩ = some (.int .i64 (j : Int))) := hid (fun wx h => by
                            rw [h.cell (p := ⟨sb, so + j, none⟩) (show sb < wr.heap.size by have := HO.out.below.size; have := hbw.size; omega), h.cell (p := ⟨sc, sp + k, none⟩) (World.block_lt_of_cell? _ _ c2)]
                            exact ⟨c1, c2⟩)
                          have hkI : (k : Int) < ((lvJ l dr now l.length).length : Int) := by omega
                          have hjI : (j : Int) < (l.length : Int) := by omega
                          have HJI := hid hji
                          clear hat hat' i1 i2 i3 i4 hj hjm hji
                          generalize l.getD j 0 = x at *
                          have hqq : (x != x) = false := by simp
                          go_wp2_with (go_at_call 20; (with_reducible refine (HAt.out HJI.out).mono ?_); rintro e w5 ⟨rfl, hb5⟩; obtain ⟨c3, c4⟩ := HC.out _ hb5)
                          go_roundw
                          case rel => exact ⟨k + 1, by omega, by go_num, hbw.trans (hb5.mono hbw.size)⟩
                          case measure => simp [intOf]; omega
                        · obtain rfl : k = (lvJ l dr now l.length).length := by omega
                          have HLen := hid (alen_any (HO.out.later hbw).is)
                          have hRl : (restS now S).length = (lvJ l dr now l.length).length := by rw [HR.out.length_eq]; simp [itms]
                          rw [hRl] at HLen
                          have hqq : (((lvJ l dr now l.length).length : Int) == ((lvJ l dr now l.length).length : Int)) = true := by simp
                          clear i1 i2 i3 i4 hRl
                          go_wp2_with (go_at_call 19; (with_reducible refine HLen.out.mono ?_); rintro e w5 ⟨rfl, rfl⟩)
                          go_ret
                          exact ⟨rfl, HO.out.below.trans (hbw.mono HO.out.below.size)⟩
    · have hlI2 : ¬ (dr.length : Int) ≤ 100 := by omega
      go_enter Try.func5, Try.ntmps5
      go_wp2_with (go_at_call 8; (with_reducible refine hSh.out.mono ?_); rintro e w1 ⟨rfl, hb1⟩)
      go_ret
      exact ⟨rfl, hb1⟩
  · have hlI : ¬ (l.length : Int) ≤ 200 := by omega
    go_enter Try.func5, Try.ntmps5
    go_wp2_with (go_at_call 8; (with_reducible refine hSh.out.mono ?_); rintro e w1 ⟨rfl, hb1⟩)
    go_ret
    exact ⟨rfl, hb1⟩
end Go.Proofs.Ytmjgkhjjnfoolaa
