/-
  LAYER 5, the law AgendaPlays: its walk.
-/
import Derived.Test.YtmjgkhjjnfoolaaAgActs
import Derived.Deep.CutBlock
namespace Go.Proofs.Ytmjgkhjjnfoolaa
open Go.RowKit Go.Maps
set_option linter.unusedVariables false
set_option maxRecDepth 100000

/-- The agenda and the document's row of things side by side. -/
structure PlayAt (w wr : World) (p : Nat) (F : Nat → Prop) (mv : Value) (S : List It) (k : Nat) : Prop where
  own : Own w wr p F S
  row : ThAt wr mv S
  ap : ∀ b, mv.ownBlock = some b → w.heap.size ≤ b ∧ b < wr.heap.size ∧ ¬ F b
  len : S.length ≤ k
def PlayRel (w : World) (p n : Nat) (mv i : Value) (wr : World) : Prop := ∃ (k : Nat) (F : Nat → Prop) (S : List It), k ≤ n ∧ i = .int .i64 (k : Int) ∧ Hid (PlayAt w wr p F mv S k)
def PlayCut (w : World) (p k : Nat) (mv : Value) (wr : World) : Prop := ∃ (F : Nat → Prop) (S : List It), Hid (PlayAt w wr p F mv S (k + 1))
theorem PlayAt.later {w wr wy : World} {p k : Nat} {F : Nat → Prop} {mv : Value} {S : List It} (h : PlayAt w wr p F mv S k) (hb : Below wr.heap.size wr wy) : PlayAt w wy p F mv S k :=
  ⟨h.own.later hb, h.row.below hb, fun b e => by have h1 := h.ap b e; have := hb.size; exact ⟨h1.1, by omega, h1.2.2⟩, h.len⟩
theorem PlayAt.row3 {w wr w3 : World} {p k : Nat} {F F' : Nat → Prop} {mv : Value} {S S' : List It} (h : PlayAt w wr p F mv S k) (ht : AgTo wr w3 p F F' S') : ThAt w3 mv S :=
  h.row.same (fun b e hl => ht.chg.block b hl (h.ap b e).2.2) ht.chg.size
theorem PlayAt.turn {w wr w3 w4 : World} {p k : Nat} {F F' : Nat → Prop} {mv v' : Value} {S S' : List It} (h : PlayAt w wr p F mv S k) (ht : AgTo wr w3 p F F' S') (hn : ThNew w3 w4 v' S') (hl : S'.length ≤ k + 1) : PlayAt w w4 p F' v' S' (k + 1) :=
  ⟨(h.own.to ht).later hn.below, hn.row, fun b e => by
    have h1 := hn.new b e
    have h2 := h.own.below.size
    have h3 := ht.chg.size
    exact ⟨by omega, h1.2, fun hf => by have := ht.is.lt b hf; omega⟩, hl⟩
theorem PlayAt.due {w wr w3 w4 w5 : World} {p k : Nat} {F F' : Nat → Prop} {mv v' vo va : Value} {S D R : List It} (h : PlayAt w wr p F mv S k) (hr : RefDue wr w3 mv v' vo S D R) (hd : DueAt w3 w4 p F F' D R va) (hb : Below w4.heap.size w4 w5) (hl : R.length ≤ k + 1) : PlayAt w w5 p F' v' R (k + 1) := by
  have z1 := hr.told.below.size
  have z2 := hd.ag.chg.size
  have z3 := hb.size
  have hrow4 : ThAt w4 v' R := hr.row.same (fun b e hlt => hd.ag.chg.block b hlt (h.ap b (hr.blk b e)).2.2) z2
  refine ⟨((h.own.later hr.told.below).to hd.ag).later hb, hrow4.below hb, fun b e => ?_, hl⟩
  obtain ⟨h1, h2, h3⟩ := h.ap b (hr.blk b e)
  refine ⟨h1, by omega, fun hf => ?_⟩
  rcases hd.ag.sub b hf with k | k
  · exact h3 k
  · omega
theorem due_told {wr w3 w4 : World} {p : Nat} {F F' : Nat → Prop} {vo va mv v' : Value} {S D R : List It} (hF : ∀ b, F b → b < wr.heap.size) (hr : RefDue wr w3 mv v' vo S D R) (hd : DueAt w3 w4 p F F' D R va) : IntsAt w4 w4.heap.size vo (D.map Prod.snd) :=
  (hr.told.row.same (fun b e => hd.ag.chg.block b (hr.told.row.lt b e) (fun hf => by have := hF b hf; have := hr.told.new b e; omega))).ints (fun b e => by have := hr.told.row.lt b e; have := hd.ag.chg.size; omega)
theorem del_lt {id : Int} {S : List It} : decide ((delS id S).length < S.length) = (fndS id S).isSome := by
  cases h : fndS id S with
  | none =>
    rw [delS_none (fndS_none_iff h)]
    simp
  | some x =>
    obtain ⟨h1, h2⟩ := fndS_mem h
    have : (delS id S).length < S.length := by
      unfold delS
      exact List.length_filter_lt_length_iff_exists.2 ⟨x, h1, by simp [h2]⟩
    rw [decide_eq_true this]; rfl
theorem insS_len (x : It) (S : List It) : (insS x S).length = S.length + 1 := by rw [(insS_perm x S).length_eq]; rfl
theorem pick7 {c r : Int} : pickZ c 7 = r → 0 ≤ r ∧ r < 7 := fun h => by subst h; exact pickZ_range c 7 (by omega)
set_option maxHeartbeats 8000000 in
theorem agendaPlays_walk (v : Value) (l : List A5) (id : Int) (w : World) (hv : A5sAt w w.heap.size v l) (hx : ∀ a ∈ l, A5In a) (hl : l.length ≤ maxLen) (hid' : I64 id) :
    Calls Try.prog 3 #[v, .int .i64 id] w fun e w' => e = .returned (.bool true) ∧ Below w.heap.size w w' := by
  have HV := hid hv
  have HX := hid hx
  obtain ⟨a, cap, rfl, hat⟩ := hv
  have hSh := hid (shown_any w)
  clear hx hat
  by_cases hlen : l.length ≤ 300
  · have hlI : (l.length : Int) ≤ 300 := by omega
    have hN1 := hid (fun wx (h : Below w.heap.size w wx) => new_one h)
    go_enter Try.func3, Try.ntmps3
    go_wp2_with (first
      | (go_at_call 8; (with_reducible refine hSh.out.mono ?_); rintro e w1 ⟨rfl, hb1⟩)
      | (go_at_call 9; (with_reducible refine (hN1.out _ hb1).mono ?_); rintro e w2 ⟨p, rfl, hO⟩; have HO := hid hO; clear hO))
    go_loopw [7, 8] (PlayRel w p l.length) (fun _ i _ => l.length - (intOf i).toNat)
    case atStart => exact ⟨0, _, [], Nat.zero_le _, rfl, hid ⟨HO.out, thAt_nil _, fun b e => by simp [Value.ownBlock] at e, Nat.le_refl _⟩⟩
    case round =>
      obtain ⟨k, F, S, hk, rfl, hP⟩ := hrel
      by_cases hkl : k < l.length
      · have hkI : (k : Int) < (l.length : Int) := by omega
        obtain ⟨a', cap', hae, hat⟩ := HV.out.below hP.out.own.below
        obtain ⟨sb, so, ha, hsb, hcs⟩ := hat (by intro e; simp [e] at hkl)
        simp only [Value.slice.injEq] at hae
        obtain ⟨rfl, -, -⟩ := hae
        subst ha
        obtain ⟨ac, hac⟩ : ∃ ac, l[k] = ac := ⟨_, rfl⟩
        obtain ⟨c0, c1, c2⟩ := hcs k ac (by rw [List.getElem?_eq_getElem hkl, hac])
        obtain ⟨i0, i1, i2⟩ := HX.out ac (by rw [← hac]; exact List.getElem_mem hkl)
        have hPick := hid (fun wx => pick_any ac.op 7 wx (by omega) (by omega) i0.1 i0.2)
        obtain ⟨r, hr⟩ : ∃ r, pickZ ac.op 7 = r := ⟨_, rfl⟩
        obtain ⟨r0, r1⟩ := pick7 hr
        rw [hr] at hPick
        have HC : Hid (∀ wx, Below w.heap.size w wx → wx.cell? ⟨sb, so + k * 3 + 1, none⟩ = some (.int .i64 ac.at_) ∧ wx.cell? ⟨sb, so + k * 3 + 2, none⟩ = some (.int .i64 ac.id)) := hid (fun wx hb => by
          have h0 := hP.out.own.below
          rw [hb.cell (p := ⟨sb, so + k * 3 + 1, none⟩) hsb, hb.cell (p := ⟨sb, so + k * 3 + 2, none⟩) hsb, ← h0.cell (p := ⟨sb, so + k * 3 + 1, none⟩) hsb, ← h0.cell (p := ⟨sb, so + k * 3 + 2, none⟩) hsb]
          exact ⟨c1, c2⟩)
        have hSl := hP.out.len
        have I1 := hid i1
        have I2 := hid i2
        have HPs := hid hP.out
        clear hat hcs hac hr i0 i1 i2
        go_upto_block 2 with (go_at_call 10; (with_reducible refine (hPick.out _).mono ?_); rintro e w3 ⟨rfl, rfl⟩)
        go_cut [7] (fun mv wx => PlayCut w p k mv wx)
        case first =>
          by_cases h5 : r = 5
          · subst h5
            have HD := hid (adrop_any HPs.out.own.is I2.out)
            have HR := hid (fun w3 F' (h : AgTo wr w3 p F F' (delS ac.id S)) => refDrop_any w3 u7 S ac.id (HPs.out.row3 h) (by omega))
            rw [del_lt] at HR
            have hdl : (delS ac.id S).length ≤ S.length := List.length_filter_le _ _
            have HT := hid (fun w3 w4 F' v' (h : AgTo wr w3 p F F' (delS ac.id S)) (hn : ThNew w3 w4 v' (delS ac.id S)) => HPs.out.turn h hn (by omega))
            obtain ⟨c, hc⟩ : ∃ c, (fndS ac.id S).isSome = c := ⟨_, rfl⟩
            rw [hc] at HD HR
            clear hc hdl
            have hq : (c != c) = false := by cases c <;> rfl
            go_wp2_with (first
              | (go_at_call 11; (with_reducible refine HD.out.mono ?_); rintro e w3 ⟨rfl, F', ht⟩; have HT3 := hid ht; obtain ⟨c3, c4⟩ := HC.out _ (HPs.out.own.to ht).below; clear ht)
              | (go_at_call 12; (with_reducible refine (HR.out _ _ HT3.out).mono ?_); rintro e w4 ⟨v', rfl, hn⟩; have HN4 := hid hn; clear hn))
            go_meet
            exact ⟨_, _, hid (HT.out _ _ _ _ HT3.out HN4.out)⟩
          · have hq5 : (r == 5) = false := beq_eq_false_iff_ne.2 h5
            by_cases h6 : r = 6
            · subst h6
              clear hq5
              have HR := hid (refDue_any wr u7 S ac.at_ HPs.out.row (by omega))
              have HD := hid (fun w3 (h : Below wr.heap.size wr w3) => adue_any (HPs.out.own.later h).is (by omega) ac.at_)
              have hdl := restS_le ac.at_ S
              have hdl2 := dueS_le ac.at_ S
              have HS := hid (fun wx va vb (ha : IntsAt wx wx.heap.size va ((dueS ac.at_ S).map Prod.snd)) (hb : IntsAt wx wx.heap.size vb ((dueS ac.at_ S).map Prod.snd)) => same_any wx va vb _ _ ha hb (by simp only [List.length_map]; omega) (by simp only [List.length_map]; omega))
              rw [show decide ((dueS ac.at_ S).map Prod.snd = (dueS ac.at_ S).map Prod.snd) = true from decide_eq_true rfl] at HS
              have HT := hid (fun w3 w4 w5 F' v' vo va (hr : RefDue wr w3 u7 v' vo S (dueS ac.at_ S) (restS ac.at_ S)) (hd : DueAt w3 w4 p F F' (dueS ac.at_ S) (restS ac.at_ S) va) (hb : Below w4.heap.size w4 w5) => HPs.out.due hr hd hb (by omega))
              clear hdl hdl2
              go_wp2_with (first
                | (go_at_call 13; (with_reducible refine HR.out.mono ?_); rintro e w3 ⟨v', vo, rfl, hr⟩; have HR3 := hid hr; have hb3 := hr.told.below; obtain ⟨c3, c4⟩ := HC.out _ (HPs.out.own.later hb3).below; clear hr)
                | (go_at_call 15; (with_reducible refine (HD.out _ hb3).mono ?_); rintro e w4 ⟨va, F', rfl, hd⟩; have HD4 := hid hd; clear hd)
                | (go_at_call 14; (with_reducible refine (HS.out _ _ _ (HD4.out.row.ints HD4.out.row.lt) (due_told HPs.out.own.is.lt HR3.out HD4.out)).mono ?_); rintro e w5 ⟨rfl, hb5⟩))
              go_meet
              exact ⟨_, _, hid (HT.out _ _ _ _ _ _ _ HR3.out HD4.out hb5)⟩
            · have hq6 : (r == 6) = false := beq_eq_false_iff_ne.2 h6
              have HPd := hid (HPs.out.later (Below.drew (Below.refl _ wr)))
              have HP := hid (aput_any HPd.out.own.is (x := (ac.at_, ac.id)) ⟨I1.out, I2.out⟩ (by omega))
              have hdl : (delS ac.id S).length ≤ S.length := List.length_filter_le _ _
              have HR := hid (fun w3 F' (h : AgTo wr.drew w3 p F F' (insS (ac.at_, ac.id) (delS ac.id S))) => refPut_any w3.drew u7 S ac.at_ ac.id ((HPd.out.row3 h).below (Below.drew (Below.refl _ w3))) (by omega))
              have HT := hid (fun w3 w4 F' v' (h : AgTo wr.drew w3 p F F' (insS (ac.at_, ac.id) (delS ac.id S))) (hn : ThNew w3.drew w4 v' (insS (ac.at_, ac.id) (delS ac.id S))) => HPd.out.turn (h.trans (AgTo.of_below h.is (Below.drew (Below.refl _ w3)))) hn (by rw [insS_len]; omega))
              change Hid (Calls Try.prog 16 #[.pointer (some ⟨p, 0, none⟩), .int .i64 ac.at_, .int .i64 ac.id] wr.drew fun e w' => e = .returned (.tuple #[]) ∧ ∃ F', AgTo wr.drew w' p F F' (insS (ac.at_, ac.id) (delS ac.id S))) at HP
              clear hdl
              go_wp2
              go_still_tail 11, (by kernel_rfl)
              change wpList _ _ _ _ _ wr.drew
              go_wp2_with (go_at_call 16; (with_reducible refine HP.out.mono ?_); rintro e w3 ⟨rfl, F', ht⟩; have HT3 := hid ht; obtain ⟨c3, c4⟩ := HC.out _ (HPd.out.own.to ht).below; clear ht)
              go_still_tail 11, (by kernel_rfl)
              change wpList _ _ _ _ _ w3.drew
              go_wp2_with (go_at_call 17; (with_reducible refine (HR.out _ _ HT3.out).mono ?_); rintro e w4 ⟨v', rfl, hn⟩; have HN4 := hid hn; clear hn)
              go_meet
              exact ⟨_, _, hid (HT.out _ _ _ _ HT3.out HN4.out)⟩
        case rest =>
          obtain ⟨F', S', hP'⟩ := hcut
          generalize wc = w5 at *
          clear HC HPs hPick hP c0 c1 c2 I1 I2
          have hAt := hP'.out.row.at
          obtain ⟨am, cm, hve, _, hcell⟩ := hAt
          have HNx := hid (anext_any hP'.out.own.is)
          have HLn := hid (fun wx (h : Below w5.heap.size w5 wx) => alen_any (hP'.out.own.later h).is)
          have hq : ((S'.length : Int) != (S'.length : Int)) = false := by simp
          have hq0 : ((0 : Int) != 0) = false := rfl
          have hSl' := hP'.out.len
          have HE := hid (fun w6 (h : Below w5.heap.size w5 w6) => hP'.out.later h)
          subst hve
          cases S' with
          | nil =>
            simp only [nextV] at HNx
            simp only [List.length_nil] at *
            clear hcell
            go_wp2_with (first
              | (go_at_call 18; (with_reducible refine HNx.out.mono ?_); rintro e w6 ⟨rfl, hb6⟩)
              | (go_at_call 19; (with_reducible refine (HLn.out _ hb6).mono ?_); rintro e w7 ⟨rfl, rfl⟩))
            go_roundw
            case rel => exact ⟨k + 1, F', [], by omega, by go_num, hid (HE.out _ hb6)⟩
            case measure => simp [intOf]; omega
          | cons x r =>
            simp only [nextV] at HNx
            obtain ⟨sb', so', rfl, hlt, c5, c6⟩ := hcell 0 (by simp)
            rw [Nat.zero_mul, Nat.add_zero] at c5 c6
            have e0 : gt (x :: r) 0 = x := rfl
            rw [e0] at c5 c6
            have HC6 : Hid (∀ w6, Below w5.heap.size w5 w6 → w6.cell? ⟨sb', so', none⟩ = some (.int .i64 x.1) ∧ w6.cell? ⟨sb', so' + 1, none⟩ = some (.int .i64 x.2)) := hid (fun w6 h => ⟨(h.cell (p := ⟨sb', so', none⟩) hlt).trans c5, (h.cell (p := ⟨sb', so' + 1, none⟩) hlt).trans c6⟩)
            have hpos : 0 < (x :: r).length := by simp
            clear e0 hcell c5 c6
            generalize (x :: r).length = n at *
            have d1 : decide (0 < (n : Int)) = true := decide_eq_true (by omega)
            have d2 : decide (0 < n) = true := decide_eq_true (by omega)
            have q1 : (x.1 != x.1) = false := by simp
            have q2 : (x.2 != x.2) = false := by simp
            have hnI : (0 : Int) < (n : Int) := by omega
            go_wp2_with (first
              | (go_at_call 18; (with_reducible refine HNx.out.mono ?_); rintro e w6 ⟨rfl, hb6⟩; obtain ⟨c5, c6⟩ := HC6.out _ hb6)
              | (go_at_call 19; (with_reducible refine (HLn.out _ hb6).mono ?_); rintro e w7 ⟨rfl, rfl⟩))
            go_roundw
            case rel => exact ⟨k + 1, F', x :: r, by omega, by go_num, hid (HE.out _ hb6)⟩
            case measure => simp [intOf]; omega
      · obtain rfl : k = l.length := by omega
        have hSl := hP.out.len
        have HA := hid (aat_any hP.out.own.is hid')
        have HR := hid (fun wx (h : Below wr.heap.size wr wx) => refAt_any wx _ S id (hP.out.row.below h) (by omega))
        have HB := hid (fun wx (h : Below wr.heap.size wr wx) => (hP.out.own.later h).below)
        cases hf : fndS id S with
        | none =>
          rw [hf] at HA HR
          simp only [atV] at HA HR
          clear hf
          go_wp2_with (first
            | (go_at_call 20; (with_reducible refine HA.out.mono ?_); rintro e w6 ⟨rfl, hb6⟩)
            | (go_at_call 21; (with_reducible refine (HR.out _ hb6).mono ?_); rintro e w7 ⟨rfl, rfl⟩))
          go_ret
          exact ⟨rfl, HB.out _ hb6⟩
        | some x =>
          rw [hf] at HA HR
          simp only [atV] at HA HR
          have hq : (x.1 == x.1) = true := by simp
          clear hf
          go_wp2_with (first
            | (go_at_call 20; (with_reducible refine HA.out.mono ?_); rintro e w6 ⟨rfl, hb6⟩)
            | (go_at_call 21; (with_reducible refine (HR.out _ hb6).mono ?_); rintro e w7 ⟨rfl, rfl⟩))
          go_ret
          exact ⟨rfl, HB.out _ hb6⟩
  · have hlI : ¬ (l.length : Int) ≤ 300 := by omega
    go_enter Try.func3, Try.ntmps3
    go_wp2_with (go_at_call 8; (with_reducible refine hSh.out.mono ?_); rintro e w1 ⟨rfl, hb1⟩)
    go_ret
    exact ⟨rfl, hb1⟩
end Go.Proofs.Ytmjgkhjjnfoolaa
