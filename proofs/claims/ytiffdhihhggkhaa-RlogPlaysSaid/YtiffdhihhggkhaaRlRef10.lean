/-
  LAYER 8 (rlog), THE DOCUMENT's LOG: Match.
-/
import Derived.Test.YtiffdhihhggkhaaRlMtPh
namespace Go.Proofs.Ytiffdhihhggkhaa
open Go.RowKit
set_option linter.unusedVariables false
set_option maxRecDepth 100000

/-- Match's loop at its k-th round. -/
def MtAt (w : World) (F : Nat → Prop) (r : Nat) (s : Rl) (index fixed : Int) (l : List Me) (k : Nat) (first : Int) (wr : World) : Prop :=
  ∃ F' B, rfRep.Is wr F' r { s with ents := B } ∧ Chg F w wr ∧ (∀ b, F' b → F b ∨ w.heap.size ≤ b) ∧ MtPh s index fixed l k first B
def MtRel (w : World) (F : Nat → Prop) (r : Nat) (s : Rl) (index fixed : Int) (l : List Me) (u v : Value) (wr : World) : Prop :=
  ∃ (k : Nat) (first : Int), k ≤ l.length ∧ u = .int .i64 first ∧ v = .int .i64 (k : Int) ∧ Hid (MtAt w F r s index fixed l k first wr)
def RfMPost (w : World) (F : Nat → Prop) (r : Nat) (q : (Int × Int × Bool) × Rl) (e : Ending) (w' : World) : Prop := e = .returned (.tuple #[.int .i64 q.1.1, .int .i64 q.1.2.1, .bool q.1.2.2]) ∧ Turn rfRep F w w' r q.2
theorem own4 {W : World} {ge : Nat} {a b c d : Value} {T : Nat} (o : own W ge #[a, b, c, d] T) : ∀ wx, Below W.heap.size W wx → wx.cell? ⟨ge, 0, none⟩ = some a ∧ wx.cell? ⟨ge, 1, none⟩ = some b ∧ wx.cell? ⟨ge, 2, none⟩ = some c ∧ wx.cell? ⟨ge, 3, none⟩ = some d := fun wx hb => by
  have o := o.same (hb.block _ o.lt)
  exact ⟨(o.cell 0).trans rfl, (o.cell 1).trans rfl, (o.cell 2).trans rfl, (o.cell 3).trans rfl⟩
set_option maxHeartbeats 16000000 in
theorem rfMatch_any {w : World} {F : Nat → Prop} {r : Nat} {s : Rl} (index term fixed : Int) (ev : Value) (l : List Me) (h : rfRep.Is w F r s) (hB : RlB s) (hA : Apart enTy w F ev l) (hl : l.length ≤ 1000) (hM : ∀ e ∈ l, I64' e.term) (hi : I64' index) (ht : I64' term) (hfb : s.bi ≤ fixed) (hfl : fixed ≤ s.last) (hres : RlB (matchL s index term fixed l).2) : Calls Try.prog 39 #[.pointer (some ⟨r, 0, none⟩), .int .i64 index, .int .i64 term, .int .i64 fixed, ev] w (RfMPost w F r (matchL s index term fixed l)) := by
  have H := hid h
  have HB := hid hB
  have HA := hid hA
  have HL := hid (fun wx (hb : Below w.heap.size w wx) => rfLast_any (rf_later h hb) hB)
  have C1 := hid (HL.out w (Below.refl _ _))
  obtain ⟨ea, ec, rfl, -⟩ := en_at hA.row
  obtain ⟨ln, hln⟩ : ∃ n, l.length = n := ⟨_, rfl⟩
  rw [hln]
  have HLn := hid hln
  have hln2 : ln ≤ 1000 := by omega
  have hlast := hB.last
  have hbi := hB.ok.pos
  have HM := hid hM
  clear hln hl hA h hM
  by_cases e1 : s.last < index
  · have HT : Hid (matchL s index term fixed l = ((s.last, 0, false), s)) := hid (by unfold matchL; rw [if_pos e1])
    rw [HT.out]
    clear HA HM hB hres
    go_enter Try.func39, Try.ntmps39
    go_wp2_with (first
      | (go_at_call 23; (with_reducible refine C1.out.mono ?_); rintro e w1 ⟨rfl, hb⟩; have C2 := hid (HL.out w1 hb); clear C1)
      | (go_at_call 23; (with_reducible refine C2.out.mono ?_); rintro e w2 ⟨rfl, hb2⟩))
    go_ret3
    exact ⟨rfl, rf_stay H.out (hb.trans (hb2.mono hb.size))⟩
  have e1' : index ≤ s.last := by omega
  have HTm : Hid (∀ wx, Below w.heap.size w wx → Calls Try.prog 40 #[.pointer (some ⟨r, 0, none⟩), .int .i64 index] wx (RfPost wx (.tuple #[.int .i64 ((termL s index).getD 0), .bool (termL s index).isSome]))) := hid (fun wx hb => rfTerm_any index (rf_later H.out hb) HB.out hi)
  by_cases e2 : fixed < index ∧ termL s index ≠ some term
  · obtain ⟨e2, e3⟩ := e2
    have HT : Hid (matchL s index term fixed l = ((index - 1, 0, false), s)) := hid (by unfold matchL; rw [if_neg e1, if_pos ⟨e2, e3⟩])
    rw [HT.out]
    obtain ⟨tm, htm⟩ := termL_some (g := s) (i := index) (by omega) e1'
    rw [htm] at HTm e3
    simp only [Option.getD_some, Option.isSome_some] at HTm
    have hne : tm ≠ term := fun e => e3 (by rw [e])
    have q1 : (tm == term) = false := beq_false_of_ne hne
    have hwr : IntKind.i64.wrap (index - 1) = index - 1 := by rw [IntKind.wrap_i64]; unfold I64' at hi; omega
    clear HA HM hB hres HL htm e3
    go_enter Try.func39, Try.ntmps39
    go_wp2_with (first
      | (go_at_call 23; (with_reducible refine C1.out.mono ?_); rintro e w1 ⟨rfl, hb⟩; have C2 := hid (HTm.out w1 hb); clear C1)
      | (go_at_call 40; (with_reducible refine C2.out.mono ?_); rintro e w2 ⟨rfl, hb2⟩))
    go_ret3
    exact ⟨rfl, rf_stay H.out (hb.trans (hb2.mono hb.size))⟩
  have HOk : Hid (MtOk s index term fixed l) := hid ⟨hB, hres, e1', e2, hfb, hfl⟩
  obtain ⟨tm, htm⟩ : ∃ t, (termL s index).getD 0 = t := ⟨_, rfl⟩
  obtain ⟨tb, htb⟩ : ∃ t, (termL s index).isSome = t := ⟨_, rfl⟩
  have e3 : fixed < index → tm = term := fun hc => by
    obtain ⟨t, h1⟩ := termL_some (g := s) (i := index) (by omega) e1'
    have h2 : termL s index = some term := Classical.byContradiction fun h3 => e2 ⟨hc, h3⟩
    rw [← htm, h2]; rfl
  rw [htm, htb] at HTm
  clear htm htb e2 hB hres HL
  go_enter Try.func39, Try.ntmps39
  go_upto_region 4 with (first
      | (go_at_call 23; (with_reducible refine C1.out.mono ?_); rintro e w1 ⟨rfl, hb⟩; have C2 := hid (HTm.out w1 hb); clear C1)
      | (go_at_call 40; (with_reducible refine C2.out.mono ?_); rintro e w2 ⟨rfl, hb2⟩))
  go_cut [39] (fun u wx => u = .bool false ∧ wx = w2)
  case first =>
    by_cases hc : fixed < index
    · have q1 : (tm != term) = false := by rw [e3 hc]; simp
      clear e3
      go_wp2
      go_meet
      exact ⟨by first | rfl | rw [q1], rfl⟩
    · have hc' : index ≤ fixed := by omega
      clear e3
      go_wp2
      go_meet
      exact ⟨rfl, rfl⟩
  case rest =>
    obtain ⟨rfl, rfl⟩ := hcut
    have hbw := hb.trans (hb2.mono hb.size)
    have HStart : Hid (MtAt w F r s index fixed l 0 0 wc) := hid ⟨F, s.ents, rf_later H.out hbw, Chg.of_below hbw, fun b e => .inl e, MtPh.start⟩
    clear hb hb2 C2 HTm hbw e3 H
    go_wp2
    go_loopw [15, 16] (MtRel w F r s index fixed l) (fun _ k _ => ln - (intOf k).toNat)
    case atStart => exact ⟨0, 0, Nat.zero_le _, rfl, rfl, HStart⟩
    case round =>
      clear HStart
      obtain ⟨k, first, hk, rfl, rfl, hq⟩ := hrel
      obtain ⟨F', B, hIs, hCh, hFF, hph⟩ := hq.out
      by_cases hkn : k < ln
      · have hkI : (k : Int) < (ln : Int) := by omega
        obtain ⟨x, hx⟩ : ∃ x, l[k]? = some x := ⟨_, List.getElem?_eq_getElem (by rw [HLn.out]; exact hkn)⟩
        obtain ⟨ea', ec', e, hat⟩ := en_at (HA.out.turn hCh hFF).row
        cases e
        obtain ⟨sb, so, rfl, hce⟩ := hat k x hx
        obtain ⟨d0, d1, d2, d3⟩ := hce wr (Below.refl _ _)
        obtain ⟨ix, hix⟩ : ∃ ix, index + 1 + (k : Int) = ix := ⟨_, rfl⟩
        have hw1 : IntKind.i64.wrap (index + 1) = index + 1 := by rw [IntKind.wrap_i64]; unfold I64' at hi; omega
        have hw2 : IntKind.i64.wrap (index + 1 + (k : Int)) = ix := by rw [← hix, IntKind.wrap_i64]; unfold I64' at hi; omega
        have hx1 : -9223372036854775808 ≤ ix := by unfold I64' at hi; omega
        have hx2 : ix ≤ 1000000 := by omega
        have HIx := hid hix
        have hBB := hph.rlB HOk.out
        have HBx : Hid (Below wr.heap.size wr (wr.alloc (.cells #[.int .i64 ix, .int .i64 x.term, .int .i64 x.kind, .string x.dt] 49))) := hid ((Below.refl _ _).alloc (Nat.le_refl _) _)
        have ob := own.new wr #[.int .i64 ix, .int .i64 x.term, .int .i64 x.kind, .string x.dt] 49
        have HOb := hid ob
        have hix64 : I64' ix := by unfold I64'; omega
        have HTx := rfTerm_any ix (rf_later hIs HBx.out) hBB hix64
        have HKn : Hid (k + 1 ≤ l.length) := hid (by rw [HLn.out]; exact hkn)
        have HIs := hid hIs
        have HCh := hid hCh
        have HFF := hid hFF
        have HPh := hid hph
        have HX := hid hx
        have HBB := hid hBB
        have HStay : Hid (first = 0 → hasE s fixed ix x.term = true → ∀ wx, Below wr.heap.size wr wx → MtAt w F r s index fixed l (k + 1) first wx) := hid (fun h0 hh wx hb => by
          subst h0
          exact ⟨F', B, rf_later HIs.out hb, HCh.out.trans (Chg.of_below (S := F) hb) (fun b e => .inl e), HFF.out, HPh.out.skip HOk.out HX.out (by rw [HIx.out]; exact hh)⟩)
        have HGo : Hid (∀ (F2 : Nat → Prop) (W : World) (B2 : List Me) (f2 : Int), Chg F' wr W → (∀ b, F2 b → F' b ∨ wr.heap.size ≤ b) → MtPh s index fixed l (k + 1) f2 (B2 ++ [{ x with idx := ix }]) → ∀ W', Turn rfRep F2 W W' r { s with ents := B2 ++ [{ x with idx := ix }] } → MtAt w F r s index fixed l (k + 1) f2 W') := hid (fun F2 W B2 f2 hc1 hf1 hp W' hT => by
          obtain ⟨F3, i3, c3, f3⟩ := turn_trans hc1 hf1 hT
          obtain ⟨F4, i4, c4, f4⟩ := turn_trans HCh.out HFF.out (⟨F3, i3, c3, f3⟩ : Turn rfRep F' wr W' r { s with ents := B2 ++ [{ x with idx := ix }] })
          exact ⟨F4, B2 ++ [{ x with idx := ix }], i4, c4, f4, hp⟩)
        have HHas : Hid (hasE s fixed ix x.term = (decide (ix ≤ fixed) || decide (termL s ix = some x.term))) := hid rfl
        clear hce hat hix hx hIs hCh hFF hph hBB ob hix64 HA hq
        by_cases hf : ix ≤ fixed
        · have h0 : first = 0 := Classical.byContradiction fun h0 => by have := (HPh.out.behind HOk.out h0).1; have := HIx.out; omega
          have HN := hid (HStay.out h0 (by rw [HHas.out, decide_eq_true hf]; rfl))
          clear h0 HTx HHas
          go_wp2
          go_roundw
          case rel => exact ⟨k + 1, first, HKn.out, rfl, by go_num, hid (HN.out _ HBx.out)⟩
          case measure => simp [intOf]; omega
        have hf' : fixed < ix := by omega
        by_cases h0 : first = 0
        · subst h0
          have hBs : B = s.ents := (HPh.out.first0 HOk.out rfl).1
          subst hBs
          obtain ⟨tu, htu⟩ : ∃ t, (termL s ix).getD 0 = t := ⟨_, rfl⟩
          obtain ⟨ti, hti⟩ : ∃ t, (termL s ix).isSome = t := ⟨_, rfl⟩
          have HTx2 : Calls Try.prog 40 #[.pointer (some ⟨r, 0, none⟩), .int .i64 ix] (wr.alloc (.cells #[.int .i64 ix, .int .i64 x.term, .int .i64 x.kind, .string x.dt] 49)) (RfPost (wr.alloc (.cells #[.int .i64 ix, .int .i64 x.term, .int .i64 x.kind, .string x.dt] 49)) (.tuple #[.int .i64 tu, .bool ti])) := by rw [← htu, ← hti]; exact HTx
          have CT := hid HTx2
          clear HTx HTx2
          by_cases hh : termL s ix = some x.term
          · have q1 : (tu == x.term) = true := by rw [← htu, hh]; exact beq_self_eq_true _
            have q2 : ti = true := by rw [← hti, hh]; rfl
            subst q2
            have HN := hid (HStay.out rfl (by rw [HHas.out, decide_eq_true hh]; simp))
            clear htu hti hh HHas HGo
            go_upto_region 14 with (go_at_call 40; (with_reducible refine CT.out.mono ?_); rintro e w1 ⟨rfl, hb1⟩)
            obtain ⟨p0, p1, p2, p3⟩ := own4 HOb.out w1 hb1
            have HW1 : Hid (Below wr.heap.size wr w1) := hid (HBx.out.trans (hb1.mono HBx.out.size))
            clear hb1
            go_wp2
            go_roundw
            case rel => exact ⟨k + 1, 0, HKn.out, rfl, by go_num, hid (HN.out _ HW1.out)⟩
            case measure => simp [intOf]; omega
          have hno : hasE s fixed ix x.term = false := by rw [HHas.out, decide_eq_false (by omega), decide_eq_false hh]; rfl
          obtain ⟨hd, hm1, hm2, hp⟩ := HPh.out.new HOk.out HX.out (by rw [HIx.out]; exact hno)
          rw [HIx.out] at hp hm1
          obtain ⟨m, hm⟩ : ∃ m : Nat, (index + (k : Int) - s.bi).toNat = m := ⟨_, rfl⟩
          rw [hm] at hp
          have hmI : ix - s.bi - 1 = (m : Int) := by have := HIx.out; omega
          have hml : m ≤ s.ents.length := by have h5 : index + (k : Int) ≤ s.bi + s.ents.length := hm2; omega
          have hb1' := HOk.out.b.bi
          have hw3 : IntKind.i64.wrap (ix - s.bi) = ix - s.bi := by rw [IntKind.wrap_i64]; omega
          have hw4 : IntKind.i64.wrap (ix - s.bi - 1) = (m : Int) := by rw [← hmI, IntKind.wrap_i64]; omega
          have hw5 : IntKind.i64.wrap (m : Int) = (m : Int) := by rw [IntKind.wrap_i64]; have := HOk.out.b.len; omega
          have HP := hid hp
          have HMl := hid hml
          clear hno hd hm2 hp hm hmI hml HStay HHas
          by_cases hti2 : ti = true
          · subst hti2
            have q1 : (tu == x.term) = false := beq_false_of_ne (fun e => hh (by
              cases hc : termL s ix with
              | none => rw [hc] at hti; simp at hti
              | some t => rw [hc] at htu; simp at htu; rw [htu, e]))
            clear htu hti hh
            go_upto_region 14 with (go_at_call 40; (with_reducible refine CT.out.mono ?_); rintro e w1 ⟨rfl, hb1⟩)
            have HO1 := hid (HOb.out.same (hb1.block _ HOb.out.lt))
            obtain ⟨p0, p1, p2, p3⟩ := own4 HO1.out w1 (Below.refl _ _)
            have HW1 : Hid (Below wr.heap.size wr w1) := hid (HBx.out.trans (hb1.mono HBx.out.size))
            have HI1 : rfRep.Is w1 F' r s := rf_later HIs.out HW1.out
            obtain ⟨la, lc, z4, z0, zf, hrun, hci, hcc⟩ := rf_cut HI1 HMl.out
            go_upto_region 17 with (fail)
            have HNr : Hid (wr.heap.size ≠ r) := hid (fun e => by
              obtain ⟨_, _, _, _, hI, _⟩ := rf_c HIs.out
              have := hI.box.lt
              omega)
            have HO2 : Hid (own (w1.setCell ⟨r, 4, none⟩ (.slice la m lc)).drew wr.heap.size #[.int .i64 ix, .int .i64 x.term, .int .i64 x.kind, .string x.dt] 49) := hid ((HO1.out.other (p := ⟨r, 4, none⟩) HNr.out (.slice la m lc)).same rfl)
            have HW2 := hid (rf_later hci.out (below_drew (Below.refl _ _) 1))
            have HC2 : Hid (Chg F' wr (w1.setCell ⟨r, 4, none⟩ (.slice la m lc)).drew) := hid (((Chg.of_below (S := F') HW1.out).trans hcc.out (fun b e => .inl e)).drewN 1)
            clear HI1 hci hcc HIs HO1 hb1 HW1
            go_cut [] (fun wx => wx = (w1.setCell ⟨r, 4, none⟩ (.slice la m lc)).drew)
            case first =>
              clear HO2 HW2 HC2 HGo HP
              go_wp2
              go_region
              all_goals
                go_wp2
                go_meet
                rfl
            case rest =>
              clear hrun z4 z0 zf p0 p1 p2 p3
              go_upto_region 18 with (fail)
              have HWI : Hid (rfRep.Is wc F' r { s with ents := s.ents.take m }) := hid (by rw [hcut]; exact HW2.out)
              have HWO := hid (own4 (show own wc wr.heap.size _ _ by rw [hcut]; exact HO2.out))
              have HWC : Hid (Chg F' wr wc) := hid (by rw [hcut]; exact HC2.out)
              clear hcut HO2 HW2 HC2
              obtain ⟨s2, hs2⟩ : ∃ q : Rl, ({ s with ents := s.ents.take m } : Rl) = q := ⟨_, rfl⟩
              have HLen : Hid (s2.ents.length ≤ 100000) := hid (by rw [← hs2]; show (s.ents.take m).length ≤ _; rw [List.length_take]; have := HOk.out.b.len; omega)
              have HEnd : Hid (∀ W', Turn rfRep F' wc W' r { s2 with ents := s2.ents ++ [{ x with idx := ix }] } → MtAt w F r s index fixed l (k + 1) ix W') := hid (fun W' hT => by subst hs2; exact HGo.out F' wc (s.ents.take m) ix HWC.out (fun b e => .inl e) HP.out W' hT)
              rw [hs2] at HWI
              clear HGo HP hs2 HWC
              obtain ⟨lp, lc, aA, bA, wA, aA2, bA2, wA2, aB, bB, wB, aB2, bB2, wB2, aC, bC, wC, aC2, bC2, wC2, P⟩ := put3 HWI.out HLen.out ({ x with idx := ix } : Me)
              obtain ⟨c1, c2, c3, c4, c5, c6, c7, c8, c9⟩ := P.at_
              obtain ⟨⟨d0, d1, d2, d3⟩, ⟨d4, d5, d6, d7⟩, ⟨d8, d9, d10, d11⟩, ⟨d12, d13, d14, d15⟩, ⟨d16, d17, d18, d19⟩, ⟨d20, d21, d22, d23⟩, ⟨d24, d25, d26, d27⟩, ⟨d28, d29, d30, d31⟩, ⟨d32, d33, d34, d35⟩⟩ := P.all (fun wx hb => HWO.out wx hb)
              have eA := P.A.e
              have fA := P.A.f
              have eB := P.B.e
              have fB := P.B.f
              have eC := P.C.e
              have fC := P.C.f
              obtain ⟨k1, g1, t1, v1⟩ := P.A.fin
              obtain ⟨k2, g2, t2, v2⟩ := P.B.fin
              obtain ⟨k3, g3, t3, v3⟩ := P.C.fin
              clear P
              go_region_law (first
                | (refine step_append_at eA.out (by with_reducible rfl) rfl _ _ rfl rfl rfl rfl ?_)
                | (refine step_append_at fA.out (by with_reducible rfl) rfl _ _ rfl rfl rfl rfl ?_)
                | (refine step_append_at eB.out (by with_reducible rfl) rfl _ _ rfl rfl rfl rfl ?_)
                | (refine step_append_at fB.out (by with_reducible rfl) rfl _ _ rfl rfl rfl rfl ?_)
                | (refine step_append_at eC.out (by with_reducible rfl) rfl _ _ rfl rfl rfl rfl ?_)
                | (refine step_append_at fC.out (by with_reducible rfl) rfl _ _ rfl rfl rfl rfl ?_))
              all_goals
                go_wp2
                go_roundw
                case rel =>
                  first
                    | exact ⟨k + 1, _, HKn.out, rfl, by go_num, hid (HEnd.out _ t1.out)⟩
                    | exact ⟨k + 1, _, HKn.out, rfl, by go_num, hid (HEnd.out _ t2.out)⟩
                    | exact ⟨k + 1, _, HKn.out, rfl, by go_num, hid (HEnd.out _ t3.out)⟩
                case measure => simp [intOf]; omega
          · have q2 : ti = false := by cases ti; rfl; exact absurd rfl hti2
            subst q2
            clear htu hti hh hti2
            go_upto_region 14 with (go_at_call 40; (with_reducible refine CT.out.mono ?_); rintro e w1 ⟨rfl, hb1⟩)
            have HO1 := hid (HOb.out.same (hb1.block _ HOb.out.lt))
            obtain ⟨p0, p1, p2, p3⟩ := own4 HO1.out w1 (Below.refl _ _)
            have HW1 : Hid (Below wr.heap.size wr w1) := hid (HBx.out.trans (hb1.mono HBx.out.size))
            have HI1 : rfRep.Is w1 F' r s := rf_later HIs.out HW1.out
            obtain ⟨la, lc, z4, z0, zf, hrun, hci, hcc⟩ := rf_cut HI1 HMl.out
            go_upto_region 17 with (fail)
            have HNr : Hid (wr.heap.size ≠ r) := hid (fun e => by
              obtain ⟨_, _, _, _, hI, _⟩ := rf_c HIs.out
              have := hI.box.lt
              omega)
            have HO2 : Hid (own (w1.setCell ⟨r, 4, none⟩ (.slice la m lc)).drew wr.heap.size #[.int .i64 ix, .int .i64 x.term, .int .i64 x.kind, .string x.dt] 49) := hid ((HO1.out.other (p := ⟨r, 4, none⟩) HNr.out (.slice la m lc)).same rfl)
            have HW2 := hid (rf_later hci.out (below_drew (Below.refl _ _) 1))
            have HC2 : Hid (Chg F' wr (w1.setCell ⟨r, 4, none⟩ (.slice la m lc)).drew) := hid (((Chg.of_below (S := F') HW1.out).trans hcc.out (fun b e => .inl e)).drewN 1)
            clear HI1 hci hcc HIs HO1 hb1 HW1
            go_cut [] (fun wx => wx = (w1.setCell ⟨r, 4, none⟩ (.slice la m lc)).drew)
            case first =>
              clear HO2 HW2 HC2 HGo HP
              go_wp2
              go_region
              all_goals
                go_wp2
                go_meet
                rfl
            case rest =>
              clear hrun z4 z0 zf p0 p1 p2 p3
              go_upto_region 18 with (fail)
              have HWI : Hid (rfRep.Is wc F' r { s with ents := s.ents.take m }) := hid (by rw [hcut]; exact HW2.out)
              have HWO := hid (own4 (show own wc wr.heap.size _ _ by rw [hcut]; exact HO2.out))
              have HWC : Hid (Chg F' wr wc) := hid (by rw [hcut]; exact HC2.out)
              clear hcut HO2 HW2 HC2
              obtain ⟨s2, hs2⟩ : ∃ q : Rl, ({ s with ents := s.ents.take m } : Rl) = q := ⟨_, rfl⟩
              have HLen : Hid (s2.ents.length ≤ 100000) := hid (by rw [← hs2]; show (s.ents.take m).length ≤ _; rw [List.length_take]; have := HOk.out.b.len; omega)
              have HEnd : Hid (∀ W', Turn rfRep F' wc W' r { s2 with ents := s2.ents ++ [{ x with idx := ix }] } → MtAt w F r s index fixed l (k + 1) ix W') := hid (fun W' hT => by subst hs2; exact HGo.out F' wc (s.ents.take m) ix HWC.out (fun b e => .inl e) HP.out W' hT)
              rw [hs2] at HWI
              clear HGo HP hs2 HWC
              obtain ⟨lp, lc, aA, bA, wA, aA2, bA2, wA2, aB, bB, wB, aB2, bB2, wB2, aC, bC, wC, aC2, bC2, wC2, P⟩ := put3 HWI.out HLen.out ({ x with idx := ix } : Me)
              obtain ⟨c1, c2, c3, c4, c5, c6, c7, c8, c9⟩ := P.at_
              obtain ⟨⟨d0, d1, d2, d3⟩, ⟨d4, d5, d6, d7⟩, ⟨d8, d9, d10, d11⟩, ⟨d12, d13, d14, d15⟩, ⟨d16, d17, d18, d19⟩, ⟨d20, d21, d22, d23⟩, ⟨d24, d25, d26, d27⟩, ⟨d28, d29, d30, d31⟩, ⟨d32, d33, d34, d35⟩⟩ := P.all (fun wx hb => HWO.out wx hb)
              have eA := P.A.e
              have fA := P.A.f
              have eB := P.B.e
              have fB := P.B.f
              have eC := P.C.e
              have fC := P.C.f
              obtain ⟨k1, g1, t1, v1⟩ := P.A.fin
              obtain ⟨k2, g2, t2, v2⟩ := P.B.fin
              obtain ⟨k3, g3, t3, v3⟩ := P.C.fin
              clear P
              go_region_law (first
                | (refine step_append_at eA.out (by with_reducible rfl) rfl _ _ rfl rfl rfl rfl ?_)
                | (refine step_append_at fA.out (by with_reducible rfl) rfl _ _ rfl rfl rfl rfl ?_)
                | (refine step_append_at eB.out (by with_reducible rfl) rfl _ _ rfl rfl rfl rfl ?_)
                | (refine step_append_at fB.out (by with_reducible rfl) rfl _ _ rfl rfl rfl rfl ?_)
                | (refine step_append_at eC.out (by with_reducible rfl) rfl _ _ rfl rfl rfl rfl ?_)
                | (refine step_append_at fC.out (by with_reducible rfl) rfl _ _ rfl rfl rfl rfl ?_))
              all_goals
                go_wp2
                go_roundw
                case rel =>
                  first
                    | exact ⟨k + 1, _, HKn.out, rfl, by go_num, hid (HEnd.out _ t1.out)⟩
                    | exact ⟨k + 1, _, HKn.out, rfl, by go_num, hid (HEnd.out _ t2.out)⟩
                    | exact ⟨k + 1, _, HKn.out, rfl, by go_num, hid (HEnd.out _ t3.out)⟩
                case measure => simp [intOf]; omega
        have q0 : (first == 0) = false := beq_false_of_ne h0
        have CT := hid HTx
        have HP := hid (HPh.out.more h0 HX.out)
        rw [HIx.out] at HP
        clear HTx HStay HHas h0
        obtain ⟨tu, htu⟩ : ∃ t, (termL ({ s with ents := B } : Rl) ix).getD 0 = t := ⟨_, rfl⟩
        obtain ⟨ti, hti⟩ : ∃ t, (termL ({ s with ents := B } : Rl) ix).isSome = t := ⟨_, rfl⟩
        rw [htu, hti] at CT
        clear htu hti
        go_upto_region 14 with (go_at_call 40; (with_reducible refine CT.out.mono ?_); rintro e w1 ⟨rfl, hb1⟩)
        have HO1 := hid (HOb.out.same (hb1.block _ HOb.out.lt))
        obtain ⟨p0, p1, p2, p3⟩ := own4 HO1.out w1 (Below.refl _ _)
        have HW1 : Hid (Below wr.heap.size wr w1) := hid (HBx.out.trans (hb1.mono HBx.out.size))
        go_upto_region 18 with (fail)
        have HWI := hid (rf_later HIs.out HW1.out)
        have HWO := hid (own4 HO1.out)
        obtain ⟨s2, hs2⟩ : ∃ q : Rl, ({ s with ents := B } : Rl) = q := ⟨_, rfl⟩
        have HLen : Hid (s2.ents.length ≤ 100000) := hid (by rw [← hs2]; have := HBB.out.len; omega)
        have HEnd : Hid (∀ W', Turn rfRep F' w1 W' r { s2 with ents := s2.ents ++ [{ x with idx := ix }] } → MtAt w F r s index fixed l (k + 1) first W') := hid (fun W' hT => by subst hs2; exact HGo.out F' w1 B first (Chg.of_below HW1.out) (fun b e => .inl e) HP.out W' hT)
        rw [hs2] at HWI
        clear hb1 HGo HP HIs HO1 HW1 HBB hs2 p0 p1 p2 p3
        obtain ⟨lp, lc, aA, bA, wA, aA2, bA2, wA2, aB, bB, wB, aB2, bB2, wB2, aC, bC, wC, aC2, bC2, wC2, P⟩ := put3 HWI.out HLen.out ({ x with idx := ix } : Me)
        obtain ⟨c1, c2, c3, c4, c5, c6, c7, c8, c9⟩ := P.at_
        obtain ⟨⟨d0, d1, d2, d3⟩, ⟨d4, d5, d6, d7⟩, ⟨d8, d9, d10, d11⟩, ⟨d12, d13, d14, d15⟩, ⟨d16, d17, d18, d19⟩, ⟨d20, d21, d22, d23⟩, ⟨d24, d25, d26, d27⟩, ⟨d28, d29, d30, d31⟩, ⟨d32, d33, d34, d35⟩⟩ := P.all (fun wx hb => HWO.out wx hb)
        have eA := P.A.e
        have fA := P.A.f
        have eB := P.B.e
        have fB := P.B.f
        have eC := P.C.e
        have fC := P.C.f
        obtain ⟨k1, g1, t1, v1⟩ := P.A.fin
        obtain ⟨k2, g2, t2, v2⟩ := P.B.fin
        obtain ⟨k3, g3, t3, v3⟩ := P.C.fin
        clear P
        go_region_law (first
          | (refine step_append_at eA.out (by with_reducible rfl) rfl _ _ rfl rfl rfl rfl ?_)
          | (refine step_append_at fA.out (by with_reducible rfl) rfl _ _ rfl rfl rfl rfl ?_)
          | (refine step_append_at eB.out (by with_reducible rfl) rfl _ _ rfl rfl rfl rfl ?_)
          | (refine step_append_at fB.out (by with_reducible rfl) rfl _ _ rfl rfl rfl rfl ?_)
          | (refine step_append_at eC.out (by with_reducible rfl) rfl _ _ rfl rfl rfl rfl ?_)
          | (refine step_append_at fC.out (by with_reducible rfl) rfl _ _ rfl rfl rfl rfl ?_))
        all_goals
          go_wp2
          go_roundw
          case rel =>
            first
              | exact ⟨k + 1, _, HKn.out, rfl, by go_num, hid (HEnd.out _ t1.out)⟩
              | exact ⟨k + 1, _, HKn.out, rfl, by go_num, hid (HEnd.out _ t2.out)⟩
              | exact ⟨k + 1, _, HKn.out, rfl, by go_num, hid (HEnd.out _ t3.out)⟩
          case measure => simp [intOf]; omega
      · have hkk : k = l.length := by have := HLn.out; omega
        have hkI : (ln : Int) ≤ (k : Int) := by omega
        have HF : Hid (matchL s index term fixed l = ((index + ln, first, true), { s with ents := B })) := hid (by rw [← HLn.out]; subst hkk; exact hph.end_ HOk.out)
        have HT : Hid (Turn rfRep F w wr r { s with ents := B }) := hid ⟨F', hIs, hCh, hFF⟩
        have hwe : IntKind.i64.wrap (index + (ln : Int)) = index + ln := by rw [IntKind.wrap_i64]; unfold I64' at hi; omega
        clear hkk hph hIs hCh hFF hq HA
        go_wp2
        go_ret3
        rw [HF.out]
        exact ⟨rfl, HT.out⟩
end Go.Proofs.Ytiffdhihhggkhaa
