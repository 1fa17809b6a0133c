import Derived.Test.YtbccikefccdekaaGreatDoorSrDJ
import Derived.Test.YtbccikefccdekaaGreatDoorSnUpJ
/-
  LAYER 4 (snap), THE DOCUMENT's ANSWER: Unpack.
-/
namespace Go.Proofs.YtbccikefccdekaaGreatDoor
open Go.RowKit
set_option linter.unusedVariables false
set_option maxRecDepth 100000

def vLen : Value → Nat | .slice _ n _ => n | _ => 0
/-- How far the reading has come: slots 5 (where) and 10 (the data). -/
def EvRel (S : List UInt8) (W3 : World) (k0 n0 : Nat) (u5 u10 : Value) (wr : World) : Prop := ∃ (at_ : Nat) (l : List UInt8) (a : Option Addr) (c : Nat), u5 = .int .i64 (at_ : Int) ∧ u10 = .slice a l.length c ∧ at_ ≤ S.length ∧ l.length ≤ n0 ∧ Hid (BMid W3 wr (.slice a l.length c) l) ∧ Hid (dataS (S.drop k0) n0 = comb l (dataS (S.drop at_) (n0 - l.length)))
set_option maxHeartbeats 16000000 in
theorem srUnpack_any (s : ByteArray) (w : World) (hs : s.size ≤ 1000000) : Calls Tryz.prog 13 #[.string s] w (UpPost w s.data.toList) := by
  obtain ⟨S, hS⟩ : ∃ S, s.data.toList = S := ⟨_, rfl⟩
  have hmk : s = mk S := by rw [← hS, mk_of]
  have hsz : S.length ≤ 1000000 := by rw [← hS, str_len]; exact hs
  rw [hS]
  subst hmk
  clear hS hs
  obtain ⟨W0, hW0⟩ : ∃ W0, w.alloc (.cells #[.int .i64 0, .int .i64 0, .slice none 0 0, .string ⟨#[]⟩] 24) = W0 := ⟨_, rfl⟩
  have hb0 : Below w.heap.size w W0 := by rw [← hW0]; exact (Below.refl _ _).alloc (Nat.le_refl _) _
  have o0 : own W0 w.heap.size #[.int .i64 0, .int .i64 0, .slice none 0 0, .string ⟨#[]⟩] 24 := by rw [← hW0]; exact own.new w _ _
  have hU := srUnframe_any (mk S) W0 (by rw [mk_size]; omega)
  rw [mk_data] at hU
  have HZ : Hid (∀ w1, Below W0.heap.size W0 w1 → ∃ WZ, Q4 w1 WZ w.heap.size (.int .i64 0) (.int .i64 0) (.slice none 0 0) (.string ⟨#[]⟩) (.int .i64 0) (.int .i64 0) (.slice none 0 0) (.string ⟨#[]⟩) ∧ Hid (Below w.heap.size w WZ)) := hid (fun w1 h1 => by
    obtain ⟨WZ, e, q⟩ := q4_of (o0.same (h1.block _ o0.lt)) (.int .i64 0) (.int .i64 0) (.slice none 0 0) (.string ⟨#[]⟩)
    exact ⟨WZ, q, hid (by rw [← e]; exact qst4_below (hb0.trans (h1.mono hb0.size)) (Nat.le_refl _) _ _ _ _)⟩)
  unfold unfV at hU
  rcases unframeS_cases S with ⟨e, hu, he⟩ | ⟨p, hu, hp, hps, hpf⟩
  · rw [hu] at hU
    simp only at hU
    have HU := hid hU
    have HE := hid (fun w' (hb : Below w.heap.size w w') => up_zero (unpack_a hu (by omega)) hb)
    have hq : ((e : Int) == 0) = false := beq_eq_false_iff_ne.2 (by omega)
    have hq2 : ((e : Int) != 0) = true := bne_iff_ne.2 (by omega)
    clear hU hu he o0 hb0
    generalize mk ([] : List UInt8) = eb at *
    as_aux_lemma =>
    go_enter Tryz.func13, Tryz.ntmps13
    go_wp2_with (go_at_call 32; (with_reducible refine HU.out.mono ?_); rintro e1 w1 ⟨rfl, hb1⟩; obtain ⟨WZ, ⟨zk0, zk1, zk2, zk3, zf0, zf1, zf2, zf3, zeq, ze0, ze1, ze2, ze3⟩, HF⟩ := HZ.out _ hb1)
    exact bodyPost_ret (v := .tuple #[.agg #[.int .i64 0, .int .i64 0, .slice none 0 0, .string ⟨#[]⟩], .int .i64 (e : Int)]) (by simp [results, Tryz.results13, go_sem, ze0, ze1, ze2, ze3]) rfl (HE.out _ HF.out)
  · rw [hu] at hU
    simp only at hU
    have hub := unpack_b hu
    have HU := hid hU
    have HTh : Hid (∀ w1, Calls Tryz.prog 33 #[.string (mk p)] w1 (HdPost w1 p)) := hid (fun w1 => by
      have := srHead_any (mk p) w1 (by rw [mk_size]; omega)
      rw [mk_data] at this
      exact this)
    have hbad : (∀ l, nums p = some l → headOk l = false) → unpackS S = (bs0, 8) := fun h => by
      rw [hub]
      cases hn : nums p with
      | none => rfl
      | some l => exact if_pos (h l hn)
    by_cases hok : ∃ l, nums p = some l ∧ headOk l = true
    · obtain ⟨l, hn, hok⟩ := hok
      obtain ⟨_, _, hro, hl0, hl1⟩ := headOk_parts hok
      obtain ⟨n0, hn0⟩ : ∃ n0 : Nat, (headB l).2 = (n0 : Int) := ⟨(headB l).2.toNat, by omega⟩
      have hub2 := hub
      rw [hn] at hub2
      simp only at hub2
      rw [if_neg (by rw [hok]; simp), hn0, Int.toNat_natCast] at hub2
      obtain ⟨B0, hB0⟩ : ∃ B0, (headB l).1 = B0 := ⟨_, rfl⟩
      have hB0d : B0.data = [] := by rw [← hB0]; rfl
      rw [hB0] at hub2
      have HTh1 : Hid (∀ w1, Below W0.heap.size W0 w1 → Calls Tryz.prog 33 #[.string (mk p)] w1 fun e w' => ∃ a k c, e = .returned (.tuple #[.agg #[.int .i64 B0.ix, .int .i64 B0.tm, .slice a k c, .string ⟨#[]⟩], .int .i64 (n0 : Int), .bool true]) ∧ Below W0.heap.size W0 w' ∧ Hid (BAt w' (.slice a k c) B0 ∧ ∀ x, (Value.slice a k c).ownBlock = some x → w.heap.size < x)) := hid (fun w1 hb1 => by
        refine (HTh.out w1).mono ?_
        rintro e w' ⟨b, a, k, c, n, ok, he, hb, hmt⟩
        rw [hn] at hmt
        simp only at hmt
        obtain ⟨h1, h2⟩ := hmt
        rw [hok] at h1
        subst h1
        obtain ⟨rfl, rfl, hba, hnw⟩ := h2 rfl
        rw [hB0] at he hba
        refine ⟨a, k, c, ?_, hb1.trans (hb.mono hb1.size), hid ⟨hba, ?_⟩⟩
        · rw [he, hn0]
          show Ending.returned (.tuple #[.agg #[.int .i64 B0.ix, .int .i64 B0.tm, .slice a k c, .string (mk B0.data)], _, _]) = _
          rw [hB0d]
          rfl
        · intro x e1
          have := hnw _ e1
          have := hb1.size
          have := o0.lt
          omega)
      obtain ⟨k0, hk0⟩ : ∃ k0, 8 + p.length = k0 := ⟨_, rfl⟩
      rw [hk0] at hU HU hub2 hps
      have hn4 : n0 ≤ 4000000 := by omega
      have HUb := hid hub2
      have HZa := hid (fun w' e (h : unpackS S = (bs0, e)) (hb : Below w.heap.size w w') => up_zero h hb)
      clear hU hu hub hub2 hbad hok hl0 hl1 hn hn0 hB0 hro HTh hp hpf hk0
      generalize mk p = pb at *
      go_enter Tryz.func13, Tryz.ntmps13
      go_wp2_with (first
        | (go_at_call 32; (with_reducible refine HU.out.mono ?_); rintro e1 w1 ⟨rfl, hb1⟩)
        | (go_at_call 33; (with_reducible refine (HTh1.out _ hb1).mono ?_); rintro e2 w2 ⟨va, vk, vc, rfl, hb2, hv⟩))
      have hbA : Below w2.heap.size w2 (w2.alloc (.cells #[.int .i64 B0.ix, .int .i64 B0.tm, .slice va vk vc, .string ⟨#[]⟩] 24)) := (Below.refl _ _).alloc (Nat.le_refl _) _
      have oH : own (w2.alloc (.cells #[.int .i64 B0.ix, .int .i64 B0.tm, .slice va vk vc, .string ⟨#[]⟩] 24)) w2.heap.size #[.int .i64 B0.ix, .int .i64 B0.tm, .slice va vk vc, .string ⟨#[]⟩] 24 := own.new _ _ _
      have hb3 : Below W0.heap.size W0 (w2.alloc (.cells #[.int .i64 B0.ix, .int .i64 B0.tm, .slice va vk vc, .string ⟨#[]⟩] 24)) := hb2.trans (hbA.mono hb2.size)
      obtain ⟨hva, hvn⟩ := hv.out
      have hva3 := hva.below hbA
      have hvg : B0.vot ≠ [] → ∀ x, (Value.slice va vk vc).ownBlock = some x → x < w2.heap.size := fun hne x ex => by
        obtain ⟨a', c', e', h4⟩ := hva.vot
        obtain ⟨sb, so, e5, hlt, _⟩ := h4 hne
        simp only [Value.slice.injEq] at e'
        rw [e'.1, e5] at ex
        cases ex
        exact hlt
      have HVg := hid hvg
      clear hvg
      have H0 : EvRel S (w2.alloc (.cells #[.int .i64 B0.ix, .int .i64 B0.tm, .slice va vk vc, .string ⟨#[]⟩] 24)) k0 n0 (.int .i64 (k0 : Int)) (.slice none 0 0) (w2.alloc (.cells #[.int .i64 B0.ix, .int .i64 B0.tm, .slice va vk vc, .string ⟨#[]⟩] 24)) := ⟨k0, [], none, 0, rfl, rfl, hps, Nat.zero_le _, hid (bMid_nil _), hid (comb_nil _ n0).symm⟩
      have HH0 := hid H0
      have hg2 : w2.heap.size < (w2.alloc (.cells #[.int .i64 B0.ix, .int .i64 B0.tm, .slice va vk vc, .string ⟨#[]⟩] 24)).heap.size := oH.lt
      have hwg : w.heap.size < w2.heap.size := by have := hb2.size; have := o0.lt; omega
      generalize (w2.alloc (.cells #[.int .i64 B0.ix, .int .i64 B0.tm, .slice va vk vc, .string ⟨#[]⟩] 24)) = W3 at *
      generalize w2.heap.size = g at *
      have HB3 := hid hb3
      have HO := hid oH
      have HV := hid hva3
      have HVn := hid hvn
      clear hb1 hb2 hbA oH hva hva3 hvn hv HU HTh1 H0
      go_loopw [5, 10] (EvRel S W3 k0 n0) (fun _ u _ => n0 - vLen u)
      case atStart => exact HH0.out
      case round =>
        clear HH0
        obtain ⟨at_, l2, a, c, rfl, rfl, hat, hll, hm, hq⟩ := hrel
        have hbr : Below W0.heap.size W0 wr := HB3.out.trans (hm.out.below.mono HB3.out.size)
        by_cases hlt : l2.length < n0
        · have hltI : (l2.length : Int) < (n0 : Int) := by omega
          have hcs := comb_step (l := l2) (s := S.drop at_) (m := n0 - l2.length) (by omega)
          have hU2 := srUnframe_any (mk (S.drop at_)) wr (by rw [mk_size, List.length_drop]; omega)
          rw [mk_data] at hU2
          have hsl := fun wx => slice_l (s := mk S) (lo := (at_ : Int)) (l := S.drop at_) (by omega) (by rw [mk_size]; omega) (by simp [mk_data]) wx
          unfold unfV at hU2
          rcases unframeS_cases (S.drop at_) with ⟨e, hu, he⟩ | ⟨p2, hu, hp, hps2, hpf⟩
          · rw [hu] at hU2 hcs
            simp only at hU2 hcs
            rw [if_pos (by omega)] at hcs
            have hun : unpackS S = (bs0, e) := by
              rw [HUb.out, hq.out, hcs]
              exact if_pos (show e ≠ 0 by omega)
            have HE := hid (fun w' hb => HZa.out w' e hun hb)
            have HU2 := hid hU2
            have hq1 : ((e : Int) == 0) = false := beq_eq_false_iff_ne.2 (by omega)
            have hq2 : ((e : Int) != 0) = true := bne_iff_ne.2 (by omega)
            have HBr := hid hbr
            have HZ2 : Hid (∀ w1, Below wr.heap.size wr w1 → ∃ WZ, Q4 w1 WZ w.heap.size (.int .i64 0) (.int .i64 0) (.slice none 0 0) (.string ⟨#[]⟩) (.int .i64 0) (.int .i64 0) (.slice none 0 0) (.string ⟨#[]⟩) ∧ Hid (Below w.heap.size w WZ)) := hid (fun w1 h1 => HZ.out w1 (HBr.out.trans (h1.mono HBr.out.size)))
            clear hU2 hu he hun hcs hq hm hbr hat hll hlt HUb
            generalize mk (S.drop at_) = rb at *
            generalize mk ([] : List UInt8) = eb at *
            generalize mk S = sb at *
            generalize l2.length = ln at *
            as_aux_lemma =>
            go_wp2_with (go_at_call 32; (with_reducible refine HU2.out.mono ?_); rintro e1 w1 ⟨rfl, hb1⟩; obtain ⟨WZ, ⟨zk0, zk1, zk2, zk3, zf0, zf1, zf2, zf3, zeq, ze0, ze1, ze2, ze3⟩, HF⟩ := HZ2.out _ hb1)
            exact bodyPost_ret (v := .tuple #[.agg #[.int .i64 0, .int .i64 0, .slice none 0 0, .string ⟨#[]⟩], .int .i64 (e : Int)]) (by simp [results, Tryz.results13, go_sem, ze0, ze1, ze2, ze3]) rfl (HE.out _ HF.out)
          · rw [hu] at hU2 hcs
            simp only at hU2 hcs
            rw [if_neg (by simp)] at hcs
            have HU2 := hid hU2
            have HBr := hid hbr
            have hcz : (mk p2).size = p2.length := mk_size _
            obtain ⟨m, hmin0⟩ : ∃ m, min 1000 (n0 - l2.length) = m := ⟨_, rfl⟩
            rw [hmin0] at hcs
            have hwr : IntKind.i64.wrap ((n0 : Int) - (l2.length : Int)) = (n0 : Int) - (l2.length : Int) := by rw [IntKind.wrap_i64]; omega
            have hmin : min (1000 : Int) ((n0 : Int) - (l2.length : Int)) = (m : Int) := by omega
            by_cases hpm : p2.length = m
            · rw [if_neg (by rw [hpm]; simp)] at hcs
              have hq1 : (((mk p2).size : Int) == (m : Int)) = true := by rw [hcz, hpm]; simp
              have hq2 : (((mk p2).size : Int) != (m : Int)) = false := by rw [bne, hq1]; rfl
              have hd2 : (S.drop at_).drop (8 + p2.length) = S.drop (at_ + (8 + p2.length)) := by rw [List.drop_drop]
              rw [hd2] at hcs
              have hal : at_ + (8 + p2.length) ≤ S.length := by
                rw [List.length_drop] at hps2
                omega
              have HPu : Hid (∀ w1, Below wr.heap.size wr w1 → ∃ a5 n5 c5 w5, (Builtin.append_ #[33, 9] 33 #[.slice a l2.length c, .string (mk p2)]).run Tryz.prog w1 = .ok (.slice a5 n5 c5) w5 ∧ n5 = l2.length + m ∧ Hid (EvRel S W3 k0 n0 (.int .i64 ((at_ : Int) + ((8 + p2.length : Nat) : Int))) (.slice a5 n5 c5) w5)) := hid (fun w1 hb1 => by
                obtain ⟨a5, n5, c5, w5, hrun, hn5, hm5⟩ := (hm.out.later hb1).push (mk p2) (by omega)
                rw [mk_data] at hn5 hm5
                have hn6 : n5 = l2.length + m := by rw [hn5, List.length_append, hpm]
                rw [hn5] at hm5
                refine ⟨a5, n5, c5, w5, hrun, hn6, hid ⟨at_ + (8 + p2.length), l2 ++ p2, a5, c5, by push_cast; rfl, by rw [hn5], hal, by rw [List.length_append]; omega, hid hm5, hid ?_⟩⟩
                rw [hq.out, hcs, List.length_append]
                congr 2
                omega)
              have hme : n0 - (l2.length + m) < n0 - l2.length := by omega
              have hwa : IntKind.i64.wrap ((at_ : Int) + ((8 + p2.length : Nat) : Int)) = (at_ : Int) + ((8 + p2.length : Nat) : Int) := by rw [IntKind.wrap_i64]; omega
              clear hU2 hu hcs hq hm hbr hll hlt hp hps2 hpf hcz hmin0 hpm hd2 hal hat HUb
              generalize mk (S.drop at_) = rb at *
              generalize mk p2 = cb at *
              generalize mk S = sb at *
              generalize l2.length = ln at *
              generalize 8 + p2.length = q at *
              as_aux_lemma =>
              go_wp2_with (first
                | (go_at_call 32; (with_reducible refine HU2.out.mono ?_); rintro e1 w1 ⟨rfl, hb1⟩; obtain ⟨a5, n5, c5, w5, hrun, HN5, HN⟩ := HPu.out _ hb1)
                | (at_builtin; refine Gr.wpList_append_at hrun (by with_reducible rfl) rfl _ _ rfl rfl rfl rfl ?_))
              go_roundw
              case rel => (subst HN5; exact HN.out)
              case measure => first | exact hme | (subst HN5; exact hme)
            · rw [if_pos (by exact hpm)] at hcs
              have hun : unpackS S = (bs0, 8) := by
                rw [HUb.out, hq.out, hcs]
                exact if_pos (show (8 : Nat) ≠ 0 by decide)
              have HE := hid (fun w' hb => HZa.out w' 8 hun hb)
              have hq1 : (((mk p2).size : Int) == (m : Int)) = false := beq_false_of_ne (by rw [hcz]; omega)
              have hq2 : (((mk p2).size : Int) != (m : Int)) = true := by rw [bne, hq1]; rfl
              have HZ2 : Hid (∀ w1, Below wr.heap.size wr w1 → ∃ WZ, Q4 w1 WZ w.heap.size (.int .i64 0) (.int .i64 0) (.slice none 0 0) (.string ⟨#[]⟩) (.int .i64 0) (.int .i64 0) (.slice none 0 0) (.string ⟨#[]⟩) ∧ Hid (Below w.heap.size w WZ)) := hid (fun w1 h1 => HZ.out w1 (HBr.out.trans (h1.mono HBr.out.size)))
              clear hU2 hu hun hcs hq hm hbr hat hll hlt hp hps2 hpf hcz hmin0 hpm HUb
              generalize mk (S.drop at_) = rb at *
              generalize mk p2 = cb at *
              generalize mk S = sb at *
              generalize l2.length = ln at *
              as_aux_lemma =>
              go_wp2_with (go_at_call 32; (with_reducible refine HU2.out.mono ?_); rintro e1 w1 ⟨rfl, hb1⟩; obtain ⟨WZ, ⟨zk0, zk1, zk2, zk3, zf0, zf1, zf2, zf3, zeq, ze0, ze1, ze2, ze3⟩, HF⟩ := HZ2.out _ hb1)
              exact bodyPost_ret (v := .tuple #[.agg #[.int .i64 0, .int .i64 0, .slice none 0 0, .string ⟨#[]⟩], .int .i64 8]) (by simp [results, Tryz.results13, go_sem, ze0, ze1, ze2, ze3]) rfl (HE.out _ HF.out)
        · have hln : l2.length = n0 := by omega
          have hltI : ¬ (l2.length : Int) < (n0 : Int) := by omega
          have hqq := hq.out
          rw [show n0 - l2.length = 0 by omega, comb_end] at hqq
          have hub := HUb.out
          rw [hqq] at hub
          simp only at hub
          rw [if_neg (by simp)] at hub
          have hsz2 : (mk S).size = S.length := mk_size _
          by_cases hae : at_ = S.length
          · have hde : S.drop at_ = [] := by rw [hae]; exact List.drop_length
            rw [if_neg (by rw [hde]; simp)] at hub
            have hq1 : ((at_ : Int) == ((mk S).size : Int)) = true := by rw [hsz2, hae]; simp
            have hq2 : ((at_ : Int) != ((mk S).size : Int)) = false := by rw [bne, hq1]; rfl
            have hst := bMid_str0 hm.out wr (Below.refl _ _)
            have hbw : Below w.heap.size w wr := hb0.trans (hbr.mono hb0.size)
            have ogr := HO.out.same (hm.out.below.block _ HO.out.lt)
            have hbav : BAt wr (.slice va vk vc) B0 := HV.out.below hm.out.below
            have oW := o0.same (hbr.block _ o0.lt)
            have hX := upX_of ogr oW hwg hbw (mk l2)
            have hll2 : l2.length ≤ 100000000 := by omega
            obtain ⟨WX, hWX⟩ : ∃ WX, wr.setCell ⟨g, 3, none⟩ (.string (mk l2)) = WX := ⟨_, rfl⟩
            have oWX : own WX w.heap.size #[.int .i64 0, .int .i64 0, .slice none 0 0, .string ⟨#[]⟩] 24 := by rw [← hWX]; exact oW.other (p := ⟨g, 3, none⟩) (by show w.heap.size ≠ g; omega) _
            obtain ⟨WF, e, ⟨zk0, zk1, zk2, zk3, zf0, zf1, zf2, zf3, zeq, ze0, ze1, ze2, ze3⟩⟩ := q4_of oWX (.int .i64 B0.ix) (.int .i64 B0.tm) (.slice va vk vc) (.string (mk l2))
            have g3 := hX.c3
            have gf := hX.f3
            have d0 := hX.d0
            have d1 := hX.d1
            have d2 := hX.d2
            have d3 := hX.d3
            rw [hWX] at d0 d1 d2 d3
            have HF : Hid (UpPost w S (.returned (.tuple #[.agg #[.int .i64 B0.ix, .int .i64 B0.tm, .slice va vk vc, .string (mk l2)], .int .i64 0])) WF) := hid (by
              have hc := hX.bx (.int .i64 B0.ix) (.int .i64 B0.tm) (.slice va vk vc) (.string (mk l2))
              have hbz := hX.bz (.int .i64 B0.ix) (.int .i64 B0.tm) (.slice va vk vc) (.string (mk l2))
              rw [hWX, e] at hc hbz
              refine ⟨.slice va vk vc, ?_, hbz, ?_, fun x ex => by have := HVn.out x ex; omega⟩
              · rw [hub]; rfl
              · rw [hub]
                refine (bAt_chg0 hbav hc (fun hne x ex q => ?_)).data l2 hll2
                have h1 := HVg.out hne x ex
                have h2 := HVn.out x ex
                rcases q with q | q <;> omega)
            clear hq hqq hub hm hbr hbw ogr hbav oW hX oWX e hde hat hll hln hae HUb hsz2
            generalize mk l2 = lb at *
            generalize mk S = sb at *
            generalize l2.length = ln at *
            as_aux_lemma =>
            go_wp2
            exact bodyPost_ret (v := .tuple #[.agg #[.int .i64 B0.ix, .int .i64 B0.tm, .slice va vk vc, .string lb], .int .i64 0]) (by simp [results, Tryz.results13, go_sem, ze0, ze1, ze2, ze3]) rfl HF.out
          · have hde : S.drop at_ ≠ [] := fun e => by
              have := congrArg List.length e
              rw [List.length_drop, List.length_nil] at this
              omega
            rw [if_pos hde] at hub
            have HE := hid (fun w' hb => HZa.out w' 8 hub hb)
            have hq1 : ((at_ : Int) == ((mk S).size : Int)) = false := beq_false_of_ne (by rw [hsz2]; omega)
            have hq2 : ((at_ : Int) != ((mk S).size : Int)) = true := by rw [bne, hq1]; rfl
            obtain ⟨WZ, ⟨zk0, zk1, zk2, zk3, zf0, zf1, zf2, zf3, zeq, ze0, ze1, ze2, ze3⟩, HF⟩ := HZ.out _ hbr
            clear hq hqq hub hm hbr hde hat hll hln hae HUb hsz2
            generalize mk S = sb at *
            generalize l2.length = ln at *
            as_aux_lemma =>
            go_wp2
            exact bodyPost_ret (v := .tuple #[.agg #[.int .i64 0, .int .i64 0, .slice none 0 0, .string ⟨#[]⟩], .int .i64 8]) (by simp [results, Tryz.results13, go_sem, ze0, ze1, ze2, ze3]) rfl (HE.out _ HF.out)
    · have HE := hid (fun w' (hb : Below w.heap.size w w') => up_zero (hbad (fun l hn => by
        cases e : headOk l with
        | false => rfl
        | true => exact absurd ⟨l, hn, e⟩ hok)) hb)
      have HTh1 : Hid (∀ w1, Below W0.heap.size W0 w1 → Calls Tryz.prog 33 #[.string (mk p)] w1 fun e w' => ∃ x0 x1 a k c x3 n, e = .returned (.tuple #[.agg #[.int .i64 x0, .int .i64 x1, .slice a k c, .string x3], .int .i64 n, .bool false]) ∧ Below W0.heap.size W0 (w'.alloc (.cells #[.int .i64 x0, .int .i64 x1, .slice a k c, .string x3] 24))) := hid (fun w1 hb1 => by
        refine (HTh.out w1).mono ?_
        rintro e w' ⟨b, a, k, c, n, ok, he, hb, hmt⟩
        obtain rfl : ok = false := by
          cases hn : nums p with
          | none => rw [hn] at hmt; exact hmt
          | some l =>
            rw [hn] at hmt
            rw [hmt.1]
            cases e : headOk l with
            | false => rfl
            | true => exact absurd ⟨l, hn, e⟩ hok
        have hb2 := hb1.trans (hb.mono hb1.size)
        exact ⟨_, _, _, _, _, _, _, he, hb2.alloc hb2.size _⟩)
      clear hU hu hok hbad hub o0 hb0 HTh
      generalize mk p = pb at *
      as_aux_lemma =>
      go_enter Tryz.func13, Tryz.ntmps13
      go_wp2_with (first
        | (go_at_call 32; (with_reducible refine HU.out.mono ?_); rintro e1 w1 ⟨rfl, hb1⟩)
        | (go_at_call 33; (with_reducible refine (HTh1.out _ hb1).mono ?_); rintro e2 w2 ⟨x0, x1, a, k, c, x3, n, rfl, hb2⟩; obtain ⟨WZ, ⟨zk0, zk1, zk2, zk3, zf0, zf1, zf2, zf3, zeq, ze0, ze1, ze2, ze3⟩, HF⟩ := HZ.out _ hb2))
      exact bodyPost_ret (v := .tuple #[.agg #[.int .i64 0, .int .i64 0, .slice none 0 0, .string ⟨#[]⟩], .int .i64 8]) (by simp [results, Tryz.results13, go_sem, ze0, ze1, ze2, ze3]) rfl (HE.out _ HF.out)
end Go.Proofs.YtbccikefccdekaaGreatDoor

