import Derived.Test.YtbidglefddmjhaaGreatDoorWlScanJ
/-
  LAYER 3 (wal): a segment's records handed on, to needed's closure. Written by wip/tools/gen3_scan.py.
-/
namespace Go.Proofs.YtbidglefddmjhaaGreatDoor
open Go.RowKit Go.Maps
set_option linter.unusedVariables false
set_option maxRecDepth 100000

set_option maxHeartbeats 8000000 in
theorem scan_needed (I : List Rc → World → Prop) (s : ByteArray) (w : World) (pf pi : Nat) (hs : s.size ≤ 100000000) (h0 : I [] w) (hT : ∀ d wx, I d wx → Steps wx) (hbel : ∀ d wx wy, I d wx → Below wx.heap.size wx wy → I d wy)
    (hcall : ∀ d r k h x wx, I d wx → Rc.Fits r → RcIs k h x r → (∃ t, (scanL s.data.toList).1 = d ++ r :: t) → Calls Tryz.prog 159 #[.agg (rcells k h x).toArray, .pointer (some ⟨pf, 0, none⟩), .pointer (some ⟨pi, 0, none⟩)] wx (fun e w' => e = .returned (.tuple #[]) ∧ I (d ++ [r]) w')) :
    Calls Tryz.prog 132 #[.string s, .func (.func 159) #[] #[.pointer (some ⟨pf, 0, none⟩), .pointer (some ⟨pi, 0, none⟩)]] w (ScanPost I s.data.toList) := by
  have HI0 := hid h0
  have HT := hid hT
  have HBe := hid hbel
  have HCa := hid hcall
  have hsz : s.data.toList.length = s.size := str_len s
  clear h0 hT hbel hcall
  have hst : ScanRel I s.data.toList (.int .i64 0) w := ⟨0, [], Nat.zero_le _, rfl, by simp, HI0.out⟩
  have HSt := hid hst
  clear hst
  go_enter Tryz.func132, Tryz.ntmps132
  go_wp2
  go_step3
  go_wp2
  go_step3
  go_wp2
  go_loopw [6] (ScanRel I s.data.toList) (fun i _ => s.size - (intOf i).toNat)
  case atStart => exact HSt.out
  case round =>
    obtain ⟨m, d, hm, rfl, hsc, hI⟩ := hrel
    have HIw := hid hI
    have HSc := hid hsc
    clear hI hsc
    by_cases hlt : m < s.size
    · have hmI : (m : Int) < (s.size : Int) := by omega
      have hte : s.data.toList.drop m ≠ [] := fun e => by have := congrArg List.length e; rw [List.length_drop] at this; simp at this; omega
      have hsl := fun wx => slice_l (s := s) (lo := (m : Int)) (l := s.data.toList.drop m) (by omega) (by omega) (by simp) wx
      have HU := hid ((unframe_any (mk (s.data.toList.drop m)) wr (by rw [mk_size, List.length_drop]; unfold maxLen; omega) (HT.out d wr HIw.out)).mono (R' := fun e w' => e = .returned (unfrRes (s.data.toList.drop m)) ∧ Below wr.heap.size wr w') (fun e w' h => h))
      have hpl : (unframe (s.data.toList.drop m)).1.length ≤ 65536 ∧ (unframe (s.data.toList.drop m)).2.1 ≤ 100000000 := by
        rcases unframe_cases (s.data.toList.drop m) with ⟨e, h1, _⟩ | ⟨q, h1, h2, h3, _⟩
        · rw [h1]; simp
        · rw [h1]; rw [List.length_drop] at h3; exact ⟨h2, by simp only; omega⟩
      have hnone := fun h9 hd => scanL_none hte h9 hd
      have hsum := fun h9 => scanL_sum hte h9
      have hsome := fun r hd => scanL_some (l := s.data.toList.drop m) (r := r) hd
      unfold unfrRes at HU
      have HTo := hid (fun wx => (toInt_any (mk (unframe (s.data.toList.drop m)).1) wx (by rw [mk_size]; unfold maxLen; omega)).mono (R' := fun e w' => e = .returned (intRes (toInt (unframe (s.data.toList.drop m)).1)) ∧ Below wx.heap.size wx w') (fun e w' ⟨h1, k, h2⟩ => ⟨h1, by rw [h2]; exact below_drew (Below.refl _ _) k⟩))
      generalize hpy : unframe (s.data.toList.drop m) = u at *
      obtain ⟨pay, n, c⟩ := u
      simp only at hpl hnone hsum hsome HU HTo
      have hpl1 := hpl.1
      generalize mk (s.data.toList.drop m) = sd at *
      by_cases h9 : c = 9
      · subst h9
        have HF := hid (fun wx (hb : Below wr.heap.size wr wx) => scan_fail HSc.out (hsum rfl) (HBe.out d wr wx HIw.out hb))
        clear hnone hsum hsome hpy HCa HSc HBe
        go_wp2_with (go_at_call 144; (with_reducible refine HU.out.mono ?_); rintro e w1 ⟨rfl, hb1⟩)
        rw [Exit.noGoto_ret]
        go_ret2
        exact HF.out _ hb1
      · have d9 : ((c : Int) == 9) = false := beq_false_of_ne (by omega)
        have HF := hid (fun hd wx (hb : Below wr.heap.size wr wx) => scan_fail HSc.out (hnone h9 hd) (HBe.out d wr wx HIw.out hb))
        clear hnone hsum
        cases hti : toInt pay with
        | none =>
          have HF2 := hid (HF.out (by unfold decR; rw [hti]))
          rw [hti] at HTo
          unfold intRes at HTo
          clear HF hsome hpy HCa HSc HBe
          go_wp2_with (first
            | (go_at_call 144; (with_reducible refine HU.out.mono ?_); rintro e w1 ⟨rfl, hb1⟩)
            | (go_at_call 181; (with_reducible refine (HTo.out _).mono ?_); rintro e w2 ⟨rfl, hb2⟩))
          rw [Exit.noGoto_ret]
          go_ret2
          exact HF2.out _ ((hb1.trans (hb2.mono hb1.size)).alloc (Nat.le_trans hb1.size hb2.size) _)
        | some kr =>
          obtain ⟨k0, rest⟩ := kr
          have hrl : rest.length ≤ pay.length := by have := congrArg List.length (toInt_sound hti).2; rw [List.length_append] at this; omega
          have hdr := decR_int hti
          rw [hti] at HTo
          unfold intRes at HTo
          simp only at HTo
          generalize unz k0 = kk at *
          by_cases h1 : kk = 1
          · subst h1
            rw [if_pos rfl] at hdr
            have HH := hid (fun wx => show Calls Tryz.prog 182 #[.string (mk rest)] wx (HardOut wx (decH rest)) from toHard_any (mk rest) wx (by rw [mk_size]; unfold maxLen; omega))
            have HIx := hid (fun wx (hb : Below wr.heap.size wr wx) => HBe.out d wr wx HIw.out hb)
            cases hq : decH rest with
            | none =>
              rw [hq] at hdr HH
              have HF2 := hid (HF.out hdr)
              clear HF hsome hpy HCa HSc HBe hdr hq
              generalize mk rest = rb at *
              go_wp2_with (first
                | (go_at_call 144; (with_reducible refine HU.out.mono ?_); rintro e w1 ⟨rfl, hb1⟩)
                | (go_at_call 181; (with_reducible refine (HTo.out _).mono ?_); rintro e w2 ⟨rfl, hb2⟩)
                | (go_at_call 182; (with_reducible refine (HH.out _).mono ?_); rintro e w4 ⟨hx, rfl, -, hb4⟩; obtain ⟨o4, b4⟩ := box_in w2 w4 hb4; obtain ⟨p1, p2, f1, f2, q0, q2, q3, q4, q5, q6⟩ := BoxH.of hx o4; have hbf := putH_below ((hb1.trans (hb2.mono hb1.size)).trans (b4.mono (Nat.le_trans hb1.size hb2.size))) (Nat.le_trans hb1.size hb2.size) hx))
              rw [Exit.noGoto_ret]
              go_ret2
              exact HF2.out _ hbf
            | some h0 =>
              rw [hq] at hdr HH
              obtain ⟨n', hn', h8, hnl, _, hfit, _, hss⟩ := hsome _ hdr
              subst hn'
              obtain ⟨hex, hnx⟩ := scan_next (I := I) HSc.out hm hnl hss
              have HNx := hid hnx
              rw [List.length_drop, hsz] at hnl
              have hW : IntKind.i64.wrap ((m : Int) + (n : Int)) = ((m + n : Nat) : Int) := by rw [show (m : Int) + (n : Int) = ((m + n : Nat) : Int) by omega]; exact IntWalk.i64_in _ (by omega)
              have HC1 := hid (fun wx (hI : I d wx) => show Calls Tryz.prog 159 #[.agg #[.int .i64 1, .int .i64 h0.term, .int .i64 h0.vote, .int .i64 0, .int .i64 0, .int .i64 0, .string ⟨#[]⟩], .pointer (some ⟨pf, 0, none⟩), .pointer (some ⟨pi, 0, none⟩)] wx (fun e w' => e = .returned (.tuple #[]) ∧ I (d ++ [.hard h0]) w') from HCa.out d (.hard h0) 1 h0 ⟨0, 0, 0, []⟩ wx hI hfit ⟨rfl, rfl⟩ hex)
              clear HF hsome hpy HCa HSc HBe hdr hss hnx hex hfit hq
              generalize hmn : m + n = mn at *
              generalize mk rest = rb at *
              go_wp2_with (first
                | (go_at_call 144; (with_reducible refine HU.out.mono ?_); rintro e w1 ⟨rfl, hb1⟩)
                | (go_at_call 181; (with_reducible refine (HTo.out _).mono ?_); rintro e w2 ⟨rfl, hb2⟩)
                | (go_at_call 182; (with_reducible refine (HH.out _).mono ?_); rintro e w4 ⟨hx, rfl, hxe, hb4⟩; obtain rfl := hxe _ rfl; obtain ⟨o4, b4⟩ := box_in w2 w4 hb4; obtain ⟨p1, p2, f1, f2, q0, q2, q3, q4, q5, q6⟩ := BoxH.of hx o4; obtain ⟨z0, z1, z2, z3, z4, z5, z6⟩ := boxL_hard hx o4; have hI3 := HIx.out _ (putH_below ((hb1.trans (hb2.mono hb1.size)).trans (b4.mono (Nat.le_trans hb1.size hb2.size))) (Nat.le_trans hb1.size hb2.size) hx))
                | (go_at_call 159; (with_reducible refine (HC1.out _ hI3).mono ?_); rintro e w5 ⟨rfl, hI4⟩))
              go_roundw
              case rel => exact HNx.out _ hI4
              case measure => simp [intOf]; omega
          · by_cases h2 : kk = 2
            · subst h2
              rw [if_neg h1, if_pos rfl] at hdr
              have HH := hid (fun wx => show Calls Tryz.prog 183 #[.string (mk rest)] wx (EntPost wx (decE rest)) from toEntry_any (mk rest) wx (by rw [mk_size]; unfold maxLen; omega))
              have HIx := hid (fun wx (hb : Below wr.heap.size wr wx) => HBe.out d wr wx HIw.out hb)
              cases hq : decE rest with
              | none =>
                rw [hq] at hdr HH
                have HF2 := hid (HF.out hdr)
                clear HF hsome hpy HCa HSc HBe hdr hq
                generalize mk rest = rb at *
                go_wp2_with (first
                  | (go_at_call 144; (with_reducible refine HU.out.mono ?_); rintro e w1 ⟨rfl, hb1⟩)
                  | (go_at_call 181; (with_reducible refine (HTo.out _).mono ?_); rintro e w2 ⟨rfl, hb2⟩)
                  | (go_at_call 183; (with_reducible refine (HH.out _).mono ?_); rintro e w4 ⟨hx, rfl, -, hb4⟩; obtain ⟨o4, b4⟩ := box_in w2 w4 hb4; obtain ⟨p3, p4, p5, p6, f3, f4, f5, f6, q4, q5, q6⟩ := BoxE.of hx o4; have hbf := putE_below ((hb1.trans (hb2.mono hb1.size)).trans (b4.mono (Nat.le_trans hb1.size hb2.size))) (Nat.le_trans hb1.size hb2.size) hx))
                rw [Exit.noGoto_ret]
                go_ret2
                exact HF2.out _ hbf
              | some x0 =>
                rw [hq] at hdr HH
                obtain ⟨n', hn', h8, hnl, _, hfit, _, hss⟩ := hsome _ hdr
                subst hn'
                obtain ⟨hex, hnx⟩ := scan_next (I := I) HSc.out hm hnl hss
                have HNx := hid hnx
                rw [List.length_drop, hsz] at hnl
                have hW : IntKind.i64.wrap ((m : Int) + (n : Int)) = ((m + n : Nat) : Int) := by rw [show (m : Int) + (n : Int) = ((m + n : Nat) : Int) by omega]; exact IntWalk.i64_in _ (by omega)
                have HC2 := hid (fun wx (hI : I d wx) => show Calls Tryz.prog 159 #[.agg #[.int .i64 2, .int .i64 0, .int .i64 0, .int .i64 x0.idx, .int .i64 x0.term, .int .i64 x0.kind, .string (mk x0.data)], .pointer (some ⟨pf, 0, none⟩), .pointer (some ⟨pi, 0, none⟩)] wx (fun e w' => e = .returned (.tuple #[]) ∧ I (d ++ [.entry x0]) w') from HCa.out d (.entry x0) 2 ⟨0, 0⟩ x0 wx hI hfit ⟨rfl, rfl⟩ hex)
                clear HF hsome hpy HCa HSc HBe hdr hss hnx hex hfit hq
                generalize hmn : m + n = mn at *
                generalize mk rest = rb at *
                go_wp2_with (first
                  | (go_at_call 144; (with_reducible refine HU.out.mono ?_); rintro e w1 ⟨rfl, hb1⟩)
                  | (go_at_call 181; (with_reducible refine (HTo.out _).mono ?_); rintro e w2 ⟨rfl, hb2⟩)
                  | (go_at_call 183; (with_reducible refine (HH.out _).mono ?_); rintro e w4 ⟨hx, rfl, hxe, hb4⟩; obtain rfl := hxe _ rfl; obtain ⟨o4, b4⟩ := box_in w2 w4 hb4; obtain ⟨p3, p4, p5, p6, f3, f4, f5, f6, q4, q5, q6⟩ := BoxE.of hx o4; obtain ⟨z0, z1, z2, z3, z4, z5, z6⟩ := boxL_entry hx o4; have hI3 := HIx.out _ (putE_below ((hb1.trans (hb2.mono hb1.size)).trans (b4.mono (Nat.le_trans hb1.size hb2.size))) (Nat.le_trans hb1.size hb2.size) hx))
                  | (go_at_call 159; (with_reducible refine (HC2.out _ hI3).mono ?_); rintro e w5 ⟨rfl, hI4⟩))
                go_roundw
                case rel => exact HNx.out _ hI4
                case measure => simp [intOf]; omega
            · by_cases h3 : kk = 3
              · subst h3
                rw [if_neg h1, if_neg h2, if_pos rfl] at hdr
                by_cases hr : rest = []
                · subst hr
                  rw [if_pos rfl] at hdr
                  obtain ⟨n', hn', h8, hnl, _, hfit, _, hss⟩ := hsome _ hdr
                  subst hn'
                  obtain ⟨hex, hnx⟩ := scan_next (I := I) HSc.out hm hnl hss
                  have HNx := hid hnx
                  rw [List.length_drop, hsz] at hnl
                  have hW : IntKind.i64.wrap ((m : Int) + (n : Int)) = ((m + n : Nat) : Int) := by rw [show (m : Int) + (n : Int) = ((m + n : Nat) : Int) by omega]; exact IntWalk.i64_in _ (by omega)
                  have HC3 := hid (fun wx (hI : I d wx) => show Calls Tryz.prog 159 #[.agg #[.int .i64 3, .int .i64 0, .int .i64 0, .int .i64 0, .int .i64 0, .int .i64 0, .string ⟨#[]⟩], .pointer (some ⟨pf, 0, none⟩), .pointer (some ⟨pi, 0, none⟩)] wx (fun e w' => e = .returned (.tuple #[]) ∧ I (d ++ [.reset]) w') from HCa.out d .reset 3 ⟨0, 0⟩ ⟨0, 0, 0, []⟩ wx hI trivial rfl hex)
                  have HIx := hid (fun wx (hb : Below wr.heap.size wr wx) => HBe.out d wr wx HIw.out hb)
                  rw [show mk ([] : List UInt8) = ⟨#[]⟩ from rfl] at HTo
                  clear HF hsome hpy HCa HSc HBe hdr hss hnx hex hfit
                  generalize hmn : m + n = mn at *
                  go_wp2_with (first
                    | (go_at_call 144; (with_reducible refine HU.out.mono ?_); rintro e w1 ⟨rfl, hb1⟩)
                    | (go_at_call 181; (with_reducible refine (HTo.out _).mono ?_); rintro e w2 ⟨rfl, hb2⟩; have hI3 := HIx.out _ ((hb1.trans (hb2.mono hb1.size)).alloc (Nat.le_trans hb1.size hb2.size) (.cells #[.int .i64 3, .int .i64 0, .int .i64 0, .int .i64 0, .int .i64 0, .int .i64 0, .string ⟨#[]⟩] 198)))
                    | (go_at_call 159; (with_reducible refine (HC3.out _ hI3).mono ?_); rintro e w4 ⟨rfl, hI4⟩))
                  go_roundw
                  case rel => exact HNx.out _ hI4
                  case measure => simp [intOf]; omega
                · rw [if_neg hr] at hdr
                  have HF2 := hid (HF.out hdr)
                  have e4 : (mk rest).toList.isEmpty = false := by rw [Lib.toList_data, mk_data]; cases rest; exact absurd rfl hr; rfl
                  clear HF hsome hpy HCa HSc HBe hdr
                  generalize mk rest = rb at *
                  go_wp2_with (first
                    | (go_at_call 144; (with_reducible refine HU.out.mono ?_); rintro e w1 ⟨rfl, hb1⟩)
                    | (go_at_call 181; (with_reducible refine (HTo.out _).mono ?_); rintro e w2 ⟨rfl, hb2⟩))
                  rw [Exit.noGoto_ret]
                  go_ret2
                  exact HF2.out _ ((hb1.trans (hb2.mono hb1.size)).alloc (Nat.le_trans hb1.size hb2.size) _)
              · rw [if_neg h1, if_neg h2, if_neg h3] at hdr
                have HF2 := hid (HF.out hdr)
                have e1 : (kk == 1) = false := beq_false_of_ne h1
                have e2 : (kk == 2) = false := beq_false_of_ne h2
                have e3 : (kk == 3) = false := beq_false_of_ne h3
                clear HF hsome hpy HCa HSc HBe hdr
                go_wp2_with (first
                  | (go_at_call 144; (with_reducible refine HU.out.mono ?_); rintro e w1 ⟨rfl, hb1⟩)
                  | (go_at_call 181; (with_reducible refine (HTo.out _).mono ?_); rintro e w2 ⟨rfl, hb2⟩))
                rw [Exit.noGoto_ret]
                go_ret2
                exact HF2.out _ ((hb1.trans (hb2.mono hb1.size)).alloc (Nat.le_trans hb1.size hb2.size) _)
    · obtain rfl : m = s.size := by omega
      have hfin : ScanPost I s.data.toList (.returned (.tuple #[.int .i64 (s.size : Int), .int .i64 0])) wr := by
        have := HSc.out
        rw [← hsz, List.drop_length, scanL_nil] at this
        unfold ScanPost
        rw [this]
        simp [hsz]
        exact HIw.out
      have HF := hid hfin
      clear hfin
      go_wp2
      go_ret2
      exact HF.out
end Go.Proofs.YtbidglefddmjhaaGreatDoor

