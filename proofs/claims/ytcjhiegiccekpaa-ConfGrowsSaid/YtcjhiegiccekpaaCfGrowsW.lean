/-
  LAYER 9 (conf), the law ConfGrows: its walk.
-/
import Derived.Test.YtcjhiegiccekpaaCfTurnsW
namespace Go.Proofs.Ytcjhiegiccekpaa
open Go.RowKit
set_option linter.unusedVariables false
set_option maxRecDepth 100000

set_option maxHeartbeats 16000000 in
theorem confGrows_main (HP : CfProg) {w : World} {v vy vm : Value} {l yes more : List Int} (hv : NumIn w v l) (hy : NumIn w vy yes) (hm : NumIn w vm more) (hl : l.length ≤ 20) (hly : yes.length ≤ 40) (hlm : more.length ≤ 40) : Calls Try.prog 8 #[v, vy, vm] w (ShownPost9 w) := by
  have HS := hid (shown_any9 HP w)
  have HPh := hid HP
  have HV := hid hv
  have HY := hid hy
  have HM := hid hm
  have HL := hid (And.intro hly hlm)
  obtain ⟨ao, cap, rfl, hat⟩ := nums_in hv.row
  obtain ⟨bo, cap2, rfl, -⟩ := nums_in hy.row
  obtain ⟨co, cap3, rfl, -⟩ := nums_in hm.row
  obtain ⟨a', cap', e, hcap, hnone, -, -⟩ := id hv.row
  cases e
  have HAt := hid hat
  have hlI : (l.length : Int) ≤ 20 := by omega
  have hyI : (yes.length : Int) ≤ 40 := by omega
  have hmI : (more.length : Int) ≤ 40 := by omega
  have HNone := hid hnone
  clear hat hv hy hm HP hly hlm hnone
  obtain ⟨n, hn⟩ : ∃ n, l.length = n := ⟨_, rfl⟩
  rw [hn] at HAt hl hlI HV hcap
  rw [hn]
  have HN := hid hn
  obtain ⟨ny, hny⟩ : ∃ n, yes.length = n := ⟨_, rfl⟩
  rw [hny] at hyI HY ⊢
  obtain ⟨nm, hnm⟩ : ∃ n, more.length = n := ⟨_, rfl⟩
  rw [hnm] at hmI HM ⊢
  have HNy := hid hny
  have HNm := hid hnm
  clear hn hny hnm
  go_enter Try.func8, Try.ntmps8
  go_upto_region 5 with (go_at_call 10; (with_reducible refine HS.out.mono ?_); rintro e w1 ⟨rfl, hb1⟩)
  clear HS
  go_loopw [8] (TuRel l w) (fun i _ => n - (intOf i).toNat)
  case atStart => exact ⟨0, .inl rfl, rfl, hb1, hid (inc_one l)⟩
  case round =>
    clear hb1
    obtain ⟨j, hj, rfl, hbw, hq⟩ := hrel
    by_cases hjn : j + 1 < n
    · have hjI : ((j + 1 : Nat) : Int) < (n : Int) := by omega
      have hjI2 : (j : Int) < (n : Int) := by omega
      obtain ⟨sb, so, rfl, c0⟩ := HAt.out _ hbw (j + 1) hjn
      obtain ⟨sb', so', e, c1⟩ := HAt.out _ hbw j (by omega)
      cases e
      have hjl : j + 1 < l.length := by rw [HN.out]; exact hjn
      have hmore := inc_more hjl hq.out
      have hWk : IntKind.i64.wrap (((j + 1 : Nat) : Int) - 1) = (j : Int) := by rw [show ((j + 1 : Nat) : Int) - 1 = (j : Int) by omega]; exact IntWalk.i64_in _ (by omega)
      have HBw := hid (fun nq => below_drew hbw nq)
      have HJ : Hid (j + 1 + 1 ≤ l.length) := hid hjl
      generalize l.getD (j + 1) 0 = y at *
      generalize l.getD j 0 = z at *
      clear hjl hbw hj
      by_cases hyz : y ≤ z
      · clear hmore
        go_wp2
        go_quiet (fail)
        all_goals
          go_wp2
          go_ret
          exact ⟨rfl, HBw.out _⟩
      · have hzy : z < y := by omega
        have HI := hid (hmore hzy)
        clear hmore hyz
        go_wp2
        go_quiet (fail)
        all_goals
          go_wp2
          go_roundw
          case rel => exact ⟨j + 1, .inr HJ.out, by go_num, HBw.out _, HI⟩
          case measure => simp [intOf]; omega
    · have hjI : (n : Int) ≤ ((j + 1 : Nat) : Int) := by omega
      have hinc : Inc l := by
        have h := hq.out
        rwa [List.take_of_length_le (by have := HN.out; omega)] at h
      have hV1 := HV.out.below hbw
      have hY1 := HY.out.below hbw
      have hM1 := HM.out.below hbw
      have K1 := hid (k_most HPh.out hV1 hY1 wr (Below.refl _ _))
      obtain ⟨t1, ht1⟩ : ∃ t, mostC l yes = t := ⟨_, rfl⟩
      obtain ⟨t2, ht2⟩ : ∃ t, mostC l (yes ++ more) = t := ⟨_, rfl⟩
      have HT : Hid (t1 = true → t2 = true) := hid (fun e => by rw [← ht2]; exact most_grows (by rw [ht1]; exact e))
      rw [ht1] at K1
      have HInc := hid hinc
      have HBr := hid hbw
      have HV1 := hid hV1
      have HY1 := hid hY1
      have HM1 := hid hM1
      have HT2 := hid ht2
      clear hinc hV1 hY1 hM1 hbw ht1 ht2 HV HY HM hj hq hjn
      go_upto_region 10 with (go_at_call 22; (with_reducible refine K1.out.mono ?_); rintro e w2 ⟨rfl, hb2⟩)
      clear K1
      have hV2 := HV1.out.below hb2
      have hY2 := HY1.out.below hb2
      have hM2 := HM1.out.below hb2
      have HBW := hid (HBr.out.trans (hb2.mono HBr.out.size))
      have R0 : RMid numTy w2 (w2.alloc (.cells #[] 3)) (.slice (some ⟨w2.heap.size, 0, none⟩) 0 0) [] := rMid_empty (below_lit w2 _) (own.new w2 #[] _) (Nat.le_refl _)
      obtain ⟨a3, b3, w3, e3, m3, -⟩ := R0.app numTy_ok 22 (hY2.row.below (below_lit w2 _)) (by have := HL.out; simp; omega)
      rw [List.nil_append] at m3
      obtain ⟨a4, b4, w4, e4, m4, -⟩ := m3.app numTy_ok 22 (hM2.row.below m3.below) (by have := HL.out; omega)
      have z3 : ([] : List Int).length + yes.length = ny := by have := HNy.out; simp; omega
      have z4 : yes.length + more.length = ny + nm := by have := HNy.out; have := HNm.out; omega
      rw [z3] at e3
      rw [z3] at m3
      rw [z3] at e4
      rw [z4] at e4 m4
      have E3 : Hid ((Builtin.append_ #[22, 22] 22 #[.slice (some ⟨w2.heap.size, 0, none⟩) 0 0, .slice bo ny cap2]).run Try.prog (w2.alloc (.cells #[] 3)) = .ok (.slice a3 ny b3) w3) := hid e3
      have E4 : Hid ((Builtin.append_ #[22, 22] 22 #[.slice a3 ny b3, .slice co nm cap3]).run Try.prog w3 = .ok (.slice a4 (ny + nm) b4) w4) := hid e4
      have hS4 : NumIn w4 (.slice a4 (ny + nm) b4) (yes ++ more) := ⟨m4.row.rAt, by rw [List.length_append]; have := HL.out; omega, fun x hx => by
        rcases List.mem_append.1 hx with e | e
        · exact hY2.num x e
        · exact hM2.num x e⟩
      have hV4 := hV2.below m4.below
      have K2 := hid (k_most HPh.out hV4 hS4 w4 (Below.refl _ _))
      rw [HT2.out] at K2
      have HB4 := hid (HBW.out.trans (m4.below.mono HBW.out.size))
      have HV4 := hid hV4
      clear R0 e3 m3 e4 m4 z3 z4 hS4 hV2 hY2 hM2 hV4 hb2 HV1 HY1 HM1 HBr HBW HNy HNm HL
      go_upto_region 11 with (first
        | (at_builtin; refine wpList_append_at E3.out (by with_reducible rfl) rfl _ _ rfl rfl rfl rfl ?_)
        | (at_builtin; refine wpList_append_at E4.out (by with_reducible rfl) rfl _ _ rfl rfl rfl rfl ?_)
        | (go_at_call 22; (with_reducible refine K2.out.mono ?_); rintro e w5 ⟨rfl, hb5⟩))
      clear E3 E4 K2
      have hV5 := HV4.out.below hb5
      have HB5 := hid (HB4.out.trans (hb5.mono HB4.out.size))
      obtain ⟨h, hh⟩ : ∃ h, n / 2 = h := ⟨_, rfl⟩
      have hle : h ≤ n := by omega
      have hrow : RAt numTy w5 (.slice ao h cap) (l.take h) := hV5.row.take numTy_ok (by rw [HN.out]; exact hle)
      have hH5 : NumIn w5 (.slice ao h cap) (l.take h) := ⟨hrow, by rw [List.length_take]; have := HN.out; omega, fun x hx => hV5.num x (List.mem_of_mem_take hx)⟩
      have hto : ∀ wx, (Instr.slice 22 (.slice ao n cap) none (some (.int .i64 (h : Int))) none).run Try.prog wx = .ok (.slice ao h cap) wx := fun wx => run_to numTy_ok wx ao n cap h (by omega) HNone.out
      have hqt : Int.tdiv (n : Int) 2 = (h : Int) := by rw [Int.tdiv_eq_ediv_of_nonneg (by omega)]; omega
      have hqd : (n : Int) / 2 = (h : Int) := by omega
      have K3 := hid (k_most HPh.out hV5 hV5)
      have K4 := hid (k_most HPh.out hV5 hH5)
      have hhalf := most_half HInc.out
      rw [HN.out, hh] at hhalf
      rw [hhalf] at K4
      have hall := most_all l
      rw [HN.out] at hall
      rw [hall] at K3
      have hb : Below w5.heap.size w5 w5 := Below.refl _ _
      have HTT := HT.out
      clear hrow hH5 hV5 hb5 hhalf hall HT hh
      have key : t1 = false ∨ (t1 = true ∧ t2 = true) := by
        cases t1 with
        | false => exact .inl rfl
        | true => exact .inr ⟨rfl, HTT rfl⟩
      clear HTT
      have hcase : (n = 0 ∧ (n : Int) ≤ 0 ∧ decide (0 < n) = false) ∨ ((0 : Int) < (n : Int) ∧ decide (0 < n) = true) := by
        by_cases h0 : n = 0
        · exact .inl ⟨h0, by omega, by simp [h0]⟩
        · exact .inr ⟨by omega, by simp; omega⟩
      rcases hcase with ⟨h00, h0I, hd⟩ | ⟨h0I, hd⟩
      · obtain rfl : h = 0 := by omega
        subst h00
        rw [hd] at K3
        clear hd h0I hcap hl hlI hle hqt hqd hjI
        simp only [Int.natCast_zero] at hto
        rcases key with rfl | ⟨rfl, rfl⟩
        all_goals
          go_wp2_with (first
            | (go_at_call 22; (with_reducible refine (K3.out _ hb).mono ?_); rintro e w6 ⟨rfl, hb⟩)
            | (go_at_call 22; (with_reducible refine (K4.out _ hb).mono ?_); rintro e w7 ⟨rfl, hb⟩))
          go_ret
          exact ⟨by first | rfl | simp, HB5.out.trans (hb.mono HB5.out.size)⟩
      all_goals
        rw [hd] at K3
        clear hd
        rcases key with rfl | ⟨rfl, rfl⟩
        all_goals
          go_wp2_with (first
            | (go_at_call 22; (with_reducible refine (K3.out _ hb).mono ?_); rintro e w6 ⟨rfl, hb⟩)
            | (go_at_call 22; (with_reducible refine (K4.out _ hb).mono ?_); rintro e w7 ⟨rfl, hb⟩))
          go_ret
          exact ⟨by first | rfl | simp, HB5.out.trans (hb.mono HB5.out.size)⟩
set_option maxHeartbeats 4000000 in
theorem confGrows_walk (HP : CfProg) {w : World} {v va vb : Value} {l a b : List Int} (hv : RAt numTy w v l) (hvn : ∀ n ∈ l, I64c n) (ha : RAt numTy w va a) (han : ∀ n ∈ a, I64c n) (hb : RAt numTy w vb b) (hbn : ∀ n ∈ b, I64c n) : Calls Try.prog 8 #[v, va, vb] w (ShownPost9 w) := by
  by_cases hs : l.length ≤ 20 ∧ a.length ≤ 40 ∧ b.length ≤ 40
  · exact confGrows_main HP ⟨hv, by omega, hvn⟩ ⟨ha, by omega, han⟩ ⟨hb, by omega, hbn⟩ hs.1 hs.2.1 hs.2.2
  have HS := hid (shown_any9 HP w)
  obtain ⟨ao, cap, rfl, -⟩ := nums_in hv
  obtain ⟨bo, cap2, rfl, -⟩ := nums_in ha
  obtain ⟨co, cap3, rfl, -⟩ := nums_in hb
  clear HP hv ha hb hvn han hbn
  by_cases h1 : l.length ≤ 20
  · have hlI : (l.length : Int) ≤ 20 := by omega
    by_cases h2 : a.length ≤ 40
    · have hmI : (a.length : Int) ≤ 40 := by omega
      have hkI : (40 : Int) < (b.length : Int) := by omega
      clear hs h1 h2
      go_enter Try.func8, Try.ntmps8
      go_wp2_with (go_at_call 10; (with_reducible refine HS.out.mono ?_); rintro e w1 ⟨rfl, hb⟩)
      go_ret
      exact ⟨rfl, hb⟩
    · have hmI : (40 : Int) < (a.length : Int) := by omega
      clear hs h1 h2
      go_enter Try.func8, Try.ntmps8
      go_wp2_with (go_at_call 10; (with_reducible refine HS.out.mono ?_); rintro e w1 ⟨rfl, hb⟩)
      go_ret
      exact ⟨rfl, hb⟩
  · have hlI : (20 : Int) < (l.length : Int) := by omega
    clear hs h1
    go_enter Try.func8, Try.ntmps8
    go_wp2_with (go_at_call 10; (with_reducible refine HS.out.mono ?_); rintro e w1 ⟨rfl, hb⟩)
    go_ret
    exact ⟨rfl, hb⟩
end Go.Proofs.Ytcjhiegiccekpaa
