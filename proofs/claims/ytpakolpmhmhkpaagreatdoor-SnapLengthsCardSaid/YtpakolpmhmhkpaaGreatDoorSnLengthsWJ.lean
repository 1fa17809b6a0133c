/-
  LAYER 4 (snap), the law SnapLengths: what the call does. (Written by wip/tools/gen4_len.py.)
-/
import Derived.Test.YtpakolpmhmhkpaaGreatDoorSnBackWJ
namespace Go.Proofs.YtpakolpmhmhkpaaGreatDoor
open Go.RowKit Go.Shelf
attribute [local go_sem] Oper.semAt_some
set_option linter.unusedVariables false
set_option maxRecDepth 100000

theorem pick4_any (c n : Int) (w : World) (hn : 0 < n) (hn2 : n ≤ 1000000) (hc : I64s c) :
    Calls Tryz.prog 17 #[.int .i64 c, .int .i64 n] w fun e w' => e = .returned (.int .i64 (pickZ c n)) ∧ w = w' := by
  obtain ⟨h0, h1⟩ := hc
  unfold pickZ
  by_cases h : c < 0
  · rw [if_pos h]
    have hc : 0 ≤ -(c + 1) := by omega
    have hc2 : -(c + 1) ≤ 9223372036854775807 := by omega
    go_enter Tryz.func17, Tryz.ntmps17
    go_wp2
    go_ret
    refine ⟨?_, rfl⟩
    show Ending.returned (.int .i64 _) = _
    congr 2
    first | rfl | (rw [← Int.tmod_eq_emod_of_nonneg hc]; simp [Int.neg_tmod])
  · rw [if_neg h]
    have hc : 0 ≤ c := by omega
    go_enter Tryz.func17, Tryz.ntmps17
    go_wp2
    go_ret
    exact ⟨by first | rfl | (congr 2; exact Int.tmod_eq_emod_of_nonneg hc), rfl⟩
theorem pick4_at (c : Int) {n : Nat} (hn : 0 < n) : ∃ p : Nat, pickZ c (n : Int) = (p : Int) ∧ p < n := by
  unfold pickZ
  have h1 := Int.emod_nonneg (if c < 0 then -(c + 1) else c) (show (n : Int) ≠ 0 by omega)
  have h2 := Int.emod_lt_of_pos (if c < 0 then -(c + 1) else c) (show (0 : Int) < (n : Int) by omega)
  exact ⟨((if c < 0 then -(c + 1) else c) % (n : Int)).toNat, by omega, by omega⟩
abbrev bare (b : Bs) : Bs := { b with data := [] }
theorem bare_right {b : Bs} (h : rightS b = true) : rightS (bare b) = true := by
  unfold rightS at *
  simp only [Bool.and_eq_true, decide_eq_true_eq] at *
  exact ⟨h.1, by show ([] : List UInt8).length ≤ 4000000; simp⟩
theorem snUp_any {S : ByteArray} {wx : World} {B0 er : Nat} (hS : S.size ≤ 100000000) (hu : (unpackS S.data.toList).2 = er) (hg : Sn.Glob wx B0) (hB0 : B0 ≤ wx.heap.size) : Calls Tryz.prog 14 #[.string S] wx fun e w' => ∃ i j n d va vc, e = .returned (.tuple #[.agg #[.int .i64 i, .int .i64 j, .slice va n vc, .string d], .int .i64 (er : Int)]) ∧ Below wx.heap.size wx w' := by
  obtain ⟨r, hr⟩ : ∃ r, unpackS S.data.toList = r := ⟨_, rfl⟩
  obtain ⟨U, e⟩ := r
  rw [hr] at hu
  obtain rfl : e = er := hu
  refine (snUp_c hS hr hg hB0).mono ?_
  rintro x w' ⟨va, vc, rfl, hb, -⟩
  exact ⟨_, _, _, _, va, vc, rfl, hb⟩
set_option maxHeartbeats 16000000 in
theorem snapLengths_walk (W : World) {B0 : Nat} (b : Bs) (vv : Value) (at_ : Int) (hg : Sn.Glob W B0) (hB0 : B0 ≤ W.heap.size) (ha : BArg W vv b) (hat : I64s at_) :
    Calls Tryz.prog 7 #[bval b vv, .int .i64 at_] W fun e W' => e = .returned (.bool true) ∧ Below W.heap.size W W' := by
  obtain ⟨wa, wc, rfl, -⟩ := ha.vot
  dsimp only [bval]
  obtain ⟨W1, hW1⟩ : ∃ W1, W.alloc (.cells #[.int .i64 b.ix, .int .i64 b.tm, .slice wa b.vot.length wc, .string (mk b.data)] 24) = W1 := ⟨_, rfl⟩
  have b1 : Below W.heap.size W W1 := by rw [← hW1]; exact (Below.refl _ _).alloc (Nat.le_refl _) _
  have o1 : own W1 W.heap.size (bcells b (.slice wa b.vot.length wc)) 24 := by rw [← hW1]; exact own.new _ _ _
  have HX : Hid (∀ wx, Below W1.heap.size W1 wx → wx.cell? ⟨W.heap.size, 0, none⟩ = some (.int .i64 b.ix) ∧ wx.cell? ⟨W.heap.size, 1, none⟩ = some (.int .i64 b.tm) ∧ wx.cell? ⟨W.heap.size, 2, none⟩ = some (.slice wa b.vot.length wc) ∧ wx.cell? ⟨W.heap.size, 3, none⟩ = some (.string (mk b.data))) := hid (fun wx hb => boxB_of (o1.same (hb.block _ o1.lt)))
  have HG : Hid (∀ wx, Below W1.heap.size W1 wx → Below W.heap.size W wx ∧ Sn.Glob wx B0 ∧ B0 ≤ wx.heap.size) := hid (fun wx hb => by
    have h2 := b1.trans (hb.mono b1.size)
    exact ⟨h2, hg.below h2 hB0, Nat.le_trans hB0 h2.size⟩)
  have HSh := hid (shown4_any W1 (HG.out W1 (Below.refl _ _)).2.1 (HG.out W1 (Below.refl _ _)).2.2)
  have HSm : Hid (∀ wx, Calls Tryz.prog 9 #[.agg #[.int .i64 b.ix, .int .i64 b.tm, .slice wa b.vot.length wc, .string (mk b.data)]] wx fun e w' => e = .returned (.bool (smallB b)) ∧ Below wx.heap.size wx w') := hid (fun wx => snSmall_any ⟨wa, wc, rfl⟩)
  have HAl : Hid (∀ wx cs, Below W1.heap.size W1 wx → Below W1.heap.size W1 (wx.alloc (.cells cs 24))) := hid (fun wx cs h => h.alloc h.size _)
  cases hsm : smallB b with
  | false =>
    rw [hsm] at HSm
    clear hg ha o1 b1 hsm
    go_enter Tryz.func7, Tryz.ntmps7
    go_wp2_with (first
      | (go_at_call 8; (with_reducible refine HSh.out.mono ?_); rintro e w2 ⟨rfl, hbw⟩; obtain ⟨q0, q1, q2, q3⟩ := HX.out _ hbw)
      | (go_at_call 9; (with_reducible refine (HSm.out _).mono ?_); rintro e w3 ⟨rfl, hb⟩; have hbw := hbw.trans (hb.mono hbw.size); clear hb; obtain ⟨q0, q1, q2, q3⟩ := HX.out _ hbw))
    go_ret
    exact ⟨rfl, (HG.out _ hbw).1⟩
  | true =>
    rw [hsm] at HSm
    have hbd : b.vot.length ≤ 20 ∧ b.data.length ≤ 5000 := by
      unfold smallB at hsm
      simp only [Bool.and_eq_true, decide_eq_true_eq] at hsm
      exact hsm
    have hba : BAt W (.slice wa b.vot.length wc) b := ha.bat (by omega) (by omega)
    have HPk : Hid (∀ wx, Below W1.heap.size W1 wx → Calls Tryz.prog 10 #[.agg #[.int .i64 b.ix, .int .i64 b.tm, .slice wa b.vot.length wc, .string (mk b.data)]] wx fun e w' => e = .returned (.tuple #[.string (mk (packR b)), .int .i64 (packE b)]) ∧ Below wx.heap.size wx w') := hid (fun wx hb => snPk_c (hba.below (HG.out wx hb).1) (HG.out wx hb).2.1 (HG.out wx hb).2.2)
    have HB : Hid (∀ w4, Below W1.heap.size W1 w4 → ∃ w5, w5 = (w4.alloc (.cells #[.int .i64 b.ix, .int .i64 b.tm, .slice wa b.vot.length wc, .string (mk b.data)] 24)) ∧ Below W1.heap.size W1 w5) := hid (fun w4 h => ⟨_, rfl, h.alloc h.size _⟩)
    cases hr : rightS b with
    | false =>
      have hpr : packR b = [] := by unfold packR; rw [if_neg (by rw [hr]; simp)]
      have hpe : packE b = 1 := by unfold packE; rw [if_neg (by rw [hr]; simp)]
      rw [hpr, hpe] at HPk
      rw [show mk ([] : List UInt8) = ⟨#[]⟩ from rfl] at HPk
      clear hg ha o1 b1 hsm hba hr hpr hpe HB
      go_enter Tryz.func7, Tryz.ntmps7
      go_wp2_with (first
        | (go_at_call 8; (with_reducible refine HSh.out.mono ?_); rintro e w2 ⟨rfl, hbw⟩; obtain ⟨q0, q1, q2, q3⟩ := HX.out _ hbw)
        | (go_at_call 9; (with_reducible refine (HSm.out _).mono ?_); rintro e w3 ⟨rfl, hb⟩; have hbw := hbw.trans (hb.mono hbw.size); clear hb; obtain ⟨q0, q1, q2, q3⟩ := HX.out _ hbw)
        | (go_at_call 10; (with_reducible refine (HPk.out _ hbw).mono ?_); rintro e w4 ⟨rfl, hb⟩; have hbw := hbw.trans (hb.mono hbw.size); clear hb; obtain ⟨q0, q1, q2, q3⟩ := HX.out _ hbw))
      go_ret
      exact ⟨rfl, (HG.out _ hbw).1⟩
    | true =>
      have hpr : packR b = packS b := by unfold packR; rw [if_pos hr]
      have hpe : packE b = 0 := by unfold packE; rw [if_pos hr]
      rw [hpr, hpe] at HPk
      have hr2 := bare_right hr
      obtain ⟨g, hg2, hgr⟩ := pack_grows hbd.2
      have hpl := packS_len b
      have hhl := headS_len hr
      have hpos : 0 < (packS b).length := by omega
      obtain ⟨p, hp, hpn⟩ := pick4_at at_ hpos
      have hbb : BAt W (.slice wa b.vot.length wc) (bare b) := ⟨hba.ix, hba.tm, hba.vot, hba.vl, hba.v64, by show 0 ≤ 100000000; omega⟩
      have HPk2 : Hid (∀ w4, Below W1.heap.size W1 w4 → Calls Tryz.prog 10 #[.agg #[.int .i64 b.ix, .int .i64 b.tm, .slice wa b.vot.length wc, .string ⟨#[]⟩]] (w4.alloc (.cells #[.int .i64 b.ix, .int .i64 b.tm, .slice wa b.vot.length wc, .string ⟨#[]⟩] 24)) fun e w' => e = .returned (.tuple #[.string (mk (packS (bare b))), .int .i64 0]) ∧ Below W1.heap.size W1 w') := hid (fun w4 hb => by
        have hb2 : Below W1.heap.size W1 (w4.alloc (.cells #[.int .i64 b.ix, .int .i64 b.tm, .slice wa b.vot.length wc, .string ⟨#[]⟩] 24)) := hb.alloc hb.size _
        have := snPk_c (hbb.below (HG.out _ hb2).1) (HG.out _ hb2).2.1 (HG.out _ hb2).2.2
        unfold packR packE at this
        rw [if_pos hr2, if_pos hr2] at this
        refine this.mono ?_
        rintro e w' ⟨he, h3⟩
        exact ⟨he, hb2.trans (h3.mono hb2.size)⟩)
      have HPi : Hid (∀ wx, Calls Tryz.prog 17 #[.int .i64 at_, .int .i64 ((mk (packS b)).size : Int)] wx fun e w' => e = .returned (.int .i64 (p : Int)) ∧ wx = w') := hid (fun wx => by
        have := pick4_any at_ ((packS b).length : Int) wx (by omega) (by omega) hat
        rw [hp] at this
        rw [mk_size]
        exact this)
      obtain ⟨er, her⟩ : ∃ er, (unpackS ((packS b).take p)).2 = er := ⟨_, rfl⟩
      have hen : ((er : Int) != 0) = true := by have h := unpack_cut hr hpn; rw [her] at h; exact bne_iff_ne.2 (by omega)
      have HU1 : Hid (∀ wx, Below W1.heap.size W1 wx → Calls Tryz.prog 14 #[.string (mk ((packS b).take p))] wx fun e w' => ∃ i j n d va vc, e = .returned (.tuple #[.agg #[.int .i64 i, .int .i64 j, .slice va n vc, .string d], .int .i64 (er : Int)]) ∧ Below wx.heap.size wx w') := hid (fun wx hb => snUp_any (by rw [mk_size, List.length_take]; omega) (by rw [mk_data]; exact her) (HG.out wx hb).2.1 (HG.out wx hb).2.2)
      have HU2 : Hid (∀ wx, Below W1.heap.size W1 wx → Calls Tryz.prog 14 #[.string (mk (packS b) ++ ⟨#[120]⟩)] wx fun e w' => ∃ i j n d va vc, e = .returned (.tuple #[.agg #[.int .i64 i, .int .i64 j, .slice va n vc, .string d], .int .i64 8]) ∧ Below wx.heap.size wx w') := hid (fun wx hb => by
        have h1 : mk (packS b) ++ (⟨#[120]⟩ : ByteArray) = mk (packS b ++ [120]) := mk_append (packS b) [120]
        rw [h1]
        exact snUp_any (er := 8) (by rw [mk_size, List.length_append]; simp; omega) (by rw [mk_data, unpack_more hr (by simp)]) (HG.out wx hb).2.1 (HG.out wx hb).2.2)
      have hSl := fun wx => slice_h (s := mk (packS b)) (hi := (p : Int)) (l := (packS b).take p) (by omega) (by rw [mk_size]; omega) (by rw [mk_data, Int.toNat_natCast]) wx
      have z1 : (mk (packS b)).size = (packS b).length := mk_size _
      have z2 : (mk (packS (bare b))).size = (packS (bare b)).length := mk_size _
      have z3 : (mk b.data).size = b.data.length := mk_size _
      rw [← z1, ← z2, ← z3] at hgr
      rw [← z1] at hpl
      rw [← z3] at hpl hbd
      clear hg ha o1 b1 hsm hba hr hpr hpe HB hr2 hbb her hp z1 z2 z3 hpn hpos
      generalize (headS b).length = hl at *
      generalize mk ((packS b).take p) = cb at *
      generalize mk (packS (bare b)) = qb at *
      generalize mk (packS b) = pb at *
      generalize mk b.data = db at *
      have hA1 : 0 ≤ (pb.size : Int) - (qb.size : Int) - (db.size : Int) - 8 * (((db.size : Int) + 999) / 1000) := by omega
      have hA2 : (pb.size : Int) - (qb.size : Int) - (db.size : Int) - 8 * (((db.size : Int) + 999) / 1000) ≤ 2 := by omega
      have hA3 : pb.size ≤ 6000 := by omega
      have hA4 : qb.size ≤ 6000 := by omega
      have hA5 : db.size ≤ 5000 := hbd.2
      clear hgr hpl hbd hhl hg2
      go_enter Tryz.func7, Tryz.ntmps7
      go_wp2_with (first
        | (go_at_call 8; (with_reducible refine HSh.out.mono ?_); rintro e w2 ⟨rfl, hbw⟩; obtain ⟨q0, q1, q2, q3⟩ := HX.out _ hbw)
        | (go_at_call 9; (with_reducible refine (HSm.out _).mono ?_); rintro e w3 ⟨rfl, hb⟩; have hbw := hbw.trans (hb.mono hbw.size); clear hb; obtain ⟨q0, q1, q2, q3⟩ := HX.out _ hbw)
        | (go_at_call 10; (with_reducible refine (HPk.out _ hbw).mono ?_); rintro e w4 ⟨rfl, hb⟩; have hbw := hbw.trans (hb.mono hbw.size); clear hb; obtain ⟨q0, q1, q2, q3⟩ := HX.out _ hbw)
        | (go_at_call 10; (with_reducible refine (HPk2.out _ hbw).mono ?_); rintro e w5 ⟨rfl, hbw⟩; obtain ⟨q0, q1, q2, q3⟩ := HX.out _ hbw)
        | (go_at_call 17; (with_reducible refine (HPi.out _).mono ?_); rintro e w6 ⟨rfl, rfl⟩)
        | (go_at_call 14; (with_reducible refine (HU1.out _ hbw).mono ?_); rintro e w7 ⟨i7, j7, n7, d7, va7, vc7, rfl, hb⟩; have hbw := HAl.out _ #[.int .i64 i7, .int .i64 j7, .slice va7 n7 vc7, .string d7] (hbw.trans (hb.mono hbw.size)); clear hb)
        | (go_at_call 14; (with_reducible refine (HU2.out _ hbw).mono ?_); rintro e w8 ⟨i8, j8, n8, d8, va8, vc8, rfl, hb⟩; have hbw := HAl.out _ #[.int .i64 i8, .int .i64 j8, .slice va8 n8 vc8, .string d8] (hbw.trans (hb.mono hbw.size)); clear hb))
      go_ret
      exact ⟨rfl, (HG.out _ hbw).1⟩
end Go.Proofs.YtpakolpmhmhkpaaGreatDoor
