import Derived.Test.YtpakolpmhmhkpaaGreatDoorSnShownJ
import Derived.Test.YtpakolpmhmhkpaaGreatDoorSnArgJ
/-
  LAYER 4 (snap), the law SnapBack: what the call does.
-/
namespace Go.Proofs.YtpakolpmhmhkpaaGreatDoor
open Go.RowKit Go.Shelf
attribute [local go_sem] Oper.semAt_some
set_option linter.unusedVariables false
set_option maxRecDepth 100000

theorem unpack_err {S : List UInt8} {U : Bs} {er : Nat} (h : unpackS S = (U, er)) (he : er ≠ 0) : U = bs0 := by
  unfold unpackS at h
  split at h
  · exact (congrArg Prod.fst h).symm
  · split at h
    · exact (congrArg Prod.fst h).symm
    · split at h
      · exact (congrArg Prod.fst h).symm
      · split at h
        · exact (congrArg Prod.fst h).symm
        · split at h
          · exact (congrArg Prod.fst h).symm
          · exact absurd (congrArg Prod.snd h).symm he
abbrev bc (b : Bs) (vv : Value) : Array Value := #[.int .i64 b.ix, .int .i64 b.tm, vv, .string (mk b.data)]
section
variable {wx : World} {B0 : Nat}
theorem snPk_c {b : Bs} {vv : Value} (h : BAt wx vv b) (hg : Sn.Glob wx B0) (hB0 : B0 ≤ wx.heap.size) : Calls Tryz.prog 10 #[.agg (bc b vv)] wx fun e w' => e = .returned (.tuple #[.string (mk (packR b)), .int .i64 (packE b)]) ∧ Below wx.heap.size wx w' :=
  snPack_any h hg.steps (Nat.lt_of_lt_of_le hg.hsteps hB0)
theorem snUp_c {S : ByteArray} {U : Bs} {er : Nat} (hS : S.size ≤ 100000000) (hu : unpackS S.data.toList = (U, er)) (hg : Sn.Glob wx B0) (hB0 : B0 ≤ wx.heap.size) : Calls Tryz.prog 14 #[.string S] wx fun e w' => ∃ va vc, e = .returned (.tuple #[.agg (bc U (.slice va U.vot.length vc)), .int .i64 (er : Int)]) ∧ Below wx.heap.size wx w' ∧ BAt w' (.slice va U.vot.length vc) U := by
  refine (snUnpack_any S wx hS hg.steps (Nat.lt_of_lt_of_le hg.hsteps hB0)).mono ?_
  rintro e w' ⟨v, he, hb, hba, -⟩
  rw [hu] at he hba
  obtain ⟨va, vc, rfl, -⟩ := hba.vot
  exact ⟨va, vc, he, hb, hba⟩
theorem snSame_c {b : Bs} {v1 v2 : Value} (h1 : BAt wx v1 b) (h2 : BAt wx v2 b) : Calls Tryz.prog 16 #[.agg (bc b v1), .agg (bc b v2)] wx fun e w' => e = .returned (.bool true) ∧ Below wx.heap.size wx w' := by
  refine (snSame_any h1 h2).mono ?_
  rintro e wy ⟨he, hb⟩
  exact ⟨by rw [he]; simp, hb⟩
end
set_option maxHeartbeats 16000000 in
theorem snapBack_walk (W : World) {B0 : Nat} (b : Bs) (vv : Value) (s : ByteArray) (hg : Sn.Glob W B0) (hB0 : B0 ≤ W.heap.size) (ha : BArg W vv b) :
    Calls Tryz.prog 5 #[bval b vv, .string s] W fun e W' => e = .returned (.bool true) ∧ Below W.heap.size W W' := by
  obtain ⟨wa, wc, rfl, -⟩ := ha.vot
  dsimp only [bval]
  obtain ⟨W1, hW1⟩ : ∃ W1, W.alloc (.cells #[.int .i64 b.ix, .int .i64 b.tm, .slice wa b.vot.length wc, .string (mk b.data)] 24) = W1 := ⟨_, rfl⟩
  have b1 : Below W.heap.size W W1 := by rw [← hW1]; exact (Below.refl _ _).alloc (Nat.le_refl _) _
  have o1 : own W1 W.heap.size (bcells b (.slice wa b.vot.length wc)) 24 := by rw [← hW1]; exact own.new _ _ _
  have HX : Hid (∀ wx, Below W1.heap.size W1 wx → BoxB W.heap.size b (.slice wa b.vot.length wc) wx) := hid (fun wx hb => boxB_of (o1.same (hb.block _ o1.lt)))
  have HG : Hid (∀ wx, Below W1.heap.size W1 wx → Below W.heap.size W wx ∧ Sn.Glob wx B0 ∧ B0 ≤ wx.heap.size) := hid (fun wx hb => by
    have h2 := b1.trans (hb.mono b1.size)
    exact ⟨h2, hg.below h2 hB0, Nat.le_trans hB0 h2.size⟩)
  have HSh := hid (shown4_any W1 (HG.out W1 (Below.refl _ _)).2.1 (HG.out W1 (Below.refl _ _)).2.2)
  have HSm : Hid (∀ wx, Calls Tryz.prog 9 #[.agg #[.int .i64 b.ix, .int .i64 b.tm, .slice wa b.vot.length wc, .string (mk b.data)]] wx fun e w' => e = .returned (.bool (smallB b)) ∧ Below wx.heap.size wx w') := hid (fun wx => snSmall_any ⟨wa, wc, rfl⟩)
  have HAl : Hid (∀ wx cs, Below W1.heap.size W1 wx → Below W1.heap.size W1 (wx.alloc (.cells cs 24))) := hid (fun wx cs h => h.alloc h.size _)
  cases hsm : smallB b with
  | false =>
    rw [hsm] at HSm
    clear hg ha o1 b1 hsm
    go_enter Tryz.func5, Tryz.ntmps5
    go_wp2_with (first
      | (go_at_call 8; (with_reducible refine HSh.out.mono ?_); rintro e w2 ⟨rfl, hbw⟩; obtain ⟨q0, q1, q2, q3⟩ := HX.out _ hbw)
      | (go_at_call 9; (with_reducible refine (HSm.out _).mono ?_); rintro e w3 ⟨rfl, hb⟩; have hbw := hbw.trans (hb.mono hbw.size); clear hb; obtain ⟨q0, q1, q2, q3⟩ := HX.out _ hbw))
    go_ret
    exact ⟨rfl, (HG.out _ hbw).1⟩
  | true =>
    rw [hsm] at HSm
    by_cases h5 : (5000 : Int) < (s.size : Int)
    · clear hg ha o1 b1 hsm
      go_enter Tryz.func5, Tryz.ntmps5
      go_wp2_with (first
        | (go_at_call 8; (with_reducible refine HSh.out.mono ?_); rintro e w2 ⟨rfl, hbw⟩; obtain ⟨q0, q1, q2, q3⟩ := HX.out _ hbw)
        | (go_at_call 9; (with_reducible refine (HSm.out _).mono ?_); rintro e w3 ⟨rfl, hb⟩; have hbw := hbw.trans (hb.mono hbw.size); clear hb; obtain ⟨q0, q1, q2, q3⟩ := HX.out _ hbw))
      go_ret
      exact ⟨rfl, (HG.out _ hbw).1⟩
    · have hbd : b.vot.length ≤ 20 ∧ b.data.length ≤ 5000 := by
        unfold smallB at hsm
        simp only [Bool.and_eq_true, decide_eq_true_eq] at hsm
        exact hsm
      have hba : BAt W (.slice wa b.vot.length wc) b := ha.bat (by omega) (by omega)
      obtain ⟨r, hu⟩ : ∃ r, unpackS s.data.toList = r := ⟨_, rfl⟩
      obtain ⟨U, er⟩ := r
      have HPk : Hid (∀ wx, Below W1.heap.size W1 wx → Calls Tryz.prog 10 #[.agg #[.int .i64 b.ix, .int .i64 b.tm, .slice wa b.vot.length wc, .string (mk b.data)]] wx fun e w' => e = .returned (.tuple #[.string (mk (packR b)), .int .i64 (packE b)]) ∧ Below wx.heap.size wx w') := hid (fun wx hb => snPk_c (hba.below (HG.out wx hb).1) (HG.out wx hb).2.1 (HG.out wx hb).2.2)
      have HU2 : Hid (∀ wx, Below W1.heap.size W1 wx → Calls Tryz.prog 14 #[.string s] wx fun e w' => ∃ va vc, e = .returned (.tuple #[.agg #[.int .i64 U.ix, .int .i64 U.tm, .slice va U.vot.length vc, .string (mk U.data)], .int .i64 (er : Int)]) ∧ Below wx.heap.size wx w' ∧ BAt w' (.slice va U.vot.length vc) U) := hid (fun wx hb => snUp_c (by omega) hu (HG.out wx hb).2.1 (HG.out wx hb).2.2)
      have HPk2 : Hid (er = 0 → ∀ w7 va vc, Below W1.heap.size W1 w7 → BAt w7 (.slice va U.vot.length vc) U → Calls Tryz.prog 10 #[.agg #[.int .i64 U.ix, .int .i64 U.tm, .slice va U.vot.length vc, .string (mk U.data)]] (w7.alloc (.cells #[.int .i64 U.ix, .int .i64 U.tm, .slice va U.vot.length vc, .string (mk U.data)] 24)) fun e w' => e = .returned (.tuple #[.string s, .int .i64 0]) ∧ Below W1.heap.size W1 w') := hid (fun he w7 va vc hb hba7 => by
        subst he
        obtain ⟨hr, hp⟩ := pack_unpack hu
        have hb2 : Below W1.heap.size W1 (w7.alloc (.cells #[.int .i64 U.ix, .int .i64 U.tm, .slice va U.vot.length vc, .string (mk U.data)] 24)) := hb.alloc hb.size _
        refine (snPk_c (hba7.below ((Below.refl _ _).alloc (Nat.le_refl _) _)) (HG.out _ hb2).2.1 (HG.out _ hb2).2.2).mono ?_
        rintro e w' ⟨he, h3⟩
        refine ⟨?_, hb2.trans (h3.mono hb2.size)⟩
        rw [he]
        unfold packR packE
        rw [if_pos hr, if_pos hr, hp]
        rfl)
      cases hr : rightS b with
      | true =>
        have hpr : packR b = packS b := by unfold packR; rw [if_pos hr]
        have hpe : packE b = 0 := by unfold packE; rw [if_pos hr]
        rw [hpr, hpe] at HPk
        have hps := packS_small hr
        have HU1 : Hid (∀ wx, Below W1.heap.size W1 wx → Calls Tryz.prog 14 #[.string (mk (packS b))] wx fun e w' => ∃ va vc, e = .returned (.tuple #[.agg #[.int .i64 b.ix, .int .i64 b.tm, .slice va b.vot.length vc, .string (mk b.data)], .int .i64 0]) ∧ Below wx.heap.size wx w' ∧ BAt w' (.slice va b.vot.length vc) b) := hid (fun wx hb => snUp_c (S := mk (packS b)) (by rw [mk_size]; omega) (by rw [mk_data]; exact unpack_pack hr) (HG.out wx hb).2.1 (HG.out wx hb).2.2)
        have HSa : Hid (∀ w5 va vc, Below W1.heap.size W1 w5 → BAt w5 (.slice va b.vot.length vc) b → Calls Tryz.prog 16 #[.agg #[.int .i64 b.ix, .int .i64 b.tm, .slice va b.vot.length vc, .string (mk b.data)], .agg #[.int .i64 b.ix, .int .i64 b.tm, .slice wa b.vot.length wc, .string (mk b.data)]] (w5.alloc (.cells #[.int .i64 b.ix, .int .i64 b.tm, .slice va b.vot.length vc, .string (mk b.data)] 24)) fun e w' => e = .returned (.bool true) ∧ Below (w5.alloc (.cells #[.int .i64 b.ix, .int .i64 b.tm, .slice va b.vot.length vc, .string (mk b.data)] 24)).heap.size (w5.alloc (.cells #[.int .i64 b.ix, .int .i64 b.tm, .slice va b.vot.length vc, .string (mk b.data)] 24)) w') := hid (fun w5 va vc hb hb5 => by
          have hb2 : Below W1.heap.size W1 (w5.alloc (.cells #[.int .i64 b.ix, .int .i64 b.tm, .slice va b.vot.length vc, .string (mk b.data)] 24)) := hb.alloc hb.size _
          exact snSame_c (hb5.below ((Below.refl _ _).alloc (Nat.le_refl _) _)) (hba.below (HG.out _ hb2).1))
        by_cases he : er = 0
        · subst he
          have HPk3 := hid (HPk2.out rfl)
          clear HPk2
          rw [show ((0 : Nat) : Int) = 0 from rfl] at HU2
          clear hg ha o1 b1 hsm hba hr hpr hpe hps hu
          generalize mk (packS b) = pb at *
          go_enter Tryz.func5, Tryz.ntmps5
          go_wp2_with (first
            | (go_at_call 8; (with_reducible refine HSh.out.mono ?_); rintro e w2 ⟨rfl, hbw⟩; obtain ⟨q0, q1, q2, q3⟩ := HX.out _ hbw)
            | (go_at_call 9; (with_reducible refine (HSm.out _).mono ?_); rintro e w3 ⟨rfl, hb⟩; have hbw := hbw.trans (hb.mono hbw.size); clear hb; obtain ⟨q0, q1, q2, q3⟩ := HX.out _ hbw)
            | (go_at_call 10; (with_reducible refine (HPk.out _ hbw).mono ?_); rintro e w4 ⟨rfl, hb⟩; have hbw := hbw.trans (hb.mono hbw.size); clear hb; obtain ⟨q0, q1, q2, q3⟩ := HX.out _ hbw)
            | (go_at_call 14; (with_reducible refine (HU1.out _ hbw).mono ?_); rintro e w5 ⟨va5, vc5, rfl, hb, hba5⟩; have hbw := hbw.trans (hb.mono hbw.size); clear hb; have HBA5 := hid hba5; clear hba5; have hbw5 := HAl.out _ (bc b (.slice va5 b.vot.length vc5)) hbw; obtain ⟨q0, q1, q2, q3⟩ := HX.out _ hbw5)
            | (go_at_call 16; (with_reducible refine (HSa.out _ _ _ hbw HBA5.out).mono ?_); rintro e w6 ⟨rfl, hb⟩; have hbw := hbw5.trans (hb.mono hbw5.size); clear hb; clear hbw5)
            | (go_at_call 14; (with_reducible refine (HU2.out _ hbw).mono ?_); rintro e w7 ⟨va7, vc7, rfl, hb, hba7⟩; have hbw := hbw.trans (hb.mono hbw.size); clear hb; have HBA7 := hid hba7; clear hba7)
            | (go_at_call 10; (with_reducible refine (HPk3.out _ _ _ hbw HBA7.out).mono ?_); rintro e w8 ⟨rfl, hb⟩; have hbw := hb))
          go_ret
          exact ⟨rfl, (HG.out _ hbw).1⟩
        · obtain rfl := unpack_err hu he
          have hq : ((er : Int) == 0) = false := beq_eq_false_iff_ne.2 (by omega)
          have hq1 : ((er : Int) != 0) = true := bne_iff_ne.2 (by omega)
          have HU2 : Hid (∀ wx, Below W1.heap.size W1 wx → Calls Tryz.prog 14 #[.string s] wx fun e w' => ∃ va vc, e = .returned (.tuple #[.agg #[.int .i64 0, .int .i64 0, .slice va 0 vc, .string ⟨#[]⟩], .int .i64 (er : Int)]) ∧ Below wx.heap.size wx w' ∧ BAt w' (.slice va 0 vc) bs0) := HU2
          clear hg ha o1 b1 hsm hba hr hpr hpe hps hu HPk2 he
          generalize mk (packS b) = pb at *
          go_enter Tryz.func5, Tryz.ntmps5
          go_wp2_with (first
            | (go_at_call 8; (with_reducible refine HSh.out.mono ?_); rintro e w2 ⟨rfl, hbw⟩; obtain ⟨q0, q1, q2, q3⟩ := HX.out _ hbw)
            | (go_at_call 9; (with_reducible refine (HSm.out _).mono ?_); rintro e w3 ⟨rfl, hb⟩; have hbw := hbw.trans (hb.mono hbw.size); clear hb; obtain ⟨q0, q1, q2, q3⟩ := HX.out _ hbw)
            | (go_at_call 10; (with_reducible refine (HPk.out _ hbw).mono ?_); rintro e w4 ⟨rfl, hb⟩; have hbw := hbw.trans (hb.mono hbw.size); clear hb; obtain ⟨q0, q1, q2, q3⟩ := HX.out _ hbw)
            | (go_at_call 14; (with_reducible refine (HU1.out _ hbw).mono ?_); rintro e w5 ⟨va5, vc5, rfl, hb, hba5⟩; have hbw := hbw.trans (hb.mono hbw.size); clear hb; have HBA5 := hid hba5; clear hba5; have hbw5 := HAl.out _ (bc b (.slice va5 b.vot.length vc5)) hbw; obtain ⟨q0, q1, q2, q3⟩ := HX.out _ hbw5)
            | (go_at_call 16; (with_reducible refine (HSa.out _ _ _ hbw HBA5.out).mono ?_); rintro e w6 ⟨rfl, hb⟩; have hbw := hbw5.trans (hb.mono hbw5.size); clear hb; clear hbw5)
            | (go_at_call 14; (with_reducible refine (HU2.out _ hbw).mono ?_); rintro e w7 ⟨va7, vc7, rfl, hb, hba7⟩; have hbw := hbw.trans (hb.mono hbw.size); clear hb; have HBA7 := hid hba7; clear hba7))
          go_ret
          exact ⟨rfl, (HG.out _ (HAl.out _ #[.int .i64 0, .int .i64 0, .slice va7 0 vc7, .string ⟨#[]⟩] hbw)).1⟩
      | false =>
        have hpr : packR b = [] := by unfold packR; rw [if_neg (by rw [hr]; simp)]
        have hpe : packE b = 1 := by unfold packE; rw [if_neg (by rw [hr]; simp)]
        rw [hpr, hpe] at HPk
        by_cases he : er = 0
        · subst he
          have HPk3 := hid (HPk2.out rfl)
          clear HPk2
          rw [show ((0 : Nat) : Int) = 0 from rfl] at HU2
          clear hg ha o1 b1 hsm hba hr hpr hpe hu
          generalize mk ([] : List UInt8) = pb at *
          go_enter Tryz.func5, Tryz.ntmps5
          go_wp2_with (first
            | (go_at_call 8; (with_reducible refine HSh.out.mono ?_); rintro e w2 ⟨rfl, hbw⟩; obtain ⟨q0, q1, q2, q3⟩ := HX.out _ hbw)
            | (go_at_call 9; (with_reducible refine (HSm.out _).mono ?_); rintro e w3 ⟨rfl, hb⟩; have hbw := hbw.trans (hb.mono hbw.size); clear hb; obtain ⟨q0, q1, q2, q3⟩ := HX.out _ hbw)
            | (go_at_call 10; (with_reducible refine (HPk.out _ hbw).mono ?_); rintro e w4 ⟨rfl, hb⟩; have hbw := hbw.trans (hb.mono hbw.size); clear hb; obtain ⟨q0, q1, q2, q3⟩ := HX.out _ hbw)
            | (go_at_call 14; (with_reducible refine (HU2.out _ hbw).mono ?_); rintro e w7 ⟨va7, vc7, rfl, hb, hba7⟩; have hbw := hbw.trans (hb.mono hbw.size); clear hb; have HBA7 := hid hba7; clear hba7)
            | (go_at_call 10; (with_reducible refine (HPk3.out _ _ _ hbw HBA7.out).mono ?_); rintro e w8 ⟨rfl, hb⟩; have hbw := hb))
          go_ret
          exact ⟨rfl, (HG.out _ hbw).1⟩
        · obtain rfl := unpack_err hu he
          have hq : ((er : Int) == 0) = false := beq_eq_false_iff_ne.2 (by omega)
          have hq1 : ((er : Int) != 0) = true := bne_iff_ne.2 (by omega)
          have HU2 : Hid (∀ wx, Below W1.heap.size W1 wx → Calls Tryz.prog 14 #[.string s] wx fun e w' => ∃ va vc, e = .returned (.tuple #[.agg #[.int .i64 0, .int .i64 0, .slice va 0 vc, .string ⟨#[]⟩], .int .i64 (er : Int)]) ∧ Below wx.heap.size wx w' ∧ BAt w' (.slice va 0 vc) bs0) := HU2
          clear hg ha o1 b1 hsm hba hr hpr hpe hu HPk2 he
          generalize mk ([] : List UInt8) = pb at *
          go_enter Tryz.func5, Tryz.ntmps5
          go_wp2_with (first
            | (go_at_call 8; (with_reducible refine HSh.out.mono ?_); rintro e w2 ⟨rfl, hbw⟩; obtain ⟨q0, q1, q2, q3⟩ := HX.out _ hbw)
            | (go_at_call 9; (with_reducible refine (HSm.out _).mono ?_); rintro e w3 ⟨rfl, hb⟩; have hbw := hbw.trans (hb.mono hbw.size); clear hb; obtain ⟨q0, q1, q2, q3⟩ := HX.out _ hbw)
            | (go_at_call 10; (with_reducible refine (HPk.out _ hbw).mono ?_); rintro e w4 ⟨rfl, hb⟩; have hbw := hbw.trans (hb.mono hbw.size); clear hb; obtain ⟨q0, q1, q2, q3⟩ := HX.out _ hbw)
            | (go_at_call 14; (with_reducible refine (HU2.out _ hbw).mono ?_); rintro e w7 ⟨va7, vc7, rfl, hb, hba7⟩; have hbw := hbw.trans (hb.mono hbw.size); clear hb; have HBA7 := hid hba7; clear hba7))
          go_ret
          exact ⟨rfl, (HG.out _ (HAl.out _ #[.int .i64 0, .int .i64 0, .slice va7 0 vc7, .string ⟨#[]⟩] hbw)).1⟩
end Go.Proofs.YtpakolpmhmhkpaaGreatDoor

