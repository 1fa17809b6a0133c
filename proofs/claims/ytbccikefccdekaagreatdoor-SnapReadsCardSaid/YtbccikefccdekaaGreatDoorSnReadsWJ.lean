import Derived.Test.YtbccikefccdekaaGreatDoorSrEJ
import Derived.Test.YtbccikefccdekaaGreatDoorSnLengthsWJ
import Derived.Test.YtbccikefccdekaaGreatDoorSnKeepAJ
import Derived.Test.YtbccikefccdekaaGreatDoorSnUp2J
/-
  LAYER 4 (snap), the law SnapReads: what the call does.
-/
namespace Go.Proofs.YtbccikefccdekaaGreatDoor
open Go.RowKit Go.Shelf
attribute [local go_sem] Oper.semAt_some
set_option linter.unusedVariables false
set_option maxRecDepth 100000
section
variable {wx W W5 w4 w6 : World} {U : Bs} {xa ya : Option Addr} {xc yc : Nat}
theorem srUp_c {S : ByteArray} {er : Nat} (hS : S.size ≤ 1000000) (hu : unpackS S.data.toList = (U, er)) : Calls Tryz.prog 13 #[.string S] wx fun e w' => ∃ va vc, e = .returned (.tuple #[.agg (bc U (.slice va U.vot.length vc)), .int .i64 (er : Int)]) ∧ Below wx.heap.size wx w' ∧ BAt w' (.slice va U.vot.length vc) U := by
  refine (srUnpack_any S wx hS).mono ?_
  rintro e w' ⟨v, he, hb, hba, -⟩
  rw [hu] at he hba
  obtain ⟨va, vc, rfl, -⟩ := hba.vot
  exact ⟨va, vc, he, hb, hba⟩
/-- Two boxes of one base, one made behind the other. -/
theorem two_boxes (hx : BAt w4 (.slice xa U.vot.length xc) U) (h5 : w4.alloc (.cells (bc U (.slice xa U.vot.length xc)) 24) = W5) (hb6 : Below W5.heap.size W5 w6) (hy : BAt w6 (.slice ya U.vot.length yc) U) :
    BoxB w4.heap.size U (.slice xa U.vot.length xc) (w6.alloc (.cells (bc U (.slice ya U.vot.length yc)) 24)) ∧ BoxB w6.heap.size U (.slice ya U.vot.length yc) (w6.alloc (.cells (bc U (.slice ya U.vot.length yc)) 24)) ∧
    own (w6.alloc (.cells (bc U (.slice ya U.vot.length yc)) 24)) w4.heap.size (bc U (.slice xa U.vot.length xc)) 24 ∧ own (w6.alloc (.cells (bc U (.slice ya U.vot.length yc)) 24)) w6.heap.size (bc U (.slice ya U.vot.length yc)) 24 ∧ Below W5.heap.size W5 (w6.alloc (.cells (bc U (.slice ya U.vot.length yc)) 24)) ∧
    Calls Tryz.prog 14 #[.agg (bc U (.slice xa U.vot.length xc)), .agg (bc U (.slice ya U.vot.length yc))] (w6.alloc (.cells (bc U (.slice ya U.vot.length yc)) 24)) fun e w' => e = .returned (.bool true) ∧ Below (w6.alloc (.cells (bc U (.slice ya U.vot.length yc)) 24)).heap.size (w6.alloc (.cells (bc U (.slice ya U.vot.length yc)) 24)) w' := by
  have h5b : Below w4.heap.size w4 W5 := by rw [← h5]; exact (Below.refl _ _).alloc (Nat.le_refl _) _
  have ox : own W5 w4.heap.size (bc U (.slice xa U.vot.length xc)) 24 := by rw [← h5]; exact own.new _ _ _
  have hb7 : Below w6.heap.size w6 (w6.alloc (.cells (bc U (.slice ya U.vot.length yc)) 24)) := (Below.refl _ _).alloc (Nat.le_refl _) _
  have oy : own (w6.alloc (.cells (bc U (.slice ya U.vot.length yc)) 24)) w6.heap.size (bc U (.slice ya U.vot.length yc)) 24 := own.new _ _ _
  have ox7 := (ox.same (hb6.block _ ox.lt)).same (hb7.block _ (Nat.lt_of_lt_of_le ox.lt hb6.size))
  exact ⟨boxB_of ox7, boxB_of oy, ox7, oy, hb6.trans (hb7.mono hb6.size), snSame_c (((hx.below h5b).below hb6).below hb7) (hy.below hb7)⟩
theorem up2_c {f : FuncId} {S : ByteArray} {er : Nat} (h : Calls Tryz.prog f #[.string S] wx (UpPost wx S.data.toList)) (hu : unpackS S.data.toList = (U, er)) : Calls Tryz.prog f #[.string S] wx fun e w' => ∃ va vc, e = .returned (.tuple #[.agg (bc U (.slice va U.vot.length vc)), .int .i64 (er : Int)]) ∧ Below wx.heap.size wx w' ∧ BAt w' (.slice va U.vot.length vc) U ∧ ∀ x, (Value.slice va U.vot.length vc).ownBlock = some x → wx.heap.size ≤ x := by
  refine h.mono ?_
  rintro e w' ⟨v, he, hb, hba, hn⟩
  rw [hu] at he hba
  obtain ⟨va, vc, rfl, -⟩ := hba.vot
  exact ⟨va, vc, he, hb, hba, hn⟩
/-- A base stored into a box that is older than its row. -/
theorem stored {w11 w12 : World} {X Y : Nat} {U2 : Bs} {x2 : Option Addr} {xc2 : Nat} {r0 r1 r2 r3 : Value} {cy : Array Value} (ox : own w12 X #[r0, r1, r2, r3] 24) (oy : own w12 Y cy 24) (hne : Y ≠ X) (hX : X < w11.heap.size) (hx : BAt w12 (.slice x2 U2.vot.length xc2) U2) (hn : ∀ x, (Value.slice x2 U2.vot.length xc2).ownBlock = some x → w11.heap.size ≤ x) :
    ∃ W13, Q4 w12 W13 X r0 r1 r2 r3 (.int .i64 U2.ix) (.int .i64 U2.tm) (.slice x2 U2.vot.length xc2) (.string (mk U2.data)) ∧ own W13 X (bc U2 (.slice x2 U2.vot.length xc2)) 24 ∧ own W13 Y cy 24 ∧ BAt W13 (.slice x2 U2.vot.length xc2) U2 ∧ Chg (fun x => x = X) w12 W13 := by
  obtain ⟨W13, e, q⟩ := q4_of ox (.int .i64 U2.ix) (.int .i64 U2.tm) (.slice x2 U2.vot.length xc2) (.string (mk U2.data))
  have hc := qst4_chg w12 X (.int .i64 U2.ix) (.int .i64 U2.tm) (.slice x2 U2.vot.length xc2) (.string (mk U2.data))
  have o2 := qst4_own ox (.int .i64 U2.ix) (.int .i64 U2.tm) (.slice x2 U2.vot.length xc2) (.string (mk U2.data))
  rw [e] at hc o2
  exact ⟨W13, q, o2, oy.chg hc hne, bAt_chg hx hc (fun x ex k => by have := hn x ex; have e2 : x = X := k; omega), hc⟩
/-- Behind the first of the second pair. -/
structure PhX (W1 W13 : World) (X Y : Nat) (U2 : Bs) (x2 : Option Addr) (xc2 : Nat) (cy : Array Value) : Prop where
  ox : own W13 X (bc U2 (.slice x2 U2.vot.length xc2)) 24
  oy : own W13 Y cy 24
  bx : BAt W13 (.slice x2 U2.vot.length xc2) U2
  be : Below W1.heap.size W1 W13
  ny : ∀ z, (Value.slice x2 U2.vot.length xc2).ownBlock = some z → z ≠ Y
theorem phase_x {W1 w8 w9 w11 w12 : World} {X Y : Nat} {U2 : Bs} {x2 : Option Addr} {xc2 : Nat} {r0 r1 r2 r3 : Value} {cy : Array Value} {V S2 : Value} (ox : own w8 X #[r0, r1, r2, r3] 24) (oy : own w8 Y cy 24) (hXY : X < Y) (hX : W1.heap.size ≤ X) (hbw : Below W1.heap.size W1 w8) (hb9 : Below w8.heap.size w8 w9) (hb11 : Below w9.heap.size w9 w11) (h9 : w9.heap.size < w11.heap.size) (hb12 : Below w11.heap.size w11 w12)
    (hx : BAt w12 (.slice x2 U2.vot.length xc2) U2) (hn : ∀ x, (Value.slice x2 U2.vot.length xc2).ownBlock = some x → w11.heap.size ≤ x) (hst : ∀ wz : World, wz.heap[w9.heap.size]? = w11.heap[w9.heap.size]? → (convert 33 9 V).run Tryz.prog wz = .ok S2 wz) :
    ∃ W13, Q4 w12 W13 X r0 r1 r2 r3 (.int .i64 U2.ix) (.int .i64 U2.tm) (.slice x2 U2.vot.length xc2) (.string (mk U2.data)) ∧ (convert 33 9 V).run Tryz.prog W13 = .ok S2 W13 ∧ Hid (PhX W1 W13 X Y U2 x2 xc2 cy) := by
  have lx := ox.lt
  have ly := oy.lt
  have s9 := hb9.size
  have s11 := hb11.size
  have s12 := hb12.size
  have h12 : Below w8.heap.size w8 w12 := (hb9.trans (hb11.mono s9)).trans (hb12.mono (Nat.le_trans s9 s11))
  obtain ⟨W13, q, o2, o3, h3, hc⟩ := stored (w11 := w11) (ox.same (h12.block _ lx)) (oy.same (h12.block _ ly)) (by omega) (by omega) hx hn
  have hbW : Below W1.heap.size W1 w12 := hbw.trans (h12.mono hbw.size)
  refine ⟨W13, q, hst W13 ?_, hid ⟨o2, o3, h3, hbW.trans (hc.below hbW.size (fun x e => by have e2 : x = X := e; omega)), fun z ez e => by have := hn z ez; omega⟩⟩
  rw [hc.block w9.heap.size (by omega) (fun e => by have e2 : w9.heap.size = X := e; omega), hb12.block _ h9]
theorem phase_y {W1 W13 w14 : World} {X Y : Nat} {U2 : Bs} {x2 y2 : Option Addr} {xc2 yc2 : Nat} {r0 r1 r2 r3 : Value} (h : PhX W1 W13 X Y U2 x2 xc2 #[r0, r1, r2, r3]) (hXY : X < Y) (hY : W1.heap.size ≤ Y) (hb14 : Below W13.heap.size W13 w14) (hy : BAt w14 (.slice y2 U2.vot.length yc2) U2) (hn : ∀ x, (Value.slice y2 U2.vot.length yc2).ownBlock = some x → W13.heap.size ≤ x) :
    ∃ W15, Q4 w14 W15 Y r0 r1 r2 r3 (.int .i64 U2.ix) (.int .i64 U2.tm) (.slice y2 U2.vot.length yc2) (.string (mk U2.data)) ∧ BoxB X U2 (.slice x2 U2.vot.length xc2) W15 ∧
      Hid (Calls Tryz.prog 14 #[.agg (bc U2 (.slice x2 U2.vot.length xc2)), .agg (bc U2 (.slice y2 U2.vot.length yc2))] W15 fun e w' => e = .returned (.bool true) ∧ Below W1.heap.size W1 w') := by
  have lx := h.ox.lt
  have ly := h.oy.lt
  obtain ⟨W15, q, o2, o3, h3, hc⟩ := stored (w11 := W13) (h.oy.same (hb14.block _ ly)) (h.ox.same (hb14.block _ lx)) (by omega) ly hy hn
  have hb14W : Below W1.heap.size W1 w14 := h.be.trans (hb14.mono h.be.size)
  have hb15 : Below W1.heap.size W1 W15 := hb14W.trans (hc.below hb14W.size (fun x e => by have e2 : x = Y := e; omega))
  refine ⟨W15, q, boxB_of o3, hid ((snSame_c (bAt_chg (h.bx.below hb14) hc (fun z ez e => h.ny z ez e)) h3).mono ?_)⟩
  rintro e w' ⟨he, hb⟩
  exact ⟨he, hb15.trans (hb.mono hb15.size)⟩
end
set_option maxHeartbeats 16000000 in
theorem snapReads_walk (W : World) {B0 : Nat} (s : ByteArray) (b : Bs) (vv : Value) (at_ tv : Int) (hg : Sn.Glob W B0) (hB0 : B0 ≤ W.heap.size) (ha : BArg W vv b) (hat : I64s at_) (hss : s.size ≤ maxLen) :
    Calls Tryz.prog 4 #[.string s, bval b vv, .int .i64 at_, .int .i64 tv] W fun e W' => e = .returned (.bool true) ∧ Below W.heap.size W W' := by
  obtain ⟨wa, wc, rfl, -⟩ := ha.vot
  dsimp only [bval]
  obtain ⟨W1, hW1⟩ : ∃ W1, W.alloc (.cells #[.int .i64 b.ix, .int .i64 b.tm, .slice wa b.vot.length wc, .string (mk b.data)] 24) = W1 := ⟨_, rfl⟩
  have b1 : Below W.heap.size W W1 := by rw [← hW1]; exact (Below.refl _ _).alloc (Nat.le_refl _) _
  have o1 : own W1 W.heap.size (bcells b (.slice wa b.vot.length wc)) 24 := by rw [← hW1]; exact own.new _ _ _
  have HX : Hid (∀ wx, Below W1.heap.size W1 wx → BoxB W.heap.size b (.slice wa b.vot.length wc) wx) := hid (fun wx hb => boxB_of (o1.same (hb.block _ o1.lt)))
  have HG : Hid (∀ wx, Below W1.heap.size W1 wx → Below W.heap.size W wx ∧ Sn.Glob wx B0 ∧ B0 ≤ wx.heap.size) := hid (fun wx hb => by
    have h2 := b1.trans (hb.mono b1.size)
    exact ⟨h2, hg.below h2 hB0, Nat.le_trans hB0 h2.size⟩)
  have HSh := hid (shown4_any W1 (HG.out W1 (Below.refl _ _)).2.1 (HG.out W1 (Below.refl _ _)).2.2)
  have HSm : Hid (∀ wx, Calls Tryz.prog 7 #[.agg #[.int .i64 b.ix, .int .i64 b.tm, .slice wa b.vot.length wc, .string (mk b.data)]] wx fun e w' => e = .returned (.bool (smallB b)) ∧ Below wx.heap.size wx w') := hid (fun wx => snSmall_any ⟨wa, wc, rfl⟩)
  have HAl : Hid (∀ wx cs, Below W1.heap.size W1 wx → Below W1.heap.size W1 (wx.alloc (.cells cs 24))) := hid (fun wx cs h => h.alloc h.size _)
  unfold maxLen at hss
  cases hsm : smallB b with
  | false =>
    rw [hsm] at HSm
    clear hg ha o1 b1 hsm
    as_aux_lemma =>
    go_enter Tryz.func4, Tryz.ntmps4
    go_wp2_with (first
      | (go_at_call 6; (with_reducible refine HSh.out.mono ?_); rintro e w2 ⟨rfl, hbw⟩; obtain ⟨q0, q1, q2, q3⟩ := HX.out _ hbw)
      | (go_at_call 7; (with_reducible refine (HSm.out _).mono ?_); rintro e w3 ⟨rfl, hb⟩; have hbw := hbw.trans (hb.mono hbw.size); clear hb))
    go_ret
    exact ⟨rfl, (HG.out _ hbw).1⟩
  | true =>
    rw [hsm] at HSm
    by_cases h5 : (5000 : Int) < (s.size : Int)
    · clear hg ha o1 b1 hsm
      as_aux_lemma =>
      go_enter Tryz.func4, Tryz.ntmps4
      go_wp2_with (first
        | (go_at_call 6; (with_reducible refine HSh.out.mono ?_); rintro e w2 ⟨rfl, hbw⟩; obtain ⟨q0, q1, q2, q3⟩ := HX.out _ hbw)
        | (go_at_call 7; (with_reducible refine (HSm.out _).mono ?_); rintro e w3 ⟨rfl, hb⟩; have hbw := hbw.trans (hb.mono hbw.size); clear hb))
      go_ret
      exact ⟨rfl, (HG.out _ hbw).1⟩
    · have hbd : b.vot.length ≤ 20 ∧ b.data.length ≤ 5000 := by
        unfold smallB at hsm
        simp only [Bool.and_eq_true, decide_eq_true_eq] at hsm
        exact hsm
      have hba : BAt W (.slice wa b.vot.length wc) b := ha.bat (by omega) (by omega)
      have HUp : Hid (∀ wx (S : ByteArray) U er, S.size ≤ 1000000 → unpackS S.data.toList = (U, er) → Below W1.heap.size W1 wx → Calls Tryz.prog 12 #[.string S] wx fun e w' => ∃ va vc, e = .returned (.tuple #[.agg (bc U (.slice va U.vot.length vc)), .int .i64 (er : Int)]) ∧ Below wx.heap.size wx w' ∧ BAt w' (.slice va U.vot.length vc) U ∧ ∀ x, (Value.slice va U.vot.length vc).ownBlock = some x → wx.heap.size ≤ x) := hid (fun wx S U er hS hu hb => up2_c (snUnpack_any S wx (by omega) (HG.out wx hb).2.1.steps (Nat.lt_of_lt_of_le (HG.out wx hb).2.1.hsteps (HG.out wx hb).2.2)) hu)
      have HUr : Hid (∀ wx (S : ByteArray) U er, S.size ≤ 1000000 → unpackS S.data.toList = (U, er) → Calls Tryz.prog 13 #[.string S] wx fun e w' => ∃ va vc, e = .returned (.tuple #[.agg (bc U (.slice va U.vot.length vc)), .int .i64 (er : Int)]) ∧ Below wx.heap.size wx w' ∧ BAt w' (.slice va U.vot.length vc) U ∧ ∀ x, (Value.slice va U.vot.length vc).ownBlock = some x → wx.heap.size ≤ x) := hid (fun wx S U er hS hu => up2_c (srUnpack_any S wx hS) hu)
      have HPr : Hid (∀ wx, Below W1.heap.size W1 wx → Calls Tryz.prog 9 #[.agg #[.int .i64 b.ix, .int .i64 b.tm, .slice wa b.vot.length wc, .string (mk b.data)]] wx fun e w' => e = .returned (.tuple #[.string (mk (packR b)), .int .i64 (packE b)]) ∧ Below wx.heap.size wx w') := hid (fun wx hb => srPack_any (hba.below (HG.out wx hb).1))
      obtain ⟨r, hu⟩ : ∃ r, unpackS s.data.toList = r := ⟨_, rfl⟩
      obtain ⟨U, er⟩ := r
      have HU1 := hid (fun wx hb => HUp.out wx s U er (by omega) hu hb)
      have HU2 := hid (fun wx => HUr.out wx s U er (by omega) hu)
      have er1 : ((er : Int) == (er : Int)) = true := beq_self_eq_true _
      have er2 : ((er : Int) != (er : Int)) = false := by rw [bne, er1]; rfl
      have HTr : Hid (∀ wx wy, Below W1.heap.size W1 wx → Below wx.heap.size wx wy → Below W1.heap.size W1 wy) := hid (fun wx wy h k => h.trans (k.mono h.size))
      cases hr : rightS b with
      | false =>
        have hpr : packR b = [] := by unfold packR; rw [if_neg (by rw [hr]; simp)]
        have hpe : packE b = 1 := by unfold packE; rw [if_neg (by rw [hr]; simp)]
        rw [hpr, hpe] at HPr
        clear hg ha o1 b1 hsm hba hbd hu hr hpr hpe HUp HUr
        generalize (er : Int) = ee at *
        as_aux_lemma =>
        go_enter Tryz.func4, Tryz.ntmps4
        go_wp2_with (first
          | (go_at_call 6; (with_reducible refine HSh.out.mono ?_); rintro e w2 ⟨rfl, hbw⟩; obtain ⟨b0, b1, b2, b3⟩ := HX.out _ hbw)
          | (go_at_call 7; (with_reducible refine (HSm.out _).mono ?_); rintro e w3 ⟨rfl, hb⟩; have hbw := hbw.trans (hb.mono hbw.size); clear hb)
          | (go_at_call 12; (with_reducible refine (HU1.out _ hbw).mono ?_); rintro e w4 ⟨xa, xc, rfl, hb4, hx4, -⟩; have hbw5 := HAl.out _ (bc U (.slice xa U.vot.length xc)) (HTr.out _ _ hbw hb4); clear hb4 hbw)
          | (go_at_call 13; (with_reducible refine (HU2.out _).mono ?_); rintro e w6 ⟨ya, yc, rfl, hb6, hy6, -⟩; obtain ⟨⟨p0, p1, p2, p3⟩, ⟨q0, q1, q2, q3⟩, -, -, hb7, hS⟩ := two_boxes hx4 rfl hb6 hy6; have HS := hid hS; have hbw7 := HTr.out _ _ hbw5 hb7; clear hS hb7 hbw5 hx4 hy6)
          | (go_at_call 14; (with_reducible refine HS.out.mono ?_); rintro e w8 ⟨rfl, hb8⟩; have hbw8 := HTr.out _ _ hbw7 hb8; obtain ⟨c0, c1, c2, c3⟩ := HX.out _ hbw8)
          | (go_at_call 9; (with_reducible refine (HPr.out _ hbw8).mono ?_); rintro e w9 ⟨rfl, hb9⟩; have hbw9 := HTr.out _ _ hbw8 hb9))
        go_ret
        exact ⟨rfl, (HG.out _ hbw9).1⟩
      | true =>
        have hpr : packR b = packS b := by unfold packR; rw [if_pos hr]
        have hpe : packE b = 0 := by unfold packE; rw [if_pos hr]
        rw [hpr, hpe] at HPr
        have hps := small_pack hr hsm
        have hpn := packS_ne b
        obtain ⟨n, hn⟩ : ∃ n, (packS b).length = n := ⟨_, rfl⟩
        have hn0 : 0 < n := by rw [← hn]; exact List.length_pos_iff.2 hpn
        obtain ⟨p, hp, hpl⟩ := pick4_at at_ hn0
        have HPi : Hid (∀ wx, Calls Tryz.prog 15 #[.int .i64 at_, .int .i64 (n : Int)] wx fun e w' => e = .returned (.int .i64 (p : Int)) ∧ wx = w') := hid (fun wx => by
          have := pick4_any at_ (n : Int) wx (by omega) (by omega) hat
          rw [hp] at this
          exact this)
        obtain ⟨cN, hcN⟩ : ∃ cN : UInt8, IntKind.u8.wrap tv = (cN.toNat : Int) := by
          have h0 : 0 ≤ IntKind.u8.wrap tv ∧ IntKind.u8.wrap tv < 256 := by rw [IntKind.wrap_u8']; omega
          exact ⟨UInt8.ofNat (IntKind.u8.wrap tv).toNat, by rw [UInt8.toNat_ofNat']; omega⟩
        obtain ⟨L2, hL2⟩ : ∃ L2, (packS b).set p cN = L2 := ⟨_, rfl⟩
        have hl2 : L2.length = n := by rw [← hL2, List.length_set, hn]
        obtain ⟨r2, hu2⟩ : ∃ r, unpackS L2 = r := ⟨_, rfl⟩
        obtain ⟨U2, e2⟩ := r2
        have HU3 := hid (fun wx hb => HUp.out wx (mk L2) U2 e2 (by rw [mk_size]; omega) (by rw [mk_data]; exact hu2) hb)
        have HU4 := hid (fun wx => HUr.out wx (mk L2) U2 e2 (by rw [mk_size]; omega) (by rw [mk_data]; exact hu2))
        have es1 : ((e2 : Int) == (e2 : Int)) = true := beq_self_eq_true _
        have HB9 : Hid (∀ w9 : World, ∃ cap w10 w11 q0, (convert 9 33 (.string (mk (packS b)))).run Tryz.prog w9 = .ok (.slice (some ⟨w9.heap.size, 0, none⟩) n cap) w10 ∧ w10.cell? ⟨w9.heap.size, p, none⟩ = some q0 ∧ w10.frozen? ⟨w9.heap.size, p, none⟩ = false ∧ w10.setCell ⟨w9.heap.size, p, none⟩ (.int .u8 (cN.toNat : Int)) = w11 ∧ Below w9.heap.size w9 w11 ∧ w9.heap.size < w11.heap.size ∧
            Hid (∀ wz : World, wz.heap[w9.heap.size]? = w11.heap[w9.heap.size]? → (convert 33 9 (.slice (some ⟨w9.heap.size, 0, none⟩) n cap)).run Tryz.prog wz = .ok (.string (mk L2)) wz)) := hid (fun w9 => by
          obtain ⟨cap, w10, hrun, hrow, hb10, _, hz10⟩ := run_bytes w9 (mk (packS b))
          rw [mk_data] at hrow
          rw [mk_size, hn] at hrun
          have hset := hrow.set p (by rw [hn]; exact hpl) cN _ rfl
          rw [hL2] at hset
          obtain ⟨h1, h2, h3⟩ := hrow
          obtain ⟨g1, g2, g3⟩ := hset
          refine ⟨cap, w10, _, _, hrun, h2 p (packS b)[p] (by simp [hn, hpl]), h3 p (by rw [hn]; exact hpl), rfl, hb10.setCell (p := ⟨w9.heap.size, p, none⟩) (Nat.le_refl _) _, by rw [setCell_size]; omega, hid (fun wz hz => ?_)⟩
          refine run_string (l := L2) hl2.symm (fun j d hj => ?_)
          have := g2 j d hj
          unfold World.cell? at this ⊢
          rw [hz]
          exact this)
        have hszn : ((mk (packS b)).size : Int) = (n : Int) := by rw [mk_size, hn]
        clear hg ha o1 b1 hsm hba hbd hu hr hpr hpe HUp HUr hps hpn hn hp hL2 hl2 hu2
        generalize (er : Int) = ee at *
        generalize (e2 : Int) = ef at *
        generalize mk (packS b) = pb at *
        generalize mk L2 = lb at *
        have hHB := HB9
        as_aux_lemma =>
        go_enter Tryz.func4, Tryz.ntmps4
        go_wp2_with (first
          | (go_at_call 6; (with_reducible refine HSh.out.mono ?_); rintro e w2 ⟨rfl, hbw⟩; obtain ⟨b0, b1, b2, b3⟩ := HX.out _ hbw)
          | (go_at_call 7; (with_reducible refine (HSm.out _).mono ?_); rintro e w3 ⟨rfl, hb⟩; have hbw := hbw.trans (hb.mono hbw.size); clear hb)
          | (go_at_call 12; (with_reducible refine (HU1.out _ hbw).mono ?_); rintro e w4 ⟨xa, xc, rfl, hb4, hx4, -⟩; have hbw4 := HTr.out _ _ hbw hb4; have hbw5 := HAl.out _ (bc U (.slice xa U.vot.length xc)) hbw4; clear hb4 hbw)
          | (go_at_call 13; (with_reducible refine (HU2.out _).mono ?_); rintro e w6 ⟨ya, yc, rfl, hb6, hy6, -⟩; obtain ⟨⟨p0, p1, p2, p3⟩, ⟨q0, q1, q2, q3⟩, ox, oy, hb7, hS⟩ := two_boxes hx4 rfl hb6 hy6; have HS := hid hS; have HOx := hid ox; have HOy := hid oy; have hbw7 := HTr.out _ _ hbw5 hb7; have HXY : Hid (w4.heap.size < w6.heap.size) := hid (Nat.lt_of_lt_of_le (own.new w4 (bc U (.slice xa U.vot.length xc)) 24).lt hb6.size); have HX4 := hid hbw4.size; clear hS hb7 hbw5 hx4 hy6 ox oy hb6 hbw4)
          | (go_at_call 14; (with_reducible refine HS.out.mono ?_); rintro e w8 ⟨rfl, hb8⟩; have hbw8 := HTr.out _ _ hbw7 hb8; have HOx8 := hid (HOx.out.same (hb8.block _ HOx.out.lt)); have HOy8 := hid (HOy.out.same (hb8.block _ HOy.out.lt)); obtain ⟨c0, c1, c2, c3⟩ := HX.out _ hbw8; clear p0 p1 p2 p3 q0 q1 q2 q3 HS HOx HOy hb8 hbw7)
          | (go_at_call 9; (with_reducible refine (HPr.out _ hbw8).mono ?_); rintro e w9 ⟨rfl, hb9⟩; obtain ⟨cap, w10, w11, z0, hcv, kc, kf, keq, hb11, hlt11, HSt⟩ := HB9.out w9; have hst11 := HSt.out w11 rfl; have HB11 := hid (HTr.out _ _ (HTr.out _ _ hbw8 hb9) hb11); clear c0 c1 c2 c3)
          | (go_at_call 15; (with_reducible refine (HPi.out _).mono ?_); rintro e wp ⟨rfl, rfl⟩)
          | (go_at_call 12; (with_reducible refine (HU3.out _ HB11.out).mono ?_); rintro e w12 ⟨xa2, xc2, rfl, hb12, hx12, hn12⟩; obtain ⟨W13, ⟨k0, k1, k2, k3, f0, f1, f2, f3, k4, m0, m1, m2, m3⟩, hst13, HPx⟩ := phase_x HOx8.out HOy8.out HXY.out HX4.out hbw8 hb9 hb11 hlt11 hb12 hx12 hn12 HSt.out; clear hb12 hx12 hn12)
          | (go_at_call 13; (with_reducible refine (HU4.out _).mono ?_); rintro e w14 ⟨ya2, yc2, rfl, hb14, hy14, hn14⟩; obtain ⟨W15, ⟨v0, v1, v2, v3, g0, g1, g2, g3, v4, y0, y1, y2, y3⟩, ⟨x0, x1, x2, x3⟩, HS2⟩ := phase_y HPx.out HXY.out (Nat.le_trans HX4.out (Nat.le_of_lt HXY.out)) hb14 hy14 hn14; clear hb14 hy14 hn14)
          | (go_at_call 14; (with_reducible refine HS2.out.mono ?_); rintro e w16 ⟨rfl, hb16⟩; have HB16 := hid hb16; clear hb16))
        go_ret
        exact ⟨rfl, (HG.out _ HB16.out).1⟩
end Go.Proofs.YtbccikefccdekaaGreatDoor

