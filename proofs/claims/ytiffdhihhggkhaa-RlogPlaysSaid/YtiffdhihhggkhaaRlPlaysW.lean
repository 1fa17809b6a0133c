/-
  LAYER 8 (rlog), the law RlogPlays: its walk.
-/
import Derived.Test.YtiffdhihhggkhaaRlActs
import Derived.Test.YtiffdhihhggkhaaRlRef9
import Derived.Deep.CutRange
namespace Go.Proofs.Ytiffdhihhggkhaa
open Go.RowKit
set_option linter.unusedVariables false
set_option maxRecDepth 100000

theorem nextE_mem : ∀ (l : List Me) (b : Int) (e : Me), e ∈ nextE b l → e ∈ l
  | [], b, e, h => by simp [nextE] at h
  | x :: r, b, e, h => by
    unfold nextE at h
    split at h
    · simp at h
    · split at h
      · rcases List.mem_cons.1 h with rfl | h
        · simp
        · exact List.mem_cons_of_mem _ (nextE_mem r _ e h)
      · exact List.mem_cons_of_mem _ (nextE_mem r _ e h)
/-- The log that the law begins with. -/
def play0 (b t first : Int) (l : List Pa) : Rl := newL (pickZ b 30) (pickZ t 9) [1, 2, 3] bB (entsE l (pickZ first 40))
theorem play0_b {W : World} (b t first : Int) {l : List Pa} (h : ∀ p ∈ l, PaIn W p) (hs : smallP l = true) : RlB (play0 b t first l) ∧ (play0 b t first l).last ≤ 100 := by
  have a := pickZ_range b 30 (by omega)
  have c := pickZ_range first 40 (by omega)
  obtain ⟨h1, h2⟩ := smallP_of hs
  have h3 := nextE_len (entsE l (pickZ first 40)) (pickZ b 30)
  rw [entsE_len] at h3
  refine ⟨⟨newL_ok _ _ _ _ _ a.1, by show pickZ b 30 ≤ _; omega, by show (nextE _ _).length ≤ _; omega, base_i64 _ _ (by omega) (by omega), vot3.1, vot3.2, by show bB.size ≤ _; decide, fun e he => (meIs_entsE h hs ⟨c.1, by omega⟩ e (nextE_mem _ _ e he)).1⟩, ?_⟩
  show pickZ b 30 + ((nextE (pickZ b 30) (entsE l (pickZ first 40))).length : Int) ≤ 100
  omega
/-- After k acts. -/
def PlAt (R : RlRep) (w : World) (r1 r2 : Nat) (k : Nat) (wr : World) : Prop := ∃ F1 F2 s, Two R w wr F1 F2 r1 r2 s s ∧ s.last ≤ 100 + 60 * (k : Int)
def PlRel (R : RlRep) (w : World) (r1 r2 n : Nat) (v : Value) (wr : World) : Prop := ∃ k : Nat, k ≤ n ∧ v = .int .i64 (k : Int) ∧ Hid (PlAt R w r1 r2 k wr)
set_option maxHeartbeats 16000000 in
theorem rlogPlays_main {R : RlRep} (HP : RlProg R) (b t first i most : Int) (v2 v4 : Value) (l : List Pa) (acts : List Ra) (w : World) (hbi : I64' b) (hti : I64' t) (hfi : I64' first) (hii : I64' i) (hmi : I64' most) (h2 : RAt pTy w v2 l) (hi2 : ∀ p ∈ l, PaIn w p) (hl2 : l.length ≤ maxLen) (h4 : RAt aTy w v4 acts) (hi4 : ∀ a ∈ acts, RaIn w a) (hs : smallP l = true) (hl4 : acts.length ≤ 30) :
    Calls Try.prog 3 #[.int .i64 b, .int .i64 t, v2, .int .i64 first, v4, .int .i64 i, .int .i64 most] w (ShownPost w) := by
  have HS := hid (shown_any HP w)
  have HSm : Hid (∀ wx, Below w.heap.size w wx → Calls Try.prog 10 #[v2] wx fun e w' => e = .returned (.bool true) ∧ wx = w') := hid (fun wx h => by have := small_any wx v2 l (h2.below h) hl2; rw [hs] at this; exact this)
  have HPf := hid (fun wx => pick_any first 40 wx (by omega) (by omega) hfi.1 hfi.2)
  have HPi := hid (fun wx => pick_any i 50 wx (by omega) (by omega) hii.1 hii.2)
  have hpf := pickZ_range first 40 (by omega)
  have hpi := pickZ_range i 50 (by omega)
  have hpb := pickZ_range b 30 (by omega)
  have HEs : Hid (∀ wx, Below w.heap.size w wx → Calls Try.prog 11 #[v2, .int .i64 (pickZ first 40)] wx (EsPost wx (entsE l (pickZ first 40)))) := hid (fun wx hb => entries_at h2 hi2 hs (pickZ first 40) (by omega) wx hb)
  have HBs := hid (fun wx => base_any b t wx hbi hti)
  obtain ⟨hB0, hla0⟩ := play0_b b t first hi2 hs
  have HMe := hid (meIs_entsE hi2 hs (i := pickZ first 40) (by omega))
  have hel : (entsE l (pickZ first 40)).length ≤ 60 := by rw [entsE_len]; exact (smallP_of hs).1
  obtain ⟨s0, hs0⟩ : ∃ s, play0 b t first l = s := ⟨_, rfl⟩
  obtain ⟨E, hE⟩ : ∃ E, entsE l (pickZ first 40) = E := ⟨_, rfl⟩
  have HS0 : Hid (newL (pickZ b 30) (pickZ t 9) [1, 2, 3] bB E = s0) := hid (by rw [← hE, ← hs0]; rfl)
  rw [hs0] at hB0 hla0
  rw [hE] at HEs HMe hel
  have HB0 := hid (And.intro hB0 hla0)
  have HEl := hid hel
  have HN1 : Hid (∀ wx g ev, RAt numTy wx (.slice (some ⟨g, 0, none⟩) 3 3) [1, 2, 3] → RAt enTy wx ev E → Calls Try.prog 13 #[.agg #[.int .i64 (pickZ b 30), .int .i64 (pickZ t 9), .slice (some ⟨g, 0, none⟩) 3 3, .string bB], ev] wx (NewPost R wx s0)) := hid (fun wx g ev hv he => by
    have := HP.new (pickZ b 30) (pickZ t 9) _ [1, 2, 3] bB ev E hv he (by rw [HS0.out]; exact HB0.out.1) (by have := HEl.out; omega) HMe.out
    rw [HS0.out] at this
    exact this)
  have HN2 : Hid (∀ wx g ev, RAt numTy wx (.slice (some ⟨g, 0, none⟩) 3 3) [1, 2, 3] → g < wx.heap.size → RAt enTy wx ev E → Calls Try.prog 15 #[.agg #[.int .i64 (pickZ b 30), .int .i64 (pickZ t 9), .slice (some ⟨g, 0, none⟩) 3 3, .string bB], ev] wx fun e w' => ∃ r F, e = .returned (.pointer (some ⟨r, 0, none⟩)) ∧ rfRep.Is w' F r s0 ∧ (∀ b, F b → wx.heap.size ≤ b ∨ b = g) ∧ Below wx.heap.size wx w') := hid (fun wx g ev hv hg he => by
    refine (rfNew_any (pickZ b 30) (pickZ t 9) _ [1, 2, 3] bB ev E hv (fun b e => by cases e; exact hg) he (by rw [HS0.out]; exact HB0.out.1) (by have := HEl.out; omega)).mono ?_
    rintro e w' ⟨r, F, rfl, h1, h2, h3⟩
    rw [HS0.out] at h1
    refine ⟨r, F, rfl, h1, fun b hb => ?_, h3⟩
    rcases h2 b hb with k | k
    · exact .inl k
    · cases k; exact .inr rfl)
  obtain ⟨aa, ac, rfl, hat⟩ := ra_at h4
  have HAt := hid hat
  have HIn := hid hi4
  have HII := hid (And.intro hii hmi)
  obtain ⟨ln, hln⟩ : ∃ k, acts.length = k := ⟨_, rfl⟩
  rw [hln]
  have HLn := hid hln
  have hlnI : (ln : Int) ≤ 30 := by omega
  have HLI := hid hlnI
  have hb00 : Below w.heap.size w w := Below.refl _ _
  clear hs0 hE hs h2 hi2 hl2 hat h4 hi4 hl4 hB0 hla0 hel hpf hpb hln hbi hti hfi hii hmi
  go_enter Try.func3, Try.ntmps3
  go_upto_region 10 with (first
    | (go_at_call 9; (with_reducible refine HS.out.mono ?_); rintro e w1 ⟨rfl, hb1⟩)
    | (go_at_call 10; (with_reducible refine (HSm.out _ hb1).mono ?_); rintro e w2 ⟨rfl, rfl⟩)
    | (go_at_call 12; (with_reducible refine (HPf.out _).mono ?_); rintro e w2 ⟨rfl, rfl⟩)
    | (go_at_call 11; (with_reducible refine (HEs.out _ hb1).mono ?_); rintro e w3 ⟨ga, gc, rfl, hm3⟩; have HB3 := hid (hb1.trans (hm3.below.mono hb1.size)); have HM3 := hid hm3.row.rAt; clear hm3)
    | (go_at_call 14; (with_reducible refine (HBs.out w3).mono ?_); rintro e w4 ⟨g4, rfl, hm4⟩; have HM4 := hid hm4; clear hm4)
    | (go_at_call 13; (with_reducible refine (HN1.out w4 g4 _ HM4.out.row.rAt (HM3.out.below HM4.out.below)).mono ?_); rintro e w5 hn5; have HN5 := hid hn5; obtain ⟨r1, F1, rfl, hi5, hf5, hb5⟩ := hn5; have HI5 := hid (And.intro hi5 (And.intro hf5 hb5)); clear hi5 hf5 hb5)
    | (go_at_call 14; (with_reducible refine (HBs.out w5).mono ?_); rintro e w6 ⟨g6, rfl, hm6⟩; have HM6 := hid hm6; have HR6 := hid (((HM3.out.below HM4.out.below).below HI5.out.2.2).below hm6.below); clear hm6)
    | (go_at_call 15; (with_reducible refine (HN2.out w6 g6 _ HM6.out.row.rAt (HM6.out.row.lt g6 rfl) HR6.out).mono ?_); rintro e w7 ⟨r2, F2, rfl, hi7, hf7, hb7⟩; have HI7 := hid (And.intro hi7 (And.intro hf7 hb7)); clear hi7 hf7 hb7))
  have hb5' := HB3.out.trans (HM4.out.below.mono HB3.out.size)
  have hT7 : Two R w w7 F1 F2 r1 r2 s0 s0 := by
    have z4 := hb5'.size
    have z5 := HI5.out.2.2.size
    have z6 := HM6.out.below.size
    have g5 : Lg R w w5 F1 r1 s0 := ⟨HI5.out.1, fun b e => by have := HI5.out.2.1 b e; omega, hb5'.trans (HI5.out.2.2.mono z4), HB0.out.1⟩
    have g7 := (g5.later HM6.out.below).later HI7.out.2.2
    have hg6 := HM6.out.new g6 rfl
    refine ⟨g7, ⟨HI7.out.1, fun b e => ?_, g7.below, HB0.out.1⟩, fun b e1 e2 => ?_⟩
    · rcases HI7.out.2.1 b e with k | k
      · omega
      · omega
    · have := R.lt HI5.out.1 b e1
      rcases HI7.out.2.1 b e2 with k | k
      · omega
      · omega
  have HStart : Hid (PlAt R w r1 r2 0 w7) := hid ⟨F1, F2, s0, hT7, by have := HB0.out.2; omega⟩
  clear hT7 hb5' HN1 HN2 HM3 HM4 HI5 HM6 HI7 HB3 HEs HBs HSm HPf HS HMe HEl HS0 HB0 HR6 HN5 hb1
  clear F1 F2 s0
  go_wp2
  go_loopw [20] (PlRel R w r1 r2 ln) (fun k _ => ln - (intOf k).toNat)
  case atStart => exact ⟨0, Nat.zero_le _, rfl, HStart⟩
  case round =>
    clear HStart
    obtain ⟨k, hk, rfl, hq⟩ := hrel
    obtain ⟨F1, F2, s, hT, hla⟩ := hq.out
    have HT := hid hT
    have HLa := hid hla
    by_cases hkn : k < ln
    · have hkI : (k : Int) < (ln : Int) := by omega
      obtain ⟨x, hx⟩ : ∃ x, acts[k]? = some x := ⟨_, List.getElem?_eq_getElem (by rw [HLn.out]; exact hkn)⟩
      obtain ⟨sb, so, rfl, hce⟩ := HAt.out k x hx
      obtain ⟨d0, d1, d2, d3, d4⟩ := hce wr hT.g.below
      have hin := HIn.out x (List.mem_of_getElem? hx)
      have hbW : Below wr.heap.size wr (wr.alloc (actO x.op x.ix x.tm x.fx x.pa x.pc x.L.length)) := (Below.refl _ _).alloc (Nat.le_refl _) _
      have ob := own.new wr #[.int .i64 x.op, .int .i64 x.ix, .int .i64 x.tm, .int .i64 x.fx, .slice x.pa x.L.length x.pc] 38
      have hTW := hT.later hbW
      have HBl := hid hTW.g.below
      have hsm := small_any (wr.alloc (actO x.op x.ix x.tm x.fx x.pa x.pc x.L.length)) _ x.L (hin.row.below hTW.g.below) hin.len
      have HKn : Hid (k + 1 ≤ ln) := hid hkn
      have HNF : Hid (¬ F1 wr.heap.size ∧ ¬ F2 wr.heap.size) := hid ⟨fun e => by have := R.lt hT.g.is _ e; omega, fun e => by have := rfRep.lt hT.m.is _ e; omega⟩
      by_cases hs : smallP x.L = true
      · rw [hs] at hsm
        have HSm := hid hsm
        have hdo := does_any HP (⟨hTW, hin.op, hin.ix, hin.tm, hin.fx, hin.row, hin.in_, hs, show s.last ≤ 100 + 60 * (k : Int) from hla, by omega, by have := HLI.out; omega⟩ : DoIn R w _ F1 F2 r1 r2 s x.op x.ix x.tm x.fx x.pa x.pc x.L (100 + 60 * (k : Int)))
        have HDo := hid hdo
        have HO := hid ob
        have HIx := hid hin.ix
        obtain ⟨xn, hxn⟩ : ∃ n, x.L.length = n := ⟨_, rfl⟩
        rw [hxn] at HSm HDo HO d4 HBl
        clear hT hla hx hce hin hbW ob hTW hs hsm hdo hq hxn HT
        go_upto_region 18 with (first
          | (go_at_call 10; (with_reducible refine HSm.out.mono ?_); rintro e w8 ⟨rfl, rfl⟩; obtain ⟨p0, p1, p2, p3, p4⟩ := act5 HO.out _ (Below.refl _ _))
          | (go_at_call 16; (with_reducible refine HDo.out.mono ?_); rintro e w9 ⟨rfl, G1, G2, s1, hT1, hla1, hch⟩))
        clear p0 p1 p2 p3 p4 d0 d1 d2 d3 d4
        obtain ⟨p0, p1, p2, p3, p4⟩ := act5 (HO.out.same (hch.block _ HO.out.lt (fun e => by
          rcases e with e | e
          · exact HNF.out.1 e
          · exact HNF.out.2 e))) _ (Below.refl _ _)
        have HAl := hid (alike_any HP hT1.g hT1.m x.ix HIx.out)
        have HT1 := hid hT1
        have HL1 := hid hla1
        clear hT1 hla1 hch
        go_wp2_with (go_at_call 17; (with_reducible refine HAl.out.mono ?_); rintro e w10 ⟨rfl, hb10⟩)
        go_roundw
        case rel => exact ⟨k + 1, HKn.out, by go_num, hid ⟨G1, G2, s1, HT1.out.later hb10, by have := HL1.out; push_cast; omega⟩⟩
        case measure => simp [intOf]; omega
      · have hs0 : smallP x.L = false := by simpa using hs
        rw [hs0] at hsm
        have HSm := hid hsm
        have HO := hid ob
        obtain ⟨xn, hxn⟩ : ∃ n, x.L.length = n := ⟨_, rfl⟩
        rw [hxn] at HSm HO d4 HBl
        clear hT hla hx hce hin hbW ob hTW hs hs0 hsm hq hxn HT
        obtain ⟨p0, p1, p2, p3, p4⟩ := act5 HO.out _ (Below.refl _ _)
        go_wp2_with (go_at_call 10; (with_reducible refine HSm.out.mono ?_); rintro e w8 ⟨rfl, rfl⟩)
        go_ret
        exact ⟨rfl, HBl.out⟩
    · have hkI : (ln : Int) ≤ (k : Int) := by omega
      have HBw := hid hT.g.below
      obtain ⟨la, hlad⟩ : ∃ q, s.last = q := ⟨_, rfl⟩
      obtain ⟨q, hqd⟩ : ∃ q, pickZ i 50 = q := ⟨_, rfl⟩
      obtain ⟨nv, hnv⟩ : ∃ q, newerL s i most = q := ⟨_, rfl⟩
      have HJ : Hid (I64' la ∧ I64' q) := hid ⟨by rw [← hlad]; exact last_i64 hT.g.b, by rw [← hqd]; exact base_i64 _ _ (by omega) (by omega)⟩
      have HAl : Hid (∀ j, I64' j → ∀ wx, Below wr.heap.size wr wx → Calls Try.prog 17 #[.pointer (some ⟨r1, 0, none⟩), .pointer (some ⟨r2, 0, none⟩), .int .i64 j] wx fun e w' => e = .returned (.bool true) ∧ Below wr.heap.size wr w') := hid (fun j hj wx hb => (alike_any HP (HT.out.later hb).g (HT.out.later hb).m j hj).mono fun e w' ⟨he, h⟩ => ⟨he, hb.trans (h.mono hb.size)⟩)
      have A1 := hid (HAl.out i HII.out.1)
      have A2 := hid (HAl.out la HJ.out.1)
      have A3 := hid (HAl.out q HJ.out.2)
      have B1 : Hid (∀ wx, Below wr.heap.size wr wx → Calls Try.prog 19 #[.pointer (some ⟨r1, 0, none⟩), .int .i64 i, .int .i64 most] wx fun e w' => ∃ v, e = .returned v ∧ Hid (RAt enTy w' v (sliceL s i most)) ∧ Below wr.heap.size wr w') := hid (fun wx hb => by
        refine (HP.slice i most (HT.out.later hb).g.is HT.out.g.b HII.out.1 HII.out.2).mono ?_
        rintro e w' ⟨vv, rfl, hm⟩
        exact ⟨vv, rfl, hid hm.row.rAt, hb.trans (hm.below.mono hb.size)⟩)
      have B2 : Hid (∀ wx v, RAt enTy wx v (sliceL s i most) → Below wr.heap.size wr wx → Calls Try.prog 20 #[.pointer (some ⟨r2, 0, none⟩), .int .i64 i, .int .i64 most] wx fun e w' => ∃ u, e = .returned u ∧ Hid (RAt enTy w' u (sliceL s i most) ∧ RAt enTy w' v (sliceL s i most)) ∧ Below wr.heap.size wr w') := hid (fun wx v hv hb => by
        refine (rfSlice_any i most (HT.out.later hb).m.is HT.out.m.b HII.out.1 HII.out.2).mono ?_
        rintro e w' ⟨vv, rfl, hm⟩
        exact ⟨vv, rfl, hid ⟨hm.row.rAt, hv.below hm.below⟩, hb.trans (hm.below.mono hb.size)⟩)
      have B3 : Hid (∀ wx u v, RAt enTy wx u (sliceL s i most) ∧ RAt enTy wx v (sliceL s i most) → Below wr.heap.size wr wx → Calls Try.prog 18 #[v, u] wx fun e w' => e = .returned (.bool true) ∧ Below wr.heap.size wr w') := hid (fun wx u v hv hb => by
        refine (same_same hv.2 hv.1 (by have := sliceL_len s i most; have := HT.out.g.b.len; unfold maxLen; omega)).mono ?_
        rintro e w' ⟨rfl, h⟩
        exact ⟨rfl, hb.trans (h.mono hb.size)⟩)
      have B4 : Hid (∀ wx, Below wr.heap.size wr wx → Calls Try.prog 21 #[.pointer (some ⟨r1, 0, none⟩), .int .i64 i, .int .i64 most] wx fun e w' => e = .returned (.bool nv) ∧ Below wr.heap.size wr w') := hid (fun wx hb => by
        refine (HP.newer i most (HT.out.later hb).g.is HT.out.g.b HII.out.1 HII.out.2).mono ?_
        rintro e w' ⟨rfl, h⟩
        exact ⟨by rw [hnv], hb.trans (h.mono hb.size)⟩)
      have B5 : Hid (∀ wx, Below wr.heap.size wr wx → Calls Try.prog 22 #[.pointer (some ⟨r2, 0, none⟩), .int .i64 i, .int .i64 most] wx fun e w' => e = .returned (.bool nv) ∧ Below wr.heap.size wr w') := hid (fun wx hb => by
        refine (rfNewer_any i most (HT.out.later hb).m.is HT.out.m.b HII.out.1 HII.out.2).mono ?_
        rintro e w' ⟨rfl, h⟩
        exact ⟨by rw [hnv], hb.trans (h.mono hb.size)⟩)
      have B6 : Hid (∀ wx, Below wr.heap.size wr wx → Calls Try.prog 23 #[.pointer (some ⟨r2, 0, none⟩)] wx fun e w' => e = .returned (.int .i64 la) ∧ Below wr.heap.size wr w') := hid (fun wx hb => by
        refine (rfLast_any (HT.out.later hb).m.is HT.out.m.b).mono ?_
        rintro e w' ⟨rfl, h⟩
        exact ⟨by rw [hlad], hb.trans (h.mono hb.size)⟩)
      rw [hqd] at HPi
      have q1 : (nv == nv) = true := beq_self_eq_true _
      have hb : Below wr.heap.size wr wr := Below.refl _ _
      clear hT hla hq hlad hqd hnv HAl HT HLa HJ HII hpi
      clear HP
      go_wp2_with (first
          | (go_at_call 17; (with_reducible refine (A1.out _ hb).mono ?_); rintro e w8 ⟨rfl, hb⟩)
          | (go_at_call 17; (with_reducible refine (A2.out _ hb).mono ?_); rintro e w8 ⟨rfl, hb⟩)
          | (go_at_call 17; (with_reducible refine (A3.out _ hb).mono ?_); rintro e w8 ⟨rfl, hb⟩)
          | (go_at_call 19; (with_reducible refine (B1.out _ hb).mono ?_); rintro e w9 ⟨sv, rfl, hs9, hb⟩)
          | (go_at_call 20; (with_reducible refine (B2.out _ _ hs9.out hb).mono ?_); rintro e w10 ⟨tv, rfl, hs10, hb⟩)
          | (go_at_call 18; (with_reducible refine (B3.out _ _ _ hs10.out hb).mono ?_); rintro e w11 ⟨rfl, hb⟩)
          | (go_at_call 21; (with_reducible refine (B4.out _ hb).mono ?_); rintro e w12 ⟨rfl, hb⟩)
          | (go_at_call 22; (with_reducible refine (B5.out _ hb).mono ?_); rintro e w13 ⟨rfl, hb⟩)
          | (go_at_call 23; (with_reducible refine (B6.out _ hb).mono ?_); rintro e w14 ⟨rfl, hb⟩)
          | (go_at_call 12; (with_reducible refine (HPi.out _).mono ?_); rintro e w15 ⟨rfl, rfl⟩))
      all_goals
        go_ret
        exact ⟨by first | rfl | simp, HBw.out.trans (hb.mono HBw.out.size)⟩
set_option maxHeartbeats 4000000 in
theorem rlogPlays_walk {R : RlRep} (HP : RlProg R) (b t first i most : Int) (v2 v4 : Value) (l : List Pa) (acts : List Ra) (w : World) (hbi : I64' b) (hti : I64' t) (hfi : I64' first) (hii : I64' i) (hmi : I64' most) (h2 : RAt pTy w v2 l) (hi2 : ∀ p ∈ l, PaIn w p) (hl2 : l.length ≤ maxLen) (h4 : RAt aTy w v4 acts) (hi4 : ∀ a ∈ acts, RaIn w a) :
    Calls Try.prog 3 #[.int .i64 b, .int .i64 t, v2, .int .i64 first, v4, .int .i64 i, .int .i64 most] w (ShownPost w) := by
  by_cases hs : smallP l = true ∧ acts.length ≤ 30
  · exact rlogPlays_main HP b t first i most v2 v4 l acts w hbi hti hfi hii hmi h2 hi2 hl2 h4 hi4 hs.1 hs.2
  have HS := hid (shown_any HP w)
  have HSm0 : Hid (∀ wx, Below w.heap.size w wx → Calls Try.prog 10 #[v2] wx fun e w' => e = .returned (.bool (smallP l)) ∧ wx = w') := hid (fun wx h => small_any wx v2 l (h2.below h) hl2)
  obtain ⟨s0, hs0⟩ : ∃ s, smallP l = s := ⟨_, rfl⟩
  rw [hs0] at HSm0 hs
  obtain ⟨aa, ac, rfl, -⟩ := ra_at h4
  obtain ⟨ln, hln⟩ : ∃ k, acts.length = k := ⟨_, rfl⟩
  rw [hln] at hs ⊢
  clear HP hs0 h4 hi4 h2 hi2 hln
  cases s0 with
  | false =>
    clear hs
    go_enter Try.func3, Try.ntmps3
    go_wp2_with (first | (go_at_call 9; (with_reducible refine HS.out.mono ?_); rintro e w1 ⟨rfl, hb1⟩) | (go_at_call 10; (with_reducible refine (HSm0.out _ hb1).mono ?_); rintro e w2 ⟨rfl, rfl⟩))
    go_ret
    exact ⟨rfl, hb1⟩
  | true =>
    have hlnI : (30 : Int) < (ln : Int) := by
      have : ¬ ln ≤ 30 := fun h => hs ⟨rfl, h⟩
      omega
    clear hs
    go_enter Try.func3, Try.ntmps3
    go_wp2_with (first | (go_at_call 9; (with_reducible refine HS.out.mono ?_); rintro e w1 ⟨rfl, hb1⟩) | (go_at_call 10; (with_reducible refine (HSm0.out _ hb1).mono ?_); rintro e w2 ⟨rfl, rfl⟩))
    go_ret
    exact ⟨rfl, hb1⟩
end Go.Proofs.Ytiffdhihhggkhaa
