/-
  LAYER 8 (rlog), the law RlogAdds: its walk. (Written by wip/tools/gen8_laws.py.)
-/
import Derived.Test.YtiffdhihhggkhaaRlAdd0
import Derived.Deep.RegionHeld3
import Derived.BigQuiet
import Derived.Deep.DeepCutAuto
import Derived.Deep.CutRange
namespace Go.Proofs.Ytiffdhihhggkhaa
open Go.RowKit
set_option linter.unusedVariables false
set_option maxRecDepth 100000

def AdRel (R : RlRep) (w : World) (r1 : Nat) (l : List Pa) (xa ga : Nat) (b : Int) (u v : Value) (wr : World) : Prop := ∃ (k : Nat) (a' : Option Addr) (cap' : Nat) (F : Nat → Prop), k ≤ l.length ∧ u = .slice a' k cap' ∧ v = .int .i64 (k : Int) ∧ Hid (AdSt R w wr F r1 (logOf b 1 (l.take k)) (.slice a' k cap') (entsE (l.take k) (pickZ b 30 + 1)) xa ga b)
def AlRel (wL : World) (bi : Int) (E : List Me) (u v : Value) (wr : World) : Prop := ∃ (j n : Nat) (a : Option Addr) (cap : Nat), j ≤ E.length + 7 ∧ u = .slice a n cap ∧ v = .int .i64 (bi + 1 + (j : Int)) ∧ Hid (RMid enTy wL wr (.slice a n cap) (E.take j) ∧ n = (E.take j).length)
set_option maxHeartbeats 16000000 in
theorem rlogAdds_main {R : RlRep} (HP : RlProg R) (b c : Int) (v1 : Value) (l : List Pa) (w : World) (hbi : I64' b) (hci : I64' c) (h1 : RAt pTy w v1 l) (hi1 : ∀ p ∈ l, PaIn w p) (hl1 : l.length ≤ maxLen) (hs1 : smallP l = true) :
    Calls Try.prog 7 #[.int .i64 b, v1, .int .i64 c] w (ShownPost w) := by
  have HS := hid (shown_any HP w)
  have HSm1 : Hid (∀ wx, Below w.heap.size w wx → Calls Try.prog 10 #[v1] wx fun e w' => e = .returned (.bool true) ∧ wx = w') := hid (fun wx h => by have := small_any wx v1 l (h1.below h) hl1; rw [hs1] at this; exact this)
  have HBs1 := hid (fun wx => base_any b 1 wx hbi ⟨by decide, by decide⟩)
  have pb := pickZ_range b 30 (by omega)
  have pc := pickZ_range c 7 (by omega)
  have HN1 : Hid (∀ wx g, RAt numTy wx (.slice (some ⟨g, 0, none⟩) 3 3) [1, 2, 3] → Calls Try.prog 13 #[.agg #[.int .i64 (pickZ b 30), .int .i64 (pickZ 1 9), .slice (some ⟨g, 0, none⟩) 3 3, .string bB], .slice none 0 0] wx (NewPost R wx (logOf b 1 []))) := hid (fun wx g hv => new_at HP (W := w) (l := []) (fun p hp => by simp at hp) rfl b 1 g (.slice none 0 0) hv (rAt_nil wx))
  have hls := (smallP_of hs1)
  have HB : ∀ k, RlB (logOf b 1 (l.take k)) := fun k => logOf_b b 1 (W := w) (fun p hp => hi1 p (List.mem_of_mem_take hp)) (smallP_take hs1 k)
  have HPk := hid (fun wx => pick_any c 7 wx (by omega) (by omega) hci.1 hci.2)
  obtain ⟨va, vcap, rfl, hat⟩ := pa_at h1
  have HA : Hid (∀ wx, Below w.heap.size w wx → ∀ (k : Nat) x, l[k]? = some x → ∃ sb so, va = some ⟨sb, so, none⟩ ∧ wx.cell? ⟨sb, so + k * 4, none⟩ = some (.int .i64 x.term) ∧ wx.cell? ⟨sb, so + k * 4 + 1, none⟩ = some (.int .i64 x.kind) ∧ wx.cell? ⟨sb, so + k * 4 + 2, none⟩ = some (.string x.dt) ∧ wx.cell? ⟨sb, so + k * 4 + 3, none⟩ = some (.slice x.va x.V.length x.vc)) := hid (fun wx hb k x hk => by
    obtain ⟨sb, so, e, hlt, d0, d1, d2, d3⟩ := hat k x hk
    exact ⟨sb, so, e, (hb.cell (p := ⟨sb, so + k * 4, none⟩) hlt).trans d0, (hb.cell (p := ⟨sb, so + k * 4 + 1, none⟩) hlt).trans d1, (hb.cell (p := ⟨sb, so + k * 4 + 2, none⟩) hlt).trans d2, (hb.cell (p := ⟨sb, so + k * 4 + 3, none⟩) hlt).trans d3⟩)
  have HEnt : Hid (∀ wx, Below w.heap.size w wx → ∀ (k : Nat) x (i : Int), l[k]? = some x → Calls Try.prog 32 #[.agg #[.int .i64 x.term, .int .i64 x.kind, .string x.dt, .slice x.va x.V.length x.vc], .int .i64 i] wx (EntPost wx (entE x i))) := hid (fun wx hb k x i hk => entry_any x i wx ((hi1 x (List.mem_of_getElem? hk)).below hb) (by have := (hls.2 x (List.mem_of_getElem? hk)).2; omega))
  have HAdd : Hid (∀ (k : Nat) p x, l[k]? = some p → entE p (pickZ b 30 + 1 + k) = x → ∀ wx F r, Lg R w wx F r (logOf b 1 (l.take k)) → Calls Try.prog 33 #[.pointer (some ⟨r, 0, none⟩), .int .i64 x.term, .int .i64 x.kind, .string x.dt] wx (MtPost R w wx F r (.agg #[.int .i64 x.idx, .int .i64 x.term, .int .i64 x.kind, .string x.dt]) (logOf b 1 (l.take (k + 1))))) := hid (fun k p x hk hx wx F r h => by
    obtain ⟨e1, e2⟩ := add_next b hk
    rw [hx] at e1 e2
    have hm := meB_entE (hi1 p (List.mem_of_getElem? hk)) (hls.2 p (List.mem_of_getElem? hk)) (pickZ b 30 + 1 + k)
    rw [hx] at hm
    have := HP.add x.term x.kind x.dt h.is h.b hm.term hm.kind hm.dt (by show (entsE _ _).length < 5000; rw [entsE_len, List.length_take]; omega)
    rw [e1, e2] at this
    exact mt_of h (HB (k + 1)) this)
  have HLa : Hid (∀ (k : Nat), k ≤ l.length → ∀ wx F r, Lg R w wx F r (logOf b 1 (l.take k)) → Calls Try.prog 24 #[.pointer (some ⟨r, 0, none⟩)] wx fun e w' => e = .returned (.int .i64 (pickZ b 30 + k)) ∧ Below wx.heap.size wx w') := hid (fun k hk wx F r h => by
    have := HP.last h.is h.b
    rw [logOf_last, List.length_take, Nat.min_eq_left hk] at this
    exact this)
  have HSl : Hid (∀ (fr most : Int) (W : List Me), I64' fr → I64' most → sliceL (logOf b 1 l) fr most = W → ∀ wx F r, Lg R w wx F r (logOf b 1 l) → Calls Try.prog 19 #[.pointer (some ⟨r, 0, none⟩), .int .i64 fr, .int .i64 most] wx fun e w' => ∃ a c, e = .returned (.slice a W.length c) ∧ RMid enTy wx w' (.slice a W.length c) W) := hid (fun fr most W h1 h2 hW wx F r h => by
    have := HP.slice fr most h.is h.b h1 h2
    rw [hW] at this
    refine this.mono fun e w' ⟨vv, he, hm⟩ => ?_
    obtain ⟨a, c, rfl, _⟩ := hm.row.slice
    exact ⟨a, c, he, hm⟩)
  have HLen := hid hls.1
  have HPB := hid pb
  have HPC := hid pc
  have hl60 := hls.1
  clear HP hbi hci h1 hi1 hl1 hs1 hls hat HB pb pc
  go_enter Try.func7, Try.ntmps7
  go_upto_region 11 with (first
      | (go_at_call 9; (with_reducible refine HS.out.mono ?_); rintro e w1 ⟨rfl, hb1⟩)
      | (go_at_call 10; (with_reducible refine (HSm1.out _ hb1).mono ?_); rintro e w2 ⟨rfl, rfl⟩)
      | (go_at_call 14; (with_reducible refine (HBs1.out _).mono ?_); rintro e w3 ⟨ga, rfl, hm⟩; have HX1 := hid (bx_of (b := b) (t := 1) hm); have hb3 := hb1.trans (hm.below.mono hb1.size); have HB4 := hid (hb3.alloc hb3.size (.cells #[.int .i64 (pickZ b 30), .int .i64 (pickZ 1 9), .slice (some ⟨ga, 0, none⟩) 3 3, .string bB] 33)); obtain ⟨k0, k1, k2, k3, -⟩ := bx_s HX1.out (Below.refl _ _); have C1 := hid (HN1.out _ ga HX1.out.row); clear hm hb3)
      | (go_at_call 13; (with_reducible refine C1.out.mono ?_); rintro e w4 ⟨r1, F1, rfl, hi, hn, hbb⟩; have HST := hid (show AdSt R w w4 F1 r1 (logOf b 1 (l.take 0)) (.slice none 0 0) (entsE (l.take 0) (pickZ b 30 + 1)) w3.heap.size ga b from ⟨lg_made HB4.out (Below.refl _ _) hi hn hbb (logOf_b b 1 (W := w) (fun p hp => by simp at hp) rfl), HX1.out.below hbb, ⟨fun k => by have := hn _ k; have := HX1.out.box.lt; omega, fun k => by have := hn _ k; have := HX1.out.glt; omega⟩, rOwn_nil _, fun k e => by simp [Value.ownBlock] at e⟩); clear hi hn hbb))
  generalize w3.heap.size = xa at *
  clear HX1 HB4 HBs1 HSm1 HS hb1 HN1 C1 k0 k1 k2 k3
  go_loopw [11, 12] (AdRel R w r1 l xa ga b) (fun _ i _ => l.length - (intOf i).toNat)
  case atStart => exact ⟨0, none, 0, F1, Nat.zero_le _, rfl, rfl, HST.out⟩
  case round =>
    clear HST
    obtain ⟨k, a', cap', F, hk, rfl, rfl, hst⟩ := hrel
    by_cases hkn : k < l.length
    · have hkI : (k : Int) < (l.length : Int) := by omega
      have hwb := wrap_b b
      have hwk : IntKind.i64.wrap (pickZ b 30 + 1 + (k : Int)) = pickZ b 30 + 1 + k := by have := HPB.out; rw [IntKind.wrap_i64]; omega
      obtain ⟨p, hp⟩ : ∃ p, l[k]? = some p := ⟨_, List.getElem?_eq_getElem hkn⟩
      obtain ⟨x, hx⟩ : ∃ x, entE p (pickZ b 30 + 1 + k) = x := ⟨_, rfl⟩
      obtain ⟨sb, so, rfl, -⟩ := HA.out _ hst.out.lg.below k p hp
      have HC : Hid (∀ wx, Below wr.heap.size wr wx → Calls Try.prog 32 #[.agg #[.int .i64 p.term, .int .i64 p.kind, .string p.dt, .slice p.va p.V.length p.vc], .int .i64 (pickZ b 30 + 1 + k)] wx fun e w' => e = .returned (.agg #[.int .i64 x.idx, .int .i64 x.term, .int .i64 x.kind, .string x.dt]) ∧ Below wx.heap.size wx w') := hid (fun wx h => by have := HEnt.out wx (hst.out.lg.below.trans (h.mono hst.out.lg.below.size)) k p (pickZ b 30 + 1 + k) hp; rw [hx] at this; exact this)
      have HAddk := hid (HAdd.out k p x hp hx)
      have hxi : x.idx = pickZ b 30 + ((k + 1 : Nat) : Int) := by rw [← hx]; show pickZ b 30 + 1 + (k : Int) = _; push_cast; omega
      have HLak := hid (HLa.out (k + 1) hkn)
      rw [← hxi] at HLak
      have HK : Hid (∀ wx, Below wr.heap.size wr wx → wx.cell? ⟨sb, so + k * 4, none⟩ = some (.int .i64 p.term) ∧ wx.cell? ⟨sb, so + k * 4 + 1, none⟩ = some (.int .i64 p.kind) ∧ wx.cell? ⟨sb, so + k * 4 + 2, none⟩ = some (.string p.dt) ∧ wx.cell? ⟨sb, so + k * 4 + 3, none⟩ = some (.slice p.va p.V.length p.vc) ∧ wx.cell? ⟨xa, 0, none⟩ = some (.int .i64 (pickZ b 30)) ∧ Below wr.heap.size wr wx) := hid (fun wx h => by
        obtain ⟨sb', so', e, c0, c1, c2, c3⟩ := HA.out _ (hst.out.lg.below.trans (h.mono hst.out.lg.below.size)) k p hp
        cases e
        exact ⟨c0, c1, c2, c3, ((hst.out.bx.below h).box.cell 0).trans rfl, h⟩)
      have hsn : entsE (l.take (k + 1)) (pickZ b 30 + 1) = entsE (l.take k) (pickZ b 30 + 1) ++ [x] := by
        rw [List.take_add_one, hp, Option.toList, entsE_snoc, List.length_take, Nat.min_eq_left (by omega), hx]
      have hEl : (entsE (l.take k) (pickZ b 30 + 1)).length = k := by rw [entsE_len, List.length_take]; omega
      have HSN := hid (And.intro hsn hEl)
      clear hsn hEl hp hx hxi
      have hbd : Below wr.heap.size wr wr.drew := (Below.refl _ _).drew
      have hbz : Below wr.heap.size wr (wr.alloc (.cells #[.int .i64 0, .int .i64 0, .int .i64 0, .string ⟨#[]⟩] 49)).drew := ((Below.refl _ _).alloc (Nat.le_refl _) _).drew
      have HFA : Hid (∀ w5, Below wr.heap.size wr w5 → Hid (AdSt R w (w5.alloc (.cells #[.int .i64 x.idx, .int .i64 x.term, .int .i64 x.kind, .string x.dt] 49)) F r1 (logOf b 1 (l.take k)) (.slice a' k cap') (entsE (l.take k) (pickZ b 30 + 1)) xa ga b ∧ Beside (w5.alloc (.cells #[.int .i64 x.idx, .int .i64 x.term, .int .i64 x.kind, .string x.dt] 49)) F (.slice a' k cap') w5.heap.size #[.int .i64 x.idx, .int .i64 x.term, .int .i64 x.kind, .string x.dt])) := hid (fun w5 h => hid ⟨hst.out.later (h.alloc h.size _), own.new w5 _ _, fun e => by have := R.lt hst.out.lg.is _ e; have := h.size; omega, fun e => by have := hst.out.row.lt _ e; have := h.size; omega⟩)
      have HFB : Hid (∀ w5, Below (wr.alloc (.cells #[.int .i64 0, .int .i64 0, .int .i64 0, .string ⟨#[]⟩] 49)).drew.heap.size (wr.alloc (.cells #[.int .i64 0, .int .i64 0, .int .i64 0, .string ⟨#[]⟩] 49)).drew w5 → Box4 w5 wr.heap.size (.int .i64 0) (.int .i64 0) (.int .i64 0) (.string ⟨#[]⟩) (.int .i64 x.idx) (.int .i64 x.term) (.int .i64 x.kind) (.string x.dt) ∧ Hid (AdSt R w (st4 w5 wr.heap.size (.int .i64 x.idx) (.int .i64 x.term) (.int .i64 x.kind) (.string x.dt)) F r1 (logOf b 1 (l.take k)) (.slice a' k cap') (entsE (l.take k) (pickZ b 30 + 1)) xa ga b ∧ Beside (st4 w5 wr.heap.size (.int .i64 x.idx) (.int .i64 x.term) (.int .i64 x.kind) (.string x.dt)) F (.slice a' k cap') wr.heap.size #[.int .i64 x.idx, .int .i64 x.term, .int .i64 x.kind, .string x.dt])) := hid (fun w5 h => by
        have ho : own (wr.alloc (.cells #[.int .i64 0, .int .i64 0, .int .i64 0, .string ⟨#[]⟩] 49)).drew wr.heap.size #[.int .i64 0, .int .i64 0, .int .i64 0, .string ⟨#[]⟩] 49 := own.new wr _ _
        have ho5 := ho.same (h.block _ ho.lt)
        have hb5 : Below wr.heap.size wr w5 := hbz.trans (h.mono hbz.size)
        exact ⟨box4_of ho5 _ _ _ _, hid ⟨hst.out.later (st4_below hb5 (Nat.le_refl _) _ _ _ _), st4_own ho5 _ _ _ _, fun e => by have := R.lt hst.out.lg.is _ e; omega, fun e => by have := hst.out.row.lt _ e; omega⟩⟩)
      have KD := hid (HK.out _ hbd)
      have KZ := hid (HK.out _ hbz)
      go_upto_region 13 with (fail)
      go_cut [13] (fun u wx => ∃ eb, u = .pointer (some ⟨eb, 0, none⟩) ∧ Hid (AdSt R w (wx) F r1 (logOf b 1 (l.take k)) (.slice a' k cap') (entsE (l.take k) (pickZ b 30 + 1)) xa ga b ∧ Beside wx F (.slice a' k cap') eb #[.int .i64 x.idx, .int .i64 x.term, .int .i64 x.kind, .string x.dt]))
      case first =>
        go_region_held3 (fun wx => wx.cell? ⟨sb, so + k * 4, none⟩ = some (.int .i64 p.term) ∧ wx.cell? ⟨sb, so + k * 4 + 1, none⟩ = some (.int .i64 p.kind) ∧ wx.cell? ⟨sb, so + k * 4 + 2, none⟩ = some (.string p.dt) ∧ wx.cell? ⟨sb, so + k * 4 + 3, none⟩ = some (.slice p.va p.V.length p.vc) ∧ wx.cell? ⟨xa, 0, none⟩ = some (.int .i64 (pickZ b 30)) ∧ Below wr.heap.size wr wx)
          (first | (with_reducible exact KD.out) | (with_reducible exact KZ.out) | (with_reducible exact HK.out _ hbk) | (with_reducible exact HK.out _ (Below.alloc hbk (Below.size hbk) _)) | (with_reducible exact HK.out _ (st4_below hbk (Nat.le_refl _) _ _ _ _)) | (with_reducible assumption))
          (first
            | (go_at_call 32; (with_reducible refine (HC.out _ (And.right (And.right (And.right (And.right (And.right (by assumption))))))).mono ?_); rintro e w5 ⟨rfl, hb5⟩; have hbk : Below wr.heap.size wr w5 := Below.trans (And.right (And.right (And.right (And.right (And.right (by assumption)))))) (hb5.mono (Below.size (And.right (And.right (And.right (And.right (And.right (by assumption)))))))); have HA5 := HFA.out w5 hbk; (first | (have hqz : Below (wr.alloc (.cells #[.int .i64 0, .int .i64 0, .int .i64 0, .string ⟨#[]⟩] 49)).drew.heap.size (wr.alloc (.cells #[.int .i64 0, .int .i64 0, .int .i64 0, .string ⟨#[]⟩] 49)).drew w5 := (by with_reducible assumption); obtain ⟨⟨z0, z1, z2, z3, fz0, fz1, fz2, fz3, y0, y1, y2, y3⟩, HB5⟩ := HFB.out _ hqz) | skip)))
        all_goals
          go_wp2
          go_meet
          first
            | exact ⟨_, rfl, HA5⟩
            | exact ⟨_, rfl, HB5⟩
      case rest =>
      obtain ⟨eb, rfl, hq⟩ := hcut
      generalize wc = wG at *
      clear KD KZ HK HC HFA HFB hbd hbz hst
      obtain ⟨ao, c5, w5, hrun, hst5, hbs5⟩ := hq.out.1.push x #[.int .i64 x.idx, .int .i64 x.term, .int .i64 x.kind, .string x.dt] rfl (by rw [HSN.out.2]; have := HLen.out; omega) hq.out.2
      rw [HSN.out.2] at hrun hst5 hbs5
      rw [← HSN.out.1] at hst5
      have e0 := (hq.out.2.box.cell 0).trans rfl
      have e1 := (hq.out.2.box.cell 1).trans rfl
      have e2 := (hq.out.2.box.cell 2).trans rfl
      have e3 := (hq.out.2.box.cell 3).trans rfl
      have HRun := hid hrun
      have HS5 := hid hst5
      have HB5 := hid hbs5
      clear hrun hst5 hbs5
      go_upto_region 15 with (first
        | (at_builtin; refine wpList_append_at HRun.out (by with_reducible rfl) rfl _ _ rfl rfl rfl rfl ?_))
      clear e0 e1 e2 e3 hq HRun
      have KB : Hid (∀ wx (F' : Nat → Prop), Beside wx F' (.slice ao (k + 1) c5) eb #[.int .i64 x.idx, .int .i64 x.term, .int .i64 x.kind, .string x.dt] → wx.cell? ⟨eb, 0, none⟩ = some (.int .i64 x.idx) ∧ wx.cell? ⟨eb, 1, none⟩ = some (.int .i64 x.term) ∧ wx.cell? ⟨eb, 2, none⟩ = some (.int .i64 x.kind) ∧ wx.cell? ⟨eb, 3, none⟩ = some (.string x.dt)) := hid (fun wx F' h => ⟨(h.box.cell 0).trans rfl, (h.box.cell 1).trans rfl, (h.box.cell 2).trans rfl, (h.box.cell 3).trans rfl⟩)
      have hbd : Below w5.heap.size w5 w5.drew := (Below.refl _ _).drew
      have HSD := hid (HS5.out.later hbd)
      have HBD : Hid (Beside w5.drew F (.slice ao (k + 1) c5) eb #[.int .i64 x.idx, .int .i64 x.term, .int .i64 x.kind, .string x.dt]) := hid ⟨HB5.out.box.same (hbd.block _ HB5.out.box.lt), HB5.out.nf, HB5.out.nv⟩
      have KD := hid (KB.out _ _ HBD.out)
      have C2 := hid (HAddk.out _ _ _ HSD.out.lg)
      have q0 : (x.idx == x.idx) = true := beq_self_eq_true _
      have q1 : (x.term == x.term) = true := beq_self_eq_true _
      have q2 : (x.kind == x.kind) = true := beq_self_eq_true _
      have q3 : (x.dt.toList == x.dt.toList) = true := beq_self_eq_true _
      have q4 : (x.idx != x.idx) = false := bne_self_eq_false _
      clear hbd
      go_cut [69] (fun u wx => u = .bool false ∧ Hid (∃ F', AdSt R w wx F' r1 (logOf b 1 (l.take (k + 1))) (.slice ao (k + 1) c5) (entsE (l.take (k + 1)) (pickZ b 30 + 1)) xa ga b))
      case first =>
        go_region_held3 (fun wx => wx.cell? ⟨eb, 0, none⟩ = some (.int .i64 x.idx) ∧ wx.cell? ⟨eb, 1, none⟩ = some (.int .i64 x.term) ∧ wx.cell? ⟨eb, 2, none⟩ = some (.int .i64 x.kind) ∧ wx.cell? ⟨eb, 3, none⟩ = some (.string x.dt))
          (first | (with_reducible exact KD.out) | (with_reducible exact K8.out) | (with_reducible exact K9.out) | (with_reducible assumption))
          (first
            | (go_at_call 33; (with_reducible refine C2.out.mono ?_); rintro e w8 ⟨rfl, F2, hL, hch, hF⟩; have HS8 := hid (HSD.out.turn hL hch hF); have HB8 : Hid (Beside w8 F2 (.slice ao (k + 1) c5) eb #[.int .i64 x.idx, .int .i64 x.term, .int .i64 x.kind, .string x.dt]) := hid ⟨HBD.out.box.same (hch.block _ HBD.out.box.lt HBD.out.nf), fun e => (by rcases hF _ e with h4 | h4; exact HBD.out.nf h4; have := HBD.out.box.lt; omega), HBD.out.nv⟩; have K8 := hid (KB.out _ _ HB8.out); have C3 := hid (HLak.out _ _ _ HS8.out.lg); clear hL hch hF)
            | (go_at_call 24; (with_reducible refine C3.out.mono ?_); rintro e w9 ⟨rfl, hb9⟩; have HS9 := hid (HS8.out.later hb9); have K9 := hid (KB.out w9 F2 ⟨HB8.out.box.same (hb9.block _ HB8.out.box.lt), HB8.out.nf, HB8.out.nv⟩); clear hb9))
        all_goals
          go_wp2
          go_meet
          exact ⟨rfl, hid ⟨_, HS9.out⟩⟩
      case rest =>
      obtain ⟨rfl, hq⟩ := hcut
      obtain ⟨F2, hq2⟩ := hq.out
      have HQ2 := hid hq2
      clear hq hq2
      go_wp2
      go_roundw
      case rel => exact ⟨k + 1, ao, c5, F2, by omega, rfl, by go_num, HQ2⟩
      case measure => simp [intOf]; omega
    · obtain rfl : k = l.length := by omega
      rw [List.take_length] at hst
      have HLL := hid (HLa.out l.length (Nat.le_refl _))
      rw [List.take_length] at HLL
      obtain ⟨E, hE⟩ : ∃ E, entsE l (pickZ b 30 + 1) = E := ⟨_, rfl⟩
      have hEl : E.length = l.length := by rw [← hE]; exact entsE_len _ _
      rw [hE] at hst
      obtain ⟨kn, hkn2⟩ : ∃ kn : Nat, (1 + pickZ c 7 : Int) = kn := ⟨(1 + pickZ c 7).toNat, by have := HPC.out; omega⟩
      have hwc : IntKind.i64.wrap (1 + pickZ c 7) = (kn : Int) := by have := HPC.out; rw [IntKind.wrap_i64]; omega
      have hk7 : 1 ≤ kn ∧ kn ≤ 7 := by have := HPC.out; omega
      have hwb := wrap_b b
      have k0 := (hst.out.bx.box.cell 0).trans rfl
      have HSN : Hid (∀ j : Nat, E.take j ++ sliceL (logOf b 1 l) (pickZ b 30 + 1 + j) kn = E.take (j + kn)) := hid (fun j => by have := slice_next (logOf b 1 l) j kn; rw [← hE]; exact this)
      have HSA : Hid (sliceL (logOf b 1 l) (pickZ b 30 + 1) 1000 = E) := hid (by rw [← hE]; exact sliceL_all (g := logOf b 1 l) (by show ((entsE l _).length : Int) ≤ 1000; rw [entsE_len]; omega))
      have HK7 := hid hk7
      have HEL := hid hEl
      have HKN := hid hkn2
      clear hE hEl hkn2 hkn hk7 HA HEnt HAdd
      generalize wr = wL at *
      go_upto_region 20 with (first
        | (go_at_call 12; (with_reducible refine (HPk.out _).mono ?_); rintro e w5 ⟨rfl, rfl⟩))
      go_loopw [15, 16] (AlRel wL (pickZ b 30) E) (fun _ i _ => (pickZ b 30 + l.length + 8 - intOf i).toNat)
      case atStart => exact ⟨0, 0, none, 0, Nat.zero_le _, rfl, by simp, hid ⟨rMid_nil wL, rfl⟩⟩
      case round =>
        clear k0
        obtain ⟨j, n, a, cap, hj, rfl, rfl, hmn⟩ := hrel
        generalize wr = wj at *
        have HJ := hid hj
        have hm := hid hmn.out.1
        have HNN := hid hmn.out.2
        obtain ⟨W, hW⟩ : ∃ W, sliceL (logOf b 1 l) (pickZ b 30 + 1 + (j : Int)) kn = W := ⟨_, rfl⟩
        have HW := hid hW
        have hsj := HSN.out j
        rw [hW] at hsj
        have HSJ := hid hsj
        have HWl : Hid (W.length ≤ 60) := hid (by rw [← hW]; have h1 := sliceL_len (logOf b 1 l) (pickZ b 30 + 1 + (j : Int)) kn; have h2 : (logOf b 1 l).ents.length = l.length := entsE_len _ _; omega)
        clear hj hmn hW hsj
        have C1 := hid (HLL.out _ _ _ (hst.out.lg.later hm.out.below))
        by_cases hjl : j < l.length
        · have hjI : pickZ b 30 + 1 + (j : Int) ≤ pickZ b 30 + (l.length : Int) := by omega
          have hwj : IntKind.i64.wrap (pickZ b 30 + 1 + (j : Int) + (kn : Int)) = pickZ b 30 + 1 + ((j + kn : Nat) : Int) := by have := HPB.out; have := HK7.out; rw [IntKind.wrap_i64]; push_cast; omega
          have HJL := hid hjl
          clear hjl
          go_wp2_with (first
            | (go_at_call 24; (with_reducible refine C1.out.mono ?_); rintro e w8 ⟨rfl, hb⟩; have HM8 := hid (hm.out.later hb); have C2 := hid (HSl.out (pickZ b 30 + 1 + (j : Int)) (kn : Int) W (by have := HPB.out; have := HJL.out; have := HLen.out; exact ⟨by omega, by omega⟩) (by have := HK7.out; exact ⟨by omega, by omega⟩) HW.out _ _ _ (hst.out.lg.later HM8.out.below)); clear hb)
            | (go_at_call 19; (with_reducible refine C2.out.mono ?_); rintro e w9 ⟨sa, sc, rfl, hm9⟩; obtain ⟨a9, c9, w10, hrun, hm10, -⟩ := (HM8.out.later hm9.below).app enTy_ok 26 hm9.row.rAt (by have := HWl.out; have := HLen.out; rw [List.length_take]; have := HEL.out; omega); rw [← HNN.out] at hrun hm10; have HRun := hid hrun; rw [HSJ.out] at hm10; have HM10 := hid hm10; clear hrun hm9 hm10)
            | (at_builtin; refine wpList_append_at HRun.out (by with_reducible rfl) rfl _ _ rfl rfl rfl rfl ?_))
          go_roundw
          case rel => exact ⟨j + kn, n + W.length, a9, c9, by have := HJL.out; have := HK7.out; have := HEL.out; omega, rfl, rfl, hid ⟨HM10.out, by rw [← HSJ.out, List.length_append, ← HNN.out]⟩⟩
          case measure => have := HJL.out; have := HK7.out; simp [intOf]; omega
        · have hjI : pickZ b 30 + (l.length : Int) < pickZ b 30 + 1 + (j : Int) := by omega
          have hEj : E.take j = E := List.take_of_length_le (by have := HEL.out; omega)
          have HEJ := hid hEj
          have HEm : Hid (E.length ≤ maxLen) := hid (by have := HEL.out; have := HLen.out; unfold maxLen; omega)
          have C5 : Hid (∀ wx, Below wj.heap.size wj wx → Calls Try.prog 18 #[.slice a n cap, .slice a' l.length cap'] wx fun e w' => e = .returned (.bool true) ∧ Below wx.heap.size wx w') := hid (fun wx h => by
            have h1 := hm.out.row.rAt.below h
            have h2 := (hst.out.row.below hm.out.below).rAt.below h
            rw [HEJ.out] at h1
            exact same_same h1 h2 HEm.out)
          clear hEj
          go_wp2_with (first
            | (go_at_call 24; (with_reducible refine C1.out.mono ?_); rintro e w8 ⟨rfl, hb8⟩; have C6 := hid (C5.out _ hb8))
            | (go_at_call 18; (with_reducible refine C6.out.mono ?_); rintro e w9 ⟨rfl, hb9⟩; have hb19 := hm.out.below.trans ((hb8.trans (hb9.mono hb8.size)).mono hm.out.below.size); have k0 := ((hst.out.bx.below hb19).box.cell 0).trans rfl; have HB19 := hid hb19; have C7 := hid (HSl.out (pickZ b 30 + 1) 1000 E (by have := HPB.out; exact ⟨by omega, by omega⟩) ⟨by decide, by decide⟩ HSA.out _ _ _ (hst.out.lg.later hb19)); clear hb19)
            | (go_at_call 19; (with_reducible refine C7.out.mono ?_); rintro e w10 ⟨sa, sc, rfl, hm9⟩; have hb20 := HB19.out.trans (hm9.below.mono HB19.out.size); have C8 := hid (same_same hm9.row.rAt ((hst.out.row.below hb20).rAt) HEm.out); have HB20 := hid hb20; clear hm9 hb20)
            | (go_at_call 18; (with_reducible refine C8.out.mono ?_); rintro e w11 ⟨rfl, hb11⟩; have HFin := hid ((hst.out.lg.later (HB20.out.trans (hb11.mono HB20.out.size))).below); clear hb11))
          go_ret
          exact ⟨rfl, HFin.out⟩
set_option maxHeartbeats 4000000 in
theorem rlogAdds_walk {R : RlRep} (HP : RlProg R) (b c : Int) (v1 : Value) (l : List Pa) (w : World) (hbi : I64' b) (h1 : RAt pTy w v1 l) (hi1 : ∀ p ∈ l, PaIn w p) (hl1 : l.length ≤ maxLen) (hci : I64' c) :
    Calls Try.prog 7 #[.int .i64 b, v1, .int .i64 c] w (ShownPost w) := by
  by_cases hs : smallP l = true
  · exact rlogAdds_main HP b c v1 l w hbi hci h1 hi1 hl1 hs
  have HS := hid (shown_any HP w)
  have HSm0 : Hid (∀ wx, Below w.heap.size w wx → Calls Try.prog 10 #[v1] wx fun e w' => e = .returned (.bool (smallP l)) ∧ wx = w') := hid (fun wx h => small_any wx v1 l (h1.below h) hl1)
  obtain ⟨s0, hs0⟩ : ∃ s, smallP l = s := ⟨_, rfl⟩
  rw [hs0] at HSm0 hs
  have HH := hid hs
  clear HP hs hs0
  cases s0 with
  | true => exact absurd rfl HH.out
  | false =>
    go_enter Try.func7, Try.ntmps7
    go_wp2_with (first | (go_at_call 9; (with_reducible refine HS.out.mono ?_); rintro e w1 ⟨rfl, hb1⟩) | (go_at_call 10; (with_reducible refine (HSm0.out _ hb1).mono ?_); rintro e w2 ⟨rfl, rfl⟩))
    go_ret
    exact ⟨rfl, hb1⟩
end Go.Proofs.Ytiffdhihhggkhaa
