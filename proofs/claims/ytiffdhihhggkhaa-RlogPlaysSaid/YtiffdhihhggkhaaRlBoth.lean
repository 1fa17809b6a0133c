/-
  LAYER 8 (rlog): the program's log and the document's beside one another: alike.
-/
import Derived.Test.YtiffdhihhggkhaaRlRef8
import Derived.Test.YtiffdhihhggkhaaMq5
import Derived.Deep.RegionHeld3
namespace Go.Proofs.Ytiffdhihhggkhaa
open Go.RowKit
set_option linter.unusedVariables false
set_option maxRecDepth 100000

theorem votersL_len {s : Rl} (h : RlB s) (i : Int) : (votersL s i).length ≤ maxLen := by
  have := (votersIn_b s.ents s.vot i h.vot h.vl).2
  unfold votersL maxLen
  omega
set_option maxHeartbeats 16000000 in
theorem alike_any {R : RlRep} (HP : RlProg R) {w0 w : World} {F1 F2 : Nat → Prop} {r1 r2 : Nat} {s : Rl} (h1 : Lg R w0 w F1 r1 s) (h2 : Lg rfRep w0 w F2 r2 s) (i : Int) (hi : I64' i) : Calls Try.prog 17 #[.pointer (some ⟨r1, 0, none⟩), .pointer (some ⟨r2, 0, none⟩), .int .i64 i] w fun e w' => e = .returned (.bool true) ∧ Below w.heap.size w w' := by
  have HBa := hid (HP.base h1.is h1.b)
  have H1 := hid h1
  have H2 := hid h2
  have hlast := h1.b.last
  have hpos := h1.b.ok.pos
  have hbi := h1.b.bi
  clear h1 h2
  go_enter Try.func17, Try.ntmps17
  go_upto_region 2 with (go_at_call 27; (with_reducible refine HBa.out.mono ?_); rintro e wa ⟨vb, rfl, hm⟩; obtain ⟨ba, bc, rfl, -⟩ := hm.row.slice; unfold baseV)
  have hba := hm.below.alloc hm.below.size (.cells #[.int .i64 s.bi, .int .i64 s.bt, .slice ba s.vot.length bc, .string s.bd] 33)
  have hrow := hm.row.rAt.below (Below.alloc (Below.refl _ _) (Nat.le_refl wa.heap.size) (.cells #[.int .i64 s.bi, .int .i64 s.bt, .slice ba s.vot.length bc, .string s.bd] 33))
  have ob := own.new wa #[.int .i64 s.bi, .int .i64 s.bt, .slice ba s.vot.length bc, .string s.bd] 33
  have HG1 := hid (H1.out.later hba)
  have HM1 := hid (H2.out.later hba)
  have HBw := hid hba
  clear hm hba HBa
  generalize (wa.alloc (.cells #[.int .i64 s.bi, .int .i64 s.bt, .slice ba s.vot.length bc, .string s.bd] 33)) = W at *
  generalize wa.heap.size = gb at *
  have HR1 := hid hrow
  obtain ⟨va, vc, la, lc, hI, hc⟩ := rf_c HM1.out.is
  have HC : Hid (∀ wx, Below W.heap.size W wx → (wx.cell? ⟨gb, 0, none⟩ = some (.int .i64 s.bi) ∧ wx.cell? ⟨gb, 1, none⟩ = some (.int .i64 s.bt) ∧ wx.cell? ⟨gb, 2, none⟩ = some (.slice ba s.vot.length bc) ∧ wx.cell? ⟨gb, 3, none⟩ = some (.string s.bd)) ∧ wx.cell? ⟨r2, 0, none⟩ = some (.int .i64 s.bi) ∧ wx.cell? ⟨r2, 1, none⟩ = some (.int .i64 s.bt) ∧ wx.cell? ⟨r2, 2, none⟩ = some (.slice va s.vot.length vc) ∧ wx.cell? ⟨r2, 3, none⟩ = some (.string s.bd) ∧ wx.cell? ⟨r2, 4, none⟩ = some (.slice la s.ents.length lc)) := hid (fun wx hb => by
    have o := ob.same (hb.block _ ob.lt)
    have c := hc wx hb
    exact ⟨⟨(o.cell 0).trans rfl, (o.cell 1).trans rfl, (o.cell 2).trans rfl, (o.cell 3).trans rfl⟩, c.c0, c.c1, c.c2, c.c3, c.c4⟩)
  have HVo := hid hI.vot
  have HEn := hid hI.ents
  have HTg : Hid (∀ wx, Below W.heap.size W wx → Calls Try.prog 28 #[.pointer (some ⟨r1, 0, none⟩), .int .i64 i] wx fun e w' => e = .returned (.tuple #[.int .i64 ((termL s i).getD 0), .bool (termL s i).isSome]) ∧ Below W.heap.size W w') := hid (fun wx hb => (HP.term i (HG1.out.later hb).is HG1.out.b hi).mono fun e w' ⟨he, h⟩ => ⟨he, hb.trans (h.mono hb.size)⟩)
  have HTm : Hid (∀ wx, Below W.heap.size W wx → Calls Try.prog 40 #[.pointer (some ⟨r2, 0, none⟩), .int .i64 i] wx fun e w' => e = .returned (.tuple #[.int .i64 ((termL s i).getD 0), .bool (termL s i).isSome]) ∧ Below W.heap.size W w') := hid (fun wx hb => (rfTerm_any i (HM1.out.later hb).is HG1.out.b hi).mono fun e w' ⟨he, h⟩ => ⟨he, hb.trans (h.mono hb.size)⟩)
  have HLg : Hid (∀ wx, Below W.heap.size W wx → Calls Try.prog 24 #[.pointer (some ⟨r1, 0, none⟩)] wx fun e w' => e = .returned (.int .i64 s.last) ∧ Below W.heap.size W w') := hid (fun wx hb => (HP.last (HG1.out.later hb).is HG1.out.b).mono fun e w' ⟨he, h⟩ => ⟨he, hb.trans (h.mono hb.size)⟩)
  have HLm : Hid (∀ wx, Below W.heap.size W wx → Calls Try.prog 23 #[.pointer (some ⟨r2, 0, none⟩)] wx fun e w' => e = .returned (.int .i64 s.last) ∧ Below W.heap.size W w') := hid (fun wx hb => (rfLast_any (HM1.out.later hb).is HG1.out.b).mono fun e w' ⟨he, h⟩ => ⟨he, hb.trans (h.mono hb.size)⟩)
  have HSg : Hid (∀ wx, Below W.heap.size W wx → Calls Try.prog 19 #[.pointer (some ⟨r1, 0, none⟩), .int .i64 (s.bi + 1), .int .i64 10000] wx fun e w' => ∃ a c, e = .returned (.slice a s.ents.length c) ∧ Hid (RAt enTy w' (.slice a s.ents.length c) s.ents) ∧ Below W.heap.size W w') := hid (fun wx hb => by
    have hw : I64' (s.bi + 1) := ⟨by omega, by omega⟩
    refine (HP.slice (s.bi + 1) 10000 (HG1.out.later hb).is HG1.out.b hw ⟨by decide, by decide⟩).mono ?_
    rintro e w' ⟨vv, rfl, hm⟩
    rw [sliceL_all (by have := HG1.out.b.len; omega)] at hm
    obtain ⟨a, c, rfl, -⟩ := hm.row.slice
    exact ⟨a, c, rfl, hid hm.row.rAt, hb.trans (hm.below.mono hb.size)⟩)
  have HSa : Hid (∀ wx v, RAt enTy wx v s.ents → Below W.heap.size W wx → Calls Try.prog 18 #[v, .slice la s.ents.length lc] wx fun e w' => e = .returned (.bool true) ∧ Below W.heap.size W w') := hid (fun wx v h hb => (same_same h (HEn.out.below hb) (by have := HG1.out.b.len; unfold maxLen; omega)).mono fun e w' ⟨he, h⟩ => ⟨he, hb.trans (h.mono hb.size)⟩)
  have HSi : Hid (∀ wx, Below W.heap.size W wx → Calls Try.prog 29 #[.slice ba s.vot.length bc, .slice va s.vot.length vc] wx fun e w' => e = .returned (.bool true) ∧ Below W.heap.size W w') := hid (fun wx hb => (sameInts_same (HR1.out.below hb) (HVo.out.below hb) (by have := HG1.out.b.vl; unfold maxLen; omega)).mono fun e w' ⟨he, h⟩ => ⟨he, hb.trans (h.mono hb.size)⟩)
  obtain ⟨V, hV⟩ : ∃ V, votersL s i = V := ⟨_, rfl⟩
  have HVl : Hid (V.length ≤ maxLen) := hid (by rw [← hV]; exact votersL_len HG1.out.b i)
  have HVg : Hid (∀ wx, Below W.heap.size W wx → Calls Try.prog 30 #[.pointer (some ⟨r1, 0, none⟩), .int .i64 i] wx fun e w' => ∃ a c, e = .returned (.slice a V.length c) ∧ Hid (RAt numTy w' (.slice a V.length c) V) ∧ Below W.heap.size W w') := hid (fun wx hb => by
    refine (HP.voters i (HG1.out.later hb).is HG1.out.b hi).mono ?_
    rintro e w' ⟨vv, rfl, hm⟩
    rw [hV] at hm
    obtain ⟨a, c, rfl, -⟩ := hm.row.slice
    exact ⟨a, c, rfl, hid hm.row.rAt, hb.trans (hm.below.mono hb.size)⟩)
  have HVm : Hid (∀ wx v, RAt numTy wx v V → Below W.heap.size W wx → Calls Try.prog 41 #[.pointer (some ⟨r2, 0, none⟩), .int .i64 i] wx fun e w' => ∃ a c, e = .returned (.slice a V.length c) ∧ Hid (RAt numTy w' (.slice a V.length c) V ∧ RAt numTy w' v V) ∧ Below W.heap.size W w') := hid (fun wx v hv hb => by
    refine (rfVoters_any i (HM1.out.later hb).is HG1.out.b hi).mono ?_
    rintro e w' ⟨a, n, c, rfl, hn, hm⟩
    rw [hV] at hm hn
    subst hn
    exact ⟨a, c, rfl, hid ⟨hm.row, hv.below hm.below⟩, hb.trans (hm.below.mono hb.size)⟩)
  obtain ⟨T, hT⟩ : ∃ T, (termL s i).getD 0 = T := ⟨_, rfl⟩
  obtain ⟨B, hB⟩ : ∃ B, (termL s i).isSome = B := ⟨_, rfl⟩
  rw [hT, hB] at HTg HTm
  clear hT hB hV hI hc ob hrow HM1 H2 HR1 HVo HEn
  have hb : Below W.heap.size W W := Below.refl _ _
  have q1 : (s.bd == s.bd) = true := by first | rfl | simp | (show (s.bd.data == s.bd.data) = true; simp)
  have q2 : (B == B) = true := beq_self_eq_true _
  have q3 : (T == T) = true := beq_self_eq_true _
  have CT := hid (HTg.out W hb)
  go_upto_region 3 with (go_at_call 28; (with_reducible refine CT.out.mono ?_); rintro e w1 ⟨rfl, hb⟩; have C2 := hid (HTm.out w1 hb))
  go_upto_region 4 with (go_at_call 40; (with_reducible refine C2.out.mono ?_); rintro e w2 ⟨rfl, hb⟩)
  have hbd : Below W.heap.size W w2.drew := hb.drew
  clear CT C2 HTg HTm HG1
  have hwr : IntKind.i64.wrap (s.bi + 1) = s.bi + 1 := by rw [IntKind.wrap_i64]; omega
  dsimp only [List.append]
  go_region_held3 (fun wx => ((wx.cell? ⟨gb, 0, none⟩ = some (.int .i64 s.bi) ∧ wx.cell? ⟨gb, 1, none⟩ = some (.int .i64 s.bt) ∧ wx.cell? ⟨gb, 2, none⟩ = some (.slice ba s.vot.length bc) ∧ wx.cell? ⟨gb, 3, none⟩ = some (.string s.bd)) ∧ wx.cell? ⟨r2, 0, none⟩ = some (.int .i64 s.bi) ∧ wx.cell? ⟨r2, 1, none⟩ = some (.int .i64 s.bt) ∧ wx.cell? ⟨r2, 2, none⟩ = some (.slice va s.vot.length vc) ∧ wx.cell? ⟨r2, 3, none⟩ = some (.string s.bd) ∧ wx.cell? ⟨r2, 4, none⟩ = some (.slice la s.ents.length lc)))
    (first | (with_reducible exact HC.out _ hbd) | (with_reducible exact HC.out _ hb) | (with_reducible assumption))
    (first
      | (go_at_call 24; (with_reducible refine (HLg.out _ hbd).mono ?_); rintro e w3 ⟨rfl, hb⟩)
      | (go_at_call 23; (with_reducible refine (HLm.out _ hb).mono ?_); rintro e w4 ⟨rfl, hb⟩)
      | (go_at_call 29; (with_reducible refine (HSi.out _ hb).mono ?_); rintro e w5 ⟨rfl, hb⟩)
      | (go_at_call 29; (with_reducible refine C10.out.mono ?_); rintro e w10 ⟨rfl, hb⟩)
      | (go_at_call 19; (with_reducible refine (HSg.out _ hb).mono ?_); rintro e w6 ⟨sa, sc, rfl, hs, hb⟩; have C7 := hid (HSa.out w6 _ hs.out hb))
      | (go_at_call 18; (with_reducible refine C7.out.mono ?_); rintro e w7 ⟨rfl, hb⟩)
      | (go_at_call 30; (with_reducible refine (HVg.out _ hb).mono ?_); rintro e w8 ⟨ua, uc, rfl, hu, hb⟩; have C9 := hid (HVm.out w8 _ hu.out hb))
      | (go_at_call 41; (with_reducible refine C9.out.mono ?_); rintro e w9 ⟨xa, xc, rfl, hx, hb⟩; have C10 : Hid (Calls Try.prog 29 #[.slice ua V.length uc, .slice xa V.length xc] w9 fun e w' => e = .returned (.bool true) ∧ Below W.heap.size W w') := hid ((sameInts_same hx.out.2 hx.out.1 HVl.out).mono fun e w' ⟨he, h⟩ => ⟨he, Below.trans hb (h.mono hb.size)⟩)))
  all_goals
    go_wp2
    go_ret
    exact ⟨rfl, HBw.out.trans (hb.mono HBw.out.size)⟩
end Go.Proofs.Ytiffdhihhggkhaa
