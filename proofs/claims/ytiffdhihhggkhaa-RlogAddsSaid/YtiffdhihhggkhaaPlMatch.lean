/-
  LAYER 8 (rlog), THE PROGRAM's LOG: replace, Match.
-/
import Derived.Test.YtiffdhihhggkhaaPlReplace
namespace Go.Proofs.Ytiffdhihhggkhaa
open Go.RowKit
set_option linter.unusedVariables false
set_option maxRecDepth 100000

theorem turn_from {w w3 w' : World} {F : Nat → Prop} {r : Nat} {s : Rl} (hb : Below w.heap.size w w3) (h : Turn plRep F w3 w' r s) : Turn plRep F w w' r s := by
  obtain ⟨F', hi, hc, hF⟩ := h
  have := hb.size
  refine ⟨F', hi, (Chg.of_below hb).trans hc (fun b e => .inl e), fun b e => ?_⟩
  rcases hF b e with k | k
  · exact .inl k
  · exact .inr (by omega)
/-- What replace comes to. -/
def RplPost (w : World) (F : Nat → Prop) (r : Nat) (s : Rl) (fixed : Int) (L : List Me) (e : Ending) (w' : World) : Prop :=
  (e = .returned (.int .i64 0) ∧ (∀ (j : Nat) x, L[j]? = some x → lackB s fixed x = false) ∧ Turn plRep F w w' r s) ∨
  ∃ (k : Nat) (x : Me), e = .returned (.int .i64 x.idx) ∧ L[k]? = some x ∧ lackB s fixed x = true ∧ (∀ (j : Nat) y, j < k → L[j]? = some y → lackB s fixed y = false) ∧ Turn plRep F w w' r { s with ents := s.ents.take (x.idx - s.bi - 1).toNat ++ L.drop k }
set_option maxHeartbeats 16000000 in
theorem plReplace_any {w : World} {F : Nat → Prop} {r : Nat} {s : Rl} (fixed : Int) {v : Value} {L : List Me} (h : plRep.Is w F r s) (hB : RlB s) (hv : RAt enTy w v L) (hout : ∀ b, v.ownBlock = some b → ¬ F b) (hL : ∀ x ∈ L, I64' x.idx ∧ I64' x.term) (hl : L.length ≤ 1000)
    (hw : ∀ (k : Nat) x, L[k]? = some x → lackB s fixed x = true → (∀ (j : Nat) y, j < k → L[j]? = some y → lackB s fixed y = false) → s.bi < x.idx ∧ x.idx ≤ s.last + 1) :
    Calls Try.prog 45 #[.pointer (some ⟨r, 0, none⟩), v, .func (.func 47) #[.agg #[.pointer (some ⟨r, 0, none⟩), .int .i64 fixed]] #[]] w (RplPost w F r s fixed L) := by
  have HX := hid (plIndexFunc_any fixed h hB hv hL hl)
  have H := hid h
  have HV := hid hv
  have HW := hid hw
  have HLI := hid hL
  have HBn := hid hB
  have HO := hid hout
  obtain ⟨va, vcap, rfl, hat⟩ := en_at hv
  have HE := hid hat
  obtain ⟨_, _, ev, hvlc, _⟩ := id hv
  have hvlc2 : L.length ≤ vcap := by cases ev; exact hvlc
  clear h hB hv hL hw hat hout ev hvlc
  go_enter Try.func45, Try.ntmps45
  go_upto_region 1 with (fail)
  go_cut [7] (fun u wx => ∃ n : Int, u = .int .i64 n ∧ IxPost w (lackB s fixed) L (.returned (.int .i64 n)) wx)
  case first =>
    go_wp2_with (go_at_call 55; (with_reducible refine HX.out.mono ?_); rintro e w1 h1; obtain ⟨n, rfl⟩ : ∃ n : Int, e = .returned (.int .i64 n) := (by rcases h1.1 with ⟨he, -⟩ | ⟨k, x, he, -⟩ <;> exact ⟨_, he⟩))
    go_meet
    exact ⟨n, rfl, h1⟩
  case rest =>
    obtain ⟨n, rfl, h1, hb⟩ := hcut
    generalize wc = w1 at *
    clear HX
    rcases h1 with ⟨he, h1⟩ | ⟨k, x, he, hx, hs, h1⟩
    · cases he
      have HF : Hid (RplPost w F r s fixed L (.returned (.int .i64 0)) w1) := hid (.inl ⟨rfl, h1, ⟨F, pl_later H.out hb, Chg.of_below hb, fun b e => .inl e⟩⟩)
      clear h1
      go_wp2
      go_ret
      exact HF.out
    · cases he
      obtain ⟨hlo, hhi⟩ := HW.out k x hx hs h1
      have hlast := HBn.out.last
      have hbi := HBn.out.bi
      have hpos := HBn.out.ok.pos
      have hlen := HBn.out.len
      have hxi := (HLI.out x (List.mem_of_getElem? hx)).1
      have hk : k < L.length := (List.getElem?_eq_some_iff.1 hx).1
      have hkI : (k : Int) < (L.length : Int) := by omega
      have hk0 : (0 : Int) ≤ (k : Int) := by omega
      obtain ⟨q, hq⟩ : ∃ q : Nat, (q : Int) = x.idx - s.bi - 1 := ⟨(x.idx - s.bi - 1).toNat, by omega⟩
      have hql : q ≤ s.ents.length := by unfold Rl.last at hhi; omega
      have hqn : (x.idx - s.bi - 1).toNat = q := by omega
      have hst : stp s x.idx = (q : Int) + 1 := by
        unfold stp
        omega
      obtain ⟨L', hL'⟩ : ∃ L', s.ents.take q ++ L.drop k = L' := ⟨_, rfl⟩
      have HF : Hid (∀ w2, Turn plRep F w1 w2 r { s with ents := L' } → RplPost w F r s fixed L (.returned (.int .i64 x.idx)) w2) := hid (fun w2 ht => .inr ⟨k, x, rfl, hx, hs, h1, by rw [hqn, hL']; exact turn_from hb ht⟩)
      obtain ⟨sb, so, rfl, hce⟩ := HE.out k x hx
      obtain ⟨d0, d1, d2, d3⟩ := hce w1 hb
      have hI1 := pl_later H.out hb
      obtain ⟨a, c, la, lc, hI, hc⟩ := pl_c hI1
      have HS := hid (fun wx (hb : Below w1.heap.size w1 wx) => (by have := plSteps_any x.idx (pl_later hI1 hb) hxi; rw [hst] at this; exact this : Calls Try.prog 42 #[.pointer (some ⟨r, 0, none⟩), .int .i64 x.idx] wx (PlPost wx (.int .u64 ((q : Int) + 1)))))
      have hrow := HV.out.below hb
      obtain ⟨hd, hdo⟩ := hrow.drop enTy_ok (k := k) (by omega)
      have l1 : ∀ wx : World, (Instr.slice 26 (.slice (some ⟨sb, so, none⟩) L.length vcap) (some (.int .i64 (k : Int))) none none).run Try.prog wx = .ok (enTy.from (some ⟨sb, so, none⟩) L.length vcap k) wx := fun wx => run_from enTy_ok wx _ L.length vcap k (by omega) hvlc2
      obtain ⟨a4, n4, c4', hvf⟩ : ∃ a n c, enTy.from (some ⟨sb, so, none⟩) L.length vcap k = .slice a n c := ⟨_, _, _, rfl⟩
      rw [hvf] at hd l1
      have hne : L.drop k ≠ [] := fun e => by have := congrArg List.length e; rw [List.length_drop] at this; simp at this; omega
      have HR := hid (fun wx (hb : Below w1.heap.size w1 wx) => (by have := plReplaceS_any (hI.ents.below hb) (hd.below hb) hne (by rw [List.length_drop]; omega) hql; rw [hL'] at this; exact this : Calls Try.prog 56 #[.slice la s.ents.length lc, .int .i64 (q : Int), .int .i64 (s.ents.length : Int), .slice a4 n4 c4'] wx (RepPost wx (.slice la s.ents.length lc) L')))
      have HT : Hid (∀ w3, Below w1.heap.size w1 w3 → ∀ w2 a2 c2, RepPost w3 (.slice la s.ents.length lc) L' (.returned (.slice a2 L'.length c2)) w2 → w2.cell? ⟨r, 4, none⟩ = some (.slice la s.ents.length lc) ∧ w2.frozen? ⟨r, 4, none⟩ = false ∧ Hid (Turn plRep F w1 (w2.setCell ⟨r, 4, none⟩ (.slice a2 L'.length c2)) r { s with ents := L' })) := hid (fun w3 hb w2 a2 c2 hp => by
        obtain ⟨a', c', e, hro, hch, hat⟩ := hp
        cases e
        have hI3 : PlIs w3 F r s (.slice a s.vot.length c) (.slice la s.ents.length lc) := ⟨hI.box.same (hb.block _ hI.box.lt), hI.vot.below hb, hI.ents.below hb, hI.fr, hI.fv, hI.fl, fun b e => Nat.lt_of_lt_of_le (hI.lt b e) hb.size, hI.nv, hI.nl, hI.vl⟩
        obtain ⟨f1, f2, f3⟩ := pl_row hI3 hro hch hat
        exact ⟨f1, f2, hid (turn_from hb f3)⟩)
      have HC : Hid (∀ wx, Below w1.heap.size w1 wx → wx.cell? ⟨r, 4, none⟩ = some (.slice la s.ents.length lc)) := hid (fun wx hb => (hc wx hb).c4)
      have c4 := HC.out w1 (Below.refl _ _)
      have c4d := HC.out w1.drew (Below.drew (Below.refl _ _))
      have hw1 : IntKind.u64.wrap ((q : Int) + 1 - 1) = (q : Int) := by rw [IntKind.wrap_u64]; omega
      have hw2 : IntKind.u64.wrap (q : Int) = (q : Int) := by rw [IntKind.wrap_u64]; omega
      have hw3 : IntKind.i64.wrap (q : Int) = (q : Int) := by rw [IntKind.wrap_i64]; omega
      clear hlo hhi hlast hbi hpos hlen hxi hq hql hqn hst hL' h1 hs hx hce hI1 hI hc hrow hd hdo hvf hne hk hvlc2
      go_upto_region 5 with (fail)
      go_cut [] (fun wx => Turn plRep F w1 wx r { s with ents := L' })
      case first =>
        go_wp2
        go_region_with (first
          | (go_at_call 42; (with_reducible refine (HS.out _ (Below.drew (Below.refl _ _))).mono ?_); rintro e w3 ⟨rfl, hb3⟩; have hb4 := (Below.drew (Below.refl w1.heap.size w1)).trans hb3; have c4e := HC.out w3 hb4; have C2 := hid (HR.out w3 hb4); have HB4 := hid hb4; clear hb3 hb4)
          | (go_at_call 56; (with_reducible refine C2.out.mono ?_); rintro e w2 hp; obtain ⟨a2, c2, rfl⟩ : ∃ a2 c2, e = .returned (.slice a2 L'.length c2) := (by obtain ⟨a2, c2, he, -⟩ := hp; exact ⟨a2, c2, he⟩); obtain ⟨c4f, f4f, hT⟩ := HT.out _ HB4.out _ _ _ hp; clear hp))
        all_goals
          go_wp2
          go_meet
          exact hT.out
      case rest =>
        have HFi := hid (HF.out _ hcut)
        generalize wc = w5 at *
        go_wp2
        go_ret
        exact HFi.out
theorem lack_has {s : Rl} {fixed : Int} {x : Me} : lackB s fixed x = !hasE s fixed x.idx x.term := by
  unfold lackB hasE
  by_cases h : x.idx ≤ fixed
  · rw [decide_eq_true h, decide_eq_false (by omega : ¬ fixed < x.idx)]; rfl
  · rw [decide_eq_false h, decide_eq_true (by omega : fixed < x.idx)]; rfl
theorem reidx_some {index : Int} {l : List Me} {k : Nat} {x : Me} (hx : l[k]? = some x) : (reidx index l)[k]? = some { x with idx := index + 1 + k } := by rw [reidx_get, hx]; rfl
theorem diffAt_first : ∀ (l : List Me) (g : Rl) (fixed i : Int) (k : Nat) (x : Me), l[k]? = some x → hasE g fixed (i + 1 + k) x.term = false → (∀ (j : Nat) y, j < k → l[j]? = some y → hasE g fixed (i + 1 + j) y.term = true) → diffAt g fixed i l = some k
  | [], g, fixed, i, k, x, hx, h1, h2 => by simp at hx
  | e :: r, g, fixed, i, 0, x, hx, h1, h2 => by
    simp only [List.getElem?_cons_zero, Option.some.injEq] at hx
    subst hx
    unfold diffAt
    rw [if_neg (by rw [show i + 1 = i + 1 + ((0 : Nat) : Int) by simp, h1]; simp)]
  | e :: r, g, fixed, i, k + 1, x, hx, h1, h2 => by
    unfold diffAt
    have h3 := h2 0 e (by omega) rfl
    rw [show i + 1 + ((0 : Nat) : Int) = i + 1 by simp] at h3
    rw [if_pos h3, diffAt_first r g fixed (i + 1) k x (by simpa using hx) (by rw [← h1]; congr 1; push_cast; omega) (fun j y hj hy => by
      have := h2 (j + 1) y (by omega) (by simpa using hy)
      rw [← this]; congr 1; push_cast; omega)]
    rfl
set_option maxHeartbeats 16000000 in
theorem plMatch_any {w : World} {F : Nat → Prop} {r : Nat} {s : Rl} (index term fixed : Int) (ev : Value) (l : List Me) (h : plRep.Is w F r s) (hB : RlB s) (hA : Apart enTy w F ev l) (hl : l.length ≤ 1000) (hm : ∀ e ∈ l, MeIs e) (hi : I64' index) (ht : I64' term) (hf : s.bi ≤ fixed) (hfl : fixed ≤ s.last) :
    Calls Try.prog 25 #[.pointer (some ⟨r, 0, none⟩), .int .i64 index, .int .i64 term, .int .i64 fixed, ev] w fun e w' => e = .returned (.tuple #[.int .i64 (matchL s index term fixed l).1.1, .int .i64 (matchL s index term fixed l).1.2.1, .bool (matchL s index term fixed l).1.2.2]) ∧ Turn plRep F w w' r (matchL s index term fixed l).2 := by
  have H := hid h
  have hlast := hB.last
  have hbi := hB.bi
  have hpos := hB.ok.pos
  have C1 := hid (plLast_any h hB)
  obtain ⟨ea, ec, rfl, _⟩ := id hA.row
  by_cases e1 : s.last < index
  · have hr : matchL s index term fixed l = ((s.last, 0, false), s) := by unfold matchL; rw [if_pos e1]
    rw [hr]
    clear h hB hA hm hr
    go_enter Try.func25, Try.ntmps25
    go_wp2_with (go_at_call 24; (with_reducible refine C1.out.mono ?_); rintro e w1 ⟨rfl, hb⟩)
    go_ret3
    exact ⟨rfl, F, pl_later H.out hb, Chg.of_below hb, fun b e => .inl e⟩
  have e1' : index ≤ s.last := by omega
  obtain ⟨va, vc, la, lc, hI, hc⟩ := pl_c h
  have HC : Hid (∀ wx, Below w.heap.size w wx → wx.cell? ⟨r, 0, none⟩ = some (.int .i64 s.bi)) := hid (fun wx hb => (hc wx hb).c0)
  have hmax : max fixed s.bi = fixed := by omega
  have hmin : min fixed s.last = fixed := by omega
  have HHas := hid (fun wx (hb : Below w.heap.size w wx) => plHas_any index term (pl_later h hb) hB hi ht)
  obtain ⟨bh, hbh⟩ : ∃ b, decide (termL s index = some term) = b := ⟨_, rfl⟩
  rw [hbh] at HHas
  by_cases e2 : fixed < index ∧ termL s index ≠ some term
  · have hr : matchL s index term fixed l = ((index - 1, 0, false), s) := by unfold matchL; rw [if_neg e1, if_pos e2]
    rw [hr]
    obtain ⟨e3, e4⟩ := e2
    have d1 : decide (fixed < index) = true := decide_eq_true e3
    obtain rfl : bh = false := by rw [← hbh]; exact decide_eq_false e4
    have hw1 : IntKind.i64.wrap (index - 1) = index - 1 := by rw [IntKind.wrap_i64]; omega
    clear h hB hA hm hr e4 hbh hc hI
    go_enter Try.func25, Try.ntmps25
    go_wp2_with (first
      | (go_at_call 24; (with_reducible refine C1.out.mono ?_); rintro e w1 ⟨rfl, hb⟩; have c0 := HC.out w1 hb; have C2 := hid (HHas.out w1 hb))
      | (go_at_call 44; (with_reducible refine C2.out.mono ?_); rintro e w2 ⟨rfl, hb2⟩; have HB2 := hid (hb.trans (hb2.mono hb.size)); clear hb2))
    go_ret3
    exact ⟨rfl, F, pl_later H.out HB2.out, Chg.of_below HB2.out, fun b e => .inl e⟩
  -- it matches
  have hF := plRep.lt h
  have HNu := hid (fun wx (hb : Below w.heap.size w wx) => plNumbered_any index (hA.row.below hb) hl ⟨hi.1, by omega⟩)
  have HRp : Hid (∀ wx, Below w.heap.size w wx → ∀ w2 a2 c2, RMid enTy wx w2 (.slice a2 (reidx index l).length c2) (reidx index l) → Calls Try.prog 45 #[.pointer (some ⟨r, 0, none⟩), .slice a2 (reidx index l).length c2, .func (.func 47) #[.agg #[.pointer (some ⟨r, 0, none⟩), .int .i64 fixed]] #[]] w2 fun e w' => e = .returned (.int .i64 (matchL s index term fixed l).1.2.1) ∧ Turn plRep F w w' r (matchL s index term fixed l).2) := hid (fun wx hb w2 a2 c2 hmid => by
    have hz := hb.size
    have hb2 : Below w.heap.size w w2 := hb.trans (hmid.below.mono hz)
    refine (plReplace_any fixed (pl_later h hb2) hB hmid.row.rAt (fun b e k => by have := hmid.new b e; have := hF b k; omega) (fun x hx => ?_) (by rw [reidx_len]; exact hl) (fun k x hx hs h1 => ?_)).mono ?_
    · obtain ⟨j, hj⟩ := List.mem_iff_getElem?.1 hx
      obtain ⟨y, hy, e1, e2, e3⟩ := reidx_mem _ _ _ hx
      have hjl : j < (reidx index l).length := (List.getElem?_eq_some_iff.1 hj).1
      rw [reidx_len] at hjl
      obtain ⟨z, hz⟩ : ∃ z, l[j]? = some z := ⟨_, List.getElem?_eq_getElem hjl⟩
      rw [reidx_some hz] at hj
      cases hj
      refine ⟨⟨?_, ?_⟩, (hm z (List.mem_of_getElem? hz)).1.term⟩
      · show (-9223372036854775808 : Int) ≤ index + 1 + j
        have := hi.1; omega
      · show index + 1 + j ≤ (9223372036854775807 : Int)
        omega
    · have hkl : k < (reidx index l).length := (List.getElem?_eq_some_iff.1 hx).1
      rw [reidx_len] at hkl
      obtain ⟨z, hz⟩ : ∃ z, l[k]? = some z := ⟨_, List.getElem?_eq_getElem hkl⟩
      rw [reidx_some hz] at hx
      cases hx
      have hd : diffAt s fixed index l = some k := diffAt_first l s fixed index k z hz (by rw [lack_has] at hs; simpa using hs) (fun j y hj hy => by
        have := h1 j _ hj (reidx_some hy)
        rw [lack_has] at this
        simpa using this)
      obtain ⟨h5, h6⟩ := diffAt_where hd e1' hf hfl
      exact ⟨by show s.bi < index + 1 + k; omega, by show index + 1 + k ≤ s.last + 1; omega⟩
    · rintro e w' (⟨rfl, h1, hT⟩ | ⟨k, x, rfl, hx, hs, h1, hT⟩)
      · have hd : diffAt s fixed index l = none := (diffAt_none l s fixed index).2 (fun j y hy => by
          have := h1 j _ (reidx_some hy)
          rw [lack_has] at this
          simpa using this)
        have hr : matchL s index term fixed l = ((index + l.length, 0, true), s) := by unfold matchL; rw [if_neg e1, if_neg e2, hd]
        rw [hr]
        exact ⟨rfl, turn_from hb2 hT⟩
      · have hkl : k < (reidx index l).length := (List.getElem?_eq_some_iff.1 hx).1
        rw [reidx_len] at hkl
        obtain ⟨z, hz⟩ : ∃ z, l[k]? = some z := ⟨_, List.getElem?_eq_getElem hkl⟩
        rw [reidx_some hz] at hx
        cases hx
        have hd : diffAt s fixed index l = some k := diffAt_first l s fixed index k z hz (by rw [lack_has] at hs; simpa using hs) (fun j y hj hy => by
          have := h1 j _ hj (reidx_some hy)
          rw [lack_has] at this
          simpa using this)
        have hr : matchL s index term fixed l = ((index + l.length, index + 1 + k, true), { s with ents := s.ents.take (index + k - s.bi).toNat ++ reidx (index + k) (l.drop k) }) := by unfold matchL; rw [if_neg e1, if_neg e2, hd]
        rw [hr]
        refine ⟨rfl, ?_⟩
        have := turn_from hb2 hT
        rw [show ((({ z with idx := index + 1 + k } : Me).idx - s.bi - 1).toNat) = (index + k - s.bi).toNat by show (index + 1 + k - s.bi - 1).toNat = _; congr 1; omega, reidx_drop] at this
        exact this)
  have hres : (matchL s index term fixed l).1.1 = index + l.length ∧ (matchL s index term fixed l).1.2.2 = true := by
    unfold matchL
    rw [if_neg e1, if_neg e2]
    cases diffAt s fixed index l <;> exact ⟨rfl, rfl⟩
  rw [hres.1, hres.2]
  have hw1 : IntKind.i64.wrap (index + 1) = index + 1 := by unfold I64' at hi; rw [IntKind.wrap_i64]; omega
  have hw2 : IntKind.i64.wrap (index + (l.length : Int)) = index + l.length := by unfold I64' at hi; rw [IntKind.wrap_i64]; omega
  have HRl : Hid ((reidx index l).length = l.length) := hid (reidx_len l index)
  by_cases e3 : fixed < index
  · have d1 : decide (fixed < index) = true := decide_eq_true e3
    obtain rfl : bh = true := by
      rw [← hbh]
      refine decide_eq_true ?_
      by_cases e5 : termL s index = some term
      · exact e5
      · exact absurd ⟨e3, e5⟩ e2
    clear h hB hA hm hbh hc hI e2 hres hF hl hi
    go_enter Try.func25, Try.ntmps25
    go_wp2_with (first
      | (go_at_call 24; (with_reducible refine C1.out.mono ?_); rintro e w1 ⟨rfl, hb⟩; have c0 := HC.out w1 hb; have C2 := hid (HHas.out w1 hb))
      | (go_at_call 44; (with_reducible refine C2.out.mono ?_); rintro e w2 ⟨rfl, hb2⟩; have HB2 := hid (hb.trans (hb2.mono hb.size)); have C3 := hid (HNu.out w2 HB2.out); clear hb2)
      | (go_at_call 46; (with_reducible refine C3.out.mono ?_); rintro e w3 ⟨a3, c3, rfl, hm3⟩; have C4 := hid (HRp.out _ HB2.out _ _ _ hm3); rw [HRl.out] at C4 ⊢; clear hm3)
      | (go_at_call 45; (with_reducible refine C4.out.mono ?_); rintro e w4 ⟨rfl, hT⟩; have HT := hid hT; clear hT))
    go_ret3
    exact ⟨rfl, HT.out⟩
  · have d1 : decide (fixed < index) = false := decide_eq_false e3
    clear h hB hA hm hbh hc hI e2 hres hF hl hi HHas
    go_enter Try.func25, Try.ntmps25
    go_wp2_with (first
      | (go_at_call 24; (with_reducible refine C1.out.mono ?_); rintro e w1 ⟨rfl, hb⟩; have c0 := HC.out w1 hb; have HB2 := hid hb; have C3 := hid (HNu.out w1 hb))
      | (go_at_call 46; (with_reducible refine C3.out.mono ?_); rintro e w3 ⟨a3, c3, rfl, hm3⟩; have C4 := hid (HRp.out _ HB2.out _ _ _ hm3); rw [HRl.out] at C4 ⊢; clear hm3)
      | (go_at_call 45; (with_reducible refine C4.out.mono ?_); rintro e w4 ⟨rfl, hT⟩; have HT := hid hT; clear hT))
    go_ret3
    exact ⟨rfl, HT.out⟩
end Go.Proofs.Ytiffdhihhggkhaa
