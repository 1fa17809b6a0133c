/-
  LAYER 8 (rlog), THE DOCUMENT's LOG: Newer, sets, Slice.
-/
import Derived.Test.YtiffdhihhggkhaaRlRef
namespace Go.Proofs.Ytiffdhihhggkhaa
open Go.RowKit
set_option linter.unusedVariables false
set_option maxRecDepth 100000

theorem rf_later {w wx : World} {F : Nat → Prop} {r : Nat} {s : Rl} (h : rfRep.Is w F r s) (hb : Below w.heap.size w wx) : rfRep.Is wx F r s := rfRep.same h hb.size (fun b e => hb.block b (rfRep.lt h b e))
set_option maxHeartbeats 4000000 in
theorem rfNewer_any {w : World} {F : Nat → Prop} {r : Nat} {s : Rl} (i t : Int) (h : rfRep.Is w F r s) (hB : RlB s) (hi : I64' i) (ht : I64' t) : Calls Try.prog 22 #[.pointer (some ⟨r, 0, none⟩), .int .i64 i, .int .i64 t] w (RfPost w (.bool (newerL s i t))) := by
  have HL := hid (fun wx (hb : Below w.heap.size w wx) => rfLast_any (rf_later h hb) hB)
  have HT : Hid (∀ wx, Below w.heap.size w wx → ∃ ok, Calls Try.prog 40 #[.pointer (some ⟨r, 0, none⟩), .int .i64 s.last] wx (RfPost wx (.tuple #[.int .i64 (lastT s), .bool ok]))) := hid (fun wx hb => ⟨_, rfTerm_any s.last (rf_later h hb) hB (last_i64 hB)⟩)
  have C1 := hid (HL.out w (Below.refl _ _))
  clear h hB hi ht
  unfold newerL
  generalize s.last = la at *
  generalize lastT s = lt at *
  by_cases e1 : lt < t
  · have d1 : decide (lt < t) = true := decide_eq_true e1
    rw [d1, Bool.true_or]
    go_enter Try.func22, Try.ntmps22
    go_wp2_with (first
      | (go_at_call 23; (with_reducible refine C1.out.mono ?_); rintro e w1 ⟨rfl, hb1⟩; obtain ⟨ok, hT⟩ := HT.out _ hb1; have C2 := hid hT; clear hT)
      | (go_at_call 40; (with_reducible refine C2.out.mono ?_); rintro e w2 ⟨rfl, hb2⟩))
    go_ret
    exact ⟨rfl, hb1.trans (hb2.mono hb1.size)⟩
  have e1' : t ≤ lt := by omega
  have d1 : decide (lt < t) = false := decide_eq_false e1
  rw [d1, Bool.false_or]
  by_cases e2 : t = lt
  · have q2 : (t == lt) = true := by rw [e2]; exact beq_self_eq_true _
    rw [decide_eq_true e2, Bool.true_and]
    have HE := hid e2
    clear e2
    by_cases e3 : la ≤ i
    · have d3 : decide (la ≤ i) = true := decide_eq_true e3
      rw [d3]
      go_enter Try.func22, Try.ntmps22
      go_wp2_with (first
        | (go_at_call 23; (with_reducible refine C1.out.mono ?_); rintro e w1 ⟨rfl, hb1⟩; obtain ⟨ok, hT⟩ := HT.out _ hb1; have C2 := hid hT; clear hT)
        | (go_at_call 40; (with_reducible refine C2.out.mono ?_); rintro e w2 ⟨rfl, hb2⟩; have hb12 := hb1.trans (hb2.mono hb1.size); have C3 := hid (HL.out _ hb12))
        | (go_at_call 23; (with_reducible refine C3.out.mono ?_); rintro e w3 ⟨rfl, hb3⟩))
      go_ret
      exact ⟨rfl, hb12.trans (hb3.mono hb12.size)⟩
    · have e3' : i < la := by omega
      have d3 : decide (la ≤ i) = false := decide_eq_false e3
      rw [d3]
      go_enter Try.func22, Try.ntmps22
      go_wp2_with (first
        | (go_at_call 23; (with_reducible refine C1.out.mono ?_); rintro e w1 ⟨rfl, hb1⟩; obtain ⟨ok, hT⟩ := HT.out _ hb1; have C2 := hid hT; clear hT)
        | (go_at_call 40; (with_reducible refine C2.out.mono ?_); rintro e w2 ⟨rfl, hb2⟩; have hb12 := hb1.trans (hb2.mono hb1.size); have C3 := hid (HL.out _ hb12))
        | (go_at_call 23; (with_reducible refine C3.out.mono ?_); rintro e w3 ⟨rfl, hb3⟩))
      go_ret
      exact ⟨rfl, hb12.trans (hb3.mono hb12.size)⟩
  · have q2 : (t == lt) = false := beq_false_of_ne e2
    rw [decide_eq_false e2, Bool.false_and]
    clear e2
    go_enter Try.func22, Try.ntmps22
    go_wp2_with (first
      | (go_at_call 23; (with_reducible refine C1.out.mono ?_); rintro e w1 ⟨rfl, hb1⟩; obtain ⟨ok, hT⟩ := HT.out _ hb1; have C2 := hid hT; clear hT)
      | (go_at_call 40; (with_reducible refine C2.out.mono ?_); rintro e w2 ⟨rfl, hb2⟩))
    go_ret
    exact ⟨rfl, hb1.trans (hb2.mono hb1.size)⟩
def SlRel (w : World) (L : List Me) (j0 : Nat) (most : Int) (u v : Value) (wr : World) : Prop := ∃ (i n : Nat) (a : Option Addr) (cap : Nat), i ≤ L.length ∧ u = .slice a n cap ∧ v = .int .i64 (i : Int) ∧ Hid (RMid enTy w wr (.slice a n cap) ((L.take i).drop j0) ∧ n = ((L.take i).drop j0).length ∧ ((n : Int) ≤ most ∨ n = 0))
theorem slice_end {L : List Me} {j0 i : Nat} {most : Int} (hi : i ≤ L.length) (hn : ((((L.take i).drop j0).length : Nat) : Int) ≤ most ∨ ((L.take i).drop j0).length = 0) (he : i = L.length ∨ most ≤ ((((L.take i).drop j0).length : Nat) : Int)) : (L.take i).drop j0 = (L.drop j0).take most.toNat := by
  have hlen : ((L.take i).drop j0).length = i - j0 := by rw [List.length_drop, List.length_take]; omega
  rw [hlen] at hn he
  rw [List.drop_take]
  rcases he with he | he
  · subst he
    rw [List.take_of_length_le (by rw [List.length_drop]; exact Nat.le_refl _)]
    rcases hn with h | h
    · rw [List.take_of_length_le (by rw [List.length_drop]; omega)]
    · rw [List.drop_eq_nil_of_le (by omega)]; simp
  · rcases hn with h | h
    · congr 1; omega
    · rw [h, show most.toNat = 0 by omega]
set_option maxHeartbeats 8000000 in
theorem rfSlice_any {w : World} {F : Nat → Prop} {r : Nat} {s : Rl} (fr most : Int) (h : rfRep.Is w F r s) (hB : RlB s) (hf : I64' fr) (hm : I64' most) : Calls Try.prog 20 #[.pointer (some ⟨r, 0, none⟩), .int .i64 fr, .int .i64 most] w fun e w' => ∃ vv, e = .returned vv ∧ RMid enTy w w' vv (sliceL s fr most) := by
  obtain ⟨va, vc, la, lc, hI, hc⟩ := rf_c h
  have HC := hid hc
  obtain ⟨c0, c1, c2, c3, c4⟩ := hc w (Below.refl _ _)
  by_cases e1 : fr ≤ s.bi
  · have hs : sliceL s fr most = [] := by unfold sliceL; rw [if_pos e1]
    rw [hs]
    clear h hc hB HC hI hs
    go_enter Try.func20, Try.ntmps20
    go_wp2
    go_ret
    exact ⟨_, rfl, rMid_nil w⟩
  have e1' : s.bi < fr := by omega
  obtain ⟨j0, hj0⟩ : ∃ j0, (fr - s.bi - 1).toNat = j0 := ⟨_, rfl⟩
  have HS : Hid (sliceL s fr most = (s.ents.drop j0).take most.toNat) := hid (by unfold sliceL; rw [if_neg e1, hj0])
  have HX : Hid (∀ (i : Nat) x, s.ents[i]? = some x → (fr ≤ x.idx ↔ j0 ≤ i)) := hid (fun i x hx => by have := hB.ok.rises i x hx; omega)
  have hE : ∀ (k : Nat) x, s.ents[k]? = some x → ∃ sb so, la = some ⟨sb, so, none⟩ ∧ ∀ wx, Below w.heap.size w wx → wx.cell? ⟨sb, so + k * 4, none⟩ = some (.int .i64 x.idx) ∧ wx.cell? ⟨sb, so + k * 4 + 1, none⟩ = some (.int .i64 x.term) ∧ wx.cell? ⟨sb, so + k * 4 + 2, none⟩ = some (.int .i64 x.kind) ∧ wx.cell? ⟨sb, so + k * 4 + 3, none⟩ = some (.string x.dt) := by
    obtain ⟨a', cap', e, hat⟩ := en_at hI.ents
    cases e
    exact hat
  have HE := hid hE
  have h2 := hB.len
  obtain ⟨L, hL⟩ : ∃ L, s.ents = L := ⟨_, rfl⟩
  obtain ⟨ln, hln⟩ : ∃ k, L.length = k := ⟨_, rfl⟩
  rw [hL] at HS HX HE h2
  have HC4 : Hid (∀ wx, Below w.heap.size w wx → wx.cell? ⟨r, 4, none⟩ = some (.slice la ln lc)) := hid (fun wx hb => by have := (hc wx hb).c4; rw [hL, hln] at this; exact this)
  rw [hln] at h2
  have HLn := hid hln
  clear h hc hB HC hI hE hL hln hj0 c1 c2 c3 c4 e1
  go_enter Try.func20, Try.ntmps20
  go_wp2
  go_loopw [7, 8] (SlRel w L j0 most) (fun _ i _ => ln - (intOf i).toNat)
  case atStart => exact ⟨0, 0, none, 0, Nat.zero_le _, rfl, rfl, hid ⟨by rw [List.take_zero, List.drop_nil]; exact rMid_nil w, by simp, .inr rfl⟩⟩
  case round =>
    clear c0
    obtain ⟨i, n, a, cap, hi, rfl, rfl, hq⟩ := hrel
    have c4 := HC4.out wr hq.out.1.below
    have HI := hid hi
    by_cases hin : i < ln
    · have hiI : (i : Int) < (ln : Int) := by omega
      by_cases hnm : (n : Int) < most
      · obtain ⟨x, hx⟩ : ∃ x, L[i]? = some x := ⟨_, List.getElem?_eq_getElem (by rw [HLn.out]; exact hin)⟩
        obtain ⟨sb, so, rfl, hce⟩ := HE.out i x hx
        obtain ⟨d0, d1, d2, d3⟩ := hce wr hq.out.1.below
        have HXI := hid (HX.out i x hx)
        have hlen : ((L.take i).drop j0).length = i - j0 := by rw [List.length_drop, List.length_take]; have := HLn.out; omega
        have hq2 := hq.out.2.1
        rw [hlen] at hq2
        have HN := hid hq2
        by_cases hxf : fr ≤ x.idx
        · have hji := HXI.out.1 hxf
          obtain ⟨a5, c5, w5, hrun, h5⟩ := hq.out.1.push enTy_ok 26 49 x #[.int .i64 x.idx, .int .i64 x.term, .int .i64 x.kind, .string x.dt] rfl (by rw [hlen]; omega)
          rw [← hq.out.2.1] at hrun h5
          have hnext : (L.take i).drop j0 ++ [x] = (L.take (i + 1)).drop j0 := by
            rw [List.take_add_one, hx, Option.toList, List.drop_append_of_le_length (by rw [List.length_take]; have := HLn.out; omega)]
          rw [hnext] at h5
          have HRun := hid hrun
          have H5 := hid h5
          have HNx : Hid (n + 1 = ((L.take (i + 1)).drop j0).length) := hid (by rw [← hnext, List.length_append, ← hq.out.2.1]; rfl)
          clear hrun h5 hnext hx hce hlen hq2
          go_wp2_with (at_builtin; refine wpList_append_at HRun.out (by with_reducible rfl) rfl _ _ rfl rfl rfl rfl ?_)
          go_roundw
          case rel => exact ⟨i + 1, n + 1, a5, c5, by have := HLn.out; omega, rfl, by go_num, hid ⟨H5.out, HNx.out, .inl (by push_cast; omega)⟩⟩
          case measure => simp [intOf]; omega
        · have hxf2 : x.idx < fr := by omega
          have hji : ¬ j0 ≤ i := fun h => hxf (HXI.out.2 h)
          have h0 : (L.take i).drop j0 = [] := List.drop_eq_nil_of_le (by rw [List.length_take]; omega)
          have h1 : (L.take (i + 1)).drop j0 = [] := List.drop_eq_nil_of_le (by rw [List.length_take]; omega)
          have hn0 : n = 0 := by have := hq.out.2.1; rw [h0] at this; exact this
          have H1 : Hid (RMid enTy w wr (.slice a n cap) ((L.take (i + 1)).drop j0) ∧ n = ((L.take (i + 1)).drop j0).length ∧ ((n : Int) ≤ most ∨ n = 0)) := hid ⟨by rw [h1]; have := hq.out.1; rw [h0] at this; exact this, by rw [h1]; exact hn0, .inr hn0⟩
          clear hx hce hlen hq2 h0 h1 hn0
          go_wp2
          go_roundw
          case rel => exact ⟨i + 1, n, a, cap, by have := HLn.out; omega, rfl, by go_num, H1⟩
          case measure => simp [intOf]; omega
      · have hnm2 : most ≤ (n : Int) := by omega
        have HF : Hid ((L.take i).drop j0 = sliceL s fr most) := hid (by rw [HS.out]; exact slice_end HI.out (by rw [← hq.out.2.1]; exact hq.out.2.2) (.inr (by rw [← hq.out.2.1]; exact hnm2)))
        go_wp2
        go_ret
        exact ⟨_, rfl, by rw [← HF.out]; exact hq.out.1⟩
    · have hin2 : i = ln := by have := HLn.out; omega
      have hiI : (ln : Int) ≤ (i : Int) := by omega
      have HF : Hid ((L.take i).drop j0 = sliceL s fr most) := hid (by rw [HS.out]; exact slice_end HI.out (by rw [← hq.out.2.1]; exact hq.out.2.2) (.inl (by rw [HLn.out]; exact hin2)))
      clear hin2
      go_wp2
      go_ret
      exact ⟨_, rfl, by rw [← HF.out]; exact hq.out.1⟩
end Go.Proofs.Ytiffdhihhggkhaa
