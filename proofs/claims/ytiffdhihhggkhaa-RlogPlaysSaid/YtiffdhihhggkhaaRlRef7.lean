/-
  LAYER 8 (rlog), THE DOCUMENT's LOG: Compact.
-/
import Derived.Test.YtiffdhihhggkhaaRlRef4
import Derived.Deep.AppendLies
import Derived.RegionTactic
namespace Go.Proofs.Ytiffdhihhggkhaa
open Go.RowKit
set_option linter.unusedVariables false
set_option maxRecDepth 100000

/-- Its cells have been written anew: rows that are its own, or new. -/
theorem rf_final {w W W' : World} {F : Nat → Prop} {r : Nat} {s s' : Rl} {vv lv : Value} (hW : rfRep.Is W F r s) (h0 : Below w.heap.size w W) (hF : ∀ b, F b → b < w.heap.size) (ho : own W' r #[.int .i64 s'.bi, .int .i64 s'.bt, vv, .string s'.bd, lv] 70) (hc : Chg (fun b => b = r) W W') (hv : RAt numTy W vv s'.vot) (hl : RAt enTy W lv s'.ents)
    (hbv : ∀ b, vv.ownBlock = some b → (F b ∧ b ≠ r ∨ w.heap.size ≤ b) ∧ b < W.heap.size) (hbl : ∀ b, lv.ownBlock = some b → (F b ∧ b ≠ r ∨ w.heap.size ≤ b) ∧ b < W.heap.size) : Turn rfRep F w W' r s' := by
  obtain ⟨v0, l0, hI⟩ := hW
  have hr := hF r hI.fr
  have hne : ∀ b, (F b ∧ b ≠ r ∨ w.heap.size ≤ b) → b ≠ r := fun b e => by
    rcases e with e | e
    · exact e.2
    · omega
  refine ⟨fun b => F b ∨ vv.ownBlock = some b ∨ lv.ownBlock = some b, ⟨vv, lv, ho, hv.same (fun b e hb => hc.block b hb (hne b (hbv b e).1)) hc.size, hl.same (fun b e hb => hc.block b hb (hne b (hbl b e).1)) hc.size, .inl hI.fr, fun b e => .inr (.inl e), fun b e => .inr (.inr e), fun b e => ?_, fun e => hne r (hbv r e).1 rfl, fun e => hne r (hbl r e).1 rfl⟩, ?_, fun b e => ?_⟩
  · have := hc.size
    rcases e with e | e | e
    · have := hI.lt b e; omega
    · have := (hbv b e).2; omega
    · have := (hbl b e).2; omega
  · exact (Chg.of_below (S := F) h0).trans hc (fun b e => .inl (by rw [e]; exact hI.fr))
  · rcases e with e | e | e
    · exact .inl e
    · rcases (hbv b e).1 with k | k
      · exact .inl k.1
      · exact .inr k
    · rcases (hbl b e).1 with k | k
      · exact .inl k.1
      · exact .inr k
theorem rf_stay {w w' : World} {F : Nat → Prop} {r : Nat} {s : Rl} (h : rfRep.Is w F r s) (hb : Below w.heap.size w w') : Turn rfRep F w w' r s := ⟨F, rf_later h hb, Chg.of_below hb, fun b e => .inl e⟩
theorem rf_drew {w w' : World} {F : Nat → Prop} {r : Nat} {s : Rl} (h : Turn rfRep F w w' r s) : Turn rfRep F w w'.drew r s := by
  obtain ⟨F', hi, hc, hF⟩ := h
  exact ⟨F', rf_later hi (below_drew (Below.refl _ _) 1), hc.drewN 1, hF⟩
/-- The log's row, cut at its front. -/
theorem rf_from {w W : World} {F : Nat → Prop} {r : Nat} {s : Rl} {vv : Value} {la : Option Addr} {lc : Nat} (hI : RfIs W F r s vv (.slice la s.ents.length lc)) {k : Nat} (hk : k ≤ s.ents.length) : (∀ wx, (Instr.slice 26 (.slice la s.ents.length lc) (some (.int .i64 (k : Int))) none none).run Try.prog wx = .ok (enTy.from la s.ents.length lc k) wx) ∧ RAt enTy W (enTy.from la s.ents.length lc k) (s.ents.drop k) ∧ ∀ b, (enTy.from la s.ents.length lc k).ownBlock = some b → (F b ∧ b ≠ r ∨ w.heap.size ≤ b) ∧ b < W.heap.size := by
  obtain ⟨a', cap', e, h1, h2, _⟩ := id hI.ents
  cases e
  obtain ⟨h3, h4⟩ := hI.ents.drop enTy_ok hk
  refine ⟨fun wx => run_from enTy_ok wx la _ lc k hk h1, h3, fun b e => ?_⟩
  have e2 := h4 b e
  exact ⟨.inl ⟨hI.fl b e2, fun e3 => hI.nl (by rw [← e3]; exact e2)⟩, hI.lt b (hI.fl b e2)⟩
set_option maxHeartbeats 8000000 in
theorem rfCompact_any {w : World} {F : Nat → Prop} {r : Nat} {s : Rl} (i : Int) (d : ByteArray) (h : rfRep.Is w F r s) (hB : RlB s) (hi : I64' i) (hd : d.size ≤ 100000) : Calls Try.prog 36 #[.pointer (some ⟨r, 0, none⟩), .int .i64 i, .string d] w fun e w' => e = .returned (.int .i64 (compactL s i d).1) ∧ Turn rfRep F w w' r (compactL s i d).2 := by
  have H := hid h
  have HL := hid (fun wx (hb : Below w.heap.size w wx) => rfLast_any (rf_later h hb) hB)
  obtain ⟨va, vc, la, lc, hI, hc⟩ := rf_c h
  have HC := hid hc
  obtain ⟨c0, c1, c2, c3, c4⟩ := hc w (Below.refl _ _)
  have C1 := hid (HL.out w (Below.refl _ _))
  by_cases e1 : i ≤ s.bi
  · have ht : compactL s i d = (2, s) := by unfold compactL; rw [if_pos (.inl e1)]
    rw [ht]
    clear hc hB hI HC ht C1 HL h
    go_enter Try.func36, Try.ntmps36
    go_wp2
    go_ret
    exact ⟨rfl, rf_stay H.out (Below.refl _ _)⟩
  have e1' : s.bi < i := by omega
  by_cases e3 : s.last < i
  · have ht : compactL s i d = (2, s) := by unfold compactL; rw [if_pos (.inr e3)]
    rw [ht]
    clear hc hB hI HC ht HL h
    go_enter Try.func36, Try.ntmps36
    go_wp2_with (go_at_call 23; (with_reducible refine C1.out.mono ?_); rintro e w1 ⟨rfl, hb⟩)
    go_ret
    exact ⟨rfl, rf_stay H.out hb⟩
  have e3' : i ≤ s.last := by omega
  have HT : Hid (compactL s i d = (0, ⟨i, (termL s i).getD 0, votersL s i, d, s.ents.drop (i - s.bi).toNat⟩)) := hid (by unfold compactL; rw [if_neg (by omega)])
  have HTm : Hid (∀ wx, Below w.heap.size w wx → ∃ ok, Calls Try.prog 40 #[.pointer (some ⟨r, 0, none⟩), .int .i64 i] wx (RfPost wx (.tuple #[.int .i64 ((termL s i).getD 0), .bool ok]))) := hid (fun wx hb => ⟨_, rfTerm_any i (rf_later h hb) hB hi⟩)
  have HVo := hid (fun wx (hb : Below w.heap.size w wx) => rfVoters_any i (rf_later h hb) hB hi)
  have HF := hid (rfRep.lt h)
  obtain ⟨k, hk⟩ : ∃ k : Nat, (k : Int) = i - s.bi := ⟨(i - s.bi).toNat, by omega⟩
  have hkl : k ≤ s.ents.length := by unfold Rl.last at e3'; omega
  have hp := hB.ok.pos
  have h1 := hB.bi
  have hlast := hB.last
  have hw1 : IntKind.i64.wrap (i - s.bi) = (k : Int) := by rw [IntKind.wrap_i64]; omega
  have HK : Hid ((i - s.bi).toNat = k) := hid (by omega)
  clear hc hB hI HC HL h c1 c2 c3 c4
  obtain ⟨tm, htm⟩ : ∃ t, (termL s i).getD 0 = t := ⟨_, rfl⟩
  obtain ⟨V, hV⟩ : ∃ t, votersL s i = t := ⟨_, rfl⟩
  rw [htm, hV] at HT
  rw [htm] at HTm
  rw [hV] at HVo
  clear htm hV
  go_enter Try.func36, Try.ntmps36
  go_upto_region 5 with (first
    | (go_at_call 23; (with_reducible refine C1.out.mono ?_); rintro e w1 ⟨rfl, hb1⟩; obtain ⟨ok, hT⟩ := HTm.out _ hb1; have C2 := hid hT; clear hT)
    | (go_at_call 40; (with_reducible refine C2.out.mono ?_); rintro e w2 ⟨rfl, hb2⟩; have hb12 := hb1.trans (hb2.mono hb1.size); have C3 := hid (HVo.out _ hb12))
    | (go_at_call 41; (with_reducible refine C3.out.mono ?_); rintro e w3 ⟨va3, vn3, vc3, rfl, hn3, hV3⟩))
  subst hn3
  have hb13 := hb12.trans (hV3.below.mono hb12.size)
  have bW : Below w.heap.size w (w3.alloc (.cells #[.int .i64 i, .int .i64 tm, .slice va3 V.length vc3, .string d] 33)) := hb13.alloc hb13.size _
  have bW3 : Below w3.heap.size w3 (w3.alloc (.cells #[.int .i64 i, .int .i64 tm, .slice va3 V.length vc3, .string d] 33)) := (Below.refl _ _).alloc (Nat.le_refl _) _
  have o9 := own.new w3 #[.int .i64 i, .int .i64 tm, .slice va3 V.length vc3, .string d] 33
  have hV4 := hV3.later bW3
  have h9 : w.heap.size ≤ w3.heap.size := hb13.size
  have hsz2 : w.heap.size ≤ w2.heap.size := hb12.size
  have hWI := rf_later H.out bW
  clear bW3 hb13 hb1 hb2 hb12 C1 C2 C3 HVo HTm c0 hV3
  generalize (w3.alloc (.cells #[.int .i64 i, .int .i64 tm, .slice va3 V.length vc3, .string d] 33)) = W at *
  generalize w3.heap.size = g9 at *
  obtain ⟨va', vc', la', lc', hI, hc⟩ := rf_c hWI
  obtain ⟨c0, c1, c2, c3, c4⟩ := hc W (Below.refl _ _)
  obtain ⟨hrun, hrow, hown⟩ := rf_from (w := w) hI hkl
  have hr := HF.out r hI.fr
  have f4 := hI.box.frozen 4
  rw [HK.out] at HT
  obtain ⟨a4, n4, c4', hlv⟩ : ∃ a n c, enTy.from la' s.ents.length lc' k = .slice a n c := ⟨_, _, _, rfl⟩
  rw [hlv] at hrun hrow hown
  clear hlv
  obtain ⟨lv', hlv⟩ : ∃ v, Value.slice a4 n4 c4' = v := ⟨_, rfl⟩
  rw [hlv] at hrun hrow hown
  have oW4 : own (W.setCell ⟨r, 4, none⟩ lv') r #[.int .i64 s.bi, .int .i64 s.bt, .slice va' s.vot.length vc', .string s.bd, lv'] 70 := hI.box.set 4 lv'
  have oW0 : own ((W.setCell ⟨r, 4, none⟩ lv').setCell ⟨r, 0, none⟩ (.int .i64 i)) r #[.int .i64 i, .int .i64 s.bt, .slice va' s.vot.length vc', .string s.bd, lv'] 70 := oW4.set 0 (.int .i64 i)
  have oW1 : own (((W.setCell ⟨r, 4, none⟩ lv').setCell ⟨r, 0, none⟩ (.int .i64 i)).setCell ⟨r, 1, none⟩ (.int .i64 tm)) r #[.int .i64 i, .int .i64 tm, .slice va' s.vot.length vc', .string s.bd, lv'] 70 := oW0.set 1 (.int .i64 tm)
  have oW2 : own ((((W.setCell ⟨r, 4, none⟩ lv').setCell ⟨r, 0, none⟩ (.int .i64 i)).setCell ⟨r, 1, none⟩ (.int .i64 tm)).setCell ⟨r, 2, none⟩ (.slice va3 V.length vc3)) r #[.int .i64 i, .int .i64 tm, .slice va3 V.length vc3, .string s.bd, lv'] 70 := oW1.set 2 (.slice va3 V.length vc3)
  have oW3 : own (st4 (W.setCell ⟨r, 4, none⟩ lv') r (.int .i64 i) (.int .i64 tm) (.slice va3 V.length vc3) (.string d)) r #[.int .i64 i, .int .i64 tm, .slice va3 V.length vc3, .string d, lv'] 70 := oW2.set 3 (.string d)
  have hch : Chg (fun b => b = r) W (st4 (W.setCell ⟨r, 4, none⟩ lv') r (.int .i64 i) (.int .i64 tm) (.slice va3 V.length vc3) (.string d)) := (((((Chg.setCell W ⟨r, 4, none⟩ _).trans (Chg.setCell _ ⟨r, 0, none⟩ _) (fun b e => .inl e)).trans (Chg.setCell _ ⟨r, 1, none⟩ _) (fun b e => .inl e)).trans (Chg.setCell _ ⟨r, 2, none⟩ _) (fun b e => .inl e)).trans (Chg.setCell _ ⟨r, 3, none⟩ _) (fun b e => .inl e))
  have hT : Turn rfRep F w (st4 (W.setCell ⟨r, 4, none⟩ lv') r (.int .i64 i) (.int .i64 tm) (.slice va3 V.length vc3) (.string d)) r ⟨i, tm, V, d, s.ents.drop k⟩ := rf_final (s' := ⟨i, tm, V, d, s.ents.drop k⟩) hWI bW HF.out oW3 hch hV4.row hrow (fun b e => by
    obtain ⟨h1, h2⟩ := hV4.own_ b e
    refine ⟨?_, h2⟩
    rcases h1 with h1 | h1
    · exact .inl h1
    · exact .inr (by omega)) hown
  have HTn := hid hT
  have o94 := o9.other (p := ⟨r, 4, none⟩) (by show g9 ≠ r; omega) lv'
  have k0 := (o94.cell 0).trans rfl
  have k1 := (o94.cell 1).trans rfl
  have k2 := (o94.cell 2).trans rfl
  have k3 := (o94.cell 3).trans rfl
  have m0 := (oW4.cell 0).trans rfl
  have m1 := (oW4.cell 1).trans rfl
  have m2 := (oW4.cell 2).trans rfl
  have m3 := (oW4.cell 3).trans rfl
  have f0 := oW4.frozen 0
  have f1 := oW4.frozen 1
  have f2 := oW4.frozen 2
  have f3 := oW4.frozen 3
  clear hI hc hWI hrow hown oW4 oW0 oW1 oW2 oW3 hch hT o94 o9 hV4 bW hk
  subst hlv
  go_cut [] (fun wx => wx = (W.setCell ⟨r, 4, none⟩ (.slice a4 n4 c4')).drew)
  case first =>
    go_wp2
    go_region
    all_goals
      go_wp2
      go_meet
      rfl
  case rest =>
    subst hcut
    go_wp2
    go_ret
    rw [HT.out]
    exact ⟨rfl, rf_drew HTn.out⟩
end Go.Proofs.Ytiffdhihhggkhaa
