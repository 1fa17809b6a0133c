/-
  LAYER 8 (rlog), THE DOCUMENT's LOG: New.
-/
import Derived.Test.YtiffdhihhggkhaaRlRef8
import Derived.Test.YtiffdhihhggkhaaRlPut3
namespace Go.Proofs.Ytiffdhihhggkhaa
open Go.RowKit
set_option linter.unusedVariables false
set_option maxRecDepth 100000

theorem drewN_drewN (w : World) (n m : Nat) : (w.drewN n).drewN m = w.drewN (n + m) := by
  simp [World.drewN, Nat.add_assoc]
set_option maxHeartbeats 2000000 in
/-- Last leaves the world. -/
theorem rfLast_q {w : World} {F : Nat → Prop} {r : Nat} {s : Rl} (h : rfRep.Is w F r s) (hB : RlB s) (m : Nat) : Calls Try.prog 23 #[.pointer (some ⟨r, 0, none⟩)] (w.drewN m) fun e w' => e = .returned (.int .i64 s.last) ∧ ∃ n, w' = w.drewN n := by
  obtain ⟨va, vc, la, lc, _, hc⟩ := rf_c h
  obtain ⟨c0, c1, c2, c3, c4⟩ := hc w (Below.refl _ _)
  have h1 := hB.bi
  have h2 := hB.len
  have h3 := hB.ok.pos
  have hwr : IntKind.i64.wrap (s.bi + (s.ents.length : Int)) = s.bi + s.ents.length := by rw [IntKind.wrap_i64]; omega
  clear h hc hB h1 h2 h3
  unfold Rl.last
  generalize s.bi = bi at *
  generalize s.ents.length = n at *
  go_enter Try.func23, Try.ntmps23
  go_wp2
  go_quiet (fail)
  all_goals
    go_wp2
    go_ret
    exact ⟨rfl, _, drewN_drewN _ _ _⟩
/-- New's loop at its i-th round: the log holds A. -/
structure NwAt (w : World) (X : Nat → Prop) (r : Nat) (bi bt : Int) (vot : List Int) (bd : ByteArray) (l : List Me) (i : Nat) (A : List Me) (wr : World) : Prop where
  is : ∃ F, rfRep.Is wr F r ⟨bi, bt, vot, bd, A⟩ ∧ ∀ b, F b → w.heap.size ≤ b ∨ X b
  b : RlB ⟨bi, bt, vot, bd, A⟩
  below : Below w.heap.size w wr
  eq : A ++ nextE (bi + A.length) (l.drop i) = nextE bi l
def NwRel (w : World) (X : Nat → Prop) (r : Nat) (bi bt : Int) (vot : List Int) (bd : ByteArray) (l : List Me) (v : Value) (wr : World) : Prop := ∃ i : Nat, i ≤ l.length ∧ v = .int .i64 (i : Int) ∧ Hid (∃ A, NwAt w X r bi bt vot bd l i A wr)
theorem rlB_part {bi bt : Int} {vot : List Int} {bd : ByteArray} {A C : List Me} (h : RlB ⟨bi, bt, vot, bd, A ++ C⟩) : RlB ⟨bi, bt, vot, bd, A⟩ :=
  ⟨⟨h.ok.pos, fun k x hx => h.ok.rises k x (by show (A ++ C)[k]? = some x; rw [List.getElem?_append_left (List.getElem?_eq_some_iff.1 hx).1]; exact hx)⟩, h.bi, by have := h.len; simp only [List.length_append] at this; show A.length ≤ 5000; omega, h.bt, h.vot, h.vl, h.bd, fun e he => h.ents e (by show e ∈ A ++ C; simp [he])⟩
theorem nextE_stop {b : Int} {e : Me} {r : List Me} (h : b + 1 < e.idx) : nextE b (e :: r) = [] := by
  unfold nextE
  rw [if_pos h]
theorem nextE_take {b : Int} {e : Me} {r : List Me} (h : e.idx = b + 1) : nextE b (e :: r) = e :: nextE (b + 1) r := by
  rw [show nextE b (e :: r) = if b + 1 < e.idx then [] else if e.idx = b + 1 then e :: nextE (b + 1) r else nextE b r from rfl, if_neg (by omega), if_pos h]
theorem nextE_skip {b : Int} {e : Me} {r : List Me} (h : e.idx < b + 1) : nextE b (e :: r) = nextE b r := by
  rw [show nextE b (e :: r) = if b + 1 < e.idx then [] else if e.idx = b + 1 then e :: nextE (b + 1) r else nextE b r from rfl, if_neg (by omega), if_neg (by omega)]
set_option maxHeartbeats 16000000 in
theorem rfNew_any {w : World} (bi bt : Int) (vv : Value) (vot : List Int) (bd : ByteArray) (ev : Value) (l : List Me) (hv : RAt numTy w vv vot) (hvl : ∀ b, vv.ownBlock = some b → b < w.heap.size) (he : RAt enTy w ev l) (hB : RlB (newL bi bt vot bd l)) (hl : l.length ≤ 1000) : Calls Try.prog 15 #[baseV bi bt vv bd, ev] w fun e w' => ∃ r F, e = .returned (.pointer (some ⟨r, 0, none⟩)) ∧ rfRep.Is w' F r (newL bi bt vot bd l) ∧ (∀ b, F b → w.heap.size ≤ b ∨ vv.ownBlock = some b) ∧ Below w.heap.size w w' := by
  unfold baseV
  obtain ⟨va, vc, rfl, hAr⟩ := id hv
  clear hAr
  obtain ⟨vn, hvn⟩ : ∃ n, vot.length = n := ⟨_, rfl⟩
  rw [hvn] at hv hvl
  rw [hvn]
  obtain ⟨ea, ec, rfl, hat⟩ := en_at he
  have HE := hid hat
  have hB0 : RlB ⟨bi, bt, vot, bd, []⟩ := rlB_part (A := []) (C := nextE bi l) hB
  have hz1 : (w.alloc (.cells #[.int .i64 bi, .int .i64 bt, .slice va vn vc, .string bd] 33)).heap.size = w.heap.size + 1 := by simp
  have b1 : Below w.heap.size w ((w.alloc (.cells #[.int .i64 bi, .int .i64 bt, .slice va vn vc, .string bd] 33)).alloc (.cells #[.int .i64 bi, .int .i64 bt, .slice va vn vc, .string bd, .slice none 0 0] 70)) := ((Below.refl _ _).alloc (Nat.le_refl _) _).alloc (by simp) _
  have ol := own.new (w.alloc (.cells #[.int .i64 bi, .int .i64 bt, .slice va vn vc, .string bd] 33)) #[.int .i64 bi, .int .i64 bt, .slice va vn vc, .string bd, .slice none 0 0] 70
  have HStart : Hid (NwAt w (fun b => (Value.slice va vn vc).ownBlock = some b) (w.heap.size + 1) bi bt vot bd l 0 [] ((w.alloc (.cells #[.int .i64 bi, .int .i64 bt, .slice va vn vc, .string bd] 33)).alloc (.cells #[.int .i64 bi, .int .i64 bt, .slice va vn vc, .string bd, .slice none 0 0] 70))) := hid ⟨⟨fun b => b = w.heap.size + 1 ∨ (Value.slice va vn vc).ownBlock = some b, ⟨_, _, by rw [← hz1]; exact ol, hv.below b1, rAt_nil _, .inl rfl, fun b e => .inr e, fun b e => by simp [Value.ownBlock] at e, fun b e => by
      have h3 : ((w.alloc (.cells #[.int .i64 bi, .int .i64 bt, .slice va vn vc, .string bd] 33)).alloc (.cells #[.int .i64 bi, .int .i64 bt, .slice va vn vc, .string bd, .slice none 0 0] 70)).heap.size = w.heap.size + 2 := by simp
      rcases e with e | e
      · omega
      · have := hvl b e; omega, fun e => by have := hvl _ e; omega, fun e => by simp [Value.ownBlock] at e⟩, fun b e => by
      rcases e with e | e
      · exact .inl (by omega)
      · exact .inr e⟩, hB0, b1, by simp [List.drop_zero]⟩
  obtain ⟨ln, hln⟩ : ∃ n, l.length = n := ⟨_, rfl⟩
  rw [hln]
  have HLn := hid hln
  have HBn := hid hB
  clear hB hB0 hz1 b1 ol hat he hv hln
  go_enter Try.func15, Try.ntmps15
  go_wp2
  go_loopw [6] (NwRel w (fun b => (Value.slice va vn vc).ownBlock = some b) (w.heap.size + 1) bi bt vot bd l) (fun i _ => ln - (intOf i).toNat)
  case atStart => exact ⟨0, Nat.zero_le _, rfl, hid ⟨[], HStart.out⟩⟩
  case round =>
    clear HStart
    obtain ⟨i, hi, rfl, hq⟩ := hrel
    obtain ⟨A, hq⟩ := hq.out
    have HQ := hid hq
    by_cases hin : i < ln
    · have hiI : (i : Int) < (ln : Int) := by omega
      obtain ⟨x, hx⟩ : ∃ x, l[i]? = some x := ⟨_, List.getElem?_eq_getElem (by rw [HLn.out]; exact hin)⟩
      obtain ⟨sb, so, rfl, hce⟩ := HE.out i x hx
      obtain ⟨d0, d1, d2, d3⟩ := hce wr hq.below
      obtain ⟨F, hIs, hFF⟩ := hq.is
      have hlast := hq.b.last
      have hw1 : IntKind.i64.wrap ((⟨bi, bt, vot, bd, A⟩ : Rl).last + 1) = (⟨bi, bt, vot, bd, A⟩ : Rl).last + 1 := by rw [IntKind.wrap_i64]; omega
      have HQL := hid (rfLast_q hIs hq.b)
      have HLa : Hid ((⟨bi, bt, vot, bd, A⟩ : Rl).last = bi + A.length) := hid rfl
      have hdr : l.drop i = x :: l.drop (i + 1) := by
        rw [List.drop_eq_getElem_cons (by rw [HLn.out]; exact hin)]
        congr 1
        exact Option.some.inj ((List.getElem?_eq_getElem (by rw [HLn.out]; exact hin)).symm.trans hx)
      have HD := hid hdr
      have HX := hid hx
      clear hq hx hdr
      obtain ⟨la, hla⟩ : ∃ n, (⟨bi, bt, vot, bd, A⟩ : Rl).last = n := ⟨_, rfl⟩
      rw [hla] at HQL hw1 HLa hlast
      have HQ2 : Hid (∀ n wq, wr.drewN n = wq → (wq.cell? ⟨sb, so + i * 4, none⟩ = some (.int .i64 x.idx) ∧ wq.cell? ⟨sb, so + i * 4 + 1, none⟩ = some (.int .i64 x.term) ∧ wq.cell? ⟨sb, so + i * 4 + 2, none⟩ = some (.int .i64 x.kind) ∧ wq.cell? ⟨sb, so + i * 4 + 3, none⟩ = some (.string x.dt)) ∧ Hid (Below wr.heap.size wr wq ∧ rfRep.Is wq F (w.heap.size + 1) ⟨bi, bt, vot, bd, A⟩) ∧ Hid (∀ m, Calls Try.prog 23 #[.pointer (some ⟨w.heap.size + 1, 0, none⟩)] (wq.drewN m) fun e w' => e = .returned (.int .i64 la) ∧ ∃ k, w' = wq.drewN k)) := hid (fun n wq hwq => by
        have hb := below_drew (Below.refl wr.heap.size wr) n
        rw [hwq] at hb
        have hIs2 := rf_later hIs hb
        refine ⟨hce wq (HQ.out.below.trans (hb.mono HQ.out.below.size)), hid ⟨hb, hIs2⟩, hid (fun m => ?_)⟩
        have := rfLast_q hIs2 HQ.out.b m
        rw [hla] at this
        exact this)
      have HCE := hid hce
      clear hce
      by_cases e1 : la + 1 < x.idx
      · have HF : Hid (A = nextE bi l) := hid (by
          have h1 := HQ.out.eq
          rw [HD.out, nextE_stop (by rw [← HLa.out]; exact e1), List.append_nil] at h1
          exact h1)
        go_wp2
        go_quiet ((go_at_call 23; exact HQL.out _))
        all_goals
          go_wp2
          go_ret
          exact ⟨_, F, rfl, by have := rf_later hIs (below_drew (Below.refl _ _) nq); rw [HF.out] at this; exact this, hFF, below_drew HQ.out.below _⟩
      · have e1' : x.idx ≤ la + 1 := by omega
        by_cases e2 : x.idx = la + 1
        · have q2 : (x.idx == la + 1) = true := by rw [e2]; exact beq_self_eq_true _
          have HNext : Hid (∀ W' F', rfRep.Is W' F' (w.heap.size + 1) ⟨bi, bt, vot, bd, A ++ [x]⟩ → Chg (fun b => b = w.heap.size + 1) wr W' → (∀ b, F' b → F b ∨ wr.heap.size ≤ b) → NwAt w (fun b => (Value.slice va vn vc).ownBlock = some b) (w.heap.size + 1) bi bt vot bd l (i + 1) (A ++ [x]) W') := hid (fun W' F' h1 h2 h3 => by
            have heq := HQ.out.eq
            rw [HD.out, nextE_take (by rw [← HLa.out]; exact e2)] at heq
            have heq2 : (A ++ [x]) ++ nextE (bi + ((A ++ [x]).length : Nat)) (l.drop (i + 1)) = nextE bi l := by
              rw [← heq, List.append_assoc, List.singleton_append, List.length_append, List.length_singleton]
              push_cast
              rw [Int.add_assoc]
            have hBx : RlB ⟨bi, bt, vot, bd, A ++ [x]⟩ := rlB_part (C := nextE (bi + ((A ++ [x]).length : Nat)) (l.drop (i + 1))) (by rw [heq2]; exact HBn.out)
            have hsz := HQ.out.below.size
            refine ⟨⟨F', h1, fun b e => ?_⟩, hBx, ?_, heq2⟩
            · rcases h3 b e with k | k
              · exact hFF b k
              · exact .inl (by omega)
            · exact HQ.out.below.trans (h2.below hsz (fun b e => by omega)))
          clear e2
          go_wp2
          go_quiet ((go_at_call 23; exact HQL.out _))
          all_goals
            go_wp2
            generalize hwq : wr.drewN nq = wq
            obtain ⟨⟨d4, d5, d6, d7⟩, HWI, HQ3⟩ := HQ2.out _ _ hwq
            clear hwq d0 d1 d2 d3
            go_quiet ((go_at_call 23; exact HQ3.out _))
            all_goals
              go_wp2
              generalize hW : wq.drewN nq = W
              have hbW : Below wr.heap.size wr W := by rw [← hW]; exact below_drew HWI.out.1 _
              have hIW : rfRep.Is W F (w.heap.size + 1) ⟨bi, bt, vot, bd, A⟩ := by rw [← hW]; exact rf_later HWI.out.2 (below_drew (Below.refl _ _) _)
              clear hW d4 d5 d6 d7 HQ3 HWI HQL HQ2
              obtain ⟨lp, lc, aA, bA, wA, aA2, bA2, wA2, aB, bB, wB, aB2, bB2, wB2, aC, bC, wC, aC2, bC2, wC2, P⟩ := put3 hIW (by have := HQ.out.b.len; show A.length ≤ 100000; have h5 : A.length ≤ 5000 := this; omega) x
              obtain ⟨c1, c2, c3, c4, c5, c6, c7, c8, c9⟩ := P.at_
              obtain ⟨⟨d0, d1, d2, d3⟩, ⟨d4, d5, d6, d7⟩, ⟨d8, d9, d10, d11⟩, ⟨d12, d13, d14, d15⟩, ⟨d16, d17, d18, d19⟩, ⟨d20, d21, d22, d23⟩, ⟨d24, d25, d26, d27⟩, ⟨d28, d29, d30, d31⟩, ⟨d32, d33, d34, d35⟩⟩ := P.all (fun wx hb => HCE.out wx (HQ.out.below.trans ((hbW.trans (hb.mono hbW.size)).mono HQ.out.below.size)))
              have eA := P.A.e
              have fA := P.A.f
              have eB := P.B.e
              have fB := P.B.f
              have eC := P.C.e
              have fC := P.C.f
              obtain ⟨k1, g1, t1, v1⟩ := P.A.fin
              obtain ⟨k2, g2, t2, v2⟩ := P.B.fin
              obtain ⟨k3, g3, t3, v3⟩ := P.C.fin
              have HEnd : Hid (∀ W', Turn rfRep F W W' (w.heap.size + 1) ⟨bi, bt, vot, bd, A ++ [x]⟩ → Chg (fun b => b = w.heap.size + 1) W W' → ∃ A, NwAt w (fun b => (Value.slice va vn vc).ownBlock = some b) (w.heap.size + 1) bi bt vot bd l (i + 1) A W') := hid (fun W' ht h2 => by
                obtain ⟨F', h1, -, h3⟩ := ht
                exact ⟨_, HNext.out W' F' h1 ((Chg.of_below hbW).trans h2 (fun b e => .inl e)) (fun b e => by
                  rcases h3 b e with k | k
                  · exact .inl k
                  · exact .inr (by have := hbW.size; omega))⟩)
              clear P hIW hbW HNext HCE
              go_region_law (first
                | (refine step_append_at eA.out (by with_reducible rfl) rfl _ _ rfl rfl rfl rfl ?_)
                | (refine step_append_at fA.out (by with_reducible rfl) rfl _ _ rfl rfl rfl rfl ?_)
                | (refine step_append_at eB.out (by with_reducible rfl) rfl _ _ rfl rfl rfl rfl ?_)
                | (refine step_append_at fB.out (by with_reducible rfl) rfl _ _ rfl rfl rfl rfl ?_)
                | (refine step_append_at eC.out (by with_reducible rfl) rfl _ _ rfl rfl rfl rfl ?_)
                | (refine step_append_at fC.out (by with_reducible rfl) rfl _ _ rfl rfl rfl rfl ?_))
              all_goals
                go_wp2
                go_roundw
                case rel =>
                  first
                    | exact ⟨i + 1, by have := HLn.out; omega, by go_num, hid (HEnd.out _ t1.out v1.out)⟩
                    | exact ⟨i + 1, by have := HLn.out; omega, by go_num, hid (HEnd.out _ t2.out v2.out)⟩
                    | exact ⟨i + 1, by have := HLn.out; omega, by go_num, hid (HEnd.out _ t3.out v3.out)⟩
                case measure => simp [intOf]; omega
        · have q2 : (x.idx == la + 1) = false := beq_false_of_ne e2
          have HN : Hid (∀ n, ∃ A, NwAt w (fun b => (Value.slice va vn vc).ownBlock = some b) (w.heap.size + 1) bi bt vot bd l (i + 1) A (wr.drewN n)) := hid (fun n => ⟨A, ⟨F, rf_later hIs (below_drew (Below.refl _ _) n), hFF⟩, HQ.out.b, below_drew HQ.out.below _, by
            have h1 := HQ.out.eq
            rw [HD.out, nextE_skip (by rw [← HLa.out]; omega)] at h1
            exact h1⟩)
          clear e2
          go_wp2
          go_quiet ((go_at_call 23; exact HQL.out _))
          all_goals
            go_wp2
            generalize hwq : wr.drewN nq = wq
            obtain ⟨⟨d4, d5, d6, d7⟩, -, HQ3⟩ := HQ2.out _ _ hwq
            have HWQ := hid hwq
            clear hwq d0 d1 d2 d3
            go_quiet ((go_at_call 23; exact HQ3.out _))
            all_goals
              go_wp2
              go_roundw
              case rel => exact ⟨i + 1, by have := HLn.out; omega, by go_num, hid (by rw [← HWQ.out, drewN_drewN]; exact HN.out _)⟩
              case measure => simp [intOf]; omega
    · have hin2 : i = ln := by have := HLn.out; omega
      have hiI : (ln : Int) ≤ (i : Int) := by omega
      have HF : Hid (A = nextE bi l) := hid (by
        have h1 := HQ.out.eq
        rw [List.drop_eq_nil_of_le (by rw [HLn.out]; omega)] at h1
        simpa [nextE] using h1)
      clear hin2 hq
      obtain ⟨F, hIs, hFF⟩ := HQ.out.is
      go_wp2
      go_ret
      exact ⟨_, F, rfl, by have := hIs; rw [HF.out] at this; exact this, hFF, HQ.out.below⟩
end Go.Proofs.Ytiffdhihhggkhaa
