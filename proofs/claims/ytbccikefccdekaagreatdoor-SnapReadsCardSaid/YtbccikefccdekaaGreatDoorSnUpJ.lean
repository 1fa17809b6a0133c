import Derived.Test.YtbccikefccdekaaGreatDoorSnThHJ
import Derived.Test.YtbccikefccdekaaGreatDoorSnTdJ
/-
  LAYER 4 (snap), THE PROGRAM: Unpack.
-/
namespace Go.Proofs.YtbccikefccdekaaGreatDoor
open Go.RowKit
set_option linter.unusedVariables false
set_option maxRecDepth 100000

def UpPost (w : World) (S : List UInt8) (e : Ending) (w' : World) : Prop := ∃ vv, e = .returned (.tuple #[bval (unpackS S).1 vv, .int .i64 ((unpackS S).2 : Int)]) ∧ Below w.heap.size w w' ∧ BAt w' vv (unpackS S).1 ∧ ∀ x, vv.ownBlock = some x → w.heap.size ≤ x
theorem bAt_zero (w : World) : BAt w (.slice none 0 0) bs0 := ⟨⟨by decide, by decide⟩, ⟨by decide, by decide⟩, ⟨none, 0, rfl, fun h => absurd rfl h⟩, by simp [bs0], by simp [bs0], by simp [bs0]⟩
theorem up_zero {w w' : World} {S : List UInt8} {e : Nat} (h : unpackS S = (bs0, e)) (hb : Below w.heap.size w w') : UpPost w S (.returned (.tuple #[.agg #[.int .i64 0, .int .i64 0, .slice none 0 0, .string ⟨#[]⟩], .int .i64 (e : Int)])) w' := by
  refine ⟨.slice none 0 0, ?_, hb, ?_, fun x hx => by cases hx⟩
  · rw [h]; rfl
  · rw [h]; exact bAt_zero w'
theorem BAt.data {w : World} {vv : Value} {b : Bs} (h : BAt w vv b) (d : List UInt8) (hd : d.length ≤ 100000000) : BAt w vv { b with data := d } := ⟨h.ix, h.tm, h.vot, h.vl, h.v64, hd⟩
theorem unpack_a {S : List UInt8} {e : Nat} (hu : unframeS S = ([], 0, e)) (he : e ≠ 0) : unpackS S = (bs0, e) := by
  unfold unpackS
  rw [hu]
  exact if_pos he
theorem unpack_b {S p : List UInt8} {k : Nat} (hu : unframeS S = (p, k, 0)) : unpackS S = match nums p with
    | none => (bs0, 8)
    | some l =>
      if headOk l = false then (bs0, 8) else
      if (dataS (S.drop k) (headB l).2.toNat).2.2 ≠ 0 then (bs0, (dataS (S.drop k) (headB l).2.toNat).2.2) else
      if (dataS (S.drop k) (headB l).2.toNat).2.1 ≠ [] then (bs0, 8) else
      ({ (headB l).1 with data := (dataS (S.drop k) (headB l).2.toNat).1 }, 0) := by
  unfold unpackS
  rw [hu]
  exact if_neg (by simp)
/-- The head's box, and the answer's, behind toData. -/
structure UpX (w w7 : World) (g : Nat) (ix tm : Int) (vv : Value) (db : ByteArray) : Prop where
  c3 : w7.cell? ⟨g, 3, none⟩ = some (.string ⟨#[]⟩)
  f3 : w7.frozen? ⟨g, 3, none⟩ = false
  d0 : (w7.setCell ⟨g, 3, none⟩ (.string db)).cell? ⟨g, 0, none⟩ = some (.int .i64 ix)
  d1 : (w7.setCell ⟨g, 3, none⟩ (.string db)).cell? ⟨g, 1, none⟩ = some (.int .i64 tm)
  d2 : (w7.setCell ⟨g, 3, none⟩ (.string db)).cell? ⟨g, 2, none⟩ = some vv
  d3 : (w7.setCell ⟨g, 3, none⟩ (.string db)).cell? ⟨g, 3, none⟩ = some (.string db)
  qz : QBox (w7.setCell ⟨g, 3, none⟩ (.string db)) w.heap.size (.int .i64 0) (.int .i64 0) (.slice none 0 0) (.string ⟨#[]⟩) (.int .i64 0) (.int .i64 0) (.slice none 0 0) (.string ⟨#[]⟩)
  qr : QBox (w7.setCell ⟨g, 3, none⟩ (.string db)) w.heap.size (.int .i64 0) (.int .i64 0) (.slice none 0 0) (.string ⟨#[]⟩) (.int .i64 ix) (.int .i64 tm) vv (.string db)
  bz : ∀ u0 u1 u2 u3, Below w.heap.size w (qst4 (w7.setCell ⟨g, 3, none⟩ (.string db)) w.heap.size u0 u1 u2 u3)
  bx : ∀ u0 u1 u2 u3, Chg (fun x => x = g ∨ x = w.heap.size) w7 (qst4 (w7.setCell ⟨g, 3, none⟩ (.string db)) w.heap.size u0 u1 u2 u3)
theorem upX_of {w w7 : World} {g : Nat} {ix tm : Int} {vv : Value} (og : own w7 g #[.int .i64 ix, .int .i64 tm, vv, .string ⟨#[]⟩] 24) (orr : own w7 w.heap.size #[.int .i64 0, .int .i64 0, .slice none 0 0, .string ⟨#[]⟩] 24) (hg : w.heap.size < g) (hb : Below w.heap.size w w7) (db : ByteArray) : UpX w w7 g ix tm vv db := by
  have o8 : own (w7.setCell ⟨g, 3, none⟩ (.string db)) g #[.int .i64 ix, .int .i64 tm, vv, .string db] 24 := og.set 3 _
  have r8 : own (w7.setCell ⟨g, 3, none⟩ (.string db)) w.heap.size #[.int .i64 0, .int .i64 0, .slice none 0 0, .string ⟨#[]⟩] 24 := orr.other (p := ⟨g, 3, none⟩) (by show w.heap.size ≠ g; omega) _
  have b8 := hb.setCell (p := ⟨g, 3, none⟩) (show w.heap.size ≤ g by omega) (.string db)
  exact ⟨(og.cell 3).trans rfl, og.frozen 3, (o8.cell 0).trans rfl, (o8.cell 1).trans rfl, (o8.cell 2).trans rfl, (o8.cell 3).trans rfl, qbox_of r8 _ _ _ _, qbox_of r8 _ _ _ _, fun u0 u1 u2 u3 => qst4_below b8 (Nat.le_refl _) _ _ _ _,
    fun u0 u1 u2 u3 => ((Chg.setCell w7 ⟨g, 3, none⟩ (.string db)).mono (fun x e => .inl e)).trans (qst4_chg _ w.heap.size u0 u1 u2 u3) (fun x e => .inl (.inr e))⟩
theorem bAt_chg0 {w w' : World} {vv : Value} {b : Bs} {F : Nat → Prop} (h : BAt w vv b) (hc : Chg F w w') (hF : b.vot ≠ [] → ∀ x, vv.ownBlock = some x → ¬ F x) : BAt w' vv b := by
  refine ⟨h.ix, h.tm, ?_, h.vl, h.v64, h.dl⟩
  obtain ⟨a, cap, rfl, hcells⟩ := h.vot
  refine ⟨a, cap, rfl, fun hne => ?_⟩
  obtain ⟨sb, so, rfl, hlt, hx⟩ := hcells hne
  refine ⟨sb, so, rfl, Nat.lt_of_lt_of_le hlt hc.size, fun j x hj => ?_⟩
  rw [← hx j x hj]
  exact World.cell?_of_block (hc.block _ hlt (hF hne sb rfl))
theorem bAt_chg {w w' : World} {vv : Value} {b : Bs} {F : Nat → Prop} (h : BAt w vv b) (hc : Chg F w w') (hF : ∀ x, vv.ownBlock = some x → ¬ F x) : BAt w' vv b := bAt_chg0 h hc (fun _ => hF)
def HeadAny : Prop := ∀ (s : ByteArray) (w : World), s.size ≤ 1000000 → Calls Tryz.prog 30 #[.string s] w (HdPost w s.data.toList)
set_option maxHeartbeats 16000000 in
theorem snUnpack_of (toHead_any : HeadAny) (s : ByteArray) (w : World) (hs : s.size ≤ 100000000) (hT : Steps w) (hst : 0 < w.heap.size) : Calls Tryz.prog 12 #[.string s] w (UpPost w s.data.toList) := by
  obtain ⟨S, hS⟩ : ∃ S, s.data.toList = S := ⟨_, rfl⟩
  have hsz : S.length ≤ 100000000 := by rw [← hS, str_len]; exact hs
  obtain ⟨W0, hW0⟩ : ∃ W0, w.alloc (.cells zbox 24) = W0 := ⟨_, rfl⟩
  have hb0 : Below w.heap.size w W0 := by rw [← hW0]; exact (Below.refl _ _).alloc (Nat.le_refl _) _
  have o0 : own W0 w.heap.size zbox 24 := by rw [← hW0]; exact own.new w _ _
  have hS0 : Steps W0 := fun i hi => (hb0.cell (p := ⟨0, i, none⟩) hst).trans (hT i hi)
  have hs0 : 0 < W0.heap.size := by have := hb0.size; omega
  have hU := snUnframe_any s W0 (by unfold maxLen; omega) hS0
  rw [hS] at hU ⊢
  dsimp only [zbox] at hW0 o0
  have HZ : Hid (∀ w1, Below W0.heap.size W0 w1 → ∀ u0 u1 u2 u3, QBox w1 w.heap.size (.int .i64 0) (.int .i64 0) (.slice none 0 0) (.string ⟨#[]⟩) u0 u1 u2 u3 ∧ Below w.heap.size w (qst4 w1 w.heap.size u0 u1 u2 u3)) := hid (fun w1 h1 u0 u1 u2 u3 => by
    have o1 := o0.same (h1.block _ o0.lt)
    exact ⟨qbox_of o1 _ _ _ _, qst4_below (hb0.trans (h1.mono hb0.size)) (Nat.le_refl _) _ _ _ _⟩)
  unfold unfSRes at hU
  rcases unframeS_cases S with ⟨e, hu, he⟩ | ⟨p, hu, hp, hps, hpf⟩
  · rw [hu] at hU
    simp only at hU
    have HU := hid hU
    have HE := hid (fun w' (hb : Below w.heap.size w w') => up_zero (unpack_a hu (by omega)) hb)
    have hq : ((e : Int) == 0) = false := beq_eq_false_iff_ne.2 (by omega)
    clear hU hu he o0 hb0 hT hS0
    generalize mk (S.drop 0) = rb at *
    generalize mk ([] : List UInt8) = eb at *
    go_enter Tryz.func12, Tryz.ntmps12
    go_wp2_with (go_at_call 29; (with_reducible refine HU.out.mono ?_); rintro e1 w1 ⟨rfl, hb1⟩; obtain ⟨⟨m0, m1, m2, m3, f0, f1, f2, f3, e0, e1, e2, e3⟩, hfb⟩ := HZ.out _ hb1 (.int .i64 0) (.int .i64 0) (.slice none 0 0) (.string ⟨#[]⟩))
    exact bodyPost_ret (v := .tuple #[.agg #[.int .i64 0, .int .i64 0, .slice none 0 0, .string ⟨#[]⟩], .int .i64 (e : Int)]) (by simp [results, Tryz.results12, go_sem, e0, e1, e2, e3]) rfl (HE.out _ hfb)
  · rw [hu] at hU
    simp only at hU
    have hub := unpack_b hu
    have HU := hid hU
    have HTh : Hid (∀ w1, Calls Tryz.prog 30 #[.string (mk p)] w1 (HdPost w1 p)) := hid (fun w1 => by
      have := toHead_any (mk p) w1 (by rw [mk_size]; omega)
      rw [mk_data] at this
      exact this)
    have hbad : (∀ l, nums p = some l → headOk l = false) → unpackS S = (bs0, 8) := fun h => by
      rw [hub]
      cases hn : nums p with
      | none => rfl
      | some l => exact if_pos (h l hn)
    by_cases hok : ∃ l, nums p = some l ∧ headOk l = true
    · obtain ⟨l, hn, hok⟩ := hok
      obtain ⟨_, _, hro, hl0, hl1⟩ := headOk_parts hok
      obtain ⟨n0, hn0⟩ : ∃ n0 : Nat, (headB l).2 = (n0 : Int) := ⟨(headB l).2.toNat, by omega⟩
      have hub2 := hub
      rw [hn] at hub2
      simp only at hub2
      rw [if_neg (by rw [hok]; simp), hn0, Int.toNat_natCast] at hub2
      obtain ⟨B0, hB0⟩ : ∃ B0, (headB l).1 = B0 := ⟨_, rfl⟩
      have hB0d : B0.data = [] := by rw [← hB0]; rfl
      have HTh1 : Hid (∀ w1, Below W0.heap.size W0 w1 → Calls Tryz.prog 30 #[.string (mk p)] w1 fun e w' => ∃ a k c, e = .returned (.tuple #[.agg #[.int .i64 B0.ix, .int .i64 B0.tm, .slice a k c, .string ⟨#[]⟩], .int .i64 (n0 : Int), .bool true]) ∧ Below W0.heap.size W0 w' ∧ Hid (BAt w' (.slice a k c) B0 ∧ ∀ x, (Value.slice a k c).ownBlock = some x → w.heap.size < x)) := hid (fun w1 hb1 => by
        refine (HTh.out w1).mono ?_
        rintro e w' ⟨b, a, k, c, n, ok, he, hb, hmt⟩
        rw [hn] at hmt
        simp only at hmt
        obtain ⟨h1, h2⟩ := hmt
        rw [hok] at h1
        subst h1
        obtain ⟨rfl, rfl, hba, hnw⟩ := h2 rfl
        rw [hB0] at he hba
        refine ⟨a, k, c, ?_, hb1.trans (hb.mono hb1.size), hid ⟨hba, ?_⟩⟩
        · rw [he, hn0]
          show Ending.returned (.tuple #[.agg #[.int .i64 B0.ix, .int .i64 B0.tm, .slice a k c, .string (mk B0.data)], _, _]) = _
          rw [hB0d]
          rfl
        · intro x e1
          have := hnw _ e1
          have := hb1.size
          have := o0.lt
          omega)
      have HTd : Hid (∀ w1, Below W0.heap.size W0 w1 → Calls Tryz.prog 31 #[.string (mk (S.drop (8 + p.length))), .int .i64 (n0 : Int)] w1 (TdPost w1 (dataS (S.drop (8 + p.length)) n0))) := hid (fun w1 hb1 => by
        have := toData_any (mk (S.drop (8 + p.length))) n0 w1 (by rw [mk_size, List.length_drop]; omega) (by omega) (fun i hi => (hb1.cell (p := ⟨0, i, none⟩) hs0).trans (hS0 i hi)) (by have := hb1.size; omega)
        rw [mk_data] at this
        exact this)
      have HAl : Hid (∀ w2 cs T, Below W0.heap.size W0 w2 → Below W0.heap.size W0 (w2.alloc (.cells cs T))) := hid (fun w2 cs T h => h.alloc h.size _)
      have HUX : Hid (∀ w2 a k c, Below W0.heap.size W0 w2 → ∀ w7, Below (w2.alloc (.cells #[.int .i64 B0.ix, .int .i64 B0.tm, .slice a k c, .string ⟨#[]⟩] 24)).heap.size (w2.alloc (.cells #[.int .i64 B0.ix, .int .i64 B0.tm, .slice a k c, .string ⟨#[]⟩] 24)) w7 → ∀ db, UpX w w7 w2.heap.size B0.ix B0.tm (.slice a k c) db) := hid (fun w2 a k c h2 w7 h7 db => by
        have og := own.new w2 #[.int .i64 B0.ix, .int .i64 B0.tm, .slice a k c, .string ⟨#[]⟩] 24
        have hz : (w2.alloc (.cells #[.int .i64 B0.ix, .int .i64 B0.tm, .slice a k c, .string ⟨#[]⟩] 24)).heap.size = w2.heap.size + 1 := by simp
        have h6 : Below W0.heap.size W0 (w2.alloc (.cells #[.int .i64 B0.ix, .int .i64 B0.tm, .slice a k c, .string ⟨#[]⟩] 24)) := h2.alloc h2.size _
        have h67 := h6.trans (h7.mono h6.size)
        exact upX_of (og.same (h7.block _ (by rw [hz]; exact Nat.lt_succ_self _))) (o0.same (h67.block _ o0.lt)) (by have := o0.lt; have := h2.size; omega) (hb0.trans (h67.mono hb0.size)) db)
      have HBA7 : Hid (∀ w2 a k c, Below W0.heap.size W0 w2 → (BAt w2 (.slice a k c) B0 ∧ ∀ x, (Value.slice a k c).ownBlock = some x → w.heap.size < x) → ∀ w7, Below (w2.alloc (.cells #[.int .i64 B0.ix, .int .i64 B0.tm, .slice a k c, .string ⟨#[]⟩] 24)).heap.size (w2.alloc (.cells #[.int .i64 B0.ix, .int .i64 B0.tm, .slice a k c, .string ⟨#[]⟩] 24)) w7 → BAt w7 (.slice a k c) B0 ∧ ∀ x, (Value.slice a k c).ownBlock = some x → ¬ (x = w2.heap.size ∨ x = w.heap.size) ∨ B0.vot = []) := hid (fun w2 a k c h2 hba w7 h7 => by
        have b2 : Below w2.heap.size w2 (w2.alloc (.cells #[.int .i64 B0.ix, .int .i64 B0.tm, .slice a k c, .string ⟨#[]⟩] 24)) := (Below.refl _ _).alloc (Nat.le_refl _) _
        refine ⟨hba.1.below (b2.trans (h7.mono b2.size)), fun x hx => ?_⟩
        by_cases hv : B0.vot = []
        · exact .inr hv
        · left
          rintro (e | e)
          · obtain ⟨a', cap', e1, hc⟩ := hba.1.vot
            cases e1
            obtain ⟨sb, so, rfl, hlt, _⟩ := hc hv
            cases hx
            have e' : sb = w2.heap.size := e
            omega
          · have := hba.2 x hx; omega)
      obtain ⟨d, r, er, hx⟩ : ∃ d r er, dataS (S.drop (8 + p.length)) n0 = (d, r, er) := ⟨_, _, _, rfl⟩
      rw [hx] at HTd hub2
      simp only at hub2
      unfold TdPost at HTd
      simp only at HTd
      have hdl : er = 0 → d.length = n0 := fun h => by subst h; exact (dataS_sound hx).1
      rw [hB0] at hub2
      clear hub HTh hps hpf hu hU o0 hb0 hS0 hT hn hok hbad hx
      by_cases her : er ≠ 0
      · rw [if_pos her] at hub2
        have HE := hid (fun w' (hb : Below w.heap.size w w') => up_zero hub2 hb)
        have hq : ((er : Int) == 0) = false := beq_eq_false_iff_ne.2 (by omega)
        clear hub2 her HBA7
        generalize mk p = pb at *
        generalize mk (S.drop (8 + p.length)) = rb at *
        generalize mk d = db at *
        generalize mk r = sb at *
        go_enter Tryz.func12, Tryz.ntmps12
        go_wp2_with (first
        | (go_at_call 29; (with_reducible refine HU.out.mono ?_); rintro e1 w1 ⟨rfl, hb1⟩)
        | (go_at_call 30; (with_reducible refine (HTh1.out _ hb1).mono ?_); rintro e2 w2 ⟨a, k, c, rfl, hb2, HBA⟩)
        | (go_at_call 31; (with_reducible refine (HTd.out _ (HAl.out _ _ _ hb2)).mono ?_); rintro e3 w7 ⟨rfl, hb7⟩; have HUx := hid (HUX.out _ _ _ _ hb2 _ hb7 db); obtain ⟨c3, f3, d0, d1, d2, d3, ⟨m0, m1, m2, m3, g0, g1, g2, g3, e0, e1, e2, e3⟩, -, -, -⟩ := HUX.out _ _ _ _ hb2 _ hb7 db))
        exact bodyPost_ret (v := .tuple #[.agg #[.int .i64 0, .int .i64 0, .slice none 0 0, .string ⟨#[]⟩], .int .i64 (er : Int)]) (by simp [results, Tryz.results12, go_sem, e0, e1, e2, e3]) rfl (HE.out _ (HUx.out.bz _ _ _ _))
      · rw [if_neg her] at hub2
        have her0 : er = 0 := Decidable.not_not.1 her
        subst her0
        by_cases hr : r = []
        · subst hr
          rw [if_neg (by simp)] at hub2
          have HE : Hid (∀ w2 a k c w7 u, Below W0.heap.size W0 w2 → (BAt w2 (.slice a k c) B0 ∧ ∀ x, (Value.slice a k c).ownBlock = some x → w.heap.size < x) → Below (w2.alloc (.cells #[.int .i64 B0.ix, .int .i64 B0.tm, .slice a k c, .string ⟨#[]⟩] 24)).heap.size (w2.alloc (.cells #[.int .i64 B0.ix, .int .i64 B0.tm, .slice a k c, .string ⟨#[]⟩] 24)) w7 → Below w.heap.size w u → Chg (fun x => x = w2.heap.size ∨ x = w.heap.size) w7 u → UpPost w S (.returned (.tuple #[.agg #[.int .i64 B0.ix, .int .i64 B0.tm, .slice a k c, .string (mk d)], .int .i64 0])) u) := hid (fun w2 a k c w7 u h2 hba h7 hbu hcu => by
            obtain ⟨k1, k2⟩ := HBA7.out w2 a k c h2 hba w7 h7
            refine ⟨.slice a k c, by rw [hub2]; rfl, hbu, ?_, fun x hx => Nat.le_of_lt (hba.2 x hx)⟩
            rw [hub2]
            refine BAt.data ?_ d (by have := hdl rfl; omega)
            by_cases hv : B0.vot = []
            · obtain ⟨a', cap', e1, _⟩ := k1.vot
              exact ⟨k1.ix, k1.tm, ⟨a', cap', e1, fun hne => absurd hv hne⟩, k1.vl, k1.v64, k1.dl⟩
            · exact bAt_chg k1 hcu (fun x hx => (k2 x hx).resolve_right hv))
          have q0 : (!(mk ([] : List UInt8)).toList.isEmpty) = false := by rw [Lib.toList_data]; rfl
          have q1 : (mk ([] : List UInt8)).toList.isEmpty = true := by rw [Lib.toList_data]; rfl
          clear hub2 her HBA7
          generalize mk p = pb at *
          generalize mk (S.drop (8 + p.length)) = rb at *
          generalize mk d = db at *
          go_enter Tryz.func12, Tryz.ntmps12
          go_wp2_with (first
        | (go_at_call 29; (with_reducible refine HU.out.mono ?_); rintro e1 w1 ⟨rfl, hb1⟩)
        | (go_at_call 30; (with_reducible refine (HTh1.out _ hb1).mono ?_); rintro e2 w2 ⟨a, k, c, rfl, hb2, HBA⟩)
        | (go_at_call 31; (with_reducible refine (HTd.out _ (HAl.out _ _ _ hb2)).mono ?_); rintro e3 w7 ⟨rfl, hb7⟩; have HUx := hid (HUX.out _ _ _ _ hb2 _ hb7 db); obtain ⟨c3, f3, d0, d1, d2, d3, -, ⟨m0, m1, m2, m3, g0, g1, g2, g3, e0, e1, e2, e3⟩, -, -⟩ := HUX.out _ _ _ _ hb2 _ hb7 db))
          exact bodyPost_ret (v := .tuple #[.agg #[.int .i64 B0.ix, .int .i64 B0.tm, .slice a k c, .string db], .int .i64 0]) (by simp [results, Tryz.results12, go_sem, e0, e1, e2, e3]) rfl (HE.out _ _ _ _ _ _ hb2 HBA.out hb7 (HUx.out.bz _ _ _ _) (HUx.out.bx _ _ _ _))
        · rw [if_pos hr] at hub2
          have HE := hid (fun w' (hb : Below w.heap.size w w') => up_zero hub2 hb)
          have q1 : (mk r).toList.isEmpty = false := by
            rw [Lib.toList_data]
            obtain ⟨c, t, rfl⟩ := List.exists_cons_of_ne_nil hr
            rfl
          have q0 : (!(mk r).toList.isEmpty) = true := by rw [q1]; rfl
          clear hub2 her HBA7 hr
          generalize mk p = pb at *
          generalize mk (S.drop (8 + p.length)) = rb at *
          generalize mk d = db at *
          generalize mk r = sb at *
          go_enter Tryz.func12, Tryz.ntmps12
          go_wp2_with (first
        | (go_at_call 29; (with_reducible refine HU.out.mono ?_); rintro e1 w1 ⟨rfl, hb1⟩)
        | (go_at_call 30; (with_reducible refine (HTh1.out _ hb1).mono ?_); rintro e2 w2 ⟨a, k, c, rfl, hb2, HBA⟩)
        | (go_at_call 31; (with_reducible refine (HTd.out _ (HAl.out _ _ _ hb2)).mono ?_); rintro e3 w7 ⟨rfl, hb7⟩; have HUx := hid (HUX.out _ _ _ _ hb2 _ hb7 db); obtain ⟨c3, f3, d0, d1, d2, d3, ⟨m0, m1, m2, m3, g0, g1, g2, g3, e0, e1, e2, e3⟩, -, -, -⟩ := HUX.out _ _ _ _ hb2 _ hb7 db))
          exact bodyPost_ret (v := .tuple #[.agg #[.int .i64 0, .int .i64 0, .slice none 0 0, .string ⟨#[]⟩], .int .i64 8]) (by simp [results, Tryz.results12, go_sem, e0, e1, e2, e3]) rfl (HE.out _ (HUx.out.bz _ _ _ _))
    · have hb8 : ∀ l, nums p = some l → headOk l = false := fun l hl => by
        cases h : headOk l with
        | false => rfl
        | true => exact absurd ⟨l, hl, h⟩ hok
      have HE := hid (fun w' (hb : Below w.heap.size w w') => up_zero (hbad hb8) hb)
      have HTh1 : Hid (∀ w1, Below W0.heap.size W0 w1 → Calls Tryz.prog 30 #[.string (mk p)] w1 fun e w' => ∃ x0 x1 a k c n db, e = .returned (.tuple #[.agg #[.int .i64 x0, .int .i64 x1, .slice a k c, .string db], .int .i64 n, .bool false]) ∧ Below W0.heap.size W0 w' ∧ (QBox (w'.alloc (.cells #[.int .i64 x0, .int .i64 x1, .slice a k c, .string db] 24)) w.heap.size (.int .i64 0) (.int .i64 0) (.slice none 0 0) (.string ⟨#[]⟩) (.int .i64 0) (.int .i64 0) (.slice none 0 0) (.string ⟨#[]⟩) ∧ Below w.heap.size w (qst4 (w'.alloc (.cells #[.int .i64 x0, .int .i64 x1, .slice a k c, .string db] 24)) w.heap.size (.int .i64 0) (.int .i64 0) (.slice none 0 0) (.string ⟨#[]⟩)))) := hid (fun w1 hb1 => by
        refine (HTh.out w1).mono ?_
        rintro e w' ⟨b, a, k, c, n, ok, he, hb, hmt⟩
        have hk : ok = false := by
          cases hn : nums p with
          | none => rw [hn] at hmt; exact hmt
          | some l => rw [hn] at hmt; rw [hmt.1]; exact hb8 l hn
        subst hk
        have hbW := hb1.trans (hb.mono hb1.size)
        exact ⟨_, _, a, k, c, n, _, he, hbW, HZ.out _ (hbW.alloc hbW.size _) _ _ _ _⟩)
      clear hb8 hbad hok hub HTh hps hpf hu hU o0 hb0 hS0 hT
      generalize mk p = pb at *
      generalize mk (S.drop (8 + p.length)) = rb at *
      go_enter Tryz.func12, Tryz.ntmps12
      go_wp2_with (first
        | (go_at_call 29; (with_reducible refine HU.out.mono ?_); rintro e1 w1 ⟨rfl, hb1⟩)
        | (go_at_call 30; (with_reducible refine (HTh1.out _ hb1).mono ?_); rintro e2 w2 ⟨x0, x1, a, k, c, n, db, rfl, hb2, ⟨m0, m1, m2, m3, f0, f1, f2, f3, e0, e1, e2, e3⟩, hfb⟩))
      exact bodyPost_ret (v := .tuple #[.agg #[.int .i64 0, .int .i64 0, .slice none 0 0, .string ⟨#[]⟩], .int .i64 8]) (by simp [results, Tryz.results12, go_sem, e0, e1, e2, e3]) rfl (HE.out _ hfb)
end Go.Proofs.YtbccikefccdekaaGreatDoor

