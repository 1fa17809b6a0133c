import Derived.Test.YtpcafkinpkepcaaGreatDoorWq48
import Derived.Test.YtpcafkinpkepcaaGreatDoorWq49
import Derived.WalkLawsBesides
/-
  Wq50: WlFullW, in one text.
-/
/-
  LAYER 3 (wal), the law WalFull: its walk.
-/
namespace Go.Proofs.YtpcafkinpkepcaaGreatDoor
open Go.RowKit Go.Maps
set_option linter.unusedVariables false
set_option maxRecDepth 100000

/-- How a law's log stands between two acts. -/
structure Fu (W wx : World) (T : Nat → Prop) (q p a B0 k : Nat) (s : Dk) (g : Lg) : Prop where
  log : LogAt wx T p a s g
  pair : PairAt wx q a p
  tq : ¬ T q
  good : Good s
  lgin : LgIn k g
  ge : ∀ b, T b → W.heap.size ≤ b
  qge : W.heap.size ≤ q
  glob : Glob wx B0
  b0 : B0 ≤ W.heap.size
  below : Below W.heap.size W wx
theorem Fu.later {W wx wy : World} {T : Nat → Prop} {q p a B0 k : Nat} {s : Dk} {g : Lg} (h : Fu W wx T q p a B0 k s g) (hb : Below wx.heap.size wx wy) : Fu W wy T q p a B0 k s g :=
  ⟨h.log.below hb, own.same h.pair (hb.block _ (own.lt h.pair)), h.tq, h.good, h.lgin, h.ge, h.qge, h.glob.below hb (by have := h.b0; have := h.below.size; omega), h.b0, h.below.trans (hb.mono h.below.size)⟩
theorem Fu.run {W wx wy : World} {T : Nat → Prop} {q p a B0 k k' : Nat} {s s' : Dk} {g g' : Lg} (h : Fu W wx T q p a B0 k s g) (hr : LgRun wx T p a s' g' wy) (hg : Good s') (hl : LgIn k' g') : Fu W wy (grow T wx wy) q p a B0 k' s' g' := by
  have hqlt := own.lt h.pair
  refine ⟨hr.1, own.same h.pair (hr.2.block _ hqlt h.tq), fun e => e.elim h.tq (fun e => by omega), hg, hl, fun b hb => ?_, h.qge, h.glob.chg hr.2 (by have := h.b0; have := h.below.size; omega) (fun b hb => by have := h.ge b hb; have := h.b0; omega), h.b0, h.below.trans (hr.2.below h.below.size h.ge)⟩
  rcases hb with hb | hb
  · exact h.ge b hb
  · have := h.below.size; omega
def FuRel (W : World) (q p a B0 n : Nat) (i : Value) (wr : World) : Prop := ∃ k T s g, k ≤ n ∧ i = .int .i64 (k : Int) ∧ Fu W wr T q p a B0 k s g
theorem Fu.does {W wx : World} {T : Nat → Prop} {q p a B0 k n : Nat} {s : Dk} {g : Lg} (h : Fu W wx T q p a B0 k s g) (hk : k < n) (hn : n ≤ 40) (ac : Wa) (hac : WaOk ac) (hop : pickZ ac.op 10 < 7) (kv nv : Value) (hkv : ∃ x n c, kv = .slice x n c) (hnv : ∃ x n c, nv = .slice x n c) :
    Calls Tryz.prog 18 #[.pointer (some ⟨q, 0, none⟩), waV ac kv nv] wx fun e wy => ∃ r, e = .returned (.int .i64 r) ∧ FuRel W q p a B0 n (.int .i64 ((k + 1 : Nat) : Int)) wy := by
  have hl := h.lgin.len
  refine (does_any3 h.log h.pair h.tq h.glob (by have := h.b0; have := h.below.size; omega) ac hac hop (by omega) kv nv hkv hnv).mono ?_
  rintro e wy ⟨he, hr⟩
  obtain ⟨a1, a2, _⟩ := actW_in h.good h.lgin hac
  exact ⟨_, he, k + 1, _, _, _, by omega, rfl, h.run hr a1 a2⟩
theorem fu_begun {W w w' : World} {q a p mq r ql : Nat} {T S : Nat → Prop} {m : Int} {B0 n : Nat} (hb : Below W.heap.size W w) (hg : Glob w B0) (hB0 : B0 ≤ W.heap.size) (h0 : 100 ≤ m) (h1 : m ≤ 10000000) (h : Begun w w' q a p mq r ql T S (open0 (newD m)).1 (open0 (newD m)).1) : FuRel W q p a B0 n (.int .i64 0) w' := by
  obtain ⟨_, k2, _⟩ := open0_good h0 h1
  have hz := hb.size
  refine ⟨0, T, _, _, Nat.zero_le _, rfl, h.log, h.pair, h.tq, k2, ⟨g0_ok, fun e he => by simp [g0] at he, by simp [g0], fun e he => by simp [g0] at he⟩, fun b hT => by have := h.ge.1 b hT; omega, by have := h.ge.2.2.1; omega, hg.below h.below (by omega), hB0, hb.trans (h.below.mono hz)⟩
/-- WalFull's last save: how it ends. -/
structure FuEnd (W wy : World) (T' : Nat → Prop) (q p a H Bv : Nat) (s' : Dk) (g g' : Lg) (v2 : Value) : Prop where
  log : LogAt wy T' p a s' g'
  pair : PairAt wy q a p
  box : own wy H #[.int .i64 g.hd.term, .int .i64 g.hd.vote] 50
  was : EntRow wy Bv v2 g.L
  below : Below W.heap.size W wy
theorem FuEnd.later {W wy wz : World} {T' : Nat → Prop} {q p a H Bv : Nat} {s' : Dk} {g g' : Lg} {v2 : Value} (h : FuEnd W wy T' q p a H Bv s' g g' v2) (hb : Below wy.heap.size wy wz) : FuEnd W wz T' q p a H Bv s' g g' v2 :=
  ⟨h.log.below hb, own.same h.pair (hb.block _ (own.lt h.pair)), h.box.same (hb.block _ h.box.lt), h.was.same (fun b hb' => hb.block b (World.ownsRow.lt h.was b hb').2), h.below.trans (hb.mono h.below.size)⟩
theorem FuEnd.cells {W wy : World} {T' : Nat → Prop} {q p a H Bv : Nat} {s' : Dk} {g g' : Lg} {v2 : Value} (h : FuEnd W wy T' q p a H Bv s' g g' v2) :
    wy.cell? ⟨q, 0, none⟩ = some (.pointer (some ⟨a, 0, none⟩)) ∧ wy.cell? ⟨q, 1, none⟩ = some (.pointer (some ⟨p, 0, none⟩)) ∧ wy.cell? ⟨H, 0, none⟩ = some (.int .i64 g.hd.term) ∧ wy.cell? ⟨H, 1, none⟩ = some (.int .i64 g.hd.vote) :=
  ⟨(own.cell h.pair 0).trans rfl, (own.cell h.pair 1).trans rfl, (h.box.cell 0).trans rfl, (h.box.cell 1).trans rfl⟩
theorem FuEnd.size {W wy : World} {T' : Nat → Prop} {q p a H Bv : Nat} {s' : Dk} {g g' : Lg} {v2 : Value} (h : FuEnd W wy T' q p a H Bv s' g g' v2) :
    Calls Tryz.prog 41 #[.pointer (some ⟨a, 0, none⟩)] wy fun e wz => e = .returned (.int .i64 (sz s'.L : Int)) ∧ Below wy.heap.size wy wz :=
  h.log.run.reads fun S h1 h2 => by obtain ⟨mb, F, h1⟩ := h1; exact size_any h1
def e500 (d : ByteArray) : En := ⟨500, 9, 2, d.data.toList⟩
/-- The save of number 500, out of a log that stands: to what end. -/
theorem Fu.last {W w3 : World} {T : Nat → Prop} {q p a B0 k H Bv : Nat} {s : Dk} {g : Lg} {v2 : Value} (h : Fu W w3 T q p a B0 k s g) (hk : k ≤ 40) (d : ByteArray) (hd : d.size ≤ 3000) (hend : FuEnd W w3 T q p a H Bv s g g v2) (hH : ¬ T H) (hBv : ∀ b, T b → b < Bv)
    {r : Dk × Lg × Int} (hr : saveL s g g.hd [e500 d] = r) (wk : World) (hb : Below w3.heap.size w3 wk) :
    Calls Tryz.prog 42 #[.pointer (some ⟨p, 0, none⟩), .agg #[.int .i64 g.hd.term, .int .i64 g.hd.vote], .slice (some ⟨wk.heap.size, 0, none⟩) 1 1] (wk.alloc (.cells #[.int .i64 500, .int .i64 9, .int .i64 2, .string d] 78)) fun e wy => e = .returned (.int .i64 r.2.2) ∧
      (wy.cell? ⟨q, 0, none⟩ = some (.pointer (some ⟨a, 0, none⟩)) ∧ wy.cell? ⟨q, 1, none⟩ = some (.pointer (some ⟨p, 0, none⟩)) ∧ wy.cell? ⟨H, 0, none⟩ = some (.int .i64 g.hd.term) ∧ wy.cell? ⟨H, 1, none⟩ = some (.int .i64 g.hd.vote)) ∧ ∃ T', FuEnd W wy T' q p a H Bv r.1 g r.2.1 v2 := by
  subst hr
  have hb2 : Below w3.heap.size w3 (wk.alloc (.cells #[.int .i64 500, .int .i64 9, .int .i64 2, .string d] 78)) := hb.alloc hb.size _
  have h2 := h.later hb2
  have e2 := hend.later hb2
  have hl := h.lgin.len
  refine (save_any h2.log h2.glob (by have := h2.b0; have := h2.below.size; omega) g.hd h.log.ok.hd.2.1 h.log.ok.hd.2.2 _ [e500 d] (ents_lit (l := [e500 d]) rfl 1 rfl) (fun g0 o m c e hT => ?_) (fun e he => ?_) (by simp) (by simp; omega)).mono ?_
  · simp only [Value.slice.injEq, Option.some.injEq, Addr.mk.injEq] at e
    have h1 := h.log.lt g0 hT
    have h2 := hb.size
    omega
  · obtain rfl : e = e500 d := by simpa using he
    exact ⟨⟨⟨by show _ ≤ (500 : Int); omega, by show (500 : Int) ≤ _; omega⟩, ⟨by show _ ≤ (9 : Int); omega, by show (9 : Int) ≤ _; omega⟩, ⟨by show _ ≤ (2 : Int); omega, by show (2 : Int) ≤ _; omega⟩⟩, by show d.data.toList.length ≤ 60000; rw [str_len]; omega⟩
  · rintro e wy ⟨he, hr⟩
    have hz := hr.2.size
    have hf : FuEnd W wy (grow T (wk.alloc (.cells #[.int .i64 500, .int .i64 9, .int .i64 2, .string d] 78)) wy) q p a H Bv (saveL s g g.hd [e500 d]).1 g (saveL s g g.hd [e500 d]).2.1 v2 :=
      ⟨hr.1, own.same e2.pair (hr.2.block _ (own.lt e2.pair) h.tq), e2.box.same (hr.2.block _ e2.box.lt hH), e2.was.same (fun b hb' => hr.2.block b (World.ownsRow.lt e2.was b hb').2 (fun hT => by have h1 := hBv b hT; have h2 := (World.ownsRow.lt e2.was b hb').1; omega)), e2.below.trans (hr.2.below e2.below.size h.ge)⟩
    exact ⟨he, hf.cells, _, hf⟩
set_option maxHeartbeats 16000000 in
theorem walFull_walk (v : Value) (l : List Wa) (most : Int) (d : ByteArray) (w : World) {B0 : Nat} (hg : Glob w B0) (hB0 : B0 ≤ w.heap.size) (hv : WasAt w w.heap.size v l) (hin : ∀ a ∈ l, WaIn a) (hl : l.length ≤ maxLen) (hm : I64 most) (hd : d.size ≤ maxLen) :
    Calls Tryz.prog 8 #[v, .int .i64 most, .string d] w fun e w' => e = .returned (.bool true) ∧ Below w.heap.size w w' := by
  have HSH := hid (shown3_any w hg hB0)
  have HSM := hid (fun wx (hb : Below w.heap.size w wx) => small3_any v l wx w.heap.size (hv.below hb) hin hl)
  have HWas := hid hv
  obtain ⟨a0, cap, rfl, -⟩ := id hv
  unfold maxLen at hd hl
  cases hsm : smallW l with
  | false =>
    rw [hsm] at HSM
    clear hsm hin hg hv
    go_enter Tryz.func8, Tryz.ntmps8
    go_wp2_with (first
      | (go_at_call 14; (with_reducible refine HSH.out.mono ?_); rintro e w1 ⟨rfl, hb1⟩)
      | (go_at_call 15; (with_reducible refine (HSM.out _ hb1).mono ?_); rintro e w2 ⟨rfl, rfl⟩))
    go_ret
    exact ⟨rfl, hb1⟩
  | true =>
    obtain ⟨hl40, hok⟩ := smallW_ok hsm hin
    rw [hsm] at HSM
    by_cases hbig : 3000 < d.size
    · have hq : decide (3000 < (d.size : Int)) = true := by simp; omega
      clear hsm hin hg hv hok
      go_enter Tryz.func8, Tryz.ntmps8
      go_wp2_with (first
        | (go_at_call 14; (with_reducible refine HSH.out.mono ?_); rintro e w1 ⟨rfl, hb1⟩)
        | (go_at_call 15; (with_reducible refine (HSM.out _ hb1).mono ?_); rintro e w2 ⟨rfl, rfl⟩))
      go_ret
      exact ⟨rfl, hb1⟩
    · have hq : decide (3000 < (d.size : Int)) = false := by simp; omega
      have hr := pkRange most 4000 (by omega)
      have HP := hid (fun wx => pick3_any most 4000 wx (by omega) (by omega) hm)
      have HBg := hid (fun wx (hb : Below w.heap.size w wx) => begin_any (100 + pickZ most 4000) wx (hg.below hb hB0) (by have := hb.size; omega) (by omega) (by omega))
      have HFu := hid (fun w1 w' q a p mq r ql T S (hb : Below w.heap.size w w1) (h : Begun w1 w' q a p mq r ql T S (open0 (newD (100 + pickZ most 4000))).1 (open0 (newD (100 + pickZ most 4000))).1) => (fu_begun (n := l.length) hb (hg.below hb hB0) hB0 (by omega) (by omega) h : FuRel w q p a B0 l.length (.int .i64 0) w'))
      have hsum : IntKind.i64.wrap (100 + pickZ most 4000) = 100 + pickZ most 4000 := IntWalk.i64_in _ (by omega)
      have HOk := hid hok
      clear hsm hin hg hv hok
      generalize pickZ most 4000 = m at *
      go_enter Tryz.func8, Tryz.ntmps8
      go_wp2_with (first
        | (go_at_call 14; (with_reducible refine HSH.out.mono ?_); rintro e w1 ⟨rfl, hb1⟩)
        | (go_at_call 15; (with_reducible refine (HSM.out _ hb1).mono ?_); rintro e w2 ⟨rfl, rfl⟩)
        | (go_at_call 17; (with_reducible refine (HP.out _).mono ?_); rintro e w2 ⟨rfl, rfl⟩)
        | (go_at_call 16; (with_reducible refine (HBg.out _ hb1).mono ?_); rintro e w3 ⟨q, a, p, mq, r, ql, T, S, rfl, hB⟩; have HStart := hid (HFu.out _ _ _ _ _ _ _ _ _ _ hb1 hB); clear hB))
      go_loopw [12] (FuRel w q p a B0 l.length) (fun i _ => l.length - (intOf i).toNat)
      case atStart => exact HStart.out
      case round =>
        obtain ⟨k, T, s, g, hk, rfl, hfu⟩ := hrel
        have HF := hid hfu
        clear hfu
        by_cases hlt : k < l.length
        · have hne : l ≠ [] := fun e => by rw [e] at hlt; simp at hlt
          obtain ⟨a1, cap1, hva, hca⟩ := HWas.out.below HF.out.below
          simp only [Value.slice.injEq] at hva
          obtain ⟨rfl, -, rfl⟩ := hva
          obtain ⟨b, o, rfl, hbB, hact⟩ := hca hne
          obtain ⟨kv, nv, hA⟩ := hact k l[k] (by simp [hlt])
          have hac := HOk.out _ (List.getElem_mem hlt)
          have HPk := hid (fun wx => pick3_any l[k].op 10 wx (by omega) (by omega) hac.op)
          have hro := pkRange l[k].op 10 (by omega)
          have d0 := hA.c0
          have d1 := hA.c1
          have d2 := hA.c2
          have d3 := hA.c3
          have d4 := hA.c4
          have d5 := hA.c5
          have d6 := hA.c6
          have d7 := hA.c7
          obtain ⟨ka, kc, rfl, _⟩ := id hA.k
          obtain ⟨na, nc, rfl, _⟩ := id hA.n
          have hDo := fun (hop : pickZ (l[k]'hlt).op 10 < 7) => HF.out.does hlt hl40 (l[k]'hlt) hac hop (.slice ka (l[k]'hlt).keep.length kc) (.slice na (l[k]'hlt).noise.length nc) ⟨_, _, _, rfl⟩ ⟨_, _, _, rfl⟩
          unfold waV at hDo
          have HDo := hid hDo
          clear hDo hA hact hca hne hac
          generalize l[k].op = x0 at *
          generalize l[k].term = x1 at *
          generalize l[k].vote = x2 at *
          generalize l[k].idx = x3 at *
          generalize l[k].n = x4 at *
          generalize l[k].data = x5 at *
          generalize l[k].keep = x6 at *
          generalize l[k].noise = x7 at *
          generalize pickZ x0 10 = o1 at *
          by_cases ho : o1 < 7
          · have HDo := hid (HDo.out ho)
            go_wp2_with (first
              | (go_at_call 17; (with_reducible refine (HPk.out _).mono ?_); rintro e w5 ⟨rfl, rfl⟩)
              | (go_at_call 18; (with_reducible refine HDo.out.mono ?_); rintro e w6 ⟨r6, rfl, hQ⟩; have HQ := hid hQ; clear hQ))
            go_roundw
            case rel => exact HQ.out
            case measure => simp [intOf]; omega
          · clear HDo
            go_wp2_with (go_at_call 17; (with_reducible refine (HPk.out _).mono ?_); rintro e w5 ⟨rfl, rfl⟩)
            go_roundw
            case rel => exact ⟨k + 1, T, s, g, by omega, by go_num, HF.out.log, HF.out.pair, HF.out.tq, HF.out.good, HF.out.lgin.mono (by omega), HF.out.ge, HF.out.qge, HF.out.glob, HF.out.b0, HF.out.below⟩
            case measure => simp [intOf]; omega
        · obtain rfl : k = l.length := by omega
          have hsvc := full_save HF.out.good HF.out.lgin (e500 d) rfl (by simp [entB, e500])
          have HQc := hid (fun wx (hx : Below wr.heap.size wr wx) => (show wx.cell? ⟨q, 0, none⟩ = some (.pointer (some ⟨a, 0, none⟩)) ∧ wx.cell? ⟨q, 1, none⟩ = some (.pointer (some ⟨p, 0, none⟩)) from ⟨(own.cell (HF.out.later hx).pair 0).trans rfl, (own.cell (HF.out.later hx).pair 1).trans rfl⟩))
          have HHd := hid (fun wx (hx : Below wr.heap.size wr wx) => (hard_any (HF.out.later hx).log : Calls Tryz.prog 23 #[.pointer (some ⟨p, 0, none⟩)] wx fun e w' => e = .returned (.agg #[.int .i64 g.hd.term, .int .i64 g.hd.vote]) ∧ Below wx.heap.size wx w'))
          have HEs := hid (fun wx (hx : Below wr.heap.size wr wx) => entries_any (HF.out.later hx).log)
          have HSz := hid (fun wx (hx : Below wr.heap.size wr wx) => ((HF.out.later hx).log.run.reads fun S h1 h2 => by obtain ⟨mb, F, h1⟩ := h1; exact size_any h1 : Calls Tryz.prog 41 #[.pointer (some ⟨a, 0, none⟩)] wx fun e wz => e = .returned (.int .i64 (sz s.L : Int)) ∧ Below wx.heap.size wx wz))
          have HEn := hid (fun i t d wx => entry3_any i t d wx)
          have hbk := Below.refl wr.heap.size wr
          obtain ⟨z0, z1⟩ := HQc.out _ hbk
          have hszI : (sz s.L : Int) ≤ 10000000 := by have h1 := HF.out.good.ok.room; have h2 := HF.out.good.ok.most; omega
          go_wp2_with (first
            | (go_at_call 23; (with_reducible refine (HHd.out _ hbk).mono ?_); rintro e w5 ⟨rfl, hb5⟩; have hbk := hbk.trans (hb5.mono hbk.size); obtain ⟨z2, z3⟩ := HQc.out _ (Below.alloc hbk (Below.size hbk) (.cells #[.int .i64 g.hd.term, .int .i64 g.hd.vote] 50)); have hbk2 := Below.alloc hbk (Below.size hbk) (.cells #[.int .i64 g.hd.term, .int .i64 g.hd.vote] 50); have HSz5 := hid hbk.size)
            | (go_at_call 25; (with_reducible refine (HEs.out _ hbk2).mono ?_); rintro e w6 ⟨v2, rfl, hv2, hb6⟩; have HV2 := hid hv2; obtain ⟨ao2, cap2, rfl, -, -⟩ := hv2.slice; have HBox := hid ((own.new w5 #[.int .i64 g.hd.term, .int .i64 g.hd.vote] 50).same (hb6.block _ (by simp))); have hbk6 := hbk2.trans (hb6.mono hbk2.size); obtain ⟨z4, z5⟩ := HQc.out _ hbk6; clear hv2 hb6)
            | (go_at_call 41; (with_reducible refine (HSz.out _ hbk6).mono ?_); rintro e w7 ⟨rfl, hb7⟩; have HB7 := hid hb7; have HBk7 := hid (hbk6.trans (hb7.mono hbk6.size)); clear hb7))
          have HF7 := hid (HF.out.later HBk7.out)
          have HE7 : Hid (FuEnd w w7 T q p a w5.heap.size (w5.alloc (.cells #[.int .i64 g.hd.term, .int .i64 g.hd.vote] 50)).heap.size s g g (.slice ao2 g.L.length cap2)) := hid ⟨HF7.out.log, HF7.out.pair, HBox.out.same (HB7.out.block _ HBox.out.lt), HV2.out.same (fun b hb' => HB7.out.block b (World.ownsRow.lt HV2.out b hb').2), HF7.out.below⟩
          have HTlt := hid HF.out.log.lt
          have HSvA := hid (fun r hr wk (hb : Below w7.heap.size w7 wk) => HF7.out.last (r := r) (by omega) d (by omega) HE7.out (fun hT => by have h1 := HTlt.out _ hT; have h2 := HSz5.out; omega) (fun b hT => by have h1 := HTlt.out _ hT; have h2 := HSz5.out; simp; omega) hr wk hb)
          have HX := hid (fun wx (hx : Below w7.heap.size w7 wx) => (HE7.out.later hx).cells)
          have hx7 := HE7.out.cells
          clear z0 z1 z2 z3 z4 z5 hbk hbk2 hbk6 HQc HHd HEs HSz
          obtain ⟨y0, y1, y2, y3⟩ := hx7
          have hbk : Below w7.heap.size w7 w7.drew := Below.drew (Below.refl _ _)
          rcases hsvc with hsv | ⟨hsv, hszl, -⟩
          · have HSv := hid (fun wk hb => HSvA.out _ hsv wk hb)
            clear hsv
            go_region_held3 (fun wx => wx.cell? ⟨q, 0, none⟩ = some (.pointer (some ⟨a, 0, none⟩)) ∧ wx.cell? ⟨q, 1, none⟩ = some (.pointer (some ⟨p, 0, none⟩)) ∧ wx.cell? ⟨w5.heap.size, 0, none⟩ = some (.int .i64 g.hd.term) ∧ wx.cell? ⟨w5.heap.size, 1, none⟩ = some (.int .i64 g.hd.vote))
              (first | (with_reducible exact HX.out _ hbk) | (with_reducible exact HX.out _ (Below.alloc hbk (Below.size hbk) _)) | (with_reducible exact hS8))
              (first
                | (go_at_call 43; (with_reducible refine (HEn.out _ _ _ _).mono ?_); rintro e wk ⟨rfl, hbn⟩; have hbk := hbk.trans (hbn.mono hbk.size); clear hbn)
                | (go_at_call 42; (with_reducible refine (HSv.out _ hbk).mono ?_); rintro e w8 ⟨rfl, hS8, T8, hE8⟩; have HE8 := hid hE8; clear hE8))
            all_goals
              clear HX hbk HSv HSvA hS8 y0 y1 y2 y3
              have HX := hid (fun wx (hx : Below w8.heap.size w8 wx) => (HE8.out.later hx).cells)
              have hx8 := HE8.out.cells
              obtain ⟨y0, y1, y2, y3⟩ := hx8
              have HHd := hid (fun wx (hx : Below w8.heap.size w8 wx) => (hard_any (HE8.out.later hx).log : Calls Tryz.prog 23 #[.pointer (some ⟨p, 0, none⟩)] wx fun e w' => e = .returned (.agg #[.int .i64 g.hd.term, .int .i64 g.hd.vote]) ∧ Below wx.heap.size wx w'))
              have HEs := hid (fun wx (hx : Below w8.heap.size w8 wx) => (entries_any (HE8.out.later hx).log : Calls Tryz.prog 25 #[.pointer (some ⟨p, 0, none⟩)] wx (CloneEPost wx g.L)))
              have HSz := hid (fun wx (hx : Below w8.heap.size w8 wx) => (HE8.out.later hx).size)
              have hgl := HE8.out.log.len
              have HSm := hid (fun wk vv (hb : Below w8.heap.size w8 wk) (hv : EntsAt wk vv g.L) => (show Calls Tryz.prog 24 #[vv, .slice ao2 g.L.length cap2] wk (fun e w' => e = .returned (.bool true) ∧ Below wk.heap.size wk w') from by
                refine (same_any vv _ g.L g.L wk hv (HE8.out.later hb).was.ents hgl hgl).mono ?_
                rintro e w' ⟨he, hb2⟩
                exact ⟨by rw [he]; simp, hb2⟩))
              have hbk : Below w8.heap.size w8 w8.drew := Below.drew (Below.refl _ _)
              go_wp2
              go_region_held3 (fun wx => wx.cell? ⟨q, 0, none⟩ = some (.pointer (some ⟨a, 0, none⟩)) ∧ wx.cell? ⟨q, 1, none⟩ = some (.pointer (some ⟨p, 0, none⟩)) ∧ wx.cell? ⟨w5.heap.size, 0, none⟩ = some (.int .i64 g.hd.term) ∧ wx.cell? ⟨w5.heap.size, 1, none⟩ = some (.int .i64 g.hd.vote))
                (with_reducible exact HX.out _ hbk)
                (first
                  | (go_at_call 23; (with_reducible refine (HHd.out _ hbk).mono ?_); rintro e wk ⟨rfl, hbn⟩; have hbk := hbk.trans (hbn.mono hbk.size); clear hbn)
                  | (go_at_call 25; (with_reducible refine (HEs.out _ hbk).mono ?_); rintro e wk ⟨v5, rfl, hv5, hbn⟩; have hbk := hbk.trans (hbn.mono hbk.size); have HSm5 := hid (HSm.out _ v5 hbk hv5.ents); obtain ⟨ao5, cap5, rfl, -, -⟩ := hv5.slice; clear hbn hv5)
                  | (go_at_call 24; (with_reducible refine HSm5.out.mono ?_); rintro e wk ⟨rfl, hbn⟩; have hbk := hbk.trans (hbn.mono hbk.size); clear hbn)
                  | (go_at_call 41; (with_reducible refine (HSz.out _ hbk).mono ?_); rintro e wk ⟨rfl, hbn⟩; have hbk := hbk.trans (hbn.mono hbk.size); clear hbn))
              all_goals
                go_wp2
                go_ret
                exact ⟨rfl, HE8.out.below.trans (hbk.mono HE8.out.below.size)⟩
          · obtain ⟨s', hs'⟩ : ∃ s', (saveL s g g.hd [e500 d]).1 = s' := ⟨_, rfl⟩
            rw [hs'] at hszl
            have hsv2 : saveL s g g.hd [e500 d] = (s', ⟨g.hd, [e500 d]⟩, 0) := Prod.ext hs' hsv
            have HSv := hid (fun wk hb => HSvA.out _ hsv2 wk hb)
            have hszJ : (sz s.L : Int) < (sz s'.L : Int) := by omega
            clear hsv hsv2 hs' hszl
            go_region_held3 (fun wx => wx.cell? ⟨q, 0, none⟩ = some (.pointer (some ⟨a, 0, none⟩)) ∧ wx.cell? ⟨q, 1, none⟩ = some (.pointer (some ⟨p, 0, none⟩)) ∧ wx.cell? ⟨w5.heap.size, 0, none⟩ = some (.int .i64 g.hd.term) ∧ wx.cell? ⟨w5.heap.size, 1, none⟩ = some (.int .i64 g.hd.vote))
              (first | (with_reducible exact HX.out _ hbk) | (with_reducible exact HX.out _ (Below.alloc hbk (Below.size hbk) _)) | (with_reducible exact hS8))
              (first
                | (go_at_call 43; (with_reducible refine (HEn.out _ _ _ _).mono ?_); rintro e wk ⟨rfl, hbn⟩; have hbk := hbk.trans (hbn.mono hbk.size); clear hbn)
                | (go_at_call 42; (with_reducible refine (HSv.out _ hbk).mono ?_); rintro e w8 ⟨rfl, hS8, T8, hE8⟩; have HE8 := hid hE8; clear hE8))
            all_goals
              clear HX hbk HSv HSvA hS8 y0 y1 y2 y3
              have HX := hid (fun wx (hx : Below w8.heap.size w8 wx) => (HE8.out.later hx).cells)
              have hx8 := HE8.out.cells
              obtain ⟨y0, y1, -, -⟩ := hx8
              have HEs := hid (entries_any HE8.out.log : Calls Tryz.prog 25 #[.pointer (some ⟨p, 0, none⟩)] w8 (CloneEPost w8 [e500 d]))
              have HSz := hid (fun wx (hx : Below w8.heap.size w8 wx) => (HE8.out.later hx).size)
              go_wp2_with (first
                | (go_at_call 25; (with_reducible refine HEs.out.mono ?_); rintro e w9 ⟨v5, rfl, hv5, hb9⟩; obtain ⟨ao5, cap5, hvs, -, -⟩ := hv5.slice; have hvs : v5 = .slice ao5 1 cap5 := hvs; subst hvs; have HV5 := hid hv5.ents; clear hv5)
                | (go_at_call 43; (with_reducible refine (HEn.out _ _ _ _).mono ?_); rintro e w10 ⟨rfl, hb10⟩; have HSm := hid (same_lit (l := [e500 d]) (HV5.out.below hb10) rfl (cs := #[.int .i64 500, .int .i64 9, .int .i64 2, .string d]) rfl 1 rfl (by simp)); have hb910 := hb9.trans (hb10.mono hb9.size))
                | (go_at_call 24; (with_reducible refine HSm.out.mono ?_); rintro e w11 ⟨rfl, hb11⟩; have hb911 := hb910.trans (hb11.mono hb910.size); obtain ⟨z0, z1, -, -⟩ := HX.out _ hb911)
                | (go_at_call 41; (with_reducible refine (HSz.out _ hb911).mono ?_); rintro e w12 ⟨rfl, hb12⟩; have hb912 := hb911.trans (hb12.mono hb911.size)))
              go_ret
              exact ⟨rfl, HE8.out.below.trans (hb912.mono HE8.out.below.size)⟩
end Go.Proofs.YtpcafkinpkepcaaGreatDoor

