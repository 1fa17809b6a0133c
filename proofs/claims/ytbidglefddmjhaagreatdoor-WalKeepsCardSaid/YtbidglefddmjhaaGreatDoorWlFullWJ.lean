import Derived.Test.YtbidglefddmjhaaGreatDoorWlShown2J
import Derived.Test.YtbidglefddmjhaaGreatDoorWlSmallJ
import Derived.WalkLawsBesides
/-
  LAYER 3 (wal), the law WalFull: its walk.
-/
namespace Go.Proofs.YtbidglefddmjhaaGreatDoor
open Go.RowKit Go.Maps
set_option linter.unusedVariables false
set_option maxRecDepth 100000

/-- How a law's log stands between two acts. -/
structure Fu (W wx : World) (T : Nat → Prop) (q p a B0 k : Nat) (s : Dk) (g : Lg) : Prop where
  log : LogAt wx T p a s g
  pair : PairAt wx q a p
  tq : ¬ T q
  good : Good s
  lgin : LgIn k g
  ge : ∀ b, T b → W.heap.size ≤ b
  qge : W.heap.size ≤ q
  glob : Glob wx B0
  b0 : B0 ≤ W.heap.size
  below : Below W.heap.size W wx
theorem Fu.later {W wx wy : World} {T : Nat → Prop} {q p a B0 k : Nat} {s : Dk} {g : Lg} (h : Fu W wx T q p a B0 k s g) (hb : Below wx.heap.size wx wy) : Fu W wy T q p a B0 k s g :=
  ⟨h.log.below hb, own.same h.pair (hb.block _ (own.lt h.pair)), h.tq, h.good, h.lgin, h.ge, h.qge, h.glob.below hb (by have := h.b0; have := h.below.size; omega), h.b0, h.below.trans (hb.mono h.below.size)⟩
theorem Fu.run {W wx wy : World} {T : Nat → Prop} {q p a B0 k k' : Nat} {s s' : Dk} {g g' : Lg} (h : Fu W wx T q p a B0 k s g) (hr : LgRun wx T p a s' g' wy) (hg : Good s') (hl : LgIn k' g') : Fu W wy (grow T wx wy) q p a B0 k' s' g' := by
  have hqlt := own.lt h.pair
  refine ⟨hr.1, own.same h.pair (hr.2.block _ hqlt h.tq), fun e => e.elim h.tq (fun e => by omega), hg, hl, fun b hb => ?_, h.qge, h.glob.chg hr.2 (by have := h.b0; have := h.below.size; omega) (fun b hb => by have := h.ge b hb; have := h.b0; omega), h.b0, h.below.trans (hr.2.below h.below.size h.ge)⟩
  rcases hb with hb | hb
  · exact h.ge b hb
  · have := h.below.size; omega
def FuRel (W : World) (q p a B0 n : Nat) (i : Value) (wr : World) : Prop := ∃ k T s g, k ≤ n ∧ i = .int .i64 (k : Int) ∧ Fu W wr T q p a B0 k s g
theorem Fu.does {W wx : World} {T : Nat → Prop} {q p a B0 k n : Nat} {s : Dk} {g : Lg} (h : Fu W wx T q p a B0 k s g) (hk : k < n) (hn : n ≤ 40) (ac : Wa) (hac : WaOk ac) (hop : pickZ ac.op 10 < 7) (kv nv : Value) (hkv : ∃ x n c, kv = .slice x n c) (hnv : ∃ x n c, nv = .slice x n c) :
    Calls Tryz.prog 15 #[.pointer (some ⟨q, 0, none⟩), waV ac kv nv] wx fun e wy => ∃ r, e = .returned (.int .i64 r) ∧ FuRel W q p a B0 n (.int .i64 ((k + 1 : Nat) : Int)) wy := by
  have hl := h.lgin.len
  refine (does_any3 h.log h.pair h.tq h.glob (by have := h.b0; have := h.below.size; omega) ac hac hop (by omega) kv nv hkv hnv).mono ?_
  rintro e wy ⟨he, hr⟩
  obtain ⟨a1, a2, _⟩ := actW_in h.good h.lgin hac
  exact ⟨_, he, k + 1, _, _, _, by omega, rfl, h.run hr a1 a2⟩
theorem fu_begun {W w w' : World} {q a p mq r ql : Nat} {T S : Nat → Prop} {m : Int} {B0 n : Nat} (hb : Below W.heap.size W w) (hg : Glob w B0) (hB0 : B0 ≤ W.heap.size) (h0 : 100 ≤ m) (h1 : m ≤ 10000000) (h : Begun w w' q a p mq r ql T S (open0 (newD m)).1 (open0 (newD m)).1) : FuRel W q p a B0 n (.int .i64 0) w' := by
  obtain ⟨_, k2, _⟩ := open0_good h0 h1
  have hz := hb.size
  refine ⟨0, T, _, _, Nat.zero_le _, rfl, h.log, h.pair, h.tq, k2, ⟨g0_ok, fun e he => by simp [g0] at he, by simp [g0], fun e he => by simp [g0] at he⟩, fun b hT => by have := h.ge.1 b hT; omega, by have := h.ge.2.2.1; omega, hg.below h.below (by omega), hB0, hb.trans (h.below.mono hz)⟩
/-- WalFull's last save: how it ends. -/
structure FuEnd (W wy : World) (T' : Nat → Prop) (q p a H Bv : Nat) (s' : Dk) (g g' : Lg) (v2 : Value) : Prop where
  log : LogAt wy T' p a s' g'
  pair : PairAt wy q a p
  box : own wy H #[.int .i64 g.hd.term, .int .i64 g.hd.vote] 50
  was : EntRow wy Bv v2 g.L
  below : Below W.heap.size W wy
theorem FuEnd.later {W wy wz : World} {T' : Nat → Prop} {q p a H Bv : Nat} {s' : Dk} {g g' : Lg} {v2 : Value} (h : FuEnd W wy T' q p a H Bv s' g g' v2) (hb : Below wy.heap.size wy wz) : FuEnd W wz T' q p a H Bv s' g g' v2 :=
  ⟨h.log.below hb, own.same h.pair (hb.block _ (own.lt h.pair)), h.box.same (hb.block _ h.box.lt), h.was.same (fun b hb' => hb.block b (World.ownsRow.lt h.was b hb').2), h.below.trans (hb.mono h.below.size)⟩
theorem FuEnd.cells {W wy : World} {T' : Nat → Prop} {q p a H Bv : Nat} {s' : Dk} {g g' : Lg} {v2 : Value} (h : FuEnd W wy T' q p a H Bv s' g g' v2) :
    wy.cell? ⟨q, 0, none⟩ = some (.pointer (some ⟨a, 0, none⟩)) ∧ wy.cell? ⟨q, 1, none⟩ = some (.pointer (some ⟨p, 0, none⟩)) ∧ wy.cell? ⟨H, 0, none⟩ = some (.int .i64 g.hd.term) ∧ wy.cell? ⟨H, 1, none⟩ = some (.int .i64 g.hd.vote) :=
  ⟨(own.cell h.pair 0).trans rfl, (own.cell h.pair 1).trans rfl, (h.box.cell 0).trans rfl, (h.box.cell 1).trans rfl⟩
theorem FuEnd.size {W wy : World} {T' : Nat → Prop} {q p a H Bv : Nat} {s' : Dk} {g g' : Lg} {v2 : Value} (h : FuEnd W wy T' q p a H Bv s' g g' v2) :
    Calls Tryz.prog 66 #[.pointer (some ⟨a, 0, none⟩)] wy fun e wz => e = .returned (.int .i64 (sz s'.L : Int)) ∧ Below wy.heap.size wy wz :=
  h.log.run.reads fun S h1 h2 => by obtain ⟨mb, F, h1⟩ := h1; exact size_any h1
def e500 (d : ByteArray) : En := ⟨500, 9, 2, d.data.toList⟩
/-- The save of number 500, out of a log that stands: to what end. -/
theorem Fu.last {W w3 : World} {T : Nat → Prop} {q p a B0 k H Bv : Nat} {s : Dk} {g : Lg} {v2 : Value} (h : Fu W w3 T q p a B0 k s g) (hk : k ≤ 40) (d : ByteArray) (hd : d.size ≤ 3000) (hend : FuEnd W w3 T q p a H Bv s g g v2) (hH : ¬ T H) (hBv : ∀ b, T b → b < Bv)
    {r : Dk × Lg × Int} (hr : saveL s g g.hd [e500 d] = r) (wk : World) (hb : Below w3.heap.size w3 wk) :
    Calls Tryz.prog 48 #[.pointer (some ⟨p, 0, none⟩), .agg #[.int .i64 g.hd.term, .int .i64 g.hd.vote], .slice (some ⟨wk.heap.size, 0, none⟩) 1 1] (wk.alloc (.cells #[.int .i64 500, .int .i64 9, .int .i64 2, .string d] 95)) fun e wy => e = .returned (.int .i64 r.2.2) ∧
      (wy.cell? ⟨q, 0, none⟩ = some (.pointer (some ⟨a, 0, none⟩)) ∧ wy.cell? ⟨q, 1, none⟩ = some (.pointer (some ⟨p, 0, none⟩)) ∧ wy.cell? ⟨H, 0, none⟩ = some (.int .i64 g.hd.term) ∧ wy.cell? ⟨H, 1, none⟩ = some (.int .i64 g.hd.vote)) ∧ ∃ T', FuEnd W wy T' q p a H Bv r.1 g r.2.1 v2 := by
  subst hr
  have hb2 : Below w3.heap.size w3 (wk.alloc (.cells #[.int .i64 500, .int .i64 9, .int .i64 2, .string d] 95)) := hb.alloc hb.size _
  have h2 := h.later hb2
  have e2 := hend.later hb2
  have hl := h.lgin.len
  refine (save_any h2.log h2.glob (by have := h2.b0; have := h2.below.size; omega) g.hd h.log.ok.hd.2.1 h.log.ok.hd.2.2 _ [e500 d] (ents_lit (l := [e500 d]) rfl 1 rfl) (fun g0 o m c e hT => ?_) (fun e he => ?_) (by simp) (by simp; omega)).mono ?_
  · simp only [Value.slice.injEq, Option.some.injEq, Addr.mk.injEq] at e
    have h1 := h.log.lt g0 hT
    have h2 := hb.size
    omega
  · obtain rfl : e = e500 d := by simpa using he
    exact ⟨⟨⟨by show _ ≤ (500 : Int); omega, by show (500 : Int) ≤ _; omega⟩, ⟨by show _ ≤ (9 : Int); omega, by show (9 : Int) ≤ _; omega⟩, ⟨by show _ ≤ (2 : Int); omega, by show (2 : Int) ≤ _; omega⟩⟩, by show d.data.toList.length ≤ 60000; rw [str_len]; omega⟩
  · rintro e wy ⟨he, hr⟩
    have hz := hr.2.size
    have hf : FuEnd W wy (grow T (wk.alloc (.cells #[.int .i64 500, .int .i64 9, .int .i64 2, .string d] 95)) wy) q p a H Bv (saveL s g g.hd [e500 d]).1 g (saveL s g g.hd [e500 d]).2.1 v2 :=
      ⟨hr.1, own.same e2.pair (hr.2.block _ (own.lt e2.pair) h.tq), e2.box.same (hr.2.block _ e2.box.lt hH), e2.was.same (fun b hb' => hr.2.block b (World.ownsRow.lt e2.was b hb').2 (fun hT => by have h1 := hBv b hT; have h2 := (World.ownsRow.lt e2.was b hb').1; omega)), e2.below.trans (hr.2.below e2.below.size h.ge)⟩
    exact ⟨he, hf.cells, _, hf⟩
end Go.Proofs.YtbidglefddmjhaaGreatDoor


