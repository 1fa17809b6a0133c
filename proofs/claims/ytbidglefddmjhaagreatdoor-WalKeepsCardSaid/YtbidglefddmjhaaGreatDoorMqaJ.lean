import Derived.Test.YtbidglefddmjhaaGreatDoorMq8J
import Derived.Test.YtbidglefddmjhaaGreatDoorWlBegunJ
import Derived.Test.YtbidglefddmjhaaGreatDoorWlSmallJ
/-
  LAYER 3 (wal), the law WalKeeps: the law's own variables beside the log: behind each act, and behind the crash.
-/
namespace Go.Proofs.YtbidglefddmjhaaGreatDoor
open Go.RowKit Go.Maps
set_option linter.unusedVariables false
set_option maxRecDepth 100000

theorem Chg.set2 (w : World) (N : Nat) (u v : Value) : Chg (fun b => b = N) w ((w.setCell ⟨N, 0, none⟩ u).setCell ⟨N, 1, none⟩ v) :=
  (Chg.setCell w ⟨N, 0, none⟩ u).trans (Chg.setCell _ ⟨N, 1, none⟩ v) (fun x h => .inl h)
theorem own.set2 {w : World} {N : Nat} {x y : Value} {T : TypeId} (h : own w N #[x, y] T) (u v : Value) : own ((w.setCell ⟨N, 0, none⟩ u).setCell ⟨N, 1, none⟩ v) N #[u, v] T := (h.set 0 u).set 1 v
/-- Hard's box. -/
def HBox (w : World) (N : Nat) (h : Hd) : Prop := own w N #[.int .i64 h.term, .int .i64 h.vote] 50
theorem HBox.cells {w : World} {N : Nat} {h : Hd} (k : HBox w N h) : w.cell? ⟨N, 0, none⟩ = some (.int .i64 h.term) ∧ w.cell? ⟨N, 1, none⟩ = some (.int .i64 h.vote) ∧ (∀ j, w.frozen? ⟨N, j, none⟩ = false) := ⟨(own.cell k 0).trans rfl, (own.cell k 1).trans rfl, fun j => own.frozen k j⟩
/-- A row of entries, apart from the blocks T. -/
def ERow (w : World) (T : Nat → Prop) (v : Value) (L : List En) : Prop := ∃ B, EntRow w B v L ∧ ∀ b, v.ownBlock = some b → ¬ T b
theorem ERow.chg {w w' : World} {T U V : Nat → Prop} {v : Value} {L : List En} (h : ERow w T v L) (hc : Chg U w w') (hU : ∀ b, v.ownBlock = some b → ¬ U b) (hV : ∀ b, V b → T b ∨ w.heap.size ≤ b) : ERow w' V v L := by
  obtain ⟨B, h1, h2⟩ := h
  refine ⟨B, h1.same (fun b hb => hc.block b (World.ownsRow.lt h1 b hb).2 (hU b hb)), fun b hb hv => ?_⟩
  have := (World.ownsRow.lt h1 b hb).2
  rcases hV b hv with e | e
  · exact h2 b hb e
  · omega
theorem ERow.slice {w : World} {T : Nat → Prop} {v : Value} {L : List En} (h : ERow w T v L) : ∃ ao cap, v = .slice ao L.length cap := by
  obtain ⟨B, h1, _⟩ := h
  obtain ⟨ao, cap, e, _⟩ := h1.slice
  exact ⟨ao, cap, e⟩
theorem HBox.chg {w w' : World} {U : Nat → Prop} {N : Nat} {h : Hd} (k : HBox w N h) (hc : Chg U w w') (hU : ¬ U N) : HBox w' N h := own.chg k hc hU
/-- The law's variables between two acts, while the log lives. -/
structure KQ (W wr : World) (T : Nat → Prop) (H N q p a B0 k : Nat) (uw : Value) (s : Dk) (g : Lg) (next : Hd) : Prop where
  ke : Ke W wr T q p a B0 k s g
  hT : ¬ T H
  nT : ¬ T N
  hn : H ≠ N
  hq : H ≠ q
  nq : N ≠ q
  hge : W.heap.size ≤ H
  nge : W.heap.size ≤ N
  boxH : HBox wr H g.hd
  boxN : HBox wr N next
  rwas : ERow wr (fun b => T b ∨ b = H ∨ b = N) uw g.L
/-- .. behind the last act, dead or alive. -/
structure KZ (W wr : World) (T : Nat → Prop) (H N q p a B0 : Nat) (uw un : Value) (s : Dk) (g : Lg) (died reset : Bool) (now : List En) (next : Hd) : Prop where
  kd : Kd W wr T q p a B0 s g died reset now next
  hT : ¬ T H
  nT : ¬ T N
  boxH : HBox wr H g.hd
  boxN : HBox wr N next
  rwas : ERow wr T uw g.L
  rnow : died = true → ERow wr T un now
  len : g.L.length ≤ 9000
  nowL : now.length ≤ 4
theorem KQ.kz {W wr : World} {T : Nat → Prop} {H N q p a B0 k : Nat} {uw : Value} {s : Dk} {g : Lg} {next : Hd} (h : KQ W wr T H N q p a B0 k uw s g next) (hk : k ≤ 40) (un : Value) (reset : Bool) : KZ W wr T H N q p a B0 uw un s g false reset [] next :=
  ⟨h.ke.kd _ _ _, h.hT, h.nT, h.boxH, h.boxN, by obtain ⟨B, h1, h2⟩ := h.rwas; exact ⟨B, h1, fun b hb hT => h2 b hb (.inl hT)⟩, fun e => (by cases e), by have := h.ke.lgin.len; omega, Nat.zero_le _⟩
theorem Ke.chg {W wx wy : World} {T U : Nat → Prop} {q p a B0 k : Nat} {s : Dk} {g : Lg} (h : Ke W wx T q p a B0 k s g) (hc : Chg U wx wy) (hU : ∀ b, T b → ¬ U b) (hq : ¬ U q) (hge : ∀ b, U b → W.heap.size ≤ b) : Ke W wy T q p a B0 k s g :=
  ⟨h.log.apart hc hU, own.chg h.pair hc hq, h.tq, h.keep, h.lgin, h.ge, h.qge, h.glob.chg hc (by have := h.b0; have := h.below.size; omega) (fun b hb => by have := hge b hb; have := h.b0; omega), h.b0, h.below.trans (hc.below h.below.size hge), h.most⟩
theorem Kd.chg {W wx wy : World} {T U : Nat → Prop} {q p a B0 : Nat} {s : Dk} {g : Lg} {died reset : Bool} {now : List En} {next : Hd} (h : Kd W wx T q p a B0 s g died reset now next) (hc : Chg U wx wy) (hU : ∀ b, T b → ¬ U b) (hq : ¬ U q) (hge : ∀ b, U b → W.heap.size ≤ b) : Kd W wy T q p a B0 s g died reset now next :=
  ⟨h.log.apart hc hU, own.chg h.pair hc hq, h.tq, h.ge, h.qge, h.glob.chg hc (by have := h.b0; have := h.below.size; omega) (fun b hb => by have := hge b hb; have := h.b0; omega), h.b0, h.below.trans (hc.below h.below.size hge), h.most, h.ends, h.okN⟩
theorem KQ.later {W wr wx : World} {T : Nat → Prop} {H N q p a B0 k : Nat} {uw : Value} {s : Dk} {g : Lg} {next : Hd} (h : KQ W wr T H N q p a B0 k uw s g next) (hb : Below wr.heap.size wr wx) : KQ W wx T H N q p a B0 k uw s g next := by
  refine ⟨h.ke.later hb, h.hT, h.nT, h.hn, h.hq, h.nq, h.hge, h.nge, own.same h.boxH (hb.block _ (own.lt h.boxH)), own.same h.boxN (hb.block _ (own.lt h.boxN)), ?_⟩
  obtain ⟨B, h1, h2⟩ := h.rwas
  exact ⟨B, h1.same (fun b e => hb.block b (World.ownsRow.lt h1 b e).2), h2⟩
theorem KQ.next {W wr : World} {T : Nat → Prop} {H N q p a B0 k : Nat} {uw : Value} {s : Dk} {g : Lg} {next : Hd} (h : KQ W wr T H N q p a B0 k uw s g next) (n2 : Hd) : KQ W ((wr.setCell ⟨N, 0, none⟩ (.int .i64 n2.term)).setCell ⟨N, 1, none⟩ (.int .i64 n2.vote)) T H N q p a B0 k uw s g n2 := by
  have hc := Chg.set2 wr N (.int .i64 n2.term) (.int .i64 n2.vote)
  refine ⟨h.ke.chg hc (fun b hT e => h.nT (e ▸ hT)) (fun e => h.nq e.symm) (fun b e => by rw [e]; exact h.nge), h.hT, h.nT, h.hn, h.hq, h.nq, h.hge, h.nge, h.boxH.chg hc (fun e => h.hn e), own.set2 h.boxN _ _, ?_⟩
  obtain ⟨B, h1, h2⟩ := h.rwas
  exact ⟨B, h1.same (fun b e => hc.block b (World.ownsRow.lt h1 b e).2 (fun e2 => h2 b e (.inr (.inr e2)))), h2⟩
/-- The cells that the law reads. -/
theorem KQ.cells {W wr : World} {T : Nat → Prop} {H N q p a B0 k : Nat} {uw : Value} {s : Dk} {g : Lg} {next : Hd} (h : KQ W wr T H N q p a B0 k uw s g next) : wr.cell? ⟨q, 0, none⟩ = some (.pointer (some ⟨a, 0, none⟩)) ∧ wr.cell? ⟨q, 1, none⟩ = some (.pointer (some ⟨p, 0, none⟩)) ∧ wr.cell? ⟨H, 0, none⟩ = some (.int .i64 g.hd.term) ∧ wr.cell? ⟨H, 1, none⟩ = some (.int .i64 g.hd.vote) ∧ wr.cell? ⟨N, 0, none⟩ = some (.int .i64 next.term) ∧ wr.cell? ⟨N, 1, none⟩ = some (.int .i64 next.vote) ∧ (∀ j, wr.frozen? ⟨N, j, none⟩ = false) ∧ (∀ j, wr.frozen? ⟨H, j, none⟩ = false) :=
  ⟨(own.cell h.ke.pair 0).trans rfl, (own.cell h.ke.pair 1).trans rfl, h.boxH.cells.1, h.boxH.cells.2.1, h.boxN.cells.1, h.boxN.cells.2.1, h.boxN.cells.2.2, h.boxH.cells.2.2⟩
/-- .. where the log lives and what was is to be asked anew. -/
structure KP (W wr : World) (T : Nat → Prop) (H N q p a B0 k : Nat) (s : Dk) (g : Lg) (hh next : Hd) : Prop where
  ke : Ke W wr T q p a B0 k s g
  hT : ¬ T H
  nT : ¬ T N
  hn : H ≠ N
  hq : H ≠ q
  nq : N ≠ q
  hge : W.heap.size ≤ H
  nge : W.heap.size ≤ N
  boxH : HBox wr H hh
  boxN : HBox wr N next
theorem KP.later {W wr wx : World} {T : Nat → Prop} {H N q p a B0 k : Nat} {s : Dk} {g : Lg} {hh next : Hd} (h : KP W wr T H N q p a B0 k s g hh next) (hb : Below wr.heap.size wr wx) : KP W wx T H N q p a B0 k s g hh next :=
  ⟨h.ke.later hb, h.hT, h.nT, h.hn, h.hq, h.nq, h.hge, h.nge, own.same h.boxH (hb.block _ (own.lt h.boxH)), own.same h.boxN (hb.block _ (own.lt h.boxN))⟩
theorem KP.set {W wr : World} {T : Nat → Prop} {H N q p a B0 k : Nat} {s : Dk} {g : Lg} {hh next : Hd} (h : KP W wr T H N q p a B0 k s g hh next) (h2 : Hd) : KP W ((wr.setCell ⟨H, 0, none⟩ (.int .i64 h2.term)).setCell ⟨H, 1, none⟩ (.int .i64 h2.vote)) T H N q p a B0 k s g h2 next := by
  have hc := Chg.set2 wr H (.int .i64 h2.term) (.int .i64 h2.vote)
  exact ⟨h.ke.chg hc (fun b hT e => h.hT (e ▸ hT)) (fun e => h.hq e.symm) (fun b e => by rw [e]; exact h.hge), h.hT, h.nT, h.hn, h.hq, h.nq, h.hge, h.nge, own.set2 h.boxH _ _, h.boxN.chg hc (fun e => h.hn e.symm)⟩
theorem KP.cells {W wr : World} {T : Nat → Prop} {H N q p a B0 k : Nat} {s : Dk} {g : Lg} {hh next : Hd} (h : KP W wr T H N q p a B0 k s g hh next) : wr.cell? ⟨q, 0, none⟩ = some (.pointer (some ⟨a, 0, none⟩)) ∧ wr.cell? ⟨q, 1, none⟩ = some (.pointer (some ⟨p, 0, none⟩)) ∧ wr.cell? ⟨H, 0, none⟩ = some (.int .i64 hh.term) ∧ wr.cell? ⟨H, 1, none⟩ = some (.int .i64 hh.vote) ∧ (∀ j, wr.frozen? ⟨H, j, none⟩ = false) :=
  ⟨(own.cell h.ke.pair 0).trans rfl, (own.cell h.ke.pair 1).trans rfl, h.boxH.cells.1, h.boxH.cells.2.1, h.boxH.cells.2.2⟩
theorem KP.hard {W wr : World} {T : Nat → Prop} {H N q p a B0 k : Nat} {s : Dk} {g : Lg} {hh next : Hd} (h : KP W wr T H N q p a B0 k s g hh next) : Calls Tryz.prog 20 #[.pointer (some ⟨p, 0, none⟩)] wr fun e w' => e = .returned (.agg #[.int .i64 g.hd.term, .int .i64 g.hd.vote]) ∧ Hid (KP W w' T H N q p a B0 k s g hh next) :=
  (hard_any h.ke.log).mono (fun e w' ⟨he, hb⟩ => ⟨he, hid (h.later hb)⟩)
theorem KP.entries {W wr : World} {T : Nat → Prop} {H N q p a B0 k : Nat} {s : Dk} {g : Lg} {next : Hd} (h : KP W wr T H N q p a B0 k s g g.hd next) : Calls Tryz.prog 22 #[.pointer (some ⟨p, 0, none⟩)] wr fun e w' => ∃ v, e = .returned v ∧ Hid (KQ W w' T H N q p a B0 k v s g next) := by
  refine (entries_any h.ke.log).mono ?_
  rintro e w' ⟨v, he, hv, hb⟩
  have h2 := h.later hb
  refine ⟨v, he, hid ⟨h2.ke, h2.hT, h2.nT, h2.hn, h2.hq, h2.nq, h2.hge, h2.nge, h2.boxH, h2.boxN, ⟨_, hv, fun b e hb2 => ?_⟩⟩⟩
  have h3 := (World.ownsRow.lt hv b e).1
  have h4 := own.lt h.boxH
  have h5 := own.lt h.boxN
  rcases hb2 with hb2 | hb2 | hb2
  · have := h.ke.log.lt b hb2; omega
  · omega
  · omega
/-- What an act leaves. -/
def Did (W : World) (H N q p a B0 k : Nat) (uw un : Value) (g : Lg) (six : Bool) (now : List En) (next : Hd) (r : Int) (wy : World) : Prop :=
  (r ≠ 7 ∧ ∃ T s g', KP W wy T H N q p a B0 (k + 1) s g' g.hd next) ∨ (r = 7 ∧ ∃ T s, KZ W wy T H N q p a B0 uw un s g true six now next)
theorem KQ.does {W wx : World} {T : Nat → Prop} {H N q p a B0 k n : Nat} {uw un : Value} {s : Dk} {g : Lg} {now : List En} {next : Hd} (h : KQ W wx T H N q p a B0 k uw s g next) (hun : ERow wx (fun b => T b ∨ b = H ∨ b = N) un now) (hk : k < n) (hn : n ≤ 40) (ac : Wa) (hac : WaOk ac) (hop : pickZ ac.op 10 < 7) (hnow : pickZ ac.op 10 ≠ 6 → now = entA ac ∧ next = hdA ac) (hnl : now.length ≤ 4) (kv nv : Value) (hkv : ∃ x n c, kv = .slice x n c) (hnv : ∃ x n c, nv = .slice x n c) :
    Calls Tryz.prog 15 #[.pointer (some ⟨q, 0, none⟩), waV ac kv nv] wx fun e wy => ∃ r : Int, e = .returned (.int .i64 r) ∧ Did W H N q p a B0 k uw un g (decide (pickZ ac.op 10 = 6)) now next r wy := by
  refine (h.ke.does hk hn ac hac hop kv nv hkv hnv).mono ?_
  rintro e wy ⟨r, he, hr, hc⟩
  refine ⟨r, he, ?_⟩
  have hH := h.boxH.chg hc h.hT
  have hN := h.boxN.chg hc h.nT
  have hz := hc.size
  have l1 := own.lt h.boxH
  have l2 := own.lt h.boxN
  have t1 : ¬ grow T wx wy H := fun e => e.elim h.hT (fun e => by omega)
  have t2 : ¬ grow T wx wy N := fun e => e.elim h.nT (fun e => by omega)
  have hgr : ∀ b, grow T wx wy b → (fun b => T b ∨ b = H ∨ b = N) b ∨ wx.heap.size ≤ b := fun b hb => by
    rcases hb with hb | hb
    · exact .inl (.inl hb)
    · exact .inr hb.1
  rcases hr with ⟨r7, s', g', hk'⟩ | ⟨r7, s', hk'⟩
  · exact .inl ⟨r7, _, s', g', hk', t1, t2, h.hn, h.hq, h.nq, h.hge, h.nge, hH, hN⟩
  · have hw : ∀ v L, ERow wx (fun b => T b ∨ b = H ∨ b = N) v L → ERow wy (grow T wx wy) v L := fun v L hr => hr.chg hc (fun b hb hT => by obtain ⟨B, q1, q2⟩ := hr; exact q2 b hb (.inl hT)) hgr
    exact .inr ⟨r7, _, s', hk' now next hnow, t1, t2, hH, hN, hw _ _ h.rwas, fun _ => hw _ _ hun, by have := h.ke.lgin.len; omega, hnl⟩
end Go.Proofs.YtbidglefddmjhaaGreatDoor

/-
  LAYER 3 (wal), the law WalKeeps: the crash, the fuse, the log opened anew.
-/
namespace Go.Proofs.YtbidglefddmjhaaGreatDoor
open Go.RowKit Go.Maps
set_option linter.unusedVariables false
set_option maxRecDepth 100000

/-- What the law keeps behind the crash: its boxes and rows, apart from the blocks S. -/
structure KF (W wx : World) (S : Nat → Prop) (H N q a p B0 : Nat) (uw un : Value) (g g' : Lg) (died reset : Bool) (now : List En) (next : Hd) : Prop where
  pair : PairAt wx q a p
  sge : ∀ b, S b → W.heap.size ≤ b
  hS : ¬ S H
  nS : ¬ S N
  qS : ¬ S q
  glob : Glob wx B0
  b0 : B0 ≤ W.heap.size
  below : Below W.heap.size W wx
  boxH : HBox wx H g.hd
  boxN : HBox wx N next
  rwas : ERow wx S uw g.L
  rnow : died = true → ERow wx S un now
  len : g.L.length ≤ 9000
  nowL : now.length ≤ 4
  gok : g.Ok
  okN : died = true → reset = false → ∀ e ∈ now, entB e = true ∧ e.In
  fin : Fin3 g g' died reset now next
theorem KF.chg {W wx wy : World} {S V : Nat → Prop} {H N q a p B0 : Nat} {uw un : Value} {g g' : Lg} {died reset : Bool} {now : List En} {next : Hd} (h : KF W wx S H N q a p B0 uw un g g' died reset now next) (hc : Chg S wx wy) (hV : ∀ b, V b → S b ∨ wx.heap.size ≤ b) : KF W wy V H N q a p B0 uw un g g' died reset now next := by
  have hz := hc.size
  have l1 := own.lt h.boxH
  have l2 := own.lt h.boxN
  have l3 := own.lt h.pair
  have hbz := h.below.size
  have hout : ∀ b, b < wx.heap.size → ¬ S b → ¬ V b := fun b hb hs hv => by
    rcases hV b hv with e | e
    · exact hs e
    · omega
  exact ⟨own.chg h.pair hc h.qS, fun b hb => by rcases hV b hb with e | e; exact h.sge b e; omega, hout _ l1 h.hS, hout _ l2 h.nS, hout _ l3 h.qS, h.glob.chg hc (by have := h.b0; omega) (fun b hb => by have := h.sge b hb; have := h.b0; omega), h.b0, h.below.trans (hc.below hbz h.sge), h.boxH.chg hc h.hS, h.boxN.chg hc h.nS,
    h.rwas.chg hc (by obtain ⟨B, q1, q2⟩ := h.rwas; exact q2) hV, fun e => (h.rnow e).chg hc (by obtain ⟨B, q1, q2⟩ := h.rnow e; exact q2) hV, h.len, h.nowL, h.gok, h.okN, h.fin⟩
theorem KF.later {W wx wy : World} {S : Nat → Prop} {H N q a p B0 : Nat} {uw un : Value} {g g' : Lg} {died reset : Bool} {now : List En} {next : Hd} (h : KF W wx S H N q a p B0 uw un g g' died reset now next) (hb : Below wx.heap.size wx wy) : KF W wy S H N q a p B0 uw un g g' died reset now next := by
  refine ⟨own.same h.pair (hb.block _ (own.lt h.pair)), h.sge, h.hS, h.nS, h.qS, h.glob.below hb (by have := h.b0; have := h.below.size; omega), h.b0, h.below.trans (hb.mono h.below.size), own.same h.boxH (hb.block _ (own.lt h.boxH)), own.same h.boxN (hb.block _ (own.lt h.boxN)), ?_, fun e => ?_, h.len, h.nowL, h.gok, h.okN, h.fin⟩
  · obtain ⟨B, h1, h2⟩ := h.rwas
    exact ⟨B, h1.same (fun b e => hb.block b (World.ownsRow.lt h1 b e).2), h2⟩
  · obtain ⟨B, h1, h2⟩ := h.rnow e
    exact ⟨B, h1.same (fun b e => hb.block b (World.ownsRow.lt h1 b e).2), h2⟩
/-- A disk that Open may read. -/
structure KX (W wx : World) (S : Nat → Prop) (H N q a p B0 : Nat) (uw un : Value) (c : Dk) (g g' : Lg) (died reset : Bool) (now : List En) (next : Hd) : Prop where
  f : KF W wx S H N q a p B0 uw un g g' died reset now next
  disk : DiskIs wx S a c
  rd : Rd c g'
  most : c.most = 100000
/-- A disk that any crash makes one that Open may read. -/
structure KV (W wx : World) (S : Nat → Prop) (H N q a p B0 : Nat) (uw un : Value) (c : Dk) (g g' : Lg) (died reset : Bool) (now : List En) (next : Hd) : Prop where
  f : KF W wx S H N q a p B0 uw un g g' died reset now next
  disk : DiskIs wx S a c
  ends : ∀ ks ns, Rd (crash c ks ns) g'
  most : c.most = 100000
/-- The log, opened anew. -/
structure KY (W wx : World) (T : Nat → Prop) (H N q a p p5 B0 : Nat) (uw un : Value) (c : Dk) (g g' : Lg) (died reset : Bool) (now : List En) (next : Hd) : Prop where
  f : KF W wx T H N q a p B0 uw un g g' died reset now next
  log : LogAt wx T p5 a c g'
theorem KY.later {W wx wy : World} {T : Nat → Prop} {H N q a p p5 B0 : Nat} {uw un : Value} {c : Dk} {g g' : Lg} {died reset : Bool} {now : List En} {next : Hd} (h : KY W wx T H N q a p p5 B0 uw un c g g' died reset now next) (hb : Below wx.heap.size wx wy) : KY W wy T H N q a p p5 B0 uw un c g g' died reset now next := ⟨h.f.later hb, h.log.below hb⟩
theorem KX.later {W wx wy : World} {S : Nat → Prop} {H N q a p B0 : Nat} {uw un : Value} {c : Dk} {g g' : Lg} {died reset : Bool} {now : List En} {next : Hd} (h : KX W wx S H N q a p B0 uw un c g g' died reset now next) (hb : Below wx.heap.size wx wy) : KX W wy S H N q a p B0 uw un c g g' died reset now next := ⟨h.f.later hb, h.disk.below hb, h.rd, h.most⟩
theorem IntsAt.later {W wx : World} {v : Value} {xs : List Int} (h : IntsAt W W.heap.size v xs) (hb : Below W.heap.size W wx) : IntsAt wx W.heap.size v xs := by
  obtain ⟨a, cap, e, hc⟩ := h
  refine ⟨a, cap, e, fun h0 => ?_⟩
  obtain ⟨sb, so, e1, hlt, hx⟩ := hc h0
  exact ⟨sb, so, e1, hlt, fun j x hj => (hb.cell (p := ⟨sb, so + j, none⟩) hlt).trans (hx j x hj)⟩
theorem KZ.crash {W wr : World} {T : Nat → Prop} {H N q p a B0 : Nat} {uw un : Value} {s : Dk} {g : Lg} {died reset : Bool} {now : List En} {next : Hd} (h : KZ W wr T H N q p a B0 uw un s g died reset now next) {kv nv : Value} {ks ns : List Int} (hkv : IntsAt W W.heap.size kv ks) (hnv : IntsAt W W.heap.size nv ns) (hkl : ks.length ≤ 1000) (hnl : ns.length ≤ 1000) (hk64 : ∀ n ∈ ks, -9223372036854775808 ≤ n ∧ n ≤ 9223372036854775807) :
    Calls Tryz.prog 34 #[.pointer (some ⟨a, 0, none⟩), kv, nv] wr fun e w' => e = .returned (.tuple #[]) ∧ ∃ S c g', Hid (KX W w' S H N q a p B0 uw un c g g' died reset now next) := by
  obtain ⟨⟨S, v, hd, _, hSp, _, hST, _, _⟩, _⟩ := h.kd.log
  have hSge : ∀ b, S b → W.heap.size ≤ b := fun b hb => h.kd.ge b (hST b hb)
  refine (crash_any hd h.kd.below.size hSge (hkv.later h.kd.below) (hnv.later h.kd.below) hkl hnl hk64).mono ?_
  rintro e w' ⟨he, hD, hc⟩
  obtain ⟨g', h1, h2⟩ := h.kd.ends ks ns
  have hf : KF W wr S H N q a p B0 uw un g g' died reset now next := ⟨h.kd.pair, hSge, fun e => h.hT (hST _ e), fun e => h.nT (hST _ e), fun e => h.kd.tq (hST _ e), h.kd.glob, h.kd.b0, h.kd.below, h.boxH, h.boxN, by obtain ⟨B, q1, q2⟩ := h.rwas; exact ⟨B, q1, fun b e hs => q2 b e (hST b hs)⟩, fun e => by obtain ⟨B, q1, q2⟩ := h.rnow e; exact ⟨B, q1, fun b e hs => q2 b e (hST b hs)⟩, h.len, h.nowL, h.kd.log.ok, h.kd.okN, h2⟩
  exact ⟨he, _, _, g', hid ⟨hf.chg hc (fun b hb => by rcases hb with hb | hb; exact .inl hb; exact .inr hb.1), hD, h1, h.kd.most⟩⟩
theorem KV.crash {W wr : World} {S : Nat → Prop} {H N q p a B0 : Nat} {uw un : Value} {s : Dk} {g g' : Lg} {died reset : Bool} {now : List En} {next : Hd} (h : KV W wr S H N q a p B0 uw un s g g' died reset now next) {kv nv : Value} {ks ns : List Int} (hkv : IntsAt W W.heap.size kv ks) (hnv : IntsAt W W.heap.size nv ns) (hkl : ks.length ≤ 1000) (hnl : ns.length ≤ 1000) (hk64 : ∀ n ∈ ks, -9223372036854775808 ≤ n ∧ n ≤ 9223372036854775807) :
    Calls Tryz.prog 34 #[.pointer (some ⟨a, 0, none⟩), kv, nv] wr fun e w' => e = .returned (.tuple #[]) ∧ ∃ S c, c.fuse < 0 ∧ Hid (KX W w' S H N q a p B0 uw un c g g' died reset now next) := by
  refine (crash_any h.disk h.f.below.size h.f.sge (hkv.later h.f.below) (hnv.later h.f.below) hkl hnl hk64).mono ?_
  rintro e w' ⟨he, hD, hc⟩
  exact ⟨he, _, _, (by show (-1 : Int) < 0; omega), hid ⟨h.f.chg hc (fun b hb => by rcases hb with hb | hb; exact .inl hb; exact .inr hb.1), hD, h.ends ks ns, h.most⟩⟩
theorem KX.fuse {W wr : World} {S : Nat → Prop} {H N q p a B0 : Nat} {uw un : Value} {c : Dk} {g g' : Lg} {died reset : Bool} {now : List En} {next : Hd} (h : KX W wr S H N q a p B0 uw un c g g' died reset now next) (k : Int) (hk : k ≤ 1000) :
    Calls Tryz.prog 31 #[.pointer (some ⟨a, 0, none⟩), .int .i64 k] wr fun e w' => e = .returned (.tuple #[]) ∧ ∃ S c, Hid (KX W w' S H N q a p B0 uw un c g g' died reset now next) := by
  refine (fuse_any h.disk k (by omega)).mono ?_
  rintro e w' ⟨he, hD, hc⟩
  exact ⟨he, _, _, hid ⟨h.f.chg hc (fun b hb => by rcases hb with hb | hb; exact .inl hb; exact .inr hb.1), hD, rd_fuse h.rd k, h.most⟩⟩
theorem tornR_most {s : Dk} {g : Lg} (h : Rd s g) {n : List UInt8} (hl : (segsL s.L).getLast? = some n) : (tornR s n).1.most = s.most := by
  unfold tornR
  by_cases hq : (scanL (dat s n)).2.2 = 0
  · rw [if_pos hq]
  · rw [if_neg hq]
    rcases tr_fuse h.good h.full h.fuse (mem_segsL.1 (List.mem_of_getLast? hl)).2 (scanL_le (dat s n).length (dat s n) (Nat.le_refl _)).1 with e | ⟨L1, f, d, e, he, _⟩
    · rw [e]
    · rw [he]
theorem KX.open {W wr : World} {S : Nat → Prop} {H N q p a B0 : Nat} {uw un : Value} {c : Dk} {g g' : Lg} {died reset : Bool} {now : List En} {next : Hd} (h : KX W wr S H N q a p B0 uw un c g g' died reset now next) :
    Calls Tryz.prog 29 #[.pointer (some ⟨a, 0, none⟩)] wr fun e w' => (∃ p5, e = .returned (.tuple #[.pointer (some ⟨p5, 0, none⟩), .int .i64 0]) ∧ ∃ T c', Hid (KY W w' T H N q a p p5 B0 uw un c' g g' died reset now next)) ∨ (¬ c.fuse < 0 ∧ e = .returned (.tuple #[.pointer none, .int .i64 7]) ∧ ∃ T c', Hid (KV W w' T H N q a p B0 uw un c' g g' died reset now next)) := by
  obtain ⟨n0, hn0⟩ := rd_last h.rd
  have hok : c.Ok := by obtain ⟨mb, F, hd⟩ := h.disk; exact hd.ok
  refine (open_torn h.disk h.rd.good h.f.glob (by have := h.f.b0; have := h.f.below.size; omega) h.rd.lie (by rw [h.most]; omega) hn0).mono ?_
  rintro e w' ⟨p5, T, he, hL, hT, hc, hp5⟩
  have hf := h.f.chg hc hT
  by_cases h0 : (tornR c n0).2 = 0
  · rw [if_pos h0, h0] at he
    exact .inl ⟨p5, he, T, _, hid ⟨hf, hL⟩⟩
  · rcases opened_rd hok h.rd hn0 with e0 | ⟨e7, hr⟩
    · exact absurd e0 h0
    · rw [if_neg h0, e7] at he
      obtain ⟨⟨S2, v, hd, _, _, _, hST, _, _⟩, _⟩ := hL
      have hf2 : KF W w' S2 H N q a p B0 uw un g g' died reset now next := ⟨hf.pair, fun b hb => hf.sge b (hST b hb), fun e => hf.hS (hST _ e), fun e => hf.nS (hST _ e), fun e => hf.qS (hST _ e), hf.glob, hf.b0, hf.below, hf.boxH, hf.boxN, by obtain ⟨B, q1, q2⟩ := hf.rwas; exact ⟨B, q1, fun b e hs => q2 b e (hST b hs)⟩, fun e => by obtain ⟨B, q1, q2⟩ := hf.rnow e; exact ⟨B, q1, fun b e hs => q2 b e (hST b hs)⟩, hf.len, hf.nowL, hf.gok, hf.okN, hf.fin⟩
      exact .inr ⟨fun hneg => h0 (opened_calm h.rd hneg hn0), he, S2, _, hid ⟨hf2, hd, hr, by rw [tornR_most h.rd hn0]; exact h.most⟩⟩
end Go.Proofs.YtbidglefddmjhaaGreatDoor

/-
  LAYER 3 (wal), the law WalKeeps: its beginning; the contracts of its end, in the shapes that its walk takes.
-/
namespace Go.Proofs.YtbidglefddmjhaaGreatDoor
open Go.RowKit Go.Maps
set_option linter.unusedVariables false
set_option maxRecDepth 100000

theorem LogAt.fused {wx : World} {T : Nat → Prop} {p a : Nat} {s : Dk} {g : Lg} (h : LogAt wx T p a s g) (k : Int) (hk : k ≤ 1000) :
    Calls Tryz.prog 31 #[.pointer (some ⟨a, 0, none⟩), .int .i64 k] wx fun e wy => e = .returned (.tuple #[]) ∧ LogAt wy (grow T wx wy) p a (setFuse s k) g ∧ Chg T wx wy := by
  have hT := h.lt
  obtain ⟨⟨S, v, h1, h2, h3, h4, h5, h6, h7⟩, hl, ho, hn⟩ := h
  have hpx := h2.head.lt
  refine (fuse_any h1 k (by omega)).mono ?_
  rintro e wy ⟨he, hD, hc2⟩
  have hz := hc2.size
  refine ⟨he, ⟨⟨_, v, hD, h2.same (hc2.block p hpx h3) (fun b hb => hc2.block b (World.ownsRow.lt h2.row b hb).2 (h4 b hb)), ?_, fun b hb hx => ?_, fun b hb => ?_, .inl h6, fun b hb => .inl (h7 b hb)⟩, grow_lt hT hz, ho, hn⟩, hc2.mono (fun b hb => h5 b hb)⟩
  · exact fun hx => hx.elim h3 (fun hx => by omega)
  · rcases hx with hx | hx
    · exact h4 b hb hx
    · have := (World.ownsRow.lt h2.row b hb).2; omega
  · rcases hb with hb | hb
    · exact .inl (h5 b hb)
    · exact .inr hb
/-- begin's log, its fuse set. -/
theorem keep_begun {W w3 w' : World} {q a p mq r ql : Nat} {T S : Nat → Prop} {B0 : Nat} (hb : Below W.heap.size W w3) (hg : Glob w3 B0) (hB0 : B0 ≤ W.heap.size) (h : Begun w3 w' q a p mq r ql T S (open0 (newD 100000)).1 (open0 (newD 100000)).1) (n : Int) (hn : n ≤ 1000) (wx : World) (hx : Below w'.heap.size w' wx) :
    Calls Tryz.prog 31 #[.pointer (some ⟨a, 0, none⟩), .int .i64 n] wx fun e wy => e = .returned (.tuple #[]) ∧ (wy.cell? ⟨q, 0, none⟩ = some (.pointer (some ⟨a, 0, none⟩)) ∧ wy.cell? ⟨q, 1, none⟩ = some (.pointer (some ⟨p, 0, none⟩))) ∧ ∃ T s g, Hid (Ke W wy T q p a B0 0 s g) := by
  obtain ⟨_, k2, k3⟩ := open0_good (m := 100000) (by omega) (by omega)
  have hz := hb.size
  have hxz := hx.size
  have hbz := h.below.size
  have hlog := h.log.below hx
  have hpair : PairAt wx q a p := own.same h.pair (hx.block _ (own.lt h.pair))
  refine (hlog.fused n hn).mono ?_
  rintro e wy ⟨he, hL, hc⟩
  have hcz := hc.size
  have hTge : ∀ b, T b → W.heap.size ≤ b := fun b hT => by have := h.ge.1 b hT; omega
  have hpr := own.chg hpair hc h.tq
  have hbl : Below W.heap.size W wx := (hb.trans (h.below.mono hz)).trans (hx.mono (by omega))
  refine ⟨he, ⟨(own.cell hpr 0).trans rfl, (own.cell hpr 1).trans rfl⟩, _, _, g0, hid ⟨hL, hpr, fun e => e.elim h.tq (fun e => by have := own.lt hpair; omega), ?_, ⟨g0_ok, fun e he => by simp [g0] at he, by simp [g0], fun e he => by simp [g0] at he⟩, fun b hb2 => ?_, by have := h.ge.2.2.1; omega, ?_, hB0, hbl.trans (hc.below hbl.size hTge), k3⟩⟩
  · exact Kp.warm k2 (allS_open0 (by omega) (by omega)) (recInv_begin (by omega) (by omega)) (by show -1 ≤ max n (-1); omega)
  · rcases hb2 with e | e
    · exact hTge b e
    · have := hbl.size; omega
  · exact ((hg.below h.below (by omega)).below hx (by omega)).chg hc (by omega) (fun b hT => by have := hTge b hT; omega)
theorem Ke.hard {W wx : World} {T : Nat → Prop} {q p a B0 k : Nat} {s : Dk} {g : Lg} (h : Ke W wx T q p a B0 k s g) : Calls Tryz.prog 20 #[.pointer (some ⟨p, 0, none⟩)] wx fun e w' => e = .returned (.agg #[.int .i64 g.hd.term, .int .i64 g.hd.vote]) ∧ (∀ hd : Hd, w'.cell? ⟨q, 1, none⟩ = some (.pointer (some ⟨p, 0, none⟩)) ∧ (w'.alloc (.cells #[.int .i64 hd.term, .int .i64 hd.vote] 50)).cell? ⟨q, 1, none⟩ = some (.pointer (some ⟨p, 0, none⟩))) ∧ Hid (Ke W w' T q p a B0 k s g) := by
  refine (hard_any h.log).mono ?_
  rintro e w' ⟨he, hb⟩
  have h2 := h.later hb
  exact ⟨he, fun hd => ⟨(own.cell h2.pair 1).trans rfl, (own.cell (h2.later ((Below.refl _ _).alloc (Nat.le_refl _) _)).pair 1).trans rfl⟩, hid h2⟩
/-- The first hard state in its box, and the first entries. -/
theorem Ke.entries {W w5 : World} {T : Nat → Prop} {q p a B0 k : Nat} {s : Dk} {g : Lg} (h : Ke W w5 T q p a B0 k s g) :
    Calls Tryz.prog 22 #[.pointer (some ⟨p, 0, none⟩)] (w5.alloc (.cells #[.int .i64 g.hd.term, .int .i64 g.hd.vote] 50)) fun e w7 => ∃ v, e = .returned v ∧ (w7.cell? ⟨w5.heap.size, 0, none⟩ = some (.int .i64 g.hd.term) ∧ w7.cell? ⟨w5.heap.size, 1, none⟩ = some (.int .i64 g.hd.vote)) ∧ Hid (KQ W (w7.alloc (.cells #[.int .i64 g.hd.term, .int .i64 g.hd.vote] 50)) T w5.heap.size w7.heap.size q p a B0 k v s g g.hd) := by
  have hb1 : Below w5.heap.size w5 (w5.alloc (.cells #[.int .i64 g.hd.term, .int .i64 g.hd.vote] 50)) := (Below.refl _ _).alloc (Nat.le_refl _) _
  have hz1 : (w5.alloc (.cells #[.int .i64 g.hd.term, .int .i64 g.hd.vote] 50)).heap.size = w5.heap.size + 1 := by simp
  have h1 := h.later hb1
  refine (entries_any h1.log).mono ?_
  rintro e w7 ⟨v, he, hv, hb⟩
  have hz7 := hb.size
  have hb2 : Below w7.heap.size w7 (w7.alloc (.cells #[.int .i64 g.hd.term, .int .i64 g.hd.vote] 50)) := (Below.refl _ _).alloc (Nat.le_refl _) _
  have hH : HBox w7 w5.heap.size g.hd := own.same (own.new w5 #[.int .i64 g.hd.term, .int .i64 g.hd.vote] 50) (hb.block _ (by omega))
  have hq := own.lt h.pair
  have hTl := h.log.lt
  have hge := h.below.size
  refine ⟨v, he, ⟨hH.cells.1, hH.cells.2.1⟩, hid ⟨(h1.later hb).later hb2, fun e => by have := hTl _ e; omega, fun e => by have := hTl _ e; omega, by omega, by omega, by omega, hge, by omega, own.same hH (hb2.block _ (by omega)), own.new w7 _ _, ⟨_, hv.same (fun b e => hb2.block b (World.ownsRow.lt hv b e).2), fun b e hb3 => ?_⟩⟩⟩
  have h3 := (World.ownsRow.lt hv b e).1
  have h4 := (World.ownsRow.lt hv b e).2
  rcases hb3 with hb3 | hb3 | hb3
  · have := hTl b hb3; omega
  · omega
  · omega
theorem KQ.skip {W wr : World} {T : Nat → Prop} {H N q p a B0 k : Nat} {uw : Value} {s : Dk} {g : Lg} {next : Hd} (h : KQ W wr T H N q p a B0 k uw s g next) : KQ W wr T H N q p a B0 (k + 1) uw s g next :=
  ⟨⟨h.ke.log, h.ke.pair, h.ke.tq, h.ke.keep, h.ke.lgin.mono (by omega), h.ke.ge, h.ke.qge, h.ke.glob, h.ke.b0, h.ke.below, h.ke.most⟩, h.hT, h.nT, h.hn, h.hq, h.nq, h.hge, h.nge, h.boxH, h.boxN, h.rwas⟩
/-- A row made since: apart from all that the law has. -/
theorem KQ.fresh {W wr wE : World} {T : Nat → Prop} {H N q p a B0 k : Nat} {uw v : Value} {s : Dk} {g : Lg} {next : Hd} {L : List En} (h : KQ W wr T H N q p a B0 k uw s g next) (hv : EntRow wE wr.heap.size v L) : ERow wE (fun b => T b ∨ b = H ∨ b = N) v L := by
  refine ⟨_, hv, fun b e hb => ?_⟩
  have h3 := (World.ownsRow.lt hv b e).1
  have h4 := own.lt h.boxH
  have h5 := own.lt h.boxN
  rcases hb with hb | hb | hb
  · have := h.ke.log.lt b hb; omega
  · omega
  · omega
theorem ERow.set2 {w : World} {T : Nat → Prop} {H N : Nat} {v : Value} {L : List En} (h : ERow w (fun b => T b ∨ b = H ∨ b = N) v L) (x y : Value) : ERow ((w.setCell ⟨N, 0, none⟩ x).setCell ⟨N, 1, none⟩ y) (fun b => T b ∨ b = H ∨ b = N) v L := by
  obtain ⟨B, h1, h2⟩ := h
  exact ⟨B, h1.same (fun b e => (Chg.set2 w N x y).block b (World.ownsRow.lt h1 b e).2 (fun e2 => h2 b e (.inr (.inr e2)))), h2⟩
theorem ERow.nil (w : World) (T : Nat → Prop) : ERow w T (.slice none 0 0) [] := ⟨0, EntRow.none _ _, fun b e => by cases e⟩
theorem ERow.later {w wx : World} {T : Nat → Prop} {v : Value} {L : List En} (h : ERow w T v L) (hb : Below w.heap.size w wx) : ERow wx T v L := by
  obtain ⟨B, h1, h2⟩ := h
  exact ⟨B, h1.same (fun b e => hb.block b (World.ownsRow.lt h1 b e).2), h2⟩
end Go.Proofs.YtbidglefddmjhaaGreatDoor

/-
  LAYER 3 (wal), the law WalKeeps: the contracts of its end, in the shapes that its walk takes.
-/
namespace Go.Proofs.YtbidglefddmjhaaGreatDoor
open Go.RowKit Go.Maps
set_option linter.unusedVariables false
set_option maxRecDepth 100000

section
variable {W wr : World} {S : Nat → Prop} {H N q p a B0 : Nat} {uw un : Value} {c : Dk} {g g' : Lg} {died reset : Bool} {now : List En} {next : Hd}
theorem KX.open2 (h : KX W wr S H N q a p B0 uw un c g g' died reset now next) :
    Calls Tryz.prog 29 #[.pointer (some ⟨a, 0, none⟩)] wr fun e w' => ∃ (po : Option Addr) (err : Int), e = .returned (.tuple #[.pointer po, .int .i64 err]) ∧ Hid ((∃ p5, po = some ⟨p5, 0, none⟩ ∧ err = 0 ∧ ∃ T c', KY W w' T H N q a p p5 B0 uw un c' g g' died reset now next) ∨ (po = none ∧ err = 7 ∧ ∃ T c', KV W w' T H N q a p B0 uw un c' g g' died reset now next)) := by
  refine h.open.mono ?_
  rintro e w' (⟨p5, he, T, c', hY⟩ | ⟨_, he, T, c', hV⟩)
  · exact ⟨_, _, he, hid (.inl ⟨p5, rfl, rfl, T, c', hY.out⟩)⟩
  · exact ⟨_, _, he, hid (.inr ⟨rfl, rfl, T, c', hV.out⟩)⟩
theorem KX.open3 (h : KX W wr S H N q a p B0 uw un c g g' died reset now next) (hf : c.fuse < 0) :
    Calls Tryz.prog 29 #[.pointer (some ⟨a, 0, none⟩)] wr fun e w' => ∃ p5, e = .returned (.tuple #[.pointer (some ⟨p5, 0, none⟩), .int .i64 0]) ∧ ∃ T c', Hid (KY W w' T H N q a p p5 B0 uw un c' g g' died reset now next) := by
  refine h.open.mono ?_
  rintro e w' (⟨p5, he, T, c', hY⟩ | ⟨hn, _⟩)
  · exact ⟨p5, he, T, c', hY⟩
  · exact absurd hf hn
theorem KF.cells {wx : World} (h : KF W wx S H N q a p B0 uw un g g' died reset now next) : wx.cell? ⟨q, 0, none⟩ = some (.pointer (some ⟨a, 0, none⟩)) ∧ wx.cell? ⟨q, 1, none⟩ = some (.pointer (some ⟨p, 0, none⟩)) := ⟨(own.cell h.pair 0).trans rfl, (own.cell h.pair 1).trans rfl⟩
theorem KF.boxes {wx : World} (h : KF W wx S H N q a p B0 uw un g g' died reset now next) : wx.cell? ⟨H, 0, none⟩ = some (.int .i64 g.hd.term) ∧ wx.cell? ⟨H, 1, none⟩ = some (.int .i64 g.hd.vote) ∧ wx.cell? ⟨N, 0, none⟩ = some (.int .i64 next.term) ∧ wx.cell? ⟨N, 1, none⟩ = some (.int .i64 next.vote) := ⟨h.boxH.cells.1, h.boxH.cells.2.1, h.boxN.cells.1, h.boxN.cells.2.1⟩
variable {wy : World} {T : Nat → Prop} {p5 : Nat}
theorem KY.hard (h : KY W wy T H N q a p p5 B0 uw un c g g' died reset now next) : Calls Tryz.prog 20 #[.pointer (some ⟨p5, 0, none⟩)] wy fun e w' => e = .returned (.agg #[.int .i64 g'.hd.term, .int .i64 g'.hd.vote]) ∧ Below wy.heap.size wy w' := hard_any h.log
theorem KY.entries (h : KY W wy T H N q a p p5 B0 uw un c g g' died reset now next) : Calls Tryz.prog 22 #[.pointer (some ⟨p5, 0, none⟩)] wy fun e w' => ∃ ao cap, e = .returned (.slice ao g'.L.length cap) ∧ Hid (EntsAt w' (.slice ao g'.L.length cap) g'.L) ∧ Below wy.heap.size wy w' := by
  refine (entries_any h.log).mono ?_
  rintro e w' ⟨v, he, hv, hb⟩
  obtain ⟨ao, cap, rfl, -, -⟩ := hv.slice
  exact ⟨ao, cap, he, hid hv.ents, hb⟩
theorem KY.same (h : KY W wy T H N q a p p5 B0 uw un c g g' died reset now next) {v : Value} (hv : EntsAt wy v g'.L) : Calls Tryz.prog 21 #[v, uw] wy fun e w' => e = .returned (.bool (decide (g'.L = g.L))) ∧ Below wy.heap.size wy w' := by
  obtain ⟨B, hw, _⟩ := h.f.rwas
  exact same_any v uw g'.L g.L wy hv hw.ents h.log.len (by have := h.f.len; omega)
theorem KY.begun (h : KY W wy T H N q a p p5 B0 uw un c g g' true false now next) (hb : ∃ j, j ≤ now.length ∧ g'.L = putEs g.L (now.take j)) {v : Value} (hv : EntsAt wy v g'.L) : Calls Tryz.prog 35 #[v, uw, un] wy fun e w' => e = .returned (.bool true) ∧ Below wy.heap.size wy w' := by
  obtain ⟨B, hw, _⟩ := h.f.rwas
  obtain ⟨B2, hn, _⟩ := h.f.rnow rfl
  have h1 := h.f.len
  have h2 := h.f.nowL
  have hl : g'.L.length ≤ 9900 := by
    obtain ⟨j, _, e⟩ := hb
    rw [e]
    have h3 := putEs_le (now.take j) g.L
    have h4 : (now.take j).length ≤ now.length := by rw [List.length_take]; omega
    omega
  exact begun_any hv hw hn.ents hl h1 h2 h.f.gok.row h.f.gok.ents (h.f.okN rfl rfl) hb
end
/-- How what was read stands to what was. -/
theorem fin3_cases {g g' : Lg} {died reset : Bool} {now : List En} {next : Hd} (h : Fin3 g g' died reset now next) :
    (g'.hd = g.hd ∧ g'.L = g.L) ∨ (died = true ∧ reset = true ∧ g'.hd = g.hd ∧ g'.L = [] ∧ g'.L ≠ g.L) ∨ (died = true ∧ reset = false ∧ g'.hd = next ∧ (∃ j, j ≤ now.length ∧ g'.L = putEs g.L (now.take j)) ∧ (next = g.hd ∧ g'.L ≠ g.L ∨ next.term ≠ g.hd.term ∨ (next.term = g.hd.term ∧ next.vote ≠ g.hd.vote))) := by
  rcases h with h | ⟨hd, ⟨hr, h⟩ | ⟨hr, j, hj, h⟩⟩
  · subst h; exact .inl ⟨rfl, rfl⟩
  · subst h
    by_cases e : g.L = []
    · exact .inl ⟨rfl, e.symm⟩
    · exact .inr (.inl ⟨hd, hr, rfl, rfl, fun e2 => e e2.symm⟩)
  · subst h
    by_cases e1 : next.term = g.hd.term
    · by_cases e2 : next.vote = g.hd.vote
      · have e3 : next = g.hd := by
          cases next; cases hg : g.hd
          rw [hg] at e1 e2
          simp_all
        by_cases e4 : putEs g.L (now.take j) = g.L
        · exact .inl ⟨e3, e4⟩
        · exact .inr (.inr ⟨hd, hr, rfl, ⟨j, hj, rfl⟩, .inl ⟨e3, e4⟩⟩)
      · exact .inr (.inr ⟨hd, hr, rfl, ⟨j, hj, rfl⟩, .inr (.inr ⟨e1, e2⟩)⟩)
    · exact .inr (.inr ⟨hd, hr, rfl, ⟨j, hj, rfl⟩, .inr (.inl e1)⟩)
end Go.Proofs.YtbidglefddmjhaaGreatDoor

