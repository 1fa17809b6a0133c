import Derived.Test.YtgchdlfoehlomaaGreatDoorWlRoomJ
import Derived.Test.YtgchdlfoehlomaaGreatDoorWlRecsJ
/-
  LAYER 3 (wal): a log and its disk in memory, through a row of calls.
-/
namespace Go.Proofs.YtgchdlfoehlomaaGreatDoor
open Go.RowKit Go.Maps
set_option linter.unusedVariables false
set_option maxRecDepth 100000

/-- A log (block p) with its disk (block a); T: all blocks that they may turn. -/
structure LogAt (w : World) (T : Nat → Prop) (p a : Nat) (s : Dk) (g : Lg) : Prop where
  ex : ∃ S v, DiskIs w S a s ∧ StRep w 0 p a v g ∧ ¬ S p ∧ (∀ b, v.ownBlock = some b → ¬ S b) ∧ (∀ b, S b → T b) ∧ T p ∧ ∀ b, v.ownBlock = some b → T b
  lt : ∀ b, T b → b < w.heap.size
  ok : g.Ok
  len : g.L.length ≤ 100000
/-- .. behind calls from world w on. -/
def LgRun (w : World) (T : Nat → Prop) (p a : Nat) (s : Dk) (g : Lg) (wx : World) : Prop := LogAt wx (grow T w wx) p a s g ∧ Chg T w wx
section
variable {w wx wy : World} {T : Nat → Prop} {p a : Nat} {s : Dk} {g : Lg}
theorem LogAt.below (h : LogAt w T p a s g) (hb : Below w.heap.size w wx) : LogAt wx T p a s g := by
  obtain ⟨⟨S, v, h1, h2, h3⟩, hl, ho, hn⟩ := h
  exact ⟨⟨S, v, h1.below hb, h2.below hb, h3⟩, fun b hT => by have := hl b hT; have := hb.size; omega, ho, hn⟩
theorem LogAt.widen (h : LogAt w T p a s g) {U : Nat → Prop} (hU : ∀ b, T b → U b) (hl : ∀ b, U b → b < w.heap.size) : LogAt w U p a s g := by
  obtain ⟨⟨S, v, h1, h2, h3, h4, h5, h6, h7⟩, _, ho, hn⟩ := h
  exact ⟨⟨S, v, h1, h2, h3, h4, fun b hb => hU b (h5 b hb), hU p h6, fun b hb => hU b (h7 b hb)⟩, hl, ho, hn⟩
theorem LogAt.run (h : LogAt w T p a s g) : LgRun w T p a s g w := ⟨h.widen (fun b hb => .inl hb) (grow_lt h.lt (Nat.le_refl _)), Chg.refl _ _⟩
theorem LgRun.below (h : LgRun w T p a s g wx) (hb : Below wx.heap.size wx wy) : LgRun w T p a s g wy := by
  obtain ⟨h1, h2⟩ := h
  have h3 := h1.below hb
  refine ⟨h3.widen (fun b hx => ?_) (fun b hx => ?_), h2.trans (Chg.of_below (S := T) hb) (fun b hb => .inl hb)⟩
  · rcases hx with hx | hx
    · exact .inl hx
    · exact .inr ⟨hx.1, by have := hb.size; omega⟩
  · rcases hx with hx | hx
    · have := h1.lt b (.inl hx); have := hb.size; omega
    · exact hx.2
theorem LgRun.ok (h : LgRun w T p a s g wx) : g.Ok := h.1.ok
theorem LogAt.ptr (h : LogAt w T p a s g) : p < w.heap.size := by
  obtain ⟨⟨S, v, h1, h2, _⟩, _⟩ := h
  exact h2.head.lt
theorem LogAt.cells (h : LogAt w T p a s g) : w.cell? ⟨p, 0, none⟩ = some (.pointer (some ⟨a, 0, none⟩)) ∧ w.cell? ⟨p, 1, none⟩ = some (.int .i64 g.hd.term) ∧ w.cell? ⟨p, 2, none⟩ = some (.int .i64 g.hd.vote) ∧ (∀ k, w.frozen? ⟨p, k, none⟩ = false) := by
  obtain ⟨⟨S, v, h1, h2, _⟩, _⟩ := h
  exact ⟨(h2.head.cell 0).trans rfl, (h2.head.cell 1).trans rfl, (h2.head.cell 2).trans rfl, h2.head.frozen⟩
theorem grow_in {w wx wy : World} {S T : Nat → Prop} (hS : ∀ b, S b → grow T w wx b) (h1 : w.heap.size ≤ wx.heap.size) (h2 : wx.heap.size ≤ wy.heap.size) : ∀ b, grow S wx wy b → grow T w wy b := fun b hb => by
  rcases hb with hb | hb
  · rcases hS b hb with hb | hb
    · exact .inl hb
    · exact .inr ⟨hb.1, by omega⟩
  · exact .inr ⟨by omega, hb.2⟩
theorem LgRun.lt (h : LgRun w T p a s g wx) (hT : ∀ b, T b → b < w.heap.size) : ∀ b, grow T w wx b → b < wx.heap.size := grow_lt hT h.2.size
/-- A call of the disk's. -/
theorem LgRun.op (h : LgRun w T p a s g wx) (hT : ∀ b, T b → b < w.heap.size) {f : FuncId} {args : Array Value} {r : Dk × Int} (hf : ∀ S, DiskIs wx S a s → AtDisk wx S p a → Calls Tryz.prog f args wx (OpPost wx S a r)) :
    Calls Tryz.prog f args wx fun e wy => e = .returned (.int .i64 r.2) ∧ LgRun w T p a r.1 g wy := by
  obtain ⟨⟨⟨S, v, h1, h2, h3, h4, h5, h6, h7⟩, hl, ho, hn⟩, hc⟩ := h
  have hpx := h2.head.lt
  refine (hf S h1 ⟨h3, hpx, (h2.head.cell 0).trans rfl⟩).mono ?_
  rintro e wy ⟨he, hD, hc2⟩
  refine ⟨he, ⟨⟨_, v, hD, h2.same (hc2.block p hpx h3) (fun b hb => hc2.block b (World.ownsRow.lt h2.row b hb).2 (h4 b hb)), ?_, fun b hb hx => ?_, grow_in h5 hc.size hc2.size, ?_, fun b hb => ?_⟩, grow_lt hT (by have := hc.size; have := hc2.size; omega), ho, hn⟩, hc.trans hc2 (fun b hb => ?_)⟩
  · exact fun hx => hx.elim h3 (fun hx => by omega)
  · rcases hx with hx | hx
    · exact h4 b hb hx
    · have := (World.ownsRow.lt h2.row b hb).2; omega
  · rcases h6 with h6 | h6
    · exact .inl h6
    · exact .inr ⟨h6.1, by have := hc2.size; omega⟩
  · rcases h7 b hb with h8 | h8
    · exact .inl h8
    · exact .inr ⟨h8.1, by have := hc2.size; omega⟩
  · rcases h5 b hb with h8 | h8
    · exact .inl h8
    · exact .inr h8.1
/-- A call that reads the disk, and may make memory. -/
theorem LgRun.reads (h : LgRun w T p a s g wx) {f : FuncId} {args : Array Value} {Q : Ending → World → Prop} (hf : ∀ S, DiskIs wx S a s → AtDisk wx S p a → Calls Tryz.prog f args wx Q) : Calls Tryz.prog f args wx Q := by
  obtain ⟨⟨⟨S, v, h1, h2, h3, _⟩, _⟩, _⟩ := h
  exact hf S h1 ⟨h3, h2.head.lt, (h2.head.cell 0).trans rfl⟩
theorem LgRun.disk (h : LgRun w T p a s g wx) : s.Ok := by
  obtain ⟨⟨⟨S, v, ⟨mb, F, h1⟩, _⟩, _⟩, _⟩ := h
  exact h1.ok
/-- The state turned. -/
theorem LgRun.state (h : LgRun w T p a s g wx) (hT : ∀ b, T b → b < w.heap.size) {g' : Lg} (hg : g'.Ok) (hn' : g'.L.length ≤ 100000)
    (hs : ∀ v, StRep wx 0 p a v g → ∃ v', StRep wy 0 p a v' g' ∧ Chg (fun b => b = p ∨ v.ownBlock = some b) wx wy ∧ (v'.ownBlock = v.ownBlock ∨ ∀ b, v'.ownBlock = some b → wx.heap.size ≤ b)) : LgRun w T p a s g' wy := by
  obtain ⟨⟨⟨S, v, h1, h2, h3, h4, h5, h6, h7⟩, hl, ho, hn⟩, hc⟩ := h
  obtain ⟨v', k1, k2, k3⟩ := hs v h2
  have hS : ∀ b, S b → b < wx.heap.size := fun b hb => hl b (h5 b hb)
  refine ⟨⟨⟨S, v', h1.same k2.size (fun b hb => k2.block b (hS b hb) (fun e => ?_)), k1, h3, fun b hb hx => ?_, fun b hb => ?_, ?_, fun b hb => ?_⟩, grow_lt hT (by have := hc.size; have := k2.size; omega), hg, hn'⟩, hc.trans k2 (fun b hb => ?_)⟩
  · rcases e with e | e
    · exact h3 (by rw [← e]; exact hb)
    · exact h4 b e hb
  · rcases k3 with k3 | k3
    · exact h4 b (by rw [← k3]; exact hb) hx
    · have := k3 b hb; have := hS b hx; omega
  · rcases h5 b hb with h8 | h8
    · exact .inl h8
    · exact .inr ⟨h8.1, by have := k2.size; omega⟩
  · rcases h6 with h6 | h6
    · exact .inl h6
    · exact .inr ⟨h6.1, by have := k2.size; omega⟩
  · rcases k3 with k3 | k3
    · rcases h7 b (by rw [← k3]; exact hb) with h8 | h8
      · exact .inl h8
      · exact .inr ⟨h8.1, by have := k2.size; omega⟩
    · exact .inr ⟨by have := k3 b hb; have := hc.size; omega, (World.ownsRow.lt k1.row b hb).2⟩
  · rcases hb with e | e
    · rw [e]
      rcases h6 with h6 | h6
      · exact .inl h6
      · exact .inr h6.1
    · rcases h7 b e with h8 | h8
      · exact .inl h8
      · exact .inr h8.1
theorem LgRun.rebase (hb : Below w.heap.size w wx) (hT : ∀ b, T b → b < w.heap.size) (h : LgRun wx T p a s g wy) : LgRun w T p a s g wy := by
  obtain ⟨h1, h2⟩ := h
  have hz := hb.size
  refine ⟨h1.widen (fun b hx => ?_) (grow_lt hT (by have := h2.size; omega)), (Chg.of_below hb).trans h2 (fun b hx => .inl hx)⟩
  rcases hx with hx | hx
  · exact .inl hx
  · exact .inr ⟨by omega, hx.2⟩
theorem LgRun.write (h : LgRun w T p a s g wx) (hT : ∀ b, T b → b < w.heap.size) (n d : ByteArray) (hn : n.size ≤ maxLen) (hd : d.size ≤ 140737488355328) :
    Calls Tryz.prog 34 #[.pointer (some ⟨p, 0, none⟩), .string n, .string d] wx fun e wy => e = .returned (.int .i64 (wrL s n.data.toList d.data.toList).2) ∧ LgRun w T p a (wrL s n.data.toList d.data.toList).1 g wy :=
  h.op hT fun S h1 h2 => write_any h1 h2 n d hn hd
theorem LgRun.put (h : LgRun w T p a s g wx) (hT : ∀ b, T b → b < w.heap.size) (x : En) (hx : entB x = true) (hi : x.In) (hd : x.data.length ≤ 140737488355328) (hn : g.L.length + 1 ≤ 100000) :
    Calls Tryz.prog 49 #[.pointer (some ⟨p, 1, none⟩), .agg #[.int .i64 x.idx, .int .i64 x.term, .int .i64 x.kind, .string (mk x.data)]] wx fun e wy => e = .returned (.tuple #[]) ∧ LgRun w T p a s { g with L := putE g.L x } wy := by
  have h' := h
  obtain ⟨⟨⟨S, v, h1, h2, h3, h4, h5, h6, h7⟩, hl, ho, hl'⟩, hc⟩ := h
  obtain ⟨q1, q2⟩ := putE_ok ho.row ho.ents hx hi
  refine (put_any h2 ho.row (fun e he => (ho.ents e he).2) hl' (Nat.zero_le _) x hi.idx hd).mono ?_
  rintro e wy ⟨he, v', k1, k2, k3⟩
  -- the state is turned at this very row
  refine ⟨he, ⟨⟨S, v', h1.same k2.size (fun b hb => k2.block b (hl b (h5 b hb)) (fun e => ?_)), k1, h3, fun b hb hx => ?_, fun b hb => ?_, ?_, fun b hb => ?_⟩, grow_lt hT (by have := hc.size; have := k2.size; omega), ⟨ho.hd, q1, q2⟩, ?_⟩, hc.trans k2 (fun b hb => ?_)⟩
  · rcases e with e | e
    · exact h3 (by rw [← e]; exact hb)
    · exact h4 b e hb
  · rcases k3 with k3 | k3
    · exact h4 b (by rw [← k3]; exact hb) hx
    · have := k3 b hb; have := hl b (h5 b hx); omega
  · rcases h5 b hb with h8 | h8
    · exact .inl h8
    · exact .inr ⟨h8.1, by have := k2.size; omega⟩
  · rcases h6 with h6 | h6
    · exact .inl h6
    · exact .inr ⟨h6.1, by have := k2.size; omega⟩
  · rcases k3 with k3 | k3
    · rcases h7 b (by rw [← k3]; exact hb) with h8 | h8
      · exact .inl h8
      · exact .inr ⟨h8.1, by have := k2.size; omega⟩
    · exact .inr ⟨by have := k3 b hb; have := hc.size; omega, (World.ownsRow.lt k1.row b hb).2⟩
  · have : (putE g.L x).length ≤ g.L.length + 1 := by
      unfold putE
      rw [List.length_append, List.length_take, List.length_singleton]; omega
    show (putE g.L x).length ≤ 100000
    omega
  · rcases hb with e | e
    · rw [e]
      rcases h6 with h6 | h6
      · exact .inl h6
      · exact .inr h6.1
    · rcases h7 b e with h8 | h8
      · exact .inl h8
      · exact .inr h8.1
/-- The hard state stored. -/
theorem LgRun.hard (h : LgRun w T p a s g wx) (hT : ∀ b, T b → b < w.heap.size) {hh : Hd} (h0 : hdB hh = true) (h1 : I64 hh.term) (h2 : I64 hh.vote) :
    LgRun w T p a s { g with hd := hh } ((wx.setCell ⟨p, 1, none⟩ (.int .i64 hh.term)).setCell ⟨p, 2, none⟩ (.int .i64 hh.vote)) := by
  refine h.state hT (g' := { g with hd := hh }) ⟨⟨h0, h1, h2⟩, h.ok.row, h.ok.ents⟩ h.1.len (fun v hv => ⟨v, ?_, ?_, .inl rfl⟩)
  · have o1 := hv.head.set 1 (.int .i64 hh.term)
    have o2 := o1.set 2 (.int .i64 hh.vote)
    refine ⟨by simpa using o2, hv.row.same (fun b hb => ?_), hv.apart, hv.hp⟩
    have hne : b ≠ p := fun e => hv.apart (by rw [hb, e])
    exact (Below.heap_setCell _ _ _ _ hne).trans (Below.heap_setCell _ _ _ _ hne)
  · exact (Chg.setCell wx ⟨p, 1, none⟩ _).trans (Chg.setCell _ ⟨p, 2, none⟩ _) (fun b e => .inl e) |>.mono (fun b e => .inl e)
/-- The entries forgotten. -/
theorem LgRun.empty (h : LgRun w T p a s g wx) (hT : ∀ b, T b → b < w.heap.size) : LgRun w T p a s { g with L := [] } (wx.setCell ⟨p, 3, none⟩ (.slice none 0 0)) := by
  refine h.state hT (g' := { g with L := [] }) ⟨h.ok.hd, fun k hk => by simp at hk, fun e he => by cases he⟩ (Nat.zero_le _) (fun v hv => ⟨.slice none 0 0, ?_, (Chg.setCell wx ⟨p, 3, none⟩ _).mono (fun b e => .inl e), .inr (fun b hb => by cases hb)⟩)
  exact ⟨by simpa using hv.head.set 3 (.slice none 0 0), EntRow.none _ _, (fun e => by cases e), hv.hp⟩
end
end Go.Proofs.YtgchdlfoehlomaaGreatDoor

