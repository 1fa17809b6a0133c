import Derived.Test.YtgchdlfoehlomaaGreatDoorWlPutJ
/-
  LAYER 3 (wal): the state: a record taken.
-/
namespace Go.Proofs.YtgchdlfoehlomaaGreatDoor
open Go.RowKit Go.Maps
set_option linter.unusedVariables false
set_option maxRecDepth 100000

/-- A record's cells, whatever the fields hold that its kind has not. -/
def rcells (k : Int) (h : Hd) (e : En) : List Value := [.int .i64 k, .int .i64 h.term, .int .i64 h.vote, .int .i64 e.idx, .int .i64 e.term, .int .i64 e.kind, .string (mk e.data)]
def RcIs (k : Int) (h : Hd) (e : En) : Rc → Prop
  | .hard h' => k = 1 ∧ h = h'
  | .entry e' => k = 2 ∧ e = e'
  | .reset => k = 3
theorem StRep.lt {w : World} {B p a : Nat} {v : Value} {g : Lg} (h : StRep w B p a v g) : ∀ b, v.ownBlock = some b → B ≤ b ∧ b < w.heap.size := fun b hb => World.ownsRow.lt h.row b hb
theorem EntRow.none (w : World) (B : Nat) : EntRow w B (.slice none 0 0) [] := ⟨rfl, .inl ⟨rfl, rfl⟩⟩
set_option maxHeartbeats 4000000 in
theorem take_hard {w : World} {B p a : Nat} {v : Value} {g : Lg} (h : StRep w B p a v g) (hB : B ≤ w.heap.size) (hh : Hd) (x : En) :
    Calls Tryz.prog 69 #[.pointer (some ⟨p, 1, none⟩), .agg (rcells 1 hh x).toArray] w (PutPost w B p a v { g with hd := hh }) := by
  have hpw := h.head.lt
  have f1 := h.head.frozen 1
  have o1 := h.head.set 1 (.int .i64 hh.term)
  have f2 := o1.frozen 2
  have o2 := o1.set 2 (.int .i64 hh.vote)
  have p1 := h.head.cell 1
  have p2 := o1.cell 2
  simp at p1 p2
  have hc2 : Chg (fun b => b = p ∨ v.ownBlock = some b) w ((w.setCell ⟨p, 1, none⟩ (.int .i64 hh.term)).setCell ⟨p, 2, none⟩ (.int .i64 hh.vote)) := (Chg.setCell w ⟨p, 1, none⟩ _).trans (Chg.setCell _ ⟨p, 2, none⟩ _) (fun b e => .inl e) |>.mono (fun b e => .inl e)
  have hal : Below ((w.setCell ⟨p, 1, none⟩ (.int .i64 hh.term)).setCell ⟨p, 2, none⟩ (.int .i64 hh.vote)).heap.size ((w.setCell ⟨p, 1, none⟩ (.int .i64 hh.term)).setCell ⟨p, 2, none⟩ (.int .i64 hh.vote)) (((w.setCell ⟨p, 1, none⟩ (.int .i64 hh.term)).setCell ⟨p, 2, none⟩ (.int .i64 hh.vote)).alloc (.cells (rcells 1 hh x).toArray 131)) := Below.alloc (Below.refl _ _) (Nat.le_refl _) _
  have hs2 : StRep ((w.setCell ⟨p, 1, none⟩ (.int .i64 hh.term)).setCell ⟨p, 2, none⟩ (.int .i64 hh.vote)) B p a v { g with hd := hh } := by
    refine ⟨by simpa using o2, h.row.same (fun b hb => ?_), h.apart, h.hp⟩
    have hne : b ≠ p := fun e => h.apart (by rw [hb, e])
    exact (Below.heap_setCell _ _ _ _ hne).trans (Below.heap_setCell _ _ _ _ hne)
  have hfin : PutPost w B p a v { g with hd := hh } (.returned (.tuple #[])) (((w.setCell ⟨p, 1, none⟩ (.int .i64 hh.term)).setCell ⟨p, 2, none⟩ (.int .i64 hh.vote)).alloc (.cells (rcells 1 hh x).toArray 131)) :=
    ⟨rfl, v, hs2.below hal, hc2.trans (Chg.of_below hal) (fun b hb => .inl hb), .inl rfl⟩
  have HFin := hid hfin
  unfold rcells at *
  clear h o1 o2 hc2 hal hs2 hfin
  go_enter Tryz.func69, Tryz.ntmps69
  go_wp2
  go_end0
  exact HFin.out
set_option maxHeartbeats 4000000 in
theorem take_reset {w : World} {B p a : Nat} {v : Value} {g : Lg} (h : StRep w B p a v g) (hB : B ≤ w.heap.size) (hh : Hd) (x : En) :
    Calls Tryz.prog 69 #[.pointer (some ⟨p, 1, none⟩), .agg (rcells 3 hh x).toArray] w (PutPost w B p a v { g with L := [] }) := by
  have hpw := h.head.lt
  have f3 := h.head.frozen 3
  have p3 := h.head.cell 3
  simp at p3
  have o1 := h.head.set 3 (.slice none 0 0)
  have hc2 : Chg (fun b => b = p ∨ v.ownBlock = some b) w (w.setCell ⟨p, 3, none⟩ (.slice none 0 0)) := (Chg.setCell w ⟨p, 3, none⟩ _).mono (fun b e => .inl e)
  have hal : Below (w.setCell ⟨p, 3, none⟩ (.slice none 0 0)).heap.size (w.setCell ⟨p, 3, none⟩ (.slice none 0 0)) ((w.setCell ⟨p, 3, none⟩ (.slice none 0 0)).alloc (.cells (rcells 3 hh x).toArray 131)) := Below.alloc (Below.refl _ _) (Nat.le_refl _) _
  have hs2 : StRep (w.setCell ⟨p, 3, none⟩ (.slice none 0 0)) B p a (.slice none 0 0) { g with L := [] } :=
    ⟨by simpa using o1, EntRow.none _ _, (fun e => by cases e), h.hp⟩
  have hfin : PutPost w B p a v { g with L := [] } (.returned (.tuple #[])) ((w.setCell ⟨p, 3, none⟩ (.slice none 0 0)).alloc (.cells (rcells 3 hh x).toArray 131)) :=
    ⟨rfl, .slice none 0 0, hs2.below hal, hc2.trans (Chg.of_below hal) (fun b hb => .inl hb), .inr (fun b e => by cases e)⟩
  have HFin := hid hfin
  unfold rcells at *
  clear h o1 hc2 hal hs2 hfin
  go_enter Tryz.func69, Tryz.ntmps69
  go_wp2
  go_end0
  exact HFin.out
set_option maxHeartbeats 4000000 in
theorem take_entry {w : World} {B p a : Nat} {v : Value} {g : Lg} (h : StRep w B p a v g) (hc : Consec g.L) (hin : ∀ e ∈ g.L, e.In) (hl : g.L.length ≤ 100000) (hB : B ≤ w.heap.size) (hh : Hd) (x : En) (hx : I64 x.idx) (hd : x.data.length ≤ 140737488355328) :
    Calls Tryz.prog 69 #[.pointer (some ⟨p, 1, none⟩), .agg (rcells 2 hh x).toArray] w (PutPost w B p a v { g with L := putE g.L x }) := by
  have hpw := h.head.lt
  have hal : Below w.heap.size w (w.alloc (.cells (rcells 2 hh x).toArray 131)) := Below.alloc (Below.refl _ _) (Nat.le_refl _) _
  have HP : Hid (Calls Tryz.prog 49 #[.pointer (some ⟨p, 1, none⟩), .agg #[.int .i64 x.idx, .int .i64 x.term, .int .i64 x.kind, .string (mk x.data)]] (w.alloc (.cells (rcells 2 hh x).toArray 131)) (PutPost w B p a v { g with L := putE g.L x })) := hid (by
    refine (put_any (h.below hal) hc hin hl (by have := hal.size; omega) x hx hd).mono ?_
    rintro e w' ⟨rfl, v', h1, h2, h3⟩
    refine ⟨rfl, v', h1, (Chg.of_below hal).trans h2 (fun b hb => .inl hb), h3.imp id (fun h4 b hb => ?_)⟩
    have h5 := h4 b hb
    have := hal.size
    omega)
  unfold rcells at *
  clear h hc hin hl hal hx hd
  generalize ({ g with L := putE g.L x } : Lg) = g' at *
  go_enter Tryz.func69, Tryz.ntmps69
  go_wp2_with (go_at_call 49; (with_reducible refine HP.out.mono ?_); rintro e w1 hq; have HQ := hid hq; obtain ⟨rfl, -⟩ := hq)
  go_end0
  exact HQ.out
end Go.Proofs.YtgchdlfoehlomaaGreatDoor

