import Derived.Test.YtgchdlfoehlomaaGreatDoorWlAheadJ
import Derived.Test.YtgchdlfoehlomaaGreatDoorMq1J
/-
  LAYER 3 (wal): the state: an entry put in.
-/
namespace Go.Proofs.YtgchdlfoehlomaaGreatDoor
open Go.RowKit Go.Maps
set_option linter.unusedVariables false
set_option maxRecDepth 100000

def PutPost (w : World) (B p a : Nat) (v : Value) (g : Lg) (e : Ending) (w' : World) : Prop :=
  e = .returned (.tuple #[]) ∧ ∃ v', StRep w' B p a v' g ∧ Chg (fun b => b = p ∨ v.ownBlock = some b) w w' ∧ (v'.ownBlock = v.ownBlock ∨ ∀ b, v'.ownBlock = some b → w.heap.size ≤ b)
theorem ents_to (wx : World) (ao : Option Addr) (L cap i : Nat) (hi : i ≤ cap) (hao : ao = none → cap = 0) : (Instr.slice 39 (.slice ao L cap) none (some (.int .i64 (i : Int))) none).run Tryz.prog wx = .ok (.slice ao i cap) wx := by
  cases ao with
  | none =>
    obtain rfl := hao rfl
    obtain rfl : i = 0 := by omega
    simp [go_sem, Instr.slice, run_underlying Tryz.underlying39]
  | some q => simp [go_sem, Instr.slice, run_underlying Tryz.underlying39, hi]
/-- Where the entry is appended: a world in which the state lies as it lay, and the entry in a block. -/
structure PutAt (w wx : World) (B p a : Nat) (v : Value) (g : Lg) (x : En) (d : ByteArray) (gb : Nat) : Prop where
  st : StRep wx B p a v g
  box : own wx gb #[.int .i64 x.idx, .int .i64 x.term, .int .i64 x.kind, .string d] 57
  chg : Below w.heap.size w wx
  new : w.heap.size ≤ gb
theorem putAt_run {w wx : World} {B p a : Nat} {ao : Option Addr} {cap : Nat} {g : Lg} {x : En} {d : ByteArray} {gb : Nat} (h : PutAt w wx B p a (.slice ao g.L.length cap) g x d gb) (hdx : d = mk x.data) (hB : B ≤ w.heap.size) (hpw : p < w.heap.size) (hvw : ∀ b, (Value.slice ao g.L.length cap).ownBlock = some b → b < w.heap.size) (hl : g.L.length ≤ 100000) (hA : aheadE g.L x.idx ≤ g.L.length) :
    ∃ ao' cap' wy, (Builtin.append_ #[39, 39] 39 #[.slice ao (aheadE g.L x.idx) cap, .slice (some ⟨gb, 0, none⟩) 1 1]).run Tryz.prog wx = .ok (.slice ao' (aheadE g.L x.idx + 1) cap') wy ∧
      wy.cell? ⟨p, 3, none⟩ = some (.slice ao g.L.length cap) ∧ wy.frozen? ⟨p, 3, none⟩ = false ∧ (∀ b, w.heap.size ≤ b → b < wx.heap.size → wy.heap[b]? = wx.heap[b]?) ∧ PutPost w B p a (.slice ao g.L.length cap) { g with L := putE g.L x } (.returned (.tuple #[])) (wy.setCell ⟨p, 3, none⟩ (.slice ao' (aheadE g.L x.idx + 1) cap')) := by
  subst hdx
  have hcut := h.st.row.cut (k := aheadE g.L x.idx) hA
  have hlen : (g.L.take (aheadE g.L x.idx)).length = aheadE g.L x.idx := by rw [List.length_take]; omega
  obtain ⟨ao', cap', wy, hrun, hrow, hgr, hat⟩ := run_entry wx B 39 (.slice ao (aheadE g.L x.idx) cap) (g.L.take (aheadE g.L x.idx)) x gb hcut h.box (by omega) (by have := h.chg.size; omega)
  rw [hlen] at hrun hrow hat
  have hob : (Value.slice ao (aheadE g.L x.idx) cap).ownBlock = (Value.slice ao g.L.length cap).ownBlock := by cases ao <;> rfl
  rw [hob] at hgr hat
  have hpne : (Value.slice ao g.L.length cap).ownBlock ≠ some p := h.st.apart
  have hpx : p < wx.heap.size := h.st.head.lt
  have hhead : own wy p _ _ := h.st.head.same (hgr.block p hpx (fun e => hpne e.symm))
  have hcy : Chg (fun b => (Value.slice ao g.L.length cap).ownBlock = some b) wx wy := Chg.of_grown hgr
  have hcw : Chg (fun b => (Value.slice ao g.L.length cap).ownBlock = some b) w wy := (Chg.of_below h.chg).trans hcy (fun b hb => .inl hb)
  have hnew : (Value.slice ao' (aheadE g.L x.idx + 1) cap').ownBlock = (Value.slice ao g.L.length cap).ownBlock ∨ ∀ b, (Value.slice ao' (aheadE g.L x.idx + 1) cap').ownBlock = some b → w.heap.size ≤ b := by
    rcases hat with e | e
    · exact .inl e
    · exact .inr (fun b hb => by rw [e] at hb; cases hb; exact h.chg.size)
  have hpne2 : (Value.slice ao' (aheadE g.L x.idx + 1) cap').ownBlock ≠ some p := by
    rcases hnew with e | e
    · rw [e]; exact hpne
    · exact fun e2 => by have := e p e2; omega
  refine ⟨ao', cap', wy, hrun, (hhead.cell 3).trans rfl, hhead.frozen 3, (fun b h1 h2 => hgr.block b h2 (fun e => (by have := hvw b e.symm; omega))), rfl, .slice ao' (aheadE g.L x.idx + 1) cap', ⟨?_, ?_, hpne2, h.st.hp⟩, (hcw.mono (fun b hb => .inr hb)).trans (Chg.setCell wy ⟨p, 3, none⟩ _) (fun b e => .inl (.inl e)), hnew⟩
  · have := hhead.set 3 (.slice ao' (aheadE g.L x.idx + 1) cap')
    simpa using this
  · have hrow' : EntRow wy B (.slice ao' (aheadE g.L x.idx + 1) cap') (putE g.L x) := hrow
    exact hrow'.same (fun b hb => Below.heap_setCell _ _ _ _ (fun e => hpne2 (by rw [hb, e])))
set_option maxHeartbeats 4000000 in
theorem put_any {w : World} {B p a : Nat} {v : Value} {g : Lg} (h : StRep w B p a v g) (hc : Consec g.L) (hin : ∀ e ∈ g.L, e.In) (hl : g.L.length ≤ 100000) (hB : B ≤ w.heap.size) (x : En) (hx : I64 x.idx) (hd : x.data.length ≤ 140737488355328) :
    Calls Tryz.prog 49 #[.pointer (some ⟨p, 1, none⟩), .agg #[.int .i64 x.idx, .int .i64 x.term, .int .i64 x.kind, .string (mk x.data)]] w (PutPost w B p a v { g with L := putE g.L x }) := by
  obtain ⟨ao, cap, rfl, hcap, hnone⟩ := h.row.slice
  have hA := (aheadE_le hc hin x.idx).1
  have hvw := fun b hb => (World.ownsRow.lt h.row b hb).2
  have hpw := h.head.lt
  -- behind the box and the clone
  have hbx : Below w.heap.size w (w.alloc (.cells (ecells x).toArray 57)) := Below.alloc (Below.refl _ _) (Nat.le_refl _) _
  have hbox := own.new w (ecells x).toArray 57
  have hzx : (w.alloc (.cells (ecells x).toArray 57)).heap.size = w.heap.size + 1 := by simp
  have HC := hid (fun wx => clone_any (mk x.data) wx (by rw [mk_size]; exact hd))
  have hst : ∀ w1, Below (w.heap.size + 1) (w.alloc (.cells (ecells x).toArray 57)) w1 → own (w1.setCell ⟨w.heap.size, 3, none⟩ (.string (mk x.data))) w.heap.size (ecells x).toArray 57 ∧ StRep (w1.setCell ⟨w.heap.size, 3, none⟩ (.string (mk x.data))) B p a (.slice ao g.L.length cap) g ∧ Below w.heap.size w (w1.setCell ⟨w.heap.size, 3, none⟩ (.string (mk x.data))) ∧ w.heap.size < w1.heap.size := fun w1 hb1 => by
    have o1 : own w1 w.heap.size _ _ := hbox.same (hb1.block _ (by omega))
    have o2 := o1.set 3 (.string (mk x.data))
    have hbw := (hbx.trans (hb1.mono (by omega))).setCell (p := ⟨w.heap.size, 3, none⟩) (Nat.le_refl _) (.string (mk x.data))
    exact ⟨by simpa [ecells] using o2, h.below hbw, hbw, by have := hb1.size; rw [hzx] at this; omega⟩
  have HSt := hid hst
  have HX := hid (fun w1 (hb1 : Below (w.heap.size + 1) (w.alloc (.cells (ecells x).toArray 57)) w1) => (show w1.cell? ⟨w.heap.size, 3, none⟩ = some (.string (mk x.data)) ∧ w1.frozen? ⟨w.heap.size, 3, none⟩ = false from ⟨((hbox.same (hb1.block _ (by omega))).cell 3).trans rfl, (hbox.same (hb1.block _ (by omega))).frozen 3⟩))
  have hIx := hid hx
  have HH := hid h
  have HRun := hid (fun wx gb (hp : PutAt w wx B p a (.slice ao g.L.length cap) g x (mk x.data) gb) => putAt_run hp rfl hB hpw hvw hl hA)
  have hAh := hid (fun wx (hs : StRep wx B p a (.slice ao g.L.length cap) g) => ahead_any hs hc hin hl x.idx hx)
  have l1 := fun wx => ents_to wx ao g.L.length cap (aheadE g.L x.idx) (by omega) hnone
  have hpw1 : p ≠ w.heap.size := by omega
  clear h hst hc hin hx hbx hbox
  generalize hLn : g.L.length = n at *
  clear hLn
  generalize ({ g with L := putE g.L x } : Lg) = g' at *
  generalize aheadE g.L x.idx = A at *
  have hAI : (A : Int) ≤ (n : Int) := by omega
  have hcapI : (n : Int) ≤ (cap : Int) := by omega
  unfold ecells at *
  generalize mk x.data = db at *
  go_enter Tryz.func49, Tryz.ntmps49
  go_wp2_with (go_at_call 86; (with_reducible refine (HC.out _).mono ?_); rintro e w1 ⟨rfl, hb1⟩; rw [hzx] at hb1; obtain ⟨x3, y3⟩ := HX.out _ hb1)
  obtain ⟨o2, s2, b2, z2⟩ := HSt.out _ hb1
  have z3 : w.heap.size < (w1.setCell ⟨w.heap.size, 3, none⟩ (.string db)).heap.size := by rw [setCell_size]; exact z2
  clear x3 y3
  generalize w1.setCell ⟨w.heap.size, 3, none⟩ (.string db) = w2 at *
  -- what the region's loads read, in each of its worlds
  have hk : ∀ wx, Below w2.heap.size w2 wx → wx.cell? ⟨p, 3, none⟩ = some (.slice ao n cap) ∧ wx.cell? ⟨w.heap.size, 0, none⟩ = some (.int .i64 x.idx) ∧ wx.cell? ⟨w.heap.size, 1, none⟩ = some (.int .i64 x.term) ∧ wx.cell? ⟨w.heap.size, 2, none⟩ = some (.int .i64 x.kind) ∧ wx.cell? ⟨w.heap.size, 3, none⟩ = some (.string db) := fun wx hb => by
    have h1 : own wx p _ _ := s2.head.same (hb.block p s2.head.lt)
    have h2 : own wx w.heap.size _ _ := o2.same (hb.block _ z3)
    exact ⟨(h1.cell 3).trans rfl, (h2.cell 0).trans rfl, (h2.cell 1).trans rfl, (h2.cell 2).trans rfl, (h2.cell 3).trans rfl⟩
  have HK := hid hk
  have HK4 : Hid (∀ (wx wy : World), Below w2.heap.size w2 wx → (∀ b, w.heap.size ≤ b → b < wx.heap.size → wy.heap[b]? = wx.heap[b]?) → ∀ u : Value, (wy.cell? ⟨w.heap.size, 0, none⟩ = some (.int .i64 x.idx) ∧ wy.cell? ⟨w.heap.size, 1, none⟩ = some (.int .i64 x.term) ∧ wy.cell? ⟨w.heap.size, 2, none⟩ = some (.int .i64 x.kind) ∧ wy.cell? ⟨w.heap.size, 3, none⟩ = some (.string db)) ∧ ((wy.setCell ⟨p, 3, none⟩ u).cell? ⟨w.heap.size, 0, none⟩ = some (.int .i64 x.idx) ∧ (wy.setCell ⟨p, 3, none⟩ u).cell? ⟨w.heap.size, 1, none⟩ = some (.int .i64 x.term) ∧ (wy.setCell ⟨p, 3, none⟩ u).cell? ⟨w.heap.size, 2, none⟩ = some (.int .i64 x.kind) ∧ (wy.setCell ⟨p, 3, none⟩ u).cell? ⟨w.heap.size, 3, none⟩ = some (.string db))) := hid (fun wx wy hb hs u => by
    have h2 : own wy w.heap.size _ _ := (o2.same (hb.block _ z3)).same (hs _ (Nat.le_refl _) (by have := hb.size; omega))
    have h3 := h2.other (p := ⟨p, 3, none⟩) (fun e => hpw1 e.symm) u
    exact ⟨⟨(h2.cell 0).trans rfl, (h2.cell 1).trans rfl, (h2.cell 2).trans rfl, (h2.cell 3).trans rfl⟩, (h3.cell 0).trans rfl, (h3.cell 1).trans rfl, (h3.cell 2).trans rfl, (h3.cell 3).trans rfl⟩)
  have HA1 := hid (hAh.out w2.drew (s2.below (Below.drew (Below.refl _ _))))
  have ba : Below w2.heap.size w2 (w2.alloc (.cells #[.int .i64 x.idx, .int .i64 x.term, .int .i64 x.kind, .string db] 57)).drew := (Below.alloc (Below.refl _ _) (Nat.le_refl _) _).drew
  have HA2 := hid (hAh.out (w2.alloc (.cells #[.int .i64 x.idx, .int .i64 x.term, .int .i64 x.kind, .string db] 57)).drew (s2.below ba))
  have hP1 : ∀ w3, Below w2.drew.heap.size w2.drew w3 → PutAt w (w3.alloc (.cells #[.int .i64 x.idx, .int .i64 x.term, .int .i64 x.kind, .string db] 57)) B p a (.slice ao n cap) g x db w3.heap.size ∧ Below w2.heap.size w2 w3 ∧ Below w2.heap.size w2 (w3.alloc (.cells #[.int .i64 x.idx, .int .i64 x.term, .int .i64 x.kind, .string db] 57)) := fun w3 hb3 => by
    have hb3' : Below w2.heap.size w2 w3 := (Below.drew (Below.refl w2.heap.size w2)).trans hb3
    have hb4 := hb3'.alloc hb3'.size (.cells #[.int .i64 x.idx, .int .i64 x.term, .int .i64 x.kind, .string db] 57)
    exact ⟨⟨s2.below hb4, own.new w3 _ _, b2.trans (hb4.mono b2.size), by have := b2.size; have := hb3'.size; omega⟩, hb3', hb4⟩
  have hP2 : ∀ w3, Below (w2.alloc (.cells #[.int .i64 x.idx, .int .i64 x.term, .int .i64 x.kind, .string db] 57)).drew.heap.size (w2.alloc (.cells #[.int .i64 x.idx, .int .i64 x.term, .int .i64 x.kind, .string db] 57)).drew w3 → PutAt w w3 B p a (.slice ao n cap) g x db w2.heap.size ∧ Below w2.heap.size w2 w3 := fun w3 hb3 => by
    have hz : (w2.alloc (.cells #[.int .i64 x.idx, .int .i64 x.term, .int .i64 x.kind, .string db] 57)).drew.heap.size = w2.heap.size + 1 := by simp
    have hb4 := ba.trans (hb3.mono ba.size)
    have ho : own (w2.alloc (.cells #[.int .i64 x.idx, .int .i64 x.term, .int .i64 x.kind, .string db] 57)).drew w2.heap.size #[.int .i64 x.idx, .int .i64 x.term, .int .i64 x.kind, .string db] 57 := own.new w2 _ _
    exact ⟨⟨s2.below hb4, ho.same (hb3.block _ (by rw [hz]; omega)), b2.trans (hb4.mono b2.size), b2.size⟩, hb4⟩
  have HP1 := hid hP1
  have HP2 := hid hP2
  obtain ⟨u0, k0⟩ := hk w2.drew (Below.drew (Below.refl _ _))
  obtain ⟨u1, k1⟩ := hk _ ba
  have B2 := hid b2
  have S2 := hid s2
  have O2 := hid o2
  clear hk hP1 hP2 s2 o2
  obtain ⟨k00, k01, k02, k03⟩ := k0
  obtain ⟨k10, k11, k12, k13⟩ := k1
  go_region_law
    (first
      | (refine step_append_at eA (by with_reducible rfl) rfl _ _ rfl rfl rfl rfl ?_)
      | (go_simp; go_at_call 87; first
          | ((with_reducible refine HA1.out.mono ?_); rintro e w3 ⟨rfl, hb3⟩; obtain ⟨hp3, hbx3, hbx4⟩ := HP1.out _ hb3; obtain ⟨u2, k20, k21, k22, k23⟩ := HK.out _ hbx3; obtain ⟨u3, k30, k31, k32, k33⟩ := HK.out _ hbx4; obtain ⟨aoA, capA, wA, eA, cA, fA, sA, PA⟩ := HRun.out _ _ hp3; have HPA := hid PA; clear sA PA)
          | ((with_reducible refine HA2.out.mono ?_); rintro e w3 ⟨rfl, hb3⟩; obtain ⟨hp3, hbx3⟩ := HP2.out _ hb3; obtain ⟨u2, k20, k21, k22, k23⟩ := HK.out _ hbx3; obtain ⟨aoA, capA, wA, eA, cA, fA, sA, PA⟩ := HRun.out _ _ hp3; have HPA := hid PA; clear sA PA)))
  all_goals
    go_wp2
    go_end0
    exact HPA.out
end Go.Proofs.YtgchdlfoehlomaaGreatDoor

