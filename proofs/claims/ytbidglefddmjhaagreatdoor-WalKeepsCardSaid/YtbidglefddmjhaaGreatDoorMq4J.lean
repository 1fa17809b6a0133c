import Derived.Test.YtbidglefddmjhaaGreatDoorMq0J
import Derived.Test.YtbidglefddmjhaaGreatDoorRkCJ
import Derived.BigRegion
import Derived.Test.YtbidglefddmjhaaGreatDoorMq1J
/-
  LAYER 3 (wal): the state: a row of entries; how many stay ahead.
-/
namespace Go.Proofs.YtbidglefddmjhaaGreatDoor
open Go.RowKit Go.Maps
set_option linter.unusedVariables false
set_option maxRecDepth 100000

def ecells (e : En) : List Value := [.int .i64 e.idx, .int .i64 e.term, .int .i64 e.kind, .string (mk e.data)]
def flatE (L : List En) : List Value := L.flatMap ecells
theorem flatE_length (L : List En) : (flatE L).length = L.length * 4 := by
  induction L with
  | nil => rfl
  | cons f r ih => simp only [flatE, List.flatMap_cons, List.length_append, List.length_cons] at *; rw [ih]; simp [ecells]; omega
theorem flatE_cons (e : En) (r : List En) : flatE (e :: r) = ecells e ++ flatE r := rfl
theorem flatE_append (A C : List En) : flatE (A ++ C) = flatE A ++ flatE C := by simp [flatE]
theorem flatE_get : ∀ {L : List En} {i k : Nat} (hi : i < L.length), k < 4 → (flatE L)[i * 4 + k]? = (ecells L[i])[k]?
  | f :: r, 0, k, hi, hk => by
    rw [flatE_cons, Nat.zero_mul, Nat.zero_add, List.getElem?_append_left (by simp [ecells]; omega)]; rfl
  | f :: r, i + 1, k, hi, hk => by
    rw [flatE_cons, List.getElem?_append_right (by simp [ecells]; omega)]
    have : (i + 1) * 4 + k - (ecells f).length = i * 4 + k := by simp [ecells]; omega
    rw [this, flatE_get (by simpa using hi) hk]
    rfl
theorem flatE_one (L : List En) : ∀ u ∈ flatE L, u.oneCell' = true := by
  intro u hu
  obtain ⟨f, _, hf⟩ := List.mem_flatMap.1 hu
  simp [ecells] at hf
  rcases hf with rfl | rfl | rfl | rfl <;> rfl
theorem flatE_take (L : List En) : ∀ k, flatE (L.take k) = (flatE L).take (k * 4)
  | 0 => by simp [flatE]
  | k + 1 => by
    cases L with
    | nil => simp [flatE]
    | cons e r =>
      rw [List.take_succ_cons, flatE_cons, flatE_cons, flatE_take r k, show (k + 1) * 4 = (ecells e).length + k * 4 by simp [ecells]; omega, List.take_length_add_append]
def EntRow (w : World) (B : Nat) (v : Value) (L : List En) : Prop := w.ownsRow B 95 4 v L.length (flatE L)
theorem EntRow.slice {w : World} {B : Nat} {v : Value} {L : List En} (h : EntRow w B v L) : ∃ ao cap, v = .slice ao L.length cap ∧ L.length ≤ cap ∧ (ao = none → cap = 0) := by
  rcases h.2 with ⟨hv, hz⟩ | ⟨g, cap, cur, rfl, _, _, hnc, _⟩
  · exact ⟨none, 0, by rw [hv, hz], by omega, fun _ => rfl⟩
  · exact ⟨_, cap, rfl, hnc, fun e => (by cases e)⟩
theorem EntRow.same {w w' : World} {B : Nat} {v : Value} {L : List En} (h : EntRow w B v L) (hs : ∀ b, v.ownBlock = some b → w'.heap[b]? = w.heap[b]?) : EntRow w' B v L := ownsRow_same h hs
theorem EntRow.cut {w : World} {B : Nat} {ao : Option Addr} {n cap : Nat} {L : List En} (h : EntRow w B (.slice ao n cap) L) {k : Nat} (hk : k ≤ L.length) : EntRow w B (.slice ao k cap) (L.take k) := by
  have hl : (L.take k).length = k := by rw [List.length_take]; omega
  rcases h.2 with ⟨hv, hz⟩ | ⟨g, cap', cur, hv, hB, hg, hnc, hcm, hcs, htake⟩
  · cases hv
    have hk0 : k = 0 := by omega
    subst hk0
    exact ⟨by simp [flatE], .inl ⟨rfl, by simp⟩⟩
  · cases hv
    refine ⟨by rw [flatE_length, hl], .inr ⟨g, cap, cur, by rw [hl], hB, hg, by rw [hl]; omega, hcm, hcs, ?_⟩⟩
    rw [hl, flatE_take, ← htake, List.take_take]
    congr 1
    omega
theorem EntRow.at {w : World} {B : Nat} {ao : Option Addr} {n cap : Nat} {L : List En} (h : EntRow w B (.slice ao n cap) L) {i : Nat} (hi : i < L.length) : ∃ g, ao = some ⟨g, 0, none⟩ ∧ B ≤ g ∧ g < w.heap.size ∧
    (∀ (k : Nat) (hk : k < L.length), w.cell? ⟨g, k * 4, none⟩ = some (.int .i64 L[k].idx) ∧ w.cell? ⟨g, k * 4 + 1, none⟩ = some (.int .i64 L[k].term) ∧ w.cell? ⟨g, k * 4 + 2, none⟩ = some (.int .i64 L[k].kind) ∧ w.cell? ⟨g, k * 4 + 3, none⟩ = some (.string (mk L[k].data))) ∧ ∀ j, w.frozen? ⟨g, j, none⟩ = false := by
  have hlt := World.ownsRow.lt h
  have hcs := fun g hg => World.ownsRow.cells h (g := g) hg
  rcases h.2 with ⟨hv, hz⟩ | ⟨g, cap', cur, hv, _, hg, _⟩
  · omega
  · simp only [Value.slice.injEq] at hv
    obtain ⟨rfl, _, _⟩ := hv
    have hadd : ∀ j, (⟨g, 0, none⟩ : Addr).add j = ⟨g, j, none⟩ := fun j => by unfold Addr.add; split <;> simp_all
    refine ⟨g, rfl, (hlt g rfl).1, (hlt g rfl).2, fun k hk => ⟨?_, ?_, ?_, ?_⟩, fun j => Lib.frozen_of_heap hg j⟩
    · have := hcs g rfl (k * 4 + 0) _ ((flatE_get hk (by omega)).trans rfl)
      rw [hadd] at this; exact this
    · have := hcs g rfl (k * 4 + 1) _ ((flatE_get hk (by omega)).trans rfl)
      rw [hadd] at this; exact this
    · have := hcs g rfl (k * 4 + 2) _ ((flatE_get hk (by omega)).trans rfl)
      rw [hadd] at this; exact this
    · have := hcs g rfl (k * 4 + 3) _ ((flatE_get hk (by omega)).trans rfl)
      rw [hadd] at this; exact this

theorem infoEntry : (Tryz.prog.info? 95).map (fun i => (i.zero, i.size, i.bytes)) = some (some (.agg #[.int .i64 0, .int .i64 0, .int .i64 0, .string ⟨#[]⟩]), 4, 40) := by kernel_rfl
theorem infoEntry_parts : ∃ i, Tryz.prog.info? 95 = some i ∧ i.zero = some (.agg #[.int .i64 0, .int .i64 0, .int .i64 0, .string ⟨#[]⟩]) ∧ i.size = 4 ∧ i.bytes = 40 := by
  obtain ⟨i, hi, hz⟩ := Option.map_eq_some_iff.1 infoEntry
  simp only [Prod.mk.injEq] at hz
  exact ⟨i, hi, hz.1, hz.2.1, hz.2.2⟩
/-- An entry put behind a row. -/
theorem run_entry (w : World) (B : Nat) (ty : TypeId) (v : Value) (L : List En) (e : En) (gb : Nat) (hown : EntRow w B v L) (hr : own w gb (ecells e).toArray 95) (hb : L.length ≤ 100000) (hB : B ≤ w.heap.size) :
    ∃ ao cap w', (Builtin.append_ #[52, 52] ty #[v, .slice (some ⟨gb, 0, none⟩) 1 1]).run Tryz.prog w = .ok (.slice ao (L.length + 1) cap) w' ∧ EntRow w' B (.slice ao (L.length + 1) cap) (L ++ [e]) ∧ w.grownBy w' v.ownBlock ∧ ((Value.slice ao (L.length + 1) cap).ownBlock = v.ownBlock ∨ (Value.slice ao (L.length + 1) cap).ownBlock = some w.heap.size) := by
  obtain ⟨i0, hi, hz0, hz1, hz2⟩ := infoEntry_parts
  have hcells : ∀ j u, (flatE [e])[j]? = some u → w.cell? ((⟨gb, 0, none⟩ : Addr).add j) = some u := by
    intro j u hu
    rw [show (⟨gb, 0, none⟩ : Addr).add j = ⟨gb, 0 + j, none⟩ from Go.WideShapes.add_plain .., Nat.zero_add, own.cell hr j]
    have : flatE [e] = ecells e := by simp [flatE]
    rw [this] at hu
    simpa using hu
  obtain ⟨v', w', hrun, h2, h3, _, h5⟩ := run_append_own_at (P := Tryz.prog) w B 52 ty 95 i0 _ 4 40 Tryz.underlying52 hi hz0 hz1 hz2 rfl (by omega) v L.length (flatE L) hown ⟨gb, 0, none⟩ 1 1 (flatE [e]) (by rw [flatE_length]; rfl) hcells (flatE_one [e]) (by unfold maxLen; omega) (by omega) hB
  have hrow : EntRow w' B v' (L ++ [e]) := by
    unfold EntRow
    rw [List.length_append, flatE_append]
    exact h2
  obtain ⟨ao, cap, rfl, _, _⟩ := hrow.slice
  rw [List.length_append] at hrun hrow h5
  exact ⟨ao, cap, w', hrun, hrow, h3, h5⟩
end Go.Proofs.YtbidglefddmjhaaGreatDoor

/-
  LAYER 3 (wal): the state: how many entries stay ahead of one that is put in.
-/
namespace Go.Proofs.YtbidglefddmjhaaGreatDoor
open Go.RowKit Go.Maps
set_option linter.unusedVariables false
set_option maxRecDepth 100000

structure StRep (w : World) (B : Nat) (p a : Nat) (v : Value) (g : Lg) : Prop where
  head : own w p #[.pointer (some ⟨a, 0, none⟩), .int .i64 g.hd.term, .int .i64 g.hd.vote, v] 108
  row : EntRow w B v g.L
  apart : v.ownBlock ≠ some p
  hp : B ≤ p
theorem StRep.same {w w' : World} {B p a : Nat} {v : Value} {g : Lg} (h : StRep w B p a v g) (hp : w'.heap[p]? = w.heap[p]?) (hv : ∀ b, v.ownBlock = some b → w'.heap[b]? = w.heap[b]?) : StRep w' B p a v g := ⟨h.head.same hp, h.row.same hv, h.apart, h.hp⟩
theorem StRep.below {w w' : World} {B p a : Nat} {v : Value} {g : Lg} (h : StRep w B p a v g) (hb : Below w.heap.size w w') : StRep w' B p a v g := h.same (hb.block p h.head.lt) (fun b hb' => hb.block b (World.ownsRow.lt h.row b hb').2)
set_option maxHeartbeats 4000000 in
theorem ahead_any {w : World} {B p a : Nat} {v : Value} {g : Lg} (h : StRep w B p a v g) (hc : Consec g.L) (hin : ∀ e ∈ g.L, e.In) (hl : g.L.length ≤ 100000) (i : Int) (hi : I64 i) :
    Calls Tryz.prog 158 #[.pointer (some ⟨p, 1, none⟩), .int .i64 i] w fun e w' => e = .returned (.int .i64 (aheadE g.L i : Int)) ∧ Below w.heap.size w w' := by
  have c3 := h.head.cell 3
  simp at c3
  obtain ⟨ao, cap, rfl, hcap, hnone⟩ := h.row.slice
  by_cases h0 : g.L = []
  · have hz : aheadE g.L i = 0 := by unfold aheadE; rw [if_pos (.inl h0)]
    have hlen : g.L.length = 0 := by rw [h0]; rfl
    rw [hz]
    rw [hlen] at c3
    clear h hz hc hin hcap hnone hlen h0
    go_enter Tryz.func158, Tryz.ntmps158
    go_wp2
    go_ret
    exact ⟨rfl, Below.refl _ _⟩
  · have hpos := List.length_pos_iff.2 h0
    obtain ⟨gb, rfl, hgB, hglt, hcells, -⟩ := h.row.at hpos
    have q0 := (hcells 0 hpos).1
    have q1 := (hcells (g.L.length - 1) (by omega)).1
    have hfi : g.L[0].idx = firstI g.L := by have := hc 0 hpos; simpa using this
    have hla : (g.L[g.L.length - 1]'(by omega)).idx = lastI g.L := (lastI_get h0).symm
    rw [Nat.zero_mul, hfi] at q0
    rw [hla] at q1
    have hI1 : I64 (firstI g.L) := by rw [← hfi]; exact (hin _ (List.getElem_mem _)).idx
    have hI2 : I64 (lastI g.L) := by rw [← hla]; exact (hin _ (List.getElem_mem _)).idx
    have hle := aheadE_le hc hin i
    have hA : aheadE g.L i = if IntKind.i64.wrap (lastI g.L + 1) < i ∨ i < firstI g.L then 0 else (i - firstI g.L).toNat := by unfold aheadE; simp only [h0, false_or]
    have hHA := hid hA
    have hLe := hid hle
    obtain ⟨n, hn⟩ : ∃ n, g.L.length = n + 1 := ⟨g.L.length - 1, by omega⟩
    rw [hn] at c3
    rw [hn, Nat.add_sub_cancel] at q1
    have hn2 : (n : Int) ≤ 100000 := by omega
    have hIi := hid hi
    clear hA hle hcells hfi hla h hc hin h0 hpos hcap hnone hl
    generalize aheadE g.L i = A at *
    generalize firstI g.L = fi at *
    generalize lastI g.L = la at *
    obtain ⟨lw, hlw⟩ : ∃ lw, IntKind.i64.wrap (la + 1) = lw := ⟨_, rfl⟩
    rw [hlw] at hHA
    have hW1 : IntKind.i64.wrap ((n : Int) + 1 - 1) = (n : Int) := by rw [show (n : Int) + 1 - 1 = n by omega]; exact IntWalk.i64_in _ (by omega)
    have hW2 : IntKind.i64.wrap (n : Int) = (n : Int) := IntWalk.i64_in _ (by omega)
    clear hI1 hI2 hi
    by_cases hx : lw < i
    · have hAz : A = 0 := by rw [hHA.out, if_pos (.inl hx)]
      subst hAz
      clear hHA hLe
      go_enter Tryz.func158, Tryz.ntmps158
      go_wp2
      go_quiet (fail)
      go_wp2
      go_ret
      exact ⟨rfl, below_drew (Below.refl _ _) _⟩
    · by_cases hy : i < fi
      · have hAz : A = 0 := by rw [hHA.out, if_pos (.inr hy)]
        subst hAz
        clear hHA hLe
        go_enter Tryz.func158, Tryz.ntmps158
        go_wp2
        go_quiet (fail)
        go_wp2
        go_ret
        exact ⟨rfl, below_drew (Below.refl _ _) _⟩
      · have hAe : (A : Int) = i - fi := by
          have := hHA.out
          rw [if_neg (fun e => by rcases e with e | e; exact hx e; exact hy e)] at this
          omega
        have hAl : A ≤ n + 1 := by have := hLe.out.1; omega
        have hsub : IntKind.i64.wrap (i - fi) = (A : Int) := by rw [← hAe]; exact IntWalk.i64_in _ (by omega)
        clear hHA hLe hAe
        go_enter Tryz.func158, Tryz.ntmps158
        go_wp2
        go_quiet (fail)
        go_wp2
        go_ret
        exact ⟨rfl, below_drew (Below.refl _ _) _⟩
end Go.Proofs.YtbidglefddmjhaaGreatDoor

/-
  LAYER 3 (wal): the state: an entry put in.
-/
namespace Go.Proofs.YtbidglefddmjhaaGreatDoor
open Go.RowKit Go.Maps
set_option linter.unusedVariables false
set_option maxRecDepth 100000

def PutPost (w : World) (B p a : Nat) (v : Value) (g : Lg) (e : Ending) (w' : World) : Prop :=
  e = .returned (.tuple #[]) ∧ ∃ v', StRep w' B p a v' g ∧ Chg (fun b => b = p ∨ v.ownBlock = some b) w w' ∧ (v'.ownBlock = v.ownBlock ∨ ∀ b, v'.ownBlock = some b → w.heap.size ≤ b)
theorem ents_to (wx : World) (ao : Option Addr) (L cap i : Nat) (hi : i ≤ cap) (hao : ao = none → cap = 0) : (Instr.slice 52 (.slice ao L cap) none (some (.int .i64 (i : Int))) none).run Tryz.prog wx = .ok (.slice ao i cap) wx := by
  cases ao with
  | none =>
    obtain rfl := hao rfl
    obtain rfl : i = 0 := by omega
    simp [go_sem, Instr.slice, run_underlying Tryz.underlying52]
  | some q => simp [go_sem, Instr.slice, run_underlying Tryz.underlying52, hi]
/-- Where the entry is appended: a world in which the state lies as it lay, and the entry in a block. -/
structure PutAt (w wx : World) (B p a : Nat) (v : Value) (g : Lg) (x : En) (d : ByteArray) (gb : Nat) : Prop where
  st : StRep wx B p a v g
  box : own wx gb #[.int .i64 x.idx, .int .i64 x.term, .int .i64 x.kind, .string d] 95
  chg : Below w.heap.size w wx
  new : w.heap.size ≤ gb
theorem putAt_run {w wx : World} {B p a : Nat} {ao : Option Addr} {cap : Nat} {g : Lg} {x : En} {d : ByteArray} {gb : Nat} (h : PutAt w wx B p a (.slice ao g.L.length cap) g x d gb) (hdx : d = mk x.data) (hB : B ≤ w.heap.size) (hpw : p < w.heap.size) (hvw : ∀ b, (Value.slice ao g.L.length cap).ownBlock = some b → b < w.heap.size) (hl : g.L.length ≤ 100000) (hA : aheadE g.L x.idx ≤ g.L.length) :
    ∃ ao' cap' wy, (Builtin.append_ #[52, 52] 52 #[.slice ao (aheadE g.L x.idx) cap, .slice (some ⟨gb, 0, none⟩) 1 1]).run Tryz.prog wx = .ok (.slice ao' (aheadE g.L x.idx + 1) cap') wy ∧
      wy.cell? ⟨p, 3, none⟩ = some (.slice ao g.L.length cap) ∧ wy.frozen? ⟨p, 3, none⟩ = false ∧ (∀ b, w.heap.size ≤ b → b < wx.heap.size → wy.heap[b]? = wx.heap[b]?) ∧ PutPost w B p a (.slice ao g.L.length cap) { g with L := putE g.L x } (.returned (.tuple #[])) (wy.setCell ⟨p, 3, none⟩ (.slice ao' (aheadE g.L x.idx + 1) cap')) := by
  subst hdx
  have hcut := h.st.row.cut (k := aheadE g.L x.idx) hA
  have hlen : (g.L.take (aheadE g.L x.idx)).length = aheadE g.L x.idx := by rw [List.length_take]; omega
  obtain ⟨ao', cap', wy, hrun, hrow, hgr, hat⟩ := run_entry wx B 52 (.slice ao (aheadE g.L x.idx) cap) (g.L.take (aheadE g.L x.idx)) x gb hcut h.box (by omega) (by have := h.chg.size; omega)
  rw [hlen] at hrun hrow hat
  have hob : (Value.slice ao (aheadE g.L x.idx) cap).ownBlock = (Value.slice ao g.L.length cap).ownBlock := by cases ao <;> rfl
  rw [hob] at hgr hat
  have hpne : (Value.slice ao g.L.length cap).ownBlock ≠ some p := h.st.apart
  have hpx : p < wx.heap.size := h.st.head.lt
  have hhead : own wy p _ _ := h.st.head.same (hgr.block p hpx (fun e => hpne e.symm))
  have hcy : Chg (fun b => (Value.slice ao g.L.length cap).ownBlock = some b) wx wy := Chg.of_grown hgr
  have hcw : Chg (fun b => (Value.slice ao g.L.length cap).ownBlock = some b) w wy := (Chg.of_below h.chg).trans hcy (fun b hb => .inl hb)
  have hnew : (Value.slice ao' (aheadE g.L x.idx + 1) cap').ownBlock = (Value.slice ao g.L.length cap).ownBlock ∨ ∀ b, (Value.slice ao' (aheadE g.L x.idx + 1) cap').ownBlock = some b → w.heap.size ≤ b := by
    rcases hat with e | e
    · exact .inl e
    · exact .inr (fun b hb => by rw [e] at hb; cases hb; exact h.chg.size)
  have hpne2 : (Value.slice ao' (aheadE g.L x.idx + 1) cap').ownBlock ≠ some p := by
    rcases hnew with e | e
    · rw [e]; exact hpne
    · exact fun e2 => by have := e p e2; omega
  refine ⟨ao', cap', wy, hrun, (hhead.cell 3).trans rfl, hhead.frozen 3, (fun b h1 h2 => hgr.block b h2 (fun e => (by have := hvw b e.symm; omega))), rfl, .slice ao' (aheadE g.L x.idx + 1) cap', ⟨?_, ?_, hpne2, h.st.hp⟩, (hcw.mono (fun b hb => .inr hb)).trans (Chg.setCell wy ⟨p, 3, none⟩ _) (fun b e => .inl (.inl e)), hnew⟩
  · have := hhead.set 3 (.slice ao' (aheadE g.L x.idx + 1) cap')
    simpa using this
  · have hrow' : EntRow wy B (.slice ao' (aheadE g.L x.idx + 1) cap') (putE g.L x) := hrow
    exact hrow'.same (fun b hb => Below.heap_setCell _ _ _ _ (fun e => hpne2 (by rw [hb, e])))
set_option maxHeartbeats 4000000 in
theorem put_any {w : World} {B p a : Nat} {v : Value} {g : Lg} (h : StRep w B p a v g) (hc : Consec g.L) (hin : ∀ e ∈ g.L, e.In) (hl : g.L.length ≤ 100000) (hB : B ≤ w.heap.size) (x : En) (hx : I64 x.idx) (hd : x.data.length ≤ 140737488355328) :
    Calls Tryz.prog 110 #[.pointer (some ⟨p, 1, none⟩), .agg #[.int .i64 x.idx, .int .i64 x.term, .int .i64 x.kind, .string (mk x.data)]] w (PutPost w B p a v { g with L := putE g.L x }) := by
  obtain ⟨ao, cap, rfl, hcap, hnone⟩ := h.row.slice
  have hA := (aheadE_le hc hin x.idx).1
  have hvw := fun b hb => (World.ownsRow.lt h.row b hb).2
  have hpw := h.head.lt
  -- behind the box and the clone
  have hbx : Below w.heap.size w (w.alloc (.cells (ecells x).toArray 95)) := Below.alloc (Below.refl _ _) (Nat.le_refl _) _
  have hbox := own.new w (ecells x).toArray 95
  have hzx : (w.alloc (.cells (ecells x).toArray 95)).heap.size = w.heap.size + 1 := by simp
  have HC := hid (fun wx => clone_any (mk x.data) wx (by rw [mk_size]; exact hd))
  have hst : ∀ w1, Below (w.heap.size + 1) (w.alloc (.cells (ecells x).toArray 95)) w1 → own (w1.setCell ⟨w.heap.size, 3, none⟩ (.string (mk x.data))) w.heap.size (ecells x).toArray 95 ∧ StRep (w1.setCell ⟨w.heap.size, 3, none⟩ (.string (mk x.data))) B p a (.slice ao g.L.length cap) g ∧ Below w.heap.size w (w1.setCell ⟨w.heap.size, 3, none⟩ (.string (mk x.data))) ∧ w.heap.size < w1.heap.size := fun w1 hb1 => by
    have o1 : own w1 w.heap.size _ _ := hbox.same (hb1.block _ (by omega))
    have o2 := o1.set 3 (.string (mk x.data))
    have hbw := (hbx.trans (hb1.mono (by omega))).setCell (p := ⟨w.heap.size, 3, none⟩) (Nat.le_refl _) (.string (mk x.data))
    exact ⟨by simpa [ecells] using o2, h.below hbw, hbw, by have := hb1.size; rw [hzx] at this; omega⟩
  have HSt := hid hst
  have HX := hid (fun w1 (hb1 : Below (w.heap.size + 1) (w.alloc (.cells (ecells x).toArray 95)) w1) => (show w1.cell? ⟨w.heap.size, 3, none⟩ = some (.string (mk x.data)) ∧ w1.frozen? ⟨w.heap.size, 3, none⟩ = false from ⟨((hbox.same (hb1.block _ (by omega))).cell 3).trans rfl, (hbox.same (hb1.block _ (by omega))).frozen 3⟩))
  have hIx := hid hx
  have HH := hid h
  have HRun := hid (fun wx gb (hp : PutAt w wx B p a (.slice ao g.L.length cap) g x (mk x.data) gb) => putAt_run hp rfl hB hpw hvw hl hA)
  have hAh := hid (fun wx (hs : StRep wx B p a (.slice ao g.L.length cap) g) => ahead_any hs hc hin hl x.idx hx)
  have l1 := fun wx => ents_to wx ao g.L.length cap (aheadE g.L x.idx) (by omega) hnone
  have hpw1 : p ≠ w.heap.size := by omega
  clear h hst hc hin hx hbx hbox
  generalize hLn : g.L.length = n at *
  clear hLn
  generalize ({ g with L := putE g.L x } : Lg) = g' at *
  generalize aheadE g.L x.idx = A at *
  have hAI : (A : Int) ≤ (n : Int) := by omega
  have hcapI : (n : Int) ≤ (cap : Int) := by omega
  unfold ecells at *
  generalize mk x.data = db at *
  go_enter Tryz.func110, Tryz.ntmps110
  go_wp2_with (go_at_call 128; (with_reducible refine (HC.out _).mono ?_); rintro e w1 ⟨rfl, hb1⟩; rw [hzx] at hb1; obtain ⟨x3, y3⟩ := HX.out _ hb1)
  obtain ⟨o2, s2, b2, z2⟩ := HSt.out _ hb1
  have z3 : w.heap.size < (w1.setCell ⟨w.heap.size, 3, none⟩ (.string db)).heap.size := by rw [setCell_size]; exact z2
  clear x3 y3
  generalize w1.setCell ⟨w.heap.size, 3, none⟩ (.string db) = w2 at *
  -- what the region's loads read, in each of its worlds
  have hk : ∀ wx, Below w2.heap.size w2 wx → wx.cell? ⟨p, 3, none⟩ = some (.slice ao n cap) ∧ wx.cell? ⟨w.heap.size, 0, none⟩ = some (.int .i64 x.idx) ∧ wx.cell? ⟨w.heap.size, 1, none⟩ = some (.int .i64 x.term) ∧ wx.cell? ⟨w.heap.size, 2, none⟩ = some (.int .i64 x.kind) ∧ wx.cell? ⟨w.heap.size, 3, none⟩ = some (.string db) := fun wx hb => by
    have h1 : own wx p _ _ := s2.head.same (hb.block p s2.head.lt)
    have h2 : own wx w.heap.size _ _ := o2.same (hb.block _ z3)
    exact ⟨(h1.cell 3).trans rfl, (h2.cell 0).trans rfl, (h2.cell 1).trans rfl, (h2.cell 2).trans rfl, (h2.cell 3).trans rfl⟩
  have HK := hid hk
  have HK4 : Hid (∀ (wx wy : World), Below w2.heap.size w2 wx → (∀ b, w.heap.size ≤ b → b < wx.heap.size → wy.heap[b]? = wx.heap[b]?) → ∀ u : Value, (wy.cell? ⟨w.heap.size, 0, none⟩ = some (.int .i64 x.idx) ∧ wy.cell? ⟨w.heap.size, 1, none⟩ = some (.int .i64 x.term) ∧ wy.cell? ⟨w.heap.size, 2, none⟩ = some (.int .i64 x.kind) ∧ wy.cell? ⟨w.heap.size, 3, none⟩ = some (.string db)) ∧ ((wy.setCell ⟨p, 3, none⟩ u).cell? ⟨w.heap.size, 0, none⟩ = some (.int .i64 x.idx) ∧ (wy.setCell ⟨p, 3, none⟩ u).cell? ⟨w.heap.size, 1, none⟩ = some (.int .i64 x.term) ∧ (wy.setCell ⟨p, 3, none⟩ u).cell? ⟨w.heap.size, 2, none⟩ = some (.int .i64 x.kind) ∧ (wy.setCell ⟨p, 3, none⟩ u).cell? ⟨w.heap.size, 3, none⟩ = some (.string db))) := hid (fun wx wy hb hs u => by
    have h2 : own wy w.heap.size _ _ := (o2.same (hb.block _ z3)).same (hs _ (Nat.le_refl _) (by have := hb.size; omega))
    have h3 := h2.other (p := ⟨p, 3, none⟩) (fun e => hpw1 e.symm) u
    exact ⟨⟨(h2.cell 0).trans rfl, (h2.cell 1).trans rfl, (h2.cell 2).trans rfl, (h2.cell 3).trans rfl⟩, (h3.cell 0).trans rfl, (h3.cell 1).trans rfl, (h3.cell 2).trans rfl, (h3.cell 3).trans rfl⟩)
  have HA1 := hid (hAh.out w2.drew (s2.below (Below.drew (Below.refl _ _))))
  have ba : Below w2.heap.size w2 (w2.alloc (.cells #[.int .i64 x.idx, .int .i64 x.term, .int .i64 x.kind, .string db] 95)).drew := (Below.alloc (Below.refl _ _) (Nat.le_refl _) _).drew
  have HA2 := hid (hAh.out (w2.alloc (.cells #[.int .i64 x.idx, .int .i64 x.term, .int .i64 x.kind, .string db] 95)).drew (s2.below ba))
  have hP1 : ∀ w3, Below w2.drew.heap.size w2.drew w3 → PutAt w (w3.alloc (.cells #[.int .i64 x.idx, .int .i64 x.term, .int .i64 x.kind, .string db] 95)) B p a (.slice ao n cap) g x db w3.heap.size ∧ Below w2.heap.size w2 w3 ∧ Below w2.heap.size w2 (w3.alloc (.cells #[.int .i64 x.idx, .int .i64 x.term, .int .i64 x.kind, .string db] 95)) := fun w3 hb3 => by
    have hb3' : Below w2.heap.size w2 w3 := (Below.drew (Below.refl w2.heap.size w2)).trans hb3
    have hb4 := hb3'.alloc hb3'.size (.cells #[.int .i64 x.idx, .int .i64 x.term, .int .i64 x.kind, .string db] 95)
    exact ⟨⟨s2.below hb4, own.new w3 _ _, b2.trans (hb4.mono b2.size), by have := b2.size; have := hb3'.size; omega⟩, hb3', hb4⟩
  have hP2 : ∀ w3, Below (w2.alloc (.cells #[.int .i64 x.idx, .int .i64 x.term, .int .i64 x.kind, .string db] 95)).drew.heap.size (w2.alloc (.cells #[.int .i64 x.idx, .int .i64 x.term, .int .i64 x.kind, .string db] 95)).drew w3 → PutAt w w3 B p a (.slice ao n cap) g x db w2.heap.size ∧ Below w2.heap.size w2 w3 := fun w3 hb3 => by
    have hz : (w2.alloc (.cells #[.int .i64 x.idx, .int .i64 x.term, .int .i64 x.kind, .string db] 95)).drew.heap.size = w2.heap.size + 1 := by simp
    have hb4 := ba.trans (hb3.mono ba.size)
    have ho : own (w2.alloc (.cells #[.int .i64 x.idx, .int .i64 x.term, .int .i64 x.kind, .string db] 95)).drew w2.heap.size #[.int .i64 x.idx, .int .i64 x.term, .int .i64 x.kind, .string db] 95 := own.new w2 _ _
    exact ⟨⟨s2.below hb4, ho.same (hb3.block _ (by rw [hz]; omega)), b2.trans (hb4.mono b2.size), b2.size⟩, hb4⟩
  have HP1 := hid hP1
  have HP2 := hid hP2
  obtain ⟨u0, k0⟩ := hk w2.drew (Below.drew (Below.refl _ _))
  obtain ⟨u1, k1⟩ := hk _ ba
  have B2 := hid b2
  have S2 := hid s2
  have O2 := hid o2
  clear hk hP1 hP2 s2 o2
  obtain ⟨k00, k01, k02, k03⟩ := k0
  obtain ⟨k10, k11, k12, k13⟩ := k1
  go_region_law
    (first
      | (refine step_append_at eA (by with_reducible rfl) rfl _ _ rfl rfl rfl rfl ?_)
      | (go_simp; go_at_call 158; first
          | ((with_reducible refine HA1.out.mono ?_); rintro e w3 ⟨rfl, hb3⟩; obtain ⟨hp3, hbx3, hbx4⟩ := HP1.out _ hb3; obtain ⟨u2, k20, k21, k22, k23⟩ := HK.out _ hbx3; obtain ⟨u3, k30, k31, k32, k33⟩ := HK.out _ hbx4; obtain ⟨aoA, capA, wA, eA, cA, fA, sA, PA⟩ := HRun.out _ _ hp3; have HPA := hid PA; clear sA PA)
          | ((with_reducible refine HA2.out.mono ?_); rintro e w3 ⟨rfl, hb3⟩; obtain ⟨hp3, hbx3⟩ := HP2.out _ hb3; obtain ⟨u2, k20, k21, k22, k23⟩ := HK.out _ hbx3; obtain ⟨aoA, capA, wA, eA, cA, fA, sA, PA⟩ := HRun.out _ _ hp3; have HPA := hid PA; clear sA PA)))
  all_goals
    go_wp2
    go_end0
    exact HPA.out
end Go.Proofs.YtbidglefddmjhaaGreatDoor

/-
  LAYER 3 (wal): the state: a record taken.
-/
namespace Go.Proofs.YtbidglefddmjhaaGreatDoor
open Go.RowKit Go.Maps
set_option linter.unusedVariables false
set_option maxRecDepth 100000

/-- A record's cells, whatever the fields hold that its kind has not. -/
def rcells (k : Int) (h : Hd) (e : En) : List Value := [.int .i64 k, .int .i64 h.term, .int .i64 h.vote, .int .i64 e.idx, .int .i64 e.term, .int .i64 e.kind, .string (mk e.data)]
def RcIs (k : Int) (h : Hd) (e : En) : Rc → Prop
  | .hard h' => k = 1 ∧ h = h'
  | .entry e' => k = 2 ∧ e = e'
  | .reset => k = 3
theorem StRep.lt {w : World} {B p a : Nat} {v : Value} {g : Lg} (h : StRep w B p a v g) : ∀ b, v.ownBlock = some b → B ≤ b ∧ b < w.heap.size := fun b hb => World.ownsRow.lt h.row b hb
theorem EntRow.none (w : World) (B : Nat) : EntRow w B (.slice none 0 0) [] := ⟨rfl, .inl ⟨rfl, rfl⟩⟩
set_option maxHeartbeats 4000000 in
theorem take_hard {w : World} {B p a : Nat} {v : Value} {g : Lg} (h : StRep w B p a v g) (hB : B ≤ w.heap.size) (hh : Hd) (x : En) :
    Calls Tryz.prog 133 #[.pointer (some ⟨p, 1, none⟩), .agg (rcells 1 hh x).toArray] w (PutPost w B p a v { g with hd := hh }) := by
  have hpw := h.head.lt
  have f1 := h.head.frozen 1
  have o1 := h.head.set 1 (.int .i64 hh.term)
  have f2 := o1.frozen 2
  have o2 := o1.set 2 (.int .i64 hh.vote)
  have p1 := h.head.cell 1
  have p2 := o1.cell 2
  simp at p1 p2
  have hc2 : Chg (fun b => b = p ∨ v.ownBlock = some b) w ((w.setCell ⟨p, 1, none⟩ (.int .i64 hh.term)).setCell ⟨p, 2, none⟩ (.int .i64 hh.vote)) := (Chg.setCell w ⟨p, 1, none⟩ _).trans (Chg.setCell _ ⟨p, 2, none⟩ _) (fun b e => .inl e) |>.mono (fun b e => .inl e)
  have hal : Below ((w.setCell ⟨p, 1, none⟩ (.int .i64 hh.term)).setCell ⟨p, 2, none⟩ (.int .i64 hh.vote)).heap.size ((w.setCell ⟨p, 1, none⟩ (.int .i64 hh.term)).setCell ⟨p, 2, none⟩ (.int .i64 hh.vote)) (((w.setCell ⟨p, 1, none⟩ (.int .i64 hh.term)).setCell ⟨p, 2, none⟩ (.int .i64 hh.vote)).alloc (.cells (rcells 1 hh x).toArray 198)) := Below.alloc (Below.refl _ _) (Nat.le_refl _) _
  have hs2 : StRep ((w.setCell ⟨p, 1, none⟩ (.int .i64 hh.term)).setCell ⟨p, 2, none⟩ (.int .i64 hh.vote)) B p a v { g with hd := hh } := by
    refine ⟨by simpa using o2, h.row.same (fun b hb => ?_), h.apart, h.hp⟩
    have hne : b ≠ p := fun e => h.apart (by rw [hb, e])
    exact (Below.heap_setCell _ _ _ _ hne).trans (Below.heap_setCell _ _ _ _ hne)
  have hfin : PutPost w B p a v { g with hd := hh } (.returned (.tuple #[])) (((w.setCell ⟨p, 1, none⟩ (.int .i64 hh.term)).setCell ⟨p, 2, none⟩ (.int .i64 hh.vote)).alloc (.cells (rcells 1 hh x).toArray 198)) :=
    ⟨rfl, v, hs2.below hal, hc2.trans (Chg.of_below hal) (fun b hb => .inl hb), .inl rfl⟩
  have HFin := hid hfin
  unfold rcells at *
  clear h o1 o2 hc2 hal hs2 hfin
  go_enter Tryz.func133, Tryz.ntmps133
  go_wp2
  go_end0
  exact HFin.out
set_option maxHeartbeats 4000000 in
theorem take_reset {w : World} {B p a : Nat} {v : Value} {g : Lg} (h : StRep w B p a v g) (hB : B ≤ w.heap.size) (hh : Hd) (x : En) :
    Calls Tryz.prog 133 #[.pointer (some ⟨p, 1, none⟩), .agg (rcells 3 hh x).toArray] w (PutPost w B p a v { g with L := [] }) := by
  have hpw := h.head.lt
  have f3 := h.head.frozen 3
  have p3 := h.head.cell 3
  simp at p3
  have o1 := h.head.set 3 (.slice none 0 0)
  have hc2 : Chg (fun b => b = p ∨ v.ownBlock = some b) w (w.setCell ⟨p, 3, none⟩ (.slice none 0 0)) := (Chg.setCell w ⟨p, 3, none⟩ _).mono (fun b e => .inl e)
  have hal : Below (w.setCell ⟨p, 3, none⟩ (.slice none 0 0)).heap.size (w.setCell ⟨p, 3, none⟩ (.slice none 0 0)) ((w.setCell ⟨p, 3, none⟩ (.slice none 0 0)).alloc (.cells (rcells 3 hh x).toArray 198)) := Below.alloc (Below.refl _ _) (Nat.le_refl _) _
  have hs2 : StRep (w.setCell ⟨p, 3, none⟩ (.slice none 0 0)) B p a (.slice none 0 0) { g with L := [] } :=
    ⟨by simpa using o1, EntRow.none _ _, (fun e => by cases e), h.hp⟩
  have hfin : PutPost w B p a v { g with L := [] } (.returned (.tuple #[])) ((w.setCell ⟨p, 3, none⟩ (.slice none 0 0)).alloc (.cells (rcells 3 hh x).toArray 198)) :=
    ⟨rfl, .slice none 0 0, hs2.below hal, hc2.trans (Chg.of_below hal) (fun b hb => .inl hb), .inr (fun b e => by cases e)⟩
  have HFin := hid hfin
  unfold rcells at *
  clear h o1 hc2 hal hs2 hfin
  go_enter Tryz.func133, Tryz.ntmps133
  go_wp2
  go_end0
  exact HFin.out
set_option maxHeartbeats 4000000 in
theorem take_entry {w : World} {B p a : Nat} {v : Value} {g : Lg} (h : StRep w B p a v g) (hc : Consec g.L) (hin : ∀ e ∈ g.L, e.In) (hl : g.L.length ≤ 100000) (hB : B ≤ w.heap.size) (hh : Hd) (x : En) (hx : I64 x.idx) (hd : x.data.length ≤ 140737488355328) :
    Calls Tryz.prog 133 #[.pointer (some ⟨p, 1, none⟩), .agg (rcells 2 hh x).toArray] w (PutPost w B p a v { g with L := putE g.L x }) := by
  have hpw := h.head.lt
  have hal : Below w.heap.size w (w.alloc (.cells (rcells 2 hh x).toArray 198)) := Below.alloc (Below.refl _ _) (Nat.le_refl _) _
  have HP : Hid (Calls Tryz.prog 110 #[.pointer (some ⟨p, 1, none⟩), .agg #[.int .i64 x.idx, .int .i64 x.term, .int .i64 x.kind, .string (mk x.data)]] (w.alloc (.cells (rcells 2 hh x).toArray 198)) (PutPost w B p a v { g with L := putE g.L x })) := hid (by
    refine (put_any (h.below hal) hc hin hl (by have := hal.size; omega) x hx hd).mono ?_
    rintro e w' ⟨rfl, v', h1, h2, h3⟩
    refine ⟨rfl, v', h1, (Chg.of_below hal).trans h2 (fun b hb => .inl hb), h3.imp id (fun h4 b hb => ?_)⟩
    have h5 := h4 b hb
    have := hal.size
    omega)
  unfold rcells at *
  clear h hc hin hl hal hx hd
  generalize ({ g with L := putE g.L x } : Lg) = g' at *
  go_enter Tryz.func133, Tryz.ntmps133
  go_wp2_with (go_at_call 110; (with_reducible refine HP.out.mono ?_); rintro e w1 hq; have HQ := hid hq; obtain ⟨rfl, -⟩ := hq)
  go_end0
  exact HQ.out
end Go.Proofs.YtbidglefddmjhaaGreatDoor

