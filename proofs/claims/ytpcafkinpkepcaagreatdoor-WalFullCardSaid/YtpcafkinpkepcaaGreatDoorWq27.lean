import Derived.Test.YtpcafkinpkepcaaGreatDoorWq12
import Derived.Test.YtpcafkinpkepcaaGreatDoorWq26
import Derived.BigRegion
/-
  Wq27: WlState, WlAhead, in one text.
-/
/-
  LAYER 3 (wal): the state: a row of entries; how many stay ahead.
-/
namespace Go.Proofs.YtpcafkinpkepcaaGreatDoor
open Go.RowKit Go.Maps
set_option linter.unusedVariables false
set_option maxRecDepth 100000

def ecells (e : En) : List Value := [.int .i64 e.idx, .int .i64 e.term, .int .i64 e.kind, .string (mk e.data)]
def flatE (L : List En) : List Value := L.flatMap ecells
theorem flatE_length (L : List En) : (flatE L).length = L.length * 4 := by
  induction L with
  | nil => rfl
  | cons f r ih => simp only [flatE, List.flatMap_cons, List.length_append, List.length_cons] at *; rw [ih]; simp [ecells]; omega
theorem flatE_cons (e : En) (r : List En) : flatE (e :: r) = ecells e ++ flatE r := rfl
theorem flatE_append (A C : List En) : flatE (A ++ C) = flatE A ++ flatE C := by simp [flatE]
theorem flatE_get : ∀ {L : List En} {i k : Nat} (hi : i < L.length), k < 4 → (flatE L)[i * 4 + k]? = (ecells L[i])[k]?
  | f :: r, 0, k, hi, hk => by
    rw [flatE_cons, Nat.zero_mul, Nat.zero_add, List.getElem?_append_left (by simp [ecells]; omega)]; rfl
  | f :: r, i + 1, k, hi, hk => by
    rw [flatE_cons, List.getElem?_append_right (by simp [ecells]; omega)]
    have : (i + 1) * 4 + k - (ecells f).length = i * 4 + k := by simp [ecells]; omega
    rw [this, flatE_get (by simpa using hi) hk]
    rfl
theorem flatE_one (L : List En) : ∀ u ∈ flatE L, u.oneCell' = true := by
  intro u hu
  obtain ⟨f, _, hf⟩ := List.mem_flatMap.1 hu
  simp [ecells] at hf
  rcases hf with rfl | rfl | rfl | rfl <;> rfl
theorem flatE_take (L : List En) : ∀ k, flatE (L.take k) = (flatE L).take (k * 4)
  | 0 => by simp [flatE]
  | k + 1 => by
    cases L with
    | nil => simp [flatE]
    | cons e r =>
      rw [List.take_succ_cons, flatE_cons, flatE_cons, flatE_take r k, show (k + 1) * 4 = (ecells e).length + k * 4 by simp [ecells]; omega, List.take_length_add_append]
def EntRow (w : World) (B : Nat) (v : Value) (L : List En) : Prop := w.ownsRow B 78 4 v L.length (flatE L)
theorem EntRow.slice {w : World} {B : Nat} {v : Value} {L : List En} (h : EntRow w B v L) : ∃ ao cap, v = .slice ao L.length cap ∧ L.length ≤ cap ∧ (ao = none → cap = 0) := by
  rcases h.2 with ⟨hv, hz⟩ | ⟨g, cap, cur, rfl, _, _, hnc, _⟩
  · exact ⟨none, 0, by rw [hv, hz], by omega, fun _ => rfl⟩
  · exact ⟨_, cap, rfl, hnc, fun e => (by cases e)⟩
theorem EntRow.same {w w' : World} {B : Nat} {v : Value} {L : List En} (h : EntRow w B v L) (hs : ∀ b, v.ownBlock = some b → w'.heap[b]? = w.heap[b]?) : EntRow w' B v L := ownsRow_same h hs
theorem EntRow.cut {w : World} {B : Nat} {ao : Option Addr} {n cap : Nat} {L : List En} (h : EntRow w B (.slice ao n cap) L) {k : Nat} (hk : k ≤ L.length) : EntRow w B (.slice ao k cap) (L.take k) := by
  have hl : (L.take k).length = k := by rw [List.length_take]; omega
  rcases h.2 with ⟨hv, hz⟩ | ⟨g, cap', cur, hv, hB, hg, hnc, hcm, hcs, htake⟩
  · cases hv
    have hk0 : k = 0 := by omega
    subst hk0
    exact ⟨by simp [flatE], .inl ⟨rfl, by simp⟩⟩
  · cases hv
    refine ⟨by rw [flatE_length, hl], .inr ⟨g, cap, cur, by rw [hl], hB, hg, by rw [hl]; omega, hcm, hcs, ?_⟩⟩
    rw [hl, flatE_take, ← htake, List.take_take]
    congr 1
    omega
theorem EntRow.at {w : World} {B : Nat} {ao : Option Addr} {n cap : Nat} {L : List En} (h : EntRow w B (.slice ao n cap) L) {i : Nat} (hi : i < L.length) : ∃ g, ao = some ⟨g, 0, none⟩ ∧ B ≤ g ∧ g < w.heap.size ∧
    (∀ (k : Nat) (hk : k < L.length), w.cell? ⟨g, k * 4, none⟩ = some (.int .i64 L[k].idx) ∧ w.cell? ⟨g, k * 4 + 1, none⟩ = some (.int .i64 L[k].term) ∧ w.cell? ⟨g, k * 4 + 2, none⟩ = some (.int .i64 L[k].kind) ∧ w.cell? ⟨g, k * 4 + 3, none⟩ = some (.string (mk L[k].data))) ∧ ∀ j, w.frozen? ⟨g, j, none⟩ = false := by
  have hlt := World.ownsRow.lt h
  have hcs := fun g hg => World.ownsRow.cells h (g := g) hg
  rcases h.2 with ⟨hv, hz⟩ | ⟨g, cap', cur, hv, _, hg, _⟩
  · omega
  · simp only [Value.slice.injEq] at hv
    obtain ⟨rfl, _, _⟩ := hv
    have hadd : ∀ j, (⟨g, 0, none⟩ : Addr).add j = ⟨g, j, none⟩ := fun j => by unfold Addr.add; split <;> simp_all
    refine ⟨g, rfl, (hlt g rfl).1, (hlt g rfl).2, fun k hk => ⟨?_, ?_, ?_, ?_⟩, fun j => Lib.frozen_of_heap hg j⟩
    · have := hcs g rfl (k * 4 + 0) _ ((flatE_get hk (by omega)).trans rfl)
      rw [hadd] at this; exact this
    · have := hcs g rfl (k * 4 + 1) _ ((flatE_get hk (by omega)).trans rfl)
      rw [hadd] at this; exact this
    · have := hcs g rfl (k * 4 + 2) _ ((flatE_get hk (by omega)).trans rfl)
      rw [hadd] at this; exact this
    · have := hcs g rfl (k * 4 + 3) _ ((flatE_get hk (by omega)).trans rfl)
      rw [hadd] at this; exact this

theorem infoEntry : (Tryz.prog.info? 78).map (fun i => (i.zero, i.size, i.bytes)) = some (some (.agg #[.int .i64 0, .int .i64 0, .int .i64 0, .string ⟨#[]⟩]), 4, 40) := by kernel_rfl
theorem infoEntry_parts : ∃ i, Tryz.prog.info? 78 = some i ∧ i.zero = some (.agg #[.int .i64 0, .int .i64 0, .int .i64 0, .string ⟨#[]⟩]) ∧ i.size = 4 ∧ i.bytes = 40 := by
  obtain ⟨i, hi, hz⟩ := Option.map_eq_some_iff.1 infoEntry
  simp only [Prod.mk.injEq] at hz
  exact ⟨i, hi, hz.1, hz.2.1, hz.2.2⟩
/-- An entry put behind a row. -/
theorem run_entry (w : World) (B : Nat) (ty : TypeId) (v : Value) (L : List En) (e : En) (gb : Nat) (hown : EntRow w B v L) (hr : own w gb (ecells e).toArray 78) (hb : L.length ≤ 100000) (hB : B ≤ w.heap.size) :
    ∃ ao cap w', (Builtin.append_ #[52, 52] ty #[v, .slice (some ⟨gb, 0, none⟩) 1 1]).run Tryz.prog w = .ok (.slice ao (L.length + 1) cap) w' ∧ EntRow w' B (.slice ao (L.length + 1) cap) (L ++ [e]) ∧ w.grownBy w' v.ownBlock ∧ ((Value.slice ao (L.length + 1) cap).ownBlock = v.ownBlock ∨ (Value.slice ao (L.length + 1) cap).ownBlock = some w.heap.size) := by
  obtain ⟨i0, hi, hz0, hz1, hz2⟩ := infoEntry_parts
  have hcells : ∀ j u, (flatE [e])[j]? = some u → w.cell? ((⟨gb, 0, none⟩ : Addr).add j) = some u := by
    intro j u hu
    rw [show (⟨gb, 0, none⟩ : Addr).add j = ⟨gb, 0 + j, none⟩ from Go.WideShapes.add_plain .., Nat.zero_add, own.cell hr j]
    have : flatE [e] = ecells e := by simp [flatE]
    rw [this] at hu
    simpa using hu
  obtain ⟨v', w', hrun, h2, h3, _, h5⟩ := run_append_own_at (P := Tryz.prog) w B 52 ty 78 i0 _ 4 40 Tryz.underlying52 hi hz0 hz1 hz2 rfl (by omega) v L.length (flatE L) hown ⟨gb, 0, none⟩ 1 1 (flatE [e]) (by rw [flatE_length]; rfl) hcells (flatE_one [e]) (by unfold maxLen; omega) (by omega) hB
  have hrow : EntRow w' B v' (L ++ [e]) := by
    unfold EntRow
    rw [List.length_append, flatE_append]
    exact h2
  obtain ⟨ao, cap, rfl, _, _⟩ := hrow.slice
  rw [List.length_append] at hrun hrow h5
  exact ⟨ao, cap, w', hrun, hrow, h3, h5⟩
end Go.Proofs.YtpcafkinpkepcaaGreatDoor

/-
  LAYER 3 (wal): the state: how many entries stay ahead of one that is put in.
-/
namespace Go.Proofs.YtpcafkinpkepcaaGreatDoor
open Go.RowKit Go.Maps
set_option linter.unusedVariables false
set_option maxRecDepth 100000

structure StRep (w : World) (B : Nat) (p a : Nat) (v : Value) (g : Lg) : Prop where
  head : own w p #[.pointer (some ⟨a, 0, none⟩), .int .i64 g.hd.term, .int .i64 g.hd.vote, v] 112
  row : EntRow w B v g.L
  apart : v.ownBlock ≠ some p
  hp : B ≤ p
theorem StRep.same {w w' : World} {B p a : Nat} {v : Value} {g : Lg} (h : StRep w B p a v g) (hp : w'.heap[p]? = w.heap[p]?) (hv : ∀ b, v.ownBlock = some b → w'.heap[b]? = w.heap[b]?) : StRep w' B p a v g := ⟨h.head.same hp, h.row.same hv, h.apart, h.hp⟩
theorem StRep.below {w w' : World} {B p a : Nat} {v : Value} {g : Lg} (h : StRep w B p a v g) (hb : Below w.heap.size w w') : StRep w' B p a v g := h.same (hb.block p h.head.lt) (fun b hb' => hb.block b (World.ownsRow.lt h.row b hb').2)
set_option maxHeartbeats 4000000 in
theorem ahead_any {w : World} {B p a : Nat} {v : Value} {g : Lg} (h : StRep w B p a v g) (hc : Consec g.L) (hin : ∀ e ∈ g.L, e.In) (hl : g.L.length ≤ 100000) (i : Int) (hi : I64 i) :
    Calls Tryz.prog 147 #[.pointer (some ⟨p, 1, none⟩), .int .i64 i] w fun e w' => e = .returned (.int .i64 (aheadE g.L i : Int)) ∧ Below w.heap.size w w' := by
  have c3 := h.head.cell 3
  simp at c3
  obtain ⟨ao, cap, rfl, hcap, hnone⟩ := h.row.slice
  by_cases h0 : g.L = []
  · have hz : aheadE g.L i = 0 := by unfold aheadE; rw [if_pos (.inl h0)]
    have hlen : g.L.length = 0 := by rw [h0]; rfl
    rw [hz]
    rw [hlen] at c3
    clear h hz hc hin hcap hnone hlen h0
    go_enter Tryz.func147, Tryz.ntmps147
    go_wp2
    go_ret
    exact ⟨rfl, Below.refl _ _⟩
  · have hpos := List.length_pos_iff.2 h0
    obtain ⟨gb, rfl, hgB, hglt, hcells, -⟩ := h.row.at hpos
    have q0 := (hcells 0 hpos).1
    have q1 := (hcells (g.L.length - 1) (by omega)).1
    have hfi : g.L[0].idx = firstI g.L := by have := hc 0 hpos; simpa using this
    have hla : (g.L[g.L.length - 1]'(by omega)).idx = lastI g.L := (lastI_get h0).symm
    rw [Nat.zero_mul, hfi] at q0
    rw [hla] at q1
    have hI1 : I64 (firstI g.L) := by rw [← hfi]; exact (hin _ (List.getElem_mem _)).idx
    have hI2 : I64 (lastI g.L) := by rw [← hla]; exact (hin _ (List.getElem_mem _)).idx
    have hle := aheadE_le hc hin i
    have hA : aheadE g.L i = if IntKind.i64.wrap (lastI g.L + 1) < i ∨ i < firstI g.L then 0 else (i - firstI g.L).toNat := by unfold aheadE; simp only [h0, false_or]
    have hHA := hid hA
    have hLe := hid hle
    obtain ⟨n, hn⟩ : ∃ n, g.L.length = n + 1 := ⟨g.L.length - 1, by omega⟩
    rw [hn] at c3
    rw [hn, Nat.add_sub_cancel] at q1
    have hn2 : (n : Int) ≤ 100000 := by omega
    have hIi := hid hi
    clear hA hle hcells hfi hla h hc hin h0 hpos hcap hnone hl
    generalize aheadE g.L i = A at *
    generalize firstI g.L = fi at *
    generalize lastI g.L = la at *
    obtain ⟨lw, hlw⟩ : ∃ lw, IntKind.i64.wrap (la + 1) = lw := ⟨_, rfl⟩
    rw [hlw] at hHA
    have hW1 : IntKind.i64.wrap ((n : Int) + 1 - 1) = (n : Int) := by rw [show (n : Int) + 1 - 1 = n by omega]; exact IntWalk.i64_in _ (by omega)
    have hW2 : IntKind.i64.wrap (n : Int) = (n : Int) := IntWalk.i64_in _ (by omega)
    clear hI1 hI2 hi
    by_cases hx : lw < i
    · have hAz : A = 0 := by rw [hHA.out, if_pos (.inl hx)]
      subst hAz
      clear hHA hLe
      go_enter Tryz.func147, Tryz.ntmps147
      go_wp2
      go_quiet (fail)
      go_wp2
      go_ret
      exact ⟨rfl, below_drew (Below.refl _ _) _⟩
    · by_cases hy : i < fi
      · have hAz : A = 0 := by rw [hHA.out, if_pos (.inr hy)]
        subst hAz
        clear hHA hLe
        go_enter Tryz.func147, Tryz.ntmps147
        go_wp2
        go_quiet (fail)
        go_wp2
        go_ret
        exact ⟨rfl, below_drew (Below.refl _ _) _⟩
      · have hAe : (A : Int) = i - fi := by
          have := hHA.out
          rw [if_neg (fun e => by rcases e with e | e; exact hx e; exact hy e)] at this
          omega
        have hAl : A ≤ n + 1 := by have := hLe.out.1; omega
        have hsub : IntKind.i64.wrap (i - fi) = (A : Int) := by rw [← hAe]; exact IntWalk.i64_in _ (by omega)
        clear hHA hLe hAe
        go_enter Tryz.func147, Tryz.ntmps147
        go_wp2
        go_quiet (fail)
        go_wp2
        go_ret
        exact ⟨rfl, below_drew (Below.refl _ _) _⟩
end Go.Proofs.YtpcafkinpkepcaaGreatDoor

