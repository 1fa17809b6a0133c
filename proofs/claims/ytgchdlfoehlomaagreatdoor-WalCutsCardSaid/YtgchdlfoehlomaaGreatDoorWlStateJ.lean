import Derived.Test.YtgchdlfoehlomaaGreatDoorMq0J
import Derived.Test.YtgchdlfoehlomaaGreatDoorRkCJ
import Derived.BigRegion
/-
  LAYER 3 (wal): the state: a row of entries; how many stay ahead.
-/
namespace Go.Proofs.YtgchdlfoehlomaaGreatDoor
open Go.RowKit Go.Maps
set_option linter.unusedVariables false
set_option maxRecDepth 100000

def ecells (e : En) : List Value := [.int .i64 e.idx, .int .i64 e.term, .int .i64 e.kind, .string (mk e.data)]
def flatE (L : List En) : List Value := L.flatMap ecells
theorem flatE_length (L : List En) : (flatE L).length = L.length * 4 := by
  induction L with
  | nil => rfl
  | cons f r ih => simp only [flatE, List.flatMap_cons, List.length_append, List.length_cons] at *; rw [ih]; simp [ecells]; omega
theorem flatE_cons (e : En) (r : List En) : flatE (e :: r) = ecells e ++ flatE r := rfl
theorem flatE_append (A C : List En) : flatE (A ++ C) = flatE A ++ flatE C := by simp [flatE]
theorem flatE_get : ∀ {L : List En} {i k : Nat} (hi : i < L.length), k < 4 → (flatE L)[i * 4 + k]? = (ecells L[i])[k]?
  | f :: r, 0, k, hi, hk => by
    rw [flatE_cons, Nat.zero_mul, Nat.zero_add, List.getElem?_append_left (by simp [ecells]; omega)]; rfl
  | f :: r, i + 1, k, hi, hk => by
    rw [flatE_cons, List.getElem?_append_right (by simp [ecells]; omega)]
    have : (i + 1) * 4 + k - (ecells f).length = i * 4 + k := by simp [ecells]; omega
    rw [this, flatE_get (by simpa using hi) hk]
    rfl
theorem flatE_one (L : List En) : ∀ u ∈ flatE L, u.oneCell' = true := by
  intro u hu
  obtain ⟨f, _, hf⟩ := List.mem_flatMap.1 hu
  simp [ecells] at hf
  rcases hf with rfl | rfl | rfl | rfl <;> rfl
theorem flatE_take (L : List En) : ∀ k, flatE (L.take k) = (flatE L).take (k * 4)
  | 0 => by simp [flatE]
  | k + 1 => by
    cases L with
    | nil => simp [flatE]
    | cons e r =>
      rw [List.take_succ_cons, flatE_cons, flatE_cons, flatE_take r k, show (k + 1) * 4 = (ecells e).length + k * 4 by simp [ecells]; omega, List.take_length_add_append]
def EntRow (w : World) (B : Nat) (v : Value) (L : List En) : Prop := w.ownsRow B 57 4 v L.length (flatE L)
theorem EntRow.slice {w : World} {B : Nat} {v : Value} {L : List En} (h : EntRow w B v L) : ∃ ao cap, v = .slice ao L.length cap ∧ L.length ≤ cap ∧ (ao = none → cap = 0) := by
  rcases h.2 with ⟨hv, hz⟩ | ⟨g, cap, cur, rfl, _, _, hnc, _⟩
  · exact ⟨none, 0, by rw [hv, hz], by omega, fun _ => rfl⟩
  · exact ⟨_, cap, rfl, hnc, fun e => (by cases e)⟩
theorem EntRow.same {w w' : World} {B : Nat} {v : Value} {L : List En} (h : EntRow w B v L) (hs : ∀ b, v.ownBlock = some b → w'.heap[b]? = w.heap[b]?) : EntRow w' B v L := ownsRow_same h hs
theorem EntRow.cut {w : World} {B : Nat} {ao : Option Addr} {n cap : Nat} {L : List En} (h : EntRow w B (.slice ao n cap) L) {k : Nat} (hk : k ≤ L.length) : EntRow w B (.slice ao k cap) (L.take k) := by
  have hl : (L.take k).length = k := by rw [List.length_take]; omega
  rcases h.2 with ⟨hv, hz⟩ | ⟨g, cap', cur, hv, hB, hg, hnc, hcm, hcs, htake⟩
  · cases hv
    have hk0 : k = 0 := by omega
    subst hk0
    exact ⟨by simp [flatE], .inl ⟨rfl, by simp⟩⟩
  · cases hv
    refine ⟨by rw [flatE_length, hl], .inr ⟨g, cap, cur, by rw [hl], hB, hg, by rw [hl]; omega, hcm, hcs, ?_⟩⟩
    rw [hl, flatE_take, ← htake, List.take_take]
    congr 1
    omega
theorem EntRow.at {w : World} {B : Nat} {ao : Option Addr} {n cap : Nat} {L : List En} (h : EntRow w B (.slice ao n cap) L) {i : Nat} (hi : i < L.length) : ∃ g, ao = some ⟨g, 0, none⟩ ∧ B ≤ g ∧ g < w.heap.size ∧
    (∀ (k : Nat) (hk : k < L.length), w.cell? ⟨g, k * 4, none⟩ = some (.int .i64 L[k].idx) ∧ w.cell? ⟨g, k * 4 + 1, none⟩ = some (.int .i64 L[k].term) ∧ w.cell? ⟨g, k * 4 + 2, none⟩ = some (.int .i64 L[k].kind) ∧ w.cell? ⟨g, k * 4 + 3, none⟩ = some (.string (mk L[k].data))) ∧ ∀ j, w.frozen? ⟨g, j, none⟩ = false := by
  have hlt := World.ownsRow.lt h
  have hcs := fun g hg => World.ownsRow.cells h (g := g) hg
  rcases h.2 with ⟨hv, hz⟩ | ⟨g, cap', cur, hv, _, hg, _⟩
  · omega
  · simp only [Value.slice.injEq] at hv
    obtain ⟨rfl, _, _⟩ := hv
    have hadd : ∀ j, (⟨g, 0, none⟩ : Addr).add j = ⟨g, j, none⟩ := fun j => by unfold Addr.add; split <;> simp_all
    refine ⟨g, rfl, (hlt g rfl).1, (hlt g rfl).2, fun k hk => ⟨?_, ?_, ?_, ?_⟩, fun j => Lib.frozen_of_heap hg j⟩
    · have := hcs g rfl (k * 4 + 0) _ ((flatE_get hk (by omega)).trans rfl)
      rw [hadd] at this; exact this
    · have := hcs g rfl (k * 4 + 1) _ ((flatE_get hk (by omega)).trans rfl)
      rw [hadd] at this; exact this
    · have := hcs g rfl (k * 4 + 2) _ ((flatE_get hk (by omega)).trans rfl)
      rw [hadd] at this; exact this
    · have := hcs g rfl (k * 4 + 3) _ ((flatE_get hk (by omega)).trans rfl)
      rw [hadd] at this; exact this

theorem infoEntry : (Tryz.prog.info? 57).map (fun i => (i.zero, i.size, i.bytes)) = some (some (.agg #[.int .i64 0, .int .i64 0, .int .i64 0, .string ⟨#[]⟩]), 4, 40) := by kernel_rfl
theorem infoEntry_parts : ∃ i, Tryz.prog.info? 57 = some i ∧ i.zero = some (.agg #[.int .i64 0, .int .i64 0, .int .i64 0, .string ⟨#[]⟩]) ∧ i.size = 4 ∧ i.bytes = 40 := by
  obtain ⟨i, hi, hz⟩ := Option.map_eq_some_iff.1 infoEntry
  simp only [Prod.mk.injEq] at hz
  exact ⟨i, hi, hz.1, hz.2.1, hz.2.2⟩
/-- An entry put behind a row. -/
theorem run_entry (w : World) (B : Nat) (ty : TypeId) (v : Value) (L : List En) (e : En) (gb : Nat) (hown : EntRow w B v L) (hr : own w gb (ecells e).toArray 57) (hb : L.length ≤ 100000) (hB : B ≤ w.heap.size) :
    ∃ ao cap w', (Builtin.append_ #[39, 39] ty #[v, .slice (some ⟨gb, 0, none⟩) 1 1]).run Tryz.prog w = .ok (.slice ao (L.length + 1) cap) w' ∧ EntRow w' B (.slice ao (L.length + 1) cap) (L ++ [e]) ∧ w.grownBy w' v.ownBlock ∧ ((Value.slice ao (L.length + 1) cap).ownBlock = v.ownBlock ∨ (Value.slice ao (L.length + 1) cap).ownBlock = some w.heap.size) := by
  obtain ⟨i0, hi, hz0, hz1, hz2⟩ := infoEntry_parts
  have hcells : ∀ j u, (flatE [e])[j]? = some u → w.cell? ((⟨gb, 0, none⟩ : Addr).add j) = some u := by
    intro j u hu
    rw [show (⟨gb, 0, none⟩ : Addr).add j = ⟨gb, 0 + j, none⟩ from Go.WideShapes.add_plain .., Nat.zero_add, own.cell hr j]
    have : flatE [e] = ecells e := by simp [flatE]
    rw [this] at hu
    simpa using hu
  obtain ⟨v', w', hrun, h2, h3, _, h5⟩ := run_append_own_at (P := Tryz.prog) w B 39 ty 57 i0 _ 4 40 Tryz.underlying39 hi hz0 hz1 hz2 rfl (by omega) v L.length (flatE L) hown ⟨gb, 0, none⟩ 1 1 (flatE [e]) (by rw [flatE_length]; rfl) hcells (flatE_one [e]) (by unfold maxLen; omega) (by omega) hB
  have hrow : EntRow w' B v' (L ++ [e]) := by
    unfold EntRow
    rw [List.length_append, flatE_append]
    exact h2
  obtain ⟨ao, cap, rfl, _, _⟩ := hrow.slice
  rw [List.length_append] at hrun hrow h5
  exact ⟨ao, cap, w', hrun, hrow, h3, h5⟩
end Go.Proofs.YtgchdlfoehlomaaGreatDoor

