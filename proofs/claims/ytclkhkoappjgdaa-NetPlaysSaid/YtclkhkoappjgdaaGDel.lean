/-
  GENERAL: a thing taken out of a row that the call has made (slices.Delete(s, k, k+1)): the runs of its append and its clear.
-/
import Derived.Test.YtclkhkoappjgdaaGRow
namespace Go.Proofs.Ytclkhkoappjgdaa
open Go.RowKit
set_option linter.unusedVariables false
set_option maxRecDepth 100000

section
variable {α : Type} {R : RowTy α}
theorem zeroCells_one (z : Array Value) : (Builtin.zeroCells z 1).toList = z.toList := by
  apply List.ext_getElem?
  intro i
  simp only [Builtin.zeroCells, Nat.one_mul, Array.toList_map, Array.toList_range, List.getElem?_map]
  by_cases h : i < z.size
  · rw [List.getElem?_range h]
    simp [Nat.mod_eq_of_lt h, h]
  · rw [List.getElem?_eq_none (by simp; omega), List.getElem?_eq_none (by simp; omega)]
    rfl
theorem setCells_row {w : World} {b : Nat} {cur : Array Value} {T : TypeId} {fz : Nat × Nat} (hb : w.heap[b]? = some (.cells cur T fz)) : ∀ (vs : List Value) (o : Nat), o + vs.length ≤ cur.size → ∃ cur' : Array Value, (w.setCells b o vs).heap[b]? = some (.cells cur' T fz) ∧ cur'.size = cur.size ∧ ∀ j, j < o → cur'[j]? = cur[j]?
  | [], o, h => ⟨cur, hb, rfl, fun _ _ => rfl⟩
  | v :: r, o, h => by
    have hb2 : (w.setCell ⟨b, o, none⟩ v).heap[b]? = some (.cells (cur.setIfInBounds o v) T fz) := by
      simp [World.setCell, Array.getElem?_modify, hb]
    obtain ⟨cur', h1, h2, h3⟩ := setCells_row hb2 r (o + 1) (by simp at h ⊢; omega)
    refine ⟨cur', h1, by rw [h2]; simp, fun j hj => ?_⟩
    rw [h3 j (by omega), Array.getElem?_setIfInBounds, if_neg (by omega)]
theorem setCells_chg (b : Nat) : ∀ (vs : List Value) (o : Nat) (w : World), Chg (fun x => x = b) w (w.setCells b o vs)
  | [], _, w => Chg.refl _ w
  | v :: r, o, w => (Chg.setCell w ⟨b, o, none⟩ v).trans (setCells_chg b r (o + 1) _) (fun x h => .inl h)
theorem run_clear_one (o : R.Ok) (hz1 : ∀ u ∈ R.zero.cells.toList, u.oneCell' = true) (w : World) (ty : TypeId) (b of c : Nat)
    (hc : ∀ j, j < R.n → (w.cell? ⟨b, of + j, none⟩).isSome = true) (hf : ∀ j, w.frozen? ⟨b, j, none⟩ = false) :
    (Builtin.clear_ #[R.st] ty #[.slice (some ⟨b, of, none⟩) 1 c]).run Try.prog w = .ok (.tuple #[]) (w.setCells b of R.zero.cells.toList) := by
  obtain ⟨i0, hi, hz0, hzs, _⟩ := o.parts
  have hlen : R.zero.cells.toList.length = R.n := by rw [Array.length_toList]; exact o.zs
  have hst := run_storeCells_cells (P := Try.prog) b of R.zero.cells.toList 0 w (by rw [hlen]; simpa using hc) (fun j _ => hf _) hz1
  simp only [Nat.add_zero] at hst
  have hv : (zeroValue R.el).run Try.prog w = .ok R.zero w := by simp [zeroValue, typeInfo, hi, hz0]
  simp [Builtin.clear_, run_underlying o.under, hv, zeroCells_one, hst]
/-- What s[n-1:n] is, of a row cut by one. -/
theorem run_last (o : R.Ok) (wx : World) (g n cap : Nat) (h0 : 0 < n) (hn : n ≤ cap) : (Instr.slice R.st (.slice (some ⟨g, 0, none⟩) (n - 1) cap) (some (.int .i64 ((n - 1 : Nat) : Int))) (some (.int .i64 (n : Int))) none).run Try.prog wx = .ok (.slice (some ⟨g, (n - 1) * R.n, none⟩) 1 (cap - (n - 1))) wx := by
  obtain ⟨i0, hi0, _, hzs, _⟩ := o.parts
  have hne : ¬ cap = n - 1 := by omega
  have h2 : n - (n - 1) = 1 := by omega
  have h3 : ((n - 1 : Nat) : Int) ≤ (n : Int) := by omega
  simp [go_sem, Instr.slice, run_underlying o.under, sizeOf, typeInfo, hi0, Result.andThen, hn, h2, h3, hne, hzs, Go.WideShapes.add_plain]
/-- The row behind append(s[:k], s[k+1:]..) and clear(s[n-1:n]). -/
theorem ROwn.del (o : R.Ok) (hz1 : ∀ u ∈ R.zero.cells.toList, u.oneCell' = true) {w : World} {g cap : Nat} {L : List α} (h : ROwn R w (.slice (some ⟨g, 0, none⟩) L.length cap) L) {k : Nat} (hk : k < L.length) (ty : TypeId) :
    ∃ w1 w2, (Builtin.append_ #[R.st, R.st] ty #[.slice (some ⟨g, 0, none⟩) k cap, R.from (some ⟨g, 0, none⟩) L.length cap (k + 1)]).run Try.prog w = .ok (.slice (some ⟨g, 0, none⟩) (L.length - 1) cap) w1 ∧
      (∀ ty2, (Builtin.clear_ #[R.st] ty2 #[.slice (some ⟨g, (L.length - 1) * R.n, none⟩) 1 (cap - (L.length - 1))]).run Try.prog w1 = .ok (.tuple #[]) w2) ∧
      ROwn R w2 (.slice (some ⟨g, 0, none⟩) (L.length - 1) cap) (L.take k ++ L.drop (k + 1)) ∧ Chg (fun b => b = g) w w2 := by
  obtain ⟨i0, hi, hz0, hzs, _⟩ := o.parts
  obtain ⟨_, _, e, hlc, _, hcm⟩ := h.slice
  cases e
  have hcut : w.ownsRow 0 R.el R.n (.slice (some ⟨g, 0, none⟩) k cap) k (R.flat (L.take k)) := by
    have := h.cut o (k := k) (by omega)
    unfold ROwn at this
    rwa [show (L.take k).length = k by rw [List.length_take]; omega] at this
  obtain ⟨hd, _⟩ := h.rAt.drop o (k := k + 1) (by omega)
  obtain ⟨a, c, ea, _, hnone, _, hcells⟩ := hd
  have hdl : (L.drop (k + 1)).length = L.length - (k + 1) := List.length_drop
  have hlen : (L.take k ++ L.drop (k + 1)).length = L.length - 1 := by rw [List.length_append, List.length_take, hdl]; omega
  have hkm : k + (L.length - (k + 1)) = L.length - 1 := by omega
  obtain ⟨ad, had⟩ : ∃ ad, a = some ad := by
    unfold RowTy.from at ea
    simp only [Option.map_some, Value.slice.injEq] at ea
    rw [← ea.1]
    split <;> exact ⟨_, rfl⟩
  subst had
  have hnews : ∀ j u, (R.flat (L.drop (k + 1)))[j]? = some u → w.cell? (ad.add j) = some u := fun j u hj => by
    obtain ⟨sb, so, e, _, hxs⟩ := hcells (by intro e; rw [e] at hj; simp [RowTy.flat] at hj)
    cases e
    rw [Go.WideShapes.add_plain]
    exact hxs j u hj
  obtain ⟨w1, hr1, hown1, hg1⟩ := run_append_fits (P := Try.prog) w 0 R.st ty R.el i0 R.n o.under hi hzs g k cap (R.flat (L.take k)) hcut ad (L.length - (k + 1)) c (R.flat (L.drop (k + 1))) (by rw [flat_length o, hdl]) hnews (flat_one o _) (by omega)
  rw [hkm] at hr1 hown1
  rw [← flat_append] at hown1
  rw [hdl] at ea
  refine ⟨w1, w1.setCells g ((L.length - 1) * R.n) R.zero.cells.toList, by rw [ea]; exact hr1, fun ty2 => ?_, ?_, ?_⟩
  · rcases hown1.2 with ⟨h0, _⟩ | ⟨g', cap', cur, hv, hbg, hg, hnc, hcm, hcs, htake⟩
    · cases h0
    · cases hv
      refine run_clear_one o hz1 w1 ty2 g _ _ (fun j hj => ?_) (fun j => Lib.frozen_of_heap hg j)
      rw [Lib.cell_of_heap hg, Array.getElem?_eq_getElem (by rw [hcs]; have hh : (L.length - 1) * R.n + R.n ≤ cap * R.n := (by rw [← Nat.succ_mul]; exact Nat.mul_le_mul_right _ (by omega)); omega)]
      rfl
  · rcases hown1.2 with ⟨h0, _⟩ | ⟨g', cap', cur, hv, hbg, hg, hnc, hcm, hcs, htake⟩
    · cases h0
    · cases hv
      have hzl : R.zero.cells.toList.length = R.n := by rw [Array.length_toList]; exact o.zs
      obtain ⟨cur', c1, c2, c3⟩ := setCells_row hg R.zero.cells.toList ((L.length - 1) * R.n) (by rw [hzl, hcs, ← Nat.succ_mul]; exact Nat.mul_le_mul_right _ (by omega))
      unfold ROwn
      rw [hlen]
      refine ⟨hown1.1, .inr ⟨g, cap, cur', rfl, hbg, c1, hnc, hcm, by rw [c2, hcs], ?_⟩⟩
      rw [← htake]
      apply List.ext_getElem?
      intro j
      rw [List.getElem?_take, List.getElem?_take]
      split
      · rename_i hj
        rw [Array.getElem?_toList, Array.getElem?_toList]
        exact c3 j hj
      · rfl
  · exact ((Chg.of_grown hg1).mono (fun x e => by cases e; rfl)).trans (setCells_chg g _ _ w1) (fun x e => .inl e)
end
end Go.Proofs.Ytclkhkoappjgdaa
