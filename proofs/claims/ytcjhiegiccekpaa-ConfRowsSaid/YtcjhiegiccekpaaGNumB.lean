/-
  GENERAL: the library's calls that turn rows of ints which the call has made: slices.Compact, DeleteFunc.
-/
import Derived.Test.YtcjhiegiccekpaaGNumA
import Derived.Sort.OwnSortedInts
import Derived.Lib.RowBridge
namespace Go.Proofs.Ytcjhiegiccekpaa
open Go.RowKit Go.Shelf Go.Lib Go.Sort
set_option linter.unusedVariables false
set_option maxRecDepth 100000

/-- A made row, opened: nil, or a block of its own. -/
theorem RMid.open {w wr : World} {v : Value} {L : List Int} (h : RMid numTy w wr v L) : (v = .slice none 0 0 ∧ L = []) ∨ ∃ g cap cur, v = .slice (some ⟨g, 0, none⟩) L.length cap ∧ w.heap.size ≤ g ∧ g < wr.heap.size ∧ wr.heap[g]? = some (.cells cur 3 (0, 0)) ∧ L.length ≤ cap ∧ cap ≤ maxLen ∧ cur.size = cap ∧ cur.toList.take L.length = L.map (Value.int .i64) := by
  rcases h.row.2 with ⟨hv, hz⟩ | ⟨g, cap, cur, hv, _, hg, hnc, hcm, hcs, ht⟩
  · exact .inl ⟨hv, List.length_eq_zero_iff.1 hz⟩
  · refine .inr ⟨g, cap, cur, hv, h.new g (by rw [hv]; rfl), (Array.getElem?_eq_some_iff.1 hg).1, hg, hnc, hcm, ?_, ?_⟩
    · rw [hcs]; show cap * 1 = cap; omega
    · rw [show numTy.n = 1 from rfl, Nat.mul_one] at ht
      rw [ht, num_flat]
/-- The world in which a row of one's own has been written anew. -/
theorem putRow_below {w wr : World} {g n : Nat} {os : Array Obj} (d : Array Int) (hb : Go.RowKit.Below w.heap.size w wr) (hg : w.heap.size ≤ g) : Below w.heap.size w (Sort.grow (putRow (Value.int .i64) (Sort.ahead wr n) g 0 d) os) := by
  have hz := hb.size
  obtain ⟨h1, h2, h3, h4, h5⟩ := grownBy_sortedI (w := wr) (g := g) (n := n) (os := os) d
  refine ⟨h1.trans hb.os, h2.trans hb.tape, h3.trans hb.output, by omega, fun k hk => ?_⟩
  rw [h5 k (by omega) (fun e => by simp only [Option.some.injEq] at e; omega)]
  exact hb.block k hk
/-- The row, cut to what is kept. -/
theorem putRow_own {wr : World} {g cap q : Nat} {cur : Array Value} {K R : List Int} (hg : wr.heap[g]? = some (.cells cur 3 (0, 0))) (hcm : cap ≤ maxLen) (hcs : cur.size = cap) (hlen : K.length + R.length ≤ cap) (os : Array Obj) :
    ROwn numTy (Sort.grow (putRow (Value.int .i64) (Sort.ahead wr q) g 0 (K ++ R).toArray) os) (.slice (some ⟨g, 0, none⟩) K.length cap) K := by
  have h1 := heap_sortedI (n := q) (os := os) (K ++ R).toArray hg
  have h2 := take_putCellsI cur (K ++ R) (by rw [List.length_append]; omega)
  refine ⟨flat_length numTy_ok K, .inr ⟨g, cap, _, rfl, Nat.zero_le _, h1, by omega, hcm, ?_, ?_⟩⟩
  · rw [show numTy.n = 1 from rfl, Nat.mul_one]; simp [putCells, hcs]
  · rw [show numTy.n = 1 from rfl, Nat.mul_one, num_flat]
    have h3 : ((putCells (Value.int .i64) 0 (K ++ R).toArray cur).toList.take (K ++ R).length).take K.length = ((K ++ R).map (Value.int .i64)).take K.length := by rw [h2]
    rw [List.take_take, Nat.min_eq_left (by rw [List.length_append]; omega)] at h3
    rw [h3, List.map_append, List.take_left' (by rw [List.length_map])]
/-- What a call that has cut a made row answers. -/
def CutN (w : World) (K : List Int) (e : Ending) (w' : World) : Prop := ∃ a cap, e = .returned (.slice a K.length cap) ∧ RMid numTy w w' (.slice a K.length cap) K
theorem compactN_any {w wr : World} {v : Value} {L : List Int} (h : RMid numTy w wr v L) (hL : L.length ≤ 1000000) :
    Calls Try.prog 41 #[v] wr (CutN w (Lib.compact L)) := by
  rcases h.open with ⟨rfl, rfl⟩ | ⟨g, cap, cur, rfl, hgw, hlt, hg, hnc, hcm, hcs, ht⟩
  · refine (AnyG.slices_Compact_int_empty Try.compactI none 0 wr).mono ?_
    rintro e w' ⟨rfl, rfl⟩
    exact ⟨none, 0, rfl, h⟩
  · have hH := holds_of_blockI hg ht
    refine (AnyG.slices_Compact_int Try.compactI g 0 cap L wr hH (by omega) hnc).mono ?_
    rintro e w' ⟨rfl, q, rfl⟩
    have hle := Lib.compact_length_le L
    refine ⟨some ⟨g, 0, none⟩, cap, rfl, ?_, fun b e => by cases e; exact hgw, ?_⟩
    · have := putRow_own (q := q) (K := Lib.compact L) (R := List.replicate (L.length - (Lib.compact L).length) 0) hg hcm hcs (by simp; omega) #[]
      rwa [Sort.grow_empty] at this
    · have := putRow_below (n := q) (os := #[]) (Lib.compact L ++ List.replicate (L.length - (Lib.compact L).length) 0).toArray h.below hgw
      rwa [Sort.grow_empty] at this
theorem cutN_mono {w : World} {K K' : List Int} (hk : K = K') {e : Ending} {w' : World} (h : CutN w K e w') : CutN w K' e w' := hk ▸ h
set_option maxHeartbeats 1000000 in
theorem deleteN_any {w wr : World} {v : Value} {L : List Int} (p : Int → Bool) (g0 : Nat) (lb : Array Value) (eg : ∀ args w, (callFunc g0 args).run Try.prog w = .ok (.enter g0 args) w) (h : RMid numTy w wr v L) (hL : L.length ≤ 1000000) (hp : PredAt Try.prog g0 lb (Value.int .i64) p wr) (hpo : ∀ g, w.heap.size ≤ g → g < wr.heap.size → wr.heap[g]?.isSome = true → (∃ cap n, v = .slice (some ⟨g, 0, none⟩) n cap) → PredOver Try.prog g0 lb (Value.int .i64) p g 0 L.length wr) :
    Calls Try.prog 36 #[v, .func (.func g0) #[] lb] wr (CutN w (L.filter fun x => !p x)) := by
  rcases h.open with ⟨rfl, rfl⟩ | ⟨g, cap, cur, rfl, hgw, hlt, hg, hnc, hcm, hcs, ht⟩
  · have C1 : Hid (Calls Try.prog 33 #[.slice none 0 0, .func (.func g0) #[] lb] wr fun e w' => e = .returned (.int .i64 (-1)) ∧ w' = wr) := hid (AnyE.slices_IndexFunc_empty Try.indexI none 0 (.func (.func g0) #[] lb) wr)
    have HF : Hid (CutN w (([] : List Int).filter fun x => !p x) (.returned (.slice none 0 0)) wr) := hid ⟨none, 0, rfl, h⟩
    clear h hp hpo
    have hq : ((-1 : Int) == -1) = true := rfl
    go_enter Try.func36, Try.ntmps36
    go_wp2_with (go_at_call 33; (with_reducible refine C1.out.mono ?_); rintro e w1 ⟨rfl, rfl⟩)
    go_ret
    exact HF.out
  · have hH := holds_of_blockI hg ht
    refine (AnyE.slices_DeleteFunc Try.deleteI (Value.int .i64) (fun _ => rfl) p g0 lb eg 0 Try.zeroValue3 g 0 cap L.toArray wr hp (by simpa using hpo g hgw hlt (by rw [hg]; rfl) ⟨cap, L.length, rfl⟩) hH (by simp; omega) (by simpa using hnc)).mono ?_
    rintro e w' ⟨rfl, q, rfl⟩
    have hle : (L.filter fun x => !p x).length ≤ L.length := List.length_filter_le _ _
    refine ⟨some ⟨g, 0, none⟩, cap, rfl, ?_, fun b e => by cases e; exact hgw, ?_⟩
    · have := putRow_own (q := q) (K := L.filter fun x => !p x) (R := List.replicate (L.length - (L.filter fun x => !p x).length) 0) hg hcm hcs (by simp; omega) #[]
      rw [Sort.grow_empty] at this
      simpa using this
    · have := putRow_below (n := q) (os := #[]) ((L.filter fun x => !p x) ++ List.replicate (L.length - (L.filter fun x => !p x).length) 0).toArray h.below hgw
      rw [Sort.grow_empty] at this
      simpa using this
end Go.Proofs.Ytcjhiegiccekpaa
