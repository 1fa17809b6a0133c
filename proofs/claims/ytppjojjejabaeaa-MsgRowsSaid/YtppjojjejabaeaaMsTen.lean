/-
  LAYER 7 (msg): append(v, make([]int, 10)...): ten zeros put behind a row of ints that the call has made.
-/
import Derived.Test.YtppjojjejabaeaaMq1
import Derived.Lib.AppendZerosOnto
namespace Go.Proofs.Ytppjojjejabaeaa
open Go.RowKit
set_option linter.unusedVariables false
set_option maxRecDepth 100000

def ten0 : List Int := List.replicate 10 0
theorem int_under : Try.prog.underlying 3 = some (.int .i64) := by kernel_rfl
theorem ten_cells : (Builtin.zeroCells (Value.int .i64 0).cells 10).toList = numTy.flat ten0 := by
  unfold Builtin.zeroCells
  rw [Array.toList_map, Array.toList_range]
  rfl
theorem run_ten_room (t ty e : TypeId) (w : World) (i : TypeInfo) (z : Value) (ht : Try.prog.underlying t = some (.slice e)) (hi : Try.prog.info? e = some i) (hz : i.zero = some z) (hz0 : z = .int .i64 0) (hs : i.size = 1) (hby : i.bytes = 8)
    (g sLen sCap : Nat) (cur : Array Value) (hg : w.heap[g]? = some (.cells cur e (0, 0))) (hroom : sLen + 10 ≤ sCap) (hfit : sLen + 10 ≤ cur.size) :
    (Builtin.append_ #[t, 3] ty #[.slice (some ⟨g, 0, none⟩) sLen sCap, .int .i64 10]).run Try.prog w =
      .ok (.slice (some ⟨g, 0, none⟩) (sLen + 10) sCap) (w.setRow g (cur.toList.take sLen ++ numTy.flat ten0 ++ cur.toList.drop (sLen + 10)).toArray) := by
  have hst := run_storeCells_at Try.prog g sLen e (numTy.flat ten0) 0 cur w hg hfit (by decide)
  simp only [Nat.add_zero] at hst
  rw [show (numTy.flat ten0).length = 10 from rfl] at hst
  subst hz0
  rw [← ten_cells] at hst ⊢
  have hw : IntKind.i64.wrap (10 : Int) = 10 := by decide
  simp [Builtin.append_, run_underlying ht, run_underlying int_under, sizeOf, typeInfo, zeroValue, hi, hz, hs, hby, asInt, asIntOf, hw, hroom, Addr.add_lit, hst]
theorem run_ten (w : World) (ty : TypeId) (v : Value) (L : List Int) (hown : ROwn numTy w v L) (hb : L.length ≤ 1000) :
    ∃ ao cap w', (Builtin.append_ #[23, 3] ty #[v, .int .i64 10]).run Try.prog w = .ok (.slice ao (L.length + 10) cap) w' ∧ ROwn numTy w' (.slice ao (L.length + 10) cap) (L ++ ten0) ∧ w.grownBy w' v.ownBlock ∧ ((Value.slice ao (L.length + 10) cap).ownBlock = v.ownBlock ∨ (Value.slice ao (L.length + 10) cap).ownBlock = some w.heap.size) := by
  obtain ⟨i, hi, hz, hs, hby⟩ := numTy_ok.parts
  have ht : Try.prog.underlying 23 = some (.slice 3) := Try.underlying23
  have hl2 : (numTy.flat (L ++ ten0)).length = L.length + 10 := by rw [flat_length numTy_ok, List.length_append]; show (L.length + 10) * 1 = _; omega
  have hfl : (numTy.flat L).length = L.length := by rw [flat_length numTy_ok]; exact Nat.mul_one _
  have hll : (L ++ ten0).length = L.length + 10 := List.length_append
  have hmx : maxLen = 9223372036854775807 := rfl
  have grown : ∀ old, ∀ row : Option Nat, ROwn numTy (w.drew.alloc (.cells ((numTy.flat L).toArray ++ Builtin.zeroCells (Value.int .i64 0).cells 10 ++ Builtin.zeroCells (Value.int .i64 0).cells (grownCap w (L.length + 10) old 3 - (L.length + 10))) 3)) (.slice (some ⟨w.heap.size, 0, none⟩) (L.length + 10) (grownCap w (L.length + 10) old 3)) (L ++ ten0) ∧
      w.grownBy (w.drew.alloc (.cells ((numTy.flat L).toArray ++ Builtin.zeroCells (Value.int .i64 0).cells 10 ++ Builtin.zeroCells (Value.int .i64 0).cells (grownCap w (L.length + 10) old 3 - (L.length + 10))) 3)) row := by
    intro old row
    have hge := grownCap_ge w (L.length + 10) old 3
    have hcm : grownCap w (L.length + 10) old 3 ≤ maxLen := grownCap_le_maxLen w (L.length + 10) old _ (by omega)
    refine ⟨⟨flat_length numTy_ok _, .inr ⟨w.heap.size, _, _, by rw [hll], Nat.zero_le _, heap_alloc_new w.drew _, by rw [hll]; exact hge, hcm, ?_, ?_⟩⟩, ⟨rfl, rfl, rfl, by simp, fun k hk _ => Below.heap_alloc w.drew _ k hk⟩⟩
    · simp only [Array.size_append, List.size_toArray, size_zeroCells, hfl]
      show L.length + 10 * 1 + (_ - _) * 1 = _ * 1
      omega
    · rw [Array.toList_append, Array.toList_append, ten_cells, List.toList_toArray, ← flat_append, hll]
      show List.take ((L.length + 10) * 1) _ = _
      rw [Nat.mul_one, ← hl2]
      exact List.take_left
  rcases hown.2 with ⟨rfl, hn⟩ | ⟨g, cap, cur, rfl, hbg, hg, hnc, hcm, hcs, htake⟩
  · obtain rfl : L = [] := List.length_eq_zero_iff.1 hn
    have hr := Go.Lib.run_append_nil_zeros (P := Try.prog) w 23 3 ty 3 i _ .i64 .i64 ht int_under hi hz 10 (by omega) (by rw [hs]; decide) (by omega) (by rw [hby]; decide)
    have hgr := grown 0 (Value.ownBlock (.slice none 0 0))
    rw [show (numTy.flat ([] : List Int)).toArray = #[] from rfl] at hgr
    simp only [List.length_nil, Nat.zero_add, Array.empty_append] at hgr hr ⊢
    exact ⟨_, _, _, hr, hgr.1, hgr.2, .inr rfl⟩
  · have hcs1 : cur.size = cap := hcs.trans (Nat.mul_one _)
    by_cases hroom : L.length + 10 ≤ cap
    · have hr := run_ten_room 23 ty 3 w i _ ht hi hz rfl hs hby g L.length cap cur hg hroom (by omega)
      refine ⟨_, _, _, hr, ⟨flat_length numTy_ok _, .inr ⟨g, cap, _, by rw [hll], hbg, setRow_heap w g cur _ _ _ hg, by rw [hll]; exact hroom, hcm, ?_, ?_⟩⟩, ⟨rfl, rfl, rfl, by simp, fun k _ hk => Go.setRow_other w g k _ (fun e => hk (by simp [Value.ownBlock, e]))⟩, .inl rfl⟩
      · rw [List.size_toArray, List.length_append, List.length_append, List.length_take, List.length_drop, show (numTy.flat ten0).length = 10 from rfl, show cur.toList.length = cap from hcs1]
        show _ = cap * 1
        omega
      · have h2 : cur.toList.take L.length = numTy.flat L := by have h3 := htake; rw [show numTy.n = 1 from rfl, Nat.mul_one] at h3; exact h3
        rw [h2, ← flat_append, List.toList_toArray, hll]
        show List.take ((L.length + 10) * 1) _ = _
        rw [Nat.mul_one, ← hl2]
        exact List.take_left
    · have holds : ∀ j u, (numTy.flat L)[j]? = some u → w.cell? ((⟨g, 0, none⟩ : Addr).add j) = some u := World.ownsRow.cells (g := g) hown rfl
      have hf := run_firstCells_some (P := Try.prog) w.drew i.size L.length ⟨g, 0, none⟩ L.length cap (numTy.flat L) (by rw [hfl, hs]; exact (Nat.mul_one _).symm) holds
      have hr := Go.Lib.run_append_grow_zeros (P := Try.prog) w 23 3 ty 3 i _ .i64 .i64 ht int_under hi hz (some ⟨g, 0, none⟩) L.length cap (numTy.flat L) hf 10 (by omega) (by rw [hs]; decide) (by omega) (by omega) (by rw [hby]; decide) (growslice_fits (by omega) (by rw [hby]; show (L.length + 10) * 8 ≤ _; omega))
      have hgr := grown cap (Value.ownBlock (.slice (some ⟨g, 0, none⟩) L.length cap))
      exact ⟨_, _, _, hr, hgr.1, hgr.2, .inr rfl⟩
theorem RMid.ten {w wx : World} {v : Value} {L : List Int} (ty : TypeId) (h : RMid numTy w wx v L) (hl : L.length ≤ 1000) :
    ∃ ao cap w5, (Builtin.append_ #[23, 3] ty #[v, .int .i64 10]).run Try.prog wx = .ok (.slice ao (L.length + 10) cap) w5 ∧ RMid numTy w w5 (.slice ao (L.length + 10) cap) (L ++ ten0) := by
  have hw := h.below.size
  obtain ⟨ao, cap, w5, hr, hrow, hg, hat⟩ := run_ten wx ty v L h.row hl
  refine ⟨ao, cap, w5, hr, ⟨hrow, fun b e => ?_, h.below.grown hg hw h.new⟩⟩
  rcases hat with k | k
  · exact h.new b (by rw [← k]; exact e)
  · rw [k] at e; cases e; omega
end Go.Proofs.Ytppjojjejabaeaa
