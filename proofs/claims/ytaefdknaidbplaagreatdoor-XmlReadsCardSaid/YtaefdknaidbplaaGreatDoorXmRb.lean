/-
  LAYER 11 (xml), THE DOCUMENT's: the tokens, and words, if there are some.
-/
import Derived.Test.YtaefdknaidbplaaGreatDoorXmRa
namespace Go.Proofs.YtaefdknaidbplaaGreatDoor
open Go.RowKit
set_option linter.unusedVariables false
set_option maxRecDepth 100000

theorem rksIs_app {w : World} {V M : List TkV} {L L2 : List TkX} (h : RksIs w V L) (k : RksIs w M L2) : RksIs w (V ++ M) (L ++ L2) := by
  refine ⟨by rw [List.length_append, List.length_append, h.1, k.1], fun i x t hx ht => ?_⟩
  rcases Nat.lt_or_ge i V.length with hi | hi
  · rw [List.getElem?_append_left hi] at hx
    rw [List.getElem?_append_left (by rw [← h.1]; exact hi)] at ht
    exact h.2 i x t hx ht
  · rw [List.getElem?_append_right hi] at hx
    rw [List.getElem?_append_right (by rw [← h.1]; exact hi), ← h.1] at ht
    exact k.2 _ x t hx ht
/-- A row of tokens put behind another one. -/
theorem as_join {w wr : World} {v u : Value} {V M : List TkV} {L L2 : List TkX} (h : AsMid w wr v V L) (hu : RAt rkTy wr u M) (hM : RksIs wr M L2) (hap : ∀ x ∈ M, ∀ g, (Value.slice x.a x.m x.c).ownBlock = some g → v.ownBlock ≠ some g ∧ g < wr.heap.size) (ty : TypeId) (hl : V.length + M.length ≤ 10000000) :
    ∃ ao n cap w5, (Builtin.append_ #[27, 27] ty #[v, u]).run Tryz.prog wr = .ok (.slice ao n cap) w5 ∧ n = V.length + M.length ∧ AsMid w w5 (.slice ao n cap) (V ++ M) (L ++ L2) ∧ ((Value.slice ao n cap).ownBlock = v.ownBlock ∨ (Value.slice ao n cap).ownBlock = some wr.heap.size) := by
  obtain ⟨ao, cap, w5, hr, hrow, hg, hat⟩ := run_app rkTy_ok _ ty v u V M h.mid.row hu hl
  have hw := h.mid.below.size
  have hgz := (Chg.of_grown hg).size
  have hall : ∀ x ∈ V ++ M, ∀ g, (Value.slice x.a x.m x.c).ownBlock = some g → v.ownBlock ≠ some g ∧ g < wr.heap.size := fun x hx g e => by
    rcases List.mem_append.1 hx with k | k
    · exact h.ap x k g e
    · exact hap x k g e
  have hkeep : ∀ g, v.ownBlock ≠ some g → g < wr.heap.size → w5.heap[g]? = wr.heap[g]? := fun g hne hlt => (Chg.of_grown hg).block g hlt hne
  have hj := rksIs_app h.is hM
  refine ⟨ao, _, cap, w5, hr, rfl, ⟨⟨hrow, fun b e => ?_, h.mid.below.grown hg hw h.mid.new⟩, ⟨hj.1, fun i x t hx ht => ?_⟩, fun x hx g e => ⟨?_, ?_⟩⟩, hat⟩
  · rcases hat with k | k
    · exact h.mid.new b (by rw [← k]; exact e)
    · rw [k] at e; cases e; exact hw
  · exact (hj.2 i x t hx ht).same (fun b hb hl2 => hkeep b (hall x (List.mem_of_getElem? hx) b hb).1 hl2) hgz
  · obtain ⟨h1, h2⟩ := hall x hx g e
    rcases hat with k | k
    · rw [k]; exact h1
    · rw [k]; intro q; cases q; omega
  · have := (hall x hx g e).2; omega
theorem asMid_base {w wr wx : World} {v : Value} {V : List TkV} {L : List TkX} (hb : Below w.heap.size w wr) (h : AsMid wr wx v V L) : AsMid w wx v V L :=
  ⟨⟨h.mid.row, fun b e => Nat.le_trans hb.size (h.mid.new b e), hb.trans (h.mid.below.mono hb.size)⟩, h.is, h.ap⟩
def WithPost (w wr : World) (v : Value) (L : List TkX) (t : List UInt8) (e : Ending) (w' : World) : Prop :=
  ∃ ao n cap V, e = .returned (.slice ao n cap) ∧ n = V.length ∧ AsMid w w' (.slice ao n cap) V (L ++ endW t) ∧ Below wr.heap.size wr w' ∧ ((Value.slice ao n cap).ownBlock = v.ownBlock ∨ ∀ g, (Value.slice ao n cap).ownBlock = some g → wr.heap.size ≤ g)
set_option maxHeartbeats 8000000 in
theorem with_any {w wr : World} {ao : Option Addr} {n cap : Nat} {V : List TkV} {L : List TkX} (h : AsMid w wr (.slice ao n cap) V L) (hn : n = V.length) (hV : V.length ≤ 90000) (t : List UInt8) :
    Calls Tryz.prog 27 #[.slice ao n cap, .string (mk t)] wr (WithPost w wr (.slice ao n cap) L t) := by
  by_cases ht : t = []
  · have q1 := mkE_nil
    have HR : Hid (AsMid w wr (.slice ao n cap) V (L ++ endW t)) := hid (by rw [ht]; simpa [endW] using h)
    subst ht
    clear h
    go_enter Tryz.func27, Tryz.ntmps27
    go_wp2
    go_ret
    exact ⟨ao, n, cap, V, rfl, hn, HR.out, Below.refl _ _, .inl rfl⟩
  · obtain ⟨q0, q1, q2⟩ := mkE_cons ht
    have hb1 : Below wr.heap.size wr (wr.alloc (.cells #[] 42)) := (Below.refl _ _).alloc (Nat.le_refl _) _
    have hE : AsMid wr (wr.alloc (.cells #[] 42)) (.slice (some ⟨wr.heap.size, 0, none⟩) 0 0) [] [] := ⟨rMid_empty hb1 (own.new wr _ _) (Nat.le_refl _), ⟨rfl, fun i x t h => by simp at h⟩, fun x h => by simp at h⟩
    have h1 := h.later hb1
    obtain ⟨a2, n2, c2, w5, hr1, hn2, hA2, -⟩ := as_join hE h1.mid.row.rAt h1.is (fun x hx g e => ⟨fun k => by have h0 : wr.heap.size = g := (by simpa [Value.ownBlock] using k); have := (h.ap x hx _ e).2; omega, (h1.ap x hx g e).2⟩) 27 (by simp; omega)
    rw [List.nil_append, List.nil_append] at hA2
    have hn3 : n2 = V.length := by rw [hn2]; simp
    subst hn3
    obtain ⟨a3, c3, w6, hr2, hA3⟩ := as_push hA2 (wordsT t) none 0 (rAt_nil _) (fun g e => by simp [Value.ownBlock] at e) 27 42 (by omega)
    have HR : Hid (AsMid wr w6 (.slice a3 (V.length + 1) c3) (V ++ [⟨3, [], none, 0, 0, t⟩]) (L ++ endW t)) := hid (by
      have e : endW t = [wordsT t] := by unfold endW; rw [if_neg ht]
      rw [e]; exact hA3)
    have hb := h.mid.below
    have hr2' : (Builtin.append_ #[27, 27] 27 #[.slice a2 V.length c2, .slice (some ⟨w5.heap.size, 0, none⟩) 1 1]).run Tryz.prog (w5.alloc (.cells #[.int .i64 3, .string ⟨#[]⟩, .slice none 0 0, .string (mk t)] 42)) = .ok (.slice a3 (V.length + 1) c3) w6 := hr2
    subst hn
    clear hE h1 hn2 hA2 hA3 hr2 h hb1
    go_enter Tryz.func27, Tryz.ntmps27
    go_wp2_with (at_builtin; first | (refine wpList_append_at hr1 rfl rfl _ _ rfl rfl rfl rfl ?_) | (refine wpList_append_at hr2' rfl rfl _ _ rfl rfl rfl rfl ?_))
    go_ret
    exact ⟨a3, V.length + 1, c3, _, rfl, by simp, asMid_base hb HR.out, HR.out.mid.below, .inr HR.out.mid.new⟩
end Go.Proofs.YtaefdknaidbplaaGreatDoor
