import Derived.Test.YtjoeamlidmmioaaGreatDoorMq3J
import Derived.Test.YtjoeamlidmmioaaGreatDoorXmJcJ
/-
  LAYER 11 (xml), THE LAWS' OWN HELPERS: as (tokens as the document's).
-/
namespace Go.Proofs.YtjoeamlidmmioaaGreatDoor
open Go.RowKit
set_option linter.unusedVariables false
set_option maxRecDepth 100000

/-- The rows so far: what lies in `out`, and the rows of attributes that it names, apart from it. -/
structure AsMid (w wr : World) (v : Value) (V : List TkV) (L : List TkX) : Prop where
  mid : RMid rkTy w wr v V
  is : RksIs wr V L
  ap : ∀ x ∈ V, ∀ g, (Value.slice x.a x.m x.c).ownBlock = some g → v.ownBlock ≠ some g ∧ g < wr.heap.size
theorem asMid_nil (w : World) : AsMid w w (.slice none 0 0) [] [] := ⟨rMid_nil w, ⟨rfl, fun i x t h => by simp at h⟩, fun x h => by simp at h⟩
theorem RkIs.same {w w' : World} {x : TkV} {t : TkX} (h : RkIs w x t) (hs : ∀ b, (Value.slice x.a x.m x.c).ownBlock = some b → b < w.heap.size → w'.heap[b]? = w.heap[b]?) (hz : w.heap.size ≤ w'.heap.size) : RkIs w' x t := ⟨h.hk, h.hn, h.ht, h.ha.same hs hz⟩
theorem AsMid.later {w wr wy : World} {v : Value} {V : List TkV} {L : List TkX} (h : AsMid w wr v V L) (hb : Below wr.heap.size wr wy) : AsMid w wy v V L :=
  ⟨h.mid.later hb, ⟨h.is.1, fun i x t hx ht => (h.is.2 i x t hx ht).same (fun b _ hl => hb.block b hl) hb.size⟩, fun x hx g hg => ⟨(h.ap x hx g hg).1, Nat.lt_of_lt_of_le (h.ap x hx g hg).2 hb.size⟩⟩
theorem as_push {w wr : World} {v : Value} {V : List TkV} {L : List TkX} (h : AsMid w wr v V L) (t : TkX) (a : Option Addr) (c : Nat) (hsl : RAt raTy wr (.slice a t.as.length c) t.as) (hap : ∀ g, (Value.slice a t.as.length c).ownBlock = some g → v.ownBlock ≠ some g ∧ g < wr.heap.size) (ty T : TypeId) (hl : V.length ≤ 100000) :
    ∃ ao cap w5, (Builtin.append_ #[24, 24] ty #[v, .slice (some ⟨wr.heap.size, 0, none⟩) 1 1]).run Tryz.prog (wr.alloc (.cells #[.int .i64 t.k, .string (mk t.n), .slice a t.as.length c, .string (mk t.t)] T)) = .ok (.slice ao (V.length + 1) cap) w5 ∧ AsMid w w5 (.slice ao (V.length + 1) cap) (V ++ [⟨t.k, t.n, a, t.as.length, c, t.t⟩]) (L ++ [t]) := by
  have hb : Below wr.heap.size wr (wr.alloc (.cells #[.int .i64 t.k, .string (mk t.n), .slice a t.as.length c, .string (mk t.t)] T)) := (Below.refl _ _).alloc (Nat.le_refl _) _
  have h2 := h.later hb
  have hw := h2.mid.below.size
  have hz : (wr.alloc (.cells #[.int .i64 t.k, .string (mk t.n), .slice a t.as.length c, .string (mk t.t)] T)).heap.size = wr.heap.size + 1 := by simp
  obtain ⟨ao, cap, w5, hr, hrow, hg, hat⟩ := run_app rkTy_ok _ ty v _ V [⟨t.k, t.n, a, t.as.length, c, t.t⟩] h2.mid.row (rAt_box rkTy_ok (own.new wr _ T) rfl) (by simp; omega)
  simp only [List.length_cons, List.length_nil, Nat.zero_add] at hr hrow hat
  have hgz := (Chg.of_grown hg).size
  have hkeep : ∀ g, v.ownBlock ≠ some g → g < wr.heap.size → w5.heap[g]? = wr.heap[g]? := fun g hne hlt =>
    ((Chg.of_grown hg).block g (by rw [hz]; omega) hne).trans (hb.block g hlt)
  refine ⟨ao, cap, w5, hr, ⟨hrow, fun b e => ?_, h2.mid.below.grown hg hw h2.mid.new⟩, ⟨by simp [h.is.1], fun i x tt hx ht => ?_⟩, fun x hx g hg2 => ?_⟩
  · rcases hat with k | k
    · exact h.mid.new b (by rw [← k]; exact e)
    · rw [k] at e; cases e; omega
  · rcases Nat.lt_or_ge i V.length with hi | hi
    · rw [List.getElem?_append_left hi] at hx
      rw [List.getElem?_append_left (by rw [← h.is.1]; exact hi)] at ht
      exact (h.is.2 i x tt hx ht).same (fun b hb2 hl2 => hkeep b (h.ap x (List.mem_of_getElem? hx) b hb2).1 hl2) (by omega)
    · have hi2 : i = V.length := by
        have := (List.getElem?_eq_some_iff.1 hx).1
        simp at this; omega
      subst hi2
      simp at hx
      rw [h.is.1] at ht
      simp at ht
      subst hx ht
      exact ⟨rfl, rfl, rfl, hsl.same (fun b hb2 hl2 => hkeep b (hap b hb2).1 hl2) (by omega)⟩
  · have hx2 : v.ownBlock ≠ some g ∧ g < wr.heap.size := by
      rcases List.mem_append.1 hx with hx | hx
      · exact h.ap x hx g hg2
      · simp at hx; subst hx; exact hap g hg2
    refine ⟨?_, by omega⟩
    rcases hat with k | k
    · rw [k]; exact hx2.1
    · rw [k, hz]; intro e; cases e; omega
/-- One attribute put behind, its row named by the token's box. -/
theorem as_attr {w5 wr : World} {b : Nat} {t : TkX} {sl : Value} {k : Nat} {T1 T2 : TypeId} (hb : b < w5.heap.size) (hc : Below b w5 wr) (ho : own wr b #[.int .i64 t.k, .string (mk t.n), sl, .string (mk t.t)] T1) (hs : ROwn raTy wr sl (t.as.take k)) (hn : ∀ g, sl.ownBlock = some g → b < g) (x : AtX) (hx : t.as[k]? = some x) (hk : k ≤ 100000) (ty : TypeId) :
    ∃ ao cap w6, (Builtin.append_ #[34, 34] ty #[sl, .slice (some ⟨wr.heap.size, 0, none⟩) 1 1]).run Tryz.prog (wr.alloc (.cells #[.string (mk x.n), .string (mk x.v)] T2)) = .ok (.slice ao (k + 1) cap) w6 ∧ own w6 b #[.int .i64 t.k, .string (mk t.n), sl, .string (mk t.t)] T1 ∧
      Below b w5 (w6.setCell ⟨b, 2, none⟩ (.slice ao (k + 1) cap)) ∧ own (w6.setCell ⟨b, 2, none⟩ (.slice ao (k + 1) cap)) b #[.int .i64 t.k, .string (mk t.n), .slice ao (k + 1) cap, .string (mk t.t)] T1 ∧ ROwn raTy (w6.setCell ⟨b, 2, none⟩ (.slice ao (k + 1) cap)) (.slice ao (k + 1) cap) (t.as.take (k + 1)) ∧ (∀ g, (Value.slice ao (k + 1) cap).ownBlock = some g → b < g) := by
  have hlt := ho.lt
  have hba : Below wr.heap.size wr (wr.alloc (.cells #[.string (mk x.n), .string (mk x.v)] T2)) := (Below.refl _ _).alloc (Nat.le_refl _) _
  have hz : (wr.alloc (.cells #[.string (mk x.n), .string (mk x.v)] T2)).heap.size = wr.heap.size + 1 := by simp
  have hkl : k < t.as.length := (List.getElem?_eq_some_iff.1 hx).1
  have hlen : (t.as.take k).length = k := by rw [List.length_take]; omega
  obtain ⟨ao, cap, w6, hr, hrow, hg, hat⟩ := run_app raTy_ok _ ty sl _ (t.as.take k) [x] (hs.below hba) (rAt_box raTy_ok (own.new wr _ T2) rfl) (by simp; omega)
  rw [hlen] at hr hrow hat
  simp only [List.length_cons, List.length_nil, Nat.zero_add] at hr hrow hat
  have ht : t.as.take (k + 1) = t.as.take k ++ [x] := by rw [List.take_add_one, hx]; rfl
  have hne : sl.ownBlock ≠ some b := fun e => by have := hn b e; omega
  have o6 : own w6 b #[.int .i64 t.k, .string (mk t.n), sl, .string (mk t.t)] T1 := (ho.chg (Chg.of_below (S := fun _ => False) hba) (fun e => e)).chg (Chg.of_grown hg) hne
  have hn2 : ∀ g, (Value.slice ao (k + 1) cap).ownBlock = some g → b < g := fun g e => by
    rcases hat with q | q
    · exact hn g (by rw [← q]; exact e)
    · have q2 := q.symm.trans e; rw [hz] at q2; cases q2; omega
  refine ⟨ao, cap, w6, hr, o6, ?_, ?_, ?_, hn2⟩
  · refine ((hc.trans (hba.mono (by omega))).grown hg (by rw [hz]; omega) (fun g e => Nat.le_of_lt (hn g e))).setCell (p := ⟨b, 2, none⟩) (Nat.le_refl _) _
  · have := o6.set 2 (.slice ao (k + 1) cap); simpa using this
  · rw [ht]
    exact hrow.same (fun g e => by rw [Below.heap_setCell _ _ _ _ (fun q => by have := hn2 g e; simp at q; omega)])
end Go.Proofs.YtjoeamlidmmioaaGreatDoor

