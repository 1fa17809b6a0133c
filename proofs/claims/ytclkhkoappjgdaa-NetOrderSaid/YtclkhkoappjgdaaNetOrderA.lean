/-
  LAYER 6 (net): NetOrder: its rows of texts, and what the net becomes.
-/
import Derived.Test.YtclkhkoappjgdaaNpShown
import Derived.Test.YtclkhkoappjgdaaGStrs
namespace Go.Proofs.Ytclkhkoappjgdaa
open Go.RowKit Go.Maps
set_option linter.unusedVariables false
set_option maxRecDepth 100000

def mk12 (d : ByteArray) : Lt := ⟨1, 2, d⟩
def ordN (L : List ByteArray) : Nt := ⟨L.map mk12, [], 0⟩
def outB (L : List ByteArray) (k : Nat) : List ByteArray := L.take k ++ L.drop (k + 1)
theorem ord_send (L : List ByteArray) (d : ByteArray) (h : L.length < 300) : (ordN L).send (mk12 d) = ordN (L ++ [d]) := by
  unfold Nt.send ordN
  rw [if_neg (by simp; omega)]
  simp
theorem ord_lt (L : List ByteArray) (k : Nat) (hk : k < L.length) : ltAt (ordN L) (k : Int) = some (k, mk12 L[k]) := by
  unfold ltAt ordN
  rw [if_pos (by simp; omega)]
  simp [hk]
theorem ord_late (L : List ByteArray) (k : Nat) (hk : k < L.length) : lateN (ordN L) (k : Int) = (ordN (outB L k ++ [L[k]]), true) := by
  unfold lateN
  rw [ord_lt L k hk]
  simp only
  unfold ordN outL outB
  simp
theorem ord_twice (L : List ByteArray) (k : Nat) (hk : k < L.length) (h : L.length < 300) : twiceN (ordN L) (k : Int) = (ordN (L ++ [L[k]]), true) := by
  unfold twiceN
  rw [ord_lt L k hk]
  simp only
  rw [ord_send L _ h]
theorem ord_take (x : ByteArray) (L : List ByteArray) : takeN (ordN (x :: L)) 0 = (ordN L, mk12 x, true) := by
  unfold takeN
  have := ord_lt (x :: L) 0 (by simp)
  rw [show ((0 : Nat) : Int) = 0 from rfl] at this
  rw [this]
  simp only [List.getElem_cons_zero]
  unfold Nt.apart Nt.out outL ordN
  simp
theorem ord_none : takeN (ordN []) 0 = (ordN [], zl, false) := rfl
theorem outB_len {L : List ByteArray} {k : Nat} (hk : k < L.length) : (outB L k ++ [L[k]]).length = L.length := by
  unfold outB
  simp only [List.length_append, List.length_take, List.length_drop, List.length_singleton]
  omega
def rowX (v : Value) : Nat → Prop := fun b => v.ownBlock = some b
abbrev sbox (d : ByteArray) : Obj := .cells #[.string d] 9
abbrev semp : Obj := .cells #[] 9
/-- A text put behind a row that was made since w; the net lies apart. -/
theorem push_has {w wr : World} {v : Value} {L : List ByteArray} {r : Nat} {s : Nt} (hm : RMid strTy w wr v L) (hh : PHas w wr (rowX v) r s) (d : ByteArray) (hl : L.length ≤ 1000) :
    ∃ ao cap w5, (Builtin.append_ #[53, 53] 53 #[v, .slice (some ⟨wr.heap.size, 0, none⟩) 1 1]).run Try.prog (wr.alloc (sbox d)) = .ok (.slice ao (L.length + 1) cap) w5 ∧ RMid strTy w w5 (.slice ao (L.length + 1) cap) (L ++ [d]) ∧ PHas w w5 (rowX (.slice ao (L.length + 1) cap)) r s := by
  have hb : Below wr.heap.size wr (wr.alloc (sbox d)) := (Below.refl _ _).alloc (Nat.le_refl _) _
  have hm1 := hm.later hb
  have hh1 := hh.later hb
  have zb : (wr.alloc (sbox d)).heap.size = wr.heap.size + 1 := by simp
  have hw := hm1.below.size
  obtain ⟨ao, cap, w5, hr, hrow, hg, hat⟩ := run_app strTy_ok (wr.alloc (sbox d)) 53 v _ L [d] hm1.row (rAt_box strTy_ok (own.new wr #[.string d] 9) rfl) (by simp; omega)
  rw [show L.length + [d].length = L.length + 1 from rfl] at hr hrow hat
  have hnew : ∀ b, (Value.slice ao (L.length + 1) cap).ownBlock = some b → w.heap.size ≤ b := fun b e => by
    rcases hat with k | k
    · exact hm.new b (by rw [← k]; exact e)
    · rw [k] at e; cases e; omega
  refine ⟨ao, cap, w5, hr, ⟨hrow, hnew, hm1.below.grown hg hw hm.new⟩, hh1.turn (Chg.of_grown hg) (hm1.below.grown hg hw hm.new) (fun b e => ⟨?_, hrow.lt b e⟩)⟩
  rcases hat with k | k
  · exact .inl (by show v.ownBlock = some b; rw [← k]; exact e)
  · have e' : (Value.slice ao (L.length + 1) cap).ownBlock = some b := e
    rw [k] at e'; cases e'; exact .inr (Nat.le_refl _)
theorem RAt.stay {α : Type} {R : RowTy α} {w w' : World} {v : Value} {L : List α} (h : RAt R w v L) (hs : ∀ b, v.ownBlock = some b → w'.heap[b]? = w.heap[b]?) : RAt R w' v L := by
  obtain ⟨a, cap, rfl, h1, h2, h3, h4⟩ := h
  refine ⟨a, cap, rfl, h1, h2, h3, fun hne => ?_⟩
  obtain ⟨sb, so, rfl, hlt, hc⟩ := h4 hne
  have e := hs sb rfl
  refine ⟨sb, so, rfl, ?_, fun j u hj => ?_⟩
  · rw [Array.getElem?_eq_getElem hlt] at e
    exact (Array.getElem?_eq_some_iff.1 e).1
  · have := hc j u hj
    unfold World.cell? at *
    rw [e]
    exact this
/-- RMid.app, and where the row lies. -/
theorem RMid.app2 {α : Type} {R : RowTy α} (o : R.Ok) {w wx : World} {v u : Value} {L M : List α} (ty : TypeId) (h : RMid R w wx v L) (hu : RAt R wx u M) (hl : L.length + M.length ≤ 10000000) :
    ∃ ao cap w5, (Builtin.append_ #[R.st, R.st] ty #[v, u]).run Try.prog wx = .ok (.slice ao (L.length + M.length) cap) w5 ∧ RMid R w w5 (.slice ao (L.length + M.length) cap) (L ++ M) ∧ (∀ b, b < wx.heap.size → v.ownBlock ≠ some b → w5.heap[b]? = wx.heap[b]?) ∧
      ((Value.slice ao (L.length + M.length) cap).ownBlock = v.ownBlock ∨ (Value.slice ao (L.length + M.length) cap).ownBlock = some wx.heap.size) := by
  have hw := h.below.size
  obtain ⟨ao, cap, w5, hr, hrow, hg, hat⟩ := run_app o wx ty v u L M h.row hu hl
  refine ⟨ao, cap, w5, hr, ⟨hrow, fun b e => ?_, h.below.grown hg hw h.new⟩, fun b hb hne => (Chg.of_grown hg).block b hb hne, hat⟩
  rcases hat with k | k
  · exact h.new b (by rw [← k]; exact e)
  · rw [k] at e; cases e; omega
/-- The runs of 'append(append(append([]string{}, l[:k]...), l[k+1:]...), l[k])': the box of l[k] may be laid ahead of all (lay 0), behind the first append (1), behind the second one (2). -/
structure OrdRuns (w : World) (ao : Option Addr) (cap : Nat) (xs : List ByteArray) (k : Nat) (W : World) (g0 gB lay : Nat) (a1 : Option Addr) (c1 : Nat) (w1 : World) (a2 : Option Addr) (c2 : Nat) (w2 : World) (a3 : Option Addr) (c3 : Nat) (w3 : World) (x : ByteArray) : Prop where
  e1 : (Builtin.append_ #[53, 53] 53 #[.slice (some ⟨g0, 0, none⟩) 0 0, .slice ao k cap]).run Try.prog W = .ok (.slice a1 k c1) w1
  b1 : Below w.heap.size w w1
  e2 : (Builtin.append_ #[53, 53] 53 #[.slice a1 k c1, strTy.from ao xs.length cap (k + 1)]).run Try.prog (if lay = 1 then w1.alloc (sbox x) else w1) = .ok (.slice a2 (xs.length - 1) c2) w2
  b2 : Below w.heap.size w w2
  e3 : (Builtin.append_ #[53, 53] 53 #[.slice a2 (xs.length - 1) c2, .slice (some ⟨if lay = 0 then gB else if lay = 1 then w1.heap.size else w2.heap.size, 0, none⟩) 1 1]).run Try.prog (if lay = 2 then w2.alloc (sbox x) else w2) = .ok (.slice a3 xs.length c3) w3
  fin : RMid strTy w w3 (.slice a3 xs.length c3) (outB xs k ++ [x])
theorem ord_plan {w : World} {ao : Option Addr} {cap : Nat} {xs : List ByteArray} {k : Nat} (h : RAt strTy w (.slice ao xs.length cap) xs) (hk : k < xs.length) (hl : xs.length ≤ 1000) (x : ByteArray) {W : World} {g0 gB : Nat} (lay : Nat)
    (hm : RMid strTy w W (.slice (some ⟨g0, 0, none⟩) 0 0) []) (hB : lay = 0 → own W gB #[.string x] 9 ∧ gB ≠ g0) (hly : lay ≤ 2) :
    ∃ a1 c1 w1 a2 c2 w2 a3 c3 w3, OrdRuns w ao cap xs k W g0 gB lay a1 c1 w1 a2 c2 w2 a3 c3 w3 x := by
  have ht : (xs.take k).length = k := by rw [List.length_take]; omega
  have hd : (xs.drop (k + 1)).length = xs.length - (k + 1) := List.length_drop
  obtain ⟨a1, c1, w1, e1, m1, k1, t1⟩ := hm.app2 strTy_ok 53 ((h.take strTy_ok (by omega : k ≤ xs.length)).below hm.below) (by simp; omega)
  rw [show ([] : List ByteArray).length + (xs.take k).length = k by rw [ht]; simp] at e1 m1 t1
  rw [List.nil_append] at m1
  obtain ⟨w1', hw1'⟩ : ∃ w1', (if lay = 1 then w1.alloc (sbox x) else w1) = w1' := ⟨_, rfl⟩
  have hb1' : Below w1.heap.size w1 w1' := by
    rw [← hw1']
    split
    · exact (Below.refl _ _).alloc (Nat.le_refl _) _
    · exact Below.refl _ _
  have m1' := m1.later hb1'
  obtain ⟨a2, c2, w2, e2, m2, k2, t2⟩ := m1'.app2 strTy_ok 53 (((h.drop strTy_ok (by omega : k + 1 ≤ xs.length)).1).below m1'.below) (by omega)
  rw [hd] at e2 m2
  rw [ht, show k + (xs.length - (k + 1)) = xs.length - 1 by omega] at e2
  rw [ht, show k + (xs.length - (k + 1)) = xs.length - 1 by omega] at m2
  obtain ⟨w2', hw2'⟩ : ∃ w2', (if lay = 2 then w2.alloc (sbox x) else w2) = w2' := ⟨_, rfl⟩
  have hb2' : Below w2.heap.size w2 w2' := by
    rw [← hw2']
    split
    · exact (Below.refl _ _).alloc (Nat.le_refl _) _
    · exact Below.refl _ _
  have m2' := m2.later hb2'
  obtain ⟨gb, hgb⟩ : ∃ gb, (if lay = 0 then gB else if lay = 1 then w1.heap.size else w2.heap.size) = gb := ⟨_, rfl⟩
  have hbox : own w2' gb #[.string x] 9 := by
    rcases (by omega : lay = 0 ∨ lay = 1 ∨ lay = 2) with h0 | h0 | h0
    · subst h0
      obtain ⟨o, hne⟩ := hB rfl
      simp only [if_true] at hgb
      rw [if_neg (by omega)] at hw1' hw2'
      subst hgb hw1' hw2'
      have hlt := o.lt
      have o1 := o.same (k1 gB hlt (fun e => hne (Option.some.inj e).symm))
      refine o1.same (k2 gB o1.lt (fun e => ?_))
      rcases t1 with k | k
      · rw [k] at e; exact hne (Option.some.inj e).symm
      · rw [k] at e; have := Option.some.inj e; omega
    · subst h0
      rw [if_neg (by omega), if_pos rfl] at hgb
      rw [if_pos rfl] at hw1'
      rw [if_neg (by omega)] at hw2'
      subst hgb hw1' hw2'
      refine (own.new w1 _ 9).same (k2 _ (by simp) (fun e => ?_))
      have := m1.row.lt _ e
      omega
    · subst h0
      rw [if_neg (by omega), if_neg (by omega)] at hgb
      rw [if_pos rfl] at hw2'
      subst hgb hw2'
      exact own.new w2 _ _
  have hl2 : (xs.take k ++ xs.drop (k + 1)).length = xs.length - 1 := by rw [List.length_append, ht, hd]; omega
  obtain ⟨a3, c3, w3, e3, m3, _⟩ := m2'.app2 strTy_ok 53 (rAt_box strTy_ok hbox rfl) (by rw [hl2]; simp; omega)
  rw [hl2, show xs.length - 1 + [x].length = xs.length by simp; omega] at e3 m3
  exact ⟨a1, c1, w1, a2, c2, w2, a3, c3, w3, e1, m1.below, by rw [hw1']; exact e2, m2.below, by rw [hw2', hgb]; exact e3, m3⟩
end Go.Proofs.Ytclkhkoappjgdaa
