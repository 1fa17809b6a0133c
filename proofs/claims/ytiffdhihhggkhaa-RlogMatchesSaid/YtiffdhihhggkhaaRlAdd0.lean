/-
  LAYER 8 (rlog), for RlogAdds: a log, a row that grows beside it, a base in its box.
-/
import Derived.Test.YtiffdhihhggkhaaMq5
namespace Go.Proofs.Ytiffdhihhggkhaa
open Go.RowKit
set_option linter.unusedVariables false
set_option maxRecDepth 100000

structure AdSt (R : RlRep) (w wr : World) (F : Nat → Prop) (r : Nat) (s : Rl) (v : Value) (L : List Me) (xa ga : Nat) (b : Int) : Prop where
  lg : Lg R w wr F r s
  bx : BxAt wr xa ga b 1
  nx : ¬ F xa ∧ ¬ F ga
  row : ROwn enTy wr v L
  out : ∀ k, v.ownBlock = some k → ¬ F k ∧ k ≠ xa ∧ k ≠ ga ∧ w.heap.size ≤ k
section
variable {R : RlRep} {w wr w' : World} {F F' : Nat → Prop} {r : Nat} {s s' : Rl} {v : Value} {L : List Me} {xa ga : Nat} {b : Int}
theorem AdSt.later (h : AdSt R w wr F r s v L xa ga b) (hb : Below wr.heap.size wr w') : AdSt R w w' F r s v L xa ga b := ⟨h.lg.later hb, h.bx.below hb, h.nx, h.row.below hb, h.out⟩
theorem AdSt.turn (h : AdSt R w wr F r s v L xa ga b) (hL : Lg R w w' F' r s') (hc : Chg F wr w') (hF : ∀ b, F' b → F b ∨ wr.heap.size ≤ b) : AdSt R w w' F' r s' v L xa ga b := by
  have h1 : ∀ k, ¬ F k → k < wr.heap.size → ¬ F' k := fun k h1 h2 h3 => by
    rcases hF k h3 with h4 | h4
    · exact h1 h4
    · omega
  exact ⟨hL, h.bx.turn hc h.nx.1 h.nx.2, ⟨h1 _ h.nx.1 h.bx.box.lt, h1 _ h.nx.2 h.bx.glt⟩, h.row.same (fun k e => hc.block k (h.row.lt k e) (h.out k e).1), fun k e => ⟨h1 _ (h.out k e).1 (h.row.lt k e), (h.out k e).2⟩⟩
/-- Another box beside it all. -/
structure Beside (wr : World) (F : Nat → Prop) (v : Value) (eb : Nat) (cs : Array Value) : Prop where
  box : own wr eb cs 49
  nf : ¬ F eb
  nv : v.ownBlock ≠ some eb
theorem AdSt.push (h : AdSt R w wr F r s v L xa ga b) (x : Me) (cs : Array Value) (hcs : cs.toList = enTy.cs x) (hl : L.length ≤ 1000) {eb : Nat} {es : Array Value} (hB : Beside wr F v eb es) :
    ∃ ao cap w5, (Builtin.append_ #[26, 26] 26 #[v, .slice (some ⟨wr.heap.size, 0, none⟩) 1 1]).run Try.prog (wr.alloc (.cells cs 49)) = .ok (.slice ao (L.length + 1) cap) w5 ∧ AdSt R w w5 F r s (.slice ao (L.length + 1) cap) (L ++ [x]) xa ga b ∧ Beside w5 F (.slice ao (L.length + 1) cap) eb es := by
  have hb : Below wr.heap.size wr (wr.alloc (.cells cs 49)) := (Below.refl _ _).alloc (Nat.le_refl _) _
  have h1 := h.later hb
  obtain ⟨ao, cap, w5, hr, hrow, hg, hat⟩ := run_app enTy_ok (wr.alloc (.cells cs 49)) 26 v (.slice (some ⟨wr.heap.size, 0, none⟩) 1 1) L [x] h1.row (rAt_box enTy_ok (own.new wr cs _) hcs) (by simp; omega)
  have hc := Chg.of_grown hg
  have hz : (wr.alloc (.cells cs 49)).heap.size = wr.heap.size + 1 := by simp
  have hnew : ∀ k, (Value.slice ao (L.length + 1) cap).ownBlock = some k → v.ownBlock = some k ∨ k = wr.heap.size + 1 := fun k e => by
    rcases hat with h2 | h2
    · exact .inl (by rw [← h2]; exact e)
    · right
      have e2 : some k = some (wr.alloc (.cells cs 49)).heap.size := e.symm.trans h2
      rw [hz] at e2
      exact Option.some.inj e2
  have hxl := h.bx.box.lt
  have hgl := h.bx.glt
  have hFl := fun k (e : F k) => R.lt h.lg.is k e
  refine ⟨ao, cap, w5, hr, ⟨h1.lg.beside hc (fun k e => (h.out k e).2.2.2) (fun k e e2 => (h.out k e2).1 e), h1.bx.turn hc (fun e => (h.out _ e).2.1 rfl) (fun e => (h.out _ e).2.2.1 rfl), h.nx, hrow, fun k e => ?_⟩, ⟨(hB.box.same (hb.block _ hB.box.lt)).same (hc.block _ (by have := hB.box.lt; omega) hB.nv), hB.nf, fun e => ?_⟩⟩
  · rcases hnew k e with h2 | h2
    · exact h.out k h2
    · subst h2
      exact ⟨fun e2 => by have := hFl _ e2; omega, by omega, by omega, by have := h.lg.below.size; omega⟩
  · rcases hnew _ e with h2 | h2
    · exact hB.nv h2
    · have := hB.box.lt; omega
end
theorem smallP_take {l : List Pa} (h : smallP l = true) (k : Nat) : smallP (l.take k) = true := by
  unfold smallP at h ⊢
  simp only [Bool.and_eq_true, decide_eq_true_eq, List.all_eq_true] at h ⊢
  exact ⟨by rw [List.length_take]; omega, fun p hp => h.2 p (List.mem_of_mem_take hp)⟩
theorem add_next (b : Int) {l : List Pa} {k : Nat} {p : Pa} (hk : l[k]? = some p) :
    addE (logOf b 1 (l.take k)) (entE p (pickZ b 30 + 1 + k)).term (entE p (pickZ b 30 + 1 + k)).kind (entE p (pickZ b 30 + 1 + k)).dt = entE p (pickZ b 30 + 1 + k) ∧
    addL (logOf b 1 (l.take k)) (entE p (pickZ b 30 + 1 + k)).term (entE p (pickZ b 30 + 1 + k)).kind (entE p (pickZ b 30 + 1 + k)).dt = logOf b 1 (l.take (k + 1)) := by
  have hkl : k < l.length := (List.getElem?_eq_some_iff.1 hk).1
  have e1 : addE (logOf b 1 (l.take k)) (entE p (pickZ b 30 + 1 + k)).term (entE p (pickZ b 30 + 1 + k)).kind (entE p (pickZ b 30 + 1 + k)).dt = entE p (pickZ b 30 + 1 + k) := by
    unfold addE
    rw [logOf_last, List.length_take, Nat.min_eq_left (by omega), show pickZ b 30 + (k : Int) + 1 = pickZ b 30 + 1 + k by omega]
    rfl
  refine ⟨e1, ?_⟩
  unfold addL
  rw [e1]
  unfold logOf
  rw [List.take_add_one, hk, Option.toList, entsE_snoc, List.length_take, Nat.min_eq_left (by omega)]
end Go.Proofs.Ytiffdhihhggkhaa
