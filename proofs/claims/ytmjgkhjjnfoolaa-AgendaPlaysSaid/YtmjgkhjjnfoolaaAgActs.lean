/-
  LAYER 5 (agenda): acts that came in, as their reading gives them.
-/
import Derived.Test.YtmjgkhjjnfoolaaAgRefC
import Derived.Deep.Slices
import Derived.Deep.Fields
import Derived.ChangeSame
import Derived.Lib.SmallJoins
namespace Go.Proofs.Ytmjgkhjjnfoolaa
open Go.ChangeShapes Go.WideShapes Go.ChangeAt Go.RowKit
open Go.WideMaps Go.WideElems Go.Deep Go.Joins
set_option linter.unusedVariables false
set_option maxRecDepth 100000

section
variable {H : Type} {enc : TypeId × Value → H} {P : Program} {w : World} {base : Nat} {spare : Nat → Bool} {held : Bool}
theorem open_slice_fields {t e : TypeId} {fs : Array Field} {fuel : Nat} {cs : List Value} {x : DataW H × List MemPlace} (ht : P.underlying t = some (.slice e)) (he : P.underlying e = some (.struct fs))
    (hone : oneCellFields P fs = true) (hC : P.cellsOf e = fs.size) (h : DataW.trod enc P w base spare held fuel t cs = some x) :
    (cs = [.slice none 0 0] ∧ x = (.nil, [])) ∨
    ∃ (a : Addr) (len cap m : Nat), cs = [.slice (some a) len cap] ∧ len ≤ cap ∧ cap ≤ maxLen ∧ m = (if spare a.block then cap else len) ∧
      ∀ i, i < m → ∃ (ys : List (DataW H × List MemPlace)) (n : Nat), ys.length = fs.size ∧
        ∀ (j : Nat) (f : Field), fs[j]? = some f → ∃ (v : Value) (y : DataW H × List MemPlace), w.cell? (a.add (i * fs.size + j)) = some v ∧ DataW.trod enc P w base spare held n f.type [v] = some y := by
  rcases open_slice ht h with h0 | ⟨a, len, cap, m, n, D, Pl, hcs, hb, hl, hm, hmm, hx, hi⟩
  · exact .inl h0
  · refine .inr ⟨a, len, cap, m, hcs, hl, hm, hmm, fun i him => ?_⟩
    obtain ⟨cs', hc, ht'⟩ := hi i him
    rw [hC] at hc
    obtain ⟨ys, n', hn', hy, hlen, hyl, hf⟩ := DataW.trod_struct he ht'
    obtain ⟨_, hcl, hat⟩ := World.cells?_some hc
    refine ⟨ys, n', hyl, fun j f hj => ?_⟩
    obtain ⟨ho, hk⟩ := hone_of hone j f hj
    have hjl : j < fs.size := (Array.getElem?_eq_some_iff.1 hj).1
    have hcell := hat j hjl
    have hv : cs'[j]? = some (cs'[j]'(by omega)) := List.getElem?_eq_getElem (by omega)
    have h1 := hf j f hj
    rw [ho, hk] at h1
    have hone' : (cs'.drop j).take 1 = [cs'[j]'(by omega)] := by
      rw [List.drop_eq_getElem_cons (by omega)]
      rfl
    rw [hone'] at h1
    have hys : ys[j]? = some (ys[j]'(by omega)) := List.getElem?_eq_getElem (by omega)
    refine ⟨_, _, ?_, h1.trans hys⟩
    rw [← Go.Deep.add_add, hcell, hv]
end

theorem trod_int64 {H : Type} {enc : TypeId × Value → H} {W : World} {n : Nat} {v : Value} {y : DataW H × List MemPlace} (h : DataW.trod enc Try.prog W 0 (fun _ => true) true n 3 [v] = some y) :
    ∃ k : Int, v = .int .i64 k ∧ -9223372036854775808 ≤ k ∧ k ≤ 9223372036854775807 := by
  obtain ⟨k, hcs, hx, hw⟩ := DataW.trod_int Try.underlying3 h
  simp at hcs
  refine ⟨k, hcs, ?_⟩
  simpa [Lit.wf, IntKind.min, IntKind.max, IntKind.signed, IntKind.bits] using hw

/-- A list of what is there for each number. -/
theorem list_of {α : Type} {n : Nat} {Q : Nat → α → Prop} (h : ∀ i, i < n → ∃ x, Q i x) : ∃ l : List α, l.length = n ∧ ∀ i x, l[i]? = some x → Q i x := by
  have : ∀ k, k ≤ n → ∃ l : List α, l.length = k ∧ ∀ i x, l[i]? = some x → Q i x := by
    intro k
    induction k with
    | zero => intro _; exact ⟨[], rfl, by simp⟩
    | succ k ih =>
      intro hk
      obtain ⟨l, hl', hA⟩ := ih (by omega)
      obtain ⟨ac, hac⟩ := h k (by omega)
      refine ⟨l ++ [ac], by simp [hl'], fun i x hx => ?_⟩
      by_cases hi : i < l.length
      · rw [List.getElem?_append_left hi] at hx; exact hA i x hx
      · rw [List.getElem?_append_right (by omega)] at hx
        have : i = k := by
          rcases Nat.eq_or_lt_of_le (Nat.le_of_not_lt hi) with h | h
          · omega
          · rw [List.getElem?_eq_none (by simp; omega)] at hx; cases hx
        subst this
        rw [hl', Nat.sub_self] at hx
        simp at hx
        subst hx
        exact hac
  exact this n (Nat.le_refl _)
/-- An act: its op, its time, its number. -/
structure A5 where
  op : Int
  at_ : Int
  id : Int
def A5In (a : A5) : Prop := I64 a.op ∧ I64 a.at_ ∧ I64 a.id
def A5sAt (w : World) (B : Nat) (v : Value) (l : List A5) : Prop :=
  ∃ a cap, v = .slice a l.length cap ∧ (l ≠ [] → ∃ sb so, a = some ⟨sb, so, none⟩ ∧ sb < B ∧ ∀ (i : Nat) x, l[i]? = some x → w.cell? ⟨sb, so + i * 3, none⟩ = some (.int .i64 x.op) ∧ w.cell? ⟨sb, so + i * 3 + 1, none⟩ = some (.int .i64 x.at_) ∧ w.cell? ⟨sb, so + i * 3 + 2, none⟩ = some (.int .i64 x.id))
theorem A5sAt.below {w w' : World} {B : Nat} {v : Value} {l : List A5} (h : A5sAt w B v l) (hb : Below B w w') : A5sAt w' B v l := by
  obtain ⟨a, cap, rfl, hc⟩ := h
  refine ⟨a, cap, rfl, fun hne => ?_⟩
  obtain ⟨sb, so, rfl, hlt, hx⟩ := hc hne
  refine ⟨sb, so, rfl, hlt, fun i x hi => ?_⟩
  obtain ⟨c0, c1, c2⟩ := hx i x hi
  exact ⟨(hb.cell (p := ⟨sb, so + i * 3, none⟩) hlt).trans c0, (hb.cell (p := ⟨sb, so + i * 3 + 1, none⟩) hlt).trans c1, (hb.cell (p := ⟨sb, so + i * 3 + 2, none⟩) hlt).trans c2⟩
theorem a5s_arg {H : Type} {enc : TypeId × Value → H} {W : World} {base : Nat} {v : Value} {d : DataW H} {p : List MemPlace} (ho : Value.okWide Try.prog W .any base 22 v)
    (h : DataW.Trod enc Try.prog W 0 (fun _ => true) true 22 v d p) :
    ∃ l : List A5, A5sAt W W.heap.size v l ∧ (∀ a ∈ l, A5In a) ∧ l.length ≤ maxLen := by
  obtain ⟨a0, len, cap, rfl⟩ := okWide_slice Try.underlying22 ho
  obtain ⟨fuel, hf⟩ := h
  rcases open_slice_fields Try.underlying22 Try.underlying29 (by kernel_rfl) (by kernel_rfl) hf with ⟨hcs, hx⟩ | ⟨a, len', cap', m, hcs, hl, hm, hmm, hel⟩
  · simp [Value.cells] at hcs
    obtain ⟨rfl, rfl, rfl⟩ := hcs
    exact ⟨[], ⟨none, 0, rfl, fun h => absurd rfl h⟩, by simp, by simp⟩
  · simp [Value.cells] at hcs
    obtain ⟨rfl, rfl, rfl⟩ := hcs
    simp only [if_true] at hmm
    subst hmm
    obtain ⟨l, hll, hA⟩ := list_of (n := len) (Q := fun i (x : A5) => A5In x ∧ W.cell? (a.add (i * 3 + 0)) = some (.int .i64 x.op) ∧ W.cell? (a.add (i * 3 + 1)) = some (.int .i64 x.at_) ∧ W.cell? (a.add (i * 3 + 2)) = some (.int .i64 x.id)) (fun i hi => by
      obtain ⟨ys, n, _, hfs⟩ := hel i (by omega)
      obtain ⟨v0, y0, e0, t0⟩ := hfs 0 _ rfl
      obtain ⟨v1, y1, e1, t1⟩ := hfs 1 _ rfl
      obtain ⟨v2, y2, e2, t2⟩ := hfs 2 _ rfl
      obtain ⟨k0, rfl, b0⟩ := trod_int64 t0
      obtain ⟨k1, rfl, b1⟩ := trod_int64 t1
      obtain ⟨k2, rfl, b2⟩ := trod_int64 t2
      exact ⟨⟨k0, k1, k2⟩, ⟨b0, b1, b2⟩, e0, e1, e2⟩)
    refine ⟨l, ⟨some a, m, by rw [hll], fun hne => ?_⟩, fun ac hac => ?_, by omega⟩
    · have hpos : 0 < l.length := List.length_pos_iff.2 hne
      obtain ⟨_, c0, _⟩ := hA 0 l[0] (by simp [hpos])
      obtain ⟨b, off, spot⟩ := a
      have hspot : spot = none := by simpa [Addr.add] using World.cell?_spot c0
      subst hspot
      have hadd : ∀ k, (⟨b, off, none⟩ : Addr).add k = ⟨b, off + k, none⟩ := fun k => Go.WideShapes.add_plain ..
      refine ⟨b, off, rfl, World.block_lt_of_cell? W _ c0, fun i ac hi => ?_⟩
      obtain ⟨_, c0, c1, c2⟩ := hA i ac hi
      rw [hadd] at c0 c1 c2
      exact ⟨c0, by rw [Nat.add_assoc]; exact c1, by rw [Nat.add_assoc]; exact c2⟩
    · obtain ⟨i, hi, rfl⟩ := List.getElem_of_mem hac
      exact (hA i l[i] (by simp [hi])).1
end Go.Proofs.Ytmjgkhjjnfoolaa
