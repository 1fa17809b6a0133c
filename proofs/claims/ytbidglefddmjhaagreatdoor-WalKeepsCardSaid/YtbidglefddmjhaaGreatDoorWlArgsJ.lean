import Derived.Test.YtbidglefddmjhaaGreatDoorWlSmallJ
import Derived.Deep.Slices
import Derived.Deep.Fields
import Derived.ChangeSame
import Derived.Lib.SmallJoins
/-
  LAYER 3 (wal): the arguments of the laws: acts that came in, as their reading gives them.
-/
namespace Go.Proofs.YtbidglefddmjhaaGreatDoor
open Go.ChangeShapes Go.WideShapes Go.ChangeAt Go.RowKit
open Go.WideMaps Go.WideElems Go.Deep Go.Joins
set_option linter.unusedVariables false
set_option maxRecDepth 100000

theorem ints_trod3 {H : Type} {enc : TypeId × Value → H} {W : World} {fuel : Nat} {v : Value} {x : DataW H × List MemPlace}
    (hf : DataW.trod enc Tryz.prog W 0 (fun _ => true) true fuel 32 [v] = some x) :
    ∃ xs : List Int, IntsAt W W.heap.size v xs ∧ (∀ n ∈ xs, -9223372036854775808 ≤ n ∧ n ≤ 9223372036854775807) ∧ xs.length ≤ maxLen := by
  rcases open_ints Tryz.underlying32 Tryz.underlying3 cellsInt hf with ⟨hcs, hx⟩ | ⟨a, len, cap, zs, hcs, _, hl, hm, hz, hx, hcell, hwz⟩
  · simp at hcs
    subst hcs
    exact ⟨[], ⟨none, 0, rfl, fun h => absurd rfl h⟩, by simp, by simp⟩
  · simp at hcs
    subst hcs
    simp only [if_true] at hz
    have hlen : (zs.take len).length = len := by rw [List.length_take]; omega
    refine ⟨zs.take len, ⟨some a, cap, by rw [hlen], fun h0 => ?_⟩, ?_, by omega⟩
    · have hpos : 0 < zs.length := by
        rcases Nat.eq_zero_or_pos zs.length with h | h
        · exact absurd (by rw [List.length_eq_zero_iff.1 h]; simp) h0
        · exact h
      obtain ⟨b, off, rfl, hc⟩ := ints_at hcell hpos
      refine ⟨b, off, rfl, World.block_lt_of_cell? W _ (hc 0 hpos), fun j x hj => ?_⟩
      have hjl : j < len := by
        rcases Nat.lt_or_ge j len with h | h
        · exact h
        · rw [List.getElem?_eq_none (by rw [hlen]; exact h)] at hj; cases hj
      rw [hc j (by omega)]
      rw [List.getElem?_take_of_lt hjl] at hj
      simp [List.getD, hj]
    · intro n hn
      have := hwz n (List.mem_of_mem_take hn)
      simpa [Lit.wf, IntKind.min, IntKind.max, IntKind.signed, IntKind.bits] using this

section
variable {H : Type} {enc : TypeId × Value → H} {P : Program} {w : World} {base : Nat} {spare : Nat → Bool} {held : Bool}
theorem open_slice_fields3 {t e : TypeId} {fs : Array Field} {fuel : Nat} {cs : List Value} {x : DataW H × List MemPlace} (ht : P.underlying t = some (.slice e)) (he : P.underlying e = some (.struct fs))
    (hone : oneCellFields P fs = true) (hC : P.cellsOf e = fs.size) (h : DataW.trod enc P w base spare held fuel t cs = some x) :
    (cs = [.slice none 0 0] ∧ x = (.nil, [])) ∨
    ∃ (a : Addr) (len cap m : Nat), cs = [.slice (some a) len cap] ∧ len ≤ cap ∧ cap ≤ maxLen ∧ m = (if spare a.block then cap else len) ∧
      ∀ i, i < m → ∃ (ys : List (DataW H × List MemPlace)) (n : Nat), ys.length = fs.size ∧
        ∀ (j : Nat) (f : Field), fs[j]? = some f → ∃ (v : Value) (y : DataW H × List MemPlace), w.cell? (a.add (i * fs.size + j)) = some v ∧ DataW.trod enc P w base spare held n f.type [v] = some y := by
  rcases open_slice ht h with h0 | ⟨a, len, cap, m, n, D, Pl, hcs, hb, hl, hm, hmm, hx, hi⟩
  · exact .inl h0
  · refine .inr ⟨a, len, cap, m, hcs, hl, hm, hmm, fun i him => ?_⟩
    obtain ⟨cs', hc, ht'⟩ := hi i him
    rw [hC] at hc
    obtain ⟨ys, n', hn', hy, hlen, hyl, hf⟩ := DataW.trod_struct he ht'
    obtain ⟨_, hcl, hat⟩ := World.cells?_some hc
    refine ⟨ys, n', hyl, fun j f hj => ?_⟩
    obtain ⟨ho, hk⟩ := hone_of hone j f hj
    have hjl : j < fs.size := (Array.getElem?_eq_some_iff.1 hj).1
    have hcell := hat j hjl
    have hv : cs'[j]? = some (cs'[j]'(by omega)) := List.getElem?_eq_getElem (by omega)
    have h1 := hf j f hj
    rw [ho, hk] at h1
    have hone' : (cs'.drop j).take 1 = [cs'[j]'(by omega)] := by
      rw [List.drop_eq_getElem_cons (by omega)]
      rfl
    rw [hone'] at h1
    have hys : ys[j]? = some (ys[j]'(by omega)) := List.getElem?_eq_getElem (by omega)
    refine ⟨_, _, ?_, h1.trans hys⟩
    rw [← Go.Deep.add_add, hcell, hv]
end

theorem trod_int643 {H : Type} {enc : TypeId × Value → H} {W : World} {n : Nat} {v : Value} {y : DataW H × List MemPlace} (h : DataW.trod enc Tryz.prog W 0 (fun _ => true) true n 3 [v] = some y) :
    ∃ k : Int, v = .int .i64 k ∧ -9223372036854775808 ≤ k ∧ k ≤ 9223372036854775807 := by
  obtain ⟨k, hcs, hx, hw⟩ := DataW.trod_int Tryz.underlying3 h
  simp at hcs
  refine ⟨k, hcs, ?_⟩
  simpa [Lit.wf, IntKind.min, IntKind.max, IntKind.signed, IntKind.bits] using hw
theorem trod_str3 {H : Type} {enc : TypeId × Value → H} {W : World} {n : Nat} {v : Value} {y : DataW H × List MemPlace} (h : DataW.trod enc Tryz.prog W 0 (fun _ => true) true n 9 [v] = some y) :
    ∃ s : ByteArray, v = .string s ∧ s.size ≤ maxLen := by
  obtain ⟨s, hcs, hx, hw⟩ := DataW.trod_string Tryz.underlying9 h
  simp at hcs
  exact ⟨s, hcs, hw⟩

theorem was_arg {H : Type} {enc : TypeId × Value → H} {W : World} {base : Nat} {v : Value} {d : DataW H} {p : List MemPlace} (ho : Value.okWide Tryz.prog W .any base 22 v)
    (h : DataW.Trod enc Tryz.prog W 0 (fun _ => true) true 22 v d p) :
    ∃ l : List Wa, WasAt W W.heap.size v l ∧ (∀ a ∈ l, WaIn a) ∧ l.length ≤ maxLen := by
  obtain ⟨a0, len, cap, rfl⟩ := okWide_slice Tryz.underlying22 ho
  obtain ⟨fuel, hf⟩ := h
  rcases open_slice_fields3 Tryz.underlying22 Tryz.underlying34 (by kernel_rfl) (by kernel_rfl) hf with ⟨hcs, hx⟩ | ⟨a, len', cap', m, hcs, hl, hm, hmm, hel⟩
  · simp [Value.cells] at hcs
    obtain ⟨rfl, rfl, rfl⟩ := hcs
    exact ⟨[], ⟨none, 0, rfl, fun h => absurd rfl h⟩, by simp, by simp⟩
  · simp [Value.cells] at hcs
    obtain ⟨rfl, rfl, rfl⟩ := hcs
    simp only [if_true] at hmm
    subst hmm
    rcases Nat.eq_zero_or_pos len with rfl | hpos0
    · exact ⟨[], ⟨_, _, rfl, fun h => absurd rfl h⟩, by simp, by simp⟩
    -- the address is plain
    have hplain : ∃ b o, a = ⟨b, o, none⟩ ∧ b < W.heap.size := by
      obtain ⟨ys, n, _, hfs⟩ := hel 0 (by omega)
      obtain ⟨v0, y0, e0, t0⟩ := hfs 0 _ rfl
      obtain ⟨b, o, spot⟩ := a
      have hspot : spot = none := by simpa [Addr.add] using World.cell?_spot e0
      subst hspot
      exact ⟨b, o, rfl, World.block_lt_of_cell? W _ e0⟩
    obtain ⟨b, o, rfl, hblt⟩ := hplain
    have hadd : ∀ k, (⟨b, o, none⟩ : Addr).add k = ⟨b, o + k, none⟩ := fun k => Go.WideShapes.add_plain ..
    have hone : ∀ i, i < len → ∃ ac : Wa, WaIn ac ∧ ∃ kv nv, WaAt W W.heap.size b (o + i * 8) ac kv nv := by
      intro i hi
      obtain ⟨ys, n, _, hfs⟩ := hel i (by omega)
      obtain ⟨v0, y0, e0, t0⟩ := hfs 0 _ rfl
      obtain ⟨v1, y1, e1, t1⟩ := hfs 1 _ rfl
      obtain ⟨v2, y2, e2, t2⟩ := hfs 2 _ rfl
      obtain ⟨v3, y3, e3, t3⟩ := hfs 3 _ rfl
      obtain ⟨v4, y4, e4, t4⟩ := hfs 4 _ rfl
      obtain ⟨v5, y5, e5, t5⟩ := hfs 5 _ rfl
      obtain ⟨v6, y6, e6, t6⟩ := hfs 6 _ rfl
      obtain ⟨v7, y7, e7, t7⟩ := hfs 7 _ rfl
      obtain ⟨k0, rfl, b0⟩ := trod_int643 t0
      obtain ⟨k1, rfl, b1⟩ := trod_int643 t1
      obtain ⟨k2, rfl, b2⟩ := trod_int643 t2
      obtain ⟨k3, rfl, b3⟩ := trod_int643 t3
      obtain ⟨k4, rfl, b4⟩ := trod_int643 t4
      obtain ⟨s5, rfl, b5⟩ := trod_str3 t5
      obtain ⟨x6, i6, r6, l6⟩ := ints_trod3 t6
      obtain ⟨x7, i7, r7, l7⟩ := ints_trod3 t7
      rw [hadd, ← Nat.add_assoc] at e0 e1 e2 e3 e4 e5 e6 e7
      exact ⟨⟨k0, k1, k2, k3, k4, s5, x6, x7⟩, ⟨b0, b1, b2, b3, b4, b5, r6, r7, l6, l7⟩, v6, v7, ⟨e0, e1, e2, e3, e4, e5, e6, e7, i6, i7⟩⟩
    have hex : ∃ l : List Wa, l.length = len ∧ ∀ i ac, l[i]? = some ac → WaIn ac ∧ ∃ kv nv, WaAt W W.heap.size b (o + i * 8) ac kv nv := by
      have : ∀ k, k ≤ len → ∃ l : List Wa, l.length = k ∧ ∀ i ac, l[i]? = some ac → WaIn ac ∧ ∃ kv nv, WaAt W W.heap.size b (o + i * 8) ac kv nv := by
        intro k
        induction k with
        | zero => intro _; exact ⟨[], rfl, by simp⟩
        | succ k ih =>
          intro hk
          obtain ⟨l, hl', hA⟩ := ih (by omega)
          obtain ⟨ac, hac⟩ := hone k (by omega)
          refine ⟨l ++ [ac], by simp [hl'], fun i x hx => ?_⟩
          by_cases hi : i < l.length
          · rw [List.getElem?_append_left hi] at hx; exact hA i x hx
          · rw [List.getElem?_append_right (by omega)] at hx
            have : i = k := by
              rcases Nat.eq_or_lt_of_le (Nat.le_of_not_lt hi) with h | h
              · omega
              · rw [List.getElem?_eq_none (by simp; omega)] at hx; cases hx
            subst this
            rw [hl', Nat.sub_self] at hx
            simp at hx
            subst hx
            exact hac
      exact this len (Nat.le_refl _)
    obtain ⟨l, hll, hA⟩ := hex
    refine ⟨l, ⟨some ⟨b, o, none⟩, _, by rw [hll], fun hne => ⟨b, o, rfl, hblt, fun i ac hi => (hA i ac hi).2⟩⟩, fun ac hac => ?_, by omega⟩
    obtain ⟨i, hi, rfl⟩ := List.getElem_of_mem hac
    exact (hA i l[i] (by simp [hi])).1
end Go.Proofs.YtbidglefddmjhaaGreatDoor

