/-
  LAYER 2 (disk): the arguments of the laws: acts that came in, as their reading gives them.
-/
import Derived.Test.YtcinegkikahchaaSl
import Derived.Test.YtcinegkikahchaaDkL
import Derived.Deep.Slices
import Derived.Deep.Fields
import Derived.ChangeSame
import Derived.Lib.SmallJoins
namespace Go.Proofs.Ytcinegkikahchaa
open Go.ChangeShapes Go.WideShapes Go.ChangeAt Go.RowKit
open Go.WideMaps Go.WideElems Go.Deep Go.Joins
set_option linter.unusedVariables false
set_option maxRecDepth 100000

theorem ints_trod {H : Type} {enc : TypeId × Value → H} {W : World} {fuel : Nat} {v : Value} {x : DataW H × List MemPlace}
    (hf : DataW.trod enc Try.prog W 0 (fun _ => true) true fuel 36 [v] = some x) :
    ∃ xs : List Int, IntsAt W W.heap.size v xs ∧ (∀ n ∈ xs, -9223372036854775808 ≤ n ∧ n ≤ 9223372036854775807) ∧ xs.length ≤ maxLen := by
  rcases open_ints Try.underlying36 Try.underlying3 cellsInt hf with ⟨hcs, hx⟩ | ⟨a, len, cap, zs, hcs, _, hl, hm, hz, hx, hcell, hwz⟩
  · simp at hcs
    subst hcs
    exact ⟨[], ⟨none, 0, rfl, fun h => absurd rfl h⟩, by simp, by simp⟩
  · simp at hcs
    subst hcs
    simp only [if_true] at hz
    have hlen : (zs.take len).length = len := by rw [List.length_take]; omega
    refine ⟨zs.take len, ⟨some a, cap, by rw [hlen], fun h0 => ?_⟩, ?_, by omega⟩
    · have hpos : 0 < zs.length := by
        rcases Nat.eq_zero_or_pos zs.length with h | h
        · exact absurd (by rw [List.length_eq_zero_iff.1 h]; simp) h0
        · exact h
      obtain ⟨b, off, rfl, hc⟩ := ints_at hcell hpos
      refine ⟨b, off, rfl, World.block_lt_of_cell? W _ (hc 0 hpos), fun j x hj => ?_⟩
      have hjl : j < len := by
        rcases Nat.lt_or_ge j len with h | h
        · exact h
        · rw [List.getElem?_eq_none (by rw [hlen]; exact h)] at hj; cases hj
      rw [hc j (by omega)]
      rw [List.getElem?_take_of_lt hjl] at hj
      simp [List.getD, hj]
    · intro n hn
      have := hwz n (List.mem_of_mem_take hn)
      simpa [Lit.wf, IntKind.min, IntKind.max, IntKind.signed, IntKind.bits] using this

section
variable {H : Type} {enc : TypeId × Value → H} {P : Program} {w : World} {base : Nat} {spare : Nat → Bool} {held : Bool}
theorem open_slice_fields {t e : TypeId} {fs : Array Field} {fuel : Nat} {cs : List Value} {x : DataW H × List MemPlace} (ht : P.underlying t = some (.slice e)) (he : P.underlying e = some (.struct fs))
    (hone : oneCellFields P fs = true) (hC : P.cellsOf e = fs.size) (h : DataW.trod enc P w base spare held fuel t cs = some x) :
    (cs = [.slice none 0 0] ∧ x = (.nil, [])) ∨
    ∃ (a : Addr) (len cap m : Nat), cs = [.slice (some a) len cap] ∧ len ≤ cap ∧ cap ≤ maxLen ∧ m = (if spare a.block then cap else len) ∧
      ∀ i, i < m → ∃ (ys : List (DataW H × List MemPlace)) (n : Nat), ys.length = fs.size ∧
        ∀ (j : Nat) (f : Field), fs[j]? = some f → ∃ (v : Value) (y : DataW H × List MemPlace), w.cell? (a.add (i * fs.size + j)) = some v ∧ DataW.trod enc P w base spare held n f.type [v] = some y := by
  rcases open_slice ht h with h0 | ⟨a, len, cap, m, n, D, Pl, hcs, hb, hl, hm, hmm, hx, hi⟩
  · exact .inl h0
  · refine .inr ⟨a, len, cap, m, hcs, hl, hm, hmm, fun i him => ?_⟩
    obtain ⟨cs', hc, ht'⟩ := hi i him
    rw [hC] at hc
    obtain ⟨ys, n', hn', hy, hlen, hyl, hf⟩ := DataW.trod_struct he ht'
    obtain ⟨_, hcl, hat⟩ := World.cells?_some hc
    refine ⟨ys, n', hyl, fun j f hj => ?_⟩
    obtain ⟨ho, hk⟩ := hone_of hone j f hj
    have hjl : j < fs.size := (Array.getElem?_eq_some_iff.1 hj).1
    have hcell := hat j hjl
    have hv : cs'[j]? = some (cs'[j]'(by omega)) := List.getElem?_eq_getElem (by omega)
    have h1 := hf j f hj
    rw [ho, hk] at h1
    have hone' : (cs'.drop j).take 1 = [cs'[j]'(by omega)] := by
      rw [List.drop_eq_getElem_cons (by omega)]
      rfl
    rw [hone'] at h1
    have hys : ys[j]? = some (ys[j]'(by omega)) := List.getElem?_eq_getElem (by omega)
    refine ⟨_, _, ?_, h1.trans hys⟩
    rw [← Go.Deep.add_add, hcell, hv]
end

theorem trod_int64 {H : Type} {enc : TypeId × Value → H} {W : World} {n : Nat} {v : Value} {y : DataW H × List MemPlace} (h : DataW.trod enc Try.prog W 0 (fun _ => true) true n 3 [v] = some y) :
    ∃ k : Int, v = .int .i64 k ∧ -9223372036854775808 ≤ k ∧ k ≤ 9223372036854775807 := by
  obtain ⟨k, hcs, hx, hw⟩ := DataW.trod_int Try.underlying3 h
  simp at hcs
  refine ⟨k, hcs, ?_⟩
  simpa [Lit.wf, IntKind.min, IntKind.max, IntKind.signed, IntKind.bits] using hw
theorem trod_str {H : Type} {enc : TypeId × Value → H} {W : World} {n : Nat} {v : Value} {y : DataW H × List MemPlace} (h : DataW.trod enc Try.prog W 0 (fun _ => true) true n 9 [v] = some y) :
    ∃ s : ByteArray, v = .string s ∧ s.size ≤ maxLen := by
  obtain ⟨s, hcs, hx, hw⟩ := DataW.trod_string Try.underlying9 h
  simp at hcs
  exact ⟨s, hcs, hw⟩

theorem acts_arg {H : Type} {enc : TypeId × Value → H} {W : World} {base : Nat} {v : Value} {d : DataW H} {p : List MemPlace} (ho : Value.okWide Try.prog W .any base 22 v)
    (h : DataW.Trod enc Try.prog W 0 (fun _ => true) true 22 v d p) :
    ∃ l : List Ac, ActsAt W W.heap.size v l ∧ (∀ a ∈ l, AcIn a) ∧ l.length ≤ maxLen := by
  obtain ⟨a0, len, cap, rfl⟩ := okWide_slice Try.underlying22 ho
  obtain ⟨fuel, hf⟩ := h
  rcases open_slice_fields Try.underlying22 Try.underlying38 (by kernel_rfl) (by kernel_rfl) hf with ⟨hcs, hx⟩ | ⟨a, len', cap', m, hcs, hl, hm, hmm, hel⟩
  · simp [Value.cells] at hcs
    obtain ⟨rfl, rfl, rfl⟩ := hcs
    exact ⟨[], ⟨none, 0, rfl, fun h => absurd rfl h⟩, by simp, by simp⟩
  · simp [Value.cells] at hcs
    obtain ⟨rfl, rfl, rfl⟩ := hcs
    simp only [if_true] at hmm
    subst hmm
    -- every element's cells
    have hone : ∀ i, i < len → ∃ ac : Ac, AcIn ac ∧ ∃ kv nv, W.cell? (a.add (i * 7 + 0)) = some (.int .i64 ac.op) ∧ W.cell? (a.add (i * 7 + 1)) = some (.int .i64 ac.n) ∧ W.cell? (a.add (i * 7 + 2)) = some (.string ac.name) ∧
        W.cell? (a.add (i * 7 + 3)) = some (.string ac.to) ∧ W.cell? (a.add (i * 7 + 4)) = some (.string ac.data) ∧ W.cell? (a.add (i * 7 + 5)) = some kv ∧ W.cell? (a.add (i * 7 + 6)) = some nv ∧ IntsAt W W.heap.size kv ac.keep ∧ IntsAt W W.heap.size nv ac.noise := by
      intro i hi
      obtain ⟨ys, n, _, hfs⟩ := hel i (by omega)
      obtain ⟨v0, y0, e0, t0⟩ := hfs 0 _ rfl
      obtain ⟨v1, y1, e1, t1⟩ := hfs 1 _ rfl
      obtain ⟨v2, y2, e2, t2⟩ := hfs 2 _ rfl
      obtain ⟨v3, y3, e3, t3⟩ := hfs 3 _ rfl
      obtain ⟨v4, y4, e4, t4⟩ := hfs 4 _ rfl
      obtain ⟨v5, y5, e5, t5⟩ := hfs 5 _ rfl
      obtain ⟨v6, y6, e6, t6⟩ := hfs 6 _ rfl
      obtain ⟨k0, rfl, b0⟩ := trod_int64 t0
      obtain ⟨k1, rfl, b1⟩ := trod_int64 t1
      obtain ⟨s2, rfl, b2⟩ := trod_str t2
      obtain ⟨s3, rfl, b3⟩ := trod_str t3
      obtain ⟨s4, rfl, b4⟩ := trod_str t4
      obtain ⟨x5, i5, r5, l5⟩ := ints_trod t5
      obtain ⟨x6, i6, r6, l6⟩ := ints_trod t6
      exact ⟨⟨k0, k1, s2, s3, s4, x5, x6⟩, ⟨b0, b1, b2, b3, b4, r5, l5, l6⟩, v5, v6, e0, e1, e2, e3, e4, e5, e6, i5, i6⟩
    have hex : ∃ l : List Ac, l.length = len ∧ ∀ i ac, l[i]? = some ac → AcIn ac ∧ ∃ kv nv, W.cell? (a.add (i * 7 + 0)) = some (.int .i64 ac.op) ∧ W.cell? (a.add (i * 7 + 1)) = some (.int .i64 ac.n) ∧ W.cell? (a.add (i * 7 + 2)) = some (.string ac.name) ∧
        W.cell? (a.add (i * 7 + 3)) = some (.string ac.to) ∧ W.cell? (a.add (i * 7 + 4)) = some (.string ac.data) ∧ W.cell? (a.add (i * 7 + 5)) = some kv ∧ W.cell? (a.add (i * 7 + 6)) = some nv ∧ IntsAt W W.heap.size kv ac.keep ∧ IntsAt W W.heap.size nv ac.noise := by
      have : ∀ k, k ≤ len → ∃ l : List Ac, l.length = k ∧ ∀ i ac, l[i]? = some ac → AcIn ac ∧ ∃ kv nv, W.cell? (a.add (i * 7 + 0)) = some (.int .i64 ac.op) ∧ W.cell? (a.add (i * 7 + 1)) = some (.int .i64 ac.n) ∧ W.cell? (a.add (i * 7 + 2)) = some (.string ac.name) ∧
        W.cell? (a.add (i * 7 + 3)) = some (.string ac.to) ∧ W.cell? (a.add (i * 7 + 4)) = some (.string ac.data) ∧ W.cell? (a.add (i * 7 + 5)) = some kv ∧ W.cell? (a.add (i * 7 + 6)) = some nv ∧ IntsAt W W.heap.size kv ac.keep ∧ IntsAt W W.heap.size nv ac.noise := by
        intro k
        induction k with
        | zero => intro _; exact ⟨[], rfl, by simp⟩
        | succ k ih =>
          intro hk
          obtain ⟨l, hl', hA⟩ := ih (by omega)
          obtain ⟨ac, hac⟩ := hone k (by omega)
          refine ⟨l ++ [ac], by simp [hl'], fun i x hx => ?_⟩
          by_cases hi : i < l.length
          · rw [List.getElem?_append_left hi] at hx; exact hA i x hx
          · rw [List.getElem?_append_right (by omega)] at hx
            have : i = k := by
              rcases Nat.eq_or_lt_of_le (Nat.le_of_not_lt hi) with h | h
              · omega
              · rw [List.getElem?_eq_none (by simp; omega)] at hx; cases hx
            subst this
            rw [hl', Nat.sub_self] at hx
            simp at hx
            subst hx
            exact hac
      exact this len (Nat.le_refl _)
    obtain ⟨l, hll, hA⟩ := hex
    refine ⟨l, ⟨some a, m, by rw [hll], fun hne => ?_⟩, fun ac hac => ?_, by omega⟩
    · have hpos : 0 < l.length := List.length_pos_iff.2 hne
      obtain ⟨_, kv, nv, c0, _⟩ := hA 0 l[0] (by simp [hpos])
      obtain ⟨b, off, spot⟩ := a
      have hspot : spot = none := by simpa [Addr.add] using World.cell?_spot c0
      subst hspot
      have hadd : ∀ k, (⟨b, off, none⟩ : Addr).add k = ⟨b, off + k, none⟩ := fun k => Go.WideShapes.add_plain ..
      refine ⟨b, off, rfl, World.block_lt_of_cell? W _ c0, fun i ac hi => ?_⟩
      obtain ⟨_, kv, nv, c0, c1, c2, c3, c4, c5, c6, i1, i2⟩ := hA i ac hi
      rw [hadd] at c0 c1 c2 c3 c4 c5 c6
      exact ⟨kv, nv, c0, by rw [Nat.add_assoc]; exact c1, by rw [Nat.add_assoc]; exact c2, by rw [Nat.add_assoc]; exact c3, by rw [Nat.add_assoc]; exact c4, by rw [Nat.add_assoc]; exact c5, by rw [Nat.add_assoc]; exact c6, i1, i2⟩
    · obtain ⟨i, hi, rfl⟩ := List.getElem_of_mem hac
      exact (hA i l[i] (by simp [hi])).1

theorem act_arg {H : Type} {enc : TypeId × Value → H} {W : World} {base : Nat} {v : Value} {d : DataW H} {p : List MemPlace} (ho : Value.okWide Try.prog W .any base 38 v)
    (h : DataW.Trod enc Try.prog W 0 (fun _ => true) true 38 v d p) :
    ∃ (a : Ac) (kv nv : Value), v = .agg #[.int .i64 a.op, .int .i64 a.n, .string a.name, .string a.to, .string a.data, kv, nv] ∧ AcIn a ∧ IntsAt W W.heap.size kv a.keep ∧ IntsAt W W.heap.size nv a.noise := by
  obtain ⟨cs, rfl, hsz⟩ := okWide_struct Try.underlying38 ho
  have hC : Try.prog.cellsOf 38 = 7 := by kernel_rfl
  obtain ⟨l⟩ := cs
  match l, hsz.trans hC with
  | [v0, v1, v2, v3, v4, v5, v6], _ =>
    obtain ⟨fuel, hf⟩ := h
    obtain ⟨xs, n, _, hx, _, hlen, hg⟩ := DataW.trod_struct Try.underlying38 hf
    have hc1 : ∀ t ∈ [3, 9, 36], Try.prog.cellsOf t = 1 := by
      simp only [List.forall_mem_cons]
      exact ⟨by kernel_rfl, by kernel_rfl, by kernel_rfl, fun _ h => by cases h⟩
    have e1 := hc1 3 (by simp)
    have e2 := hc1 9 (by simp)
    have e3 := hc1 36 (by simp)
    match xs, hlen with
    | [y0, y1, y2, y3, y4, y5, y6], _ =>
      have t0 := hg 0 _ rfl
      have t1 := hg 1 _ rfl
      have t2 := hg 2 _ rfl
      have t3 := hg 3 _ rfl
      have t4 := hg 4 _ rfl
      have t5 := hg 5 _ rfl
      have t6 := hg 6 _ rfl
      simp [Value.cells, e1, e2, e3] at t0 t1 t2 t3 t4 t5 t6
      obtain ⟨k0, rfl, b0⟩ := trod_int64 t0
      obtain ⟨k1, rfl, b1⟩ := trod_int64 t1
      obtain ⟨s2, rfl, b2⟩ := trod_str t2
      obtain ⟨s3, rfl, b3⟩ := trod_str t3
      obtain ⟨s4, rfl, b4⟩ := trod_str t4
      obtain ⟨x5, i5, r5, l5⟩ := ints_trod t5
      obtain ⟨x6, i6, r6, l6⟩ := ints_trod t6
      exact ⟨⟨k0, k1, s2, s3, s4, x5, x6⟩, v5, v6, rfl, ⟨b0, b1, b2, b3, b4, r5, l5, l6⟩, i5, i6⟩
end Go.Proofs.Ytcinegkikahchaa
