/-
  GENERAL: arguments that are slices of ints, of texts, of structs of one-cell fields: as their reading gives them, rows that lie somewhere.
-/
import Derived.Test.YtnbghghkahaenaaGInts
import Derived.Test.YtnbghghkahaenaaLaw
import Derived.Deep.Slices
import Derived.Deep.Fields
import Derived.ChangeSame
import Derived.Lib.SmallJoins
namespace Go.Proofs.Ytnbghghkahaenaa
open Go.ChangeShapes Go.WideShapes Go.ChangeAt Go.RowKit
open Go.WideMaps Go.WideElems Go.Deep Go.Joins
set_option linter.unusedVariables false
set_option maxRecDepth 100000

theorem cellsInt' : Try.prog.cellsOf 3 = 1 := by kernel_rfl
/-- A list of what is there for each number. -/
theorem listOf {α : Type} {n : Nat} {Q : Nat → α → Prop} (h : ∀ i, i < n → ∃ x, Q i x) : ∃ l : List α, l.length = n ∧ ∀ i x, l[i]? = some x → Q i x := by
  have : ∀ k, k ≤ n → ∃ l : List α, l.length = k ∧ ∀ i x, l[i]? = some x → Q i x := by
    intro k
    induction k with
    | zero => intro _; exact ⟨[], rfl, by simp⟩
    | succ k ih =>
      intro hk
      obtain ⟨l, hl', hA⟩ := ih (by omega)
      obtain ⟨ac, hac⟩ := h k (by omega)
      refine ⟨l ++ [ac], by simp [hl'], fun i x hx => ?_⟩
      by_cases hi : i < l.length
      · rw [List.getElem?_append_left hi] at hx; exact hA i x hx
      · rw [List.getElem?_append_right (by omega)] at hx
        have : i = k := by
          rcases Nat.eq_or_lt_of_le (Nat.le_of_not_lt hi) with h | h
          · omega
          · rw [List.getElem?_eq_none (by simp; omega)] at hx; cases hx
        subst this
        rw [hl', Nat.sub_self] at hx
        simp at hx
        subst hx
        exact hac
  exact this n (Nat.le_refl _)
/-- The cells of a row, thing by thing, make the row. -/
theorem rAt_of_cells {α : Type} {R : RowTy α} (o : R.Ok) {w : World} {a : Addr} {L : List α} {cap : Nat} (hl : L.length ≤ cap) (hm : cap ≤ maxLen)
    (h : ∀ (k : Nat) x, L[k]? = some x → ∀ j u, (R.cs x)[j]? = some u → w.cell? (a.add (k * R.n + j)) = some u) : RAt R w (.slice (some a) L.length cap) L := by
  refine ⟨some a, cap, rfl, hl, (fun e => by cases e), hm, fun hne => ?_⟩
  have hpos : 0 < L.length := List.length_pos_iff.2 hne
  have h0 : 0 < (R.cs L[0]).length := by rw [o.len]; exact o.pos
  have c0 := h 0 L[0] (by simp [hpos]) 0 _ (List.getElem?_eq_getElem h0)
  obtain ⟨b, off, spot⟩ := a
  have hspot : spot = none := by simpa [Addr.add] using World.cell?_spot c0
  subst hspot
  have hadd : ∀ k, (⟨b, off, none⟩ : Addr).add k = ⟨b, off + k, none⟩ := fun k => Go.WideShapes.add_plain ..
  rw [hadd] at c0
  refine ⟨b, off, rfl, World.block_lt_of_cell? w _ c0, fun j u hj => ?_⟩
  have hjl : j < L.length * R.n := by rw [← flat_length o]; exact (List.getElem?_eq_some_iff.1 hj).1
  have hq : j / R.n < L.length := Nat.div_lt_of_lt_mul (by rw [Nat.mul_comm]; exact hjl)
  have hr : j % R.n < R.n := Nat.mod_lt _ o.pos
  have hj2 : j / R.n * R.n + j % R.n = j := by rw [Nat.mul_comm]; exact Nat.div_add_mod j R.n
  have hu : (R.cs L[j / R.n])[j % R.n]? = some u := by
    have hlen : j % R.n < (R.cs L[j / R.n]).length := by rw [o.len]; exact hr
    have h1 := flat_get o (List.getElem?_eq_getElem hq) (List.getElem?_eq_getElem hlen)
    rw [hj2, hj] at h1
    rw [List.getElem?_eq_getElem hlen, Option.some.inj h1]
  have := h _ _ (List.getElem?_eq_getElem hq) _ _ hu
  rw [hj2, hadd] at this
  exact this
section
variable {H : Type} {enc : TypeId × Value → H} {P : Program} {w : World} {base : Nat} {spare : Nat → Bool} {held : Bool}
theorem openFields {t e : TypeId} {fs : Array Field} {fuel : Nat} {cs : List Value} {x : DataW H × List MemPlace} (ht : P.underlying t = some (.slice e)) (he : P.underlying e = some (.struct fs))
    (hone : oneCellFields P fs = true) (hC : P.cellsOf e = fs.size) (h : DataW.trod enc P w base spare held fuel t cs = some x) :
    (cs = [.slice none 0 0] ∧ x = (.nil, [])) ∨
    ∃ (a : Addr) (len cap m : Nat), cs = [.slice (some a) len cap] ∧ len ≤ cap ∧ cap ≤ maxLen ∧ m = (if spare a.block then cap else len) ∧
      ∀ i, i < m → ∃ (ys : List (DataW H × List MemPlace)) (n : Nat), ys.length = fs.size ∧
        ∀ (j : Nat) (f : Field), fs[j]? = some f → ∃ (v : Value) (y : DataW H × List MemPlace), w.cell? (a.add (i * fs.size + j)) = some v ∧ DataW.trod enc P w base spare held n f.type [v] = some y := by
  rcases open_slice ht h with h0 | ⟨a, len, cap, m, n, D, Pl, hcs, hb, hl, hm, hmm, hx, hi⟩
  · exact .inl h0
  · refine .inr ⟨a, len, cap, m, hcs, hl, hm, hmm, fun i him => ?_⟩
    obtain ⟨cs', hc, ht'⟩ := hi i him
    rw [hC] at hc
    obtain ⟨ys, n', hn', hy, hlen, hyl, hf⟩ := DataW.trod_struct he ht'
    obtain ⟨_, hcl, hat⟩ := World.cells?_some hc
    refine ⟨ys, n', hyl, fun j f hj => ?_⟩
    obtain ⟨ho, hk⟩ := hone_of hone j f hj
    have hjl : j < fs.size := (Array.getElem?_eq_some_iff.1 hj).1
    have hcell := hat j hjl
    have hv : cs'[j]? = some (cs'[j]'(by omega)) := List.getElem?_eq_getElem (by omega)
    have h1 := hf j f hj
    rw [ho, hk] at h1
    have hone' : (cs'.drop j).take 1 = [cs'[j]'(by omega)] := by
      rw [List.drop_eq_getElem_cons (by omega)]
      rfl
    rw [hone'] at h1
    have hys : ys[j]? = some (ys[j]'(by omega)) := List.getElem?_eq_getElem (by omega)
    refine ⟨_, _, ?_, h1.trans hys⟩
    rw [← Go.Deep.add_add, hcell, hv]
end
/-- A slice of structs of one-cell fields: 'hx' says what a struct's cells are, out of how each of its fields reads. -/
theorem structs_arg {α : Type} {R : RowTy α} (o : R.Ok) {H : Type} {enc : TypeId × Value → H} {W : World} {base : Nat} {v : Value} {d : DataW H} {p : List MemPlace} (ho : Value.okWide Try.prog W .any base R.st v)
    (h : DataW.Trod enc Try.prog W 0 (fun _ => true) true R.st v d p) {fs : Array Field} (he : Try.prog.underlying R.el = some (.struct fs)) (hone : oneCellFields Try.prog fs = true) (hC : Try.prog.cellsOf R.el = fs.size) (hn : fs.size = R.n)
    (In : α → Prop) (hx : ∀ c : Nat → Value, (∀ (j : Nat) (f : Field), fs[j]? = some f → ∃ n y, DataW.trod enc Try.prog W 0 (fun _ => true) true n f.type [c j] = some y) → ∃ x : α, In x ∧ ∀ j u, (R.cs x)[j]? = some u → c j = u) :
    ∃ l : List α, RAt R W v l ∧ (∀ a ∈ l, In a) ∧ l.length ≤ maxLen := by
  obtain ⟨a0, len, cap, rfl⟩ := okWide_slice o.under ho
  obtain ⟨fuel, hf⟩ := h
  rcases openFields o.under he hone hC hf with ⟨hcs, _⟩ | ⟨a, len', cap', m, hcs, hl, hm, hmm, hel⟩
  · simp [Value.cells] at hcs
    obtain ⟨rfl, rfl, rfl⟩ := hcs
    exact ⟨[], rAt_nil W, by simp, by simp⟩
  · simp [Value.cells] at hcs
    obtain ⟨rfl, rfl, rfl⟩ := hcs
    simp only [if_true] at hmm
    subst hmm
    obtain ⟨l, hll, hA⟩ := listOf (n := len) (Q := fun i (x : α) => In x ∧ ∀ j u, (R.cs x)[j]? = some u → W.cell? (a.add (i * R.n + j)) = some u) (fun i hi => by
      obtain ⟨ys, n, _, hfs⟩ := hel i (by omega)
      obtain ⟨x, h1, h2⟩ := hx (fun j => (W.cell? (a.add (i * R.n + j))).getD undef) (fun j f hj => by
        obtain ⟨v, y, e1, e2⟩ := hfs j f hj
        rw [hn] at e1
        exact ⟨n, y, by rw [e1]; exact e2⟩)
      refine ⟨x, h1, fun j u hj => ?_⟩
      have hjn : j < R.n := by rw [← o.len x]; exact (List.getElem?_eq_some_iff.1 hj).1
      obtain ⟨v, y, e1, e2⟩ := hfs j fs[j] (Array.getElem?_eq_getElem (by omega))
      rw [hn] at e1
      have := h2 j u hj
      rw [e1] at this ⊢
      simp at this
      rw [this])
    refine ⟨l, ?_, fun ac hac => ?_, by omega⟩
    · have := rAt_of_cells o (w := W) (a := a) (L := l) (cap := m) (by omega) (by omega) (fun k x hk => (hA k x hk).2)
      rw [hll] at this
      exact this
    · obtain ⟨i, hi, rfl⟩ := List.getElem_of_mem hac
      exact (hA i l[i] (by simp [hi])).1
theorem trodInt {H : Type} {enc : TypeId × Value → H} {W : World} {n : Nat} {v : Value} {y : DataW H × List MemPlace} (h : DataW.trod enc Try.prog W 0 (fun _ => true) true n 3 [v] = some y) :
    ∃ k : Int, v = .int .i64 k ∧ I64' k := by
  obtain ⟨k, hcs, hx, hw⟩ := DataW.trod_int Try.underlying3 h
  simp at hcs
  refine ⟨k, hcs, ?_⟩
  simpa [I64', Lit.wf, IntKind.min, IntKind.max, IntKind.signed, IntKind.bits] using hw
theorem trodStr {H : Type} {enc : TypeId × Value → H} {W : World} {n : Nat} {v : Value} {y : DataW H × List MemPlace} (h : DataW.trod enc Try.prog W 0 (fun _ => true) true n 9 [v] = some y) :
    ∃ s : ByteArray, v = .string s ∧ s.size ≤ maxLen := by
  obtain ⟨s, hcs, hx, hw⟩ := DataW.trod_string Try.underlying9 h
  simp at hcs
  exact ⟨s, hcs, hw⟩
/-- A slice of structs that is a field of another thing. -/
theorem structs_trod {α : Type} {R : RowTy α} (o : R.Ok) {H : Type} {enc : TypeId × Value → H} {W : World} {v : Value} {n : Nat} {y : DataW H × List MemPlace} (hf : DataW.trod enc Try.prog W 0 (fun _ => true) true n R.st [v] = some y) {fs : Array Field} (he : Try.prog.underlying R.el = some (.struct fs)) (hone : oneCellFields Try.prog fs = true) (hC : Try.prog.cellsOf R.el = fs.size) (hn : fs.size = R.n)
    (In : α → Prop) (hx : ∀ c : Nat → Value, (∀ (j : Nat) (f : Field), fs[j]? = some f → ∃ n y, DataW.trod enc Try.prog W 0 (fun _ => true) true n f.type [c j] = some y) → ∃ x : α, In x ∧ ∀ j u, (R.cs x)[j]? = some u → c j = u) :
    ∃ l : List α, RAt R W v l ∧ (∀ a ∈ l, In a) ∧ l.length ≤ maxLen := by
  rcases openFields o.under he hone hC hf with ⟨hcs, _⟩ | ⟨a, len, cap, m, hcs, hl, hm, hmm, hel⟩
  · simp at hcs
    subst hcs
    exact ⟨[], rAt_nil W, by simp, by simp⟩
  · simp at hcs
    subst hcs
    simp only [if_true] at hmm
    subst hmm
    obtain ⟨l, hll, hA⟩ := listOf (n := len) (Q := fun i (x : α) => In x ∧ ∀ j u, (R.cs x)[j]? = some u → W.cell? (a.add (i * R.n + j)) = some u) (fun i hi => by
      obtain ⟨ys, n, _, hfs⟩ := hel i (by omega)
      obtain ⟨x, h1, h2⟩ := hx (fun j => (W.cell? (a.add (i * R.n + j))).getD undef) (fun j f hj => by
        obtain ⟨v, y, e1, e2⟩ := hfs j f hj
        rw [hn] at e1
        exact ⟨n, y, by rw [e1]; exact e2⟩)
      refine ⟨x, h1, fun j u hj => ?_⟩
      have hjn : j < R.n := by rw [← o.len x]; exact (List.getElem?_eq_some_iff.1 hj).1
      obtain ⟨v, y, e1, e2⟩ := hfs j fs[j] (Array.getElem?_eq_getElem (by omega))
      rw [hn] at e1
      have := h2 j u hj
      rw [e1] at this ⊢
      simp at this
      rw [this])
    refine ⟨l, ?_, fun ac hac => ?_, by omega⟩
    · have := rAt_of_cells o (w := W) (a := a) (L := l) (cap := m) (by omega) (by omega) (fun k x hk => (hA k x hk).2)
      rw [hll] at this
      exact this
    · obtain ⟨i, hi, rfl⟩ := List.getElem_of_mem hac
      exact (hA i l[i] (by simp [hi])).1
end Go.Proofs.Ytnbghghkahaenaa

