import Derived.Test.YtbccikefccdekaaGreatDoorSnRtJ
import Derived.Test.YtbccikefccdekaaGreatDoorArgsJ
import Derived.Test.YtbccikefccdekaaGreatDoorMq0J
import Derived.Deep.Slices
import Derived.Deep.Fields
import Derived.ChangeSame
import Derived.Lib.SmallJoins
/-
  LAYER 4 (snap): a base as an argument.
-/
namespace Go.Proofs.YtbccikefccdekaaGreatDoor
open Go.ChangeShapes Go.WideShapes Go.ChangeAt Go.RowKit
open Go.WideMaps Go.WideElems Go.Deep Go.Joins
set_option linter.unusedVariables false
set_option maxRecDepth 100000

theorem snMk_back (d : ByteArray) : mk d.data.toList = d := rfl
theorem snTrodInt {H : Type} {enc : TypeId × Value → H} {W : World} {n : Nat} {v : Value} {y : DataW H × List MemPlace} (h : DataW.trod enc Tryz.prog W 0 (fun _ => true) true n 3 [v] = some y) :
    ∃ k : Int, v = .int .i64 k ∧ I64s k := by
  obtain ⟨k, hcs, hx, hw⟩ := DataW.trod_int Tryz.underlying3 h
  simp at hcs
  refine ⟨k, hcs, ?_⟩
  simpa [I64s, Lit.wf, IntKind.min, IntKind.max, IntKind.signed, IntKind.bits] using hw
theorem snTrodStr {H : Type} {enc : TypeId × Value → H} {W : World} {n : Nat} {v : Value} {y : DataW H × List MemPlace} (h : DataW.trod enc Tryz.prog W 0 (fun _ => true) true n 9 [v] = some y) :
    ∃ s : ByteArray, v = .string s ∧ s.size ≤ maxLen := by
  obtain ⟨s, hcs, hx, hw⟩ := DataW.trod_string Tryz.underlying9 h
  simp at hcs
  exact ⟨s, hcs, hw⟩
theorem snTrodInts {H : Type} {enc : TypeId × Value → H} {W : World} {fuel : Nat} {v : Value} {x : DataW H × List MemPlace}
    (hf : DataW.trod enc Tryz.prog W 0 (fun _ => true) true fuel 22 [v] = some x) :
    ∃ xs : List Int, IntsAt W W.heap.size v xs ∧ (∀ n ∈ xs, I64s n) ∧ xs.length ≤ maxLen := by
  rcases open_ints Tryz.underlying22 Tryz.underlying3 cellsInt hf with ⟨hcs, hx⟩ | ⟨a, len, cap, zs, hcs, _, hl, hm, hz, hx, hcell, hwz⟩
  · simp at hcs
    subst hcs
    exact ⟨[], ⟨none, 0, rfl, fun h => absurd rfl h⟩, by simp, by simp⟩
  · simp at hcs
    subst hcs
    simp only [if_true] at hz
    have hlen : (zs.take len).length = len := by rw [List.length_take]; omega
    refine ⟨zs.take len, ⟨some a, cap, by rw [hlen], fun h0 => ?_⟩, ?_, by omega⟩
    · have hpos : 0 < zs.length := by
        rcases Nat.eq_zero_or_pos zs.length with h | h
        · exact absurd (by rw [List.length_eq_zero_iff.1 h]; simp) h0
        · exact h
      obtain ⟨b, off, rfl, hc⟩ := ints_at hcell hpos
      refine ⟨b, off, rfl, World.block_lt_of_cell? W _ (hc 0 hpos), fun j x hj => ?_⟩
      have hjl : j < len := by
        rcases Nat.lt_or_ge j len with h | h
        · exact h
        · rw [List.getElem?_eq_none (by rw [hlen]; exact h)] at hj; cases hj
      rw [hc j (by omega)]
      rw [List.getElem?_take_of_lt hjl] at hj
      simp [List.getD, hj]
    · intro n hn
      have := hwz n (List.mem_of_mem_take hn)
      simpa [I64s, Lit.wf, IntKind.min, IntKind.max, IntKind.signed, IntKind.bits] using this
/-- A base that came in. -/
structure BArg (W : World) (vv : Value) (b : Bs) : Prop where
  ix : I64s b.ix
  tm : I64s b.tm
  vot : IntsAt W W.heap.size vv b.vot
  vl : b.vot.length ≤ maxLen
  v64 : ∀ n ∈ b.vot, I64s n
  dl : (mk b.data).size ≤ maxLen
theorem BArg.bat {W : World} {vv : Value} {b : Bs} (h : BArg W vv b) (h1 : b.vot.length ≤ 1000000) (h2 : b.data.length ≤ 100000000) : BAt W vv b := ⟨h.ix, h.tm, h.vot, h1, h.v64, h2⟩
set_option maxHeartbeats 2000000 in
theorem base_arg {H : Type} {enc : TypeId × Value → H} {W : World} {base : Nat} {v : Value} {d : DataW H} {p : List MemPlace} (ho : Value.okWide Tryz.prog W .any base 24 v)
    (h : DataW.Trod enc Tryz.prog W 0 (fun _ => true) true 24 v d p) : ∃ (b : Bs) (vv : Value), v = bval b vv ∧ BArg W vv b := by
  obtain ⟨cs, rfl, hsz⟩ := okWide_struct Tryz.underlying24 ho
  have hC : Tryz.prog.cellsOf 24 = 4 := by kernel_rfl
  obtain ⟨l⟩ := cs
  match l, hsz.trans hC with
  | [v0, v1, v2, v3], _ =>
    obtain ⟨fuel, hf⟩ := h
    obtain ⟨xs, n, _, hx, _, hlen, hg⟩ := DataW.trod_struct Tryz.underlying24 hf
    have e1 : Tryz.prog.cellsOf 3 = 1 := by kernel_rfl
    have e2 : Tryz.prog.cellsOf 9 = 1 := by kernel_rfl
    have e3 : Tryz.prog.cellsOf 22 = 1 := by kernel_rfl
    match xs, hlen with
    | [y0, y1, y2, y3], _ =>
      have t0 := hg 0 _ rfl
      have t1 := hg 1 _ rfl
      have t2 := hg 2 _ rfl
      have t3 := hg 3 _ rfl
      simp [Value.cells, e1, e2, e3] at t0 t1 t2 t3
      obtain ⟨k0, rfl, b0⟩ := snTrodInt t0
      obtain ⟨k1, rfl, b1⟩ := snTrodInt t1
      obtain ⟨vs, i2, w2, l2⟩ := snTrodInts t2
      obtain ⟨ds, rfl, b3⟩ := snTrodStr t3
      exact ⟨⟨k0, k1, vs, ds.data.toList⟩, v2, rfl, ⟨b0, b1, i2, l2, w2, b3⟩⟩
end Go.Proofs.YtbccikefccdekaaGreatDoor

/-
  LAYER 4 (snap): a row of bases as an argument. (Written by wip/tools/gen4_args.py.)
-/
namespace Go.Proofs.YtbccikefccdekaaGreatDoor
open Go.ChangeShapes Go.WideShapes Go.ChangeAt Go.RowKit
open Go.WideMaps Go.WideElems Go.Deep Go.Joins
set_option linter.unusedVariables false
set_option maxRecDepth 100000

/-- One base in memory. -/
structure BeAt (w : World) (B b o : Nat) (x : Bs) (vv : Value) : Prop where
  c0 : w.cell? ⟨b, o, none⟩ = some (.int .i64 x.ix)
  c1 : w.cell? ⟨b, o + 1, none⟩ = some (.int .i64 x.tm)
  c2 : w.cell? ⟨b, o + 2, none⟩ = some vv
  c3 : w.cell? ⟨b, o + 3, none⟩ = some (.string (mk x.data))
  vot : IntsAt w B vv x.vot
structure BIn (x : Bs) : Prop where
  ix : I64s x.ix
  tm : I64s x.tm
  v64 : ∀ n ∈ x.vot, I64s n
  vl : x.vot.length ≤ maxLen
  dl : (mk x.data).size ≤ maxLen
def BesAt (w : World) (B : Nat) (v : Value) (l : List Bs) : Prop :=
  ∃ a cap, v = .slice a l.length cap ∧ (l ≠ [] → ∃ b o, a = some ⟨b, o, none⟩ ∧ b < B ∧ ∀ i x, l[i]? = some x → ∃ vv, BeAt w B b (o + i * 4) x vv)
section
variable {H : Type} {enc : TypeId × Value → H} {P : Program} {w : World} {base : Nat} {spare : Nat → Bool} {held : Bool}
theorem snOpen_fields {t e : TypeId} {fs : Array Field} {fuel : Nat} {cs : List Value} {x : DataW H × List MemPlace} (ht : P.underlying t = some (.slice e)) (he : P.underlying e = some (.struct fs))
    (hone : oneCellFields P fs = true) (hC : P.cellsOf e = fs.size) (h : DataW.trod enc P w base spare held fuel t cs = some x) :
    (cs = [.slice none 0 0] ∧ x = (.nil, [])) ∨
    ∃ (a : Addr) (len cap m : Nat), cs = [.slice (some a) len cap] ∧ len ≤ cap ∧ cap ≤ maxLen ∧ m = (if spare a.block then cap else len) ∧
      ∀ i, i < m → ∃ (ys : List (DataW H × List MemPlace)) (n : Nat), ys.length = fs.size ∧
        ∀ (j : Nat) (f : Field), fs[j]? = some f → ∃ (v : Value) (y : DataW H × List MemPlace), w.cell? (a.add (i * fs.size + j)) = some v ∧ DataW.trod enc P w base spare held n f.type [v] = some y := by
  rcases open_slice ht h with h0 | ⟨a, len, cap, m, n, D, Pl, hcs, hb, hl, hm, hmm, hx, hi⟩
  · exact .inl h0
  · refine .inr ⟨a, len, cap, m, hcs, hl, hm, hmm, fun i him => ?_⟩
    obtain ⟨cs', hc, ht'⟩ := hi i him
    rw [hC] at hc
    obtain ⟨ys, n', hn', hy, hlen, hyl, hf⟩ := DataW.trod_struct he ht'
    obtain ⟨_, hcl, hat⟩ := World.cells?_some hc
    refine ⟨ys, n', hyl, fun j f hj => ?_⟩
    obtain ⟨ho, hk⟩ := hone_of hone j f hj
    have hjl : j < fs.size := (Array.getElem?_eq_some_iff.1 hj).1
    have hcell := hat j hjl
    have hv : cs'[j]? = some (cs'[j]'(by omega)) := List.getElem?_eq_getElem (by omega)
    have h1 := hf j f hj
    rw [ho, hk] at h1
    have hone' : (cs'.drop j).take 1 = [cs'[j]'(by omega)] := by
      rw [List.drop_eq_getElem_cons (by omega)]
      rfl
    rw [hone'] at h1
    have hys : ys[j]? = some (ys[j]'(by omega)) := List.getElem?_eq_getElem (by omega)
    refine ⟨_, _, ?_, h1.trans hys⟩
    rw [← Go.Deep.add_add, hcell, hv]
end
theorem bases_arg {H : Type} {enc : TypeId × Value → H} {W : World} {base : Nat} {v : Value} {d : DataW H} {p : List MemPlace} (ho : Value.okWide Tryz.prog W .any base 36 v)
    (h : DataW.Trod enc Tryz.prog W 0 (fun _ => true) true 36 v d p) :
    ∃ l : List Bs, BesAt W W.heap.size v l ∧ (∀ a ∈ l, BIn a) ∧ l.length ≤ maxLen := by
  obtain ⟨a0, len, cap, rfl⟩ := okWide_slice Tryz.underlying36 ho
  obtain ⟨fuel, hf⟩ := h
  rcases snOpen_fields Tryz.underlying36 Tryz.underlying24 (by kernel_rfl) (by kernel_rfl) hf with ⟨hcs, hx⟩ | ⟨a, len', cap', m, hcs, hl, hm, hmm, hel⟩
  · simp [Value.cells] at hcs
    obtain ⟨rfl, rfl, rfl⟩ := hcs
    exact ⟨[], ⟨none, 0, rfl, fun h => absurd rfl h⟩, by simp, by simp⟩
  · simp [Value.cells] at hcs
    obtain ⟨rfl, rfl, rfl⟩ := hcs
    simp only [if_true] at hmm
    subst hmm
    rcases Nat.eq_zero_or_pos len with rfl | hpos0
    · exact ⟨[], ⟨_, _, rfl, fun h => absurd rfl h⟩, by simp, by simp⟩
    have hplain : ∃ b o, a = ⟨b, o, none⟩ ∧ b < W.heap.size := by
      obtain ⟨ys, n, _, hfs⟩ := hel 0 (by omega)
      obtain ⟨v0, y0, e0, t0⟩ := hfs 0 _ rfl
      obtain ⟨b, o, spot⟩ := a
      have hspot : spot = none := by simpa [Addr.add] using World.cell?_spot e0
      subst hspot
      exact ⟨b, o, rfl, World.block_lt_of_cell? W _ e0⟩
    obtain ⟨b, o, rfl, hblt⟩ := hplain
    have hadd : ∀ k, (⟨b, o, none⟩ : Addr).add k = ⟨b, o + k, none⟩ := fun k => Go.WideShapes.add_plain ..
    have hone : ∀ i, i < len → ∃ ac : Bs, BIn ac ∧ ∃ vv, BeAt W W.heap.size b (o + i * 4) ac vv := by
      intro i hi
      obtain ⟨ys, n, _, hfs⟩ := hel i (by omega)
      obtain ⟨v0, y0, e0, t0⟩ := hfs 0 _ rfl
      obtain ⟨v1, y1, e1, t1⟩ := hfs 1 _ rfl
      obtain ⟨v2, y2, e2, t2⟩ := hfs 2 _ rfl
      obtain ⟨v3, y3, e3, t3⟩ := hfs 3 _ rfl
      obtain ⟨k0, rfl, b0⟩ := snTrodInt t0
      obtain ⟨k1, rfl, b1⟩ := snTrodInt t1
      obtain ⟨x2, i2, r2, l2⟩ := snTrodInts t2
      obtain ⟨s3, rfl, b3⟩ := snTrodStr t3
      rw [hadd, ← Nat.add_assoc] at e0 e1 e2 e3
      exact ⟨⟨k0, k1, x2, s3.data.toList⟩, ⟨b0, b1, r2, l2, b3⟩, v2, ⟨e0, e1, e2, e3, i2⟩⟩
    have hex : ∃ l : List Bs, l.length = len ∧ ∀ i ac, l[i]? = some ac → BIn ac ∧ ∃ vv, BeAt W W.heap.size b (o + i * 4) ac vv := by
      have : ∀ k, k ≤ len → ∃ l : List Bs, l.length = k ∧ ∀ i ac, l[i]? = some ac → BIn ac ∧ ∃ vv, BeAt W W.heap.size b (o + i * 4) ac vv := by
        intro k
        induction k with
        | zero => intro _; exact ⟨[], rfl, by simp⟩
        | succ k ih =>
          intro hk
          obtain ⟨l, hl', hA⟩ := ih (by omega)
          obtain ⟨ac, hac⟩ := hone k (by omega)
          refine ⟨l ++ [ac], by simp [hl'], fun i x hx => ?_⟩
          by_cases hi : i < l.length
          · rw [List.getElem?_append_left hi] at hx; exact hA i x hx
          · rw [List.getElem?_append_right (by omega)] at hx
            have : i = k := by
              rcases Nat.eq_or_lt_of_le (Nat.le_of_not_lt hi) with h | h
              · omega
              · rw [List.getElem?_eq_none (by simp; omega)] at hx; cases hx
            subst this
            rw [hl', Nat.sub_self] at hx
            simp at hx
            subst hx
            exact hac
      exact this len (Nat.le_refl _)
    obtain ⟨l, hll, hA⟩ := hex
    refine ⟨l, ⟨some ⟨b, o, none⟩, _, by rw [hll], fun hne => ⟨b, o, rfl, hblt, fun i ac hi => (hA i ac hi).2⟩⟩, fun ac hac => ?_, by omega⟩
    obtain ⟨i, hi, rfl⟩ := List.getElem_of_mem hac
    exact (hA i l[i] (by simp [hi])).1
end Go.Proofs.YtbccikefccdekaaGreatDoor

