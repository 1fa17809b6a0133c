import Derived.Test.YtbccikefccdekaaGreatDoorSnRtJ
import Derived.Test.YtbccikefccdekaaGreatDoorArgsJ
import Derived.Test.YtbccikefccdekaaGreatDoorMq0J
import Derived.Deep.Slices
import Derived.Deep.Fields
import Derived.ChangeSame
import Derived.Lib.SmallJoins
/-
  LAYER 4 (snap): a base as an argument.
-/
namespace Go.Proofs.YtbccikefccdekaaGreatDoor
open Go.ChangeShapes Go.WideShapes Go.ChangeAt Go.RowKit
open Go.WideMaps Go.WideElems Go.Deep Go.Joins
set_option linter.unusedVariables false
set_option maxRecDepth 100000

theorem snMk_back (d : ByteArray) : mk d.data.toList = d := rfl
theorem snTrodInt {H : Type} {enc : TypeId × Value → H} {W : World} {n : Nat} {v : Value} {y : DataW H × List MemPlace} (h : DataW.trod enc Tryz.prog W 0 (fun _ => true) true n 3 [v] = some y) :
    ∃ k : Int, v = .int .i64 k ∧ I64s k := by
  obtain ⟨k, hcs, hx, hw⟩ := DataW.trod_int Tryz.underlying3 h
  simp at hcs
  refine ⟨k, hcs, ?_⟩
  simpa [I64s, Lit.wf, IntKind.min, IntKind.max, IntKind.signed, IntKind.bits] using hw
theorem snTrodStr {H : Type} {enc : TypeId × Value → H} {W : World} {n : Nat} {v : Value} {y : DataW H × List MemPlace} (h : DataW.trod enc Tryz.prog W 0 (fun _ => true) true n 9 [v] = some y) :
    ∃ s : ByteArray, v = .string s ∧ s.size ≤ maxLen := by
  obtain ⟨s, hcs, hx, hw⟩ := DataW.trod_string Tryz.underlying9 h
  simp at hcs
  exact ⟨s, hcs, hw⟩
theorem snTrodInts {H : Type} {enc : TypeId × Value → H} {W : World} {fuel : Nat} {v : Value} {x : DataW H × List MemPlace}
    (hf : DataW.trod enc Tryz.prog W 0 (fun _ => true) true fuel 22 [v] = some x) :
    ∃ xs : List Int, IntsAt W W.heap.size v xs ∧ (∀ n ∈ xs, I64s n) ∧ xs.length ≤ maxLen := by
  rcases open_ints Tryz.underlying22 Tryz.underlying3 cellsInt hf with ⟨hcs, hx⟩ | ⟨a, len, cap, zs, hcs, _, hl, hm, hz, hx, hcell, hwz⟩
  · simp at hcs
    subst hcs
    exact ⟨[], ⟨none, 0, rfl, fun h => absurd rfl h⟩, by simp, by simp⟩
  · simp at hcs
    subst hcs
    simp only [if_true] at hz
    have hlen : (zs.take len).length = len := by rw [List.length_take]; omega
    refine ⟨zs.take len, ⟨some a, cap, by rw [hlen], fun h0 => ?_⟩, ?_, by omega⟩
    · have hpos : 0 < zs.length := by
        rcases Nat.eq_zero_or_pos zs.length with h | h
        · exact absurd (by rw [List.length_eq_zero_iff.1 h]; simp) h0
        · exact h
      obtain ⟨b, off, rfl, hc⟩ := ints_at hcell hpos
      refine ⟨b, off, rfl, World.block_lt_of_cell? W _ (hc 0 hpos), fun j x hj => ?_⟩
      have hjl : j < len := by
        rcases Nat.lt_or_ge j len with h | h
        · exact h
        · rw [List.getElem?_eq_none (by rw [hlen]; exact h)] at hj; cases hj
      rw [hc j (by omega)]
      rw [List.getElem?_take_of_lt hjl] at hj
      simp [List.getD, hj]
    · intro n hn
      have := hwz n (List.mem_of_mem_take hn)
      simpa [I64s, Lit.wf, IntKind.min, IntKind.max, IntKind.signed, IntKind.bits] using this
/-- A base that came in. -/
structure BArg (W : World) (vv : Value) (b : Bs) : Prop where
  ix : I64s b.ix
  tm : I64s b.tm
  vot : IntsAt W W.heap.size vv b.vot
  vl : b.vot.length ≤ maxLen
  v64 : ∀ n ∈ b.vot, I64s n
  dl : (mk b.data).size ≤ maxLen
theorem BArg.bat {W : World} {vv : Value} {b : Bs} (h : BArg W vv b) (h1 : b.vot.length ≤ 1000000) (h2 : b.data.length ≤ 100000000) : BAt W vv b := ⟨h.ix, h.tm, h.vot, h1, h.v64, h2⟩
set_option maxHeartbeats 2000000 in
theorem base_arg {H : Type} {enc : TypeId × Value → H} {W : World} {base : Nat} {v : Value} {d : DataW H} {p : List MemPlace} (ho : Value.okWide Tryz.prog W .any base 24 v)
    (h : DataW.Trod enc Tryz.prog W 0 (fun _ => true) true 24 v d p) : ∃ (b : Bs) (vv : Value), v = bval b vv ∧ BArg W vv b := by
  obtain ⟨cs, rfl, hsz⟩ := okWide_struct Tryz.underlying24 ho
  have hC : Tryz.prog.cellsOf 24 = 4 := by kernel_rfl
  obtain ⟨l⟩ := cs
  match l, hsz.trans hC with
  | [v0, v1, v2, v3], _ =>
    obtain ⟨fuel, hf⟩ := h
    obtain ⟨xs, n, _, hx, _, hlen, hg⟩ := DataW.trod_struct Tryz.underlying24 hf
    have e1 : Tryz.prog.cellsOf 3 = 1 := by kernel_rfl
    have e2 : Tryz.prog.cellsOf 9 = 1 := by kernel_rfl
    have e3 : Tryz.prog.cellsOf 22 = 1 := by kernel_rfl
    match xs, hlen with
    | [y0, y1, y2, y3], _ =>
      have t0 := hg 0 _ rfl
      have t1 := hg 1 _ rfl
      have t2 := hg 2 _ rfl
      have t3 := hg 3 _ rfl
      simp [Value.cells, e1, e2, e3] at t0 t1 t2 t3
      obtain ⟨k0, rfl, b0⟩ := snTrodInt t0
      obtain ⟨k1, rfl, b1⟩ := snTrodInt t1
      obtain ⟨vs, i2, w2, l2⟩ := snTrodInts t2
      obtain ⟨ds, rfl, b3⟩ := snTrodStr t3
      exact ⟨⟨k0, k1, vs, ds.data.toList⟩, v2, rfl, ⟨b0, b1, i2, l2, w2, b3⟩⟩
end Go.Proofs.YtbccikefccdekaaGreatDoor

