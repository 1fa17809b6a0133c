/-
  GENERAL: rows of texts; an argument that is a slice of texts.
-/
import Derived.Test.YtnbghghkahaenaaGArgs
namespace Go.Proofs.Ytnbghghkahaenaa
open Go.ChangeShapes Go.WideShapes Go.ChangeAt Go.RowKit
open Go.WideMaps Go.WideElems Go.Deep Go.Joins
set_option linter.unusedVariables false
set_option maxRecDepth 100000

def strTy : RowTy ByteArray := ⟨27, 9, 1, 16, fun x => [.string x], .string ⟨#[]⟩⟩
theorem strTy_ok : strTy.Ok := ⟨fun _ => rfl, fun x u hu => by simp [strTy] at hu; subst hu; rfl, by decide, Try.underlying27, by kernel_rfl, by kernel_rfl, rfl, by decide⟩
theorem cellsStr' : Try.prog.cellsOf 9 = 1 := by kernel_rfl
theorem str_flat (xs : List ByteArray) : strTy.flat xs = xs.map .string := by
  induction xs with
  | nil => rfl
  | cons x r ih => rw [flat_cons, ih]; rfl
/-- Where the k-th text lies. -/
theorem strs_at {w : World} {v : Value} {xs : List ByteArray} (h : RAt strTy w v xs) : ∃ a cap, v = .slice a xs.length cap ∧ ∀ (k : Nat) x, xs[k]? = some x → ∃ sb so, a = some ⟨sb, so, none⟩ ∧ sb < w.heap.size ∧ w.cell? ⟨sb, so + k, none⟩ = some (.string x) := by
  obtain ⟨a, cap, rfl, _, _, hc⟩ := h.at strTy_ok
  refine ⟨a, cap, rfl, fun k x hk => ?_⟩
  obtain ⟨sb, so, e, hlt, h1⟩ := hc k x hk
  have := h1 0 _ rfl
  rw [show strTy.n = 1 from rfl, Nat.mul_one, Nat.add_zero] at this
  exact ⟨sb, so, e, hlt, this⟩
theorem texts_arg {H : Type} {enc : TypeId × Value → H} {W : World} {base : Nat} {v : Value} {d : DataW H} {p : List MemPlace} (ho : Value.okWide Try.prog W .any base 27 v)
    (h : DataW.Trod enc Try.prog W 0 (fun _ => true) true 27 v d p) :
    ∃ xs : List ByteArray, RAt strTy W v xs ∧ (∀ s ∈ xs, s.size ≤ maxLen) ∧ xs.length ≤ maxLen := by
  obtain ⟨a0, len, cap, rfl⟩ := okWide_slice Try.underlying27 ho
  obtain ⟨fuel, hf⟩ := h
  rcases open_strings Try.underlying27 Try.underlying9 cellsStr' hf with ⟨hcs, hx⟩ | ⟨a, len', cap', zs, hcs, hl0, hl, hm, hz, hx, hcell, hwz⟩
  · simp [Value.cells] at hcs
    obtain ⟨rfl, rfl, rfl⟩ := hcs
    exact ⟨[], rAt_nil W, by simp, by simp⟩
  · simp [Value.cells] at hcs
    obtain ⟨rfl, rfl, rfl⟩ := hcs
    simp only [if_true] at hz
    have hlen : (zs.take len).length = len := by rw [List.length_take]; omega
    refine ⟨zs.take len, ?_, fun s hs => hwz s (List.mem_of_mem_take hs), by omega⟩
    have := rAt_of_cells strTy_ok (w := W) (a := a) (L := zs.take len) (cap := cap) (by omega) (by omega) (fun k x hk j u hj => by
      have hkl : k < len := by
        rcases Nat.lt_or_ge k len with h | h
        · exact h
        · rw [List.getElem?_eq_none (by rw [hlen]; exact h)] at hk; cases hk
      simp [strTy] at hj
      have hj0 : j = 0 := by
        rcases Nat.eq_zero_or_pos j with h | h
        · exact h
        · rw [List.getElem?_eq_none (by simp; omega)] at hj; cases hj
      subst hj0
      simp at hj
      subst hj
      rw [show strTy.n = 1 from rfl, Nat.mul_one, Nat.add_zero, hcell k (by omega)]
      rw [List.getElem?_take_of_lt hkl] at hk
      simp [List.getD, hk])
    rw [hlen] at this
    exact this
end Go.Proofs.Ytnbghghkahaenaa
