/-
  LAYER 2 (disk), THE DOCUMENT's ANSWER: Crash: how far its loop has come, as lists.
-/
import Derived.Test.YtcinegkikahchaaRkJ
namespace Go.Proofs.Ytcinegkikahchaa
open Go.RowKit Go.Maps
set_option linter.unusedVariables false

/-- The first i files are crashed, and k of the two lists' numbers are used. -/
structure CrAt (L : List AF) (ks ns : List Int) (i k : Nat) (P : List AF) : Prop where
  len : P.length = i
  used : k ≤ i
  rest : crL L ks ns = P ++ crL (L.drop i) (ks.drop k) (ns.drop k)
theorem CrAt.start (L : List AF) (ks ns : List Int) : CrAt L ks ns 0 0 [] := ⟨rfl, Nat.le_refl _, by simp⟩
theorem headD_drop (xs : List Int) (k : Nat) : (xs.drop k).headD 0 = xs.getD k 0 := by
  rw [List.headD_eq_head?_getD, List.head?_drop, List.getD_eq_getElem?_getD]
theorem CrAt.keep {L : List AF} {ks ns : List Int} {i k : Nat} {P : List AF} (h : CrAt L ks ns i k P) (hi : i < L.length) (hf : ¬ (L[i]'hi).synced < (L[i]'hi).data.length) : CrAt L ks ns (i + 1) k (P ++ [L[i]'hi]) := by
  refine ⟨by simp [h.len], by have := h.used; omega, ?_⟩
  rw [h.rest, List.drop_eq_getElem_cons hi, crL, if_neg hf]
  simp
theorem CrAt.turn {L : List AF} {ks ns : List Int} {i k : Nat} {P : List AF} (h : CrAt L ks ns i k P) (hi : i < L.length) (hf : (L[i]'hi).synced < (L[i]'hi).data.length) : CrAt L ks ns (i + 1) (k + 1) (P ++ [crF (L[i]'hi) (ks.getD k 0) (ns.getD k 0)]) := by
  refine ⟨by simp [h.len], by have := h.used; omega, ?_⟩
  rw [h.rest, List.drop_eq_getElem_cons hi, crL, if_pos hf, headD_drop, headD_drop]
  simp
theorem CrAt.done {L : List AF} {ks ns : List Int} {i k : Nat} {P : List AF} (h : CrAt L ks ns i k P) (hi : i = L.length) : crL L ks ns = P := by
  rw [h.rest, hi, List.drop_length, crL]
  simp
/-- The list as it lies there meanwhile. -/
theorem CrAt.get {L : List AF} {ks ns : List Int} {i k : Nat} {P : List AF} (h : CrAt L ks ns i k P) (hi : i < L.length) : ∃ hh : i < (P ++ L.drop i).length, (P ++ L.drop i)[i]'hh = L[i]'hi := by
  have hh : i < (P ++ L.drop i).length := by rw [List.length_append, h.len, List.length_drop]; omega
  refine ⟨hh, ?_⟩
  have : (P ++ L.drop i)[i]? = some (L[i]'hi) := by
    rw [List.getElem?_append_right (by rw [h.len]; exact Nat.le_refl _), h.len, Nat.sub_self, List.getElem?_drop, Nat.add_zero, List.getElem?_eq_getElem hi]
  rw [List.getElem?_eq_getElem hh] at this
  exact Option.some.inj this
theorem CrAt.set {L : List AF} {ks ns : List Int} {i k : Nat} {P : List AF} (h : CrAt L ks ns i k P) (hi : i < L.length) (x : AF) : (P ++ L.drop i).set i x = (P ++ [x]) ++ L.drop (i + 1) := by
  have h1 : (L.drop i).set 0 x = x :: L.drop (i + 1) := by rw [List.drop_eq_getElem_cons hi]; rfl
  rw [List.set_append_right _ _ (by rw [h.len]; exact Nat.le_refl _), h.len, Nat.sub_self, h1, List.append_assoc]
  rfl
theorem CrAt.same {L : List AF} {ks ns : List Int} {i k : Nat} {P : List AF} (h : CrAt L ks ns i k P) (hi : i < L.length) : P ++ L.drop i = (P ++ [L[i]'hi]) ++ L.drop (i + 1) := by
  rw [List.drop_eq_getElem_cons hi]
  simp
end Go.Proofs.Ytcinegkikahchaa
