/-
  GENERAL: rows of numbers that rise, from above b, to 9.
-/
import Derived.KernelRfl
namespace Go.Proofs.Ytcjhiegiccekpaa
/-- Rising from above b, to 9. -/
def risingF (b : Int) : List Int → Bool
  | [] => true
  | v :: r => decide (b < v) && decide (v ≤ 9) && risingF v r
theorem risingF_len : ∀ (l : List Int) (b : Int), risingF b l = true → b ≤ 9 → (l.length : Int) ≤ 9 - b ∧ ∀ v ∈ l, b < v ∧ v ≤ 9
  | [], b, h, hb => ⟨by simp; omega, by simp⟩
  | v :: r, b, h, hb => by
    unfold risingF at h
    simp only [Bool.and_eq_true, decide_eq_true_eq] at h
    obtain ⟨⟨h1, h2⟩, h3⟩ := h
    obtain ⟨h4, h5⟩ := risingF_len r v h3 h2
    refine ⟨by simp only [List.length_cons]; omega, fun x hx => ?_⟩
    rcases List.mem_cons.1 hx with e | e
    · subst e; exact ⟨h1, h2⟩
    · have := h5 x e; omega

/-! ### reading -/
end Go.Proofs.Ytcjhiegiccekpaa
