import Derived.Test.YtjoeamlidmmioaaGreatDoorMq5J
import Derived.Test.YtjoeamlidmmioaaGreatDoorMq7J
/-
  LAYER 11 (xml), plain mathematics: what is written is no shorter than what is told; what Read answers, by cases.
-/
namespace Go.Proofs.YtjoeamlidmmioaaGreatDoor
open Go.RowKit
set_option linter.unusedVariables false
set_option maxRecDepth 100000

theorem escX_ge (l : List UInt8) : l.length ≤ (escX l).length := by
  induction l with
  | nil => simp
  | cons c r ih =>
    rw [escX_cons, List.length_append, List.length_cons]
    have : 1 ≤ (escB c).length := by
      unfold escB
      split
      · simp
      · split
        · simp
        · split
          · simp
          · split
            · simp
            · split <;> simp
    omega
theorem wAt_is (a : AtX) : wAt a = [32] ++ a.n ++ [61, 34] ++ escX a.v ++ [34] := by simp [wAt]
theorem wTk_1 {t : TkX} (h : t.k = 1) : wTk t = [60] ++ t.n ++ t.as.flatMap wAt ++ [62] := by unfold wTk; rw [if_pos h]; simp
theorem wTk_2 {t : TkX} (h : t.k = 2) : wTk t = [60, 47] ++ t.n ++ [62] := by unfold wTk; rw [if_neg (by omega), if_pos h]
theorem wTk_3 {t : TkX} (h : t.k = 3) : wTk t = escX t.t := by unfold wTk; rw [if_neg (by omega), if_neg (by omega), if_pos h]
theorem wTk_no {t : TkX} (h1 : t.k ≠ 1) (h2 : t.k ≠ 2) (h3 : t.k ≠ 3) : wTk t = [] := by unfold wTk; rw [if_neg h1, if_neg h2, if_neg h3]
theorem readR_bad {l : List UInt8} (hl : l.length ≤ 20000) {n : Nat} (h : readX l = (none, n)) (q : Int) (hq : (n : Int) = q) : readR l = ([], 8, q) := by
  subst hq
  unfold readR; rw [if_neg (by omega), h]
theorem readR_cases {l : List UInt8} (hl : l.length ≤ 20000) : (∃ L n, readX l = (some L, n) ∧ readR l = (L, 0, 0)) ∨ ∃ n : Nat, readX l = (none, n) ∧ readR l = ([], 8, (n : Int)) := by
  rcases h : readX l with ⟨o, n⟩
  cases o with
  | some L => exact .inl ⟨L, n, rfl, readR_of hl h⟩
  | none => exact .inr ⟨n, rfl, readR_bad hl h _ rfl⟩
theorem mem_write {t : TkX} : ∀ {L : List TkX}, t ∈ L → (wTk t).length ≤ (writeX L).length
  | x :: r, h => by
    rw [write_cons, List.length_append]
    rcases List.mem_cons.1 h with e | e
    · subst e; omega
    · have := mem_write e; omega
theorem wAts_ge : ∀ A : List AtX, A.length ≤ (A.flatMap wAt).length
  | [] => by simp
  | a :: r => by
    have := wAts_ge r
    rw [List.flatMap_cons, List.length_append, List.length_cons, wAt_is]
    simp only [List.length_append, List.length_cons, List.length_nil]
    omega
/-- Tokens that were read have no more attributes than they are written with. -/
theorem read_ats {s : List UInt8} {L : List TkX} {n : Nat} (h : readX s = (some L, n)) {t : TkX} (ht : t ∈ L) : t.as.length ≤ (writeX L).length := by
  have h1 := mem_write ht
  rcases (read_ok h).1 t ht with ⟨h, k⟩ | ⟨h, k⟩ | ⟨h, k⟩
  · rw [wTk_1 h] at h1
    have := wAts_ge t.as
    simp only [List.length_append, List.length_cons, List.length_nil] at h1
    omega
  · rw [k.2.1]; simp
  · rw [k.2.1]; simp
theorem write_ge : ∀ L : List TkX, (∀ t ∈ L, TkOk t) → L.length ≤ (writeX L).length
  | [], _ => by simp
  | t :: r, h => by
    have h1 := write_ge r (fun x hx => h x (List.mem_cons_of_mem t hx))
    have h2 : 1 ≤ (wTk t).length := by
      rcases h t (List.mem_cons_self ..) with ⟨k, _⟩ | ⟨k, _⟩ | ⟨k, _, _, q⟩
      · rw [wTk_1 k]; simp only [List.length_append, List.length_cons, List.length_nil]; omega
      · rw [wTk_2 k]; simp only [List.length_append, List.length_cons, List.length_nil]; omega
      · rw [wTk_3 k]
        have := escX_ge t.t
        have h0 : t.t.length ≠ 0 := by simpa using q
        omega
    rw [write_cons, List.length_append, List.length_cons]
    omega
theorem read_few' {s : List UInt8} {L : List TkX} {n : Nat} (h : readX s = (some L, n)) : L.length ≤ (writeX L).length := write_ge L (read_ok h).1
end Go.Proofs.YtjoeamlidmmioaaGreatDoor

