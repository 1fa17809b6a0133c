/-
  LAYER 11 (xml), THE PROGRAM: begins, continues, the reader's name.
-/
import Derived.Test.YtbiiaepmemdlgaaDoorXmMa
namespace Go.Proofs.YtbiiaepmemdlgaaDoor
open Go.RowKit
set_option linter.unusedVariables false
set_option maxRecDepth 100000

theorem begX_nat (c : UInt8) : begX c = decide ((65 ≤ c.toNat ∧ c.toNat ≤ 90) ∨ (97 ≤ c.toNat ∧ c.toNat ≤ 122) ∨ c.toNat = 95 ∨ c.toNat = 58 ∨ 128 ≤ c.toNat) := by
  rw [Bool.eq_iff_iff]
  simp [begX, UInt8.le_iff_toNat_le, ← UInt8.toNat_inj]
  omega
theorem conX_nat (c : UInt8) : conX c = decide ((48 ≤ c.toNat ∧ c.toNat ≤ 57) ∨ c.toNat = 46 ∨ c.toNat = 45) := by
  rw [Bool.eq_iff_iff]
  simp [conX, digX, UInt8.le_iff_toNat_le, ← UInt8.toNat_inj]
  omega
theorem ret_bool {a b : Bool} (h : a = b) : Ending.returned (.bool a) = .returned (.bool b) := by rw [h]
set_option maxHeartbeats 4000000 in
theorem begins_any (c : UInt8) (w : World) : Calls Tryd.prog 48 #[.int .u8 (c.toNat : Nat)] w fun e w' => e = .returned (.bool (begX c)) ∧ w = w' := by
  rw [begX_nat]
  have hc : c.toNat < 256 := c.toNat_lt
  generalize c.toNat = n at *
  go_enter Tryd.func48, Tryd.ntmps48
  go_wp2
  all_goals (go_ret; exact ⟨ret_bool (by rw [Bool.eq_iff_iff]; simp; omega), rfl⟩)
set_option maxHeartbeats 4000000 in
theorem continues_any (c : UInt8) (w : World) : Calls Tryd.prog 49 #[.int .u8 (c.toNat : Nat)] w fun e w' => e = .returned (.bool (conX c)) ∧ w = w' := by
  rw [conX_nat]
  have hc : c.toNat < 256 := c.toNat_lt
  generalize c.toNat = n at *
  go_enter Tryd.func49, Tryd.ntmps49
  go_wp2
  all_goals (go_ret; exact ⟨ret_bool (by rw [Bool.eq_iff_iff]; simp; omega), rfl⟩)

theorem name_lt {s : List UInt8} {k : Nat} (h : k < (nameX s).1.length) : ∃ c, s[k]? = some c ∧ (begX c = true ∨ (begX c = false ∧ 0 < k ∧ conX c = true)) := by
  have he := nameX_eq s
  have hk : s[k]? = (nameX s).1[k]? := by rw [← he, List.getElem?_append_left h, he]
  refine ⟨(nameX s).1[k], by rw [hk]; simp, ?_⟩
  have hne : (nameX s).1 ≠ [] := fun e => by rw [e] at h; simp at h
  have hm := nameX_ok hne
  obtain ⟨c, r, hcr, hc, hr⟩ := nmOk_parts hm
  cases k with
  | zero => left; simp [hcr, hc]
  | succ k =>
    have hx : (nameX s).1[k + 1] ∈ r := by
      have : (nameX s).1[k + 1] = r[k]'(by rw [hcr] at h; simpa using h) := by simp [hcr]
      rw [this]; exact List.getElem_mem _
    have := hr _ hx
    unfold nmc at this
    cases hb : begX (nameX s).1[k + 1] with
    | true => left; rfl
    | false =>
      right
      rw [hb] at this
      exact ⟨rfl, by omega, by simpa using this⟩
theorem dropW_head {p : UInt8 → Bool} : ∀ {l : List UInt8} {c : UInt8} {r : List UInt8}, l.dropWhile p = c :: r → p c = false
  | [], c, r, h => by cases h
  | x :: l, c, r, h => by
    by_cases hx : p x = true
    · rw [List.dropWhile_cons_of_pos hx] at h; exact dropW_head h
    · rw [List.dropWhile_cons_of_neg hx] at h
      cases h; simpa using hx
theorem name_end {s : List UInt8} {c : UInt8} (h : s[(nameX s).1.length]? = some c) : begX c = false ∧ (0 < (nameX s).1.length → conX c = false) := by
  have he := nameX_eq s
  have hk : (nameX s).2[0]? = some c := by
    rw [← h]
    conv => rhs; rw [← he]
    rw [List.getElem?_append_right (by rw [he]; exact Nat.le_refl _)]
    simp [he]
  cases s with
  | nil => simp [nameX] at hk
  | cons x r =>
    unfold nameX at hk ⊢
    by_cases hx : begX x = true
    · simp only [hx, if_true] at hk ⊢
      cases hd : r.dropWhile nmc with
      | nil => rw [hd] at hk; cases hk
      | cons y ys =>
        rw [hd] at hk
        simp at hk
        subst hk
        have := dropW_head hd
        unfold nmc at this
        simp at this
        exact ⟨this.1, fun _ => this.2⟩
    · simp only [hx] at hk ⊢
      simp at hk ⊢
      subst hk
      simpa using hx
theorem name_take (s : List UInt8) : s.take (nameX s).1.length = (nameX s).1 ∧ s.drop (nameX s).1.length = (nameX s).2 := by
  have he := nameX_eq s
  constructor
  · conv => lhs; rw [← he]
    rw [he, ← he]
    simp [he]
    have := List.take_left (l₁ := (nameX s).1) (l₂ := (nameX s).2)
    rw [he] at this; exact this
  · have := List.drop_left (l₁ := (nameX s).1) (l₂ := (nameX s).2)
    rw [he] at this; exact this
end Go.Proofs.YtbiiaepmemdlgaaDoor
