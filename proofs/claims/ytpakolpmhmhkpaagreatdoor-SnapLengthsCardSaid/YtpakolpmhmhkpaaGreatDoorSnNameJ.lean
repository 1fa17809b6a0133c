import Derived.Test.YtpakolpmhmhkpaaGreatDoorMq1J
import Derived.Test.YtpakolpmhmhkpaaGreatDoorMq2J
import Derived.Lib.AtoiTie
/-
  LAYER 4 (snap), plain mathematics: the name of a snapshot's file is read as its Index, and is a file's name (written by tools/gen4_files.py out of XWlName).
-/
namespace Go.Proofs.YtpakolpmhmhkpaaGreatDoor.Sn
open Go.RowKit Go.Lib
set_option linter.unusedVariables false
set_option maxRecDepth 100000

theorem digitVal_of {d : Nat} (h : d < 10) : digitVal (UInt8.ofNat (48 + d)) = some d := by
  have e : (UInt8.ofNat (48 + d)).toNat = 48 + d := by rw [UInt8.toNat_ofNat']; exact Nat.mod_eq_of_lt (by omega)
  unfold digitVal
  rw [e, if_pos (by omega)]
  congr 1
  omega
theorem decFrom_append : ∀ (l m : List UInt8) (acc n : Nat), decFrom acc l = some n → decFrom acc (l ++ m) = decFrom n m
  | [], m, acc, n, h => by simp only [decFrom, Option.some.injEq] at h; subst h; rfl
  | a :: t, m, acc, n, h => by
    simp only [decFrom, List.cons_append] at h ⊢
    cases ha : digitVal a with
    | none => simp [ha] at h
    | some e =>
      simp only [ha] at h ⊢
      exact decFrom_append t m _ n h
theorem decFrom_digits (u : Nat) : decFrom 0 (decDigits u) = some u := by
  induction u using Nat.strongRecOn with
  | _ u ih =>
    by_cases h : u < 10
    · rw [decDigits, dif_pos h]
      simp only [decFrom, digitVal_of h]
      simp
    · rw [decDigits, dif_neg h, decFrom_append _ _ _ _ (ih (u / 10) (by omega))]
      simp only [decFrom, digitVal_of (Nat.mod_lt u (by omega : 0 < 10))]
      congr 1
      omega
theorem decDigits_mem {u : Nat} {c : UInt8} (h : c ∈ decDigits u) : 48 ≤ c.toNat ∧ c.toNat ≤ 57 := by
  obtain ⟨k, hk, rfl⟩ := List.getElem_of_mem h
  obtain ⟨d, hd⟩ := digit_of_decFrom _ _ _ (decFrom_digits u) k _ (List.getElem?_eq_getElem hk)
  have := digitVal_eq hd
  omega
theorem decDigits_ne (u : Nat) : decDigits u ≠ [] := by
  intro h
  have := decDigits_length u
  rw [h] at this
  have := nDigits_pos u
  simp at *
  omega
theorem itoa_nat (n : Nat) : itoa (n : Int) = decDigits n := by
  unfold itoa
  rw [if_neg (by omega), Int.toNat_natCast]
theorem atoi_itoa (n : Nat) : atoi (decDigits n) = some (n : Int) := by
  cases hl : decDigits n with
  | nil => exact absurd hl (decDigits_ne n)
  | cons b r =>
    have hb := decDigits_mem (u := n) (c := b) (by rw [hl]; simp)
    have hd := decFrom_digits n
    rw [hl] at hd
    have h1 : (b == 45) = false := by rw [beq_eq_false_iff_ne]; intro e; rw [e] at hb; exact absurd hb.1 (by decide)
    have h2 : (b == 43) = false := by rw [beq_eq_false_iff_ne]; intro e; rw [e] at hb; exact absurd hb.1 (by decide)
    simp only [atoi, h1, h2, decNat, hd]
    simp
theorem decDigits_short {n : Nat} (h : n ≤ 1099511627776) : (decDigits n).length ≤ 13 := by
  rw [decDigits_length]
  rcases Nat.lt_or_ge 13 (nDigits n) with h6 | h6
  · exfalso
    have key : ∀ k u : Nat, k < nDigits u → 10 ^ k ≤ u ∨ k = 0 := by
      intro k
      induction k with
      | zero => intro u _; exact .inr rfl
      | succ k ih =>
        intro u hu
        by_cases hs : u < 10
        · rw [nDigits_small hs] at hu; omega
        · rw [nDigits_big hs] at hu
          rcases ih (u / 10) (by omega) with h1 | h1
          · left
            rw [Nat.pow_succ]; omega
          · left
            rw [h1]; omega
    rcases key 13 n h6 with h1 | h1
    · have : (10 : Nat) ^ 13 = 10000000000000 := by decide
      omega
    · omega
  · exact h6
theorem atoiAll_itoa {n : Nat} (h : n ≤ 1099511627776) : atoiAll (decDigits n) = .ok (n : Int) := by
  rw [atoiAll_short _ (by have := decDigits_short h; omega), atoi_itoa]
  rfl
theorem segN_nat (n : Nat) : segN (n : Int) = 112 :: decDigits n := by unfold segN; rw [itoa_nat]
theorem segV_segN {n : Nat} (h1 : 1 ≤ n) (h2 : n ≤ 1099511627776) : segV (segN (n : Int)) = n := by
  rw [segN_nat, segV_cons, atoiAll_itoa h2]
  simp only
  rw [if_pos ⟨by omega, by omega, (segN_nat n).symm⟩, Int.toNat_natCast]
theorem isName_segN {n : Nat} (h : n ≤ 1099511627776) : isName (segN (n : Int)) = true := by
  rw [segN_nat]
  have hl := decDigits_short h
  unfold isName
  simp only [List.length_cons, Bool.and_eq_true, decide_eq_true_eq, List.all_eq_true]
  refine ⟨by omega, fun c hc => ?_⟩
  rcases List.mem_cons.1 hc with rfl | hc
  · decide
  · have := decDigits_mem hc
    unfold nameByte
    rw [decide_eq_true_eq]
    right
    omega
/-- A name that is a segment's is what its number is written as. -/
theorem segV_name {l : List UInt8} (h : segV l ≠ 0) : l = segN (segV l : Int) ∧ 1 ≤ segV l ∧ segV l ≤ 999999999999999999 := by
  have hle := segV_le l
  refine ⟨?_, by omega, hle⟩
  cases l with
  | nil => exact absurd segV_nil h
  | cons c r =>
    have e := segV_cons c r
    cases ha : atoiAll r with
    | ok v =>
      rw [ha] at e
      simp only at e
      by_cases hc : 1 ≤ v ∧ v ≤ 999999999999999999 ∧ c :: r = segN v
      · rw [if_pos hc] at e
        rw [e, show ((v.toNat : Nat) : Int) = v by omega]
        exact hc.2.2
      · rw [if_neg hc] at e; exact absurd e h
    | _ => rw [ha] at e; exact absurd e h
end Go.Proofs.YtpakolpmhmhkpaaGreatDoor.Sn

