/-
  LAYER 11 (xml), THE DOCUMENT's: Read.
-/
import Derived.Test.YtaefdknaidbplaaGreatDoorXmRb
namespace Go.Proofs.YtaefdknaidbplaaGreatDoor
open Go.RowKit
set_option linter.unusedVariables false
set_option maxRecDepth 100000

/-- What is read in the end, of tokens and words so far and of the parts that follow. -/
def finX (L : List TkX) (t : List UInt8) (p : List PtX × Option (List UInt8)) (n : Nat) : List TkX × Int × Int := match p.2 with
  | none => (L ++ tokX t p.1, 0, 0)
  | some r => ([], 8, ((n - r.length : Nat) : Int))
theorem readR_fin {s : List UInt8} (h : s.length ≤ 20000) : readR s = finX [] [] (partsX s) s.length := by
  unfold readR finX readX
  rw [if_neg (by omega)]
  cases (partsX s).2 with
  | none => simp
  | some r => rfl
theorem fin_bad {L : List TkX} {t : List UInt8} {p : List PtX × Option (List UInt8)} {n : Nat} {r : List UInt8} (h : p.2 = some r) : finX L t p n = ([], 8, ((n - r.length : Nat) : Int)) := by unfold finX; rw [h]
theorem fin_nil {L : List TkX} {t : List UInt8} {n : Nat} : finX L t (partsX []) n = (L ++ endW t, 0, 0) := rfl
theorem fin_txt {L : List TkX} {t : List UInt8} {d u : List UInt8} {r : List UInt8} {n : Nat} (h : partX d = some (.txt u, r)) : finX L t (partsX d) n = finX L (t ++ u) (partsX r) n := by
  unfold finX
  rw [partsX_some h]
  rfl
theorem fin_tags {L : List TkX} {t : List UInt8} {d : List UInt8} {T : List TkX} {r : List UInt8} {n : Nat} (h : partX d = some (.tags T, r)) : finX L t (partsX d) n = finX (L ++ endW t ++ T) [] (partsX r) n := by
  unfold finX
  rw [partsX_some h]
  simp only
  cases (partsX r).2 with
  | some r => rfl
  | none =>
    simp only
    show (L ++ (endW t ++ T ++ tokX [] (partsX r).1), _, _) = _
    simp
theorem fin_said {L : List TkX} {t : List UInt8} {l d : List UInt8} {n : Nat} (h60 : (60 : UInt8) ∉ l) (hd : Tagd d) (hs : (saidE l).2 = none) : finX L t (partsX (l ++ d)) n = finX L (t ++ (saidE l).1) (partsX d) n := by
  obtain ⟨h1, h2⟩ := (parts_said d hd l.length l (Nat.le_refl _) h60).2 hs
  unfold finX
  rw [h1]
  cases (partsX d).2 with
  | some r => rfl
  | none => simp only; rw [h2]
theorem fin_said_bad {L : List TkX} {t : List UInt8} {l d bad : List UInt8} {n : Nat} (h60 : (60 : UInt8) ∉ l) (hd : Tagd d) (hs : (saidE l).2 = some bad) : finX L t (partsX (l ++ d)) n = ([], 8, ((n - (bad ++ d).length : Nat) : Int)) :=
  fin_bad ((parts_said d hd l.length l (Nat.le_refl _) h60).1 bad hs)
theorem saidE_len : ∀ (n : Nat) (l : List UInt8), l.length ≤ n → (saidE l).1.length ≤ 4 * l.length ∧ ∀ bad, (saidE l).2 = some bad → bad.length ≤ l.length ∧ bad ≠ []
  | _, [], _ => by rw [saidE_nil]; exact ⟨by simp, fun bad h => by cases h⟩
  | 0, c :: r, h => by simp at h
  | n + 1, c :: r, h => by
    simp only [List.length_cons] at h
    by_cases hc : c = 38
    · subst hc
      cases hr : refX r with
      | none =>
        rw [saidE_bad hr]
        refine ⟨by simp, fun bad hb => ?_⟩
        cases hb
        simp
      | some x =>
        obtain ⟨t, q⟩ := x
        have hl := refX_lt hr
        have ht := refX_le hr
        rw [saidE_ref hr]
        obtain ⟨i1, i2⟩ := saidE_len n q (by omega)
        refine ⟨by simp only [List.length_append, List.length_cons]; omega, fun bad hb => ?_⟩
        obtain ⟨j1, j2⟩ := i2 bad hb
        exact ⟨by simp only [List.length_cons]; omega, j2⟩
    · rw [saidE_chr hc]
      obtain ⟨i1, i2⟩ := saidE_len n r (by omega)
      refine ⟨by simp only [List.length_cons]; omega, fun bad hb => ?_⟩
      obtain ⟨j1, j2⟩ := i2 bad hb
      exact ⟨by simp only [List.length_cons]; omega, j2⟩
theorem upTo_first_free {c : UInt8} : ∀ {l a b : List UInt8}, upTo [c] l = some (a, b) → c ∉ a
  | [], _, _, h => by simp [upTo] at h
  | d :: r, a, b, h => by
    unfold upTo at h
    split at h
    · cases h; simp
    · rename_i hp
      obtain ⟨⟨a', b'⟩, h1, h2⟩ := Option.map_eq_some_iff.1 h
      cases h2
      have hn : ¬ c = d := fun e => hp (by rw [e]; simp [List.isPrefixOf])
      have := upTo_first_free h1
      intro k
      rcases List.mem_cons.1 k with e | e
      · exact hn e
      · exact this e
/-- The text up to the next tag. -/
theorem chunk_at {d : List UInt8} {c : UInt8} {r : List UInt8} (hd : d = c :: r) (hc : ¬ c = 60) : ∃ l d', d = l ++ d' ∧ (60 : UInt8) ∉ l ∧ Tagd d' ∧ 0 < l.length ∧ ((upTo [60] d = none ∧ d' = []) ∨ ∃ y, upTo [60] d = some (l, y) ∧ d' = 60 :: y) := by
  cases hu : upTo [60] d with
  | none =>
    refine ⟨d, [], by simp, fun h => ?_, .inl rfl, by rw [hd]; simp, .inl ⟨rfl, rfl⟩⟩
    obtain ⟨x, hx⟩ := upTo_mem h
    rw [hx] at hu; cases hu
  | some x =>
    obtain ⟨x, y⟩ := x
    have h1 := (upTo_lt hu).2
    refine ⟨x, 60 :: y, by rw [h1]; simp, upTo_first_free hu, .inr ⟨y, rfl⟩, ?_, .inr ⟨y, rfl, rfl⟩⟩
    cases x with
    | nil => rw [hd] at h1; simp at h1; exact absurd h1.1 hc
    | cons a b => simp
end Go.Proofs.YtaefdknaidbplaaGreatDoor
