/-
  LAYER 6 (net), PLAIN MATHEMATICS: what the laws say of nets as lists.
-/
import Derived.Test.YtclkhkoappjgdaaNtModel
namespace Go.Proofs.Ytclkhkoappjgdaa
open Go.RowKit
set_option linter.unusedVariables false
set_option maxRecDepth 100000

/-- What every net is. -/
structure NtOk (s : Nt) (most : Nat) : Prop where
  few : s.L.length ≤ 300
  lost : s.lost ≤ most
theorem send_len (s : Nt) (x : Lt) : (s.send x).L.length = min (s.L.length + 1) (if 300 ≤ s.L.length then s.L.length else s.L.length + 1) ∧ (s.send x).L.length + (s.send x).lost = s.L.length + s.lost + 1 := by
  unfold Nt.send
  split
  · rename_i h
    have := outL_len (L := s.L) (k := 0) (by omega)
    simp only [List.length_append, List.length_singleton, this]
    omega
  · rename_i h
    simp only [List.length_append, List.length_singleton]
    omega
theorem send_ok {s : Nt} {most : Nat} (h : NtOk s most) (x : Lt) : NtOk (s.send x) (most + 1) := by
  have hf := h.few
  have hl := h.lost
  unfold Nt.send
  split
  · rename_i hh
    have := outL_len (L := s.L) (k := 0) (by omega)
    exact ⟨by simp only [List.length_append, List.length_singleton, this]; omega, by simp only; omega⟩
  · rename_i hh
    exact ⟨by simp only [List.length_append, List.length_singleton]; omega, by simp only; omega⟩
theorem late_len {s : Nt} {n : Nat} (hn : n < s.L.length) (x : Lt) : (outL s.L n ++ [x]).length = s.L.length := by
  rw [List.length_append, outL_len hn, List.length_singleton]; omega
theorem takeN_ok {s : Nt} {most : Nat} (h : NtOk s most) (k : Int) : NtOk (takeN s k).1 most := by
  unfold takeN
  cases hk : ltAt s k with
  | none => exact h
  | some q =>
    obtain ⟨n, x⟩ := q
    obtain ⟨hn, _, _⟩ := ltAt_some hk
    simp only
    split
    · exact h
    · exact ⟨by show (outL s.L n).length ≤ 300; rw [outL_len hn]; have := h.few; omega, h.lost⟩
theorem actN_ok {s : Nt} {most : Nat} (h : NtOk s most) (a : Na) (G : List Int) : NtOk (actN s a G).1 (most + 1) := by
  have hf := h.few
  have hl := h.lost
  have hm : NtOk s (most + 1) := ⟨hf, by omega⟩
  unfold actN
  split
  · exact takeN_ok hm a.k
  split
  · unfold twiceN
    cases hk : ltAt s a.k with
    | none => exact hm
    | some q => exact send_ok h q.2
  split
  · unfold loseN
    cases hk : ltAt s a.k with
    | none => exact hm
    | some q =>
      obtain ⟨n, x⟩ := q
      obtain ⟨hn, _, _⟩ := ltAt_some hk
      exact ⟨by show (outL s.L n).length ≤ 300; rw [outL_len hn]; omega, by show s.lost + 1 ≤ _; omega⟩
  split
  · unfold lateN
    cases hk : ltAt s a.k with
    | none => exact hm
    | some q =>
      obtain ⟨n, x⟩ := q
      obtain ⟨hn, _, _⟩ := ltAt_some hk
      exact ⟨by show (outL s.L n ++ [x]).length ≤ 300; rw [late_len hn]; omega, by show s.lost ≤ _; omega⟩
  split
  · exact ⟨hf, by show s.lost ≤ _; omega⟩
  split
  · exact ⟨hf, by show s.lost ≤ _; omega⟩
  exact send_ok h _
/-- NetCounts: was one made, was one taken? -/
def madeN (o : Int) (b : Bool) : Nat := if o < 3 ∨ (o = 5 ∧ b = true) then 1 else 0
def tookN (o : Int) (b : Bool) : Nat := if (o = 3 ∨ o = 4) ∧ b = true then 1 else 0
theorem actN_counts (s : Nt) (a : Na) (G : List Int) : (actN s a G).1.L.length + (actN s a G).1.lost + tookN (pickZ a.op 10) (actN s a G).2.2 = s.L.length + s.lost + madeN (pickZ a.op 10) (actN s a G).2.2 := by
  have hr := pickZ_range a.op 10 (by omega)
  unfold actN tookN madeN
  generalize pickZ a.op 10 = o at *
  by_cases h34 : o = 3 ∨ o = 4
  · simp only [if_pos h34]
    unfold takeN
    cases hk : ltAt s a.k with
    | none => simp; omega
    | some q =>
      obtain ⟨n, x⟩ := q
      obtain ⟨hn, _, _⟩ := ltAt_some hk
      simp only
      split
      · simp; omega
      · have := outL_len hn
        simp only [Nt.out, this]
        rw [if_pos ⟨h34, trivial⟩, if_neg (by omega)]
        omega
  · simp only [if_neg h34]
    by_cases h5 : o = 5
    · subst h5
      simp only [if_true]
      unfold twiceN
      cases hk : ltAt s a.k with
      | none => simp
      | some q =>
        have := (send_len s q.2).2
        simp; omega
    · simp only [if_neg h5]
      by_cases h6 : o = 6
      · subst h6
        simp only [if_true]
        unfold loseN
        cases hk : ltAt s a.k with
        | none => simp
        | some q =>
          obtain ⟨n, x⟩ := q
          obtain ⟨hn, _, _⟩ := ltAt_some hk
          have := outL_len hn
          simp [Nt.out, this]; omega
      · simp only [if_neg h6]
        by_cases h7 : o = 7
        · subst h7
          simp only [if_true]
          unfold lateN
          cases hk : ltAt s a.k with
          | none => simp
          | some q =>
            obtain ⟨n, x⟩ := q
            obtain ⟨hn, _, _⟩ := ltAt_some hk
            have := late_len hn x
            simp only [this]
            simp
        · simp only [if_neg h7]
          by_cases h8 : o = 8
          · subst h8; simp
          · simp only [if_neg h8]
            by_cases h9 : o = 9
            · subst h9; simp
            · simp only [if_neg h9]
              have := (send_len s ⟨a.fr, a.to_, a.dt⟩).2
              rw [if_neg (by omega), if_pos (by omega)]
              omega
/-- NetSplits: who is apart from whom. -/
theorem apart_comm (s : Nt) (a b : Int) : s.apart a b = s.apart b a := by unfold Nt.apart; cases decide (a ∈ s.G) <;> cases decide (b ∈ s.G) <;> rfl
theorem apart_self (s : Nt) (a : Int) : s.apart a a = false := by unfold Nt.apart; cases decide (a ∈ s.G) <;> rfl
theorem apart_three (s : Nt) (a b c : Int) : s.apart a c = (s.apart a b != s.apart b c) := by unfold Nt.apart; cases decide (a ∈ s.G) <;> cases decide (b ∈ s.G) <;> cases decide (c ∈ s.G) <;> rfl
theorem apart_whole (s : Nt) (h : s.G = []) (a b : Int) : s.apart a b = false := by unfold Nt.apart; rw [h]; simp
/-- NetFull: k letters sent, one behind the other. -/
def sentN (f : Nat → Lt) : Nat → Nt
  | 0 => ⟨[], [], 0⟩
  | k + 1 => (sentN f k).send (f k)
theorem sentN_is (f : Nat → Lt) (k : Nat) : sentN f k = ⟨(List.range' (k - min k 300) (min k 300)).map f, [], k - 300⟩ := by
  induction k with
  | zero => rfl
  | succ k ih =>
    rw [sentN, ih]
    unfold Nt.send
    simp only [List.length_map, List.length_range']
    by_cases h : 300 ≤ k
    · rw [if_pos (by omega)]
      have h1 : min k 300 = 300 := by omega
      have h2 : min (k + 1) 300 = 300 := by omega
      rw [h1, h2]
      have h3 : outL ((List.range' (k - 300) 300).map f) 0 = (List.range' (k - 300 + 1) 299).map f := by
        unfold outL
        rw [List.take_zero, List.nil_append, ← List.map_drop, Nat.zero_add]
        congr 1
      rw [h3]
      have h4 : k + 1 - 300 = k - 300 + 1 := by omega
      have h5 : (List.range' (k - 300 + 1) 300).map f = (List.range' (k - 300 + 1) 299).map f ++ [f k] := by
        rw [show (300 : Nat) = 299 + 1 from rfl, List.range'_concat, List.map_append]
        congr 2
        simp
        congr 1
        omega
      rw [h4, h5]
    · rw [if_neg (by omega)]
      have h1 : min k 300 = k := by omega
      have h2 : min (k + 1) 300 = k + 1 := by omega
      rw [h1, h2, Nat.sub_self, Nat.sub_self, List.range'_concat, List.map_append]
      have h3 : k - 300 = 0 := by omega
      have h4 : k + 1 - 300 = 0 := by omega
      rw [h3, h4]
      simp
end Go.Proofs.Ytclkhkoappjgdaa
